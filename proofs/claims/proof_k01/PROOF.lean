import PyProof.Rows.All
import Wide.All
import OpenK.AllK
import Wide.FinOn
import HandS.Dict
import KE.KeyNested
import HandS.ForMost
import HandS.Star
import HandS.SortInts
import HandS.Wide
import HandS.Evl
import HandS.IsInst
import HandS.Deep
import HandS.TupAny
import KE.DataFind
import HandS.Defaults
import HandS.CallSlots
import HandS.WordsExc
import HandS.Gcd
import HandS.SetFor
import HandS.Strs
import KE.KMathGC
import KE.DataMinMax
import HandS.Style
import KE.GoesEnum
import HandS.Iter
import KE.KDictList
import KE.GoesZip
import KE.KDictZip
import HandS.Codes
import HandS.Words
import HandS.HeadEnd
import HandS.ExcInit
import HandS.ExcField
import PyProof.DictMoreH
import KE.KDictWalk
import PyProof.ReprRoads
import PyProof.CallFns
import HandS.TryMany
import HandS.NoneIn
import PyProof.SeqIndex
import HandS.Ends
import HandS.HeadHook1
import HandS.HeadHook2
import HandS.SortOrd
import KE.KStateDown
import HandS.Base
import HandS.Call
import HandS.More
import HandS.Head0
import HandS.Head1
import HandS.Head2
import KE.HD3
import PySem.Challenge.RW_oneforone_k01_bags
set_option Elab.async false
set_option linter.all false
set_option maxRecDepth 100000
set_option maxHeartbeats 4000000
/-! Y0: dicts whose keys are tuples of any depth: what the heap holds. -/
namespace Z
open PySem PySem.Spec PyProof.Rows L2
abbrev NT : List (NestedKey × Addr × V) → List (NestedKey × Addr × Value) → Prop := Paired fun p q => p.1 = q.1 ∧ p.2.1 = q.2.1 ∧ RelV p.2.2 q.2.2
def NdAt (wd : World) (a : Addr) (kvs : List (NestedKey × Addr × V)) (h : Heap) : Prop :=
  kvs.length ≤ sizeLine ∧ (a == sysModules) = false ∧ ∃ xs, NT kvs xs ∧ ∃ o es ep, h.get? a = some o ∧ o.ExactDict ∧ o.data = .dict es ep ∧ es.toList = xs.map (fun x => (⟨x.1.hash wd, .ref x.2.1, x.2.2⟩ : DictEntry)) ∧ (xs.map (·.1)).Nodup
def ndHO (wd : World) (a : Addr) (kvs : List (NestedKey × Addr × V)) : HO := .ext (NdAt wd a kvs)
/-- the keys, and the things at their addresses and at them -/
def refA : V → Addr
  | .ref a => a
  | _ => 0
def dnz (ks : List NestedKey) (vs : List V) : List (NestedKey × Addr × V) := ks.zip (((vs.take ks.length).map refA).zip (vs.drop ks.length))
end Z

set_option Elab.async false
set_option linter.all false
set_option maxRecDepth 100000
set_option maxHeartbeats 4000000
/-! ZA: data as trees with owners; what a heap must hold for them; the state of a def. -/
namespace Z
open PySem PySem.Spec PyProof.Rows L2

/-- the sort of a node; o: owned (it may be changed by whoever holds it), else it stays as it is for ever -/
inductive Tag where
  | tup | tux | scr | lst (o : Bool) | dk (o : Bool) (ks : List Key) | dt (o : Bool) (ks : List (List Key)) | dn (o : Bool) (ks : List NestedKey) | ins (o : Bool) (c : Str) (ns : List Str)
  deriving DecidableEq
/-- data; any: no claim -/
inductive D where
  | any | non | bl (b : Bool) | int (i : Int) | str (s : Str) | node (t : Tag) (xs : List D)

def Tag.own : Tag → Bool
  | .tup => false
  | .tux => false
  | .scr => false
  | .lst o => o
  | .dk o _ => o
  | .dt o _ => o
  | .dn o _ => o
  | .ins o _ _ => o
def Tag.frz : Tag → Tag
  | .tup => .tup
  | .tux => .tux
  | .scr => .scr
  | .lst _ => .lst false
  | .dk _ ks => .dk false ks
  | .dt _ ks => .dt false ks
  | .dn _ ks => .dn false ks
  | .ins _ c ns => .ins false c ns
mutual
def D.frz : D → D
  | .node t xs => .node t.frz (frzL xs)
  | d => d
def frzL : List D → List D
  | [] => []
  | d :: ds => d.frz :: frzL ds
end
theorem frzL_eq : ∀ xs : List D, frzL xs = xs.map D.frz
  | [] => rfl
  | d :: ds => by rw [frzL, frzL_eq ds]; rfl

/-- the world of a law: K the written part, cA: where a class stands -/
structure Wd where
  K : PySem.W.Frag
  wd : World
  cA : Str → Addr
  /-- what is locked: dicts that are gone through -/
  lk : Hp
  /-- what is set aside: lists that are gone through -/
  fk : Hp

/-- a tuple that is known to have no dict of its own -/
def Tux (H : Hp) (a : Addr) (vs : List V) : Prop := ∃ od : Obj, H a = some (.frz od (.tup vs)) ∧ od.dict = none
theorem Tux.sqt {K : PySem.W.Frag} {H : Hp} {a : Addr} {vs : List V} (h : Tux H a vs) : SqT K H a vs := let ⟨od, h, _⟩ := h; Or.inl (Or.inr ⟨od, h⟩)
/-- an owned node's object -/
def OwnAt (w : Wd) (H : Hp) (a : Addr) : Tag → List V → Prop
  | .tup, vs => H a = some (.tup vs)
  | .tux, vs => Tux H a vs
  | .scr, vs => H a = some (.lst vs)
  | .lst _, vs => H a = some (.lst vs)
  | .dk _ ks, vs => H a = some (.dK (ks.zip vs))
  | .dt _ ks, vs => H a = some (.dT (ks.zip vs))
  | .dn _ ks, vs => H a = some (ndHO w.wd a (dnz ks vs))
  | .ins _ c ns, vs => ∃ dx, H a = some (.ins (w.cA c) dx (ns.zip vs))
/-- a frozen node's object, in the part that stays -/
def FroAt (w : Wd) (I : Hp) (a : Addr) : Tag → List V → Prop
  | .tup, vs => I a = some (.tup vs)
  | .tux, vs => Tux I a vs
  | .scr, vs => SqL w.K I a vs
  | .lst _, vs => I a = some (.lst vs)
  | .dk _ ks, vs => Rd I a (.dK (ks.zip vs))
  | .dt _ ks, vs => Rd I a (.dT (ks.zip vs))
  | .dn _ ks, vs => Rd I a (ndHO w.wd a (dnz ks vs))
  | .ins _ c ns, vs => ∃ dx, I a = some (.ins (w.cA c) dx (ns.zip vs))
/-- as many children as the tag names -/
def Tag.fits : Tag → Nat → Prop
  | .tup, _ => True
  | .tux, _ => True
  | .scr, _ => True
  | .lst _, _ => True
  | .dk _ ks, n => ks.length = n
  | .dt _ ks, n => ks.length = n
  | .dn _ ks, n => ks.length + ks.length = n
  | .ins _ _ ns, n => ns.length = n

mutual
/-- v stands for d; fp: the addresses of its owned nodes -/
def Rep (w : Wd) (I H : Hp) : D → V → List Addr → Prop
  | .any, _, fp => fp = []
  | .non, v, fp => v = .non ∧ fp = []
  | .bl b, v, fp => v = .bl b ∧ fp = []
  | .int i, v, fp => v = .int i ∧ fp = []
  | .str s, v, fp => v = .str s ∧ fp = []
  | .node t xs, v, fp => ∃ a vs fp', v = .ref a ∧ RepL w I H xs vs fp' ∧ t.fits vs.length ∧
      ((t.own = true ∧ OwnAt w H a t vs ∧ fp = a :: fp') ∨ (t.own = false ∧ FroAt w I a t vs ∧ fp = fp'))
def RepL (w : Wd) (I H : Hp) : List D → List V → List Addr → Prop
  | [], vs, fp => vs = [] ∧ fp = []
  | d :: ds, vs, fp => ∃ v us f1 f2, vs = v :: us ∧ fp = f1 ++ f2 ∧ Rep w I H d v f1 ∧ RepL w I H ds us f2
end

def Le (I J : Hp) : Prop := ∀ a o, I a = some o → J a = some o
theorem Le.refl (I : Hp) : Le I I := fun _ _ h => h
theorem Le.trans {I J L : Hp} (x : Le I J) (y : Le J L) : Le I L := fun a o h => y a o (x a o h)
theorem Le.new {H : Hp} {p : Addr} {o : HO} (h : H p = none) : Le H (upd H p o) := fun a u e => by
  rw [upd_ne (ne_of_none e h)]
  exact e
theorem le_rd {I J : Hp} {a : Addr} {u : HO} (e : Le I J) (h : Rd I a u) : Rd J a u := by
  rcases h with h | ⟨o, h⟩
  · exact Or.inl (e a _ h)
  · exact Or.inr ⟨o, e a _ h⟩
theorem le_l {K : PySem.W.Frag} {I J : Hp} {a : Addr} {xs : List V} (e : Le I J) (h : SqL K I a xs) : SqL K J a xs := by
  rcases h with h | h
  · exact Or.inl (le_rd e h)
  · exact Or.inr h
theorem le_t {K : PySem.W.Frag} {I J : Hp} {a : Addr} {xs : List V} (e : Le I J) (h : SqT K I a xs) : SqT K J a xs := by
  rcases h with h | h
  · exact Or.inl (le_rd e h)
  · exact Or.inr h
theorem FroAt.mono {w : Wd} {I J : Hp} {a : Addr} {t : Tag} {vs : List V} (e : Le I J) (h : FroAt w I a t vs) : FroAt w J a t vs := by
  cases t with
  | tup => exact e a _ h
  | tux => obtain ⟨od, h, n⟩ := h; exact ⟨od, e a _ h, n⟩
  | scr => exact le_l e h
  | lst o => exact e a _ h
  | dk o ks => exact le_rd e h
  | dt o ks => exact le_rd e h
  | dn o ks => exact le_rd e h
  | ins o c ns => obtain ⟨dx, h⟩ := h; exact ⟨dx, e a _ h⟩
theorem OwnAt.at {w : Wd} {H J : Hp} {a : Addr} {t : Tag} {vs : List V} (h : OwnAt w H a t vs) (e : J a = H a) : OwnAt w J a t vs := by
  cases t with
  | tup => exact e.trans h
  | tux => obtain ⟨od, h, n⟩ := h; exact ⟨od, e.trans h, n⟩
  | scr => exact e.trans h
  | lst o => exact e.trans h
  | dk o ks => exact e.trans h
  | dt o ks => exact e.trans h
  | dn o ks => exact e.trans h
  | ins o c ns => obtain ⟨dx, h⟩ := h; exact ⟨dx, e.trans h⟩
theorem OwnAt.some {w : Wd} {H : Hp} {a : Addr} {t : Tag} {vs : List V} (h : OwnAt w H a t vs) : ∃ o, H a = some o := by
  cases t with
  | tup => exact ⟨_, h⟩
  | tux => obtain ⟨od, h, n⟩ := h; exact ⟨_, h⟩
  | scr => exact ⟨_, h⟩
  | lst o => exact ⟨_, h⟩
  | dk o ks => exact ⟨_, h⟩
  | dt o ks => exact ⟨_, h⟩
  | dn o ks => exact ⟨_, h⟩
  | ins o c ns => obtain ⟨dx, h⟩ := h; exact ⟨_, h⟩
/-- an owned object becomes one of those that stay -/
theorem OwnAt.fro {w : Wd} {H : Hp} {a : Addr} {t : Tag} {vs : List V} (h : OwnAt w H a t vs) : FroAt w H a t.frz vs := by
  cases t with
  | tup => exact h
  | tux => exact h
  | scr => exact Or.inl (Or.inl h)
  | lst o => exact h
  | dk o ks => exact .inl h
  | dt o ks => exact .inl h
  | dn o ks => exact .inl h
  | ins o c ns => exact h
theorem FroAt.frz {w : Wd} {H : Hp} {a : Addr} {t : Tag} {vs : List V} (h : FroAt w H a t vs) : FroAt w H a t.frz vs := by
  cases t <;> exact h
theorem Tag.fits_frz {t : Tag} {n : Nat} (h : t.fits n) : t.frz.fits n := by cases t <;> exact h
theorem Tag.own_frz (t : Tag) : t.frz.own = false := by cases t <;> rfl

mutual
theorem Rep.frame {w : Wd} {I J H H' : Hp} (e : Le I J) : ∀ (d : D) (v : V) (fp : List Addr), (∀ a ∈ fp, H' a = H a) → Rep w I H d v fp → Rep w J H' d v fp
  | .any, v, fp, _, h => h
  | .non, v, fp, _, h => h
  | .bl b, v, fp, _, h => h
  | .int i, v, fp, _, h => h
  | .str s, v, fp, _, h => h
  | .node t xs, v, fp, k, h => by
    unfold Rep at h ⊢
    obtain ⟨a, vs, fp', rfl, hl, hf, h⟩ := h
    rcases h with ⟨ho, h, rfl⟩ | ⟨ho, h, rfl⟩
    · exact ⟨a, vs, fp', rfl, RepL.frame e xs vs fp' (fun b hb => k b (List.mem_cons_of_mem _ hb)) hl, hf, .inl ⟨ho, h.at (k a (List.mem_cons_self ..)), rfl⟩⟩
    · exact ⟨a, vs, fp, rfl, RepL.frame e xs vs fp k hl, hf, .inr ⟨ho, h.mono e, rfl⟩⟩
theorem RepL.frame {w : Wd} {I J H H' : Hp} (e : Le I J) : ∀ (ds : List D) (vs : List V) (fp : List Addr), (∀ a ∈ fp, H' a = H a) → RepL w I H ds vs fp → RepL w J H' ds vs fp
  | [], vs, fp, _, h => h
  | d :: ds, vs, fp, k, h => by
    unfold RepL at h ⊢
    obtain ⟨v, us, f1, f2, rfl, rfl, h1, h2⟩ := h
    exact ⟨v, us, f1, f2, rfl, rfl, Rep.frame e d v f1 (fun b hb => k b (List.mem_append_left _ hb)) h1, RepL.frame e ds us f2 (fun b hb => k b (List.mem_append_right _ hb)) h2⟩
end

theorem RepL.length {w : Wd} {I H : Hp} : ∀ {ds : List D} {vs : List V} {fp : List Addr}, RepL w I H ds vs fp → ds.length = vs.length
  | [], vs, fp, h => by
    unfold RepL at h
    rw [h.1]
    rfl
  | d :: ds, vs, fp, h => by
    unfold RepL at h
    obtain ⟨v, us, f1, f2, rfl, rfl, _, h2⟩ := h
    rw [List.length_cons, List.length_cons, RepL.length h2]
theorem RepL.nil {w : Wd} {I H : Hp} : RepL w I H [] [] [] := by unfold RepL; exact ⟨rfl, rfl⟩
theorem RepL.cons {w : Wd} {I H : Hp} {d : D} {v : V} {ds : List D} {vs : List V} {f1 f2 : List Addr} (h1 : Rep w I H d v f1) (h2 : RepL w I H ds vs f2) : RepL w I H (d :: ds) (v :: vs) (f1 ++ f2) := by
  unfold RepL; exact ⟨v, vs, f1, f2, rfl, rfl, h1, h2⟩
theorem RepL.out {w : Wd} {I H : Hp} {d : D} {v : V} {ds : List D} {vs : List V} {fp : List Addr} (h : RepL w I H (d :: ds) (v :: vs) fp) : ∃ f1 f2, fp = f1 ++ f2 ∧ Rep w I H d v f1 ∧ RepL w I H ds vs f2 := by
  unfold RepL at h
  obtain ⟨v', us, f1, f2, e, rfl, h1, h2⟩ := h
  injection e with e1 e2
  subst e1 e2
  exact ⟨f1, f2, rfl, h1, h2⟩
theorem RepL.append {w : Wd} {I H : Hp} : ∀ {ds es : List D} {vs us : List V} {f1 f2 : List Addr}, RepL w I H ds vs f1 → RepL w I H es us f2 → RepL w I H (ds ++ es) (vs ++ us) (f1 ++ f2)
  | [], es, vs, us, f1, f2, h1, h2 => by
    unfold RepL at h1
    obtain ⟨rfl, rfl⟩ := h1
    exact h2
  | d :: ds, es, vs, us, f1, f2, h1, h2 => by
    unfold RepL at h1
    obtain ⟨v, vs', g1, g2, rfl, rfl, q1, q2⟩ := h1
    have z := RepL.cons q1 (RepL.append q2 h2)
    rw [List.append_assoc]
    exact z
theorem RepL.split {w : Wd} {I H : Hp} : ∀ {ds es : List D} {vs us : List V} {fp : List Addr}, RepL w I H (ds ++ es) (vs ++ us) fp → ds.length = vs.length → ∃ f1 f2, fp = f1 ++ f2 ∧ RepL w I H ds vs f1 ∧ RepL w I H es us f2
  | [], es, [], us, fp, h, _ => ⟨[], fp, rfl, .nil, h⟩
  | [], es, _ :: _, us, fp, h, e => by simp at e
  | _ :: _, es, [], us, fp, h, e => by simp at e
  | d :: ds, es, v :: vs, us, fp, h, e => by
    obtain ⟨f1, f2, rfl, h1, h2⟩ := RepL.out h
    obtain ⟨g1, g2, rfl, q1, q2⟩ := RepL.split h2 (by simpa using e)
    exact ⟨f1 ++ g1, g2, by rw [List.append_assoc], .cons h1 q1, q2⟩

/-- one of them taken out -/
theorem RepL.take {w : Wd} {I H : Hp} : ∀ {ds : List D} {vs : List V} {fp : List Addr} {i : Nat} {d : D}, RepL w I H ds vs fp → ds[i]? = some d → ∃ v f1 f2, vs[i]? = some v ∧ Rep w I H d v f1 ∧ RepL w I H (ds.set i .any) vs f2 ∧ List.Perm fp (f1 ++ f2)
  | [], vs, fp, i, d, h, e => by simp at e
  | d' :: ds, vs, fp, 0, d, h, e => by
    unfold RepL at h
    obtain ⟨v, us, f1, f2, rfl, rfl, h1, h2⟩ := h
    simp at e
    subst e
    exact ⟨v, f1, f2, rfl, h1, RepL.cons (f1 := []) (by unfold Rep; rfl) h2, .refl _⟩
  | d' :: ds, vs, fp, i + 1, d, h, e => by
    unfold RepL at h
    obtain ⟨v, us, f1, f2, rfl, rfl, h1, h2⟩ := h
    obtain ⟨v', g1, g2, e2, q1, q2, p⟩ := RepL.take h2 (show ds[i]? = some d by simpa using e)
    refine ⟨v', g1, f1 ++ g2, by simpa using e2, q1, RepL.cons h1 q2, ?_⟩
    have p2 : List.Perm (f1 ++ f2) (f1 ++ (g1 ++ g2)) := List.Perm.append_left f1 p
    refine p2.trans ?_
    rw [← List.append_assoc, ← List.append_assoc]
    exact List.Perm.append_right g2 List.perm_append_comm
/-- .. and put back -/
theorem RepL.put {w : Wd} {I H : Hp} : ∀ {ds : List D} {vs : List V} {fp : List Addr} {i : Nat} {d : D} {v : V} {f1 : List Addr}, RepL w I H ds vs fp → ds[i]? = some .any → vs[i]? = some v → Rep w I H d v f1 → ∃ f2, RepL w I H (ds.set i d) vs f2 ∧ List.Perm f2 (f1 ++ fp)
  | [], vs, fp, i, d, v, f1, h, e, _, _ => by simp at e
  | d' :: ds, vs, fp, 0, d, v, f1, h, e, ev, r => by
    unfold RepL at h
    obtain ⟨v', us, g1, g2, rfl, rfl, h1, h2⟩ := h
    simp at e ev
    subst e ev
    unfold Rep at h1
    subst h1
    exact ⟨f1 ++ g2, RepL.cons r h2, .refl _⟩
  | d' :: ds, vs, fp, i + 1, d, v, f1, h, e, ev, r => by
    unfold RepL at h
    obtain ⟨v', us, g1, g2, rfl, rfl, h1, h2⟩ := h
    obtain ⟨f2, q, p⟩ := RepL.put (i := i) h2 (by simpa using e) (by simpa using ev) r
    refine ⟨g1 ++ f2, RepL.cons h1 q, ?_⟩
    have p2 : List.Perm (g1 ++ f2) (g1 ++ (f1 ++ g2)) := List.Perm.append_left g1 p
    refine p2.trans ?_
    rw [← List.append_assoc, ← List.append_assoc]
    exact List.Perm.append_right g2 List.perm_append_comm
/-- one of them replaced -/
theorem RepL.set {w : Wd} {I H : Hp} : ∀ {ds : List D} {vs : List V} {fp : List Addr} {i : Nat} {d : D} {v : V} {f1 : List Addr}, RepL w I H ds vs fp → i < ds.length → Rep w I H d v f1 → ∃ f2 g f3, RepL w I H (ds.set i d) (vs.set i v) f2 ∧ List.Perm fp (g ++ f3) ∧ List.Perm f2 (f1 ++ f3)
  | [], vs, fp, i, d, v, f1, h, e, _ => by simp at e
  | d' :: ds, vs, fp, 0, d, v, f1, h, _, r => by
    unfold RepL at h
    obtain ⟨v', us, g1, g2, rfl, rfl, h1, h2⟩ := h
    exact ⟨f1 ++ g2, g1, g2, RepL.cons r h2, .refl _, .refl _⟩
  | d' :: ds, vs, fp, i + 1, d, v, f1, h, e, r => by
    unfold RepL at h
    obtain ⟨v', us, g1, g2, rfl, rfl, h1, h2⟩ := h
    obtain ⟨f2, g, f3, q, p1, p2⟩ := RepL.set (i := i) h2 (by simpa using e) r
    refine ⟨g1 ++ f2, g, g1 ++ f3, RepL.cons h1 q, ?_, ?_⟩
    · refine (List.Perm.append_left g1 p1).trans ?_
      rw [← List.append_assoc, ← List.append_assoc]
      exact List.Perm.append_right f3 List.perm_append_comm
    · refine (List.Perm.append_left g1 p2).trans ?_
      rw [← List.append_assoc, ← List.append_assoc]
      exact List.Perm.append_right f3 List.perm_append_comm

mutual
theorem Rep.there {w : Wd} {I H : Hp} : ∀ (d : D) (v : V) (fp : List Addr), Rep w I H d v fp → ∀ a ∈ fp, ∃ o, H a = some o
  | .any, v, fp, h, a, m => by unfold Rep at h; subst h; cases m
  | .non, v, fp, h, a, m => by unfold Rep at h; obtain ⟨_, rfl⟩ := h; cases m
  | .bl b, v, fp, h, a, m => by unfold Rep at h; obtain ⟨_, rfl⟩ := h; cases m
  | .int i, v, fp, h, a, m => by unfold Rep at h; obtain ⟨_, rfl⟩ := h; cases m
  | .str s, v, fp, h, a, m => by unfold Rep at h; obtain ⟨_, rfl⟩ := h; cases m
  | .node t xs, v, fp, h, a, m => by
    unfold Rep at h
    obtain ⟨b, vs, fp', rfl, hl, _, h⟩ := h
    rcases h with ⟨_, h, rfl⟩ | ⟨_, h, rfl⟩
    · rcases List.mem_cons.mp m with rfl | m
      · exact h.some
      · exact RepL.there xs vs fp' hl a m
    · exact RepL.there xs vs fp hl a m
theorem RepL.there {w : Wd} {I H : Hp} : ∀ (ds : List D) (vs : List V) (fp : List Addr), RepL w I H ds vs fp → ∀ a ∈ fp, ∃ o, H a = some o
  | [], vs, fp, h, a, m => by unfold RepL at h; obtain ⟨_, rfl⟩ := h; cases m
  | d :: ds, vs, fp, h, a, m => by
    unfold RepL at h
    obtain ⟨v, us, f1, f2, rfl, rfl, h1, h2⟩ := h
    rcases List.mem_append.mp m with m | m
    · exact Rep.there d v f1 h1 a m
    · exact RepL.there ds us f2 h2 a m
end

theorem OwnAt.notup {w : Wd} {H : Hp} {a : Addr} {t : Tag} {vs : List V} (h : OwnAt w H a t vs) (ho : t.own = true) : ∀ us : List V, H a ≠ Option.some (HO.tup us) := fun us e => by
  cases t with
  | tup => cases ho
  | tux => cases ho
  | scr => cases ho
  | lst o => rw [show H a = Option.some (.lst vs) from h] at e; cases e
  | dk o ks => rw [show H a = Option.some (.dK (ks.zip vs)) from h] at e; cases e
  | dt o ks => rw [show H a = Option.some (.dT (ks.zip vs)) from h] at e; cases e
  | dn o ks => rw [show H a = Option.some (ndHO w.wd a (dnz ks vs)) from h] at e; cases e
  | ins o c ns => obtain ⟨dx, h⟩ := h; rw [h] at e; cases e
mutual
theorem Rep.notup {w : Wd} {I H : Hp} : ∀ (d : D) (v : V) (fp : List Addr), Rep w I H d v fp → ∀ a ∈ fp, ∀ us : List V, H a ≠ some (HO.tup us)
  | .any, v, fp, h, a, m => by unfold Rep at h; subst h; cases m
  | .non, v, fp, h, a, m => by unfold Rep at h; obtain ⟨_, rfl⟩ := h; cases m
  | .bl b, v, fp, h, a, m => by unfold Rep at h; obtain ⟨_, rfl⟩ := h; cases m
  | .int i, v, fp, h, a, m => by unfold Rep at h; obtain ⟨_, rfl⟩ := h; cases m
  | .str s, v, fp, h, a, m => by unfold Rep at h; obtain ⟨_, rfl⟩ := h; cases m
  | .node t xs, v, fp, h, a, m => by
    unfold Rep at h
    obtain ⟨b, vs, fp', rfl, hl, _, h⟩ := h
    rcases h with ⟨ho, h, rfl⟩ | ⟨_, h, rfl⟩
    · rcases List.mem_cons.mp m with rfl | m
      · exact h.notup ho
      · exact RepL.notup xs vs fp' hl a m
    · exact RepL.notup xs vs fp hl a m
theorem RepL.notup {w : Wd} {I H : Hp} : ∀ (ds : List D) (vs : List V) (fp : List Addr), RepL w I H ds vs fp → ∀ a ∈ fp, ∀ us : List V, H a ≠ some (HO.tup us)
  | [], vs, fp, h, a, m => by unfold RepL at h; obtain ⟨_, rfl⟩ := h; cases m
  | d :: ds, vs, fp, h, a, m => by
    unfold RepL at h
    obtain ⟨v, us, f1, f2, rfl, rfl, h1, h2⟩ := h
    rcases List.mem_append.mp m with m | m
    · exact Rep.notup d v f1 h1 a m
    · exact RepL.notup ds us f2 h2 a m
end

mutual
theorem Rep.freeze {w : Wd} {I J H : Hp} (e : Le I J) : ∀ (d : D) (v : V) (fp : List Addr), (∀ a ∈ fp, J a = H a) → Rep w I H d v fp → Rep w J H d.frz v []
  | .any, v, fp, _, h => by unfold D.frz Rep; rfl
  | .non, v, fp, _, h => by unfold Rep at h; unfold D.frz Rep; exact ⟨h.1, rfl⟩
  | .bl b, v, fp, _, h => by unfold Rep at h; unfold D.frz Rep; exact ⟨h.1, rfl⟩
  | .int i, v, fp, _, h => by unfold Rep at h; unfold D.frz Rep; exact ⟨h.1, rfl⟩
  | .str s, v, fp, _, h => by unfold Rep at h; unfold D.frz Rep; exact ⟨h.1, rfl⟩
  | .node t xs, v, fp, k, h => by
    unfold Rep at h
    unfold D.frz Rep
    obtain ⟨a, vs, fp', rfl, hl, hf, h⟩ := h
    rcases h with ⟨ho, h, rfl⟩ | ⟨ho, h, rfl⟩
    · refine ⟨a, vs, [], rfl, RepL.freeze e xs vs fp' (fun b hb => k b (List.mem_cons_of_mem _ hb)) hl, Tag.fits_frz hf, .inr ⟨Tag.own_frz t, ?_, rfl⟩⟩
      exact (h.at (k a (List.mem_cons_self ..))).fro
    · exact ⟨a, vs, [], rfl, RepL.freeze e xs vs fp k hl, Tag.fits_frz hf, .inr ⟨Tag.own_frz t, (h.mono e).frz, rfl⟩⟩
theorem RepL.freeze {w : Wd} {I J H : Hp} (e : Le I J) : ∀ (ds : List D) (vs : List V) (fp : List Addr), (∀ a ∈ fp, J a = H a) → RepL w I H ds vs fp → RepL w J H (frzL ds) vs []
  | [], vs, fp, _, h => by unfold RepL at h; unfold frzL RepL; exact ⟨h.1, rfl⟩
  | d :: ds, vs, fp, k, h => by
    unfold RepL at h
    obtain ⟨v, us, f1, f2, rfl, rfl, h1, h2⟩ := h
    unfold frzL
    exact RepL.cons (f1 := []) (f2 := []) (Rep.freeze e d v f1 (fun b hb => k b (List.mem_append_left _ hb)) h1) (RepL.freeze e ds us f2 (fun b hb => k b (List.mem_append_right _ hb)) h2)
end
/-- what is frozen owns nothing -/
theorem Rep.own_nil {w : Wd} {I H : Hp} : ∀ {d : D} {v : V} {fp : List Addr}, Rep w I H d v fp → d.frz = d → fp = [] := by
  intro d v fp h e
  have key : ∀ (d : D) (v : V) (fp : List Addr), d.frz = d → Rep w I H d v fp → fp = [] := by
    intro d
    induction d using D.rec (motive_2 := fun ds => ∀ vs fp, frzL ds = ds → RepL w I H ds vs fp → fp = []) with
    | any => intro v fp _ h; unfold Rep at h; exact h
    | non => intro v fp _ h; unfold Rep at h; exact h.2
    | bl b => intro v fp _ h; unfold Rep at h; exact h.2
    | int i => intro v fp _ h; unfold Rep at h; exact h.2
    | str s => intro v fp _ h; unfold Rep at h; exact h.2
    | node t xs ih =>
      intro v fp e h
      unfold Rep at h
      unfold D.frz at e
      injection e with e1 e2
      obtain ⟨a, vs, fp', rfl, hl, hf, h⟩ := h
      rcases h with ⟨ho, h, rfl⟩ | ⟨ho, h, rfl⟩
      · rw [← e1, Tag.own_frz] at ho
        cases ho
      · exact ih vs fp e2 hl
    | nil =>
      rename_i vs fp _ h
      unfold RepL at h
      exact h.2
    | cons d ds ih1 ih2 =>
      rename_i vs fp e h
      unfold RepL at h
      unfold frzL at e
      injection e with e1 e2
      obtain ⟨v, us, f1, f2, rfl, rfl, h1, h2⟩ := h
      rw [ih1 v f1 e1 h1, ih2 us f2 e2 h2]
      rfl
  exact key d v fp e h

/-! ### the state: I what stays, F the others' part, and what is held -/
structure Hs (w : Wd) (I F : Hp) (ds : List D) (vs : List V) (H : Hp) : Prop where
  ex : ∃ fp, RepL w I H ds vs fp ∧ fp.Nodup ∧ ∀ a ∈ fp, I a = none ∧ F a = none
  iF : ∀ a o, I a = some o → H a = some o ∧ F a = none
  fH : Le F H
  fT : ∀ (a : Addr) (us : List V), F a ≠ some (HO.tup us)
  lkI : Le w.lk I
  fkF : Le w.fk F

section
variable {w : Wd} {I F H : Hp} {ds es : List D} {vs us : List V} {d : D} {v : V}
theorem Hs.length (h : Hs w I F ds vs H) : ds.length = vs.length := by
  obtain ⟨fp, r, _⟩ := h.ex
  exact r.length
theorem Hs.iH (h : Hs w I F ds vs H) : Le I H := fun a o e => (h.iF a o e).1
theorem Hs.of_sub {fp fp' : List Addr} (h : Hs w I F ds vs H) (r : RepL w I H es us fp') (hr : RepL w I H ds vs fp) (nd : fp.Nodup) (dj : ∀ a ∈ fp, I a = none ∧ F a = none) (nd' : fp'.Nodup) (sub : ∀ a ∈ fp', a ∈ fp) : Hs w I F es us H :=
  ⟨⟨fp', r, nd', fun a m => dj a (sub a m)⟩, h.iF, h.fH, h.fT, h.lkI, h.fkF⟩
theorem Hs.drop (h : Hs w I F (d :: ds) (v :: vs) H) : Hs w I F ds vs H := by
  obtain ⟨fp, r, nd, dj⟩ := h.ex
  obtain ⟨f1, f2, rfl, r1, r2⟩ := r.out
  exact h.of_sub r2 r nd dj (List.nodup_append.mp nd).2.1 fun a m => List.mem_append_right _ m
theorem Hs.head (h : Hs w I F (d :: ds) (v :: vs) H) : ∃ fp, Rep w I H d v fp := by
  obtain ⟨fp, r, nd, dj⟩ := h.ex
  obtain ⟨f1, f2, rfl, r1, r2⟩ := r.out
  exact ⟨f1, r1⟩
/-- others' part set aside; it comes back untouched -/
theorem Hs.push (h : Hs w I F (ds ++ es) (vs ++ us) H) (hl : ds.length = vs.length) : ∃ G, Hs w I G es us H ∧ ∀ I' es' us' H', Le I I' → Hs w I' G es' us' H' → Hs w I' F (ds ++ es') (vs ++ us') H' := by
  obtain ⟨fp, r, nd, dj⟩ := h.ex
  obtain ⟨f1, f2, rfl, r1, r2⟩ := r.split hl
  obtain ⟨n1, n2, n3⟩ := List.nodup_append.mp nd
  have th := RepL.there ds vs f1 r1
  refine ⟨fun a => if a ∈ f1 then H a else F a, ⟨⟨f2, r2, n2, fun a m => ⟨(dj a (List.mem_append_right _ m)).1, ?_⟩⟩, fun a o e => ⟨(h.iF a o e).1, ?_⟩, fun a o e => ?_, fun a us e => ?_, h.lkI, fun a o e => ?_⟩, ?_⟩
  · show (if a ∈ f1 then H a else F a) = none
    rw [if_neg (fun m1 => n3 a m1 a m rfl)]
    exact (dj a (List.mem_append_right _ m)).2
  · show (if a ∈ f1 then H a else F a) = none
    rw [if_neg (fun m1 => by
      have := (dj a (List.mem_append_left _ m1)).1
      rw [e] at this
      cases this)]
    exact (h.iF a o e).2
  · have e2 : (if a ∈ f1 then H a else F a) = some o := e
    by_cases m : a ∈ f1
    · rw [if_pos m] at e2
      exact e2
    · rw [if_neg m] at e2
      exact h.fH a o e2
  · have e2 : (if a ∈ f1 then H a else F a) = some (HO.tup us) := e
    by_cases m : a ∈ f1
    · rw [if_pos m] at e2
      exact RepL.notup _ _ _ r1 a m us e2
    · rw [if_neg m] at e2
      exact h.fT a us e2
  · have e2 := h.fkF a o e
    show (if a ∈ f1 then H a else F a) = some o
    rw [if_neg (fun m => by
      have := (dj a (List.mem_append_left _ m)).2
      rw [e2] at this
      cases this)]
    exact e2
  · intro I' es' us' H' le h'
    obtain ⟨fp', r', nd', dj'⟩ := h'.ex
    have keep : ∀ a ∈ f1, H' a = H a := fun a m => by
      obtain ⟨o, eo⟩ := th a m
      have g : (if a ∈ f1 then H a else F a) = some o := by rw [if_pos m]; exact eo
      rw [h'.fH a o g, eo]
    have dis : ∀ a ∈ f1, I' a = none := fun a m => by
      cases q : I' a with
      | none => rfl
      | some o =>
        obtain ⟨o2, eo⟩ := th a m
        have g : (if a ∈ f1 then H a else F a) = some o2 := by rw [if_pos m]; exact eo
        have := (h'.iF a o q).2
        rw [show (if a ∈ f1 then H a else F a) = none from this] at g
        cases g
    refine ⟨⟨f1 ++ fp', (RepL.frame le ds vs f1 keep r1).append r', List.nodup_append.mpr ⟨n1, nd', fun a m b m' e => ?_⟩, fun a m => ?_⟩, fun a o e => ⟨(h'.iF a o e).1, ?_⟩, fun a o e => ?_, h.fT, h'.lkI, h.fkF⟩
    · subst e
      obtain ⟨o, eo⟩ := th a m
      have z : (if a ∈ f1 then H a else F a) = none := (dj' a m').2
      rw [if_pos m, eo] at z
      cases z
    · rcases List.mem_append.mp m with m | m
      · exact ⟨dis a m, (dj a (List.mem_append_left _ m)).2⟩
      · refine ⟨(dj' a m).1, ?_⟩
        have z : (if a ∈ f1 then H a else F a) = none := (dj' a m).2
        by_cases m1 : a ∈ f1
        · rw [if_pos m1] at z
          obtain ⟨o, eo⟩ := th a m1
          rw [z] at eo
          cases eo
        · rw [if_neg m1] at z
          exact z
    · have z : (if a ∈ f1 then H a else F a) = none := (h'.iF a o e).2
      by_cases m1 : a ∈ f1
      · exact (dj a (List.mem_append_left _ m1)).2
      · rw [if_neg m1] at z
        exact z
    · have nf : a ∉ f1 := fun m => by
        have := (dj a (List.mem_append_left _ m)).2
        rw [e] at this
        cases this
      have g : (if a ∈ f1 then H a else F a) = some o := by rw [if_neg nf]; exact e
      exact h'.fH a o g
/-- one held thing out of many -/
theorem Hs.take {i : Nat} (h : Hs w I F (es ++ ds) (us ++ vs) H) (hl : es.length = us.length) (e : ds[i]? = some d) : ∃ v, vs[i]? = some v ∧ Hs w I F (d :: (es ++ ds.set i .any)) (v :: (us ++ vs)) H := by
  obtain ⟨fp, r, nd, dj⟩ := h.ex
  obtain ⟨f1, f2, rfl, r1, r2⟩ := r.split hl
  obtain ⟨v, g1, g2, ev, q1, q2, p⟩ := r2.take e
  have p2 : List.Perm (f1 ++ f2) (g1 ++ (f1 ++ g2)) := by
    refine (List.Perm.append_left f1 p).trans ?_
    rw [← List.append_assoc, ← List.append_assoc]
    exact List.Perm.append_right g2 List.perm_append_comm
  exact ⟨v, ev, h.of_sub (.cons q1 (r1.append q2)) r nd dj (p2.nodup_iff.mp nd) fun a m => p2.symm.subset m⟩
theorem Hs.put {i : Nat} (h : Hs w I F (d :: (es ++ ds)) (v :: (us ++ vs)) H) (hl : es.length = us.length) (e : ds[i]? = some .any) (ev : vs[i]? = some v) : Hs w I F (es ++ ds.set i d) (us ++ vs) H := by
  obtain ⟨fp, r, nd, dj⟩ := h.ex
  obtain ⟨f0, f12, rfl, r0, r12⟩ := r.out
  obtain ⟨f1, f2, rfl, r1, r2⟩ := r12.split hl
  obtain ⟨g, q, p⟩ := r2.put e ev r0
  have p2 : List.Perm (f0 ++ (f1 ++ f2)) (f1 ++ g) := by
    refine List.Perm.trans ?_ (List.Perm.append_left f1 p.symm)
    rw [← List.append_assoc, ← List.append_assoc]
    exact List.Perm.append_right f2 List.perm_append_comm
  exact h.of_sub (r1.append q) r nd dj (p2.nodup_iff.mp nd) fun a m => p2.symm.subset m
/-- a name gets a value -/
theorem Hs.set {i : Nat} (h : Hs w I F (d :: ds) (v :: vs) H) (hi : i < ds.length) : Hs w I F (ds.set i d) (vs.set i v) H := by
  obtain ⟨fp, r, nd, dj⟩ := h.ex
  obtain ⟨f1, f2, rfl, r1, r2⟩ := r.out
  obtain ⟨g, g1, g2, q, p1, p2⟩ := r2.set hi r1
  have n : (f1 ++ g2).Nodup := by
    have n1 : (f1 ++ (g1 ++ g2)).Nodup := (List.Perm.append_left f1 p1).nodup_iff.mp nd
    obtain ⟨a1, a2, a3⟩ := List.nodup_append.mp n1
    exact List.nodup_append.mpr ⟨a1, (List.nodup_append.mp a2).2.1, fun a m b m' => a3 a m b (List.mem_append_right _ m')⟩
  refine h.of_sub q r nd dj (p2.nodup_iff.mpr n) fun a m => ?_
  rcases List.mem_append.mp (p2.subset m) with m | m
  · exact List.mem_append_left _ m
  · exact List.mem_append_right _ (p1.symm.subset (List.mem_append_right _ m))
theorem Hs.swap {d2 : D} {v2 : V} (h : Hs w I F (d :: d2 :: ds) (v :: v2 :: vs) H) : Hs w I F (d2 :: d :: ds) (v2 :: v :: vs) H := by
  obtain ⟨fp, r, nd, dj⟩ := h.ex
  obtain ⟨f1, f2, rfl, r1, r2⟩ := r.out
  obtain ⟨f3, f4, rfl, r3, r4⟩ := r2.out
  have p : List.Perm (f1 ++ (f3 ++ f4)) (f3 ++ (f1 ++ f4)) := by
    rw [← List.append_assoc, ← List.append_assoc]
    exact List.Perm.append_right f4 List.perm_append_comm
  exact h.of_sub (.cons r3 (.cons r1 r4)) r nd dj (p.nodup_iff.mp nd) fun a m => p.symm.subset m
/-- what is frozen may be held twice -/
theorem Hs.dup (h : Hs w I F (d :: ds) (v :: vs) H) (e : d.frz = d) : Hs w I F (d :: d :: ds) (v :: v :: vs) H := by
  obtain ⟨fp, r, nd, dj⟩ := h.ex
  obtain ⟨f1, f2, rfl, r1, r2⟩ := r.out
  obtain rfl := r1.own_nil e
  exact h.of_sub (.cons r1 (.cons r1 r2)) r nd dj nd fun a m => m
/-- what is owned is given up: it stays as it is -/
theorem Hs.freeze (h : Hs w I F (d :: ds) (v :: vs) H) : ∃ J, Le I J ∧ Hs w J F (d.frz :: ds) (v :: vs) H := by
  obtain ⟨fp, r, nd, dj⟩ := h.ex
  obtain ⟨f1, f2, rfl, r1, r2⟩ := r.out
  obtain ⟨n1, n2, n3⟩ := List.nodup_append.mp nd
  have th := Rep.there d v f1 r1
  have le : Le I (fun a => if a ∈ f1 then H a else I a) := fun a o e => by
    show (if a ∈ f1 then H a else I a) = some o
    rw [if_neg (fun m => by
      have := (dj a (List.mem_append_left _ m)).1
      rw [e] at this
      cases this)]
    exact e
  refine ⟨fun a => if a ∈ f1 then H a else I a, le, ⟨f2, RepL.cons (f1 := []) (Rep.freeze le d v f1 (fun a m => if_pos m) r1) (RepL.frame le ds vs f2 (fun _ _ => rfl) r2), n2, fun a m => ⟨?_, (dj a (List.mem_append_right _ m)).2⟩⟩, fun a o e => ?_, h.fH, h.fT, h.lkI.trans le, h.fkF⟩
  · show (if a ∈ f1 then H a else I a) = none
    rw [if_neg (fun m1 => n3 a m1 a m rfl)]
    exact (dj a (List.mem_append_right _ m)).1
  · have e2 : (if a ∈ f1 then H a else I a) = some o := e
    by_cases m : a ∈ f1
    · rw [if_pos m] at e2
      exact ⟨e2, (dj a (List.mem_append_left _ m)).2⟩
    · rw [if_neg m] at e2
      exact h.iF a o e2
/-- a new owned object -/
theorem Hs.newO {p : Addr} {o : HO} {t : Tag} {xs : List D} (h : Hs w I F (xs ++ ds) (us ++ vs) H) (hl : xs.length = us.length) (np : H p = none) (ho : t.own = true) (hf : t.fits us.length) (at_ : OwnAt w (upd H p o) p t us) :
    Hs w I F (.node t xs :: ds) (.ref p :: vs) (upd H p o) := by
  obtain ⟨fp, r, nd, dj⟩ := h.ex
  obtain ⟨f1, f2, rfl, r1, r2⟩ := r.split hl
  have pI : I p = none := by
    cases e : I p with
    | none => rfl
    | some o => rw [(h.iF p o e).1] at np; cases np
  have pF : F p = none := by
    cases e : F p with
    | none => rfl
    | some o => rw [h.fH p o e] at np; cases np
  have pn : p ∉ f1 ++ f2 := fun m => by
    rcases List.mem_append.mp m with m | m
    · obtain ⟨o, e⟩ := RepL.there _ _ _ r1 p m
      rw [np] at e; cases e
    · obtain ⟨o, e⟩ := RepL.there _ _ _ r2 p m
      rw [np] at e; cases e
  have k : ∀ a ∈ f1 ++ f2, upd H p o a = H a := fun a m => upd_ne fun e => pn (e ▸ m)
  refine ⟨⟨p :: (f1 ++ f2), ?_, List.nodup_cons.mpr ⟨pn, nd⟩, fun a m => ?_⟩, fun a u e => ⟨?_, (h.iF a u e).2⟩, fun a u e => ?_, h.fT, h.lkI, h.fkF⟩
  · have z := RepL.cons (w := w) (I := I) (H := upd H p o) (d := .node t xs) (v := .ref p) (f1 := p :: f1) (f2 := f2) (by
      unfold Rep
      exact ⟨p, us, f1, rfl, RepL.frame (Le.refl I) xs us f1 (fun a m => k a (List.mem_append_left _ m)) r1, hf, .inl ⟨ho, at_, rfl⟩⟩) (RepL.frame (Le.refl I) ds vs f2 (fun a m => k a (List.mem_append_right _ m)) r2)
    exact z
  · rcases List.mem_cons.mp m with rfl | m
    · exact ⟨pI, pF⟩
    · exact dj a m
  · rw [upd_ne (fun e2 => by rw [e2, pI] at e; cases e)]
    exact (h.iF a u e).1
  · rw [upd_ne (fun e2 => by rw [e2, pF] at e; cases e)]
    exact h.fH a u e
/-- a new tuple -/
theorem Hs.newT {p : Addr} {xs : List D} (h : Hs w I F (xs ++ ds) (us ++ vs) H) (hl : xs.length = us.length) (np : H p = none) :
    Le I (upd I p (.tup us)) ∧ Hs w (upd I p (.tup us)) F (.node .tup xs :: ds) (.ref p :: vs) (upd H p (.tup us)) := by
  obtain ⟨fp, r, nd, dj⟩ := h.ex
  obtain ⟨f1, f2, rfl, r1, r2⟩ := r.split hl
  have pI : I p = none := by
    cases e : I p with
    | none => rfl
    | some o => rw [(h.iF p o e).1] at np; cases np
  have pF : F p = none := by
    cases e : F p with
    | none => rfl
    | some o => rw [h.fH p o e] at np; cases np
  have pn : p ∉ f1 ++ f2 := fun m => by
    rcases List.mem_append.mp m with m | m
    · obtain ⟨o, e⟩ := RepL.there _ _ _ r1 p m
      rw [np] at e; cases e
    · obtain ⟨o, e⟩ := RepL.there _ _ _ r2 p m
      rw [np] at e; cases e
  have k : ∀ a ∈ f1 ++ f2, upd H p (.tup us) a = H a := fun a m => upd_ne fun e => pn (e ▸ m)
  have le : Le I (upd I p (.tup us)) := Le.new pI
  refine ⟨le, ⟨f1 ++ f2, RepL.cons (by
      unfold Rep
      exact ⟨p, us, f1, rfl, RepL.frame le xs us f1 (fun a m => k a (List.mem_append_left _ m)) r1, trivial, .inr ⟨rfl, upd_same, rfl⟩⟩) (RepL.frame le ds vs f2 (fun a m => k a (List.mem_append_right _ m)) r2), nd, fun a m => ⟨?_, (dj a m).2⟩⟩, fun a u e => ?_, fun a u e => ?_, h.fT, h.lkI.trans le, h.fkF⟩
  · rw [upd_ne (fun e => pn (by rw [← e]; exact m))]
    exact (dj a m).1
  · by_cases q : a = p
    · subst q
      rw [upd_same] at e ⊢
      exact ⟨e, pF⟩
    · rw [upd_ne q] at e ⊢
      exact h.iF a u e
  · rw [upd_ne (fun e2 => by rw [e2, pF] at e; cases e)]
    exact h.fH a u e
/-- an owned object opened: its children are held, it stands in the others' part, and may be changed -/
theorem Hs.open {t : Tag} {xs : List D} (h : Hs w I F (.node t xs :: ds) (v :: vs) H) (ho : t.own = true) :
    ∃ a us G, v = .ref a ∧ xs.length = us.length ∧ t.fits us.length ∧ OwnAt w H a t us ∧ Hs w I G (xs ++ ds) (us ++ vs) H ∧ (∀ o, H a = some o → G a = some o) ∧
      ∀ I' t' xs' us' ds' vs' H' o', Le I I' → Hs w I' G (xs' ++ ds') (us' ++ vs') H' → xs'.length = us'.length → t'.own = true → t'.fits us'.length → OwnAt w (upd H' a o') a t' us' → Hs w I' F (.node t' xs' :: ds') (.ref a :: vs') (upd H' a o') := by
  obtain ⟨fp, r, nd, dj⟩ := h.ex
  obtain ⟨f1, f2, rfl, r1, r2⟩ := r.out
  unfold Rep at r1
  obtain ⟨a, us, fp', rfl, hl, hf, q⟩ := r1
  rcases q with ⟨_, hat, rfl⟩ | ⟨hn, _, _⟩
  · obtain ⟨oa, eoa⟩ := hat.some
    obtain ⟨aI, aF⟩ := dj a (List.mem_append_left _ (List.mem_cons_self ..))
    have nd' : (fp' ++ f2).Nodup ∧ a ∉ fp' ++ f2 := by
      have z : (a :: (fp' ++ f2)).Nodup := nd
      exact ⟨(List.nodup_cons.mp z).2, (List.nodup_cons.mp z).1⟩
    refine ⟨a, us, fun b => if b = a then H a else F b, rfl, hl.length, hf, hat, ⟨⟨fp' ++ f2, hl.append r2, nd'.1, fun b m => ?_⟩, fun b o e => ⟨(h.iF b o e).1, ?_⟩, fun b o e => ?_, fun b us' e => ?_, h.lkI, fun b o e => ?_⟩, fun o e => ?_, ?_⟩
    · have m2 : b ∈ a :: fp' ++ f2 := List.mem_cons_of_mem _ m
      refine ⟨(dj b m2).1, ?_⟩
      show (if b = a then H a else F b) = none
      rw [if_neg (fun e => nd'.2 (by rw [← e]; exact m))]
      exact (dj b m2).2
    · show (if b = a then H a else F b) = none
      rw [if_neg (fun e2 => by rw [e2, aI] at e; cases e)]
      exact (h.iF b o e).2
    · have e2 : (if b = a then H a else F b) = some o := e
      by_cases q : b = a
      · rw [if_pos q] at e2
        rw [q]
        exact e2
      · rw [if_neg q] at e2
        exact h.fH b o e2
    · have e2 : (if b = a then H a else F b) = some (HO.tup us') := e
      by_cases q : b = a
      · rw [if_pos q] at e2
        exact hat.notup ho us' e2
      · rw [if_neg q] at e2
        exact h.fT b us' e2
    · have e2 := h.fkF b o e
      show (if b = a then H a else F b) = some o
      rw [if_neg (fun q => by rw [q, aF] at e2; cases e2)]
      exact e2
    · show (if a = a then H a else F a) = some o
      rw [if_pos rfl]
      exact e
    · intro I' t' xs' us' ds' vs' H' o' le h' hl' ho' hf' at'
      obtain ⟨fq, rq, nq, dq⟩ := h'.ex
      obtain ⟨q1, q2, rfl, s1, s2⟩ := rq.split hl'
      have an : a ∉ q1 ++ q2 := fun m => by
        have z : (if a = a then H a else F a) = none := (dq a m).2
        rw [if_pos rfl, eoa] at z
        cases z
      have aI' : I' a = none := by
        cases e : I' a with
        | none => rfl
        | some o =>
          have z : (if a = a then H a else F a) = none := (h'.iF a o e).2
          rw [if_pos rfl, eoa] at z
          cases z
      have k : ∀ b ∈ q1 ++ q2, upd H' a o' b = H' b := fun b m => upd_ne (fun e => an (by rw [← e]; exact m))
      refine ⟨⟨a :: (q1 ++ q2), ?_, List.nodup_cons.mpr ⟨an, nq⟩, fun b m => ?_⟩, fun b u e => ⟨?_, ?_⟩, fun b u e => ?_, h.fT, h'.lkI, h.fkF⟩
      · have z := RepL.cons (w := w) (I := I') (H := upd H' a o') (d := .node t' xs') (v := .ref a) (f1 := a :: q1) (f2 := q2) (by
          unfold Rep
          exact ⟨a, us', q1, rfl, RepL.frame (Le.refl I') xs' us' q1 (fun b m => k b (List.mem_append_left _ m)) s1, hf', .inl ⟨ho', at', rfl⟩⟩) (RepL.frame (Le.refl I') ds' vs' q2 (fun b m => k b (List.mem_append_right _ m)) s2)
        exact z
      · rcases List.mem_cons.mp m with rfl | m
        · exact ⟨aI', aF⟩
        · refine ⟨(dq b m).1, ?_⟩
          have z : (if b = a then H a else F b) = none := (dq b m).2
          rw [if_neg (fun e => an (by rw [← e]; exact m))] at z
          exact z
      · rw [upd_ne (fun e2 => by rw [e2, aI'] at e; cases e)]
        exact (h'.iF b u e).1
      · have z : (if b = a then H a else F b) = none := (h'.iF b u e).2
        by_cases q : b = a
        · rw [q]; exact aF
        · rw [if_neg q] at z
          exact z
      · have nb : b ≠ a := fun e2 => by rw [e2, aF] at e; cases e
        rw [upd_ne nb]
        exact h'.fH b u (show (if b = a then H a else F b) = some u by rw [if_neg nb]; exact e)
  · rw [ho] at hn
    cases hn
end
end Z

set_option Elab.async false
set_option linter.all false
set_option maxRecDepth 100000
set_option maxHeartbeats 4000000
/-! ZB: expressions as functions on trees, their readings, operands. -/
namespace Z
open PySem PySem.Spec PyProof.Rows L2

abbrev Env := List D
/-- how an expression ends -/
inductive Res where
  | ok (r : D) (e : Env) | exc (c : Str) (ns : List Str) (xs : List D) (e : Env) | bad
abbrev M := Env → Res
/-- how an operation ends: its result, and what its operands are behind it -/
inductive ORes where
  | ok (r : D) (es : List D) | exc (c : Str) (ns : List Str) (xs : List D) (es : List D) | bad
abbrev Op := List D → ORes

/-- what stays in a def's run: pinned slots hold what they held at first -/
structure Fx where
  w : Wd
  pin : List Nat
  vs0 : List V

def σv (σ : L2.St) : List V := σ.map (·.getD .non)
def D.isAny : D → Bool
  | .any => true
  | _ => false
theorem isAny_iff {d : D} : d.isAny = false ↔ d ≠ D.any := by cases d <;> simp [D.isAny]
structure EnvR (X : Fx) (σ : L2.St) (env : Env) : Prop where
  on : ∀ (i : Nat) (d : D), env[i]? = some d → d ≠ D.any → ∃ v : V, σ[i]? = some (some v)
  pin : ∀ i ∈ X.pin, ∀ v : V, X.vs0[i]? = some v → σ[i]? = some (some v)
/-- an exception: its class, its own dict -/
def XRep (w : Wd) (I : Hp) (cls : Value) (d : Option Addr) (c : Str) (ns : List Str) (xs : List D) : Prop :=
  cls = .ref (w.cA c) ∧ ∃ dd vs, d = some dd ∧ I dd = some (.xd (ns.zip vs)) ∧ RepL w I I xs vs []

def Out (X : Fx) (W : WX) (I F : Hp) (σ : L2.St) (Q : VK) : Res → Prop
  | .ok r env' => ∀ v I' H', Le I I' → Hs X.w I' F (r :: env') (v :: σv σ) H' → EnvR X σ env' → Q v H'
  | .exc c ns xs env' => ∀ cls d I' H', Le I I' → Hs X.w I' F env' (σv σ) H' → EnvR X σ env' → XRep X.w I' cls d c ns xs → W cls d σ H'
  | .bad => False
/-- the reading of an expression that does m -/
def tE (X : Fx) (W : WX) (m : M) : TE := fun σ H Q => ∃ I F env, Hs X.w I F env (σv σ) H ∧ EnvR X σ env ∧ Out X W I F σ Q (m env)

theorem PEi {Γ : Cx} {e : Expr} {t t' : TE} (h : PE Γ e t) (i : ∀ σ H Q, t' σ H Q → t σ H Q) : PE Γ e t' := ⟨fun pins s σ H Q I q => h.run pins s σ H Q I (i σ H Q q)⟩
theorem PTi {Γ : Cx} {e : Expr} {t t' : TT} (h : PT Γ e t) (i : ∀ σ H Q, t' σ H Q → t σ H Q) : PT Γ e t' := ⟨fun pins s σ H Q I q => h.run pins s σ H Q I (i σ H Q q)⟩
theorem PSi {Γ : Cx} {e : Stmt} {t t' : TS} (h : PS Γ e t) (i : ∀ D σ H, t' D σ H → t D σ H) : PS Γ e t' := ⟨fun pins s σ H D I q => h.run pins s σ H D I (i D σ H q)⟩
theorem PSsi {Γ : Cx} {e : List Stmt} {t t' : TS} (h : PSs Γ e t) (i : ∀ D σ H, t' D σ H → t D σ H) : PSs Γ e t' := ⟨fun pins s σ H D I q => h.run pins s σ H D I (i D σ H q)⟩

theorem σv_at {σ : L2.St} {i : Nat} {v : V} (h : σ[i]? = some (some v)) : (σv σ)[i]? = some v := by
  unfold σv
  rw [List.getElem?_map, h]
  rfl
theorem EnvR.set {X : Fx} {σ : L2.St} {env : Env} (h : EnvR X σ env) {i : Nat} {d d' : D} (hd : env[i]? = some d) (hn : d' ≠ D.any → d ≠ D.any) : EnvR X σ (env.set i d') := by
  refine ⟨fun j e hj hne => ?_, h.pin⟩
  by_cases q : i = j
  · subst q
    have lt : i < env.length := (List.getElem?_eq_some_iff.mp hd).1
    rw [List.getElem?_set_self lt] at hj
    cases hj
    exact h.on i d hd (hn hne)
  · rw [List.getElem?_set_ne q] at hj
    exact h.on j e hj hne
theorem set_set {α : Type} {l : List α} {i : Nat} {a b : α} : (l.set i a).set i b = l.set i b := by
  rw [List.set_set]

mutual
theorem frz_frz : ∀ d : D, d.frz.frz = d.frz
  | .any => rfl
  | .non => rfl
  | .bl _ => rfl
  | .int _ => rfl
  | .str _ => rfl
  | .node t xs => by
    show D.node t.frz.frz (frzL (frzL xs)) = D.node t.frz (frzL xs)
    rw [frzL_frzL xs]
    cases t <;> rfl
theorem frzL_frzL : ∀ ds : List D, frzL (frzL ds) = frzL ds
  | [] => rfl
  | d :: ds => by
    show d.frz.frz :: frzL (frzL ds) = d.frz :: frzL ds
    rw [frz_frz d, frzL_frzL ds]
end
theorem frz_ne {d : D} (h : d ≠ D.any) : d.frz ≠ D.any := by
  cases d <;> first | exact absurd rfl h | (intro e; cases e)

/-! ### a name -/
/-- the value of a name: it may be held by two from now on, so what is owned is given up -/
def mVar (i : Nat) : M := fun env => match env[i]? with
  | some .any => .bad
  | some d => .ok d.frz (env.set i d.frz)
  | none => .bad
theorem mVar_ok {i : Nat} {env : Env} {d : D} (h : env[i]? = some d) (hn : d ≠ D.any) : mVar i env = .ok d.frz (env.set i d.frz) := by
  unfold mVar
  rw [h]
  cases d <;> first | rfl | exact absurd rfl hn
theorem hs_read {X : Fx} {I F H : Hp} {σ : L2.St} {env : Env} (h : Hs X.w I F env (σv σ) H) (er : EnvR X σ env) {i : Nat} {d : D} (hd : env[i]? = some d) (hn : d ≠ D.any) :
    ∃ v J, σ[i]? = some (some v) ∧ Le I J ∧ Hs X.w J F (d.frz :: env.set i d.frz) (v :: σv σ) H := by
  obtain ⟨v, hv⟩ := er.on i d hd hn
  obtain ⟨v', e', h1⟩ := Hs.take (es := []) (us := []) h rfl hd
  have ev : v' = v := Option.some.inj (e'.symm.trans (σv_at hv))
  subst ev
  obtain ⟨J, le, h2⟩ := h1.freeze
  have lt : i < env.length := (List.getElem?_eq_some_iff.mp hd).1
  have h3 := Hs.put (es := [d.frz]) (us := [v']) (i := i) (h2.dup (frz_frz d)) rfl (by rw [List.getElem?_set_self lt]) e'
  rw [set_set] at h3
  exact ⟨v', J, hv, le, h3⟩
section
variable {Γ : Cx} {X : Fx} {W : WX}
theorem z_var {x : Str} {pos : Pos} (i : Nat) (h : PE Γ (.Name x pos) (tVar i)) : PE Γ (.Name x pos) (tE X W (mVar i)) := PEi h fun σ H Q h => by
  obtain ⟨I, F, env, hs, er, o⟩ := h
  unfold mVar at o
  cases hd : env[i]? with
  | none => rw [hd] at o; exact o.elim
  | some d =>
    by_cases hn : d = D.any
    · rw [hd, hn] at o; exact o.elim
    · have o2 : Out X W I F σ Q (mVar i env) := by unfold mVar; rw [hd]; rw [hd] at o; exact o
      rw [mVar_ok hd hn] at o2
      obtain ⟨v, J, hv, le, h1⟩ := hs_read hs er hd hn
      exact ⟨v, hv, o2 v J H le h1 (er.set hd fun _ => hn)⟩
/-! ### constants -/
def mC (d : D) : M := fun env => .ok d env
def D.scal : D → Option V
  | .non => some .non
  | .bl b => some (.bl b)
  | .int i => some (.int i)
  | .str s => some (.str s)
  | _ => none
theorem Rep.of_scal {w : Wd} {I H : Hp} {d : D} {v : V} (h : d.scal = some v) : Rep w I H d v [] := by
  cases d <;> simp [D.scal] at h <;> (subst h; unfold Rep; exact ⟨rfl, rfl⟩)
theorem Hs.addC {w : Wd} {I F H : Hp} {ds : List D} {vs : List V} {d : D} {v : V} (h : Hs w I F ds vs H) (e : d.scal = some v) : Hs w I F (d :: ds) (v :: vs) H := by
  obtain ⟨fp, r, nd, dj⟩ := h.ex
  exact h.of_sub (RepL.cons (f1 := []) (Rep.of_scal e) r) r nd dj nd fun a m => m
theorem z_c {e : Expr} {d : D} {v : V} (h : PE Γ e (tC v)) (hd : d.scal = some v) : PE Γ e (tE X W (mC d)) := PEi h fun σ H Q h => by
  obtain ⟨I, F, env, hs, er, o⟩ := h
  exact o v I H (Le.refl I) (hs.addC hd) er
theorem z_int {i j pos} : PE Γ (.Constant (.int i) j pos) (tE X W (mC (.int i))) := z_c pe_int rfl
theorem z_bl {b j pos} : PE Γ (.Constant (.bool b) j pos) (tE X W (mC (.bl b))) := z_c pe_bl rfl
theorem z_non {j pos} : PE Γ (.Constant .none j pos) (tE X W (mC .non)) := z_c pe_non rfl
theorem z_str {x j pos} : PE Γ (.Constant (.str x) j pos) (tE X W (mC (.str x))) := z_c pe_str rfl

/-! ### operands: values, and names that are looked at without being given up -/
inductive Opd where
  | val (m : M) | peek (i : Nat)
inductive AsR where
  | ok (ds : List D) (e : Env) | exc (c : Str) (ns : List Str) (xs : List D) (e : Env) | bad
def evA : List Opd → Env → AsR
  | [], env => .ok [] env
  | .val m :: ops, env => match m env with
    | .ok r e1 => (match evA ops e1 with
      | .ok ds e2 => .ok (r :: ds) e2
      | .exc c ns xs e2 => .exc c ns xs e2
      | .bad => .bad)
    | .exc c ns xs e1 => .exc c ns xs e1
    | .bad => .bad
  | .peek i :: ops, env => match env[i]? with
    | none => .bad
    | some d0 => if d0.isAny then .bad else match evA ops env with
      | .ok ds e1 => (match e1[i]? with
        | none => .bad
        | some d => if d.isAny then .bad else .ok (d :: ds) (e1.set i .any))
      | .exc c ns xs e1 => .exc c ns xs e1
      | .bad => .bad
/-- the operands' names get back what they had (or what it became) -/
def putA : List Opd → List D → Env → Env
  | .peek i :: ops, d :: ds, env => (putA ops ds env).set i d
  | .val _ :: ops, _ :: ds, env => putA ops ds env
  | _, _, env => env
/-- which names the values at hand are those of -/
def PkOk (σ : L2.St) : List Opd → List V → Prop
  | [], vs => vs = []
  | .val _ :: ops, vs => ∃ v us, vs = v :: us ∧ PkOk σ ops us
  | .peek i :: ops, vs => ∃ v us, vs = v :: us ∧ σ[i]? = some (some v) ∧ PkOk σ ops us
def OutA (X : Fx) (W : WX) (I F : Hp) (σ : L2.St) (ops : List Opd) (Q : List V → Hp → Prop) : AsR → Prop
  | .ok ds env' => ∀ vs I' H', Le I I' → Hs X.w I' F (ds ++ env') (vs ++ σv σ) H' → ds.length = vs.length → EnvR X σ env' → PkOk σ ops vs → Q vs H'
  | .exc c ns xs env' => ∀ cls d I' H', Le I I' → Hs X.w I' F env' (σv σ) H' → EnvR X σ env' → XRep X.w I' cls d c ns xs → W cls d σ H'
  | .bad => False
def tA (X : Fx) (W : WX) (ops : List Opd) : TA := fun σ H Q => ∃ I F env, Hs X.w I F env (σv σ) H ∧ EnvR X σ env ∧ OutA X W I F σ ops Q (evA ops env)
def tO (X : Fx) (W : WX) : Opd → TE
  | .val m => tE X W m
  | .peek i => tVar i
def tOs (X : Fx) (W : WX) : List Opd → TA
  | [] => tNil
  | o :: ops => tCons (tO X W o) (tOs X W ops)
theorem XRep.mono {w : Wd} {I J : Hp} {cls : Value} {d : Option Addr} {c : Str} {ns : List Str} {xs : List D} (e : Le I J) (h : XRep w I cls d c ns xs) : XRep w J cls d c ns xs := by
  obtain ⟨h1, dd, vs, h2, h3, h4⟩ := h
  exact ⟨h1, dd, vs, h2, e _ _ h3, RepL.frame e xs vs [] (fun a m => nomatch m) h4⟩
theorem ops_run : ∀ (ops : List Opd) (σ : L2.St) (H : Hp) (Q : List V → Hp → Prop), tA X W ops σ H Q → tOs X W ops σ H Q
  | [], σ, H, Q, h => by
    obtain ⟨I, F, env, hs, er, o⟩ := h
    exact o [] I H (Le.refl I) hs rfl er rfl
  | .val m :: ops, σ, H, Q, h => by
    obtain ⟨I, F, env, hs, er, o⟩ := h
    unfold evA at o
    refine ⟨I, F, env, hs, er, ?_⟩
    cases hm : m env with
    | bad => simp only [hm] at o; exact o.elim
    | exc c ns xs e1 =>
      simp only [hm] at o
      exact o
    | ok r e1 =>
      simp only [hm] at o
      intro v I1 H1 le1 hs1 er1
      obtain ⟨G, hg, back⟩ := Hs.push (ds := [r]) (vs := [v]) hs1 rfl
      refine ops_run ops σ H1 _ ⟨I1, G, e1, hg, er1, ?_⟩
      cases ha : evA ops e1 with
      | bad => simp only [ha] at o; exact o.elim
      | exc c ns xs e2 =>
        simp only [ha] at o
        intro cls d I2 H2 le2 hs2 er2 x2
        exact o cls d I2 H2 (le1.trans le2) (back I2 _ _ H2 le2 hs2).drop er2 x2
      | ok ds e2 =>
        simp only [ha] at o
        intro vs I2 H2 le2 hs2 hl er2 pk
        exact o (v :: vs) I2 H2 (le1.trans le2) (back I2 _ _ H2 le2 hs2) (by simp [hl]) er2 ⟨v, vs, rfl, pk⟩
  | .peek i :: ops, σ, H, Q, h => by
    obtain ⟨I, F, env, hs, er, o⟩ := h
    unfold evA at o
    cases hd : env[i]? with
    | none => rw [hd] at o; exact o.elim
    | some d0 =>
      rw [hd] at o
      cases hn : d0.isAny with
      | true => simp [hn] at o; exact o.elim
      | false =>
        simp [hn] at o
        obtain ⟨v, hv⟩ := er.on i d0 hd (isAny_iff.mp hn)
        refine ⟨v, hv, ops_run ops σ H _ ⟨I, F, env, hs, er, ?_⟩⟩
        cases ha : evA ops env with
        | bad => simp only [ha] at o; exact o.elim
        | exc c ns xs e2 => simp only [ha] at o; exact o
        | ok ds e1 =>
          simp only [ha] at o
          cases he : e1[i]? with
          | none => simp [he] at o; exact o.elim
          | some d =>
            cases hn2 : d.isAny with
            | true => simp [he, hn2] at o; exact o.elim
            | false =>
            simp [he, hn2] at o
            intro vs I2 H2 le2 hs2 hl er2 pk
            obtain ⟨v', ev', hs3⟩ := Hs.take hs2 hl he
            obtain rfl : v' = v := Option.some.inj (ev'.symm.trans (σv_at hv))
            exact o (v' :: vs) I2 H2 le2 hs3 (by simp [hl]) (er2.set he (fun h => absurd rfl h)) ⟨v', vs, rfl, hv, pk⟩
end
end Z

set_option Elab.async false
set_option linter.all false
set_option maxRecDepth 100000
set_option maxHeartbeats 4000000
/-! ZC: operations on operands: one rule for all. -/
namespace Z
open PySem PySem.Spec PyProof.Rows L2

section
variable {w : Wd} {I F H : Hp} {ds es : List D} {vs us : List V} {d : D} {v : V}
theorem Hs.comm (h : Hs w I F (ds ++ es) (vs ++ us) H) (hl : ds.length = vs.length) : Hs w I F (es ++ ds) (us ++ vs) H := by
  obtain ⟨fp, r, nd, dj⟩ := h.ex
  obtain ⟨f1, f2, rfl, r1, r2⟩ := r.split hl
  have p : List.Perm (f1 ++ f2) (f2 ++ f1) := List.perm_append_comm
  exact h.of_sub (r2.append r1) r nd dj (p.nodup_iff.mp nd) fun a m => p.symm.subset m
theorem Hs.front (h : Hs w I F (ds ++ d :: es) (vs ++ v :: us) H) (hl : ds.length = vs.length) : Hs w I F (d :: (ds ++ es)) (v :: (vs ++ us)) H := by
  obtain ⟨fp, r, nd, dj⟩ := h.ex
  obtain ⟨f1, f2, rfl, r1, r2⟩ := r.split hl
  obtain ⟨f3, f4, rfl, r3, r4⟩ := r2.out
  have p : List.Perm (f1 ++ (f3 ++ f4)) (f3 ++ (f1 ++ f4)) := by
    rw [← List.append_assoc, ← List.append_assoc]
    exact List.Perm.append_right f4 List.perm_append_comm
  exact h.of_sub (.cons r3 (r1.append r4)) r nd dj (p.nodup_iff.mp nd) fun a m => p.symm.subset m
theorem Hs.setAt {i : Nat} (h : Hs w I F (d :: (ds ++ es)) (v :: (vs ++ us)) H) (hl : ds.length = vs.length) (hi : i < es.length) (hv : us[i]? = some v) : Hs w I F (ds ++ es.set i d) (vs ++ us) H := by
  have z := h.set (i := ds.length + i) (by rw [List.length_append]; omega)
  rw [List.set_append_right _ _ (by omega), List.set_append_right _ _ (by omega)] at z
  rw [show ds.length + i - ds.length = i by omega, show ds.length + i - vs.length = i by omega] at z
  have e : us.set i v = us := by
    apply List.ext_getElem?
    intro j
    by_cases q : i = j
    · subst q
      have lt : i < us.length := (List.getElem?_eq_some_iff.mp hv).1
      rw [List.getElem?_set_self lt, hv]
    · rw [List.getElem?_set_ne q]
  rw [e] at z
  exact z
end

/-- an operation r on values does f on trees -/
def OutO (w : Wd) (I F : Hp) (es0 : List D) (us : List V) (Q : VK) (E : XK) : ORes → Prop
  | .ok rd es => ∀ z I' H', Le I I' → Hs w I' F (rd :: es) (z :: us) H' → Q z H'
  | .exc c ns xs es => ∀ cls d I' H', Le I I' → Hs w I' F es us H' → XRep w I' cls d c ns xs → E cls d H'
  | .bad => False
abbrev RN := List V → Hp → VK → XK → Prop
def OpD (w : Wd) (r : RN) (f : Op) : Prop := ∀ I F es us H Q E, Hs w I F es us H → OutO w I F es us Q E (f es) → r us H Q E

def mApp (f : Op) (ops : List Opd) : M := fun env => match evA ops env with
  | .ok ds e1 => (match f ds with
    | .ok r es => .ok r (putA ops es e1)
    | .exc c ns xs es => .exc c ns xs (putA ops es e1)
    | .bad => .bad)
  | .exc c ns xs e1 => .exc c ns xs e1
  | .bad => .bad

section
variable {Γ : Cx} {X : Fx} {W : WX}
theorem pk_len : ∀ {ops : List Opd} {us : List V} {σ : L2.St}, PkOk σ ops us → ops.length = us.length
  | [], us, σ, h => by rw [h]; rfl
  | .val m :: ops, us, σ, h => by obtain ⟨v, u, rfl, h⟩ := h; rw [List.length_cons, List.length_cons, pk_len h]
  | .peek i :: ops, us, σ, h => by obtain ⟨v, u, rfl, _, h⟩ := h; rw [List.length_cons, List.length_cons, pk_len h]
theorem σv_len (σ : L2.St) : (σv σ).length = σ.length := List.length_map _
theorem hs_put {w : Wd} {I F H : Hp} {σ : L2.St} : ∀ (ops : List Opd) (us : List V) (es env : List D) (pre : List D) (prev : List V), PkOk σ ops us → es.length = us.length → pre.length = prev.length →
    Hs w I F (pre ++ (es ++ env)) (prev ++ (us ++ σv σ)) H → Hs w I F (pre ++ putA ops es env) (prev ++ σv σ) H
  | [], us, es, env, pre, prev, pk, hl, hp, h => by
    have e1 : us = [] := pk
    subst e1
    have e2 : es = [] := List.length_eq_zero_iff.mp hl
    subst e2
    exact h
  | .val m :: ops, us, es, env, pre, prev, pk, hl, hp, h => by
    obtain ⟨v, u, rfl, pk⟩ := pk
    cases es with
    | nil => cases hl
    | cons d ds =>
      have h2 := (Hs.front (d := d) (v := v) h hp).drop
      exact hs_put ops u ds env pre prev pk (by simpa using hl) hp h2
  | .peek i :: ops, us, es, env, pre, prev, pk, hl, hp, h => by
    obtain ⟨v, u, rfl, hv, pk⟩ := pk
    cases es with
    | nil => cases hl
    | cons d ds =>
      have h2 := Hs.front (d := d) (v := v) h hp
      have h3 := hs_put ops u ds env (d :: pre) (v :: prev) pk (by simpa using hl) (by simp [hp]) h2
      have lt : i < (putA ops ds env).length := by
        have l1 := h3.length
        have l2 : i < σ.length := (List.getElem?_eq_some_iff.mp hv).1
        rw [List.length_append, List.length_append, σv_len] at l1
        simp at l1
        omega
      exact Hs.setAt (d := d) (v := v) h3 hp lt (σv_at hv)
theorem er_put {σ : L2.St} : ∀ (ops : List Opd) (us : List V) (es env : List D), PkOk σ ops us → EnvR X σ env → EnvR X σ (putA ops es env)
  | [], us, es, env, pk, h => by
    unfold putA; exact h
  | .val m :: ops, us, [], env, pk, h => by
    unfold putA; exact h
  | .peek i :: ops, us, [], env, pk, h => by
    unfold putA; exact h
  | .val m :: ops, us, d :: ds, env, pk, h => by
    obtain ⟨v, u, rfl, pk⟩ := pk
    exact er_put ops u ds env pk h
  | .peek i :: ops, us, d :: ds, env, pk, h => by
    obtain ⟨v, u, rfl, hv, pk⟩ := pk
    have h2 := er_put ops u ds env pk h
    refine ⟨fun j e hj hne => ?_, h2.pin⟩
    by_cases q : i = j
    · subst q
      exact ⟨v, hv⟩
    · have hj2 : ((putA ops ds env).set i d)[j]? = some e := hj
      rw [List.getElem?_set_ne q] at hj2
      exact h2.on j e hj2 hne
/-- operands, then an operation -/
theorem app_run {r : RN} {f : Op} (o : OpD X.w r f) {ops : List Opd} {σ : L2.St} {H : Hp} {Q : VK} (h : tE X W (mApp f ops) σ H Q) : tOs X W ops σ H fun us H1 => r us H1 Q (fun cls d H2 => W cls d σ H2) := by
  obtain ⟨I, F, env, hs, er, out⟩ := h
  refine ops_run ops σ H _ ⟨I, F, env, hs, er, ?_⟩
  unfold mApp at out
  cases ha : evA ops env with
  | bad => simp only [ha] at out; exact out.elim
  | exc c ns xs e1 => simp only [ha] at out; exact out
  | ok ds e1 =>
    simp only [ha] at out
    intro us I1 H1 le1 hs1 hl er1 pk
    have hs1' := hs1.comm hl
    have len2 : e1.length = (σv σ).length := by
      have := hs1.length
      rw [List.length_append, List.length_append] at this
      omega
    obtain ⟨G, hg, back⟩ := Hs.push hs1' len2
    refine o I1 G ds us H1 Q _ hg ?_
    cases hf : f ds with
    | bad => simp only [hf] at out; exact out.elim
    | ok rd es =>
      simp only [hf] at out
      intro z I2 H2 le2 hs2
      have hl2 : es.length = us.length := by
        have := hs2.length
        simpa using this
      have hs3 := (back I2 (rd :: es) (z :: us) H2 le2 hs2).comm len2
      refine out z I2 H2 (le1.trans le2) (hs_put ops us es e1 [rd] [z] pk hl2 rfl hs3) (er_put ops us es e1 pk er1)
    | exc c ns xs es =>
      simp only [hf] at out
      intro cls d I2 H2 le2 hs2 x2
      have hl2 : es.length = us.length := hs2.length
      have hs3 := (back I2 es us H2 le2 hs2).comm len2
      exact out cls d I2 H2 (le1.trans le2) (hs_put ops us es e1 [] [] pk hl2 rfl hs3) (er_put ops us es e1 pk er1) x2

/-! ### the shapes of the layer -/
theorem pe_opd {x : Str} {pos : Pos} {i : Nat} (h : PE Γ (.Name x pos) (tVar i)) : PE Γ (.Name x pos) (tO X W (.peek i)) := h
theorem pe_val {e : Expr} {m : M} (h : PE Γ e (tE X W m)) : PE Γ e (tO X W (.val m)) := h
theorem pa_z0 : PA Γ [] (tOs X W []) := pa_nil
theorem pa_z {e : Expr} {es : List Expr} {o : Opd} {ops : List Opd} (h : PE Γ e (tO X W o)) (hs : PA Γ es (tOs X W ops)) (hst : starEach (e :: es) Γ.env = (false, eval e Γ.env) :: starEach es Γ.env := by rfl) : PA Γ (e :: es) (tOs X W (o :: ops)) := pa_cons h hs hst
def r1 (r : V → Hp → VK → Prop) : RN := fun us H Q _ => match us with
  | [x] => r x H Q
  | _ => False
def r2 (r : R2) : RN := fun us H Q _ => match us with
  | [x, y] => r x y H Q
  | _ => False
def rN (r : List V → Hp → VK → Prop) : RN := fun us H Q _ => r us H Q
theorem z_op {op : Operator} {a b : Expr} {pos : Pos} {oa ob : Opd} {r : R2} {f : Op} (ho : OpR Γ (binaryOp op) r) (o : OpD X.w (r2 r) f) (ha : PE Γ a (tO X W oa)) (hb : PE Γ b (tO X W ob)) : PE Γ (.BinOp a op b pos) (tE X W (mApp f [oa, ob])) :=
  PEi (pe_op ho ha hb) fun σ H Q h => app_run o h
theorem z_cmp {op : CmpOp} {a b : Expr} {pos : Pos} {oa ob : Opd} {r : R2} {f : Op} (ho : OpR Γ (compareOp op) r) (o : OpD X.w (r2 r) f) (ha : PE Γ a (tO X W oa)) (hb : PE Γ b (tO X W ob)) (hm : behindInMarks op b = false) : PE Γ (.Compare a [op] [b] pos) (tE X W (mApp f [oa, ob])) :=
  PEi (pe_cmpR ho ha hb hm) fun σ H Q h => app_run o h
theorem z_un {op : UnaryOp} {a : Expr} {pos : Pos} {oa : Opd} {r : V → Hp → VK → Prop} {f : Op} (ho : UnR Γ (unaryOp op) r) (o : OpD X.w (r1 r) f) (ha : PE Γ a (tO X W oa)) : PE Γ (.UnaryOp op a pos) (tE X W (mApp f [oa])) :=
  PEi (pe_un ho ha) fun σ H Q h => app_run o h
theorem z_ix {a b : Expr} {pos : Pos} {oa ob : Opd} {r : R2} {f : Op} (hr : IxR Γ r) (o : OpD X.w (r2 r) f) (ha : PE Γ a (tO X W oa)) (hb : PE Γ b (tO X W ob)) (hs : PlainIx b) : PE Γ (.Subscript a b pos) (tE X W (mApp f [oa, ob])) :=
  PEi (pe_ix hr ha hb hs) fun σ H Q h => app_run o h
theorem z_callB {x : Str} {p pos : Pos} {id : String} {e : Expr} {es : List Expr} {ops : List Opd} {r : List V → Hp → VK → Prop} {f : Op} (hc : CallR Γ (.builtin id) r) (o : OpD X.w (rN r) f) (hg : Gl Γ x) (hm : Γ.mg x = none) (hv : bootBuiltins x = some (.builtin id)) (ha : PA Γ (e :: es) (tOs X W ops)) (hn : x ≠ "__name__" := by decide) (hdb : (x == ("__debug__" : Str)) = false := by decide)
    (he : starEach (e :: es) Γ.env = (false, eval e Γ.env) :: starEach es Γ.env := by rfl) (hpl : (backTo pos (starEach es Γ.env)).any (·.1) = false := by rfl) : PE Γ (.Call (.Name x p) (e :: es) [] pos) (tE X W (mApp f ops)) :=
  PEi (pe_callB hc hg hm hv ha hn hdb he hpl) fun σ H Q h => app_run o h
theorem z_callTy {x : Str} {p pos : Pos} {T : String} {e : Expr} {es : List Expr} {ops : List Opd} {r : List V → Hp → VK → Prop} {f : Op} (hc : CallR Γ (.type T) r) (o : OpD X.w (rN r) f) (hg : Gl Γ x) (hm : Γ.mg x = none) (hv : bootBuiltins x = some (.type T)) (ha : PA Γ (e :: es) (tOs X W ops)) (hn : x ≠ "__name__" := by decide) (hdb : (x == ("__debug__" : Str)) = false := by decide)
    (he : starEach (e :: es) Γ.env = (false, eval e Γ.env) :: starEach es Γ.env := by rfl) (hpl : (backTo pos (starEach es Γ.env)).any (·.1) = false := by rfl) : PE Γ (.Call (.Name x p) (e :: es) [] pos) (tE X W (mApp f ops)) :=
  PEi (pe_callTy hc hg hm hv ha hn hdb he hpl) fun σ H Q h => app_run o h
end
/-- nothing is held of them -/
theorem Hs.anys {w : Wd} {I F H : Hp} {ds : List D} {vs : List V} (h : Hs w I F ds vs H) : ∀ us : List V, Hs w I F (us.map (fun _ => D.any) ++ ds) (us ++ vs) H
  | [] => h
  | u :: us => by
    have h1 := Hs.anys h us
    obtain ⟨fp, r, nd, dj⟩ := h1.ex
    exact h1.of_sub (RepL.cons (d := .any) (v := u) (f1 := []) (by unfold Rep; rfl) r) r nd dj nd fun a m => m
theorem map_any {ds : List D} {us : List V} (h : ds.length = us.length) : ds.map (fun _ => D.any) = us.map (fun _ => D.any) := by
  rw [List.map_const', List.map_const', h]
theorem ite_out {w : Wd} {I F : Hp} {es0 : List D} {us : List V} {Q : VK} {E : XK} {c : Prop} [Decidable c] {a : ORes} (h : OutO w I F es0 us Q E (if c then a else .bad)) : c ∧ OutO w I F es0 us Q E a := by
  by_cases q : c
  · rw [if_pos q] at h; exact ⟨q, h⟩
  · rw [if_neg q] at h; exact h.elim
theorem szO {n : Nat} (h : n ≤ 100000) : n ≤ sizeLine := Nat.le_trans h (by decide)
theorem szL {n : Nat} (h : n < 100000) : n < sizeLine := Nat.lt_of_lt_of_le h (by decide)
section
variable {w : Wd}
/-! displays -/
def oTup : Op := fun ds => if ds.length ≤ 100000 then .ok (.node .tup ds) (ds.map fun _ => .any) else .bad
def oLst : Op := fun ds => if ds.length ≤ 100000 then .ok (.node (.lst true) ds) (ds.map fun _ => .any) else .bad
def rTup : RN := fun xs H Q _ => xs.length ≤ sizeLine ∧ ∀ p, H p = none → Q (.ref p) (upd H p (.tup xs))
def rLst : RN := fun xs H Q _ => xs.length ≤ sizeLine ∧ ∀ p, H p = none → Q (.ref p) (upd H p (.lst xs))
/-- all of the operands go into a new tuple -/
theorem Hs.tupOf {I F H : Hp} {es : List D} {us : List V} {p : Addr} (hs : Hs w I F es us H) (np : H p = none) : Le I (upd I p (.tup us)) ∧ Hs w (upd I p (.tup us)) F (.node .tup es :: es.map fun _ => .any) (.ref p :: us) (upd H p (.tup us)) := by
  have hl := hs.length
  obtain ⟨le, h2⟩ := Hs.newT (ds := []) (vs := []) (xs := es) (us := us) (by simpa using hs) hl np
  refine ⟨le, ?_⟩
  have h3 := (h2.anys us).comm (by simp)
  rw [map_any hl]
  exact h3
theorem Hs.lstOf {I F H : Hp} {es : List D} {us : List V} {p : Addr} (hs : Hs w I F es us H) (np : H p = none) : Hs w I F (.node (.lst true) es :: es.map fun _ => .any) (.ref p :: us) (upd H p (.lst us)) := by
  have hl := hs.length
  have h2 := Hs.newO (t := .lst true) (ds := []) (vs := []) (xs := es) (us := us) (o := .lst us) (by simpa using hs) hl np rfl trivial (show upd H p (.lst us) p = some (.lst us) from upd_same)
  have h3 := (h2.anys us).comm (by simp)
  rw [map_any hl]
  exact h3
theorem od_tup : OpD w rTup oTup := fun I F es us H Q E hs o => by
  obtain ⟨hz, o⟩ := ite_out o
  have hl := hs.length
  exact ⟨szO (by omega), fun p np => o (.ref p) _ _ (hs.tupOf np).1 (hs.tupOf np).2⟩
theorem od_lst : OpD w rLst oLst := fun I F es us H Q E hs o => by
  obtain ⟨hz, o⟩ := ite_out o
  have hl := hs.length
  exact ⟨szO (by omega), fun p np => o (.ref p) I _ (Le.refl I) (hs.lstOf np)⟩

/-! operations that look at their operands and give a flat value -/
def op1 (f : D → Option D) : Op
  | [d] => (match f d with
    | some z => .ok z [d]
    | none => .bad)
  | _ => .bad
def op2 (f : D → D → Option D) : Op
  | [d, e] => (match f d e with
    | some z => .ok z [d, e]
    | none => .bad)
  | _ => .bad
theorem od1 {r : RN} {f : D → Option D} (k : ∀ I F H d v z, Hs w I F [d] [v] H → f d = some z → ∃ zv, z.scal = some zv ∧ ∀ Q E, Q zv H → r [v] H Q E) : OpD w r (op1 f) := fun I F es us H Q E hs o => by
  match es, us, hs.length, hs, o with
  | [d], [v], _, hs, o =>
    unfold op1 at o
    cases e : f d with
    | none => simp only [e] at o; exact o.elim
    | some z =>
      simp only [e] at o
      obtain ⟨zv, hz, q⟩ := k I F H d v z hs e
      exact q Q E (o zv I H (Le.refl I) (hs.addC hz))
  | [], _, _, _, o => exact o.elim
  | _ :: _ :: _, _, _, _, o => exact o.elim
theorem od2 {r : RN} {f : D → D → Option D} (k : ∀ I F H d e v u z, Hs w I F [d, e] [v, u] H → f d e = some z → ∃ zv, z.scal = some zv ∧ ∀ Q E, Q zv H → r [v, u] H Q E) : OpD w r (op2 f) := fun I F es us H Q E hs o => by
  match es, us, hs.length, hs, o with
  | [d, g], [v, u], _, hs, o =>
    unfold op2 at o
    cases e : f d g with
    | none => simp only [e] at o; exact o.elim
    | some z =>
      simp only [e] at o
      obtain ⟨zv, hz, q⟩ := k I F H d g v u z hs e
      exact q Q E (o zv I H (Le.refl I) (hs.addC hz))
  | [], _, _, _, o => exact o.elim
  | [_], _, _, _, o => exact o.elim
  | _ :: _ :: _ :: _, _, _, _, o => exact o.elim
/-- what a flat tree stands for -/
theorem Hs.scal {I F H : Hp} {ds : List D} {vs : List V} {d : D} {v x : V} (h : Hs w I F (d :: ds) (v :: vs) H) (e : d.scal = some x) : v = x := by
  obtain ⟨fp, r⟩ := h.head
  cases d <;> simp [D.scal] at e <;> (subst e; unfold Rep at r; exact r.1)
theorem Hs.scal2 {I F H : Hp} {ds : List D} {vs : List V} {d d2 : D} {v v2 x : V} (h : Hs w I F (d :: d2 :: ds) (v :: v2 :: vs) H) (e : d2.scal = some x) : v2 = x := h.drop.scal e

end
end Z

set_option Elab.async false
set_option linter.all false
set_option maxRecDepth 100000
set_option maxHeartbeats 4000000
/-! ZD: what each operation of Python does on trees. -/
namespace Z
open PySem PySem.Spec PyProof.Rows L2
section
variable {w : Wd}
/-! ### ints -/
def onInt (g : Int → Int → Option D) (d e : D) : Option D := match d, e with
  | .int i, .int j => g i j
  | _, _ => none
theorem onInt_some {g : Int → Int → Option D} {d e z : D} (h : onInt g d e = some z) : ∃ i j, d = .int i ∧ e = .int j ∧ g i j = some z := by
  unfold onInt at h
  split at h
  · exact ⟨_, _, rfl, rfl, h⟩
  · cases h
theorem od_int2 {r : R2} {g : Int → Int → Option D} (k : ∀ i j z, g i j = some z → ∃ zv, z.scal = some zv ∧ ∀ H Q, Q zv H → r (.int i) (.int j) H Q) : OpD w (r2 r) (op2 (onInt g)) := od2 fun I F H d e v u z hs h => by
  obtain ⟨i, j, rfl, rfl, h⟩ := onInt_some h
  obtain ⟨zv, hz, q⟩ := k i j z h
  rw [hs.scal rfl, hs.scal2 rfl]
  exact ⟨zv, hz, fun Q E hq => q H Q hq⟩
abbrev oAdd : Op := op2 (onInt fun i j => some (.int (i + j)))
abbrev oSub : Op := op2 (onInt fun i j => some (.int (i - j)))
instance (i j : Int) : Decidable (CMul i j) := by unfold CMul; exact inferInstance
instance (i j : Int) : Decidable (CPow i j) := by unfold CPow; exact inferInstance
instance (i j : Int) : Decidable (CDivN i j) := by unfold CDivN; exact inferInstance
abbrev oMul : Op := op2 (onInt fun i j => if CMul i j then some (.int (i * j)) else none)
abbrev oDiv : Op := op2 (onInt fun i j => if CDivN i j then some (.int (i.fdiv j)) else none)
abbrev oMod : Op := op2 (onInt fun i j => if j ≠ 0 then some (.int (i.fmod j)) else none)
abbrev oPow : Op := op2 (onInt fun i j => if CPow i j then some (.int (i ^ j.toNat)) else none)
theorem ifs {α : Type} {c : Prop} [Decidable c] {a : α} {z : α} (h : (if c then some a else none) = some z) : c ∧ a = z := by
  by_cases q : c
  · rw [if_pos q] at h; exact ⟨q, Option.some.inj h⟩
  · rw [if_neg q] at h; cases h
theorem od_add : OpD w (r2 (rI0 fun i j => .int (i + j))) oAdd := od_int2 fun i j z h => by cases h; exact ⟨_, rfl, fun H Q q => ⟨i, j, rfl, rfl, q⟩⟩
theorem od_sub : OpD w (r2 (rI0 fun i j => .int (i - j))) oSub := od_int2 fun i j z h => by cases h; exact ⟨_, rfl, fun H Q q => ⟨i, j, rfl, rfl, q⟩⟩
theorem od_mul : OpD w (r2 (rI CMul fun i j => .int (i * j))) oMul := od_int2 fun i j z h => by obtain ⟨c, rfl⟩ := ifs h; exact ⟨_, rfl, fun H Q q => ⟨i, j, rfl, rfl, c, q⟩⟩
theorem od_div : OpD w (r2 (rI CDivN fun i j => .int (i.fdiv j))) oDiv := od_int2 fun i j z h => by obtain ⟨c, rfl⟩ := ifs h; exact ⟨_, rfl, fun H Q q => ⟨i, j, rfl, rfl, c, q⟩⟩
theorem od_mod : OpD w (r2 (rI (fun _ j => j ≠ 0) fun i j => .int (i.fmod j))) oMod := od_int2 fun i j z h => by obtain ⟨c, rfl⟩ := ifs h; exact ⟨_, rfl, fun H Q q => ⟨i, j, rfl, rfl, c, q⟩⟩
theorem od_pow : OpD w (r2 (rI CPow fun i j => .int (i ^ j.toNat))) oPow := od_int2 fun i j z h => by obtain ⟨c, rfl⟩ := ifs h; exact ⟨_, rfl, fun H Q q => ⟨i, j, rfl, rfl, c, q⟩⟩
abbrev oLt : Op := op2 (onInt fun i j => some (.bl (decide (i < j))))
abbrev oLe : Op := op2 (onInt fun i j => some (.bl (decide (i ≤ j))))
abbrev oGt : Op := op2 (onInt fun i j => some (.bl (decide (j < i))))
abbrev oGe : Op := op2 (onInt fun i j => some (.bl (decide (j ≤ i))))
theorem od_lt : OpD w (r2 (rI0 fun i j => .bl (decide (i < j)))) oLt := od_int2 fun i j z h => by cases h; exact ⟨_, rfl, fun H Q q => ⟨i, j, rfl, rfl, q⟩⟩
theorem od_le : OpD w (r2 (rI0 fun i j => .bl (decide (i ≤ j)))) oLe := od_int2 fun i j z h => by cases h; exact ⟨_, rfl, fun H Q q => ⟨i, j, rfl, rfl, q⟩⟩
theorem od_gt : OpD w (r2 (rI0 fun i j => .bl (decide (j < i)))) oGt := od_int2 fun i j z h => by cases h; exact ⟨_, rfl, fun H Q q => ⟨i, j, rfl, rfl, q⟩⟩
theorem od_ge : OpD w (r2 (rI0 fun i j => .bl (decide (j ≤ i)))) oGe := od_int2 fun i j z h => by cases h; exact ⟨_, rfl, fun H Q q => ⟨i, j, rfl, rfl, q⟩⟩
def onI1 (g : Int → Option D) (d : D) : Option D := match d with
  | .int i => g i
  | _ => none
theorem onI1_some {g : Int → Option D} {d z : D} (h : onI1 g d = some z) : ∃ i, d = .int i ∧ g i = some z := by
  unfold onI1 at h
  split at h
  · exact ⟨_, rfl, h⟩
  · cases h
abbrev oNeg : Op := op1 (onI1 fun i => some (.int (-i)))
theorem od_neg : OpD w (r1 (rU fun i => .int (-i))) oNeg := od1 fun I F H d v z hs h => by
  obtain ⟨i, rfl, h⟩ := onI1_some h
  cases h
  rw [hs.scal rfl]
  exact ⟨_, rfl, fun Q E q => ⟨i, rfl, q⟩⟩
abbrev oAbs : Op := op1 (onI1 fun i => some (.int (if i < 0 then -i else i)))
theorem od_abs : OpD w (rN fun xs H Q => ∃ i, xs = [.int i] ∧ Q (.int (if i < 0 then -i else i)) H) oAbs := od1 fun I F H d v z hs h => by
  obtain ⟨i, rfl, h⟩ := onI1_some h
  cases h
  rw [hs.scal rfl]
  exact ⟨_, rfl, fun Q E q => ⟨i, rfl, q⟩⟩
abbrev oMax2 : Op := op2 (onInt fun i j => some (.int (if j > i then j else i)))
abbrev oMin2 : Op := op2 (onInt fun i j => some (.int (if j < i then j else i)))
theorem od_max2 : OpD w (rN fun xs H Q => ∃ i j, xs = [.int i, .int j] ∧ Q (.int (if j > i then j else i)) H) oMax2 := od2 fun I F H d e v u z hs h => by
  obtain ⟨i, j, rfl, rfl, h⟩ := onInt_some h
  cases h
  rw [hs.scal rfl, hs.scal2 rfl]
  exact ⟨_, rfl, fun Q E q => ⟨i, j, rfl, q⟩⟩
theorem od_min2 : OpD w (rN fun xs H Q => ∃ i j, xs = [.int i, .int j] ∧ Q (.int (if j < i then j else i)) H) oMin2 := od2 fun I F H d e v u z hs h => by
  obtain ⟨i, j, rfl, rfl, h⟩ := onInt_some h
  cases h
  rw [hs.scal rfl, hs.scal2 rfl]
  exact ⟨_, rfl, fun Q E q => ⟨i, j, rfl, q⟩⟩
def intOf : D → Option D
  | .int i => some (.int i)
  | .bl b => some (.int (if b then 1 else 0))
  | _ => none
theorem od_int : OpD w (rN fun xs H Q => (∃ i, xs = [.int i] ∧ Q (.int i) H) ∨ ∃ k, xs = [.bl k] ∧ Q (.int (if k then 1 else 0)) H) (op1 intOf) := od1 fun I F H d v z hs h => by
  unfold intOf at h
  split at h
  · cases h
    rw [hs.scal rfl]
    exact ⟨_, rfl, fun Q E q => .inl ⟨_, rfl, q⟩⟩
  · cases h
    rw [hs.scal rfl]
    exact ⟨_, rfl, fun Q E q => .inr ⟨_, rfl, q⟩⟩
  · cases h
/-! ### lists and tuples looked at -/
/-- the items of a list or a tuple -/
def D.seq : D → Option (List D)
  | .node .tup xs => some xs
  | .node .tux xs => some xs
  | .node .scr xs => some xs
  | .node (.lst _) xs => some xs
  | _ => none
/-- a list or a tuple opened for looking: what stands there, and its items as they are -/
theorem Hs.seq {I F H : Hp} {ds : List D} {vs : List V} {d : D} {v : V} {xs : List D} (h : Hs w I F (d :: ds) (v :: vs) H) (e : d.seq = some xs) :
    ∃ a us, v = .ref a ∧ (SqL w.K H a us ∨ SqT w.K H a us) ∧ (∀ o, d = .node (.lst o) xs → H a = some (.lst us)) ∧ (d = .node .tup xs ∨ d = .node .tux xs → SqT w.K I a us) ∧ xs.length = us.length ∧ (∃ fp, RepL w I H xs us fp) ∧ Hs w I F (xs ++ ds) (us ++ vs) H := by
  obtain ⟨fp, r, nd, dj⟩ := h.ex
  obtain ⟨f1, f2, rfl, rr1, rr2⟩ := r.out
  have leI := h.iH
  cases d with
  | node t ys =>
    have rr := rr1
    unfold Rep at rr
    obtain ⟨a, us, fp', rfl, hl, hf, q⟩ := rr
    have hxs : ys = xs := by cases t <;> simp [D.seq] at e <;> exact e
    subst hxs
    have sub : ∀ b ∈ fp', b ∈ f1 := by
      rcases q with ⟨_, _, rfl⟩ | ⟨_, _, rfl⟩
      · exact fun b m => List.mem_cons_of_mem _ m
      · exact fun b m => m
    have nd' : fp'.Nodup := by
      rcases q with ⟨_, _, rfl⟩ | ⟨_, _, rfl⟩
      · exact (List.nodup_cons.mp (List.nodup_append.mp nd).1).2
      · exact (List.nodup_append.mp nd).1
    have h2 : Hs w I F (ys ++ ds) (us ++ vs) H := h.of_sub (hl.append rr2) r nd dj (List.nodup_append.mpr ⟨nd', (List.nodup_append.mp nd).2.1, fun b m c m' => (List.nodup_append.mp nd).2.2 b (sub b m) c m'⟩) (fun b m => by
      rcases List.mem_append.mp m with m | m
      · exact List.mem_append_left _ (sub b m)
      · exact List.mem_append_right _ m)
    cases t with
    | tup =>
      rcases q with ⟨ho, _, _⟩ | ⟨_, hat, _⟩
      · cases ho
      · exact ⟨a, us, rfl, .inr (le_t leI (SqT.of hat)), fun o e => (by cases e), fun _ => SqT.of hat, hl.length, ⟨_, hl⟩, h2⟩
    | tux =>
      rcases q with ⟨ho, _, _⟩ | ⟨_, hat, _⟩
      · cases ho
      · exact ⟨a, us, rfl, .inr (le_t leI (Tux.sqt hat)), fun o e => (by cases e), fun _ => Tux.sqt hat, hl.length, ⟨_, hl⟩, h2⟩
    | scr =>
      rcases q with ⟨ho, _, _⟩ | ⟨_, hat, _⟩
      · cases ho
      · exact ⟨a, us, rfl, .inl (le_l leI hat), fun o e => (by cases e), fun e => (by rcases e with e | e <;> cases e), hl.length, ⟨_, hl⟩, h2⟩
    | lst o =>
      rcases q with ⟨_, hat, _⟩ | ⟨_, hat, _⟩
      · have hat' : H a = some (.lst us) := hat
        exact ⟨a, us, rfl, .inl (Or.inl (Or.inl hat')), fun o e => hat', fun e => (by rcases e with e | e <;> cases e), hl.length, ⟨_, hl⟩, h2⟩
      · have hat' : I a = some (.lst us) := hat
        exact ⟨a, us, rfl, .inl (Or.inl (Or.inl (leI a _ hat'))), fun o e => leI a _ hat', fun e => (by rcases e with e | e <;> cases e), hl.length, ⟨_, hl⟩, h2⟩
    | dk o ks => simp [D.seq] at e
    | dt o ks => simp [D.seq] at e
    | dn o ks => simp [D.seq] at e
    | ins o c ns => simp [D.seq] at e
  | _ => simp [D.seq] at e
/-- ints of trees -/
def intsOf : List D → Option (List Int)
  | [] => some []
  | .int i :: ds => (intsOf ds).map (i :: ·)
  | _ :: _ => none
def boolsOf : List D → Option (List Bool)
  | [] => some []
  | .bl i :: ds => (boolsOf ds).map (i :: ·)
  | _ :: _ => none
theorem intsOf_rep {I H : Hp} : ∀ {ds : List D} {us : List V} {fp : List Addr} {ns : List Int}, RepL w I H ds us fp → intsOf ds = some ns → us = ns.map V.int
  | [], us, fp, ns, h, e => by
    unfold RepL at h
    cases e
    exact h.1
  | d :: ds, us, fp, ns, h, e => by
    unfold RepL at h
    obtain ⟨v, u, f1, f2, rfl, rfl, h1, h2⟩ := h
    cases d <;> simp [intsOf] at e
    obtain ⟨ms, e1, rfl⟩ := e
    unfold Rep at h1
    rw [h1.1, intsOf_rep h2 e1]
    rfl
theorem boolsOf_rep {I H : Hp} : ∀ {ds : List D} {us : List V} {fp : List Addr} {ns : List Bool}, RepL w I H ds us fp → boolsOf ds = some ns → us = ns.map V.bl
  | [], us, fp, ns, h, e => by
    unfold RepL at h
    cases e
    exact h.1
  | d :: ds, us, fp, ns, h, e => by
    unfold RepL at h
    obtain ⟨v, u, f1, f2, rfl, rfl, h1, h2⟩ := h
    cases d <;> simp [boolsOf] at e
    obtain ⟨ms, e1, rfl⟩ := e
    unfold Rep at h1
    rw [h1.1, boolsOf_rep h2 e1]
    rfl
def lstInts : D → Option (List Int)
  | .node (.lst _) xs => intsOf xs
  | .node .scr xs => intsOf xs
  | _ => none
theorem Hs.seqL {I F H : Hp} {ds : List D} {vs : List V} {xs : List D} {v : V} {t : Tag} (h : Hs w I F (.node t xs :: ds) (v :: vs) H) (ht : t = .scr ∨ ∃ o, t = .lst o) : ∃ a us, v = .ref a ∧ SqL w.K H a us ∧ xs.length = us.length ∧ ∃ fp, RepL w I H xs us fp := by
  have leI := h.iH
  obtain ⟨fp, r⟩ := h.head
  unfold Rep at r
  obtain ⟨a, us, fp', rfl, hl, hf, q⟩ := r
  refine ⟨a, us, rfl, ?_, hl.length, _, hl⟩
  rcases ht with rfl | ⟨o, rfl⟩
  · rcases q with ⟨ho, _, _⟩ | ⟨_, hat, _⟩
    · cases ho
    · exact le_l leI hat
  · rcases q with ⟨_, hat, _⟩ | ⟨_, hat, _⟩
    · exact Or.inl (Or.inl hat)
    · exact Or.inl (Or.inl (leI a _ hat))
theorem lstInts_rep {I F H : Hp} {ds : List D} {vs : List V} {d : D} {v : V} {ns : List Int} (h : Hs w I F (d :: ds) (v :: vs) H) (e : lstInts d = some ns) : ∃ a, v = .ref a ∧ SqL w.K H a (ns.map V.int) := by
  unfold lstInts at e
  split at e
  · obtain ⟨a, us, rfl, hq, hl, fp, r⟩ := h.seqL (.inr ⟨_, rfl⟩)
    rw [← intsOf_rep r e]
    exact ⟨a, rfl, hq⟩
  · obtain ⟨a, us, rfl, hq, hl, fp, r⟩ := h.seqL (.inl rfl)
    rw [← intsOf_rep r e]
    exact ⟨a, rfl, hq⟩
  · cases e
def lstBools : D → Option (List Bool)
  | .node (.lst _) xs => boolsOf xs
  | _ => none
theorem lstBools_rep {I F H : Hp} {ds : List D} {vs : List V} {d : D} {v : V} {ns : List Bool} (h : Hs w I F (d :: ds) (v :: vs) H) (e : lstBools d = some ns) : ∃ a, v = .ref a ∧ SqL w.K H a (ns.map V.bl) := by
  unfold lstBools at e
  split at e
  · rename_i o xs
    obtain ⟨a, us, rfl, _, hq, _, hl, ⟨fp, r⟩, _⟩ := h.seq (xs := xs) rfl
    rw [← boolsOf_rep r e]
    exact ⟨a, rfl, Or.inl (Or.inl (hq o rfl))⟩
  · cases e
abbrev oSum : Op := op1 fun d => (lstInts d).map fun ns => .int ns.sum
theorem od_sum : OpD w (rN (rSum w.K)) oSum := od1 fun I F H d v z hs h => by
  obtain ⟨ns, e, rfl⟩ := Option.map_eq_some_iff.mp h
  obtain ⟨a, rfl, hq⟩ := lstInts_rep hs e
  exact ⟨_, rfl, fun Q E q => ⟨a, ns, rfl, hq, q⟩⟩
def maxI : List Int → Option Int
  | [] => none
  | x :: xs => some (xs.foldl max x)
def minI : List Int → Option Int
  | [] => none
  | x :: xs => some (xs.foldl min x)
theorem foldl_max : ∀ (xs : List Int) (x m : Int), (m = x ∨ m ∈ xs) → x ≤ m → (∀ y ∈ xs, y ≤ m) → xs.foldl max x = m
  | [], x, m, h, _, _ => by
    rcases h with rfl | h
    · rfl
    · cases h
  | y :: ys, x, m, h, h1, h2 => by
    have hy := h2 y (List.mem_cons_self ..)
    refine foldl_max ys (max x y) m ?_ (by omega) (fun z hz => h2 z (List.mem_cons_of_mem _ hz))
    rcases h with rfl | h
    · left; omega
    · rcases List.mem_cons.mp h with rfl | h
      · left; omega
      · right; exact h
theorem foldl_min : ∀ (xs : List Int) (x m : Int), (m = x ∨ m ∈ xs) → m ≤ x → (∀ y ∈ xs, m ≤ y) → xs.foldl min x = m
  | [], x, m, h, _, _ => by
    rcases h with rfl | h
    · rfl
    · cases h
  | y :: ys, x, m, h, h1, h2 => by
    have hy := h2 y (List.mem_cons_self ..)
    refine foldl_min ys (min x y) m ?_ (by omega) (fun z hz => h2 z (List.mem_cons_of_mem _ hz))
    rcases h with rfl | h
    · left; omega
    · rcases List.mem_cons.mp h with rfl | h
      · left; omega
      · right; exact h
theorem maxI_of {ns : List Int} {m x : Int} (h : maxI ns = some x) (h1 : m ∈ ns) (h2 : ∀ y ∈ ns, y ≤ m) : x = m := by
  cases ns with
  | nil => cases h
  | cons y ys =>
    have e : ys.foldl max y = x := Option.some.inj h
    rw [← e]
    exact foldl_max ys y m (List.mem_cons.mp h1) (h2 y (List.mem_cons_self ..)) fun z hz => h2 z (List.mem_cons_of_mem _ hz)
theorem minI_of {ns : List Int} {m x : Int} (h : minI ns = some x) (h1 : m ∈ ns) (h2 : ∀ y ∈ ns, m ≤ y) : x = m := by
  cases ns with
  | nil => cases h
  | cons y ys =>
    have e : ys.foldl min y = x := Option.some.inj h
    rw [← e]
    exact foldl_min ys y m (List.mem_cons.mp h1) (h2 y (List.mem_cons_self ..)) fun z hz => h2 z (List.mem_cons_of_mem _ hz)
theorem maxI_pos {ns : List Int} {x : Int} (h : maxI ns = some x) : 0 < ns.length := by
  cases ns with
  | nil => cases h
  | cons y ys => simp
theorem minI_pos {ns : List Int} {x : Int} (h : minI ns = some x) : 0 < ns.length := by
  cases ns with
  | nil => cases h
  | cons y ys => simp
abbrev oMaxL : Op := op1 fun d => (lstInts d).bind fun ns => (maxI ns).map .int
theorem od_maxL : OpD w (rN (rMax w.K)) oMaxL := od1 fun I F H d v z hs h => by
  obtain ⟨ns, e, h⟩ := Option.bind_eq_some_iff.mp h
  obtain ⟨x, ex, rfl⟩ := Option.map_eq_some_iff.mp h
  obtain ⟨a, rfl, hq⟩ := lstInts_rep hs e
  refine ⟨_, rfl, fun Q E q => ⟨a, ns, rfl, hq, maxI_pos ex, fun m hm hle => ?_⟩⟩
  rw [← maxI_of ex hm hle]
  exact q
abbrev oAll : Op := op1 fun d => (lstBools d).map fun bs => .bl (bs.all id)
theorem od_all : OpD w (rN (rAll w.K)) oAll := od1 fun I F H d v z hs h => by
  obtain ⟨ns, e, rfl⟩ := Option.map_eq_some_iff.mp h
  obtain ⟨a, rfl, hq⟩ := lstBools_rep hs e
  exact ⟨_, rfl, fun Q E q => ⟨a, ns, rfl, hq, q⟩⟩
abbrev oAny : Op := op1 fun d => (lstBools d).map fun bs => .bl (bs.any id)
theorem od_any : OpD w (rN (rAny w.K)) oAny := od1 fun I F H d v z hs h => by
  obtain ⟨ns, e, rfl⟩ := Option.map_eq_some_iff.mp h
  obtain ⟨a, rfl, hq⟩ := lstBools_rep hs e
  exact ⟨_, rfl, fun Q E q => ⟨a, ns, rfl, hq, q⟩⟩
abbrev oLen : Op := op1 fun d => d.seq.map fun xs => .int xs.length
theorem od_len : OpD w (rN fun xs H Q => ∃ p ys, xs = [.ref p] ∧ (SqL w.K H p ys ∨ SqT w.K H p ys) ∧ Q (.int ys.length) H) oLen := od1 fun I F H d v z hs h => by
  obtain ⟨xs, e, rfl⟩ := Option.map_eq_some_iff.mp h
  obtain ⟨a, us, rfl, hq, _, _, hl, _⟩ := hs.seq e
  exact ⟨_, rfl, fun Q E q => ⟨a, us, rfl, hq, by rw [← hl]; exact q⟩⟩
def isNon : D → Option D
  | .any => none
  | .non => some (.bl true)
  | _ => some (.bl false)
theorem Hs.nonOf {I F H : Hp} {ds : List D} {vs : List V} {d z : D} {v : V} (h : Hs w I F (d :: ds) (v :: vs) H) (e : isNon d = some z) : z = .bl (decide (v = .non)) := by
  obtain ⟨fp, r⟩ := h.head
  cases d <;> simp [isNon] at e <;> subst e
  · rw [h.scal rfl]; rfl
  · rw [h.scal rfl]; rfl
  · rw [h.scal rfl]; rfl
  · rw [h.scal rfl]; rfl
  · unfold Rep at r
    obtain ⟨a, us, fp', rfl, _⟩ := r
    rfl
def onNon (neg : Bool) (d e : D) : Option D := match e with
  | .non => (match isNon d with
    | some (.bl b) => some (.bl (b != neg))
    | _ => none)
  | _ => none
theorem od_isN : OpD w (r2 fun x y H Q => y = .non ∧ Q (.bl (decide (x = .non))) H) (op2 (onNon false)) := od2 fun I F H d e v u z hs h => by
  unfold onNon at h
  split at h
  · split at h
    · rename_i b hb
      cases h
      have hz := hs.nonOf hb
      rw [hs.scal2 rfl]
      refine ⟨.bl (b != false), rfl, fun Q E q => ⟨rfl, ?_⟩⟩
      have : b = decide (v = .non) := by simpa using hz
      rw [← this]
      simpa using q
    · cases h
  · cases h
theorem od_notN : OpD w (r2 fun x y H Q => y = .non ∧ Q (.bl (!decide (x = .non))) H) (op2 (onNon true)) := od2 fun I F H d e v u z hs h => by
  unfold onNon at h
  split at h
  · split at h
    · rename_i b hb
      cases h
      have hz := hs.nonOf hb
      rw [hs.scal2 rfl]
      refine ⟨.bl (b != true), rfl, fun Q E q => ⟨rfl, ?_⟩⟩
      have : b = decide (v = .non) := by simpa using hz
      rw [← this]
      simpa using q
    · cases h
  · cases h
end
end Z

set_option Elab.async false
set_option linter.all false
set_option maxRecDepth 100000
set_option maxHeartbeats 4000000
/-! ZE: data compared, items, slices, sums of lists, isinstance. -/
namespace Z
open PySem PySem.Spec PyProof.Rows L2
/-! ### trees as plain data -/
mutual
def D.py : D → Option PyData
  | .any => none
  | .non => some .none
  | .bl b => some (.bool b)
  | .int i => some (.int i)
  | .str s => some (.str s)
  | .node .tup xs => (pyL xs).map .tuple
  | .node .tux xs => (pyL xs).map .tuple
  | .node .scr xs => (pyL xs).map .list
  | .node (.lst _) xs => (pyL xs).map .list
  | .node _ _ => none
def pyL : List D → Option (List PyData)
  | [] => some []
  | d :: ds => match d.py, pyL ds with
    | some p, some ps => some (p :: ps)
    | _, _ => none
end
/-! nothing within is owned -/
mutual
def D.isFrz : D → Bool
  | .node t xs => !t.own && isFrzL xs
  | _ => true
def isFrzL : List D → Bool
  | [] => true
  | d :: ds => d.isFrz && isFrzL ds
end
theorem Tag.frz_id {t : Tag} (h : t.own = false) : t.frz = t := by
  cases t <;> first | rfl | (cases h; rfl)
mutual
theorem frz_id : ∀ {d : D}, d.isFrz = true → d.frz = d
  | .any, _ => rfl
  | .non, _ => rfl
  | .bl _, _ => rfl
  | .int _, _ => rfl
  | .str _, _ => rfl
  | .node t xs, h => by
    unfold D.isFrz at h
    simp at h
    show D.node t.frz (frzL xs) = D.node t xs
    rw [Tag.frz_id h.1, frzL_id h.2]
theorem frzL_id : ∀ {ds : List D}, isFrzL ds = true → frzL ds = ds
  | [], _ => rfl
  | d :: ds, h => by
    unfold isFrzL at h
    simp at h
    show d.frz :: frzL ds = d :: ds
    rw [frz_id h.1, frzL_id h.2]
end
theorem isFrzL_all : ∀ {ds : List D}, isFrzL ds = ds.all D.isFrz
  | [] => rfl
  | d :: ds => by unfold isFrzL; rw [List.all_cons, isFrzL_all]
mutual
theorem isFrz_frz : ∀ d : D, d.frz.isFrz = true
  | .any => rfl
  | .non => rfl
  | .bl _ => rfl
  | .int _ => rfl
  | .str _ => rfl
  | .node t xs => by
    show (!t.frz.own && isFrzL (frzL xs)) = true
    rw [Tag.own_frz, isFrzL_frz xs]
    rfl
theorem isFrzL_frz : ∀ ds : List D, isFrzL (frzL ds) = true
  | [] => rfl
  | d :: ds => by
    show (d.frz.isFrz && isFrzL (frzL ds)) = true
    rw [isFrz_frz d, isFrzL_frz ds]
    rfl
end
section
variable {w : Wd}
mutual
theorem Rep.dp {I H : Hp} (le : Le I H) : ∀ (d : D) (v : V) (fp : List Addr) (p : PyData), Rep w I H d v fp → d.py = some p → Dp w.K H v p
  | .any, v, fp, p, _, e => by cases e
  | .non, v, fp, p, h, e => by unfold Rep at h; cases e; rw [h.1]; exact .non
  | .bl b, v, fp, p, h, e => by unfold Rep at h; cases e; rw [h.1]; exact .bl b
  | .int i, v, fp, p, h, e => by unfold Rep at h; cases e; rw [h.1]; exact .int i
  | .str s, v, fp, p, h, e => by unfold Rep at h; cases e; rw [h.1]; exact .str s
  | .node t xs, v, fp, p, h, e => by
    unfold Rep at h
    obtain ⟨a, vs, fp', rfl, hl, hf, h⟩ := h
    cases t with
    | tup =>
      obtain ⟨ps, e1, rfl⟩ := Option.map_eq_some_iff.mp (show (pyL xs).map PyData.tuple = some p by unfold D.py at e; exact e)
      rcases h with ⟨ho, _, _⟩ | ⟨_, hat, _⟩
      · cases ho
      · exact .tup (le_t le (SqT.of hat)) (RepL.dp le xs vs fp' ps hl e1)
    | tux =>
      obtain ⟨ps, e1, rfl⟩ := Option.map_eq_some_iff.mp (show (pyL xs).map PyData.tuple = some p by unfold D.py at e; exact e)
      rcases h with ⟨ho, _, _⟩ | ⟨_, hat, _⟩
      · cases ho
      · exact .tup (le_t le (Tux.sqt hat)) (RepL.dp le xs vs fp' ps hl e1)
    | scr =>
      obtain ⟨ps, e1, rfl⟩ := Option.map_eq_some_iff.mp (show (pyL xs).map PyData.list = some p by unfold D.py at e; exact e)
      rcases h with ⟨ho, _, _⟩ | ⟨_, hat, _⟩
      · cases ho
      · exact .lst (le_l le hat) (RepL.dp le xs vs fp' ps hl e1)
    | lst o =>
      obtain ⟨ps, e1, rfl⟩ := Option.map_eq_some_iff.mp (show (pyL xs).map PyData.list = some p by unfold D.py at e; exact e)
      rcases h with ⟨_, hat, _⟩ | ⟨_, hat, _⟩
      · exact .lst (Or.inl (Or.inl hat)) (RepL.dp le xs vs fp' ps hl e1)
      · exact .lst (Or.inl (Or.inl (le a _ hat))) (RepL.dp le xs vs fp' ps hl e1)
    | dk o ks => unfold D.py at e; cases e
    | dt o ks => unfold D.py at e; cases e
    | dn o ks => unfold D.py at e; cases e
    | ins o c ns => unfold D.py at e; cases e
theorem RepL.dp {I H : Hp} (le : Le I H) : ∀ (ds : List D) (vs : List V) (fp : List Addr) (ps : List PyData), RepL w I H ds vs fp → pyL ds = some ps → DpAll w.K H vs ps
  | [], vs, fp, ps, h, e => by
    unfold RepL at h
    unfold pyL at e
    cases e
    rw [h.1]
    exact .nil
  | d :: ds, vs, fp, ps, h, e => by
    unfold RepL at h
    obtain ⟨v, us, f1, f2, rfl, rfl, h1, h2⟩ := h
    unfold pyL at e
    cases e1 : d.py with
    | none => rw [e1] at e; cases e
    | some p =>
      cases e2 : pyL ds with
      | none => rw [e1, e2] at e; cases e
      | some qs =>
        rw [e1, e2] at e
        cases e
        exact .cons (Rep.dp le d v f1 p h1 e1) (RepL.dp le ds us f2 qs h2 e2)
end
theorem Hs.dp {I F H : Hp} {ds : List D} {vs : List V} {d : D} {v : V} {p : PyData} (h : Hs w I F (d :: ds) (v :: vs) H) (e : d.py = some p) : Dp w.K H v p := by
  obtain ⟨fp, r⟩ := h.head
  exact Rep.dp h.iH d v fp p r e
/-! ### == and != of data -/
def eqD (neg : Bool) (d e : D) : Option D := match d.py, e.py with
  | some p, some q => if SeqAt.shaped p = true ∧ SeqAt.shaped q = true then some (.bl (PyData.eqv p q != neg)) else none
  | _, _ => none
theorem eqD_some {neg : Bool} {d e z : D} (h : eqD neg d e = some z) : ∃ p q, d.py = some p ∧ e.py = some q ∧ SeqAt.shaped p = true ∧ SeqAt.shaped q = true ∧ z = .bl (PyData.eqv p q != neg) := by
  unfold eqD at h
  split at h
  · rename_i p q hp hq
    obtain ⟨⟨c1, c2⟩, rfl⟩ := ifs h
    exact ⟨p, q, hp, hq, c1, c2, rfl⟩
  · cases h
theorem od_eq : OpD w (r2 (rEqD w.K)) (op2 (eqD false)) := od2 fun I F H d e v u z hs h => by
  obtain ⟨p, q, hp, hq, s1, s2, rfl⟩ := eqD_some h
  exact ⟨_, rfl, fun Q E k => ⟨p, q, hs.dp hp, hs.drop.dp hq, s1, s2, by simpa using k⟩⟩
theorem od_ne : OpD w (r2 (rNeD w.K)) (op2 (eqD true)) := od2 fun I F H d e v u z hs h => by
  obtain ⟨p, q, hp, hq, s1, s2, rfl⟩ := eqD_some h
  exact ⟨_, rfl, fun Q E k => ⟨p, q, hs.dp hp, hs.drop.dp hq, s1, s2, by simpa using k⟩⟩
/-! ### x in a list of data -/
def inD (neg : Bool) (d e : D) : Option D := match d.py, e with
  | some p, .node (.lst _) xs => (match pyL xs with
    | some qs => if SeqAt.shaped p = true ∧ SeqAt.shaped (.list qs) = true then some (.bl ((qs.any fun z => PyData.eqv z p) != neg)) else none
    | none => none)
  | _, _ => none
theorem inD_some {neg : Bool} {d e z : D} (h : inD neg d e = some z) : ∃ p qs o xs, d.py = some p ∧ e = .node (.lst o) xs ∧ e.py = some (.list qs) ∧ SeqAt.shaped p = true ∧ SeqAt.shaped (.list qs) = true ∧ z = .bl ((qs.any fun z => PyData.eqv z p) != neg) := by
  unfold inD at h
  split at h
  · rename_i p o xs hp
    split at h
    · rename_i qs hq
      obtain ⟨⟨c1, c2⟩, rfl⟩ := ifs h
      exact ⟨p, qs, o, xs, hp, rfl, by unfold D.py; rw [hq]; rfl, c1, c2, rfl⟩
    · cases h
  · cases h
theorem od_in : OpD w (r2 (rInD w.K)) (op2 (inD false)) := od2 fun I F H d e v u z hs h => by
  obtain ⟨p, qs, o, xs, hp, rfl, hq, s1, s2, rfl⟩ := inD_some h
  exact ⟨_, rfl, fun Q E k => ⟨p, qs, hs.dp hp, hs.drop.dp hq, s1, s2, by simpa using k⟩⟩
theorem od_notIn : OpD w (r2 (rNotInD w.K)) (op2 (inD true)) := od2 fun I F H d e v u z hs h => by
  obtain ⟨p, qs, o, xs, hp, rfl, hq, s1, s2, rfl⟩ := inD_some h
  exact ⟨_, rfl, fun Q E k => ⟨p, qs, hs.dp hp, hs.drop.dp hq, s1, s2, by simpa using k⟩⟩
/-! ### an item -/
/-- one of the items is held, too, if it owns nothing -/
theorem Hs.child {I F H : Hp} {ds : List D} {vs : List V} {d c : D} {v : V} {xs : List D} {j : Nat} (h : Hs w I F (d :: ds) (v :: vs) H) (e : d.seq = some xs) (hj : xs[j]? = some c) (hc : c.isFrz = true) :
    ∃ a us z, v = .ref a ∧ (SqL w.K H a us ∨ SqT w.K H a us) ∧ us.length = xs.length ∧ us[j]? = some z ∧ Hs w I F (c :: d :: ds) (z :: v :: vs) H := by
  obtain ⟨a, us, rfl, hq, _, _, hl, ⟨fp, r⟩, _⟩ := h.seq e
  obtain ⟨z, f1, f2, hz, rz, _, _⟩ := r.take hj
  obtain rfl := rz.own_nil (frz_id hc)
  obtain ⟨fq, rq, nq, dq⟩ := h.ex
  exact ⟨a, us, z, rfl, hq, hl.symm, hz, h.of_sub (RepL.cons (f1 := []) rz rq) rq nq dq nq fun b m => m⟩
theorem seq_frz {d : D} {xs : List D} (e : d.seq = some xs) : d.frz.seq = some (frzL xs) := by
  cases d with
  | node t ys => cases t <;> simp [D.seq] at e <;> subst e <;> rfl
  | _ => simp [D.seq] at e
theorem frzL_at {xs : List D} {j : Nat} {c : D} (h : xs[j]? = some c) : (frzL xs)[j]? = some c.frz := by
  rw [frzL_eq, List.getElem?_map, h]
  rfl
theorem frzL_len (xs : List D) : (frzL xs).length = xs.length := by rw [frzL_eq, List.length_map]
/-- x[i] of a list, a tuple: an item that owns something is given up with all that it stands in -/
def oIx : Op
  | [d, .int i] => (match d.seq with
    | some xs => (match ixN xs.length i with
      | some j => (match xs[j]? with
        | some c => if c.isFrz = true then .ok c [d, .int i] else .ok c.frz [d.frz, .int i]
        | none => .bad)
      | none => .bad)
    | none => .bad)
  | _ => .bad
theorem atI_of {α : Type} {us : List α} {n j : Nat} {i : Int} {z : α} (hl : us.length = n) (h : ixN n i = some j) (hz : us[j]? = some z) : atI us i = some z := by
  unfold atI
  rw [hl, h]
  exact hz
theorem od_ix : OpD w (r2 (rIx w.K)) oIx := fun I F es us H Q E hs o => by
  unfold oIx at o
  split at o
  · rename_i d i
    match us, hs.length, hs, o with
    | [v, u], _, hs, o =>
      cases e1 : d.seq with
      | none => simp only [e1] at o; exact o.elim
      | some xs =>
        simp only [e1] at o
        cases e2 : ixN xs.length i with
        | none => simp only [e2] at o; exact o.elim
        | some j =>
          simp only [e2] at o
          cases e3 : xs[j]? with
          | none => simp only [e3] at o; exact o.elim
          | some c =>
            simp only [e3] at o
            have hu : u = .int i := hs.scal2 rfl
            subst hu
            by_cases hc : c.isFrz = true
            · rw [if_pos hc] at o
              obtain ⟨a, us, z, rfl, hq, hl, hz, h2⟩ := hs.child e1 e3 hc
              have q := o z I H (Le.refl I) h2
              rcases hq with hq | hq
              · exact .inl ⟨a, us, i, z, rfl, rfl, hq, atI_of hl e2 hz, q⟩
              · exact .inr (.inl ⟨a, us, i, z, rfl, rfl, hq, atI_of hl e2 hz, q⟩)
            · rw [if_neg hc] at o
              obtain ⟨J, le, h1⟩ := hs.freeze
              obtain ⟨a, us, z, rfl, hq, hl, hz, h2⟩ := h1.child (seq_frz e1) (frzL_at e3) (isFrz_frz c)
              rw [frzL_len] at hl
              have q := o z J H le h2
              rcases hq with hq | hq
              · exact .inl ⟨a, us, i, z, rfl, rfl, hq, atI_of hl e2 hz, q⟩
              · exact .inr (.inl ⟨a, us, i, z, rfl, rfl, hq, atI_of hl e2 hz, q⟩)
  · exact o.elim
/-! ### the items, held too -/
theorem RepL.nil_of_frz {I H : Hp} : ∀ {ds : List D} {vs : List V} {fp : List Addr}, RepL w I H ds vs fp → isFrzL ds = true → fp = []
  | [], vs, fp, h, _ => by unfold RepL at h; exact h.2
  | d :: ds, vs, fp, h, e => by
    unfold RepL at h
    obtain ⟨v, us, f1, f2, rfl, rfl, h1, h2⟩ := h
    unfold isFrzL at e
    simp at e
    rw [h1.own_nil (frz_id e.1), h2.nil_of_frz e.2]
    rfl
theorem Hs.items {I F H : Hp} {ds : List D} {vs : List V} {d : D} {v : V} {xs : List D} (h : Hs w I F (d :: ds) (v :: vs) H) (e : d.seq = some xs) (hc : isFrzL xs = true) :
    ∃ a us, v = .ref a ∧ (SqL w.K H a us ∨ SqT w.K H a us) ∧ (∀ o, d = .node (.lst o) xs → H a = some (.lst us)) ∧ (d = .node .tup xs ∨ d = .node .tux xs → SqT w.K H a us) ∧ us.length = xs.length ∧ Hs w I F (xs ++ (d :: ds)) (us ++ (v :: vs)) H := by
  obtain ⟨a, us, rfl, hq, hq2, hq3, hl, ⟨fp, r⟩, _⟩ := h.seq e
  obtain rfl := r.nil_of_frz hc
  obtain ⟨fq, rq, nq, dq⟩ := h.ex
  exact ⟨a, us, rfl, hq, hq2, fun e => le_t h.iH (hq3 e), hl.symm, h.of_sub (RepL.append (f1 := []) r rq) rq nq dq nq fun b m => m⟩
theorem RepL.sub {I H : Hp} : ∀ {ds : List D} {vs : List V} {fp : List Addr}, RepL w I H ds vs fp → isFrzL ds = true → ∀ (k n : Nat), RepL w I H ((ds.drop k).take n) ((vs.drop k).take n) []
  | [], vs, fp, h, _, k, n => by
    unfold RepL at h
    rw [h.1]
    simp
    exact .nil
  | d :: ds, vs, fp, h, e, k, n => by
    unfold RepL at h
    obtain ⟨v, us, f1, f2, rfl, rfl, h1, h2⟩ := h
    unfold isFrzL at e
    simp at e
    cases k with
    | succ k => exact h2.sub e.2 k n
    | zero =>
      cases n with
      | zero => simp; exact .nil
      | succ n =>
        have z := h2.sub e.2 0 n
        have e1 := h1.own_nil (frz_id e.1)
        subst e1
        exact RepL.cons (f1 := []) (f2 := []) h1 z
/-! ### list(x), of a list or a tuple -/
def oList : Op
  | [d] => (match d.seq with
    | some xs => if isFrzL xs = true then .ok (.node (.lst true) xs) [d] else .ok (.node (.lst true) (frzL xs)) [d.frz]
    | none => .bad)
  | _ => .bad
theorem od_list : OpD w (rN fun xs H Q => ∃ p ys, xs = [.ref p] ∧ (SqL w.K H p ys ∨ SqT w.K H p ys) ∧ ∀ l, H l = none → Q (.ref l) (upd H l (.lst ys))) oList := fun I F es us H Q E hs o => by
  unfold oList at o
  split at o
  · rename_i d
    match us, hs.length, hs, o with
    | [v], _, hs, o =>
      cases e1 : d.seq with
      | none => simp only [e1] at o; exact o.elim
      | some xs =>
        simp only [e1] at o
        by_cases hc : isFrzL xs = true
        · rw [if_pos hc] at o
          obtain ⟨a, us, rfl, hq, _, _, hl, h2⟩ := hs.items e1 hc
          exact ⟨a, us, rfl, hq, fun l nl => o (.ref l) I _ (Le.refl I) (Hs.newO (t := .lst true) h2 hl.symm nl rfl trivial (show upd H l (.lst us) l = some (.lst us) from upd_same))⟩
        · rw [if_neg hc] at o
          obtain ⟨J, le, h1⟩ := hs.freeze
          obtain ⟨a, us, rfl, hq, _, _, hl, h2⟩ := h1.items (seq_frz e1) (isFrzL_frz xs)
          exact ⟨a, us, rfl, hq, fun l nl => o (.ref l) J _ le (Hs.newO (t := .lst true) h2 hl.symm nl rfl trivial (show upd H l (.lst us) l = some (.lst us) from upd_same))⟩
  · exact o.elim
/-! ### tuple(x): of a list, of a tuple -/
def oTuple : Op
  | [.node (.lst o) xs] => if isFrzL xs = true then .ok (.node .tup xs) [.node (.lst o) xs] else .ok (.node .tup (frzL xs)) [.node (.lst false) (frzL xs)]
  | [.node .tup xs] => .ok (.node .tup (frzL xs)) [.node .tup (frzL xs)]
  | _ => .bad
theorem od_tuple : OpD w (rN fun xs H Q => ∃ p ys, xs = [.ref p] ∧ ((SqL w.K H p ys ∧ ∀ l, H l = none → Q (.ref l) (upd H l (.tup ys))) ∨ (SqT w.K H p ys ∧ Q (.ref p) H))) oTuple := fun I F es us H Q E hs o => by
  unfold oTuple at o
  split at o
  · rename_i o' xs
    match us, hs.length, hs, o with
    | [v], _, hs, o =>
      by_cases hc : isFrzL xs = true
      · rw [if_pos hc] at o
        obtain ⟨a, us, rfl, hq, hq2, _, hl, h2⟩ := hs.items (xs := xs) rfl hc
        refine ⟨a, us, rfl, .inl ⟨Or.inl (Or.inl (hq2 _ rfl)), fun l nl => ?_⟩⟩
        obtain ⟨le, h3⟩ := Hs.newT h2 hl.symm nl
        exact o (.ref l) _ _ le h3
      · rw [if_neg hc] at o
        obtain ⟨J, le, h1⟩ := hs.freeze
        obtain ⟨a, us, rfl, hq, hq2, _, hl, h2⟩ := h1.items (xs := frzL xs) rfl (isFrzL_frz xs)
        refine ⟨a, us, rfl, .inl ⟨Or.inl (Or.inl (hq2 false rfl)), fun l nl => ?_⟩⟩
        obtain ⟨le2, h3⟩ := Hs.newT h2 hl.symm nl
        exact o (.ref l) _ _ (le.trans le2) h3
  · rename_i xs
    match us, hs.length, hs, o with
    | [v], _, hs, o =>
      obtain ⟨J, le, h1⟩ := hs.freeze
      obtain ⟨a, us, rfl, hq, hq2, hq3, hl, h2⟩ := h1.items (xs := frzL xs) rfl (isFrzL_frz xs)
      exact ⟨a, us, rfl, .inr ⟨hq3 (.inl rfl), o (.ref a) J H le (h1.dup (frz_frz _))⟩⟩
  · exact o.elim
/-! ### xs + ys, of two lists; t + u, of two tuples -/
def oCat : Op
  | [.node (.lst o1) xs, .node (.lst o2) ys] => if xs.length + ys.length ≤ 100000 then (.ok (.node (.lst true) (frzL xs ++ frzL ys)) [.any, .any]) else .bad
  | _ => .bad
theorem od_cat : OpD w (r2 rCat) oCat := fun I F es us H Q E hs o => by
  unfold oCat at o
  split at o
  · rename_i o1 xs o2 ys
    obtain ⟨hz, o⟩ := ite_out o
    match us, hs.length, hs, o with
    | [v, u], _, hs, o =>
      obtain ⟨J, le, h1⟩ := hs.freeze
      obtain ⟨J2, le2, h2⟩ := h1.swap.freeze
      obtain ⟨b, us2, rfl, _, q2, _, l2, h3⟩ := h2.items (xs := frzL ys) rfl (isFrzL_frz ys)
      have h4 : Hs w J2 F ((frzL ys ++ [(D.node (.lst o2) ys).frz]) ++ (D.node (.lst o1) xs).frz :: []) ((us2 ++ [.ref b]) ++ v :: []) H := by simpa using h3
      have h5 := h4.front (by simp [l2])
      obtain ⟨a, us1, rfl, _, q1, _, l1, h6⟩ := h5.items (xs := frzL xs) rfl (isFrzL_frz xs)
      refine ⟨a, b, us1, us2, rfl, rfl, q1 false rfl, q2 false rfl, szO (by rw [l1, l2, frzL_len, frzL_len]; exact hz), fun p np => ?_⟩
      have h7 : Hs w J2 F ((frzL xs ++ [(D.node (.lst o1) xs).frz]) ++ (frzL ys ++ [(D.node (.lst o2) ys).frz])) ((us1 ++ [.ref a]) ++ (us2 ++ [.ref b])) H := by simpa using h6
      have h8 : Hs w J2 F ((frzL xs) ++ ((D.node (.lst o1) xs).frz :: (frzL ys ++ [(D.node (.lst o2) ys).frz]))) (us1 ++ (.ref a :: (us2 ++ [.ref b]))) H := by simpa using h7
      have h9 := (h8.front (by rw [l1])).drop
      have h10 : Hs w J2 F ((frzL xs ++ frzL ys) ++ [(D.node (.lst o2) ys).frz]) ((us1 ++ us2) ++ [.ref b]) H := by simpa using h9
      have h11 := (h10.comm (by simp [l1, l2])).drop
      have h12 : Hs w J2 F ((frzL xs ++ frzL ys) ++ []) ((us1 ++ us2) ++ []) H := by simpa using h11
      have h13 := Hs.newO (t := .lst true) (o := .lst (us1 ++ us2)) h12 (by simp [l1, l2]) np rfl trivial (show upd H p (.lst (us1 ++ us2)) p = some (.lst (us1 ++ us2)) from upd_same)
      have h14 := (h13.anys [.ref a, .ref b]).comm (by simp)
      exact o (.ref p) J2 _ (le.trans le2) h14
  · exact o.elim
end
end Z

set_option Elab.async false
set_option linter.all false
set_option maxRecDepth 100000
set_option maxHeartbeats 4000000
/-! ZF: tests, targets, statements, loops. -/
namespace Z
open PySem PySem.Spec PyProof.Rows L2
section
variable {Γ : Cx} {X : Fx} {W : WX}
/-! ### tests -/
def OutT (X : Fx) (W : WX) (I F : Hp) (σ : L2.St) (Q : Bool → Hp → Prop) : Res → Prop
  | .ok (.bl b) env' => ∀ I' H', Le I I' → Hs X.w I' F env' (σv σ) H' → EnvR X σ env' → Q b H'
  | .ok _ _ => False
  | .exc c ns xs env' => ∀ cls d I' H', Le I I' → Hs X.w I' F env' (σv σ) H' → EnvR X σ env' → XRep X.w I' cls d c ns xs → W cls d σ H'
  | .bad => False
def tT (X : Fx) (W : WX) (m : M) : TT := fun σ H Q => ∃ I F env, Hs X.w I F env (σv σ) H ∧ EnvR X σ env ∧ OutT X W I F σ Q (m env)
/-- a value that is a bool, as a test -/
theorem tT_of {m : M} {σ : L2.St} {H : Hp} {Q : Bool → Hp → Prop} (h : tT X W m σ H Q) : tB (tE X W m) σ H Q := by
  obtain ⟨I, F, env, hs, er, o⟩ := h
  refine ⟨I, F, env, hs, er, ?_⟩
  cases hm : m env with
  | bad => rw [hm] at o; exact o.elim
  | exc c ns xs e => rw [hm] at o; exact o
  | ok r e =>
    rw [hm] at o
    intro v I1 H1 le h1 er1
    cases r with
    | bl b =>
      rw [h1.scal rfl]
      exact ⟨b, rfl, o I1 H1 le h1.drop er1⟩
    | _ => exact o.elim
theorem t_val {e : Expr} {m : M} (h : PE Γ e (tE X W m)) (he : ∀ whole, isTrue e Γ.env whole = (do let v ← whole; standAt e.pos; holding [v] (truthy v)) := by intro _; rfl) : PT Γ e (tT X W m) := PTi (pt_val h he) fun σ H Q q => tT_of q
theorem t_cmp {op : CmpOp} {a b : Expr} {pos : Pos} {oa ob : Opd} {r : R2} {f : Op} (ho : OpR Γ (compareOp op) r) (o : OpD X.w (r2 r) f) (ha : PE Γ a (tO X W oa)) (hb : PE Γ b (tO X W ob)) (hm : behindInMarks op b = false) : PT Γ (.Compare a [op] [b] pos) (tT X W (mApp f [oa, ob])) :=
  PTi (pt_cmpR ho ha hb hm) fun σ H Q h => by
    obtain ⟨I, F, env, hs, er, q⟩ := tT_of h
    exact app_run o ⟨I, F, env, hs, er, q⟩
def mAnd (a b : M) : M := fun env => match a env with
  | .ok (.bl true) e => b e
  | .ok (.bl false) e => .ok (.bl false) e
  | .ok _ _ => .bad
  | r => r
def mOr (a b : M) : M := fun env => match a env with
  | .ok (.bl false) e => b e
  | .ok (.bl true) e => .ok (.bl true) e
  | .ok _ _ => .bad
  | r => r
def mNot (a : M) : M := fun env => match a env with
  | .ok (.bl b) e => .ok (.bl (!b)) e
  | .ok _ _ => .bad
  | r => r
theorem t_not {a : Expr} {pos : Pos} {m : M} (h : PT Γ a (tT X W m)) : PT Γ (.UnaryOp .Not a pos) (tT X W (mNot m)) := PTi (pt_not h) fun σ H Q q => by
  obtain ⟨I, F, env, hs, er, o⟩ := q
  refine ⟨I, F, env, hs, er, ?_⟩
  unfold mNot at o
  cases hm : m env with
  | bad => simp only [hm] at o; exact o.elim
  | exc c ns xs e => simp only [hm] at o; exact o
  | ok r e =>
    simp only [hm] at o
    cases r with
    | bl b => exact o
    | _ => exact o.elim
theorem t_and1 {a : Expr} {pos : Pos} {m : M} (h : PT Γ a (tT X W m)) : PW Γ (.BoolOp .And [a] pos) (tT X W m) := pw_and1 h
theorem t_or1 {a : Expr} {pos : Pos} {m : M} (h : PT Γ a (tT X W m)) : PW Γ (.BoolOp .Or [a] pos) (tT X W m) := pw_or1 h
theorem PWi {e : Expr} {t t' : TT} (h : PW Γ e t) (i : ∀ σ H Q, t' σ H Q → t σ H Q) : PW Γ e t' := ⟨fun wh pins s σ H Q I q => h.run wh pins s σ H Q I (i σ H Q q)⟩
theorem t_and {a b : Expr} {rest : List Expr} {pos : Pos} {ma mb : M} (ha : PT Γ a (tT X W ma)) (hb : PW Γ (.BoolOp .And (b :: rest) pos) (tT X W mb)) : PW Γ (.BoolOp .And (a :: b :: rest) pos) (tT X W (mAnd ma mb)) := PWi (pw_and ha hb) fun σ H Q q => by
  obtain ⟨I, F, env, hs, er, o⟩ := q
  refine ⟨I, F, env, hs, er, ?_⟩
  unfold mAnd at o
  cases hm : ma env with
  | bad => simp only [hm] at o; exact o.elim
  | exc c ns xs e => simp only [hm] at o; exact o
  | ok r e =>
    simp only [hm] at o
    cases r with
    | bl b =>
      intro I1 H1 le h1 er1
      cases b with
      | true =>
        refine ⟨I1, F, e, h1, er1, ?_⟩
        simp only at o
        revert o
        cases mb e with
        | bad => exact fun o => o
        | exc c ns xs e2 => exact fun o cls d I2 H2 le2 => o cls d I2 H2 (le.trans le2)
        | ok r2 e2 =>
          cases r2 with
          | bl c => exact fun o I2 H2 le2 => o I2 H2 (le.trans le2)
          | _ => exact fun o => o
      | false => exact o I1 H1 le h1 er1
    | _ => exact o.elim
theorem t_or {a b : Expr} {rest : List Expr} {pos : Pos} {ma mb : M} (ha : PT Γ a (tT X W ma)) (hb : PW Γ (.BoolOp .Or (b :: rest) pos) (tT X W mb)) : PW Γ (.BoolOp .Or (a :: b :: rest) pos) (tT X W (mOr ma mb)) := PWi (pw_or ha hb) fun σ H Q q => by
  obtain ⟨I, F, env, hs, er, o⟩ := q
  refine ⟨I, F, env, hs, er, ?_⟩
  unfold mOr at o
  cases hm : ma env with
  | bad => simp only [hm] at o; exact o.elim
  | exc c ns xs e => simp only [hm] at o; exact o
  | ok r e =>
    simp only [hm] at o
    cases r with
    | bl b =>
      intro I1 H1 le h1 er1
      cases b with
      | false =>
        refine ⟨I1, F, e, h1, er1, ?_⟩
        simp only at o
        revert o
        cases mb e with
        | bad => exact fun o => o
        | exc c ns xs e2 => exact fun o cls d I2 H2 le2 => o cls d I2 H2 (le.trans le2)
        | ok r2 e2 =>
          cases r2 with
          | bl c => exact fun o I2 H2 le2 => o I2 H2 (le.trans le2)
          | _ => exact fun o => o
      | true => exact o I1 H1 le h1 er1
    | _ => exact o.elim
/-- what comes later comes from what was before -/
theorem Out.later {I J F : Hp} {σ : L2.St} {Q : VK} {r : Res} (le : Le I J) (o : Out X W I F σ Q r) : Out X W J F σ Q r := by
  cases r with
  | bad => exact o
  | ok r e => exact fun v I2 H2 le2 => o v I2 H2 (le.trans le2)
  | exc c ns xs e => exact fun cls d I2 H2 le2 => o cls d I2 H2 (le.trans le2)
theorem OutT.later {I J F : Hp} {σ : L2.St} {Q : Bool → Hp → Prop} {r : Res} (le : Le I J) (o : OutT X W I F σ Q r) : OutT X W J F σ Q r := by
  cases r with
  | bad => exact o
  | ok r e =>
    cases r with
    | bl b => exact fun I2 H2 le2 => o I2 H2 (le.trans le2)
    | _ => exact o
  | exc c ns xs e => exact fun cls d I2 H2 le2 => o cls d I2 H2 (le.trans le2)
/-! ### and, or as values -/
theorem z_and {a b : Expr} {rest : List Expr} {pos : Pos} {ma mb : M} (ha : PE Γ a (tE X W ma)) (hb : PE Γ (.BoolOp .And (b :: rest) pos) (tE X W mb)) : PE Γ (.BoolOp .And (a :: b :: rest) pos) (tE X W (mAnd ma mb)) := PEi (pe_and ha hb) fun σ H Q q => by
  obtain ⟨I, F, env, hs, er, o⟩ := q
  refine ⟨I, F, env, hs, er, ?_⟩
  unfold mAnd at o
  cases hm : ma env with
  | bad => simp only [hm] at o; exact o.elim
  | exc c ns xs e => simp only [hm] at o; exact o
  | ok r e =>
    simp only [hm] at o
    intro v I1 H1 le h1 er1
    cases r with
    | bl b =>
      rw [h1.scal rfl]
      refine ⟨b, rfl, ?_⟩
      cases b with
      | true => exact ⟨I1, F, e, h1.drop, er1, Out.later le o⟩
      | false => exact o (.bl false) I1 H1 le (h1.drop.addC rfl) er1
    | _ => exact o.elim
theorem z_or {a b : Expr} {rest : List Expr} {pos : Pos} {ma mb : M} (ha : PE Γ a (tE X W ma)) (hb : PE Γ (.BoolOp .Or (b :: rest) pos) (tE X W mb)) : PE Γ (.BoolOp .Or (a :: b :: rest) pos) (tE X W (mOr ma mb)) := PEi (pe_or ha hb) fun σ H Q q => by
  obtain ⟨I, F, env, hs, er, o⟩ := q
  refine ⟨I, F, env, hs, er, ?_⟩
  unfold mOr at o
  cases hm : ma env with
  | bad => simp only [hm] at o; exact o.elim
  | exc c ns xs e => simp only [hm] at o; exact o
  | ok r e =>
    simp only [hm] at o
    intro v I1 H1 le h1 er1
    cases r with
    | bl b =>
      rw [h1.scal rfl]
      refine ⟨b, rfl, ?_⟩
      cases b with
      | false => exact ⟨I1, F, e, h1.drop, er1, Out.later le o⟩
      | true => exact o (.bl true) I1 H1 le (h1.drop.addC rfl) er1
    | _ => exact o.elim
theorem z_one {op} {a : Expr} {pos : Pos} {m : M} (h : PE Γ a (tE X W m)) : PE Γ (.BoolOp op [a] pos) (tE X W m) := pe_one h
theorem z_not {a : Expr} {pos : Pos} {m : M} (h : PE Γ a (tE X W m)) : PE Γ (.UnaryOp .Not a pos) (tE X W (mNot m)) := PEi (pe_not h) fun σ H Q q => by
  obtain ⟨I, F, env, hs, er, o⟩ := q
  refine ⟨I, F, env, hs, er, ?_⟩
  unfold mNot at o
  cases hm : m env with
  | bad => simp only [hm] at o; exact o.elim
  | exc c ns xs e => simp only [hm] at o; exact o
  | ok r e =>
    simp only [hm] at o
    intro v I1 H1 le h1 er1
    cases r with
    | bl b =>
      rw [h1.scal rfl]
      exact ⟨b, rfl, o _ I1 H1 le (h1.drop.addC rfl) er1⟩
    | _ => exact o.elim
def mIf (c a b : M) : M := fun env => match c env with
  | .ok (.bl true) e => a e
  | .ok (.bl false) e => b e
  | .ok _ _ => .bad
  | r => r
theorem z_if {c a b : Expr} {pos : Pos} {mc ma mb : M} (hc : PT Γ c (tT X W mc)) (ha : PE Γ a (tE X W ma)) (hb : PE Γ b (tE X W mb)) : PE Γ (.IfExp c a b pos) (tE X W (mIf mc ma mb)) := PEi (pe_ifExp hc ha hb) fun σ H Q q => by
  obtain ⟨I, F, env, hs, er, o⟩ := q
  refine ⟨I, F, env, hs, er, ?_⟩
  unfold mIf at o
  cases hm : mc env with
  | bad => simp only [hm] at o; exact o.elim
  | exc c ns xs e => simp only [hm] at o; exact o
  | ok r e =>
    simp only [hm] at o
    cases r with
    | bl b =>
      intro I1 H1 le h1 er1
      cases b with
      | true => exact ⟨I1, F, e, h1, er1, Out.later le o⟩
      | false => exact ⟨I1, F, e, h1, er1, Out.later le o⟩
    | _ => exact o.elim
/-- a < b < c of ints, b looked at once -/
def mChain (p q : Int → Int → Bool) (a b c : M) : M := fun env => match a env with
  | .ok (.int i) e1 => (match b e1 with
    | .ok (.int j) e2 => if p i j = true then (match c e2 with
      | .ok (.int k) e3 => .ok (.bl (q j k)) e3
      | .ok _ _ => .bad
      | r => r) else .ok (.bl false) e2
    | .ok _ _ => .bad
    | r => r)
  | .ok _ _ => .bad
  | r => r
theorem chain_run {p q : Int → Int → Bool} {ma mb mc : M} {σ : L2.St} {H : Hp} {Q : VK} (z : tE X W (mChain p q ma mb mc) σ H Q) : tChain (rI0 fun i j => .bl (p i j)) (rI0 fun i j => .bl (q i j)) (tE X W ma) (tE X W mb) (tE X W mc) σ H Q := by
  obtain ⟨I, F, env, hs, er, o⟩ := z
  refine ⟨I, F, env, hs, er, ?_⟩
  unfold mChain at o
  cases h1 : ma env with
  | bad => simp only [h1] at o; exact o.elim
  | exc c ns xs e => simp only [h1] at o; exact o
  | ok r e1 =>
    simp only [h1] at o
    intro v I1 H1 le1 s1 er1
    cases r with
    | int i =>
      rw [s1.scal rfl]
      refine ⟨I1, F, e1, s1.drop, er1, ?_⟩
      cases h2 : mb e1 with
      | bad => simp only [h2] at o; exact o.elim
      | exc c ns xs e => simp only [h2] at o; exact Out.later (r := .exc c ns xs e) (Q := Q) le1 o
      | ok r2 e2 =>
        simp only [h2] at o
        intro u I2 H2 le2 s2 er2
        cases r2 with
        | int j =>
          rw [s2.scal rfl]
          refine ⟨i, j, rfl, rfl, p i j, rfl, ?_⟩
          cases hp : p i j with
          | false =>
            simp only [hp] at o
            exact o (.bl false) I2 H2 (le1.trans le2) (s2.drop.addC rfl) er2
          | true =>
            simp only [hp, if_true] at o
            refine ⟨I2, F, e2, s2.drop, er2, ?_⟩
            cases h3 : mc e2 with
            | bad => simp only [h3] at o; exact o.elim
            | exc c ns xs e => simp only [h3] at o; exact Out.later (r := .exc c ns xs e) (Q := Q) (le1.trans le2) o
            | ok r3 e3 =>
              simp only [h3] at o
              intro y I3 H3 le3 s3 er3
              cases r3 with
              | int k =>
                rw [s3.scal rfl]
                exact ⟨j, k, rfl, rfl, o _ I3 H3 ((le1.trans le2).trans le3) (s3.drop.addC rfl) er3⟩
              | _ => exact o.elim
        | _ => exact o.elim
    | _ => exact o.elim
theorem z_chain {op op' : CmpOp} {p q : Int → Int → Bool} {a b c : Expr} {pos : Pos} {ma mb mc : M} (ho : OpR Γ (compareOp op) (rI0 fun i j => .bl (p i j))) (ho' : OpR Γ (compareOp op') (rI0 fun i j => .bl (q i j))) (ha : PE Γ a (tE X W ma)) (hb : PE Γ b (tE X W mb)) (hc : PE Γ c (tE X W mc))
    (hm : lastMarks [op, op'] [b, c] = false := by with_unfolding_all rfl) : PE Γ (.Compare a [op, op'] [b, c] pos) (tE X W (mChain p q ma mb mc)) := PEi (pe_chain ho ho' ha hb hc hm) fun σ H Q z => chain_run z
theorem t_chain {op op' : CmpOp} {p q : Int → Int → Bool} {a b c : Expr} {pos : Pos} {ma mb mc : M} (ho : OpR Γ (compareOp op) (rI0 fun i j => .bl (p i j))) (ho' : OpR Γ (compareOp op') (rI0 fun i j => .bl (q i j))) (ha : PE Γ a (tE X W ma)) (hb : PE Γ b (tE X W mb)) (hc : PE Γ c (tE X W mc))
    (hm : lastMarks [op, op'] [b, c] = false := by with_unfolding_all rfl) : PT Γ (.Compare a [op, op'] [b, c] pos) (tT X W (mChain p q ma mb mc)) := PTi (pt_chain ho ho' ha hb hc hm) fun σ H Q z => chain_run (tT_of z)
end
end Z

set_option Elab.async false
set_option linter.all false
set_option maxRecDepth 100000
set_option maxHeartbeats 4000000
/-! ZG: targets, statements, loops. -/
namespace Z
open PySem PySem.Spec PyProof.Rows L2
/-- how a statement ends -/
inductive SRes where
  | nx (e : Env) | rt (d : D) (e : Env) | bk (e : Env) | ct (e : Env) | exc (c : Str) (ns : List Str) (xs : List D) (e : Env) | bad
abbrev S := Env → SRes
section
variable {Γ : Cx} {X : Fx} {W : WX}
def OutS (X : Fx) (W : WX) (I F : Hp) (E : Ends) : SRes → Prop
  | .nx e => ∀ σ' I' H', Le I I' → Hs X.w I' F e (σv σ') H' → EnvR X σ' e → E.nx σ' H'
  | .rt d e => ∀ v σ' I' H', Le I I' → Hs X.w I' F (d :: e) (v :: σv σ') H' → EnvR X σ' e → E.rt v H'
  | .bk e => ∀ σ' I' H', Le I I' → Hs X.w I' F e (σv σ') H' → EnvR X σ' e → E.bk σ' H'
  | .ct e => ∀ σ' I' H', Le I I' → Hs X.w I' F e (σv σ') H' → EnvR X σ' e → E.ct σ' H'
  | .exc c ns xs e => ∀ cls d σ' I' H', Le I I' → Hs X.w I' F e (σv σ') H' → EnvR X σ' e → XRep X.w I' cls d c ns xs → W cls d σ' H'
  | .bad => False
theorem OutS.later {I J F : Hp} {E : Ends} {r : SRes} (le : Le I J) (o : OutS X W I F E r) : OutS X W J F E r := by
  cases r with
  | bad => exact o
  | nx e => exact fun σ' I2 H2 le2 => o σ' I2 H2 (le.trans le2)
  | rt d e => exact fun v σ' I2 H2 le2 => o v σ' I2 H2 (le.trans le2)
  | bk e => exact fun σ' I2 H2 le2 => o σ' I2 H2 (le.trans le2)
  | ct e => exact fun σ' I2 H2 le2 => o σ' I2 H2 (le.trans le2)
  | exc c ns xs e => exact fun cls d σ' I2 H2 le2 => o cls d σ' I2 H2 (le.trans le2)
def tS (X : Fx) (W : WX) (m : S) : TS := fun E σ H => ∃ I F env, Hs X.w I F env (σv σ) H ∧ EnvR X σ env ∧ OutS X W I F E (m env)

/-! ### targets -/
inductive Tgt where
  | nm (i : Nat) | tp (ts : List Tgt)
mutual
def asg : Tgt → D → Env → Option Env
  | .nm i, d, env => if i < env.length then some (env.set i d) else none
  | .tp ts, .node .tup xs, env => asgL ts xs env
  | .tp ts, .node .tux xs, env => asgL ts xs env
  | .tp _, _, _ => none
def asgL : List Tgt → List D → Env → Option Env
  | [], [], env => some env
  | t :: ts, d :: ds, env => (asg t d env).bind (asgL ts ds)
  | _, _, _ => none
end
mutual
def Tgt.slots : Tgt → List Nat
  | .nm i => [i]
  | .tp ts => slotsL ts
def slotsL : List Tgt → List Nat
  | [] => []
  | t :: ts => t.slots ++ slotsL ts
end
/-- alike but at some slots -/
def But (js : List Nat) (σ σ' : L2.St) : Prop := σ'.length = σ.length ∧ ∀ i, i ∉ js → σ'[i]? = σ[i]?
theorem But.refl (js : List Nat) (σ : L2.St) : But js σ σ := ⟨rfl, fun _ _ => rfl⟩
def tG (X : Fx) (t : Tgt) : TG := fun v σ H Q => ∃ I F env d, Hs X.w I F (d :: env) (v :: σv σ) H ∧ EnvR X σ env ∧ ∃ env', asg t d env = some env' ∧ ∀ σ' I' H', But t.slots σ σ' → Le I I' → Hs X.w I' F env' (σv σ') H' → EnvR X σ' env' → Q σ' H'
def tGs (X : Fx) (t : List Tgt) : TGs := fun vs σ H Q => ∃ I F env ds, Hs X.w I F (ds ++ env) (vs ++ σv σ) H ∧ ds.length = vs.length ∧ EnvR X σ env ∧ ∃ env', asgL t ds env = some env' ∧ ∀ σ' I' H', But (slotsL t) σ σ' → Le I I' → Hs X.w I' F env' (σv σ') H' → EnvR X σ' env' → Q σ' H'
theorem PGi {e : Expr} {t t' : TG} (h : PG Γ e t) (i : ∀ v σ H Q, t' v σ H Q → t v σ H Q) : PG Γ e t' := ⟨fun pins s σ H v u Q I r q => h.run pins s σ H v u Q I r (i v σ H Q q)⟩
theorem PGsi {e : List Expr} {t t' : TGs} (h : PGs Γ e t) (i : ∀ v σ H Q, t' v σ H Q → t v σ H Q) : PGs Γ e t' := ⟨fun pins s σ H v u Q I r q => h.run pins s σ H v u Q I r (i v σ H Q q)⟩
theorem σv_set (σ : L2.St) (i : Nat) (v : V) : σv (σ.set i (some v)) = (σv σ).set i v := by
  unfold σv
  rw [List.map_set]
  rfl
theorem EnvR.store {σ : L2.St} {env : Env} (h : EnvR X σ env) {i : Nat} {d : D} {v : V} (hl : env.length = σ.length) (hi : i < env.length) (hp : i ∉ X.pin) : EnvR X (σ.set i (some v)) (env.set i d) := by
  refine ⟨fun j e hj hne => ?_, fun j hj u hu => ?_⟩
  · by_cases q : i = j
    · subst q
      exact ⟨v, by rw [List.getElem?_set_self (by omega)]⟩
    · rw [List.getElem?_set_ne q] at hj
      obtain ⟨x, hx⟩ := h.on j e hj hne
      exact ⟨x, by rw [List.getElem?_set_ne q]; exact hx⟩
  · have q : i ≠ j := fun e => hp (by rw [e]; exact hj)
    rw [List.getElem?_set_ne q]
    exact h.pin j hj u hu
theorem hs_len {I F H : Hp} {σ : L2.St} {env : Env} (h : Hs X.w I F env (σv σ) H) : env.length = σ.length := by
  have := h.length
  rw [σv_len] at this
  exact this
theorem g_name {i : Nat} (hp : i ∉ X.pin) : ∀ v σ H Q, tG X (.nm i) v σ H Q → gName i v σ H Q := fun v σ H Q q => by
  obtain ⟨I, F, env, d, hs, er, env', e, k⟩ := q
  unfold asg at e
  by_cases hi : i < env.length
  · rw [if_pos hi] at e
    cases e
    have h1 := hs.set hi
    rw [← σv_set] at h1
    exact k _ I H ⟨List.length_set, fun j hj => List.getElem?_set_ne (fun e => hj (by rw [← e]; exact List.mem_singleton.mpr rfl))⟩ (Le.refl I) h1 (er.store (hs_len hs.drop) hi hp)
  · rw [if_neg hi] at e
    cases e
theorem g_nm {i : Nat} {x : Str} {pos : Pos} (h : PG Γ (.Name x pos) (gName i)) (hp : i ∉ X.pin := by decide) : PG Γ (.Name x pos) (tG X (.nm i)) := PGi h (g_name hp)
theorem gs_nil : PGs Γ [] (tGs X []) := PGsi pgs_nil fun vs σ H Q q => by
  obtain ⟨I, F, env, ds, hs, hl, er, env', e, k⟩ := q
  cases ds with
  | nil =>
    have ev : vs = [] := List.length_eq_zero_iff.mp hl.symm
    subst ev
    unfold asgL at e
    cases e
    exact ⟨rfl, k σ I H (But.refl _ _) (Le.refl I) hs er⟩
  | cons d ds => unfold asgL at e; cases e
theorem gs_cons {t : Tgt} {ts : List Tgt} {e : Expr} {es : List Expr} (h : PG Γ e (tG X t)) (hs : PGs Γ es (tGs X ts))
    (hst : (assignEach (e :: es) Γ.env).map (·.2) = assign e Γ.env :: (assignEach es Γ.env).map (·.2) := by rfl) : PGs Γ (e :: es) (tGs X (t :: ts)) := PGsi (pgs_cons h hs hst) fun vs σ H Q q => by
  obtain ⟨I, F, env, ds, hs, hl, er, env', e, k⟩ := q
  cases ds with
  | nil => unfold asgL at e; cases e
  | cons d ds =>
    cases vs with
    | nil => cases hl
    | cons v vs =>
      unfold asgL at e
      obtain ⟨e1, a1, a2⟩ := Option.bind_eq_some_iff.mp e
      refine ⟨v, vs, rfl, ?_⟩
      have hl2 : ds.length = vs.length := by simpa using hl
      have h1 : Hs X.w I F ((d :: ds) ++ env) ((v :: vs) ++ σv σ) H := hs
      have h2 : Hs X.w I F ((d :: ds).tail ++ (d :: env)) (vs ++ (v :: σv σ)) H := by
        have z : Hs X.w I F ([d] ++ (ds ++ env)) ([v] ++ (vs ++ σv σ)) H := hs
        have z2 := (z.comm rfl)
        have z3 : Hs X.w I F (ds ++ (env ++ [d])) (vs ++ (σv σ ++ [v])) H := by simpa using z2
        obtain ⟨G, g, back⟩ := Hs.push z3 hl2
        have g2 := g.comm (by have := hs.length; simp [σv_len] at this ⊢; omega)
        exact back I _ _ H (Le.refl I) g2
      obtain ⟨G, g, back⟩ := Hs.push h2 hl2
      refine ⟨I, G, env, d, g, er, e1, a1, fun σ' I' H' bt le h' er' => ?_⟩
      refine ⟨I', F, e1, ds, back I' _ _ H' le h', hl2, er', env', a2, fun σ2 I2 H2 bt2 le2 => k σ2 I2 H2 ⟨bt2.1.trans bt.1, fun i hi => ?_⟩ (le.trans le2)⟩
      have hi' : i ∉ t.slots ++ slotsL ts := hi
      rw [bt2.2 i (fun z => hi' (List.mem_append_right _ z)), bt.2 i (fun z => hi' (List.mem_append_left _ z))]
theorem asgL_len : ∀ (ts : List Tgt) (ds : List D) (env env' : Env), asgL ts ds env = some env' → ds.length = ts.length := by
  intro ts
  induction ts with
  | nil =>
    intro ds env env' e
    cases ds with
    | nil => rfl
    | cons d ds => unfold asgL at e; cases e
  | cons t ts ih =>
    intro ds env env' e
    cases ds with
    | nil => unfold asgL at e; cases e
    | cons d ds =>
      unfold asgL at e
      obtain ⟨e1, a1, a2⟩ := Option.bind_eq_some_iff.mp e
      simp [ih ds e1 env' a2]
theorem g_tp {ts : List Tgt} {es : List Expr} {k} {pos : Pos} (hc : Γ.calm = true) (h : PGs Γ es (tGs X ts)) (hK : X.w.K = Γ.K) (hn : (assignEach es Γ.env).length = ts.length := by rfl) (hst : (assignEach es Γ.env).findIdx? (·.1) = none := by rfl) : PG Γ (.Tuple es k pos) (tG X (.tp ts)) := PGi (pg_tup hc h hn hst) fun v σ H Q q => by
  obtain ⟨I, F, env, d, hs, er, env', e, kk⟩ := q
  cases d with
  | node t xs =>
    cases t with
    | tup =>
      unfold asg at e
      obtain ⟨a, us, rfl, hq, _, hq2, hl, _, h2⟩ := hs.seq (xs := xs) rfl
      refine ⟨a, us, rfl, ?_, by rw [← hl]; exact asgL_len ts xs env env' e, I, F, env, xs, h2, hl, er, env', e, kk⟩
      rw [← hK]
      exact le_t hs.iH (hq2 (.inl rfl))
    | tux =>
      unfold asg at e
      obtain ⟨a, us, rfl, hq, _, hq2, hl, _, h2⟩ := hs.seq (xs := xs) rfl
      refine ⟨a, us, rfl, ?_, by rw [← hl]; exact asgL_len ts xs env env' e, I, F, env, xs, h2, hl, er, env', e, kk⟩
      rw [← hK]
      exact le_t hs.iH (hq2 (.inr rfl))
    | _ => unfold asg at e; cases e
  | _ => unfold asg at e; cases e

/-! ### statements -/
def sSeq (a b : S) : S := fun env => match a env with
  | .nx e => b e
  | r => r
theorem s_seq {st : Stmt} {rest : List Stmt} {a b : S} (h1 : PS Γ st (tS X W a)) (h2 : PSs Γ rest (tS X W b)) : PSs Γ (st :: rest) (tS X W (sSeq a b)) := PSsi (pss_cons h1 h2) fun E σ H q => by
  obtain ⟨I, F, env, hs, er, o⟩ := q
  refine ⟨I, F, env, hs, er, ?_⟩
  unfold sSeq at o
  cases h : a env with
  | nx e =>
    simp only [h] at o
    intro σ' I' H' le h' er'
    exact ⟨I', F, e, h', er', o.later le⟩
  | rt d e => simp only [h] at o; exact o
  | bk e => simp only [h] at o; exact o
  | ct e => simp only [h] at o; exact o
  | exc c ns xs e => simp only [h] at o; exact o
  | bad => simp only [h] at o; exact o
def sNext : S := fun env => .nx env
theorem s_nil : PSs Γ [] (tS X W sNext) := PSsi pss_nil fun E σ H q => by
  obtain ⟨I, F, env, hs, er, o⟩ := q
  exact o σ I H (Le.refl I) hs er
theorem s_pass {pos : Pos} : PS Γ (.Pass pos) (tS X W sNext) := PSi ps_pass fun E σ H q => by
  obtain ⟨I, F, env, hs, er, o⟩ := q
  exact o σ I H (Le.refl I) hs er
def sBrk : S := fun env => .bk env
theorem s_brk {pos : Pos} : PS Γ (.Break pos) (tS X W sBrk) := PSi ps_break fun E σ H q => by
  obtain ⟨I, F, env, hs, er, o⟩ := q
  exact o σ I H (Le.refl I) hs er
def sCnt : S := fun env => .ct env
theorem s_cnt {pos : Pos} : PS Γ (.Continue pos) (tS X W sCnt) := PSi ps_continue fun E σ H q => by
  obtain ⟨I, F, env, hs, er, o⟩ := q
  exact o σ I H (Le.refl I) hs er
def sBad : S := fun _ => .bad
theorem s_bad {st : Stmt} : PS Γ st (tS X W sBad) := PSi ps_never fun E σ H q => by
  obtain ⟨I, F, env, hs, er, o⟩ := q
  exact o
theorem s_one {st : Stmt} {a : S} (h : PS Γ st (tS X W a)) : PSs Γ [st] (tS X W a) := pss_one h
def sRet (m : M) : S := fun env => match m env with
  | .ok r e => .rt r e
  | .exc c ns xs e => .exc c ns xs e
  | .bad => .bad
theorem s_ret {e : Expr} {pos : Pos} {m : M} (h : PE Γ e (tE X W m)) : PS Γ (.Return (some e) pos) (tS X W (sRet m)) := PSi (ps_ret h) fun E σ H q => by
  obtain ⟨I, F, env, hs, er, o⟩ := q
  refine ⟨I, F, env, hs, er, ?_⟩
  unfold sRet at o
  cases hm : m env with
  | bad => simp only [hm] at o; exact o.elim
  | ok r e => simp only [hm] at o; exact fun v I' H' le h' er' => o v σ I' H' le h' er'
  | exc c ns xs e => simp only [hm] at o; exact fun cls d I' H' le h' er' x => o cls d σ I' H' le h' er' x
/-- return x, of a name: nothing is given up, for nothing comes after -/
def sRetV (i : Nat) : S := fun env => match env[i]? with
  | some d => if d.isAny = true then .bad else .rt d (env.set i .any)
  | none => .bad
theorem s_retV {x : Str} {p pos : Pos} {i : Nat} (h : PE Γ (.Name x p) (tVar i)) : PS Γ (.Return (some (.Name x p)) pos) (tS X W (sRetV i)) := PSi (ps_ret h) fun E σ H q => by
  obtain ⟨I, F, env, hs, er, o⟩ := q
  unfold sRetV at o
  cases hd : env[i]? with
  | none => simp only [hd] at o; exact o.elim
  | some d =>
    simp only [hd] at o
    cases ha : d.isAny with
    | true => simp [ha] at o; exact o.elim
    | false =>
      simp [ha] at o
      obtain ⟨v, hv⟩ := er.on i d hd (isAny_iff.mp ha)
      obtain ⟨v', e', h1⟩ := Hs.take (es := []) (us := []) hs rfl hd
      have ev : v' = v := Option.some.inj (e'.symm.trans (σv_at hv))
      subst ev
      exact ⟨v', hv, o v' σ I H (Le.refl I) h1 (er.set hd fun h => absurd rfl h)⟩
def sRetN : S := fun env => .rt .non env
theorem s_retN {pos : Pos} : PS Γ (.Return none pos) (tS X W sRetN) := PSi ps_retN fun E σ H q => by
  obtain ⟨I, F, env, hs, er, o⟩ := q
  exact o .non σ I H (Le.refl I) (hs.addC rfl) er
def sDrop (m : M) : S := fun env => match m env with
  | .ok _ e => .nx e
  | .exc c ns xs e => .exc c ns xs e
  | .bad => .bad
theorem s_drop {e : Expr} {pos : Pos} {m : M} (h : PE Γ e (tE X W m)) (hsw : swapsWith e none pos.line Γ.env = pure false := by rfl) : PS Γ (.Expr e pos) (tS X W (sDrop m)) := PSi (ps_expr h hsw) fun E σ H q => by
  obtain ⟨I, F, env, hs, er, o⟩ := q
  refine ⟨I, F, env, hs, er, ?_⟩
  unfold sDrop at o
  cases hm : m env with
  | bad => simp only [hm] at o; exact o.elim
  | ok r e => simp only [hm] at o; exact fun v I' H' le h' er' => o σ I' H' le h'.drop er'
  | exc c ns xs e => simp only [hm] at o; exact fun cls d I' H' le h' er' x => o cls d σ I' H' le h' er' x
def sIf (c : M) (a b : S) : S := fun env => match c env with
  | .ok (.bl true) e => a e
  | .ok (.bl false) e => b e
  | .ok _ _ => .bad
  | .exc c ns xs e => .exc c ns xs e
  | .bad => .bad
theorem s_if {c : Expr} {p q : List Stmt} {pos : Pos} {mc : M} {a b : S} (hc : PT Γ c (tT X W mc)) (ha : PSs Γ p (tS X W a)) (hb : PSs Γ q (tS X W b)) : PS Γ (.If c p q pos) (tS X W (sIf mc a b)) := PSi (ps_if hc ha hb) fun E σ H q => by
  obtain ⟨I, F, env, hs, er, o⟩ := q
  refine ⟨I, F, env, hs, er, ?_⟩
  unfold sIf at o
  cases hm : mc env with
  | bad => simp only [hm] at o; exact o.elim
  | exc c ns xs e => simp only [hm] at o; exact fun cls d I' H' le h' er' x => o cls d σ I' H' le h' er' x
  | ok r e =>
    simp only [hm] at o
    cases r with
    | bl b =>
      intro I1 H1 le h1 er1
      cases b with
      | true => exact ⟨I1, F, e, h1, er1, OutS.later le o⟩
      | false => exact ⟨I1, F, e, h1, er1, OutS.later le o⟩
    | _ => exact o.elim
def sAsg (t : Tgt) (m : M) : S := fun env => match m env with
  | .ok r e => (match asg t r e with
    | some e2 => .nx e2
    | none => .bad)
  | .exc c ns xs e => .exc c ns xs e
  | .bad => .bad
theorem asg_run {te : TE} {m : M} {t : Tgt} {g : TG} {E : Ends} {σ : L2.St} {H : Hp} (hte : ∀ Q, tE X W m σ H Q → te σ H Q) (hg : ∀ v σ H Q, tG X t v σ H Q → g v σ H Q) (q : tS X W (sAsg t m) E σ H) : tAsg te g E σ H := by
  obtain ⟨I, F, env, hs, er, o⟩ := q
  refine hte _ ⟨I, F, env, hs, er, ?_⟩
  unfold sAsg at o
  cases hm : m env with
  | bad => simp only [hm] at o; exact o.elim
  | exc c ns xs e => simp only [hm] at o; exact fun cls d I' H' le h' er' x => o cls d σ I' H' le h' er' x
  | ok r e =>
    simp only [hm] at o
    intro v I1 H1 le h1 er1
    cases ht : asg t r e with
    | none => simp only [ht] at o; exact o.elim
    | some e2 =>
      simp only [ht] at o
      exact hg _ _ _ _ ⟨I1, F, e, r, h1, er1, e2, ht, fun σ' I2 H2 _ le2 h2 er2 => o σ' I2 H2 (le.trans le2) h2 er2⟩
/-- x = e -/
theorem s_set {i : Nat} {x : Str} {e : Expr} {m : M} {pos' pos : Pos} (hN : Γ.N.Nodup) (hi : Γ.N[i]? = some x) (hx : Loc Γ.env.scope x) (he : PE Γ e (tE X W m)) (hp : i ∉ X.pin := by decide) (hs : swapsWith e (some (.Name x pos')) pos.line Γ.env = pure false := by rfl) (hf : Γ.fn x = true ∨ Γ.env.scope.names.lookup x = some .local := by first | exact .inl rfl | exact .inr rfl | assumption) :
    PS Γ (.Assign [.Name x pos'] e pos) (tS X W (sAsg (.nm i) m)) := PSi (ps_set hN hi hx he hs hf) fun E σ H q => asg_run (fun _ z => z) (g_name hp) q
/-- a, b = e and the like -/
theorem s_asg {tg e : Expr} {pos : Pos} {m : M} {t : Tgt} (he : PE Γ e (tE X W m)) (hg : PG Γ tg (tG X t)) (hs : swapsWithSole [tg] e pos.line Γ.env = pure false := by rfl) (hw : swappedStores [tg] e Γ.env = pure none := by rfl)
    (h1 : (assignEach [tg] Γ.env).map (·.2) = [assign tg Γ.env] := by rfl) : PS Γ (.Assign [tg] e pos) (tS X W (sAsg t m)) := PSi (ps_asg he hg hs hw h1) fun E σ H q => asg_run (fun _ z => z) (fun _ _ _ _ z => z) q
/-- a, b = x, y: both sides written -/
def sPar (is : List Nat) (ops : List Opd) : S := fun env => match evA ops env with
  | .ok ds e1 => (match asgL (is.map .nm) ds e1 with
    | some e2 => .nx e2
    | none => .bad)
  | .exc c ns xs e => .exc c ns xs e
  | .bad => .bad
theorem par_go {I F H : Hp} : ∀ (is : List Nat) (ds : List D) (vs : List V) (env env' : Env) (σ : L2.St), (∀ i ∈ is, i ∉ X.pin) → Hs X.w I F (ds ++ env) (vs ++ σv σ) H → ds.length = vs.length → EnvR X σ env → asgL (is.map .nm) ds env = some env' →
    Hs X.w I F env' (σv ((is.zip vs).foldl (fun s p => s.set p.1 (some p.2)) σ)) H ∧ EnvR X ((is.zip vs).foldl (fun s p => s.set p.1 (some p.2)) σ) env' ∧ is.length = vs.length
  | [], ds, vs, env, env', σ, hp, hs, hl, er, e => by
    cases ds with
    | nil =>
      have ev : vs = [] := List.length_eq_zero_iff.mp hl.symm
      subst ev
      have e2 : some env = some env' := e
      cases e2
      exact ⟨hs, er, rfl⟩
    | cons d ds => cases e
  | i :: is, ds, vs, env, env', σ, hp, hs, hl, er, e => by
    cases ds with
    | nil => cases e
    | cons d ds =>
      cases vs with
      | nil => cases hl
      | cons v vs =>
        have e2 : (asg (.nm i) d env).bind (asgL (is.map .nm) ds) = some env' := e
        obtain ⟨e1, a1, a2⟩ := Option.bind_eq_some_iff.mp e2
        unfold asg at a1
        have hl2 : ds.length = vs.length := by simpa using hl
        by_cases hi : i < env.length
        · rw [if_pos hi] at a1
          cases a1
          have hlen : env.length = σ.length := by have := hs.length; simp [σv_len] at this hl; omega
          have z : Hs X.w I F (d :: (ds ++ env)) (v :: (vs ++ σv σ)) H := hs
          have z1 := z.set (i := ds.length + i) (by simp; omega)
          rw [List.set_append_right _ _ (by omega), List.set_append_right _ _ (by omega)] at z1
          rw [show ds.length + i - ds.length = i by omega, show ds.length + i - vs.length = i by omega] at z1
          rw [← σv_set] at z1
          obtain ⟨r1, r2, r3⟩ := par_go is ds vs (env.set i d) env' (σ.set i (some v)) (fun j m => hp j (List.mem_cons_of_mem _ m)) z1 hl2 (er.store hlen hi (hp i (List.mem_cons_self ..))) a2
          exact ⟨r1, r2, by simp [r3]⟩
        · rw [if_neg hi] at a1
          cases a1
theorem par_run {is : List Nat} {ops : List Opd} {E : Ends} {σ : L2.St} {H : Hp} (hp : ∀ i ∈ is, i ∉ X.pin) (q : tS X W (sPar is ops) E σ H) : tOs X W ops σ H fun vs H1 => is.length = vs.length ∧ E.nx ((is.zip vs).foldl (fun s p => s.set p.1 (some p.2)) σ) H1 := by
  obtain ⟨I, F, env, hs, er, o⟩ := q
  refine ops_run ops σ H _ ⟨I, F, env, hs, er, ?_⟩
  unfold sPar at o
  cases ha : evA ops env with
  | bad => simp only [ha] at o; exact o.elim
  | exc c ns xs e => simp only [ha] at o; exact fun cls d I' H' le h' er' x => o cls d σ I' H' le h' er' x
  | ok ds e1 =>
    simp only [ha] at o
    intro vs I1 H1 le1 h1 hl er1 pk
    cases hb : asgL (is.map .nm) ds e1 with
    | none => simp only [hb] at o; exact o.elim
    | some e2 =>
      simp only [hb] at o
      obtain ⟨r1, r2, r3⟩ := par_go is ds vs e1 e2 σ hp h1 hl er1 hb
      exact ⟨r3, o _ I1 H1 le1 r1 r2⟩
theorem s_par {i j : Nat} {x y : Str} {a b : Expr} {px py pt pos : Pos} {kt k2 pt2} {ops : List Opd} (hc : Γ.calm = true) (hN : Γ.N.Nodup) (hi : Γ.N[i]? = some x) (hj : Γ.N[j]? = some y) (hij : i ≠ j)
    (hx : Γ.env.scope.names.lookup x = some .local) (hy : Γ.env.scope.names.lookup y = some .local) (ha : PA Γ [a, b] (tOs X W ops))
    (hw : swappedStores [.Tuple [.Name x px, .Name y py] kt pt] (.Tuple [a, b] k2 pt2) Γ.env = pure (some [x, y])) (hp : ∀ k ∈ [i, j], k ∉ X.pin := by decide)
    (hs : swapsWithSole [.Tuple [.Name x px, .Name y py] kt pt] (.Tuple [a, b] k2 pt2) pos.line Γ.env = pure false := by rfl) :
    PS Γ (.Assign [.Tuple [.Name x px, .Name y py] kt pt] (.Tuple [a, b] k2 pt2) pos) (tS X W (sPar [i, j] ops)) := PSi (ps_par hc hN hi hj hij hx hy ha hw hs) fun E σ H q => by
  have z := par_run hp q
  have key : ∀ (ops : List Opd) (σ0 : L2.St) (H : Hp) (Q Q' : List V → Hp → Prop), (∀ vs H, Q vs H → Q' vs H) → tOs X W ops σ0 H Q → tOs X W ops σ0 H Q' := by
    intro ops
    induction ops with
    | nil => exact fun σ0 H Q Q' k h => k _ _ h
    | cons o ops ih =>
      intro σ0 H Q Q' k h
      cases o with
      | peek i =>
        obtain ⟨v, hv, h⟩ := h
        exact ⟨v, hv, ih _ _ _ _ (fun vs H q => k _ _ q) h⟩
      | val m =>
        obtain ⟨I, F, env, hs, er, o⟩ := h
        refine ⟨I, F, env, hs, er, ?_⟩
        revert o
        cases m env with
        | bad => exact fun o => o
        | exc c ns xs e => exact fun o => o
        | ok r e => exact fun o v I' H' le h' er' => ih _ _ _ _ (fun vs H q => k _ _ q) (o v I' H' le h' er')
  refine key ops σ H _ _ (fun vs H1 h => ?_) z
  obtain ⟨hl, h⟩ := h
  match vs, hl, h with
  | [v, u], _, h => exact ⟨v, u, rfl, h⟩

/-! ### what is walked -/
structure Walks (w : Wd) (J : It) (I : Hp) (xs : List D) : Prop where
  go : ∀ i I0 F ds vs H, Hs w I0 F ds vs H → Le I I0 → i < xs.length → J.go i H
  stop : ∀ I0 F ds vs H, Hs w I0 F ds vs H → Le I I0 → J.stop xs.length H
  yld : ∀ i d I0 F ds vs H x H', Hs w I0 F ds vs H → Le I I0 → xs[i]? = some d → J.yld i H x H' → ∃ I1, Le I0 I1 ∧ Hs w I1 F (d :: ds) (x :: vs) H'
inductive SrcR where
  | ok (xs : List D) (e : Env) | exc (c : Str) (ns : List Str) (xs : List D) (e : Env) | bad
abbrev Src := Env → SrcR
def OutI (X : Fx) (W : WX) (I F : Hp) (σ : L2.St) (R : It → Hp → Prop) : SrcR → Prop
  | .ok xs env' => ∀ J I' H', Le I I' → Hs X.w I' F env' (σv σ) H' → EnvR X σ env' → Walks X.w J I' xs → R J H'
  | .exc c ns xs env' => ∀ cls d I' H', Le I I' → Hs X.w I' F env' (σv σ) H' → EnvR X σ env' → XRep X.w I' cls d c ns xs → W cls d σ H'
  | .bad => False
def tI (X : Fx) (W : WX) (s : Src) : TI := fun σ H R => ∃ I F env, Hs X.w I F env (σv σ) H ∧ EnvR X σ env ∧ OutI X W I F σ R (s env)
theorem PIi {tg e : Expr} {t t' : TI} (h : PI Γ tg e t) (i : ∀ σ H R, t' σ H R → t σ H R) : PI Γ tg e t' := ⟨fun pins s σ H R I q => h.run pins s σ H R I (i σ H R q)⟩
theorem PI.or {tg e : Expr} {t t' : TI} (h : PI Γ tg e t) (h' : PI Γ tg e t') : PI Γ tg e (fun σ H R => t σ H R ∨ t' σ H R) := ⟨fun pins s σ H R I q => q.elim (h.run pins s σ H R I) (h'.run pins s σ H R I)⟩
/-- the items of a list or a tuple; the thing itself is given up -/
def iSeq (m : M) : Src := fun env => match m env with
  | .ok d e => (match d.seq with
    | some xs => .ok (frzL xs) e
    | none => .bad)
  | .exc c ns xs e => .exc c ns xs e
  | .bad => .bad
theorem SqL.fun {K : PySem.W.Frag} {I : Hp} {a : Addr} {us : List V} (h : I a = some (.lst us)) : SqL K I a us := Or.inl (Or.inl h)
theorem walks_l {w : Wd} {I : Hp} {a : Addr} {us : List V} {xs : List D} (hq : SqL w.K I a us) (r : RepL w I I xs us []) : Walks w (Itl w.K a) I xs where
  go := fun i I0 F ds vs H hs le hi => by
    have hl := r.length
    exact ⟨us, us[i], le_l (le.trans hs.iH) hq, by rw [List.getElem?_eq_getElem]⟩
  stop := fun I0 F ds vs H hs le => ⟨us, le_l (le.trans hs.iH) hq, by rw [r.length]; exact Nat.le_refl _⟩
  yld := fun i d I0 F ds vs H x H' hs le hd y => by
    obtain ⟨rfl, hx⟩ := y
    have e := hx us (le_l (le.trans hs.iH) hq)
    obtain ⟨v, f1, f2, ev, r1, r2, p⟩ := r.take hd
    have ex : x = v := Option.some.inj (e.symm.trans ev)
    subst ex
    have f0 : f1 = [] := by
      have := p.length_eq
      simp at this
      exact List.length_eq_zero_iff.mp (by omega)
    subst f0
    obtain ⟨fp, rr, nd, dj⟩ := hs.ex
    have r1' := Rep.frame (H' := H') le d x [] (fun a m => nomatch m) r1
    exact ⟨I0, Le.refl _, hs.of_sub (RepL.cons (f1 := []) r1' rr) rr nd dj nd fun b m => m⟩
theorem walks_t {w : Wd} {I : Hp} {a : Addr} {us : List V} {xs : List D} (hq : SqT w.K I a us) (r : RepL w I I xs us []) : Walks w (Itt w.K a) I xs where
  go := fun i I0 F ds vs H hs le hi => by
    have hl := r.length
    exact ⟨us, us[i], le_t (le.trans hs.iH) hq, by rw [List.getElem?_eq_getElem]⟩
  stop := fun I0 F ds vs H hs le => ⟨us, le_t (le.trans hs.iH) hq, by rw [r.length]; exact Nat.le_refl _⟩
  yld := fun i d I0 F ds vs H x H' hs le hd y => by
    obtain ⟨rfl, hx⟩ := y
    have e := hx us (le_t (le.trans hs.iH) hq)
    obtain ⟨v, f1, f2, ev, r1, r2, p⟩ := r.take hd
    have ex : x = v := Option.some.inj (e.symm.trans ev)
    subst ex
    have f0 : f1 = [] := by
      have := p.length_eq
      simp at this
      exact List.length_eq_zero_iff.mp (by omega)
    subst f0
    obtain ⟨fp, rr, nd, dj⟩ := hs.ex
    have r1' := Rep.frame (H' := H') le d x [] (fun a m => nomatch m) r1
    exact ⟨I0, Le.refl _, hs.of_sub (RepL.cons (f1 := []) r1' rr) rr nd dj nd fun b m => m⟩
/-- a frozen list or tuple: where it stands for ever -/
theorem Hs.seqF {w : Wd} {I F H : Hp} {ds : List D} {vs : List V} {d : D} {v : V} {xs : List D} (h : Hs w I F (d.frz :: ds) (v :: vs) H) (e : d.seq = some xs) :
    ∃ a us, v = .ref a ∧ (SqL w.K I a us ∨ SqT w.K I a us) ∧ RepL w I I (frzL xs) us [] := by
  obtain ⟨fp, r⟩ := h.head
  obtain rfl := r.own_nil (frz_frz d)
  cases d with
  | node t ys =>
    have hxs : ys = xs := by cases t <;> simp [D.seq] at e <;> exact e
    subst hxs
    unfold D.frz Rep at r
    obtain ⟨a, us, fp', rfl, hl, hf, q⟩ := r
    rcases q with ⟨ho, _, _⟩ | ⟨_, hat, e0⟩
    · rw [Tag.own_frz] at ho; cases ho
    · subst e0
      refine ⟨a, us, rfl, ?_, RepL.frame (Le.refl I) _ us [] (fun a m => nomatch m) hl⟩
      cases t with
      | tup => exact .inr (SqT.of hat)
      | tux => exact .inr (Tux.sqt hat)
      | scr => exact .inl hat
      | lst o => exact .inl (Or.inl (Or.inl hat))
      | dk o ks => simp [D.seq] at e
      | dt o ks => simp [D.seq] at e
      | dn o ks => simp [D.seq] at e
      | ins o c ns => simp [D.seq] at e
  | _ => simp [D.seq] at e
theorem Hs.seqF2 {w : Wd} {I F H : Hp} {ds : List D} {vs : List V} {d : D} {v : V} {xs : List D} (h : Hs w I F (d.frz :: ds) (v :: vs) H) (e : d.seq = some xs) :
    ∃ a us, v = .ref a ∧ ((∃ ys, d = .node .tup ys ∨ d = .node .tux ys) → SqT w.K I a us) ∧ ((¬ ∃ ys, d = .node .tup ys ∨ d = .node .tux ys) → SqL w.K I a us) ∧ RepL w I I (frzL xs) us [] := by
  obtain ⟨fp, r⟩ := h.head
  obtain rfl := r.own_nil (frz_frz d)
  cases d with
  | node t ys =>
    have hxs : ys = xs := by cases t <;> simp [D.seq] at e <;> exact e
    subst hxs
    unfold D.frz Rep at r
    obtain ⟨a, us, fp', rfl, hl, hf, q⟩ := r
    rcases q with ⟨ho, _, _⟩ | ⟨_, hat, e0⟩
    · rw [Tag.own_frz] at ho; cases ho
    · subst e0
      refine ⟨a, us, rfl, fun z => ?_, fun z => ?_, RepL.frame (Le.refl I) _ us [] (fun a m => nomatch m) hl⟩
      · obtain ⟨zs, z⟩ := z
        rcases z with z | z
        · cases z
          exact SqT.of hat
        · cases z
          exact Tux.sqt hat
      · cases t with
        | tup => exact absurd ⟨_, .inl rfl⟩ z
        | tux => exact absurd ⟨_, .inr rfl⟩ z
        | scr => exact hat
        | lst o => exact Or.inl (Or.inl hat)
        | dk o ks => simp [D.seq] at e
        | dt o ks => simp [D.seq] at e
        | dn o ks => simp [D.seq] at e
        | ins o c ns => simp [D.seq] at e
  | _ => simp [D.seq] at e
theorem OutI.later {I J F : Hp} {σ : L2.St} {R : It → Hp → Prop} {r : SrcR} (le : Le I J) (o : OutI X W I F σ R r) : OutI X W J F σ R r := by
  cases r with
  | bad => exact o
  | ok r e => exact fun j I2 H2 le2 => o j I2 H2 (le.trans le2)
  | exc c ns xs e => exact fun cls d I2 H2 le2 => o cls d I2 H2 (le.trans le2)
theorem i_seq {tg e : Expr} {m : M} (h : PE Γ e (tE X W m)) (hK : X.w.K = Γ.K) : PI Γ tg e (tI X W (iSeq m)) := by
  refine PIi (PI.or (pi_list h) (pi_tup h)) fun σ H R q => ?_
  obtain ⟨I, F, env, hs, er, o⟩ := q
  unfold iSeq at o
  cases hm : m env with
  | bad => simp only [hm] at o; exact o.elim
  | exc c ns xs e =>
    simp only [hm] at o
    refine .inl ⟨I, F, env, hs, er, ?_⟩
    rw [hm]
    exact o
  | ok d e1 =>
    simp only [hm] at o
    cases hd : d.seq with
    | none => simp only [hd] at o; exact o.elim
    | some xs =>
      simp only [hd] at o
      by_cases ht : ∃ ys, d = .node .tup ys ∨ d = .node .tux ys
      · refine .inr ⟨I, F, env, hs, er, ?_⟩
        rw [hm]
        intro v I1 H1 le h1 er1
        obtain ⟨J, leJ, h2⟩ := h1.freeze
        obtain ⟨a, us, rfl, hq, _, r⟩ := h2.seqF2 hd
        have hq' : SqT Γ.K J a us := by rw [← hK]; exact hq ht
        refine ⟨a, rfl, ⟨us, le_t h2.iH hq'⟩, o _ J H1 (le.trans leJ) h2.drop er1 ?_⟩
        rw [← hK]
        exact walks_t (hq ht) r
      · refine .inl ⟨I, F, env, hs, er, ?_⟩
        rw [hm]
        intro v I1 H1 le h1 er1
        obtain ⟨J, leJ, h2⟩ := h1.freeze
        obtain ⟨a, us, rfl, _, hq, r⟩ := h2.seqF2 hd
        have hq' : SqL Γ.K J a us := by rw [← hK]; exact hq ht
        refine ⟨a, rfl, ⟨us, le_l h2.iH hq'⟩, o _ J H1 (le.trans leJ) h2.drop er1 ?_⟩
        rw [← hK]
        exact walks_l (hq ht) r
/-- range(n), range(a, b) -/
def rngL (lo : Int) (n : Nat) : List D := (List.range n).map fun k : Nat => .int (lo + (k : Int))
theorem walks_r {w : Wd} {I : Hp} {lo : Int} {n : Nat} : Walks w (Itr lo n) I (rngL lo n) where
  go := fun i I0 F ds vs H hs le hi => by
    have h : i < (rngL lo n).length := hi
    unfold rngL at h
    rw [List.length_map, List.length_range] at h
    exact h
  stop := fun I0 F ds vs H hs le => by
    show n ≤ (rngL lo n).length
    unfold rngL
    rw [List.length_map, List.length_range]
    exact Nat.le_refl _
  yld := fun i d I0 F ds vs H x H' hs le hd y => by
    obtain ⟨rfl, rfl⟩ := y
    unfold rngL at hd
    rw [List.getElem?_map] at hd
    obtain ⟨k, e1, e2⟩ := Option.map_eq_some_iff.mp hd
    have : k = i := by
      obtain ⟨h1, h2⟩ := List.getElem?_eq_some_iff.mp e1
      simp at h2
      exact h2.symm
    subst this
    subst e2
    exact ⟨I0, Le.refl _, hs.addC rfl⟩
def iRng (ops : List Opd) : Src := fun env => match evA ops env with
  | .ok [.int n] e => if -(2 ^ 62) ≤ n ∧ n < 2 ^ 62 then .ok (rngL 0 n.toNat) e else .bad
  | .ok [.int a, .int b] e => if -(2 ^ 62) ≤ a ∧ a < 2 ^ 62 ∧ -(2 ^ 62) ≤ b ∧ b < 2 ^ 62 then .ok (rngL a (b - a).toNat) e else .bad
  | .ok _ _ => .bad
  | .exc c ns xs e => .exc c ns xs e
  | .bad => .bad
theorem rng_env {ops : List Opd} {env e : Env} {ds : List D} (h : evA ops env = .ok ds e) (hv : ∀ o ∈ ops, ∃ m, o = .val m) : True := trivial
theorem i_rng1 {tg a : Expr} {p pos : Pos} {m : M} (hg : Gl Γ "range") (hm : Γ.mg "range" = none) (h : PI Γ tg (.Call (.Name "range" p) [a] [] pos) (iRng1 (tOs X W [.val m]))) : PI Γ tg (.Call (.Name "range" p) [a] [] pos) (tI X W (iRng [.val m])) := PIi h fun σ H R q => by
  obtain ⟨I, F, env, hs, er, o⟩ := q
  refine ops_run [.val m] σ H _ ⟨I, F, env, hs, er, ?_⟩
  unfold iRng at o
  cases ha : evA [.val m] env with
  | bad => simp only [ha] at o; exact o.elim
  | exc c ns xs e => simp only [ha] at o; exact o
  | ok ds e1 =>
    simp only [ha] at o
    intro vs I1 H1 le1 h1 hl er1 pk
    match ds, vs, hl, h1, o with
    | [.int n], [v], _, h1, o =>
      simp only at o
      by_cases c : -(2 ^ 62) ≤ n ∧ n < 2 ^ 62
      · rw [if_pos c] at o
        have h1' : Hs X.w I1 F (.int n :: e1) (v :: σv σ) H1 := h1
        rw [h1'.scal rfl]
        exact ⟨n, rfl, c.1, c.2, o _ I1 H1 le1 h1'.drop er1 walks_r⟩
      · rw [if_neg c] at o
        exact o.elim
    | [.any], _, _, _, o => exact o.elim
    | [.non], _, _, _, o => exact o.elim
    | [.bl _], _, _, _, o => exact o.elim
    | [.str _], _, _, _, o => exact o.elim
    | [.node _ _], _, _, _, o => exact o.elim
    | [], _, _, _, o => exact o.elim
    | d1 :: d2 :: ds, v :: vs, hl, _, o =>
      obtain ⟨v', u, e, hu⟩ := pk
      cases e
      have : vs = [] := hu
      subst this
      simp at hl
theorem i_rng2 {tg a b : Expr} {p pos : Pos} {m m2 : M} (h : PI Γ tg (.Call (.Name "range" p) [a, b] [] pos) (iRng2 (tOs X W [.val m, .val m2]))) : PI Γ tg (.Call (.Name "range" p) [a, b] [] pos) (tI X W (iRng [.val m, .val m2])) := PIi h fun σ H R q => by
  obtain ⟨I, F, env, hs, er, o⟩ := q
  refine ops_run [.val m, .val m2] σ H _ ⟨I, F, env, hs, er, ?_⟩
  unfold iRng at o
  cases ha : evA [.val m, .val m2] env with
  | bad => simp only [ha] at o; exact o.elim
  | exc c ns xs e => simp only [ha] at o; exact o
  | ok ds e1 =>
    simp only [ha] at o
    intro vs I1 H1 le1 h1 hl er1 pk
    obtain ⟨v, u1, rfl, v2, u2, rfl, rfl⟩ := pk
    match ds, hl with
    | [d1, d2], _ =>
      have h1' : Hs X.w I1 F (d1 :: d2 :: e1) (v :: v2 :: σv σ) H1 := h1
      cases d1 with
      | int n =>
        cases d2 with
        | int k =>
          simp only at o
          by_cases c : -(2 ^ 62) ≤ n ∧ n < 2 ^ 62 ∧ -(2 ^ 62) ≤ k ∧ k < 2 ^ 62
          · rw [if_pos c] at o
            rw [h1'.scal rfl, h1'.scal2 rfl]
            exact ⟨n, k, rfl, c, o _ I1 H1 le1 h1'.drop.drop er1 walks_r⟩
          · rw [if_neg c] at o
            exact o.elim
        | _ => exact o.elim
      | _ => exact o.elim
/-! ### for -/
def loopS (t : Tgt) (b : S) : List D → S
  | [], env => .nx env
  | x :: xs, env => match asg t x env with
    | none => .bad
    | some e1 => (match b e1 with
      | .nx e2 => loopS t b xs e2
      | .ct e2 => loopS t b xs e2
      | .bk e2 => .nx e2
      | .rt d e2 => .rt d e2
      | .exc c ns xs e2 => .exc c ns xs e2
      | .bad => .bad)
def sFor (src : Src) (t : Tgt) (b : S) : S := fun env => match src env with
  | .ok xs e => loopS t b xs e
  | .exc c ns xs e => .exc c ns xs e
  | .bad => .bad
theorem s_for {tg iter : Expr} {body : List Stmt} {pos : Pos} {src : Src} {t : Tgt} {b : S} (hp : PassesOwn (model Γ.prog Γ.w) Γ.A Γ.env Γ.xe) (hc : Γ.calm = true) (hi : PI Γ tg iter (tI X W src)) (hg : PG Γ tg (tG X t)) (hb : PSs Γ body (tS X W b))
    (hst : ∀ x, foldedSetIterable iter Γ.env x = pure x := by intro _; rfl) : PS Γ (.For tg iter body [] pos) (tS X W (sFor src t b)) := PSi (ps_for hp hc hi hg hb hst) fun E σ H q => by
  obtain ⟨I, F, env, hs, er, o⟩ := q
  refine ⟨I, F, env, hs, er, ?_⟩
  unfold sFor at o
  cases ha : src env with
  | bad => simp only [ha] at o; exact o.elim
  | exc c ns xs e => simp only [ha] at o; exact fun cls d I' H' le h' er' x => o cls d σ I' H' le h' er' x
  | ok xs e1 =>
    simp only [ha] at o
    intro J I1 H1 le1 h1 er1 wk
    refine ⟨fun i m σ' H' => m = xs.length - i ∧ i ≤ xs.length ∧ ∃ I0 env0, Le I1 I0 ∧ Hs X.w I0 F env0 (σv σ') H' ∧ EnvR X σ' env0 ∧ OutS X W I0 F E (loopS t b (xs.drop i) env0),
      ⟨xs.length, by simp, Nat.zero_le _, I1, e1, Le.refl _, h1, er1, o.later le1⟩, ?_⟩
    rintro i m σ' H' ⟨rfl, hi, I0, env0, le0, h0, er0, o0⟩
    by_cases hlt : i < xs.length
    · refine .inr ⟨wk.go i I0 F env0 _ H' h0 le0 hlt, fun σ2 H2 => ∃ I2 env2, Le I1 I2 ∧ Hs X.w I2 F env2 (σv σ2) H2 ∧ EnvR X σ2 env2 ∧ OutS X W I2 F E (loopS t b (xs.drop (i + 1)) env2), ?_, ?_⟩
      · rintro σ2 H2 ⟨I2, env2, k1, k2, k3, k4⟩
        exact ⟨xs.length - (i + 1), by omega, rfl, by omega, I2, env2, k1, k2, k3, k4⟩
      · intro x H2 y
        rw [List.drop_eq_getElem_cons hlt] at o0
        obtain ⟨I2, le2, h2⟩ := wk.yld i xs[i] I0 F env0 _ H' x H2 h0 le0 (List.getElem?_eq_getElem hlt) y
        unfold loopS at o0
        cases ht : asg t xs[i] env0 with
        | none => simp only [ht] at o0; exact o0.elim
        | some e' =>
          simp only [ht] at o0
          refine ⟨I2, F, env0, xs[i], h2, er0, e', ht, fun σ3 I3 H3 _ le3 h3 er3 => ⟨I3, F, e', h3, er3, ?_⟩⟩
          have le4 := (le0.trans le2).trans le3
          cases hb' : b e' with
          | bad => simp only [hb'] at o0; exact o0.elim
          | nx e2 =>
            simp only [hb'] at o0
            exact fun σ4 I4 H4 le5 h4 er4 => ⟨I4, e2, le4.trans le5, h4, er4, o0.later ((le2.trans le3).trans le5)⟩
          | ct e2 =>
            simp only [hb'] at o0
            exact fun σ4 I4 H4 le5 h4 er4 => ⟨I4, e2, le4.trans le5, h4, er4, o0.later ((le2.trans le3).trans le5)⟩
          | bk e2 =>
            simp only [hb'] at o0
            exact fun σ4 I4 H4 le5 h4 er4 => o0 σ4 I4 H4 ((le2.trans le3).trans le5) h4 er4
          | rt d e2 =>
            simp only [hb'] at o0
            exact fun v σ4 I4 H4 le5 h4 er4 => o0 v σ4 I4 H4 ((le2.trans le3).trans le5) h4 er4
          | exc c ns xs e2 =>
            simp only [hb'] at o0
            exact fun cls d σ4 I4 H4 le5 h4 er4 x => o0 cls d σ4 I4 H4 ((le2.trans le3).trans le5) h4 er4 x
    · have he : i = xs.length := by omega
      subst he
      rw [List.drop_length] at o0
      exact .inl ⟨wk.stop I0 F env0 _ H' h0 le0, o0 σ' I0 H' (Le.refl _) h0 er0⟩
/-! ### while, at most n turns -/
def loopW (c : M) (b : S) : Nat → S
  | 0, _ => .bad
  | n + 1, env => match c env with
    | .ok (.bl true) e1 => (match b e1 with
      | .nx e2 => loopW c b n e2
      | .ct e2 => loopW c b n e2
      | .bk e2 => .nx e2
      | .rt d e2 => .rt d e2
      | .exc c ns xs e2 => .exc c ns xs e2
      | .bad => .bad)
    | .ok (.bl false) e1 => .nx e1
    | .ok _ _ => .bad
    | .exc c ns xs e1 => .exc c ns xs e1
    | .bad => .bad
theorem s_while {c : Expr} {body : List Stmt} {pos : Pos} {mc : M} {b : S} (n : Nat) (hp : PassesOwn (model Γ.prog Γ.w) Γ.A Γ.env Γ.xe) (hc : PT Γ c (tT X W mc)) (hb : PSs Γ body (tS X W b)) : PS Γ (.While c body [] pos) (tS X W (loopW mc b n)) := PSi (ps_while hp hc hb) fun E σ H q => by
  obtain ⟨I, F, env, hs, er, o⟩ := q
  refine ⟨fun m σ' H' => ∃ I0 env0, Hs X.w I0 F env0 (σv σ') H' ∧ EnvR X σ' env0 ∧ OutS X W I0 F E (loopW mc b m env0), ⟨n, I, env, hs, er, o⟩, ?_⟩
  rintro m σ' H' ⟨I0, env0, h0, er0, o0⟩
  refine ⟨I0, F, env0, h0, er0, ?_⟩
  cases m with
  | zero => exact o0.elim
  | succ m =>
    unfold loopW at o0
    cases hm : mc env0 with
    | bad => simp only [hm] at o0; exact o0.elim
    | exc c ns xs e => simp only [hm] at o0; exact fun cls d I' H' le h' er' x => o0 cls d σ' I' H' le h' er' x
    | ok r e1 =>
      simp only [hm] at o0
      cases r with
      | bl k =>
        intro I1 H1 le h1 er1
        cases k with
        | false => exact o0 σ' I1 H1 le h1 er1
        | true =>
          refine ⟨fun σ2 H2 => ∃ I2 env2, Hs X.w I2 F env2 (σv σ2) H2 ∧ EnvR X σ2 env2 ∧ OutS X W I2 F E (loopW mc b m env2), fun σ2 H2 z => ⟨m, by omega, z⟩, I1, F, e1, h1, er1, ?_⟩
          simp only at o0
          cases hb' : b e1 with
          | bad => simp only [hb'] at o0; exact o0.elim
          | nx e2 =>
            simp only [hb'] at o0
            exact fun σ4 I4 H4 le5 h4 er4 => ⟨I4, e2, h4, er4, o0.later (le.trans le5)⟩
          | ct e2 =>
            simp only [hb'] at o0
            exact fun σ4 I4 H4 le5 h4 er4 => ⟨I4, e2, h4, er4, o0.later (le.trans le5)⟩
          | bk e2 =>
            simp only [hb'] at o0
            exact fun σ4 I4 H4 le5 h4 er4 => o0 σ4 I4 H4 (le.trans le5) h4 er4
          | rt d e2 =>
            simp only [hb'] at o0
            exact fun v σ4 I4 H4 le5 h4 er4 => o0 v σ4 I4 H4 (le.trans le5) h4 er4
          | exc c ns xs e2 =>
            simp only [hb'] at o0
            exact fun cls d σ4 I4 H4 le5 h4 er4 x => o0 cls d σ4 I4 H4 (le.trans le5) h4 er4 x
      | _ => exact o0.elim
end
end Z

set_option Elab.async false
set_option linter.all false
set_option maxRecDepth 100000
set_option maxHeartbeats 4000000
/-! ZH: comprehensions. -/
namespace Z
open PySem PySem.Spec PyProof.Rows L2
/-! ### some slots kept, the others not claimed -/
def keepP (p : Nat → Bool) : List D → List D
  | [] => []
  | d :: ds => (if p 0 = true then d else .any) :: keepP (fun i => p (i + 1)) ds
def mrg (p : Nat → Bool) : List D → List D → List D
  | a :: as, b :: bs => (if p 0 = true then a else b) :: mrg (fun i => p (i + 1)) as bs
  | _, bs => bs
theorem keepP_get : ∀ (ds : List D) (p : Nat → Bool) (i : Nat), (keepP p ds)[i]? = (ds[i]?).map fun d => if p i = true then d else .any
  | [], p, i => by simp [keepP]
  | d :: ds, p, 0 => by simp [keepP]
  | d :: ds, p, i + 1 => by
    have := keepP_get ds (fun i => p (i + 1)) i
    simpa [keepP] using this
theorem keepP_len : ∀ (ds : List D) (p : Nat → Bool), (keepP p ds).length = ds.length
  | [], p => rfl
  | d :: ds, p => by simp [keepP, keepP_len ds]
theorem mrg_get : ∀ (as bs : List D) (p : Nat → Bool) (i : Nat), as.length = bs.length → (mrg p as bs)[i]? = if p i = true then as[i]? else bs[i]?
  | [], [], p, i, _ => by simp [mrg]
  | [], _ :: _, p, i, h => by cases h
  | _ :: _, [], p, i, h => by cases h
  | a :: as, b :: bs, p, 0, h => by
    by_cases q : p 0 = true <;> simp [mrg, q]
  | a :: as, b :: bs, p, i + 1, h => by
    have := mrg_get as bs (fun i => p (i + 1)) i (by simpa using h)
    simpa [mrg] using this
section
variable {w : Wd}
theorem RepL.part {I H : Hp} : ∀ {ds : List D} {vs : List V} {fp : List Addr} (p : Nat → Bool), RepL w I H ds vs fp → ∃ f1 f2, RepL w I H (keepP p ds) vs f1 ∧ RepL w I H (keepP (fun i => !p i) ds) vs f2 ∧ List.Perm fp (f1 ++ f2)
  | [], vs, fp, p, h => by
    unfold RepL at h
    obtain ⟨rfl, rfl⟩ := h
    exact ⟨[], [], .nil, .nil, .refl _⟩
  | d :: ds, vs, fp, p, h => by
    unfold RepL at h
    obtain ⟨v, us, g1, g2, rfl, rfl, h1, h2⟩ := h
    obtain ⟨f1, f2, r1, r2, pm⟩ := h2.part (fun i => p (i + 1))
    unfold keepP
    by_cases q : p 0 = true
    · rw [if_pos q, if_neg (by simp [q])]
      refine ⟨g1 ++ f1, [] ++ f2, .cons h1 r1, .cons (by unfold Rep; rfl) r2, ?_⟩
      rw [List.nil_append, List.append_assoc]
      exact List.Perm.append_left g1 pm
    · rw [if_neg q, if_pos (by simpa using q)]
      refine ⟨[] ++ f1, g1 ++ f2, .cons (by unfold Rep; rfl) r1, .cons h1 r2, ?_⟩
      rw [List.nil_append]
      refine (List.Perm.append_left g1 pm).trans ?_
      rw [← List.append_assoc, ← List.append_assoc]
      exact List.Perm.append_right f2 List.perm_append_comm
/-- what was set aside, and what came meanwhile -/
theorem RepL.mrg {I H : Hp} : ∀ {as bs : List D} {vs : List V} {f1 f2 : List Addr} (p : Nat → Bool), RepL w I H (keepP p as) vs f1 → RepL w I H bs vs f2 → ∃ f3 f4, RepL w I H (Z.mrg p as bs) vs f3 ∧ List.Perm (f1 ++ f2) (f3 ++ f4)
  | [], [], vs, f1, f2, p, h1, h2 => ⟨f2, f1, h2, List.perm_append_comm⟩
  | [], b :: bs, vs, f1, f2, p, h1, h2 => ⟨f2, f1, h2, List.perm_append_comm⟩
  | a :: as, [], vs, f1, f2, p, h1, h2 => ⟨f2, f1, h2, List.perm_append_comm⟩
  | a :: as, b :: bs, vs, f1, f2, p, h1, h2 => by
    unfold keepP at h1
    unfold RepL at h1
    obtain ⟨v, us, g1, g2, rfl, rfl, q1, q2⟩ := h1
    obtain ⟨k1, k2, rfl, q3, q4⟩ := h2.out
    obtain ⟨f3, f4, r, pm⟩ := RepL.mrg (fun i => p (i + 1)) q2 q4
    unfold Z.mrg
    by_cases q : p 0 = true
    · rw [if_pos q] at q1 ⊢
      refine ⟨g1 ++ f3, k1 ++ f4, .cons q1 r, ?_⟩
      have e1 : List.Perm ((g1 ++ g2) ++ (k1 ++ k2)) (g1 ++ (k1 ++ (g2 ++ k2))) := by
        rw [List.append_assoc]
        refine List.Perm.append_left g1 ?_
        rw [← List.append_assoc, ← List.append_assoc]
        exact List.Perm.append_right k2 List.perm_append_comm
      refine e1.trans ?_
      refine (List.Perm.append_left g1 (List.Perm.append_left k1 pm)).trans ?_
      rw [List.append_assoc]
      refine List.Perm.append_left g1 ?_
      rw [← List.append_assoc, ← List.append_assoc]
      exact List.Perm.append_right f4 List.perm_append_comm
    · rw [if_neg q] at q1 ⊢
      unfold Rep at q1
      subst q1
      refine ⟨k1 ++ f3, f4, .cons q3 r, ?_⟩
      have e1 : List.Perm (([] ++ g2) ++ (k1 ++ k2)) (k1 ++ (g2 ++ k2)) := by
        rw [List.nil_append, ← List.append_assoc, ← List.append_assoc]
        exact List.Perm.append_right k2 List.perm_append_comm
      refine e1.trans ?_
      rw [List.append_assoc]
      exact List.Perm.append_left k1 pm
theorem RepL.vals {I H : Hp} : ∀ {ds : List D} {vs us : List V} {fp : List Addr}, RepL w I H ds vs fp → us.length = vs.length → (∀ (i : Nat) (d : D), ds[i]? = some d → d ≠ D.any → us[i]? = vs[i]?) → RepL w I H ds us fp
  | [], vs, us, fp, h, hl, e => by
    unfold RepL at h
    obtain ⟨rfl, rfl⟩ := h
    have : us = [] := List.length_eq_zero_iff.mp hl
    subst this
    exact .nil
  | d :: ds, vs, us, fp, h, hl, e => by
    unfold RepL at h
    obtain ⟨v, vs', f1, f2, rfl, rfl, h1, h2⟩ := h
    cases us with
    | nil => cases hl
    | cons u us =>
      refine .cons ?_ (h2.vals (by simpa using hl) fun i d' hi hd => by simpa using e (i + 1) d' (by simpa using hi) hd)
      by_cases q : d = D.any
      · subst q
        unfold Rep at h1 ⊢
        exact h1
      · have := e 0 d rfl q
        simp at this
        rw [this]
        exact h1
theorem Hs.vals {I F H : Hp} {ds : List D} {vs us : List V} (h : Hs w I F ds vs H) (hl : us.length = vs.length) (e : ∀ (i : Nat) (d : D), ds[i]? = some d → d ≠ D.any → us[i]? = vs[i]?) : Hs w I F ds us H := by
  obtain ⟨fp, r, nd, dj⟩ := h.ex
  exact ⟨⟨fp, r.vals hl e, nd, dj⟩, h.iF, h.fH, h.fT, h.lkI, h.fkF⟩
theorem Hs.keep {I F H : Hp} {ds : List D} {vs : List V} (p : Nat → Bool) (h : Hs w I F ds vs H) : Hs w I F (keepP p ds) vs H := by
  obtain ⟨fp, r, nd, dj⟩ := h.ex
  obtain ⟨f1, f2, r1, r2, pm⟩ := r.part p
  have n := pm.nodup_iff.mp nd
  exact h.of_sub r1 r nd dj (List.nodup_append.mp n).1 fun a m => pm.symm.subset (List.mem_append_left _ m)
/-- some slots set aside -/
theorem Hs.aside {I F H : Hp} {ds : List D} {vs : List V} (p : Nat → Bool) (h : Hs w I F ds vs H) : ∃ G, Hs w I G (keepP (fun i => !p i) ds) vs H ∧
    ∀ I' pre prev ds' H', Le I I' → pre.length = prev.length → Hs w I' G (pre ++ ds') (prev ++ vs) H' → Hs w I' F (pre ++ mrg p ds ds') (prev ++ vs) H' := by
  obtain ⟨fp, r, nd, dj⟩ := h.ex
  obtain ⟨f1, f2, r1, r2, pm⟩ := r.part p
  have n := pm.nodup_iff.mp nd
  have h2 : Hs w I F (keepP p ds ++ keepP (fun i => !p i) ds) (vs ++ vs) H := h.of_sub (r1.append r2) r nd dj n fun a m => pm.symm.subset m
  obtain ⟨G, g, back⟩ := Hs.push h2 r1.length
  refine ⟨G, g, fun I' pre prev ds' H' le hl h' => ?_⟩
  have h3 := back I' (pre ++ ds') (prev ++ vs) H' le h'
  obtain ⟨fq, rq, nq, dq⟩ := h3.ex
  obtain ⟨k1, k2, rfl, s1, s2⟩ := rq.split r1.length
  obtain ⟨k3, k4, rfl, s3, s4⟩ := s2.split hl
  obtain ⟨f3, f4, s5, pm2⟩ := RepL.mrg p s1 s4
  have pm3 : List.Perm (k1 ++ (k3 ++ k4)) ((k3 ++ f3) ++ f4) := by
    have e1 : List.Perm (k1 ++ (k3 ++ k4)) (k3 ++ (k1 ++ k4)) := by
      rw [← List.append_assoc, ← List.append_assoc]
      exact List.Perm.append_right k4 List.perm_append_comm
    refine e1.trans ?_
    rw [List.append_assoc]
    exact List.Perm.append_left k3 pm2
  exact h3.of_sub (s3.append s5) rq nq dq (List.nodup_append.mp (pm3.nodup_iff.mp nq)).1 fun a m => pm3.symm.subset (List.mem_append_left _ m)
end
section
variable {Γ : Cx} {X : Fx} {W W1 : WX}
theorem wipe_get (σ : L2.St) : ∀ (vs : List Nat) (i : Nat), (wipe σ vs)[i]? = if i ∈ vs ∧ i < σ.length then some none else σ[i]?
  | [], i => by simp [wipe]
  | v :: vs, i => by
    unfold wipe
    by_cases q : v = i
    · subst q
      by_cases hl : v < σ.length
      · rw [List.getElem?_set_self (by rw [wipe_length]; exact hl), if_pos ⟨List.mem_cons_self .., hl⟩]
      · rw [if_neg (fun z => hl z.2), List.getElem?_eq_none (by rw [List.length_set, wipe_length]; omega), List.getElem?_eq_none (by omega)]
    · rw [List.getElem?_set_ne q, wipe_get σ vs i]
      by_cases m : i ∈ vs
      · simp [m]
      · have : i ∉ v :: vs := fun z => (List.mem_cons.mp z).elim (fun e => q e.symm) m
        simp [m, this]
theorem wipe_but {σ σ' : L2.St} {js vs : List Nat} (h : But js (wipe σ vs) σ') (hj : ∀ j ∈ js, j ∈ vs) : wipe σ' vs = wipe σ vs := by
  have hl : σ'.length = σ.length := by rw [h.1, wipe_length]
  apply List.ext_getElem?
  intro i
  rw [wipe_get, wipe_get, hl]
  by_cases m : i ∈ vs
  · by_cases l : i < σ.length
    · rw [if_pos ⟨m, l⟩, if_pos ⟨m, l⟩]
    · rw [if_neg (fun z => l z.2), if_neg (fun z => l z.2), List.getElem?_eq_none (by omega), List.getElem?_eq_none (by omega)]
  · rw [if_neg (fun z => m z.1), if_neg (fun z => m z.1), h.2 i (fun z => m (hj i z)), wipe_get, if_neg (fun z => m z.1)]
def own? (vs : List Nat) (i : Nat) : Bool := vs.contains i
def anyAll (vs : List Nat) (env : Env) : Env := keepP (fun i => !own? vs i) env
theorem own_iff {vs : List Nat} {i : Nat} : own? vs i = true ↔ i ∈ vs := by unfold own?; simp
/-- a frame where the comprehension's own names are not claimed -/
theorem er_any {σ : L2.St} {env : Env} {vs : List Nat} (er : EnvR X σ env) (hp : ∀ i ∈ X.pin, i ∉ vs) : EnvR X (wipe σ vs) (anyAll vs env) := by
  refine ⟨fun i d hd hn => ?_, fun i hi v hv => ?_⟩
  · unfold anyAll at hd
    rw [keepP_get] at hd
    obtain ⟨d0, e0, e1⟩ := Option.map_eq_some_iff.mp hd
    by_cases q : own? vs i = true
    · simp [q] at e1
      exact absurd e1.symm hn
    · simp [q] at e1
      subst e1
      obtain ⟨v, hv⟩ := er.on i d0 e0 hn
      refine ⟨v, ?_⟩
      rw [wipe_get, if_neg (fun z => q (own_iff.mpr z.1))]
      exact hv
  · rw [wipe_get, if_neg (fun z => hp i hi z.1)]
    exact er.pin i hi v hv
theorem hs_any {I F H : Hp} {σ : L2.St} {env : Env} {vs : List Nat} (h : Hs X.w I F env (σv σ) H) : Hs X.w I F (anyAll vs env) (σv (wipe σ vs)) H := by
  refine (h.keep (fun i => !own? vs i)).vals (by rw [σv_len, σv_len, wipe_length]) fun i d hd hn => ?_
  rw [keepP_get] at hd
  obtain ⟨d0, e0, e1⟩ := Option.map_eq_some_iff.mp hd
  by_cases q : own? vs i = true
  · simp [q] at e1
    exact absurd e1.symm hn
  · unfold σv
    rw [List.getElem?_map, List.getElem?_map, wipe_get, if_neg (fun z => q (own_iff.mpr z.1))]
theorem anyAll_idem (vs : List Nat) (env : Env) : anyAll vs (anyAll vs env) = anyAll vs env := by
  apply List.ext_getElem?
  intro i
  unfold anyAll
  rw [keepP_get, keepP_get, Option.map_map]
  congr 1
  funext d
  by_cases q : own? vs i = true <;> simp [q]
/-- .. and back -/
theorem hs_back {I F H : Hp} {σ : L2.St} {env : Env} {vs : List Nat} (h : Hs X.w I F (anyAll vs env) (σv (wipe σ vs)) H) : Hs X.w I F (anyAll vs env) (σv σ) H := by
  refine h.vals (by rw [σv_len, σv_len, wipe_length]) fun i d hd hn => ?_
  unfold anyAll at hd
  rw [keepP_get] at hd
  obtain ⟨d0, e0, e1⟩ := Option.map_eq_some_iff.mp hd
  by_cases q : own? vs i = true
  · simp [q] at e1
    exact absurd e1.symm hn
  · unfold σv
    rw [List.getElem?_map, List.getElem?_map, wipe_get, if_neg (fun z => q (own_iff.mpr z.1))]
theorem er_back {σ : L2.St} {env0 env : Env} {vs : List Nat} (er0 : EnvR X σ env0) (er : EnvR X (wipe σ vs) env) (hl : env0.length = env.length) : EnvR X σ (mrg (own? vs) env0 env) := by
  refine ⟨fun i d hd hn => ?_, er0.pin⟩
  rw [mrg_get _ _ _ _ hl] at hd
  by_cases q : own? vs i = true
  · rw [if_pos q] at hd
    exact er0.on i d hd hn
  · rw [if_neg q] at hd
    obtain ⟨v, hv⟩ := er.on i d hd hn
    rw [wipe_get, if_neg (fun z => q (own_iff.mpr z.1))] at hv
    exact ⟨v, hv⟩
/-! ### one for -/
def tsto (X : Fx) (W : WX) : Option M → TT
  | none => tYes
  | some m => tT X W m
/-- the turns: what is made so far, what is left -/
def loopC (t : Tgt) (c : Option M) (m : M) (vs : List Nat) : List D → List D → Env → Option (List D × Env)
  | [], acc, env => some (acc, env)
  | x :: xs, acc, env => match asg t x env with
    | none => none
    | some e1 => (match (match c with
      | none => Res.ok (.bl true) e1
      | some c => c e1) with
      | .ok (.bl true) e2 => (match m e2 with
        | .ok r e3 => if acc.length < 100000 then loopC t c m vs xs (acc ++ [r]) (anyAll vs e3) else none
        | _ => none)
      | .ok (.bl false) e2 => loopC t c m vs xs acc (anyAll vs e2)
      | _ => none)
def mLc (src : Src) (t : Tgt) (c : Option M) (m : M) (vs : List Nat) : M := fun env => match src env with
  | .ok xs e => (match loopC t c m vs xs [] (anyAll vs e) with
    | some (acc, e2) => .ok (.node (.lst true) acc) (mrg (own? vs) e e2)
    | none => .bad)
  | .exc c ns xs e => .exc c ns xs e
  | .bad => .bad
abbrev W0 : WX := fun _ _ _ _ => False
/-- one more item into the list that is made -/
theorem Hs.grow {w : Wd} {I F H : Hp} {ds : List D} {vs : List V} {acc : List D} {r : D} {y : V} {Dl : Addr} (h : Hs w I F (r :: .node (.lst true) acc :: ds) (y :: .ref Dl :: vs) H) :
    ∃ us, H Dl = some (.lst us) ∧ acc.length = us.length ∧ Hs w I F (.node (.lst true) (acc ++ [r]) :: ds) (.ref Dl :: vs) (upd H Dl (.lst (us ++ [y]))) := by
  obtain ⟨a, us, G, ea, hl, hf, hat, hs, _, close⟩ := h.swap.open rfl
  cases ea
  refine ⟨us, hat, hl, ?_⟩
  have hs2 : Hs w I G ((acc ++ [r]) ++ ds) ((us ++ [y]) ++ vs) H := by simpa using hs
  exact close I (.lst true) (acc ++ [r]) (us ++ [y]) ds vs H (.lst (us ++ [y])) (Le.refl I) hs2 (by simp [hl]) rfl trivial (show upd H Dl (.lst (us ++ [y])) Dl = some (.lst (us ++ [y])) from upd_same)
/-- what is made stands in the others' part while a turn is made -/
theorem lc_run {src : Src} {t : Tgt} {c : Option M} {m : M} {vs : List Nat} {σ : L2.St} {H : Hp} {Q : VK} (hp : ∀ i ∈ X.pin, i ∉ vs) (ht : ∀ j ∈ t.slots, j ∈ vs) (q : tE X W (mLc src t c m vs) σ H Q) :
    tLc (tI X W src) (tG X t) (tsto X W0 c) (tE X W0 m) vs σ H Q := by
  obtain ⟨I, F, env, hs, er, o⟩ := q
  refine ⟨I, F, env, hs, er, ?_⟩
  unfold mLc at o
  cases ha : src env with
  | bad => simp only [ha] at o; exact o.elim
  | exc c ns xs e => simp only [ha] at o; exact o
  | ok xs e =>
    simp only [ha] at o
    intro J I1 H1 le1 h1 er1 wk Dl hD
    cases hb : loopC t c m vs xs [] (anyAll vs e) with
    | none => simp only [hb] at o; exact o.elim
    | some fin =>
      obtain ⟨accF, eF⟩ := fin
      simp only [hb] at o
      obtain ⟨G, hg, back⟩ := h1.aside (own? vs)
      have hg2 : Hs X.w I1 G (anyAll vs e) (σv (wipe σ vs)) H1 := by
        have := hs_any (vs := vs) hg
        rw [show anyAll vs (keepP (fun i => !own? vs i) e) = anyAll vs e from anyAll_idem vs e] at this
        exact this
      have hg3 : Hs X.w I1 G (.node (.lst true) [] :: anyAll vs e) (.ref Dl :: σv (wipe σ vs)) (upd H1 Dl (.lst [])) := Hs.newO (t := .lst true) (xs := []) (us := []) hg2 rfl hD rfl trivial (show upd H1 Dl (.lst []) Dl = some (.lst []) from upd_same)
      refine ⟨fun i k H' => k = xs.length - i ∧ i ≤ xs.length ∧ ∃ I0 env0 acc, Le I1 I0 ∧ Hs X.w I0 G (.node (.lst true) acc :: anyAll vs env0) (.ref Dl :: σv (wipe σ vs)) H' ∧ EnvR X (wipe σ vs) (anyAll vs env0) ∧ env0.length = e.length ∧ loopC t c m vs (xs.drop i) acc (anyAll vs env0) = some (accF, eF),
        ⟨xs.length, by simp, Nat.zero_le _, I1, e, [], Le.refl _, hg3, er_any er1 hp, rfl, hb⟩, ?_⟩
      rintro i k H' ⟨rfl, hi, I0, env0, acc, le0, h0, er0, hlen, o0⟩
      by_cases hlt : i < xs.length
      · refine .inr ⟨wk.go i I0 G _ _ H' h0 le0 hlt, fun H2 => ∃ I2 env2 acc2, Le I1 I2 ∧ Hs X.w I2 G (.node (.lst true) acc2 :: anyAll vs env2) (.ref Dl :: σv (wipe σ vs)) H2 ∧ EnvR X (wipe σ vs) (anyAll vs env2) ∧ env2.length = e.length ∧ loopC t c m vs (xs.drop (i + 1)) acc2 (anyAll vs env2) = some (accF, eF), ?_, ?_⟩
        · rintro H2 ⟨I2, env2, acc2, k1, k2, k3, k4, k5⟩
          exact ⟨xs.length - (i + 1), by omega, rfl, by omega, I2, env2, acc2, k1, k2, k3, k4, k5⟩
        · intro x H2 y
          rw [List.drop_eq_getElem_cons hlt] at o0
          obtain ⟨I2, le2, h2⟩ := wk.yld i xs[i] I0 G _ _ H' x H2 h0 le0 (List.getElem?_eq_getElem hlt) y
          unfold loopC at o0
          cases hta : asg t xs[i] (anyAll vs env0) with
          | none => simp only [hta] at o0; cases o0
          | some e' =>
            simp only [hta] at o0
            obtain ⟨K, hk, kback⟩ := Hs.push (ds := [.node (.lst true) acc]) (vs := [.ref Dl]) h2.swap rfl
            refine ⟨I2, K, anyAll vs env0, xs[i], hk, er0, e', hta, fun σ3 I3 H3 bt le3 h3 er3 => ⟨wipe_but bt ht, ?_⟩⟩
            have hw := wipe_but bt ht
            -- behind a turn: the env as it is then, own names not claimed
            have fin : ∀ I4 H4 e4, Le I3 I4 → Hs X.w I4 K e4 (σv σ3) H4 → EnvR X σ3 e4 → Hs X.w I4 K (anyAll vs e4) (σv (wipe σ vs)) H4 ∧ EnvR X (wipe σ vs) (anyAll vs e4) ∧ e4.length = e.length := by
              intro I4 H4 e4 le4 h4 er4
              have a1 := hs_any (vs := vs) h4
              have a2 := er_any (vs := vs) er4 hp
              rw [hw] at a1 a2
              refine ⟨a1, a2, ?_⟩
              have l1 := hs_len h4
              have l2 := hs_len h1
              rw [l1, l2, bt.1, wipe_length]
            -- the test
            have elt : ∀ I4 H4 e4, Le I3 I4 → Hs X.w I4 K e4 (σv σ3) H4 → EnvR X σ3 e4 → (match m e4 with | .ok r e3 => if acc.length < 100000 then loopC t c m vs (xs.drop (i + 1)) (acc ++ [r]) (anyAll vs e3) else none | _ => none) = some (accF, eF) →
                tE X W0 m σ3 H4 fun y H5 => ∃ acc', H5 Dl = some (.lst acc') ∧ acc'.length < sizeLine ∧ ∃ I2 env2 acc2, Le I1 I2 ∧ Hs X.w I2 G (.node (.lst true) acc2 :: anyAll vs env2) (.ref Dl :: σv (wipe σ vs)) (upd H5 Dl (.lst (acc' ++ [y]))) ∧ EnvR X (wipe σ vs) (anyAll vs env2) ∧ env2.length = e.length ∧ loopC t c m vs (xs.drop (i + 1)) acc2 (anyAll vs env2) = some (accF, eF) := by
              intro I4 H4 e4 le4 h4 er4 o4
              refine ⟨I4, K, e4, h4, er4, ?_⟩
              cases hm : m e4 with
              | bad => rw [hm] at o4; cases o4
              | exc c ns xs e => rw [hm] at o4; cases o4
              | ok r e3 =>
                rw [hm] at o4
                simp only at o4
                by_cases hz : acc.length < 100000
                · rw [if_pos hz] at o4
                  intro y I5 H5 le5 h5 er5
                  have h6 := kback I5 (r :: e3) (y :: σv σ3) H5 ((le3.trans le4).trans le5) h5
                  have h7 : Hs X.w I5 G (r :: .node (.lst true) acc :: e3) (y :: .ref Dl :: σv σ3) H5 := Hs.swap h6
                  obtain ⟨us, g1, g2, g3⟩ := h7.grow
                  have a2 := er_any (vs := vs) er5 hp
                  rw [hw] at a2
                  have l1 : e3.length = σ3.length := by have := g3.length; simpa [σv_len] using this
                  have l2 := hs_len h1
                  refine ⟨us, g1, szL (by rw [← g2]; exact hz), I5, e3, acc ++ [r], (((le0.trans le2).trans le3).trans le4).trans le5, ?_, a2, by rw [l1, l2, bt.1, wipe_length], o4⟩
                  have g4 : Hs X.w I5 G ([.node (.lst true) (acc ++ [r])] ++ e3) ([.ref Dl] ++ σv σ3) (upd H5 Dl (.lst (us ++ [y]))) := g3
                  obtain ⟨K2, k1, k2⟩ := Hs.push g4 rfl
                  have a1 := hs_any (vs := vs) k1
                  rw [hw] at a1
                  exact k2 I5 _ _ _ (Le.refl _) a1
                · rw [if_neg hz] at o4
                  cases o4
            have skip : ∀ I4 H4 e4, Le I3 I4 → Hs X.w I4 K e4 (σv σ3) H4 → EnvR X σ3 e4 → loopC t c m vs (xs.drop (i + 1)) acc (anyAll vs e4) = some (accF, eF) → ∃ I2 env2 acc2, Le I1 I2 ∧ Hs X.w I2 G (.node (.lst true) acc2 :: anyAll vs env2) (.ref Dl :: σv (wipe σ vs)) H4 ∧ EnvR X (wipe σ vs) (anyAll vs env2) ∧ env2.length = e.length ∧ loopC t c m vs (xs.drop (i + 1)) acc2 (anyAll vs env2) = some (accF, eF) := by
              intro I4 H4 e4 le4 h4 er4 o4
              obtain ⟨a1, a2, a3⟩ := fin I4 H4 e4 le4 h4 er4
              exact ⟨I4, e4, acc, ((le0.trans le2).trans le3).trans le4, kback I4 _ _ H4 (le3.trans le4) a1, a2, a3, o4⟩
            cases c with
            | none =>
              simp only at o0
              have z := elt I3 H3 e' (Le.refl _) h3 er3 o0
              simp only [tsto, tYes, reduceIte]
              exact z
            | some cm =>
              refine ⟨I3, K, e', h3, er3, ?_⟩
              simp only at o0
              cases hcm : cm e' with
              | bad => rw [hcm] at o0; cases o0
              | exc c ns xs e => rw [hcm] at o0; cases o0
              | ok r e2 =>
                rw [hcm] at o0
                cases r with
                | bl b =>
                  intro I4 H4 le4 h4 er4
                  cases b with
                  | true =>
                    have z := elt I4 H4 e2 le4 h4 er4 o0
                    simp only [reduceIte]
                    exact z
                  | false =>
                    have z := skip I4 H4 e2 le4 h4 er4 o0
                    rw [if_neg (by decide)]
                    exact z
                | any => cases o0
                | non => cases o0
                | int _ => cases o0
                | str _ => cases o0
                | node _ _ => cases o0
      · have he : i = xs.length := by omega
        subst he
        rw [List.drop_length] at o0
        have o1 : some (acc, anyAll vs env0) = some (accF, eF) := o0
        cases o1
        refine .inl ⟨wk.stop I0 G _ _ H' h0 le0, ?_⟩
        have h5 : Hs X.w I0 G ([.node (.lst true) accF] ++ anyAll vs env0) ([.ref Dl] ++ σv (wipe σ vs)) H' := h0
        obtain ⟨K2, k1, k2⟩ := Hs.push h5 rfl
        have h6 := k2 I0 _ _ H' (Le.refl _) (hs_back k1)
        have h7 := back I0 [.node (.lst true) accF] [.ref Dl] _ H' le0 rfl h6
        refine o (.ref Dl) I0 H' (le1.trans le0) h7 (er_back er1 er0 ?_)
        unfold anyAll
        rw [keepP_len]
        exact hlen.symm
theorem z_lc {elt tg iter : Expr} {ifs : List Expr} {scope : Scope} {own : List (Str × Nat)} {pos : Pos} {src : Src} {t : Tgt} {c : Option M} {m : M} (hc : Γ.calm = true) (hN : Γ.N.Nodup) (hi : PI Γ tg iter (tI X W src)) (ok : BlkOk Γ.N Γ.env.scope scope own)
    (hg : ∀ (s : Shared) (H : Hp) (C : Addr) (cl : List (Str × Addr)) (fp : List Addr), PG (Γ.blk s H scope (compEnvC scope cl C Γ.env) fp) tg (tG X t)) (ht : ∀ (s : Shared) (H : Hp) (C : Addr) (cl : List (Str × Addr)) (fp : List Addr), PTs (Γ.blk s H scope (compEnvC scope cl C Γ.env) fp) ifs (tsto X W0 c))
    (he : ∀ (s : Shared) (H : Hp) (C : Addr) (cl : List (Str × Addr)) (fp : List Addr), PE (Γ.blk s H scope (compEnvC scope cl C Γ.env) fp) elt (tE X W0 m)) (hp : ∀ i ∈ X.pin, i ∉ own.map (·.2) := by decide) (hj : ∀ j ∈ t.slots, j ∈ own.map (·.2) := by decide) (hs : ∀ x, foldedSetIterable iter Γ.env x = pure x := by intro _; rfl) :
    PE Γ (.ListComp elt [⟨tg, iter, ifs, 0⟩] scope pos) (tE X W (mLc src t c m (own.map (·.2)))) := PEi (pe_lc hc hN hi ok hg ht he hs) fun σ H Q q => lc_run hp hj q
/-- y = [..] -/
theorem s_setLc {i : Nat} {y : Str} {py : Pos} {elt tg iter : Expr} {ifs : List Expr} {scope : Scope} {own : List (Str × Nat)} {pos spos : Pos} {src : Src} {t : Tgt} {c : Option M} {m : M} (hc : Γ.calm = true) (hN : Γ.N.Nodup) (hy : Γ.N[i]? = some y) (hyl : Γ.env.scope.names.lookup y = some .local)
    (hsw : swapsWith (.ListComp elt [⟨tg, iter, ifs, 0⟩] scope pos) (some (.Name y py)) spos.line Γ.env = pure true) (hi : PI Γ tg iter (tI X W src)) (ok : BlkOk Γ.N Γ.env.scope scope own)
    (hg : ∀ (s : Shared) (H : Hp) (C : Addr) (cl : List (Str × Addr)) (fp : List Addr), PG (Γ.blk s H scope (compEnvC scope cl C Γ.env) fp) tg (tG X t)) (ht : ∀ (s : Shared) (H : Hp) (C : Addr) (cl : List (Str × Addr)) (fp : List Addr), PTs (Γ.blk s H scope (compEnvC scope cl C Γ.env) fp) ifs (tsto X W0 c))
    (he : ∀ (s : Shared) (H : Hp) (C : Addr) (cl : List (Str × Addr)) (fp : List Addr), PE (Γ.blk s H scope (compEnvC scope cl C Γ.env) fp) elt (tE X W0 m)) (hpi : i ∉ X.pin := by decide) (hp : ∀ i ∈ X.pin, i ∉ own.map (·.2) := by decide) (hj : ∀ j ∈ t.slots, j ∈ own.map (·.2) := by decide) (hs : ∀ x, foldedSetIterable iter Γ.env x = pure x := by intro _; rfl) :
    PS Γ (.Assign [.Name y py] (.ListComp elt [⟨tg, iter, ifs, 0⟩] scope pos) spos) (tS X W (sAsg (.nm i) (mLc src t c m (own.map (·.2))))) := PSi (ps_setLc hc hN hy hyl hsw hi ok hg ht he hs) fun E σ H q => asg_run (fun Q z => lc_run hp hj z) (g_name hpi) q
theorem ts_nil : PTs Γ [] (tsto X W none) := pts_nil
theorem ts_one {c : Expr} {m : M} (h : PT Γ c (tT X W m)) : PTs Γ [c] (tsto X W (some m)) := pts_one h
end
end Z

set_option Elab.async false
set_option linter.all false
set_option maxRecDepth 100000
set_option maxHeartbeats 4000000
/-! ZI: a def's body as an operation on trees; its calls. -/
namespace Z
open PySem PySem.Spec PyProof.Rows L2
/-! ### room, where nobody's repr is under way -/
structure RoomG (k : Nat) (A : Around) : Prop extends L2.Room k A where
  gd : A.guards = some []
section
variable {i k : Nat} {A : Around}
theorem RoomG.mono (r : RoomG k A) (h : i ≤ k) : RoomG i A := ⟨r.toRoom.mono h, r.gd⟩
theorem RoomG.deeper (r : RoomG (k + 1) A) (env : PySem.Env) : RoomG k (A.deeper env) := ⟨r.toRoom.deeper env, r.gd⟩
theorem make_guards {C : Addr} {ws : List Value} {kw : List (Str × Value)} (h : A.guards = some []) : (A.under (.builtin "type.__call__" ⟨.ref C :: ws, kw⟩)).guards = some [] := by
  first | exact h | (simp [Around.under, Code.guards, Code.isGuard, guardIds, pushGuards]; exact h)
theorem RoomG.make (r : RoomG (k + 1) A) (C : Addr) (ws : List Value) (kw : List (Str × Value)) : RoomG k (A.under (.builtin "type.__call__" ⟨.ref C :: ws, kw⟩)) := ⟨r.toRoom.make C ws kw, make_guards r.gd⟩
theorem RoomG.u65 (r : RoomG k A) : A.units + 65 < cLine := by have := r.un; omega
theorem RoomG.u1 (r : RoomG k A) : A.units + 1 < cLine := by have := r.un; omega
end
/-- what a def promises to callers with such room -/
structure FnG (P : Program) (wo : World) (K : PySem.W.Frag) (mg : Str → Option Value) (base : Heap) (C : CXT) (k : Nat) (f : Addr) (fd : FuncData) (ps : List Str) (sp : Sp) : Prop where
  len : ∀ zs H Q E, sp zs H Q E → zs.length = ps.length
  run : ∀ (A : Around) (out : List PySem.Env) (s : Shared) (H : Hp) (as : Args) (ws : List Value) (zs : List V) (Q : VK) (E : XK), RoomG k A → Env0 P wo K mg base A out s H → BindsTo s fd as (ps.zip ws) → Vals zs ws → sp zs H Q E → codeAny (model P wo) A (.call (.ref f) as) (CR C out P wo H s Q E) s
section
variable {P : Program} {wo : World} {K : PySem.W.Frag} {mg : Str → Option Value} {base : Heap} {C : CXT} {k j : Nat} {f : Addr} {fd : FuncData} {ps : List Str} {sp sp' : Sp}
theorem FnG.of (F : FnOk P wo K mg base C k f fd ps sp) : FnG P wo K mg base C k f fd ps sp := ⟨F.len, fun A out s H as ws zs Q E r => F.run A out s H as ws zs Q E r.toRoom⟩
theorem FnG.mono (F : FnG P wo K mg base C j f fd ps sp) (h : j ≤ k) : FnG P wo K mg base C k f fd ps sp := ⟨F.len, fun A out s H as ws zs Q E r => F.run A out s H as ws zs Q E (r.mono h)⟩
theorem FnG.imp (F : FnG P wo K mg base C k f fd ps sp) (h : ∀ zs H Q E, sp' zs H Q E → sp zs H Q E) : FnG P wo K mg base C k f fd ps sp' :=
  ⟨fun zs H Q E q => F.len zs H Q E (h zs H Q E q), fun A out s H as ws zs Q E r e0 hb hv q => F.run A out s H as ws zs Q E r e0 hb hv (h zs H Q E q)⟩
end
section
variable {P : Program} {wo : World} {K : PySem.W.Frag} {mg : Str → Option Value} {base : Heap} {C : CXT} {k : Nat} {f : Addr} {name qual : Str} {params : Arguments} {body : List Stmt} {scope : Scope} {dV kV doc pm cdv ct oc : Value} {an od : Option Addr} {osl : Array (Option Value)} {N ps : List Str} {sp : Sp}
theorem fnG_of (lk : K.lookup f = some ⟨oc, od, .func (PySem.W.fnOf name qual params body scope dV kV doc pm an cdv ct), osl⟩) (hcd : PySem.W.codeIn K cdv qual = true) (S : FnScope N ps scope) (len : ∀ zs H Q E, sp zs H Q E → zs.length = ps.length)
    (hb : ∀ (A : Around) (out : List PySem.Env) (s : Shared) (H : Hp) (zs : List V) (Q : VK) (E : XK), RoomG k (A.deeper (envOfC qual scope s.heap.objs.size f cdv)) → sp zs H Q E → ∃ t, PSs (cxOf C P wo K mg base N qual scope f cdv A out s H E) body t ∧ t { nx := fun _ J => Q .non J, rt := Q } (L2.start N zs) H) :
    FnG P wo K mg base C (k + 1) f (PySem.W.fnOf name qual params body scope dV kV doc pm an cdv ct) ps sp := ⟨len, fun A out s H as ws zs Q E room e0 binds rel wish => by
  have inK : K.In s.heap := e0.mod.kin.keeps fun a o e => (e0.bs a o e).1
  have noLim : s.heap.NoLimit := e0.mod.nolimit.keeps fun a o e => (e0.bs a o e).1
  refine codeAny_call_function room.toRoom.depth (inK _ _ lk) rfl S.co S.gen rfl (PySem.W.codeRec_of inK hcd) (binds _ _ _ _ (wpAny_newFunctionEnv_cells S.kind (fun ⟨n, v⟩ hy => ?_) fun env he s1 x => ?_))
  · rcases S.par n (List.of_mem_zip hy).1 with q | q
    · exact .inl q
    · exact .inr ⟨q, PySem.W.cellsFrom_some _ _ _ (.inl q)⟩
  · subst he
    refine ⟨noLim.keeps x.toInCall.keep, codeAny_func ?_⟩
    obtain ⟨t, ht, wish2⟩ := hb A out s H zs Q E (room.deeper _) wish
    have inv : Inv (cxOf C P wo K mg base N qual scope f cdv A out s H E) [] (L2.start N zs) H s1 := inv_start S room.toRoom.hd e0 (len _ _ _ _ wish) rel x
    refine wpAny_mono (ht.run [] s1 (L2.start N zs) H _ inv wish2) (fun fl s2 q => ?_) fun e s2 q => q
    match fl, q with
    | .ret u, ⟨v, σ2, H2, J, rv, q⟩ => exact ⟨v, H2, J.os, J.bare, J.base, J.hok, rv, q⟩
    | .next, ⟨σ2, H2, J, q⟩ => exact ⟨V.non, H2, J.os, J.bare, J.base, J.hok, rfl, q⟩
    | .brk, ⟨_, _, _, q⟩ => exact q.elim
    | .cont, ⟨_, _, _, q⟩ => exact q.elim⟩
end
section
variable {P : Program} {wo : World} {K : PySem.W.Frag} {mg : Str → Option Value} {base : Heap} {x qual : Str} {params : Arguments} {body : List Stmt} {scope : Scope} {dvs : List V} {kws : List (Str × V)} {f : Addr} {fd : FuncData}
theorem okG {C : CXT} {N ps : List Str} {k : Nat} {sp : Sp} (F : FunD K x qual params body scope dvs kws f fd) (S : FnScope N ps scope) (len : ∀ zs H Q E, sp zs H Q E → zs.length = ps.length)
    (hb : ∀ (cdv : Value) (A : Around) (out : List PySem.Env) (s : Shared) (H : Hp) (zs : List V) (Q : VK) (E : XK), RoomG k (A.deeper (envOfC qual scope s.heap.objs.size f cdv)) → sp zs H Q E → ∃ t, PSs (cxOf C P wo K mg base N qual scope f cdv A out s H E) body t ∧ t { nx := fun _ J => Q .non J, rt := Q } (L2.start N zs) H) : FnG P wo K mg base C (k + 1) f fd ps sp := by
  obtain ⟨_, _, _, _, _, _, _, cdv, _, _, rfl, lk, hcd, _, _⟩ := F.ex
  exact fnG_of lk hcd S len (hb cdv)
end
section
variable {Γ : Cx} {C : CXT} {k : Nat} {f : Addr} {fd : FuncData} {ps : List Str} {sp : Sp} {dvs : List V} {ds : List Value} {E : L2.St → XK} {x : Str} {p pos : Pos} {e : Expr} {es : List Expr} {t : TA}
theorem end_call {pins : List (Addr × Obj)} {σ : L2.St} {H : Hp} {s : Shared} {Q : VK} (hx : PassesAt C Γ σ (E σ)) (I : Inv Γ pins σ H s) (r : Result) (s2 : Shared) (h : CR C Γ.stack Γ.prog Γ.w H s Q (E σ) r s2) : (match r with
    | .ok (.ret u) => EP Γ pins σ Q u s2
    | .ok _ => False
    | .error e => Γ.xe e s2) := by
  match r, h with
  | .error e, h => exact hx pins H s e s2 I h
  | .ok (.ret u), h => exact I.after h
theorem pe_callG (F : FnG Γ.prog Γ.w Γ.K Γ.mg Γ.base C k f fd ps sp) (hr : RoomG k Γ.A) (hg : Gl Γ x) (hm : Γ.mg x = some (.ref f)) (hk : PySem.W.keepIn Γ.K (.ref f) = true) (hb : Binds Γ.K fd ps ds) (hd : Vals dvs ds) (hx : ∀ σ, PassesAt C Γ σ (E σ))
    (ha : PA Γ (e :: es) t) (hdb : (x == ("__debug__" : Str)) = false := by decide) (he : starEach (e :: es) Γ.env = (false, eval e Γ.env) :: starEach es Γ.env := by rfl) (hpl : (backTo pos (starEach es Γ.env)).any (·.1) = false := by rfl) :
    PE Γ (.Call (.Name x p) (e :: es) [] pos) (tCallSD sp dvs E t) := ⟨fun pins s σ H Q I h => wpAny_Call_Name_kw (ld_glob I hg hm (PySem.W.callWith_K (h₀ := Γ.base) I.ok.mod.kin hk (thn (ha.run pos pins s σ H _ I h) fun ws s1 ⟨zs, H1, I1, r, q⟩ => ⟨I1.kIn, by
  have r2 := r.append hd
  have hl : (ws ++ ds).length = ps.length := r2.length.symm.trans (F.len _ _ _ _ q)
  refine wpAny_call (codeAny_mono (F.run Γ.A Γ.stack s1 H1 ⟨ws, []⟩ (ws ++ ds) (zs ++ dvs) Q (E σ) hr I1.env0 (hb s1 ws I1.kIn hl) r2 q) fun r s2 hq => ?_)
  match r, hq with
  | .error e, hq => exact hx σ pins H1 s1 e s2 I1 hq
  | .ok (.ret u), hq => exact I1.after hq⟩) he hpl) hdb)⟩
end
/-- what a def promises: it does op -/
def spF (w : Wd) (op : Op) (n : Nat) : Sp := fun vs H Q E => vs.length = n ∧ ∃ I F ds, Hs w I F ds vs H ∧ OutO w I F ds vs Q E (op ds)
def back (pin : List Nat) (n : Nat) (e : Env) : List D := keepP (fun i => pin.contains i) (e.take n)
/-- the operation of a body: n parameters, m slots; pin: the parameters that it never stores to -/
def fnOp (n m : Nat) (pin : List Nat) (b : S) : Op := fun ds => if ds.length = n then (match b (ds ++ List.replicate (m - n) .any) with
  | .rt r e => if n ≤ e.length then .ok r (back pin n e) else .bad
  | .nx e => if n ≤ e.length then .ok .non (back pin n e) else .bad
  | .exc c ns xs e => if n ≤ e.length then .exc c ns xs (back pin n e) else .bad
  | _ => .bad) else .bad
section
variable {w : Wd}
theorem Hs.anysR {I F H : Hp} {ds : List D} {vs : List V} (h : Hs w I F ds vs H) (k : Nat) : Hs w I F (ds ++ List.replicate k .any) (vs ++ List.replicate k .non) H := by
  have h1 := h.anys (List.replicate k V.non)
  have e : (List.replicate k V.non).map (fun _ => D.any) = List.replicate k .any := by simp
  rw [e] at h1
  exact h1.comm (by simp)
theorem σv_start (N : List Str) (vs : List V) : σv (L2.start N vs) = vs ++ List.replicate (N.length - vs.length) .non := by
  unfold σv L2.start
  rw [List.map_append, List.map_map]
  congr 1
  · induction vs with
    | nil => rfl
    | cons v vs ih => simp only [List.map_cons]; rw [ih]; rfl
  · simp
theorem hs_params {X : Fx} {I F H : Hp} {σ : L2.St} {r : D} {v : V} {e : Env} {n : Nat} (h : Hs X.w I F (r :: e) (v :: σv σ) H) (er : EnvR X σ e) (hl : X.vs0.length = n) (hn : n ≤ e.length) (hpin : ∀ i ∈ X.pin, i < n) :
    Hs X.w I F (r :: back X.pin n e) (v :: X.vs0) H := by
  have hle := h.length
  have h1 : Hs X.w I F ([r] ++ (e.take n ++ e.drop n)) ([v] ++ ((σv σ).take n ++ (σv σ).drop n)) H := by
    rw [List.take_append_drop, List.take_append_drop]
    exact h
  have hlen : (e.take n).length = ((σv σ).take n).length := by
    rw [List.length_take, List.length_take]
    simp at hle
    omega
  have h2 : Hs X.w I F ((r :: e.take n) ++ e.drop n) ((v :: (σv σ).take n) ++ (σv σ).drop n) H := by simpa using h1
  obtain ⟨fp, rr, nd, dj⟩ := h2.ex
  obtain ⟨f1, f2, rfl, r1, r2⟩ := rr.split (by simp [hlen])
  have h3 : Hs X.w I F (r :: e.take n) (v :: (σv σ).take n) H := h2.of_sub r1 rr nd dj (List.nodup_append.mp nd).1 fun a m => List.mem_append_left _ m
  have h4 := h3.keep (fun i => match i with
    | 0 => true
    | i + 1 => X.pin.contains i)
  have h5 : Hs X.w I F (r :: back X.pin n e) (v :: (σv σ).take n) H := by
    unfold keepP at h4
    exact h4
  refine h5.vals (by simp [List.length_take]; rw [hl]; simp at hle; omega) fun i d hd hne => ?_
  cases i with
  | zero => rfl
  | succ i =>
    simp at hd ⊢
    unfold back at hd
    rw [keepP_get] at hd
    obtain ⟨d0, e0, e1⟩ := Option.map_eq_some_iff.mp hd
    by_cases q : X.pin.contains i = true
    · have hi : i ∈ X.pin := by simpa using q
      have lt : i < n := hpin i hi
      have lt2 : i < X.vs0.length := by omega
      have := er.pin i hi X.vs0[i] (List.getElem?_eq_getElem lt2)
      rw [List.getElem?_take, if_pos lt, List.getElem?_eq_getElem lt2, σv_at this]
    · rw [if_neg q] at e1
      exact absurd e1.symm hne
end
section
variable {P : Program} {wo : World} {K : PySem.W.Frag} {mg : Str → Option Value} {base : Heap} {x qual : Str} {params : Arguments} {body : List Stmt} {scope : Scope} {dvs : List V} {kws : List (Str × V)} {f : Addr} {fd : FuncData}
abbrev WE' (E : XK) : WX := fun cls d _ H => E cls d H
/-- THE RULE for a def -/
theorem z_fn {N ps : List Str} {k : Nat} {w : Wd} {n m : Nat} {b : S} (pin : List Nat) (F : FunD K x qual params body scope dvs kws f fd) (S : FnScope N ps scope) (hn : ps.length = n) (hm : N.length = m) (hnm : n ≤ m) (hpin : ∀ i ∈ pin, i < n)
    (hder : ∀ (cdv : Value) (A : Around) (outer : List PySem.Env) (s : Shared) (H : Hp) (vs : List V) (E : XK), RoomG k (A.deeper (envOfC qual scope s.heap.objs.size f cdv)) → (∀ j ∈ pin, j < vs.length) →
      PSs (cxOf (L2.CX P wo) P wo K mg base N qual scope f cdv A outer s H E) body (tS ⟨w, pin, vs⟩ (WE' E) b)) : FnG P wo K mg base (L2.CX P wo) (k + 1) f fd ps (spF w (fnOp n m pin b) n) := by
  refine okG F S (fun vs H Q E h => by rw [hn]; exact h.1) fun cdv A outer s H vs Q E hr h => ⟨_, hder cdv A outer s H vs E hr (fun j hj => by rw [h.1]; exact hpin j hj), ?_⟩
  obtain ⟨hl, I, Fr, ds, hs, o⟩ := h
  have hld := hs.length
  unfold fnOp at o
  have hd : ds.length = n := by omega
  rw [if_pos hd] at o
  have hs1 : Hs w I Fr (ds ++ List.replicate (m - n) .any) (σv (L2.start N vs)) H := by
    rw [σv_start, hm, hl]
    exact hs.anysR (m - n)
  have er1 : EnvR ⟨w, pin, vs⟩ (L2.start N vs) (ds ++ List.replicate (m - n) .any) := by
    refine ⟨fun i d hi hne => ?_, fun i hi v hv => ?_⟩
    · by_cases q : i < ds.length
      · refine ⟨vs[i]'(by omega), ?_⟩
        unfold L2.start
        rw [List.getElem?_append_left (by simp; omega), List.getElem?_map, List.getElem?_eq_getElem (by omega)]
        rfl
      · rw [List.getElem?_append_right (by omega), List.getElem?_replicate] at hi
        split at hi
        · cases hi; exact absurd rfl hne
        · cases hi
    · have hv' : vs[i]? = some v := hv
      unfold L2.start
      rw [List.getElem?_append_left (by simp; exact (List.getElem?_eq_some_iff.mp hv').1), List.getElem?_map, hv']
      rfl
  refine ⟨I, Fr, _, hs1, er1, ?_⟩
  have hlv : (⟨w, pin, vs⟩ : Fx).vs0.length = n := hl
  cases hb : b (ds ++ List.replicate (m - n) .any) with
  | bad => simp only [hb] at o; exact o.elim
  | bk e => simp only [hb] at o; exact o.elim
  | ct e => simp only [hb] at o; exact o.elim
  | rt r e =>
    simp only [hb] at o
    obtain ⟨q, o⟩ := ite_out o
    intro v σ' I' H' le h' er'
    exact o v I' H' le (hs_params (X := ⟨w, pin, vs⟩) h' er' hlv q hpin)
  | nx e =>
    simp only [hb] at o
    obtain ⟨q, o⟩ := ite_out o
    intro σ' I' H' le h' er'
    exact o .non I' H' le (hs_params (X := ⟨w, pin, vs⟩) (h'.addC (d := .non) rfl) er' hlv q hpin)
  | exc c ns xs e =>
    simp only [hb] at o
    obtain ⟨q, o⟩ := ite_out o
    intro cls d σ' I' H' le h' er' xr
    exact o cls d I' H' le (hs_params (X := ⟨w, pin, vs⟩) (h'.addC (d := .non) rfl) er' hlv q hpin).drop xr
end
/-! ### calls -/
/-- a def that stands at the module's name x, n parameters, and does op -/
structure Cl (P : Program) (wo : World) (K : PySem.W.Frag) (mg : Str → Option Value) (base : Heap) (w : Wd) (k : Nat) (x : Str) (n : Nat) (op : Op) (dfl : List (List V)) (ks : List Str) : Prop where
  ex : ∃ (f : Addr) (fd : FuncData) (ps : List Str), ps.length = n ∧ FnG P wo K mg base (L2.CX P wo) k f fd ps (spF w op n) ∧ PySem.W.keepIn K (.ref f) = true ∧ mg x = some (.ref f) ∧ (∀ dvs ∈ dfl, ∃ ds, Vals dvs ds ∧ Binds K fd ps ds) ∧
    (ks ≠ [] → ks.length = n ∧ KBn K fd ps 0 ks (fun _ ws => ws.reverse) (fun _ zs => zs.reverse))
def opLen (op : Op) (n : Nat) : Prop := ∀ ds, ds.length ≠ n → op ds = .bad
theorem fnOp_len {n m : Nat} {pin : List Nat} {b : S} : opLen (fnOp n m pin b) n := fun ds h => by
  unfold fnOp
  rw [if_neg h]
/-- the last arguments left out -/
def dfOp (op : Op) (dd : List D) : Op := fun ds => match op (ds ++ dd) with
  | .ok r es => .ok r (es.take ds.length)
  | .exc c ns xs es => .exc c ns xs (es.take ds.length)
  | .bad => .bad
theorem Hs.takeL {w : Wd} {I F H : Hp} {ds : List D} {vs : List V} (h : Hs w I F ds vs H) (k : Nat) : Hs w I F (ds.take k) (vs.take k) H := by
  have hl := h.length
  have h1 : Hs w I F (ds.take k ++ ds.drop k) (vs.take k ++ vs.drop k) H := by
    rw [List.take_append_drop, List.take_append_drop]
    exact h
  obtain ⟨fp, rr, nd, dj⟩ := h1.ex
  obtain ⟨f1, f2, rfl, r1, r2⟩ := rr.split (by rw [List.length_take, List.length_take]; omega)
  exact h1.of_sub r1 rr nd dj (List.nodup_append.mp nd).1 fun a m => List.mem_append_left _ m
theorem Hs.addCs {w : Wd} {I F H : Hp} : ∀ {dd : List D} {dvs : List V} {ds : List D} {vs : List V}, Hs w I F ds vs H → Paired (fun d v => D.scal d = some v) dd dvs → Hs w I F (dd ++ ds) (dvs ++ vs) H
  | _, _, ds, vs, h, .nil => h
  | _, _, ds, vs, h, .cons r t => (Hs.addCs h t).addC r
theorem Paired.len {α β : Type} {R : α → β → Prop} : ∀ {as : List α} {bs : List β}, Paired R as bs → as.length = bs.length
  | _, _, .nil => rfl
  | _, _, .cons _ t => by simp [Paired.len t]
theorem od_call {w : Wd} {op : Op} {n : Nat} {dd : List D} {dvs : List V} (ho : opLen op n) (hd : Paired (fun d v => D.scal d = some v) dd dvs) : OpD w (fun us H Q E => spF w op n (us ++ dvs) H Q E) (dfOp op dd) := fun I F es us H Q E hs o => by
  have hl := hs.length
  have h2 : Hs w I F (es ++ dd) (us ++ dvs) H := (hs.addCs hd).comm (Paired.len hd)
  have hlen : (us ++ dvs).length = (es ++ dd).length := h2.length.symm
  unfold dfOp at o
  refine ⟨?_, I, F, es ++ dd, h2, ?_⟩
  · rw [hlen]
    by_cases q : (es ++ dd).length = n
    · exact q
    · rw [ho _ q] at o
      exact o.elim
  · cases hop : op (es ++ dd) with
    | bad => rw [hop] at o; exact o
    | ok r es' =>
      rw [hop] at o
      intro z I' H' le h'
      have h3 := h'.takeL (es.length + 1)
      refine o z I' H' le ?_
      have e1 : (z :: (us ++ dvs)).take (es.length + 1) = z :: us := by
        rw [List.take_succ_cons, hl, List.take_left]
      have e2 : (r :: es').take (es.length + 1) = r :: es'.take es.length := List.take_succ_cons ..
      rw [e1, e2] at h3
      exact h3
    | exc c ns xs es' =>
      rw [hop] at o
      intro cls d I' H' le h' x
      have h3 := h'.takeL es.length
      refine o cls d I' H' le ?_ x
      have e1 : (us ++ dvs).take es.length = us := by rw [hl, List.take_left]
      rw [e1] at h3
      exact h3
section
variable {Γ : Cx} {X : Fx} {W : WX} {k : Nat} {x : Str} {n : Nat} {op : Op} {dfl : List (List V)} {ks : List Str} {p pos : Pos} {e : Expr} {es : List Expr} {ops : List Opd}
/-- f(e, ..), some last arguments perhaps left out -/
theorem z_callD {dd : List D} {dvs : List V} (c : Cl Γ.prog Γ.w Γ.K Γ.mg Γ.base X.w k x n op dfl ks) (hr : RoomG k Γ.A) (hg : Gl Γ x) (ho : opLen op n) (hdf : dvs ∈ dfl) (hd : Paired (fun d v => D.scal d = some v) dd dvs) (tk : Takes Γ W) (ha : PA Γ (e :: es) (tOs X W ops))
    (hdb : (x == ("__debug__" : Str)) = false := by decide) (he : starEach (e :: es) Γ.env = (false, eval e Γ.env) :: starEach es Γ.env := by rfl) (hpl : (backTo pos (starEach es Γ.env)).any (·.1) = false := by rfl) :
    PE Γ (.Call (.Name x p) (e :: es) [] pos) (tE X W (mApp (dfOp op dd) ops)) := by
  obtain ⟨f, fd, ps, hn, F, hk, hm, hb, _⟩ := c.ex
  obtain ⟨ds, hv, hbb⟩ := hb dvs hdf
  exact PEi (pe_callG F hr hg hm hk hbb hv (fun σ => passAt tk σ) ha hdb he hpl) fun σ H Q h => app_run (od_call ho hd) h
end
end Z

set_option Elab.async false
set_option linter.all false
set_option maxRecDepth 100000
set_option maxHeartbeats 4000000
/-! ZJ: calls by keywords, instances, their fields, displays with a star, isinstance. -/
namespace Z
open PySem PySem.Spec PyProof.Rows L2
section
variable {w : Wd}
theorem RepL.rev {I H : Hp} : ∀ {ds : List D} {vs : List V} {fp : List Addr}, RepL w I H ds vs fp → ∃ f2, RepL w I H ds.reverse vs.reverse f2 ∧ List.Perm fp f2
  | [], vs, fp, h => by
    unfold RepL at h
    obtain ⟨rfl, rfl⟩ := h
    exact ⟨[], .nil, .refl _⟩
  | d :: ds, vs, fp, h => by
    unfold RepL at h
    obtain ⟨v, us, f1, f2, rfl, rfl, h1, h2⟩ := h
    obtain ⟨f3, r, pm⟩ := h2.rev
    rw [List.reverse_cons, List.reverse_cons]
    have z : RepL w I H [d] [v] (f1 ++ []) := .cons h1 .nil
    rw [List.append_nil] at z
    exact ⟨f3 ++ f1, r.append z, (List.Perm.append_left f1 pm).trans List.perm_append_comm⟩
theorem Hs.rev {I F H : Hp} {ds : List D} {vs : List V} (h : Hs w I F ds vs H) : Hs w I F ds.reverse vs.reverse H := by
  obtain ⟨fp, r, nd, dj⟩ := h.ex
  obtain ⟨f2, r2, pm⟩ := r.rev
  exact h.of_sub r2 r nd dj (pm.nodup_iff.mp nd) fun a m => pm.symm.subset m
def revOp (op : Op) : Op := fun ds => match op ds.reverse with
  | .ok r es => .ok r es.reverse
  | .exc c ns xs es => .exc c ns xs es.reverse
  | .bad => .bad
theorem Hs.rev1 {I F H : Hp} {r : D} {z : V} {es : List D} {us : List V} (h : Hs w I F (r :: es) (z :: us.reverse) H) : Hs w I F (r :: es.reverse) (z :: us) H := by
  have h1 : Hs w I F ([r] ++ es) ([z] ++ us.reverse) H := h
  obtain ⟨G, g, back⟩ := Hs.push h1 rfl
  have g2 := g.rev
  rw [List.reverse_reverse] at g2
  exact back I _ _ H (Le.refl _) g2
theorem od_rev {op : Op} {n : Nat} (ho : opLen op n) : OpD w (fun us H Q E => spF w op n us.reverse H Q E) (revOp op) := fun I F es us H Q E hs o => by
  have h2 := hs.rev
  unfold revOp at o
  refine ⟨?_, I, F, es.reverse, h2, ?_⟩
  · rw [← h2.length]
    by_cases q : es.reverse.length = n
    · exact q
    · rw [ho _ q] at o
      exact o.elim
  · cases hop : op es.reverse with
    | bad => rw [hop] at o; exact o
    | ok r es' =>
      rw [hop] at o
      exact fun z I' H' le h' => o z I' H' le h'.rev1
    | exc c ns xs es' =>
      rw [hop] at o
      intro cls d I' H' le h' x
      have g2 := h'.rev
      rw [List.reverse_reverse] at g2
      exact o cls d I' H' le g2 x
end
/-! ### f(k = v, ..), keywords alone, the last parameter first -/
section
variable {Γ : Cx} {X : Fx} {W : WX} {k : Nat} {f : Addr} {fd : FuncData} {ps ks : List Str} {sp : Sp} {E : L2.St → XK} {x : Str} {p pos : Pos} {kws : List Keyword} {tk : TA}
def tKR (sp : Sp) (E : L2.St → XK) (tk : TA) : TE := fun σ H Q => tk σ H fun zs H1 => sp zs.reverse H1 Q (E σ)
theorem pe_callKR {CX : CXT} (F : FnG Γ.prog Γ.w Γ.K Γ.mg Γ.base CX k f fd ps sp) (hr : RoomG k Γ.A) (hg : Gl Γ x) (hm : Γ.mg x = some (.ref f)) (hk : PySem.W.keepIn Γ.K (.ref f) = true) (hl0 : ks.length = ps.length) (hb : KBn Γ.K fd ps 0 ks (fun _ ws => ws.reverse) (fun _ zs => zs.reverse)) (hx : ∀ σ, PassesAt CX Γ σ (E σ))
    (hkw : PK Γ kws tk) (hall : (backToKw pos (keywordEach kws Γ.env)).all (·.1.isSome) = true := by rfl) (hks : (backToKw pos (keywordEach kws Γ.env)).filterMap (·.1) = ks := by rfl)
    (hdb : (x == ("__debug__" : Str)) = false := by decide) (hpl : ((backTo pos (starEach [] Γ.env)).any (·.1) || (backToKw pos (keywordEach kws Γ.env)).any (·.1.isNone)) = false := by rfl) :
    PE Γ (.Call (.Name x p) [] kws pos) (tKR sp E tk) := by
  refine ⟨fun pins s σ H Q I h => ?_⟩
  refine wpAny_Call_Name_kw (ld_glob I hg hm ?_ hdb)
  refine PySem.W.callWith_KW0 (h₀ := Γ.base) I.ok.mod.kin hk hall ?_ hpl
  refine thn (hkw.run pos pins s σ H _ I h) fun ws s2 ⟨zs, H2, I2, rz, q2⟩ => ⟨I2.kIn, ?_⟩
  rw [hks]
  have r2 := hb.rel (vs := []) (us := []) .nil rz
  have hl : ws.length = ks.length := by
    have e : ws.reverse.length = ps.length := by rw [← r2.length]; exact F.len _ _ _ _ q2
    rw [hl0, ← e, List.length_reverse]
  refine wpAny_call (codeAny_mono (F.run Γ.A Γ.stack s2 H2 ⟨[], ks.zip ws⟩ ws.reverse zs.reverse Q (E σ) hr I2.env0 (hb.to s2 [] ws I2.kIn rfl hl) r2 q2) fun r s' hq => ?_)
  cases r with
  | error e => exact hx σ pins H2 s2 e s' I2 hq
  | ok fl =>
    cases fl with
    | ret u => exact I2.after hq
    | next => exact False.elim hq
    | brk => exact False.elim hq
    | cont => exact False.elim hq
theorem pk_z0 : PK Γ [] (tOs X W []) := pk_nil
theorem pk_z {nm : Option Str} {e : Expr} {kpos : Pos} {o : Opd} {ops : List Opd} (h : PE Γ e (tO X W o)) (hs : PK Γ kws (tOs X W ops)) : PK Γ (⟨nm, e, kpos⟩ :: kws) (tOs X W (o :: ops)) := pk_cons h hs
theorem z_callKR {n : Nat} {op : Op} {dfl : List (List V)} {ops : List Opd} (c : Cl Γ.prog Γ.w Γ.K Γ.mg Γ.base X.w k x n op dfl ks) (hne : ks ≠ []) (hr : RoomG k Γ.A) (hg : Gl Γ x) (ho : opLen op n) (tk : Takes Γ W) (hkw : PK Γ kws (tOs X W ops))
    (hall : (backToKw pos (keywordEach kws Γ.env)).all (·.1.isSome) = true := by rfl) (hks : (backToKw pos (keywordEach kws Γ.env)).filterMap (·.1) = ks := by rfl)
    (hdb : (x == ("__debug__" : Str)) = false := by decide) (hpl : ((backTo pos (starEach [] Γ.env)).any (·.1) || (backToKw pos (keywordEach kws Γ.env)).any (·.1.isNone)) = false := by rfl) :
    PE Γ (.Call (.Name x p) [] kws pos) (tE X W (mApp (revOp op) ops)) := by
  obtain ⟨f, fd, ps, hn, F, hk, hm, _, hb⟩ := c.ex
  exact PEi (pe_callKR F hr hg hm hk ((hb hne).1.trans hn.symm) (hb hne).2 (fun σ => passAt tk σ) hkw hall hks hdb hpl) fun σ H Q h => app_run (od_rev ho) h
end
/-! ### instances -/
section
variable {w : Wd}
theorem Hs.junk {I F H : Hp} {ds : List D} {vs : List V} {p : Addr} {o : HO} (h : Hs w I F ds vs H) (np : H p = none) : Hs w I F ds vs (upd H p o) := by
  obtain ⟨fp, r, nd, dj⟩ := h.ex
  have k : ∀ a, H a ≠ none → upd H p o a = H a := fun a m => upd_ne fun e => m (by rw [e]; exact np)
  refine ⟨⟨fp, RepL.frame (Le.refl I) ds vs fp (fun a m => k a ?_) r, nd, dj⟩, fun a u e => ?_, fun a u e => ?_, h.fT, h.lkI, h.fkF⟩
  · obtain ⟨u, e⟩ := RepL.there ds vs fp r a m
    rw [e]
    exact fun z => nomatch z
  · obtain ⟨e1, e2⟩ := h.iF a u e
    exact ⟨by rw [k a (by rw [e1]; exact fun z => nomatch z)]; exact e1, e2⟩
  · have e1 := h.fH a u e
    rw [k a (by rw [e1]; exact fun z => nomatch z)]
    exact e1
/-- C(e, ..): what __init__ (op) makes of a new instance -/
def makeOp (c : Str) (op : Op) : Op := fun ds => match op (.node (.ins true c []) [] :: ds) with
  | .ok .non (s :: es) => .ok s es
  | _ => .bad
theorem od_make {c : Str} {op : Op} {n : Nat} (ho : opLen op (n + 1)) : OpD w (fun us H Q _ => ∀ x dx, H x = none → H dx = none → dx ≠ x → spF w op (n + 1) (.ref x :: us) (upd (upd H dx (.own x)) x (.ins (w.cA c) dx [])) (fun v H2 => v = .non ∧ Q (.ref x) H2) E0) (makeOp c op) := fun I F es us H Q E hs o => by
  intro x dx nx ndx ne
  have h1 := hs.junk (o := .own x) ndx
  have nx' : upd H dx (.own x) x = none := by rw [upd_ne (fun e => ne e.symm)]; exact nx
  have h2 := Hs.newO (t := .ins true c []) (xs := []) (us := []) (p := x) (o := .ins (w.cA c) dx []) h1 rfl nx' rfl rfl ⟨dx, upd_same⟩
  unfold makeOp at o
  refine ⟨?_, I, F, _, h2, ?_⟩
  · rw [← h2.length]
    by_cases q : (D.node (.ins true c []) [] :: es).length = n + 1
    · exact q
    · rw [ho _ q] at o
      exact o.elim
  · cases hop : op (D.node (.ins true c []) [] :: es) with
    | bad => rw [hop] at o; exact o.elim
    | exc c ns xs es' => rw [hop] at o; exact o.elim
    | ok r es' =>
      rw [hop] at o
      cases r with
      | non =>
        cases es' with
        | nil => exact o.elim
        | cons s es' =>
          intro z I' H' le h'
          exact ⟨h'.scal rfl, o (.ref x) I' H' le h'.drop⟩
      | _ => exact o.elim
section
variable {Γ : Cx} {CX : CXT} {k : Nat} {f C : Addr} {fd : FuncData} {ps : List Str} {sp : Sp} {dvs : List V} {ds : List Value} {E : XK} {x : Str} {p pos : Pos} {e : Expr} {es : List Expr} {t : TA}
theorem pe_makeG (M : Mk Γ.K C f) (F : FnG Γ.prog Γ.w Γ.K Γ.mg Γ.base CX k f fd ps sp) (hr : RoomG (k + 1) Γ.A) (hg : Gl Γ x) (hm : Γ.mg x = some (.ref C)) (hb : Binds Γ.K fd ps ds) (hd : Vals dvs ds) (hx : Passes CX Γ E)
    (ha : PA Γ (e :: es) t) (hdb : (x == ("__debug__" : Str)) = false := by decide) (he : starEach (e :: es) Γ.env = (false, eval e Γ.env) :: starEach es Γ.env := by rfl) (hpl : (backTo pos (starEach es Γ.env)).any (·.1) = false := by rfl) :
    PE Γ (.Call (.Name x p) (e :: es) [] pos) (tMake C sp dvs E t) := ⟨fun pins s σ H Q I h => wpAny_Call_Name_kw (ld_glob I hg hm (PySem.W.callWith_K (h₀ := Γ.base) I.ok.mod.kin M.kp (thn (ha.run pos pins s σ H _ I h) fun ws s1 ⟨zs, H1, I1, r, q⟩ => ⟨I1.kIn, by
  have n := s1.heap.objs.size
  have wish := q (s1.heap.objs.size + 1) s1.heap.objs.size (I1.hok.fresh (Nat.le_succ _)) (I1.hok.fresh (Nat.le_refl _)) (Nat.ne_of_lt (Nat.lt_succ_self _))
  have I2 := Inv.made (C := C) I1
  have rel : Vals (V.ref (s1.heap.objs.size + 1) :: (zs ++ dvs)) (Value.ref (s1.heap.objs.size + 1) :: (ws ++ ds)) := .cons rfl (r.append hd)
  have len : (Value.ref (s1.heap.objs.size + 1) :: ws ++ ds).length = ps.length := rel.length.symm.trans (F.len _ _ _ _ wish)
  refine wpAny_call (make_map (f := f) I1.kIn M.makes M.init (beq_iff_eq.mp M.fn) (codeAny_mono (F.run _ Γ.stack _ _ ⟨Value.ref (s1.heap.objs.size + 1) :: ws, []⟩ (Value.ref (s1.heap.objs.size + 1) :: (ws ++ ds)) _ _ E (hr.make C ws []) (I2.env0.make C ws []) (hb _ (Value.ref (s1.heap.objs.size + 1) :: ws) I2.kIn len) rel wish) fun r s2 hq => ?_))
  match r, hq with
  | .error e, hq => exact hx pins σ _ _ e s2 I2 hq
  | .ok (.ret u), hq =>
    obtain ⟨v, H3, I3, rv, ev, q3⟩ := I2.after hq
    subst ev
    exact ⟨rv, ⟨V.ref (s1.heap.objs.size + 1), H3, I3, rfl, q3⟩⟩⟩) he hpl) hdb)⟩
end
/-- a class of the program's own, and what its __init__ does -/
structure Ck (P : Program) (wo : World) (K : PySem.W.Frag) (mg : Str → Option Value) (base : Heap) (w : Wd) (k : Nat) (x : Str) (n : Nat) (op : Op) : Prop where
  ex : ∃ (f : Addr) (fd : FuncData) (ps : List Str), FnG P wo K mg base (L2.CX P wo) k f fd ps (spF w op (n + 1)) ∧ Mk K (w.cA x) f ∧ mg x = some (.ref (w.cA x)) ∧ Binds K fd ps []
theorem z_make {Γ : Cx} {X : Fx} {W : WX} {k n : Nat} {x : Str} {op : Op} {p pos : Pos} {e : Expr} {es : List Expr} {ops : List Opd} (c : Ck Γ.prog Γ.w Γ.K Γ.mg Γ.base X.w k x n op) (hr : RoomG (k + 1) Γ.A) (hg : Gl Γ x) (ho : opLen op (n + 1)) (ha : PA Γ (e :: es) (tOs X W ops))
    (hdb : (x == ("__debug__" : Str)) = false := by decide) (he : starEach (e :: es) Γ.env = (false, eval e Γ.env) :: starEach es Γ.env := by rfl) (hpl : (backTo pos (starEach es Γ.env)).any (·.1) = false := by rfl) :
    PE Γ (.Call (.Name x p) (e :: es) [] pos) (tE X W (mApp (makeOp x op) ops)) := by
  obtain ⟨f, fd, ps, F, M, hm, hb⟩ := c.ex
  exact PEi (pe_makeG M F hr hg hm hb .nil passL ha hdb he hpl) fun σ H Q h => by
    have z := app_run (od_make ho) h
    simp only [tMake, List.append_nil]
    exact z
/-! ### x.f -/
def fAt (ns : List Str) (f : Str) : Option Nat := ns.findIdx? (· == f)
theorem lookup_at : ∀ {ns : List Str} {vs : List V} {f : Str} {j : Nat} {v : V}, fAt ns f = some j → vs[j]? = some v → (ns.zip vs).lookup f = some v
  | [], vs, f, j, v, h, e => by cases h
  | n :: ns, [], f, j, v, h, e => by simp at e
  | n :: ns, u :: vs, f, j, v, h, e => by
    unfold fAt at h
    rw [List.findIdx?_cons] at h
    by_cases q : (n == f) = true
    · rw [if_pos q] at h
      cases h
      have : n = f := by simpa using q
      subst this
      simp at e
      subst e
      show List.lookup n ((n, u) :: ns.zip vs) = some u
      rw [List.lookup_cons]
      simp
    · rw [if_neg q] at h
      obtain ⟨j', e1, rfl⟩ := Option.map_eq_some_iff.mp h
      have z := lookup_at (ns := ns) (vs := vs) (f := f) (j := j') (v := v) e1 (by simpa using e)
      show List.lookup f ((n, u) :: ns.zip vs) = some v
      rw [List.lookup_cons]
      have : (f == n) = false := by
        cases hh : f == n with
        | false => rfl
        | true => exact absurd (by simpa using (by simpa using hh : f = n).symm) q
      rw [this]
      exact z
/-- the field f of an instance of c -/
def oFld (c f : Str) : Op
  | [.node (.ins o c' ns) xs] => if c' = c then (match fAt ns f with
    | some j => (match xs[j]? with
      | some d => if d.isFrz = true then .ok d [.node (.ins o c' ns) xs] else .ok d.frz [D.frz (.node (.ins o c' ns) xs)]
      | none => .bad)
    | none => .bad) else .bad
  | _ => .bad
theorem Hs.insAt {I F H : Hp} {ds : List D} {vs : List V} {v : V} {o : Bool} {c : Str} {ns : List Str} {xs : List D} {j : Nat} {d : D} (h : Hs w I F (.node (.ins o c ns) xs :: ds) (v :: vs) H) (e : xs[j]? = some d) (hd : d.isFrz = true) :
    ∃ a dx us z, v = .ref a ∧ H a = some (.ins (w.cA c) dx (ns.zip us)) ∧ us[j]? = some z ∧ Hs w I F (d :: .node (.ins o c ns) xs :: ds) (z :: v :: vs) H := by
  obtain ⟨fp, r, nd, dj⟩ := h.ex
  obtain ⟨f1, f2, rfl, r1, r2⟩ := r.out
  have r1' := r1
  unfold Rep at r1'
  obtain ⟨a, us, fp', rfl, hl, hf, q⟩ := r1'
  obtain ⟨z, g1, g2, hz, rz, _, _⟩ := hl.take e
  obtain rfl := rz.own_nil (frz_id hd)
  have hat : ∃ dx, H a = some (.ins (w.cA c) dx (ns.zip us)) := by
    rcases q with ⟨_, ⟨dx, q⟩, _⟩ | ⟨_, ⟨dx, q⟩, _⟩
    · exact ⟨dx, q⟩
    · exact ⟨dx, h.iH a _ q⟩
  obtain ⟨dx, hat⟩ := hat
  exact ⟨a, dx, us, z, rfl, hat, hz, h.of_sub (RepL.cons (f1 := []) rz (RepL.cons r1 r2)) r nd dj nd fun b m => m⟩
def rFld (K : PySem.W.Frag) (f : Str) : V → Hp → VK → Prop := fun x H1 Q => ∃ a C dx fs v, x = .ref a ∧ H1 a = some (.ins C dx fs) ∧ Cls K C ∧ NoAttr K C f ∧ fs.lookup f = some v ∧ Q v H1
theorem od_fld {c f : Str} (hc : Cls w.K (w.cA c)) (hn : NoAttr w.K (w.cA c) f) : OpD w (r1 (rFld w.K f)) (oFld c f) := fun I F es us H Q E hs o => by
  unfold oFld at o
  split at o
  · rename_i o' c' ns xs
    match us, hs.length, hs, o with
    | [v], _, hs, o =>
      obtain ⟨ec, o⟩ := ite_out o
      subst ec
      cases h1 : fAt ns f with
      | none => simp only [h1] at o; exact o.elim
      | some j =>
        simp only [h1] at o
        cases h2 : xs[j]? with
        | none => simp only [h2] at o; exact o.elim
        | some d =>
          simp only [h2] at o
          by_cases hd : d.isFrz = true
          · rw [if_pos hd] at o
            obtain ⟨a, dx, us, z, rfl, hat, hz, h3⟩ := hs.insAt h2 hd
            exact ⟨a, _, dx, _, z, rfl, hat, hc, hn, lookup_at h1 hz, o z I H (Le.refl _) h3⟩
          · rw [if_neg hd] at o
            obtain ⟨J, le, h4⟩ := hs.freeze
            obtain ⟨a, dx, us, z, rfl, hat, hz, h3⟩ := Hs.insAt (o := false) h4 (frzL_at h2) (isFrz_frz d)
            exact ⟨a, _, dx, _, z, rfl, hat, hc, hn, lookup_at h1 hz, o z J H le h3⟩
  · exact o.elim
theorem z_fld {Γ : Cx} {X : Fx} {W : WX} {e : Expr} {f c : Str} {pos : Pos} {o : Opd} (h : PE Γ e (tO X W o)) (hc : Cls X.w.K (X.w.cA c)) (hn : NoAttr X.w.K (X.w.cA c) f) (hK : X.w.K = Γ.K) (hb : attributeBase e f Γ.env (eval e Γ.env) = eval e Γ.env := by rfl) :
    PE Γ (.Attribute e f pos) (tE X W (mApp (oFld c f) [o])) := PEi (pe_fld h hb) fun σ H Q q => by
  have z := app_run (od_fld hc hn) q
  rw [hK] at z
  exact z
/-! ### self.f = e, a field that is not there yet -/
def sFldNew (i : Nat) (c f : Str) (m : M) : S := fun env => match m env with
  | .ok r e => (match e[i]? with
    | some (.node (.ins true c' ns) xs) => if c' = c ∧ fAt ns f = none ∧ ns.length = xs.length ∧ ns.length < 900 then .nx (e.set i (.node (.ins true c' (ns ++ [f])) (xs ++ [r]))) else .bad
    | _ => .bad)
  | .exc c ns xs e => .exc c ns xs e
  | .bad => .bad
theorem putF_new : ∀ {ns : List Str} {vs : List V} {f : Str} {v : V}, fAt ns f = none → ns.length = vs.length → putF f v (ns.zip vs) = (ns ++ [f]).zip (vs ++ [v])
  | [], [], f, v, h, l => rfl
  | [], _ :: _, f, v, h, l => by cases l
  | _ :: _, [], f, v, h, l => by cases l
  | n :: ns, u :: vs, f, v, h, l => by
    unfold fAt at h
    rw [List.findIdx?_cons] at h
    by_cases q : (n == f) = true
    · rw [if_pos q] at h; cases h
    · rw [if_neg q] at h
      have h' : ns.findIdx? (· == f) = none := by
        cases hh : ns.findIdx? (· == f) with
        | none => rfl
        | some j => rw [hh] at h; cases h
      have ne : ¬ n = f := by simpa using q
      show putF f v ((n, u) :: ns.zip vs) = _
      unfold putF
      rw [if_neg ne, putF_new (ns := ns) h' (by simpa using l)]
      rfl
theorem s_fldNew {Γ : Cx} {X : Fx} {W : WX} {i : Nat} {x f c : Str} {value : Expr} {pos pos' p : Pos} {m : M} (ha : PE Γ (.Name x p) (tVar i)) (hv : PE Γ value (tE X W m)) (hc : Cls X.w.K (X.w.cA c)) (hn : NoAttr X.w.K (X.w.cA c) f) (hK : X.w.K = Γ.K)
    (hs : swapsWith value (some (.Attribute (.Name x p) f pos')) pos.line Γ.env = pure false := by rfl) : PS Γ (.Assign [.Attribute (.Name x p) f pos'] value pos) (tS X W (sFldNew i c f m)) := PSi (ps_fld ha hv hs) fun E σ H q => by
  obtain ⟨I, F, env, h, er, o⟩ := q
  refine ⟨I, F, env, h, er, ?_⟩
  unfold sFldNew at o
  cases hm : m env with
  | bad => simp only [hm] at o; exact o.elim
  | exc c ns xs e => simp only [hm] at o; exact fun cls d I' H' le h' er' x => o cls d σ I' H' le h' er' x
  | ok r e =>
    simp only [hm] at o
    intro y I1 H1 le1 h1 er1
    split at o
    · rename_i c' ns xs hd
      by_cases q : c' = c ∧ fAt ns f = none ∧ ns.length = xs.length ∧ ns.length < 900
      · rw [if_pos q] at o
        obtain ⟨rfl, q1, q2, q3⟩ := q
        obtain ⟨v, hv⟩ := er1.on i _ hd (fun z => nomatch z)
        obtain ⟨v', e', h2⟩ := Hs.take (es := [r]) (us := [y]) h1 rfl hd
        have ev : v' = v := Option.some.inj (e'.symm.trans (σv_at hv))
        subst ev
        obtain ⟨a, us, G, rfl, hl, hf, ⟨dx, hat⟩, h3, _, close⟩ := h2.open rfl
        have hl2 : ns.length = us.length := hf
        have h4 : Hs X.w I1 G ((xs ++ [r]) ++ e.set i .any) ((us ++ [y]) ++ σv σ) H1 := by
          rw [List.append_assoc, List.append_assoc]
          exact h3
        have h5 := close I1 (.ins true c' (ns ++ [f])) (xs ++ [r]) (us ++ [y]) _ _ H1 (.ins (X.w.cA c') dx ((ns ++ [f]).zip (us ++ [y]))) (Le.refl _) h4 (by simp [hl]) rfl (by show (ns ++ [f]).length = (us ++ [y]).length; simp [hl2]) ⟨dx, upd_same⟩
        refine ⟨.ref a, hv, a, X.w.cA c', dx, ns.zip us, rfl, hat, by rw [← hK]; exact hc, by rw [← hK]; exact hn, by rw [List.length_zip]; omega, ?_⟩
        rw [putF_new q1 hl2]
        have lt : i < e.length := (List.getElem?_eq_some_iff.mp hd).1
        have h6 := Hs.put (es := []) (us := []) (i := i) h5 rfl (by rw [List.getElem?_set_self lt]) e'
        rw [set_set] at h6
        exact o σ I1 _ le1 h6 (er1.set hd fun _ z => nomatch z)
      · rw [if_neg q] at o
        exact o.elim
    · exact o.elim
end
end Z

set_option Elab.async false
set_option linter.all false
set_option maxRecDepth 100000
set_option maxHeartbeats 4000000
/-! ZK: isinstance, truth, displays with a star, methods, slices and what else stands in the programs. -/
namespace Z
open PySem PySem.Spec PyProof.Rows L2 StX
/-! ### isinstance of built-in classes -/
def D.ty : D → Option String
  | .any => none
  | .non => some "NoneType"
  | .bl _ => some "bool"
  | .int _ => some "int"
  | .str _ => some "str"
  | .node .tup _ => some "tuple"
  | .node .tux _ => some "tuple"
  | .node .scr _ => some "list"
  | .node (.lst _) _ => some "list"
  | .node (.dk _ _) _ => some "dict"
  | .node (.dt true _) _ => some "dict"
  | .node (.dt false _) _ => none
  | .node (.dn _ _) _ => none
  | .node (.ins _ _ _) _ => none
section
variable {w : Wd}
theorem tyx_l {K : PySem.W.Frag} {H : Hp} {a : Addr} {us : List V} (h : SqL K H a us) : TyX K H (.ref a) (.type "list") := by
  rcases h with h | ⟨o, its, n, h1, h2, _⟩
  · rcases h with h | ⟨ob, h⟩
    · exact .base (.lst h)
    · exact .base (.frz h)
  · exact .kList h1 h2
theorem tyx_t {K : PySem.W.Frag} {H : Hp} {a : Addr} {us : List V} (h : SqT K H a us) : TyX K H (.ref a) (.type "tuple") := by
  rcases h with h | ⟨o, its, n, h1, h2, _⟩
  · rcases h with h | ⟨ob, h⟩
    · exact .base (.tup h)
    · exact .fTuple h
  · exact .kTuple h1 h2
theorem Hs.tyx {I F H : Hp} {ds : List D} {vs : List V} {d : D} {v : V} {T : String} (h : Hs w I F (d :: ds) (v :: vs) H) (e : d.ty = some T) : TyX w.K H v (.type T) := by
  obtain ⟨fp, r⟩ := h.head
  have le := h.iH
  cases d with
  | any => cases e
  | non => cases e; rw [h.scal rfl]; exact .base .non
  | bl b => cases e; rw [h.scal rfl]; exact .base (.bl b)
  | int i => cases e; rw [h.scal rfl]; exact .base (.int i)
  | str s => cases e; rw [h.scal rfl]; exact .base (.str s)
  | node t xs =>
    unfold Rep at r
    obtain ⟨a, us, fp', rfl, hl, hf, q⟩ := r
    cases t with
    | tup =>
      cases e
      rcases q with ⟨ho, _, _⟩ | ⟨_, hat, _⟩
      · cases ho
      · exact tyx_t (le_t le (SqT.of hat))
    | tux =>
      cases e
      rcases q with ⟨ho, _, _⟩ | ⟨_, hat, _⟩
      · cases ho
      · exact tyx_t (le_t le (Tux.sqt hat))
    | scr =>
      cases e
      rcases q with ⟨ho, _, _⟩ | ⟨_, hat, _⟩
      · cases ho
      · exact tyx_l (le_l le hat)
    | lst o =>
      cases e
      rcases q with ⟨_, hat, _⟩ | ⟨_, hat, _⟩
      · exact .base (.lst hat)
      · exact .base (.lst (le a _ hat))
    | dk o ks =>
      cases e
      rcases q with ⟨_, hat, _⟩ | ⟨_, hat, _⟩
      · exact .base (.dK hat)
      · rcases le_rd le hat with h | ⟨od, h⟩
        · exact .base (.dK h)
        · exact .fDict h
    | dt o ks =>
      cases o with
      | false => cases e
      | true =>
        cases e
        rcases q with ⟨_, hat, _⟩ | ⟨ho, _, _⟩
        · exact .base (.dT hat)
        · cases ho
    | dn o ks => cases e
    | ins o c ns => cases e
/-- isinstance(x, T): the answer for each class that x may be of -/
def isiB (T : String) (d : D) : Option D := match d.ty with
  | some t => (kitB t T).map .bl
  | none => none
def rIs1 (K : PySem.W.Frag) (T : String) : RN := r1 fun x H Q => rIsi K [x, .ty T] H Q
theorem od_isi {T : String} : OpD w (rIs1 w.K T) (op1 (isiB T)) := od1 fun I F H d v z hs h => by
  unfold isiB at h
  cases e : d.ty with
  | none => rw [e] at h; cases h
  | some t =>
    rw [e] at h
    obtain ⟨b, hb, rfl⟩ := Option.map_eq_some_iff.mp h
    exact ⟨_, rfl, fun Q E q => ⟨v, .ty T, .type t, .type T, b, rfl, .ty T, hs.tyx e, kit_ty hb, q⟩⟩
def isi2B (T U : String) (d : D) : Option D := match d.ty with
  | some t => (match kitB t T, kitB t U with
    | some a, some b => some (.bl (a || b))
    | _, _ => none)
  | none => none
def rIs2 (K : PySem.W.Frag) (T U : String) : RN := r1 fun x H Q => 2 ≤ sizeLine ∧ ∀ p, H p = none → rIsiT K [x, .ref p] (upd H p (.tup [.ty T, .ty U])) Q
theorem od_isi2 {T U : String} : OpD w (rIs2 w.K T U) (op1 (isi2B T U)) := fun I F es us H Q E hs o => by
  match es, us, hs.length, hs, o with
  | [d], [v], _, hs, o =>
    unfold op1 at o
    cases h : isi2B T U d with
    | none => simp only [h] at o; exact o.elim
    | some z =>
      simp only [h] at o
      unfold isi2B at h
      cases e : d.ty with
      | none => rw [e] at h; cases h
      | some t =>
        rw [e] at h
        simp only at h
        cases e1 : kitB t T with
        | none => rw [e1] at h; cases h
        | some a =>
          cases e2 : kitB t U with
          | none => rw [e1, e2] at h; cases h
          | some b =>
            rw [e1, e2] at h
            cases h
            refine ⟨by decide, fun p np => ?_⟩
            have h2 := hs.junk (o := .tup [.ty T, .ty U]) np
            refine ⟨v, p, [.ty T, .ty U], .type t, [.type T, .type U], a || b, rfl, upd_same, .cons (.ty T) (.cons (.ty U) .nil), h2.tyx e, ?_, o (.bl (a || b)) I _ (Le.refl _) (h2.addC rfl)⟩
            refine kitAny_cons (kit_ty e1) (fun ha => ?_) (fun ha => by rw [ha]; rfl)
            refine kitAny_cons (kit_ty e2) (fun hb => ?_) (fun hb => by rw [hb]; cases a <;> rfl)
            rw [ha, hb]
            exact kitAny_nil
  | [], _, _, _, o => exact o.elim
  | _ :: _ :: _, _, _, _, o => exact o.elim
end
section
variable {Γ : Cx} {X : Fx} {W : WX}
theorem z_isi {e : Expr} {T : Str} {n : String} {p p2 pos : Pos} {o : Opd} (h : PE Γ e (tO X W o)) (hT : PE Γ (.Name T p2) (tC (.ty n))) (hg : Gl Γ "isinstance") (hm : Γ.mg "isinstance" = none) (hK : X.w.K = Γ.K)
    (h1 : starEach [e, .Name T p2] Γ.env = (false, eval e Γ.env) :: starEach [.Name T p2] Γ.env := by rfl) (h2 : starEach [.Name T p2] Γ.env = (false, eval (.Name T p2) Γ.env) :: starEach [] Γ.env := by rfl) (hpl : (backTo pos (starEach [.Name T p2] Γ.env)).any (·.1) = false := by rfl) :
    PE Γ (.Call (.Name "isinstance" p) [e, .Name T p2] [] pos) (tE X W (mApp (op1 (isiB n)) [o])) :=
  PEi (pe_callB (x := "isinstance") call_isi hg hm (by decide +kernel) (pa_cons h (pa_cons hT pa_nil h2) h1) (by decide) (by decide) h1 hpl) fun σ H Q q => by
    have z := app_run (od_isi (w := X.w) (T := n)) q
    rw [hK] at z
    exact z
theorem z_isi2 {e : Expr} {T U : Str} {n m : String} {k : Nat} {p p2 p3 p4 pos : Pos} {o : Opd} (h : PE Γ e (tO X W o)) (hT : PE Γ (.Name T p2) (tC (.ty n))) (hU : PE Γ (.Name U p3) (tC (.ty m))) (hg : Gl Γ "isinstance") (hm : Γ.mg "isinstance" = none) (hK : X.w.K = Γ.K)
    (h1 : starEach [e, .Tuple [.Name T p2, .Name U p3] k p4] Γ.env = (false, eval e Γ.env) :: starEach [.Tuple [.Name T p2, .Name U p3] k p4] Γ.env := by rfl)
    (h2 : starEach [.Tuple [.Name T p2, .Name U p3] k p4] Γ.env = (false, eval (.Tuple [.Name T p2, .Name U p3] k p4) Γ.env) :: starEach [] Γ.env := by rfl)
    (h3 : starEach [.Name T p2, .Name U p3] Γ.env = (false, eval (.Name T p2) Γ.env) :: starEach [.Name U p3] Γ.env := by rfl) (h4 : starEach [.Name U p3] Γ.env = (false, eval (.Name U p3) Γ.env) :: starEach [] Γ.env := by rfl)
    (hpl : (backTo pos (starEach [.Tuple [.Name T p2, .Name U p3] k p4] Γ.env)).any (·.1) = false := by rfl) :
    PE Γ (.Call (.Name "isinstance" p) [e, .Tuple [.Name T p2, .Name U p3] k p4] [] pos) (tE X W (mApp (op1 (isi2B n m)) [o])) :=
  PEi (pe_callB (x := "isinstance") call_isiT hg hm (by decide +kernel) (pa_cons h (pa_cons (pe_tup (pa_cons hT (pa_cons hU pa_nil h4) h3)) pa_nil h2) h1) (by decide) (by decide) h1 hpl) fun σ H Q q => by
    have z := app_run (od_isi2 (w := X.w) (T := n) (U := m)) q
    rw [hK] at z
    exact z
/-! ### truth of lists, tuples, ints, texts -/
def truD : D → Option Bool
  | .non => some false
  | .bl b => some b
  | .int i => some (i != 0)
  | .node .tup xs => some (!xs.isEmpty)
  | .node .tux xs => some (!xs.isEmpty)
  | .node .scr xs => some (!xs.isEmpty)
  | .node (.lst _) xs => some (!xs.isEmpty)
  | _ => none
theorem Hs.tru {w : Wd} {I F H : Hp} {ds : List D} {vs : List V} {d : D} {v : V} {b : Bool} (h : Hs w I F (d :: ds) (v :: vs) H) (e : truD d = some b) : TruV w.K v H b := by
  cases d with
  | any => cases e
  | non => cases e; rw [h.scal rfl]; exact rfl
  | bl c => cases e; rw [h.scal rfl]; exact rfl
  | int i => cases e; rw [h.scal rfl]; exact rfl
  | str s => cases e
  | node t xs =>
    have key : ∀ us : List V, xs.length = us.length → (!xs.isEmpty) = !us.isEmpty := fun us hl => by
      cases xs <;> cases us <;> first | rfl | cases hl
    cases t with
    | tup =>
      cases e
      obtain ⟨a, us, rfl, _, _, hq, hl, _⟩ := h.seq (xs := xs) rfl
      exact .inr (.inl ⟨us, le_t h.iH (hq (.inl rfl)), key us hl⟩)
    | tux =>
      cases e
      obtain ⟨a, us, rfl, _, _, hq, hl, _⟩ := h.seq (xs := xs) rfl
      exact .inr (.inl ⟨us, le_t h.iH (hq (.inr rfl)), key us hl⟩)
    | scr =>
      cases e
      obtain ⟨a, us, rfl, hq, hl, _⟩ := h.seqL (.inl rfl)
      exact .inl ⟨us, hq, key us hl⟩
    | lst o =>
      cases e
      obtain ⟨a, us, rfl, hq, hl, _⟩ := h.seqL (.inr ⟨o, rfl⟩)
      exact .inl ⟨us, hq, key us hl⟩
    | _ => cases e
def mTru (m : M) : M := fun env => match m env with
  | .ok d e => (match truD d with
    | some b => .ok (.bl b) e
    | none => .bad)
  | .exc c ns xs e => .exc c ns xs e
  | .bad => .bad
theorem t_tru {a : Expr} {m : M} (h : PE Γ a (tE X W m)) (hK : X.w.K = Γ.K) (he : ∀ whole, isTrue a Γ.env whole = (do let v ← whole; standAt a.pos; holding [v] (truthy v)) := by intro _; rfl) : PT Γ a (tT X W (mTru m)) := PTi (pt_truth h he) fun σ H Q q => by
  obtain ⟨I, F, env, hs, er, o⟩ := q
  refine ⟨I, F, env, hs, er, ?_⟩
  unfold mTru at o
  cases hm : m env with
  | bad => simp only [hm] at o; exact o.elim
  | exc c ns xs e => simp only [hm] at o; exact o
  | ok d e =>
    simp only [hm] at o
    intro v I1 H1 le h1 er1
    cases ht : truD d with
    | none => simp only [ht] at o; exact o.elim
    | some b =>
      simp only [ht] at o
      have z := h1.tru ht
      rw [hK] at z
      exact ⟨b, z, o I1 H1 le h1.drop er1⟩
/-! ### [*xs, e], (*xs, e) -/
def mStar (tup : Bool) (m : M) (ops : List Opd) : M := fun env => match m env with
  | .ok d e => (match d.seq with
    | some xs => (match evA ops e with
      | .ok ds e1 => if xs.length + ds.length ≤ 100000 then .ok (.node (if tup = true then .tup else .lst true) (frzL xs ++ ds)) (putA ops (ds.map fun _ => .any) e1) else .bad
      | .exc c ns xs e => .exc c ns xs e
      | .bad => .bad)
    | none => .bad)
  | .exc c ns xs e => .exc c ns xs e
  | .bad => .bad
theorem star_run {m : M} {ops : List Opd} {tup : Bool} {σ : L2.St} {H : Hp} {Q : VK} (hK : X.w.K = Γ.K) (q : tE X W (mStar tup m ops) σ H Q) :
    tStar Γ.K (tE X W m) (tOs X W ops) σ H fun xs H1 => xs.length ≤ sizeLine ∧ ∀ p, H1 p = none → Q (.ref p) (upd H1 p (if tup = true then .tup xs else .lst xs)) := by
  obtain ⟨I, F, env, hs, er, o⟩ := q
  refine ⟨I, F, env, hs, er, ?_⟩
  unfold mStar at o
  cases hm : m env with
  | bad => simp only [hm] at o; exact o.elim
  | exc c ns xs e => simp only [hm] at o; exact o
  | ok d e =>
    simp only [hm] at o
    intro v I1 H1 le1 h1 er1
    cases hd : d.seq with
    | none => simp only [hd] at o; exact o.elim
    | some xs =>
      simp only [hd] at o
      obtain ⟨J, leJ, h2⟩ := h1.freeze
      obtain ⟨a, us, rfl, hq, _, _, hl, h3⟩ := h2.items (seq_frz hd) (isFrzL_frz xs)
      have h4 : Hs X.w J F (frzL xs ++ (d.frz :: e)) (us ++ (.ref a :: σv σ)) H1 := h3
      have h5 := (h4.front hl.symm).drop
      obtain ⟨G, hg, back⟩ := Hs.push h5 hl.symm
      refine ⟨a, us, rfl, ?_, ?_⟩
      · rw [← hK]
        exact hq.elim .inr .inl
      · refine ops_run ops σ H1 _ ⟨J, G, e, hg, er1, ?_⟩
        cases ha : evA ops e with
        | bad => simp only [ha] at o; exact o.elim
        | exc c ns ys e2 =>
          simp only [ha] at o
          intro cls dd I2 H2 le2 h6 er2 x
          have h7 := (back I2 _ _ H2 le2 h6).comm hl.symm
          refine o cls dd I2 H2 ((le1.trans leJ).trans le2) ?_ er2 x
          obtain ⟨fp, rr, nd, dj⟩ := h7.ex
          obtain ⟨f1, f2, rfl, r1, r2⟩ := rr.split h6.length
          exact h7.of_sub r1 rr nd dj (List.nodup_append.mp nd).1 fun b mm => List.mem_append_left _ mm
        | ok ds e2 =>
          simp only [ha] at o
          by_cases hz : xs.length + ds.length ≤ 100000
          · rw [if_pos hz] at o
            intro ys I2 H2 le2 h6 hl6 er2 pk
            have h7 := back I2 _ _ H2 le2 h6
            have h8 : Hs X.w I2 F ((frzL xs ++ ds) ++ e2) ((us ++ ys) ++ σv σ) H2 := by
              rw [List.append_assoc, List.append_assoc]
              exact h7
            have hlen : (frzL xs ++ ds).length = (us ++ ys).length := by simp [hl, hl6]
            refine ⟨szO (by rw [List.length_append, hl, frzL_len, ← hl6]; exact hz), fun p np => ?_⟩
            have fin : ∀ (J2 : Hp) (t : Tag) (u : HO), Le I2 J2 → Hs X.w J2 F (.node t (frzL xs ++ ds) :: e2) (.ref p :: σv σ) (upd H2 p u) → Hs X.w J2 F (.node t (frzL xs ++ ds) :: putA ops (ds.map fun _ => .any) e2) (.ref p :: σv σ) (upd H2 p u) := by
              intro J2 t u leJ2 h9
              have h10 : Hs X.w J2 F ([.node t (frzL xs ++ ds)] ++ (ds.map (fun _ => D.any) ++ e2)) ([.ref p] ++ (ys ++ σv σ)) (upd H2 p u) := by
                have := h9.anys ys
                rw [← map_any hl6] at this
                have h11 : Hs X.w J2 F ((ds.map fun _ => D.any) ++ ([.node t (frzL xs ++ ds)] ++ e2)) (ys ++ ([.ref p] ++ σv σ)) (upd H2 p u) := this
                have h12 : Hs X.w J2 F ((ds.map fun _ => D.any) ++ D.node t (frzL xs ++ ds) :: e2) (ys ++ .ref p :: σv σ) (upd H2 p u) := h11
                exact h12.front (by simp [hl6])
              exact hs_put ops ys (ds.map fun _ => .any) e2 [.node t (frzL xs ++ ds)] [.ref p] pk (by simp [hl6]) rfl h10
            cases tup with
            | true =>
              obtain ⟨le3, h9⟩ := Hs.newT h8 hlen np
              exact o (.ref p) _ _ (((le1.trans leJ).trans le2).trans le3) (fin _ _ _ le3 h9) (er_put ops ys _ e2 pk er2)
            | false =>
              have h9 := Hs.newO (t := .lst true) (o := .lst (us ++ ys)) h8 hlen np rfl trivial (show upd H2 p (.lst (us ++ ys)) p = some (.lst (us ++ ys)) from upd_same)
              exact o (.ref p) _ _ ((le1.trans leJ).trans le2) (fin _ _ _ (Le.refl _) h9) (er_put ops ys _ e2 pk er2)
          · rw [if_neg hz] at o
            exact o.elim
theorem z_starT {e : Expr} {es : List Expr} {p pos : Pos} {k} {m : M} {ops : List Opd} (h : PE Γ e (tE X W m)) (ha : PA Γ es (tOs X W ops)) (hK : X.w.K = Γ.K) (hs : starEach (.Starred e p :: es) Γ.env = (true, eval e Γ.env) :: starEach es Γ.env := by rfl) : PE Γ (.Tuple (.Starred e p :: es) k pos) (tE X W (mStar true m ops)) :=
  PEi (pe_tup (pa_star h ha hs)) fun σ H Q q => star_run hK q
theorem z_starL {e : Expr} {es : List Expr} {p pos : Pos} {m : M} {ops : List Opd} (h : PE Γ e (tE X W m)) (ha : PA Γ es (tOs X W ops)) (hK : X.w.K = Γ.K) (hs : starEach (.Starred e p :: es) Γ.env = (true, eval e Γ.env) :: starEach es Γ.env := by rfl) : PE Γ (.List (.Starred e p :: es) pos) (tE X W (mStar false m ops)) :=
  PEi (pe_lst (pa_star h ha hs)) fun σ H Q q => star_run hK q
end
end Z

set_option Elab.async false
set_option linter.all false
set_option maxRecDepth 100000
set_option maxHeartbeats 4000000
/-! ZL: lists changed in place, methods that look, slices, sorted, comb, max. -/
namespace Z
open PySem PySem.Spec PyProof.Rows L2 StX
section
variable {Γ : Cx} {X : Fx} {W : WX}
/-! ### a list at a name, changed by a method -/
/-- xs.append(e), xs.pop(i): f, of the items and the arguments, gives the result and the items behind it -/
def mLst (f : List D → List D → Option (D × List D)) (i : Nat) (ops : List Opd) : M := fun env => match env[i]? with
  | some (.node (.lst true) _) => (match evA ops env with
    | .ok ds e1 => (match e1[i]? with
      | some (.node (.lst true) xs) => (match f xs ds with
        | some (r, ys) => .ok r (putA ops (ds.map fun _ => .any) (e1.set i (.node (.lst true) ys)))
        | none => .bad)
      | _ => .bad)
    | .exc c ns xs e => .exc c ns xs e
    | .bad => .bad)
  | _ => .bad
/-- what such a method does at the list's place -/
def LstM (w : Wd) (r : V → List V → Hp → VK → Prop) (f : List D → List D → Option (D × List D)) : Prop :=
  ∀ (I G H : Hp) (a : Addr) (us : List V) (xs ds : List D) (vs : List V) (d : D) (ys : List D) (Q : VK), H a = some (.lst us) → xs.length = us.length → ds.length = vs.length → Hs w I G (xs ++ ds) (us ++ vs) H → f xs ds = some (d, ys) →
    (∀ z us', ys.length = us'.length → Hs w I G (d :: ys) (z :: us') H → Q z (upd H a (.lst us'))) → r (.ref a) vs H Q
theorem lst_run {r : V → List V → Hp → VK → Prop} {f : List D → List D → Option (D × List D)} (hf : LstM X.w r f) {i : Nat} {ops : List Opd} {σ : L2.St} {H : Hp} {Q : VK} (hK : X.w.K = Γ.K) (q : tE X W (mLst f i ops) σ H Q) : tBM Γ.K "list" r (tVar i) (tOs X W ops) σ H Q := by
  obtain ⟨I, F, env, hs, er, o⟩ := q
  unfold mLst at o
  split at o
  · rename_i xs0 hd0
    obtain ⟨v, hv⟩ := er.on i _ hd0 (fun z => nomatch z)
    refine ⟨v, hv, ?_, ?_⟩
    · obtain ⟨v', e', h1⟩ := Hs.take (es := []) (us := []) hs rfl hd0
      have ev : v' = v := Option.some.inj (e'.symm.trans (σv_at hv))
      subst ev
      obtain ⟨a, us, rfl, hq, _⟩ := h1.seqL (.inr ⟨true, rfl⟩)
      rw [← hK]
      exact .inl ⟨rfl, us, hq⟩
    · refine ops_run ops σ H _ ⟨I, F, env, hs, er, ?_⟩
      cases ha : evA ops env with
      | bad => simp only [ha] at o; exact o.elim
      | exc c ns xs e => simp only [ha] at o; exact o
      | ok ds e1 =>
        simp only [ha] at o
        intro vs I1 H1 le1 h1 hl er1 pk
        split at o
        · rename_i xs hd
          cases hfx : f xs ds with
          | none => simp only [hfx] at o; exact o.elim
          | some ry =>
            obtain ⟨rd, ys⟩ := ry
            simp only [hfx] at o
            obtain ⟨v', e', h2⟩ := Hs.take h1 hl hd
            have ev : v' = v := Option.some.inj (e'.symm.trans (σv_at hv))
            subst ev
            obtain ⟨a, us, G, rfl, hlx, _, hat, h3, _, close⟩ := h2.open rfl
            have hat' : H1 a = some (.lst us) := hat
            have h3' : Hs X.w I1 G ((xs ++ ds) ++ e1.set i .any) ((us ++ vs) ++ σv σ) H1 := by
              rw [List.append_assoc, List.append_assoc]
              exact h3
            have h4 := h3'.comm (by simp [hlx, hl])
            have lenE : (e1.set i D.any).length = (σv σ).length := by
              have := h3'.length
              simp [hlx, hl] at this ⊢
              omega
            obtain ⟨G2, g2, back2⟩ := Hs.push h4 lenE
            refine hf I1 G2 H1 a us xs ds vs rd ys _ hat' hlx hl g2 hfx fun z us' hl' h5 => ?_
            have h6 := back2 I1 _ _ H1 (Le.refl _) h5
            -- e ++ (rd :: ys): the items to the front
            have h7 := h6.comm lenE
            have h8 : Hs X.w I1 G ([rd] ++ (ys ++ e1.set i .any)) ([z] ++ (us' ++ σv σ)) H1 := h7
            have h9 := h8.comm rfl
            have h10 : Hs X.w I1 G (ys ++ (e1.set i .any ++ [rd])) (us' ++ (σv σ ++ [z])) H1 := by
              rw [← List.append_assoc, ← List.append_assoc]
              exact h9
            have h11 := close I1 (.lst true) ys us' _ _ H1 (.lst us') (Le.refl _) h10 hl' rfl trivial (show upd H1 a (.lst us') a = some (.lst us') from upd_same)
            have h12 : Hs X.w I1 F ((.node (.lst true) ys :: e1.set i .any) ++ [rd]) ((.ref a :: σv σ) ++ [z]) (upd H1 a (.lst us')) := h11
            have h13 : Hs X.w I1 F (rd :: .node (.lst true) ys :: e1.set i .any) (z :: .ref a :: σv σ) (upd H1 a (.lst us')) := h12.comm (by simp only [List.length_cons, lenE])
            have lt : i < e1.length := (List.getElem?_eq_some_iff.mp hd).1
            have h14 := Hs.put (es := [rd]) (us := [z]) (i := i) h13.swap rfl (by rw [List.getElem?_set_self lt]) e'
            rw [set_set] at h14
            have h15 := h14.anys vs
            rw [← map_any hl] at h15
            have h16 : Hs X.w I1 F ((ds.map fun _ => D.any) ++ rd :: e1.set i (.node (.lst true) ys)) (vs ++ z :: σv σ) (upd H1 a (.lst us')) := h15
            have h17 := h16.front (by simp [hl])
            have h18 : Hs X.w I1 F ([rd] ++ ((ds.map fun _ => D.any) ++ e1.set i (.node (.lst true) ys))) ([z] ++ (vs ++ σv σ)) (upd H1 a (.lst us')) := h17
            have h19 := hs_put ops vs _ _ [rd] [z] pk (by simp [hl]) rfl h18
            exact o z I1 _ le1 h19 (er_put ops vs _ _ pk (er1.set hd fun _ z => nomatch z))
        · exact o.elim
  · exact o.elim
def fAppend : List D → List D → Option (D × List D)
  | xs, [d] => if xs.length < 100000 then some (.non, xs ++ [d]) else none
  | _, _ => none
theorem lm_append {w : Wd} : LstM w rAppend fAppend := fun I G H a us xs ds vs d ys Q hat hl hl2 hs h k => by
  unfold fAppend at h
  split at h
  · rename_i d0
    match vs, hl2, hs with
    | [v], _, hs =>
      obtain ⟨hz, e⟩ := ifs h
      cases e
      refine ⟨a, us, v, rfl, rfl, hat, szL (by rw [← hl]; exact hz), k .non (us ++ [v]) (by simp [hl]) ?_⟩
      exact Hs.addC hs rfl
  · cases h
def fPopAt : List D → List D → Option (D × List D)
  | xs, [.int i] => if 0 ≤ i ∧ i < 100000 then (match xs[i.toNat]? with
    | some d => some (d, xs.eraseIdx i.toNat)
    | none => none) else none
  | _, _ => none
theorem seqIx_nat {i : Int} {n : Nat} (h0 : 0 ≤ i) (h : i.toNat < n) : seqIndex? i n = some i.toNat := by
  have e : ixN n i = some i.toNat := by
    unfold ixN
    rw [if_pos h0, if_pos (by omega)]
  exact (ixN_seq e).1
theorem lm_popAt {w : Wd} : LstM w rPopAt fPopAt := fun I G H a us xs ds vs d ys Q hat hl hl2 hs h k => by
  unfold fPopAt at h
  split at h
  · rename_i i
    match vs, hl2, hs with
    | [v], _, hs =>
      by_cases hz : 0 ≤ i ∧ i < 100000
      · rw [if_pos hz] at h
        split at h
        · rename_i d0 hd
          cases h
          have lt : i.toNat < xs.length := (List.getElem?_eq_some_iff.mp hd).1
          have lt2 : i.toNat < us.length := by omega
          have hs2 := hs.comm hl
          have hv : v = .int i := Hs.scal (ds := xs) (vs := us) hs2 rfl
          subst hv
          have hs3 : Hs w I G xs us H := Hs.drop hs2
          have e1 : xs = xs.take i.toNat ++ d :: xs.drop (i.toNat + 1) := by
            have := List.drop_eq_getElem_cons lt
            rw [List.getElem?_eq_getElem lt] at hd
            cases hd
            rw [← this, List.take_append_drop]
          have e2 : us = us.take i.toNat ++ us[i.toNat] :: us.drop (i.toNat + 1) := by
            rw [← List.drop_eq_getElem_cons lt2, List.take_append_drop]
          have hs4 : Hs w I G (xs.take i.toNat ++ d :: xs.drop (i.toNat + 1)) (us.take i.toNat ++ us[i.toNat] :: us.drop (i.toNat + 1)) H := by
            rw [← e1, ← e2]
            exact hs3
          have hs5 := hs4.front (by simp [hl])
          rw [← List.eraseIdx_eq_take_drop_succ, ← List.eraseIdx_eq_take_drop_succ] at hs5
          refine ⟨a, us, i, i.toNat, us[i.toNat], rfl, rfl, hat, by omega, by omega, seqIx_nat hz.1 lt2, List.getElem?_eq_getElem lt2, k us[i.toNat] (us.eraseIdx i.toNat) (by rw [List.length_eraseIdx, List.length_eraseIdx, hl]) hs5⟩
        · cases h
      · rw [if_neg hz] at h
        cases h
  · cases h
theorem z_append {x : Str} {p : Pos} {i : Nat} {e : Expr} {apos cpos : Pos} {o : Opd} (h : PE Γ (.Name x p) (tVar i)) (ha : PA Γ [e] (tOs X W [o])) (hK : X.w.K = Γ.K)
    (hbase : attributeBase (.Name x p) "append" Γ.env (eval (.Name x p) Γ.env) = eval (.Name x p) Γ.env := by rfl)
    (hfew : ((backTo cpos (starEach [e] Γ.env)).all (fun x => !x.1) && (backToKw cpos (keywordEach [] Γ.env)).all (fun x => x.1.isSome) && decide ([e].length + ([] : List Keyword).length + (if ([] : List Keyword).isEmpty then 0 else 1) < 30)) = true := by rfl)
    (hline : (apos.endLine == cpos.line) = true := by rfl) (hs : starEach [e] Γ.env = (false, eval e Γ.env) :: starEach [] Γ.env := by rfl) (hplain : (backTo cpos (starEach [] Γ.env)).any (·.1) = false := by rfl) :
    PE Γ (.Call (.Attribute (.Name x p) "append" apos) [e] [] cpos) (tE X W (mLst fAppend i [o])) :=
  PEi (pe_bm PySem.F.plainAttrs_list PySem.F.slot_list_append PySem.F.type_list_append mt_append h ha hbase hfew hline hs hplain) fun σ H Q q => lst_run lm_append hK q
theorem z_popAt {x : Str} {p : Pos} {i : Nat} {e : Expr} {apos cpos : Pos} {o : Opd} (h : PE Γ (.Name x p) (tVar i)) (ha : PA Γ [e] (tOs X W [o])) (hK : X.w.K = Γ.K)
    (hbase : attributeBase (.Name x p) "pop" Γ.env (eval (.Name x p) Γ.env) = eval (.Name x p) Γ.env := by rfl)
    (hfew : ((backTo cpos (starEach [e] Γ.env)).all (fun x => !x.1) && (backToKw cpos (keywordEach [] Γ.env)).all (fun x => x.1.isSome) && decide ([e].length + ([] : List Keyword).length + (if ([] : List Keyword).isEmpty then 0 else 1) < 30)) = true := by rfl)
    (hline : (apos.endLine == cpos.line) = true := by rfl) (hs : starEach [e] Γ.env = (false, eval e Γ.env) :: starEach [] Γ.env := by rfl) (hplain : (backTo cpos (starEach [] Γ.env)).any (·.1) = false := by rfl) :
    PE Γ (.Call (.Attribute (.Name x p) "pop" apos) [e] [] cpos) (tE X W (mLst fPopAt i [o])) :=
  PEi (pe_bm PySem.F.plainAttrs_list PySem.F.slot_list_pop PySem.F.type_list_pop mt_popAt h ha hbase hfew hline hs hplain) fun σ H Q q => lst_run lm_popAt hK q
/-! ### xs[i] = e, of a list at a name -/
def sSetI (i : Nat) (m mi : M) : S := fun env => match m env with
  | .ok r e1 => (match e1[i]? with
    | some (.node (.lst true) _) => (match mi e1 with
      | .ok (.int k) e2 => (match e2[i]? with
        | some (.node (.lst true) xs) => (match ixN xs.length k with
          | some j => .nx (e2.set i (.node (.lst true) (xs.set j r)))
          | none => .bad)
        | _ => .bad)
      | .ok _ _ => .bad
      | .exc c ns xs e => .exc c ns xs e
      | .bad => .bad)
    | _ => .bad)
  | .exc c ns xs e => .exc c ns xs e
  | .bad => .bad
theorem hs_setI {w : Wd} {I F H : Hp} {ds : List D} {vs : List V} {r : D} {y : V} {xs : List D} {v : V} {j : Nat} (h : Hs w I F (r :: .node (.lst true) xs :: ds) (y :: v :: vs) H) (hj : j < xs.length) :
    ∃ a us, v = .ref a ∧ H a = some (.lst us) ∧ xs.length = us.length ∧ Hs w I F (.node (.lst true) (xs.set j r) :: ds) (v :: vs) (upd H a (.lst (us.set j y))) := by
  obtain ⟨a, us, G, rfl, hl, _, hat, hs, _, close⟩ := h.swap.open rfl
  refine ⟨a, us, rfl, hat, hl, ?_⟩
  -- xs ++ r :: ds: r to the front, then set
  have h1 := hs.front hl
  have h2 := h1.set (i := j) (by rw [List.length_append]; omega)
  rw [List.set_append_left _ _ hj, List.set_append_left _ _ (by omega)] at h2
  exact close I (.lst true) (xs.set j r) (us.set j y) ds vs H (.lst (us.set j y)) (Le.refl _) h2 (by simp [hl]) rfl trivial (show upd H a (.lst (us.set j y)) a = some (.lst (us.set j y)) from upd_same)
theorem setI_run {i : Nat} {m mi : M} {E : Ends} {σ : L2.St} {H : Hp} (q : tS X W (sSetI i m mi) E σ H) : tAsg (tE X W m) (gSub (tVar i) (tE X W mi) rSetL) E σ H := by
  obtain ⟨I, F, env, hs, er, o⟩ := q
  refine ⟨I, F, env, hs, er, ?_⟩
  unfold sSetI at o
  cases hm : m env with
  | bad => simp only [hm] at o; exact o.elim
  | exc c ns xs e => simp only [hm] at o; exact fun cls d I' H' le h' er' x => o cls d σ I' H' le h' er' x
  | ok r e1 =>
    simp only [hm] at o
    intro y I1 H1 le1 h1 er1
    split at o
    · rename_i xs0 hd0
      obtain ⟨v, hv⟩ := er1.on i _ hd0 (fun z => nomatch z)
      obtain ⟨G, hg, back⟩ := Hs.push (ds := [r]) (vs := [y]) h1 rfl
      refine ⟨v, hv, I1, G, e1, hg, er1, ?_⟩
      cases hmi : mi e1 with
      | bad => simp only [hmi] at o; exact o.elim
      | exc c ns xs e =>
        simp only [hmi] at o
        intro cls d I2 H2 le2 h2 er2 x
        exact o cls d σ I2 H2 (le1.trans le2) (back I2 _ _ H2 le2 h2).drop er2 x
      | ok ri e2 =>
        simp only [hmi] at o
        intro u I2 H2 le2 h2 er2
        cases ri with
        | int k =>
          simp only at o
          have hu := h2.scal (x := .int k) rfl
          subst hu
          split at o
          · rename_i xs hd
            cases hx : ixN xs.length k with
            | none => simp only [hx] at o; exact o.elim
            | some j =>
              simp only [hx] at o
              have h3 : Hs X.w I2 F ([r] ++ e2) ([y] ++ σv σ) H2 := back I2 _ _ H2 le2 h2.drop
              obtain ⟨v', e', h4⟩ := Hs.take h3 rfl hd
              have ev : v' = v := Option.some.inj (e'.symm.trans (σv_at hv))
              subst ev
              have hj : j < xs.length := (ixN_seq hx).2.1
              obtain ⟨a, us, rfl, hat, hl, h5⟩ := hs_setI (Hs.swap h4) hj
              have lt : i < e2.length := (List.getElem?_eq_some_iff.mp hd).1
              have h6 := Hs.put (es := []) (us := []) (i := i) h5 rfl (by rw [List.getElem?_set_self lt]) e'
              rw [set_set] at h6
              exact ⟨a, us, k, j, rfl, rfl, hat, by rw [← hl]; exact hx, o σ I2 _ (le1.trans le2) h6 (er2.set hd fun _ z => nomatch z)⟩
          · exact o.elim
        | _ => exact o.elim
    · exact o.elim
theorem s_setI {x : Str} {i : Nat} {ei value : Expr} {pos pos' p : Pos} {m mi : M} (ha : PE Γ (.Name x p) (tVar i)) (hv : PE Γ value (tE X W m)) (hi : PE Γ ei (tE X W mi)) (hs : swapsWithSole [.Subscript (.Name x p) ei pos'] value pos.line Γ.env = pure false := by rfl) (hw : swappedStores [.Subscript (.Name x p) ei pos'] value Γ.env = pure none := by rfl)
    (h1 : (assignEach [.Subscript (.Name x p) ei pos'] Γ.env).map (·.2) = [assign (.Subscript (.Name x p) ei pos') Γ.env] := by rfl)
    (hag : ∀ v, assign (.Subscript (.Name x p) ei pos') Γ.env v = (do let ov ← holding [v] (eval (.Name x p) Γ.env); let iv ← holding [v, ov] (eval ei Γ.env); standAt pos'; holding [v, ov, iv] (setItem ov iv v); release [v, ov, iv] []) := by intro _; rfl) :
    PS Γ (.Assign [.Subscript (.Name x p) ei pos'] value pos) (tS X W (sSetI i m mi)) := PSi (ps_asg hv (pg_sub ha hi set_list hag) hs hw h1) fun E σ H q => setI_run q
end
end Z

set_option Elab.async false
set_option linter.all false
set_option maxRecDepth 100000
set_option maxHeartbeats 4000000
/-! ZM: methods that look, slices, sorted, comb, max, sums of tuples, three names at once. -/
namespace Z
open PySem PySem.Spec PyProof.Rows L2 StX
section
variable {w : Wd}
/-! ### slices -/
def cutD (xs : List D) (lo hi : Option Int) : List D := (xs.drop (HT.sIx xs.length 0 lo)).take (HT.sIx xs.length xs.length hi - HT.sIx xs.length 0 lo)
theorem Hs.cutOf {I F H : Hp} {ds : List D} {vs us : List V} {xs : List D} {fp : List Addr} (h : Hs w I F ds vs H) (r : RepL w I H xs us fp) (hc : isFrzL xs = true) (lo hi : Option Int) :
    (cutD xs lo hi).length = (cutV us lo hi).length ∧ Hs w I F (cutD xs lo hi ++ ds) (cutV us lo hi ++ vs) H := by
  have hl := r.length
  have r0 := r.nil_of_frz hc
  subst r0
  have r2 := r.sub hc (HT.sIx xs.length 0 lo) (HT.sIx xs.length xs.length hi - HT.sIx xs.length 0 lo)
  obtain ⟨fq, rq, nq, dq⟩ := h.ex
  have e2 : cutV us lo hi = (us.drop (HT.sIx xs.length 0 lo)).take (HT.sIx xs.length xs.length hi - HT.sIx xs.length 0 lo) := by
    unfold cutV
    rw [hl]
  rw [e2]
  exact ⟨r2.length, h.of_sub (RepL.append (f1 := []) r2 rq) rq nq dq nq fun b m => m⟩
end
section
variable {w : Wd} {I F H : Hp} {ds : List D} {vs us : List V}
theorem Hs.newF {p : Addr} {xs : List D} {t : Tag} {o : HO} (h : Hs w I F (xs ++ ds) (us ++ vs) H) (hl : xs.length = us.length) (np : H p = none) (hf : t.fits us.length) (hn : t.own = false) (hat : FroAt w (upd I p o) p t us) :
    Le I (upd I p o) ∧ Hs w (upd I p o) F (.node t xs :: ds) (.ref p :: vs) (upd H p o) := by
  obtain ⟨fp, r, nd, dj⟩ := h.ex
  obtain ⟨f1, f2, rfl, r1, r2⟩ := r.split hl
  have pI : I p = none := by
    cases e : I p with
    | none => rfl
    | some o => rw [(h.iF p o e).1] at np; cases np
  have pF : F p = none := by
    cases e : F p with
    | none => rfl
    | some o => rw [h.fH p o e] at np; cases np
  have pn : p ∉ f1 ++ f2 := fun m => by
    rcases List.mem_append.mp m with m | m
    · obtain ⟨o, e⟩ := RepL.there _ _ _ r1 p m
      rw [np] at e; cases e
    · obtain ⟨o, e⟩ := RepL.there _ _ _ r2 p m
      rw [np] at e; cases e
  have k : ∀ a ∈ f1 ++ f2, upd H p o a = H a := fun a m => upd_ne fun e => pn (e ▸ m)
  have le : Le I (upd I p o) := Le.new pI
  refine ⟨le, ⟨f1 ++ f2, RepL.cons (by
      unfold Rep
      exact ⟨p, us, f1, rfl, RepL.frame le xs us f1 (fun a m => k a (List.mem_append_left _ m)) r1, hf, .inr ⟨hn, hat, rfl⟩⟩) (RepL.frame le ds vs f2 (fun a m => k a (List.mem_append_right _ m)) r2), nd, fun a m => ⟨?_, (dj a m).2⟩⟩, fun a u e => ?_, fun a u e => ?_, h.fT, h.lkI.trans le, h.fkF⟩
  · rw [upd_ne (fun e => pn (by rw [← e]; exact m))]
    exact (dj a m).1
  · by_cases q : a = p
    · subst q
      rw [upd_same] at e ⊢
      exact ⟨e, pF⟩
    · rw [upd_ne q] at e ⊢
      exact h.iF a u e
  · rw [upd_ne (fun e2 => by rw [e2, pF] at e; cases e)]
    exact h.fH a u e
theorem Hs.newX {p : Addr} {od : Obj} {xs : List D} (h : Hs w I F (xs ++ ds) (us ++ vs) H) (hl : xs.length = us.length) (np : H p = none) (hd : od.dict = none) :
    Le I (upd I p (.frz od (.tup us))) ∧ Hs w (upd I p (.frz od (.tup us))) F (.node .tux xs :: ds) (.ref p :: vs) (upd H p (.frz od (.tup us))) :=
  Hs.newF h hl np trivial rfl ⟨od, upd_same, hd⟩
end
section
variable {Γ : Cx} {X : Fx} {W : WX}
def partO (X : Fx) (W : WX) : Option M → TO
  | none => tNoPart
  | some m => tPart (tE X W m)
/-- one end of a slice -/
def evP (o : Option M) (e : Env) : Res := match o with
  | none => .ok .non e
  | some m => m e
def ptI : Option M → D → Option (Option Int)
  | none, _ => some none
  | some _, .int i => some (some i)
  | some _, _ => none
theorem part_run {o : Option M} {σ : L2.St} {H : Hp} {Q : Option Int → Hp → Prop} {I F : Hp} {env : Env} (hs : Hs X.w I F env (σv σ) H) (er : EnvR X σ env)
    (out : match evP o env with
      | .ok d e1 => ∃ oi, ptI o d = some oi ∧ ∀ I' H', Le I I' → Hs X.w I' F e1 (σv σ) H' → EnvR X σ e1 → Q oi H'
      | .exc c ns xs e1 => ∀ cls d I' H', Le I I' → Hs X.w I' F e1 (σv σ) H' → EnvR X σ e1 → XRep X.w I' cls d c ns xs → W cls d σ H'
      | .bad => False) : partO X W o σ H Q := by
  cases o with
  | none =>
    obtain ⟨oi, h1, k⟩ := out
    have : oi = none := (Option.some.inj h1).symm
    subst this
    exact k I H (Le.refl _) hs er
  | some m =>
    refine ⟨I, F, env, hs, er, ?_⟩
    cases hm : m env with
    | bad =>
      have o2 := out
      simp only [evP, hm] at o2
    | exc c ns xs e =>
      have o2 := out
      simp only [evP, hm] at o2
      exact o2
    | ok d e1 =>
      have o2 := out
      simp only [evP, hm] at o2
      obtain ⟨oi, h1, k⟩ := o2
      intro v I1 H1 le1 hs1 er1
      cases d with
      | int i =>
        have e2 : oi = some i := (Option.some.inj h1).symm
        subst e2
        rw [hs1.scal rfl]
        exact ⟨i, rfl, k I1 H1 le1 hs1.drop er1⟩
      | _ => cases h1
/-- a slice of d: a new list of what it has, given up; of a tuple a tuple -/
def slD (d : D) (lo hi : Option Int) : Option D := match d with
  | .node (.lst _) xs => some (.node (.lst true) (cutD (frzL xs) lo hi))
  | .node .scr xs => some (.node (.lst true) (cutD (frzL xs) lo hi))
  | .node .tup xs => some (.node .tup (cutD (frzL xs) lo hi))
  | .node .tux xs => some (.node .tux (cutD (frzL xs) lo hi))
  | _ => none
/-- x[lo:hi] -/
def mSlice (m : M) (lo hi : Option M) : M := fun env => match m env with
  | .ok d e0 => (match evP lo e0 with
    | .ok l e1 => (match ptI lo l with
      | none => .bad
      | some ol => (match evP hi e1 with
        | .ok h e2 => (match ptI hi h with
          | none => .bad
          | some oh => (match slD d ol oh with
            | some r => .ok r e2
            | none => .bad))
        | .exc c ns xs e2 => .exc c ns xs e2
        | .bad => .bad))
    | .exc c ns xs e1 => .exc c ns xs e1
    | .bad => .bad)
  | .exc c ns xs e0 => .exc c ns xs e0
  | .bad => .bad
theorem cutD_all {xs : List D} {lo hi : Option Int} (h : HT.sIx xs.length 0 lo = 0 ∧ HT.sIx xs.length xs.length hi = xs.length) : cutD xs lo hi = xs := by
  unfold cutD
  rw [h.1, h.2]
  simp
/-- of an exact tuple an exact one -/
def rSlE (K : PySem.W.Frag) : V → Option Int → Option Int → Hp → VK → Prop := fun x lo hi H Q => ∃ a xs, x = .ref a ∧ SqT K H a xs ∧
  (HT.sIx xs.length 0 lo = 0 ∧ HT.sIx xs.length xs.length hi = xs.length → Q (.ref a) H) ∧ (¬ (HT.sIx xs.length 0 lo = 0 ∧ HT.sIx xs.length xs.length hi = xs.length) → ∀ (p : Addr) (od : Obj), od.dict = none → H p = none → Q (.ref p) (upd H p (.frz od (.tup (cutV xs lo hi)))))
theorem sl_tupE : SlR Γ (rSlE Γ.K) := by
  intro pins s σ H x v vl vu lo hi sl Q I rx hs pl pu h
  obtain ⟨a, xs, rfl, hx, q1, q2⟩ := h
  cases rx
  obtain ⟨its, r, ht, hz⟩ := I.tuple hx
  have hlen : its.toArray.size = xs.length := by rw [List.size_toArray]; exact r.length.symm
  refine ⟨"tuple", _, PyProof.Rows.slot_tuple_getitem.lookup, ht.typeIs, ?_⟩
  by_cases hw : HT.sIx xs.length 0 lo = 0 ∧ HT.sIx xs.length xs.length hi = xs.length
  · exact L2.getItem_tuple_whole ht hs pl pu (by rw [hlen]; exact hw) ⟨.ref a, H, I, rfl, q1 hw⟩
  · refine HT.getItem_tuple_cut ht hs pl pu (by rw [hlen]; exact hw) ?_ (by rw [hlen]; exact hz)
    rw [hlen]
    have e : ∀ ys : List Value, (s.heap.push { cls := .type "tuple", data := .seq ys.toArray }).get? s.heap.objs.size = some { cls := .type "tuple", data := .seq ys.toArray } := fun ys => Heap.get?_push_size _ rfl
    refine ⟨.ref s.heap.objs.size, _, I.laid (t' := s.toks) (o := .frz { cls := .type "tuple", data := .seq ((its.drop (HT.sIx xs.length 0 lo)).take (HT.sIx xs.length xs.length hi - HT.sIx xs.length 0 lo)).toArray } (.tup (cutV xs lo hi))) (fun b ob q => Heap.get?_push_of_some _ q) (Nat.le_refl _) ?_, rfl, q2 hw _ _ rfl (I.hok.fresh (Nat.le_refl _))⟩
    exact ⟨e _, Nat.le_trans (cutV_length xs lo hi) hz, _, (r.drop (HT.sIx xs.length 0 lo)).take (HT.sIx xs.length xs.length hi - HT.sIx xs.length 0 lo), IsTup.new _ _⟩
def rSlB (K : PySem.W.Frag) : V → Option Int → Option Int → Hp → VK → Prop := fun x lo hi H Q => (rSlL K x lo hi H Q ∨ rSlA K x lo hi H Q) ∨ rSlE K x lo hi H Q
theorem sl_run {w : Wd} {I F H : Hp} {ds : List D} {vs : List V} {d r : D} {v : V} {lo hi : Option Int} {Q : VK} (hs : Hs w I F (d :: ds) (v :: vs) H) (e : slD d lo hi = some r)
    (k : ∀ z I' H', Le I I' → Hs w I' F (r :: ds) (z :: vs) H' → Q z H') : rSlB w.K v lo hi H Q := by
  obtain ⟨J, le, h1⟩ := hs.freeze
  unfold slD at e
  split at e
  · rename_i o xs
    cases e
    obtain ⟨a, us, rfl, hq, hl, fp, r⟩ := h1.seqL (t := .lst false) (xs := frzL xs) (.inr ⟨false, rfl⟩)
    obtain ⟨hl2, h2⟩ := Hs.cutOf h1.drop r (isFrzL_frz xs) lo hi
    exact .inl <| .inl ⟨a, us, rfl, hq, fun p np => k (.ref p) J _ le (Hs.newO (t := .lst true) h2 hl2 np rfl trivial (show upd H p (.lst (cutV us lo hi)) p = some (.lst (cutV us lo hi)) from upd_same))⟩
  · rename_i xs
    cases e
    obtain ⟨a, us, rfl, hq, hl, fp, r⟩ := h1.seqL (t := .scr) (xs := frzL xs) (.inl rfl)
    obtain ⟨hl2, h2⟩ := Hs.cutOf h1.drop r (isFrzL_frz xs) lo hi
    exact .inl <| .inl ⟨a, us, rfl, hq, fun p np => k (.ref p) J _ le (Hs.newO (t := .lst true) h2 hl2 np rfl trivial (show upd H p (.lst (cutV us lo hi)) p = some (.lst (cutV us lo hi)) from upd_same))⟩
  · rename_i xs
    cases e
    obtain ⟨a, us, rfl, _, _, hq3, hl, ⟨fp, r⟩, _⟩ := h1.seq (d := (D.node .tup xs).frz) (xs := frzL xs) rfl
    refine .inl <| .inr ⟨a, us, rfl, le_t h1.iH (hq3 (.inl rfl)), fun hw => ?_, fun hw p np => ?_⟩
    · rw [← hl] at hw
      refine k (.ref a) J H le ?_
      rw [cutD_all hw]
      exact h1
    · obtain ⟨hl2, h2⟩ := Hs.cutOf h1.drop r (isFrzL_frz xs) lo hi
      obtain ⟨le2, h3⟩ := Hs.newT h2 hl2 np
      exact k (.ref p) _ _ (le.trans le2) h3
  · rename_i xs
    cases e
    obtain ⟨a, us, rfl, _, _, hq3, hl, ⟨fp, r⟩, _⟩ := h1.seq (d := (D.node .tux xs).frz) (xs := frzL xs) rfl
    refine .inr ⟨a, us, rfl, le_t h1.iH (hq3 (.inr rfl)), fun hw => ?_, fun hw p od hod np => ?_⟩
    · rw [← hl] at hw
      refine k (.ref a) J H le ?_
      rw [cutD_all hw]
      exact h1
    · obtain ⟨hl2, h2⟩ := Hs.cutOf h1.drop r (isFrzL_frz xs) lo hi
      obtain ⟨le2, h3⟩ := Hs.newX h2 hl2 np hod
      exact k (.ref p) _ _ (le.trans le2) h3
  · cases e
theorem z_slice {e : Expr} {lo hi : Option Expr} {pos p2 : Pos} {m : M} {ml mh : Option M} (hK : Γ.K = X.w.K) (he : PE Γ e (tE X W m)) (hl : PO Γ lo (partO X W ml)) (hh : PO Γ hi (partO X W mh)) :
    PE Γ (.Subscript e (.Slice lo hi none p2) pos) (tE X W (mSlice m ml mh)) :=
  PEi (pe_slice (SlR.or (SlR.or sl_list sl_tupA) sl_tupE) he hl hh) fun σ H Q h => by
    obtain ⟨I, F, env, hs, er, o⟩ := h
    refine ⟨I, F, env, hs, er, ?_⟩
    unfold mSlice at o
    cases hm : m env with
    | bad => simp only [hm] at o; exact o.elim
    | exc c ns xs e0 => simp only [hm] at o; exact o
    | ok d e0 =>
      simp only [hm] at o
      intro v I1 H1 le1 hs1 er1
      obtain ⟨G, hg, back⟩ := Hs.push (ds := [d]) (vs := [v]) hs1 rfl
      refine part_run hg er1 ?_
      cases hlo : evP ml e0 with
      | bad => simp only [hlo] at o; exact o.elim
      | exc c ns xs e1 =>
        simp only [hlo] at o
        intro cls dd I2 H2 le2 hs2 er2 x2
        exact o cls dd I2 H2 (le1.trans le2) (back I2 _ _ H2 le2 hs2).drop er2 x2
      | ok l e1 =>
        simp only [hlo] at o
        cases pl : ptI ml l with
        | none => simp only [pl] at o; exact o.elim
        | some ol =>
          simp only [pl] at o
          refine ⟨ol, pl, fun I2 H2 le2 hs2 er2 => ?_⟩
          refine part_run hs2 er2 ?_
          cases hhi : evP mh e1 with
          | bad => simp only [hhi] at o; exact o.elim
          | exc c ns xs e2 =>
            simp only [hhi] at o
            intro cls dd I3 H3 le3 hs3 er3 x3
            exact o cls dd I3 H3 (le1.trans (le2.trans le3)) (back I3 _ _ H3 (le2.trans le3) hs3).drop er3 x3
          | ok h e2 =>
            simp only [hhi] at o
            cases ph : ptI mh h with
            | none => simp only [ph] at o; exact o.elim
            | some oh =>
              simp only [ph] at o
              cases hr : slD d ol oh with
              | none => simp only [hr] at o; exact o.elim
              | some r =>
                simp only [hr] at o
                refine ⟨oh, ph, fun I3 H3 le3 hs3 er3 => ?_⟩
                show rSlB Γ.K v ol oh H3 Q
                rw [hK]
                exact sl_run (back I3 _ _ H3 (le2.trans le3) hs3) hr fun z I4 H4 le4 hs4 => o z I4 H4 (le1.trans (le2.trans (le3.trans le4))) hs4 er3
theorem po_none : PO Γ none (partO X W none) := L2.po_none
theorem po_some {e : Expr} {m : M} (h : PE Γ e (tE X W m)) : PO Γ (some e) (partO X W (some m)) := L2.po_some h
end
end Z

set_option Elab.async false
set_option linter.all false
set_option maxRecDepth 100000
set_option maxHeartbeats 4000000
/-! ZN: sorted, comb, max of a tuple, sums of tuples, methods that look, three names at once. -/
namespace Z
open PySem PySem.Spec PyProof.Rows L2 StX
/-! ### sorted, of ints -/
def insI (x : Int) : List Int → List Int
  | [] => [x]
  | y :: ys => if x ≤ y then x :: y :: ys else y :: insI x ys
def srtI : List Int → List Int
  | [] => []
  | x :: xs => insI x (srtI xs)
theorem insI_perm (x : Int) : ∀ xs, (insI x xs).Perm (x :: xs)
  | [] => .refl _
  | y :: ys => by
    unfold insI
    split
    · exact .refl _
    · exact ((insI_perm x ys).cons y).trans (.swap x y ys)
theorem srtI_perm : ∀ xs, (srtI xs).Perm xs
  | [] => .refl _
  | x :: xs => (insI_perm x (srtI xs)).trans ((srtI_perm xs).cons x)
theorem insI_srt {x : Int} : ∀ {xs : List Int}, xs.Pairwise (· ≤ ·) → (insI x xs).Pairwise (· ≤ ·)
  | [], _ => by simp [insI]
  | y :: ys, h => by
    unfold insI
    split
    · rename_i hxy
      refine List.pairwise_cons.mpr ⟨fun z hz => ?_, h⟩
      rcases List.mem_cons.mp hz with q | q
      · omega
      · have := (List.pairwise_cons.mp h).1 z q
        omega
    · rename_i hxy
      refine List.pairwise_cons.mpr ⟨fun z hz => ?_, insI_srt (List.pairwise_cons.mp h).2⟩
      rcases List.mem_cons.mp ((insI_perm x ys).mem_iff.mp hz) with q | q
      · omega
      · exact (List.pairwise_cons.mp h).1 z q
theorem srtI_srt : ∀ xs, (srtI xs).Pairwise (· ≤ ·)
  | [] => .nil
  | x :: xs => insI_srt (srtI_srt xs)
theorem srtI_one {xs ys : List Int} (p : ys.Perm xs) (h : ys.Pairwise (· ≤ ·)) : ys = srtI xs :=
  List.Perm.eq_of_pairwise (le := (· ≤ ·)) (fun a b _ _ h1 h2 => Int.le_antisymm h1 h2) h (srtI_srt xs) (p.trans (srtI_perm xs).symm)
section
variable {w : Wd}
theorem Hs.ofInts {I F H : Hp} {ds : List D} {vs : List V} (h : Hs w I F ds vs H) : ∀ ns : List Int, Hs w I F (ns.map D.int ++ ds) (ns.map V.int ++ vs) H
  | [] => h
  | n :: ns => (Hs.ofInts h ns).addC (d := .int n) (v := .int n) rfl
def oSorted : Op
  | [d] => (match lstInts d with
    | some ns => .ok (.node (.lst true) ((srtI ns).map .int)) [d]
    | none => .bad)
  | _ => .bad
theorem od_sorted : OpD w (rN (rSortedI w.K)) oSorted := fun I F es us H Q E hs o => by
  unfold oSorted at o
  split at o
  · rename_i d
    match us, hs.length, hs, o with
    | [v], _, hs, o =>
      cases e : lstInts d with
      | none => simp only [e] at o; exact o.elim
      | some ns =>
        simp only [e] at o
        obtain ⟨a, rfl, hq⟩ := lstInts_rep hs e
        refine ⟨a, ns, rfl, hq, fun ns' p hp hw np => ?_⟩
        have e2 := srtI_one hp hw
        subst e2
        exact o (.ref p) I _ (Le.refl I) (Hs.newO (t := .lst true) (Hs.ofInts hs (srtI ns)) (by simp) np rfl trivial (show upd H p (.lst ((srtI ns).map V.int)) p = some (.lst ((srtI ns).map V.int)) from upd_same))
  · exact o.elim
/-! ### comb -/
def rComb : List V → Hp → VK → Prop := fun vs H Q => ∃ a b : Int, vs = [.int a, .int b] ∧ 0 ≤ a ∧ 0 ≤ b ∧ a < 2 ^ 64 ∧ (b ≤ 9000 ∨ a ≤ 18000) ∧ Q (.int (PySem.W.mcComb a b)) H
theorem cr_comb {Γ : Cx} : CallR Γ (.builtin "math.comb") rComb := by
  intro pins s σ H vs us Q I r h
  obtain ⟨a, b, rfl, h1, h2, h3, h4, q⟩ := h
  obtain ⟨t, u, rfl⟩ := Vals.int2 r
  exact PySem.W.mc_comb h1 h2 h3 h4 fun _ => ⟨.int _, H, I.tok _, ⟨_, rfl⟩, q⟩
abbrev oComb : Op := op2 fun d e => match d, e with
  | .int a, .int b => if 0 ≤ a ∧ 0 ≤ b ∧ a < 1000 then some (.int (PySem.W.mcComb a b)) else none
  | _, _ => none
theorem od_comb : OpD w (rN rComb) oComb := od2 fun I F H d e v u z hs h => by
  split at h
  · rename_i a b
    obtain ⟨⟨h1, h2, h3⟩, e⟩ := ifs h
    subst e
    rw [hs.scal rfl, hs.scal2 rfl]
    exact ⟨_, rfl, fun Q E q => ⟨a, b, rfl, h1, h2, by omega, .inr (by omega), q⟩⟩
  · cases h
/-! ### t + u -/
def oCatT : Op
  | [.node .tup xs, .node .tup ys] => if xs.length + ys.length ≤ 100000 then (.ok (.node .tup (frzL xs ++ frzL ys)) [.any, .any]) else .bad
  | _ => .bad
theorem od_catT : OpD w (r2 (rCatA w.K)) oCatT := fun I F es us H Q E hs o => by
  unfold oCatT at o
  split at o
  · rename_i xs ys
    obtain ⟨hz, o⟩ := ite_out o
    match us, hs.length, hs, o with
    | [v, u], _, hs, o =>
      obtain ⟨J, le, h1⟩ := hs.freeze
      obtain ⟨J2, le2, h2⟩ := h1.swap.freeze
      obtain ⟨b, us2, rfl, _, _, q2, l2, h3⟩ := h2.items (xs := frzL ys) rfl (isFrzL_frz ys)
      have h4 : Hs w J2 F ((frzL ys ++ [(D.node .tup ys).frz]) ++ (D.node .tup xs).frz :: []) ((us2 ++ [.ref b]) ++ v :: []) H := by simpa using h3
      have h5 := h4.front (by simp [l2])
      obtain ⟨a, us1, rfl, _, _, q1, l1, h6⟩ := h5.items (xs := frzL xs) rfl (isFrzL_frz xs)
      have h7 : Hs w J2 F ((frzL xs ++ [(D.node .tup xs).frz]) ++ (frzL ys ++ [(D.node .tup ys).frz])) ((us1 ++ [.ref a]) ++ (us2 ++ [.ref b])) H := by simpa using h6
      have h8 : Hs w J2 F ((frzL xs) ++ ((D.node .tup xs).frz :: (frzL ys ++ [(D.node .tup ys).frz]))) (us1 ++ (.ref a :: (us2 ++ [.ref b]))) H := by simpa using h7
      have h9 := (h8.front (by rw [l1])).drop
      have h10 : Hs w J2 F ((frzL xs ++ frzL ys) ++ [(D.node .tup ys).frz]) ((us1 ++ us2) ++ [.ref b]) H := by simpa using h9
      have h11 := (h10.comm (by simp [l1, l2])).drop
      have h12 : Hs w J2 F ((frzL xs ++ frzL ys) ++ []) ((us1 ++ us2) ++ []) H := by simpa using h11
      have out : ∀ (J3 : Hp) (H3 : Hp) (p : Addr), Le J2 J3 → Hs w J3 F [.node .tup (frzL xs ++ frzL ys)] [.ref p] H3 → Q (.ref p) H3 := fun J3 H3 p le3 h =>
        o (.ref p) J3 H3 (le.trans (le2.trans le3)) ((h.anys [.ref a, .ref b]).comm (by simp))
      -- the two themselves
      have ha : Hs w J2 F [(D.node .tup xs).frz] [.ref a] H := by
        have z := (h6.comm (ds := frzL xs) (vs := us1) (by rw [l1]))
        have z2 : Hs w J2 F ((D.node .tup xs).frz :: (frzL ys ++ [(D.node .tup ys).frz] ++ frzL xs)) (.ref a :: (us2 ++ [.ref b] ++ us1)) H := by simpa using z
        have z3 : Hs w J2 F ([(D.node .tup xs).frz] ++ (frzL ys ++ [(D.node .tup ys).frz] ++ frzL xs)) ([.ref a] ++ (us2 ++ [.ref b] ++ us1)) H := z2
        have z4 := z3.comm rfl
        have hl : (frzL ys ++ [(D.node .tup ys).frz] ++ frzL xs).length = (us2 ++ [V.ref b] ++ us1).length := by simp [l1, l2]
        obtain ⟨fp, r, nd, dj⟩ := z4.ex
        obtain ⟨f1, f2, rfl, r1, r2⟩ := r.split hl
        exact z4.of_sub r2 r nd dj (List.nodup_append.mp nd).2.1 fun b m => List.mem_append_right _ m
      have hb : Hs w J2 F [(D.node .tup ys).frz] [.ref b] H := by
        have hl : (frzL xs ++ frzL ys).length = (us1 ++ us2).length := by simp [l1, l2]
        obtain ⟨fp, r, nd, dj⟩ := h10.ex
        obtain ⟨f1, f2, rfl, r1, r2⟩ := r.split hl
        exact h10.of_sub r2 r nd dj (List.nodup_append.mp nd).2.1 fun b m => List.mem_append_right _ m
      refine ⟨a, b, us1, us2, rfl, rfl, q1 (.inl rfl), q2 (.inl rfl), szO (by rw [l1, l2, frzL_len, frzL_len]; exact hz), fun e => ?_, fun _ e => ?_, fun _ _ p np => ?_⟩
      · have : frzL xs = [] := by
          apply List.length_eq_zero_iff.mp
          rw [← l1, e]
          rfl
        refine out J2 H b (Le.refl _) ?_
        rw [this]
        exact hb
      · have : frzL ys = [] := by
          apply List.length_eq_zero_iff.mp
          rw [← l2, e]
          rfl
        refine out J2 H a (Le.refl _) ?_
        rw [this, List.append_nil]
        exact ha
      · obtain ⟨le3, h13⟩ := Hs.newT h12 (by simp [l1, l2]) np
        exact out _ _ p le3 h13
  · exact o.elim
end
end Z

set_option Elab.async false
set_option linter.all false
set_option maxRecDepth 100000
set_option maxHeartbeats 4000000
/-! ZO: enumerate of a list, of a tuple. -/
namespace Z
open PySem PySem.Spec PyProof.Rows L2 StX
/-! ### enumerate(t), of a tuple -/
section
theorem meets_enum1 {v : Value} {o : Obj} {P : Heap → Prop} (B : Begins v o P) :
    Meets (Builtin.«enumerate.__new__» ⟨[.type "enumerate", v], []⟩) (fun _ R s => P s.heap ∧
      R (.ok (.ret (.ref (s.heap.push o).objs.size))) { s with heap := (s.heap.push o).push { cls := .type "enumerate", data := .fields #[.none, .bool false, .ref s.heap.objs.size, rawInt 0, .none, .none] } }) :=
  .of_wp fun prog w A R s h => by
    obtain ⟨hp, g, d, tk, os⟩ := s
    obtain ⟨h1, h⟩ := h
    have sub0 := sub_enumerate
    have begin1 : ∀ {A' : Around} {E : Value → Shared → Prop} {Q : Value → Shared → Prop}, Q (.ref hp.objs.size) ⟨hp.push o, g, d, tk, os⟩ → wpAny (model prog w) A' (pyIter v) Q E ⟨hp, g, d, tk, os⟩ :=
      fun q => B.iter prog w _ _ ⟨hp, g, d, tk, os⟩ _ h1 q
    wp_walk using begin1
    refine wpAny_stack_any fun now => wpAny_pure ?_
    split
    · rename_i c _ _ _ _ _
      cases (c == Value.type "enumerate")
      · wp_walk using begin1
        exact ⟨_, rfl, h⟩
      · wp_walk using begin1
        exact ⟨_, rfl, h⟩
    · wp_walk using begin1
      exact ⟨_, rfl, h⟩
variable {prog : Program} {w : World} {A : Around} {E : Value → Shared → Prop} {s : Shared}
theorem call_enum_tup {t : Addr} {vals : Array Value} {Q : Value → Shared → Prop} (h1 : s.heap.IsTuple t vals)
    (h : ∀ h', IsEnum h' (s.heap.objs.size + 1) s.heap.objs.size 0 .none → h'.IsTupleIter s.heap.objs.size t 0 → h'.objs.size = s.heap.objs.size + 2 →
      (∀ b o, s.heap.get? b = some o → h'.get? b = some o) → Q (.ref (s.heap.objs.size + 1)) { s with heap := h' }) :
    wpAny (model prog w) A (call (.type "enumerate") [.ref t]) Q E s := by
  refine callType_new F.called_enumerate (by decide) (F.typeCall_enumerate_1 _) (F.newCall_enumerate_1 _) (fun obj => F.args_object_init_2 obj _) F.entry_enumerate_new
    (meets_enum1 (begins_tuple t vals)) ⟨h1, ?_⟩
  have hz : ∀ o : Obj, (s.heap.push o).objs.size = s.heap.objs.size + 1 := fun o => Heap.size_push ..
  show _ ∧ _
  rw [hz]
  have isE : IsEnum ((s.heap.push { cls := .type "tuple_iterator", data := .fields #[.ref t, .int 0 0] }).push
      { cls := .type "enumerate", data := .fields #[.none, .bool false, .ref s.heap.objs.size, rawInt 0, .none, .none] }) (s.heap.objs.size + 1) s.heap.objs.size 0 .none := by
    have := Heap.get?_push_size (s.heap.push { cls := .type "tuple_iterator", data := .fields #[.ref t, .int 0 0] })
      (o := { cls := .type "enumerate", data := .fields #[.none, .bool false, .ref s.heap.objs.size, rawInt 0, .none, .none] }) rfl
    rw [hz] at this
    exact this
  refine ⟨⟨_, isE, rfl⟩, h _ isE ⟨_, Heap.get?_push_of_some _ (Heap.get?_push_size _ rfl), rfl, rfl⟩ (by rw [Heap.size_push, hz]) fun b o x => Heap.get?_push_of_some _ (Heap.get?_push_of_some _ x)⟩
end
/-- the tuple at a, each item in a new pair -/
def IteT (K : PySem.W.Frag) (a : Addr) : It :=
  ⟨fun i H => ∃ (xs : List V) (x : V), SqT K H a xs ∧ xs[i]? = some x, fun i H v H' => ∃ T x, v = .ref T ∧ H T = none ∧ H' = upd H T (.tup [.int (i : Nat), x]) ∧ ∀ xs, SqT K H a xs → xs[i]? = some x, fun i H => ∃ xs : List V, SqT K H a xs ∧ xs.length = i⟩
theorem iter_ne {h : Heap} {it a : Addr} {i : Nat} {vals : Array Value} (h1 : h.IsTupleIter it a i) (h2 : h.IsTuple a vals) : a ≠ it := fun e => by
  obtain ⟨o, ho, hc, _⟩ := h1
  obtain ⟨o2, ho2, hc2, _⟩ := h2
  rw [e, ho] at ho2
  cases ho2
  rw [hc] at hc2
  exact absurd hc2 (by decide)
theorem enum_ne {h : Heap} {e it a : Addr} {c : Int} {last : Value} {vals : Array Value} (h1 : IsEnum h e it c last) (h2 : h.IsTuple a vals) : a ≠ e := fun q => by
  obtain ⟨o2, ho2, hc2, _⟩ := h2
  have ho : h.get? e = some _ := h1
  rw [q, ho] at ho2
  cases ho2
  exact absurd (show Value.type "enumerate" = Value.type "tuple" from hc2) (by decide)
theorem turn_enumT {P : Program} {w : World} {K : PySem.W.Frag} {elts : List Expr} {kk : Nat} {tpos : Pos} (a e it : Addr) :
    Turn P w K (.Tuple elts kk tpos) (IteT K a) [e, it] e (fun i h => (∃ last, IsEnum h e it ((i : Nat) : Int) last) ∧ h.IsTupleIter it a i ∧ e ≠ it) where
  mem := by simp
  obj := fun i h now b inFp => by
    obtain ⟨⟨last, isE⟩, ⟨o, ho, hc, hd⟩, _⟩ := now
    have e' : b = e ∨ b = it := by simpa using inFp
    rcases e' with z | z
    · rw [z]; exact ⟨_, isE, fun v q => nomatch q⟩
    · rw [z]; exact ⟨o, ho, fun v q => by rw [hd] at q; cases q⟩
  keep := fun i h h' now k => let ⟨⟨last, isE⟩, hi, apart⟩ := now; ⟨⟨last, k e (by simp) _ isE⟩, hi.at fun o q => k it (by simp) o q, apart⟩
  item := by
    intro X hP hw hK hc i pn s σ H E I mine now todo
    subst hP hw hK
    obtain ⟨⟨last, isE⟩, atI, apart⟩ := now
    obtain ⟨xs, x, seqA, hx⟩ := todo
    obtain ⟨vals, rep, p, hz⟩ := I.tuple seqA
    obtain ⟨u, hu, ru⟩ := rep.get hx
    have ltE : e < s.heap.objs.size := Heap.lt_size isE
    have ltI : it < s.heap.objs.size := by obtain ⟨_, q, _⟩ := atI; exact Heap.lt_size q
    have na := iter_ne atI p
    have ne := enum_ne isE p
    have hlt : i < vals.toArray.size := by
      have := (List.getElem?_eq_some_iff.mp hu).1
      simpa using this
    refine wpAny_pyNext_enum_itemC (Draws.tuple (A := X.A.in1) (I.ok.hd hc) it a na vals.toArray) isE ⟨atI, p⟩ hlt apart (by simp [apart, Ne.symm ne]) fun x' h' tk hPx ho hs' hT hsz hk => ?_
    have eqL : x' = u := by
      have q : vals[i]? = some x' := by simpa using hPx
      rw [hu] at q
      exact (Option.some.inj q).symm
    subst eqL
    refine ⟨_, rfl, wpAny_letOwnedTupleGo_enum (s := { s with heap := h', toks := tk + 1 }) ho fun h'' he' sb => ?_⟩
    have hT2 : h''.get? s.heap.objs.size = some { cls := .type "tuple", data := .seq #[.int i tk, x'] } := (sb.2 _ (Nat.ne_of_gt ltE)).trans hT
    have new : ObjOk X.prog X.w (upd H s.heap.objs.size (.tup [.int (i : Nat), x])) h'' s.heap.objs.size (.tup [.int (i : Nat), x]) :=
      ⟨by show 2 ≤ sizeLine; decide, [.int i tk, x'], .cons ⟨_, rfl⟩ (.cons ru .nil), ⟨_, hT2, rfl, _, rfl⟩⟩
    have I1 : Inv X pn σ (upd H s.heap.objs.size (.tup [.int (i : Nat), x])) { s with heap := h'', toks := tk + 1 } :=
      I.turnedNew (ch := [e, it]) (fun b ob inFp q => (sb.2 b (fun z => inFp (by simp [z]))).trans (hk b ob (fun z => inFp (by simp [z])) (fun z => inFp (by simp [z])) q)) mine (Nat.le_refl _) new
    refine ⟨.ref s.heap.objs.size, _, I1, rfl, ⟨_, x, rfl, I.hok.fresh (Nat.le_refl _), rfl, fun ys hy => by rw [I.tuple_inj hy seqA]; exact hx⟩, ⟨⟨x', ?_⟩, hs'.1.at fun o q => (sb.2 it (Ne.symm apart)).trans q, apart⟩, fun b inFp => ?_⟩
    · have e1 : ((i + 1 : Nat) : Int) = (i : Int) + 1 := by omega
      rw [e1]; exact he'
    · have hb' : b < s.heap.objs.size := by
        have e' : b = e ∨ b = it := by simpa using inFp
        rcases e' with z | z
        · rw [z]; exact ltE
        · rw [z]; exact ltI
      rw [upd_ne (Nat.ne_of_lt hb')]
      exact (mine b inFp).1
  done := by
    intro X hP hw hK hc i pn s σ H E I mine now todo
    subst hP hw hK
    obtain ⟨⟨last, isE⟩, atI, apart⟩ := now
    obtain ⟨xs, seqA, hx⟩ := todo
    obtain ⟨vals, rep, p, hz⟩ := I.tuple seqA
    obtain ⟨f0, f1, f2, f3, f4, f5⟩ := mine it (by simp)
    have hl : i = vals.toArray.size := by rw [← hx, rep.length]; simp
    subst hl
    exact wpAny_pyNext_enum_endD (Draws.tuple (A := X.A.in1) (I.ok.hd hc) it a (iter_ne atI p) vals.toArray) isE ⟨atI, p⟩ fun h' eb => ⟨rfl, I.turned (t' := s.toks) (fun b o inFp q => eb b o inFp q) f0 f1 f3 f4 f5⟩
  self := fun A i s Q E now h => let ⟨⟨_, isE⟩, _⟩ := now; wpAny_pyIter_enum isE h
def iEnumT (K : PySem.W.Frag) (ta : TA) : TI := fun σ H R => ta σ H fun vs H1 => ∃ a xs, vs = [.ref a] ∧ SqT K H1 a xs ∧ R (IteT K a) H1
theorem pi_enumT {Γ : Cx} {e : Expr} {ta : TA} {p pos tpos : Pos} {elts : List Expr} {kk : Nat} (todo : Gl Γ "enumerate") (hm : Γ.mg "enumerate" = none) (ha : PA Γ [e] ta) (hs : starEach [e] Γ.env = [(false, eval e Γ.env)] := by rfl) :
    PI Γ (.Tuple elts kk tpos) (.Call (.Name "enumerate" p) [e] [] pos) (iEnumT Γ.K ta) := by
  refine ⟨fun pn s σ H R I h => ?_⟩
  refine Call_ (ld_blt I todo hm boot_enumerate (PyProof.Rows.callWith_type1 (thn (ha.run pos pn s σ H _ I h) fun us s1 ⟨vs, H1, I1, r1, begin1⟩ => ?_) hs rfl))
  obtain ⟨a, xs, eqL, seqA, q⟩ := begin1
  subst eqL
  cases r1 with
  | cons r rr =>
    cases rr
    cases r
    obtain ⟨vals, rep, p', hz⟩ := I1.tuple seqA
    refine call_enum_tup p' fun h' isE atI hsz hk => wpAny_pyIter_enum isE ?_
    have I2 : Inv Γ pn σ H1 { s1 with heap := h' } := I1.kept (t' := s1.toks) hk
    refine ⟨s1.heap.objs.size + 1, [s1.heap.objs.size + 1, s1.heap.objs.size], _, _, H1, rfl, I2, turn_enumT a (s1.heap.objs.size + 1) s1.heap.objs.size, ⟨⟨.none, isE⟩, atI, Nat.succ_ne_self _⟩, fun b inFp => ?_, q⟩
    have e' : b = s1.heap.objs.size + 1 ∨ b = s1.heap.objs.size := by simpa using inFp
    have above : s1.heap.objs.size ≤ b := by
      rcases e' with z | z
      · rw [z]; exact Nat.le_add_right _ _
      · rw [z]; exact Nat.le_refl _
    exact I1.fpOk above (I1.hok.fresh above)
/-! ### on trees -/
def numD : Nat → List D → List D
  | _, [] => []
  | i, d :: ds => .node .tup [.int (i : Nat), d] :: numD (i + 1) ds
theorem numD_len : ∀ (xs : List D) (i : Nat), (numD i xs).length = xs.length
  | [], _ => rfl
  | x :: xs, i => by unfold numD; rw [List.length_cons, List.length_cons, numD_len xs]
theorem numD_at : ∀ (xs : List D) (k i : Nat) (z : D), (numD k xs)[i]? = some z → ∃ d, xs[i]? = some d ∧ z = .node .tup [.int ((k + i : Nat) : Int), d]
  | [], k, i, z, h => by cases h
  | x :: xs, k, 0, z, h => by
    unfold numD at h
    cases h
    exact ⟨x, rfl, rfl⟩
  | x :: xs, k, i + 1, z, h => by
    unfold numD at h
    obtain ⟨d, h1, h2⟩ := numD_at xs (k + 1) i z h
    refine ⟨d, h1, ?_⟩
    rw [h2, show k + 1 + i = k + (i + 1) by omega]
theorem RepL.frAt {w : Wd} {I : Hp} {xs : List D} {us : List V} {j : Nat} {d : D} (r : RepL w I I xs us []) (hd : xs[j]? = some d) : ∃ v, us[j]? = some v ∧ Rep w I I d v [] := by
  obtain ⟨v, f1, f2, ev, r1, r2, p⟩ := r.take hd
  have f0 : f1 = [] := by
    have := p.length_eq
    simp at this
    exact List.length_eq_zero_iff.mp (by omega)
  subst f0
  exact ⟨v, ev, r1⟩
theorem walks_enum {w : Wd} {I : Hp} {us : List V} {xs : List D} {J : It} (r : RepL w I I xs us [])
    (hgo : ∀ i I0 H, Le I I0 → Le I0 H → i < us.length → J.go i H) (hst : ∀ I0 H, Le I I0 → Le I0 H → J.stop us.length H)
    (hy : ∀ i I0 H x H', Le I I0 → Le I0 H → J.yld i H x H' → ∃ T y, x = .ref T ∧ H T = none ∧ H' = upd H T (.tup [.int (i : Nat), y]) ∧ us[i]? = some y) : Walks w J I (numD 0 xs) where
  go := fun i I0 F ds vs H hs le hi => hgo i I0 H le hs.iH (by rw [numD_len, r.length] at hi; exact hi)
  stop := fun I0 F ds vs H hs le => by rw [numD_len, r.length]; exact hst I0 H le hs.iH
  yld := fun i d I0 F ds vs H x H' hs le hd y => by
    obtain ⟨T, z, rfl, hn, rfl, hu⟩ := hy i I0 H x H' le hs.iH y
    obtain ⟨d0, h1, rfl⟩ := numD_at xs 0 i d hd
    obtain ⟨v, ev, r1⟩ := r.frAt h1
    have e2 : v = z := Option.some.inj (ev.symm.trans hu)
    subst e2
    obtain ⟨fp, rr, nd, dj⟩ := hs.ex
    have r1' := Rep.frame (H' := H) le d0 v [] (fun a m => nomatch m) r1
    have h2 : Hs w I0 F (d0 :: ds) (v :: vs) H := hs.of_sub (RepL.cons (f1 := []) r1' rr) rr nd dj nd fun b m => m
    have h3 : Hs w I0 F ([.int ((0 + i : Nat) : Int), d0] ++ ds) ([.int (i : Nat), v] ++ vs) H := h2.addC (d := .int ((0 + i : Nat) : Int)) (v := .int (i : Nat)) (by rw [Nat.zero_add]; rfl)
    obtain ⟨le3, h4⟩ := Hs.newT h3 rfl hn
    exact ⟨_, le3, h4⟩
section
variable {Γ : Cx} {X : Fx} {W : WX}
/-- enumerate(x), x a list or a tuple, given up -/
def iEnu (m : M) : Src := fun env => match m env with
  | .ok d e => (match d.seq with
    | some xs => .ok (numD 0 (frzL xs)) e
    | none => .bad)
  | .exc c ns xs e => .exc c ns xs e
  | .bad => .bad
theorem i_enum {e : Expr} {p pos tpos : Pos} {elts : List Expr} {kk : Nat} {m : M} (h : PE Γ e (tE X W m)) (hK : X.w.K = Γ.K) (todo : Gl Γ "enumerate") (hm : Γ.mg "enumerate" = none) (hs : starEach [e] Γ.env = [(false, eval e Γ.env)] := by rfl) :
    PI Γ (.Tuple elts kk tpos) (.Call (.Name "enumerate" p) [e] [] pos) (tI X W (iEnu m)) := by
  have ha : PA Γ [e] (tOs X W [.val m]) := pa_z (pe_val h) pa_z0 hs
  refine PIi (PI.or (pi_enum todo hm ha hs) (pi_enumT todo hm ha hs)) fun σ H R q => ?_
  obtain ⟨I, F, env, hs, er, o⟩ := q
  unfold iEnu at o
  cases hmm : m env with
  | bad => simp only [hmm] at o; exact o.elim
  | exc c ns xs e =>
    simp only [hmm] at o
    refine .inl ⟨I, F, env, hs, er, ?_⟩
    rw [hmm]
    exact o
  | ok d e1 =>
    simp only [hmm] at o
    cases hd : d.seq with
    | none => simp only [hd] at o; exact o.elim
    | some xs =>
      simp only [hd] at o
      by_cases ht : ∃ ys, d = .node .tup ys ∨ d = .node .tux ys
      · refine .inr ⟨I, F, env, hs, er, ?_⟩
        rw [hmm]
        intro v I1 H1 le h1 er1
        obtain ⟨J, leJ, h2⟩ := h1.freeze
        obtain ⟨a, us, rfl, seqA, _, r⟩ := h2.seqF2 hd
        have hq' : SqT Γ.K J a us := by rw [← hK]; exact seqA ht
        refine ⟨a, us, rfl, le_t h2.iH hq', o _ J H1 (le.trans leJ) h2.drop er1 (walks_enum r (fun i I0 H l1 l2 hi => ?_) (fun I0 H l1 l2 => ?_) (fun i I0 H x H' l1 l2 y => ?_))⟩
        · exact ⟨us, us[i], le_t (l1.trans l2) hq', by rw [List.getElem?_eq_getElem]⟩
        · exact ⟨us, le_t (l1.trans l2) hq', rfl⟩
        · obtain ⟨T, z, e1, e2, e3, e4⟩ := y
          exact ⟨T, z, e1, e2, e3, e4 us (le_t (l1.trans l2) hq')⟩
      · refine .inl ⟨I, F, env, hs, er, ?_⟩
        rw [hmm]
        intro v I1 H1 le h1 er1
        obtain ⟨J, leJ, h2⟩ := h1.freeze
        obtain ⟨a, us, rfl, _, seqA, r⟩ := h2.seqF2 hd
        have hq' : SqL Γ.K J a us := by rw [← hK]; exact seqA ht
        refine ⟨a, us, rfl, le_l h2.iH hq', o _ J H1 (le.trans leJ) h2.drop er1 (walks_enum r (fun i I0 H l1 l2 hi => ?_) (fun I0 H l1 l2 => ?_) (fun i I0 H x H' l1 l2 y => ?_))⟩
        · exact ⟨us, us[i], le_l (l1.trans l2) hq', by rw [List.getElem?_eq_getElem]⟩
        · exact ⟨us, le_l (l1.trans l2) hq', Nat.le_refl _⟩
        · obtain ⟨T, z, e1, e2, e3, e4⟩ := y
          exact ⟨T, z, e1, e2, e3, e4 us (le_l (l1.trans l2) hq')⟩
end
end Z

set_option Elab.async false
set_option linter.all false
set_option maxRecDepth 100000
set_option maxHeartbeats 4000000
/-! ZP: displays; tuples known to have no dict; count, index. -/
namespace Z
open PySem PySem.Spec PyProof.Rows L2 StX
section
variable {Γ : Cx} {X : Fx} {W : WX}
theorem z_tup {es : List Expr} {k} {pos : Pos} {ops : List Opd} (ha : PA Γ es (tOs X W ops)) : PE Γ (.Tuple es k pos) (tE X W (mApp oTup ops)) :=
  PEi (pe_tup ha) fun σ H Q h => app_run od_tup h
theorem z_lst {es : List Expr} {pos : Pos} {ops : List Opd} (ha : PA Γ es (tOs X W ops)) : PE Γ (.List es pos) (tE X W (mApp oLst ops)) :=
  PEi (pe_lst ha) fun σ H Q h => app_run od_lst h
/-! ### displays that keep the object -/
def tTupX (t : TA) : TE := fun σ H Q => t σ H fun xs H1 => xs.length ≤ sizeLine ∧ ∀ (p : Addr) (od : Obj), od.dict = none → H1 p = none → Q (.ref p) (upd H1 p (.frz od (.tup xs)))
theorem pe_tupX {es : List Expr} {k} {pos : Pos} {t : TA} (h : PA Γ es t) : PE Γ (.Tuple es k pos) (tTupX t) := by
  refine ⟨fun pins s σ H Q I hq => ?_⟩
  refine wpAny_Tuple_spliced (thn (h.run pos pins s σ H _ I hq) fun us s1 ⟨xs, H1, I1, r, z, q⟩ => ⟨by rw [← r.length]; exact z, ?_⟩)
  have hf : H1 s1.heap.objs.size = none := I1.hok.fresh (Nat.le_refl _)
  have e : (s1.heap.push { cls := .type "tuple", data := .seq us.toArray }).get? s1.heap.objs.size = some { cls := .type "tuple", data := .seq us.toArray } := Heap.get?_push_size _ rfl
  refine ⟨.ref s1.heap.objs.size, upd H1 s1.heap.objs.size (.frz { cls := .type "tuple", data := .seq us.toArray } (.tup xs)), I1.laid (t' := s1.toks) (fun b u e => Heap.get?_push_of_some _ e) (Nat.le_refl _) ?_, rfl, q _ _ rfl hf⟩
  exact ⟨e, z, us, r, ⟨_, e, rfl, _, rfl⟩⟩
end
section
variable {w : Wd} {I F H : Hp} {ds : List D} {vs us : List V}
def oTux : Op := fun ds => if ds.length ≤ 100000 then .ok (.node .tux ds) (ds.map fun _ => .any) else .bad
def rTux : RN := fun xs H Q _ => xs.length ≤ sizeLine ∧ ∀ (p : Addr) (od : Obj), od.dict = none → H p = none → Q (.ref p) (upd H p (.frz od (.tup xs)))
theorem od_tux : OpD w rTux oTux := fun I F es us H Q E hs o => by
  obtain ⟨hz, o⟩ := ite_out o
  have hl := hs.length
  refine ⟨szO (by omega), fun p od hd np => ?_⟩
  obtain ⟨le, h2⟩ := Hs.newX (ds := []) (vs := []) (xs := es) (us := us) (by simpa using hs) hl np hd
  refine o (.ref p) _ _ le ?_
  have h3 := (h2.anys us).comm (by simp)
  rw [map_any hl]
  exact h3
end
section
variable {Γ : Cx} {X : Fx} {W : WX}
theorem z_tux {es : List Expr} {k} {pos : Pos} {ops : List Opd} (ha : PA Γ es (tOs X W ops)) : PE Γ (.Tuple es k pos) (tE X W (mApp oTux ops)) :=
  PEi (pe_tupX ha) fun σ H Q h => app_run od_tux h
/-! ### t + u, the object kept -/
def rCatX (K : PySem.W.Frag) : R2 := fun x y H Q => ∃ a b xs ys, x = .ref a ∧ y = .ref b ∧ SqT K H a xs ∧ SqT K H b ys ∧ xs.length + ys.length ≤ sizeLine ∧
  (xs = [] → Q (.ref b) H) ∧ (xs ≠ [] → ys = [] → Q (.ref a) H) ∧ (xs ≠ [] → ys ≠ [] → ∀ (p : Addr) (od : Obj), od.dict = none → H p = none → Q (.ref p) (upd H p (.frz od (.tup (xs ++ ys)))))
theorem op_catX : OpR Γ (binaryOp .Add) (rCatX Γ.K) := by
  intro pins s σ H x y v u Q I rx ry h
  obtain ⟨a, b, xs, ys, rfl, rfl, ha, hb, hz, q0, q1, q2⟩ := h
  cases rx
  cases ry
  obtain ⟨its, r1, p1, _⟩ := I.tuple ha
  obtain ⟨its2, r2, p2, _⟩ := I.tuple hb
  by_cases hx : xs = []
  · subst hx
    cases r1
    exact cat_tup0 p1 p2 ⟨.ref b, H, I, rfl, q0 rfl⟩
  · refine HT.cat_tup p1 p2 (fun z => hx (r1.nil_iff.mp z)) (fun z => ⟨.ref a, H, I, rfl, q1 hx (r2.nil_iff.mp z)⟩) (fun z => ?_) (by rw [← r1.length, ← r2.length]; exact hz)
    have e : (s.heap.push { cls := .type "tuple", data := .seq (its ++ its2).toArray }).get? s.heap.objs.size = some { cls := .type "tuple", data := .seq (its ++ its2).toArray } := Heap.get?_push_size _ rfl
    refine ⟨.ref s.heap.objs.size, _, I.laid (t' := s.toks) (o := .frz { cls := .type "tuple", data := .seq (its ++ its2).toArray } (.tup (xs ++ ys))) (fun b ob q => Heap.get?_push_of_some _ q) (Nat.le_refl _) ?_, rfl, q2 hx (fun w => z (r2.nil_iff.mpr w)) _ _ rfl (I.hok.fresh (Nat.le_refl _))⟩
    exact ⟨e, by rw [List.length_append]; exact hz, _, r1.append r2, IsTup.new _ _⟩
theorem ifs2 {c : Prop} [Decidable c] {a : Option D} {z : D} (h : (if c then a else none) = some z) : c ∧ a = some z := by
  by_cases q : c
  · rw [if_pos q] at h; exact ⟨q, h⟩
  · rw [if_neg q] at h; cases h
def oCatX : Op
  | [.node .tux xs, .node .tux ys] => if xs.length + ys.length ≤ 100000 then (.ok (.node .tux (frzL xs ++ frzL ys)) [.any, .any]) else .bad
  | _ => .bad
theorem od_catX : OpD X.w (r2 (rCatX X.w.K)) oCatX := fun I F es us H Q E hs o => by
  unfold oCatX at o
  split at o
  · rename_i xs ys
    obtain ⟨hz, o⟩ := ite_out o
    match us, hs.length, hs, o with
    | [v, u], _, hs, o =>
      obtain ⟨J, le, h1⟩ := hs.freeze
      obtain ⟨J2, le2, h2⟩ := h1.swap.freeze
      obtain ⟨b, us2, rfl, _, _, q2, l2, h3⟩ := h2.items (xs := frzL ys) rfl (isFrzL_frz ys)
      have h4 : Hs X.w J2 F ((frzL ys ++ [(D.node .tux ys).frz]) ++ (D.node .tux xs).frz :: []) ((us2 ++ [.ref b]) ++ v :: []) H := by simpa using h3
      have h5 := h4.front (by simp [l2])
      obtain ⟨a, us1, rfl, _, _, q1, l1, h6⟩ := h5.items (xs := frzL xs) rfl (isFrzL_frz xs)
      have h7 : Hs X.w J2 F ((frzL xs ++ [(D.node .tux xs).frz]) ++ (frzL ys ++ [(D.node .tux ys).frz])) ((us1 ++ [.ref a]) ++ (us2 ++ [.ref b])) H := by simpa using h6
      have h8 : Hs X.w J2 F ((frzL xs) ++ ((D.node .tux xs).frz :: (frzL ys ++ [(D.node .tux ys).frz]))) (us1 ++ (.ref a :: (us2 ++ [.ref b]))) H := by simpa using h7
      have h9 := (h8.front (by rw [l1])).drop
      have h10 : Hs X.w J2 F ((frzL xs ++ frzL ys) ++ [(D.node .tux ys).frz]) ((us1 ++ us2) ++ [.ref b]) H := by simpa using h9
      have h11 := (h10.comm (by simp [l1, l2])).drop
      have h12 : Hs X.w J2 F ((frzL xs ++ frzL ys) ++ []) ((us1 ++ us2) ++ []) H := by simpa using h11
      have out : ∀ (J3 : Hp) (H3 : Hp) (p : Addr), Le J2 J3 → Hs X.w J3 F [.node .tux (frzL xs ++ frzL ys)] [.ref p] H3 → Q (.ref p) H3 := fun J3 H3 p le3 h =>
        o (.ref p) J3 H3 (le.trans (le2.trans le3)) ((h.anys [.ref a, .ref b]).comm (by simp))
      -- the two themselves
      have ha : Hs X.w J2 F [(D.node .tux xs).frz] [.ref a] H := by
        have z := (h6.comm (ds := frzL xs) (vs := us1) (by rw [l1]))
        have z2 : Hs X.w J2 F ((D.node .tux xs).frz :: (frzL ys ++ [(D.node .tux ys).frz] ++ frzL xs)) (.ref a :: (us2 ++ [.ref b] ++ us1)) H := by simpa using z
        have z3 : Hs X.w J2 F ([(D.node .tux xs).frz] ++ (frzL ys ++ [(D.node .tux ys).frz] ++ frzL xs)) ([.ref a] ++ (us2 ++ [.ref b] ++ us1)) H := z2
        have z4 := z3.comm rfl
        have hl : (frzL ys ++ [(D.node .tux ys).frz] ++ frzL xs).length = (us2 ++ [V.ref b] ++ us1).length := by simp [l1, l2]
        obtain ⟨fp, r, nd, dj⟩ := z4.ex
        obtain ⟨f1, f2, rfl, r1, r2⟩ := r.split hl
        exact z4.of_sub r2 r nd dj (List.nodup_append.mp nd).2.1 fun b m => List.mem_append_right _ m
      have hb : Hs X.w J2 F [(D.node .tux ys).frz] [.ref b] H := by
        have hl : (frzL xs ++ frzL ys).length = (us1 ++ us2).length := by simp [l1, l2]
        obtain ⟨fp, r, nd, dj⟩ := h10.ex
        obtain ⟨f1, f2, rfl, r1, r2⟩ := r.split hl
        exact h10.of_sub r2 r nd dj (List.nodup_append.mp nd).2.1 fun b m => List.mem_append_right _ m
      refine ⟨a, b, us1, us2, rfl, rfl, q1 (.inr rfl), q2 (.inr rfl), szO (by rw [l1, l2, frzL_len, frzL_len]; exact hz), fun e => ?_, fun _ e => ?_, fun _ _ p od hod np => ?_⟩
      · have : frzL xs = [] := by
          apply List.length_eq_zero_iff.mp
          rw [← l1, e]
          rfl
        refine out J2 H b (Le.refl _) ?_
        rw [this]
        exact hb
      · have : frzL ys = [] := by
          apply List.length_eq_zero_iff.mp
          rw [← l2, e]
          rfl
        refine out J2 H a (Le.refl _) ?_
        rw [this, List.append_nil]
        exact ha
      · obtain ⟨le3, h13⟩ := Hs.newX h12 (by simp [l1, l2]) np hod
        exact out _ _ p le3 h13
  · exact o.elim

/-! ### methods that look -/
def isLst : D → Bool
  | .node (.lst _) _ => true
  | .node .scr _ => true
  | _ => false
def isTux : D → Bool
  | .node .tux _ => true
  | _ => false
def mIs (p : D → Bool) (m : M) : M := fun env => match m env with
  | .ok d e => if p d = true then .ok d e else .bad
  | .exc c ns xs e => .exc c ns xs e
  | .bad => .bad
theorem is_run {p : D → Bool} {m : M} {σ : L2.St} {H : Hp} {Q : VK} {R : V → Hp → Prop} (k : ∀ I F d ds v vs H, Hs X.w I F (d :: ds) (v :: vs) H → p d = true → R v H) (h : tE X W (mIs p m) σ H Q) : tE X W m σ H fun v H1 => R v H1 ∧ Q v H1 := by
  obtain ⟨I, F, env, hs, er, o⟩ := h
  refine ⟨I, F, env, hs, er, ?_⟩
  unfold mIs at o
  cases hm : m env with
  | bad => simp only [hm] at o; exact o.elim
  | exc c ns xs e => simp only [hm] at o; exact o
  | ok d e =>
    simp only [hm] at o
    by_cases hp : p d = true
    · rw [if_pos hp] at o
      exact fun v I1 H1 le h1 er1 => ⟨k I1 F d e v _ H1 h1 hp, o v I1 H1 le h1 er1⟩
    · rw [if_neg hp] at o
      exact o.elim
def rM (r : V → List V → Hp → VK → Prop) : RN := fun us H Q _ => match us with
  | x :: xs => r x xs H Q
  | [] => False
theorem z_look {o e : Expr} {es : List Expr} {name : Str} {apos cpos : Pos} {id : String} {r : V → List V → Hp → VK → Prop} {m : M} {ops : List Opd} {f : Op} (slot : Slot "list" name id) (hty : typeOf (.builtin id) = pure (.type "method_descriptor")) (hm : MtR Γ id r) (od : OpD X.w (rM r) f) (ho : PE Γ o (tE X W m)) (ha : PA Γ (e :: es) (tOs X W ops)) (hK : X.w.K = Γ.K)
    (hbase : attributeBase o name Γ.env (eval o Γ.env) = eval o Γ.env := by rfl)
    (hfew : ((backTo cpos (starEach (e :: es) Γ.env)).all (fun x => !x.1) && (backToKw cpos (keywordEach [] Γ.env)).all (fun x => x.1.isSome)
      && decide ((e :: es).length + ([] : List Keyword).length + (if ([] : List Keyword).isEmpty then 0 else 1) < 30)) = true := by rfl)
    (hline : (apos.endLine == cpos.line) = true := by rfl) (hs : starEach (e :: es) Γ.env = (false, eval e Γ.env) :: starEach es Γ.env := by rfl) (hplain : (backTo cpos (starEach es Γ.env)).any (·.1) = false := by rfl) :
    PE Γ (.Call (.Attribute o name apos) (e :: es) [] cpos) (tE X W (mApp f (.val (mIs isLst m) :: ops))) :=
  PEi (pe_bm PySem.F.plainAttrs_list slot hty hm ho ha hbase hfew hline hs hplain) fun σ H Q h =>
    is_run (p := isLst) (R := fun v H => tyV Γ.K "list" v H) (fun I F d ds v vs H hs hp => by
      cases d with
      | node t xs =>
        have key : t = .scr ∨ ∃ o, t = .lst o := by
          cases t with
          | lst o => exact .inr ⟨o, rfl⟩
          | scr => exact .inl rfl
          | _ => cases hp
        obtain ⟨a, us, rfl, hq, _⟩ := hs.seqL key
        rw [← hK]
        exact .inl ⟨rfl, us, hq⟩
      | _ => cases hp) (app_run od h)
/-! ### list.index -/
abbrev oIndex : Op := op2 fun d e => match d, e.py with
  | .node (.lst o) xs, some x => (match pyL xs with
    | some ds => if SeqAt.shaped x = true ∧ SeqAt.shaped (.list ds) = true then (ds.findIdx? fun y => PyData.eqv y x).map fun j => .int (j : Nat) else none
    | none => none)
  | _, _ => none
theorem od_index : OpD X.w (rM (rIndexD X.w.K)) oIndex := od2 fun I F H d e v u z hs h => by
  split at h
  · rename_i o xs x hx
    split at h
    · rename_i ds hds
      obtain ⟨⟨c1, c2⟩, h⟩ := ifs2 h
      obtain ⟨j, hj, rfl⟩ := Option.map_eq_some_iff.mp h
      obtain ⟨h1, h2, h3⟩ := List.findIdx?_eq_some_iff_getElem.mp hj
      have hq : D.py (.node (.lst o) xs) = some (.list ds) := by unfold D.py; rw [hds]; rfl
      obtain ⟨a, us, rfl, _⟩ := hs.seqL (.inr ⟨o, rfl⟩)
      refine ⟨_, rfl, fun Q E q => ⟨a, u, x, ds, j, ds[j], rfl, rfl, hs.dp hq, hs.drop.dp hx, c2, c1, List.getElem?_eq_getElem h1, h2, fun m z' hm hz => ?_, q⟩⟩
      have hml : m < ds.length := by omega
      rw [List.getElem?_eq_getElem hml] at hz
      cases hz
      have := h3 m hm
      simpa using this
    · cases h
  · cases h
/-! ### t.count(x) -/
def rCountX (K : PySem.W.Frag) : V → List V → Hp → VK → Prop := fun x xs H Q => ∃ (a : Addr) (y : V) (d : PyData) (ds : List PyData), x = .ref a ∧ xs = [y] ∧ Dp K H (.ref a) (.tuple ds) ∧ Dp K H y d ∧ SeqAt.shaped (.tuple ds) = true ∧ SeqAt.shaped d = true ∧ Q (.int ((ds.countP fun z => PyData.eqv z d : Nat) : Int)) H
theorem mt_countX (hu : Γ.A.units + 65 < cLine) : MtR Γ "tuple.count" (rCountX Γ.K) := by
  intro pins s σ H x xs v us Q I rx rxs h
  obtain ⟨a, y, d, ds, rfl, rfl, hl, hy, sl, sd, q⟩ := h
  cases rx
  cases rxs with
  | cons ry rt =>
    rename_i uy ut
    cases rt
    obtain ⟨bs, r1⟩ := Dp.reads I d y uy hy ry
    have hxs : PyData.canLayAll0 ds = true := SeqAt.canLay_of_shaped sl
    have hroom : Γ.A.units + 1 + min (PyData.depthAll ds) d.depth < cLine := room_in_shaped sd hu
    cases hl with
    | tup hs ha =>
      obtain ⟨its, rv, p, hlen⟩ := I.tuple hs
      obtain ⟨as, h4⟩ := Dp.readsAll I ds _ its ha rv
      exact SeqAt.count_tuple_data p (vs := its.toArray) h4 r1 (PyData.plainAll_of_canLay0 ds hxs) (PyData.plain_of_canLay0 d (SeqAt.canLay_of_shaped sd)) hroom ⟨.int _, H, I.tok _, ⟨_, rfl⟩, q⟩
def tBMX (r : V → List V → Hp → VK → Prop) (to : TE) (t : TA) : TE := fun σ H Q => to σ H fun x H1 => (∃ a xs, x = .ref a ∧ Tux H1 a xs) ∧ t σ H1 fun us H2 => r x us H2 Q
theorem pe_bmX {o e : Expr} {es : List Expr} {to : TE} {t : TA} {name : Str} {apos cpos : Pos} {id : String} {r : V → List V → Hp → VK → Prop} (slot : Slot "tuple" name id) (hty : typeOf (.builtin id) = pure (.type "method_descriptor")) (hm : MtR Γ id r) (ho : PE Γ o to) (ha : PA Γ (e :: es) t)
    (hbase : attributeBase o name Γ.env (eval o Γ.env) = eval o Γ.env := by rfl)
    (hfew : ((backTo cpos (starEach (e :: es) Γ.env)).all (fun x => !x.1) && (backToKw cpos (keywordEach [] Γ.env)).all (fun x => x.1.isSome)
      && decide ((e :: es).length + ([] : List Keyword).length + (if ([] : List Keyword).isEmpty then 0 else 1) < 30)) = true := by rfl)
    (hline : (apos.endLine == cpos.line) = true := by rfl) (hs : starEach (e :: es) Γ.env = (false, eval e Γ.env) :: starEach es Γ.env := by rfl) (hplain : (backTo cpos (starEach es Γ.env)).any (·.1) = false := by rfl) :
    PE Γ (.Call (.Attribute o name apos) (e :: es) [] cpos) (tBMX r to t) := by
  refine ⟨fun pins s σ H Q I h => ?_⟩
  refine wpAny_Call_method_late hbase hfew hline rfl (thn (ho.run pins s σ H _ I h) fun v s1 ⟨x, H1, I1, r1, ty, q1⟩ => ?_)
  obtain ⟨a, xs, rfl, od, hx, hn⟩ := ty
  cases r1
  obtain ⟨hg, _, its, rv, ip⟩ := (show ObjOk Γ.prog Γ.w H1 s1.heap a (.frz od (.tup xs)) from I1.hok a _ hx)
  refine ⟨"tuple", id, PySem.F.plainAttrs_tuple, slot, hty, ip.typeIs, fun b e => ?_, ?_⟩
  · cases e
    exact ⟨od, hg, hn⟩
  · have hA := ha.run cpos pins s1 σ H1 _ I1 q1
    rw [hs] at hA ⊢
    refine Calls.callWith_builtin (by show (false || (backTo cpos (starEach es Γ.env)).any (·.1)) = false; rw [hplain] <;> rfl) (Calls.evalArgs_plain ?_)
    exact thn hA fun us s2 ⟨vs, H2, I2, r2, q2⟩ => hm pins s2 σ H2 (.ref a) vs _ us Q I2 rfl r2 q2
theorem z_lookX {o e : Expr} {es : List Expr} {name : Str} {apos cpos : Pos} {id : String} {r : V → List V → Hp → VK → Prop} {m : M} {ops : List Opd} {f : Op} (slot : Slot "tuple" name id) (hty : typeOf (.builtin id) = pure (.type "method_descriptor")) (hm : MtR Γ id r) (od : OpD X.w (rM r) f) (ho : PE Γ o (tE X W m)) (ha : PA Γ (e :: es) (tOs X W ops))
    (hbase : attributeBase o name Γ.env (eval o Γ.env) = eval o Γ.env := by rfl)
    (hfew : ((backTo cpos (starEach (e :: es) Γ.env)).all (fun x => !x.1) && (backToKw cpos (keywordEach [] Γ.env)).all (fun x => x.1.isSome)
      && decide ((e :: es).length + ([] : List Keyword).length + (if ([] : List Keyword).isEmpty then 0 else 1) < 30)) = true := by rfl)
    (hline : (apos.endLine == cpos.line) = true := by rfl) (hs : starEach (e :: es) Γ.env = (false, eval e Γ.env) :: starEach es Γ.env := by rfl) (hplain : (backTo cpos (starEach es Γ.env)).any (·.1) = false := by rfl) :
    PE Γ (.Call (.Attribute o name apos) (e :: es) [] cpos) (tE X W (mApp f (.val (mIs isTux m) :: ops))) :=
  PEi (pe_bmX slot hty hm ho ha hbase hfew hline hs hplain) fun σ H Q h =>
    is_run (p := isTux) (R := fun v H => ∃ a xs, v = .ref a ∧ Tux H a xs) (fun I F d ds v vs H hs hp => by
      cases d with
      | node t xs =>
        cases t with
        | tux =>
          obtain ⟨fp, r⟩ := hs.head
          unfold Rep at r
          obtain ⟨a, us, fp', rfl, hl, hf, q⟩ := r
          rcases q with ⟨ho, _, _⟩ | ⟨_, hat, _⟩
          · cases ho
          · obtain ⟨od, h1, h2⟩ := hat
            exact ⟨a, us, rfl, od, hs.iH a _ h1, h2⟩
        | _ => cases hp
      | _ => cases hp) (app_run od h)
abbrev oCount : Op := op2 fun d e => match d, e.py with
  | .node .tux xs, some x => (match pyL xs with
    | some ds => if SeqAt.shaped x = true ∧ SeqAt.shaped (.tuple ds) = true then some (.int ((ds.countP fun z => PyData.eqv z x : Nat) : Int)) else none
    | none => none)
  | _, _ => none
theorem od_count : OpD X.w (rM (rCountX X.w.K)) oCount := od2 fun I F H d e v u z hs h => by
  split at h
  · rename_i xs x hx
    split at h
    · rename_i ds hds
      obtain ⟨⟨c1, c2⟩, h⟩ := ifs2 h
      cases h
      have hq : D.py (.node .tux xs) = some (.tuple ds) := by unfold D.py; rw [hds]; rfl
      obtain ⟨a, us, rfl, _⟩ := hs.seq (xs := xs) rfl
      exact ⟨_, rfl, fun Q E q => ⟨a, u, x, ds, rfl, rfl, hs.dp hq, hs.drop.dp hx, c2, c1, q⟩⟩
    · cases h
  · cases h
end
end Z

set_option Elab.async false
set_option linter.all false
set_option maxRecDepth 100000
set_option maxHeartbeats 4000000
/-! ZQ: max of a tuple, three names at once. -/
namespace Z
open PySem PySem.Spec PyProof.Rows L2 StX
section
variable {Γ : Cx} {X : Fx} {W : WX}
theorem s_par3 {i j l : Nat} {x y z : Str} {a b c : Expr} {px py pz pt pos : Pos} {kt k2 pt2} {ops : List Opd} (hc : Γ.calm = true) (hN : Γ.N.Nodup) (hi : Γ.N[i]? = some x) (hj : Γ.N[j]? = some y) (hl : Γ.N[l]? = some z) (hij : i ≠ j) (hil : i ≠ l) (hjl : j ≠ l)
    (hx : Γ.env.scope.names.lookup x = some .local) (hy : Γ.env.scope.names.lookup y = some .local) (hz : Γ.env.scope.names.lookup z = some .local) (ha : PA Γ [a, b, c] (tOs X W ops))
    (hw : swappedStores [.Tuple [.Name x px, .Name y py, .Name z pz] kt pt] (.Tuple [a, b, c] k2 pt2) Γ.env = pure (some [x, y, z])) (hp : ∀ k ∈ [i, j, l], k ∉ X.pin := by decide)
    (hs : swapsWithSole [.Tuple [.Name x px, .Name y py, .Name z pz] kt pt] (.Tuple [a, b, c] k2 pt2) pos.line Γ.env = pure false := by rfl) :
    PS Γ (.Assign [.Tuple [.Name x px, .Name y py, .Name z pz] kt pt] (.Tuple [a, b, c] k2 pt2) pos) (tS X W (sPar [i, j, l] ops)) := PSi (ps_par3 hc hN hi hj hl hij hil hjl hx hy hz ha hw hs) fun E σ H q => by
  have z := par_run hp q
  have key : ∀ (ops : List Opd) (σ0 : L2.St) (H : Hp) (Q Q' : List V → Hp → Prop), (∀ vs H, Q vs H → Q' vs H) → tOs X W ops σ0 H Q → tOs X W ops σ0 H Q' := by
    intro ops
    induction ops with
    | nil => exact fun σ0 H Q Q' k h => k _ _ h
    | cons o ops ih =>
      intro σ0 H Q Q' k h
      cases o with
      | peek i =>
        obtain ⟨v, hv, h⟩ := h
        exact ⟨v, hv, ih _ _ _ _ (fun vs H q => k _ _ q) h⟩
      | val m =>
        obtain ⟨I, F, env, hs, er, o⟩ := h
        refine ⟨I, F, env, hs, er, ?_⟩
        revert o
        cases m env with
        | bad => exact fun o => o
        | exc c ns xs e => exact fun o => o
        | ok r e => exact fun o v I' H' le h' er' => ih _ _ _ _ (fun vs H q => k _ _ q) (o v I' H' le h' er')
  refine key ops σ H _ _ (fun vs H1 h => ?_) z
  obtain ⟨hl, h⟩ := h
  match vs, hl, h with
  | [u, v, t], _, h => exact ⟨u, v, t, rfl, h⟩
/-! ### max(t), of ints -/
def rMaxT (K : PySem.W.Frag) : List V → Hp → VK → Prop := fun xs H Q => ∃ (a : Addr) (n : Int) (ns : List Int), xs = [.ref a] ∧ SqT K H a ((n :: ns).map V.int) ∧ Q (.int (ns.foldl max n)) H
theorem dpAll_ints {K : PySem.W.Frag} {H : Hp} : ∀ ns : List Int, DpAll K H (ns.map V.int) (ns.map PyData.int)
  | [] => .nil
  | n :: ns => .cons (.int n) (dpAll_ints ns)
theorem depth_ints : ∀ ns : List Int, PyData.depthAll (ns.map PyData.int) ≤ 1
  | [] => by simp [PyData.depthAll]
  | n :: ns => by
    have := depth_ints ns
    simp only [List.map_cons, PyData.depthAll, PyData.depth]
    omega
theorem cr_maxT (hc : Γ.calm = true) (hu : Γ.A.units + 65 < cLine) : CallR Γ (.builtin "max") (rMaxT Γ.K) := by
  intro pins s σ H vs us Q I r h
  obtain ⟨a, n, ns, rfl, hs, q⟩ := h
  obtain ⟨its, rv, ip, _⟩ := I.tuple hs
  rw [Vals.ref1 r]
  obtain ⟨as, rs⟩ := Dp.readsAll I _ _ its (dpAll_ints (n :: ns)) rv
  refine PySem.W.max_tuple_data (vs := its.toArray) (x := .int n) (xs := ns.map .int) (I.ok.hd hc) ip (by simpa using rs) ⟨fun x hx y hy => ?_, fun x hx => ?_⟩ ?_ fun i v h' tk bs hv hr hk => ?_
  · obtain ⟨i, _, rfl⟩ := List.mem_map.mp (show x ∈ (n :: ns).map PyData.int from hx)
    obtain ⟨j, _, rfl⟩ := List.mem_map.mp (show y ∈ (n :: ns).map PyData.int from hy)
    rfl
  · obtain ⟨i, _, rfl⟩ := List.mem_map.mp (show x ∈ (n :: ns).map PyData.int from hx)
    exact fun e => nomatch e
  · have := depth_ints (n :: ns)
    have e : PyData.depthAll (PyData.int n :: ns.map PyData.int) ≤ 1 := this
    omega
  · rw [PySem.W.maxD_ints] at hr
    cases hr
    exact ⟨.int _, H, I.kept hk, ⟨_, rfl⟩, q⟩
abbrev oMaxT : Op := op1 fun d => match d with
  | .node .tup xs => (intsOf xs).bind fun ns => (maxI ns).map .int
  | .node .tux xs => (intsOf xs).bind fun ns => (maxI ns).map .int
  | _ => none
theorem od_maxT : OpD X.w (rN (rMaxT X.w.K)) oMaxT := od1 fun I F H d v z hs h => by
  have key : ∀ xs : List D, d = .node .tup xs ∨ d = .node .tux xs → (intsOf xs).bind (fun ns => (maxI ns).map D.int) = some z → ∃ zv, z.scal = some zv ∧ ∀ Q E, Q zv H → rN (rMaxT X.w.K) [v] H Q E := by
    intro xs hd h
    obtain ⟨ns, e, h⟩ := Option.bind_eq_some_iff.mp h
    obtain ⟨x, ex, rfl⟩ := Option.map_eq_some_iff.mp h
    have hseq : d.seq = some xs := by rcases hd with rfl | rfl <;> rfl
    obtain ⟨a, us, rfl, _, _, hq, hl, ⟨fp, r⟩, _⟩ := hs.seq hseq
    have e2 := intsOf_rep r e
    subst e2
    cases ns with
    | nil => cases ex
    | cons n ns =>
      cases ex
      exact ⟨_, rfl, fun Q E q => ⟨a, n, ns, rfl, le_t hs.iH (hq hd), q⟩⟩
  split at h
  · exact key _ (.inl rfl) h
  · exact key _ (.inr rfl) h
  · cases h
end
end Z

set_option Elab.async false
set_option linter.all false
set_option maxRecDepth 100000
set_option maxHeartbeats 4000000
/-! ZR: dicts whose keys are flat tuples. -/
namespace Z
open PySem PySem.Spec PyProof.Rows L2 StX
/-! ### keys -/
def keysOf : List D → Option (List Key)
  | [] => some []
  | .int i :: ds => (keysOf ds).map (Sum.inl i :: ·)
  | .str x :: ds => (keysOf ds).map (Sum.inr x :: ·)
  | _ :: _ => none
theorem keysOf_rep {w : Wd} {I H : Hp} : ∀ {ds : List D} {us : List V} {fp : List Addr} {ks : List Key}, RepL w I H ds us fp → keysOf ds = some ks → us = ks.map kV
  | [], us, fp, ks, h, e => by
    unfold RepL at h
    cases e
    exact h.1
  | d :: ds, us, fp, ks, h, e => by
    unfold RepL at h
    obtain ⟨v, u, f1, f2, rfl, rfl, h1, h2⟩ := h
    cases d <;> simp [keysOf] at e
    · obtain ⟨ms, e1, rfl⟩ := e
      unfold Rep at h1
      rw [h1.1, keysOf_rep h2 e1]
      rfl
    · obtain ⟨ms, e1, rfl⟩ := e
      unfold Rep at h1
      rw [h1.1, keysOf_rep h2 e1]
      rfl
def keyOf : D → Option (List Key)
  | .node .tup xs => keysOf xs
  | _ => none
theorem Hs.key {w : Wd} {I F H : Hp} {ds : List D} {vs : List V} {d : D} {v : V} {k : List Key} (h : Hs w I F (d :: ds) (v :: vs) H) (e : keyOf d = some k) : ∃ b, v = .ref b ∧ H b = some (.tup (k.map kV)) := by
  unfold keyOf at e
  split at e
  · rename_i xs
    obtain ⟨fp, r⟩ := h.head
    unfold Rep at r
    obtain ⟨a, us, fp', rfl, hl, hf, q⟩ := r
    rcases q with ⟨ho, _, _⟩ | ⟨_, hat, _⟩
    · cases ho
    · rw [← keysOf_rep hl e]
      exact ⟨a, rfl, h.iH a _ hat⟩
  · cases e
/-- where a key stands: nowhere, or at one place -/
def dAt (ks : List (List Key)) (k : List Key) : Option (Option Nat) := match ks.findIdx? fun x => decide (x = k) with
  | none => some none
  | some j => if ((ks.drop (j + 1)).all fun x => decide (x ≠ k)) = true then some (some j) else none
def dKs (ks : List (List Key)) (k : List Key) : Option Nat → List (List Key)
  | none => ks ++ [k]
  | some _ => ks
def dXs {α : Type} (xs : List α) (r : α) : Option Nat → List α
  | none => xs ++ [r]
  | some j => xs.set j r
theorem valV_zip {k : List Key} : ∀ (ks : List (List Key)) (us : List V), ks.length = us.length → valV (ks.zip us) k = (ks.findIdx? fun x => decide (x = k)).bind fun j => us[j]?
  | [], us, _ => rfl
  | x :: ks, [], h => by cases h
  | x :: ks, u :: us, h => by
    have hl : ks.length = us.length := by simpa using h
    rw [List.zip_cons_cons, List.findIdx?_cons]
    by_cases e : x = k
    · rw [valV_pos (p := (x, u)) e, if_pos (by simpa using e)]
      rfl
    · rw [valV_neg (p := (x, u)) e, if_neg (by simpa using e), valV_zip ks us hl]
      cases (ks.findIdx? fun x => decide (x = k)) <;> rfl
theorem map_zip_none {k : List Key} {y : V} : ∀ (ks : List (List Key)) (us : List V), (ks.all fun x => decide (x ≠ k)) = true → (ks.zip us).map (fun kv => if kv.1 = k then (kv.1, y) else kv) = ks.zip us
  | [], us, _ => rfl
  | x :: ks, [], _ => rfl
  | x :: ks, u :: us, h => by
    rw [List.all_cons, Bool.and_eq_true] at h
    have hx : ¬ x = k := by simpa using h.1
    rw [List.zip_cons_cons, List.map_cons, if_neg hx, map_zip_none ks us h.2]
theorem map_zip {k : List Key} {y : V} : ∀ (ks : List (List Key)) (us : List V) (j : Nat), ks.length = us.length → (ks.findIdx? fun x => decide (x = k)) = some j → ((ks.drop (j + 1)).all fun x => decide (x ≠ k)) = true →
    (ks.zip us).map (fun kv => if kv.1 = k then (kv.1, y) else kv) = ks.zip (us.set j y)
  | [], us, j, _, h, _ => by cases h
  | x :: ks, [], j, h, _, _ => by cases h
  | x :: ks, u :: us, j, hl, h, hr => by
    have hl' : ks.length = us.length := by simpa using hl
    rw [List.findIdx?_cons] at h
    by_cases e : x = k
    · rw [if_pos (by simpa using e)] at h
      cases h
      rw [List.zip_cons_cons, List.map_cons, if_pos e, List.set_cons_zero, List.zip_cons_cons, map_zip_none ks us (by simpa using hr)]
    · rw [if_neg (by simpa using e)] at h
      obtain ⟨i, hi, rfl⟩ := Option.map_eq_some_iff.mp h
      rw [List.zip_cons_cons, List.map_cons, if_neg e, List.set_cons_succ, List.zip_cons_cons, map_zip ks us i hl' hi (by simpa using hr)]
theorem any_zip {k : List Key} : ∀ (ks : List (List Key)) (us : List V), ks.length = us.length → ((ks.zip us).any fun kv => decide (kv.1 = k)) = (ks.findIdx? fun x => decide (x = k)).isSome
  | ks, us, h => by
    rw [valV_any, valV_zip ks us h]
    cases e : (ks.findIdx? fun x => decide (x = k)) with
    | none => rfl
    | some j =>
      obtain ⟨hj, _⟩ := List.findIdx?_eq_some_iff_getElem.mp e
      show (us[j]?).isSome = true
      rw [List.getElem?_eq_getElem (by omega)]
      rfl
theorem putK_zip {k : List Key} {y : V} {ks : List (List Key)} {us : List V} {o : Option Nat} (hl : ks.length = us.length) (h : dAt ks k = some o) : putK (ks.zip us) k y = (dKs ks k o).zip (dXs us y o) := by
  unfold putK
  rw [any_zip ks us hl]
  unfold dAt at h
  cases e : (ks.findIdx? fun x => decide (x = k)) with
  | none =>
    rw [e] at h
    cases h
    rw [if_neg (by simp)]
    show _ = (ks ++ [k]).zip (us ++ [y])
    rw [List.zip_append hl]
    rfl
  | some j =>
    simp only [e] at h
    rw [if_pos (show (some j).isSome = true from rfl)]
    by_cases hr : ((ks.drop (j + 1)).all fun x => decide (x ≠ k)) = true
    · rw [if_pos hr] at h
      cases h
      exact map_zip ks us j hl e hr
    · rw [if_neg hr] at h
      cases h
/-! ### {} -/
section
variable {Γ : Cx} {X : Fx} {W : WX}
def mNewT : M := fun env => .ok (.node (.dt true []) []) env
theorem z_newT {pos : Pos} : PE Γ (.Dict [] [] pos) (tE X W mNewT) := PEi pe_dnewT fun σ H Q h => by
  obtain ⟨I, F, env, hs, er, o⟩ := h
  intro p np
  exact o (.ref p) I _ (Le.refl I) (Hs.newO (t := .dt true []) (xs := []) (us := []) (o := .dT []) hs rfl np rfl rfl (show upd H p (.dT []) p = some (.dT []) from upd_same)) er
/-! ### d[k] -/
def rDG : RN := fun us H Q _ => match us with
  | [x, y] => ∃ a v, x = .ref a ∧ DGet H a y (some v) ∧ Q v H
  | _ => False
def oDGet : Op
  | [.node (.dt o ks) xs, kd] => (match keyOf kd with
    | some k => (match ks.findIdx? fun x => decide (x = k) with
      | some j => (match xs[j]? with
        | some c => if c.isFrz = true then .ok c [.node (.dt o ks) xs, kd] else .ok c.frz [.node (.dt false ks) (frzL xs), kd]
        | none => .bad)
      | none => .bad)
    | none => .bad)
  | _ => .bad
theorem Hs.dict {w : Wd} {I F H : Hp} {ds : List D} {vs : List V} {o : Bool} {ks : List (List Key)} {xs : List D} {v : V} (h : Hs w I F (.node (.dt o ks) xs :: ds) (v :: vs) H) :
    ∃ a us fp, v = .ref a ∧ Rd H a (.dT (ks.zip us)) ∧ ks.length = us.length ∧ RepL w I H xs us fp := by
  obtain ⟨fp, r⟩ := h.head
  unfold Rep at r
  obtain ⟨a, us, fp', rfl, hl, hf, q⟩ := r
  rcases q with ⟨_, hat, _⟩ | ⟨_, hat, _⟩
  · exact ⟨a, us, fp', rfl, .inl hat, hf, hl⟩
  · exact ⟨a, us, fp', rfl, le_rd h.iH hat, hf, hl⟩
theorem Hs.dchild {w : Wd} {I F H : Hp} {ds : List D} {vs : List V} {o : Bool} {ks : List (List Key)} {xs : List D} {v : V} {c : D} {j : Nat} (h : Hs w I F (.node (.dt o ks) xs :: ds) (v :: vs) H) (hj : xs[j]? = some c) (hc : c.isFrz = true) :
    ∃ a us z, v = .ref a ∧ Rd H a (.dT (ks.zip us)) ∧ ks.length = us.length ∧ us[j]? = some z ∧ Hs w I F (c :: .node (.dt o ks) xs :: ds) (z :: v :: vs) H := by
  obtain ⟨a, us, fp, rfl, hd, hl, r⟩ := h.dict
  obtain ⟨z, f1, f2, hz, rz, _, _⟩ := r.take hj
  obtain rfl := rz.own_nil (frz_id hc)
  obtain ⟨fq, rq, nq, dq⟩ := h.ex
  exact ⟨a, us, z, rfl, hd, hl, hz, h.of_sub (RepL.cons (f1 := []) rz rq) rq nq dq nq fun b m => m⟩
theorem od_dget {w : Wd} : OpD w rDG oDGet := fun I F es us H Q E hs o => by
  unfold oDGet at o
  split at o
  · rename_i ow ks xs kd
    match us, hs.length, hs, o with
    | [v, u], _, hs, o =>
      cases e1 : keyOf kd with
      | none => simp only [e1] at o; exact o.elim
      | some k =>
        simp only [e1] at o
        cases e2 : (ks.findIdx? fun x => decide (x = k)) with
        | none => simp only [e2] at o; exact o.elim
        | some j =>
          simp only [e2] at o
          cases e3 : xs[j]? with
          | none => simp only [e3] at o; exact o.elim
          | some c =>
            simp only [e3] at o
            obtain ⟨b, rfl, hb⟩ := hs.drop.key e1
            by_cases hc : c.isFrz = true
            · rw [if_pos hc] at o
              obtain ⟨a, us, z, rfl, hd, hl, hz, h2⟩ := hs.dchild e3 hc
              exact ⟨a, z, rfl, .inr ⟨_, k, b, hd, rfl, hb, by rw [valV_zip ks us hl, e2]; exact hz.symm⟩, o z I H (Le.refl I) h2⟩
            · rw [if_neg hc] at o
              obtain ⟨J, le, h1⟩ := hs.freeze
              obtain ⟨a, us, z, rfl, hd, hl, hz, h2⟩ := Hs.dchild (o := false) (ks := ks) (xs := frzL xs) h1 (frzL_at e3) (isFrz_frz c)
              exact ⟨a, z, rfl, .inr ⟨_, k, b, hd, rfl, hb, by rw [valV_zip ks us hl, e2]; exact hz.symm⟩, o z J H le h2⟩
  · exact o.elim
theorem z_dget {a b : Expr} {pos : Pos} {oa ob : Opd} (hu : Γ.A.units + 1 < cLine) (ha : PE Γ a (tO X W oa)) (hb : PE Γ b (tO X W ob)) (hs : NoSl b) : PE Γ (.Subscript a b pos) (tE X W (mApp oDGet [oa, ob])) :=
  PEi (pe_dget hu ha hb hs) fun σ H Q h => app_run od_dget h
/-! ### d[k] = e, of a dict at a name -/
def sDict (i : Nat) (m mk : M) : S := fun env => match m env with
  | .ok r e1 => (match e1[i]? with
    | some (.node (.dt true _) _) => (match mk e1 with
      | .ok kd e2 => (match keyOf kd with
        | some k => (match e2[i]? with
          | some (.node (.dt true ks) xs) => (match dAt ks k with
            | some o => if xs.length < 100000 then .nx (e2.set i (.node (.dt true (dKs ks k o)) (dXs xs r o))) else .bad
            | none => .bad)
          | _ => .bad)
        | none => .bad)
      | .exc c ns xs e => .exc c ns xs e
      | .bad => .bad)
    | _ => .bad)
  | .exc c ns xs e => .exc c ns xs e
  | .bad => .bad
theorem hs_dput {w : Wd} {I F H : Hp} {ds : List D} {vs : List V} {r : D} {y : V} {ks : List (List Key)} {xs : List D} {v : V} {k : List Key} {o : Option Nat} (h : Hs w I F (r :: .node (.dt true ks) xs :: ds) (y :: v :: vs) H) (ho : dAt ks k = some o) :
    ∃ a us, v = .ref a ∧ H a = some (.dT (ks.zip us)) ∧ ks.length = us.length ∧ xs.length = us.length ∧ Hs w I F (.node (.dt true (dKs ks k o)) (dXs xs r o) :: ds) (v :: vs) (upd H a (.dT ((dKs ks k o).zip (dXs us y o)))) := by
  obtain ⟨a, us, G, rfl, hl, hf, hat, hs, _, close⟩ := h.swap.open rfl
  have hf : ks.length = us.length := hf
  refine ⟨a, us, rfl, hat, hf, hl, ?_⟩
  have h1 := hs.front hl
  cases o with
  | none =>
    have h2 : Hs w I G ((xs ++ [r]) ++ ds) ((us ++ [y]) ++ vs) H := by
      have h3 : Hs w I G (([r] ++ xs) ++ ds) (([y] ++ us) ++ vs) H := h1
      have hl2 : ([r] ++ xs).length = ([y] ++ us).length := by simp [hl]
      obtain ⟨fp, rr, nd, dj⟩ := h3.ex
      obtain ⟨f1, f2, rfl, r1, r2⟩ := rr.split hl2
      obtain ⟨g1, g2, rfl, q1, q2⟩ := r1.split (ds := [r]) (vs := [y]) rfl
      have p : List.Perm ((g1 ++ g2) ++ f2) ((g2 ++ g1) ++ f2) := List.Perm.append_right f2 List.perm_append_comm
      exact h3.of_sub ((q2.append q1).append r2) rr nd dj (p.nodup_iff.mp nd) fun b m => p.symm.subset m
    exact close I (.dt true (ks ++ [k])) (xs ++ [r]) (us ++ [y]) ds vs H (.dT ((ks ++ [k]).zip (us ++ [y]))) (Le.refl _) h2 (by simp [hl]) rfl (show (ks ++ [k]).length = (us ++ [y]).length by simpa using hf) (show upd H a _ a = some _ from upd_same)
  | some j =>
    have hj : j < xs.length := by
      unfold dAt at ho
      cases e : (ks.findIdx? fun x => decide (x = k)) with
      | none => rw [e] at ho; cases ho
      | some i =>
        obtain ⟨hi, _⟩ := List.findIdx?_eq_some_iff_getElem.mp e
        simp only [e] at ho
        split at ho
        · cases ho
          have : ks.length = us.length := hf
          omega
        · cases ho
    have h2 := h1.set (i := j) (by rw [List.length_append]; omega)
    rw [List.set_append_left _ _ hj, List.set_append_left _ _ (by omega)] at h2
    exact close I (.dt true ks) (xs.set j r) (us.set j y) ds vs H (.dT (ks.zip (us.set j y))) (Le.refl _) h2 (by simp [hl]) rfl (show ks.length = (us.set j y).length by simpa using hf) (show upd H a _ a = some _ from upd_same)
theorem dict_run {i : Nat} {m mk : M} {E : Ends} {σ : L2.St} {H : Hp} (q : tS X W (sDict i m mk) E σ H) : sDPut (tVar i) (tE X W mk) (tE X W m) E σ H := by
  obtain ⟨I, F, env, hs, er, o⟩ := q
  refine ⟨I, F, env, hs, er, ?_⟩
  unfold sDict at o
  cases hm : m env with
  | bad => simp only [hm] at o; exact o.elim
  | exc c ns xs e => simp only [hm] at o; exact fun cls d I' H' le h' er' x => o cls d σ I' H' le h' er' x
  | ok r e1 =>
    simp only [hm] at o
    intro y I1 H1 le1 h1 er1
    split at o
    · rename_i ks0 xs0 hd0
      obtain ⟨v, hv⟩ := er1.on i _ hd0 (fun z => nomatch z)
      obtain ⟨G, hg, back⟩ := Hs.push (ds := [r]) (vs := [y]) h1 rfl
      refine ⟨v, hv, I1, G, e1, hg, er1, ?_⟩
      cases hmi : mk e1 with
      | bad => simp only [hmi] at o; exact o.elim
      | exc c ns xs e =>
        simp only [hmi] at o
        intro cls d I2 H2 le2 h2 er2 x
        exact o cls d σ I2 H2 (le1.trans le2) (back I2 _ _ H2 le2 h2).drop er2 x
      | ok kd e2 =>
        simp only [hmi] at o
        intro u I2 H2 le2 h2 er2
        cases hk : keyOf kd with
        | none => simp only [hk] at o; exact o.elim
        | some k =>
          simp only [hk] at o
          obtain ⟨b, rfl, hb⟩ := h2.key hk
          split at o
          · rename_i ks xs hd
            cases ha : dAt ks k with
            | none => simp only [ha] at o; exact o.elim
            | some oo =>
              simp only [ha] at o
              by_cases hz : xs.length < 100000
              · rw [if_pos hz] at o
                have h3 : Hs X.w I2 F ([r] ++ e2) ([y] ++ σv σ) H2 := back I2 _ _ H2 le2 h2.drop
                obtain ⟨v', e', h4⟩ := Hs.take h3 rfl hd
                have ev : v' = v := Option.some.inj (e'.symm.trans (σv_at hv))
                subst ev
                obtain ⟨a, us, rfl, hat, hl, hl2, h5⟩ := hs_dput (Hs.swap h4) ha
                have lt : i < e2.length := (List.getElem?_eq_some_iff.mp hd).1
                have h6 := Hs.put (es := []) (us := []) (i := i) h5 rfl (by rw [List.getElem?_set_self lt]) e'
                rw [set_set] at h6
                refine ⟨a, _, rfl, .inr ⟨_, k, b, hat, rfl, hb, ?_, by rw [putK_zip hl ha]⟩, o σ I2 _ (le1.trans le2) h6 (er2.set hd fun _ z => nomatch z)⟩
                rw [List.length_zip, hl, Nat.min_self, ← hl2]
                exact szL hz
              · rw [if_neg hz] at o
                exact o.elim
          · exact o.elim
    · exact o.elim
theorem s_dict {x : Str} {i : Nat} {ei value : Expr} {pos pos' p : Pos} {m mk : M} (hu : Γ.A.units + 1 < cLine) (ha : PE Γ (.Name x p) (tVar i)) (hv : PE Γ value (tE X W m)) (hi : PE Γ ei (tE X W mk)) (hs : swapsWith value (some (.Subscript (.Name x p) ei pos')) pos.line Γ.env = pure false := by rfl) :
    PS Γ (.Assign [.Subscript (.Name x p) ei pos'] value pos) (tS X W (sDict i m mk)) := PSi (ps_dput hu ha hi hv hs) fun E σ H q => dict_run q
end
end Z

set_option Elab.async false
set_option linter.all false
set_option maxRecDepth 100000
set_option maxHeartbeats 4000000
/-! ZS: list(d), of a dict whose keys are tuples. -/
namespace Z
open PySem PySem.Spec PyProof.Rows L2 StX
section
variable {prog : Program} {w : World}
theorem walks_ents {A : Around} (hh : A.handled = none) (I d : Addr) (hne : d ≠ I) {o : Obj} {es : Array DictEntry} {ep : Nat} (hdat : o.data = .dict es ep) :
    PySem.Walks prog w A I [I, d] [I] es.size (fun i v => ∃ en : DictEntry, es[i]? = some en ∧ v = en.key) (fun i h => h.IsKeyIter I d i es.size ep ∧ h.get? d = some o) where
  sub := fun b hb => by simp at hb; simp [hb]
  frame := fun _ _ _ st hk => ⟨st.1.at fun o e => hk I (by simp) o e, hk d (by simp) _ st.2⟩
  item := fun i s Q E hi st hQ => by
    have hx := Array.getElem?_eq_getElem hi
    refine next_key_item st.1 st.2 hdat rfl hx fun h' hit' hs' => ?_
    exact hQ _ h' s.toks ⟨_, hx, rfl⟩ ⟨hit', (hs'.2 d hne).trans st.2⟩ fun b o hb e => hs'.extBut b o (fun h => hb (by simp [h])) e
  done := fun s Q E st hQ => next_key_end hh st.1 st.2 hdat rfl (Nat.le_refl _) fun h' he' => hQ h' s.toks fun b o hb e => he' b o (fun h => hb (by simp [h])) e
  self := fun _ _ _ _ st hQ => wpAny_pyIter_keyiter st.1 hQ
theorem kdl_ents {d : Addr} {o : Obj} {es : Array DictEntry} {ep : Nat} (lo : (d == sysModules) = false) (hc : o.ExactDict) (hdat : o.data = .dict es ep) :
    PySem.W.KdlSrc prog w "dict" d d es.size (fun i v => ∃ en : DictEntry, es[i]? = some en ∧ v = en.key) (fun h => h.get? d = some o) where
  type := fun s ho => ⟨o, ho, hc.1⟩
  there := fun _ ho => ⟨Heap.lt_size ho, Heap.lt_size ho⟩
  keep := fun _ _ ho hk => hk d (.inl rfl) _ ho
  notList := by decide
  notTuple := by decide
  hint := fun _ _ s _ ho hq => PySem.W.kdl_hint_dict ⟨o, ho, hc.1⟩ hq
  iter := fun _ _ hh ho => ⟨_, _, (fun _ _ hq => iter_keys lo ho hc hdat hq), walks_ents hh _ d (Nat.ne_of_lt (Heap.lt_size ho)) hdat, ⟨⟨_, Heap.get?_push_size _ rfl, rfl, rfl⟩, Heap.get?_push_of_some _ ho⟩⟩
end
def rListT : List V → Hp → VK → Prop := fun xs H Q => ∃ (a : Addr) (kvs : List (List Key × V)), xs = [.ref a] ∧ Rd H a (.dT kvs) ∧
  ∀ (qs : List Addr) (p : Addr), qs.length = kvs.length → (∀ (i : Nat) (k : List Key) (v : V), kvs[i]? = some (k, v) → ∃ q, qs[i]? = some q ∧ H q = some (.tup (k.map kV))) → H p = none → Q (.ref p) (upd H p (.lst (qs.map V.ref)))
theorem dT_ents {Γ : Cx} {pins : List (Addr × Obj)} {σ : L2.St} {H : Hp} {s : Shared} {a : Addr} {kvs : List (List Key × V)} (I : Inv Γ pins σ H s) (h : Rd H a (.dT kvs)) :
    kvs.length ≤ sizeLine ∧ (a == sysModules) = false ∧ ∃ (o : Obj) (es : Array DictEntry) (ep : Nat), s.heap.get? a = some o ∧ o.ExactDict ∧ o.data = .dict es ep ∧ es.size = kvs.length ∧
      ∃ qs : List Addr, qs.length = kvs.length ∧ ∀ (i : Nat) (k : List Key) (v : V), kvs[i]? = some (k, v) → ∃ (en : DictEntry) (q : Addr), es[i]? = some en ∧ qs[i]? = some q ∧ en.key = .ref q ∧ H q = some (.tup (k.map kV)) := by
  obtain ⟨z, y, xs, r, o, es, ep, h1, h2, h3, h4, h5⟩ := (show ObjOk Γ.prog Γ.w H s.heap a (.dT kvs) from rd_of I.hok h)
  have l1 : es.size = xs.length := size_of_entries h4
  have l2 : kvs.length = xs.length := Paired.length r
  refine ⟨z, y, o, es, ep, h1, h2, h3, by omega, xs.map (·.2.1), by simp [l2], fun i k v e => ?_⟩
  obtain ⟨b, hb, e1, e2, _⟩ := paired_get r e
  have q := entry_at h4 i
  rw [hb] at q
  exact ⟨_, b.2.1, q, by rw [List.getElem?_map, hb]; rfl, rfl, e2⟩
theorem call_listT {Γ : Cx} (hc : Γ.calm = true) : CallR Γ (.type "list") rListT := by
  intro pins s σ H xs us Q I r q
  obtain ⟨a, kvs, rfl, hd, q⟩ := q
  rw [Vals.ref1 r]
  obtain ⟨z, lo, o, es, ep, h1, h2, h3, h4, qs, lq, hk⟩ := dT_ents I hd
  refine PySem.W.kdl_call (kdl_ents lo h2 h3) (I.ok.hd hc) h1 (by omega) fun h' tk acc c' hkeep hD hacc => ?_
  have hv : Vals (qs.map V.ref) acc.toList := by
    have e : acc.toList = qs.map Value.ref := by
      apply List.ext_getElem?
      intro i
      have hl : acc.toList.length = qs.length := by rw [Array.length_toList, hacc.1, h4, lq]
      by_cases hi : i < qs.length
      · obtain ⟨⟨k, v⟩, hkv⟩ : ∃ p, kvs[i]? = some p := ⟨kvs[i], List.getElem?_eq_getElem (by omega)⟩
        obtain ⟨en, q1, e1, e2, e3, e4⟩ := hk i k v hkv
        have hia : i < acc.toList.length := by omega
        rw [List.getElem?_map, e2, List.getElem?_eq_getElem hia]
        obtain ⟨en2, e5, e6⟩ := hacc.2 i acc.toList[i] (by rw [← Array.getElem?_toList, List.getElem?_eq_getElem hia])
        rw [e1] at e5
        cases e5
        rw [e6, e3]
        rfl
      · rw [List.getElem?_eq_none (by omega), List.getElem?_eq_none (by rw [List.length_map]; omega)]
    rw [e]
    have : ∀ l : List Addr, Vals (l.map V.ref) (l.map Value.ref) := fun l => by
      induction l with
      | nil => exact .nil
      | cons x l ih => exact .cons rfl ih
    exact this qs
  refine ⟨.ref s.heap.objs.size, upd H s.heap.objs.size (.lst (qs.map V.ref)), I.laid (t' := tk) hkeep (Nat.le_refl _)
    (show ObjOk Γ.prog Γ.w _ _ _ (.lst (qs.map V.ref)) from ⟨by rw [List.length_map]; omega, acc.toList, c', hv, by rw [Array.toArray_toList]; exact hD⟩), rfl, q qs _ lq (fun i k v e => ?_) (I.hok.fresh (Nat.le_refl _))⟩
  obtain ⟨en, q1, _, e2, _, e4⟩ := hk i k v e
  exact ⟨q1, e2, e4⟩
end Z

set_option Elab.async false
set_option linter.all false
set_option maxRecDepth 100000
set_option maxHeartbeats 4000000
/-! ZT: keys that are held; list(d); dicts locked while they are gone through. -/
namespace Z
open PySem PySem.Spec PyProof.Rows L2 StX
section
variable {w : Wd} {I F H : Hp} {ds : List D} {vs : List V}
/-- a tuple of the heap is among what stays -/
theorem Hs.tupIn {q : Addr} {us : List V} (h : Hs w I F ds vs H) (e : H q = some (.tup us)) : ∃ J, Le I J ∧ Hs w J F ds vs H ∧ J q = some (.tup us) := by
  cases hI : I q with
  | some o =>
    have := (h.iF q o hI).1
    rw [e] at this
    cases this
    exact ⟨I, Le.refl _, h, hI⟩
  | none =>
    have pF : F q = none := by
      cases eF : F q with
      | none => rfl
      | some o =>
        have := h.fH q o eF
        rw [e] at this
        cases this
        exact absurd eF (h.fT q us)
    obtain ⟨fp, r, nd, dj⟩ := h.ex
    have nq : q ∉ fp := fun m => RepL.notup _ _ _ r q m us e
    have le : Le I (upd I q (.tup us)) := Le.new hI
    refine ⟨upd I q (.tup us), le, ⟨⟨fp, RepL.frame le ds vs fp (fun _ _ => rfl) r, nd, fun a m => ⟨?_, (dj a m).2⟩⟩, fun a o ea => ?_, h.fH, h.fT, h.lkI.trans le, h.fkF⟩, upd_same⟩
    · rw [upd_ne (fun e2 => nq (by rw [← e2]; exact m))]
      exact (dj a m).1
    · by_cases qa : a = q
      · subst qa
        rw [upd_same] at ea
        cases ea
        exact ⟨e, pF⟩
      · rw [upd_ne qa] at ea
        exact h.iF a o ea
def kD : Key → D
  | .inl i => .int i
  | .inr x => .str x
def keyD (k : List Key) : D := .node .tup (k.map kD)
theorem repL_keys {I H : Hp} : ∀ k : List Key, RepL w I H (k.map kD) (k.map kV) []
  | [] => .nil
  | .inl i :: ks => RepL.cons (f1 := []) (by show Rep w I H (.int i) (.int i) []; unfold Rep; exact ⟨rfl, rfl⟩) (repL_keys ks)
  | .inr x :: ks => RepL.cons (f1 := []) (by show Rep w I H (.str x) (.str x) []; unfold Rep; exact ⟨rfl, rfl⟩) (repL_keys ks)
theorem Hs.keyIn {q : Addr} {k : List Key} (h : Hs w I F ds vs H) (e : H q = some (.tup (k.map kV))) : ∃ J, Le I J ∧ Hs w J F (keyD k :: ds) (.ref q :: vs) H := by
  obtain ⟨J, le, h2, hJ⟩ := h.tupIn e
  obtain ⟨fp, r, nd, dj⟩ := h2.ex
  have rk : Rep w J H (keyD k) (.ref q) [] := by
    unfold keyD Rep
    exact ⟨q, k.map kV, [], rfl, repL_keys k, trivial, .inr ⟨rfl, hJ, rfl⟩⟩
  exact ⟨J, le, h2.of_sub (RepL.cons (f1 := []) rk r) r nd dj nd fun a m => m⟩
theorem Hs.keysIn : ∀ {I : Hp} (ks : List (List Key)) (qs : List Addr), Hs w I F ds vs H → qs.length = ks.length → (∀ (i : Nat) (k : List Key), ks[i]? = some k → ∃ q, qs[i]? = some q ∧ H q = some (.tup (k.map kV))) → ∃ J, Le I J ∧ Hs w J F (ks.map keyD ++ ds) (qs.map V.ref ++ vs) H
  | I, [], qs, h, hl, _ => by
    have : qs = [] := List.length_eq_zero_iff.mp hl
    subst this
    exact ⟨I, Le.refl _, h⟩
  | I, k :: ks, [], h, hl, _ => by cases hl
  | I, k :: ks, q :: qs, h, hl, hk => by
    obtain ⟨J, le, h2⟩ := Hs.keysIn ks qs h (by simpa using hl) fun i k' e => hk (i + 1) k' e
    obtain ⟨q', e1, e2⟩ := hk 0 k rfl
    cases e1
    obtain ⟨J2, le2, h3⟩ := h2.keyIn e2
    exact ⟨J2, le.trans le2, h3⟩
/-! ### list(d) -/
def oListT : Op
  | [.node (.dt o ks) xs] => .ok (.node (.lst true) (ks.map keyD)) [.node (.dt o ks) xs]
  | _ => .bad
theorem od_listT : OpD w (rN rListT) oListT := fun I F es us H Q E hs o => by
  unfold oListT at o
  split at o
  · rename_i ow ks xs
    match us, hs.length, hs, o with
    | [v], _, hs, o =>
      obtain ⟨a, us, fp, rfl, hd, hl, r⟩ := hs.dict
      refine ⟨a, ks.zip us, rfl, hd, fun qs p lq hk np => ?_⟩
      have lz : (ks.zip us).length = ks.length := by rw [List.length_zip, hl, Nat.min_self]
      obtain ⟨J, le, h2⟩ := Hs.keysIn ks qs hs (by omega) fun i k e => by
        obtain ⟨hi, _⟩ := List.getElem?_eq_some_iff.mp e
        have hi2 : i < us.length := by omega
        exact hk i k us[i] (by rw [List.getElem?_zip_eq_some]; exact ⟨e, List.getElem?_eq_getElem hi2⟩)
      exact o (.ref p) J _ le (Hs.newO (t := .lst true) h2 (by simp; omega) np rfl trivial (show upd H p (.lst (qs.map V.ref)) p = some (.lst (qs.map V.ref)) from upd_same))
  · exact o.elim
/-! ### locks -/
/-- two views of one dict -/
inductive Two : HO → HO → Prop where
  | lock (kvs : List (List Key × V)) (od : Obj) : Two (.dT kvs) (.frz od (.dT kvs))
  | open (kvs : List (List Key × V)) (od : Obj) : Two (.frz od (.dT kvs)) (.dT kvs)
  | lockN (φ : Heap → Prop) (od : Obj) : Two (.ext φ) (.frz od (.ext φ))
  | openN (φ : Heap → Prop) (od : Obj) : Two (.frz od (.ext φ)) (.ext φ)
theorem FroAt.two {w w' : Wd} {I : Hp} {a b : Addr} {x y : HO} {t : Tag} {vs : List V} (hK : w'.K = w.K) (hA : (w'.cA, w'.wd) = (w.cA, w.wd)) (hx : I a = some x) (T : Two x y) (h : FroAt w I b t vs) : FroAt w' (upd I a y) b t vs := by
  by_cases e : b = a
  · subst e
    cases t with
    | tup => rw [show I b = some (.tup vs) from h] at hx; cases hx; cases T
    | tux =>
      obtain ⟨od, h, n⟩ := h
      rw [h] at hx
      cases hx
      cases T
    | scr =>
      rcases (show SqL w.K I b vs from h) with (h | ⟨od, h⟩) | h
      · rw [h] at hx; cases hx; cases T
      · rw [h] at hx; cases hx; cases T
      · exact Or.inr (by rw [hK]; exact h)
    | lst o => rw [show I b = some (.lst vs) from h] at hx; cases hx; cases T
    | dk o ks =>
      rcases (show Rd I b (.dK (ks.zip vs)) from h) with h | ⟨od, h⟩
      · rw [h] at hx; cases hx; cases T
      · rw [h] at hx; cases hx; cases T
    | dt o ks =>
      rcases (show Rd I b (.dT (ks.zip vs)) from h) with h | ⟨od, h⟩
      · rw [h] at hx
        cases hx
        cases T
        exact .inr ⟨_, upd_same⟩
      · rw [h] at hx
        cases hx
        cases T
        exact .inl upd_same
    | dn o ks =>
      show Rd _ b (ndHO w'.wd b (dnz ks vs))
      rw [(Prod.mk.inj hA).2]
      rcases (show Rd I b (.ext (NdAt w.wd b (dnz ks vs))) from h) with h | ⟨od, h⟩
      · rw [h] at hx
        cases hx
        cases T
        exact .inr ⟨_, upd_same⟩
      · rw [h] at hx
        cases hx
        cases T
        exact .inl upd_same
    | ins o c ns =>
      obtain ⟨dx, h⟩ := h
      rw [h] at hx
      cases hx
      cases T
  · have e2 : (upd I a y) b = I b := upd_ne e
    cases t with
    | tup => exact e2.trans h
    | tux => obtain ⟨od, h, n⟩ := h; exact ⟨od, e2.trans h, n⟩
    | scr =>
      rcases (show SqL w.K I b vs from h) with (h | ⟨od, h⟩) | h
      · exact Or.inl (Or.inl (e2.trans h))
      · exact Or.inl (Or.inr ⟨od, e2.trans h⟩)
      · exact Or.inr (by rw [hK]; exact h)
    | lst o => exact e2.trans h
    | dk o ks =>
      rcases (show Rd I b (.dK (ks.zip vs)) from h) with h | ⟨od, h⟩
      · exact .inl (e2.trans h)
      · exact .inr ⟨od, e2.trans h⟩
    | dt o ks =>
      rcases (show Rd I b (.dT (ks.zip vs)) from h) with h | ⟨od, h⟩
      · exact .inl (e2.trans h)
      · exact .inr ⟨od, e2.trans h⟩
    | dn o ks =>
      show Rd _ b (ndHO w'.wd b (dnz ks vs))
      rw [(Prod.mk.inj hA).2]
      rcases (show Rd I b (ndHO w.wd b (dnz ks vs)) from h) with h | ⟨od, h⟩
      · exact .inl (e2.trans h)
      · exact .inr ⟨od, e2.trans h⟩
    | ins o c ns => obtain ⟨dx, h⟩ := h; exact ⟨dx, by rw [(Prod.mk.inj hA).1]; exact e2.trans h⟩
theorem OwnAt.two {w w' : Wd} {H : Hp} {a b : Addr} {y : HO} {t : Tag} {vs : List V} (hA : (w'.cA, w'.wd) = (w.cA, w.wd)) (e : b ≠ a) (h : OwnAt w H b t vs) : OwnAt w' (upd H a y) b t vs := by
  have e2 : (upd H a y) b = H b := upd_ne e
  cases t with
  | tup => exact e2.trans h
  | tux => obtain ⟨od, h, n⟩ := h; exact ⟨od, e2.trans h, n⟩
  | scr => exact e2.trans h
  | lst o => exact e2.trans h
  | dk o ks => exact e2.trans h
  | dt o ks => exact e2.trans h
  | dn o ks =>
    show upd H a y b = Option.some (ndHO w'.wd b (dnz ks vs))
    rw [(Prod.mk.inj hA).2]
    exact e2.trans h
  | ins o c ns => obtain ⟨dx, h⟩ := h; exact ⟨dx, by rw [(Prod.mk.inj hA).1]; exact e2.trans h⟩
mutual
theorem Rep.two {w w' : Wd} {I H : Hp} {a : Addr} {x y : HO} (hK : w'.K = w.K) (hA : (w'.cA, w'.wd) = (w.cA, w.wd)) (hx : I a = some x) (T : Two x y) : ∀ (d : D) (v : V) (fp : List Addr), a ∉ fp → Rep w I H d v fp → Rep w' (upd I a y) (upd H a y) d v fp
  | .any, v, fp, _, h => by unfold Rep at h ⊢; exact h
  | .non, v, fp, _, h => by unfold Rep at h ⊢; exact h
  | .bl b, v, fp, _, h => by unfold Rep at h ⊢; exact h
  | .int i, v, fp, _, h => by unfold Rep at h ⊢; exact h
  | .str s, v, fp, _, h => by unfold Rep at h ⊢; exact h
  | .node t xs, v, fp, na, h => by
    unfold Rep at h ⊢
    obtain ⟨b, vs, fp', rfl, hl, hf, h⟩ := h
    rcases h with ⟨ho, h, rfl⟩ | ⟨ho, h, rfl⟩
    · exact ⟨b, vs, fp', rfl, RepL.two hK hA hx T xs vs fp' (fun m => na (List.mem_cons_of_mem _ m)) hl, hf, .inl ⟨ho, h.two hA (fun e => na (by rw [← e]; exact List.mem_cons_self ..)), rfl⟩⟩
    · exact ⟨b, vs, fp, rfl, RepL.two hK hA hx T xs vs fp na hl, hf, .inr ⟨ho, h.two hK hA hx T, rfl⟩⟩
theorem RepL.two {w w' : Wd} {I H : Hp} {a : Addr} {x y : HO} (hK : w'.K = w.K) (hA : (w'.cA, w'.wd) = (w.cA, w.wd)) (hx : I a = some x) (T : Two x y) : ∀ (ds : List D) (vs : List V) (fp : List Addr), a ∉ fp → RepL w I H ds vs fp → RepL w' (upd I a y) (upd H a y) ds vs fp
  | [], vs, fp, _, h => by unfold RepL at h ⊢; exact h
  | d :: ds, vs, fp, na, h => by
    unfold RepL at h ⊢
    obtain ⟨v, us, f1, f2, rfl, rfl, h1, h2⟩ := h
    exact ⟨v, us, f1, f2, rfl, rfl, Rep.two hK hA hx T d v f1 (fun m => na (List.mem_append_left _ m)) h1, RepL.two hK hA hx T ds us f2 (fun m => na (List.mem_append_right _ m)) h2⟩
end
theorem Hs.two {w w' : Wd} {I F H : Hp} {ds : List D} {vs : List V} {a : Addr} {x y : HO} (h : Hs w I F ds vs H) (hK : w'.K = w.K) (hA : (w'.cA, w'.wd) = (w.cA, w.wd)) (hx : I a = some x) (T : Two x y) (hl : Le w'.lk (upd I a y)) (hfk : w'.fk = w.fk) : Hs w' (upd I a y) F ds vs (upd H a y) := by
  obtain ⟨fp, r, nd, dj⟩ := h.ex
  have na : a ∉ fp := fun m => by
    have := (dj a m).1
    rw [hx] at this
    cases this
  have aF := (h.iF a x hx).2
  refine ⟨⟨fp, RepL.two hK hA hx T ds vs fp na r, nd, fun b m => ⟨?_, (dj b m).2⟩⟩, fun b o e => ?_, fun b o e => ?_, h.fT, hl, by rw [hfk]; exact h.fkF⟩
  · rw [upd_ne (fun e => na (by rw [← e]; exact m))]
    exact (dj b m).1
  · by_cases q : b = a
    · subst q
      rw [upd_same] at e ⊢
      exact ⟨e, aF⟩
    · rw [upd_ne q] at e ⊢
      exact h.iF b o e
  · have nb : b ≠ a := fun q => by rw [q, aF] at e; cases e
    rw [upd_ne nb]
    exact h.fH b o e
end
end Z

set_option Elab.async false
set_option linter.all false
set_option maxRecDepth 100000
set_option maxHeartbeats 4000000
/-! ZU: for k in d. -/
namespace Z
open PySem PySem.Spec PyProof.Rows L2 StX
/-- the dict at slot i is locked, and stays in its slot -/
def Lkd (X : Fx) (i : Nat) : Prop := ∃ (a : Addr) (od : Obj) (kvs : List (List Key × V)), X.w.lk a = some (.frz od (.dT kvs)) ∧ X.vs0[i]? = some (.ref a) ∧ i ∈ X.pin
theorem walks_keys {w : Wd} {I : Hp} {a : Addr} {od : Obj} {ks : List (List Key)} {us : List V} (hl : ks.length = us.length) (h : I a = some (.frz od (.dT (ks.zip us)))) : Walks w (Itkt a od (ks.zip us)) I (ks.map keyD) where
  go := fun i I0 F ds vs H hs le hi => ⟨hs.iH a _ (le a _ h), by
    rw [List.length_map] at hi
    rw [List.length_zip, hl, Nat.min_self]
    omega⟩
  stop := fun I0 F ds vs H hs le => ⟨hs.iH a _ (le a _ h), by
    rw [List.length_map, List.length_zip, hl, Nat.min_self]
    omega⟩
  yld := fun i d I0 F ds vs H x H' hs le hd y => by
    obtain ⟨rfl, k, v, q, hkv, rfl, hq⟩ := y
    rw [List.getElem?_zip_eq_some] at hkv
    rw [List.getElem?_map, hkv.1] at hd
    cases hd
    exact hs.keyIn hq
section
variable {Γ : Cx} {X : Fx} {W : WX}
mutual
theorem Rep.wd {K : PySem.W.Frag} {wo : World} {cA : Str → Addr} {l l' m : Hp} {I H : Hp} : ∀ (d : D) (v : V) (fp : List Addr), Rep ⟨K, wo, cA, l, m⟩ I H d v fp → Rep ⟨K, wo, cA, l', m⟩ I H d v fp
  | .any, v, fp, h => by unfold Rep at h ⊢; exact h
  | .non, v, fp, h => by unfold Rep at h ⊢; exact h
  | .bl b, v, fp, h => by unfold Rep at h ⊢; exact h
  | .int i, v, fp, h => by unfold Rep at h ⊢; exact h
  | .str s, v, fp, h => by unfold Rep at h ⊢; exact h
  | .node t xs, v, fp, h => by
    unfold Rep at h ⊢
    obtain ⟨b, vs, fp', rfl, hl, hf, h⟩ := h
    refine ⟨b, vs, fp', rfl, RepL.wd xs vs fp' hl, hf, ?_⟩
    rcases h with ⟨ho, h, e⟩ | ⟨ho, h, e⟩
    · exact .inl ⟨ho, by cases t <;> exact h, e⟩
    · exact .inr ⟨ho, by cases t <;> exact h, e⟩
theorem RepL.wd {K : PySem.W.Frag} {wo : World} {cA : Str → Addr} {l l' m : Hp} {I H : Hp} : ∀ (ds : List D) (vs : List V) (fp : List Addr), RepL ⟨K, wo, cA, l, m⟩ I H ds vs fp → RepL ⟨K, wo, cA, l', m⟩ I H ds vs fp
  | [], vs, fp, h => by unfold RepL at h ⊢; exact h
  | d :: ds, vs, fp, h => by
    unfold RepL at h ⊢
    obtain ⟨v, us, f1, f2, rfl, rfl, h1, h2⟩ := h
    exact ⟨v, us, f1, f2, rfl, rfl, Rep.wd d v f1 h1, RepL.wd ds us f2 h2⟩
end
theorem Hs.relk {K : PySem.W.Frag} {wo : World} {cA : Str → Addr} {l l' m : Hp} {I F H : Hp} {ds : List D} {vs : List V} (h : Hs ⟨K, wo, cA, l, m⟩ I F ds vs H) (hl : Le l' I) : Hs ⟨K, wo, cA, l', m⟩ I F ds vs H := by
  obtain ⟨fp, r, nd, dj⟩ := h.ex
  exact ⟨⟨fp, RepL.wd ds vs fp r, nd, dj⟩, h.iF, h.fH, h.fT, hl, h.fkF⟩
/-- the keys of the dict at a name -/
def iKeysP (i : Nat) : Src := fun env => match env[i]? with
  | some (.node (.dt _ ks) _) => .ok (ks.map keyD) env
  | _ => .bad
theorem i_keys {tg : Expr} {x : Str} {p : Pos} {i : Nat} (hx : PE Γ (.Name x p) (tVar i)) (hk : Lkd X i) : PI Γ tg (.Name x p) (tI X W (iKeysP i)) := PIi (pi_keys hx) fun σ H R q => by
  obtain ⟨I, F, env, hs, er, o⟩ := q
  unfold iKeysP at o
  split at o
  · rename_i ow ks xs hd
    obtain ⟨a, od, kvs, h1, h2, h3⟩ := hk
    have hv := er.pin i h3 _ h2
    have hI := hs.lkI a _ h1
    obtain ⟨v', e', h4⟩ := Hs.take (es := []) (us := []) hs rfl hd
    have ev : v' = .ref a := Option.some.inj (e'.symm.trans (σv_at hv))
    subst ev
    obtain ⟨a', us, fp, e5, hr, hl, _⟩ := h4.dict
    cases e5
    have hH := hs.iH a _ hI
    have ez : kvs = ks.zip us := by
      rcases hr with hr | ⟨od', hr⟩
      · rw [hH] at hr; cases hr
      · rw [hH] at hr; cases hr; rfl
    subst ez
    exact ⟨_, hv, a, od, rfl, .inr ⟨_, hH, o _ I H (Le.refl I) hs er (walks_keys hl hI)⟩⟩
  · exact o.elim
/-- a statement run while the dict at slot i is locked; nothing is raised in it -/
def sLk (i : Nat) (s : S) : S := fun env => match env[i]? with
  | some (.node (.dt _ ks) xs) => (match s (env.set i (.node (.dt false ks) (frzL xs))) with
    | .exc _ _ _ _ => .bad
    | r => r)
  | _ => .bad
theorem s_lock {st : Stmt} {i : Nat} {w : Wd} {pin : List Nat} {vs0 : List V} {s : S} (hpin : ∀ j ∈ pin, j < vs0.length)
    (h : ∀ (lk' : Hp) (vs' : List V), (∀ j ∈ i :: pin, j < vs'.length) → Lkd ⟨⟨w.K, w.wd, w.cA, lk', w.fk⟩, i :: pin, vs'⟩ i → PS Γ st (tS ⟨⟨w.K, w.wd, w.cA, lk', w.fk⟩, i :: pin, vs'⟩ W s)) : PS Γ st (tS ⟨w, pin, vs0⟩ W (sLk i s)) := by
  have h1 : PS Γ st (fun E σ H => ∃ (lk' : Hp) (vs' : List V), (∀ j ∈ i :: pin, j < vs'.length) ∧ Lkd ⟨⟨w.K, w.wd, w.cA, lk', w.fk⟩, i :: pin, vs'⟩ i ∧ tS ⟨⟨w.K, w.wd, w.cA, lk', w.fk⟩, i :: pin, vs'⟩ W s E σ H) := ⟨fun pins sh σ H D I q => by
    obtain ⟨lk', vs', c1, c3, q⟩ := q
    exact (h lk' vs' c1 c3).run pins sh σ H D I q⟩
  have h2 := ps_lock h1
  refine ⟨fun pins sh σ H E Iv q => ?_⟩
  obtain ⟨I, F, env, hs, er, o⟩ := q
  unfold sLk at o
  split at o
  · rename_i ow ks xs hd
    obtain ⟨v, J, hv, le, h3⟩ := hs_read hs er hd (fun z => nomatch z)
    obtain ⟨a, us, fp, rfl, hr, hl, _⟩ := Hs.dict (o := false) (ks := ks) (xs := frzL xs) h3
    have h4 : Hs w J F (env.set i (.node (.dt false ks) (frzL xs))) (σv σ) H := h3.drop
    have hrJ : Rd J a (.dT (ks.zip us)) := by
      obtain ⟨fp, r⟩ := h3.head
      have r2 : Rep w J H (.node (.dt false ks) (frzL xs)) (.ref a) fp := r
      unfold Rep at r2
      obtain ⟨a2, us2, fp2, e2, _, hf2, q2⟩ := r2
      cases e2
      rcases q2 with ⟨z, _, _⟩ | ⟨_, hat, _⟩
      · cases z
      · have hat' : Rd J a (.dT (ks.zip us2)) := hat
        have hH := le_rd h3.iH hat'
        have key : ∀ x y : List (List Key × V), Rd H a (.dT x) → Rd H a (.dT y) → x = y := fun x y hx hy => by
          rcases hx with hx | ⟨ox, hx⟩ <;> rcases hy with hy | ⟨oy, hy⟩ <;> rw [hx] at hy <;> cases hy <;> rfl
        rw [key _ _ hr hH]
        exact hat'
    have er1 : ∀ (w' : Wd), EnvR ⟨w', i :: pin, σv σ⟩ σ (env.set i (.node (.dt false ks) (frzL xs))) := fun w' => by
      have z := er.set hd (d' := .node (.dt false ks) (frzL xs)) fun _ z => nomatch z
      refine ⟨z.on, fun j hj v hvj => ?_⟩
      rcases List.mem_cons.mp hj with rfl | hj
      · rw [σv_at hv] at hvj
        cases hvj
        exact hv
      · have lt := hpin j hj
        have hp := er.pin j hj vs0[j] (List.getElem?_eq_getElem lt)
        rw [σv_at hp] at hvj
        cases hvj
        exact hp
    have er2 : ∀ (w' : Wd) (σ' : L2.St) (e : Env), EnvR ⟨w', i :: pin, σv σ⟩ σ' e → EnvR ⟨w, pin, vs0⟩ σ' e := fun w' σ' e z => by
      refine ⟨z.on, fun j hj v hvj => ?_⟩
      exact z.pin j (List.mem_cons_of_mem _ hj) v (σv_at (er.pin j hj v hvj))
    have hlen : ∀ j ∈ i :: pin, j < (σv σ).length := fun j hj => by
      rw [σv_len]
      rcases List.mem_cons.mp hj with rfl | hj
      · exact (List.getElem?_eq_some_iff.mp hv).1
      · exact (List.getElem?_eq_some_iff.mp (er.pin j hj (vs0[j]'(hpin j hj)) (List.getElem?_eq_getElem (hpin j hj)))).1
    rcases hrJ with hJ | ⟨od, hJ⟩
    · refine h2.run pins sh σ H E Iv ⟨a, _, h3.iH a _ hJ, trivial, fun od => ?_⟩
      refine ⟨upd w.lk a (.frz od (.dT (ks.zip us))), σv σ, hlen, ⟨a, od, _, upd_same, σv_at hv, List.mem_cons_self ..⟩, upd J a (.frz od (.dT (ks.zip us))), F, _, ?_, er1 _, ?_⟩
      · refine Hs.two (w' := ⟨w.K, w.wd, w.cA, upd w.lk a (.frz od (.dT (ks.zip us))), w.fk⟩) h4 rfl rfl hJ (.lock _ od) (fun b ob e => ?_) rfl
        by_cases q : b = a
        · subst q
          have e' : upd w.lk b (.frz od (.dT (ks.zip us))) b = some ob := e
          rw [upd_same] at e' ⊢
          exact e'
        · have e' : upd w.lk a (.frz od (.dT (ks.zip us))) b = some ob := e
          rw [upd_ne q] at e' ⊢
          exact h4.lkI b ob e'
      · have back : ∀ (ds : List D) (vs : List V) (I' H' : Hp), Le (upd J a (.frz od (.dT (ks.zip us)))) I' → Hs ⟨w.K, w.wd, w.cA, upd w.lk a (.frz od (.dT (ks.zip us))), w.fk⟩ I' F ds vs H' →
            H' a = some (.frz od (.dT (ks.zip us))) ∧ Le I (upd I' a (.dT (ks.zip us))) ∧ Hs w (upd I' a (.dT (ks.zip us))) F ds vs (upd H' a (.dT (ks.zip us))) := fun ds vs I' H' le' hs' => by
          have hI' := le' a _ upd_same
          refine ⟨hs'.iH a _ hI', fun b ob e => ?_, Hs.two hs' rfl rfl hI' (.open _ od) (fun b ob e => ?_) rfl⟩
          · by_cases q : b = a
            · subst q
              have := le b _ e
              rw [hJ] at this
              rw [upd_same]
              exact this
            · rw [upd_ne q]
              exact le' b ob (by rw [upd_ne q]; exact le b ob e)
          · by_cases q : b = a
            · subst q
              have := h4.lkI b ob e
              rw [hJ] at this
              rw [upd_same]
              exact this
            · rw [upd_ne q]
              exact hs'.lkI b ob (show upd w.lk a (.frz od (.dT (ks.zip us))) b = some ob by rw [upd_ne q]; exact e)
        cases hm : s (env.set i (.node (.dt false ks) (frzL xs))) with
        | bad => simp only [hm] at o; exact o.elim
        | exc c ns ys e => simp only [hm] at o; exact o.elim
        | nx e =>
          simp only [hm] at o
          exact fun σ' I' H' le' hs' er' => let ⟨k1, k2, k3⟩ := back _ _ _ _ le' hs'; ⟨k1, o σ' _ _ k2 k3 (er2 _ _ _ er')⟩
        | bk e =>
          simp only [hm] at o
          exact fun σ' I' H' le' hs' er' => let ⟨k1, k2, k3⟩ := back _ _ _ _ le' hs'; ⟨k1, o σ' _ _ k2 k3 (er2 _ _ _ er')⟩
        | ct e =>
          simp only [hm] at o
          exact fun σ' I' H' le' hs' er' => let ⟨k1, k2, k3⟩ := back _ _ _ _ le' hs'; ⟨k1, o σ' _ _ k2 k3 (er2 _ _ _ er')⟩
        | rt d e =>
          simp only [hm] at o
          exact fun v σ' I' H' le' hs' er' => let ⟨k1, k2, k3⟩ := back _ _ _ _ le' hs'; ⟨k1, o v σ' _ _ k2 k3 (er2 _ _ _ er')⟩
    · refine h1.run pins sh σ H E Iv ⟨upd w.lk a (.frz od (.dT (ks.zip us))), σv σ, hlen, ⟨a, od, _, upd_same, σv_at hv, List.mem_cons_self ..⟩, J, F, _, ?_, er1 _, ?_⟩
      · refine Hs.relk (l := w.lk) h4 fun b ob e => ?_
        by_cases q : b = a
        · subst q
          rw [upd_same] at e
          rw [hJ]
          exact e
        · rw [upd_ne q] at e
          exact h4.lkI b ob e
      · have back : ∀ (ds : List D) (vs : List V) (I' H' : Hp), Le J I' → Hs ⟨w.K, w.wd, w.cA, upd w.lk a (.frz od (.dT (ks.zip us))), w.fk⟩ I' F ds vs H' → Le I I' ∧ Hs w I' F ds vs H' := fun ds vs I' H' le' hs' =>
          ⟨le.trans le', Hs.relk (l' := w.lk) hs' (h4.lkI.trans le')⟩
        cases hm : s (env.set i (.node (.dt false ks) (frzL xs))) with
        | bad => simp only [hm] at o; exact o.elim
        | exc c ns ys e => simp only [hm] at o; exact o.elim
        | nx e =>
          simp only [hm] at o
          exact fun σ' I' H' le' hs' er' => let ⟨k2, k3⟩ := back _ _ _ _ le' hs'; o σ' _ _ k2 k3 (er2 _ _ _ er')
        | bk e =>
          simp only [hm] at o
          exact fun σ' I' H' le' hs' er' => let ⟨k2, k3⟩ := back _ _ _ _ le' hs'; o σ' _ _ k2 k3 (er2 _ _ _ er')
        | ct e =>
          simp only [hm] at o
          exact fun σ' I' H' le' hs' er' => let ⟨k2, k3⟩ := back _ _ _ _ le' hs'; o σ' _ _ k2 k3 (er2 _ _ _ er')
        | rt d e =>
          simp only [hm] at o
          exact fun v σ' I' H' le' hs' er' => let ⟨k2, k3⟩ := back _ _ _ _ le' hs'; o v σ' _ _ k2 k3 (er2 _ _ _ er')
  · exact o.elim
end
end Z

set_option Elab.async false
set_option linter.all false
set_option maxRecDepth 100000
set_option maxHeartbeats 4000000
/-! ZV: expressions over a locked dict. -/
namespace Z
open PySem PySem.Spec PyProof.Rows L2 StX
section
variable {Γ : Cx} {X : Fx} {W : WX}
/-- an expression, likewise -/
def mLk (i : Nat) (s : M) : M := fun env => match env[i]? with
  | some (.node (.dt _ ks) xs) => (match s (env.set i (.node (.dt false ks) (frzL xs))) with
    | .exc _ _ _ _ => .bad
    | r => r)
  | _ => .bad
theorem z_lock {st : Expr} {i : Nat} {w : Wd} {pin : List Nat} {vs0 : List V} {s : M} (hpin : ∀ j ∈ pin, j < vs0.length)
    (h : ∀ (lk' : Hp) (vs' : List V), (∀ j ∈ i :: pin, j < vs'.length) → Lkd ⟨⟨w.K, w.wd, w.cA, lk', w.fk⟩, i :: pin, vs'⟩ i → PE Γ st (tE ⟨⟨w.K, w.wd, w.cA, lk', w.fk⟩, i :: pin, vs'⟩ W s)) : PE Γ st (tE ⟨w, pin, vs0⟩ W (mLk i s)) := by
  have h1 : PE Γ st (fun σ H Q => ∃ (lk' : Hp) (vs' : List V), (∀ j ∈ i :: pin, j < vs'.length) ∧ Lkd ⟨⟨w.K, w.wd, w.cA, lk', w.fk⟩, i :: pin, vs'⟩ i ∧ tE ⟨⟨w.K, w.wd, w.cA, lk', w.fk⟩, i :: pin, vs'⟩ W s σ H Q) := ⟨fun pins sh σ H D I q => by
    obtain ⟨lk', vs', c1, c3, q⟩ := q
    exact (h lk' vs' c1 c3).run pins sh σ H D I q⟩
  have h2 := pe_lock h1
  refine ⟨fun pins sh σ H E Iv q => ?_⟩
  obtain ⟨I, F, env, hs, er, o⟩ := q
  unfold mLk at o
  split at o
  · rename_i ow ks xs hd
    obtain ⟨v, J, hv, le, h3⟩ := hs_read hs er hd (fun z => nomatch z)
    obtain ⟨a, us, fp, rfl, hr, hl, _⟩ := Hs.dict (o := false) (ks := ks) (xs := frzL xs) h3
    have h4 : Hs w J F (env.set i (.node (.dt false ks) (frzL xs))) (σv σ) H := h3.drop
    have hrJ : Rd J a (.dT (ks.zip us)) := by
      obtain ⟨fp, r⟩ := h3.head
      have r2 : Rep w J H (.node (.dt false ks) (frzL xs)) (.ref a) fp := r
      unfold Rep at r2
      obtain ⟨a2, us2, fp2, e2, _, hf2, q2⟩ := r2
      cases e2
      rcases q2 with ⟨z, _, _⟩ | ⟨_, hat, _⟩
      · cases z
      · have hat' : Rd J a (.dT (ks.zip us2)) := hat
        have hH := le_rd h3.iH hat'
        have key : ∀ x y : List (List Key × V), Rd H a (.dT x) → Rd H a (.dT y) → x = y := fun x y hx hy => by
          rcases hx with hx | ⟨ox, hx⟩ <;> rcases hy with hy | ⟨oy, hy⟩ <;> rw [hx] at hy <;> cases hy <;> rfl
        rw [key _ _ hr hH]
        exact hat'
    have er1 : ∀ (w' : Wd), EnvR ⟨w', i :: pin, σv σ⟩ σ (env.set i (.node (.dt false ks) (frzL xs))) := fun w' => by
      have z := er.set hd (d' := .node (.dt false ks) (frzL xs)) fun _ z => nomatch z
      refine ⟨z.on, fun j hj v hvj => ?_⟩
      rcases List.mem_cons.mp hj with rfl | hj
      · rw [σv_at hv] at hvj
        cases hvj
        exact hv
      · have lt := hpin j hj
        have hp := er.pin j hj vs0[j] (List.getElem?_eq_getElem lt)
        rw [σv_at hp] at hvj
        cases hvj
        exact hp
    have er2 : ∀ (w' : Wd) (σ' : L2.St) (e : Env), EnvR ⟨w', i :: pin, σv σ⟩ σ' e → EnvR ⟨w, pin, vs0⟩ σ' e := fun w' σ' e z => by
      refine ⟨z.on, fun j hj v hvj => ?_⟩
      exact z.pin j (List.mem_cons_of_mem _ hj) v (σv_at (er.pin j hj v hvj))
    have hlen : ∀ j ∈ i :: pin, j < (σv σ).length := fun j hj => by
      rw [σv_len]
      rcases List.mem_cons.mp hj with rfl | hj
      · exact (List.getElem?_eq_some_iff.mp hv).1
      · exact (List.getElem?_eq_some_iff.mp (er.pin j hj (vs0[j]'(hpin j hj)) (List.getElem?_eq_getElem (hpin j hj)))).1
    rcases hrJ with hJ | ⟨od, hJ⟩
    · refine h2.run pins sh σ H E Iv ⟨a, _, h3.iH a _ hJ, trivial, fun od => ?_⟩
      refine ⟨upd w.lk a (.frz od (.dT (ks.zip us))), σv σ, hlen, ⟨a, od, _, upd_same, σv_at hv, List.mem_cons_self ..⟩, upd J a (.frz od (.dT (ks.zip us))), F, _, ?_, er1 _, ?_⟩
      · refine Hs.two (w' := ⟨w.K, w.wd, w.cA, upd w.lk a (.frz od (.dT (ks.zip us))), w.fk⟩) h4 rfl rfl hJ (.lock _ od) (fun b ob e => ?_) rfl
        by_cases q : b = a
        · subst q
          have e' : upd w.lk b (.frz od (.dT (ks.zip us))) b = some ob := e
          rw [upd_same] at e' ⊢
          exact e'
        · have e' : upd w.lk a (.frz od (.dT (ks.zip us))) b = some ob := e
          rw [upd_ne q] at e' ⊢
          exact h4.lkI b ob e'
      · have back : ∀ (ds : List D) (vs : List V) (I' H' : Hp), Le (upd J a (.frz od (.dT (ks.zip us)))) I' → Hs ⟨w.K, w.wd, w.cA, upd w.lk a (.frz od (.dT (ks.zip us))), w.fk⟩ I' F ds vs H' →
            H' a = some (.frz od (.dT (ks.zip us))) ∧ Le I (upd I' a (.dT (ks.zip us))) ∧ Hs w (upd I' a (.dT (ks.zip us))) F ds vs (upd H' a (.dT (ks.zip us))) := fun ds vs I' H' le' hs' => by
          have hI' := le' a _ upd_same
          refine ⟨hs'.iH a _ hI', fun b ob e => ?_, Hs.two hs' rfl rfl hI' (.open _ od) (fun b ob e => ?_) rfl⟩
          · by_cases q : b = a
            · subst q
              have := le b _ e
              rw [hJ] at this
              rw [upd_same]
              exact this
            · rw [upd_ne q]
              exact le' b ob (by rw [upd_ne q]; exact le b ob e)
          · by_cases q : b = a
            · subst q
              have := h4.lkI b ob e
              rw [hJ] at this
              rw [upd_same]
              exact this
            · rw [upd_ne q]
              exact hs'.lkI b ob (show upd w.lk a (.frz od (.dT (ks.zip us))) b = some ob by rw [upd_ne q]; exact e)
        cases hm : s (env.set i (.node (.dt false ks) (frzL xs))) with
        | bad => simp only [hm] at o; exact o.elim
        | exc c ns ys e => simp only [hm] at o; exact o.elim
        | ok d e =>
          simp only [hm] at o
          exact fun v I' H' le' hs' er' => let ⟨k1, k2, k3⟩ := back _ _ _ _ le' hs'; ⟨k1, o v _ _ k2 k3 (er2 _ _ _ er')⟩
    · refine h1.run pins sh σ H E Iv ⟨upd w.lk a (.frz od (.dT (ks.zip us))), σv σ, hlen, ⟨a, od, _, upd_same, σv_at hv, List.mem_cons_self ..⟩, J, F, _, ?_, er1 _, ?_⟩
      · refine Hs.relk (l := w.lk) h4 fun b ob e => ?_
        by_cases q : b = a
        · subst q
          rw [upd_same] at e
          rw [hJ]
          exact e
        · rw [upd_ne q] at e
          exact h4.lkI b ob e
      · have back : ∀ (ds : List D) (vs : List V) (I' H' : Hp), Le J I' → Hs ⟨w.K, w.wd, w.cA, upd w.lk a (.frz od (.dT (ks.zip us))), w.fk⟩ I' F ds vs H' → Le I I' ∧ Hs w I' F ds vs H' := fun ds vs I' H' le' hs' =>
          ⟨le.trans le', Hs.relk (l' := w.lk) hs' (h4.lkI.trans le')⟩
        cases hm : s (env.set i (.node (.dt false ks) (frzL xs))) with
        | bad => simp only [hm] at o; exact o.elim
        | exc c ns ys e => simp only [hm] at o; exact o.elim
        | ok d e =>
          simp only [hm] at o
          exact fun v I' H' le' hs' er' => let ⟨k2, k3⟩ := back _ _ _ _ le' hs'; o v _ _ k2 k3 (er2 _ _ _ er')
  · exact o.elim
end
end Z

set_option Elab.async false
set_option linter.all false
set_option maxRecDepth 100000
set_option maxHeartbeats 4000000
/-! ZW: comprehensions with two fors. -/
namespace Z
open PySem PySem.Spec PyProof.Rows L2 StX
section
variable {Γ : Cx} {X : Fx} {W W1 : WX}
/-- the turns of one for, into a list that is there -/
theorem in_run {t : Tgt} {c : Option M} {m : M} {vs : List Nat} {σ : L2.St} {H1 : Hp} {J : It} {I1 G : Hp} {xs acc0 : List D} {e : Env} {Dl : Addr} {accF : List D} {eF : Env} {Fin : Hp → Prop} (hp : ∀ i ∈ X.pin, i ∉ vs) (ht : ∀ j ∈ t.slots, j ∈ vs) (hl0 : e.length = σ.length)
    (hg3 : Hs X.w I1 G (.node (.lst true) acc0 :: anyAll vs e) (.ref Dl :: σv (wipe σ vs)) H1) (er1 : EnvR X (wipe σ vs) (anyAll vs e)) (wk : Walks X.w J I1 xs) (hb : loopC t c m vs xs acc0 (anyAll vs e) = some (accF, eF))
    (fin0 : ∀ I0 env0 H', Le I1 I0 → Hs X.w I0 G (.node (.lst true) accF :: anyAll vs env0) (.ref Dl :: σv (wipe σ vs)) H' → EnvR X (wipe σ vs) (anyAll vs env0) → env0.length = e.length → (anyAll vs env0 = eF) → Fin H') :
    ∃ W : Nat → Nat → Hp → Prop, (∃ m, W 0 m H1) ∧ ∀ i mm H, W i mm H →
      (J.stop i H ∧ Fin H) ∨ (J.go i H ∧ ∃ Nx : Hp → Prop, (∀ H', Nx H' → ∃ m', m' < mm ∧ W (i + 1) m' H') ∧ ∀ x H', J.yld i H x H' → tG X t x (wipe σ vs) H' fun σ2 H2 => wipe σ2 vs = wipe σ vs ∧ tsto X W0 c σ2 H2 fun b H3 =>
        if b = true then tE X W0 m σ2 H3 fun y H4 => ∃ acc, H4 Dl = some (.lst acc) ∧ acc.length < sizeLine ∧ Nx (upd H4 Dl (.lst (acc ++ [y]))) else Nx H3) := by
  refine ⟨fun i k H' => k = xs.length - i ∧ i ≤ xs.length ∧ ∃ I0 env0 acc, Le I1 I0 ∧ Hs X.w I0 G (.node (.lst true) acc :: anyAll vs env0) (.ref Dl :: σv (wipe σ vs)) H' ∧ EnvR X (wipe σ vs) (anyAll vs env0) ∧ env0.length = e.length ∧ loopC t c m vs (xs.drop i) acc (anyAll vs env0) = some (accF, eF),
    ⟨xs.length, by simp, Nat.zero_le _, I1, e, acc0, Le.refl _, hg3, er1, rfl, hb⟩, ?_⟩
  rintro i k H' ⟨rfl, hi, I0, env0, acc, le0, h0, er0, hlen, o0⟩
  by_cases hlt : i < xs.length
  · refine .inr ⟨wk.go i I0 G _ _ H' h0 le0 hlt, fun H2 => ∃ I2 env2 acc2, Le I1 I2 ∧ Hs X.w I2 G (.node (.lst true) acc2 :: anyAll vs env2) (.ref Dl :: σv (wipe σ vs)) H2 ∧ EnvR X (wipe σ vs) (anyAll vs env2) ∧ env2.length = e.length ∧ loopC t c m vs (xs.drop (i + 1)) acc2 (anyAll vs env2) = some (accF, eF), ?_, ?_⟩
    · rintro H2 ⟨I2, env2, acc2, k1, k2, k3, k4, k5⟩
      exact ⟨xs.length - (i + 1), by omega, rfl, by omega, I2, env2, acc2, k1, k2, k3, k4, k5⟩
    · intro x H2 y
      rw [List.drop_eq_getElem_cons hlt] at o0
      obtain ⟨I2, le2, h2⟩ := wk.yld i xs[i] I0 G _ _ H' x H2 h0 le0 (List.getElem?_eq_getElem hlt) y
      unfold loopC at o0
      cases hta : asg t xs[i] (anyAll vs env0) with
      | none => simp only [hta] at o0; cases o0
      | some e' =>
        simp only [hta] at o0
        obtain ⟨K, hk, kback⟩ := Hs.push (ds := [.node (.lst true) acc]) (vs := [.ref Dl]) h2.swap rfl
        refine ⟨I2, K, anyAll vs env0, xs[i], hk, er0, e', hta, fun σ3 I3 H3 bt le3 h3 er3 => ⟨wipe_but bt ht, ?_⟩⟩
        have hw := wipe_but bt ht
        -- behind a turn: the env as it is then, own names not claimed
        have fin : ∀ I4 H4 e4, Le I3 I4 → Hs X.w I4 K e4 (σv σ3) H4 → EnvR X σ3 e4 → Hs X.w I4 K (anyAll vs e4) (σv (wipe σ vs)) H4 ∧ EnvR X (wipe σ vs) (anyAll vs e4) ∧ e4.length = e.length := by
          intro I4 H4 e4 le4 h4 er4
          have a1 := hs_any (vs := vs) h4
          have a2 := er_any (vs := vs) er4 hp
          rw [hw] at a1 a2
          refine ⟨a1, a2, ?_⟩
          have l1 := hs_len h4
          have l2 := hl0
          rw [l1, l2, bt.1, wipe_length]
        -- the test
        have elt : ∀ I4 H4 e4, Le I3 I4 → Hs X.w I4 K e4 (σv σ3) H4 → EnvR X σ3 e4 → (match m e4 with | .ok r e3 => if acc.length < 100000 then loopC t c m vs (xs.drop (i + 1)) (acc ++ [r]) (anyAll vs e3) else none | _ => none) = some (accF, eF) →
            tE X W0 m σ3 H4 fun y H5 => ∃ acc', H5 Dl = some (.lst acc') ∧ acc'.length < sizeLine ∧ ∃ I2 env2 acc2, Le I1 I2 ∧ Hs X.w I2 G (.node (.lst true) acc2 :: anyAll vs env2) (.ref Dl :: σv (wipe σ vs)) (upd H5 Dl (.lst (acc' ++ [y]))) ∧ EnvR X (wipe σ vs) (anyAll vs env2) ∧ env2.length = e.length ∧ loopC t c m vs (xs.drop (i + 1)) acc2 (anyAll vs env2) = some (accF, eF) := by
          intro I4 H4 e4 le4 h4 er4 o4
          refine ⟨I4, K, e4, h4, er4, ?_⟩
          cases hm : m e4 with
          | bad => rw [hm] at o4; cases o4
          | exc c ns xs e => rw [hm] at o4; cases o4
          | ok r e3 =>
            rw [hm] at o4
            simp only at o4
            by_cases hz : acc.length < 100000
            · rw [if_pos hz] at o4
              intro y I5 H5 le5 h5 er5
              have h6 := kback I5 (r :: e3) (y :: σv σ3) H5 ((le3.trans le4).trans le5) h5
              have h7 : Hs X.w I5 G (r :: .node (.lst true) acc :: e3) (y :: .ref Dl :: σv σ3) H5 := Hs.swap h6
              obtain ⟨us, g1, g2, g3⟩ := h7.grow
              have a2 := er_any (vs := vs) er5 hp
              rw [hw] at a2
              have l1 : e3.length = σ3.length := by have := g3.length; simpa [σv_len] using this
              have l2 := hl0
              refine ⟨us, g1, szL (by rw [← g2]; exact hz), I5, e3, acc ++ [r], (((le0.trans le2).trans le3).trans le4).trans le5, ?_, a2, by rw [l1, l2, bt.1, wipe_length], o4⟩
              have g4 : Hs X.w I5 G ([.node (.lst true) (acc ++ [r])] ++ e3) ([.ref Dl] ++ σv σ3) (upd H5 Dl (.lst (us ++ [y]))) := g3
              obtain ⟨K2, k1, k2⟩ := Hs.push g4 rfl
              have a1 := hs_any (vs := vs) k1
              rw [hw] at a1
              exact k2 I5 _ _ _ (Le.refl _) a1
            · rw [if_neg hz] at o4
              cases o4
        have skip : ∀ I4 H4 e4, Le I3 I4 → Hs X.w I4 K e4 (σv σ3) H4 → EnvR X σ3 e4 → loopC t c m vs (xs.drop (i + 1)) acc (anyAll vs e4) = some (accF, eF) → ∃ I2 env2 acc2, Le I1 I2 ∧ Hs X.w I2 G (.node (.lst true) acc2 :: anyAll vs env2) (.ref Dl :: σv (wipe σ vs)) H4 ∧ EnvR X (wipe σ vs) (anyAll vs env2) ∧ env2.length = e.length ∧ loopC t c m vs (xs.drop (i + 1)) acc2 (anyAll vs env2) = some (accF, eF) := by
          intro I4 H4 e4 le4 h4 er4 o4
          obtain ⟨a1, a2, a3⟩ := fin I4 H4 e4 le4 h4 er4
          exact ⟨I4, e4, acc, ((le0.trans le2).trans le3).trans le4, kback I4 _ _ H4 (le3.trans le4) a1, a2, a3, o4⟩
        cases c with
        | none =>
          simp only at o0
          have z := elt I3 H3 e' (Le.refl _) h3 er3 o0
          simp only [tsto, tYes, reduceIte]
          exact z
        | some cm =>
          refine ⟨I3, K, e', h3, er3, ?_⟩
          simp only at o0
          cases hcm : cm e' with
          | bad => rw [hcm] at o0; cases o0
          | exc c ns xs e => rw [hcm] at o0; cases o0
          | ok r e2 =>
            rw [hcm] at o0
            cases r with
            | bl b =>
              intro I4 H4 le4 h4 er4
              cases b with
              | true =>
                have z := elt I4 H4 e2 le4 h4 er4 o0
                simp only [reduceIte]
                exact z
              | false =>
                have z := skip I4 H4 e2 le4 h4 er4 o0
                rw [if_neg (by decide)]
                exact z
            | any => cases o0
            | non => cases o0
            | int _ => cases o0
            | str _ => cases o0
            | node _ _ => cases o0
  · have he : i = xs.length := by omega
    subst he
    rw [List.drop_length] at o0
    have o1 : some (acc, anyAll vs env0) = some (accF, eF) := o0
    cases o1
    exact .inl ⟨wk.stop I0 G _ _ H' h0 le0, fin0 I0 env0 H' le0 h0 er0 hlen rfl⟩
theorem wipe_wipe {σ : L2.St} {vs vs1 : List Nat} (h : ∀ i ∈ vs1, i ∈ vs) : wipe (wipe σ vs1) vs = wipe σ vs := by
  apply List.ext_getElem?
  intro i
  rw [wipe_get, wipe_get, wipe_length, wipe_get]
  by_cases m : i ∈ vs ∧ i < σ.length
  · rw [if_pos m, if_pos m]
  · rw [if_neg m, if_neg m, if_neg (fun z => m ⟨h i z.1, z.2⟩)]
def loopC2 (t : Tgt) (c : Option M) (vs : List Nat) (src1 : Src) (t1 : Tgt) (c1 : Option M) (vs1 : List Nat) (m : M) : List D → List D → Env → Option (List D × Env)
  | [], acc, env => some (acc, env)
  | x :: xs, acc, env => match asg t x env with
    | none => none
    | some e1 => (match (match c with
      | none => Res.ok (.bl true) e1
      | some c => c e1) with
      | .ok (.bl true) e2 => (match src1 e2 with
        | .ok ys e3 => (match loopC t1 c1 m vs1 ys acc (anyAll vs1 e3) with
          | some (acc2, e4) => loopC2 t c vs src1 t1 c1 vs1 m xs acc2 (anyAll vs e4)
          | none => none)
        | _ => none)
      | .ok (.bl false) e2 => loopC2 t c vs src1 t1 c1 vs1 m xs acc (anyAll vs e2)
      | _ => none)
def mLc2 (src : Src) (t : Tgt) (c : Option M) (vs : List Nat) (src1 : Src) (t1 : Tgt) (c1 : Option M) (vs1 : List Nat) (m : M) : M := fun env => match src env with
  | .ok xs e => (match loopC2 t c vs src1 t1 c1 vs1 m xs [] (anyAll vs e) with
    | some (acc, e2) => .ok (.node (.lst true) acc) (mrg (own? vs) e e2)
    | none => .bad)
  | .exc c ns xs e => .exc c ns xs e
  | .bad => .bad
theorem lc2_run {src src1 : Src} {t t1 : Tgt} {c c1 : Option M} {m : M} {vs vs1 : List Nat} {σ : L2.St} {H : Hp} {Q : VK} (hp : ∀ i ∈ X.pin, i ∉ vs) (hv : ∀ i ∈ vs1, i ∈ vs) (ht : ∀ j ∈ t.slots, j ∈ vs) (ht1 : ∀ j ∈ t1.slots, j ∈ vs1) (q : tE X W (mLc2 src t c vs src1 t1 c1 vs1 m) σ H Q) :
    tLc2 (tI X W src) (tG X t) (tsto X W0 c) (tI X W0 src1) (tG X t1) (tsto X W0 c1) (tE X W0 m) vs vs1 σ H Q := by
  have hp1 : ∀ i ∈ X.pin, i ∉ vs1 := fun i hi z => hp i hi (hv i z)
  obtain ⟨I, F, env, hs, er, o⟩ := q
  refine ⟨I, F, env, hs, er, ?_⟩
  unfold mLc2 at o
  cases ha : src env with
  | bad => simp only [ha] at o; exact o.elim
  | exc c ns xs e => simp only [ha] at o; exact o
  | ok xs e =>
    simp only [ha] at o
    intro J I1 H1 le1 h1 er1 wk Dl hD
    cases hb : loopC2 t c vs src1 t1 c1 vs1 m xs [] (anyAll vs e) with
    | none => simp only [hb] at o; exact o.elim
    | some fin =>
      obtain ⟨accF, eF⟩ := fin
      simp only [hb] at o
      obtain ⟨G, hg, back⟩ := h1.aside (own? vs)
      have hg2 : Hs X.w I1 G (anyAll vs e) (σv (wipe σ vs)) H1 := by
        have := hs_any (vs := vs) hg
        rw [show anyAll vs (keepP (fun i => !own? vs i) e) = anyAll vs e from anyAll_idem vs e] at this
        exact this
      have hg3 : Hs X.w I1 G (.node (.lst true) [] :: anyAll vs e) (.ref Dl :: σv (wipe σ vs)) (upd H1 Dl (.lst [])) := Hs.newO (t := .lst true) (xs := []) (us := []) hg2 rfl hD rfl trivial (show upd H1 Dl (.lst []) Dl = some (.lst []) from upd_same)
      refine ⟨fun i k H' => k = xs.length - i ∧ i ≤ xs.length ∧ ∃ I0 env0 acc, Le I1 I0 ∧ Hs X.w I0 G (.node (.lst true) acc :: anyAll vs env0) (.ref Dl :: σv (wipe σ vs)) H' ∧ EnvR X (wipe σ vs) (anyAll vs env0) ∧ env0.length = e.length ∧ loopC2 t c vs src1 t1 c1 vs1 m (xs.drop i) acc (anyAll vs env0) = some (accF, eF),
        ⟨xs.length, by simp, Nat.zero_le _, I1, e, [], Le.refl _, hg3, er_any er1 hp, rfl, hb⟩, ?_⟩
      rintro i k H' ⟨rfl, hi, I0, env0, acc, le0, h0, er0, hlen, o0⟩
      by_cases hlt : i < xs.length
      · refine .inr ⟨wk.go i I0 G _ _ H' h0 le0 hlt, fun H2 => ∃ I2 env2 acc2, Le I1 I2 ∧ Hs X.w I2 G (.node (.lst true) acc2 :: anyAll vs env2) (.ref Dl :: σv (wipe σ vs)) H2 ∧ EnvR X (wipe σ vs) (anyAll vs env2) ∧ env2.length = e.length ∧ loopC2 t c vs src1 t1 c1 vs1 m (xs.drop (i + 1)) acc2 (anyAll vs env2) = some (accF, eF), ?_, ?_⟩
        · rintro H2 ⟨I2, env2, acc2, k1, k2, k3, k4, k5⟩
          exact ⟨xs.length - (i + 1), by omega, rfl, by omega, I2, env2, acc2, k1, k2, k3, k4, k5⟩
        · intro x H2 y
          rw [List.drop_eq_getElem_cons hlt] at o0
          obtain ⟨I2, le2, h2⟩ := wk.yld i xs[i] I0 G _ _ H' x H2 h0 le0 (List.getElem?_eq_getElem hlt) y
          unfold loopC2 at o0
          cases hta : asg t xs[i] (anyAll vs env0) with
          | none => simp only [hta] at o0; cases o0
          | some e' =>
            simp only [hta] at o0
            obtain ⟨K, hk, kback⟩ := Hs.push (ds := [.node (.lst true) acc]) (vs := [.ref Dl]) h2.swap rfl
            refine ⟨I2, K, anyAll vs env0, xs[i], hk, er0, e', hta, fun σ3 I3 H3 bt le3 h3 er3 => ⟨wipe_but bt ht, ?_⟩⟩
            have hw := wipe_but bt ht
            have l2 := hs_len h1
            have skip : ∀ I4 H4 e4, Le I3 I4 → Hs X.w I4 K e4 (σv σ3) H4 → EnvR X σ3 e4 → loopC2 t c vs src1 t1 c1 vs1 m (xs.drop (i + 1)) acc (anyAll vs e4) = some (accF, eF) → ∃ I2 env2 acc2, Le I1 I2 ∧ Hs X.w I2 G (.node (.lst true) acc2 :: anyAll vs env2) (.ref Dl :: σv (wipe σ vs)) H4 ∧ EnvR X (wipe σ vs) (anyAll vs env2) ∧ env2.length = e.length ∧ loopC2 t c vs src1 t1 c1 vs1 m (xs.drop (i + 1)) acc2 (anyAll vs env2) = some (accF, eF) := by
              intro I4 H4 e4 le4 h4 er4 o4
              have a1 := hs_any (vs := vs) h4
              have a2 := er_any (vs := vs) er4 hp
              rw [hw] at a1 a2
              have l1 := hs_len h4
              exact ⟨I4, e4, acc, ((le0.trans le2).trans le3).trans le4, kback I4 _ _ H4 (le3.trans le4) a1, a2, by rw [l1, l2, bt.1, wipe_length], o4⟩
            have inner : ∀ I4 H4 e2, Le I3 I4 → Hs X.w I4 K e2 (σv σ3) H4 → EnvR X σ3 e2 → (match src1 e2 with | .ok ys e3 => (match loopC t1 c1 m vs1 ys acc (anyAll vs1 e3) with | some (acc2, e4) => loopC2 t c vs src1 t1 c1 vs1 m (xs.drop (i + 1)) acc2 (anyAll vs e4) | none => none) | _ => none) = some (accF, eF) →
                tI X W0 src1 σ3 H4 fun J1 H4 => ∃ W1 : Nat → Nat → Hp → Prop, (∃ m, W1 0 m H4) ∧ ∀ j k H, W1 j k H →
                  (J1.stop j H ∧ ∃ I2 env2 acc2, Le I1 I2 ∧ Hs X.w I2 G (.node (.lst true) acc2 :: anyAll vs env2) (.ref Dl :: σv (wipe σ vs)) H ∧ EnvR X (wipe σ vs) (anyAll vs env2) ∧ env2.length = e.length ∧ loopC2 t c vs src1 t1 c1 vs1 m (xs.drop (i + 1)) acc2 (anyAll vs env2) = some (accF, eF)) ∨ (J1.go j H ∧ ∃ Nx1 : Hp → Prop, (∀ H', Nx1 H' → ∃ k', k' < k ∧ W1 (j + 1) k' H') ∧ ∀ x H', J1.yld j H x H' → tG X t1 x (wipe σ3 vs1) H' fun σ4 H5 => wipe σ4 vs1 = wipe σ3 vs1 ∧ tsto X W0 c1 σ4 H5 fun b H6 =>
                    if b = true then tE X W0 m σ4 H6 fun y H7 => ∃ acc, H7 Dl = some (.lst acc) ∧ acc.length < sizeLine ∧ Nx1 (upd H7 Dl (.lst (acc ++ [y]))) else Nx1 H6) := by
              intro I4 H4 e2 le4 h4 er4 o4
              refine ⟨I4, K, e2, h4, er4, ?_⟩
              cases hsr : src1 e2 with
              | bad => rw [hsr] at o4; cases o4
              | exc c ns xs e => rw [hsr] at o4; cases o4
              | ok ys e3 =>
                rw [hsr] at o4
                simp only at o4
                cases hin : loopC t1 c1 m vs1 ys acc (anyAll vs1 e3) with
                | none => rw [hin] at o4; cases o4
                | some fin1 =>
                  obtain ⟨acc2, e4⟩ := fin1
                  rw [hin] at o4
                  simp only at o4
                  intro J1 I5 H5 le5 h5 er5 wk1
                  have h6 := kback I5 e3 (σv σ3) H5 ((le3.trans le4).trans le5) h5
                  obtain ⟨K2, k1, k2⟩ := Hs.push (ds := [.node (.lst true) acc]) (vs := [.ref Dl]) h6 rfl
                  have a1 := hs_any (vs := vs1) k1
                  have h7 := k2 I5 _ _ H5 (Le.refl _) a1
                  refine in_run (t := t1) (c := c1) (m := m) (vs := vs1) (σ := σ3) (G := G) (e := e3) (accF := acc2) (eF := e4) hp1 ht1 (hs_len h5) h7 (er_any er5 hp1) wk1 hin fun I6 env1 H6 le6 g1 g2 g3 g4 => ?_
                  have z1 : Hs X.w I6 G ([.node (.lst true) acc2] ++ anyAll vs1 env1) ([.ref Dl] ++ σv (wipe σ3 vs1)) H6 := g1
                  obtain ⟨K3, m1, m2⟩ := Hs.push z1 rfl
                  have b1 := hs_any (vs := vs) m1
                  have b2 := er_any (vs := vs) g2 hp
                  rw [wipe_wipe hv, hw] at b1 b2
                  refine ⟨I6, anyAll vs1 env1, acc2, ((((le0.trans le2).trans le3).trans le4).trans le5).trans le6, m2 I6 _ _ H6 (Le.refl _) b1, b2, ?_, by rw [g4]; exact o4⟩
                  unfold anyAll
                  rw [keepP_len, g3, hs_len h5, l2, bt.1, wipe_length]
            cases c with
            | none =>
              simp only at o0
              have z := inner I3 H3 e' (Le.refl _) h3 er3 o0
              simp only [tsto, tYes, reduceIte]
              exact z
            | some cm =>
              refine ⟨I3, K, e', h3, er3, ?_⟩
              simp only at o0
              cases hcm : cm e' with
              | bad => rw [hcm] at o0; cases o0
              | exc c ns xs e => rw [hcm] at o0; cases o0
              | ok r e2 =>
                rw [hcm] at o0
                cases r with
                | bl b =>
                  intro I4 H4 le4 h4 er4
                  cases b with
                  | true =>
                    have z := inner I4 H4 e2 le4 h4 er4 o0
                    simp only [reduceIte]
                    exact z
                  | false =>
                    have z := skip I4 H4 e2 le4 h4 er4 o0
                    rw [if_neg (by decide)]
                    exact z
                | any => cases o0
                | non => cases o0
                | int _ => cases o0
                | str _ => cases o0
                | node _ _ => cases o0
      · have he : i = xs.length := by omega
        subst he
        rw [List.drop_length] at o0
        have o1 : some (acc, anyAll vs env0) = some (accF, eF) := o0
        cases o1
        refine .inl ⟨wk.stop I0 G _ _ H' h0 le0, ?_⟩
        have h5 : Hs X.w I0 G ([.node (.lst true) accF] ++ anyAll vs env0) ([.ref Dl] ++ σv (wipe σ vs)) H' := h0
        obtain ⟨K2, k1, k2⟩ := Hs.push h5 rfl
        have h6 := k2 I0 _ _ H' (Le.refl _) (hs_back k1)
        have h7 := back I0 [.node (.lst true) accF] [.ref Dl] _ H' le0 rfl h6
        refine o (.ref Dl) I0 H' (le1.trans le0) h7 (er_back er1 er0 ?_)
        unfold anyAll
        rw [keepP_len]
        exact hlen.symm
theorem z_lc2 {elt tg iter tg1 iter1 : Expr} {ifs ifs1 : List Expr} {scope : Scope} {own : List (Str × Nat)} {pos : Pos} {src src1 : Src} {t t1 : Tgt} {c c1 : Option M} {m : M} {vs1 : List Nat} (hc : Γ.calm = true) (hN : Γ.N.Nodup) (hi : PI Γ tg iter (tI X W src)) (ok : BlkOk Γ.N Γ.env.scope scope own)
    (hg : ∀ (s : Shared) (H : Hp) (C : Addr) (cl : List (Str × Addr)) (fp : List Addr), PG (Γ.blk s H scope (compEnvC scope cl C Γ.env) fp) tg (tG X t)) (ht : ∀ (s : Shared) (H : Hp) (C : Addr) (cl : List (Str × Addr)) (fp : List Addr), PTs (Γ.blk s H scope (compEnvC scope cl C Γ.env) fp) ifs (tsto X W0 c))
    (hi1 : ∀ (s : Shared) (H : Hp) (C : Addr) (cl : List (Str × Addr)) (fp : List Addr), PI (Γ.blk s H scope (compEnvC scope cl C Γ.env) fp) tg1 iter1 (tI X W0 src1))
    (hg1 : ∀ (s : Shared) (H : Hp) (C : Addr) (cl : List (Str × Addr)) (fp : List Addr), PG (Γ.blk s H scope (compEnvC scope cl C Γ.env) fp) tg1 (tG X t1)) (ht1 : ∀ (s : Shared) (H : Hp) (C : Addr) (cl : List (Str × Addr)) (fp : List Addr), PTs (Γ.blk s H scope (compEnvC scope cl C Γ.env) fp) ifs1 (tsto X W0 c1))
    (he : ∀ (s : Shared) (H : Hp) (C : Addr) (cl : List (Str × Addr)) (fp : List Addr), PE (Γ.blk s H scope (compEnvC scope cl C Γ.env) fp) elt (tE X W0 m)) (hp : ∀ i ∈ X.pin, i ∉ own.map (·.2) := by decide) (hv : ∀ i ∈ vs1, i ∈ own.map (·.2) := by decide) (hj : ∀ j ∈ t.slots, j ∈ own.map (·.2) := by decide) (hj1 : ∀ j ∈ t1.slots, j ∈ vs1 := by decide) (hs : ∀ x, foldedSetIterable iter Γ.env x = pure x := by intro _; rfl) (hs1 : ∀ env x, foldedSetIterable iter1 env x = pure x := by intro _ _; rfl) :
    PE Γ (.ListComp elt [⟨tg, iter, ifs, 0⟩, ⟨tg1, iter1, ifs1, 0⟩] scope pos) (tE X W (mLc2 src t c (own.map (·.2)) src1 t1 c1 vs1 m)) := PEi (pe_lc2 hc hN hi ok hv hg ht hi1 hg1 ht1 he hs hs1) fun σ H Q q => lc2_run hp hv hj hj1 q
theorem s_setLc2 {i : Nat} {y : Str} {py spos : Pos} {elt tg iter tg1 iter1 : Expr} {ifs ifs1 : List Expr} {scope : Scope} {own : List (Str × Nat)} {pos : Pos} {src src1 : Src} {t t1 : Tgt} {c c1 : Option M} {m : M} {vs1 : List Nat} (hc : Γ.calm = true) (hN : Γ.N.Nodup) (hy : Γ.N[i]? = some y) (hyl : Γ.env.scope.names.lookup y = some .local)
    (hsw : swapsWith (.ListComp elt [⟨tg, iter, ifs, 0⟩, ⟨tg1, iter1, ifs1, 0⟩] scope pos) (some (.Name y py)) spos.line Γ.env = pure true) (hi : PI Γ tg iter (tI X W src)) (ok : BlkOk Γ.N Γ.env.scope scope own)
    (hg : ∀ (s : Shared) (H : Hp) (C : Addr) (cl : List (Str × Addr)) (fp : List Addr), PG (Γ.blk s H scope (compEnvC scope cl C Γ.env) fp) tg (tG X t)) (ht : ∀ (s : Shared) (H : Hp) (C : Addr) (cl : List (Str × Addr)) (fp : List Addr), PTs (Γ.blk s H scope (compEnvC scope cl C Γ.env) fp) ifs (tsto X W0 c))
    (hi1 : ∀ (s : Shared) (H : Hp) (C : Addr) (cl : List (Str × Addr)) (fp : List Addr), PI (Γ.blk s H scope (compEnvC scope cl C Γ.env) fp) tg1 iter1 (tI X W0 src1))
    (hg1 : ∀ (s : Shared) (H : Hp) (C : Addr) (cl : List (Str × Addr)) (fp : List Addr), PG (Γ.blk s H scope (compEnvC scope cl C Γ.env) fp) tg1 (tG X t1)) (ht1 : ∀ (s : Shared) (H : Hp) (C : Addr) (cl : List (Str × Addr)) (fp : List Addr), PTs (Γ.blk s H scope (compEnvC scope cl C Γ.env) fp) ifs1 (tsto X W0 c1))
    (he : ∀ (s : Shared) (H : Hp) (C : Addr) (cl : List (Str × Addr)) (fp : List Addr), PE (Γ.blk s H scope (compEnvC scope cl C Γ.env) fp) elt (tE X W0 m)) (hpi : i ∉ X.pin := by decide) (hp : ∀ i ∈ X.pin, i ∉ own.map (·.2) := by decide) (hv : ∀ i ∈ vs1, i ∈ own.map (·.2) := by decide) (hj : ∀ j ∈ t.slots, j ∈ own.map (·.2) := by decide) (hj1 : ∀ j ∈ t1.slots, j ∈ vs1 := by decide) (hs : ∀ x, foldedSetIterable iter Γ.env x = pure x := by intro _; rfl) (hs1 : ∀ env x, foldedSetIterable iter1 env x = pure x := by intro _ _; rfl) :
    PS Γ (.Assign [.Name y py] (.ListComp elt [⟨tg, iter, ifs, 0⟩, ⟨tg1, iter1, ifs1, 0⟩] scope pos) spos) (tS X W (sAsg (.nm i) (mLc2 src t c (own.map (·.2)) src1 t1 c1 vs1 m))) := PSi (ps_setLc2 hc hN hy hyl hsw hi ok hv hg ht hi1 hg1 ht1 he hs hs1) fun E σ H q => asg_run (fun Q z => lc2_run hp hv hj hj1 z) (g_name hpi) q
end
end Z

set_option Elab.async false
set_option linter.all false
set_option maxRecDepth 100000
set_option maxHeartbeats 4000000
/-! ZX: dict(zip(x, y)), of lists and tuples, whose keys are tuples. -/
namespace Z
open PySem PySem.Spec PyProof.Rows L2 StX
section
variable {prog : Program} {w : World} {A : Around} {E : Value → Shared → Prop} {s : Shared} {z J U i1 i2 : Addr} {fp1 fp2 : List Addr} {n1 n2 i : Nat} {P1 P2 : Nat → Value → Prop} {St1 St2 : Nat → Heap → Prop}
theorem zipH_item {T : Addr} {f : Bool} {ob : Obj} {Q : Value → Shared → Prop} (S : ZipSep2 z J U i1 i2 fp1 fp2) (D1 : Draws prog w A i1 fp1 n1 P1 St1) (D2 : Draws prog w A i2 fp2 n2 P2 St2)
    (az : IsZipHeld s.heap z J U T f) (aT : s.heap.get? T = some ob) (aI : IsPair s.heap J (.ref i1) (.ref i2)) (st1 : St1 i s.heap) (st2 : St2 i s.heap) (hlt1 : i < n1) (hlt2 : i < n2)
    (hQ : ∀ x y h' tk, P1 i x → P2 i y → IsZipHeld h' z J U T true → St1 (i + 1) h' → St2 (i + 1) h' → IsPair h' s.heap.objs.size x y → h'.objs.size = s.heap.objs.size + 1 →
      (∀ c o, c ≠ z → c ≠ i1 → c ≠ i2 → s.heap.get? c = some o → h'.get? c = some o) → Q (.ref s.heap.objs.size) { s with heap := h', toks := tk }) :
    wpAny (model prog w) A (Builtin.«zip.__next__» ⟨[.ref z], []⟩) (fun fin s' => ∃ v, fin = .done (.ret v) ∧ Q v s') E s := by
  obtain ⟨p0, g, d, n0, o0⟩ := s
  show wpAny _ _ (field (.ref z) 2 >>= _) _ _ _
  refine wpAny_bind (wpAny_field az rfl (x := .bool false) rfl ?_)
  show wpAny _ _ (field (.ref z) 3 >>= _) _ _ _
  refine wpAny_bind (wpAny_field az rfl (x := .ref J) rfl ?_)
  refine wpAny_bind (wpAny_seqItems aI rfl ?_)
  show wpAny _ _ (Builtin.SmallTypes.ownedTupleIsFree (.ref z) >>= _) _ _ _
  refine wpAny_bind (wpAny_tupleHeld_zip az aT fun g₁ az₁ d₁ => ?_)
  replace d₁ : Heap.SameBut z p0 g₁ := d₁
  simp only [Bool.false_eq_true, if_false]
  refine wpAny_bind ?_
  rw [← Array.forIn_toList]
  simp only [List.forIn_cons, List.forIn_nil]
  refine wpAny_bind (wpAny_bind (wpAny_holding ?_))
  show wpAny _ _ (Builtin.SmallTypes.nextOf (.ref i1) >>= _) _ _ ⟨g₁, g, d, n0, o0⟩
  refine wpAny_bind (D1.item i ⟨g₁, g, d, n0, o0⟩ _ _ hlt1 (D1.over st1 d₁ S.zf1) fun x g₂ tk₂ hx st1₂ d₂ => wpAny_pure ?_)
  replace d₂ : Heap.SameBut i1 g₁ g₂ := d₂
  refine wpAny_pure ?_
  refine wpAny_bind (wpAny_bind (wpAny_holding ?_))
  show wpAny _ _ (Builtin.SmallTypes.nextOf (.ref i2) >>= _) _ _ ⟨g₂, g, d, tk₂, o0⟩
  refine wpAny_bind (D2.item i ⟨g₂, g, d, tk₂, o0⟩ _ _ hlt2 (D2.over (D2.over st2 d₁ S.zf2) d₂ S.sep1_2) fun y g₃ tk₃ hy st2₃ d₃ => wpAny_pure ?_)
  replace d₃ : Heap.SameBut i2 g₂ g₃ := d₃
  refine wpAny_pure (wpAny_pure ?_)
  show wpAny _ _ (newTuple [x, y] >>= _) _ _ ⟨g₃, g, d, tk₃, o0⟩
  refine wpAny_bind (wpAny_newTuple ?_)
  have hsz : g₃.objs.size = p0.objs.size := by rw [d₃.1, d₂.1, d₁.1]
  have az₃ : IsZipHeld g₃ z J U T true := d₃.extBut _ _ S.zi2 (d₂.extBut _ _ S.zi1 az₁)
  have far : ∀ c o, c ≠ z → c ≠ i1 → c ≠ i2 → p0.get? c = some o → g₃.get? c = some o := fun c o c1 c2 c3 e => d₃.extBut _ _ c3 (d₂.extBut _ _ c2 (d₁.extBut _ _ c1 e))
  have st1₃ : St1 (i + 1) g₃ := D1.over st1₂ d₃ S.sep2_1
  refine wpAny_pure ⟨_, rfl, ?_⟩
  show Q (.ref g₃.objs.size) _
  have hpr : IsPair (g₃.push { cls := .type "tuple", data := .seq #[x, y] }) g₃.objs.size x y := Heap.get?_push_size _ rfl
  have size4 : (g₃.push { cls := .type "tuple", data := .seq #[x, y] }).objs.size = g₃.objs.size + 1 := Heap.size_push ..
  rw [hsz] at hpr size4 ⊢
  exact hQ x y _ tk₃ hx hy (Heap.get?_push_of_some _ az₃) (D1.frame _ _ _ st1₃ fun b _ o e => Heap.get?_push_of_some _ e) (D2.frame _ _ _ st2₃ fun b _ o e => Heap.get?_push_of_some _ e) hpr size4 fun c o c1 c2 c3 e => Heap.get?_push_of_some _ (far c o c1 c2 c3 e)
theorem zipH_end {T : Addr} {f : Bool} {ob : Obj} {Q : Fin → Shared → Prop} (S : ZipSep2 z J U i1 i2 fp1 fp2) (D1 : Draws prog w A i1 fp1 n1 P1 St1) (D2 : Draws prog w A i2 fp2 n2 P2 St2)
    (az : IsZipHeld s.heap z J U T f) (aT : s.heap.get? T = some ob) (aI : IsPair s.heap J (.ref i1) (.ref i2)) (st1 : St1 i s.heap) (st2 : St2 i s.heap) (hle1 : i ≤ n1) (hle2 : i ≤ n2) (hend : i = n1 ∨ i = n2)
    (hE : ∀ h' tk e, (∀ c o, c ≠ z → c ≠ i1 → c ≠ i2 → s.heap.get? c = some o → h'.get? c = some o) → (∃ o, h'.get? e = some o ∧ o.cls = .type "StopIteration") → E (.ref e) { s with heap := h', toks := tk }) :
    wpAny (model prog w) A (Builtin.«zip.__next__» ⟨[.ref z], []⟩) Q E s := by
  obtain ⟨p0, g, d, n0, o0⟩ := s
  show wpAny _ _ (field (.ref z) 2 >>= _) _ _ _
  refine wpAny_bind (wpAny_field az rfl (x := .bool false) rfl ?_)
  show wpAny _ _ (field (.ref z) 3 >>= _) _ _ _
  refine wpAny_bind (wpAny_field az rfl (x := .ref J) rfl ?_)
  refine wpAny_bind (wpAny_seqItems aI rfl ?_)
  show wpAny _ _ (Builtin.SmallTypes.ownedTupleIsFree (.ref z) >>= _) _ _ _
  refine wpAny_bind (wpAny_tupleHeld_zip az aT fun g₁ az₁ d₁ => ?_)
  replace d₁ : Heap.SameBut z p0 g₁ := d₁
  simp only [Bool.false_eq_true, if_false]
  refine wpAny_bind ?_
  rw [← Array.forIn_toList]
  simp only [List.forIn_cons, List.forIn_nil]
  refine wpAny_bind (wpAny_bind (wpAny_holding ?_))
  show wpAny _ _ (Builtin.SmallTypes.nextOf (.ref i1) >>= _) _ _ ⟨g₁, g, d, n0, o0⟩
  by_cases hlt1 : i < n1
  · have end2 : i = n2 := by omega
    refine wpAny_bind (D1.item i ⟨g₁, g, d, n0, o0⟩ _ _ hlt1 (D1.over st1 d₁ S.zf1) fun x g₂ tk₂ hx st1₂ d₂ => wpAny_pure ?_)
    replace d₂ : Heap.SameBut i1 g₁ g₂ := d₂
    refine wpAny_pure ?_
    refine wpAny_bind (wpAny_bind (wpAny_holding ?_))
    show wpAny _ _ (Builtin.SmallTypes.nextOf (.ref i2) >>= _) _ _ ⟨g₂, g, d, tk₂, o0⟩
    refine wpAny_bind (D2.done ⟨g₂, g, d, tk₂, o0⟩ _ _ (by rw [← end2]; exact D2.over (D2.over st2 d₁ S.zf2) d₂ S.sep1_2) fun g₃ e d₃ he => ?_)
    replace d₃ : Heap.ExtBut i2 g₂ g₃ := d₃
    exact hE g₃ tk₂ e (fun c o c1 c2 c3 x => d₃ _ _ c3 (d₂.extBut _ _ c2 (d₁.extBut _ _ c1 x))) he
  · have end1 : i = n1 := by omega
    refine wpAny_bind (D1.done ⟨g₁, g, d, n0, o0⟩ _ _ (by rw [← end1]; exact D1.over st1 d₁ S.zf1) fun g₂ e d₂ he => ?_)
    replace d₂ : Heap.ExtBut i1 g₁ g₂ := d₂
    exact hE g₂ n0 e (fun c o c1 c2 _ x => d₂ _ _ c2 (d₁.extBut _ _ c1 x)) he
theorem next_zipH_item {T : Addr} {f : Bool} {ob : Obj} {Q : Option Value → Shared → Prop} (S : ZipSep2 z J U i1 i2 fp1 fp2) (D1 : Draws prog w A.in1 i1 fp1 n1 P1 St1) (D2 : Draws prog w A.in1 i2 fp2 n2 P2 St2)
    (az : IsZipHeld s.heap z J U T f) (aT : s.heap.get? T = some ob) (aI : IsPair s.heap J (.ref i1) (.ref i2)) (st1 : St1 i s.heap) (st2 : St2 i s.heap) (hlt1 : i < n1) (hlt2 : i < n2)
    (hQ : ∀ x y h' tk, P1 i x → P2 i y → IsZipHeld h' z J U T true → St1 (i + 1) h' → St2 (i + 1) h' → IsPair h' s.heap.objs.size x y → h'.objs.size = s.heap.objs.size + 1 →
      (∀ c o, c ≠ z → c ≠ i1 → c ≠ i2 → s.heap.get? c = some o → h'.get? c = some o) → Q (some (.ref s.heap.objs.size)) { s with heap := h', toks := tk }) :
    wpAny (model prog w) A (pyNext (.ref z)) Q E s := by
  have ofZip : s.TypeIs (.ref z) "zip" := ⟨_, az, rfl⟩
  unfold pyNext
  exact wpAny_bind (wpAny_attempt (wpAny_callSpecial?_slot (name := Str.ofString "__next__") ofZip F.slot_zip_next
    (wpAny_call_entry F.slot_zip_next ofZip F.entry_zip_next
      (zipH_item S D1 D2 az aT aI st1 st2 hlt1 hlt2 fun x y h' tk b1 b2 b3 b4 b5 b6 b7 b8 => wpAny_pure (hQ x y h' tk b1 b2 b3 b4 b5 b6 b7 b8)) (F.args_zip_next_1 _))))
theorem next_zipH_end {T : Addr} {f : Bool} {ob : Obj} {Q : Option Value → Shared → Prop} (S : ZipSep2 z J U i1 i2 fp1 fp2) (D1 : Draws prog w A.in1 i1 fp1 n1 P1 St1) (D2 : Draws prog w A.in1 i2 fp2 n2 P2 St2)
    (az : IsZipHeld s.heap z J U T f) (aT : s.heap.get? T = some ob) (aI : IsPair s.heap J (.ref i1) (.ref i2)) (st1 : St1 i s.heap) (st2 : St2 i s.heap) (hle1 : i ≤ n1) (hle2 : i ≤ n2) (hend : i = n1 ∨ i = n2)
    (hQ : ∀ h' tk, (∀ c o, c ≠ z → c ≠ i1 → c ≠ i2 → s.heap.get? c = some o → h'.get? c = some o) → Q none { s with heap := h', toks := tk }) : wpAny (model prog w) A (pyNext (.ref z)) Q E s := by
  have ofZip : s.TypeIs (.ref z) "zip" := ⟨_, az, rfl⟩
  unfold pyNext
  refine wpAny_bind (wpAny_attempt (wpAny_callSpecial?_slot (name := Str.ofString "__next__") ofZip F.slot_zip_next
    (wpAny_call_entry F.slot_zip_next ofZip F.entry_zip_next (zipH_end S D1 D2 az aT aI st1 st2 hle1 hle2 hend fun h' tk e far he => ?_) (F.args_zip_next_1 _))))
  obtain ⟨o, ho, hc⟩ := he
  refine wpAny_bind (wpAny_isInstance (T := "StopIteration") (b := true) ⟨o, ho, hc⟩ isSubtype_stop ?_)
  exact wpAny_pure (hQ _ _ far)
end
section
variable {prog : Program} {w : World}
/-- zip(x, y) as dict()'s argument -/
theorem pairArg_zipD (A0 : Around) (hA0 : A0.handled = none) (z J U i1 i2 : Addr) (fp1 fp2 : List Addr) (n1 n2 : Nat) (P1 P2 : Nat → Value → Prop) (St1 St2 : Nat → Heap → Prop) (S : ZipSep2 z J U i1 i2 fp1 fp2)
    (D1 : ∀ A : Around, A.handled = none → Draws prog w A i1 fp1 n1 P1 St1) (D2 : ∀ A : Around, A.handled = none → Draws prog w A i2 fp2 n2 P2 St2)
    (all1 : ∀ h, St1 0 h → ∀ b ∈ fp1, ∃ o, h.get? b = some o) (all2 : ∀ h, St2 0 h → ∀ b ∈ fp2, ∃ o, h.get? b = some o) :
    PairArg prog w "zip" z (z :: J :: U :: (fp1 ++ fp2)) [z, U, i1, i2] (min n1 n2) (fun i k v => P1 i k ∧ P2 i v)
      (fun h => IsZip h z J U .none ∧ IsPair h J (.ref i1) (.ref i2) ∧ (∃ a b, IsPair h U a b) ∧ St1 0 h ∧ St2 0 h) where
  type := fun s all => ⟨_, all.1, rfl⟩
  notDict := by decide
  keep := fun h h' all far => by
    obtain ⟨az, aI, ⟨a, b, aO⟩, a1, a2⟩ := all
    exact ⟨far _ _ az, far _ _ aI, ⟨a, b, far _ _ aO⟩, (D1 A0 hA0).frame _ _ _ a1 fun b _ o e => far b o e, (D2 A0 hA0).frame _ _ _ a2 fun b _ o e => far b o e⟩
  there := fun h all b hb => by
    obtain ⟨az, aI, ⟨a, c, aO⟩, a1, a2⟩ := all
    simp only [List.mem_cons, List.mem_append] at hb
    rcases hb with rfl | rfl | rfl | hb | hb
    · exact ⟨_, az⟩
    · exact ⟨_, aI⟩
    · exact ⟨_, aO⟩
    · exact all1 h a1 b hb
    · exact all2 h a2 b hb
  sub := fun b hb => by
    simp only [List.mem_cons, List.not_mem_nil, or_false] at hb
    simp only [List.mem_cons, List.mem_append]
    rcases hb with rfl | rfl | rfl | rfl
    · exact .inl rfl
    · exact .inr (.inr (.inl rfl))
    · exact .inr (.inr (.inr (.inl S.mem1)))
    · exact .inr (.inr (.inr (.inr S.mem2)))
  noKeys := fun A s Q E noExc all h => getAttrOr_miss_zip all.1 rfl rfl rfl zip_no_keys (by decide +kernel) noExc h
  iter := fun A s d Q E noExc all below apart h => by
    obtain ⟨az, aI, ⟨a, b, aO⟩, a1, a2⟩ := all
    simp only [List.mem_cons, List.mem_append, not_or] at apart
    obtain ⟨nz, nJ, nU, df1, df2⟩ := apart
    have di1 : d ≠ i1 := fun e => df1 (by rw [e]; exact S.mem1)
    have di2 : d ≠ i2 := fun e => df2 (by rw [e]; exact S.mem2)
    have hA1 : A.in1.handled = none := noExc
    refine wpAny_pyIter_zip az (h z [z, U, i1, i2] (fun i h => IsPair h J (.ref i1) (.ref i2) ∧ St1 i h ∧ St2 i h ∧
      ((IsZip h z J U .none ∧ ∃ a b, IsPair h U a b) ∨ ∃ T f ob, IsZipHeld h z J U T f ∧ h.get? T = some ob ∧ T ≠ z ∧ T ≠ i1 ∧ T ≠ i2 ∧ T ≠ d)) s.heap s.toks ?_
      ⟨aI, a1, a2, .inl ⟨az, a, b, aO⟩⟩ (fun _ _ e => e) fun b hb => .inl hb)
    exact {
      off := fun hm => by
        simp only [List.mem_cons, List.not_mem_nil, or_false] at hm
        rcases hm with e | e | e | e
        · exact nz e
        · exact nU e
        · exact di1 e
        · exact di2 e
      frame := fun i g₁ g₂ now far => by
        obtain ⟨aI, a1, a2, az⟩ := now
        refine ⟨far _ _ (Ne.symm nJ) aI, (D1 _ hA1).frame _ _ _ a1 fun b hb o e => far b o (fun q => df1 (q ▸ hb)) e, (D2 _ hA1).frame _ _ _ a2 fun b hb o e => far b o (fun q => df2 (q ▸ hb)) e, ?_⟩
        rcases az with ⟨az, a, b, aO⟩ | ⟨T, f, ob, az, aT, w1, w2, w3, w4⟩
        · exact .inl ⟨far _ _ (Ne.symm nz) az, a, b, far _ _ (Ne.symm nU) aO⟩
        · exact .inr ⟨T, f, ob, far _ _ (Ne.symm nz) az, far _ _ w4 aT, w1, w2, w3, w4⟩
      item := fun i sh R Ex hi now hds hQ => by
        obtain ⟨aI, a1, a2, az⟩ := now
        have hix : i < n1 := Nat.lt_of_lt_of_le hi (Nat.min_le_left ..)
        have hiy : i < n2 := Nat.lt_of_lt_of_le hi (Nat.min_le_right ..)
        have below2 : ∀ {c o}, sh.heap.get? c = some o → sh.heap.objs.size ≠ c := fun e => Nat.ne_of_gt (Heap.lt_size e)
        have m1 : sh.heap.objs.size ≠ i1 := let ⟨_, e⟩ := (D1 _ hA1).live _ _ a1; below2 e
        have m2 : sh.heap.objs.size ≠ i2 := let ⟨_, e⟩ := (D2 _ hA1).live _ _ a2; below2 e
        rcases az with ⟨az, a, b, aO⟩ | ⟨T, f, ob, az, aT, w1, w2, w3, w4⟩
        · refine wpAny_pyNext_zipD2_item S (D1 _ hA1) (D2 _ hA1) az aI aO a1 a2 hix hiy fun x y h' tk px py a1 a2 a3 a4 a5 a6 far => ?_
          exact hQ sh.heap.objs.size x y h' tk ⟨px, py⟩ (.inl ⟨_, a5, rfl, _, rfl⟩)
            ⟨far _ _ S.TIz S.TITO S.TIi1 S.TIi2 aI, a3, a4, .inr ⟨sh.heap.objs.size, false, _, a1, a5, below2 az, m1, m2, Nat.ne_of_gt hds⟩⟩
            fun c o hc e => far c o (fun x => hc (by simp [x])) (fun x => hc (by simp [x])) (fun x => hc (by simp [x])) (fun x => hc (by simp [x])) e
        · refine next_zipH_item S (D1 _ hA1) (D2 _ hA1) az aT aI a1 a2 hix hiy fun x y h' tk px py a1 a3 a4 a5 a6 far => ?_
          exact hQ sh.heap.objs.size x y h' tk ⟨px, py⟩ (.inl ⟨_, a5, rfl, _, rfl⟩)
            ⟨far _ _ S.TIz S.TIi1 S.TIi2 aI, a3, a4, .inr ⟨T, true, ob, a1, far _ _ w1 w2 w3 aT, w1, w2, w3, w4⟩⟩
            fun c o hc e => far c o (fun x => hc (by simp [x])) (fun x => hc (by simp [x])) (fun x => hc (by simp [x])) e
      done := fun sh R Ex now hQ => by
        obtain ⟨aI, a1, a2, az⟩ := now
        have hend : min n1 n2 = n1 ∨ min n1 n2 = n2 := by omega
        rcases az with ⟨az, a, b, aO⟩ | ⟨T, f, ob, az, aT, w1, w2, w3, w4⟩
        · exact wpAny_pyNext_zipD2_end S (D1 _ hA1) (D2 _ hA1) az aI aO a1 a2 (Nat.min_le_left ..) (Nat.min_le_right ..) hend fun h' tk far => hQ h' tk fun c o hc e => far c o (fun x => hc (by simp [x])) (fun x => hc (by simp [x])) (fun x => hc (by simp [x])) (fun x => hc (by simp [x])) e
        · exact next_zipH_end S (D1 _ hA1) (D2 _ hA1) az aT aI a1 a2 (Nat.min_le_left ..) (Nat.min_le_right ..) hend fun h' tk far => hQ h' tk fun c o hc e => far c o (fun x => hc (by simp [x])) (fun x => hc (by simp [x])) (fun x => hc (by simp [x])) e }
end
end Z

set_option Elab.async false
set_option linter.all false
set_option maxRecDepth 100000
set_option maxHeartbeats 4000000
/-! ZY: dict(zip(x, y)) as a rule. -/
namespace Z
open PySem PySem.Spec PyProof.Rows L2 StX
/-- the sources of a zip: lists and tuples -/
structure Src2 (prog : Program) (w : World) (s : Shared) (b : Addr) (ys : List Value) where
  o : Obj
  P : Heap → Prop
  B : Begins (.ref b) o P
  here : P s.heap
  St : Addr → Nat → Heap → Prop
  draws : ∀ (A : Around), A.handled = none → ∀ it, b ≠ it → Draws prog w A it [it, b] ys.length (fun i v => ys[i]? = some v) (St it)
  start : ∀ h it, h.get? it = some o → P h → St it 0 h
  all : ∀ h it, St it 0 h → (∃ o, h.get? it = some o) ∧ ∃ o, h.get? b = some o
  there : ∃ o, s.heap.get? b = some o
def src_list {prog : Program} {w : World} {s : Shared} {b : Addr} {ys : List Value} (h : s.heap.IsList b ys.toArray) : Src2 prog w s b ys where
  o := { cls := .type "list_iterator", data := .fields #[.ref b, .int 0 0] }
  P := fun h => h.IsList b ys.toArray
  B := begins_list b ys.toArray
  here := h
  St := fun it i h => h.IsListIter it b i ∧ h.IsList b ys.toArray
  draws := fun A hh it hne => by
    have z := Draws.list (prog := prog) (w := w) hh it b hne ys.toArray
    simpa using z
  start := fun h it e p => ⟨⟨_, e, rfl, rfl⟩, p⟩
  all := fun h it st => ⟨let ⟨o, e, _⟩ := st.1; ⟨o, e⟩, let ⟨o, e, _⟩ := st.2; ⟨o, e⟩⟩
  there := let ⟨o, e, _⟩ := h; ⟨o, e⟩
def src_tup {prog : Program} {w : World} {s : Shared} {b : Addr} {ys : List Value} (h : s.heap.IsTuple b ys.toArray) : Src2 prog w s b ys where
  o := { cls := .type "tuple_iterator", data := .fields #[.ref b, .int 0 0] }
  P := fun h => h.IsTuple b ys.toArray
  B := begins_tuple b ys.toArray
  here := h
  St := fun it i h => h.IsTupleIter it b i ∧ h.IsTuple b ys.toArray
  draws := fun A hh it hne => by
    have z := Draws.tuple (prog := prog) (w := w) hh it b hne ys.toArray
    simpa using z
  start := fun h it e p => ⟨⟨_, e, rfl, rfl⟩, p⟩
  all := fun h it st => ⟨let ⟨o, e, _⟩ := st.1; ⟨o, e⟩, let ⟨o, e, _⟩ := st.2; ⟨o, e⟩⟩
  there := let ⟨o, e, _⟩ := h; ⟨o, e⟩
theorem stored_new {K : Type} [DecidableEq K] : ∀ (ps xs : List (K × Addr × Value)), ((xs ++ ps).map (·.1)).Nodup → storedAllH xs ps = xs ++ ps
  | [], xs, _ => by simp [storedAllH]
  | p :: ps, xs, h => by
    have hn : atKey xs p.1 = none := by
      rw [List.map_append, List.map_cons] at h
      obtain ⟨_, _, h3⟩ := List.nodup_append.mp h
      cases e : atKey xs p.1 with
      | none => rfl
      | some q =>
        exfalso
        have hm : p.1 ∈ xs.map (·.1) := by
          have e2 : (xs.find? fun y => decide (y.1 = p.1)).isSome = true := by
            have : (atKey xs p.1).isSome = true := by rw [e]; rfl
            unfold atKey at this
            simpa using this
          obtain ⟨y, hy⟩ := Option.isSome_iff_exists.mp e2
          have h1 := List.find?_some hy
          have h2 := List.mem_of_find?_eq_some hy
          exact List.mem_map.mpr ⟨y, h2, by simpa using h1⟩
        exact h3 p.1 hm p.1 (List.mem_cons_self ..) rfl
    have e1 : storedAllH xs (p :: ps) = storedAllH (storedH xs p.1 p.2.1 p.2.2) ps := rfl
    rw [e1, storedH_new hn]
    have z := stored_new ps (xs ++ [(p.1, p.2.1, p.2.2)]) (by simpa using h)
    rw [z]
    simp
def tDZip (K : PySem.W.Frag) (ta : TA) : TE := fun σ H Q => ta σ H fun vs H1 => ∃ (a b : Addr) (qs : List Addr) (ys : List V) (ks : List (List Key)), vs = [.ref a, .ref b] ∧ SqL K H1 a (qs.map V.ref) ∧ (SqL K H1 b ys ∨ SqT K H1 b ys) ∧
  qs.length = ks.length ∧ (∀ (i : Nat) (q : Addr), qs[i]? = some q → ∃ k, ks[i]? = some k ∧ H1 q = some (.tup (k.map kV))) ∧ ks.length = ys.length ∧ ks.Nodup ∧ ∀ p, H1 p = none → Q (.ref p) (upd H1 p (.dT (ks.zip ys)))
theorem vals_refs : ∀ {qs : List Addr} {us : List Value}, Vals (qs.map V.ref) us → us = qs.map Value.ref
  | [], us, h => by cases h; rfl
  | q :: qs, us, h => by
    rw [List.map_cons] at h
    cases h with
    | cons r t =>
      cases r
      rw [vals_refs t]
      rfl
theorem kt_zip {H : Hp} : ∀ {ks : List (List Key)} {qs : List Addr} {ys : List V} {us : List Value}, qs.length = ks.length → ks.length = ys.length → Vals ys us → (∀ (i : Nat) (q : Addr), qs[i]? = some q → ∃ k, ks[i]? = some k ∧ H q = some (.tup (k.map kV))) → KT H (ks.zip ys) (ks.zip (qs.zip us))
  | [], qs, ys, us, _, _, _, _ => .nil
  | k :: ks, [], ys, us, h, _, _, _ => by cases h
  | k :: ks, q :: qs, [], us, _, h, _, _ => by cases h
  | k :: ks, q :: qs, y :: ys, us, h1, h2, rv, hk => by
    cases rv with
    | cons r t =>
      obtain ⟨k', e1, e2⟩ := hk 0 q rfl
      cases e1
      exact .cons ⟨rfl, e2, r⟩ (kt_zip (by simpa using h1) (by simpa using h2) t fun i q e => hk (i + 1) q e)
theorem pe_dzip {Γ : Cx} {e e2 : Expr} {ta : TA} {p pos p2 pos2 : Pos} (hcalm : Γ.calm = true) (hu : Γ.A.units + 65 < cLine) (hg1 : Gl Γ "dict") (hm1 : Γ.mg "dict" = none) (hg2 : Gl Γ "zip") (hm2 : Γ.mg "zip" = none) (ha : PA Γ [e, e2] ta)
    (hs : starEach [e, e2] Γ.env = (false, eval e Γ.env) :: starEach [e2] Γ.env := by rfl) (hpl : (backTo pos2 (starEach [e2] Γ.env)).any (·.1) = false := by rfl)
    (na : starEach [.Call (.Name "zip" p2) [e, e2] [] pos2] Γ.env = (false, eval (.Call (.Name "zip" p2) [e, e2] [] pos2) Γ.env) :: starEach [] Γ.env := by rfl) :
    PE Γ (.Call (.Name "dict" p) [.Call (.Name "zip" p2) [e, e2] [] pos2] [] pos) (tDZip Γ.K ta) := by
  refine ⟨fun pins s σ H Q I h => ?_⟩
  refine Call_ (ld_blt I hg1 hm1 boot_dict (PyProof.Rows.callWith_type1 (args_cons ?_ na) na rfl))
  refine Call_ (ld_blt I hg2 hm2 PyProof.Rows.boot_zip (PyProof.Rows.callWith_type1 (thn (ha.run pos2 pins s σ H _ I h) fun us s1 ⟨vs, H1, I1, r1, q1⟩ => ?_) hs hpl))
  obtain ⟨a, b, qs, ys, ks, rfl, hqa, hqb, lq, hk, lk, nd, q⟩ := q1
  obtain ⟨u1, u2, rfl, ra, rb⟩ : ∃ u1 u2, us = [u1, u2] ∧ RelV (.ref a) u1 ∧ RelV (.ref b) u2 := by
    cases r1 with
    | cons p q =>
      cases q with
      | cons p' q' =>
        cases q'
        exact ⟨_, _, rfl, p, p'⟩
  cases ra
  cases rb
  obtain ⟨its, rv, ip, iz⟩ := I1.list hqa
  have eits := vals_refs rv
  have S1 : Src2 Γ.prog Γ.w s1 a its := src_list ip.isList
  obtain ⟨its2, rv2, ⟨S2⟩⟩ : ∃ its2, Vals ys its2 ∧ Nonempty (Src2 Γ.prog Γ.w s1 b its2) := by
    rcases hqb with hqb | hqb
    · obtain ⟨i2, r2, p2, _⟩ := I1.list hqb
      exact ⟨i2, r2, ⟨src_list p2.isList⟩⟩
    · obtain ⟨i2, r2, p2, _⟩ := I1.tuple hqb
      exact ⟨i2, r2, ⟨src_tup p2⟩⟩
  refine zip_begins2 S1.B S2.B S1.here S2.here fun h' hz hTI hTO g1 g2 hsz keep => args_nil ?_
  have lta : a < s1.heap.objs.size := let ⟨o, e⟩ := S1.there; Heap.lt_size e
  have ltb : b < s1.heap.objs.size := let ⟨o, e⟩ := S2.there; Heap.lt_size e
  have l1 : its.length = ks.length := by rw [eits, List.length_map, lq]
  have l2 : its2.length = ks.length := by rw [← rv2.length, ← lk]
  have hA := I.ok.hd hcalm
  have ne1 : a ≠ s1.heap.objs.size := Nat.ne_of_lt lta
  have ne2 : b ≠ s1.heap.objs.size + 1 := Nat.ne_of_lt (Nat.lt_succ_of_lt ltb)
  have P := pairArg_zipD (prog := Γ.prog) (w := Γ.w) Γ.A hA (s1.heap.objs.size + 4) (s1.heap.objs.size + 2) (s1.heap.objs.size + 3) s1.heap.objs.size (s1.heap.objs.size + 1) [s1.heap.objs.size, a] [s1.heap.objs.size + 1, b] its.length its2.length _ _ (S1.St _) (S2.St _)
    (zip_sep2 (fp1 := [a]) (fp2 := [b]) (by simpa using lta) (by simpa using ltb)) (fun A hh => S1.draws A hh _ ne1) (fun A hh => S2.draws A hh _ ne2)
    (fun h st c hc => by
      have hc' : c = s1.heap.objs.size ∨ c = a := by simpa using hc
      rcases hc' with rfl | rfl
      · exact (S1.all h _ st).1
      · exact (S1.all h _ st).2)
    (fun h st c hc => by
      have hc' : c = s1.heap.objs.size + 1 ∨ c = b := by simpa using hc
      rcases hc' with rfl | rfl
      · exact (S2.all h _ st).1
      · exact (S2.all h _ st).2)
  have I2 : Inv Γ pins σ H1 { s1 with heap := h' } := I1.kept (t' := s1.toks) keep
  have nd' : ((ks.zip (qs.zip its2)).map (·.1)).Nodup := by
    rw [List.map_fst_zip (by rw [List.length_zip, lq, l2, Nat.min_self]; exact Nat.le_refl _)]
    exact nd
  refine call_dict_pairsH (s := { s1 with heap := h' }) (knd := tupleKind (mixKind Γ.prog Γ.w)) (ps := ks.zip (qs.zip its2)) P hA ?_ ⟨hz, hTI, ⟨_, _, hTO⟩, S1.start _ _ g1 (S1.B.keeps _ _ S1.here keep), S2.start _ _ g2 (S2.B.keeps _ _ S2.here keep)⟩ ⟨?_, fun i key v hr => ?_⟩ (fun h2 hk2 x hx => ?_) ?_ fun h2 tk hd hk2 => ?_
  · show Γ.A.in1.in1.units < cLine
    have e : Γ.A.in1.in1.units = Γ.A.units + 2 := rfl
    rw [e]
    omega
  · rw [List.length_zip, List.length_zip, lq, l1, l2]
    simp
  · obtain ⟨hr1, hr2⟩ := hr
    rw [eits, List.getElem?_map] at hr1
    obtain ⟨q0, e1, e2⟩ := Option.map_eq_some_iff.mp hr1
    obtain ⟨k, e3, e4⟩ := hk i q0 e1
    exact ⟨k, q0, by rw [List.getElem?_zip_eq_some]; exact ⟨e3, by rw [List.getElem?_zip_eq_some]; exact ⟨e1, hr2⟩⟩, e2.symm⟩
  · obtain ⟨i, hi, e0⟩ := List.getElem_of_mem hx
    have e1 : (ks.zip (qs.zip its2))[i]? = some x := by rw [List.getElem?_eq_getElem hi, e0]
    obtain ⟨k, q0, v⟩ := x
    rw [List.getElem?_zip_eq_some] at e1
    obtain ⟨e1, e2⟩ := e1
    rw [List.getElem?_zip_eq_some] at e2
    obtain ⟨k', e3, e4⟩ := hk i q0 e2.1
    rw [e1] at e3
    cases e3
    obtain ⟨o, ys', n, h1, h2', h3, h4⟩ := key_of I1.hok e4
    have hlt : q0 < s1.heap.objs.size := Heap.lt_size h1
    have hsz' : h'.objs.size = s1.heap.objs.size + 5 := hsz
    refine ⟨o, ys', n, hk2 q0 o (fun e => ?_) (fun m => ?_) (keep q0 o h1), h2', h3, h4⟩
    · have : q0 = h'.objs.size := e
      rw [this, hsz'] at hlt
      exact absurd hlt (Nat.not_lt_of_le (Nat.le_add_right _ _))
    · have m' : q0 = s1.heap.objs.size + 4 ∨ q0 = s1.heap.objs.size + 3 ∨ q0 = s1.heap.objs.size ∨ q0 = s1.heap.objs.size + 1 := by simpa using m
      rcases m' with e | e | e | e <;> (rw [e] at hlt; first | exact absurd hlt (Nat.lt_irrefl _) | exact absurd hlt (Nat.not_lt_of_le (Nat.le_add_right _ _)))
  · rw [l1, l2, Nat.min_self, ← l1, eits, List.length_map]
    rw [List.length_map] at iz
    exact iz
  · have hsz' : h'.objs.size = s1.heap.objs.size + 5 := hsz
    rw [stored_new _ [] (by simpa using nd')] at hd
    obtain ⟨o, es, ep, d1, d2, d3, d4, _, d6⟩ := hd
    have ht := kt_zip (H := H1) lq lk rv2 hk
    have big : s1.heap.objs.size ≤ h'.objs.size := by rw [hsz']; exact Nat.le_add_right _ _
    have hn : H1 h'.objs.size = none := I1.hok.fresh big
    have old : ∀ c u, s1.heap.get? c = some u → h2.get? c = some u := fun c u e => by
      have hlt : c < s1.heap.objs.size := Heap.lt_size e
      refine hk2 c u (fun m => ?_) (keep c u e)
      have m' : c = s1.heap.objs.size + 4 ∨ c = s1.heap.objs.size + 3 ∨ c = s1.heap.objs.size ∨ c = s1.heap.objs.size + 1 := by simpa using m
      rcases m' with e | e | e | e <;> (rw [e] at hlt; first | exact absurd hlt (Nat.lt_irrefl _) | exact absurd hlt (Nat.not_lt_of_le (Nat.le_add_right _ _)))
    have lz : (ks.zip ys).length ≤ sizeLine := by
      rw [List.length_zip, ← lk, Nat.min_self, ← lq]
      rw [List.length_map] at iz
      exact iz
    have hm : (h'.objs.size == sysModules) = false := beq_eq_false_iff_ne.mpr (Nat.ne_of_gt (Nat.lt_of_lt_of_le I1.big big))
    refine ⟨.ref h'.objs.size, upd H1 h'.objs.size (.dT (ks.zip ys)), I1.laid (t' := tk) old big ⟨lz, hm, ks.zip (qs.zip its2), ht.keeps fun c zs ec => ?_, o, es, ep, d1, d2, d3, d4, d6⟩, rfl, q _ hn⟩
    rw [upd_ne (ne_of_none ec hn)]
    exact ec
/-! ### on trees -/
def keysL : List D → Option (List (List Key))
  | [] => some []
  | d :: ds => match keyOf d, keysL ds with
    | some k, some ks => some (k :: ks)
    | _, _ => none
section
variable {w : Wd}
theorem keysL_rep {I H : Hp} (le : Le I H) : ∀ {xs : List D} {us : List V} {fp : List Addr} {ks : List (List Key)}, RepL w I H xs us fp → keysL xs = some ks →
    ∃ qs : List Addr, us = qs.map V.ref ∧ qs.length = ks.length ∧ ∀ (i : Nat) (q : Addr), qs[i]? = some q → ∃ k, ks[i]? = some k ∧ H q = some (.tup (k.map kV))
  | [], us, fp, ks, h, e => by
    unfold RepL at h
    cases e
    exact ⟨[], h.1, rfl, fun i q e => by cases e⟩
  | d :: ds, us, fp, ks, h, e => by
    unfold RepL at h
    obtain ⟨v, u, f1, f2, rfl, rfl, h1, h2⟩ := h
    unfold keysL at e
    cases e1 : keyOf d with
    | none => rw [e1] at e; cases e
    | some k =>
      cases e2 : keysL ds with
      | none => rw [e1, e2] at e; cases e
      | some ks' =>
        rw [e1, e2] at e
        cases e
        obtain ⟨qs, rfl, hl, hk⟩ := keysL_rep le h2 e2
        have hv : ∃ q, v = .ref q ∧ H q = some (.tup (k.map kV)) := by
          unfold keyOf at e1
          split at e1
          · rename_i xs
            unfold Rep at h1
            obtain ⟨a, us, fp', rfl, hl, hf, q⟩ := h1
            rcases q with ⟨ho, _, _⟩ | ⟨_, hat, _⟩
            · cases ho
            · rw [← keysOf_rep hl e1]
              exact ⟨a, rfl, le a _ hat⟩
          · cases e1
        obtain ⟨q, rfl, hq⟩ := hv
        refine ⟨q :: qs, rfl, by simp [hl], fun i q' e => ?_⟩
        cases i with
        | zero =>
          cases e
          exact ⟨k, rfl, hq⟩
        | succ i => exact hk i q' e
def rDZ (K : PySem.W.Frag) : RN := fun us H Q _ => ∃ (a b : Addr) (qs : List Addr) (ys : List V) (ks : List (List Key)), us = [.ref a, .ref b] ∧ SqL K H a (qs.map V.ref) ∧ (SqL K H b ys ∨ SqT K H b ys) ∧
  qs.length = ks.length ∧ (∀ (i : Nat) (q : Addr), qs[i]? = some q → ∃ k, ks[i]? = some k ∧ H q = some (.tup (k.map kV))) ∧ ks.length = ys.length ∧ ks.Nodup ∧ ∀ p, H p = none → Q (.ref p) (upd H p (.dT (ks.zip ys)))
def oDZip : Op
  | [.node (.lst o) xs, e] => (match keysL xs, e.seq with
    | some ks, some ys => if ks.Nodup ∧ ks.length = ys.length then (if isFrzL ys = true then .ok (.node (.dt true ks) ys) [.node (.lst o) xs, e] else .ok (.node (.dt true ks) (frzL ys)) [.node (.lst o) xs, e.frz]) else .bad
    | _, _ => .bad)
  | _ => .bad
theorem od_dzip : OpD w (rDZ w.K) oDZip := fun I F es us H Q E hs o => by
  unfold oDZip at o
  split at o
  · rename_i ow xs e
    match us, hs.length, hs, o with
    | [v, u], _, hs, o =>
      cases e1 : keysL xs with
      | none => simp only [e1] at o; exact o.elim
      | some ks =>
        cases e2 : e.seq with
        | none => simp only [e1, e2] at o; exact o.elim
        | some ys =>
          simp only [e1, e2] at o
          obtain ⟨⟨nd, hl⟩, o⟩ := ite_out o
          have key : ∀ (J : Hp) (e' : D) (zs : List D), Le I J → Hs w J F [.node (.lst ow) xs, e'] [v, u] H → e'.seq = some zs → isFrzL zs = true → zs.length = ys.length →
              (∀ z I' H', Le J I' → Hs w I' F (.node (.dt true ks) zs :: [.node (.lst ow) xs, e']) (z :: [v, u]) H' → Q z H') → rDZ w.K [v, u] H Q E := by
            intro J e' zs le h2 hz hf hzl out
            obtain ⟨a, us, rfl, hq, hl1, fp, r⟩ := h2.seqL (t := .lst ow) (xs := xs) (.inr ⟨ow, rfl⟩)
            obtain ⟨qs, rfl, lq, hk⟩ := keysL_rep h2.iH r e1
            obtain ⟨b, vs2, rfl, hq2, _, _, hl2, h3⟩ := h2.swap.items hz hf
            refine ⟨a, b, qs, vs2, ks, rfl, hq, hq2, lq, hk, by omega, nd, fun p np => ?_⟩
            have h4 : Hs w J F (zs ++ [.node (.lst ow) xs, e']) (vs2 ++ [.ref a, .ref b]) H := by
              obtain ⟨G, g, back⟩ := Hs.push h3 hl2.symm
              exact back J _ _ H (Le.refl _) g.swap
            exact out (.ref p) J _ (Le.refl _) (Hs.newO (t := .dt true ks) h4 hl2.symm np rfl (show ks.length = vs2.length by omega) (show upd H p (.dT (ks.zip vs2)) p = some (.dT (ks.zip vs2)) from upd_same))
          by_cases hc : isFrzL ys = true
          · rw [if_pos hc] at o
            exact key I e ys (Le.refl _) hs e2 hc rfl o
          · rw [if_neg hc] at o
            obtain ⟨J, le, h1⟩ := hs.swap.freeze
            exact key J e.frz (frzL ys) le h1.swap (seq_frz e2) (isFrzL_frz ys) (frzL_len ys) fun z I' H' le' h' => o z I' H' (le.trans le') h'
  · exact o.elim
end
section
variable {Γ : Cx} {X : Fx} {W : WX}
theorem z_dzip {e e2 : Expr} {p pos p2 pos2 : Pos} {ops : List Opd} (hcalm : Γ.calm = true) (hu : Γ.A.units + 65 < cLine) (hK : X.w.K = Γ.K) (hg1 : Gl Γ "dict") (hm1 : Γ.mg "dict" = none) (hg2 : Gl Γ "zip") (hm2 : Γ.mg "zip" = none) (ha : PA Γ [e, e2] (tOs X W ops))
    (hs : starEach [e, e2] Γ.env = (false, eval e Γ.env) :: starEach [e2] Γ.env := by rfl) (hpl : (backTo pos2 (starEach [e2] Γ.env)).any (·.1) = false := by rfl)
    (na : starEach [.Call (.Name "zip" p2) [e, e2] [] pos2] Γ.env = (false, eval (.Call (.Name "zip" p2) [e, e2] [] pos2) Γ.env) :: starEach [] Γ.env := by rfl) :
    PE Γ (.Call (.Name "dict" p) [.Call (.Name "zip" p2) [e, e2] [] pos2] [] pos) (tE X W (mApp oDZip ops)) :=
  PEi (pe_dzip hcalm hu hg1 hm1 hg2 hm2 ha hs hpl na) fun σ H Q h => by
    have z := app_run (X := X) od_dzip h
    rw [hK] at z
    exact z
end
end Z

set_option Elab.async false
set_option linter.all false
set_option maxRecDepth 100000
set_option maxHeartbeats 4000000
/-! ZZ: what a def's derivation asks for: names, exceptions, room. -/
namespace Z
open PySem PySem.Spec PyProof.Rows L2 StX
/-- a name of the def that may be seen -/
theorem pe_bt {Γ : Cx} {x : Str} {n : String} {p : Pos} (hg : Gl Γ x) (hm : Γ.mg x = none) (hv : bootBuiltins x = some (.type n)) (hn : x ≠ "__name__" := by decide) (hd : (x == ("__debug__" : Str)) = false := by decide) : PE Γ (.Name x p) (tC (.ty n)) :=
  ⟨fun pins s σ H Q I h => ld_blt I hg hm hv ⟨.ty n, H, I, rfl, h⟩ hn hd⟩
section
variable {P : Program} {wo : World} {K : PySem.W.Frag} {mg : Str → Option Value} {base : Heap} {N : List Str} {qual : Str} {scope : Scope} {f : Addr} {cdv : Value} {A : Around} {outer : List PySem.Env} {s : Shared} {H : Hp} {E : XK}
theorem tkE : Takes (cxOf (L2.CX P wo) P wo K mg base N qual scope f cdv A outer s H E) (WE' E) := takes_of rfl rfl rfl rfl
theorem tk0 {Γ : Cx} : Takes Γ W0 := takes0
theorem pOwn : PassesOwn (model P wo) (cxOf (L2.CX P wo) P wo K mg base N qual scope f cdv A outer s H E).A (cxOf (L2.CX P wo) P wo K mg base N qual scope f cdv A outer s H E).env (cxOf (L2.CX P wo) P wo K mg base N qual scope f cdv A outer s H E).xe := passes_of rfl
end
section
variable {Γ : Cx} {X : Fx} {W : WX}
/-- f(e, ..), f a name of a module's function of the built-in kind -/
theorem z_callBf {x : Str} {p pos : Pos} {id : String} {e : Expr} {es : List Expr} {ops : List Opd} {r : List V → Hp → VK → Prop} {g : Op} (hc : CallR Γ (.builtin id) r) (o : OpD X.w (rN r) g) (hg : Gl Γ x) (hm : Γ.mg x = some (.builtin id)) (ha : PA Γ (e :: es) (tOs X W ops)) (hdb : (x == ("__debug__" : Str)) = false := by decide)
    (he : starEach (e :: es) Γ.env = (false, eval e Γ.env) :: starEach es Γ.env := by rfl) (hpl : (backTo pos (starEach es Γ.env)).any (·.1) = false := by rfl) : PE Γ (.Call (.Name x p) (e :: es) [] pos) (tE X W (mApp g ops)) :=
  PEi (pe_callBfun hc hg hm ha hdb he hpl) fun σ H Q h => app_run o h
end
/-- the built-in names are not those of the module -/
structure Bl (mg : Str → Option Value) : Prop where
  isinstance : mg "isinstance" = none
  tuple : mg "tuple" = none
  list : mg "list" = none
  int : mg "int" = none
  bool : mg "bool" = none
  len : mg "len" = none
  all : mg "all" = none
  any : mg "any" = none
  sum : mg "sum" = none
  min : mg "min" = none
  max : mg "max" = none
  abs : mg "abs" = none
  sorted : mg "sorted" = none
  range : mg "range" = none
  enumerate : mg "enumerate" = none
  zip : mg "zip" = none
  dict : mg "dict" = none
  repr : mg "repr" = none
  comb : mg "comb" = some (.builtin "math.comb")
/-! ### lists and tuples gone through where they lie -/
mutual
theorem Rep.wf {K : PySem.W.Frag} {wo : World} {cA : Str → Addr} {l l' m m' : Hp} {I H : Hp} : ∀ (d : D) (v : V) (fp : List Addr), Rep ⟨K, wo, cA, l, m⟩ I H d v fp → Rep ⟨K, wo, cA, l', m'⟩ I H d v fp
  | .any, v, fp, h => by unfold Rep at h ⊢; exact h
  | .non, v, fp, h => by unfold Rep at h ⊢; exact h
  | .bl b, v, fp, h => by unfold Rep at h ⊢; exact h
  | .int i, v, fp, h => by unfold Rep at h ⊢; exact h
  | .str s, v, fp, h => by unfold Rep at h ⊢; exact h
  | .node t xs, v, fp, h => by
    unfold Rep at h ⊢
    obtain ⟨b, vs, fp', rfl, hl, hf, h⟩ := h
    refine ⟨b, vs, fp', rfl, RepL.wf xs vs fp' hl, hf, ?_⟩
    rcases h with ⟨ho, h, e⟩ | ⟨ho, h, e⟩
    · exact .inl ⟨ho, by cases t <;> exact h, e⟩
    · exact .inr ⟨ho, by cases t <;> exact h, e⟩
theorem RepL.wf {K : PySem.W.Frag} {wo : World} {cA : Str → Addr} {l l' m m' : Hp} {I H : Hp} : ∀ (ds : List D) (vs : List V) (fp : List Addr), RepL ⟨K, wo, cA, l, m⟩ I H ds vs fp → RepL ⟨K, wo, cA, l', m'⟩ I H ds vs fp
  | [], vs, fp, h => by unfold RepL at h ⊢; exact h
  | d :: ds, vs, fp, h => by
    unfold RepL at h ⊢
    obtain ⟨v, us, f1, f2, rfl, rfl, h1, h2⟩ := h
    exact ⟨v, us, f1, f2, rfl, rfl, Rep.wf d v f1 h1, RepL.wf ds us f2 h2⟩
end
theorem Hs.rewf {K : PySem.W.Frag} {wo : World} {cA : Str → Addr} {l l' m m' : Hp} {I F H : Hp} {ds : List D} {vs : List V} (h : Hs ⟨K, wo, cA, l, m⟩ I F ds vs H) (hl : Le l' I) (hm : Le m' F) : Hs ⟨K, wo, cA, l', m'⟩ I F ds vs H := by
  obtain ⟨fp, r, nd, dj⟩ := h.ex
  exact ⟨⟨fp, RepL.wf ds vs fp r, nd, dj⟩, h.iF, h.fH, h.fT, hl, hm⟩
/-- the list or tuple at slot i stays as it is, xs its items -/
def Pkd (X : Fx) (i : Nat) (xs : List D) : Prop := ∃ (a : Addr) (us : List V), X.vs0[i]? = some (.ref a) ∧ i ∈ X.pin ∧ ((X.w.fk a = some (.lst us) ∨ SqL X.w.K X.w.lk a us) ∨ SqT X.w.K X.w.lk a us) ∧ RepL X.w X.w.lk X.w.lk xs us []
theorem walks_pl {w : Wd} {I : Hp} {a : Addr} {us : List V} {xs : List D} (hq : ∀ I0 F0 ds vs H, Hs w I0 F0 ds vs H → SqL w.K H a us) (r : RepL w I I xs us []) : Walks w (Itl w.K a) I xs where
  go := fun i I0 F ds vs H hs le hi => by
    have hl := r.length
    exact ⟨us, us[i], hq _ _ _ _ _ hs, by rw [List.getElem?_eq_getElem]⟩
  stop := fun I0 F ds vs H hs le => ⟨us, hq _ _ _ _ _ hs, by rw [r.length]; exact Nat.le_refl _⟩
  yld := fun i d I0 F ds vs H x H' hs le hd y => by
    obtain ⟨rfl, hx⟩ := y
    have e := hx us (hq _ _ _ _ _ hs)
    obtain ⟨v, ev, r1⟩ := r.frAt hd
    have ex : x = v := Option.some.inj (e.symm.trans ev)
    subst ex
    obtain ⟨fp, rr, nd, dj⟩ := hs.ex
    have r1' := Rep.frame (H' := H') le d x [] (fun a m => nomatch m) r1
    exact ⟨I0, Le.refl _, hs.of_sub (RepL.cons (f1 := []) r1' rr) rr nd dj nd fun b m => m⟩
section
variable {Γ : Cx} {X : Fx} {W : WX}
theorem i_pk {tg : Expr} {x : Str} {p : Pos} {i : Nat} {xs : List D} (hx : PE Γ (.Name x p) (tVar i)) (hK : X.w.K = Γ.K) (hk : Pkd X i xs) : PI Γ tg (.Name x p) (tI X W (fun env => .ok xs env)) := by
  refine PIi (PI.or (pi_list hx) (pi_tup hx)) fun σ H R q => ?_
  obtain ⟨I, F, env, hs, er, o⟩ := q
  obtain ⟨a, us, h1, h2, h3, h4⟩ := hk
  have hv := er.pin i h2 _ h1
  have r : RepL X.w I I xs us [] := RepL.frame hs.lkI xs us [] (fun _ m => nomatch m) h4
  rcases h3 with h3 | h3
  · have hq : ∀ I0 F0 ds vs H, Hs X.w I0 F0 ds vs H → SqL X.w.K H a us := fun I0 F0 ds vs H hs => by
      rcases h3 with h3 | h3
      · exact Or.inl (Or.inl (hs.fH a _ (hs.fkF a _ h3)))
      · exact le_l (hs.lkI.trans hs.iH) h3
    refine .inl ⟨_, hv, a, rfl, ⟨us, by rw [← hK]; exact hq _ _ _ _ _ hs⟩, o _ I H (Le.refl I) hs er ?_⟩
    rw [← hK]
    exact walks_pl hq r
  · have hI : SqT X.w.K I a us := le_t hs.lkI h3
    refine .inr ⟨_, hv, a, rfl, ⟨us, by rw [← hK]; exact le_t hs.iH hI⟩, o _ I H (Le.refl I) hs er ?_⟩
    rw [← hK]
    exact walks_t hI r
/-- what is set aside comes back -/
theorem aside_out {w : Wd} {I F H : Hp} {σ : L2.St} {env : Env} {i : Nat} {d : D} {xs : List D} {v : V} (hs : Hs w I F env (σv σ) H) (hd : env[i]? = some d) (hv : σ[i]? = some (some v)) (he : d.seq = some xs) (hc : isFrzL xs = true) :
    ∃ (a : Addr) (us : List V) (fk' G : Hp), v = .ref a ∧ ((fk' a = some (.lst us) ∨ SqL w.K I a us) ∨ SqT w.K I a us) ∧ RepL w I I xs us [] ∧ Hs ⟨w.K, w.wd, w.cA, I, fk'⟩ I G (env.set i .any) (σv σ) H ∧
      ∀ I' e us' H', Le I I' → Hs ⟨w.K, w.wd, w.cA, I, fk'⟩ I' G e us' H' → Hs w I' F (d :: e) (v :: us') H' := by
  obtain ⟨v', e', h1⟩ := Hs.take (es := []) (us := []) hs rfl hd
  have ev : v' = v := Option.some.inj (e'.symm.trans (σv_at hv))
  subst ev
  have h1' : Hs w I F (d :: env.set i .any) (v' :: σv σ) H := h1
  by_cases ho : ∃ t, d = .node t xs ∧ t.own = true
  · obtain ⟨t, rfl, ho⟩ := ho
    have ht : t = .lst true := by
      cases t with
      | lst o => cases o with
        | true => rfl
        | false => cases ho
      | tup => cases ho
      | tux => cases ho
      | scr => cases ho
      | dk o ks => simp [D.seq] at he
      | dt o ks => simp [D.seq] at he
      | dn o ks => simp [D.seq] at he
      | ins o c ns => simp [D.seq] at he
    subst ht
    obtain ⟨a, us, G, rfl, hl, hf, hat, hG, gk, close⟩ := h1'.open rfl
    have hat' : H a = some (.lst us) := hat
    obtain ⟨fp, r, nd, dj⟩ := hG.ex
    obtain ⟨f1, f2, rfl, r1, r2⟩ := r.split hl
    have e0 := r1.nil_of_frz hc
    subst e0
    have rI : RepL w I I xs us [] := RepL.frame (Le.refl I) xs us [] (fun _ m => nomatch m) r1
    have hG2 : Hs w I G (env.set i .any) (σv σ) H := hG.of_sub r2 r nd dj nd fun b m => m
    refine ⟨a, us, upd w.fk a (.lst us), G, rfl, .inl (.inl upd_same), rI, ?_, fun I' e us' H' le h' => ?_⟩
    · refine Hs.rewf (l := w.lk) (m := w.fk) hG2 (Le.refl I) fun b o e => ?_
      by_cases q : b = a
      · subst q
        rw [upd_same] at e
        cases e
        exact gk _ hat'
      · rw [upd_ne q] at e
        exact hG2.fkF b o e
    · have h2 : Hs w I' G e us' H' := Hs.rewf (l' := w.lk) (m' := w.fk) h' (hG2.lkI.trans le) hG2.fkF
      obtain ⟨fq, rq, nq, dq⟩ := h2.ex
      have r3 : RepL w I' H' xs us [] := RepL.frame le xs us [] (fun _ m => nomatch m) rI
      have h3 : Hs w I' G (xs ++ e) (us ++ us') H' := h2.of_sub (RepL.append (f1 := []) r3 rq) rq nq dq nq fun b m => m
      have h4 := close I' (.lst true) xs us e us' H' (.lst us) le h3 hl rfl trivial (show upd H' a (.lst us) a = some (.lst us) from upd_same)
      have e5 : upd H' a (.lst us) = H' := by
        funext b
        by_cases q : b = a
        · subst q
          rw [upd_same]
          exact (h2.fH b _ (gk _ hat')).symm
        · rw [upd_ne q]
      rw [e5] at h4
      exact h4
  · obtain ⟨fp, r, nd, dj⟩ := h1'.ex
    obtain ⟨f1, f2, rfl, r1, r2⟩ := r.out
    have fr : d.isFrz = true := by
      cases d with
      | node t ys =>
        have hy : ys = xs := by cases t <;> simp [D.seq] at he <;> exact he
        subst hy
        unfold D.isFrz
        rw [hc]
        cases q : t.own with
        | true => exact absurd ⟨t, rfl, q⟩ ho
        | false => rfl
      | _ => rfl
    have e0 := r1.own_nil (frz_id fr)
    subst e0
    have hf : Hs w I F (d.frz :: env.set i .any) (v' :: σv σ) H := by rw [frz_id fr]; exact h1'
    obtain ⟨a, us, rfl, q1, q2, rI⟩ := hf.seqF2 he
    rw [frzL_id hc] at rI
    refine ⟨a, us, w.fk, F, rfl, ?_, rI, Hs.rewf (l := w.lk) (m := w.fk) h1'.drop (Le.refl I) h1'.fkF, fun I' e us' H' le h' => ?_⟩
    · by_cases ht : ∃ ys, d = .node .tup ys ∨ d = .node .tux ys
      · exact .inr (q1 ht)
      · exact .inl (.inr (q2 ht))
    · have h2 : Hs w I' F e us' H' := Hs.rewf (l' := w.lk) (m' := w.fk) h' (h1'.lkI.trans le) h1'.fkF
      obtain ⟨fq, rq, nq, dq⟩ := h2.ex
      have r3 : Rep w I' H' d (.ref a) [] := Rep.frame le d (.ref a) [] (fun _ m => nomatch m) r1
      exact h2.of_sub (RepL.cons (f1 := []) r3 rq) rq nq dq nq fun b m => m
end
section
variable {Γ : Cx} {W : WX}
def isA : Option D → Bool
  | some .any => true
  | _ => false
theorem isA_of {o : Option D} (h : isA o = true) : o = some .any := by
  cases o with
  | none => cases h
  | some d => cases d <;> first | rfl | cases h
def putS (i : Nat) (d : D) : SRes → SRes
  | .nx e => if isA e[i]? = true then .nx (e.set i d) else .bad
  | .rt r e => if isA e[i]? = true then .rt r (e.set i d) else .bad
  | .bk e => if isA e[i]? = true then .bk (e.set i d) else .bad
  | .ct e => if isA e[i]? = true then .ct (e.set i d) else .bad
  | .exc _ _ _ _ => .bad
  | .bad => .bad
def putM (i : Nat) (d : D) : Res → Res
  | .ok r e => if isA e[i]? = true then .ok r (e.set i d) else .bad
  | .exc _ _ _ _ => .bad
  | .bad => .bad
theorem outS_if {X : Fx} {I F : Hp} {E : Ends} {c : Prop} [Decidable c] {r : SRes} (o : OutS X W I F E (if c then r else .bad)) : c ∧ OutS X W I F E r := by
  by_cases q : c
  · rw [if_pos q] at o; exact ⟨q, o⟩
  · rw [if_neg q] at o; exact o.elim
theorem outM_if {X : Fx} {I F : Hp} {σ : L2.St} {Q : VK} {c : Prop} [Decidable c] {r : Res} (o : Out X W I F σ Q (if c then r else .bad)) : c ∧ Out X W I F σ Q r := by
  by_cases q : c
  · rw [if_pos q] at o; exact ⟨q, o⟩
  · rw [if_neg q] at o; exact o.elim
/-- the list or tuple at slot i is set aside, with what it has; if it has what is owned, all is given up first -/
def sAside (i : Nat) (s : List D → S) : S := fun env => match env[i]? with
  | some d => (match d.seq with
    | some xs => if isFrzL xs = true then putS i d (s xs (env.set i .any)) else .bad
    | none => .bad)
  | none => .bad
def mAside (i : Nat) (s : List D → M) : M := fun env => match env[i]? with
  | some d => (match d.seq with
    | some xs => if isFrzL xs = true then putM i d (s xs (env.set i .any)) else .bad
    | none => .bad)
  | none => .bad
theorem put_back {w : Wd} {I F H : Hp} {d : D} {v : V} {e : Env} {us : List V} {i : Nat} (h : Hs w I F (d :: e) (v :: us) H) (hi : e[i]? = some .any) (hv : us[i]? = some v) : Hs w I F (e.set i d) us H := Hs.put (es := []) (us := []) h rfl hi hv
theorem put_back2 {w : Wd} {I F H : Hp} {d r : D} {v y : V} {e : Env} {us : List V} {i : Nat} (h : Hs w I F (d :: r :: e) (v :: y :: us) H) (hi : e[i]? = some .any) (hv : us[i]? = some v) : Hs w I F (r :: e.set i d) (y :: us) H := Hs.put (es := [r]) (us := [y]) h rfl hi hv
theorem aside_er {w w' : Wd} {pin : List Nat} {vs0 : List V} {σ : L2.St} {env : Env} {i : Nat} {d : D} {v : V} (hpin : ∀ j ∈ pin, j < vs0.length) (er : EnvR ⟨w, pin, vs0⟩ σ env) (hd : env[i]? = some d) (hn : d ≠ .any) (hv : σ[i]? = some (some v)) :
    EnvR ⟨w', i :: pin, σv σ⟩ σ (env.set i .any) ∧ ∀ (σ' : L2.St) (e : Env), EnvR ⟨w', i :: pin, σv σ⟩ σ' e → σ'[i]? = some (some v) ∧ EnvR ⟨w, pin, vs0⟩ σ' (e.set i d) := by
  constructor
  · have z := er.set hd (d' := .any) fun h => absurd rfl h
    refine ⟨z.on, fun j hj v2 hvj => ?_⟩
    rcases List.mem_cons.mp hj with rfl | hj
    · rw [σv_at hv] at hvj
      cases hvj
      exact hv
    · have lt := hpin j hj
      have hp := er.pin j hj vs0[j] (List.getElem?_eq_getElem lt)
      rw [σv_at hp] at hvj
      cases hvj
      exact hp
  · intro σ' e z
    have hi := z.pin i (List.mem_cons_self ..) v (σv_at hv)
    refine ⟨hi, fun j d2 hj hne => ?_, fun j hj v2 hvj => z.pin j (List.mem_cons_of_mem _ hj) v2 (σv_at (er.pin j hj v2 hvj))⟩
    by_cases q : i = j
    · subst q
      exact ⟨v, hi⟩
    · rw [List.getElem?_set_ne q] at hj
      exact z.on j d2 hj hne
theorem s_aside {st : Stmt} {i : Nat} {w : Wd} {pin : List Nat} {vs0 : List V} {s : List D → S} (hpin : ∀ j ∈ pin, j < vs0.length)
    (h : ∀ (lk' fk' : Hp) (vs' : List V) (xs : List D), (∀ j ∈ i :: pin, j < vs'.length) → Pkd ⟨⟨w.K, w.wd, w.cA, lk', fk'⟩, i :: pin, vs'⟩ i xs → PS Γ st (tS ⟨⟨w.K, w.wd, w.cA, lk', fk'⟩, i :: pin, vs'⟩ W (s xs))) : PS Γ st (tS ⟨w, pin, vs0⟩ W (sAside i s)) := by
  have h1 : PS Γ st (fun E σ H => ∃ (lk' fk' : Hp) (vs' : List V) (xs : List D), (∀ j ∈ i :: pin, j < vs'.length) ∧ Pkd ⟨⟨w.K, w.wd, w.cA, lk', fk'⟩, i :: pin, vs'⟩ i xs ∧ tS ⟨⟨w.K, w.wd, w.cA, lk', fk'⟩, i :: pin, vs'⟩ W (s xs) E σ H) := ⟨fun pins sh σ H D I q => by
    obtain ⟨lk', fk', vs', xs, c1, c3, q⟩ := q
    exact (h lk' fk' vs' xs c1 c3).run pins sh σ H D I q⟩
  refine PSi h1 fun E σ H q => ?_
  obtain ⟨I, F, env, hs, er, o⟩ := q
  unfold sAside at o
  cases hd : env[i]? with
  | none => rw [hd] at o; exact o.elim
  | some d =>
    simp only [hd] at o
    cases he : d.seq with
    | none => simp only [he] at o; exact o.elim
    | some xs =>
      simp only [he] at o
      by_cases hc : isFrzL xs = true
      · rw [if_pos hc] at o
        have hn : d ≠ .any := fun z => by rw [z] at he; cases he
        obtain ⟨v, hv⟩ := er.on i d hd hn
        obtain ⟨a, us, fk', G, rfl, hk, r, h2, back⟩ := aside_out hs hd hv he hc
        obtain ⟨e1, e2⟩ := aside_er (w' := ⟨w.K, w.wd, w.cA, I, fk'⟩) hpin er hd hn hv
        have hlen : ∀ j ∈ i :: pin, j < (σv σ).length := fun j hj => by
          rw [σv_len]
          rcases List.mem_cons.mp hj with rfl | hj
          · exact (List.getElem?_eq_some_iff.mp hv).1
          · exact (List.getElem?_eq_some_iff.mp (er.pin j hj (vs0[j]'(hpin j hj)) (List.getElem?_eq_getElem (hpin j hj)))).1
        refine ⟨I, fk', σv σ, xs, hlen, ⟨a, us, σv_at hv, List.mem_cons_self .., hk, RepL.wf (l := w.lk) (m := w.fk) xs us [] r⟩, I, G, _, h2, e1, ?_⟩
        cases hm : s xs (env.set i .any) with
        | bad => rw [hm] at o; exact o.elim
        | exc c ns ys e => rw [hm] at o; exact o.elim
        | nx e =>
          rw [hm] at o
          obtain ⟨hi, o⟩ := outS_if o
          intro σ' I' H' le h' er'
          obtain ⟨k1, k2⟩ := e2 σ' e er'
          exact o σ' I' H' le (put_back (back I' e _ H' le h') (isA_of hi) (σv_at k1)) k2
        | bk e =>
          rw [hm] at o
          obtain ⟨hi, o⟩ := outS_if o
          intro σ' I' H' le h' er'
          obtain ⟨k1, k2⟩ := e2 σ' e er'
          exact o σ' I' H' le (put_back (back I' e _ H' le h') (isA_of hi) (σv_at k1)) k2
        | ct e =>
          rw [hm] at o
          obtain ⟨hi, o⟩ := outS_if o
          intro σ' I' H' le h' er'
          obtain ⟨k1, k2⟩ := e2 σ' e er'
          exact o σ' I' H' le (put_back (back I' e _ H' le h') (isA_of hi) (σv_at k1)) k2
        | rt rd e =>
          rw [hm] at o
          obtain ⟨hi, o⟩ := outS_if o
          intro v2 σ' I' H' le h' er'
          obtain ⟨k1, k2⟩ := e2 σ' e er'
          exact o v2 σ' I' H' le (put_back2 (back I' (rd :: e) _ H' le h') (isA_of hi) (σv_at k1)) k2
      · rw [if_neg hc] at o
        exact o.elim
theorem z_aside {st : Expr} {i : Nat} {w : Wd} {pin : List Nat} {vs0 : List V} {s : List D → M} (hpin : ∀ j ∈ pin, j < vs0.length)
    (h : ∀ (lk' fk' : Hp) (vs' : List V) (xs : List D), (∀ j ∈ i :: pin, j < vs'.length) → Pkd ⟨⟨w.K, w.wd, w.cA, lk', fk'⟩, i :: pin, vs'⟩ i xs → PE Γ st (tE ⟨⟨w.K, w.wd, w.cA, lk', fk'⟩, i :: pin, vs'⟩ W (s xs))) : PE Γ st (tE ⟨w, pin, vs0⟩ W (mAside i s)) := by
  have h1 : PE Γ st (fun σ H Q => ∃ (lk' fk' : Hp) (vs' : List V) (xs : List D), (∀ j ∈ i :: pin, j < vs'.length) ∧ Pkd ⟨⟨w.K, w.wd, w.cA, lk', fk'⟩, i :: pin, vs'⟩ i xs ∧ tE ⟨⟨w.K, w.wd, w.cA, lk', fk'⟩, i :: pin, vs'⟩ W (s xs) σ H Q) := ⟨fun pins sh σ H D I q => by
    obtain ⟨lk', fk', vs', xs, c1, c3, q⟩ := q
    exact (h lk' fk' vs' xs c1 c3).run pins sh σ H D I q⟩
  refine PEi h1 fun σ H Q q => ?_
  obtain ⟨I, F, env, hs, er, o⟩ := q
  unfold mAside at o
  cases hd : env[i]? with
  | none => rw [hd] at o; exact o.elim
  | some d =>
    simp only [hd] at o
    cases he : d.seq with
    | none => simp only [he] at o; exact o.elim
    | some xs =>
      simp only [he] at o
      by_cases hc : isFrzL xs = true
      · rw [if_pos hc] at o
        have hn : d ≠ .any := fun z => by rw [z] at he; cases he
        obtain ⟨v, hv⟩ := er.on i d hd hn
        obtain ⟨a, us, fk', G, rfl, hk, r, h2, back⟩ := aside_out hs hd hv he hc
        obtain ⟨e1, e2⟩ := aside_er (w' := ⟨w.K, w.wd, w.cA, I, fk'⟩) hpin er hd hn hv
        have hlen : ∀ j ∈ i :: pin, j < (σv σ).length := fun j hj => by
          rw [σv_len]
          rcases List.mem_cons.mp hj with rfl | hj
          · exact (List.getElem?_eq_some_iff.mp hv).1
          · exact (List.getElem?_eq_some_iff.mp (er.pin j hj (vs0[j]'(hpin j hj)) (List.getElem?_eq_getElem (hpin j hj)))).1
        refine ⟨I, fk', σv σ, xs, hlen, ⟨a, us, σv_at hv, List.mem_cons_self .., hk, RepL.wf (l := w.lk) (m := w.fk) xs us [] r⟩, I, G, _, h2, e1, ?_⟩
        cases hm : s xs (env.set i .any) with
        | bad => rw [hm] at o; exact o.elim
        | exc c ns ys e => rw [hm] at o; exact o.elim
        | ok rd e =>
          rw [hm] at o
          obtain ⟨hi, o⟩ := outM_if o
          intro v2 I' H' le h' er'
          obtain ⟨k1, k2⟩ := e2 σ e er'
          exact o v2 I' H' le (put_back2 (back I' (rd :: e) _ H' le h') (isA_of hi) (σv_at k1)) k2
      · rw [if_neg hc] at o
        exact o.elim
end
/-! ### tuple(l), l a list: the new object known -/
section
variable {Γ : Cx}
def rTupleX (K : PySem.W.Frag) : List V → Hp → VK → Prop := fun xs H Q => ∃ (p : Addr) (ys : List V), xs = [.ref p] ∧ SqL K H p ys ∧ ∀ (l : Addr) (od : Obj), od.dict = none → H l = none → Q (.ref l) (upd H l (.frz od (.tup ys)))
theorem call_tupleX : CallR Γ (.type "tuple") (rTupleX Γ.K) := fun pins s σ H xs us Q I rel h => by
  obtain ⟨p, ys, rfl, seqA, q⟩ := h
  rw [Vals.ref1 rel]
  obtain ⟨vals, rep, isL, room⟩ := I.list seqA
  have hlen := rep.length
  refine call_tuple_list isL.isList (fun g kp => ?_) (by simp only [List.size_toArray] <;> omega)
  have J : Inv Γ pins σ H { s with heap := g } := I.kept (t' := s.toks) kp
  have there : (g.push { cls := .type "tuple", data := .seq vals.toArray }).get? g.objs.size = some { cls := .type "tuple", data := .seq vals.toArray } := Heap.get?_push_size _ rfl
  exact ⟨.ref g.objs.size, _, J.laid (t' := s.toks) (o := .frz { cls := .type "tuple", data := .seq vals.toArray } (.tup ys)) (fun b o e => Heap.get?_push_of_some _ e) (Nat.le_refl _) ⟨there, room, vals, rep, IsTup.new _ _⟩, rfl, q _ _ rfl (J.hok.fresh (Nat.le_refl _))⟩
def oTupleX : Op
  | [.node (.lst o) xs] => if isFrzL xs = true then .ok (.node .tux xs) [.node (.lst o) xs] else .bad
  | _ => .bad
theorem od_tupleX {w : Wd} : OpD w (rN (rTupleX w.K)) oTupleX := fun I F es us H Q E hs o => by
  unfold oTupleX at o
  split at o
  · rename_i ow xs
    match us, hs.length, hs, o with
    | [v], _, hs, o =>
      obtain ⟨hc, o⟩ := ite_out o
      obtain ⟨a, us, rfl, hq, hq2, _, hl, h2⟩ := hs.items (xs := xs) rfl hc
      refine ⟨a, us, rfl, Or.inl (Or.inl (hq2 _ rfl)), fun l od hod nl => ?_⟩
      obtain ⟨le, h3⟩ := Hs.newX h2 hl.symm nl hod
      exact o (.ref l) _ _ le h3
  · exact o.elim
end
end Z

set_option Elab.async false
set_option linter.all false
set_option maxRecDepth 100000
set_option maxHeartbeats 4000000
/-! exceptions: raise C(e, ..) of a class whose __init__ sets an attribute for each argument -/
namespace Z
open PySem PySem.Spec PyProof.Rows
open L2 StX
section
variable {w : Wd} {I F H : Hp} {ds es : List D} {vs us : List V}
/-- all of these are given up -/
theorem Hs.freezeL (h : Hs w I F ds vs H) : ∃ J, Le I J ∧ Hs w J F (frzL ds) vs H := by
  obtain ⟨fp, r, nd, dj⟩ := h.ex
  have th := RepL.there ds vs fp r
  have le : Le I (fun a => if a ∈ fp then H a else I a) := fun a o e => by
    show (if a ∈ fp then H a else I a) = some o
    rw [if_neg (fun m => by
      have := (dj a m).1
      rw [e] at this
      cases this)]
    exact e
  refine ⟨fun a => if a ∈ fp then H a else I a, le, ⟨[], RepL.freeze le ds vs fp (fun a m => if_pos m) r, List.nodup_nil, fun a m => nomatch m⟩, fun a o e => ?_, h.fH, h.fT, h.lkI.trans le, h.fkF⟩
  have e2 : (if a ∈ fp then H a else I a) = some o := e
  by_cases m : a ∈ fp
  · rw [if_pos m] at e2
    exact ⟨e2, (dj a m).2⟩
  · rw [if_neg m] at e2
    exact h.iF a o e2
/-- a new thing that stays as it is -/
theorem Hs.newI {p : Addr} {o : HO} (h : Hs w I F ds vs H) (np : H p = none) : Le I (upd I p o) ∧ Hs w (upd I p o) F ds vs (upd H p o) := by
  obtain ⟨fp, r, nd, dj⟩ := h.ex
  have pI : I p = none := by
    cases e : I p with
    | none => rfl
    | some o => rw [(h.iF p o e).1] at np; cases np
  have pF : F p = none := by
    cases e : F p with
    | none => rfl
    | some o => rw [h.fH p o e] at np; cases np
  have pn : p ∉ fp := fun m => by
    obtain ⟨o, e⟩ := RepL.there _ _ _ r p m
    rw [np] at e; cases e
  have le : Le I (upd I p o) := Le.new pI
  have k : ∀ a ∈ fp, upd H p o a = H a := fun a m => upd_ne fun e => pn (e ▸ m)
  refine ⟨le, ⟨fp, RepL.frame le ds vs fp k r, nd, fun a m => ⟨?_, (dj a m).2⟩⟩, fun a u e => ?_, fun a u e => ?_, h.fT, h.lkI.trans le, h.fkF⟩
  · rw [upd_ne (fun e => pn (by rw [← e]; exact m))]
    exact (dj a m).1
  · by_cases q : a = p
    · subst q
      rw [upd_same] at e ⊢
      exact ⟨e, pF⟩
    · rw [upd_ne q] at e ⊢
      exact h.iF a u e
  · rw [upd_ne (fun e2 => by rw [e2, pF] at e; cases e)]
    exact h.fH a u e
end
/-- an exception of the class c, with these attributes (the one that is set last comes first) -/
def oRaise (c : Str) (ns : List Str) : Op := fun ds => if ds.length = ns.length then .exc c ns (frzL ds).reverse (frzL ds) else .bad
def rRaise (w : Wd) (c : Str) (ns : List Str) : RN := fun us H _ E => us.length = ns.length ∧ ∀ d, H d = none → E (.ref (w.cA c)) (some d) (upd H d (.xd (ns.zip us.reverse)))
theorem RepL.nilrev {w : Wd} {I H : Hp} {ds : List D} {vs : List V} (h : RepL w I H ds vs []) : RepL w I H ds.reverse vs.reverse [] := by
  obtain ⟨f, r, p⟩ := RepL.rev h
  have : f = [] := by simpa using p.symm.eq_nil
  subst this
  exact r
theorem od_raise {w : Wd} {c : Str} {ns : List Str} : OpD w (rRaise w c ns) (oRaise c ns) := fun I F es us H Q E hs o => by
  have hl := hs.length
  unfold oRaise at o
  by_cases q : es.length = ns.length
  · rw [if_pos q] at o
    refine ⟨by omega, fun d nd => ?_⟩
    obtain ⟨J, le, h1⟩ := hs.freezeL
    obtain ⟨le2, h2⟩ := Hs.newI (o := .xd (ns.zip us.reverse)) h1 nd
    refine o _ (some d) (upd J d (.xd (ns.zip us.reverse))) _ (le.trans le2) h2 ⟨rfl, d, us.reverse, rfl, upd_same, ?_⟩
    obtain ⟨fp, r, _, _⟩ := h2.ex
    obtain rfl := r.nil_of_frz (isFrzL_frz es)
    exact (RepL.frame (Le.refl _) _ _ [] (fun a m => nomatch m) r).nilrev
  · rw [if_neg q] at o
    exact o.elim
/-! ### the class -/
/-- what __init__ does of a new exception -/
def spX (K : PySem.W.Frag) (C : Addr) (ns : List Str) : Sp := fun vs H Q _ => ∃ a us, vs = .ref a :: us ∧ us.length = ns.length ∧ H a = some (exo a C none) ∧
  ∀ d, H d = none → d ≠ a → Q .non (upd (upd H d (exd d (ns.zip us.reverse))) a (exo a C (some d)))
/-- an exception's class under a name -/
structure Ec (P : Program) (wo : World) (K : PySem.W.Frag) (mg : Str → Option Value) (base : Heap) (w : Wd) (k : Nat) (x : Str) (ns : List Str) : Prop where
  ex : ∃ (fI : Addr) (fd : FuncData) (ps : List Str), OexC K (w.cA x) ∧ PySem.W.findIn K (.ref (w.cA x)) "__init__" = some (some (.ref fI)) ∧ PySem.W.typeIn K (.ref fI) = some (.type "function") ∧
    FnOk P wo K mg base (L2.CX P wo) k fI fd ps (spX K (w.cA x) ns) ∧ Binds K fd ps [] ∧ mg x = some (.ref (w.cA x))
section
variable {Γ : Cx} {X : Fx} {W : WX} {k : Nat} {ns : List Str} {x : Str} {p pos pos2 : Pos} {e : Expr} {es : List Expr} {ops : List Opd}
theorem upd_del {H : Hp} {a d : Addr} {A B C D : HO} (ha : H a = none) (hn : d ≠ a) : upd (del (upd (upd (upd H a A) d B) a C) a) d D = upd H d D := by
  funext b
  by_cases h1 : b = d
  · subst h1
    rw [upd_same, upd_same]
  · rw [upd_ne h1, upd_ne h1]
    by_cases h2 : b = a
    · subst h2
      rw [del_same, ha]
    · rw [del_ne h2, upd_ne h2, upd_ne h1, upd_ne h2]
theorem passes_no {P : Program} {wo : World} {Γ : Cx} : Passes (L2.CX P wo) Γ (fun _ _ _ => False) := fun _ _ _ _ _ _ _ h => by
  obtain ⟨_, _, _, _, _, _, _, _, _, _, _, _, q⟩ := h
  exact q.elim
theorem s_raise (c : Ec Γ.prog Γ.w Γ.K Γ.mg Γ.base X.w k x ns) (hn : ns.length ≤ 900) (hc : Γ.calm = true) (tk : Takes Γ W) (hr : Room (k + 1) Γ.A) (hg : Gl Γ x) (ha : PA Γ (e :: es) (tOs X W ops))
    (hdb : (x == ("__debug__" : Str)) = false := by decide) (he : starEach (e :: es) Γ.env = (false, eval e Γ.env) :: starEach es Γ.env := by rfl) (hpl : (backTo pos (starEach es Γ.env)).any (·.1) = false := by rfl) :
    PS Γ (.Raise (some (.Call (.Name x p) (e :: es) [] pos)) none pos2) (tS X W (sDrop (mApp (oRaise x ns) ops))) := by
  obtain ⟨fI, fd, ps, T, iC, tI, F1, hb, hm⟩ := c.ex
  refine PSi (ps_raise hc tk (pmk_oex T iC tI F1 hr hb .nil passes_no hg hm ha hdb he hpl)) fun E σ H q => ?_
  obtain ⟨I, F, env, hs, er, out⟩ := q
  refine ops_run ops σ H _ ⟨I, F, env, hs, er, ?_⟩
  unfold sDrop mApp at out
  cases ha : evA ops env with
  | bad => simp only [ha] at out; exact out.elim
  | exc c ns xs e1 => simp only [ha] at out; exact fun cls d I' H' le h' er' x => out cls d σ I' H' le h' er' x
  | ok ds e1 =>
    simp only [ha] at out
    intro us I1 H1 le1 hs1 hl er1 pk
    have hs1' := hs1.comm hl
    have len2 : e1.length = (σv σ).length := by
      have := hs1.length
      rw [List.length_append, List.length_append] at this
      omega
    obtain ⟨G, hg, back⟩ := Hs.push hs1' len2
    have R : rRaise X.w x ns us H1 (fun _ _ => False) (fun cls d H2 => W cls d σ H2) := by
      refine od_raise I1 G ds us H1 _ _ hg ?_
      cases hf : oRaise x ns ds with
      | bad => simp only [hf] at out; exact out.elim
      | ok rd es =>
        unfold oRaise at hf
        split at hf <;> cases hf
      | exc c ns xs es =>
        simp only [hf] at out
        intro cls d I2 H2 le2 hs2 x2
        have hl2 : es.length = us.length := hs2.length
        have hs3 := (back I2 es us H2 le2 hs2).comm len2
        exact out cls d σ I2 H2 (le1.trans le2) (hs_put ops us es e1 [] [] pk hl2 rfl hs3) (er_put ops us es e1 pk er1) x2
    obtain ⟨l, R⟩ := R
    refine ⟨by omega, fun a na => ⟨a, us, by rw [List.append_nil], l, upd_same, fun d nd hda => ⟨rfl, d, ns.zip us.reverse, upd_same, ?_, ?_, ?_⟩⟩⟩
    · rw [upd_ne hda]
      exact upd_same
    · rw [← nd]
      exact (upd_ne hda).symm
    · rw [upd_del na hda]
      refine R d ?_
      rw [← nd]
      exact (upd_ne hda).symm
end
/-! ### __init__ of such a class, with one argument and with two -/
section
variable {P : Program} {wo : World} {K : PySem.W.Frag} {mg : Str → Option Value} {base : Heap} {x qual : Str} {params : Arguments} {body : List Stmt} {scope : Scope} {dvs : List V} {kws : List (Str × V)} {fI C : Addr} {fd : FuncData} {p0 p1 p2 f g : Str}
theorem k_init1 (T : OexC K C) (hf : PySem.W.findIn K (.ref C) f = some none) (F : FunD K x qual params body scope dvs kws fI fd) (S : FnScope [p0, p1] [p0, p1] scope)
    (hb : ∀ (cdv : Value) (A : Around) (outer : List PySem.Env) (s : Shared) (H : Hp) (E : XK), PSs (cxOf (L2.CX P wo) P wo K mg base [p0, p1] qual scope fI cdv A outer s H E) body (tOst K f (tVar 0) (tVar 1))) :
    FnOk P wo K mg base (L2.CX P wo) 1 fI fd [p0, p1] (spX K C [f]) :=
  F.ok S (fun vs H Q E h => by
      obtain ⟨a, us, rfl, hl, _⟩ := h
      simp [hl]) fun cdv A outer s H vs Q E hr h => ⟨_, hb cdv A outer s H E, by
    obtain ⟨a, us, rfl, hl, ha, q⟩ := h
    match us, hl with
    | [y], _ => exact ⟨y, rfl, .ref a, rfl, a, C, rfl, T, hf, .inl ⟨ha, fun dx nd hda => q dx nd hda⟩⟩⟩
theorem k_init2 (T : OexC K C) (hf : PySem.W.findIn K (.ref C) f = some none) (hg : PySem.W.findIn K (.ref C) g = some none) (F : FunD K x qual params body scope dvs kws fI fd) (S : FnScope [p0, p1, p2] [p0, p1, p2] scope)
    (hb : ∀ (cdv : Value) (A : Around) (outer : List PySem.Env) (s : Shared) (H : Hp) (E : XK), PSs (cxOf (L2.CX P wo) P wo K mg base [p0, p1, p2] qual scope fI cdv A outer s H E) body (tSeq (tOst K f (tVar 0) (tVar 1)) (tOst K g (tVar 0) (tVar 2)))) :
    FnOk P wo K mg base (L2.CX P wo) 1 fI fd [p0, p1, p2] (spX K C [g, f]) :=
  F.ok S (fun vs H Q E h => by
      obtain ⟨a, us, rfl, hl, _⟩ := h
      simp [hl]) fun cdv A outer s H vs Q E hr h => ⟨_, hb cdv A outer s H E, by
    obtain ⟨a, us, rfl, hl, ha, q⟩ := h
    match us, hl with
    | [y, z], _ =>
      refine ⟨y, rfl, .ref a, rfl, a, C, rfl, T, hf, .inl ⟨ha, fun dx nd hda => ?_⟩⟩
      refine ⟨z, rfl, .ref a, rfl, a, C, rfl, T, hg, .inr ⟨dx, [(f, y)], upd_same, ?_, by simp, ?_⟩⟩
      · rw [upd_ne hda]
        exact upd_same
      · have e := q dx nd hda
        have hh : upd (upd (upd H dx (exd dx [(f, y)])) a (exo a C (some dx))) dx (exd dx [(g, z), (f, y)]) = upd (upd H dx (exd dx [(g, z), (f, y)])) a (exo a C (some dx)) := by
          funext b
          by_cases h1 : b = dx
          · subst h1
            rw [upd_same, upd_ne hda, upd_same]
          · rw [upd_ne h1]
            by_cases h2 : b = a
            · subst h2
              rw [upd_same, upd_same]
            · rw [upd_ne h2, upd_ne h1, upd_ne h2, upd_ne h1]
        show Q .non _
        rw [hh]
        exact e⟩
end
end Z

set_option Elab.async false
set_option linter.all false
set_option maxRecDepth 100000
set_option maxHeartbeats 4000000
/-! try: .. except C as e: .. -/
namespace Z
open PySem PySem.Spec PyProof.Rows
open L2 StX
def clrS (i : Nat) : SRes → SRes
  | .nx e => if isA e[i]? = true then .nx e else .bad
  | .rt r e => .rt r e
  | .bk e => if isA e[i]? = true then .bk e else .bad
  | .ct e => if isA e[i]? = true then .ct e else .bad
  | .exc _ _ _ _ => .bad
  | .bad => .bad
/-- the body m; an exception of the class c is caught, its name stands at slot i; h: the suite, by the attributes' values. Others are not let through -/
def sTry (m : S) (c : Str) (ns : List Str) (i : Nat) (h : List D → S) : S := fun env => match m env with
  | .exc c' ns' xs e => if c' = c ∧ ns' = ns ∧ i < e.length then clrS i (h xs (e.set i .any)) else .bad
  | r => r
/-- the exception at slot i has these attributes -/
def Xkd (X : Fx) (i : Nat) (a dd : Addr) (ns : List Str) (xs : List D) : Prop := ∃ vs : List V, X.vs0[i]? = some (.ref a) ∧ i ∈ X.pin ∧ X.w.lk dd = some (.xd (ns.zip vs)) ∧ RepL X.w X.w.lk X.w.lk xs vs []
/-- e.f, f the j-th attribute -/
def mXf (xs : List D) (j : Nat) : M := fun env => match xs[j]? with
  | some d => .ok d env
  | none => .bad
theorem zip_lookup {f : Str} : ∀ {ns : List Str} {vs : List V} {j : Nat} {v : V}, fAt ns f = some j → vs[j]? = some v → (ns.zip vs).lookup f = some v
  | [], _, _, _, h, _ => by simp [fAt] at h
  | n :: ns, [], j, v, h, hv => by simp at hv
  | n :: ns, y :: vs, j, v, h, hv => by
    unfold fAt at h
    rw [List.findIdx?_cons] at h
    rw [List.zip_cons_cons, List.lookup_cons]
    by_cases q : n = f
    · subst q
      rw [if_pos (beq_self_eq_true n)] at h
      cases h
      rw [beq_self_eq_true]
      simpa using hv
    · have q1 : (n == f) = false := beq_eq_false_iff_ne.mpr q
      have q2 : (f == n) = false := beq_eq_false_iff_ne.mpr (Ne.symm q)
      rw [q1] at h
      rw [q2]
      cases hj : List.findIdx? (fun x => x == f) ns with
      | none => rw [hj] at h; cases h
      | some k =>
        rw [hj] at h
        have hk : k + 1 = j := Option.some.inj h
        subst hk
        exact zip_lookup (ns := ns) (vs := vs) (j := k) hj (by rw [← hv]; rfl)
section
variable {Γ : Cx} {X : Fx} {W : WX} {i j : Nat} {a dd C : Addr} {oe : Obj} {pn : List (Addr × Obj)} {ns : List Str} {xs : List D} {n f : Str} {p pos : Pos}
theorem z_xf (hK : X.w.K = Γ.K) (T : XfC Γ.K C) (hno : PySem.W.findIn Γ.K (.ref C) f = some none) (hz : Zc (.ref C) (some dd) oe) (hf : ∃ vs, oe.data = .fields vs) (hk : Xkd X i a dd ns xs) (hj : fAt ns f = some j)
    (he : PE (Γ.suite a ((a, oe) :: pn)) (.Name n p) (tVar i)) (hb : attributeBase (.Name n p) f Γ.env (eval (.Name n p) Γ.env) = eval (.Name n p) Γ.env := by rfl) :
    PE (Γ.suite a ((a, oe) :: pn)) (.Attribute (.Name n p) f pos) (tE X W (mXf xs j)) := by
  refine PEi (pe_xf (X := Γ) T hno hz hf he hb) fun σ H Q q => ?_
  obtain ⟨I, F, env, hs, er, o⟩ := q
  obtain ⟨vs, h1, h2, h3, h4⟩ := hk
  have hv := er.pin i h2 _ h1
  unfold mXf at o
  cases hx : xs[j]? with
  | none => simp only [hx] at o; exact o.elim
  | some d =>
    simp only [hx] at o
    obtain ⟨v, ev, r1⟩ := h4.frAt hx
    refine ⟨_, hv, rfl, rfl, dd, _, v, rfl, hs.iH dd _ (hs.lkI dd _ h3), zip_lookup hj ev, ?_⟩
    refine o v I H (Le.refl I) ?_ er
    obtain ⟨fp, rr, nd, dj⟩ := hs.ex
    have r1' := Rep.frame (H' := H) hs.lkI d v [] (fun b m => nomatch m) r1
    exact hs.of_sub (RepL.cons (f1 := []) r1' rr) rr nd dj nd fun b m => m
end
section
variable {Γ : Cx} {W : WX} {w : Wd} {pin : List Nat} {vs0 : List V} {i : Nat} {x n : Str} {body suite : List Stmt} {b₀ : Stmt} {np pos pos' : Pos} {ns : List Str} {m : S} {h : List D → S}
theorem any_set {I F H : Hp} {e : Env} {us : List V} {v : V} (hs : Hs w I F e us H) (hi : i < e.length) : Hs w I F (e.set i .any) (us.set i v) H := by
  obtain ⟨fp, r, nd, dj⟩ := hs.ex
  have z : Hs w I F (.any :: e) (v :: us) H := hs.of_sub (RepL.cons (f1 := []) (by unfold Rep; rfl) r) r nd dj nd fun b m => m
  exact z.set hi
theorem any_here : ∀ {e : Env} {i : Nat}, e[i]? = some .any → e.set i .any = e
  | [], _, h => by cases h
  | d :: e, 0, h => by
    have : d = .any := Option.some.inj h
    rw [this]
    rfl
  | d :: e, i + 1, h => by
    rw [List.set_cons_succ, any_here (e := e) (i := i) (by rw [← h]; rfl)]
theorem σv_setN (σ : L2.St) (i : Nat) : σv (σ.set i none) = (σv σ).set i .non := by
  unfold σv
  rw [List.map_set]
  rfl
theorem s_try (hs : Γ.stack = Γ.env :: Γ.outer) (hf : Γ.env.frame = some Γ.env.locals) (hN : Γ.N.Nodup) (hi : Γ.N[i]? = some n) (hln : Γ.env.kindOf n = some .local) (hc : Names Γ x (.ref (w.cA x))) (tk : Takes Γ W)
    (te : PySem.W.exmOne w.K (.ref (w.cA x)) (.ref (w.cA x)) = some true) (hK : w.K = Γ.K) (hpin : ∀ j ∈ pin, j < vs0.length) (hip : i ∉ pin)
    (hb : ∀ (W' : WX) (pn : List (Addr × Obj)) (xe : Value → Shared → Prop), Takes (Γ.tr pn xe) W' → PassesOwn (model Γ.prog Γ.w) Γ.A Γ.env xe → PSs (Γ.tr pn xe) body (tS ⟨w, pin, vs0⟩ W' m))
    (hsu : ∀ (a dd : Addr) (oe : Obj) (pn : List (Addr × Obj)) (lk' fk' : Hp) (vs' : List V) (xs : List D), Zc (.ref (w.cA x)) (some dd) oe → (∃ vs, oe.data = .fields vs) → (∀ j ∈ i :: pin, j < vs'.length) → Xkd ⟨⟨w.K, w.wd, w.cA, lk', fk'⟩, i :: pin, vs'⟩ i a dd ns xs →
      PSs (Γ.suite a ((a, oe) :: pn)) (b₀ :: suite) (tS ⟨⟨w.K, w.wd, w.cA, lk', fk'⟩, i :: pin, vs'⟩ W0 (h xs))) :
    PS Γ (.Try body [.ExceptHandler (some (.Name x np)) (some n) (b₀ :: suite) pos'] [] [] pos) (tS ⟨w, pin, vs0⟩ W (sTry m x ns i h)) := by
  refine PSi (ps_try_as (ts := fun a cls d E σ H => ∃ (dd : Addr) (lk' fk' : Hp) (vs' : List V) (xs : List D), cls = .ref (w.cA x) ∧ d = some dd ∧ (∀ j ∈ i :: pin, j < vs'.length) ∧ Xkd ⟨⟨w.K, w.wd, w.cA, lk', fk'⟩, i :: pin, vs'⟩ i a dd ns xs ∧ tS ⟨⟨w.K, w.wd, w.cA, lk', fk'⟩, i :: pin, vs'⟩ W0 (h xs) E σ H) hs hf hN hi hln hc tk hb (fun a oe cls d pn hz hfl => ⟨fun pins sh σ H E I q => by
    obtain ⟨dd, lk', fk', vs', xs, rfl, rfl, c1, c2, q⟩ := q
    exact (hsu a dd oe pn lk' fk' vs' xs hz hfl c1 c2).run pins sh σ H E I q⟩)) fun E σ H q => ?_
  obtain ⟨I, F, env, hs0, er, o⟩ := q
  refine ⟨I, F, env, hs0, er, ?_⟩
  unfold sTry at o
  cases hm : m env with
  | bad => rw [hm] at o; exact o.elim
  | nx e => rw [hm] at o; exact o
  | bk e => rw [hm] at o; exact o
  | ct e => rw [hm] at o; exact o
  | rt r e => rw [hm] at o; exact o
  | exc c' ns' xs e =>
    rw [hm] at o
    obtain ⟨⟨rfl, rfl, hie⟩, o2⟩ := outS_if o
    clear o
    intro cls d σ1 I1 H1 le1 h1 er1 xr
    obtain ⟨rfl, dd, vs, rfl, hd, hr⟩ := xr
    refine ⟨true, by rw [← hK]; exact te, fun _ a na => ?_, fun z => by cases z⟩
    have hlen : e.length = σ1.length := by rw [h1.length, σv_len]
    have his : i < σ1.length := by omega
    have s2i : (σ1.set i (some (V.ref a)))[i]? = some (some (V.ref a)) := List.getElem?_set_self his
    have s2j : ∀ {j : Nat}, j ≠ i → (σ1.set i (some (V.ref a)))[j]? = σ1[j]? := fun hj => List.getElem?_set_ne (Ne.symm hj)
    have npi : ∀ {j : Nat}, j ∈ pin → j ≠ i := fun hj z => hip (z ▸ hj)
    have pj : ∀ {j : Nat} (hj : j ∈ pin), (σ1.set i (some (V.ref a)))[j]? = some (some (vs0[j]'(hpin j hj))) := fun hj => by
      rw [s2j (npi hj)]
      exact er1.pin _ hj _ (List.getElem?_eq_getElem (hpin _ hj))
    have hs2 : Hs w I1 F (e.set i .any) (σv (σ1.set i (some (V.ref a)))) H1 := by
      rw [σv_set]
      exact any_set h1 hie
    refine ⟨dd, I1, w.fk, σv (σ1.set i (some (V.ref a))), xs, rfl, rfl, fun j hj => ?_, ⟨vs, σv_at s2i, List.mem_cons_self .., hd, RepL.wf (l := w.lk) (m := w.fk) xs vs [] hr⟩, I1, F, e.set i .any, Hs.rewf (l := w.lk) (m := w.fk) hs2 (Le.refl I1) hs2.fkF, ⟨fun j d hj hne => ?_, fun j hj v hv => ?_⟩, ?_⟩
    · rw [σv_len, List.length_set]
      rcases List.mem_cons.mp hj with rfl | hj
      · exact his
      · have := (List.getElem?_eq_some_iff.mp (pj hj)).1
        rwa [List.length_set] at this
    · by_cases q : j = i
      · subst q
        rw [List.getElem?_set_self hie] at hj
        cases hj
        exact absurd rfl hne
      · rw [List.getElem?_set_ne (Ne.symm q)] at hj
        rw [s2j q]
        exact er1.on j d hj hne
    · rcases List.mem_cons.mp hj with rfl | hj
      · rw [σv_at s2i] at hv
        cases hv
        exact s2i
      · rw [σv_at (pj hj)] at hv
        cases hv
        exact pj hj
    · have back : ∀ (σ3 : L2.St) (e3 : Env) (I3 H3 : Hp), Le I1 I3 → Hs ⟨w.K, w.wd, w.cA, I1, w.fk⟩ I3 F e3 (σv σ3) H3 → EnvR ⟨⟨w.K, w.wd, w.cA, I1, w.fk⟩, i :: pin, σv (σ1.set i (some (V.ref a)))⟩ σ3 e3 → isA e3[i]? = true → Hs w I3 F e3 (σv (σ3.set i none)) H3 ∧ EnvR ⟨w, pin, vs0⟩ (σ3.set i none) e3 := fun σ3 e3 I3 H3 le3 h3 er3 hi3 => by
        have h4 : Hs w I3 F e3 (σv σ3) H3 := Hs.rewf (l' := w.lk) (m' := w.fk) h3 (hs2.lkI.trans le3) h3.fkF
        have h5 := any_set (v := .non) h4 (i := i) (List.getElem?_eq_some_iff.mp (isA_of hi3)).1
        rw [any_here (isA_of hi3)] at h5
        refine ⟨by rw [σv_setN]; exact h5, fun j d hj hne => ?_, fun j hj v hv => ?_⟩
        · have q : j ≠ i := fun z => by
            subst z
            rw [isA_of hi3] at hj
            cases hj
            exact hne rfl
          rw [List.getElem?_set_ne (Ne.symm q)]
          exact er3.on j d hj hne
        · rw [List.getElem?_set_ne (Ne.symm (npi hj))]
          refine er3.pin j (List.mem_cons_of_mem _ hj) v ?_
          rw [σv_at (pj hj)]
          have := (List.getElem?_eq_getElem (hpin j hj)).symm.trans hv
          exact this
      cases hh : h xs (e.set i .any) with
      | bad => rw [hh] at o2; exact o2.elim
      | exc c3 n3 x3 e3 => rw [hh] at o2; exact o2.elim
      | nx e3 =>
        rw [hh] at o2
        obtain ⟨hi3, o3⟩ := outS_if o2
        intro σ3 I3 H3 le3 h3 er3
        obtain ⟨k1, k2⟩ := back σ3 e3 I3 H3 le3 h3 er3 hi3
        exact o3 _ I3 H3 (le1.trans le3) k1 k2
      | bk e3 =>
        rw [hh] at o2
        obtain ⟨hi3, o3⟩ := outS_if o2
        intro σ3 I3 H3 le3 h3 er3
        obtain ⟨k1, k2⟩ := back σ3 e3 I3 H3 le3 h3 er3 hi3
        exact o3 _ I3 H3 (le1.trans le3) k1 k2
      | ct e3 =>
        rw [hh] at o2
        obtain ⟨hi3, o3⟩ := outS_if o2
        intro σ3 I3 H3 le3 h3 er3
        obtain ⟨k1, k2⟩ := back σ3 e3 I3 H3 le3 h3 er3 hi3
        exact o3 _ I3 H3 (le1.trans le3) k1 k2
      | rt r3 e3 =>
        rw [hh] at o2
        intro v3 σ3 I3 H3 le3 h3 er3
        refine o2 v3 σ3 I3 H3 (le1.trans le3) (Hs.rewf (l' := w.lk) (m' := w.fk) h3 (hs2.lkI.trans le3) h3.fkF) ⟨er3.on, fun j hj v hv => er3.pin j (List.mem_cons_of_mem _ hj) v ?_⟩
        rw [σv_at (pj hj)]
        exact (List.getElem?_eq_getElem (hpin j hj)).symm.trans hv
end
end Z

set_option Elab.async false
set_option linter.all false
set_option maxRecDepth 100000
set_option maxHeartbeats 4000000
/-! ZZC: dicts whose keys are tuples of any depth: the heap's side. The keys stand beside (as trees that are held), the dict is an HO.ext. -/
namespace Z
open PySem PySem.Spec PyProof.Rows L2 StX
/-! ### which trees are keys -/
mutual
def nkOf : D → Option NestedKey
  | .non => some .none
  | .int i => some (.num i)
  | .str x => some (.text x)
  | .node .tup xs => (nkAll xs).map .tup
  | .node .tux xs => (nkAll xs).map .tup
  | _ => none
def nkAll : List D → Option (List NestedKey)
  | [] => some []
  | d :: ds => match nkOf d, nkAll ds with
    | some k, some ks => some (k :: ks)
    | _, _ => none
end
theorem tup_at {P : Program} {w : World} {H : Hp} {h : Heap} {a : Addr} {vs : List V} (ok : ObjOk P w H h a (.tup vs)) : ∃ o its n, h.get? a = some o ∧ o.cls = .type "tuple" ∧ o.data = .seq its n ∧ Vals vs its.toList := by
  obtain ⟨_, its, r, o, h1, h2, n, h3⟩ := ok
  exact ⟨o, its.toArray, n, h1, h2, h3, by simpa using r⟩
mutual
theorem nk_is {P : Program} {wd : World} {w : Wd} {I H : Hp} {h : Heap} (ok : HOk P wd H h) (le : Le I H) : ∀ (d : D) (v : V) (fp : List Addr) (k : NestedKey) (u : Value), Rep w I H d v fp → nkOf d = some k → RelV v u → NestedIs h k u
  | .any, v, fp, k, u, _, e, _ => by simp [nkOf] at e
  | .bl b, v, fp, k, u, _, e, _ => by simp [nkOf] at e
  | .non, v, fp, k, u, r, e, ru => by
    simp [nkOf] at e
    subst e
    unfold Rep at r
    obtain ⟨rfl, _⟩ := r
    cases (show u = Value.none from ru)
    exact .none
  | .int i, v, fp, k, u, r, e, ru => by
    simp [nkOf] at e
    subst e
    unfold Rep at r
    obtain ⟨rfl, _⟩ := r
    obtain ⟨t, rfl⟩ := (show ∃ t, u = Value.int i t from ru)
    exact .int i t
  | .str x, v, fp, k, u, r, e, ru => by
    simp [nkOf] at e
    subst e
    unfold Rep at r
    obtain ⟨rfl, _⟩ := r
    obtain ⟨t, rfl⟩ := (show ∃ t, u = Value.str x t from ru)
    exact .text x t
  | .node t xs, v, fp, k, u, r, e, ru => by
    unfold Rep at r
    obtain ⟨a, vs, fp', rfl, hl, _, q⟩ := r
    cases (show u = Value.ref a from ru)
    cases t with
    | tup =>
      simp only [nkOf, Option.map_eq_some_iff] at e
      obtain ⟨ks, e1, rfl⟩ := e
      have hat : I a = some (.tup vs) := by
        rcases q with ⟨ho, _, _⟩ | ⟨_, hat, _⟩
        · cases ho
        · exact hat
      obtain ⟨o, its, n, h1, h2, h3, h4⟩ := tup_at (show ObjOk P wd H h a (.tup vs) from ok a _ (le a _ hat))
      exact .tup h1 h2 h3 (nk_all ok le xs vs fp' ks its.toList hl e1 h4)
    | tux =>
      simp only [nkOf, Option.map_eq_some_iff] at e
      obtain ⟨ks, e1, rfl⟩ := e
      have hat : Tux I a vs := by
        rcases q with ⟨ho, _, _⟩ | ⟨_, hat, _⟩
        · cases ho
        · exact hat
      obtain ⟨od, hat, _⟩ := hat
      obtain ⟨o, its, n, h1, h2, h3, h4⟩ := tup_at (show ObjOk P wd H h a (.tup vs) from (show h.get? a = some od ∧ ObjOk P wd H h a (.tup vs) from ok a _ (le a _ hat)).2)
      exact .tup h1 h2 h3 (nk_all ok le xs vs fp' ks its.toList hl e1 h4)
    | scr => simp [nkOf] at e
    | lst o => simp [nkOf] at e
    | dk o ks => simp [nkOf] at e
    | dt o ks => simp [nkOf] at e
    | dn o ks => simp [nkOf] at e
    | ins o c ns => simp [nkOf] at e
theorem nk_all {P : Program} {wd : World} {w : Wd} {I H : Hp} {h : Heap} (ok : HOk P wd H h) (le : Le I H) : ∀ (ds : List D) (vs : List V) (fp : List Addr) (ks : List NestedKey) (us : List Value), RepL w I H ds vs fp → nkAll ds = some ks → Vals vs us → NestedAll h ks us
  | [], vs, fp, ks, us, r, e, ru => by
    simp [nkAll] at e
    subst e
    unfold RepL at r
    obtain ⟨rfl, _⟩ := r
    cases ru
    exact .nil
  | d :: ds, vs, fp, ks, us, r, e, ru => by
    unfold RepL at r
    obtain ⟨v, vs', f1, f2, rfl, rfl, h1, h2⟩ := r
    cases ru with
    | cons r1 r2 =>
      rw [nkAll] at e
      cases e1 : nkOf d with
      | none => simp [e1] at e
      | some k =>
        cases e2 : nkAll ds with
        | none => simp [e1, e2] at e
        | some ks' =>
          simp [e1, e2] at e
          subst e
          exact .cons (nk_is ok le d v f1 k _ h1 e1 r1) (nk_all ok le ds vs' f2 ks' _ h2 e2 r2)
end
/-! ### the dict: keys, their addresses, the values -/
def nVal (kvs : List (NestedKey × Addr × V)) (k : NestedKey) : Option V := (kvs.find? fun kv => decide (kv.1 = k)).map (·.2.2)
def nPut (kvs : List (NestedKey × Addr × V)) (k : NestedKey) (b : Addr) (v : V) : List (NestedKey × Addr × V) :=
  if (nVal kvs k).isSome then kvs.map fun kv => if kv.1 = k then (kv.1, kv.2.1, v) else kv else kvs ++ [(k, b, v)]
theorem NT.val {kvs : List (NestedKey × Addr × V)} {xs : List (NestedKey × Addr × Value)} (r : NT kvs xs) (k : NestedKey) : RelO (nVal kvs k) ((atKey xs k).map (·.2)) := by
  induction r with
  | nil => exact True.intro
  | @cons p q ps qs h t ih =>
    obtain ⟨h1, _, h2⟩ := h
    by_cases e : p.1 = k
    · have e' : q.1 = k := h1.symm.trans e
      have b : atKey (q :: qs) k = some q.2 := by simp [atKey, List.find?_cons, e']
      have c : nVal (p :: ps) k = some p.2.2 := by simp [nVal, List.find?_cons, e]
      rw [b, c]; exact h2
    · have e' : ¬ q.1 = k := fun z => e (h1.trans z)
      have b : atKey (q :: qs) k = atKey qs k := by simp [atKey, List.find?_cons, e']
      have c : nVal (p :: ps) k = nVal ps k := by simp [nVal, List.find?_cons, e]
      rw [b, c]; exact ih
theorem NT.put {kvs : List (NestedKey × Addr × V)} {xs : List (NestedKey × Addr × Value)} (r : NT kvs xs) (k : NestedKey) {b : Addr} {y : V} {u : Value} (ry : RelV y u) : NT (nPut kvs k b y) (storedH xs k b u) := by
  have e : (nVal kvs k).isSome = (atKey xs k).isSome := by rw [(r.val k).isSome_eq, Option.isSome_map]
  unfold nPut storedH
  rw [e]
  by_cases q : (atKey xs k).isSome = true
  · rw [if_pos q, if_pos q]
    clear e q
    induction r with
    | nil => exact .nil
    | @cons p q ps qs h t ih =>
      rw [List.map_cons, List.map_cons]
      refine .cons ?_ ih
      obtain ⟨h1, h2, h3⟩ := h
      unfold putAt
      by_cases e : p.1 = k
      · rw [if_pos e, if_pos (h1.symm.trans e)]; exact ⟨h1, h2, ry⟩
      · rw [if_neg e, if_neg (fun z => e (h1.trans z))]; exact ⟨h1, h2, h3⟩
  · rw [if_neg q, if_neg q]; exact Paired.snoc r ⟨rfl, rfl, ry⟩
theorem nPut_le (kvs : List (NestedKey × Addr × V)) (k : NestedKey) (b : Addr) (v : V) : (nPut kvs k b v).length ≤ kvs.length + 1 := by
  unfold nPut
  split
  · rw [List.length_map]; omega
  · rw [List.length_append]; exact Nat.le_refl _
/-- the keys are keys in the heap -/
def NKs (h : Heap) (kvs : List (NestedKey × Addr × V)) : Prop := ∀ p ∈ kvs, NestedIs h p.1 (.ref p.2.1) ∧ p.1.depth ≤ 8
theorem nd_rd {P : Program} {wd : World} {H : Hp} {h : Heap} {a : Addr} {kvs : List (NestedKey × Addr × V)} (ok : HOk P wd H h) (e : Rd H a (ndHO wd a kvs)) (hk : NKs h kvs) :
    kvs.length ≤ sizeLine ∧ (a == sysModules) = false ∧ ∃ xs, NT kvs xs ∧ h.DictOfH (nestedKind P wd) a xs := by
  obtain ⟨⟨z, y, xs, r, o, es, ep, h1, h2, h3, h4, h5⟩, _⟩ := (show ObjOk P wd H h a (ndHO wd a kvs) from rd_of ok e)
  refine ⟨z, y, xs, r, o, es, ep, h1, h2, h3, h4, fun x hx => ?_, h5⟩
  have all : ∀ {l : List (NestedKey × Addr × V)} {m : List (NestedKey × Addr × Value)}, NT l m → NKs h l → ∀ x ∈ m, (nestedKind P wd).is h x.1 x.2.1 := by
    intro l m q
    induction q with
    | nil => intro _ x hx; exact nomatch hx
    | @cons p q ps qs hq t ih =>
      intro hk x hx
      rcases List.mem_cons.mp hx with e | hx
      · subst e
        have := hk p (List.mem_cons_self ..)
        rw [hq.1, hq.2.1] at this
        exact this
      · exact ih (fun p hp => hk p (List.mem_cons_of_mem _ hp)) x hx
  exact all r hk x hx
theorem nd_new {P : Program} {wd : World} {H : Hp} {h : Heap} {a : Addr} {kvs : List (NestedKey × Addr × V)} {xs : List (NestedKey × Addr × Value)} (z : kvs.length ≤ sizeLine) (y : (a == sysModules) = false) (r : NT kvs xs) (dd : h.DictOfH (nestedKind P wd) a xs) :
    ObjOk P wd H h a (ndHO wd a kvs) := by
  obtain ⟨o, es, ep, h1, h2, h3, h4, _, h5⟩ := dd
  exact ⟨⟨z, y, xs, r, o, es, ep, h1, h2, h3, h4, h5⟩, ⟨o, h1⟩, fun g1 g2 hg k => by
    obtain ⟨z, y, xs, r, o, es, ep, h1, h2, h3, h4, h5⟩ := hg
    exact ⟨z, y, xs, r, o, es, ep, k o h1, h2, h3, h4, h5⟩⟩
section
variable {X : Cx} {pins : List (Addr × Obj)} {σ : L2.St} {H : Hp} {s : Shared} {a b : Addr} {k : NestedKey} {v : V} {r : Value} {A : Around} {E : Value → Shared → Prop} {kvs : List (NestedKey × Addr × V)}
theorem room8 (hu : A.units + 9 < cLine) : (nestedKind X.prog X.w).room A.in1 := by
  show A.in1.units + 8 < cLine
  rw [Around.in1_units]
  omega
/-- d[k], there -/
theorem n_getItem {Q : Value → Shared → Prop} (hu : A.units + 9 < cLine) (I : Inv X pins σ H s) (e : Rd H a (ndHO X.w a kvs)) (hk : NKs s.heap kvs) (hb : NestedIs s.heap k (.ref b)) (hd : k.depth ≤ 8) (l : nVal kvs k = some v)
    (h : ∀ w' s', Inv X pins σ H s' → RelV v w' → Q w' s') : wpAny (model X.prog X.w) A (getItem (.ref a) (.ref b)) Q E s := by
  obtain ⟨z, y, xs, rel, dd⟩ := nd_rd I.hok e hk
  obtain ⟨w', hw, rw'⟩ := RelO.some_of (v := v) (o := (atKey xs k).map (·.2)) (by rw [← l]; exact rel.val k)
  obtain ⟨p, hp, hp2⟩ := Option.map_eq_some_iff.mp hw
  refine wpAny_getItem_heap (room8 hu) ⟨hb, hd⟩ dd hp ?_
  rw [hp2]
  exact h w' _ (I.tok _) rw'
/-- k in d, k not in d -/
theorem n_in {Q : Value → Shared → Prop} (hu : A.units + 9 < cLine) (I : Inv X pins σ H s) (e : Rd H a (ndHO X.w a kvs)) (hk : NKs s.heap kvs) (hb : NestedIs s.heap k (.ref b)) (hd : k.depth ≤ 8)
    (h : ∀ s', Inv X pins σ H s' → Q (.bool (nVal kvs k).isSome) s') : wpAny (model X.prog X.w) A (compareOp .In (.ref b) (.ref a)) Q E s := by
  obtain ⟨z, y, xs, rel, dd⟩ := nd_rd I.hok e hk
  refine wpAny_in_heap (room8 hu) ⟨hb, hd⟩ y dd ?_
  have q := (rel.val k).isSome_eq
  rw [Option.isSome_map] at q
  rw [← q]
  exact h _ (I.tok _)
theorem n_notIn {Q : Value → Shared → Prop} (hu : A.units + 9 < cLine) (I : Inv X pins σ H s) (e : Rd H a (ndHO X.w a kvs)) (hk : NKs s.heap kvs) (hb : NestedIs s.heap k (.ref b)) (hd : k.depth ≤ 8)
    (h : ∀ s', Inv X pins σ H s' → Q (.bool (!(nVal kvs k).isSome)) s') : wpAny (model X.prog X.w) A (compareOp .NotIn (.ref b) (.ref a)) Q E s := by
  obtain ⟨z, y, xs, rel, dd⟩ := nd_rd I.hok e hk
  refine wpAny_notIn_heap (room8 hu) ⟨hb, hd⟩ y dd ?_
  have q := (rel.val k).isSome_eq
  rw [Option.isSome_map] at q
  rw [← q]
  exact h _ (I.tok _)
/-- what is written: the dict alone -/
theorem n_write {h' : Heap} {t' : Nat} {xs' : List (NestedKey × Addr × Value)} {kvs' : List (NestedKey × Addr × V)} (I : Inv X pins σ H s) (e : H a = some (ndHO X.w a kvs)) (hs : Heap.SameBut a s.heap h') (z : kvs'.length ≤ sizeLine) (y : (a == sysModules) = false)
    (r : NT kvs' xs') (dd : h'.DictOfH (nestedKind X.prog X.w) a xs') : Inv X pins σ (upd H a (ndHO X.w a kvs')) { s with heap := h', toks := t' } :=
  d_write I (by rw [e]; exact True.intro) hs (let ⟨q, _, _, hq, _⟩ := dd; ⟨q, hq⟩) (nd_new z y r dd)
/-- d[k] = v -/
theorem n_setItem {Q : Unit → Shared → Prop} (hu : A.units + 9 < cLine) (I : Inv X pins σ H s) (e : H a = some (ndHO X.w a kvs)) (hk : NKs s.heap kvs) (hb : NestedIs s.heap k (.ref b)) (hd : k.depth ≤ 8) (rv : RelV v r) (hl : kvs.length < sizeLine)
    (h : ∀ s', Inv X pins σ (upd H a (ndHO X.w a (nPut kvs k b v))) s' → Q () s') : wpAny (model X.prog X.w) A (setItem (.ref a) (.ref b) r) Q E s := by
  obtain ⟨z, y, xs, rel, dd⟩ := nd_rd I.hok (.inl e) hk
  have hz : xs.length ≤ sizeLine := by rw [← Paired.length rel]; exact z
  refine wpAny_setItem_heap (hsz := hz) (room8 hu) ⟨hb, hd⟩ dd fun h' dd' hs => h _ ?_
  exact n_write I e hs (by have := nPut_le kvs k b v; omega) y (rel.put k rv) dd'
/-- d.setdefault(k, v) -/
theorem n_setdefault {Q : Value → Shared → Prop} (hu : A.units + 9 < cLine) (I : Inv X pins σ H s) (e : H a = some (ndHO X.w a kvs)) (hk : NKs s.heap kvs) (hb : NestedIs s.heap k (.ref b)) (hd : k.depth ≤ 8) (rv : RelV v r) (hl : kvs.length < sizeLine)
    (h1 : ∀ x w' s', nVal kvs k = some x → Inv X pins σ H s' → RelV x w' → Q w' s')
    (h2 : ∀ s', nVal kvs k = none → Inv X pins σ (upd H a (ndHO X.w a (nPut kvs k b v))) s' → Q r s') : wpAny (model X.prog X.w) A (call (.builtin "dict.setdefault") [.ref a, .ref b, r]) Q E s := by
  obtain ⟨z, y, xs, rel, dd⟩ := nd_rd I.hok (.inl e) hk
  have hz : xs.length ≤ sizeLine := by rw [← Paired.length rel]; exact z
  refine call_setdefault_heap (hsz := hz) (room8 hu) ⟨hb, hd⟩ y dd (fun p hp => ?_) (fun hn h' dd' hs => ?_)
  · have q := rel.val k
    rw [hp] at q
    cases e2 : nVal kvs k with
    | none => rw [e2] at q; exact q.elim
    | some x => rw [e2] at q; exact h1 x p.2 _ e2 (I.tok _) q
  · have q := (rel.val k).isSome_eq
    rw [hn] at q
    have e2 : nVal kvs k = none := by
      cases e2 : nVal kvs k with
      | none => rfl
      | some x => rw [e2] at q; cases q
    exact h2 _ e2 (n_write I e hs (by have := nPut_le kvs k b v; omega) y (rel.put k rv) dd')
end
end Z

set_option Elab.async false
set_option linter.all false
set_option maxRecDepth 100000
set_option maxHeartbeats 4000000
/-! ZZD: dicts with nested keys: the walk's rules. -/
namespace Z
open PySem PySem.Spec PyProof.Rows L2 StX
/-- v is the key k, whatever the heap that H tells of -/
def HKey (H : Hp) (k : NestedKey) (v : V) : Prop := k.depth ≤ 8 ∧ ∀ (P : Program) (wd : World) (h : Heap) (u : Value), HOk P wd H h → RelV v u → NestedIs h k u
def HKeys (H : Hp) (kvs : List (NestedKey × Addr × V)) : Prop := ∀ p ∈ kvs, HKey H p.1 (.ref p.2.1)
theorem HKeys.nks {X : Cx} {H : Hp} {h : Heap} {kvs : List (NestedKey × Addr × V)} (q : HKeys H kvs) (ok : HOk X.prog X.w H h) : NKs h kvs := fun p hp => ⟨(q p hp).2 _ _ _ _ ok rfl, (q p hp).1⟩
theorem Rep.hkey {w : Wd} {I H : Hp} {d : D} {v : V} {fp : List Addr} {k : NestedKey} (le : Le I H) (r : Rep w I H d v fp) (e : nkOf d = some k) (hd : k.depth ≤ 8) : HKey H k v :=
  ⟨hd, fun P wd h u ok ru => nk_is ok le d v fp k u r e ru⟩
/-- what the dict at a holds at the key y -/
def NGet (wd : World) (H : Hp) (a : Addr) (y : V) (r : Option V) : Prop := ∃ kvs k b, y = .ref b ∧ Rd H a (ndHO wd a kvs) ∧ HKeys H kvs ∧ HKey H k (.ref b) ∧ r = nVal kvs k
/-- the heap behind a[y] = v -/
def NPut (wd : World) (H : Hp) (a : Addr) (y v : V) (H' : Hp) : Prop := ∃ kvs k b, y = .ref b ∧ H a = some (ndHO wd a kvs) ∧ HKeys H kvs ∧ HKey H k (.ref b) ∧ kvs.length < sizeLine ∧ H' = upd H a (ndHO wd a (nPut kvs k b v))
theorem nd_type {P : Program} {w : World} {H : Hp} {s : Shared} {a : Addr} {kvs : List (NestedKey × Addr × V)} (ok : HOk P w H s.heap) (e : Rd H a (ndHO w a kvs)) :
    s.TypeIs (.ref a) "dict" ∧ (∀ b, Value.ref a = .ref b → ∃ ob, s.heap.get? b = some ob ∧ ob.dict = none) ∧ (a == sysModules) = false := by
  obtain ⟨⟨z, y, xs, r, o, es, ep, h1, h2, h3, h4, h5⟩, _⟩ := (show ObjOk P w H s.heap a (ndHO w a kvs) from rd_of ok e)
  refine ⟨⟨o, h1, h2.1⟩, fun b q => ?_, y⟩
  cases q
  exact ⟨o, h1, h2.2.1⟩
section
variable {X : Cx} {o i e f value : Expr} {pos pos' apos cpos : Pos} {td ty tv tx : TE}
/-- {} -/
def tNNew (wd : World) : TE := fun _ H Q => ∀ p, H p = none → Q (.ref p) (upd H p (ndHO wd p []))
theorem nd_empty {P : Program} {w : World} {H : Hp} (h : Heap) (hb : sysModules < h.objs.size) : ObjOk P w H (h.push { cls := .type "dict", data := .dict #[] }) h.objs.size (ndHO w h.objs.size []) :=
  nd_new (Nat.zero_le _) (beq_eq_false_iff_ne.mpr (Ne.symm (Nat.ne_of_lt hb))) .nil (Heap.DictOfH.new h)
theorem pe_nnew : PE X (.Dict [] [] pos) (tNNew X.w) := ⟨fun pins s σ H Q I h =>
  wpAny_Dict_empty ⟨.ref s.heap.objs.size, _, I.laid (a := s.heap.objs.size) (o := ndHO X.w s.heap.objs.size []) (t' := s.toks) (fun _ _ q => Heap.get?_push_of_some _ q) (Nat.le_refl _) (nd_empty s.heap I.big), rfl, h _ (I.hok.fresh (Nat.le_refl _))⟩⟩
/-- d[y] -/
def tNGet (wd : World) (td ty : TE) : TE := fun σ H Q => td σ H fun x H1 => ty σ H1 fun y H2 => ∃ a v, x = .ref a ∧ NGet wd H2 a y (some v) ∧ Q v H2
theorem pe_nget (hu : X.A.units + 9 < cLine) (ho : PE X o td) (hi : PE X i ty) (hs : NoSl i) : PE X (.Subscript o i pos) (tNGet X.w td ty) := by
  refine ⟨fun pins s σ H Q I h => ?_⟩
  refine subD_of PySem.F.slot_dict_getitem.lookup hs (thn (ho.run pins s σ H _ I h) fun u s1 ⟨x, H1, I1, rx, q1⟩ => thn (hi.run pins s1 σ H1 _ I1 q1) fun iv s2 ⟨y, H2, I2, ry, a, v, ex, g, q2⟩ => ?_)
  subst ex
  obtain rfl : u = Value.ref a := rx
  obtain ⟨kvs, k, b, rfl, e, hk, hb, l⟩ := g
  cases (show iv = Value.ref b from ry)
  exact ⟨(nd_type I2.hok e).1, n_getItem hu I2 e (hk.nks I2.hok) (hb.2 _ _ _ _ I2.hok rfl) hb.1 l.symm fun w' s3 I3 rw' => ⟨v, H2, I3, rw', q2⟩⟩
/-- y in d, y not in d -/
def tNIn (wd : World) (ty td : TE) : TE := fun σ H Q => ty σ H fun y H1 => td σ H1 fun x H2 => ∃ a o, x = .ref a ∧ NGet wd H2 a y o ∧ Q (.bl o.isSome) H2
def tNNotIn (wd : World) (ty td : TE) : TE := fun σ H Q => ty σ H fun y H1 => td σ H1 fun x H2 => ∃ a o, x = .ref a ∧ NGet wd H2 a y o ∧ Q (.bl (!o.isSome)) H2
theorem pc_nin (hu : X.A.units + 9 < cLine) (hi : PE X i ty) (ho : PE X o td) : PC X .In i o (tNIn X.w ty td) := by
  refine ⟨fun pins s σ H Q I h => ?_⟩
  refine thn (hi.run pins s σ H _ I h) fun iv s1 ⟨y, H1, I1, ry, q1⟩ => thn (ho.run pins s1 σ H1 _ I1 q1) fun u s2 ⟨x, H2, I2, rx, a, ov, ex, g, q2⟩ => ?_
  subst ex
  obtain rfl : u = Value.ref a := rx
  obtain ⟨kvs, k, b, rfl, e, hk, hb, l⟩ := g
  cases (show iv = Value.ref b from ry)
  exact n_in hu I2 e (hk.nks I2.hok) (hb.2 _ _ _ _ I2.hok rfl) hb.1 fun s3 I3 => ⟨.bl ov.isSome, H2, I3, by rw [l]; rfl, q2⟩
theorem pc_nnotin (hu : X.A.units + 9 < cLine) (hi : PE X i ty) (ho : PE X o td) : PC X .NotIn i o (tNNotIn X.w ty td) := by
  refine ⟨fun pins s σ H Q I h => ?_⟩
  refine thn (hi.run pins s σ H _ I h) fun iv s1 ⟨y, H1, I1, ry, q1⟩ => thn (ho.run pins s1 σ H1 _ I1 q1) fun u s2 ⟨x, H2, I2, rx, a, ov, ex, g, q2⟩ => ?_
  subst ex
  obtain rfl : u = Value.ref a := rx
  obtain ⟨kvs, k, b, rfl, e, hk, hb, l⟩ := g
  cases (show iv = Value.ref b from ry)
  exact n_notIn hu I2 e (hk.nks I2.hok) (hb.2 _ _ _ _ I2.hok rfl) hb.1 fun s3 I3 => ⟨.bl (!ov.isSome), H2, I3, by rw [l]; rfl, q2⟩
/-- d[y] = v -/
def sNPut (wd : World) (td ty tv : TE) : TS := fun D σ H => tv σ H fun v H1 => td σ H1 fun x H2 => ty σ H2 fun y H3 => ∃ a H4, x = .ref a ∧ NPut wd H3 a y v H4 ∧ D.nx σ H4
theorem ps_nput (hu : X.A.units + 9 < cLine) (ho : PE X o td) (hi : PE X i ty) (hv : PE X value tv) (hs : swapsWith value (some (.Subscript o i pos')) pos.line X.env = pure false) :
    PS X (.Assign [.Subscript o i pos'] value pos) (sNPut X.w td ty tv) := by
  refine ⟨fun pins s σ H D I h => ?_⟩
  refine wpAny_Assign_Subscript (thn (hv.run pins s σ H _ I h) fun r s1 ⟨v, H1, I1, rv, q1⟩ => thn (ho.run pins s1 σ H1 _ I1 q1) fun u s2 ⟨x, H2, I2, rx, q2⟩ => thn (hi.run pins s2 σ H2 _ I2 q2) fun iv s3 ⟨y, H3, I3, ry, a, H4, ex, g, q3⟩ => ?_) hs
  subst ex
  obtain rfl : u = Value.ref a := rx
  obtain ⟨kvs, k, b, rfl, e, hk, hb, hl, rfl⟩ := g
  cases (show iv = Value.ref b from ry)
  exact n_setItem hu I3 e (hk.nks I3.hok) (hb.2 _ _ _ _ I3.hok rfl) hb.1 rv hl fun s4 I4 => ⟨σ, _, I4, q3⟩
/-- d.setdefault(y, z) -/
def tNDef (wd : World) (td ty tx : TE) : TE := fun σ H Q => td σ H fun x H1 => ∃ a, x = .ref a ∧ (∃ kvs, Rd H1 a (ndHO wd a kvs)) ∧ ty σ H1 fun y H2 => tx σ H2 fun z H3 => ∃ kvs k b, y = .ref b ∧ H3 a = some (ndHO wd a kvs) ∧ HKeys H3 kvs ∧ HKey H3 k (.ref b) ∧ kvs.length < sizeLine ∧
  (∀ v, nVal kvs k = some v → Q v H3) ∧ (nVal kvs k = none → Q z (upd H3 a (ndHO wd a (nPut kvs k b z))))
theorem pe_ndef (hu : X.A.units + 9 < cLine) (ho : PE X o td) (he : PE X e ty) (hf : PE X f tx) (m : M2 X o "setdefault" apos e f cpos) : PE X (.Call (.Attribute o "setdefault" apos) [e, f] [] cpos) (tNDef X.w td ty tx) := by
  refine ⟨fun pins s σ H Q I h => ?_⟩
  refine wpAny_Call_method m.base m.few m.line PySem.F.plainAttrs_dict PySem.F.slot_dict_setdefault PySem.F.type_dict_setdefault (thn (ho.run pins s σ H _ I h) fun u s1 ⟨x, H1, I1, rx, a, ex, ⟨kv0, d⟩, q1⟩ => ?_)
  subst ex
  obtain rfl : u = Value.ref a := rx
  obtain ⟨t1, t2, _⟩ := nd_type I1.hok d
  refine ⟨t1, t2, ?_⟩
  rw [m.trees]
  refine Calls.callWith_builtin rfl (Calls.evalArgs_plain (Calls.spliced_cons (thn (he.run pins s1 σ H1 _ I1 q1) fun iv s2 ⟨y, H2, I2, ry, q2⟩ =>
    Calls.spliced_cons (thn (hf.run pins s2 σ H2 _ I2 q2) fun fv s3 ⟨z, H3, I3, rz, kvs, k, b, ey, ea, hk, hb, hl, q3, q4⟩ => Calls.spliced_nil ?_))))
  subst ey
  cases (show iv = Value.ref b from ry)
  exact n_setdefault hu I3 ea (hk.nks I3.hok) (hb.2 _ _ _ _ I3.hok rfl) hb.1 rz hl (fun v w' s4 l I4 rw' => ⟨v, H3, I4, rw', q3 v l⟩) (fun s4 l I4 => ⟨z, _, I4, rz, q4 l⟩)
end
end Z

set_option Elab.async false
set_option linter.all false
set_option maxRecDepth 100000
set_option maxHeartbeats 4000000
/-! ZZE: for k in d, for v in d.values(), for k, v in d.items(), of dicts with nested keys (locked). -/
namespace Z
open PySem PySem.Spec PyProof.Rows L2 StX
section
variable {X : Cx} {pins : List (Addr × Obj)} {σ : L2.St} {H : Hp} {s : Shared} {d : Addr} {o : Obj} {kvs : List (NestedKey × Addr × V)}
theorem frzN (I : Inv X pins σ H s) (h : H d = some (.frz o (ndHO X.w d kvs))) :
    (d == sysModules) = false ∧ s.heap.get? d = some o ∧ o.ExactDict ∧ ∃ (es : Array DictEntry) (ep : Nat), o.data = .dict es ep ∧ es.size = kvs.length ∧
      ∀ (i : Nat) (k : NestedKey) (q : Addr) (v : V), kvs[i]? = some (k, q, v) → ∃ (en : DictEntry), es[i]? = some en ∧ en.key = .ref q ∧ RelV v en.val := by
  obtain ⟨hd, ⟨z, hs, xs, pr, o', es, ep, ho, hx, hdt, he, _⟩, _⟩ := I.hok d _ h
  rw [hd] at ho
  cases ho
  refine ⟨hs, hd, hx, es, ep, hdt, ?_, fun i k q v e => ?_⟩
  · have l1 : es.toList.length = xs.length := by rw [he, List.length_map]
    have l2 : kvs.length = xs.length := Paired.length pr
    rw [Array.length_toList] at l1
    omega
  · obtain ⟨b, hb, e1, e2, e3⟩ := paired_get pr e
    have q2 : es[i]? = some ⟨b.1.hash X.w, .ref b.2.1, b.2.2⟩ := by
      rw [← Array.getElem?_toList, he, List.getElem?_map, hb]
      rfl
    exact ⟨_, q2, by rw [← e2], e3⟩
end
/-- the keys: each key's own tuple -/
def ItkN (wd : World) (d : Addr) (o : Obj) (kvs : List (NestedKey × Addr × V)) : It :=
  ⟨fun i H => H d = some (.frz o (ndHO wd d kvs)) ∧ i < kvs.length, fun i H x H' => H' = H ∧ ∃ k q v, kvs[i]? = some (k, q, v) ∧ x = .ref q, fun i H => H d = some (.frz o (ndHO wd d kvs)) ∧ kvs.length ≤ i⟩
/-- the values -/
def ItdN (wd : World) (d : Addr) (o : Obj) (kvs : List (NestedKey × Addr × V)) : It :=
  ⟨fun i H => H d = some (.frz o (ndHO wd d kvs)) ∧ i < kvs.length, fun i H x H' => H' = H ∧ ∃ k q, kvs[i]? = some (k, q, x), fun i H => H d = some (.frz o (ndHO wd d kvs)) ∧ kvs.length ≤ i⟩
/-- the pairs, each a new tuple -/
def ItiN (wd : World) (d : Addr) (o : Obj) (kvs : List (NestedKey × Addr × V)) : It :=
  ⟨fun i H => H d = some (.frz o (ndHO wd d kvs)) ∧ i < kvs.length, fun i H x H' => ∃ T k q v, kvs[i]? = some (k, q, v) ∧ x = .ref T ∧ H T = none ∧ H' = upd H T (.tup [.ref q, v]), fun i H => H d = some (.frz o (ndHO wd d kvs)) ∧ kvs.length ≤ i⟩
section
variable {P : Program} {w : World} {K : PySem.W.Frag} {tg : Expr} {d : Addr} {o : Obj} {es : Array DictEntry} {ep : Nat}
theorem turn_keysN {kvs : List (NestedKey × Addr × V)} (it : Addr) (hod : o.data = .dict es ep) : Turn P w K tg (ItkN w d o kvs) [it] it (fun i h => h.IsKeyIter it d i kvs.length ep) where
  mem := by simp
  obj := fun i h st b hb => by
    have e : b = it := by simpa using hb
    subst e
    obtain ⟨oi, e, c, dd⟩ := st
    exact ⟨oi, e, fun v z => by rw [dd] at z; cases z⟩
  keep := fun i h h' st k => st.at fun oi e => k it (by simp) oi e
  item := by
    intro X hP hw hK hc i pins s σ H E I hf st hg
    subst hP hw hK
    obtain ⟨hd, hi⟩ := hg
    obtain ⟨f0, f1, f2, f3, f4, f5⟩ := hf it (by simp)
    obtain ⟨hs, hgd, hx, es', ep', hdt, hsz, ent⟩ := frzN I hd
    obtain ⟨rfl, rfl⟩ := dict_ep hod hdt
    obtain ⟨⟨k, q, v⟩, hkv⟩ : ∃ p, kvs[i]? = some p := ⟨kvs[i], List.getElem?_eq_getElem hi⟩
    obtain ⟨en, hen, hkey, hv⟩ := ent i k q v hkv
    refine next_key_item st hgd hdt hsz hen fun h' st' sb => ?_
    have I1 : Inv X pins σ H { s with heap := h' } := I.turned (t' := s.toks) (fun b ob hb e => (sb.2 b hb).trans e) f0 f1 f3 f4 f5
    obtain ⟨oi, e, c, dd⟩ := id st'
    exact ⟨en.key, rfl, go_of (s := { s with heap := h' }) e c dd (by decide) ⟨.ref q, H, I1, hkey, ⟨rfl, k, q, v, hkv, rfl⟩, st', fun b hb => (hf b hb).1⟩⟩
  done := by
    intro X hP hw hK hc i pins s σ H E I hf st hg
    subst hP hw hK
    obtain ⟨hd, hi⟩ := hg
    obtain ⟨f0, f1, f2, f3, f4, f5⟩ := hf it (by simp)
    obtain ⟨hs, hgd, hx, es', ep', hdt, hsz, ent⟩ := frzN I hd
    obtain ⟨rfl, rfl⟩ := dict_ep hod hdt
    exact next_key_end (I.ok.hd hc) st hgd hdt hsz hi fun h' eb => ⟨rfl, I.turned (t' := s.toks) (fun b ob hb e => eb b ob hb e) f0 f1 f3 f4 f5⟩
  self := fun A i s Q E st h => by
    refine wpAny_pyIter_slot st.typeIs F.slot_dict_keyiterator_iter (wpAny_call_entry F.slot_dict_keyiterator_iter st.typeIs F.entry_dict_keyiterator_iter ?_ (F.args_dict_keyiterator_iter_1 _))
    show wpAny _ _ (ret (.ref it)) _ _ s
    exact wpAny_pure ⟨_, rfl, "dict_keyiterator", _, st.typeIs, F.slot_dict_keyiterator_next.lookup, h⟩
theorem turn_valsN {kvs : List (NestedKey × Addr × V)} (it : Addr) (hod : o.data = .dict es ep) : Turn P w K tg (ItdN w d o kvs) [it] it (fun i h => h.IsValIter it d i kvs.length ep) where
  mem := by simp
  obj := fun i h st b hb => by
    have e : b = it := by simpa using hb
    subst e
    obtain ⟨oi, e, c, dd⟩ := st
    exact ⟨oi, e, fun v z => by rw [dd] at z; cases z⟩
  keep := fun i h h' st k => st.at fun oi e => k it (by simp) oi e
  item := by
    intro X hP hw hK hc i pins s σ H E I hf st hg
    subst hP hw hK
    obtain ⟨hd, hi⟩ := hg
    obtain ⟨f0, f1, f2, f3, f4, f5⟩ := hf it (by simp)
    obtain ⟨hs, hgd, hx, es', ep', hdt, hsz, ent⟩ := frzN I hd
    obtain ⟨rfl, rfl⟩ := dict_ep hod hdt
    obtain ⟨⟨k, q, v⟩, hkv⟩ : ∃ p, kvs[i]? = some p := ⟨kvs[i], List.getElem?_eq_getElem hi⟩
    obtain ⟨en, hen, hkey, hv⟩ := ent i k q v hkv
    have hi' : i < es'.size := by omega
    have een : es'[i] = en := by
      rw [Array.getElem?_eq_getElem hi'] at hen
      exact Option.some.inj hen
    rw [← hsz] at st
    refine wpAny_pyNext_values_item_raw st ⟨o, hgd, hx, hdt⟩ hi' fun h' st' sb => ?_
    have I1 : Inv X pins σ H { s with heap := h' } := I.turned (t' := s.toks) (fun b ob hb e => (sb.2 b hb).trans e) f0 f1 f3 f4 f5
    obtain ⟨oi, e, c, dd⟩ := id st'
    refine ⟨es'[i].val, rfl, go_of (s := { s with heap := h' }) e c dd (by decide) ⟨v, H, I1, by rw [een]; exact hv, ⟨rfl, k, q, hkv⟩, ?_, fun b hb => (hf b hb).1⟩⟩
    show h'.IsValIter it d (i + 1) kvs.length _
    rw [← hsz]
    exact st'
  done := by
    intro X hP hw hK hc i pins s σ H E I hf st hg
    subst hP hw hK
    obtain ⟨hd, hi⟩ := hg
    obtain ⟨f0, f1, f2, f3, f4, f5⟩ := hf it (by simp)
    obtain ⟨hs, hgd, hx, es', ep', hdt, hsz, ent⟩ := frzN I hd
    obtain ⟨rfl, rfl⟩ := dict_ep hod hdt
    rw [← hsz] at st
    exact wpAny_pyNext_values_end_raw (I.ok.hd hc) st ⟨o, hgd, hx, hdt⟩ (by omega) fun h' eb => ⟨rfl, I.turned (t' := s.toks) (fun b ob hb e => eb b ob hb e) f0 f1 f3 f4 f5⟩
  self := fun A i s Q E st h => wpAny_pyIter_valiter st h
theorem turn_itemsN {kvs : List (NestedKey × Addr × V)} {elts : List Expr} {kk : Nat} {tpos : Pos} (it : Addr) (hod : o.data = .dict es ep) :
    Turn P w K (.Tuple elts kk tpos) (ItiN w d o kvs) [it] it (fun i h => ∃ ok ov, IsItemIter h it d i kvs.length ep ok ov) where
  mem := by simp
  obj := fun i h st b hb => by
    have e : b = it := by simpa using hb
    subst e
    obtain ⟨ok, ov, e⟩ := st
    exact ⟨_, e, fun v z => nomatch z⟩
  keep := fun i h h' st k => let ⟨ok, ov, e⟩ := st; ⟨ok, ov, k it (by simp) _ e⟩
  item := by
    intro X hP hw hK hc i pins s σ H E I hf st hg
    subst hP hw hK
    obtain ⟨hd, hi⟩ := hg
    obtain ⟨hs, hgd, hx, es', ep', hdt, hsz, ent⟩ := frzN I hd
    obtain ⟨rfl, rfl⟩ := dict_ep hod hdt
    obtain ⟨⟨k, q, v⟩, hkv⟩ : ∃ p, kvs[i]? = some p := ⟨kvs[i], List.getElem?_eq_getElem hi⟩
    obtain ⟨en, hen, hkey, hv⟩ := ent i k q v hkv
    have hi' : i < es'.size := by omega
    have een : es'[i] = en := by
      rw [Array.getElem?_eq_getElem hi'] at hen
      exact Option.some.inj hen
    obtain ⟨ok, ov, he⟩ := st
    rw [← hsz] at he
    have hlt : it < s.heap.objs.size := Heap.lt_size he
    refine wpAny_pyNext_items_item_raw he ⟨o, hgd, hx, hdt⟩ hi' fun h' ho hT hz hk => ?_
    rw [een] at ho hT
    refine ⟨_, rfl, wpAny_letOwnedTupleGo_items (s := { s with heap := h' }) ho fun h'' he' sb => ?_⟩
    have hT2 : h''.get? s.heap.objs.size = some { cls := .type "tuple", data := .seq #[en.key, en.val] } := (sb.2 _ (Nat.ne_of_gt hlt)).trans hT
    have new : ObjOk X.prog X.w (upd H s.heap.objs.size (.tup [.ref q, v])) h'' s.heap.objs.size (.tup [.ref q, v]) :=
      ⟨by show 2 ≤ sizeLine; decide, [en.key, en.val], .cons hkey (.cons hv .nil), ⟨_, hT2, rfl, _, rfl⟩⟩
    have I1 : Inv X pins σ (upd H s.heap.objs.size (.tup [.ref q, v])) { s with heap := h'' } :=
      I.turnedNew (t' := s.toks) (ch := [it]) (fun b ob hb e => (sb.2 b (by simpa using hb)).trans (hk b ob (by simpa using hb) e)) hf (Nat.le_refl _) new
    refine ⟨.ref s.heap.objs.size, _, I1, rfl, ⟨_, k, q, v, hkv, rfl, I.hok.fresh (Nat.le_refl _), rfl⟩, ⟨en.key, en.val, ?_⟩, fun b hb => ?_⟩
    · rw [← hsz]; exact he'
    · have e : b = it := by simpa using hb
      rw [e, upd_ne (Nat.ne_of_lt hlt)]
      exact (hf it (by simp)).1
  done := by
    intro X hP hw hK hc i pins s σ H E I hf st hg
    subst hP hw hK
    obtain ⟨hd, hi⟩ := hg
    obtain ⟨f0, f1, f2, f3, f4, f5⟩ := hf it (by simp)
    obtain ⟨hs, hgd, hx, es', ep', hdt, hsz, ent⟩ := frzN I hd
    obtain ⟨rfl, rfl⟩ := dict_ep hod hdt
    obtain ⟨ok, ov, he⟩ := st
    rw [← hsz] at he
    exact wpAny_pyNext_items_end_raw (I.ok.hd hc) he ⟨o, hgd, hx, hdt⟩ (by omega) fun h' eb => ⟨rfl, I.turned (t' := s.toks) (fun b ob hb e => eb b ob hb e) f0 f1 f3 f4 f5⟩
  self := fun A i s Q E st h => let ⟨_, _, e⟩ := st; PySem.W.kcp_self e h
end
def iKeysN (wd : World) (td : TE) : TI := fun σ H R => td σ H fun x H1 => ∃ d o kvs, x = .ref d ∧ H1 d = some (.frz o (ndHO wd d kvs)) ∧ R (ItkN wd d o kvs) H1
def iValsN (wd : World) (td : TE) : TI := fun σ H R => td σ H fun x H1 => ∃ d o kvs, x = .ref d ∧ H1 d = some (.frz o (ndHO wd d kvs)) ∧ R (ItdN wd d o kvs) H1
def iItemsN (wd : World) (td : TE) : TI := fun σ H R => td σ H fun x H1 => ∃ d o kvs, x = .ref d ∧ H1 d = some (.frz o (ndHO wd d kvs)) ∧ R (ItiN wd d o kvs) H1
section
variable {X : Cx} {tg e : Expr} {td : TE} {apos cpos : Pos}
theorem pi_keysN (he : PE X e td) : PI X tg e (iKeysN X.w td) := by
  refine ⟨fun pins s σ H R I h => ?_⟩
  refine thn (he.run pins s σ H _ I h) fun u s1 ⟨x, H1, I1, rx, d, o, kvs, ex, hd, q⟩ => ?_
  subst ex
  obtain rfl : u = Value.ref d := rx
  obtain ⟨hs, hgd, hx, es, ep, hdt, hsz, ent⟩ := frzN I1 hd
  refine iter_keys hs hgd hx hdt (pi_one (tk := s1.toks) I1 _ (turn_keysN _ hdt) ⟨_, Heap.get?_push_size _ rfl, rfl, ?_⟩ q)
  rw [hsz] <;> rfl
theorem pi_valuesN (he : PE X e td) (hbase : attributeBase e "values" X.env (eval e X.env) = eval e X.env := by rfl) (hline : (apos.endLine == cpos.line) = true := by rfl) : PI X tg (.Call (.Attribute e "values" apos) [] [] cpos) (iValsN X.w td) := by
  refine ⟨fun pins s σ H R I h => ?_⟩
  refine wpAny_Call_method (T := "dict") (id := "dict.values") hbase rfl hline F.plainAttrs_dict F.slot_dict_values F.type_dict_values (thn (he.run pins s σ H _ I h) fun u s1 ⟨x, H1, I1, rx, d, o, kvs, ex, hd, q⟩ => ?_)
  subst ex
  obtain rfl : u = Value.ref d := rx
  obtain ⟨hs, hgd, hx, es, ep, hdt, hsz, ent⟩ := frzN I1 hd
  have hr : s1.heap.DictRaw d es ep := ⟨o, hgd, hx, hdt⟩
  refine ⟨hr.typeIs, fun b q => ?_, ?_⟩
  · cases q
    exact ⟨o, hgd, hx.2.1⟩
  have I2 : Inv X pins σ H1 { s1 with heap := s1.heap.push { cls := .type "dict_values", data := .fields #[.ref d] } } := I1.kept (t' := s1.toks) fun b ob q => Heap.get?_push_of_some _ q
  have fin : wpAny (model X.prog X.w) X.A (pyIter (.ref s1.heap.objs.size)) (PIE X pins σ tg R) X.xe { s1 with heap := s1.heap.push { cls := .type "dict_values", data := .fields #[.ref d] } } := by
    refine wpAny_pyIter_values_raw (d := d) (es := es) (ep := ep) ⟨_, Heap.get?_push_size _ rfl, rfl, rfl⟩ ⟨o, Heap.get?_push_of_some _ hgd, hx, hdt⟩ (pi_one (tk := s1.toks) I2 _ (turn_valsN _ hdt) ⟨_, Heap.get?_push_size _ rfl, rfl, ?_⟩ q)
    rw [hsz] <;> rfl
  show wpAny _ _ (callWith cpos (.builtin "dict.values") [.ref d] [] []) _ X.xe s1
  exact method_meetsIn F.slot_dict_values F.entry_dict_values rfl (PySem.evalArgs_none ⟨rfl, hr.typeIs, F.args_dict_values_1 _, _, meets_dict_values_raw d hs, ⟨es, ep, hr⟩, fin⟩)
theorem pi_itemsN {elts : List Expr} {kk : Nat} {tpos : Pos} (he : PE X e td) (hbase : attributeBase e "items" X.env (eval e X.env) = eval e X.env := by rfl) (hline : (apos.endLine == cpos.line) = true := by rfl) :
    PI X (.Tuple elts kk tpos) (.Call (.Attribute e "items" apos) [] [] cpos) (iItemsN X.w td) := by
  refine ⟨fun pins s σ H R I h => ?_⟩
  refine wpAny_Call_method (T := "dict") (id := "dict.items") hbase rfl hline F.plainAttrs_dict F.slot_dict_items F.type_dict_items (thn (he.run pins s σ H _ I h) fun u s1 ⟨x, H1, I1, rx, d, o, kvs, ex, hd, q⟩ => ?_)
  subst ex
  obtain rfl : u = Value.ref d := rx
  obtain ⟨hs, hgd, hx, es, ep, hdt, hsz, ent⟩ := frzN I1 hd
  have hr : s1.heap.DictRaw d es ep := ⟨o, hgd, hx, hdt⟩
  refine ⟨hr.typeIs, fun b q => ?_, ?_⟩
  · cases q
    exact ⟨o, hgd, hx.2.1⟩
  have I2 : Inv X pins σ H1 { s1 with heap := s1.heap.push { cls := .type "dict_items", data := .fields #[.ref d] } } := I1.kept (t' := s1.toks) fun b ob q => Heap.get?_push_of_some _ q
  have fin : wpAny (model X.prog X.w) X.A (pyIter (.ref s1.heap.objs.size)) (PIE X pins σ (.Tuple elts kk tpos) R) X.xe { s1 with heap := s1.heap.push { cls := .type "dict_items", data := .fields #[.ref d] } } := by
    refine wpAny_pyIter_items_raw (d := d) (es := es) (ep := ep) ⟨_, Heap.get?_push_size _ rfl, rfl, rfl⟩ ⟨o, Heap.get?_push_of_some _ hgd, hx, hdt⟩ (pi_one (tk := s1.toks) I2 _ (turn_itemsN _ hdt) ⟨.none, .none, ?_⟩ q)
    rw [← hsz]
    exact Heap.get?_push_size _ rfl
  show wpAny _ _ (callWith cpos (.builtin "dict.items") [.ref d] [] []) _ X.xe s1
  exact method_meetsIn F.slot_dict_items F.entry_dict_items rfl (PySem.evalArgs_none ⟨rfl, hr.typeIs, F.args_dict_items_1 _, _, meets_dict_items_raw d hs, ⟨es, ep, hr⟩, fin⟩)
end
end Z

set_option Elab.async false
set_option linter.all false
set_option maxRecDepth 100000
set_option maxHeartbeats 4000000
/-! ZZF: dicts with nested keys, as trees: a node (.dn o ks) has the keys' trees as its first children, then the values. -/
namespace Z
open PySem PySem.Spec PyProof.Rows L2 StX
def isTupD : D → Bool
  | .node .tup _ => true
  | .node .tux _ => true
  | _ => false
/-- the first children are the keys ks -/
def okKeys (ks : List NestedKey) (xs : List D) : Bool := decide (nkAll (xs.take ks.length) = some ks) && (xs.take ks.length).all isTupD && ks.all fun k => decide (k.depth ≤ 8)
theorem rep_ref {w : Wd} {I H : Hp} {d : D} {v : V} {fp : List Addr} (r : Rep w I H d v fp) (h : isTupD d = true) : v = .ref (refA v) := by
  cases d with
  | node t xs =>
    unfold Rep at r
    obtain ⟨a, vs, fp', rfl, _⟩ := r
    rfl
  | _ => cases h
theorem rep_keys {w : Wd} {I H : Hp} (le : Le I H) : ∀ (ds : List D) (us : List V) (fp : List Addr) (ks : List NestedKey) (vs : List V), RepL w I H ds us fp → nkAll ds = some ks → ds.all isTupD = true → (ks.all fun k => decide (k.depth ≤ 8)) = true →
    HKeys H (ks.zip ((us.map refA).zip vs))
  | [], us, fp, ks, vs, r, e, _, _ => by
    simp [nkAll] at e
    subst e
    intro p hp
    cases hp
  | d :: ds, us, fp, ks, vs, r, e, ht, hd => by
    unfold RepL at r
    obtain ⟨v, us', f1, f2, rfl, rfl, h1, h2⟩ := r
    rw [nkAll] at e
    cases e1 : nkOf d with
    | none => simp [e1] at e
    | some k =>
      cases e2 : nkAll ds with
      | none => simp [e1, e2] at e
      | some ks' =>
        simp [e1, e2] at e
        subst e
        rw [List.all_cons, Bool.and_eq_true] at ht hd
        cases vs with
        | nil =>
          intro p hp
          simp at hp
        | cons y ys =>
          intro p hp
          rw [List.map_cons, List.zip_cons_cons, List.zip_cons_cons] at hp
          rcases List.mem_cons.mp hp with rfl | hp
          · show HKey H k (.ref (refA v))
            rw [← rep_ref h1 ht.1]
            exact h1.hkey le e1 (of_decide_eq_true hd.1)
          · exact rep_keys le ds us' f2 ks' ys h2 e2 ht.2 hd.2 p hp
theorem nVal_zip {k : NestedKey} : ∀ (ks : List NestedKey) (as : List Addr) (vs : List V), ks.length = as.length → ks.length = vs.length → nVal (ks.zip (as.zip vs)) k = (ks.findIdx? fun x => decide (x = k)).bind fun j => vs[j]?
  | [], as, vs, _, _ => rfl
  | x :: ks, [], vs, h, _ => by cases h
  | x :: ks, a :: as, [], _, h => by cases h
  | x :: ks, a :: as, v :: vs, h1, h2 => by
    have h1' : ks.length = as.length := by simpa using h1
    have h2' : ks.length = vs.length := by simpa using h2
    rw [List.zip_cons_cons, List.zip_cons_cons, List.findIdx?_cons]
    by_cases e : x = k
    · rw [if_pos (by simpa using e)]
      simp [nVal, List.find?_cons, e]
    · rw [if_neg (by simpa using e)]
      have c : nVal ((x, a, v) :: ks.zip (as.zip vs)) k = nVal (ks.zip (as.zip vs)) k := by simp [nVal, List.find?_cons, e]
      rw [c, nVal_zip ks as vs h1' h2']
      cases (ks.findIdx? fun x => decide (x = k)) <;> rfl
theorem nVal_dnz {k : NestedKey} {ks : List NestedKey} {us : List V} (h : ks.length + ks.length = us.length) : nVal (dnz ks us) k = (ks.findIdx? fun x => decide (x = k)).bind fun j => us[ks.length + j]? := by
  unfold dnz
  rw [nVal_zip ks _ _ (by rw [List.length_map, List.length_take]; omega) (by rw [List.length_drop]; omega)]
  congr 1
  funext j
  rw [List.getElem?_drop]
theorem Hs.ndict {w : Wd} {I F H : Hp} {ds : List D} {vs : List V} {o : Bool} {ks : List NestedKey} {xs : List D} {v : V} (h : Hs w I F (.node (.dn o ks) xs :: ds) (v :: vs) H) :
    ∃ a us fp, v = .ref a ∧ Rd H a (ndHO w.wd a (dnz ks us)) ∧ ks.length + ks.length = us.length ∧ RepL w I H xs us fp := by
  obtain ⟨fp, r⟩ := h.head
  unfold Rep at r
  obtain ⟨a, us, fp', rfl, hl, hf, q⟩ := r
  rcases q with ⟨_, hat, _⟩ | ⟨_, hat, _⟩
  · exact ⟨a, us, fp', rfl, .inl hat, hf, hl⟩
  · exact ⟨a, us, fp', rfl, le_rd h.iH hat, hf, hl⟩
theorem keys_of {w : Wd} {I H : Hp} (le : Le I H) {ks : List NestedKey} {xs : List D} {us : List V} {fp : List Addr} (r : RepL w I H xs us fp) (hf : ks.length + ks.length = us.length) (h : okKeys ks xs = true) : HKeys H (dnz ks us) := by
  unfold okKeys at h
  rw [Bool.and_eq_true, Bool.and_eq_true] at h
  have hl := r.length
  have r2 : RepL w I H (xs.take ks.length ++ xs.drop ks.length) (us.take ks.length ++ us.drop ks.length) fp := by
    rw [List.take_append_drop, List.take_append_drop]
    exact r
  obtain ⟨f1, f2, _, q1, _⟩ := r2.split (by rw [List.length_take, List.length_take]; omega)
  exact rep_keys le _ _ f1 ks _ q1 (of_decide_eq_true h.1.1) h.1.2 h.2
/-- the key that a tree is -/
def nkTup (d : D) : Option NestedKey := if isTupD d = true then (match nkOf d with
  | some k => if k.depth ≤ 8 then some k else none
  | none => none) else none
theorem Hs.nkey {w : Wd} {I F H : Hp} {ds : List D} {vs : List V} {d : D} {v : V} {k : NestedKey} (h : Hs w I F (d :: ds) (v :: vs) H) (e : nkTup d = some k) : ∃ b, v = .ref b ∧ HKey H k (.ref b) := by
  unfold nkTup at e
  by_cases ht : isTupD d = true
  · rw [if_pos ht] at e
    cases e1 : nkOf d with
    | none => simp [e1] at e
    | some k' =>
      simp only [e1] at e
      by_cases hd : k'.depth ≤ 8
      · rw [if_pos hd] at e
        cases e
        obtain ⟨fp, r⟩ := h.head
        refine ⟨refA v, rep_ref r ht, ?_⟩
        rw [← rep_ref r ht]
        exact r.hkey h.iH e1 hd
      · rw [if_neg hd] at e; cases e
  · rw [if_neg ht] at e; cases e
section
variable {Γ : Cx} {X : Fx} {W : WX}
/-! ### {} -/
def mNewN : M := fun env => .ok (.node (.dn true []) []) env
theorem z_newN {pos : Pos} (hw : X.w.wd = Γ.w) : PE Γ (.Dict [] [] pos) (tE X W mNewN) := PEi pe_nnew fun σ H Q h => by
  obtain ⟨I, F, env, hs, er, o⟩ := h
  intro p np
  exact o (.ref p) I _ (Le.refl I) (Hs.newO (t := .dn true []) (xs := []) (us := []) (o := ndHO Γ.w p []) hs rfl np rfl rfl (by
    show upd H p (ndHO Γ.w p []) p = some (ndHO X.w.wd p [])
    rw [hw]
    exact upd_same)) er
/-! ### d[k] -/
def rNG (wd : World) : RN := fun us H Q _ => match us with
  | [x, y] => ∃ a v, x = .ref a ∧ NGet wd H a y (some v) ∧ Q v H
  | _ => False
def oNGet : Op
  | [.node (.dn o ks) xs, kd] => (match nkTup kd with
    | some k => if okKeys ks xs = true then (match ks.findIdx? fun x => decide (x = k) with
      | some j => (match xs[ks.length + j]? with
        | some c => if c.isFrz = true then .ok c [.node (.dn o ks) xs, kd] else .bad
        | none => .bad)
      | none => .bad) else .bad
    | none => .bad)
  | _ => .bad
theorem od_nget {w : Wd} : OpD w (rNG w.wd) oNGet := fun I F es us H Q E hs o => by
  unfold oNGet at o
  split at o
  · rename_i ow ks xs kd
    match us, hs.length, hs, o with
    | [v, u], _, hs, o =>
      cases e1 : nkTup kd with
      | none => simp only [e1] at o; exact o.elim
      | some k =>
        simp only [e1] at o
        by_cases hk : okKeys ks xs = true
        · rw [if_pos hk] at o
          cases e2 : (ks.findIdx? fun x => decide (x = k)) with
          | none => simp only [e2] at o; exact o.elim
          | some j =>
            simp only [e2] at o
            cases e3 : xs[ks.length + j]? with
            | none => simp only [e3] at o; exact o.elim
            | some c =>
              simp only [e3] at o
              obtain ⟨b, rfl, hb⟩ := hs.drop.nkey e1
              by_cases hc : c.isFrz = true
              · rw [if_pos hc] at o
                obtain ⟨a, us, fp, rfl, hd, hl, r⟩ := hs.ndict
                obtain ⟨z, f1, f2, hz, rz, _, _⟩ := r.take e3
                obtain rfl := rz.own_nil (frz_id hc)
                obtain ⟨fq, rq, nq, dq⟩ := hs.ex
                exact ⟨a, z, rfl, ⟨_, k, b, rfl, hd, keys_of hs.iH r hl hk, hb, by rw [nVal_dnz hl, e2]; exact hz.symm⟩, o z I H (Le.refl I) (hs.of_sub (RepL.cons (f1 := []) rz rq) rq nq dq nq fun b m => m)⟩
              · rw [if_neg hc] at o
                exact o.elim
        · rw [if_neg hk] at o
          exact o.elim
  · exact o.elim
theorem z_nget {a b : Expr} {pos : Pos} {oa ob : Opd} (hw : X.w.wd = Γ.w) (hu : Γ.A.units + 9 < cLine) (ha : PE Γ a (tO X W oa)) (hb : PE Γ b (tO X W ob)) (hs : NoSl b) : PE Γ (.Subscript a b pos) (tE X W (mApp oNGet [oa, ob])) :=
  PEi (pe_nget hu ha hb hs) fun σ H Q h => by
    rw [← hw]
    exact app_run od_nget h
end
end Z

set_option Elab.async false
set_option linter.all false
set_option maxRecDepth 100000
set_option maxHeartbeats 4000000
/-! ZZG: dicts with nested keys, as trees: a new key. -/
namespace Z
open PySem PySem.Spec PyProof.Rows L2 StX
/-- a key and a value come in -/
def insN {α : Type} (n : Nat) (xs : List α) (k r : α) : List α := (xs.take n ++ [k]) ++ (xs.drop n ++ [r])
theorem insN_len {α : Type} {n : Nat} {xs : List α} {k r : α} (h : n ≤ xs.length) : (insN n xs k r).length = xs.length + 2 := by
  unfold insN
  simp only [List.length_append, List.length_take, List.length_drop, List.length_singleton]
  omega
theorem dnz_ins {ks : List NestedKey} {us : List V} {k : NestedKey} {b : Addr} {y : V} (h : ks.length + ks.length = us.length) : dnz (ks ++ [k]) (insN ks.length us (.ref b) y) = dnz ks us ++ [(k, b, y)] := by
  have l1 : (us.take ks.length ++ [V.ref b]).length = ks.length + 1 := by
    rw [List.length_append, List.length_take, List.length_singleton]
    omega
  have e1 : (insN ks.length us (.ref b) y).take (ks ++ [k]).length = us.take ks.length ++ [V.ref b] := by
    unfold insN
    rw [List.length_append, List.length_singleton, ← l1]
    exact List.take_left
  have e2 : (insN ks.length us (.ref b) y).drop (ks ++ [k]).length = us.drop ks.length ++ [y] := by
    unfold insN
    rw [List.length_append, List.length_singleton, ← l1]
    exact List.drop_left
  unfold dnz
  rw [e1, e2, List.map_append, List.zip_append (by rw [List.length_map, List.length_take, List.length_drop]; omega), List.zip_append (by rw [List.length_zip, List.length_map, List.length_take, List.length_drop]; omega)]
  rfl
theorem hs_nnew {w : Wd} {I F H : Hp} {ds : List D} {vs : List V} {kd r : D} {b : Addr} {y v : V} {ks : List NestedKey} {xs : List D} (k : NestedKey) (h : Hs w I F (kd :: r :: .node (.dn true ks) xs :: ds) (.ref b :: y :: v :: vs) H) (hk : kd.frz = kd) (hr : r.frz = r) :
    ∃ a us fp, v = .ref a ∧ H a = some (ndHO w.wd a (dnz ks us)) ∧ ks.length + ks.length = us.length ∧ RepL w I H xs us fp ∧ Hs w I F (r :: .node (.dn true (ks ++ [k])) (insN ks.length xs kd r) :: ds) (y :: v :: vs) (upd H a (ndHO w.wd a (dnz ks us ++ [(k, b, y)]))) := by
  obtain ⟨fk, rk⟩ := h.head
  obtain rfl := rk.own_nil hk
  obtain ⟨fr, rr⟩ := h.drop.head
  obtain rfl := rr.own_nil hr
  obtain ⟨a, us, G, rfl, hl, hf, hat, hs, _, close⟩ := h.drop.drop.open rfl
  have hf : ks.length + ks.length = us.length := hf
  obtain ⟨fq, rq, nq, dq⟩ := hs.ex
  obtain ⟨g, g3, rfl, rx, r3⟩ := rq.split hl
  have rx0 := rx
  have r2 : RepL w I H (xs.take ks.length ++ xs.drop ks.length) (us.take ks.length ++ us.drop ks.length) g := by
    rw [List.take_append_drop, List.take_append_drop]
    exact rx
  obtain ⟨g1, g2, rfl, q1, q2⟩ := r2.split (by rw [List.length_take, List.length_take]; omega)
  have rk1 : RepL w I H [kd] [.ref b] [] := RepL.cons (f1 := []) (f2 := []) rk RepL.nil
  have rr1 : RepL w I H [r] [y] [] := RepL.cons (f1 := []) (f2 := []) rr RepL.nil
  have rn : RepL w I H (insN ks.length xs kd r) (insN ks.length us (.ref b) y) (g1 ++ g2) := by
    have z := (q1.append rk1).append (q2.append rr1)
    rw [List.append_nil, List.append_nil] at z
    exact z
  have h2 : Hs w I G (insN ks.length xs kd r ++ ds) (insN ks.length us (.ref b) y ++ vs) H := hs.of_sub (rn.append r3) rq nq dq nq fun b m => m
  have lx : (insN ks.length xs kd r).length = (insN ks.length us (.ref b) y).length := by
    rw [insN_len (by omega), insN_len (by omega), hl]
  have h3 := close I (.dn true (ks ++ [k])) (insN ks.length xs kd r) (insN ks.length us (.ref b) y) ds vs H (ndHO w.wd a (dnz ks us ++ [(k, b, y)])) (Le.refl _) h2 lx rfl
    (show (ks ++ [k]).length + (ks ++ [k]).length = (insN ks.length us (V.ref b) y).length by
      rw [insN_len (by omega), List.length_append, List.length_singleton]
      omega)
    (show upd H a _ a = some (ndHO w.wd a (dnz (ks ++ [k]) (insN ks.length us (V.ref b) y))) by
      rw [dnz_ins hf]
      exact upd_same)
  refine ⟨a, us, _, rfl, hat, hf, rx0, ?_⟩
  obtain ⟨fz, rz, nz, dz⟩ := h3.ex
  exact h3.of_sub (RepL.cons (f1 := []) (Rep.frame (Le.refl I) r y [] (fun _ m => nomatch m) rr) rz) rz nz dz nz fun b m => m
end Z

set_option Elab.async false
set_option linter.all false
set_option maxRecDepth 100000
set_option maxHeartbeats 4000000
/-! ZZH: d.setdefault(k, e), of a dict with nested keys at a name; the value stays as it is. -/
namespace Z
open PySem PySem.Spec PyProof.Rows L2 StX
theorem hs_nnew2 {w : Wd} {I F H : Hp} {ds : List D} {vs : List V} {kd r : D} {b : Addr} {y v : V} {ks : List NestedKey} {xs : List D} (k : NestedKey) (h : Hs w I F (.node (.dn true ks) xs :: kd :: r :: ds) (v :: .ref b :: y :: vs) H) (hk : kd.frz = kd) (hr : r.frz = r) :
    ∃ a us fp, v = .ref a ∧ H a = some (ndHO w.wd a (dnz ks us)) ∧ ks.length + ks.length = us.length ∧ RepL w I H xs us fp ∧ Hs w I F (.node (.dn true (ks ++ [k])) (insN ks.length xs kd r) :: kd :: r :: ds) (v :: .ref b :: y :: vs) (upd H a (ndHO w.wd a (dnz ks us ++ [(k, b, y)]))) := by
  obtain ⟨fk, rk⟩ := h.drop.head
  obtain rfl := rk.own_nil hk
  obtain ⟨fr, rr⟩ := h.drop.drop.head
  obtain rfl := rr.own_nil hr
  obtain ⟨a, us, G, rfl, hl, hf, hat, hs, _, close⟩ := h.open rfl
  have hf : ks.length + ks.length = us.length := hf
  obtain ⟨fq, rq, nq, dq⟩ := hs.ex
  obtain ⟨g, g3, rfl, rx, r3⟩ := rq.split hl
  have rx0 := rx
  have r2 : RepL w I H (xs.take ks.length ++ xs.drop ks.length) (us.take ks.length ++ us.drop ks.length) g := by
    rw [List.take_append_drop, List.take_append_drop]
    exact rx
  obtain ⟨g1, g2, rfl, q1, q2⟩ := r2.split (by rw [List.length_take, List.length_take]; omega)
  have rk1 : RepL w I H [kd] [.ref b] [] := RepL.cons (f1 := []) (f2 := []) rk RepL.nil
  have rr1 : RepL w I H [r] [y] [] := RepL.cons (f1 := []) (f2 := []) rr RepL.nil
  have rn : RepL w I H (insN ks.length xs kd r) (insN ks.length us (.ref b) y) (g1 ++ g2) := by
    have z := (q1.append rk1).append (q2.append rr1)
    rw [List.append_nil, List.append_nil] at z
    exact z
  have h2 : Hs w I G (insN ks.length xs kd r ++ (kd :: r :: ds)) (insN ks.length us (.ref b) y ++ (.ref b :: y :: vs)) H := hs.of_sub (rn.append r3) rq nq dq nq fun b m => m
  have lx : (insN ks.length xs kd r).length = (insN ks.length us (.ref b) y).length := by
    rw [insN_len (by omega), insN_len (by omega), hl]
  have h3 := close I (.dn true (ks ++ [k])) (insN ks.length xs kd r) (insN ks.length us (.ref b) y) (kd :: r :: ds) (.ref b :: y :: vs) H (ndHO w.wd a (dnz ks us ++ [(k, b, y)])) (Le.refl _) h2 lx rfl
    (show (ks ++ [k]).length + (ks ++ [k]).length = (insN ks.length us (V.ref b) y).length by
      rw [insN_len (by omega), List.length_append, List.length_singleton]
      omega)
    (show upd H a _ a = some (ndHO w.wd a (dnz (ks ++ [k]) (insN ks.length us (V.ref b) y))) by
      rw [dnz_ins hf]
      exact upd_same)
  exact ⟨a, us, _, rfl, hat, hf, rx0, h3⟩
def mNDef (i : Nat) (mk mv : M) : M := fun env => match env[i]? with
  | some (.node (.dn true _) _) => (match mk env with
    | .ok kd e1 => if kd.isFrz = true then (match mv e1 with
      | .ok r e2 => (match nkTup kd with
        | some k => (match e2[i]? with
          | some (.node (.dn true ks) xs) => if okKeys ks xs = true ∧ r.isFrz = true ∧ xs.length < 100000 then (match ks.findIdx? fun x => decide (x = k) with
            | some j => (match xs[ks.length + j]? with
              | some c => if c.isFrz = true then .ok c e2 else .bad
              | none => .bad)
            | none => .ok r (e2.set i (.node (.dn true (ks ++ [k])) (insN ks.length xs kd r)))) else .bad
          | _ => .bad)
        | none => .bad)
      | .exc c ns xs e => .exc c ns xs e
      | .bad => .bad) else .bad
    | .exc c ns xs e => .exc c ns xs e
    | .bad => .bad)
  | _ => .bad
section
variable {Γ : Cx} {X : Fx} {W : WX}
theorem ndef_run {i : Nat} {mk mv : M} {σ : L2.St} {H : Hp} {Q : VK} (q : tE X W (mNDef i mk mv) σ H Q) : tNDef X.w.wd (tVar i) (tE X W mk) (tE X W mv) σ H Q := by
  obtain ⟨I, F, env, hs, er, o⟩ := q
  unfold mNDef at o
  split at o
  · rename_i ks0 xs0 hd0
    obtain ⟨v, hv⟩ := er.on i _ hd0 (fun z => nomatch z)
    obtain ⟨v', e', h1⟩ := Hs.take (es := []) (us := []) hs rfl hd0
    have ev : v' = v := Option.some.inj (e'.symm.trans (σv_at hv))
    subst ev
    obtain ⟨a, us0, fp0, rfl, hR, _, _⟩ := h1.ndict
    refine ⟨.ref a, hv, a, rfl, ⟨_, hR⟩, ?_⟩
    refine ⟨I, F, env, hs, er, ?_⟩
    cases hm : mk env with
    | bad => simp only [hm] at o; exact o.elim
    | exc c ns xs e => simp only [hm] at o; exact o
    | ok kd e1 =>
      simp only [hm] at o
      by_cases hk : kd.isFrz = true
      · rw [if_pos hk] at o
        intro y I1 H1 le1 h1 er1
        obtain ⟨G, hg, back⟩ := Hs.push (ds := [kd]) (vs := [y]) h1 rfl
        refine ⟨I1, G, e1, hg, er1, ?_⟩
        cases hmv : mv e1 with
        | bad => simp only [hmv] at o; exact o.elim
        | exc c ns xs e =>
          simp only [hmv] at o
          intro cls d I2 H2 le2 h2 er2 x
          exact o cls d I2 H2 (le1.trans le2) (back I2 _ _ H2 le2 h2).drop er2 x
        | ok r e2 =>
          simp only [hmv] at o
          intro z I2 H2 le2 h2 er2
          have h3 : Hs X.w I2 F ([kd, r] ++ e2) ([y, z] ++ σv σ) H2 := back I2 _ _ H2 le2 h2
          cases ek : nkTup kd with
          | none => simp only [ek] at o; exact o.elim
          | some k =>
            simp only [ek] at o
            obtain ⟨b, rfl, hb⟩ := Hs.nkey h3 ek
            split at o
            · rename_i ks xs hd
              by_cases hc : okKeys ks xs = true ∧ r.isFrz = true ∧ xs.length < 100000
              · rw [if_pos hc] at o
                obtain ⟨hok, hr, hz⟩ := hc
                obtain ⟨v2, e2', h4⟩ := Hs.take h3 rfl hd
                have ev2 : v2 = .ref a := Option.some.inj (e2'.symm.trans (σv_at hv))
                subst ev2
                have h4' : Hs X.w I2 F (.node (.dn true ks) xs :: kd :: r :: e2.set i .any) (.ref a :: .ref b :: z :: σv σ) H2 := h4
                obtain ⟨a', us, fp, ea, hat, hl, rx, h5⟩ := hs_nnew2 k h4' (frz_id hk) (frz_id hr)
                cases ea
                have lt : i < e2.length := (List.getElem?_eq_some_iff.mp hd).1
                refine ⟨dnz ks us, k, b, rfl, hat, keys_of h3.iH rx hl hok, hb, ?_, fun u hu => ?_, fun hu => ?_⟩
                · have := rx.length
                  have l2 : (dnz ks us).length = ks.length := by
                    unfold dnz
                    rw [List.length_zip, List.length_zip, List.length_map, List.length_take, List.length_drop]
                    omega
                  rw [l2]
                  exact szL (by omega)
                · rw [nVal_dnz hl] at hu
                  cases e5 : (ks.findIdx? fun x => decide (x = k)) with
                  | none => rw [e5] at hu; cases hu
                  | some j =>
                    rw [e5] at hu
                    simp only [e5] at o
                    have hu : us[ks.length + j]? = some u := hu
                    cases e6 : xs[ks.length + j]? with
                    | none => simp only [e6] at o; exact o.elim
                    | some c =>
                      simp only [e6] at o
                      by_cases hcf : c.isFrz = true
                      · rw [if_pos hcf] at o
                        obtain ⟨u', f1, f2, hu', rc, _, _⟩ := rx.take e6
                        rw [hu] at hu'
                        cases hu'
                        obtain rfl := rc.own_nil (frz_id hcf)
                        have h6 : Hs X.w I2 F e2 (σv σ) H2 := Hs.drop (Hs.drop h3)
                        obtain ⟨fq, rq, nq, dq⟩ := h6.ex
                        exact o u I2 H2 (le1.trans le2) (h6.of_sub (RepL.cons (f1 := []) rc rq) rq nq dq nq fun b m => m) er2
                      · rw [if_neg hcf] at o; exact o.elim
                · have hn := hu
                  rw [nVal_dnz hl] at hu
                  cases e5 : (ks.findIdx? fun x => decide (x = k)) with
                  | some j =>
                    rw [e5] at hu
                    obtain ⟨hj, _⟩ := List.findIdx?_eq_some_iff_getElem.mp e5
                    have hu : us[ks.length + j]? = none := hu
                    rw [List.getElem?_eq_none_iff] at hu
                    omega
                  | none =>
                    simp only [e5] at o
                    have h6 := Hs.put (es := [kd, r]) (us := [.ref b, z]) (i := i) h5 rfl (by rw [List.getElem?_set_self lt]) e2'
                    rw [set_set] at h6
                    have h7 := Hs.drop h6
                    have en : nPut (dnz ks us) k b z = dnz ks us ++ [(k, b, z)] := by
                      unfold nPut
                      rw [hn]
                      rfl
                    rw [en]
                    exact o z I2 _ (le1.trans le2) h7 (er2.set hd fun _ z => nomatch z)
              · rw [if_neg hc] at o; exact o.elim
            · exact o.elim
      · rw [if_neg hk] at o; exact o.elim
  · exact o.elim
theorem z_ndef {x : Str} {i : Nat} {p apos cpos : Pos} {e f : Expr} {mk mv : M} (hw : X.w.wd = Γ.w) (hu : Γ.A.units + 9 < cLine) (ha : PE Γ (.Name x p) (tVar i)) (he : PE Γ e (tE X W mk)) (hf : PE Γ f (tE X W mv)) (m : M2 Γ (.Name x p) "setdefault" apos e f cpos) :
    PE Γ (.Call (.Attribute (.Name x p) "setdefault" apos) [e, f] [] cpos) (tE X W (mNDef i mk mv)) := PEi (pe_ndef hu ha he hf m) fun σ H Q q => by
  rw [← hw]
  exact ndef_run q
end
end Z

set_option Elab.async false
set_option linter.all false
set_option maxRecDepth 100000
set_option maxHeartbeats 4000000
/-! ZZI: d[k] = e, of a dict with nested keys at a name; the key is new, the value stays as it is. -/
namespace Z
open PySem PySem.Spec PyProof.Rows L2 StX
def sNSet (i : Nat) (m mk : M) : S := fun env => match m env with
  | .ok r e1 => (match e1[i]? with
    | some (.node (.dn true _) _) => if r.isFrz = true then (match mk e1 with
      | .ok kd e2 => (match nkTup kd with
        | some k => (match e2[i]? with
          | some (.node (.dn true ks) xs) => if okKeys ks xs = true ∧ kd.isFrz = true ∧ xs.length < 100000 then (match ks.findIdx? fun x => decide (x = k) with
            | some _ => .bad
            | none => .nx (e2.set i (.node (.dn true (ks ++ [k])) (insN ks.length xs kd r)))) else .bad
          | _ => .bad)
        | none => .bad)
      | .exc c ns xs e => .exc c ns xs e
      | .bad => .bad) else .bad
    | _ => .bad)
  | .exc c ns xs e => .exc c ns xs e
  | .bad => .bad
section
variable {Γ : Cx} {X : Fx} {W : WX}
theorem nset_run {i : Nat} {m mk : M} {E : Ends} {σ : L2.St} {H : Hp} (q : tS X W (sNSet i m mk) E σ H) : sNPut X.w.wd (tVar i) (tE X W mk) (tE X W m) E σ H := by
  obtain ⟨I, F, env, hs, er, o⟩ := q
  refine ⟨I, F, env, hs, er, ?_⟩
  unfold sNSet at o
  cases hm : m env with
  | bad => simp only [hm] at o; exact o.elim
  | exc c ns xs e => simp only [hm] at o; exact fun cls d I' H' le h' er' x => o cls d σ I' H' le h' er' x
  | ok r e1 =>
    simp only [hm] at o
    intro y I1 H1 le1 h1 er1
    split at o
    · rename_i ks0 xs0 hd0
      obtain ⟨v, hv⟩ := er1.on i _ hd0 (fun z => nomatch z)
      by_cases hr : r.isFrz = true
      · rw [if_pos hr] at o
        obtain ⟨G, hg, back⟩ := Hs.push (ds := [r]) (vs := [y]) h1 rfl
        refine ⟨v, hv, I1, G, e1, hg, er1, ?_⟩
        cases hmi : mk e1 with
        | bad => simp only [hmi] at o; exact o.elim
        | exc c ns xs e =>
          simp only [hmi] at o
          intro cls d I2 H2 le2 h2 er2 x
          exact o cls d σ I2 H2 (le1.trans le2) (back I2 _ _ H2 le2 h2).drop er2 x
        | ok kd e2 =>
          simp only [hmi] at o
          intro u I2 H2 le2 h2 er2
          cases ek : nkTup kd with
          | none => simp only [ek] at o; exact o.elim
          | some k =>
            simp only [ek] at o
            obtain ⟨b, rfl, hb⟩ := h2.nkey ek
            split at o
            · rename_i ks xs hd
              by_cases hc : okKeys ks xs = true ∧ kd.isFrz = true ∧ xs.length < 100000
              · rw [if_pos hc] at o
                obtain ⟨hok, hk, hz⟩ := hc
                have h3 : Hs X.w I2 F (r :: kd :: e2) (y :: .ref b :: σv σ) H2 := back I2 _ _ H2 le2 h2
                have h3' : Hs X.w I2 F ([kd, r] ++ e2) ([.ref b, y] ++ σv σ) H2 := Hs.swap h3
                obtain ⟨v2, e2', h4⟩ := Hs.take h3' rfl hd
                have ev2 : v2 = v := Option.some.inj (e2'.symm.trans (σv_at hv))
                subst ev2
                obtain ⟨a, us, fp, rfl, hat, hl, rx, h5⟩ := hs_nnew2 k (show Hs X.w I2 F (.node (.dn true ks) xs :: kd :: r :: e2.set i .any) (v2 :: .ref b :: y :: σv σ) H2 from h4) (frz_id hk) (frz_id hr)
                have lt : i < e2.length := (List.getElem?_eq_some_iff.mp hd).1
                cases e5 : (ks.findIdx? fun x => decide (x = k)) with
                | some j => simp only [e5] at o; exact o.elim
                | none =>
                  simp only [e5] at o
                  have h6 := Hs.put (es := [kd, r]) (us := [.ref b, y]) (i := i) h5 rfl (by rw [List.getElem?_set_self lt]) e2'
                  rw [set_set] at h6
                  have hn : nVal (dnz ks us) k = none := by
                    rw [nVal_dnz hl, e5]
                    rfl
                  have en : nPut (dnz ks us) k b y = dnz ks us ++ [(k, b, y)] := by
                    unfold nPut
                    rw [hn]
                    rfl
                  refine ⟨a, _, rfl, ⟨dnz ks us, k, b, rfl, hat, keys_of h3.iH rx hl hok, hb, ?_, rfl⟩, ?_⟩
                  · have := rx.length
                    have l2 : (dnz ks us).length = ks.length := by
                      unfold dnz
                      rw [List.length_zip, List.length_zip, List.length_map, List.length_take, List.length_drop]
                      omega
                    rw [l2]
                    exact szL (by omega)
                  · rw [en]
                    exact o σ I2 _ (le1.trans le2) (Hs.drop (Hs.drop h6)) (er2.set hd fun _ z => nomatch z)
              · rw [if_neg hc] at o; exact o.elim
            · exact o.elim
      · rw [if_neg hr] at o; exact o.elim
    · exact o.elim
theorem s_nset {x : Str} {i : Nat} {ei value : Expr} {pos pos' p : Pos} {m mk : M} (hw : X.w.wd = Γ.w) (hu : Γ.A.units + 9 < cLine) (ha : PE Γ (.Name x p) (tVar i)) (hv : PE Γ value (tE X W m)) (hi : PE Γ ei (tE X W mk)) (hs : swapsWith value (some (.Subscript (.Name x p) ei pos')) pos.line Γ.env = pure false := by rfl) :
    PS Γ (.Assign [.Subscript (.Name x p) ei pos'] value pos) (tS X W (sNSet i m mk)) := PSi (ps_nput hu ha hi hv hs) fun E σ H q => by
  rw [← hw]
  exact nset_run q
end
end Z

set_option Elab.async false
set_option linter.all false
set_option maxRecDepth 100000
set_option maxHeartbeats 4000000
/-! ZZJ: for k in d, of a dict with nested keys at a name. -/
namespace Z
open PySem PySem.Spec PyProof.Rows L2 StX
/-- the dict at slot i is locked, and stays in its slot -/
def LkdN (X : Fx) (i : Nat) : Prop := ∃ (a : Addr) (od : Obj) (φ : Heap → Prop), X.w.lk a = some (.frz od (.ext φ)) ∧ X.vs0[i]? = some (.ref a) ∧ i ∈ X.pin
theorem walks_keysN {w : Wd} {I H0 : Hp} {a : Addr} {od : Obj} {ks : List NestedKey} {us : List V} {ds : List D} {fp : List Addr} (hl : ks.length + ks.length = us.length) (h : I a = some (.frz od (ndHO w.wd a (dnz ks us)))) (r : RepL w I H0 ds (us.take ks.length) fp) (hf : frzL ds = ds) (ht : ds.all isTupD = true) :
    Walks w (ItkN w.wd a od (dnz ks us)) I ds where
  go := fun i I0 F ds' vs H hs le hi => ⟨hs.iH a _ (le a _ h), by
    have := r.length
    rw [List.length_take] at this
    unfold dnz
    rw [List.length_zip, List.length_zip, List.length_map, List.length_take, List.length_drop]
    omega⟩
  stop := fun I0 F ds' vs H hs le => ⟨hs.iH a _ (le a _ h), by
    have := r.length
    rw [List.length_take] at this
    unfold dnz
    rw [List.length_zip, List.length_zip, List.length_map, List.length_take, List.length_drop]
    omega⟩
  yld := fun i d I0 F ds' vs H x H' hs le hd y => by
    obtain ⟨rfl, k, q, v, hkv, rfl⟩ := y
    unfold dnz at hkv
    rw [List.getElem?_zip_eq_some, List.getElem?_zip_eq_some] at hkv
    obtain ⟨_, hq, _⟩ := hkv
    rw [List.getElem?_map] at hq
    obtain ⟨u, f1, f2, hu, ru, _, _⟩ := r.take hd
    have hu' : (us.take ks.length)[i]? = some u := hu
    rw [hu'] at hq
    have hq : some (refA u) = some q := hq
    cases hq
    have hdf : d.frz = d := by
      rw [frzL_eq] at hf
      have e := congrArg (fun l => l[i]?) hf
      simp only [List.getElem?_map, hd] at e
      exact Option.some.inj e
    have hdt : isTupD d = true := List.all_eq_true.mp ht d (List.mem_of_getElem? hd)
    obtain rfl := ru.own_nil hdf
    have ru2 : Rep w I0 H' d (.ref (refA u)) [] := by
      rw [← rep_ref ru hdt]
      exact Rep.frame le d u [] (fun _ m => nomatch m) ru
    obtain ⟨fq, rq, nq, dq⟩ := hs.ex
    exact ⟨I0, Le.refl I0, hs.of_sub (RepL.cons (f1 := []) ru2 rq) rq nq dq nq fun b m => m⟩
section
variable {Γ : Cx} {X : Fx} {W : WX}
/-- the keys of the dict at a name -/
def iKeysPN (i : Nat) : Src := fun env => match env[i]? with
  | some (.node (.dn _ ks) xs) => if (xs.take ks.length).all isTupD = true ∧ (xs.take ks.length).all D.isFrz = true then .ok (xs.take ks.length) env else .bad
  | _ => .bad
theorem frzL_all : ∀ {ds : List D}, ds.all D.isFrz = true → frzL ds = ds
  | [], _ => rfl
  | d :: ds, h => by
    rw [List.all_cons, Bool.and_eq_true] at h
    rw [frzL, frz_id h.1, frzL_all h.2]
theorem i_keysN {tg : Expr} {x : Str} {p : Pos} {i : Nat} (hw : X.w.wd = Γ.w) (hx : PE Γ (.Name x p) (tVar i)) (hk : LkdN X i) : PI Γ tg (.Name x p) (tI X W (iKeysPN i)) := PIi (pi_keysN hx) fun σ H R q => by
  rw [← hw]
  obtain ⟨I, F, env, hs, er, o⟩ := q
  unfold iKeysPN at o
  split at o
  · rename_i ow ks xs hd
    by_cases hc : (xs.take ks.length).all isTupD = true ∧ (xs.take ks.length).all D.isFrz = true
    · rw [if_pos hc] at o
      obtain ⟨a, od, φ, h1, h2, h3⟩ := hk
      have hv := er.pin i h3 _ h2
      have hI := hs.lkI a _ h1
      obtain ⟨v', e', h4⟩ := Hs.take (es := []) (us := []) hs rfl hd
      have ev : v' = .ref a := Option.some.inj (e'.symm.trans (σv_at hv))
      subst ev
      obtain ⟨a', us, fp, e5, hr, hl, rx⟩ := h4.ndict
      cases e5
      have hH := hs.iH a _ hI
      have ez : φ = NdAt X.w.wd a (dnz ks us) := by
        rcases (show Rd H a (.ext (NdAt X.w.wd a (dnz ks us))) from hr) with hr | ⟨od', hr⟩
        · rw [hH] at hr; cases hr
        · rw [hH] at hr; cases hr; rfl
      subst ez
      have r2 : RepL X.w I H (xs.take ks.length ++ xs.drop ks.length) (us.take ks.length ++ us.drop ks.length) fp := by
        rw [List.take_append_drop, List.take_append_drop]
        exact rx
      have := rx.length
      obtain ⟨f1, f2, _, q1, _⟩ := r2.split (by rw [List.length_take, List.length_take]; omega)
      exact ⟨_, hv, a, od, dnz ks us, rfl, hH, o _ I H (Le.refl I) hs er (walks_keysN hl hI q1 (frzL_all hc.2) hc.1)⟩
    · rw [if_neg hc] at o; exact o.elim
  · exact o.elim
/-- a statement run while the dict at slot i is locked; nothing is raised in it -/
def sLkN (i : Nat) (s : S) : S := fun env => match env[i]? with
  | some (.node (.dn _ ks) xs) => (match s (env.set i (.node (.dn false ks) (frzL xs))) with
    | .exc _ _ _ _ => .bad
    | r => r)
  | _ => .bad
theorem s_lockN {st : Stmt} {i : Nat} {w : Wd} {pin : List Nat} {vs0 : List V} {s : S} (hpin : ∀ j ∈ pin, j < vs0.length)
    (h : ∀ (lk' : Hp) (vs' : List V), (∀ j ∈ i :: pin, j < vs'.length) → LkdN ⟨⟨w.K, w.wd, w.cA, lk', w.fk⟩, i :: pin, vs'⟩ i → PS Γ st (tS ⟨⟨w.K, w.wd, w.cA, lk', w.fk⟩, i :: pin, vs'⟩ W s)) : PS Γ st (tS ⟨w, pin, vs0⟩ W (sLkN i s)) := by
  have h1 : PS Γ st (fun E σ H => ∃ (lk' : Hp) (vs' : List V), (∀ j ∈ i :: pin, j < vs'.length) ∧ LkdN ⟨⟨w.K, w.wd, w.cA, lk', w.fk⟩, i :: pin, vs'⟩ i ∧ tS ⟨⟨w.K, w.wd, w.cA, lk', w.fk⟩, i :: pin, vs'⟩ W s E σ H) := ⟨fun pins sh σ H D I q => by
    obtain ⟨lk', vs', c1, c3, q⟩ := q
    exact (h lk' vs' c1 c3).run pins sh σ H D I q⟩
  have h2 := ps_lock h1
  refine ⟨fun pins sh σ H E Iv q => ?_⟩
  obtain ⟨I, F, env, hs, er, o⟩ := q
  unfold sLkN at o
  split at o
  · rename_i ow ks xs hd
    obtain ⟨v, J, hv, le, h3⟩ := hs_read hs er hd (fun z => nomatch z)
    obtain ⟨a, us, fp, rfl, hr, hl, _⟩ := Hs.ndict (o := false) (ks := ks) (xs := frzL xs) h3
    have h4 : Hs w J F (env.set i (.node (.dn false ks) (frzL xs))) (σv σ) H := h3.drop
    have hrJ : Rd J a (ndHO w.wd a (dnz ks us)) := by
      obtain ⟨fp, r⟩ := h3.head
      have r2 : Rep w J H (.node (.dn false ks) (frzL xs)) (.ref a) fp := r
      unfold Rep at r2
      obtain ⟨a2, us2, fp2, e2, _, hf2, q2⟩ := r2
      cases e2
      rcases q2 with ⟨z, _, _⟩ | ⟨_, hat, _⟩
      · cases z
      · have hat' : Rd J a (ndHO w.wd a (dnz ks us2)) := hat
        have hH := le_rd h3.iH hat'
        have key : ∀ φ ψ : Heap → Prop, Rd H a (.ext φ) → Rd H a (.ext ψ) → φ = ψ := fun φ ψ hx hy => by
          rcases hx with hx | ⟨ox, hx⟩ <;> rcases hy with hy | ⟨oy, hy⟩ <;> rw [hx] at hy <;> cases hy <;> rfl
        have e9 : ndHO w.wd a (dnz ks us) = ndHO w.wd a (dnz ks us2) := congrArg HO.ext (key _ _ hr hH)
        rw [e9]
        exact hat'
    have er1 : ∀ (w' : Wd), EnvR ⟨w', i :: pin, σv σ⟩ σ (env.set i (.node (.dn false ks) (frzL xs))) := fun w' => by
      have z := er.set hd (d' := .node (.dn false ks) (frzL xs)) fun _ z => nomatch z
      refine ⟨z.on, fun j hj v hvj => ?_⟩
      rcases List.mem_cons.mp hj with rfl | hj
      · rw [σv_at hv] at hvj
        cases hvj
        exact hv
      · have lt := hpin j hj
        have hp := er.pin j hj vs0[j] (List.getElem?_eq_getElem lt)
        rw [σv_at hp] at hvj
        cases hvj
        exact hp
    have er2 : ∀ (w' : Wd) (σ' : L2.St) (e : Env), EnvR ⟨w', i :: pin, σv σ⟩ σ' e → EnvR ⟨w, pin, vs0⟩ σ' e := fun w' σ' e z => by
      refine ⟨z.on, fun j hj v hvj => ?_⟩
      exact z.pin j (List.mem_cons_of_mem _ hj) v (σv_at (er.pin j hj v hvj))
    have hlen : ∀ j ∈ i :: pin, j < (σv σ).length := fun j hj => by
      rw [σv_len]
      rcases List.mem_cons.mp hj with rfl | hj
      · exact (List.getElem?_eq_some_iff.mp hv).1
      · exact (List.getElem?_eq_some_iff.mp (er.pin j hj (vs0[j]'(hpin j hj)) (List.getElem?_eq_getElem (hpin j hj)))).1
    rcases hrJ with hJ | ⟨od, hJ⟩
    · refine h2.run pins sh σ H E Iv ⟨a, _, h3.iH a _ hJ, trivial, fun od => ?_⟩
      refine ⟨upd w.lk a (.frz od (ndHO w.wd a (dnz ks us))), σv σ, hlen, ⟨a, od, _, upd_same, σv_at hv, List.mem_cons_self ..⟩, upd J a (.frz od (ndHO w.wd a (dnz ks us))), F, _, ?_, er1 _, ?_⟩
      · refine Hs.two (w' := ⟨w.K, w.wd, w.cA, upd w.lk a (.frz od (ndHO w.wd a (dnz ks us))), w.fk⟩) h4 rfl rfl hJ (.lockN _ od) (fun b ob e => ?_) rfl
        by_cases q : b = a
        · subst q
          have e' : upd w.lk b (.frz od (ndHO w.wd b (dnz ks us))) b = some ob := e
          rw [upd_same] at e' ⊢
          exact e'
        · have e' : upd w.lk a (.frz od (ndHO w.wd a (dnz ks us))) b = some ob := e
          rw [upd_ne q] at e' ⊢
          exact h4.lkI b ob e'
      · have back : ∀ (ds : List D) (vs : List V) (I' H' : Hp), Le (upd J a (.frz od (ndHO w.wd a (dnz ks us)))) I' → Hs ⟨w.K, w.wd, w.cA, upd w.lk a (.frz od (ndHO w.wd a (dnz ks us))), w.fk⟩ I' F ds vs H' →
            H' a = some (.frz od (ndHO w.wd a (dnz ks us))) ∧ Le I (upd I' a (ndHO w.wd a (dnz ks us))) ∧ Hs w (upd I' a (ndHO w.wd a (dnz ks us))) F ds vs (upd H' a (ndHO w.wd a (dnz ks us))) := fun ds vs I' H' le' hs' => by
          have hI' := le' a _ upd_same
          refine ⟨hs'.iH a _ hI', fun b ob e => ?_, Hs.two hs' rfl rfl hI' (.openN _ od) (fun b ob e => ?_) rfl⟩
          · by_cases q : b = a
            · subst q
              have := le b _ e
              rw [hJ] at this
              rw [upd_same]
              exact this
            · rw [upd_ne q]
              exact le' b ob (by rw [upd_ne q]; exact le b ob e)
          · by_cases q : b = a
            · subst q
              have := h4.lkI b ob e
              rw [hJ] at this
              rw [upd_same]
              exact this
            · rw [upd_ne q]
              exact hs'.lkI b ob (show upd w.lk a (.frz od (ndHO w.wd a (dnz ks us))) b = some ob by rw [upd_ne q]; exact e)
        cases hm : s (env.set i (.node (.dn false ks) (frzL xs))) with
        | bad => simp only [hm] at o; exact o.elim
        | exc c ns ys e => simp only [hm] at o; exact o.elim
        | nx e =>
          simp only [hm] at o
          exact fun σ' I' H' le' hs' er' => let ⟨k1, k2, k3⟩ := back _ _ _ _ le' hs'; ⟨k1, o σ' _ _ k2 k3 (er2 _ _ _ er')⟩
        | bk e =>
          simp only [hm] at o
          exact fun σ' I' H' le' hs' er' => let ⟨k1, k2, k3⟩ := back _ _ _ _ le' hs'; ⟨k1, o σ' _ _ k2 k3 (er2 _ _ _ er')⟩
        | ct e =>
          simp only [hm] at o
          exact fun σ' I' H' le' hs' er' => let ⟨k1, k2, k3⟩ := back _ _ _ _ le' hs'; ⟨k1, o σ' _ _ k2 k3 (er2 _ _ _ er')⟩
        | rt d e =>
          simp only [hm] at o
          exact fun v σ' I' H' le' hs' er' => let ⟨k1, k2, k3⟩ := back _ _ _ _ le' hs'; ⟨k1, o v σ' _ _ k2 k3 (er2 _ _ _ er')⟩
    · refine h1.run pins sh σ H E Iv ⟨upd w.lk a (.frz od (ndHO w.wd a (dnz ks us))), σv σ, hlen, ⟨a, od, _, upd_same, σv_at hv, List.mem_cons_self ..⟩, J, F, _, ?_, er1 _, ?_⟩
      · refine Hs.relk (l := w.lk) h4 fun b ob e => ?_
        by_cases q : b = a
        · subst q
          rw [upd_same] at e
          rw [hJ]
          exact e
        · rw [upd_ne q] at e
          exact h4.lkI b ob e
      · have back : ∀ (ds : List D) (vs : List V) (I' H' : Hp), Le J I' → Hs ⟨w.K, w.wd, w.cA, upd w.lk a (.frz od (ndHO w.wd a (dnz ks us))), w.fk⟩ I' F ds vs H' → Le I I' ∧ Hs w I' F ds vs H' := fun ds vs I' H' le' hs' =>
          ⟨le.trans le', Hs.relk (l' := w.lk) hs' (h4.lkI.trans le')⟩
        cases hm : s (env.set i (.node (.dn false ks) (frzL xs))) with
        | bad => simp only [hm] at o; exact o.elim
        | exc c ns ys e => simp only [hm] at o; exact o.elim
        | nx e =>
          simp only [hm] at o
          exact fun σ' I' H' le' hs' er' => let ⟨k2, k3⟩ := back _ _ _ _ le' hs'; o σ' _ _ k2 k3 (er2 _ _ _ er')
        | bk e =>
          simp only [hm] at o
          exact fun σ' I' H' le' hs' er' => let ⟨k2, k3⟩ := back _ _ _ _ le' hs'; o σ' _ _ k2 k3 (er2 _ _ _ er')
        | ct e =>
          simp only [hm] at o
          exact fun σ' I' H' le' hs' er' => let ⟨k2, k3⟩ := back _ _ _ _ le' hs'; o σ' _ _ k2 k3 (er2 _ _ _ er')
        | rt d e =>
          simp only [hm] at o
          exact fun v σ' I' H' le' hs' er' => let ⟨k2, k3⟩ := back _ _ _ _ le' hs'; o v σ' _ _ k2 k3 (er2 _ _ _ er')
  · exact o.elim
end
end Z

set_option Elab.async false
set_option linter.all false
set_option maxRecDepth 100000
set_option maxHeartbeats 4000000
/-! ZZK: an expression run while a dict with nested keys is locked. -/
namespace Z
open PySem PySem.Spec PyProof.Rows L2 StX
section
variable {Γ : Cx} {X : Fx} {W : WX}
/-- an expression, likewise -/
def mLkN (i : Nat) (s : M) : M := fun env => match env[i]? with
  | some (.node (.dn _ ks) xs) => (match s (env.set i (.node (.dn false ks) (frzL xs))) with
    | .exc _ _ _ _ => .bad
    | r => r)
  | _ => .bad
theorem z_lockN {st : Expr} {i : Nat} {w : Wd} {pin : List Nat} {vs0 : List V} {s : M} (hpin : ∀ j ∈ pin, j < vs0.length)
    (h : ∀ (lk' : Hp) (vs' : List V), (∀ j ∈ i :: pin, j < vs'.length) → LkdN ⟨⟨w.K, w.wd, w.cA, lk', w.fk⟩, i :: pin, vs'⟩ i → PE Γ st (tE ⟨⟨w.K, w.wd, w.cA, lk', w.fk⟩, i :: pin, vs'⟩ W s)) : PE Γ st (tE ⟨w, pin, vs0⟩ W (mLkN i s)) := by
  have h1 : PE Γ st (fun σ H Q => ∃ (lk' : Hp) (vs' : List V), (∀ j ∈ i :: pin, j < vs'.length) ∧ LkdN ⟨⟨w.K, w.wd, w.cA, lk', w.fk⟩, i :: pin, vs'⟩ i ∧ tE ⟨⟨w.K, w.wd, w.cA, lk', w.fk⟩, i :: pin, vs'⟩ W s σ H Q) := ⟨fun pins sh σ H D I q => by
    obtain ⟨lk', vs', c1, c3, q⟩ := q
    exact (h lk' vs' c1 c3).run pins sh σ H D I q⟩
  have h2 := pe_lock h1
  refine ⟨fun pins sh σ H E Iv q => ?_⟩
  obtain ⟨I, F, env, hs, er, o⟩ := q
  unfold mLkN at o
  split at o
  · rename_i ow ks xs hd
    obtain ⟨v, J, hv, le, h3⟩ := hs_read hs er hd (fun z => nomatch z)
    obtain ⟨a, us, fp, rfl, hr, hl, _⟩ := Hs.ndict (o := false) (ks := ks) (xs := frzL xs) h3
    have h4 : Hs w J F (env.set i (.node (.dn false ks) (frzL xs))) (σv σ) H := h3.drop
    have hrJ : Rd J a (ndHO w.wd a (dnz ks us)) := by
      obtain ⟨fp, r⟩ := h3.head
      have r2 : Rep w J H (.node (.dn false ks) (frzL xs)) (.ref a) fp := r
      unfold Rep at r2
      obtain ⟨a2, us2, fp2, e2, _, hf2, q2⟩ := r2
      cases e2
      rcases q2 with ⟨z, _, _⟩ | ⟨_, hat, _⟩
      · cases z
      · have hat' : Rd J a (ndHO w.wd a (dnz ks us2)) := hat
        have hH := le_rd h3.iH hat'
        have key : ∀ φ ψ : Heap → Prop, Rd H a (.ext φ) → Rd H a (.ext ψ) → φ = ψ := fun φ ψ hx hy => by
          rcases hx with hx | ⟨ox, hx⟩ <;> rcases hy with hy | ⟨oy, hy⟩ <;> rw [hx] at hy <;> cases hy <;> rfl
        have e9 : ndHO w.wd a (dnz ks us) = ndHO w.wd a (dnz ks us2) := congrArg HO.ext (key _ _ hr hH)
        rw [e9]
        exact hat'
    have er1 : ∀ (w' : Wd), EnvR ⟨w', i :: pin, σv σ⟩ σ (env.set i (.node (.dn false ks) (frzL xs))) := fun w' => by
      have z := er.set hd (d' := .node (.dn false ks) (frzL xs)) fun _ z => nomatch z
      refine ⟨z.on, fun j hj v hvj => ?_⟩
      rcases List.mem_cons.mp hj with rfl | hj
      · rw [σv_at hv] at hvj
        cases hvj
        exact hv
      · have lt := hpin j hj
        have hp := er.pin j hj vs0[j] (List.getElem?_eq_getElem lt)
        rw [σv_at hp] at hvj
        cases hvj
        exact hp
    have er2 : ∀ (w' : Wd) (σ' : L2.St) (e : Env), EnvR ⟨w', i :: pin, σv σ⟩ σ' e → EnvR ⟨w, pin, vs0⟩ σ' e := fun w' σ' e z => by
      refine ⟨z.on, fun j hj v hvj => ?_⟩
      exact z.pin j (List.mem_cons_of_mem _ hj) v (σv_at (er.pin j hj v hvj))
    have hlen : ∀ j ∈ i :: pin, j < (σv σ).length := fun j hj => by
      rw [σv_len]
      rcases List.mem_cons.mp hj with rfl | hj
      · exact (List.getElem?_eq_some_iff.mp hv).1
      · exact (List.getElem?_eq_some_iff.mp (er.pin j hj (vs0[j]'(hpin j hj)) (List.getElem?_eq_getElem (hpin j hj)))).1
    rcases hrJ with hJ | ⟨od, hJ⟩
    · refine h2.run pins sh σ H E Iv ⟨a, _, h3.iH a _ hJ, trivial, fun od => ?_⟩
      refine ⟨upd w.lk a (.frz od (ndHO w.wd a (dnz ks us))), σv σ, hlen, ⟨a, od, _, upd_same, σv_at hv, List.mem_cons_self ..⟩, upd J a (.frz od (ndHO w.wd a (dnz ks us))), F, _, ?_, er1 _, ?_⟩
      · refine Hs.two (w' := ⟨w.K, w.wd, w.cA, upd w.lk a (.frz od (ndHO w.wd a (dnz ks us))), w.fk⟩) h4 rfl rfl hJ (.lockN _ od) (fun b ob e => ?_) rfl
        by_cases q : b = a
        · subst q
          have e' : upd w.lk b (.frz od (ndHO w.wd b (dnz ks us))) b = some ob := e
          rw [upd_same] at e' ⊢
          exact e'
        · have e' : upd w.lk a (.frz od (ndHO w.wd a (dnz ks us))) b = some ob := e
          rw [upd_ne q] at e' ⊢
          exact h4.lkI b ob e'
      · have back : ∀ (ds : List D) (vs : List V) (I' H' : Hp), Le (upd J a (.frz od (ndHO w.wd a (dnz ks us)))) I' → Hs ⟨w.K, w.wd, w.cA, upd w.lk a (.frz od (ndHO w.wd a (dnz ks us))), w.fk⟩ I' F ds vs H' →
            H' a = some (.frz od (ndHO w.wd a (dnz ks us))) ∧ Le I (upd I' a (ndHO w.wd a (dnz ks us))) ∧ Hs w (upd I' a (ndHO w.wd a (dnz ks us))) F ds vs (upd H' a (ndHO w.wd a (dnz ks us))) := fun ds vs I' H' le' hs' => by
          have hI' := le' a _ upd_same
          refine ⟨hs'.iH a _ hI', fun b ob e => ?_, Hs.two hs' rfl rfl hI' (.openN _ od) (fun b ob e => ?_) rfl⟩
          · by_cases q : b = a
            · subst q
              have := le b _ e
              rw [hJ] at this
              rw [upd_same]
              exact this
            · rw [upd_ne q]
              exact le' b ob (by rw [upd_ne q]; exact le b ob e)
          · by_cases q : b = a
            · subst q
              have := h4.lkI b ob e
              rw [hJ] at this
              rw [upd_same]
              exact this
            · rw [upd_ne q]
              exact hs'.lkI b ob (show upd w.lk a (.frz od (ndHO w.wd a (dnz ks us))) b = some ob by rw [upd_ne q]; exact e)
        cases hm : s (env.set i (.node (.dn false ks) (frzL xs))) with
        | bad => simp only [hm] at o; exact o.elim
        | exc c ns ys e => simp only [hm] at o; exact o.elim
        | ok d e =>
          simp only [hm] at o
          exact fun v I' H' le' hs' er' => let ⟨k1, k2, k3⟩ := back _ _ _ _ le' hs'; ⟨k1, o v _ _ k2 k3 (er2 _ _ _ er')⟩
    · refine h1.run pins sh σ H E Iv ⟨upd w.lk a (.frz od (ndHO w.wd a (dnz ks us))), σv σ, hlen, ⟨a, od, _, upd_same, σv_at hv, List.mem_cons_self ..⟩, J, F, _, ?_, er1 _, ?_⟩
      · refine Hs.relk (l := w.lk) h4 fun b ob e => ?_
        by_cases q : b = a
        · subst q
          rw [upd_same] at e
          rw [hJ]
          exact e
        · rw [upd_ne q] at e
          exact h4.lkI b ob e
      · have back : ∀ (ds : List D) (vs : List V) (I' H' : Hp), Le J I' → Hs ⟨w.K, w.wd, w.cA, upd w.lk a (.frz od (ndHO w.wd a (dnz ks us))), w.fk⟩ I' F ds vs H' → Le I I' ∧ Hs w I' F ds vs H' := fun ds vs I' H' le' hs' =>
          ⟨le.trans le', Hs.relk (l' := w.lk) hs' (h4.lkI.trans le')⟩
        cases hm : s (env.set i (.node (.dn false ks) (frzL xs))) with
        | bad => simp only [hm] at o; exact o.elim
        | exc c ns ys e => simp only [hm] at o; exact o.elim
        | ok d e =>
          simp only [hm] at o
          exact fun v I' H' le' hs' er' => let ⟨k2, k3⟩ := back _ _ _ _ le' hs'; o v _ _ k2 k3 (er2 _ _ _ er')
  · exact o.elim
end
end Z

set_option Elab.async false
set_option linter.all false
set_option maxRecDepth 100000
set_option maxHeartbeats 4000000
/-! ZZL: for v in d.values(), for k, v in d.items(), of a locked dict with nested keys at a name. -/
namespace Z
open PySem PySem.Spec PyProof.Rows L2 StX
theorem dnz_len {ks : List NestedKey} {us : List V} (hl : ks.length + ks.length = us.length) : (dnz ks us).length = ks.length := by
  unfold dnz
  rw [List.length_zip, List.length_zip, List.length_map, List.length_take, List.length_drop]
  omega
theorem frzL_get {ds : List D} (hf : frzL ds = ds) {i : Nat} {d : D} (hd : ds[i]? = some d) : d.frz = d := by
  rw [frzL_eq] at hf
  have e := congrArg (fun l => l[i]?) hf
  simp only [List.getElem?_map, hd] at e
  exact Option.some.inj e
theorem dnz_get {ks : List NestedKey} {us : List V} {i : Nat} {k : NestedKey} {q : Addr} {v : V} (h : (dnz ks us)[i]? = some (k, q, v)) : (∃ u, (us.take ks.length)[i]? = some u ∧ q = refA u) ∧ (us.drop ks.length)[i]? = some v := by
  unfold dnz at h
  rw [List.getElem?_zip_eq_some, List.getElem?_zip_eq_some] at h
  obtain ⟨_, hq, hv⟩ := h
  rw [List.getElem?_map] at hq
  obtain ⟨u, hu, e⟩ := Option.map_eq_some_iff.mp hq
  exact ⟨⟨u, hu, e.symm⟩, hv⟩
theorem walks_valsN {w : Wd} {I H0 : Hp} {a : Addr} {od : Obj} {ks : List NestedKey} {us : List V} {ds : List D} {fp : List Addr} (hl : ks.length + ks.length = us.length) (h : I a = some (.frz od (ndHO w.wd a (dnz ks us)))) (r : RepL w I H0 ds (us.drop ks.length) fp) (hf : frzL ds = ds) :
    Walks w (ItdN w.wd a od (dnz ks us)) I ds where
  go := fun i I0 F ds' vs H hs le hi => ⟨hs.iH a _ (le a _ h), by
    have := r.length
    rw [List.length_drop] at this
    rw [dnz_len hl]
    omega⟩
  stop := fun I0 F ds' vs H hs le => ⟨hs.iH a _ (le a _ h), by
    have := r.length
    rw [List.length_drop] at this
    rw [dnz_len hl]
    omega⟩
  yld := fun i d I0 F ds' vs H x H' hs le hd y => by
    obtain ⟨rfl, k, q, hkv⟩ := y
    obtain ⟨_, hv⟩ := dnz_get hkv
    obtain ⟨u, f1, f2, hu, ru, _, _⟩ := r.take hd
    rw [hu] at hv
    cases hv
    obtain rfl := ru.own_nil (frzL_get hf hd)
    have ru2 : Rep w I0 H' d x [] := Rep.frame le d x [] (fun _ m => nomatch m) ru
    obtain ⟨fq, rq, nq, dq⟩ := hs.ex
    exact ⟨I0, Le.refl I0, hs.of_sub (RepL.cons (f1 := []) ru2 rq) rq nq dq nq fun b m => m⟩
/-- the pairs of keys and values -/
def pairD (kd vd : D) : D := .node .tup [kd, vd]
theorem walks_itemsN {w : Wd} {I H0 : Hp} {a : Addr} {od : Obj} {ks : List NestedKey} {us : List V} {ds es : List D} {fp fp' : List Addr} (hl : ks.length + ks.length = us.length) (h : I a = some (.frz od (ndHO w.wd a (dnz ks us)))) (r : RepL w I H0 ds (us.take ks.length) fp) (hf : frzL ds = ds) (ht : ds.all isTupD = true)
    (r' : RepL w I H0 es (us.drop ks.length) fp') (hf' : frzL es = es) : Walks w (ItiN w.wd a od (dnz ks us)) I (List.zipWith pairD ds es) where
  go := fun i I0 F ds' vs H hs le hi => ⟨hs.iH a _ (le a _ h), by
    have e1 := r.length
    have e2 := r'.length
    rw [List.length_take] at e1
    rw [List.length_drop] at e2
    rw [List.length_zipWith] at hi
    rw [dnz_len hl]
    omega⟩
  stop := fun I0 F ds' vs H hs le => ⟨hs.iH a _ (le a _ h), by
    have e1 := r.length
    have e2 := r'.length
    rw [List.length_take] at e1
    rw [List.length_drop] at e2
    rw [List.length_zipWith, dnz_len hl]
    omega⟩
  yld := fun i d I0 F ds' vs H x H' hs le hd y => by
    obtain ⟨T, k, q, v, hkv, rfl, np, rfl⟩ := y
    obtain ⟨⟨u, hu, rfl⟩, hv⟩ := dnz_get hkv
    rw [List.getElem?_zipWith] at hd
    cases e1 : ds[i]? with
    | none => rw [e1] at hd; cases hd
    | some kd =>
      cases e2 : es[i]? with
      | none => rw [e1, e2] at hd; cases hd
      | some vd =>
        rw [e1, e2] at hd
        cases hd
        obtain ⟨u1, f1, f2, hu1, ru, _, _⟩ := r.take e1
        rw [hu] at hu1
        cases hu1
        obtain ⟨v1, g1, g2, hv1, rv, _, _⟩ := r'.take e2
        rw [hv] at hv1
        cases hv1
        obtain rfl := ru.own_nil (frzL_get hf e1)
        obtain rfl := rv.own_nil (frzL_get hf' e2)
        have hdt : isTupD kd = true := List.all_eq_true.mp ht kd (List.mem_of_getElem? e1)
        have ru2 : Rep w I0 H kd (.ref (refA u)) [] := by
          rw [← rep_ref ru hdt]
          exact Rep.frame le kd u [] (fun _ m => nomatch m) ru
        have rv2 : Rep w I0 H vd v [] := Rep.frame le vd v [] (fun _ m => nomatch m) rv
        obtain ⟨fq, rq, nq, dq⟩ := hs.ex
        have h2 : Hs w I0 F ([kd, vd] ++ ds') ([.ref (refA u), v] ++ vs) H := hs.of_sub (RepL.cons (f1 := []) ru2 (RepL.cons (f1 := []) rv2 rq)) rq nq dq nq fun b m => m
        obtain ⟨le2, h3⟩ := Hs.newT h2 rfl np
        exact ⟨_, le2, h3⟩
section
variable {Γ : Cx} {X : Fx} {W : WX}
def iValsPN (i : Nat) : Src := fun env => match env[i]? with
  | some (.node (.dn _ ks) xs) => if (xs.drop ks.length).all D.isFrz = true then .ok (xs.drop ks.length) env else .bad
  | _ => .bad
def iItemsPN (i : Nat) : Src := fun env => match env[i]? with
  | some (.node (.dn _ ks) xs) => if (xs.take ks.length).all isTupD = true ∧ (xs.take ks.length).all D.isFrz = true ∧ (xs.drop ks.length).all D.isFrz = true then .ok (List.zipWith pairD (xs.take ks.length) (xs.drop ks.length)) env else .bad
  | _ => .bad
/-- the locked dict at slot i, opened for looking -/
theorem LkdN.open {I F H : Hp} {σ : L2.St} {env : Env} {i : Nat} {ow : Bool} {ks : List NestedKey} {xs : List D} (hk : LkdN X i) (hs : Hs X.w I F env (σv σ) H) (er : EnvR X σ env) (hd : env[i]? = some (.node (.dn ow ks) xs)) :
    ∃ a od us f1 f2, σ[i]? = some (some (.ref a)) ∧ I a = some (.frz od (ndHO X.w.wd a (dnz ks us))) ∧ ks.length + ks.length = us.length ∧ RepL X.w I H (xs.take ks.length) (us.take ks.length) f1 ∧ RepL X.w I H (xs.drop ks.length) (us.drop ks.length) f2 := by
  obtain ⟨a, od, φ, h1, h2, h3⟩ := hk
  have hv := er.pin i h3 _ h2
  have hI := hs.lkI a _ h1
  obtain ⟨v', e', h4⟩ := Hs.take (es := []) (us := []) hs rfl hd
  have ev : v' = .ref a := Option.some.inj (e'.symm.trans (σv_at hv))
  subst ev
  obtain ⟨a', us, fp, e5, hr, hl, rx⟩ := h4.ndict
  cases e5
  have hH := hs.iH a _ hI
  have ez : φ = NdAt X.w.wd a (dnz ks us) := by
    rcases (show Rd H a (.ext (NdAt X.w.wd a (dnz ks us))) from hr) with hr | ⟨od', hr⟩
    · rw [hH] at hr; cases hr
    · rw [hH] at hr; cases hr; rfl
  subst ez
  have r2 : RepL X.w I H (xs.take ks.length ++ xs.drop ks.length) (us.take ks.length ++ us.drop ks.length) fp := by
    rw [List.take_append_drop, List.take_append_drop]
    exact rx
  have := rx.length
  obtain ⟨f1, f2, _, q1, q2⟩ := r2.split (by rw [List.length_take, List.length_take]; omega)
  exact ⟨a, od, us, f1, f2, hv, hI, hl, q1, q2⟩
theorem i_valsN {tg : Expr} {x : Str} {p apos cpos : Pos} {i : Nat} (hw : X.w.wd = Γ.w) (hx : PE Γ (.Name x p) (tVar i)) (hk : LkdN X i) (hbase : attributeBase (.Name x p) "values" Γ.env (eval (.Name x p) Γ.env) = eval (.Name x p) Γ.env := by rfl) (hline : (apos.endLine == cpos.line) = true := by rfl) :
    PI Γ tg (.Call (.Attribute (.Name x p) "values" apos) [] [] cpos) (tI X W (iValsPN i)) := PIi (pi_valuesN hx hbase hline) fun σ H R q => by
  rw [← hw]
  obtain ⟨I, F, env, hs, er, o⟩ := q
  unfold iValsPN at o
  split at o
  · rename_i ow ks xs hd
    by_cases hc : (xs.drop ks.length).all D.isFrz = true
    · rw [if_pos hc] at o
      obtain ⟨a, od, us, f1, f2, hv, hI, hl, _, q2⟩ := hk.open hs er hd
      exact ⟨_, hv, a, od, dnz ks us, rfl, hs.iH a _ hI, o _ I H (Le.refl I) hs er (walks_valsN hl hI q2 (frzL_all hc))⟩
    · rw [if_neg hc] at o; exact o.elim
  · exact o.elim
theorem i_itemsN {elts : List Expr} {kk : Nat} {tpos : Pos} {x : Str} {p apos cpos : Pos} {i : Nat} (hw : X.w.wd = Γ.w) (hx : PE Γ (.Name x p) (tVar i)) (hk : LkdN X i) (hbase : attributeBase (.Name x p) "items" Γ.env (eval (.Name x p) Γ.env) = eval (.Name x p) Γ.env := by rfl) (hline : (apos.endLine == cpos.line) = true := by rfl) :
    PI Γ (.Tuple elts kk tpos) (.Call (.Attribute (.Name x p) "items" apos) [] [] cpos) (tI X W (iItemsPN i)) := PIi (pi_itemsN hx hbase hline) fun σ H R q => by
  rw [← hw]
  obtain ⟨I, F, env, hs, er, o⟩ := q
  unfold iItemsPN at o
  split at o
  · rename_i ow ks xs hd
    by_cases hc : (xs.take ks.length).all isTupD = true ∧ (xs.take ks.length).all D.isFrz = true ∧ (xs.drop ks.length).all D.isFrz = true
    · rw [if_pos hc] at o
      obtain ⟨a, od, us, f1, f2, hv, hI, hl, q1, q2⟩ := hk.open hs er hd
      exact ⟨_, hv, a, od, dnz ks us, rfl, hs.iH a _ hI, o _ I H (Le.refl I) hs er (walks_itemsN hl hI q1 (frzL_all hc.2.1) hc.1 q2 (frzL_all hc.2.2))⟩
    · rw [if_neg hc] at o; exact o.elim
  · exact o.elim
end
end Z

set_option Elab.async false
set_option linter.all false
set_option maxRecDepth 100000
set_option maxHeartbeats 4000000
/-! ZZM: repr of data. -/
namespace Z
open PySem PySem.Spec PyProof.Rows
open L2 StX
/-! ### how long a shown text is at most -/
theorem len_list : ∀ ts : List Str, (listText ts).length ≤ piled ts + 2
  | [] => by decide
  | t :: r => by
    have h := textFrom_length_pos r 1 (("[" : Str) ++ (if (0 : Nat) > 0 then ", " else "" : String) ++ t) (Nat.succ_pos 0)
    have e : ((("[" : Str) ++ (if (0 : Nat) > 0 then ", " else "" : String) ++ t)).length = 1 + t.length := by
      rw [strLen_append, strLen_append]; rfl
    have e2 : (listText (t :: r)).length = (textFrom 1 (("[" : Str) ++ (if (0 : Nat) > 0 then ", " else "" : String) ++ t) r).length + 1 := by
      unfold listText
      rw [strLen_append]
      have e3 : ((("]" : String) : Str)).length = 1 := rfl
      rw [e3]
      rfl
    rw [e2, h, e, piled_cons]; omega
theorem len_join (ts : List Str) : (Str.join ", " ts).length ≤ piled ts := by
  by_cases h : ts = []
  · subst h; decide
  · have := join_length_add ts h; omega
theorem len_tuple (ts : List Str) : (tupleText ts).length ≤ piled ts + 3 := by
  unfold tupleText
  rw [strLen_append, strLen_append]
  have h := len_join ts
  have e1 : ((("(" : String) : Str)).length = 1 := rfl
  have e3 : (((if ts.length == 1 then ",)" else ")" : String) : Str)).length ≤ 2 := by split <;> decide
  omega
theorem len_dict (ts : List Str) : (dictText ts).length ≤ piled ts + 2 := by
  unfold dictText
  rw [strLen_append, strLen_append]
  have h := len_join ts
  have e1 : ((("{" : String) : Str)).length = 1 := rfl
  have e3 : ((("}" : String) : Str)).length = 1 := rfl
  omega
mutual
def wt : PyData → Nat
  | .none => 4
  | .bool _ => 5
  | .int _ => 1930
  | .str x => (reprText x).length
  | .list xs => 3 + wtL xs
  | .tuple xs => 3 + wtL xs
  | .dict kvs => 3 + wtK kvs
def wtL : List PyData → Nat
  | [] => 0
  | x :: xs => wt x + 2 + wtL xs
def wtK : List (PyData × PyData) → Nat
  | [] => 0
  | (k, v) :: r => wt k + wt v + 4 + wtK r
end
mutual
theorem shown_wt : ∀ d : PyData, d.showable = true → d.shown.length ≤ wt d
  | .none, _ => by decide
  | .bool b, _ => by cases b <;> decide
  | .int i, h => by
    unfold PyData.shown wt
    have h' : i.natAbs.log2 < 1920 := by simpa [PyData.showable] using h
    have e := int_text_length_le (k := 1920) (by decide) h'
    rw [PySem.ofString_length]
    omega
  | .str x, _ => by unfold PyData.shown wt; exact Nat.le_refl _
  | .list xs, h => by
    unfold PyData.shown wt
    have a := shown_wtL xs (by simpa [PyData.showable] using h)
    have b := len_list (PyData.shownAll xs)
    omega
  | .tuple xs, h => by
    unfold PyData.shown wt
    have a := shown_wtL xs (by simpa [PyData.showable] using h)
    have b := len_tuple (PyData.shownAll xs)
    omega
  | .dict kvs, h => by
    unfold PyData.shown wt
    have a := shown_wtK kvs (by simpa [PyData.showable] using h)
    have b := len_dict (PyData.shownKv kvs)
    omega
theorem shown_wtL : ∀ ds : List PyData, PyData.showableAll ds = true → piled (PyData.shownAll ds) ≤ wtL ds
  | [], _ => by unfold PyData.shownAll wtL; exact Nat.le_refl _
  | d :: ds, h => by
    unfold PyData.showableAll at h
    rw [Bool.and_eq_true] at h
    unfold PyData.shownAll wtL
    rw [piled_cons]
    have a := shown_wt d h.1
    have b := shown_wtL ds h.2
    omega
theorem shown_wtK : ∀ ds : List (PyData × PyData), PyData.showableKv ds = true → piled (PyData.shownKv ds) ≤ wtK ds
  | [], _ => by unfold PyData.shownKv wtK; exact Nat.le_refl _
  | (k, v) :: ds, h => by
    unfold PyData.showableKv at h
    rw [Bool.and_eq_true, Bool.and_eq_true] at h
    unfold PyData.shownKv wtK
    rw [piled_cons, strLen_append, strLen_append]
    have a := shown_wt k h.1.1
    have b := shown_wt v h.1.2
    have c := shown_wtK ds h.2
    have e : ((": " : String) : Str).length = 2 := rfl
    omega
end
/-! ### a tree as data, dicts too -/
def keyPy : Key → PyData
  | .inl i => .int i
  | .inr x => .str x
mutual
def D.sh : D → Option PyData
  | .any => none
  | .non => some .none
  | .bl b => some (.bool b)
  | .int i => some (.int i)
  | .str s => some (.str s)
  | .node t xs => match t with
    | .tup => (shL xs).map .tuple
    | .tux => (shL xs).map .tuple
    | .scr => (shL xs).map .list
    | .lst _ => (shL xs).map .list
    | .dk _ ks => (shL xs).map fun ps => .dict ((ks.map keyPy).zip ps)
    | _ => none
def shL : List D → Option (List PyData)
  | [] => some []
  | d :: ds => match d.sh, shL ds with
    | some p, some ps => some (p :: ps)
    | _, _ => none
end
/-- sys.modules is a dict of the base -/
def SysD (K : PySem.W.Frag) : Prop := ∃ o es n, K.lookup sysModules = some o ∧ o.data = .dict es n
theorem shL_len : ∀ {xs : List D} {ps : List PyData}, shL xs = some ps → ps.length = xs.length
  | [], ps, h => by unfold shL at h; cases h; rfl
  | d :: xs, ps, h => by
    unfold shL at h
    cases e1 : d.sh with
    | none => rw [e1] at h; cases h
    | some p =>
      cases e2 : shL xs with
      | none => rw [e1, e2] at h; cases h
      | some qs =>
        rw [e1, e2] at h
        cases h
        simp [shL_len e2]
section
variable {Γ : Cx} {pins : List (Addr × Obj)} {σ : L2.St} {H I0 : Hp} {s : Shared} {w : Wd}
theorem readsAll_append {h : Heap} : ∀ {us vs : List Value} {ps qs : List PyData} {as bs : List Addr}, ReadsAll h us ps as → ReadsAll h vs qs bs → ReadsAll h (us ++ vs) (ps ++ qs) (as ++ bs)
  | _, _, _, _, _, _, .nil, r => r
  | _, _, _, _, _, _, .cons a b, r => by
    rw [List.append_assoc]
    exact .cons a (readsAll_append b r)
theorem pairs_keys {P : Program} {wo : World} {h : Heap} : ∀ {es : List DictEntry} {kvs : List (Key × Value)}, Pairs (mixKind P wo) es kvs → ReadsAll h (es.map (·.key)) ((kvs.map (·.1)).map keyPy) []
  | _, _, .nil => .nil
  | _, _, .cons (e := e) (kv := kv) k _ t => by
    have z := pairs_keys (h := h) t
    have r : Reads h e.key (keyPy kv.1) [] := by
      rcases keyIs_shape k with ⟨i, tk, e1, e2⟩ | ⟨x, tk, e1, e2⟩
      · rw [e1, e2]; exact .int i tk
      · rw [e1, e2]; exact .str x tk
    exact .cons r z
theorem pairs_vals {P : Program} {wo : World} : ∀ {es : List DictEntry} {kvs : List (Key × Value)}, Pairs (mixKind P wo) es kvs → es.map (·.val) = kvs.map (·.2)
  | _, _, .nil => rfl
  | _, _, .cons _ e t => by rw [List.map_cons, List.map_cons, e, pairs_vals t]
theorem kv_split : ∀ {ks : List Key} {us : List V} {kvs : List (Key × Value)}, ks.length = us.length → KV (ks.zip us) kvs → kvs.map (·.1) = ks ∧ Vals us (kvs.map (·.2))
  | [], [], _, _, .nil => ⟨rfl, .nil⟩
  | k :: ks, u :: us, _, h, .cons r t => by
    obtain ⟨e1, e2⟩ := kv_split (ks := ks) (us := us) (by simpa using h) t
    rw [List.map_cons, List.map_cons, e1]
    exact ⟨by rw [← r.1], .cons r.2 e2⟩
theorem map_fst_zip {α β : Type} : ∀ {as : List α} {bs : List β}, as.length = bs.length → (as.zip bs).map (·.1) = as
  | [], [], _ => rfl
  | a :: as, b :: bs, h => by rw [List.zip_cons_cons, List.map_cons, map_fst_zip (by simpa using h)]
theorem map_snd_zip {α β : Type} : ∀ {as : List α} {bs : List β}, as.length = bs.length → (as.zip bs).map (·.2) = bs
  | [], [], _ => rfl
  | a :: as, b :: bs, h => by rw [List.zip_cons_cons, List.map_cons, map_snd_zip (by simpa using h)]
theorem not_sys_seq (I : Inv Γ pins σ H s) (S : SysD Γ.K) {a : Addr} {o : Obj} {vs : Array Value} {n : Nat} (h : s.heap.get? a = some o) (hd : o.data = .seq vs n) : sysModules ≠ a := fun e => by
  obtain ⟨o2, es, m, l, d⟩ := S
  have z := I.kIn _ _ l
  rw [e, h] at z
  cases z
  rw [d] at hd
  cases hd
mutual
theorem Rep.reads (I : Inv Γ pins σ H s) (S : SysD Γ.K) (hK : w.K = Γ.K) (le : Le I0 H) : ∀ (d : D) (v : V) (fp : List Addr) (p : PyData) (u : Value), Rep w I0 H d v fp → d.sh = some p → RelV v u → ∃ as, Reads s.heap u p as ∧ sysModules ∉ as
  | .any, v, fp, p, u, _, e, _ => by unfold D.sh at e; cases e
  | .non, v, fp, p, u, h, e, r => by unfold Rep at h; unfold D.sh at e; cases e; rw [h.1] at r; cases r; exact ⟨_, .none, fun h => nomatch h⟩
  | .bl b, v, fp, p, u, h, e, r => by unfold Rep at h; unfold D.sh at e; cases e; rw [h.1] at r; cases r; exact ⟨_, .bool b, fun h => nomatch h⟩
  | .int i, v, fp, p, u, h, e, r => by unfold Rep at h; unfold D.sh at e; cases e; rw [h.1] at r; obtain ⟨t, rfl⟩ := r; exact ⟨_, .int i t, fun h => nomatch h⟩
  | .str x, v, fp, p, u, h, e, r => by unfold Rep at h; unfold D.sh at e; cases e; rw [h.1] at r; obtain ⟨t, rfl⟩ := r; exact ⟨_, .str x t, fun h => nomatch h⟩
  | .node t xs, v, fp, p, u, h, e, r => by
    unfold Rep at h
    obtain ⟨a, vs, fp', rfl, hl, hf, h⟩ := h
    obtain rfl : u = Value.ref a := r
    have tupC : SqT Γ.K H a vs → (shL xs).map PyData.tuple = some p → ∃ as, Reads s.heap (.ref a) p as ∧ sysModules ∉ as := fun hs e => by
      obtain ⟨ps, e1, rfl⟩ := Option.map_eq_some_iff.mp e
      obtain ⟨its, rv, ⟨o, ho, hc, n, hd⟩, _⟩ := I.tuple hs
      obtain ⟨as, hr, hn⟩ := RepL.reads I S hK le xs vs fp' ps its hl e1 rv
      exact ⟨as, .tuple ho hc hd hr, hn⟩
    have lstC : SqL Γ.K H a vs → (shL xs).map PyData.list = some p → ∃ as, Reads s.heap (.ref a) p as ∧ sysModules ∉ as := fun hs e => by
      obtain ⟨ps, e1, rfl⟩ := Option.map_eq_some_iff.mp e
      obtain ⟨its, rv, ⟨o, n, ho, hc, _, hd⟩, _⟩ := I.list hs
      obtain ⟨as, hr, hn⟩ := RepL.reads I S hK le xs vs fp' ps its hl e1 rv
      refine ⟨a :: as, .list ho hc hd hr, fun m => ?_⟩
      rcases List.mem_cons.mp m with m | m
      · exact not_sys_seq I S ho hd m
      · exact hn m
    cases t with
    | tup =>
      rcases h with ⟨ho, _, _⟩ | ⟨_, hat, _⟩
      · cases ho
      · exact tupC (by rw [← hK]; exact le_t le (SqT.of hat)) (by unfold D.sh at e; exact e)
    | tux =>
      rcases h with ⟨ho, _, _⟩ | ⟨_, hat, _⟩
      · cases ho
      · exact tupC (by rw [← hK]; exact le_t le (Tux.sqt hat)) (by unfold D.sh at e; exact e)
    | scr =>
      rcases h with ⟨ho, _, _⟩ | ⟨_, hat, _⟩
      · cases ho
      · exact lstC (by rw [← hK]; exact le_l le hat) (by unfold D.sh at e; exact e)
    | lst o =>
      rcases h with ⟨_, hat, _⟩ | ⟨_, hat, _⟩
      · exact lstC (Or.inl (Or.inl hat)) (by unfold D.sh at e; exact e)
      · exact lstC (Or.inl (Or.inl (le a _ hat))) (by unfold D.sh at e; exact e)
    | dk o ks =>
      have hrd : Rd H a (.dK (ks.zip vs)) := by
        rcases h with ⟨_, hat, _⟩ | ⟨_, hat, _⟩
        · exact .inl hat
        · exact le_rd le hat
      obtain ⟨ps, e1, rfl⟩ := Option.map_eq_some_iff.mp (show (shL xs).map (fun ps => PyData.dict ((ks.map keyPy).zip ps)) = some p by unfold D.sh at e; exact e)
      have hkl : ks.length = vs.length := hf
      obtain ⟨_, hsys, kvs, rel, ob, es, ep, ho, hx, hd, hko, hp, _⟩ := dk_rd I.hok hrd
      obtain ⟨f1, f2⟩ := kv_split (us := vs) hkl rel
      obtain ⟨as, hr, hn⟩ := RepL.reads I S hK le xs vs fp' ps (kvs.map (·.2)) hl e1 f2
      have hlen : (ks.map keyPy).length = ps.length := by rw [List.length_map, shL_len e1, hkl, hl.length]
      have rk := pairs_keys (h := s.heap) hp
      rw [f1] at rk
      refine ⟨a :: [] ++ as, .dict ho hx.1 hd (by rw [map_fst_zip hlen]; exact rk) (by rw [map_snd_zip hlen, pairs_vals hp]; exact hr), fun m => ?_⟩
      rcases List.mem_cons.mp m with m | m
      · rw [m] at hsys
        simp at hsys
      · exact hn m
    | dt o ks => unfold D.sh at e; cases e
    | dn o ks => unfold D.sh at e; cases e
    | ins o c ns => unfold D.sh at e; cases e
theorem RepL.reads (I : Inv Γ pins σ H s) (S : SysD Γ.K) (hK : w.K = Γ.K) (le : Le I0 H) : ∀ (ds : List D) (vs : List V) (fp : List Addr) (ps : List PyData) (us : List Value), RepL w I0 H ds vs fp → shL ds = some ps → Vals vs us → ∃ as, ReadsAll s.heap us ps as ∧ sysModules ∉ as
  | [], vs, fp, ps, us, h, e, r => by
    unfold RepL at h
    unfold shL at e
    cases e
    rw [h.1] at r
    cases r
    exact ⟨_, .nil, fun h => nomatch h⟩
  | d :: ds, vs, fp, ps, us, h, e, r => by
    unfold RepL at h
    obtain ⟨v, vs', f1, f2, rfl, rfl, h1, h2⟩ := h
    unfold shL at e
    cases e1 : d.sh with
    | none => rw [e1] at e; cases e
    | some p =>
      cases e2 : shL ds with
      | none => rw [e1, e2] at e; cases e
      | some qs =>
        rw [e1, e2] at e
        cases e
        cases r with
        | cons r1 r2 =>
          obtain ⟨as, a1, a2⟩ := Rep.reads I S hK le d v f1 p _ h1 e1 r1
          obtain ⟨bs, b1, b2⟩ := RepL.reads I S hK le ds vs' f2 qs _ h2 e2 r2
          exact ⟨as ++ bs, .cons a1 b1, fun m => (List.mem_append.mp m).elim a2 b2⟩
end
end
/-! ### repr(e) -/
/-- what repr asks of data -/
def canRepr (p : PyData) : Bool := p.showable && decide (wt p ≤ 16000000) && decide (p.depth ≤ 40)
abbrev oRepr : Op := op1 fun d => d.sh.bind fun p => if canRepr p = true then some (.str p.shown) else none
/-- the reading: the data that a value is, in any state that holds the heap -/
def rRepr (Γ : Cx) : List V → Hp → VK → Prop := fun xs H Q => ∃ (x : V) (p : PyData), xs = [x] ∧ canRepr p = true ∧ (∀ (pins : List (Addr × Obj)) (σ : L2.St) (s : Shared) (u : Value), Inv Γ pins σ H s → RelV x u → ∃ as, Reads s.heap u p as ∧ sysModules ∉ as) ∧ Q (.str p.shown) H
theorem cr_repr {Γ : Cx} {k : Nat} (hr : RoomG k Γ.A) : CallR Γ (.builtin "repr") (rRepr Γ) := by
  intro pins s σ H xs us Q I r h
  obtain ⟨x, p, rfl, c, rd, q⟩ := h
  cases r with
  | cons r1 r2 =>
    cases r2
    rename_i u
    obtain ⟨as, rs, hn⟩ := rd pins σ s u I r1
    unfold canRepr at c
    rw [Bool.and_eq_true, Bool.and_eq_true] at c
    obtain ⟨⟨c1, c2⟩, c3⟩ := c
    have c2 := of_decide_eq_true c2
    have c3 := of_decide_eq_true c3
    have hz : p.shown.length ≤ sizeLine := Nat.le_trans (shown_wt p c1) (Nat.le_trans c2 (by decide))
    have hu := hr.un
    have fin : ∀ (h' : Heap) (tk : Nat) (t : Tok), (∀ b o, s.heap.get? b = some o → h'.get? b = some o) → EP Γ pins σ Q (.str p.shown t) { s with heap := h', toks := tk } := fun h' tk t hk => ⟨.str p.shown, H, I.kept hk, ⟨t, rfl⟩, q⟩
    have ref : ∀ a, u = Value.ref a → wpAny (model Γ.prog Γ.w) Γ.A (call (.builtin "repr") [u]) (EP Γ pins σ Q) Γ.xe s := fun a e => by
      subst e
      exact repr_of_reads' rs c1 (fun _ => hn) hr.gd (by omega) (fun b o e => e) (fun h' t tk hk => fin h' tk t hk) hz
    have ty := rs
    cases ty with
    | none => exact PySem.P.repr_of_none (fin s.heap _ _ fun b o e => e)
    | bool b => exact PySem.P.repr_of_bool (fin s.heap _ _ fun b o e => e)
    | int i t => exact PySem.P.repr_of_int (by simpa [PyData.showable] using c1) (fin s.heap _ _ fun b o e => e)
    | str x t => exact PySem.P.repr_of_str (fin s.heap _ _ fun b o e => e) (by unfold PyData.shown at hz; exact hz)
    | list _ _ _ _ => exact ref _ rfl
    | tuple _ _ _ _ => exact ref _ rfl
    | dict _ _ _ _ _ => exact ref _ rfl
theorem od_repr {Γ : Cx} {w : Wd} (hK : w.K = Γ.K) (S : SysD Γ.K) : OpD w (rN (rRepr Γ)) oRepr := od1 fun I F H d v z hs h => by
  obtain ⟨p, e1, e2⟩ := Option.bind_eq_some_iff.mp h
  obtain ⟨c, rfl⟩ := ifs e2
  refine ⟨_, rfl, fun Q E q => ⟨v, p, rfl, c, fun pins σ s u inv r => ?_, q⟩⟩
  obtain ⟨fp, rp⟩ := hs.head
  exact Rep.reads inv S hK hs.iH d v fp p u rp e1 r
theorem z_repr {Γ : Cx} {X : Fx} {W : WX} {k : Nat} {p pos : Pos} {e : Expr} {o : Opd} (hr : RoomG k Γ.A) (hK : X.w.K = Γ.K) (S : SysD Γ.K) (hg : Gl Γ "repr") (hm : Γ.mg "repr" = none) (ha : PA Γ [e] (tOs X W [o]))
    (he : starEach [e] Γ.env = (false, eval e Γ.env) :: starEach [] Γ.env := by rfl) : PE Γ (.Call (.Name "repr" p) [e] [] pos) (tE X W (mApp oRepr [o])) :=
  z_callB (cr_repr hr) (od_repr hK S) hg hm (by decide +kernel) ha (by decide) (by decide) he
end Z

set_option Elab.async false
set_option linter.all false
set_option maxRecDepth 100000
set_option maxHeartbeats 4000000
/-! ZZN: try: .. with several clauses except C as e: .. -/
namespace Z
open PySem PySem.Spec PyProof.Rows
open L2 StX
abbrev Clause : Type := Value × Nat × (Addr → Value → Option Addr → TS)
/-- the ends of a suite: its name is gone behind it -/
def endsAs (E : Ends) (i : Nat) : Ends := { nx := fun τ J => E.nx (τ.set i none) J, rt := E.rt, bk := fun τ J => E.bk (τ.set i none) J, ct := fun τ J => E.ct (τ.set i none) J }
/-- what the clauses wish of an exception, one behind another -/
def wAsM (K : PySem.W.Frag) (Wout : WX) (E : Ends) : List Clause → WX
  | [] => Wout
  | (c, i, ts) :: more => fun cls d σ H => ∃ b, PySem.W.exmOne K cls c = some b ∧ (b = true → ∀ a, H a = none → ts a cls d (endsAs E i) (σ.set i (some (.ref a))) H) ∧ (b = false → wAsM K Wout E more cls d σ H)
inductive ClausesOk (Γ : Cx) : List ExceptHandler → List Clause → Prop
  | nil : ClausesOk Γ [] []
  | cons {x n : Str} {i : Nat} {c : Value} {ts : Addr → Value → Option Addr → TS} {st : Stmt} {sts : List Stmt} {p q : Pos} {hds : List ExceptHandler} {l : List Clause} (hi : Γ.N[i]? = some n) (hln : Γ.env.kindOf n = some .local) (hc : Names Γ x c)
      (run : ∀ (a : Addr) (oe : Obj) (cls : Value) (d : Option Addr) (pn : List (Addr × Obj)), Zc cls d oe → (∃ vs, oe.data = .fields vs) → PSs (Γ.suite a ((a, oe) :: pn)) (st :: sts) (ts a cls d)) (more : ClausesOk Γ hds l) : ClausesOk Γ (.ExceptHandler (some (.Name x p)) (some n) (st :: sts) q :: hds) ((c, i, ts) :: l)
section
variable {Γ : Cx} {body : List Stmt} {hd : ExceptHandler} {hds : List ExceptHandler} {l : List Clause} {pos : Pos} {tb : WX → TS} {Wout : WX}
theorem ps_try_asM (hst : Γ.stack = Γ.env :: Γ.outer) (hf : Γ.env.frame = some Γ.env.locals) (hN : Γ.N.Nodup) (tk : Takes Γ Wout)
    (hb : ∀ (W : WX) (pn : List (Addr × Obj)) (xe : Value → Shared → Prop), Takes (Γ.tr pn xe) W → PassesOwn (model Γ.prog Γ.w) Γ.A Γ.env xe → PSs (Γ.tr pn xe) body (tb W))
    (hh : ClausesOk Γ (hd :: hds) l) : PS Γ (.Try body (hd :: hds) [] [] pos) (fun E σ H => tb (wAsM Γ.K Wout E l) E σ H) := ⟨fun pins s σ H E I h => by
  have ok := I.ok
  have frames : Γ.A.frames = some (Γ.env :: Γ.outer) := ok.frames.trans (congrArg some hst)
  refine wpAny_Try_except (wpAny_mono ((hb (wAsM Γ.K Wout E l) (Γ.pn ++ pins) (fun e s₁ => wpAny (model Γ.prog Γ.w) Γ.A (noteFrame e Γ.env) (fun _ s₂ => wpAny (model Γ.prog Γ.w) Γ.A (setFlight e none) (fun _ s₃ => wpAny (model Γ.prog Γ.w) Γ.A (handleBy e Γ.env (hd :: hds)) (SP Γ pins E) Γ.xe s₃) Γ.xe s₂) Γ.xe s₁) (fun u s' caught => ?_) PassesOwn.looking).run [] s σ H E (I.toTry _) h) (fun f s1 q => ?_) (fun e s1 q => q))
  · obtain ⟨a, B, sI, pins', τ, J, cls, d, rfl, inv', nb, up, sky, na, os, ag, wish⟩ := caught
    have inv : Inv Γ pins τ J sI := inv'.ofTry ok
    show wpAny (model Γ.prog Γ.w) Γ.A (noteFrame (.ref a) Γ.env) _ _ _
    refine Sky.land Zc.steady frames hf (by rw [← hst]; exact sky) fun h3 fl up3 => ?_
    have inv3 : Inv Γ pins τ J { s' with heap := h3 } := inv.landed nb fl.1 (up.trans up3) os ag
    obtain ⟨oe, vs, he, hz, hd3⟩ := fl.there
    have nfr : a ∉ frs (Γ.env :: Γ.outer) := fun m => by
      obtain ⟨_, o2, e2, no⟩ := fl.2.2.1.mem m
      rw [he] at e2; cases e2; exact no _ hd3
    have nL : a ≠ Γ.env.locals := fun z => nfr (List.mem_filterMap.mpr ⟨Γ.env, List.mem_cons_self, by rw [hf, z]⟩)
    have nF : a ∉ Γ.fs := fun m => by
      obtain ⟨e, k1, k2⟩ := List.mem_filterMap.mp m
      exact nfr (List.mem_filterMap.mpr ⟨e, List.mem_cons_of_mem _ k1, k2⟩)
    have suite3 := inv3.suite he hd3 na nL nF
    have go : ∀ (ks : List ExceptHandler) (cs : List Clause), ClausesOk Γ ks cs → wAsM Γ.K Wout E cs cls d τ J → wpAny (model Γ.prog Γ.w) Γ.A (handleBy (.ref a) Γ.env ks) (SP Γ pins E) Γ.xe { s' with heap := h3 } := fun ks cs k => by
      induction k with
      | nil =>
        intro w
        obtain ⟨k1, k2, k3, o1, v1, T, oT, ts', f1, f2, f3, f4, f5⟩ := id fl
        have out : wpAny (model Γ.prog Γ.w) Γ.A (setFlight (.ref a) Γ.env.frame) (fun _ s4 => wpAny (model Γ.prog Γ.w) Γ.A (throw (.ref a) : Sem Flow) (SP Γ pins E) Γ.xe s4) Γ.xe { s' with heap := h3 } := by
          rw [hf]
          exact HandSPX.setFlight_upZ fl fun h4 hh4 up4 => wpAny_throw (tk _ _ ⟨a, B, sI, pins, τ, J, cls, d, rfl, inv, nb, (up.trans up3).trans up4, .inr (.inr (by rw [hst]; exact hh4)), na, os, ag, w⟩)
        refine wpAny_handleBy_nil ?_
        unfold PySem.passOn
        refine wpAny_bind (wpAny_field f1 f3 f4 ?_)
        rw [if_neg (show ¬ ((Value.ref T == Value.none) = true) from by simp)]
        first | exact wpAny_bind (wpAny_pure (wpAny_bind out)) | exact wpAny_bind out
      | @cons x n i c ts st sts p q ks2 cs2 hi hln hc run more ih =>
        intro ⟨b, hb1, yes, no⟩
        refine wpAny_handleBy_cons (codeAny_handlers_test ?_) (by intro z; cases z)
        have looks : PySem.W.Looks (model Γ.prog Γ.w) h3 (typeOf (.ref a)) cls := fun A Q E s k z => wpAny_typeOf_ref (k _ _ he) (by rw [hz.1]; exact z)
        have named : ∀ {Q E2 : Value → Shared → Prop}, Q c { s' with heap := h3 } → wpAny (model Γ.prog Γ.w) (Γ.A.mark (some (.ref a))) (eval (.Name x p) Γ.env) Q E2 { s' with heap := h3 } := fun {Q E2} z => by
          obtain ⟨c1, c2, c3 | ⟨c3, c4, c5⟩⟩ := hc
          · exact ld_glob (X := Γ.suite a ((a, oe) :: (Γ.pn ++ pins))) suite3 c1 c3 z c2
          · exact ld_blt (X := Γ.suite a ((a, oe) :: (Γ.pn ++ pins))) suite3 c1 c3 c4 z c5 c2
        refine named ((PySem.W.exm_one (M := model Γ.prog Γ.w) inv3.kIn looks hb1).here ?_)
        cases b with
        | false =>
          show wpAny _ Γ.A (handleBy (.ref a) Γ.env ks2) _ _ _
          exact ih (no rfl)
        | true =>
          refine codeAny_handlers_suite_as (HandSPX.lands_againZ fl fun h4 fl4 up4 => ?_)
          have inv4 : Inv Γ pins τ J { s' with heap := h4 } := inv.landed nb fl4.1 ((up.trans up3).trans up4) os ag
          obtain ⟨o4, v4, he4, hz4, hd4⟩ := fl4.there
          refine store_ok (X := Γ.suite a ((a, o4) :: (Γ.pn ++ pins))) (v := .ref a) (inv4.suite he4 hd4 na nL nF) hN hi (.inl hln) rfl (fun s5 inv5 => ?_) (.inr hln)
          refine wpAny_mono ((run a o4 cls d (Γ.pn ++ pins) hz4 ⟨_, hd4⟩).run [] s5 _ J _ inv5 (yes rfl a na)) (fun f s6 q6 => ?_) (fun _ _ z => z.elim)
          have over : ∀ {υ : L2.St} {L : Hp} {Q : Shared → Prop}, Inv (Γ.suite a ((a, o4) :: (Γ.pn ++ pins))) [] υ L s6 → (∀ s7, Inv Γ pins (υ.set i none) L s7 → Q s7) → wpAny (model Γ.prog Γ.w) Γ.A (do bindName Γ.env n .none; unbindBehindTheSuite Γ.env n q) (fun _ s7 => Q s7) Γ.xe s6 := fun {υ L Q} S6 z => gone_ok (S6.unsuite ok) hN hi hln z
          match f, q6 with
          | .next, ⟨υ, L, S6, z⟩ => exact over S6 fun s7 inv7 => ⟨_, _, inv7, z⟩
          | .brk, ⟨υ, L, S6, z⟩ => exact over S6 fun s7 inv7 => ⟨_, _, inv7, z⟩
          | .cont, ⟨υ, L, S6, z⟩ => exact over S6 fun s7 inv7 => ⟨_, _, inv7, z⟩
          | .ret u, ⟨v, υ, L, S6, r, z⟩ => exact over S6 fun s7 inv7 => ⟨_, _, _, inv7, r, z⟩
    exact go _ _ hh wish
  · match f, q with
    | .next, ⟨τ, J, inv, z⟩ => exact wpAny_execs_nil ⟨τ, J, inv.ofTry ok, z⟩
    | .brk, ⟨τ, J, inv, z⟩ => exact ⟨τ, J, inv.ofTry ok, z⟩
    | .cont, ⟨τ, J, inv, z⟩ => exact ⟨τ, J, inv.ofTry ok, z⟩
    | .ret u, ⟨v, τ, J, inv, r, z⟩ => exact ⟨v, τ, J, inv.ofTry ok, r, z⟩⟩
end
/-! ### on trees -/
/-- a clause: its class, its name's slot, the attributes' names, the suite -/
structure Cls1 where
  x : Str
  i : Nat
  ns : List Str
  h : List D → S
def pick (no : List (Str × Str)) (c : Str) (ns : List Str) (xs : List D) (e : Env) : List Cls1 → SRes
  | [] => .exc c ns xs e
  | k :: ks => if c = k.x then (if ns = k.ns ∧ k.i < e.length then clrS k.i (k.h xs (e.set k.i .any)) else .bad) else if no.contains (c, k.x) = true then pick no c ns xs e ks else .bad
/-- no: the pairs of classes of which the first is no kind of the second -/
def sTryM (no : List (Str × Str)) (m : S) (ks : List Cls1) : S := fun env => match m env with
  | .exc c ns xs e => pick no c ns xs e ks
  | r => r
section
variable {Γ : Cx} {W : WX} {w : Wd} {pin : List Nat} {vs0 : List V} {body : List Stmt} {pos : Pos} {m : S}
/-- the clauses of a text and those of the mirror -/
inductive Cl1s (Γ : Cx) (w : Wd) (pin : List Nat) : List ExceptHandler → List Cls1 → Prop
  | nil : Cl1s Γ w pin [] []
  | cons {x n : Str} {i : Nat} {ns : List Str} {h : List D → S} {st : Stmt} {sts : List Stmt} {p q : Pos} {hds : List ExceptHandler} {ks : List Cls1} (hi : Γ.N[i]? = some n) (hln : Γ.env.kindOf n = some .local) (hc : Names Γ x (.ref (w.cA x)))
      (te : PySem.W.exmOne w.K (.ref (w.cA x)) (.ref (w.cA x)) = some true) (hip : i ∉ pin)
      (run : ∀ (a dd : Addr) (oe : Obj) (pn : List (Addr × Obj)) (lk' fk' : Hp) (vs' : List V) (xs : List D), Zc (.ref (w.cA x)) (some dd) oe → (∃ vs, oe.data = .fields vs) → (∀ j ∈ i :: pin, j < vs'.length) → Xkd ⟨⟨w.K, w.wd, w.cA, lk', fk'⟩, i :: pin, vs'⟩ i a dd ns xs →
        PSs (Γ.suite a ((a, oe) :: pn)) (st :: sts) (tS ⟨⟨w.K, w.wd, w.cA, lk', fk'⟩, i :: pin, vs'⟩ W0 (h xs))) (more : Cl1s Γ w pin hds ks) : Cl1s Γ w pin (.ExceptHandler (some (.Name x p)) (some n) (st :: sts) q :: hds) (⟨x, i, ns, h⟩ :: ks)
/-- the walk's clause of a mirror's clause -/
def tsOf (w : Wd) (pin : List Nat) (k : Cls1) : Clause := (.ref (w.cA k.x), k.i, fun a cls d E σ H => ∃ (dd : Addr) (lk' fk' : Hp) (vs' : List V) (xs : List D), cls = .ref (w.cA k.x) ∧ d = some dd ∧ (∀ j ∈ k.i :: pin, j < vs'.length) ∧ Xkd ⟨⟨w.K, w.wd, w.cA, lk', fk'⟩, k.i :: pin, vs'⟩ k.i a dd k.ns xs ∧ tS ⟨⟨w.K, w.wd, w.cA, lk', fk'⟩, k.i :: pin, vs'⟩ W0 (k.h xs) E σ H)
theorem Cl1s.ok {hds : List ExceptHandler} {ks : List Cls1} (h : Cl1s Γ w pin hds ks) : ClausesOk Γ hds (ks.map (tsOf w pin)) := by
  induction h with
  | nil => exact .nil
  | cons hi hln hc te hip run more ih =>
    refine .cons hi hln hc (fun a oe cls d pn hz hfl => ⟨fun pins sh σ H E I q => ?_⟩) ih
    obtain ⟨dd, lk', fk', vs', xs, rfl, rfl, c1, c2, q⟩ := q
    exact (run a dd oe pn lk' fk' vs' xs hz hfl c1 c2).run pins sh σ H E I q
/-- an exception reaches a clause: the suite's state -/
theorem suite_in {k : Cls1} {I F H : Hp} {σ : L2.St} {e : Env} {E : Ends} {dd : Addr} {vs : List V} {xs : List D} (hpin : ∀ j ∈ pin, j < vs0.length) (hip : k.i ∉ pin) (hs : Hs w I F e (σv σ) H) (er : EnvR ⟨w, pin, vs0⟩ σ e) (hd : I dd = some (.xd (k.ns.zip vs))) (hr : RepL w I I xs vs [])
    (hie : k.i < e.length) (o : OutS ⟨w, pin, vs0⟩ W I F E (clrS k.i (k.h xs (e.set k.i .any)))) (a : Addr) : (tsOf w pin k).2.2 a (.ref (w.cA k.x)) (some dd) (endsAs E k.i) (σ.set k.i (some (.ref a))) H := by
  obtain ⟨x, i, ns, h⟩ := k
  have hlen : e.length = σ.length := by rw [hs.length, σv_len]
  have his : i < σ.length := by simp only at hie; omega
  have s2i : (σ.set i (some (V.ref a)))[i]? = some (some (V.ref a)) := List.getElem?_set_self his
  have s2j : ∀ {j : Nat}, j ≠ i → (σ.set i (some (V.ref a)))[j]? = σ[j]? := fun hj => List.getElem?_set_ne (Ne.symm hj)
  have npi : ∀ {j : Nat}, j ∈ pin → j ≠ i := fun hj z => hip (z ▸ hj)
  have pj : ∀ {j : Nat} (hj : j ∈ pin), (σ.set i (some (V.ref a)))[j]? = some (some (vs0[j]'(hpin j hj))) := fun hj => by
    rw [s2j (npi hj)]
    exact er.pin _ hj _ (List.getElem?_eq_getElem (hpin _ hj))
  have hs2 : Hs w I F (e.set i .any) (σv (σ.set i (some (V.ref a)))) H := by
    rw [σv_set]
    exact any_set hs hie
  refine ⟨dd, I, w.fk, σv (σ.set i (some (V.ref a))), xs, rfl, rfl, fun j hj => ?_, ⟨vs, σv_at s2i, List.mem_cons_self .., hd, RepL.wf (l := w.lk) (m := w.fk) xs vs [] hr⟩, I, F, e.set i .any, Hs.rewf (l := w.lk) (m := w.fk) hs2 (Le.refl I) hs2.fkF, ⟨fun j d hj hne => ?_, fun j hj v hv => ?_⟩, ?_⟩
  · rw [σv_len, List.length_set]
    rcases List.mem_cons.mp hj with rfl | hj
    · exact his
    · have := (List.getElem?_eq_some_iff.mp (pj hj)).1
      rwa [List.length_set] at this
  · by_cases q : j = i
    · subst q
      rw [List.getElem?_set_self hie] at hj
      cases hj
      exact absurd rfl hne
    · rw [List.getElem?_set_ne (Ne.symm q)] at hj
      rw [s2j q]
      exact er.on j d hj hne
  · rcases List.mem_cons.mp hj with rfl | hj
    · rw [σv_at s2i] at hv
      cases hv
      exact s2i
    · rw [σv_at (pj hj)] at hv
      cases hv
      exact pj hj
  · have back : ∀ (σ3 : L2.St) (e3 : Env) (I3 H3 : Hp), Le I I3 → Hs ⟨w.K, w.wd, w.cA, I, w.fk⟩ I3 F e3 (σv σ3) H3 → EnvR ⟨⟨w.K, w.wd, w.cA, I, w.fk⟩, i :: pin, σv (σ.set i (some (V.ref a)))⟩ σ3 e3 → isA e3[i]? = true → Hs w I3 F e3 (σv (σ3.set i none)) H3 ∧ EnvR ⟨w, pin, vs0⟩ (σ3.set i none) e3 := fun σ3 e3 I3 H3 le3 h3 er3 hi3 => by
      have h4 : Hs w I3 F e3 (σv σ3) H3 := Hs.rewf (l' := w.lk) (m' := w.fk) h3 (hs2.lkI.trans le3) h3.fkF
      have h5 := any_set (v := .non) h4 (i := i) (List.getElem?_eq_some_iff.mp (isA_of hi3)).1
      rw [any_here (isA_of hi3)] at h5
      refine ⟨by rw [σv_setN]; exact h5, fun j d hj hne => ?_, fun j hj v hv => ?_⟩
      · have q : j ≠ i := fun z => by
          subst z
          rw [isA_of hi3] at hj
          cases hj
          exact hne rfl
        rw [List.getElem?_set_ne (Ne.symm q)]
        exact er3.on j d hj hne
      · rw [List.getElem?_set_ne (Ne.symm (npi hj))]
        refine er3.pin j (List.mem_cons_of_mem _ hj) v ?_
        rw [σv_at (pj hj)]
        exact (List.getElem?_eq_getElem (hpin j hj)).symm.trans hv
    show OutS ⟨⟨w.K, w.wd, w.cA, I, w.fk⟩, i :: pin, σv (σ.set i (some (V.ref a)))⟩ W0 I F (endsAs E i) (h xs (e.set i .any))
    cases hh : h xs (e.set i .any) with
    | bad => simp only [hh] at o; exact o.elim
    | exc c3 n3 x3 e3 => simp only [hh] at o; exact o.elim
    | nx e3 =>
      simp only [hh] at o
      obtain ⟨hi3, o3⟩ := outS_if o
      intro σ3 I3 H3 le3 h3 er3
      obtain ⟨k1, k2⟩ := back σ3 e3 I3 H3 le3 h3 er3 hi3
      exact o3 _ I3 H3 le3 k1 k2
    | bk e3 =>
      simp only [hh] at o
      obtain ⟨hi3, o3⟩ := outS_if o
      intro σ3 I3 H3 le3 h3 er3
      obtain ⟨k1, k2⟩ := back σ3 e3 I3 H3 le3 h3 er3 hi3
      exact o3 _ I3 H3 le3 k1 k2
    | ct e3 =>
      simp only [hh] at o
      obtain ⟨hi3, o3⟩ := outS_if o
      intro σ3 I3 H3 le3 h3 er3
      obtain ⟨k1, k2⟩ := back σ3 e3 I3 H3 le3 h3 er3 hi3
      exact o3 _ I3 H3 le3 k1 k2
    | rt r3 e3 =>
      simp only [hh] at o
      intro v3 σ3 I3 H3 le3 h3 er3
      refine o v3 σ3 I3 H3 le3 (Hs.rewf (l' := w.lk) (m' := w.fk) h3 (hs2.lkI.trans le3) h3.fkF) ⟨er3.on, fun j hj v hv => er3.pin j (List.mem_cons_of_mem _ hj) v ?_⟩
      rw [σv_at (pj hj)]
      exact (List.getElem?_eq_getElem (hpin j hj)).symm.trans hv
theorem pick_run {no : List (Str × Str)} (hno : ∀ a b, no.contains (a, b) = true → PySem.W.exmOne w.K (.ref (w.cA a)) (.ref (w.cA b)) = some false) (hpin : ∀ j ∈ pin, j < vs0.length) {I F H : Hp} {σ : L2.St} {e : Env} {E : Ends} {cls : Value} {d : Option Addr} {c : Str} {ns : List Str} {xs : List D} (hs : Hs w I F e (σv σ) H) (er : EnvR ⟨w, pin, vs0⟩ σ e) (xr : XRep w I cls d c ns xs) {hds : List ExceptHandler} {ks : List Cls1} (hk : Cl1s Γ w pin hds ks)
    (o : OutS ⟨w, pin, vs0⟩ W I F E (pick no c ns xs e ks)) : wAsM w.K W E (ks.map (tsOf w pin)) cls d σ H := by
  induction hk with
  | nil => exact o cls d σ I H (Le.refl I) hs er xr
  | @cons x n i ns' h st sts p q hds ks hi hln hc te hip run more ih =>
    unfold pick at o
    by_cases hx : c = x
    · subst hx
      rw [if_pos rfl] at o
      obtain ⟨⟨rfl, hie⟩, o2⟩ := outS_if o
      obtain ⟨rfl, dd, vs, rfl, hd, hr⟩ := xr
      exact ⟨true, te, fun _ a na => suite_in (k := ⟨c, i, ns, h⟩) hpin hip hs er hd hr hie o2 a, fun z => by cases z⟩
    · rw [if_neg hx] at o
      obtain ⟨hq, o2⟩ := outS_if o
      have ecls : cls = .ref (w.cA c) := xr.1
      exact ⟨false, by rw [ecls]; exact hno c x hq, fun z => (by cases z), fun _ => ih o2⟩
theorem s_tryM {no : List (Str × Str)} {hd : ExceptHandler} {hds : List ExceptHandler} {ks : List Cls1} (hs : Γ.stack = Γ.env :: Γ.outer) (hf : Γ.env.frame = some Γ.env.locals) (hN : Γ.N.Nodup) (tk : Takes Γ W) (hK : w.K = Γ.K) (hpin : ∀ j ∈ pin, j < vs0.length)
    (hno : ∀ a b, no.contains (a, b) = true → PySem.W.exmOne w.K (.ref (w.cA a)) (.ref (w.cA b)) = some false)
    (hb : ∀ (W' : WX) (pn : List (Addr × Obj)) (xe : Value → Shared → Prop), Takes (Γ.tr pn xe) W' → PassesOwn (model Γ.prog Γ.w) Γ.A Γ.env xe → PSs (Γ.tr pn xe) body (tS ⟨w, pin, vs0⟩ W' m))
    (hk : Cl1s Γ w pin (hd :: hds) ks) : PS Γ (.Try body (hd :: hds) [] [] pos) (tS ⟨w, pin, vs0⟩ W (sTryM no m ks)) := by
  refine PSi (ps_try_asM hs hf hN tk hb hk.ok) fun E σ H q => ?_
  obtain ⟨I, F, env, hs0, er, o⟩ := q
  refine ⟨I, F, env, hs0, er, ?_⟩
  unfold sTryM at o
  cases hm : m env with
  | bad => rw [hm] at o; exact o.elim
  | nx e => rw [hm] at o; exact o
  | bk e => rw [hm] at o; exact o
  | ct e => rw [hm] at o; exact o
  | rt r e => rw [hm] at o; exact o
  | exc c ns xs e =>
    rw [hm] at o
    intro cls d σ1 I1 H1 le1 h1 er1 xr
    rw [← hK]
    exact pick_run (hds := hd :: hds) hno hpin h1 er1 xr hk (OutS.later le1 o)
end
end Z

set_option Elab.async false
set_option linter.all false
set_option maxRecDepth 100000
set_option maxHeartbeats 4000000
/-! ZZO: exact tuples further; lists repeated, unpacked; a list within a list changed; dict of one pair. -/
namespace Z
open PySem PySem.Spec PyProof.Rows
open L2 StX
section
variable {w : Wd}
/-! ### a list n times -/
def oRep : Op
  | [.node (.lst true) xs, .int k] => if isFrzL xs = true ∧ 0 ≤ k ∧ k < 1000 ∧ xs.length < 1000 then .ok (.node (.lst true) (List.replicate k.toNat xs).flatten) [.any, .int k] else .bad
  | _ => .bad
theorem RepL.rep {I H : Hp} {xs : List D} {us : List V} (r : RepL w I H xs us []) : ∀ n : Nat, RepL w I H (List.replicate n xs).flatten (List.replicate n us).flatten []
  | 0 => .nil
  | n + 1 => by
    rw [List.replicate_succ, List.replicate_succ, List.flatten_cons, List.flatten_cons]
    exact RepL.append (f1 := []) r (RepL.rep r n)
theorem len_rep {α : Type} (xs : List α) : ∀ n : Nat, (List.replicate n xs).flatten.length = n * xs.length
  | 0 => by simp
  | n + 1 => by rw [List.replicate_succ, List.flatten_cons, List.length_append, len_rep xs n, Nat.succ_mul, Nat.add_comm]
theorem od_rep : OpD w (r2 rRep) oRep := fun I F es us H Q E hs o => by
  unfold oRep at o
  split at o
  · rename_i xs k
    obtain ⟨⟨c1, c2, c3, c4⟩, o⟩ := ite_out o
    match us, hs.length, hs, o with
    | [v, u], _, hs, o =>
      have eu : u = .int k := hs.scal2 rfl
      subst eu
      obtain ⟨a, vs, G, rfl, hl, _, hat, h2, _, _⟩ := hs.open rfl
      obtain ⟨fp, r, nd, dj⟩ := hs.ex
      obtain ⟨f1, f2, rfl, r1, r2⟩ := r.out
      unfold Rep at r1
      obtain ⟨b, ws, fp', eb, hw, _, q⟩ := r1
      cases eb
      have r0 := hw.nil_of_frz c1
      subst r0
      have hws : ws.length = xs.length := hw.length.symm
      have hwat : H a = some (.lst ws) := by
        rcases q with ⟨_, q, _⟩ | ⟨q, _, _⟩
        · exact q
        · cases q
      have hk : k.toNat < 1000 := by omega
      have hz : ws.length * k.toNat ≤ sizeLine := by
        rw [hws]
        refine Nat.le_trans (Nat.mul_le_mul (Nat.le_of_lt c4) (Nat.le_of_lt hk)) (by decide)
      refine ⟨a, k, ws, rfl, rfl, hwat, by omega, by omega, hz, fun p np => ?_⟩
      have rr := RepL.rep hw k.toNat
      have h3 : Hs w I F ([.int k]) [.int k] H := hs.drop
      obtain ⟨fq, rq, nq, dq⟩ := h3.ex
      have h4 : Hs w I F ((List.replicate k.toNat xs).flatten ++ [.int k]) ((List.replicate k.toNat ws).flatten ++ [.int k]) H := h3.of_sub (RepL.append (f1 := []) rr rq) rq nq dq nq fun b m => m
      have h5 := Hs.newO (t := .lst true) (o := .lst (List.replicate k.toNat ws).flatten) h4 rr.length np rfl trivial (show upd H p (.lst (List.replicate k.toNat ws).flatten) p = some (.lst (List.replicate k.toNat ws).flatten) from upd_same)
      have h6 := h5.anys [.ref a]
      have h7 : Hs w I F ([.any] ++ (D.node (.lst true) (List.replicate k.toNat xs).flatten :: [.int k])) ([.ref a] ++ (.ref p :: [.int k])) _ := h6
      have h8 : Hs w I F (D.node (.lst true) (List.replicate k.toNat xs).flatten :: [.any, .int k]) (.ref p :: [.ref a, .int k]) _ := Hs.front h7 rfl
      exact o (.ref p) I _ (Le.refl I) h8
  · exact o.elim
/-! ### dict([(k, v)]) -/
def scKey : D → Option Key
  | .int i => some (.inl i)
  | .str x => some (.inr x)
  | _ => none
theorem scKey_v {d : D} {k : Key} (h : scKey d = some k) : d.scal = some (kV k) := by
  cases d <;> simp [scKey] at h <;> (subst h; rfl)
def oDict1 : Op
  | [.node (.lst o) [.node t [k, v]]] => if t = .tup ∨ t = .tux then (match scKey k with
    | some key => if v.isFrz = true then .ok (.node (.dk true [key]) [v]) [.any] else .bad
    | none => .bad) else .bad
  | _ => .bad
def rDict1 (K : PySem.W.Frag) : List V → Hp → VK → Prop := fun xs H Q => ∃ (a p : Addr) (k : Key) (v : V), xs = [.ref a] ∧ SqL K H a [.ref p] ∧ SqT K H p [kV k, v] ∧ ∀ q, H q = none → Q (.ref q) (upd H q (.dK [(k, v)]))
theorem call_dict1 {Γ : Cx} (hc : Γ.calm = true) : CallR Γ (.type "dict") (rDict1 Γ.K) := by
  intro pins s σ H xs us Q I r h
  obtain ⟨a, p, k, v, rfl, h1, h2, q⟩ := h
  exact call_dictP hc pins s σ H _ us Q I r ⟨a, [p], [(k, v)], rfl, h1, .cons h2 .nil, q⟩
theorem od_dict1 : OpD w (rN (rDict1 w.K)) oDict1 := fun I F es us H Q E hs o => by
  unfold oDict1 at o
  split at o
  · rename_i o' t k d
    obtain ⟨ht, o⟩ := ite_out o
    cases hk : scKey k with
    | none => simp only [hk] at o; exact o.elim
    | some key =>
      simp only [hk] at o
      obtain ⟨hf, o⟩ := ite_out o
      match us, hs.length, hs, o with
      | [v], _, hs, o =>
        have hown : ∀ {I' : Hp} {p : V} {fp : List Addr}, Rep w I' H (.node t [k, d]) p fp → ∃ (pa : Addr) (y : V), p = .ref pa ∧ FroAt w I' pa t [kV key, y] ∧ Rep w I' H d y [] ∧ fp = [] := fun {I' p fp} r => by
          unfold Rep at r
          obtain ⟨pa, zs, fp', rfl, rl, _, q⟩ := r
          unfold RepL at rl
          obtain ⟨z1, zs1, g1, g2, rfl, rfl, rk, rl⟩ := rl
          unfold RepL at rl
          obtain ⟨z2, zs2, g3, g4, rfl, rfl, rd, rl⟩ := rl
          unfold RepL at rl
          obtain ⟨rfl, rfl⟩ := rl
          have ek : z1 = kV key ∧ g1 = [] := by
            cases k with
            | int i => unfold scKey at hk; cases hk; unfold Rep at rk; exact rk
            | str x => unfold scKey at hk; cases hk; unfold Rep at rk; exact rk
            | _ => cases hk
          obtain ⟨rfl, rfl⟩ := ek
          obtain rfl := rd.own_nil (frz_id hf)
          rcases q with ⟨ho, _, _⟩ | ⟨_, hat, e⟩
          · rcases ht with rfl | rfl <;> cases ho
          · exact ⟨pa, z2, rfl, hat, rd, by simpa using e⟩
        obtain ⟨a, ps, rfl, hq, hl, fp, r⟩ := hs.seqL (.inr ⟨o', rfl⟩)
        have r' := r
        unfold RepL at r'
        obtain ⟨p, ps1, g1, g2, rfl, rfl, rp, rl⟩ := r'
        unfold RepL at rl
        obtain ⟨rfl, rfl⟩ := rl
        obtain ⟨pa, y, rfl, hat, rd, _⟩ := hown rp
        have hT : SqT w.K H pa [kV key, y] := le_t hs.iH (by
          rcases ht with rfl | rfl
          · exact SqT.of hat
          · exact Tux.sqt hat)
        refine ⟨a, pa, key, y, rfl, hq, hT, fun q nq => ?_⟩
        have h3 : Hs w I F [] [] H := hs.drop
        obtain ⟨fq, rq, nq', dq⟩ := h3.ex
        have h4 : Hs w I F ([d] ++ []) ([y] ++ []) H := h3.of_sub (RepL.append (f1 := []) (RepL.cons (f1 := []) (f2 := []) rd .nil) rq) rq nq' dq nq' fun b m => m
        have h5 := Hs.newO (t := .dk true [key]) (o := .dK [(key, y)]) h4 rfl nq rfl rfl (show upd H q (.dK [(key, y)]) q = some (.dK ([key].zip [y])) from upd_same)
        have h6 := h5.anys [.ref a]
        exact o (.ref q) I _ (Le.refl I) (Hs.front (ds := [.any]) (vs := [.ref a]) h6 rfl)
  · exact o.elim
end
section
variable {Γ : Cx} {X : Fx} {W : WX}
/-! ### a, b = a list -/
def asgU (ts : List Tgt) : D → Env → Option Env
  | .node (.lst _) xs, env => asgL ts xs env
  | _, _ => none
def sUnl (ts : List Tgt) (m : M) : S := fun env => match m env with
  | .ok r e => (match asgU ts r e with
    | some e2 => .nx e2
    | none => .bad)
  | .exc c ns xs e => .exc c ns xs e
  | .bad => .bad
theorem s_unl {es : List Expr} {e : Expr} {k : Nat} {p2 pos : Pos} {m : M} {ts : List Tgt} (he : PE Γ e (tE X W m)) (hK : X.w.K = Γ.K) (hc : Γ.calm = true) (hg : PGs Γ es (tGs X ts)) (hn : (assignEach es Γ.env).length = ts.length := by rfl) (hst : (assignEach es Γ.env).findIdx? (·.1) = none := by rfl)
    (hs : swapsWithSole [.Tuple es k p2] e pos.line Γ.env = pure false := by rfl) (hw : swappedStores [.Tuple es k p2] e Γ.env = pure none := by rfl)
    (h1 : (assignEach [.Tuple es k p2] Γ.env).map (·.2) = [assign (.Tuple es k p2) Γ.env] := by rfl) : PS Γ (.Assign [.Tuple es k p2] e pos) (tS X W (sUnl ts m)) := PSi (ps_asg he (pg_unl hc hg hn hst) hs hw h1) fun E σ H q => by
  obtain ⟨I, F, env, hs, er, o⟩ := q
  refine ⟨I, F, env, hs, er, ?_⟩
  unfold sUnl at o
  cases hm : m env with
  | bad => simp only [hm] at o; exact o.elim
  | exc c ns xs e => simp only [hm] at o; exact fun cls d I' H' le h' er' x => o cls d σ I' H' le h' er' x
  | ok r e =>
    simp only [hm] at o
    intro v I1 H1 le h1 er1
    cases ht : asgU ts r e with
    | none => simp only [ht] at o; exact o.elim
    | some e2 =>
      simp only [ht] at o
      cases r with
      | node t xs =>
        cases t with
        | lst o' =>
          obtain ⟨a, us, rfl, _, hq, _, hl, _, h2⟩ := h1.seq (xs := xs) rfl
          exact ⟨a, us, rfl, .inl (Rd.of (hq o' rfl)), by rw [← hl]; exact asgL_len ts xs e e2 ht, I1, F, e, xs, h2, hl, er1, e2, ht, fun σ' I2 H2 _ le2 h3 er2 => o σ' I2 H2 (le.trans le2) h3 er2⟩
        | _ => cases ht
      | _ => cases ht
end
end Z

set_option Elab.async false
set_option linter.all false
set_option maxRecDepth 100000
set_option maxHeartbeats 4000000
/-! ZZP: exact tuples: displays with a star, t[::-1], t.index(x); xs[j].append(c); {}. -/
namespace Z
open PySem PySem.Spec PyProof.Rows
open L2 StX
section
variable {Γ : Cx} {X : Fx} {W : WX}
def mNewK : M := fun env => .ok (.node (.dk true []) []) env
theorem z_newK {pos : Pos} : PE Γ (.Dict [] [] pos) (tE X W mNewK) := PEi pe_dnewK fun σ H Q h => by
  obtain ⟨I, F, env, hs, er, o⟩ := h
  exact fun p np => o (.ref p) I _ (Le.refl I) (Hs.newO (t := .dk true []) (xs := []) (us := []) hs rfl np rfl rfl (show upd H p (.dK []) p = some (.dK []) from upd_same)) er
/-! ### (*x, e, ..), exact -/
def mStarX (m : M) (ops : List Opd) : M := fun env => match m env with
  | .ok d e => (match d.seq with
    | some xs => (match evA ops e with
      | .ok ds e1 => if xs.length + ds.length ≤ 100000 then .ok (.node .tux (frzL xs ++ ds)) (putA ops (ds.map fun _ => .any) e1) else .bad
      | .exc c ns xs e => .exc c ns xs e
      | .bad => .bad)
    | none => .bad)
  | .exc c ns xs e => .exc c ns xs e
  | .bad => .bad
theorem starX_run {m : M} {ops : List Opd} {σ : L2.St} {H : Hp} {Q : VK} (hK : X.w.K = Γ.K) (q : tE X W (mStarX m ops) σ H Q) :
    tStar Γ.K (tE X W m) (tOs X W ops) σ H fun xs H1 => xs.length ≤ sizeLine ∧ ∀ (p : Addr) (od : Obj), od.dict = none → H1 p = none → Q (.ref p) (upd H1 p (.frz od (.tup xs))) := by
  obtain ⟨I, F, env, hs, er, o⟩ := q
  refine ⟨I, F, env, hs, er, ?_⟩
  unfold mStarX at o
  cases hm : m env with
  | bad => simp only [hm] at o; exact o.elim
  | exc c ns xs e => simp only [hm] at o; exact o
  | ok d e =>
    simp only [hm] at o
    intro v I1 H1 le1 h1 er1
    cases hd : d.seq with
    | none => simp only [hd] at o; exact o.elim
    | some xs =>
      simp only [hd] at o
      obtain ⟨J, leJ, h2⟩ := h1.freeze
      obtain ⟨a, us, rfl, hq, _, _, hl, h3⟩ := h2.items (seq_frz hd) (isFrzL_frz xs)
      have h4 : Hs X.w J F (frzL xs ++ (d.frz :: e)) (us ++ (.ref a :: σv σ)) H1 := h3
      have h5 := (h4.front hl.symm).drop
      obtain ⟨G, hg, back⟩ := Hs.push h5 hl.symm
      refine ⟨a, us, rfl, by rw [← hK]; exact hq.elim .inr .inl, ops_run ops σ H1 _ ⟨J, G, e, hg, er1, ?_⟩⟩
      cases ha : evA ops e with
      | bad => simp only [ha] at o; exact o.elim
      | exc c ns ys e2 =>
        simp only [ha] at o
        intro cls dd I2 H2 le2 h6 er2 x
        have h7 := (back I2 _ _ H2 le2 h6).comm hl.symm
        refine o cls dd I2 H2 ((le1.trans leJ).trans le2) ?_ er2 x
        obtain ⟨fp, rr, nd, dj⟩ := h7.ex
        obtain ⟨f1, f2, rfl, r1, r2⟩ := rr.split h6.length
        exact h7.of_sub r1 rr nd dj (List.nodup_append.mp nd).1 fun b mm => List.mem_append_left _ mm
      | ok ds e2 =>
        simp only [ha] at o
        by_cases hz : xs.length + ds.length ≤ 100000
        · rw [if_pos hz] at o
          intro ys I2 H2 le2 h6 hl6 er2 pk
          have h7 := back I2 _ _ H2 le2 h6
          have h8 : Hs X.w I2 F ((frzL xs ++ ds) ++ e2) ((us ++ ys) ++ σv σ) H2 := by
            rw [List.append_assoc, List.append_assoc]
            exact h7
          have hlen : (frzL xs ++ ds).length = (us ++ ys).length := by simp [hl, hl6]
          refine ⟨szO (by rw [List.length_append, hl, frzL_len, ← hl6]; exact hz), fun p od hod np => ?_⟩
          obtain ⟨le3, h9⟩ := Hs.newX h8 hlen np hod
          have h10 := h9.anys ys
          rw [← map_any hl6] at h10
          have h12 : Hs X.w _ F ((ds.map fun _ => D.any) ++ D.node .tux (frzL xs ++ ds) :: e2) (ys ++ .ref p :: σv σ) (upd H2 p (.frz od (.tup (us ++ ys)))) := h10
          have h13 := h12.front (by simp [hl6])
          exact o (.ref p) _ _ (((le1.trans leJ).trans le2).trans le3) (hs_put ops ys (ds.map fun _ => .any) e2 [.node .tux (frzL xs ++ ds)] [.ref p] pk (by simp [hl6]) rfl h13) (er_put ops ys _ e2 pk er2)
        · rw [if_neg hz] at o
          exact o.elim
theorem z_starX {e : Expr} {es : List Expr} {p pos : Pos} {k} {m : M} {ops : List Opd} (h : PE Γ e (tE X W m)) (ha : PA Γ es (tOs X W ops)) (hK : X.w.K = Γ.K) (hs : starEach (.Starred e p :: es) Γ.env = (true, eval e Γ.env) :: starEach es Γ.env := by rfl) : PE Γ (.Tuple (.Starred e p :: es) k pos) (tE X W (mStarX m ops)) :=
  PEi (pe_tupX (pa_star h ha hs)) fun σ H Q q => starX_run hK q
/-! ### t.index(x) of an exact tuple -/
def rIndexX (K : PySem.W.Frag) : V → List V → Hp → VK → Prop := fun x xs H Q => ∃ (a : Addr) (y : V) (d : PyData) (ds : List PyData) (j : Nat) (z : PyData), x = .ref a ∧ xs = [y] ∧ Dp K H (.ref a) (.tuple ds) ∧ Dp K H y d ∧ SeqAt.shaped (.tuple ds) = true ∧ SeqAt.shaped d = true ∧
  ds[j]? = some z ∧ PyData.eqv z d = true ∧ (∀ (m : Nat) (z' : PyData), m < j → ds[m]? = some z' → PyData.eqv z' d = false) ∧ Q (.int (j : Nat)) H
theorem mt_indexX (hu : Γ.A.units + 65 < cLine) : MtR Γ "tuple.index" (rIndexX Γ.K) := by
  intro pins s σ H x xs v us Q I rx rxs h
  obtain ⟨a, y, d, ds, j, z, rfl, rfl, hl, hy, sl, sd, hz, hzj, hno, q⟩ := h
  cases rx
  cases rxs with
  | cons ry rt =>
    rename_i uy ut
    cases rt
    obtain ⟨bs, r1⟩ := Dp.reads I d y uy hy ry
    have lay : PyData.canLayAll0 ds = true := SeqAt.canLay_of_shaped sl
    have room : Γ.A.units + 1 + min (PyData.depthAll ds) d.depth < cLine := room_in_shaped sd hu
    cases hl with
    | tup hs ha =>
      obtain ⟨its, rv, ⟨⟨cls, dd, data, sls⟩, ho, hc, n, hdt⟩, hlen⟩ := I.tuple hs
      simp only at hc hdt
      subst hc hdt
      obtain ⟨as, h4⟩ := Dp.readsAll I ds _ its ha rv
      have hn : its.length = ds.length := SeqAt.ReadsAll.length ds its as h4
      have hmap : its.map (SeqAt.readOf s.heap) = ds := SeqAt.readsAll_map ds its as lay h4
      have hjl : j < its.length := by
        obtain ⟨k, _⟩ := List.getElem?_eq_some_iff.mp hz
        omega
      have at_ : ∀ (m : Nat) (hm : m < its.toArray.size) (z' : PyData), ds[m]? = some z' → SeqAt.readOf s.heap its.toArray[m] = z' := fun m hm z' hz' => by
        have hml : m < its.length := by simpa using hm
        rw [← hmap, List.getElem?_map, List.getElem?_eq_getElem hml] at hz'
        simpa using Option.some.inj (show some (SeqAt.readOf s.heap its[m]) = some z' from hz')
      have hj : j < its.toArray.size := by simpa using hjl
      refine call_meets PySem.F.slot_tuple_index ⟨_, ho, rfl⟩ PySem.F.entry_tuple_index (PySem.F.args_tuple_index_2 _ _)
        (SeqAt.tuple_index2_found a its.toArray n dd sls uy (fun m => if h : m < its.toArray.size then PyData.eqv (SeqAt.readOf s.heap its.toArray[m]) d else false) j hj (Nat.zero_le _) hj ?_ ?_) ⟨ho, fun m hm => ?_, ⟨.int (j : Nat), H, I.tok _, ⟨_, rfl⟩, q⟩⟩
      · show (if h : j < its.toArray.size then _ else _) = true
        rw [dif_pos hj, at_ j hj z hz]
        exact hzj
      · intro m hm _ hlt
        have hmd : m < ds.length := by
          have : m < its.length := by simpa using hm
          omega
        have hz' : ds[m]? = some ds[m] := List.getElem?_eq_getElem hmd
        show (if h : m < its.toArray.size then _ else _) = false
        rw [dif_pos hm, at_ m hm _ hz']
        exact hno m _ hlt hz'
      · show SeqAt.EqAt _ _ _ _ (if h : m < its.toArray.size then _ else _)
        rw [dif_pos hm]
        exact SeqAt.items_eqAt (vs := its.toArray) (show ReadsAll s.heap its.toArray.toList ds as from h4) r1 lay (SeqAt.canLay_of_shaped sd) room _ (Array.getElem_mem hm)
abbrev oIndexX : Op := op2 fun d e => match d, e.py with
  | .node .tux xs, some x => (match pyL xs with
    | some ds => if SeqAt.shaped x = true ∧ SeqAt.shaped (.tuple ds) = true then (ds.findIdx? fun y => PyData.eqv y x).map fun j => .int (j : Nat) else none
    | none => none)
  | _, _ => none
theorem od_indexX : OpD X.w (rM (rIndexX X.w.K)) oIndexX := od2 fun I F H d e v u z hs h => by
  split at h
  · rename_i xs x hx
    split at h
    · rename_i ds hds
      obtain ⟨⟨c1, c2⟩, h⟩ := ifs2 h
      obtain ⟨j, hj, rfl⟩ := Option.map_eq_some_iff.mp h
      obtain ⟨h1, h2, h3⟩ := List.findIdx?_eq_some_iff_getElem.mp hj
      have hq : D.py (.node .tux xs) = some (.tuple ds) := by unfold D.py; rw [hds]; rfl
      obtain ⟨a, us, rfl, _⟩ := hs.seq (xs := xs) rfl
      refine ⟨_, rfl, fun Q E q => ⟨a, u, x, ds, j, ds[j], rfl, rfl, hs.dp hq, hs.drop.dp hx, c2, c1, List.getElem?_eq_getElem h1, h2, fun m z' hm hz => ?_, q⟩⟩
      have hml : m < ds.length := by omega
      rw [List.getElem?_eq_getElem hml] at hz
      cases hz
      have := h3 m hm
      simpa using this
    · cases h
  · cases h
/-! ### xs[j].append(c), c a constant -/
def mAppSub (i j : Nat) (c : D) : M := fun env => match env[i]? with
  | some (.node (.lst true) xs) => (match xs[j]? with
    | some (.node (.lst true) ys) => if ys.length < 100000 then .ok .non (env.set i (.node (.lst true) (xs.set j (.node (.lst true) (ys ++ [c]))))) else .bad
    | _ => .bad)
  | _ => .bad
theorem upd_self {H : Hp} {a : Addr} {o : HO} (h : H a = some o) : upd H a o = H := by
  funext b
  by_cases q : b = a
  · subst q
    rw [upd_same, h]
  · rw [upd_ne q]
theorem z_appSub {x : Str} {p p2 p3 : Pos} {i j : Nat} {jj : Nat} {e : Expr} {apos cpos : Pos} {c : D} {cv : V} (h : PE Γ (.Name x p) (tVar i)) (ha : PE Γ e (tC cv)) (hcv : c.scal = some cv) (hK : X.w.K = Γ.K) (hj : j < 1000)
    (hbase : attributeBase (.Subscript (.Name x p) (.Constant (.int (j : Int)) jj p2) p3) "append" Γ.env (eval (.Subscript (.Name x p) (.Constant (.int (j : Int)) jj p2) p3) Γ.env) = eval (.Subscript (.Name x p) (.Constant (.int (j : Int)) jj p2) p3) Γ.env := by rfl)
    (hfew : ((backTo cpos (starEach [e] Γ.env)).all (fun x => !x.1) && (backToKw cpos (keywordEach [] Γ.env)).all (fun x => x.1.isSome) && decide ([e].length + ([] : List Keyword).length + (if ([] : List Keyword).isEmpty then 0 else 1) < 30)) = true := by rfl)
    (hline : (apos.endLine == cpos.line) = true := by rfl) (hs : starEach [e] Γ.env = (false, eval e Γ.env) :: starEach [] Γ.env := by rfl) (hplain : (backTo cpos (starEach [] Γ.env)).any (·.1) = false := by rfl) :
    PE Γ (.Call (.Attribute (.Subscript (.Name x p) (.Constant (.int (j : Int)) jj p2) p3) "append" apos) [e] [] cpos) (tE X W (mAppSub i j c)) :=
  PEi (pe_bm PySem.F.plainAttrs_list PySem.F.slot_list_append PySem.F.type_list_append mt_append (pe_ix (ix_seq (X := Γ)) h pe_int (by intro _ _; rfl)) (pa_cons ha pa_nil hs) hbase hfew hline hs hplain) fun σ H Q q => by
    obtain ⟨I, F, env, hs, er, o⟩ := q
    unfold mAppSub at o
    split at o
    · rename_i xs hd
      split at o
      · rename_i ys hy
        obtain ⟨hz, o⟩ := outM_if o
        obtain ⟨v, hv⟩ := er.on i _ hd (fun z => nomatch z)
        obtain ⟨v', e', h1⟩ := Hs.take (es := []) (us := []) hs rfl hd
        have ev : v' = v := Option.some.inj (e'.symm.trans (σv_at hv))
        subst ev
        obtain ⟨a, us, G, rfl, hl, _, hat, h2, gk, close⟩ := h1.open rfl
        have hat' : H a = some (.lst us) := hat
        have jx : j < xs.length := (List.getElem?_eq_some_iff.mp hy).1
        have hy2 : (xs ++ env.set i .any)[j]? = some (.node (.lst true) ys) := by rw [List.getElem?_append_left jx]; exact hy
        obtain ⟨w, ew, h3⟩ := Hs.take (es := []) (us := []) h2 rfl hy2
        have ew2 : (us ++ σv σ)[j]? = some w := ew
        have hws : us[j]? = some w := by rw [List.getElem?_append_left (by omega)] at ew2; exact ew2
        obtain ⟨b, ws, G2, rfl, hl2, _, hat2, h4, gk2, close2⟩ := h3.open rfl
        have hat2' : H b = some (.lst ws) := hat2
        have hab : a ≠ b := fun z => by
          subst z
          obtain ⟨fp, r, nd, dj⟩ := h3.ex
          obtain ⟨f1, f2, rfl, r1, r2⟩ := r.out
          unfold Rep at r1
          obtain ⟨b', ws', fp', eb, _, _, q⟩ := r1
          cases eb
          rcases q with ⟨_, _, rfl⟩ | ⟨q, _, _⟩
          · have nf := (dj a (List.mem_append_left _ (List.mem_cons_self ..))).2
            rw [gk _ hat'] at nf
            cases nf
          · cases q
        have h4' : Hs X.w I G2 (ys ++ (xs ++ env.set i .any).set j .any) (ws ++ (us ++ σv σ)) H := h4
        have lenR : ((xs ++ env.set i D.any).set j D.any).length = (us ++ σv σ).length := by
          have := h2.length
          rw [List.length_set]
          exact this
        have h5 : Hs X.w I G2 ((c :: (xs ++ env.set i .any).set j .any) ++ ys) ((cv :: (us ++ σv σ)) ++ ws) H := (h4'.comm hl2).addC hcv
        have h6 : Hs X.w I G2 (((xs ++ env.set i .any).set j .any ++ ys) ++ [c]) (((us ++ σv σ) ++ ws) ++ [cv]) H := Hs.comm (ds := [c]) (vs := [cv]) h5 rfl
        have h7 : Hs X.w I G2 ((xs ++ env.set i .any).set j .any ++ (ys ++ [c])) ((us ++ σv σ) ++ (ws ++ [cv])) H := by
          rw [← List.append_assoc, ← List.append_assoc]
          exact h6
        have h8 := close2 I (.lst true) (ys ++ [c]) (ws ++ [cv]) _ _ H (.lst (ws ++ [cv])) (Le.refl _) (h7.comm lenR) (by simp [hl2]) rfl trivial (show upd H b (.lst (ws ++ [cv])) b = some (.lst (ws ++ [cv])) from upd_same)
        have h9 := Hs.put (es := []) (us := []) (i := j) h8 rfl (show ((xs ++ env.set i .any).set j .any)[j]? = some .any by rw [List.getElem?_set_self (by rw [List.length_append]; omega)]) ew
        have h10 : Hs X.w I G (xs.set j (.node (.lst true) (ys ++ [c])) ++ env.set i .any) (us ++ σv σ) (upd H b (.lst (ws ++ [cv]))) := by
          have z : ([] ++ ((xs ++ env.set i D.any).set j D.any).set j (.node (.lst true) (ys ++ [c]))) = xs.set j (.node (.lst true) (ys ++ [c])) ++ env.set i .any := by
            rw [List.nil_append, set_set, List.set_append_left _ _ jx]
          rw [← z]
          exact h9
        have h11 := close I (.lst true) _ us _ _ (upd H b (.lst (ws ++ [cv]))) (.lst us) (Le.refl _) h10 (by simp [hl]) rfl trivial (show upd (upd H b (.lst (ws ++ [cv]))) a (.lst us) a = some (.lst us) from upd_same)
        have ha2 : upd H b (.lst (ws ++ [cv])) a = some (.lst us) := by
          rw [upd_ne hab]
          exact hat'
        rw [upd_self ha2] at h11
        have lt : i < env.length := (List.getElem?_eq_some_iff.mp hd).1
        have h12 := Hs.put (es := []) (us := []) (i := i) h11 rfl (by rw [List.getElem?_set_self lt]) e'
        rw [set_set] at h12
        have hq : SqL Γ.K H a us := .inl (Rd.of hat')
        have hix : atI us (j : Int) = some (.ref b) := atI_of (n := us.length) (j := j) rfl (by
          unfold ixN
          rw [if_pos (by omega), if_pos (by omega)]
          rfl) hws
        refine ⟨.ref a, hv, .inl ⟨a, us, (j : Int), .ref b, rfl, rfl, hq, hix, ?_, ?_⟩⟩
        · exact .inl ⟨rfl, ws, .inl (Rd.of hat2')⟩
        · refine ⟨b, ws, cv, rfl, rfl, hat2', szL (by omega), ?_⟩
          exact o .non I _ (Le.refl I) (h12.addC rfl) (er.set hd fun _ z => nomatch z)
      · exact o.elim
    · exact o.elim
/-! ### x in t -/
def rInT (K : PySem.W.Frag) (neg : Bool) : R2 := fun x y H Q => ∃ d ds, Dp K H x d ∧ Dp K H y (.tuple ds) ∧ SeqAt.shaped d = true ∧ SeqAt.shaped (.tuple ds) = true ∧ Q (.bl ((ds.any fun z => PyData.eqv z d) != neg)) H
theorem op_inT (hu : Γ.A.units + 65 < cLine) : OpR Γ (compareOp .In) (rInT Γ.K false) := by
  intro pins s σ H x y v u Q I rx ry h
  obtain ⟨d, ds, hd, he, sd, se, q⟩ := h
  obtain ⟨as, r1⟩ := Dp.reads I d x v hd rx
  obtain ⟨bs, r2⟩ := Dp.reads I (.tuple ds) y u he ry
  exact SeqAt.in_tuple_reads r2 r1 (SeqAt.canLay_of_shaped se) (SeqAt.canLay_of_shaped sd) (room_in_shaped sd hu) ⟨.bl _, H, I, rfl, by simpa using q⟩
theorem op_notInT (hu : Γ.A.units + 65 < cLine) : OpR Γ (compareOp .NotIn) (rInT Γ.K true) := by
  intro pins s σ H x y v u Q I rx ry h
  obtain ⟨d, ds, hd, he, sd, se, q⟩ := h
  obtain ⟨as, r1⟩ := Dp.reads I d x v hd rx
  obtain ⟨bs, r2⟩ := Dp.reads I (.tuple ds) y u he ry
  exact SeqAt.notIn_tuple_reads r2 r1 (SeqAt.canLay_of_shaped se) (SeqAt.canLay_of_shaped sd) (room_in_shaped sd hu) ⟨.bl _, H, I, rfl, by simpa using q⟩
def inT (neg : Bool) (d e : D) : Option D := match d.py, e.py with
  | some p, some (.tuple qs) => if SeqAt.shaped p = true ∧ SeqAt.shaped (.tuple qs) = true then some (.bl ((qs.any fun z => PyData.eqv z p) != neg)) else none
  | _, _ => none
theorem od_inT {w : Wd} {neg : Bool} : OpD w (r2 (rInT w.K neg)) (op2 (inT neg)) := od2 fun I F H d e v u z hs h => by
  unfold inT at h
  split at h
  · rename_i p qs hp hq
    obtain ⟨⟨c1, c2⟩, rfl⟩ := ifs h
    exact ⟨_, rfl, fun Q E k => ⟨p, qs, hs.dp hp, hs.drop.dp hq, c1, c2, k⟩⟩
  · cases h
/-! ### isinstance(xs[j], T): what lies in a list is only looked at -/
theorem Hs.inside {w : Wd} {I F H : Hp} {ds : List D} {vs : List V} {o : Bool} {xs : List D} {d : D} {v : V} {j : Nat} (h : Hs w I F (.node (.lst o) xs :: ds) (v :: vs) H) (e : xs[j]? = some d) : ∃ a us z, v = .ref a ∧ SqL w.K H a us ∧ us[j]? = some z ∧ Hs w I F [d] [z] H := by
  obtain ⟨fp, r, nd, dj⟩ := h.ex
  obtain ⟨f1, f2, rfl, r1, r2⟩ := r.out
  unfold Rep at r1
  obtain ⟨b, ws, fp', rfl, rl, _, q⟩ := r1
  obtain ⟨z, g1, g2, hz, rz, _, pm⟩ := rl.take e
  have hsub : ∀ c ∈ fp', c ∈ f1 := fun c m => by
    rcases q with ⟨_, _, rfl⟩ | ⟨_, _, rfl⟩
    · exact List.mem_cons_of_mem _ m
    · exact m
  have nd1 : f1.Nodup := (List.nodup_append.mp nd).1
  have ndp : fp'.Nodup := by
    rcases q with ⟨_, _, rfl⟩ | ⟨_, _, rfl⟩
    · exact (List.nodup_cons.mp nd1).2
    · exact nd1
  have ndg : (g1 ++ g2).Nodup := pm.nodup_iff.mp ndp
  have h1 : H b = some (.lst ws) := by
    rcases q with ⟨_, q, _⟩ | ⟨_, q, _⟩
    · exact q
    · exact h.iH b _ q
  refine ⟨b, ws, z, rfl, .inl (Rd.of h1), hz, ⟨⟨g1, by have := RepL.cons rz (RepL.nil (w := w) (I := I) (H := H)); rwa [List.append_nil] at this, (List.nodup_append.mp ndg).1, fun c m => dj c (List.mem_append_left _ (hsub c (pm.symm.subset (List.mem_append_left _ m))))⟩, h.iF, h.fH, h.fT, h.lkI, h.fkF⟩⟩
def mIsiSub (i j : Nat) (T : String) : M := fun env => match env[i]? with
  | some (.node (.lst _) xs) => (match xs[j]? with
    | some d => (match isiB T d with
      | some r => .ok r env
      | none => .bad)
    | none => .bad)
  | _ => .bad
theorem z_isiSub {x T : Str} {n : String} {i j jj : Nat} {p p2 p3 p4 p5 pos : Pos} (h : PE Γ (.Name x p3) (tVar i)) (hT : PE Γ (.Name T p2) (tC (.ty n))) (hg : Gl Γ "isinstance") (hm : Γ.mg "isinstance" = none) (hK : X.w.K = Γ.K)
    (h1 : starEach [.Subscript (.Name x p3) (.Constant (.int (j : Int)) jj p4) p5, .Name T p2] Γ.env = (false, eval (.Subscript (.Name x p3) (.Constant (.int (j : Int)) jj p4) p5) Γ.env) :: starEach [.Name T p2] Γ.env := by rfl) (h2 : starEach [.Name T p2] Γ.env = (false, eval (.Name T p2) Γ.env) :: starEach [] Γ.env := by rfl) (hpl : (backTo pos (starEach [.Name T p2] Γ.env)).any (·.1) = false := by rfl) :
    PE Γ (.Call (.Name "isinstance" p) [.Subscript (.Name x p3) (.Constant (.int (j : Int)) jj p4) p5, .Name T p2] [] pos) (tE X W (mIsiSub i j n)) :=
  PEi (pe_callB (x := "isinstance") call_isi hg hm (by decide +kernel) (pa_cons (pe_ix (ix_seq (X := Γ)) h pe_int (by intro _ _; rfl)) (pa_cons hT pa_nil h2) h1) (by decide) (by decide) h1 hpl) fun σ H Q q => by
    obtain ⟨I, F, env, hs, er, o⟩ := q
    unfold mIsiSub at o
    split at o
    · rename_i o' xs hd
      cases hx : xs[j]? with
      | none => simp only [hx] at o; exact o.elim
      | some d =>
        simp only [hx] at o
        cases hr : isiB n d with
        | none => simp only [hr] at o; exact o.elim
        | some r =>
          simp only [hr] at o
          obtain ⟨v, hv⟩ := er.on i _ hd (fun z => nomatch z)
          obtain ⟨v', e', h1⟩ := Hs.take (es := []) (us := []) hs rfl hd
          have ev : v' = v := Option.some.inj (e'.symm.trans (σv_at hv))
          subst ev
          obtain ⟨a, us, z, rfl, hq, hz, hc⟩ := Hs.inside h1 hx
          unfold isiB at hr
          cases ht : d.ty with
          | none => rw [ht] at hr; cases hr
          | some t =>
            rw [ht] at hr
            obtain ⟨b, hb, rfl⟩ := Option.map_eq_some_iff.mp hr
            have hlt : j < us.length := (List.getElem?_eq_some_iff.mp hz).1
            have hix : atI us (j : Int) = some z := atI_of (n := us.length) (j := j) rfl (by
              unfold ixN
              rw [if_pos (by omega), if_pos (by omega)]
              rfl) hz
            refine ⟨.ref a, hv, .inl ⟨a, us, (j : Int), z, rfl, rfl, by rw [← hK]; exact hq, hix, ?_⟩⟩
            exact ⟨z, .ty n, .type t, .type n, b, rfl, .ty n, by rw [← hK]; exact hc.tyx ht, kit_ty hb, o (.bl b) I H (Le.refl I) (hs.addC rfl) er⟩
    · exact o.elim
end
end Z

set_option Elab.async false
set_option linter.all false
set_option maxRecDepth 100000
set_option maxHeartbeats 4000000
/-! ZZQ: t[::-1], of exact tuples and of lists. -/
namespace Z
open PySem PySem.Spec PyProof.Rows
open L2 StX
section
variable {prog : Program} {wo : World} {A : Around} {E : Value → Shared → Prop} {s : Shared}
theorem adjust_back (n : Nat) : Builtin.Slice.sliceAdjust none none (-1) (n : Int) = ((n : Int) - 1, -1) := by
  unfold Builtin.Slice.sliceAdjust
  simp
theorem places_back (n : Nat) : Builtin.Slice.slicePlaces ((n : Int) - 1) (-1) (-1) = n := by
  unfold Builtin.Slice.slicePlaces
  simp
  try omega
theorem applied_back {sl : Addr} {u : Tok} {n : Nat} {Q : Int × Int × Nat → Shared → Prop} (hs : s.heap.IsSliceOf sl .none .none (.int (-1) u)) (h : Q ((n : Int) - 1, -1, n) s) : wpAny (model prog wo) A (Builtin.Slice.sliceApplied (.ref sl) (pure (n : Int))) Q E s := by
  obtain ⟨os, hos, hcs, hds⟩ := id hs
  unfold Builtin.Slice.sliceApplied Builtin.Slice.sliceFields
  refine wpAny_bind (wpAny_bind (wpAny_field hos hds (x := .none) rfl (wpAny_bind (wpAny_field hos hds (x := .none) rfl (wpAny_bind (wpAny_field hos hds (x := .int (-1) u) rfl (wpAny_pure ?_)))))))
  refine wpAny_bind (slicePart_int ?_)
  show wpAny _ _ (if ((-1 : Int) == 0) = true then _ else _) _ _ s
  rw [if_neg (by decide)]
  refine wpAny_bind (slicePart_none (wpAny_bind (slicePart_none (wpAny_bind (wpAny_pure ?_)))))
  show wpAny _ _ (match Builtin.Slice.sliceAdjust none none (-1) (n : Int) with | (lo, hi) => pure (lo, (-1 : Int), Builtin.Slice.slicePlaces lo hi (-1))) _ _ s
  rw [adjust_back n]
  show wpAny _ _ (pure ((n : Int) - 1, (-1 : Int), Builtin.Slice.slicePlaces ((n : Int) - 1) (-1) (-1))) _ _ s
  rw [places_back]
  exact wpAny_pure h
theorem pick_back (xs : Array Value) : ((List.range xs.size).filterMap fun (m : Nat) => xs[(((xs.size : Int) - 1) + (m : Int) * (-1)).toNat]?).toArray = xs.toList.reverse.toArray := by
  congr 1
  apply List.ext_getElem?
  intro i
  have key : ∀ n, n ≤ xs.size → (List.range n).filterMap (fun (m : Nat) => xs[(((xs.size : Int) - 1) + (m : Int) * (-1)).toNat]?) = (List.range n).map (fun m => xs[xs.size - 1 - m]?.getD default) := by
    intro n hn
    induction n with
    | zero => rfl
    | succ n ih =>
      rw [List.range_succ, List.filterMap_append, List.map_append, ih (by omega)]
      congr 1
      have e : (((xs.size : Int) - 1) + (n : Int) * (-1)).toNat = xs.size - 1 - n := by omega
      have lt : xs.size - 1 - n < xs.size := by omega
      rw [List.filterMap_cons, e, Array.getElem?_eq_getElem lt]
      simp [Array.getElem?_eq_getElem lt]
  rw [key _ (Nat.le_refl _), List.getElem?_map]
  by_cases h : i < xs.size
  · rw [List.getElem?_range h, List.getElem?_reverse (by simpa using h)]
    have lt : xs.size - 1 - i < xs.size := by omega
    simp [Array.getElem?_eq_getElem lt, lt]
  · rw [List.getElem?_eq_none (by simpa using h), List.getElem?_eq_none (by simpa using h)]
    rfl
theorem getItem_tuple_back {t sl : Addr} {items : Array Value} {u : Tok} {Q : Value → Shared → Prop} (ht : IsTup s.heap t items) (hs : s.heap.IsSliceOf sl .none .none (.int (-1) u))
    (h : Q (.ref s.heap.objs.size) { s with heap := s.heap.push { cls := .type "tuple", data := .seq items.toList.reverse.toArray } }) (hsz : items.size ≤ sizeLine) : wpAny (model prog wo) A (getItem (.ref t) (.ref sl)) Q E s := by
  have hd : sizeOk (.seq items.toList.reverse.toArray) := by
    show items.toList.reverse.toArray.size ≤ sizeLine
    simpa using hsz
  obtain ⟨os, hos, hcs, hds⟩ := id hs
  have hTs : s.TypeIs (.ref sl) "slice" := ⟨os, hos, hcs⟩
  unfold getItem
  try with_reducible refine wpAny_holding ?_
  first | refine wpAny_bind (wpAny_pure ?_) | skip
  refine wpAny_bind (wpAny_sequenceKey ht.typeIs (by decide) ?_)
  refine wpAny_bind (wpAny_callSpecial?_slot (name := Str.ofString "__getitem__") ht.typeIs PyProof.Rows.slot_tuple_getitem (wpAny_call_entry PyProof.Rows.slot_tuple_getitem ht.typeIs PyProof.Rows.entry_tuple_getitem ?_ (PyProof.Rows.args_tuple_getitem _ _)))
  show wpAny _ _ (Builtin.Tuple.tupleItemsOf (.ref t) >>= _) _ _ s
  refine wpAny_bind (PyProof.Rows.tupleItemsOf_ ht ?_)
  refine wpAny_bind (wpAny_typeOf hTs ?_)
  rw [if_pos (by decide)]
  refine wpAny_bind (applied_back hs ?_)
  have hno : ¬ ((((items.size : Int) - 1) == 0 && (-1 : Int) == 1 && items.size == items.size) = true) := by simp
  show wpAny _ _ (if (((items.size : Int) - 1) == 0 && (-1 : Int) == 1 && items.size == items.size) = true then _ else _) _ _ s
  rw [if_neg hno, pick_back]
  first
    | exact wpAny_bind (m := Builtin.Tuple.tupleExact _) (wpAny_newObj_type (wpAny_pure ⟨_, rfl, wpAny_pure h⟩) hd)
    | exact wpAny_bind (m := Builtin.Tuple.tupleExact _) (wpAny_newObj_type (wpAny_bind (wpAny_pure (wpAny_pure ⟨_, rfl, wpAny_pure h⟩))) hd)
    | exact wpAny_bind (wpAny_bind (m := Builtin.Tuple.tupleExact _) (wpAny_newObj_type (wpAny_pure (wpAny_pure ⟨_, rfl, wpAny_pure h⟩)) hd))
    | exact wpAny_bind (wpAny_bind (m := Builtin.Tuple.tupleExact _) (wpAny_newObj_type (wpAny_pure ⟨_, rfl, wpAny_pure h⟩) hd))
end
section
variable {Γ : Cx} {X : Fx} {W : WX}
def tRevX (K : PySem.W.Frag) (te : TE) : TE := fun σ H Q => te σ H fun x H1 => ∃ a xs, x = .ref a ∧ SqT K H1 a xs ∧ ∀ (p : Addr) (od : Obj), od.dict = none → H1 p = none → Q (.ref p) (upd H1 p (.frz od (.tup xs.reverse)))
theorem pe_revX {e : Expr} {te : TE} {k : Nat} {p1 p2 p3 pos : Pos} (he : PE Γ e te) : PE Γ (.Subscript e (.Slice none none (some (.UnaryOp .USub (.Constant (.int 1) k p1) p2)) p3) pos) (tRevX Γ.K te) := ⟨fun pins s σ H Q I h => by
  refine Subscript_ (thn (he.run pins s σ H _ I h) fun v s1 ⟨x, H1, I1, r1, a, xs, ex, hx, q⟩ => ?_)
  subst ex
  cases r1
  have minus : PO Γ (some (.UnaryOp .USub (.Constant (.int 1) k p1) p2)) (tPart (tUn (rU fun i => .int (-i)) (tC (.int 1)))) := L2.po_some (pe_un un_neg pe_int)
  refine wpAny_Slice (thn (L2.po_none.run pins s1 σ H1 (fun o H2 => o = none ∧ H2 = H1) I1 ⟨rfl, rfl⟩) fun vl s2 ⟨l, H2, I2, pl, el, e2⟩ => thn (L2.po_none.run pins s2 σ H2 (fun o H3 => o = none ∧ H3 = H2) I2 ⟨rfl, rfl⟩) fun vu s3 ⟨u, H3, I3, pu, eu, e3⟩ => ?_)
  subst el e2 eu e3
  refine thn (minus.run pins s3 σ H3 (fun o H4 => o = some (-1) ∧ H4 = H3) I3 ⟨1, rfl, -1, rfl, rfl, rfl⟩) fun vs s4 ⟨o, H4, I4, ps, eo, e4⟩ => ?_
  subst eo e4
  have I5 : Inv Γ pins σ H4 { s4 with heap := s4.heap.push { cls := .type "slice", data := .fields #[vl, vu, vs] } } := I4.kept (t' := s4.toks) fun b ob z => Heap.get?_push_of_some _ z
  obtain ⟨its, r, ht, hz⟩ := I5.tuple hx
  have hlen := r.length
  show wpAny (model Γ.prog Γ.w) Γ.A (subscriptTail e (.Slice none none (some (.UnaryOp .USub (.Constant (.int 1) k p1) p2)) p3) (.ref a) (.ref s4.heap.objs.size)) (EP Γ pins σ Q) Γ.xe { s4 with heap := s4.heap.push { cls := .type "slice", data := .fields #[vl, vu, vs] } }
  refine tail_any (ops := [.ref a, .ref s4.heap.objs.size]) ht.typeIs (PyProof.Rows.slot_tuple_getitem.lookup) ?_ (by with_unfolding_all rfl)
  have vl0 : vl = .none := by cases pl; rfl
  have vu0 : vu = .none := by cases pu; rfl
  obtain ⟨tk, vs0⟩ : ∃ tk, vs = .int (-1) tk := by cases ps; exact ⟨_, rfl⟩
  subst vl0 vu0 vs0
  refine getItem_tuple_back ht (Heap.IsSliceOf.new _ _ _ _) ?_ (by rw [List.size_toArray]; omega)
  have e : ∀ ys : List Value, ((s4.heap.push { cls := .type "slice", data := .fields #[.none, .none, .int (-1) tk] }).push { cls := .type "tuple", data := .seq ys.toArray }).get? (s4.heap.push { cls := .type "slice", data := .fields #[.none, .none, .int (-1) tk] }).objs.size = some { cls := .type "tuple", data := .seq ys.toArray } := fun ys => Heap.get?_push_size _ rfl
  refine ⟨.ref _, _, I5.laid (t' := s4.toks) (o := .frz { cls := .type "tuple", data := .seq its.reverse.toArray } (.tup xs.reverse)) (fun b ob z => Heap.get?_push_of_some _ z) (Nat.le_refl _) ?_, rfl, q _ _ rfl (I5.hok.fresh (Nat.le_refl _))⟩
  exact ⟨e _, by rw [List.length_reverse]; exact hz, _, r.reverse, IsTup.new _ _⟩⟩
/-- x[::-1] of an exact tuple; of a list: a new one -/
def mRevX (m : M) : M := fun env => match m env with
  | .ok (.node .tux xs) e => .ok (.node .tux (frzL xs).reverse) e
  | .exc c ns xs e => .exc c ns xs e
  | _ => .bad
theorem z_revX {e : Expr} {m : M} {k : Nat} {p1 p2 p3 pos : Pos} (hK : X.w.K = Γ.K) (he : PE Γ e (tE X W m)) : PE Γ (.Subscript e (.Slice none none (some (.UnaryOp .USub (.Constant (.int 1) k p1) p2)) p3) pos) (tE X W (mRevX m)) := PEi (pe_revX he) fun σ H Q h => by
  obtain ⟨I, F, env, hs, er, o⟩ := h
  refine ⟨I, F, env, hs, er, ?_⟩
  unfold mRevX at o
  cases hm : m env with
  | bad => simp only [hm] at o; exact o.elim
  | exc c ns xs e => simp only [hm] at o; exact o
  | ok d e =>
    simp only [hm] at o
    cases d with
    | node t xs =>
      cases t with
      | tux =>
        intro v I1 H1 le1 h1 er1
        obtain ⟨J, leJ, h2⟩ := h1.freeze
        obtain ⟨a, us, rfl, _, _, hq3, hl, ⟨fp, r⟩, _⟩ := h2.seq (d := (D.node .tux xs).frz) (xs := frzL xs) rfl
        refine ⟨a, us, rfl, by rw [← hK]; exact le_t h2.iH (hq3 (.inr rfl)), fun p od hod np => ?_⟩
        have r0 := r.nil_of_frz (isFrzL_frz xs)
        subst r0
        obtain ⟨f2, r2, pm⟩ := RepL.rev r
        have r3 : f2 = [] := by simpa using pm.symm.eq_nil
        subst r3
        have hd := h2.drop
        obtain ⟨fq, rq, nq, dq⟩ := hd.ex
        have h3 : Hs X.w J F ((frzL xs).reverse ++ e) (us.reverse ++ σv σ) H1 := hd.of_sub (RepL.append (f1 := []) r2 rq) rq nq dq nq fun b m => m
        obtain ⟨le3, h4⟩ := Hs.newX h3 (by simp [hl]) np hod
        exact o (.ref p) _ _ ((le1.trans leJ).trans le3) h4 er1
      | _ => exact o.elim
    | _ => exact o.elim
end
end Z

set_option Elab.async false
set_option linter.all false
set_option maxRecDepth 100000
set_option maxHeartbeats 4000000
/-! ZZR: the law's end for defs with such room; the head's facts of exceptions and of sys.modules. -/
namespace Z
open PySem PySem.Spec PyProof.Rows
open L2 StX
section
variable {P : Program} {wo : World} {K : PySem.W.Frag} {mg mb : Str → Option Value} {C : CXT} {k : Nat} {fa a : Addr} {fd : FuncData} {x : Str} {sp : Sp} {s₁ : Shared} {ws : List Value} {ns : List Int}
/-- the end, from an abstract heap that holds the script at most -/
theorem law_from (inK : K.In s₁.heap) (hns : s₁.heap.Ns mainGlobals mg) (hb : s₁.heap.Ns builtinsNs mb) (hbb : ∀ x : Str, x ≠ "__name__" → mb x = bootBuiltins x) (hlim : s₁.heap.NoLimit) (hg : s₁.gens = #[]) (ha : s₁.heap.get? a = some { cls := .type "list", data := .seq ws.toArray }) (room : RoomG k callerA)
    (F : ∀ base : Heap, K.In base → base.Ns mainGlobals mg → FnG P wo K mg base C k fa fd [x] sp) (binds : ∀ (s : Shared) (u : Value), BindsTo s fd ⟨[u], []⟩ [(x, u)]) (no : ∀ H e s', C [] H s₁ (fun _ _ _ => False) e s' → False)
    (H : Hp) (only : Only H) (hok : HOk P wo H s₁.heap) (one : ∀ b, H b ≠ none → b = a) (apart : H a ≠ none → K.lookup a = none) (wish : sp [.ref a] H (fun v _ => v = .bl true) fun _ _ _ => False) :
    codeAny (model P wo) callerA (.call (.ref fa) ⟨[.ref a], []⟩) (fun r s' => r = .ok (.ret (.bool true)) ∧ OldK s₁.heap s'.heap ∧ s'.os = s₁.os ∧ AllBare s'.gens) s₁ := by
  have tracked : ∀ {b : Addr} {u : HO}, H b = some u → b = a ∧ K.lookup b = none := fun {b u} e => by
    obtain rfl := one b (by rw [e]; exact fun z => nomatch z)
    exact ⟨rfl, apart (by rw [e]; exact fun z => nomatch z)⟩
  have inB : K.In (hidT s₁.heap H) := fun b o e => hidT_get (inK b o e) (by
    cases q : H b with
    | none => rfl
    | some u => rw [(tracked q).2] at e; cases e)
  have dictB : ∀ {b : Addr} {m : Str → Option Value}, s₁.heap.Ns b m → (hidT s₁.heap H).Ns b m := fun {b m} ⟨o, es, ep, e, d, r⟩ => ⟨o, es, ep, hidT_get e (by
    cases q : H b with
    | none => rfl
    | some u =>
      rw [(tracked q).1, ha] at e
      cases e
      have z : Data.seq ws.toArray _ = Data.dict es ep := d
      cases z), d, r⟩
  have mod : Mod K mg (hidT s₁.heap H) := ⟨inB, dictB hns, ⟨mb, dictB hb, hbb⟩, let ⟨mc, h1, h2⟩ := hlim; ⟨mc, dictB h1, h2⟩⟩
  have e0 : Env0 P wo K mg (hidT s₁.heap H) callerA [] s₁ H := ⟨rfl, mod, fun b o e => of_hidT e, Nat.le_of_eq (hidT_size _ _), trivial, fun b m => absurd (show b ∈ ([] : List Addr) from m) (by simp), hok, .of_eq hg⟩
  refine codeAny_mono ((F _ inB (dictB hns)).run callerA [] s₁ H ⟨[.ref a], []⟩ [.ref a] [.ref a] _ _ room e0 (binds s₁ (.ref a)) (.cons rfl .nil) wish) fun r s' h => ?_
  match r, h with
  | .error e, h => exact (no H e s' h).elim
  | .ok (.ret u), ⟨v, J, os, bare, un, hok', rv, q⟩ =>
    obtain rfl : v = .bl true := q
    obtain rfl : u = Value.bool true := rv
    refine ⟨rfl, OldK.of_keep fun b o e => ?_, os, bare⟩
    cases q : H b with
    | none => exact un.keep b o e q (fun m => absurd (show b ∈ ([] : List Addr) from m) (by simp)) (by simp)
    | some u =>
      rcases only b with z | ⟨ob, xs, z⟩
      · rw [q] at z; cases z
      · have e1 := (hok b _ z).1
        rw [e] at e1; cases e1
        exact (hok' b _ (un.frzs b _ _ z)).1
theorem law_callG (inK : K.In s₁.heap) (hns : s₁.heap.Ns mainGlobals mg) (hb : s₁.heap.Ns builtinsNs mb) (hbb : ∀ x : Str, x ≠ "__name__" → mb x = bootBuiltins x) (hlim : s₁.heap.NoLimit) (hg : s₁.gens = #[]) (ha : s₁.heap.get? a = some { cls := .type "list", data := .seq ws.toArray }) (hi : IntsAre ws ns) (hl : ns.length ≤ sizeLine) (room : RoomG k callerA)
    (F : ∀ base : Heap, K.In base → base.Ns mainGlobals mg → FnG P wo K mg base C k fa fd [x] sp) (binds : ∀ (s : Shared) (u : Value), BindsTo s fd ⟨[u], []⟩ [(x, u)]) (wish : ∀ H : Hp, Only H → SqL K H a (ns.map V.int) → sp [.ref a] H (fun v _ => v = .bl true) fun _ _ _ => False) (no : ∀ H e s', C [] H s₁ (fun _ _ _ => False) e s' → False) :
    codeAny (model P wo) callerA (.call (.ref fa) ⟨[.ref a], []⟩) (fun r s' => r = .ok (.ret (.bool true)) ∧ OldK s₁.heap s'.heap ∧ s'.os = s₁.os ∧ AllBare s'.gens) s₁ := by
  have rv := vals_ints hi
  have from_ := law_from (C := C) (k := k) (fd := fd) (x := x) (sp := sp) (ws := ws) inK hns hb hbb hlim hg ha room F binds no
  cases hk : K.lookup a with
  | none =>
    let H : Hp := fun b => if b = a then some (.frz { cls := .type "list", data := .seq ws.toArray } (.lst (ns.map V.int))) else none
    have at_ : H a = some (.frz { cls := .type "list", data := .seq ws.toArray } (.lst (ns.map V.int))) := if_pos rfl
    have off : ∀ {b}, b ≠ a → H b = none := fun h => if_neg h
    have only : Only H := fun b => by
      by_cases q : b = a
      · subst q; exact .inr ⟨_, _, at_⟩
      · exact .inl (off q)
    refine from_ H only (fun b u z => ?_) (fun b z => ?_) (fun _ => hk) (wish H only (.inl (.inr ⟨_, at_⟩)))
    · by_cases q : b = a
      · subst q
        rw [at_] at z
        cases z
        exact ⟨ha, by rw [List.length_map]; exact hl, ws, _, rv, ha⟩
      · rw [off q] at z
        cases z
    · by_cases q : b = a
      · exact q
      · exact absurd (off q) z
  | some o =>
    have e := inK a o hk
    rw [ha] at e
    cases e
    have only : Only (fun _ => none) := fun _ => .inl rfl
    have size : ws.toArray.size ≤ sizeLine := by rw [List.size_toArray, hi.length]; exact hl
    exact from_ (fun _ => none) only (fun b u z => nomatch (show (none : Option HO) = some u from z)) (fun b z => absurd rfl z) (fun z => absurd rfl z) (wish _ only (.inr ⟨_, ws.toArray, _, hk, rfl, rfl, rfl, size, by simpa using rv⟩))
end
/-- the law over a head by facts -/
theorem walk_ofG {l : PySem.W.OpenLaw} {n k : Nat} {q : Program} {loose : List Str} {XP : (Str → Option Value) → Heap → Prop} {YP : World → Heap → Prop} {d : DefRec} {C : CXT} {x : Str} (hn : l.most = some n) (hn2 : n ≤ sizeLine) (hdf : d.params.defaults = []) (room : RoomG k callerA)
    (F : ∀ (w : World) (mg : Str → Option Value) (fa : Addr) (h : Heap), YP w h → h.Ns mainGlobals mg → mg d.name = some (.ref fa) → ∃ (K : PySem.W.Frag) (fd : FuncData) (sp : Sp), K.In h ∧ (∀ (s : Shared) (u : Value), BindsTo s fd ⟨[u], []⟩ [(x, u)]) ∧
      (∀ (H : Hp) (a : Addr) (ns : List Int), ns.length ≤ n → Only H → SqL K H a (ns.map V.int) → sp [.ref a] H (fun v _ => v = .bl true) fun _ _ _ => False) ∧ ∀ base : Heap, K.In base → base.Ns mainGlobals mg → FnG l.prog w K mg base C k fa fd [x] sp)
    (no : ∀ (H : Hp) (s : Shared) (e : Value) (s' : Shared), C [] H s (fun _ _ _ => False) e s' → False) : PySem.W.WalkO q loose XP YP l.row.toRowW d [] (fun f vs => PySem.call f vs) :=
  Att.attach_call hn hdf fun w s₀ s₁ mg mb fa o pm cd doc a vs ns G Y ho hd hcd hmg hobj hints hlen hg => by
    obtain ⟨K, fd, sp, inK, binds, wish, fn⟩ := F w mg fa _ Y G.T.g hmg
    exact law_callG inK G.T.g G.T.b G.T.builtins G.T.nolimit hg hobj hints (Nat.le_trans hlen hn2) room fn binds (fun H only hS => wish H a ns hlen only hS) fun H e s' => no H s₁ e s'
/-! ### what the head tells of exceptions -/
def oexB (K : PySem.W.Frag) (C : Addr) : Bool := (match K.lookup C with
  | some ⟨.type t, _, .cls cd, sl⟩ => (match cd.mro, sl.toList with
    | .ref c :: bm, [_, _, _, _, some (.builtin n), _] => decide (t = "type") && (decide (c = C) && (decide (n = "ValueError.__new__") && (!cd.hasDel && (cd.hasDict && PySem.HandSPX.refsVE bm))))
    | _, _ => false)
  | _ => false) && (He.eqO (PySem.W.findIn K (.ref C) "__setattr__") (some (some (.builtin "object.__setattr__"))) && (decide (PySem.W.subIn K (.ref C) (.type "BaseException") = some true) && (decide (PySem.W.typeIn K (.ref C) = some (.type "type")) && PySem.W.keepIn K (.ref C))))
theorem oexB_ok {K : PySem.W.Frag} {C : Addr} (h : oexB K C = true) : OexC K C := by
  unfold oexB at h
  obtain ⟨h1, h⟩ := Bool.and_eq_true_iff.mp h
  obtain ⟨h2, h⟩ := Bool.and_eq_true_iff.mp h
  obtain ⟨h3, h⟩ := Bool.and_eq_true_iff.mp h
  obtain ⟨h4, h5⟩ := Bool.and_eq_true_iff.mp h
  refine ⟨?_, He.eqO_ok h2, of_decide_eq_true h3, of_decide_eq_true h4, h5⟩
  split at h1
  · rename_i t dd cd sl ho
    split at h1
    · rename_i c bm k0 k1 k2 k3 n k5 hm hs
      simp only [Bool.and_eq_true, decide_eq_true_eq, Bool.not_eq_true'] at h1
      obtain ⟨rfl, rfl, rfl, hdel, hdct, hr⟩ := h1
      obtain ⟨nm, bs, mro, N, qn, hd, sn, sub, ab, col, del⟩ := cd
      dsimp only at hm hdel hdct
      subst hm hdel hdct
      have hsl : sl = #[k0, k1, k2, k3, some (.builtin "ValueError.__new__"), k5] := by
        obtain ⟨l⟩ := sl
        simp only at hs
        rw [hs]
      subst hsl
      exact ⟨nm, qn, N, bs, bm, sn, sub, ab, col, dd, k0, k1, k2, k3, k5, ho, hr⟩
    · cases h1
  · cases h1
/-- an exception's class with its attributes -/
structure ExF (K : PySem.W.Frag) (C : Addr) (ns : List Str) : Prop where
  oex : OexC K C
  xf : XfC K C
  nf : ∀ f ∈ ns, PySem.W.findIn K (.ref C) f = some none
  ini : PySem.W.findIn K (.ref C) "__init__" = some (some (.ref (He.ma K C "__init__")))
  fn : PySem.W.typeIn K (.ref (He.ma K C "__init__")) = some (.type "function")
  te : PySem.W.exmOne K (.ref C) (.ref C) = some true
def exB (K : PySem.W.Frag) (C : Addr) (ns : List Str) : Bool := oexB K C && (xfB K C && ((ns.all fun f => He.eqO (PySem.W.findIn K (.ref C) f) (some none)) && (He.eqO (PySem.W.findIn K (.ref C) "__init__") (some (some (.ref (He.ma K C "__init__")))) && (decide (PySem.W.typeIn K (.ref (He.ma K C "__init__")) = some (.type "function")) && decide (PySem.W.exmOne K (.ref C) (.ref C) = some true)))))
theorem exB_ok {K : PySem.W.Frag} {C : Addr} {ns : List Str} (h : exB K C ns = true) : ExF K C ns := by
  unfold exB at h
  obtain ⟨h1, h⟩ := Bool.and_eq_true_iff.mp h
  obtain ⟨h2, h⟩ := Bool.and_eq_true_iff.mp h
  obtain ⟨h3, h⟩ := Bool.and_eq_true_iff.mp h
  obtain ⟨h4, h⟩ := Bool.and_eq_true_iff.mp h
  obtain ⟨h5, h6⟩ := Bool.and_eq_true_iff.mp h
  exact ⟨oexB_ok h1, xfB_ok h2, fun f hf => He.eqO_ok (List.all_eq_true.mp h3 f hf), He.eqO_ok h4, of_decide_eq_true h5, of_decide_eq_true h6⟩
def xsB (K : PySem.W.Frag) (xs : List (Str × List Str)) : Bool := xs.all fun q => exB K (He.ga K q.1) q.2
theorem xsB_ok {K : PySem.W.Frag} {xs : List (Str × List Str)} (h : xsB K xs = true) {x : Str} {ns : List Str} (m : (x, ns) ∈ xs) : ExF K (He.ga K x) ns := exB_ok (List.all_eq_true.mp h (x, ns) m)
def noB (K : PySem.W.Frag) (no : List (Str × Str)) : Bool := no.all fun q => decide (PySem.W.exmOne K (.ref (He.ga K q.1)) (.ref (He.ga K q.2)) = some false)
theorem noB_ok {K : PySem.W.Frag} {no : List (Str × Str)} (h : noB K no = true) (a b : Str) (m : no.contains (a, b) = true) : PySem.W.exmOne K (.ref (He.ga K a)) (.ref (He.ga K b)) = some false :=
  of_decide_eq_true (List.all_eq_true.mp h (a, b) (List.contains_iff_mem.mp m))
def sysB (K : PySem.W.Frag) : Bool := match K.lookup sysModules with
  | some o => (match o.data with
    | .dict _ _ => true
    | _ => false)
  | none => false
theorem sysB_ok {K : PySem.W.Frag} (h : sysB K = true) : SysD K := by
  unfold sysB at h
  split at h
  · rename_i o ho
    split at h
    · rename_i es n hd
      exact ⟨o, es, n, ho, hd⟩
    · cases h
  · cases h
/-! ### the hook: facts, built-in things, exceptions -/
def builtB (K : PySem.W.Frag) (bs : List (Str × String)) : Bool := bs.all fun q => He.eqO (PySem.W.nsIn K mainGlobals q.1) (some (some (.builtin q.2)))
theorem builtB_ok {K : PySem.W.Frag} {h : Heap} {mg : Str → Option Value} {bs : List (Str × String)} (X : K.In h) (G : h.Ns mainGlobals mg) (c : builtB K bs = true) {x : Str} {b : String} (hx : (x, b) ∈ bs) : mg x = some (.builtin b) :=
  PySem.W.mg_of X G (He.eqO_ok (List.all_eq_true.mp c (x, b) hx))
/-- what is looked at behind the top, n steps from its names -/
def fragZ (n : Nat) (g : Addr → Option Obj) : PySem.W.Frag := He.frG g (sysModules :: He.asD g n)
def moreZ (bs : List (Str × String)) (xs : List (Str × List Str)) (no : List (Str × Str)) (K : PySem.W.Frag) : Bool := builtB K bs && (xsB K xs && (noB K no && sysB K))
def hookZ (n : Nat) (fa : List He.Fa) (fn : List He.DefD) (bs : List (Str × String)) (xs : List (Str × List Str)) (no : List (Str × Str)) : PySem.W.Hook where
  α := He.AlD × Bool
  obs := fun s => (He.obsD fa fn (fragZ n s.heap.get?), moreZ bs xs no (fragZ n s.heap.get?))
  val := fun _ => (He.valD fn, true)
  says := fun _ h => ∃ K : PySem.W.Frag, K.In h ∧ He.SaysD fa fn K ∧ moreZ bs xs no K = true
  of := fun _ _ e => ⟨_, He.frG_in, congrArg Prod.fst e, congrArg Prod.snd e⟩
  keeps := fun _ _ _ ⟨K, hK, c, d⟩ k => ⟨K, PySem.W.Frag.In.keeps hK k, c, d⟩
end Z

set_option Elab.async false
set_option linter.all false
set_option maxRecDepth 100000
set_option maxHeartbeats 4000000
/-! ZZS: sorted(t), t a tuple of ints. -/
namespace Z
open PySem PySem.Spec PyProof.Rows
open L2 StX
section
variable {prog : Program} {wo : World} {A : Around} {E : Value → Shared → Prop} {s : Shared}
theorem collect_tup {t : Addr} {vs : List Value} {Q : List Value → Shared → Prop} (ht : IsTup s.heap t vs.toArray) (h : Q vs { s with heap := (s.heap.push (seqObj "list" #[] 0)).update s.heap.objs.size (Obj.mapSeq (· ++ vs.toArray)) }) (hsz : vs.length ≤ sizeLine) : wpAny (model prog wo) A (collect (.ref t)) Q E s := by
  obtain ⟨o, ho, hc, n, hd⟩ := id ht
  unfold collect
  refine wpAny_bind (wpAny_runValue (codeAny_builtin entry_proto_collect' ?_))
  show wpAny _ _ (do again (.builtin "list.__iadd__" ⟨[← newList [], .ref t], []⟩)) _ _ s
  refine wpAny_bind (wpAny_newList (wpAny_pure ⟨Code.quiet_builtin _ (by decide +kernel), codeAny_builtin entry_list_iadd' ?_⟩))
  show wpAny _ _ (Builtin.List.listExtendWith (.ref s.heap.objs.size) (.ref t) (.ref s.heap.objs.size)) _ _ { s with heap := s.heap.push (seqObj "list" #[] 0) }
  unfold Builtin.List.listExtendWith
  have ho' : (s.heap.push (seqObj "list" #[] 0)).get? t = some o := Heap.get?_push_of_some _ ho
  refine wpAny_bind (wpAny_typeOf (T := "tuple") ⟨o, ho', hc⟩ ?_)
  have h2 : (Value.type "tuple" == Value.type "tuple") = true := by rfl
  rw [if_pos (by rw [h2]; simp)]
  refine wpAny_bind (listItems_at ho' hd ?_)
  refine wpAny_bind (listItems_at (xs := #[]) (n := 0) (Heap.get?_push_size _ rfl) rfl ?_)
  rw [if_neg (by simp)]
  refine wpAny_bind (listUpdate_at (xs := #[]) (n := 0) (Heap.get?_push_size _ rfl) rfl ?_ (Nat.zero_le _) (by show (#[] ++ vs.toArray).size ≤ sizeLine + 1; simp only [Array.size_append, List.size_toArray, List.length_nil]; omega))
  refine wpAny_pure ?_
  show wpAny (model prog wo) A (do
      let o ← load s.heap.objs.size
      match o.data with
      | .seq xs _ => pure xs.toList
      | _ => unsupported "internal:collect") Q E { s with heap := (s.heap.push (seqObj "list" #[] 0)).update s.heap.objs.size (Obj.mapSeq (· ++ vs.toArray)) }
  refine wpAny_bind (wpAny_load (get?_update_seq (Heap.get?_push_size _ rfl) _) ?_)
  show wpAny _ _ (pure ((#[] : Array Value) ++ vs.toArray).toList) Q E _
  rw [show ((#[] : Array Value) ++ vs.toArray).toList = vs by simp]
  exact wpAny_pure h
open SrtO in
theorem sorted_tup {t : Addr} {vs : List Value} {ltv : Value → Value → Bool} {Q : Value → Shared → Prop} (O : Swo ltv) (ht : IsTup s.heap t vs.toArray) (hz : vs.length ≤ sizeLine)
    (hS : 2 ≤ vs.length → ∀ (h₁ : Heap) (a : Addr), h₁.get? a = some (seqObj "list" vs.toArray 0) → (∀ b o, s.heap.get? b = some o → b ≠ a ∧ h₁.get? b = some o) → SortableO prog wo A.in1.in1 { s with heap := h₁ } a vs ltv)
    (h : ∀ out : List Value, Srtd ltv out → Stb ltv out vs → Q (.ref (s.heap.objs.size + 1)) { s with heap := sortedAll s.heap vs out.toArray }) : wpAny (model prog wo) A (call (.builtin "sorted") [.ref t]) Q E s := by
  refine Calls.call_function_entry kind_sorted plain_sorted entry_sorted (args_sorted1 _) ?_
  unfold Builtin.«sorted»
  refine wpAny_bind (m := checkCount "sorted" 1 1 _) (wpAny_pure (wpAny_bind (collect_tup ht (wpAny_bind (wpAny_newList ?_ hz)) hz)))
  have size : ((s.heap.push (seqObj "list" #[] 0)).update s.heap.objs.size (Obj.mapSeq (· ++ vs.toArray))).objs.size = s.heap.objs.size + 1 := by rw [Heap.size_update, size_push']
  have hoL : (((s.heap.push (seqObj "list" #[] 0)).update s.heap.objs.size (Obj.mapSeq (· ++ vs.toArray))).push (seqObj "list" vs.toArray 0)).get? (s.heap.objs.size + 1) = some (seqObj "list" vs.toArray 0) := by
    rw [← size]; exact Heap.get?_push_size _ rfl
  have old : ∀ b o, s.heap.get? b = some o → b ≠ s.heap.objs.size + 1 ∧ (((s.heap.push (seqObj "list" #[] 0)).update s.heap.objs.size (Obj.mapSeq (· ++ vs.toArray))).push (seqObj "list" vs.toArray 0)).get? b = some o := fun b o q => by
    have lt : b < s.heap.objs.size := Heap.lt_size q
    refine ⟨Nat.ne_of_lt (Nat.lt_succ_of_lt lt), Heap.get?_push_of_some _ ?_⟩
    rw [Heap.get?_update_ne _ _ _ _ (Nat.ne_of_lt lt)]; exact Heap.get?_push_of_some _ q
  show wpAny _ _ _ _ _ { s with heap := ((s.heap.push (seqObj "list" #[] 0)).update s.heap.objs.size (Obj.mapSeq (· ++ vs.toArray))).push (seqObj "list" vs.toArray 0) }
  rw [size]
  exact wpAny_bind (wpAny_holding (wpAny_call_entry slot_list_sort ⟨_, hoL, rfl⟩ entry_list_sort (list_sort_ord O hoL hz (fun h2 => hS h2 _ _ hoL old) fun out a b => ⟨_, rfl, wpAny_pure ⟨_, rfl, h out a b⟩⟩) (args_list_sort _)))
end
section
variable {Γ : Cx} {w : Wd}
def rSortedB (K : PySem.W.Frag) : List V → Hp → VK → Prop := fun vs H Q => ∃ (a : Addr) (ns : List Int), vs = [V.ref a] ∧ (SqL K H a (ns.map V.int) ∨ SqT K H a (ns.map V.int)) ∧ ∀ (ms : List Int) (p : Addr), ms.Perm ns → ms.Pairwise (· ≤ ·) → H p = none → Q (.ref p) (upd H p (.lst (ms.map V.int)))
theorem cr_sortedB : CallR Γ (.builtin "sorted") (rSortedB Γ.K) := by
  intro pins s σ H vs us Q I r h
  obtain ⟨a, ns, rfl, hs | hs, q⟩ := h
  · exact cr_sortedI pins s σ H _ us Q I r ⟨a, ns, rfl, hs, q⟩
  · obtain ⟨its, rv, ht, hz⟩ := I.tuple hs
    rw [Vals.ref1 r]
    have hi := rv.ints
    refine sorted_tup SrtO.swo_int ht (by rw [← rv.length]; exact hz) (fun h2 h₁ a' _ _ => SrtO.ints_sortable hi h2) fun out h1 h2 => ?_
    obtain ⟨k1, k2, k3⟩ := SrtO.ints_out hi h1 h2
    obtain ⟨ep, at_⟩ := PyProof.Rows.sortedAll_at s.heap its out.toArray
    have len : ((out.map SrtO.iv).map V.int).length ≤ sizeLine := by
      rw [List.length_map, k2.length_eq]
      simpa using hz
    exact ⟨.ref _, upd H (s.heap.objs.size + 1) (.lst ((out.map SrtO.iv).map V.int)), I.laid (t' := s.toks) (fun _ _ => PyProof.Rows.sortedAll_old) (Nat.le_succ _) ⟨len, out, ep, vals_of_ints k1, at_⟩, rfl, q _ _ k2 k3 (I.hok.fresh (Nat.le_succ _))⟩
/-- the ints of a list or a tuple -/
def seqInts (d : D) : Option (List Int) := d.seq.bind intsOf
def oSortedB : Op
  | [d] => (match seqInts d with
    | some ns => .ok (.node (.lst true) ((srtI ns).map .int)) [d]
    | none => .bad)
  | _ => .bad
theorem od_sortedB : OpD w (rN (rSortedB w.K)) oSortedB := fun I F es us H Q E hs o => by
  unfold oSortedB at o
  split at o
  · rename_i d
    match us, hs.length, hs, o with
    | [v], _, hs, o =>
      cases e : seqInts d with
      | none => simp only [e] at o; exact o.elim
      | some ns =>
        simp only [e] at o
        obtain ⟨xs, e1, e2⟩ := Option.bind_eq_some_iff.mp e
        obtain ⟨a, vs, rfl, hq, _, _, hl, ⟨fp, r⟩, _⟩ := hs.seq e1
        have ev := intsOf_rep r e2
        subst ev
        refine ⟨a, ns, rfl, hq, fun ms p hp hw np => ?_⟩
        have e3 := srtI_one hp hw
        subst e3
        exact o (.ref p) I _ (Le.refl I) (Hs.newO (t := .lst true) (Hs.ofInts hs (srtI ns)) (by simp) np rfl trivial (show upd H p (.lst ((srtI ns).map V.int)) p = some (.lst ((srtI ns).map V.int)) from upd_same))
  · exact o.elim
end
end Z

set_option Elab.async false
set_option linter.all false
set_option maxRecDepth 100000
set_option maxHeartbeats 4000000
/-! ZZT: going through the mirrors -/
namespace Z
open PySem PySem.Spec PyProof.Rows
open L2 StX
theorem fnOp_rt {n m : Nat} {pin : List Nat} {b : S} {ds : List D} {r : D} {e : Env} (hn : ds.length = n) (h : b (ds ++ List.replicate (m - n) .any) = .rt r e) (he : n ≤ e.length) : fnOp n m pin b ds = .ok r (back pin n e) := by
  simp only [fnOp, hn, if_true, h, he]
theorem fnOp_nx {n m : Nat} {pin : List Nat} {b : S} {ds : List D} {e : Env} (hn : ds.length = n) (h : b (ds ++ List.replicate (m - n) .any) = .nx e) (he : n ≤ e.length) : fnOp n m pin b ds = .ok .non (back pin n e) := by
  simp only [fnOp, hn, if_true, h, he]
theorem dfOp_ok {op : Op} {ds : List D} {r : D} {es : List D} (h : op ds = .ok r es) (hl : es.length = ds.length) : dfOp op [] ds = .ok r es := by
  simp only [dfOp, List.append_nil, h]
  rw [← hl, List.take_length]
theorem eqD_int (neg : Bool) (i j : Int) : eqD neg (.int i) (.int j) = some (.bl (decide (i = j) != neg)) := by
  simp only [eqD, D.py]
  rw [if_pos ⟨rfl, rfl⟩]
  simp only [PyData.eqv]
  congr 2
@[simp] theorem frz_int (i : Int) : D.frz (.int i) = .int i := by rw [D.frz]; nofun
@[simp] theorem frz_bl (i : Bool) : D.frz (.bl i) = .bl i := by rw [D.frz]; nofun
@[simp] theorem frz_non : D.frz .non = .non := by rw [D.frz]; nofun
@[simp] theorem frz_any : D.frz .any = .any := by rw [D.frz]; nofun
theorem frz_node (t : Tag) (xs : List D) : D.frz (.node t xs) = .node t.frz (frzL xs) := by rw [D.frz]
theorem frzL_nil : frzL [] = [] := by rw [frzL]
theorem frzL_cons (d : D) (ds : List D) : frzL (d :: ds) = d.frz :: frzL ds := by rw [frzL]
/-- whole numbers as data -/
def dI (l : List Int) : List D := l.map .int
@[simp] theorem dI_nil : dI [] = [] := rfl
@[simp] theorem dI_cons (x : Int) (l : List Int) : dI (x :: l) = .int x :: dI l := rfl
@[simp] theorem dI_append (a b : List Int) : dI (a ++ b) = dI a ++ dI b := List.map_append ..
@[simp] theorem dI_length (a : List Int) : (dI a).length = a.length := List.length_map ..
@[simp] theorem frzL_dI (l : List Int) : frzL (dI l) = dI l := by
  rw [frzL_eq]
  induction l with
  | nil => rfl
  | cons x l ih => simp [ih]
theorem isFrz_int (i : Int) : D.isFrz (.int i) = true := by rw [D.isFrz]; nofun
theorem isFrzL_dI (l : List Int) : isFrzL (dI l) = true := by
  induction l with
  | nil => rw [dI_nil, isFrzL]
  | cons x l ih => rw [dI_cons, isFrzL, isFrz_int, ih]; rfl
theorem intsOf_dI (l : List Int) : intsOf (dI l) = some l := by
  induction l with
  | nil => rfl
  | cons x l ih => simp [intsOf, ih]
theorem dI_get (l : List Int) (i : Nat) : (dI l)[i]? = (l[i]?).map .int := by simp [dI]
/-- the box of draws: at most k draws so far -/
def Bx (k : Nat) (d : D) : Prop := ∃ (a : Int) (g : Bool) (c j : Int), d = .node (.lst true) [.int a, .bl g, .int c, .int j] ∧ 0 ≤ a ∧ 0 ≤ c ∧ c < 2147483648 ∧ 0 ≤ j ∧ j ≤ k
theorem CPow_of {i j : Int} (h : 0 ≤ j) (h2 : j ≤ 1000000) (h3 : 0 ≤ i) (h4 : i < 18446744073709551616) : CPow i j := by
  unfold CPow
  refine ⟨h, h2, ?_⟩
  omega
theorem CMul_r {i j : Int} (h : -18446744073709551616 < j) (h2 : j < 18446744073709551616) : CMul i j := by
  unfold CMul
  right
  omega
theorem CMul_l {i j : Int} (h : -18446744073709551616 < i) (h2 : i < 18446744073709551616) : CMul i j := by
  unfold CMul
  left
  omega
theorem CDivN_of {j : Int} {i : Int} (h : 0 < j) (h2 : j < 1000000) : CDivN i j := by
  unfold CDivN
  omega
theorem ix_ok {t : Tag} {xs ys : List D} {i : Int} {j : Nat} {c : D} (hs : D.seq (.node t xs) = some ys) (hi : ixN ys.length i = some j) (hx : ys[j]? = some c) (hf : c.isFrz = true) : oIx [.node t xs, .int i] = .ok c [.node t xs, .int i] := by
  simp only [oIx, hs, hi, hx, hf, if_true]
theorem isFrz_bl (i : Bool) : D.isFrz (.bl i) = true := by rw [D.isFrz]; nofun
theorem fmod_lt {a m : Int} (h : 0 < m) : a.fmod m < m := by
  rw [Int.fmod_eq_emod_of_nonneg _ (by omega)]
  exact Int.emod_lt_of_pos _ h
theorem fmod_nn {a m : Int} (h : 0 < m) : 0 ≤ a.fmod m := by
  rw [Int.fmod_eq_emod_of_nonneg _ (by omega)]
  exact Int.emod_nonneg _ (by omega)
theorem fdiv_nn {a m : Int} (h : 0 < m) (ha : 0 ≤ a) : 0 ≤ a.fdiv m := by
  rw [Int.fdiv_eq_ediv_of_nonneg _ (by omega)]
  exact Int.ediv_nonneg ha (by omega)
/-- the box of draws -/
abbrev bx (a : Int) (g : Bool) (c j : Int) : D := .node (.lst true) [.int a, .bl g, .int c, .int j]
theorem bx0 (a : Int) (g : Bool) (c j : Int) : oIx [bx a g c j, .int 0] = .ok (.int a) [bx a g c j, .int 0] := ix_ok rfl rfl rfl (isFrz_int _)
theorem bx1 (a : Int) (g : Bool) (c j : Int) : oIx [bx a g c j, .int 1] = .ok (.bl g) [bx a g c j, .int 1] := ix_ok rfl rfl rfl (isFrz_bl _)
theorem bx2 (a : Int) (g : Bool) (c j : Int) : oIx [bx a g c j, .int 2] = .ok (.int c) [bx a g c j, .int 2] := ix_ok rfl rfl rfl (isFrz_int _)
theorem bx3 (a : Int) (g : Bool) (c j : Int) : oIx [bx a g c j, .int 3] = .ok (.int j) [bx a g c j, .int 3] := ix_ok rfl rfl rfl (isFrz_int _)
theorem ix40 : ixN 4 0 = some 0 := rfl
theorem ix43 : ixN 4 3 = some 3 := rfl
theorem loopS_inv {α : Type} {t : Tgt} {b : S} {tof : α → D} {P : List α → Env → Prop} : ∀ (xs ys : List α) (env : Env),
    (∀ ys x zs e, ys ++ x :: zs = (ys ++ x :: zs) → P ys e → (∃ e1 e2, asg t (tof x) e = some e1 ∧ (b e1 = .nx e2 ∨ b e1 = .ct e2) ∧ (P (ys ++ [x]) e2))) →
    P ys env → ∃ e', loopS t b (xs.map tof) env = .nx e' ∧ P (ys ++ xs) e' := by
  intro xs
  induction xs with
  | nil => exact fun ys env _ h => ⟨env, rfl, by simpa using h⟩
  | cons x xs ih =>
    intro ys env hb h
    obtain ⟨e1, e2, h1, h2, h3⟩ := hb ys x xs env rfl h
    obtain ⟨e', h4, h5⟩ := ih (ys ++ [x]) e2 hb h3
    refine ⟨e', ?_, by simpa using h5⟩
    show loopS t b (tof x :: xs.map tof) env = .nx e'
    simp only [loopS, h1]
    rcases h2 with h2 | h2 <;> simp only [h2] <;> exact h4
/-- as above; the step knows where it is in the whole list -/
theorem loopS_all {α : Type} {t : Tgt} {b : S} {tof : α → D} {P : List α → Env → Prop} (all : List α) : ∀ (xs ys : List α) (env : Env), all = ys ++ xs →
    (∀ ys x zs e, all = ys ++ x :: zs → P ys e → (∃ e1 e2, asg t (tof x) e = some e1 ∧ (b e1 = .nx e2 ∨ b e1 = .ct e2) ∧ (P (ys ++ [x]) e2))) →
    P ys env → ∃ e', loopS t b (xs.map tof) env = .nx e' ∧ P all e' := by
  intro xs
  induction xs with
  | nil => exact fun ys env ha _ h => ⟨env, rfl, by simpa [ha] using h⟩
  | cons x xs ih =>
    intro ys env ha hb h
    obtain ⟨e1, e2, h1, h2, h3⟩ := hb ys x xs env ha h
    obtain ⟨e', h4, h5⟩ := ih (ys ++ [x]) e2 (by simpa using ha) hb h3
    refine ⟨e', ?_, h5⟩
    show loopS t b (tof x :: xs.map tof) env = .nx e'
    simp only [loopS, h1]
    rcases h2 with h2 | h2 <;> simp only [h2] <;> exact h4
theorem loopC_map {α : Type} {k : Nat} {m : M} {vs : List Nat} {tof f : α → D} {env : Env} (hk : k < env.length) : ∀ (xs : List α) (acc : List D),
    (∀ x ∈ xs, ∃ e', m (env.set k (tof x)) = .ok (f x) e' ∧ anyAll vs e' = env) → acc.length + xs.length ≤ 100000 →
    loopC (.nm k) none m vs (xs.map tof) acc env = some (acc ++ xs.map f, env) := by
  intro xs
  induction xs with
  | nil => intro acc _ _; simp [loopC]
  | cons x xs ih =>
    intro acc hm hl
    obtain ⟨e', h1, h2⟩ := hm x (List.mem_cons_self ..)
    simp only [List.length_cons] at hl
    have := ih (acc ++ [f x]) (fun y hy => hm y (List.mem_cons_of_mem _ hy)) (by simp only [List.length_append, List.length_cons, List.length_nil]; omega)
    simp only [List.map_cons, loopC, asg, hk, if_true, h1, h2, if_pos (show acc.length < 100000 by omega), this]
    simp
theorem mLc_map {α : Type} {src : Src} {k : Nat} {m : M} {vs : List Nat} {tof f : α → D} {env e : Env} {xs : List α} (hs : src env = .ok (xs.map tof) e) (hk : k < (anyAll vs e).length)
    (hm : ∀ x ∈ xs, ∃ e', m ((anyAll vs e).set k (tof x)) = .ok (f x) e' ∧ anyAll vs e' = anyAll vs e) (hl : xs.length ≤ 100000) (hg : mrg (own? vs) e (anyAll vs e) = e) :
    mLc src (.nm k) none m vs env = .ok (.node (.lst true) (xs.map f)) e := by
  have := loopC_map hk xs [] hm (by simpa using hl)
  simp only [mLc, hs, this, hg, List.nil_append]
/-- with an invariant over what is kept and found -/
theorem loopC_inv {α : Type} {t : Tgt} {m : M} {vs : List Nat} {tof : α → D} {P : List α → List D → Env → Prop} (all : List α) (hn : all.length ≤ 100000) : ∀ (xs ys : List α) (acc : List D) (env : Env), all = ys ++ xs → acc.length = ys.length →
    (∀ ys x zs acc e, all = ys ++ x :: zs → P ys acc e → ∃ e1 r e2, asg t (tof x) e = some e1 ∧ m e1 = .ok r e2 ∧ P (ys ++ [x]) (acc ++ [r]) (anyAll vs e2)) →
    P ys acc env → ∃ acc' e', loopC t none m vs (xs.map tof) acc env = some (acc', e') ∧ acc'.length = all.length ∧ P all acc' e' := by
  intro xs
  induction xs with
  | nil => exact fun ys acc env ha hl _ h => ⟨acc, env, rfl, by simp [ha, hl], by simpa [ha] using h⟩
  | cons x xs ih =>
    intro ys acc env ha hl hb h
    obtain ⟨e1, r, e2, h1, h2, h3⟩ := hb ys x xs acc env ha h
    obtain ⟨acc', e', h4, h5, h6⟩ := ih (ys ++ [x]) (acc ++ [r]) (anyAll vs e2) (by simpa using ha) (by simp [hl]) hb h3
    refine ⟨acc', e', ?_, h5, h6⟩
    have hl2 : acc.length < 100000 := by
      have : all.length = ys.length + (xs.length + 1) := by rw [ha]; simp
      omega
    simp only [List.map_cons, loopC, h1, h2, if_pos hl2]
    exact h4
theorem rngL_nat (n : Nat) : rngL 0 n = (List.range n).map fun k : Nat => .int (k : Int) := by
  unfold rngL
  apply List.map_congr_left
  intro k _
  rw [Int.zero_add]
theorem iRng_nat {ops : List Opd} {env e : Env} {n : Nat} (h : evA ops env = .ok [.int (n : Int)] e) (hn : n < 1000000) : iRng ops env = .ok ((List.range n).map fun k : Nat => .int (k : Int)) e := by
  simp only [iRng, h]
  rw [if_pos (by omega), ← rngL_nat, Int.toNat_natCast]
theorem isFrz_node {t : Tag} {xs : List D} (h : t.own = false) (h2 : isFrzL xs = true) : D.isFrz (.node t xs) = true := by rw [D.isFrz, h, h2]; rfl
theorem ixN_nat {n k : Nat} (h : k < n) : ixN n (k : Int) = some k := by
  unfold ixN
  rw [if_pos (by omega), if_pos (by omega), Int.toNat_natCast]
theorem ix_ints {t : Tag} {l : List Int} {k : Nat} {a : Int} (ht : D.seq (.node t (dI l)) = some (dI l)) (h : l[k]? = some a) : oIx [.node t (dI l), .int (k : Int)] = .ok (.int a) [.node t (dI l), .int (k : Int)] := by
  have hk : k < l.length := (List.getElem?_eq_some_iff.mp h).1
  exact ix_ok ht (ixN_nat (by simpa using hk)) (by rw [dI_get, h]; rfl) (isFrz_int _)
theorem int_map {α : Type} (l : List α) (h : α → Int) : dI (l.map h) = l.map fun a => D.int (h a) := by
  unfold dI
  rw [List.map_map]
  rfl
theorem lstInts_dI (o : Bool) (l : List Int) : lstInts (.node (.lst o) (dI l)) = some l := intsOf_dI l
theorem sorted_ok (o : Bool) (l : List Int) : oSorted [.node (.lst o) (dI l)] = .ok (.node (.lst true) (dI (srtI l))) [.node (.lst o) (dI l)] := by
  simp only [oSorted, lstInts_dI]
  rfl
theorem frzL_ints {α : Type} (l : List α) (h : α → Int) : frzL (l.map fun a => D.int (h a)) = l.map fun a => D.int (h a) := by rw [← int_map, frzL_dI]
theorem isAny_node (t : Tag) (xs : List D) : (D.node t xs).isAny = false := rfl
theorem isAny_int (i : Int) : (D.int i).isAny = false := rfl
theorem len_node {α : Type} (t : Tag) (xs ys : List D) (h : D.seq (.node t xs) = some ys) : oLen [.node t xs] = .ok (.int ys.length) [.node t xs] := by
  simp only [op1, h, Option.map_some]
theorem dI_snoc (l : List Int) (k : Int) : dI l ++ [D.int k] = dI (l ++ [k]) := by simp
theorem set_same {α : Type} : ∀ {l : List α} {i : Nat} {d : α}, l[i]? = some d → l.set i d = l
  | [], _, _, h => by cases h
  | x :: l, 0, d, h => by simp at h; simp [h]
  | x :: l, i + 1, d, h => by simp at h; simp [set_same h]
theorem mVar_s {env : Env} {i : Nat} {d : D} (h : env[i]? = some d) (ha : d.isAny = false) (hf : d.frz = d) : mVar i env = .ok d env := by
  simp only [mVar, h]
  cases d with
  | any => cases ha
  | _ => simp only [hf, set_same h]
theorem mApp_v1 {m : M} {f : Op} {e e1 : Env} {r r' : D} {es : List D} (h : m e = .ok r e1) (h2 : f [r] = .ok r' es) : mApp f [.val m] e = .ok r' e1 := by
  simp only [mApp, evA, h, h2]
  cases es <;> rfl
theorem loopS_nx {t : Tgt} {b : S} {x : D} {xs : List D} {env e1 e2 : Env} {r : SRes} (h : asg t x env = some e1) (hb : b e1 = .nx e2) (hr : loopS t b xs e2 = r) : loopS t b (x :: xs) env = r := by
  simp only [loopS, h, hb, hr]
theorem loopS_ct {t : Tgt} {b : S} {x : D} {xs : List D} {env e1 e2 : Env} {r : SRes} (h : asg t x env = some e1) (hb : b e1 = .ct e2) (hr : loopS t b xs e2 = r) : loopS t b (x :: xs) env = r := by
  simp only [loopS, h, hb, hr]
theorem sFor_ok {src : Src} {t : Tgt} {b : S} {xs : List D} {env e : Env} {r : SRes} (h : src env = .ok xs e) (hr : loopS t b xs e = r) : sFor src t b env = r := by
  simp only [sFor, h, hr]
theorem sSeq_nx {a b : S} {env e : Env} {r : SRes} (h : a env = .nx e) (hr : b e = r) : sSeq a b env = r := by
  simp only [sSeq, h, hr]
theorem sSeq_rt {a b : S} {env e : Env} {d : D} (h : a env = .rt d e) : sSeq a b env = .rt d e := by
  simp only [sSeq, h]
theorem sSeq_ct {a b : S} {env e : Env} (h : a env = .ct e) : sSeq a b env = .ct e := by
  simp only [sSeq, h]
theorem sAsg_ok {t : Tgt} {m : M} {env e e2 : Env} {r : D} (h : m env = .ok r e) (hr : asg t r e = some e2) : sAsg t m env = .nx e2 := by
  simp only [sAsg, h, hr]
theorem sIf_t {c : M} {a b : S} {env e : Env} {r : SRes} (h : c env = .ok (.bl true) e) (hr : a e = r) : sIf c a b env = r := by
  simp only [sIf, h, hr]
theorem sIf_f {c : M} {a b : S} {env e : Env} {r : SRes} (h : c env = .ok (.bl false) e) (hr : b e = r) : sIf c a b env = r := by
  simp only [sIf, h, hr]
theorem sRet_ok {m : M} {env e : Env} {r : D} (h : m env = .ok r e) : sRet m env = .rt r e := by
  simp only [sRet, h]
theorem sDrop_ok {m : M} {env e : Env} {r : D} (h : m env = .ok r e) : sDrop m env = .nx e := by
  simp only [sDrop, h]
theorem mAnd_t {a b : M} {env e : Env} {r : Res} (h : a env = .ok (.bl true) e) (hr : b e = r) : mAnd a b env = r := by
  simp only [mAnd, h, hr]
theorem mAnd_f {a b : M} {env e : Env} (h : a env = .ok (.bl false) e) : mAnd a b env = .ok (.bl false) e := by
  simp only [mAnd, h]
theorem mOr_f {a b : M} {env e : Env} {r : Res} (h : a env = .ok (.bl false) e) (hr : b e = r) : mOr a b env = r := by
  simp only [mOr, h, hr]
theorem mOr_t {a b : M} {env e : Env} (h : a env = .ok (.bl true) e) : mOr a b env = .ok (.bl true) e := by
  simp only [mOr, h]
theorem mNot_ok {a : M} {env e : Env} {b : Bool} (h : a env = .ok (.bl b) e) : mNot a env = .ok (.bl (!b)) e := by
  simp only [mNot, h]
theorem mIf_t {c a b : M} {env e : Env} {r : Res} (h : c env = .ok (.bl true) e) (hr : a e = r) : mIf c a b env = r := by
  simp only [mIf, h, hr]
theorem mIf_f {c a b : M} {env e : Env} {r : Res} (h : c env = .ok (.bl false) e) (hr : b e = r) : mIf c a b env = r := by
  simp only [mIf, h, hr]
/-- an operation on what evA gives; its operands come back as they were -/
theorem mApp_ok {f : Op} {ops : List Opd} {env e : Env} {ds es : List D} {r : D} (h : evA ops env = .ok ds e) (hf : f ds = .ok r es) : mApp f ops env = .ok r (putA ops es e) := by
  simp only [mApp, h, hf]
theorem evA_nil {env : Env} : evA [] env = .ok [] env := rfl
theorem evA_val {m : M} {ops : List Opd} {env e1 e2 : Env} {r : D} {ds : List D} (h : m env = .ok r e1) (h2 : evA ops e1 = .ok ds e2) : evA (.val m :: ops) env = .ok (r :: ds) e2 := by
  simp only [evA, h, h2]
theorem evA_peek {i : Nat} {ops : List Opd} {env e1 : Env} {d0 d : D} {ds : List D} (h0 : env[i]? = some d0) (a0 : d0.isAny = false) (h : evA ops env = .ok ds e1) (h1 : e1[i]? = some d) (a1 : d.isAny = false) : evA (.peek i :: ops) env = .ok (d :: ds) (e1.set i .any) := by
  simp only [evA, h0, a0, h, h1, a1]
  simp
theorem isFrzL_at {xs : List D} {k : Nat} {x : D} (hf : isFrzL xs = true) (h : xs[k]? = some x) : x.isFrz = true := by
  rw [isFrzL_all, List.all_eq_true] at hf
  exact hf x (List.mem_of_getElem? h)
theorem ix_int {t : Tag} {l : List Int} {x : Int} (ht : D.seq (.node t (dI l)) = some (dI l)) (h0 : 0 ≤ x) (h1 : x < l.length) : oIx [.node t (dI l), .int x] = .ok (.int (l[x.toNat]?.getD 0)) [.node t (dI l), .int x] := by
  obtain ⟨n, rfl⟩ : ∃ n : Nat, x = n := ⟨x.toNat, by omega⟩
  have hn : n < l.length := by omega
  have hg : l[n]? = some (l[n]?.getD 0) := by rw [List.getElem?_eq_getElem hn]; rfl
  rw [Int.toNat_natCast]
  exact ix_ints ht hg
theorem sum_ok (o : Bool) (l : List Int) : oSum [.node (.lst o) (dI l)] = .ok (.int l.sum) [.node (.lst o) (dI l)] := by
  simp only [op1, lstInts_dI, Option.map_some]
theorem mSlice_to {m hi : M} {env e0 e2 : Env} {d r : D} {n : Int} (h : m env = .ok d e0) (hh : hi e0 = .ok (.int n) e2) (hs : slD d none (some n) = some r) : mSlice m none (some hi) env = .ok r e2 := by
  simp only [mSlice, h, evP, ptI, hh, hs]
theorem pow18 : oPow [.int 10, .int 18] = .ok (.int 1000000000000000000) [.int 10, .int 18] := by kernel_rfl
theorem sSetI_ok {i j : Nat} {m mi : M} {env e1 e2 : Env} {r : D} {xs ys : List D} {k : Int} (hm : m env = .ok r e1) (h1 : e1[i]? = some (.node (.lst true) ys)) (hk : mi e1 = .ok (.int k) e2) (h2 : e2[i]? = some (.node (.lst true) xs)) (hj : ixN xs.length k = some j) : sSetI i m mi env = .nx (e2.set i (.node (.lst true) (xs.set j r))) := by
  simp only [sSetI, hm, h1, hk, h2, hj]

/-! ### the laws' own draws, the same in nearly all of them -/
abbrev mTake (c : Int) : S := (sSeq (sIf (mAnd (mApp oIx [(.peek 0), (.val (mC (.int 1)))]) (mApp (oGt) [(.val (mApp oIx [(.peek 0), (.val (mC (.int 0)))])), (.val (mC (.int 0)))])) (sSeq (sAsg (.nm 3) (mApp oMod [(.val (mApp (op1 intOf) [(.val (mApp oIx [(.peek 0), (.val (mC (.int 0)))]))])), (.val (mVar 1))])) (sSeq (sSetI 0 (mApp oDiv [(.val (mApp oIx [(.peek 0), (.val (mC (.int 0)))])), (.val (mVar 1))]) (mC (.int 0))) (sRetV 3))) sNext) (sSeq (sSetI 0 (mApp oAdd [(.val (mApp oIx [(.peek 0), (.val (mC (.int 3)))])), (.val (mC (.int 1)))]) (mC (.int 3))) (sSeq (sAsg (.nm 2) (mApp oMod [(.val (mApp (op1 intOf) [(.val (mApp oPow [(.val (mApp oAdd [(.val (mApp oAdd [(.val (mApp oIx [(.peek 0), (.val (mC (.int 2)))])), (.val (mApp oMul [(.val (mC (.int 15485863))), (.val (mApp oIx [(.peek 0), (.val (mC (.int 3)))]))]))])), (.val (mC (.int c)))])), (.val (mC (.int 5)))]))])), (.val (mC (.int 2147483647)))])) (sRet (mApp oMod [(.val (mApp oDiv [(.val (mApp oMod [(.val (mApp (op1 intOf) [(.val (mApp oPow [(.val (mApp oAdd [(.val (mApp oMul [(.val (mVar 2)), (.val (mC (.int 48271)))])), (.val (mApp oMul [(.val (mC (.int 104723))), (.val (mApp oIx [(.peek 0), (.val (mC (.int 3)))]))]))])), (.val (mC (.int 3)))]))])), (.val (mC (.int 2147483587)))])), (.val (mC (.int 64)))])), (.val (mVar 1))])))))
theorem take_gen {q : Int} (q0 : 0 ≤ q) (q1 : q < 1000000000) {k : Nat} {d : D} {m : Int} (h : Bx k d) (hk : k < 1000000) (hm : 0 < m) (hm2 : m < 1000000) :
    ∃ (r : Int) (d' : D), fnOp 2 4 [0, 1] (mTake q) [d, .int m] = .ok (.int r) [d', .int m] ∧ 0 ≤ r ∧ r < m ∧ Bx (k + 1) d' := by
  obtain ⟨a, g, c, j, rfl, ha, hc, hc2, hj, hj2⟩ := h
  have D1 : ∀ x : Int, CDivN x m := fun x => CDivN_of hm hm2
  by_cases hb : g = true ∧ 0 < a
  · obtain ⟨rfl, hb2⟩ := hb
    refine ⟨a.fmod m, bx (a.fdiv m) true c j, ?_, fmod_nn hm, fmod_lt hm, ?_⟩
    · simp only [fnOp]
      simp only [sSeq, sAsg, sIf, sRet, sRetV, sDrop, sPar, sNext, sBad, sCnt, sFor, mVar, mC, mApp, evA, putA, op1, op2, onInt, onI1, mAnd, mOr, mNot, mIf, mChain, frz_int, frz_bl, frz_non, frz_any, frz_node, frzL_nil, frzL_cons, frzL_dI, Tag.frz, D.isAny, asg, asgL, Option.bind, List.map_cons, List.map_nil, List.getElem?_cons_zero, List.getElem?_cons_succ, List.set_cons_zero, List.set_cons_succ, Bool.false_eq_true, if_false, if_true, reduceIte, List.length_cons, List.length_nil, Nat.zero_add, List.cons_append, List.nil_append, List.replicate, eqD_int, D.seq, intOf, Bool.not_true, Bool.not_false, oTup, oLst, Option.map_some, Option.map_none, decide_eq_true_eq, Nat.lt_add_left_iff_pos, Nat.zero_lt_succ, Nat.reduceLeDiff, Nat.reduceAdd, Nat.reduceSub, Nat.reduceLT, mTake, bx0, bx1, decide_eq_true hb2, sSetI, ix40, if_pos (D1 _), if_pos (show m ≠ 0 by omega)]
      rfl
    · exact ⟨_, _, _, _, rfl, fdiv_nn hm ha, hc, hc2, hj, by omega⟩
  · have hm0 : m ≠ 0 := by omega
    have key : ∀ (g' : Bool) (hq : (match g' with | true => decide (0 < a) | false => false) = false), ∃ (r : Int), fnOp 2 4 [0, 1] (mTake q) [bx a g' c j, .int m] = .ok (.int r) [bx a g' c (j + 1), .int m] ∧ 0 ≤ r ∧ r < m := by
      intro g' hq
      have p1 : CPow (c + 15485863 * (j + 1) + q) 5 := CPow_of (by omega) (by omega) (by omega) (by omega)
      have m1 : CMul 15485863 (j + 1) := CMul_l (by omega) (by omega)
      have y := fmod_lt (a := (c + 15485863 * (j + 1) + q) ^ (5 : Int).toNat) (m := 2147483647) (by omega)
      have y0 := fmod_nn (a := (c + 15485863 * (j + 1) + q) ^ (5 : Int).toNat) (m := 2147483647) (by omega)
      generalize hz : ((c + 15485863 * (j + 1) + q) ^ (5 : Int).toNat).fmod 2147483647 = z at y y0
      have m2 : CMul z 48271 := CMul_r (by omega) (by omega)
      have m3 : CMul 104723 (j + 1) := CMul_l (by omega) (by omega)
      have p2 : CPow (z * 48271 + 104723 * (j + 1)) 3 := CPow_of (by omega) (by omega) (by omega) (by omega)
      have d1 : ∀ x, CDivN x 64 := fun x => CDivN_of (by omega) (by omega)
      refine ⟨(((((z * 48271 + 104723 * (j + 1)) ^ (3 : Int).toNat).fmod 2147483587).fdiv 64).fmod m), ?_, fmod_nn hm, fmod_lt hm⟩
      simp only [fnOp]
      cases g' with
      | true =>
        have hq' : ¬ (0 < a) := by simpa using hq
        simp only [sSeq, sAsg, sIf, sRet, sRetV, sDrop, sPar, sNext, sBad, sCnt, sFor, mVar, mC, mApp, evA, putA, op1, op2, onInt, onI1, mAnd, mOr, mNot, mIf, mChain, frz_int, frz_bl, frz_non, frz_any, frz_node, frzL_nil, frzL_cons, frzL_dI, Tag.frz, D.isAny, asg, asgL, Option.bind, List.map_cons, List.map_nil, List.getElem?_cons_zero, List.getElem?_cons_succ, List.set_cons_zero, List.set_cons_succ, Bool.false_eq_true, if_false, if_true, reduceIte, List.length_cons, List.length_nil, Nat.zero_add, List.cons_append, List.nil_append, List.replicate, eqD_int, D.seq, intOf, Bool.not_true, Bool.not_false, oTup, oLst, Option.map_some, Option.map_none, decide_eq_true_eq, Nat.lt_add_left_iff_pos, Nat.zero_lt_succ, Nat.reduceLeDiff, Nat.reduceAdd, Nat.reduceSub, Nat.reduceLT, mTake, bx0, bx1, bx2, bx3, decide_eq_false hq', sSetI, ix43, if_pos p1, if_pos m1, hz, if_pos m2, if_pos m3, if_pos p2, if_pos (d1 _), if_pos hm0, if_pos (show (2147483647 : Int) ≠ 0 by omega), if_pos (show (2147483587 : Int) ≠ 0 by omega)]
        rfl
      | false =>
        simp only [sSeq, sAsg, sIf, sRet, sRetV, sDrop, sPar, sNext, sBad, sCnt, sFor, mVar, mC, mApp, evA, putA, op1, op2, onInt, onI1, mAnd, mOr, mNot, mIf, mChain, frz_int, frz_bl, frz_non, frz_any, frz_node, frzL_nil, frzL_cons, frzL_dI, Tag.frz, D.isAny, asg, asgL, Option.bind, List.map_cons, List.map_nil, List.getElem?_cons_zero, List.getElem?_cons_succ, List.set_cons_zero, List.set_cons_succ, Bool.false_eq_true, if_false, if_true, reduceIte, List.length_cons, List.length_nil, Nat.zero_add, List.cons_append, List.nil_append, List.replicate, eqD_int, D.seq, intOf, Bool.not_true, Bool.not_false, oTup, oLst, Option.map_some, Option.map_none, decide_eq_true_eq, Nat.lt_add_left_iff_pos, Nat.zero_lt_succ, Nat.reduceLeDiff, Nat.reduceAdd, Nat.reduceSub, Nat.reduceLT, mTake, bx0, bx1, bx2, bx3, sSetI, ix43, if_pos p1, if_pos m1, hz, if_pos m2, if_pos m3, if_pos p2, if_pos (d1 _), if_pos hm0, if_pos (show (2147483647 : Int) ≠ 0 by omega), if_pos (show (2147483587 : Int) ≠ 0 by omega)]
        rfl
    obtain ⟨r, e, h1, h2⟩ := key g (by
      cases g with
      | true => simpa using hb
      | false => rfl)
    exact ⟨r, _, e, h1, h2, _, _, _, _, rfl, ha, hc, hc2, by omega, by omega⟩
theorem Bx.le {k n : Nat} {d : D} (h : Bx k d) (l : k ≤ n) : Bx n d := by
  obtain ⟨a, g, c, j, rfl, ha, hc, hc2, hj, hj2⟩ := h
  exact ⟨a, g, c, j, rfl, ha, hc, hc2, hj, by omega⟩
theorem Bx.node {k : Nat} {d : D} (h : Bx k d) : d.isAny = false := by
  obtain ⟨a, g, c, j, rfl, _⟩ := h
  rfl

/-- the script -/
def scD (l : List Int) : D := .node .scr (dI l)
abbrev mCell : S := (sRet (mIf (mApp (oLt) [(.peek 1), (.val (mApp oLen [(.peek 0)]))]) (mApp oIx [(.peek 0), (.peek 1)]) (mApp oAdd [(.val (mApp oMul [(.val (mC (.int 5003))), (.val (mVar 1))])), (.val (mApp oMod [(.val (mApp oSum [(.val (mSlice (mVar 0) none (some (mC (.int 1)))))])), (.val (mC (.int 1000081)))]))])))
theorem cell_gen {l : List Int} {k : Nat} (hk : k < 1000) : ∃ c : Int, fnOp 2 2 [0, 1] mCell [scD l, .int (k : Int)] = .ok (.int c) [scD l, .int (k : Int)] := by
  have O := len_node (α := Nat) .scr (dI l) (dI l) rfl
  rw [dI_length] at O
  have Q : mApp oLen [(.peek 0)] [scD l, .int (k : Int)] = .ok (.int l.length) [scD l, .int (k : Int)] := mApp_ok (show evA [(.peek 0)] [scD l, .int (k : Int)] = .ok [scD l] [.any, .int (k : Int)] from rfl) O
  have L : oLt [.int (k : Int), .int l.length] = .ok (.bl (decide ((k : Int) < l.length))) [.int (k : Int), .int l.length] := rfl
  have C : mApp oLt [(.peek 1), (.val (mApp oLen [(.peek 0)]))] [scD l, .int (k : Int)] = .ok (.bl (decide ((k : Int) < l.length))) [scD l, .int (k : Int)] := mApp_ok (evA_peek (d0 := .int (k : Int)) rfl rfl (evA_val Q evA_nil) rfl rfl) L
  by_cases h : (k : Int) < l.length
  · rw [decide_eq_true h] at C
    have I := ix_int (t := .scr) (l := l) (x := (k : Int)) rfl (by omega) h
    have P : evA [(.peek 0), (.peek 1)] [scD l, .int (k : Int)] = .ok [scD l, .int (k : Int)] [.any, .any] := rfl
    exact ⟨_, fnOp_rt (e := [scD l, .int (k : Int)]) rfl (sRet_ok (mIf_t C (mApp_ok P I))) (by simp)⟩
  · rw [decide_eq_false h] at C
    have V0 : mVar 0 [scD l, .int (k : Int)] = .ok (scD l) [scD l, .int (k : Int)] := mVar_s (d := scD l) rfl rfl (frz_id (isFrz_node rfl (isFrzL_dI l)))
    have SL : ∃ l', slD (scD l) none (some 1) = some (.node (.lst true) (dI l')) := by
      refine ⟨(l.drop 0).take (HT.sIx (dI l).length (dI l).length (some 1) - 0), ?_⟩
      show some (D.node (.lst true) (cutD (frzL (dI l)) none (some 1))) = _
      rw [frzL_dI]
      simp only [cutD, dI, List.map_take, List.map_drop, HT.sIx_none]
    obtain ⟨l', SL⟩ := SL
    have M := mSlice_to (hi := mC (.int 1)) V0 rfl SL
    have SU := mApp_v1 M (sum_ok true l')
    have O1 : oMod [.int l'.sum, .int 1000081] = .ok (.int (l'.sum.fmod 1000081)) [.int l'.sum, .int 1000081] := by
      simp only [op2, onInt, if_pos (show (1000081 : Int) ≠ 0 by omega)]
    have M2 := mApp_ok (evA_val SU (evA_val (m := mC (.int 1000081)) rfl evA_nil)) O1
    have V1 : mVar 1 [scD l, .int (k : Int)] = .ok (.int (k : Int)) [scD l, .int (k : Int)] := mVar_s (d := .int (k : Int)) rfl rfl rfl
    have c : CMul 5003 (k : Int) := CMul_l (by omega) (by omega)
    have O2 : oMul [.int 5003, .int (k : Int)] = .ok (.int (5003 * (k : Int))) [.int 5003, .int (k : Int)] := by
      simp only [op2, onInt, if_pos c]
    have M3 := mApp_ok (evA_val (m := mC (.int 5003)) rfl (evA_val V1 evA_nil)) O2
    have O3 : oAdd [.int (5003 * (k : Int)), .int (l'.sum.fmod 1000081)] = .ok (.int (5003 * (k : Int) + l'.sum.fmod 1000081)) [.int (5003 * (k : Int)), .int (l'.sum.fmod 1000081)] := rfl
    have M4 := mApp_ok (evA_val M3 (evA_val M2 evA_nil)) O3
    exact ⟨_, fnOp_rt (e := [scD l, .int (k : Int)]) rfl (sRet_ok (mIf_f C M4)) (by simp)⟩
abbrev mBox : S := (sRet (mApp oLst [(.val (mApp oAbs [(.peek 0)])), (.val (mApp (oGe) [(.val (mApp oAbs [(.peek 0)])), (.val (mApp oPow [(.val (mC (.int 10))), (.val (mC (.int 18)))]))])), (.val (mApp oMod [(.val (mApp (op1 intOf) [(.val (mApp oAbs [(.peek 0)]))])), (.val (mC (.int 2147483629)))])), (.val (mC (.int 0)))]))
theorem box_gen (c : Int) : ∃ d, fnOp 1 1 [0] mBox [.int c] = .ok d [.int c] ∧ Bx 0 d := by
  have A : mApp oAbs [(.peek 0)] [.int c] = .ok (.int (if c < 0 then -c else c)) [.int c] := rfl
  have h0 : 0 ≤ (if c < 0 then -c else c) := by split <;> omega
  generalize (if c < 0 then -c else c) = a at A h0
  have P1 : mApp oPow [(.val (mC (.int 10))), (.val (mC (.int 18)))] [.int c] = .ok (.int 1000000000000000000) [.int c] := mApp_ok (evA_val (m := mC (.int 10)) rfl (evA_val (m := mC (.int 18)) rfl evA_nil)) pow18
  have O1 : oGe [.int a, .int 1000000000000000000] = .ok (.bl (decide ((1000000000000000000 : Int) ≤ a))) [.int a, .int 1000000000000000000] := rfl
  have M1 := mApp_ok (evA_val A (evA_val P1 evA_nil)) O1
  have O2 : op1 intOf [.int a] = .ok (.int a) [.int a] := rfl
  have M2 := mApp_v1 A O2
  have O3 : oMod [.int a, .int 2147483629] = .ok (.int (a.fmod 2147483629)) [.int a, .int 2147483629] := by
    simp only [op2, onInt, if_pos (show (2147483629 : Int) ≠ 0 by omega)]
  have M3 := mApp_ok (evA_val M2 (evA_val (m := mC (.int 2147483629)) rfl evA_nil)) O3
  have O4 : ∀ p q r s : D, oLst [p, q, r, s] = .ok (.node (.lst true) [p, q, r, s]) [.any, .any, .any, .any] := fun _ _ _ _ => rfl
  have M4 := mApp_ok (evA_val A (evA_val M1 (evA_val M3 (evA_val (m := mC (.int 0)) rfl evA_nil)))) (O4 _ _ _ _)
  have f0 := fmod_nn (a := a) (m := 2147483629) (by omega)
  have f1 := fmod_lt (a := a) (m := 2147483629) (by omega)
  exact ⟨_, fnOp_rt (e := [.int c]) rfl (sRet_ok M4) (by simp), _, _, _, _, rfl, h0, f0, by omega, by omega, by omega⟩

/-! ### steps of exceptions and of what is set aside -/
theorem fnOp_ex {n m : Nat} {pin : List Nat} {b : S} {ds : List D} {c : Str} {ns : List Str} {xs : List D} {e : Env} (hn : ds.length = n) (h : b (ds ++ List.replicate (m - n) .any) = .exc c ns xs e) (he : n ≤ e.length) : fnOp n m pin b ds = .exc c ns xs (back pin n e) := by
  simp only [fnOp, hn, if_true, h, he]
theorem dfOp_ex {op : Op} {ds : List D} {c : Str} {ns : List Str} {xs es : List D} (h : op ds = .exc c ns xs es) (hl : es.length = ds.length) : dfOp op [] ds = .exc c ns xs es := by
  simp only [dfOp, List.append_nil, h]
  rw [← hl, List.take_length]
theorem mApp_ex {f : Op} {ops : List Opd} {env e : Env} {ds es : List D} {c : Str} {ns : List Str} {xs : List D} (h : evA ops env = .ok ds e) (hf : f ds = .exc c ns xs es) : mApp f ops env = .exc c ns xs (putA ops es e) := by
  simp only [mApp, h, hf]
theorem sDrop_ex {m : M} {env e : Env} {c : Str} {ns : List Str} {xs : List D} (h : m env = .exc c ns xs e) : sDrop m env = .exc c ns xs e := by
  simp only [sDrop, h]
theorem sRet_ex {m : M} {env e : Env} {c : Str} {ns : List Str} {xs : List D} (h : m env = .exc c ns xs e) : sRet m env = .exc c ns xs e := by
  simp only [sRet, h]
theorem sSeq_ex {a b : S} {env e : Env} {c : Str} {ns : List Str} {xs : List D} (h : a env = .exc c ns xs e) : sSeq a b env = .exc c ns xs e := by
  simp only [sSeq, h]
theorem sAside_ok {i : Nat} {s : List D → S} {env : Env} {d : D} {xs : List D} (h : env[i]? = some d) (hs : d.seq = some xs) (hf : isFrzL xs = true) : sAside i s env = putS i d (s xs (env.set i .any)) := by
  simp only [sAside, h, hs, hf, if_true]

/-! ### == and != of data; of texts whatever stands in them -/
section
def eqB (neg : Bool) (d e : D) : Option D := match d, e with
  | .str a, .str b => some (.bl (decide (a = b) != neg))
  | d, e => eqD neg d e
def rEqB (K : PySem.W.Frag) : R2 := fun x y H Q => rEq x y H Q ∨ rEqD K x y H Q
def rNeB (K : PySem.W.Frag) : R2 := fun x y H Q => rNe x y H Q ∨ rNeD K x y H Q
theorem op_eqB {Γ : Cx} (hu : Γ.A.units + 64 < cLine) : OpR Γ (compareOp .Eq) (rEqB Γ.K) := by
  intro pins s σ H x y v u Q I rx ry h
  rcases h with h | h
  · exact op_eq pins s σ H x y v u Q I rx ry h
  · exact op_eqD hu pins s σ H x y v u Q I rx ry h
theorem op_neB {Γ : Cx} (hu : Γ.A.units + 64 < cLine) : OpR Γ (compareOp .NotEq) (rNeB Γ.K) := by
  intro pins s σ H x y v u Q I rx ry h
  rcases h with h | h
  · exact op_ne pins s σ H x y v u Q I rx ry h
  · exact op_neD hu pins s σ H x y v u Q I rx ry h
theorem od_eqB {w : Wd} : OpD w (r2 (rEqB w.K)) (op2 (eqB false)) := od2 fun I F H d e v u z hs h => by
  unfold eqB at h
  split at h
  · rename_i a b
    cases h
    rw [hs.scal rfl, hs.scal2 rfl]
    refine ⟨_, rfl, fun Q E k => Or.inl ⟨rfl, ?_⟩⟩
    have e : decide (V.str a = V.str b) = decide (a = b) := by
      rw [Bool.eq_iff_iff]
      simp
    rw [e]
    simpa using k
  · obtain ⟨p, q, hp, hq, s1, s2, rfl⟩ := eqD_some h
    exact ⟨_, rfl, fun Q E k => Or.inr ⟨p, q, hs.dp hp, hs.drop.dp hq, s1, s2, by simpa using k⟩⟩
theorem od_neB {w : Wd} : OpD w (r2 (rNeB w.K)) (op2 (eqB true)) := od2 fun I F H d e v u z hs h => by
  unfold eqB at h
  split at h
  · rename_i a b
    cases h
    rw [hs.scal rfl, hs.scal2 rfl]
    refine ⟨_, rfl, fun Q E k => Or.inl ⟨rfl, ?_⟩⟩
    have e : decide (V.str a = V.str b) = decide (a = b) := by
      rw [Bool.eq_iff_iff]
      simp
    rw [e]
    simpa using k
  · obtain ⟨p, q, hp, hq, s1, s2, rfl⟩ := eqD_some h
    exact ⟨_, rfl, fun Q E k => Or.inr ⟨p, q, hs.dp hp, hs.drop.dp hq, s1, s2, by simpa using k⟩⟩
theorem eqB_int (neg : Bool) (i j : Int) : eqB neg (.int i) (.int j) = some (.bl (decide (i = j) != neg)) := eqD_int neg i j
theorem eqB_str (neg : Bool) (a b : Str) : eqB neg (.str a) (.str b) = some (.bl (decide (a = b) != neg)) := rfl
end
end Z

set_option Elab.async false
set_option linter.all false
set_option maxRecDepth 100000
set_option maxHeartbeats 4000000
/-! ZZU: all bags of so many values and a size -/
namespace Z
open PySem PySem.Spec PyProof.Rows
open L2 StX
/-- all bags of so many values and a size, in order -/
def BL (v : Nat) : Nat → List (List Int)
  | 0 => [[]]
  | s + 1 => (BL v s).flatMap fun b => (List.range (v - (b.getLast?.getD 0).toNat)).map fun k : Nat => b ++ [b.getLast?.getD 0 + (k : Int)]
abbrev bagD (b : List Int) : D := .node .tup (dI b)
abbrev tuxD (b : List Int) : D := .node .tux (dI b)
theorem dom {P : Nat → Nat → Prop} (h : ∀ v ∈ [1, 2, 3, 4], ∀ s ∈ [0, 1, 2, 3, 4, 5, 6], P v s) {v s : Nat} (h1 : 1 ≤ v) (h2 : v ≤ 4) (h3 : s ≤ 6) : P v s := by
  refine h v ?_ s ?_
  · simp; omega
  · simp; omega
theorem dom28 {P : Nat → Nat → Prop} (a0 : P 1 0) (a1 : P 1 1) (a2 : P 1 2) (a3 : P 1 3) (a4 : P 1 4) (a5 : P 1 5) (a6 : P 1 6)
    (b0 : P 2 0) (b1 : P 2 1) (b2 : P 2 2) (b3 : P 2 3) (b4 : P 2 4) (b5 : P 2 5) (b6 : P 2 6)
    (c0 : P 3 0) (c1 : P 3 1) (c2 : P 3 2) (c3 : P 3 3) (c4 : P 3 4) (c5 : P 3 5) (c6 : P 3 6)
    (d0 : P 4 0) (d1 : P 4 1) (d2 : P 4 2) (d3 : P 4 3) (d4 : P 4 4) (d5 : P 4 5) (d6 : P 4 6) {v s : Nat} (h1 : 1 ≤ v) (h2 : v ≤ 4) (h3 : s ≤ 6) : P v s := by
  match v, s, h1, h2, h3 with
  | 1, 0, _, _, _ => exact a0
  | 1, 1, _, _, _ => exact a1
  | 1, 2, _, _, _ => exact a2
  | 1, 3, _, _, _ => exact a3
  | 1, 4, _, _, _ => exact a4
  | 1, 5, _, _, _ => exact a5
  | 1, 6, _, _, _ => exact a6
  | 2, 0, _, _, _ => exact b0
  | 2, 1, _, _, _ => exact b1
  | 2, 2, _, _, _ => exact b2
  | 2, 3, _, _, _ => exact b3
  | 2, 4, _, _, _ => exact b4
  | 2, 5, _, _, _ => exact b5
  | 2, 6, _, _, _ => exact b6
  | 3, 0, _, _, _ => exact c0
  | 3, 1, _, _, _ => exact c1
  | 3, 2, _, _, _ => exact c2
  | 3, 3, _, _, _ => exact c3
  | 3, 4, _, _, _ => exact c4
  | 3, 5, _, _, _ => exact c5
  | 3, 6, _, _, _ => exact c6
  | 4, 0, _, _, _ => exact d0
  | 4, 1, _, _, _ => exact d1
  | 4, 2, _, _, _ => exact d2
  | 4, 3, _, _, _ => exact d3
  | 4, 4, _, _, _ => exact d4
  | 4, 5, _, _, _ => exact d5
  | 4, 6, _, _, _ => exact d6
theorem BL_nodup {v s : Nat} (h1 : 1 ≤ v) (h2 : v ≤ 4) (h3 : s ≤ 6) : (BL v s).Nodup := dom (P := fun v s => (BL v s).Nodup) (by decide +kernel) h1 h2 h3
theorem BL_len {v s : Nat} (h1 : 1 ≤ v) (h2 : v ≤ 4) (h3 : s ≤ 6) : 0 < (BL v s).length ∧ (BL v s).length ≤ 84 := dom (P := fun v s => 0 < (BL v s).length ∧ (BL v s).length ≤ 84) (by decide +kernel) h1 h2 h3
theorem BL_in {v s : Nat} (h1 : 1 ≤ v) (h2 : v ≤ 4) (h3 : s ≤ 6) : ∀ b ∈ BL v s, b.length = s ∧ ∀ x ∈ b, 0 ≤ x ∧ x < v := dom (P := fun v s => ∀ b ∈ BL v s, b.length = s ∧ ∀ x ∈ b, 0 ≤ x ∧ x < v) (by decide +kernel) h1 h2 h3
theorem BL_more {v s : Nat} (h1 : 1 ≤ v) (h2 : v ≤ 4) (h3 : s ≤ 5) : ∀ b ∈ BL v s, ∀ x ∈ List.range v, srtI (b ++ [(x : Int)]) ∈ BL v (s + 1) := dom (P := fun v s => s ≤ 5 → ∀ b ∈ BL v s, ∀ x ∈ List.range v, srtI (b ++ [(x : Int)]) ∈ BL v (s + 1)) (by decide +kernel) h1 h2 (by omega) h3

/-- from lo up to hi, never falling -/
def upFrom (hi : Int) : Int → List Int → Bool
  | _, [] => true
  | lo, x :: xs => decide (lo ≤ x) && decide (x ≤ hi) && upFrom hi x xs
theorem up_snoc {hi : Int} {x : Int} : ∀ (b : List Int) (lo : Int), upFrom hi lo (b ++ [x]) = (upFrom hi lo b && (decide (b.getLast?.getD lo ≤ x) && decide (x ≤ hi)))
  | [], lo => by
    show (decide (lo ≤ x) && decide (x ≤ hi) && true) = (true && (decide (lo ≤ x) && decide (x ≤ hi)))
    rw [Bool.and_true, Bool.true_and]
  | y :: b, lo => by
    rw [List.cons_append, upFrom, upFrom, up_snoc b y, List.getLast?_cons, Option.getD_some]
    simp only [Bool.and_assoc]
theorem up_last {hi : Int} : ∀ (b : List Int) (lo : Int), upFrom hi lo b = true → lo ≤ b.getLast?.getD lo ∧ (b ≠ [] → b.getLast?.getD lo ≤ hi)
  | [], lo, _ => ⟨Int.le_refl _, fun h => absurd rfl h⟩
  | y :: b, lo, h => by
    simp only [upFrom, Bool.and_eq_true, decide_eq_true_eq] at h
    obtain ⟨⟨h1, h2⟩, h3⟩ := h
    have ih := up_last b y h3
    rw [List.getLast?_cons, Option.getD_some]
    refine ⟨Int.le_trans h1 ih.1, fun _ => ?_⟩
    by_cases hb : b = []
    · subst hb
      exact h2
    · exact ih.2 hb
theorem up_BL {v : Nat} : ∀ (n : Nat) (l : List Int), l.length = n → upFrom ((v : Int) - 1) 0 l = true → l ∈ BL v n
  | 0, l, hl, _ => by
    rw [List.length_eq_zero_iff.mp hl]
    exact List.mem_singleton.mpr rfl
  | n + 1, l, hl, h => by
    have hne : l ≠ [] := fun e => by
      rw [e] at hl
      cases hl
    obtain ⟨b, x, rfl⟩ : ∃ b x, l = b ++ [x] := ⟨l.dropLast, l.getLast hne, (List.dropLast_concat_getLast hne).symm⟩
    rw [up_snoc] at h
    simp only [Bool.and_eq_true, decide_eq_true_eq] at h
    obtain ⟨h1, h2, h3⟩ := h
    have hb := up_BL n b (by simpa using hl) h1
    have h0 := (up_last b 0 h1).1
    rw [BL, List.mem_flatMap]
    refine ⟨b, hb, List.mem_map.mpr ⟨(x - b.getLast?.getD 0).toNat, List.mem_range.mpr (by omega), ?_⟩⟩
    congr 2
    omega
theorem BL_up {v s : Nat} (h1 : 1 ≤ v) (h2 : v ≤ 4) (h3 : s ≤ 6) : ∀ b ∈ BL v s, upFrom ((v : Int) - 1) 0 b = true := dom (P := fun v s => ∀ b ∈ BL v s, upFrom ((v : Int) - 1) 0 b = true) (by decide +kernel) h1 h2 h3
theorem up_mem {hi : Int} : ∀ (l : List Int) (lo : Int), upFrom hi lo l = true → ∀ x ∈ l, lo ≤ x ∧ x ≤ hi
  | [], _, _, x, hx => by cases hx
  | y :: l, lo, h, x, hx => by
    simp only [upFrom, Bool.and_eq_true, decide_eq_true_eq] at h
    obtain ⟨⟨h1, h2⟩, h3⟩ := h
    rcases List.mem_cons.mp hx with rfl | hx
    · exact ⟨h1, h2⟩
    · have := up_mem l y h3 x hx
      exact ⟨by omega, this.2⟩
theorem insI_up {hi : Int} : ∀ (l : List Int) (lo x : Int), lo ≤ x → x ≤ hi → upFrom hi lo l = true → upFrom hi lo (insI x l) = true
  | [], lo, x, h1, h2, _ => by simp [insI, upFrom, h1, h2]
  | y :: l, lo, x, h1, h2, h => by
    simp only [upFrom, Bool.and_eq_true, decide_eq_true_eq] at h
    obtain ⟨⟨h3, h4⟩, h5⟩ := h
    unfold insI
    split
    · rename_i hc
      simp [upFrom, h1, h2, hc, h4, h5]
    · rename_i hc
      simp only [upFrom, Bool.and_eq_true, decide_eq_true_eq]
      exact ⟨⟨h3, h4⟩, insI_up l y x (by omega) h2 h5⟩
theorem srtI_up {hi lo : Int} : ∀ (l : List Int), (∀ x ∈ l, lo ≤ x ∧ x ≤ hi) → upFrom hi lo (srtI l) = true
  | [], _ => rfl
  | x :: l, h => insI_up _ _ _ (h x (List.mem_cons_self ..)).1 (h x (List.mem_cons_self ..)).2 (srtI_up l fun y hy => h y (List.mem_cons_of_mem _ hy))
theorem up_srt {hi : Int} : ∀ (l : List Int) (lo : Int), upFrom hi lo l = true → srtI l = l
  | [], _, _ => rfl
  | x :: l, lo, h => by
    simp only [upFrom, Bool.and_eq_true, decide_eq_true_eq] at h
    obtain ⟨⟨h1, h2⟩, h3⟩ := h
    rw [srtI, up_srt l x h3]
    cases l with
    | nil => rfl
    | cons y l =>
      simp only [upFrom, Bool.and_eq_true, decide_eq_true_eq] at h3
      rw [insI, if_pos h3.1.1]
theorem srtI_len : ∀ l : List Int, (srtI l).length = l.length := fun l => (srtI_perm l).length_eq
/-- in bounds and as sorted as its sorted kin: a bag -/
theorem up_iff {hi lo : Int} (l : List Int) : upFrom hi lo l = (l.all (fun x => decide (lo ≤ x) && decide (x ≤ hi)) && decide (srtI l = l)) := by
  rw [Bool.eq_iff_iff]
  simp only [Bool.and_eq_true, List.all_eq_true, decide_eq_true_eq]
  constructor
  · exact fun h => ⟨up_mem l lo h, up_srt l lo h⟩
  · intro ⟨h1, h2⟩
    rw [← h2]
    exact srtI_up l h1
theorem frz_tux (b : List Int) : (tuxD b).frz = tuxD b := by simp only [tuxD, frz_node, frzL_dI, Tag.frz]
theorem isFrz_tux (b : List Int) : (tuxD b).isFrz = true := isFrz_node rfl (isFrzL_dI b)

theorem pyL_dI (l : List Int) : pyL (dI l) = some (l.map .int) := by
  induction l with
  | nil => rw [dI_nil, pyL]; rfl
  | cons x l ih =>
    rw [dI_cons, pyL, ih]
    rfl
theorem can_ints (l : List Int) : PyData.canLayAll0 (l.map .int) = true := by
  induction l with
  | nil => rfl
  | cons x l ih =>
    rw [List.map_cons, PyData.canLayAll0, ih]
    rfl
theorem dep_ints (l : List Int) : PyData.depthAll (l.map .int) = 0 := by
  induction l with
  | nil => rfl
  | cons x l ih =>
    rw [List.map_cons, PyData.depthAll, ih]
    rfl
theorem shaped_li (l : List Int) : SeqAt.shaped (.list (l.map .int)) = true := by
  simp only [SeqAt.shaped, PyData.canLay0, can_ints, PyData.depth, dep_ints]
  rfl
theorem shaped_tu (l : List Int) : SeqAt.shaped (.tuple (l.map .int)) = true := by
  simp only [SeqAt.shaped, PyData.canLay0, can_ints, PyData.depth, dep_ints]
  rfl
theorem k1 : kitB "int" "list" = some false := by kernel_rfl
theorem k2 : kitB "int" "tuple" = some false := by kernel_rfl
theorem k3 : kitB "list" "list" = some true := by kernel_rfl
theorem k4 : kitB "list" "tuple" = some false := by kernel_rfl
theorem k5 : kitB "tuple" "list" = some false := by kernel_rfl
theorem k6 : kitB "tuple" "tuple" = some true := by kernel_rfl
theorem k7 : kitB "int" "int" = some true := by kernel_rfl
theorem k8 : kitB "int" "bool" = some false := by kernel_rfl
theorem isi_lst_lst (o : Bool) (xs : List D) : isiB "list" (.node (.lst o) xs) = some (.bl true) := by simp only [isiB, D.ty, k3, Option.map_some]
theorem isi_lst_tup (xs : List D) : isiB "list" (.node .tup xs) = some (.bl false) := by simp only [isiB, D.ty, k5, Option.map_some]
theorem isi_tup_lst (o : Bool) (xs : List D) : isiB "tuple" (.node (.lst o) xs) = some (.bl false) := by simp only [isiB, D.ty, k4, Option.map_some]
theorem isi_tup_tup (xs : List D) : isiB "tuple" (.node .tup xs) = some (.bl true) := by simp only [isiB, D.ty, k6, Option.map_some]
theorem isi_int_int (i : Int) : isiB "int" (.int i) = some (.bl true) := by simp only [isiB, D.ty, k7, Option.map_some]
theorem isi_bool_int (i : Int) : isiB "bool" (.int i) = some (.bl false) := by simp only [isiB, D.ty, k8, Option.map_some]
theorem eqD_bl (neg a b : Bool) : eqD neg (.bl a) (.bl b) = some (.bl ((a == b) != neg)) := by
  simp only [eqD, D.py]
  rw [if_pos ⟨rfl, rfl⟩]
  simp only [PyData.eqv]

theorem eqv_all (a b : List Int) : PyData.eqvAll (a.map .int) (b.map .int) = decide (a = b) := by
  induction a generalizing b with
  | nil => cases b <;> simp [PyData.eqvAll]
  | cons x a ih =>
    cases b with
    | nil => simp [PyData.eqvAll]
    | cons y b =>
      simp only [List.map_cons, PyData.eqvAll, PyData.eqv, ih, List.cons.injEq]
      by_cases h1 : x = y <;> by_cases h2 : a = b <;> simp [h1, h2]
theorem eqB_li (neg o o2 : Bool) (a b : List Int) : eqB neg (.node (.lst o) (dI a)) (.node (.lst o2) (dI b)) = some (.bl (decide (a = b) != neg)) := by
  have e : ∀ (o : Bool) (l : List Int), D.py (.node (.lst o) (dI l)) = some (.list (l.map .int)) := fun o l => by rw [D.py, pyL_dI]; rfl
  simp only [eqB, eqD, e]
  rw [if_pos ⟨shaped_li a, shaped_li b⟩]
  simp only [PyData.eqv, eqv_all]
theorem eqB_tux (neg : Bool) (a b : List Int) : eqB neg (tuxD a) (tuxD b) = some (.bl (decide (a = b) != neg)) := by
  have e : ∀ (l : List Int), D.py (tuxD l) = some (.tuple (l.map .int)) := fun l => by rw [tuxD, D.py, pyL_dI]; rfl
  simp only [eqB, eqD, e]
  rw [if_pos ⟨shaped_tu a, shaped_tu b⟩]
  simp only [PyData.eqv, eqv_all]
theorem seqInts_dI {t : Tag} {l : List Int} (h : D.seq (.node t (dI l)) = some (dI l)) : seqInts (.node t (dI l)) = some l := by
  unfold seqInts
  rw [h]
  exact intsOf_dI l
theorem sortedB_ok {t : Tag} {l : List Int} (h : D.seq (.node t (dI l)) = some (dI l)) : oSortedB [.node t (dI l)] = .ok (.node (.lst true) (dI (srtI l))) [.node t (dI l)] := by
  simp only [oSortedB, seqInts_dI h]
  rfl
theorem tupleX_ok (o : Bool) (l : List Int) : oTupleX [.node (.lst o) (dI l)] = .ok (tuxD l) [.node (.lst o) (dI l)] := by
  simp only [oTupleX, if_pos (isFrzL_dI l)]
theorem list_tux (l : List Int) : oList [tuxD l] = .ok (.node (.lst true) (dI l)) [tuxD l] := by
  simp only [oList, tuxD, D.seq, if_pos (isFrzL_dI l)]

end Z

set_option Elab.async false
set_option linter.all false
set_option maxRecDepth 100000
set_option maxHeartbeats 4000000
namespace Z
open PySem PySem.Spec PyProof.Rows
open L2 StX
def top (i : Nat) : Stmt := PySem.Challenge.pw_oneforone_k01_bags.main.body.getD i (.Pass ⟨0, 0, 0, 0⟩)
def meth (s : Stmt) (j : Nat) : Stmt := match s with
  | .ClassDef _ _ _ bs _ _ _ _ _ _ _ => bs.getD j (.Pass ⟨0, 0, 0, 0⟩)
  | _ => .Pass ⟨0, 0, 0, 0⟩
def xsL : List (Str × List Str) := [("InvalidValues", ["given"]), ("InvalidSize", ["given"]), ("InvalidBag", ["given"]), ("InvalidValue", ["given"]), ("NotInBag", ["value"])]
def nopL : List (Str × Str) := [("InvalidValues", "InvalidSize"), ("InvalidValues", "InvalidBag"), ("InvalidValues", "InvalidValue"), ("InvalidValues", "NotInBag"), ("InvalidSize", "InvalidValues"), ("InvalidSize", "InvalidBag"), ("InvalidSize", "InvalidValue"), ("InvalidSize", "NotInBag"), ("InvalidBag", "InvalidValues"), ("InvalidBag", "InvalidSize"), ("InvalidBag", "InvalidValue"), ("InvalidBag", "NotInBag"), ("InvalidValue", "InvalidValues"), ("InvalidValue", "InvalidSize"), ("InvalidValue", "InvalidBag"), ("InvalidValue", "NotInBag"), ("NotInBag", "InvalidValues"), ("NotInBag", "InvalidSize"), ("NotInBag", "InvalidBag"), ("NotInBag", "InvalidValue")]
section
variable {P : Program} {wo : World} {K : PySem.W.Frag} {mg : Str → Option Value} {base : Heap} {f : Addr} {fd : FuncData} {dvs : List V} {cA : Str → Addr} {lk fk : Hp}
/-- what the head finds -/
structure Ob (K : PySem.W.Frag) (mg : Str → Option Value) (cA : Str → Addr) : Prop where
  sys : SysD K
  nop : ∀ a b, nopL.contains (a, b) = true → PySem.W.exmOne K (.ref (cA a)) (.ref (cA b)) = some false
  e_InvalidValues : ExF K (cA "InvalidValues") ["given"]
  g_InvalidValues : mg "InvalidValues" = some (.ref (cA "InvalidValues"))
  e_InvalidSize : ExF K (cA "InvalidSize") ["given"]
  g_InvalidSize : mg "InvalidSize" = some (.ref (cA "InvalidSize"))
  e_InvalidBag : ExF K (cA "InvalidBag") ["given"]
  g_InvalidBag : mg "InvalidBag" = some (.ref (cA "InvalidBag"))
  e_InvalidValue : ExF K (cA "InvalidValue") ["given"]
  g_InvalidValue : mg "InvalidValue" = some (.ref (cA "InvalidValue"))
  e_NotInBag : ExF K (cA "NotInBag") ["value"]
  g_NotInBag : mg "NotInBag" = some (.ref (cA "NotInBag"))

theorem ki_InvalidValues (D : Ob K mg cA) (F : FunD K "__init__" "InvalidValues.__init__" (defArgs (meth (top 3) 0)) (defBody (meth (top 3) 0)) (defScope (meth (top 3) 0)) dvs [] f fd) : FnOk P wo K mg base (L2.CX P wo) 1 f fd ["self", "given"] (spX K (cA "InvalidValues") ["given"]) :=
  k_init1 D.e_InvalidValues.oex (D.e_InvalidValues.nf "given" (by simp)) F (C8.fnScope_by (by decide +kernel)) fun cdv A outer s H E => pss_one (ps_ost (pe_var rfl (by first | exact .inl rfl | exact .inr (.inl rfl) | exact .inr (.inr rfl))) (pe_var rfl (by first | exact .inl rfl | exact .inr (.inl rfl) | exact .inr (.inr rfl))))

theorem ki_InvalidSize (D : Ob K mg cA) (F : FunD K "__init__" "InvalidSize.__init__" (defArgs (meth (top 4) 0)) (defBody (meth (top 4) 0)) (defScope (meth (top 4) 0)) dvs [] f fd) : FnOk P wo K mg base (L2.CX P wo) 1 f fd ["self", "given"] (spX K (cA "InvalidSize") ["given"]) :=
  k_init1 D.e_InvalidSize.oex (D.e_InvalidSize.nf "given" (by simp)) F (C8.fnScope_by (by decide +kernel)) fun cdv A outer s H E => pss_one (ps_ost (pe_var rfl (by first | exact .inl rfl | exact .inr (.inl rfl) | exact .inr (.inr rfl))) (pe_var rfl (by first | exact .inl rfl | exact .inr (.inl rfl) | exact .inr (.inr rfl))))

theorem ki_InvalidBag (D : Ob K mg cA) (F : FunD K "__init__" "InvalidBag.__init__" (defArgs (meth (top 5) 0)) (defBody (meth (top 5) 0)) (defScope (meth (top 5) 0)) dvs [] f fd) : FnOk P wo K mg base (L2.CX P wo) 1 f fd ["self", "given"] (spX K (cA "InvalidBag") ["given"]) :=
  k_init1 D.e_InvalidBag.oex (D.e_InvalidBag.nf "given" (by simp)) F (C8.fnScope_by (by decide +kernel)) fun cdv A outer s H E => pss_one (ps_ost (pe_var rfl (by first | exact .inl rfl | exact .inr (.inl rfl) | exact .inr (.inr rfl))) (pe_var rfl (by first | exact .inl rfl | exact .inr (.inl rfl) | exact .inr (.inr rfl))))

theorem ki_InvalidValue (D : Ob K mg cA) (F : FunD K "__init__" "InvalidValue.__init__" (defArgs (meth (top 6) 0)) (defBody (meth (top 6) 0)) (defScope (meth (top 6) 0)) dvs [] f fd) : FnOk P wo K mg base (L2.CX P wo) 1 f fd ["self", "given"] (spX K (cA "InvalidValue") ["given"]) :=
  k_init1 D.e_InvalidValue.oex (D.e_InvalidValue.nf "given" (by simp)) F (C8.fnScope_by (by decide +kernel)) fun cdv A outer s H E => pss_one (ps_ost (pe_var rfl (by first | exact .inl rfl | exact .inr (.inl rfl) | exact .inr (.inr rfl))) (pe_var rfl (by first | exact .inl rfl | exact .inr (.inl rfl) | exact .inr (.inr rfl))))

theorem ki_NotInBag (D : Ob K mg cA) (F : FunD K "__init__" "NotInBag.__init__" (defArgs (meth (top 15) 0)) (defBody (meth (top 15) 0)) (defScope (meth (top 15) 0)) dvs [] f fd) : FnOk P wo K mg base (L2.CX P wo) 1 f fd ["self", "value"] (spX K (cA "NotInBag") ["value"]) :=
  k_init1 D.e_NotInBag.oex (D.e_NotInBag.nf "value" (by simp)) F (C8.fnScope_by (by decide +kernel)) fun cdv A outer s H E => pss_one (ps_ost (pe_var rfl (by first | exact .inl rfl | exact .inr (.inl rfl) | exact .inr (.inr rfl))) (pe_var rfl (by first | exact .inl rfl | exact .inr (.inl rfl) | exact .inr (.inr rfl))))

/-- is_whole -/
def m_is_whole : S := (sRet (mAnd (mApp (op1 (isiB "int")) [(.peek 0)]) (mNot (mApp (op1 (isiB "bool")) [(.peek 0)]))))
abbrev op_is_whole : Op := fnOp 1 1 [0] m_is_whole
abbrev dfl_is_whole : List (List V) := [[]]
abbrev ks_is_whole : List Str := []
theorem k_is_whole (D : Ob K mg cA) (B : Bl mg) (F : FunD K "is_whole" "is_whole" (defArgs (top 8)) (defBody (top 8)) (defScope (top 8)) dvs [] f fd) :
    FnG P wo K mg base (L2.CX P wo) 1 f fd ["value"] (spF ⟨K, wo, cA, lk, fk⟩ op_is_whole 1) :=
  have nd : (["value"] : List Str).Nodup := by decide
  z_fn (k := 0) (N := ["value"]) [0] F (C8.fnScope_by (by decide +kernel)) rfl rfl (by decide) (by decide) fun cdv A outer s H vs E hr hp =>
    (s_one (s_ret (z_and (z_isi (pe_opd (pe_var rfl (by first | exact .inl rfl | exact .inr (.inl rfl) | exact .inr (.inr rfl)))) (pe_bt rfl B.«int» (by decide +kernel)) rfl B.isinstance rfl) (z_one (z_not (z_isi (pe_opd (pe_var rfl (by first | exact .inl rfl | exact .inr (.inl rfl) | exact .inr (.inr rfl)))) (pe_bt rfl B.«bool» (by decide +kernel)) rfl B.isinstance rfl))))))

/-- is_between -/
def m_is_between : S := (sRet (mAnd (mApp (dfOp op_is_whole []) [(.peek 0)]) (mChain (fun i j => decide (i ≤ j)) (fun i j => decide (i ≤ j)) (mVar 1) (mVar 0) (mVar 2))))
abbrev op_is_between : Op := fnOp 3 3 [0, 1, 2] m_is_between
abbrev dfl_is_between : List (List V) := [[]]
abbrev ks_is_between : List Str := []
theorem k_is_between (D : Ob K mg cA) (B : Bl mg) (F : FunD K "is_between" "is_between" (defArgs (top 9)) (defBody (top 9)) (defScope (top 9)) dvs [] f fd) (c_is_whole : ∀ lk fk, Cl P wo K mg base ⟨K, wo, cA, lk, fk⟩ 1 "is_whole" 1 op_is_whole dfl_is_whole ks_is_whole) :
    FnG P wo K mg base (L2.CX P wo) 2 f fd ["value", "least", "most"] (spF ⟨K, wo, cA, lk, fk⟩ op_is_between 3) :=
  have nd : (["value", "least", "most"] : List Str).Nodup := by decide
  z_fn (k := 1) (N := ["value", "least", "most"]) [0, 1, 2] F (C8.fnScope_by (by decide +kernel)) rfl rfl (by decide) (by decide) fun cdv A outer s H vs E hr hp =>
    (s_one (s_ret (z_and (z_callD (dd := []) (dvs := []) (c_is_whole _ _) (hr.mono (by omega)) rfl fnOp_len (List.mem_cons_self ..) .nil tkE (pa_z (pe_opd (pe_var rfl (by first | exact .inl rfl | exact .inr (.inl rfl) | exact .inr (.inr rfl)))) pa_z0)) (z_one (z_chain op_le op_le (z_var 1 (pe_var rfl (by first | exact .inl rfl | exact .inr (.inl rfl) | exact .inr (.inr rfl)))) (z_var 0 (pe_var rfl (by first | exact .inl rfl | exact .inr (.inl rfl) | exact .inr (.inr rfl)))) (z_var 2 (pe_var rfl (by first | exact .inl rfl | exact .inr (.inl rfl) | exact .inr (.inr rfl)))))))))

/-- is_bag -/
def m_is_bag : S := (sSeq (sIf (mOr (mNot (mApp (op1 (isiB "tuple")) [(.peek 0)])) (mNot (mChain (fun i j => decide (i ≤ j)) (fun i j => decide (i ≤ j)) (mVar 2) (mApp oLen [(.peek 0)]) (mVar 3)))) (sRet (mC (.bl false))) sNext) (sSeq (sAsg (.nm 4) (mC (.int 0))) (sSeq (sAside 0 fun xs => (sFor (fun env => .ok xs env) (.nm 5) (sSeq (sIf (mNot (mApp (dfOp op_is_between []) [(.peek 5), (.peek 4), (.val (mApp oSub [(.val (mVar 1)), (.val (mC (.int 1)))]))])) (sRet (mC (.bl false))) sNext) (sAsg (.nm 4) (mVar 5))))) (sRet (mC (.bl true))))))
abbrev op_is_bag : Op := fnOp 4 6 [0, 1, 2, 3] m_is_bag
abbrev dfl_is_bag : List (List V) := [[]]
abbrev ks_is_bag : List Str := []
theorem k_is_bag (D : Ob K mg cA) (B : Bl mg) (F : FunD K "is_bag" "is_bag" (defArgs (top 10)) (defBody (top 10)) (defScope (top 10)) dvs [] f fd) (c_is_between : ∀ lk fk, Cl P wo K mg base ⟨K, wo, cA, lk, fk⟩ 2 "is_between" 3 op_is_between dfl_is_between ks_is_between) :
    FnG P wo K mg base (L2.CX P wo) 3 f fd ["value", "values", "least", "most"] (spF ⟨K, wo, cA, lk, fk⟩ op_is_bag 4) :=
  have nd : (["value", "values", "least", "most", "before", "item"] : List Str).Nodup := by decide
  z_fn (k := 2) (N := ["value", "values", "least", "most", "before", "item"]) [0, 1, 2, 3] F (C8.fnScope_by (by decide +kernel)) rfl rfl (by decide) (by decide) fun cdv A outer s H vs E hr hp =>
    (s_seq (s_if (PW.pt (t_or (t_not (t_val (z_isi (pe_opd (pe_var rfl (by first | exact .inl rfl | exact .inr (.inl rfl) | exact .inr (.inr rfl)))) (pe_bt rfl B.«tuple» (by decide +kernel)) rfl B.isinstance rfl))) (t_or1 (t_not (t_chain op_le op_le (z_var 2 (pe_var rfl (by first | exact .inl rfl | exact .inr (.inl rfl) | exact .inr (.inr rfl)))) (z_callB call_len_seq od_len rfl B.«len» (by decide +kernel) (pa_z (pe_opd (pe_var rfl (by first | exact .inl rfl | exact .inr (.inl rfl) | exact .inr (.inr rfl)))) pa_z0)) (z_var 3 (pe_var rfl (by first | exact .inl rfl | exact .inr (.inl rfl) | exact .inr (.inr rfl))))))))) (s_one (s_ret z_bl)) s_nil) (s_seq (s_set nd rfl (by first | exact .inl rfl | exact .inr rfl) z_int (by decide : (4 : Nat) ∉ ([0, 1, 2, 3] : List Nat))) (s_seq (s_aside hp fun _ _ _ xs hp hk => (s_for pOwn rfl (i_pk (pe_var rfl (by first | exact .inl rfl | exact .inr (.inl rfl) | exact .inr (.inr rfl))) rfl hk) (g_nm (pg_name nd rfl (by first | exact .inl rfl | exact .inr rfl)) (by decide : (5 : Nat) ∉ ([0, 0, 1, 2, 3] : List Nat))) (s_seq (s_if (t_not (t_val (z_callD (dd := []) (dvs := []) (c_is_between _ _) (hr.mono (by omega)) rfl fnOp_len (List.mem_cons_self ..) .nil tkE (pa_z (pe_opd (pe_var rfl (by first | exact .inl rfl | exact .inr (.inl rfl) | exact .inr (.inr rfl)))) (pa_z (pe_opd (pe_var rfl (by first | exact .inl rfl | exact .inr (.inl rfl) | exact .inr (.inr rfl)))) (pa_z (pe_val (z_op op_sub od_sub (pe_val (z_var 1 (pe_var rfl (by first | exact .inl rfl | exact .inr (.inl rfl) | exact .inr (.inr rfl))))) (pe_val z_int))) pa_z0)))))) (s_one (s_ret z_bl)) s_nil) (s_one (s_set nd rfl (by first | exact .inl rfl | exact .inr rfl) (z_var 5 (pe_var rfl (by first | exact .inl rfl | exact .inr (.inl rfl) | exact .inr (.inr rfl)))) (by decide : (4 : Nat) ∉ ([0, 0, 1, 2, 3] : List Nat))))))) (s_one (s_ret z_bl)))))

/-- check_values -/
def m_check_values : S := (sIf (mNot (mApp (dfOp op_is_between []) [(.peek 0), (.val (mC (.int 1))), (.val (mC (.int 4)))])) (sDrop (mApp (oRaise "InvalidValues" ["given"]) [(.val (mVar 0))])) sNext)
abbrev op_check_values : Op := fnOp 1 1 [0] m_check_values
abbrev dfl_check_values : List (List V) := [[]]
abbrev ks_check_values : List Str := []
theorem k_check_values (D : Ob K mg cA) (B : Bl mg) (F : FunD K "check_values" "check_values" (defArgs (top 11)) (defBody (top 11)) (defScope (top 11)) dvs [] f fd) (x_InvalidValues : ∀ lk fk, Ec P wo K mg base ⟨K, wo, cA, lk, fk⟩ 1 "InvalidValues" ["given"]) (c_is_between : ∀ lk fk, Cl P wo K mg base ⟨K, wo, cA, lk, fk⟩ 2 "is_between" 3 op_is_between dfl_is_between ks_is_between) :
    FnG P wo K mg base (L2.CX P wo) 3 f fd ["values"] (spF ⟨K, wo, cA, lk, fk⟩ op_check_values 1) :=
  have nd : (["values"] : List Str).Nodup := by decide
  z_fn (k := 2) (N := ["values"]) [0] F (C8.fnScope_by (by decide +kernel)) rfl rfl (by decide) (by decide) fun cdv A outer s H vs E hr hp =>
    (s_one (s_if (t_not (t_val (z_callD (dd := []) (dvs := []) (c_is_between _ _) (hr.mono (by omega)) rfl fnOp_len (List.mem_cons_self ..) .nil tkE (pa_z (pe_opd (pe_var rfl (by first | exact .inl rfl | exact .inr (.inl rfl) | exact .inr (.inr rfl)))) (pa_z (pe_val z_int) (pa_z (pe_val z_int) pa_z0)))))) (s_one (s_raise (x_InvalidValues _ _) (by decide) rfl tkE (hr.toRoom.mono (by omega)) rfl (pa_z (pe_val (z_var 0 (pe_var rfl (by first | exact .inl rfl | exact .inr (.inl rfl) | exact .inr (.inr rfl))))) pa_z0))) s_nil))

/-- check_size -/
def m_check_size : S := (sIf (mNot (mApp (dfOp op_is_between []) [(.peek 0), (.peek 1), (.peek 2)])) (sDrop (mApp (oRaise "InvalidSize" ["given"]) [(.val (mVar 0))])) sNext)
abbrev op_check_size : Op := fnOp 3 3 [0, 1, 2] m_check_size
abbrev dfl_check_size : List (List V) := [[]]
abbrev ks_check_size : List Str := []
theorem k_check_size (D : Ob K mg cA) (B : Bl mg) (F : FunD K "check_size" "check_size" (defArgs (top 12)) (defBody (top 12)) (defScope (top 12)) dvs [] f fd) (x_InvalidSize : ∀ lk fk, Ec P wo K mg base ⟨K, wo, cA, lk, fk⟩ 1 "InvalidSize" ["given"]) (c_is_between : ∀ lk fk, Cl P wo K mg base ⟨K, wo, cA, lk, fk⟩ 2 "is_between" 3 op_is_between dfl_is_between ks_is_between) :
    FnG P wo K mg base (L2.CX P wo) 3 f fd ["size", "least", "most"] (spF ⟨K, wo, cA, lk, fk⟩ op_check_size 3) :=
  have nd : (["size", "least", "most"] : List Str).Nodup := by decide
  z_fn (k := 2) (N := ["size", "least", "most"]) [0, 1, 2] F (C8.fnScope_by (by decide +kernel)) rfl rfl (by decide) (by decide) fun cdv A outer s H vs E hr hp =>
    (s_one (s_if (t_not (t_val (z_callD (dd := []) (dvs := []) (c_is_between _ _) (hr.mono (by omega)) rfl fnOp_len (List.mem_cons_self ..) .nil tkE (pa_z (pe_opd (pe_var rfl (by first | exact .inl rfl | exact .inr (.inl rfl) | exact .inr (.inr rfl)))) (pa_z (pe_opd (pe_var rfl (by first | exact .inl rfl | exact .inr (.inl rfl) | exact .inr (.inr rfl)))) (pa_z (pe_opd (pe_var rfl (by first | exact .inl rfl | exact .inr (.inl rfl) | exact .inr (.inr rfl)))) pa_z0)))))) (s_one (s_raise (x_InvalidSize _ _) (by decide) rfl tkE (hr.toRoom.mono (by omega)) rfl (pa_z (pe_val (z_var 0 (pe_var rfl (by first | exact .inl rfl | exact .inr (.inl rfl) | exact .inr (.inr rfl))))) pa_z0))) s_nil))

/-- check_value -/
def m_check_value : S := (sIf (mNot (mApp (dfOp op_is_between []) [(.peek 0), (.val (mC (.int 0))), (.val (mApp oSub [(.val (mVar 1)), (.val (mC (.int 1)))]))])) (sDrop (mApp (oRaise "InvalidValue" ["given"]) [(.val (mVar 0))])) sNext)
abbrev op_check_value : Op := fnOp 2 2 [0, 1] m_check_value
abbrev dfl_check_value : List (List V) := [[]]
abbrev ks_check_value : List Str := []
theorem k_check_value (D : Ob K mg cA) (B : Bl mg) (F : FunD K "check_value" "check_value" (defArgs (top 13)) (defBody (top 13)) (defScope (top 13)) dvs [] f fd) (x_InvalidValue : ∀ lk fk, Ec P wo K mg base ⟨K, wo, cA, lk, fk⟩ 1 "InvalidValue" ["given"]) (c_is_between : ∀ lk fk, Cl P wo K mg base ⟨K, wo, cA, lk, fk⟩ 2 "is_between" 3 op_is_between dfl_is_between ks_is_between) :
    FnG P wo K mg base (L2.CX P wo) 3 f fd ["value", "values"] (spF ⟨K, wo, cA, lk, fk⟩ op_check_value 2) :=
  have nd : (["value", "values"] : List Str).Nodup := by decide
  z_fn (k := 2) (N := ["value", "values"]) [0, 1] F (C8.fnScope_by (by decide +kernel)) rfl rfl (by decide) (by decide) fun cdv A outer s H vs E hr hp =>
    (s_one (s_if (t_not (t_val (z_callD (dd := []) (dvs := []) (c_is_between _ _) (hr.mono (by omega)) rfl fnOp_len (List.mem_cons_self ..) .nil tkE (pa_z (pe_opd (pe_var rfl (by first | exact .inl rfl | exact .inr (.inl rfl) | exact .inr (.inr rfl)))) (pa_z (pe_val z_int) (pa_z (pe_val (z_op op_sub od_sub (pe_val (z_var 1 (pe_var rfl (by first | exact .inl rfl | exact .inr (.inl rfl) | exact .inr (.inr rfl))))) (pe_val z_int))) pa_z0)))))) (s_one (s_raise (x_InvalidValue _ _) (by decide) rfl tkE (hr.toRoom.mono (by omega)) rfl (pa_z (pe_val (z_var 0 (pe_var rfl (by first | exact .inl rfl | exact .inr (.inl rfl) | exact .inr (.inr rfl))))) pa_z0))) s_nil))

/-- bags -/
def m_bags : S := (sSeq (sDrop (mApp (dfOp op_check_values []) [(.peek 0)])) (sSeq (sDrop (mApp (dfOp op_check_size []) [(.peek 1), (.val (mC (.int 0))), (.val (mC (.int 6)))])) (sSeq (sAsg (.nm 2) (mApp oLst [(.val (mApp oTux []))])) (sSeq (sFor (iRng [.val (mVar 1)]) (.nm 3) (sAsg (.nm 2) (mLc2 (iSeq (mVar 2)) (.nm 4) none [4, 5] (iRng [.val (mIf (mTru (mVar 4)) (mApp oIx [(.peek 4), (.val (mApp oNeg [(.val (mC (.int 1)))]))]) (mC (.int 0))), .val (mVar 0)]) (.nm 5) none [5] (mStarX (mVar 4) [(.val (mVar 5))])))) (sRetV 2)))))
abbrev op_bags : Op := fnOp 2 6 [0, 1] m_bags
abbrev dfl_bags : List (List V) := [[]]
abbrev ks_bags : List Str := ["size", "values"]
theorem k_bags (D : Ob K mg cA) (B : Bl mg) (F : FunD K "bags" "bags" (defArgs (top 17)) (defBody (top 17)) (defScope (top 17)) dvs [] f fd) (c_check_values : ∀ lk fk, Cl P wo K mg base ⟨K, wo, cA, lk, fk⟩ 3 "check_values" 1 op_check_values dfl_check_values ks_check_values) (c_check_size : ∀ lk fk, Cl P wo K mg base ⟨K, wo, cA, lk, fk⟩ 3 "check_size" 3 op_check_size dfl_check_size ks_check_size) :
    FnG P wo K mg base (L2.CX P wo) 4 f fd ["values", "size"] (spF ⟨K, wo, cA, lk, fk⟩ op_bags 2) :=
  have nd : (["values", "size", "found", "_", "bag", "value"] : List Str).Nodup := by decide
  z_fn (k := 3) (N := ["values", "size", "found", "_", "bag", "value"]) [0, 1] F (C8.fnScope_by (by decide +kernel)) rfl rfl (by decide) (by decide) fun cdv A outer s H vs E hr hp =>
    (s_seq (s_drop (z_callD (dd := []) (dvs := []) (c_check_values _ _) (hr.mono (by omega)) rfl fnOp_len (List.mem_cons_self ..) .nil tkE (pa_z (pe_opd (pe_var rfl (by first | exact .inl rfl | exact .inr (.inl rfl) | exact .inr (.inr rfl)))) pa_z0))) (s_seq (s_drop (z_callD (dd := []) (dvs := []) (c_check_size _ _) (hr.mono (by omega)) rfl fnOp_len (List.mem_cons_self ..) .nil tkE (pa_z (pe_opd (pe_var rfl (by first | exact .inl rfl | exact .inr (.inl rfl) | exact .inr (.inr rfl)))) (pa_z (pe_val z_int) (pa_z (pe_val z_int) pa_z0))))) (s_seq (s_set nd rfl (by first | exact .inl rfl | exact .inr rfl) (z_lst (pa_z (pe_val (z_tux pa_z0)) pa_z0)) (by decide : (2 : Nat) ∉ ([0, 1] : List Nat))) (s_seq (s_for pOwn rfl (i_rng1 rfl B.range (pi_range1 rfl B.range (pa_z (pe_val (z_var 1 (pe_var rfl (by first | exact .inl rfl | exact .inr (.inl rfl) | exact .inr (.inr rfl))))) pa_z0))) (g_nm (pg_name nd rfl (by first | exact .inl rfl | exact .inr rfl)) (by decide : (3 : Nat) ∉ ([0, 1] : List Nat))) (s_one (s_setLc2 (hpi := (by decide : (2 : Nat) ∉ ([0, 1] : List Nat))) (own := [("bag", 4), ("value", 5)]) (vs1 := [5]) (hp := (by decide : ∀ i ∈ ([0, 1] : List Nat), i ∉ ([4, 5] : List Nat))) rfl nd rfl rfl rfl (i_seq (z_var 2 (pe_var rfl (by first | exact .inl rfl | exact .inr (.inl rfl) | exact .inr (.inr rfl)))) rfl) (blkOk_by (N := ["values", "size", "found", "_", "bag", "value"]) (sc := defScope (top 17)) (by decide +kernel)) (fun _ _ _ _ _ => (g_nm (pg_name nd rfl (by first | exact .inl rfl | exact .inr rfl)) (by decide : (4 : Nat) ∉ ([0, 1] : List Nat)))) (fun _ _ _ _ _ => ts_nil) (fun _ _ _ _ _ => (i_rng2 (pi_range2 rfl B.range (pa_z (pe_val (z_if (t_tru (z_var 4 (pe_var rfl (by first | exact .inl rfl | exact .inr (.inl rfl) | exact .inr (.inr rfl)))) rfl) (z_ix ix_seq od_ix (pe_opd (pe_var rfl (by first | exact .inl rfl | exact .inr (.inl rfl) | exact .inr (.inr rfl)))) (pe_val (z_un un_neg od_neg (pe_val z_int))) (by intro _ _; rfl)) z_int)) (pa_z (pe_val (z_var 0 (pe_var rfl (by first | exact .inl rfl | exact .inr (.inl rfl) | exact .inr (.inr rfl))))) pa_z0))))) (fun _ _ _ _ _ => (g_nm (pg_name nd rfl (by first | exact .inl rfl | exact .inr rfl)) (by decide : (5 : Nat) ∉ ([0, 1] : List Nat)))) (fun _ _ _ _ _ => ts_nil) (fun _ _ _ _ _ => (z_starX (z_var 4 (pe_var rfl (by first | exact .inl rfl | exact .inr (.inl rfl) | exact .inr (.inr rfl)))) (pa_z (pe_val (z_var 5 (pe_var rfl (by first | exact .inl rfl | exact .inr (.inl rfl) | exact .inr (.inr rfl))))) pa_z0) rfl))))) (s_one (s_retV (pe_var rfl (by first | exact .inl rfl | exact .inr (.inl rfl) | exact .inr (.inr rfl)))))))))

/-- count_bags -/
def m_count_bags : S := (sSeq (sDrop (mApp (dfOp op_check_values []) [(.peek 0)])) (sSeq (sDrop (mApp (dfOp op_check_size []) [(.peek 1), (.val (mC (.int 0))), (.val (mC (.int 6)))])) (sRet (mApp oComb [(.val (mApp oSub [(.val (mApp oAdd [(.val (mVar 0)), (.val (mVar 1))])), (.val (mC (.int 1)))])), (.val (mVar 1))]))))
abbrev op_count_bags : Op := fnOp 2 2 [0, 1] m_count_bags
abbrev dfl_count_bags : List (List V) := [[]]
abbrev ks_count_bags : List Str := ["size", "values"]
theorem k_count_bags (D : Ob K mg cA) (B : Bl mg) (F : FunD K "count_bags" "count_bags" (defArgs (top 18)) (defBody (top 18)) (defScope (top 18)) dvs [] f fd) (c_check_values : ∀ lk fk, Cl P wo K mg base ⟨K, wo, cA, lk, fk⟩ 3 "check_values" 1 op_check_values dfl_check_values ks_check_values) (c_check_size : ∀ lk fk, Cl P wo K mg base ⟨K, wo, cA, lk, fk⟩ 3 "check_size" 3 op_check_size dfl_check_size ks_check_size) :
    FnG P wo K mg base (L2.CX P wo) 4 f fd ["values", "size"] (spF ⟨K, wo, cA, lk, fk⟩ op_count_bags 2) :=
  have nd : (["values", "size"] : List Str).Nodup := by decide
  z_fn (k := 3) (N := ["values", "size"]) [0, 1] F (C8.fnScope_by (by decide +kernel)) rfl rfl (by decide) (by decide) fun cdv A outer s H vs E hr hp =>
    (s_seq (s_drop (z_callD (dd := []) (dvs := []) (c_check_values _ _) (hr.mono (by omega)) rfl fnOp_len (List.mem_cons_self ..) .nil tkE (pa_z (pe_opd (pe_var rfl (by first | exact .inl rfl | exact .inr (.inl rfl) | exact .inr (.inr rfl)))) pa_z0))) (s_seq (s_drop (z_callD (dd := []) (dvs := []) (c_check_size _ _) (hr.mono (by omega)) rfl fnOp_len (List.mem_cons_self ..) .nil tkE (pa_z (pe_opd (pe_var rfl (by first | exact .inl rfl | exact .inr (.inl rfl) | exact .inr (.inr rfl)))) (pa_z (pe_val z_int) (pa_z (pe_val z_int) pa_z0))))) (s_one (s_ret (z_callBf cr_comb od_comb rfl B.comb (pa_z (pe_val (z_op op_sub od_sub (pe_val (z_op op_add od_add (pe_val (z_var 0 (pe_var rfl (by first | exact .inl rfl | exact .inr (.inl rfl) | exact .inr (.inr rfl))))) (pe_val (z_var 1 (pe_var rfl (by first | exact .inl rfl | exact .inr (.inl rfl) | exact .inr (.inr rfl))))))) (pe_val z_int))) (pa_z (pe_val (z_var 1 (pe_var rfl (by first | exact .inl rfl | exact .inr (.inl rfl) | exact .inr (.inr rfl))))) pa_z0)))))))

/-- bag_index -/
def m_bag_index : S := (sSeq (sDrop (mApp (dfOp op_check_values []) [(.peek 0)])) (sSeq (sIf (mNot (mApp (dfOp op_is_bag []) [(.peek 1), (.peek 0), (.val (mC (.int 0))), (.val (mC (.int 6)))])) (sDrop (mApp (oRaise "InvalidBag" ["given"]) [(.val (mVar 1))])) sNext) (sRet (mApp oIndex (.val (mIs isLst (mApp (dfOp op_bags []) [(.peek 0), (.val (mApp oLen [(.peek 1)]))])) :: [(.val (mVar 1))])))))
abbrev op_bag_index : Op := fnOp 2 2 [0, 1] m_bag_index
abbrev dfl_bag_index : List (List V) := [[]]
abbrev ks_bag_index : List Str := ["bag", "values"]
theorem k_bag_index (D : Ob K mg cA) (B : Bl mg) (F : FunD K "bag_index" "bag_index" (defArgs (top 19)) (defBody (top 19)) (defScope (top 19)) dvs [] f fd) (x_InvalidBag : ∀ lk fk, Ec P wo K mg base ⟨K, wo, cA, lk, fk⟩ 1 "InvalidBag" ["given"]) (c_check_values : ∀ lk fk, Cl P wo K mg base ⟨K, wo, cA, lk, fk⟩ 3 "check_values" 1 op_check_values dfl_check_values ks_check_values) (c_is_bag : ∀ lk fk, Cl P wo K mg base ⟨K, wo, cA, lk, fk⟩ 3 "is_bag" 4 op_is_bag dfl_is_bag ks_is_bag) (c_bags : ∀ lk fk, Cl P wo K mg base ⟨K, wo, cA, lk, fk⟩ 4 "bags" 2 op_bags dfl_bags ks_bags) :
    FnG P wo K mg base (L2.CX P wo) 5 f fd ["values", "bag"] (spF ⟨K, wo, cA, lk, fk⟩ op_bag_index 2) :=
  have nd : (["values", "bag"] : List Str).Nodup := by decide
  z_fn (k := 4) (N := ["values", "bag"]) [0, 1] F (C8.fnScope_by (by decide +kernel)) rfl rfl (by decide) (by decide) fun cdv A outer s H vs E hr hp =>
    (s_seq (s_drop (z_callD (dd := []) (dvs := []) (c_check_values _ _) (hr.mono (by omega)) rfl fnOp_len (List.mem_cons_self ..) .nil tkE (pa_z (pe_opd (pe_var rfl (by first | exact .inl rfl | exact .inr (.inl rfl) | exact .inr (.inr rfl)))) pa_z0))) (s_seq (s_if (t_not (t_val (z_callD (dd := []) (dvs := []) (c_is_bag _ _) (hr.mono (by omega)) rfl fnOp_len (List.mem_cons_self ..) .nil tkE (pa_z (pe_opd (pe_var rfl (by first | exact .inl rfl | exact .inr (.inl rfl) | exact .inr (.inr rfl)))) (pa_z (pe_opd (pe_var rfl (by first | exact .inl rfl | exact .inr (.inl rfl) | exact .inr (.inr rfl)))) (pa_z (pe_val z_int) (pa_z (pe_val z_int) pa_z0))))))) (s_one (s_raise (x_InvalidBag _ _) (by decide) rfl tkE (hr.toRoom.mono (by omega)) rfl (pa_z (pe_val (z_var 1 (pe_var rfl (by first | exact .inl rfl | exact .inr (.inl rfl) | exact .inr (.inr rfl))))) pa_z0))) s_nil) (s_one (s_ret (z_look PySem.F.slot_list_index PySem.F.type_list_index (mt_indexD hr.u65) od_index (z_callD (dd := []) (dvs := []) (c_bags _ _) (hr.mono (by omega)) rfl fnOp_len (List.mem_cons_self ..) .nil tkE (pa_z (pe_opd (pe_var rfl (by first | exact .inl rfl | exact .inr (.inl rfl) | exact .inr (.inr rfl)))) (pa_z (pe_val (z_callB call_len_seq od_len rfl B.«len» (by decide +kernel) (pa_z (pe_opd (pe_var rfl (by first | exact .inl rfl | exact .inr (.inl rfl) | exact .inr (.inr rfl)))) pa_z0))) pa_z0))) (pa_z (pe_val (z_var 1 (pe_var rfl (by first | exact .inl rfl | exact .inr (.inl rfl) | exact .inr (.inr rfl))))) pa_z0) rfl)))))

/-- _check_bag_and_value -/
def m__check_bag_and_value : S := (sSeq (sIf (mNot (mApp (dfOp op_is_bag []) [(.peek 0), (.val (mC (.int 4))), (.val (mC (.int 0))), (.val (mC (.int 6)))])) (sDrop (mApp (oRaise "InvalidBag" ["given"]) [(.val (mVar 0))])) sNext) (sDrop (mApp (dfOp op_check_value []) [(.peek 1), (.val (mC (.int 4)))])))
abbrev op__check_bag_and_value : Op := fnOp 2 2 [0, 1] m__check_bag_and_value
abbrev dfl__check_bag_and_value : List (List V) := [[]]
abbrev ks__check_bag_and_value : List Str := []
theorem k__check_bag_and_value (D : Ob K mg cA) (B : Bl mg) (F : FunD K "_check_bag_and_value" "_check_bag_and_value" (defArgs (top 20)) (defBody (top 20)) (defScope (top 20)) dvs [] f fd) (x_InvalidBag : ∀ lk fk, Ec P wo K mg base ⟨K, wo, cA, lk, fk⟩ 1 "InvalidBag" ["given"]) (c_is_bag : ∀ lk fk, Cl P wo K mg base ⟨K, wo, cA, lk, fk⟩ 3 "is_bag" 4 op_is_bag dfl_is_bag ks_is_bag) (c_check_value : ∀ lk fk, Cl P wo K mg base ⟨K, wo, cA, lk, fk⟩ 3 "check_value" 2 op_check_value dfl_check_value ks_check_value) :
    FnG P wo K mg base (L2.CX P wo) 4 f fd ["bag", "value"] (spF ⟨K, wo, cA, lk, fk⟩ op__check_bag_and_value 2) :=
  have nd : (["bag", "value"] : List Str).Nodup := by decide
  z_fn (k := 3) (N := ["bag", "value"]) [0, 1] F (C8.fnScope_by (by decide +kernel)) rfl rfl (by decide) (by decide) fun cdv A outer s H vs E hr hp =>
    (s_seq (s_if (t_not (t_val (z_callD (dd := []) (dvs := []) (c_is_bag _ _) (hr.mono (by omega)) rfl fnOp_len (List.mem_cons_self ..) .nil tkE (pa_z (pe_opd (pe_var rfl (by first | exact .inl rfl | exact .inr (.inl rfl) | exact .inr (.inr rfl)))) (pa_z (pe_val z_int) (pa_z (pe_val z_int) (pa_z (pe_val z_int) pa_z0))))))) (s_one (s_raise (x_InvalidBag _ _) (by decide) rfl tkE (hr.toRoom.mono (by omega)) rfl (pa_z (pe_val (z_var 0 (pe_var rfl (by first | exact .inl rfl | exact .inr (.inl rfl) | exact .inr (.inr rfl))))) pa_z0))) s_nil) (s_one (s_drop (z_callD (dd := []) (dvs := []) (c_check_value _ _) (hr.mono (by omega)) rfl fnOp_len (List.mem_cons_self ..) .nil tkE (pa_z (pe_opd (pe_var rfl (by first | exact .inl rfl | exact .inr (.inl rfl) | exact .inr (.inr rfl)))) (pa_z (pe_val z_int) pa_z0))))))

/-- added -/
def m_added : S := (sSeq (sDrop (mApp (dfOp op__check_bag_and_value []) [(.peek 0), (.peek 1)])) (sRet (mApp oTupleX [(.val (mApp oSortedB [(.val (mStar false (mVar 0) [(.val (mVar 1))]))]))])))
abbrev op_added : Op := fnOp 2 2 [0, 1] m_added
abbrev dfl_added : List (List V) := [[]]
abbrev ks_added : List Str := ["value", "bag"]
theorem k_added (D : Ob K mg cA) (B : Bl mg) (F : FunD K "added" "added" (defArgs (top 21)) (defBody (top 21)) (defScope (top 21)) dvs [] f fd) (c__check_bag_and_value : ∀ lk fk, Cl P wo K mg base ⟨K, wo, cA, lk, fk⟩ 4 "_check_bag_and_value" 2 op__check_bag_and_value dfl__check_bag_and_value ks__check_bag_and_value) :
    FnG P wo K mg base (L2.CX P wo) 5 f fd ["bag", "value"] (spF ⟨K, wo, cA, lk, fk⟩ op_added 2) :=
  have nd : (["bag", "value"] : List Str).Nodup := by decide
  z_fn (k := 4) (N := ["bag", "value"]) [0, 1] F (C8.fnScope_by (by decide +kernel)) rfl rfl (by decide) (by decide) fun cdv A outer s H vs E hr hp =>
    (s_seq (s_drop (z_callD (dd := []) (dvs := []) (c__check_bag_and_value _ _) (hr.mono (by omega)) rfl fnOp_len (List.mem_cons_self ..) .nil tkE (pa_z (pe_opd (pe_var rfl (by first | exact .inl rfl | exact .inr (.inl rfl) | exact .inr (.inr rfl)))) (pa_z (pe_opd (pe_var rfl (by first | exact .inl rfl | exact .inr (.inl rfl) | exact .inr (.inr rfl)))) pa_z0)))) (s_one (s_ret (z_callTy call_tupleX od_tupleX rfl B.«tuple» (by decide +kernel) (pa_z (pe_val (z_callB cr_sortedB od_sortedB rfl B.«sorted» (by decide +kernel) (pa_z (pe_val (z_starL (z_var 0 (pe_var rfl (by first | exact .inl rfl | exact .inr (.inl rfl) | exact .inr (.inr rfl)))) (pa_z (pe_val (z_var 1 (pe_var rfl (by first | exact .inl rfl | exact .inr (.inl rfl) | exact .inr (.inr rfl))))) pa_z0) rfl)) pa_z0))) pa_z0)))))

/-- removed -/
def m_removed : S := (sSeq (sDrop (mApp (dfOp op__check_bag_and_value []) [(.peek 0), (.peek 1)])) (sSeq (sIf (mApp (op2 (inT true)) [(.peek 1), (.peek 0)]) (sDrop (mApp (oRaise "NotInBag" ["value"]) [(.val (mVar 1))])) sNext) (sSeq (sAsg (.nm 2) (mApp oIndexX (.val (mIs isTux (mVar 0)) :: [(.val (mVar 1))]))) (sRet (mApp oCatX [(.val (mSlice (mVar 0) none (some (mVar 2)))), (.val (mSlice (mVar 0) (some (mApp oAdd [(.val (mVar 2)), (.val (mC (.int 1)))])) none))])))))
abbrev op_removed : Op := fnOp 2 3 [0, 1] m_removed
abbrev dfl_removed : List (List V) := [[]]
abbrev ks_removed : List Str := ["value", "bag"]
theorem k_removed (D : Ob K mg cA) (B : Bl mg) (F : FunD K "removed" "removed" (defArgs (top 22)) (defBody (top 22)) (defScope (top 22)) dvs [] f fd) (x_NotInBag : ∀ lk fk, Ec P wo K mg base ⟨K, wo, cA, lk, fk⟩ 1 "NotInBag" ["value"]) (c__check_bag_and_value : ∀ lk fk, Cl P wo K mg base ⟨K, wo, cA, lk, fk⟩ 4 "_check_bag_and_value" 2 op__check_bag_and_value dfl__check_bag_and_value ks__check_bag_and_value) :
    FnG P wo K mg base (L2.CX P wo) 5 f fd ["bag", "value"] (spF ⟨K, wo, cA, lk, fk⟩ op_removed 2) :=
  have nd : (["bag", "value", "at"] : List Str).Nodup := by decide
  z_fn (k := 4) (N := ["bag", "value", "at"]) [0, 1] F (C8.fnScope_by (by decide +kernel)) rfl rfl (by decide) (by decide) fun cdv A outer s H vs E hr hp =>
    (s_seq (s_drop (z_callD (dd := []) (dvs := []) (c__check_bag_and_value _ _) (hr.mono (by omega)) rfl fnOp_len (List.mem_cons_self ..) .nil tkE (pa_z (pe_opd (pe_var rfl (by first | exact .inl rfl | exact .inr (.inl rfl) | exact .inr (.inr rfl)))) (pa_z (pe_opd (pe_var rfl (by first | exact .inl rfl | exact .inr (.inl rfl) | exact .inr (.inr rfl)))) pa_z0)))) (s_seq (s_if (t_cmp (op_notInT hr.u65) od_inT (pe_opd (pe_var rfl (by first | exact .inl rfl | exact .inr (.inl rfl) | exact .inr (.inr rfl)))) (pe_opd (pe_var rfl (by first | exact .inl rfl | exact .inr (.inl rfl) | exact .inr (.inr rfl)))) rfl) (s_one (s_raise (x_NotInBag _ _) (by decide) rfl tkE (hr.toRoom.mono (by omega)) rfl (pa_z (pe_val (z_var 1 (pe_var rfl (by first | exact .inl rfl | exact .inr (.inl rfl) | exact .inr (.inr rfl))))) pa_z0))) s_nil) (s_seq (s_set nd rfl (by first | exact .inl rfl | exact .inr rfl) (z_lookX PySem.F.slot_tuple_index PySem.F.type_tuple_index (mt_indexX hr.u65) od_indexX (z_var 0 (pe_var rfl (by first | exact .inl rfl | exact .inr (.inl rfl) | exact .inr (.inr rfl)))) (pa_z (pe_val (z_var 1 (pe_var rfl (by first | exact .inl rfl | exact .inr (.inl rfl) | exact .inr (.inr rfl))))) pa_z0)) (by decide : (2 : Nat) ∉ ([0, 1] : List Nat))) (s_one (s_ret (z_op op_catX od_catX (pe_val (z_slice rfl (z_var 0 (pe_var rfl (by first | exact .inl rfl | exact .inr (.inl rfl) | exact .inr (.inr rfl)))) po_none (po_some (z_var 2 (pe_var rfl (by first | exact .inl rfl | exact .inr (.inl rfl) | exact .inr (.inr rfl))))))) (pe_val (z_slice rfl (z_var 0 (pe_var rfl (by first | exact .inl rfl | exact .inr (.inl rfl) | exact .inr (.inr rfl)))) (po_some (z_op op_add od_add (pe_val (z_var 2 (pe_var rfl (by first | exact .inl rfl | exact .inr (.inl rfl) | exact .inr (.inr rfl))))) (pe_val z_int))) po_none))))))))

/-- _law_cell -/
def m__law_cell : S := (sRet (mIf (mApp (oLt) [(.peek 1), (.val (mApp oLen [(.peek 0)]))]) (mApp oIx [(.peek 0), (.peek 1)]) (mApp oAdd [(.val (mApp oMul [(.val (mC (.int 5003))), (.val (mVar 1))])), (.val (mApp oMod [(.val (mApp oSum [(.val (mSlice (mVar 0) none (some (mC (.int 1)))))])), (.val (mC (.int 1000081)))]))])))
abbrev op__law_cell : Op := fnOp 2 2 [0, 1] m__law_cell
abbrev dfl__law_cell : List (List V) := [[]]
abbrev ks__law_cell : List Str := []
theorem k__law_cell (D : Ob K mg cA) (B : Bl mg) (F : FunD K "_law_cell" "_law_cell" (defArgs (top 24)) (defBody (top 24)) (defScope (top 24)) dvs [] f fd) :
    FnG P wo K mg base (L2.CX P wo) 1 f fd ["script", "k"] (spF ⟨K, wo, cA, lk, fk⟩ op__law_cell 2) :=
  have nd : (["script", "k"] : List Str).Nodup := by decide
  z_fn (k := 0) (N := ["script", "k"]) [0, 1] F (C8.fnScope_by (by decide +kernel)) rfl rfl (by decide) (by decide) fun cdv A outer s H vs E hr hp =>
    (s_one (s_ret (z_if (t_cmp op_lt od_lt (pe_opd (pe_var rfl (by first | exact .inl rfl | exact .inr (.inl rfl) | exact .inr (.inr rfl)))) (pe_val (z_callB call_len_seq od_len rfl B.«len» (by decide +kernel) (pa_z (pe_opd (pe_var rfl (by first | exact .inl rfl | exact .inr (.inl rfl) | exact .inr (.inr rfl)))) pa_z0))) rfl) (z_ix ix_seq od_ix (pe_opd (pe_var rfl (by first | exact .inl rfl | exact .inr (.inl rfl) | exact .inr (.inr rfl)))) (pe_opd (pe_var rfl (by first | exact .inl rfl | exact .inr (.inl rfl) | exact .inr (.inr rfl)))) (by intro _ _; rfl)) (z_op op_add od_add (pe_val (z_op op_mul od_mul (pe_val z_int) (pe_val (z_var 1 (pe_var rfl (by first | exact .inl rfl | exact .inr (.inl rfl) | exact .inr (.inr rfl))))))) (pe_val (z_op op_modN od_mod (pe_val (z_callB (cr_sum rfl) od_sum rfl B.«sum» (by decide +kernel) (pa_z (pe_val (z_slice rfl (z_var 0 (pe_var rfl (by first | exact .inl rfl | exact .inr (.inl rfl) | exact .inr (.inr rfl)))) po_none (po_some z_int))) pa_z0))) (pe_val z_int)))))))

/-- _law_box -/
def m__law_box : S := (sRet (mApp oLst [(.val (mApp oAbs [(.peek 0)])), (.val (mApp (oGe) [(.val (mApp oAbs [(.peek 0)])), (.val (mApp oPow [(.val (mC (.int 10))), (.val (mC (.int 18)))]))])), (.val (mApp oMod [(.val (mApp (op1 intOf) [(.val (mApp oAbs [(.peek 0)]))])), (.val (mC (.int 2147483629)))])), (.val (mC (.int 0)))]))
abbrev op__law_box : Op := fnOp 1 1 [0] m__law_box
abbrev dfl__law_box : List (List V) := [[]]
abbrev ks__law_box : List Str := []
theorem k__law_box (D : Ob K mg cA) (B : Bl mg) (F : FunD K "_law_box" "_law_box" (defArgs (top 25)) (defBody (top 25)) (defScope (top 25)) dvs [] f fd) :
    FnG P wo K mg base (L2.CX P wo) 1 f fd ["great"] (spF ⟨K, wo, cA, lk, fk⟩ op__law_box 1) :=
  have nd : (["great"] : List Str).Nodup := by decide
  z_fn (k := 0) (N := ["great"]) [0] F (C8.fnScope_by (by decide +kernel)) rfl rfl (by decide) (by decide) fun cdv A outer s H vs E hr hp =>
    (s_one (s_ret (z_lst (pa_z (pe_val (z_callB call_abs od_abs rfl B.«abs» (by decide +kernel) (pa_z (pe_opd (pe_var rfl (by first | exact .inl rfl | exact .inr (.inl rfl) | exact .inr (.inr rfl)))) pa_z0))) (pa_z (pe_val (z_cmp op_ge od_ge (pe_val (z_callB call_abs od_abs rfl B.«abs» (by decide +kernel) (pa_z (pe_opd (pe_var rfl (by first | exact .inl rfl | exact .inr (.inl rfl) | exact .inr (.inr rfl)))) pa_z0))) (pe_val (z_op op_pow od_pow (pe_val z_int) (pe_val z_int))) rfl)) (pa_z (pe_val (z_op op_modN od_mod (pe_val (z_callTy call_int1 od_int rfl B.«int» (by decide +kernel) (pa_z (pe_val (z_callB call_abs od_abs rfl B.«abs» (by decide +kernel) (pa_z (pe_opd (pe_var rfl (by first | exact .inl rfl | exact .inr (.inl rfl) | exact .inr (.inr rfl)))) pa_z0))) pa_z0))) (pe_val z_int))) (pa_z (pe_val z_int) pa_z0)))))))

/-- _law_take -/
def m__law_take : S := (sSeq (sIf (mAnd (mApp oIx [(.peek 0), (.val (mC (.int 1)))]) (mApp (oGt) [(.val (mApp oIx [(.peek 0), (.val (mC (.int 0)))])), (.val (mC (.int 0)))])) (sSeq (sAsg (.nm 3) (mApp oMod [(.val (mApp (op1 intOf) [(.val (mApp oIx [(.peek 0), (.val (mC (.int 0)))]))])), (.val (mVar 1))])) (sSeq (sSetI 0 (mApp oDiv [(.val (mApp oIx [(.peek 0), (.val (mC (.int 0)))])), (.val (mVar 1))]) (mC (.int 0))) (sRetV 3))) sNext) (sSeq (sSetI 0 (mApp oAdd [(.val (mApp oIx [(.peek 0), (.val (mC (.int 3)))])), (.val (mC (.int 1)))]) (mC (.int 3))) (sSeq (sAsg (.nm 2) (mApp oMod [(.val (mApp (op1 intOf) [(.val (mApp oPow [(.val (mApp oAdd [(.val (mApp oAdd [(.val (mApp oIx [(.peek 0), (.val (mC (.int 2)))])), (.val (mApp oMul [(.val (mC (.int 15485863))), (.val (mApp oIx [(.peek 0), (.val (mC (.int 3)))]))]))])), (.val (mC (.int 179424697)))])), (.val (mC (.int 5)))]))])), (.val (mC (.int 2147483647)))])) (sRet (mApp oMod [(.val (mApp oDiv [(.val (mApp oMod [(.val (mApp (op1 intOf) [(.val (mApp oPow [(.val (mApp oAdd [(.val (mApp oMul [(.val (mVar 2)), (.val (mC (.int 48271)))])), (.val (mApp oMul [(.val (mC (.int 104723))), (.val (mApp oIx [(.peek 0), (.val (mC (.int 3)))]))]))])), (.val (mC (.int 3)))]))])), (.val (mC (.int 2147483587)))])), (.val (mC (.int 64)))])), (.val (mVar 1))])))))
abbrev op__law_take : Op := fnOp 2 4 [0, 1] m__law_take
abbrev dfl__law_take : List (List V) := [[]]
abbrev ks__law_take : List Str := []
theorem k__law_take (D : Ob K mg cA) (B : Bl mg) (F : FunD K "_law_take" "_law_take" (defArgs (top 26)) (defBody (top 26)) (defScope (top 26)) dvs [] f fd) :
    FnG P wo K mg base (L2.CX P wo) 1 f fd ["box", "many"] (spF ⟨K, wo, cA, lk, fk⟩ op__law_take 2) :=
  have nd : (["box", "many", "mixed", "digit"] : List Str).Nodup := by decide
  z_fn (k := 0) (N := ["box", "many", "mixed", "digit"]) [0, 1] F (C8.fnScope_by (by decide +kernel)) rfl rfl (by decide) (by decide) fun cdv A outer s H vs E hr hp =>
    (s_seq (s_if (PW.pt (t_and (t_val (z_ix ix_seq od_ix (pe_opd (pe_var rfl (by first | exact .inl rfl | exact .inr (.inl rfl) | exact .inr (.inr rfl)))) (pe_val z_int) (by intro _ _; rfl))) (t_and1 (t_cmp op_gt od_gt (pe_val (z_ix ix_seq od_ix (pe_opd (pe_var rfl (by first | exact .inl rfl | exact .inr (.inl rfl) | exact .inr (.inr rfl)))) (pe_val z_int) (by intro _ _; rfl))) (pe_val z_int) rfl)))) (s_seq (s_set nd rfl (by first | exact .inl rfl | exact .inr rfl) (z_op op_modN od_mod (pe_val (z_callTy call_int1 od_int rfl B.«int» (by decide +kernel) (pa_z (pe_val (z_ix ix_seq od_ix (pe_opd (pe_var rfl (by first | exact .inl rfl | exact .inr (.inl rfl) | exact .inr (.inr rfl)))) (pe_val z_int) (by intro _ _; rfl))) pa_z0))) (pe_val (z_var 1 (pe_var rfl (by first | exact .inl rfl | exact .inr (.inl rfl) | exact .inr (.inr rfl)))))) (by decide : (3 : Nat) ∉ ([0, 1] : List Nat))) (s_seq (s_setI (pe_var rfl (by first | exact .inl rfl | exact .inr (.inl rfl) | exact .inr (.inr rfl))) (z_op op_fdivN od_div (pe_val (z_ix ix_seq od_ix (pe_opd (pe_var rfl (by first | exact .inl rfl | exact .inr (.inl rfl) | exact .inr (.inr rfl)))) (pe_val z_int) (by intro _ _; rfl))) (pe_val (z_var 1 (pe_var rfl (by first | exact .inl rfl | exact .inr (.inl rfl) | exact .inr (.inr rfl)))))) z_int) (s_one (s_retV (pe_var rfl (by first | exact .inl rfl | exact .inr (.inl rfl) | exact .inr (.inr rfl))))))) s_nil) (s_seq (s_setI (pe_var rfl (by first | exact .inl rfl | exact .inr (.inl rfl) | exact .inr (.inr rfl))) (z_op op_add od_add (pe_val (z_ix ix_seq od_ix (pe_opd (pe_var rfl (by first | exact .inl rfl | exact .inr (.inl rfl) | exact .inr (.inr rfl)))) (pe_val z_int) (by intro _ _; rfl))) (pe_val z_int)) z_int) (s_seq (s_set nd rfl (by first | exact .inl rfl | exact .inr rfl) (z_op op_modN od_mod (pe_val (z_callTy call_int1 od_int rfl B.«int» (by decide +kernel) (pa_z (pe_val (z_op op_pow od_pow (pe_val (z_op op_add od_add (pe_val (z_op op_add od_add (pe_val (z_ix ix_seq od_ix (pe_opd (pe_var rfl (by first | exact .inl rfl | exact .inr (.inl rfl) | exact .inr (.inr rfl)))) (pe_val z_int) (by intro _ _; rfl))) (pe_val (z_op op_mul od_mul (pe_val z_int) (pe_val (z_ix ix_seq od_ix (pe_opd (pe_var rfl (by first | exact .inl rfl | exact .inr (.inl rfl) | exact .inr (.inr rfl)))) (pe_val z_int) (by intro _ _; rfl))))))) (pe_val z_int))) (pe_val z_int))) pa_z0))) (pe_val z_int)) (by decide : (2 : Nat) ∉ ([0, 1] : List Nat))) (s_one (s_ret (z_op op_modN od_mod (pe_val (z_op op_fdivN od_div (pe_val (z_op op_modN od_mod (pe_val (z_callTy call_int1 od_int rfl B.«int» (by decide +kernel) (pa_z (pe_val (z_op op_pow od_pow (pe_val (z_op op_add od_add (pe_val (z_op op_mul od_mul (pe_val (z_var 2 (pe_var rfl (by first | exact .inl rfl | exact .inr (.inl rfl) | exact .inr (.inr rfl))))) (pe_val z_int))) (pe_val (z_op op_mul od_mul (pe_val z_int) (pe_val (z_ix ix_seq od_ix (pe_opd (pe_var rfl (by first | exact .inl rfl | exact .inr (.inl rfl) | exact .inr (.inr rfl)))) (pe_val z_int) (by intro _ _; rfl))))))) (pe_val z_int))) pa_z0))) (pe_val z_int))) (pe_val z_int))) (pe_val (z_var 1 (pe_var rfl (by first | exact .inl rfl | exact .inr (.inl rfl) | exact .inr (.inr rfl)))))))))))

/-- _law_bags -/
def m__law_bags : S := (sSeq (sAsg (.nm 2) (mApp oLst [(.val (mApp oTux []))])) (sSeq (sFor (iRng [.val (mVar 1)]) (.nm 3) (sSeq (sAsg (.nm 4) (mApp oLst [])) (sSeq (sFor (iSeq (mVar 2)) (.nm 5) (sSeq (sAsg (.nm 6) (mIf (mApp (op2 (eqB true)) [(.peek 5), (.val (mApp oTux []))]) (mApp oMaxT [(.peek 5)]) (mC (.int 0)))) (sAsg (.nm 4) (mApp oCat [(.val (mVar 4)), (.val (mLc (iRng [.val (mVar 6), .val (mVar 0)]) (.nm 7) none (mApp oCatX [(.val (mVar 5)), (.val (mApp oTux [(.val (mVar 7))]))]) [7]))])))) (sAsg (.nm 2) (mVar 4))))) (sRetV 2)))
abbrev op__law_bags : Op := fnOp 2 8 [0, 1] m__law_bags
abbrev dfl__law_bags : List (List V) := [[]]
abbrev ks__law_bags : List Str := []
theorem k__law_bags (D : Ob K mg cA) (B : Bl mg) (F : FunD K "_law_bags" "_law_bags" (defArgs (top 27)) (defBody (top 27)) (defScope (top 27)) dvs [] f fd) :
    FnG P wo K mg base (L2.CX P wo) 1 f fd ["values", "size"] (spF ⟨K, wo, cA, lk, fk⟩ op__law_bags 2) :=
  have nd : (["values", "size", "found", "turn", "longer", "bag", "least", "value"] : List Str).Nodup := by decide
  z_fn (k := 0) (N := ["values", "size", "found", "turn", "longer", "bag", "least", "value"]) [0, 1] F (C8.fnScope_by (by decide +kernel)) rfl rfl (by decide) (by decide) fun cdv A outer s H vs E hr hp =>
    (s_seq (s_set nd rfl (by first | exact .inl rfl | exact .inr rfl) (z_lst (pa_z (pe_val (z_tux pa_z0)) pa_z0)) (by decide : (2 : Nat) ∉ ([0, 1] : List Nat))) (s_seq (s_for pOwn rfl (i_rng1 rfl B.range (pi_range1 rfl B.range (pa_z (pe_val (z_var 1 (pe_var rfl (by first | exact .inl rfl | exact .inr (.inl rfl) | exact .inr (.inr rfl))))) pa_z0))) (g_nm (pg_name nd rfl (by first | exact .inl rfl | exact .inr rfl)) (by decide : (3 : Nat) ∉ ([0, 1] : List Nat))) (s_seq (s_set nd rfl (by first | exact .inl rfl | exact .inr rfl) (z_lst pa_z0) (by decide : (4 : Nat) ∉ ([0, 1] : List Nat))) (s_seq (s_for pOwn rfl (i_seq (z_var 2 (pe_var rfl (by first | exact .inl rfl | exact .inr (.inl rfl) | exact .inr (.inr rfl)))) rfl) (g_nm (pg_name nd rfl (by first | exact .inl rfl | exact .inr rfl)) (by decide : (5 : Nat) ∉ ([0, 1] : List Nat))) (s_seq (s_set nd rfl (by first | exact .inl rfl | exact .inr rfl) (z_if (t_cmp (op_neB hr.units) od_neB (pe_opd (pe_var rfl (by first | exact .inl rfl | exact .inr (.inl rfl) | exact .inr (.inr rfl)))) (pe_val (z_tux pa_z0)) rfl) (z_callB (cr_maxT rfl hr.u65) od_maxT rfl B.max (by decide +kernel) (pa_z (pe_opd (pe_var rfl (by first | exact .inl rfl | exact .inr (.inl rfl) | exact .inr (.inr rfl)))) pa_z0)) z_int) (by decide : (6 : Nat) ∉ ([0, 1] : List Nat))) (s_one (s_set nd rfl (by first | exact .inl rfl | exact .inr rfl) (z_op op_cat od_cat (pe_val (z_var 4 (pe_var rfl (by first | exact .inl rfl | exact .inr (.inl rfl) | exact .inr (.inr rfl))))) (pe_val (z_lc (own := [("value", 7)]) (hp := (by decide : ∀ i ∈ ([0, 1] : List Nat), i ∉ ([7] : List Nat))) rfl nd (i_rng2 (pi_range2 rfl B.range (pa_z (pe_val (z_var 6 (pe_var rfl (by first | exact .inl rfl | exact .inr (.inl rfl) | exact .inr (.inr rfl))))) (pa_z (pe_val (z_var 0 (pe_var rfl (by first | exact .inl rfl | exact .inr (.inl rfl) | exact .inr (.inr rfl))))) pa_z0)))) (blkOk_by (N := ["values", "size", "found", "turn", "longer", "bag", "least", "value"]) (sc := defScope (top 27)) (by decide +kernel)) (fun _ _ _ _ _ => (g_nm (pg_name nd rfl (by first | exact .inl rfl | exact .inr rfl)) (by decide : (7 : Nat) ∉ ([0, 1] : List Nat)))) (fun _ _ _ _ _ => ts_nil) (fun _ _ _ _ _ => (z_op op_catX od_catX (pe_val (z_var 5 (pe_var rfl (by first | exact .inl rfl | exact .inr (.inl rfl) | exact .inr (.inr rfl))))) (pe_val (z_tux (pa_z (pe_val (z_var 7 (pe_var rfl (by first | exact .inl rfl | exact .inr (.inl rfl) | exact .inr (.inr rfl))))) pa_z0)))))))) (by decide : (4 : Nat) ∉ ([0, 1] : List Nat)))))) (s_one (s_set nd rfl (by first | exact .inl rfl | exact .inr rfl) (z_var 4 (pe_var rfl (by first | exact .inl rfl | exact .inr (.inl rfl) | exact .inr (.inr rfl)))) (by decide : (2 : Nat) ∉ ([0, 1] : List Nat))))))) (s_one (s_retV (pe_var rfl (by first | exact .inl rfl | exact .inr (.inl rfl) | exact .inr (.inr rfl)))))))

/-- _law_is_number -/
def m__law_is_number : S := (sRet (mAnd (mApp (op1 (isiB "int")) [(.peek 0)]) (mAnd (mNot (mApp (op1 (isiB "bool")) [(.peek 0)])) (mAnd (mApp (oLe) [(.peek 1), (.peek 0)]) (mApp (oLe) [(.peek 0), (.peek 2)])))))
abbrev op__law_is_number : Op := fnOp 3 3 [0, 1, 2] m__law_is_number
abbrev dfl__law_is_number : List (List V) := [[]]
abbrev ks__law_is_number : List Str := []
theorem k__law_is_number (D : Ob K mg cA) (B : Bl mg) (F : FunD K "_law_is_number" "_law_is_number" (defArgs (top 28)) (defBody (top 28)) (defScope (top 28)) dvs [] f fd) :
    FnG P wo K mg base (L2.CX P wo) 1 f fd ["thing", "least", "most"] (spF ⟨K, wo, cA, lk, fk⟩ op__law_is_number 3) :=
  have nd : (["thing", "least", "most"] : List Str).Nodup := by decide
  z_fn (k := 0) (N := ["thing", "least", "most"]) [0, 1, 2] F (C8.fnScope_by (by decide +kernel)) rfl rfl (by decide) (by decide) fun cdv A outer s H vs E hr hp =>
    (s_one (s_ret (z_and (z_isi (pe_opd (pe_var rfl (by first | exact .inl rfl | exact .inr (.inl rfl) | exact .inr (.inr rfl)))) (pe_bt rfl B.«int» (by decide +kernel)) rfl B.isinstance rfl) (z_and (z_not (z_isi (pe_opd (pe_var rfl (by first | exact .inl rfl | exact .inr (.inl rfl) | exact .inr (.inr rfl)))) (pe_bt rfl B.«bool» (by decide +kernel)) rfl B.isinstance rfl)) (z_and (z_cmp op_le od_le (pe_opd (pe_var rfl (by first | exact .inl rfl | exact .inr (.inl rfl) | exact .inr (.inr rfl)))) (pe_opd (pe_var rfl (by first | exact .inl rfl | exact .inr (.inl rfl) | exact .inr (.inr rfl)))) rfl) (z_one (z_cmp op_le od_le (pe_opd (pe_var rfl (by first | exact .inl rfl | exact .inr (.inl rfl) | exact .inr (.inr rfl)))) (pe_opd (pe_var rfl (by first | exact .inl rfl | exact .inr (.inl rfl) | exact .inr (.inr rfl)))) rfl)))))))

/-- _law_is_bag -/
def m__law_is_bag : S := (sSeq (sIf (mOr (mNot (mApp (op1 (isiB "tuple")) [(.peek 1)])) (mApp (oGt) [(.val (mApp oLen [(.peek 1)])), (.val (mC (.int 6)))])) (sRet (mC (.bl false))) sNext) (sSeq (sAside 1 fun xs => (sFor (fun env => .ok xs env) (.nm 2) (sIf (mNot (mApp (dfOp op__law_is_number []) [(.peek 2), (.val (mC (.int 0))), (.val (mApp oSub [(.val (mVar 0)), (.val (mC (.int 1)))]))])) (sRet (mC (.bl false))) sNext))) (sRet (mApp (op2 (eqB false)) [(.val (mApp oList [(.peek 1)])), (.val (mApp oSortedB [(.peek 1)]))]))))
abbrev op__law_is_bag : Op := fnOp 2 3 [0, 1] m__law_is_bag
abbrev dfl__law_is_bag : List (List V) := [[]]
abbrev ks__law_is_bag : List Str := []
theorem k__law_is_bag (D : Ob K mg cA) (B : Bl mg) (F : FunD K "_law_is_bag" "_law_is_bag" (defArgs (top 29)) (defBody (top 29)) (defScope (top 29)) dvs [] f fd) (c__law_is_number : ∀ lk fk, Cl P wo K mg base ⟨K, wo, cA, lk, fk⟩ 1 "_law_is_number" 3 op__law_is_number dfl__law_is_number ks__law_is_number) :
    FnG P wo K mg base (L2.CX P wo) 2 f fd ["values", "thing"] (spF ⟨K, wo, cA, lk, fk⟩ op__law_is_bag 2) :=
  have nd : (["values", "thing", "item"] : List Str).Nodup := by decide
  z_fn (k := 1) (N := ["values", "thing", "item"]) [0, 1] F (C8.fnScope_by (by decide +kernel)) rfl rfl (by decide) (by decide) fun cdv A outer s H vs E hr hp =>
    (s_seq (s_if (PW.pt (t_or (t_not (t_val (z_isi (pe_opd (pe_var rfl (by first | exact .inl rfl | exact .inr (.inl rfl) | exact .inr (.inr rfl)))) (pe_bt rfl B.«tuple» (by decide +kernel)) rfl B.isinstance rfl))) (t_or1 (t_cmp op_gt od_gt (pe_val (z_callB call_len_seq od_len rfl B.«len» (by decide +kernel) (pa_z (pe_opd (pe_var rfl (by first | exact .inl rfl | exact .inr (.inl rfl) | exact .inr (.inr rfl)))) pa_z0))) (pe_val z_int) rfl)))) (s_one (s_ret z_bl)) s_nil) (s_seq (s_aside hp fun _ _ _ xs hp hk => (s_for pOwn rfl (i_pk (pe_var rfl (by first | exact .inl rfl | exact .inr (.inl rfl) | exact .inr (.inr rfl))) rfl hk) (g_nm (pg_name nd rfl (by first | exact .inl rfl | exact .inr rfl)) (by decide : (2 : Nat) ∉ ([1, 0, 1] : List Nat))) (s_one (s_if (t_not (t_val (z_callD (dd := []) (dvs := []) (c__law_is_number _ _) (hr.mono (by omega)) rfl fnOp_len (List.mem_cons_self ..) .nil tkE (pa_z (pe_opd (pe_var rfl (by first | exact .inl rfl | exact .inr (.inl rfl) | exact .inr (.inr rfl)))) (pa_z (pe_val z_int) (pa_z (pe_val (z_op op_sub od_sub (pe_val (z_var 0 (pe_var rfl (by first | exact .inl rfl | exact .inr (.inl rfl) | exact .inr (.inr rfl))))) (pe_val z_int))) pa_z0)))))) (s_one (s_ret z_bl)) s_nil)))) (s_one (s_ret (z_cmp (op_eqB hr.units) od_eqB (pe_val (z_callTy call_list_of od_list rfl B.«list» (by decide +kernel) (pa_z (pe_opd (pe_var rfl (by first | exact .inl rfl | exact .inr (.inl rfl) | exact .inr (.inr rfl)))) pa_z0))) (pe_val (z_callB cr_sortedB od_sortedB rfl B.«sorted» (by decide +kernel) (pa_z (pe_opd (pe_var rfl (by first | exact .inl rfl | exact .inr (.inl rfl) | exact .inr (.inr rfl)))) pa_z0))) rfl)))))

/-- _law_odd -/
def m__law_odd : S := (sSeq (sAsg (.nm 1) (mApp oLst [(.val (mC .non)), (.val (mC (.bl true))), (.val (mC (.bl false))), (.val (mApp oNeg [(.val (mC (.int 1)))])), (.val (mApp oPow [(.val (mC (.int 10))), (.val (mC (.int 19)))])), (.val (mC (.str "1"))), (.val (mC (.str ""))), (.val (mApp oLst [])), (.val (mApp oLst [(.val (mC (.int 1)))])), (.val (mApp oTux [(.val (mC (.int 1)))])), (.val (mApp oTux [])), (.val (mApp oDict1 [(.val (mApp oLst [(.val (mApp oTux [(.val (mC (.str "a"))), (.val (mC (.int 1)))]))]))])), (.val (mApp oTux [(.val (mC (.int 0))), (.val (mC (.int 0)))])), (.val (mApp oTux [(.val (mApp oTux [(.val (mC (.int 0)))]))])), (.val (mC (.int 3))), (.val (mApp oNeg [(.val (mApp oPow [(.val (mC (.int 10))), (.val (mC (.int 18)))]))]))])) (sRet (mApp oIx [(.peek 1), (.val (mApp (dfOp op__law_take []) [(.peek 0), (.val (mC (.int 16)))]))])))
abbrev op__law_odd : Op := fnOp 1 2 [0] m__law_odd
abbrev dfl__law_odd : List (List V) := [[]]
abbrev ks__law_odd : List Str := []
theorem k__law_odd (D : Ob K mg cA) (B : Bl mg) (F : FunD K "_law_odd" "_law_odd" (defArgs (top 30)) (defBody (top 30)) (defScope (top 30)) dvs [] f fd) (c__law_take : ∀ lk fk, Cl P wo K mg base ⟨K, wo, cA, lk, fk⟩ 1 "_law_take" 2 op__law_take dfl__law_take ks__law_take) :
    FnG P wo K mg base (L2.CX P wo) 2 f fd ["box"] (spF ⟨K, wo, cA, lk, fk⟩ op__law_odd 1) :=
  have nd : (["box", "menu"] : List Str).Nodup := by decide
  z_fn (k := 1) (N := ["box", "menu"]) [0] F (C8.fnScope_by (by decide +kernel)) rfl rfl (by decide) (by decide) fun cdv A outer s H vs E hr hp =>
    (s_seq (s_set nd rfl (by first | exact .inl rfl | exact .inr rfl) (z_lst (pa_z (pe_val z_non) (pa_z (pe_val z_bl) (pa_z (pe_val z_bl) (pa_z (pe_val (z_un un_neg od_neg (pe_val z_int))) (pa_z (pe_val (z_op op_pow od_pow (pe_val z_int) (pe_val z_int))) (pa_z (pe_val z_str) (pa_z (pe_val z_str) (pa_z (pe_val (z_lst pa_z0)) (pa_z (pe_val (z_lst (pa_z (pe_val z_int) pa_z0))) (pa_z (pe_val (z_tux (pa_z (pe_val z_int) pa_z0))) (pa_z (pe_val (z_tux pa_z0)) (pa_z (pe_val (z_callTy (call_dict1 rfl) od_dict1 rfl B.dict (by decide +kernel) (pa_z (pe_val (z_lst (pa_z (pe_val (z_tux (pa_z (pe_val z_str) (pa_z (pe_val z_int) pa_z0)))) pa_z0))) pa_z0))) (pa_z (pe_val (z_tux (pa_z (pe_val z_int) (pa_z (pe_val z_int) pa_z0)))) (pa_z (pe_val (z_tux (pa_z (pe_val (z_tux (pa_z (pe_val z_int) pa_z0))) pa_z0))) (pa_z (pe_val z_int) (pa_z (pe_val (z_un un_neg od_neg (pe_val (z_op op_pow od_pow (pe_val z_int) (pe_val z_int))))) pa_z0))))))))))))))))) (by decide : (1 : Nat) ∉ ([0] : List Nat))) (s_one (s_ret (z_ix ix_seq od_ix (pe_opd (pe_var rfl (by first | exact .inl rfl | exact .inr (.inl rfl) | exact .inr (.inr rfl)))) (pe_val (z_callD (dd := []) (dvs := []) (c__law_take _ _) (hr.mono (by omega)) rfl fnOp_len (List.mem_cons_self ..) .nil tkE (pa_z (pe_opd (pe_var rfl (by first | exact .inl rfl | exact .inr (.inl rfl) | exact .inr (.inr rfl)))) (pa_z (pe_val z_int) pa_z0)))) (by intro _ _; rfl)))))

/-- _law_number -/
def m__law_number : S := (sSeq (sAsg (.nm 3) (mApp (dfOp op__law_take []) [(.peek 0), (.val (mC (.int 8)))])) (sSeq (sIf (mApp (oLt) [(.peek 3), (.val (mC (.int 5)))]) (sRet (mApp oAdd [(.val (mVar 1)), (.val (mApp (dfOp op__law_take []) [(.peek 0), (.val (mApp oAdd [(.val (mApp oSub [(.val (mVar 2)), (.val (mVar 1))])), (.val (mC (.int 1)))]))]))])) sNext) (sSeq (sIf (mApp (op2 (eqB false)) [(.peek 3), (.val (mC (.int 5)))]) (sRet (mApp oIx [(.val (mApp oLst [(.val (mApp oSub [(.val (mVar 1)), (.val (mC (.int 1)))])), (.val (mApp oAdd [(.val (mVar 2)), (.val (mC (.int 1)))]))])), (.val (mApp (dfOp op__law_take []) [(.peek 0), (.val (mC (.int 2)))]))])) sNext) (sRet (mApp (dfOp op__law_odd []) [(.peek 0)])))))
abbrev op__law_number : Op := fnOp 3 4 [0, 1, 2] m__law_number
abbrev dfl__law_number : List (List V) := [[]]
abbrev ks__law_number : List Str := []
theorem k__law_number (D : Ob K mg cA) (B : Bl mg) (F : FunD K "_law_number" "_law_number" (defArgs (top 31)) (defBody (top 31)) (defScope (top 31)) dvs [] f fd) (c__law_take : ∀ lk fk, Cl P wo K mg base ⟨K, wo, cA, lk, fk⟩ 1 "_law_take" 2 op__law_take dfl__law_take ks__law_take) (c__law_odd : ∀ lk fk, Cl P wo K mg base ⟨K, wo, cA, lk, fk⟩ 2 "_law_odd" 1 op__law_odd dfl__law_odd ks__law_odd) :
    FnG P wo K mg base (L2.CX P wo) 3 f fd ["box", "least", "most"] (spF ⟨K, wo, cA, lk, fk⟩ op__law_number 3) :=
  have nd : (["box", "least", "most", "way"] : List Str).Nodup := by decide
  z_fn (k := 2) (N := ["box", "least", "most", "way"]) [0, 1, 2] F (C8.fnScope_by (by decide +kernel)) rfl rfl (by decide) (by decide) fun cdv A outer s H vs E hr hp =>
    (s_seq (s_set nd rfl (by first | exact .inl rfl | exact .inr rfl) (z_callD (dd := []) (dvs := []) (c__law_take _ _) (hr.mono (by omega)) rfl fnOp_len (List.mem_cons_self ..) .nil tkE (pa_z (pe_opd (pe_var rfl (by first | exact .inl rfl | exact .inr (.inl rfl) | exact .inr (.inr rfl)))) (pa_z (pe_val z_int) pa_z0))) (by decide : (3 : Nat) ∉ ([0, 1, 2] : List Nat))) (s_seq (s_if (t_cmp op_lt od_lt (pe_opd (pe_var rfl (by first | exact .inl rfl | exact .inr (.inl rfl) | exact .inr (.inr rfl)))) (pe_val z_int) rfl) (s_one (s_ret (z_op op_add od_add (pe_val (z_var 1 (pe_var rfl (by first | exact .inl rfl | exact .inr (.inl rfl) | exact .inr (.inr rfl))))) (pe_val (z_callD (dd := []) (dvs := []) (c__law_take _ _) (hr.mono (by omega)) rfl fnOp_len (List.mem_cons_self ..) .nil tkE (pa_z (pe_opd (pe_var rfl (by first | exact .inl rfl | exact .inr (.inl rfl) | exact .inr (.inr rfl)))) (pa_z (pe_val (z_op op_add od_add (pe_val (z_op op_sub od_sub (pe_val (z_var 2 (pe_var rfl (by first | exact .inl rfl | exact .inr (.inl rfl) | exact .inr (.inr rfl))))) (pe_val (z_var 1 (pe_var rfl (by first | exact .inl rfl | exact .inr (.inl rfl) | exact .inr (.inr rfl))))))) (pe_val z_int))) pa_z0))))))) s_nil) (s_seq (s_if (t_cmp (op_eqB hr.units) od_eqB (pe_opd (pe_var rfl (by first | exact .inl rfl | exact .inr (.inl rfl) | exact .inr (.inr rfl)))) (pe_val z_int) rfl) (s_one (s_ret (z_ix ix_seq od_ix (pe_val (z_lst (pa_z (pe_val (z_op op_sub od_sub (pe_val (z_var 1 (pe_var rfl (by first | exact .inl rfl | exact .inr (.inl rfl) | exact .inr (.inr rfl))))) (pe_val z_int))) (pa_z (pe_val (z_op op_add od_add (pe_val (z_var 2 (pe_var rfl (by first | exact .inl rfl | exact .inr (.inl rfl) | exact .inr (.inr rfl))))) (pe_val z_int))) pa_z0)))) (pe_val (z_callD (dd := []) (dvs := []) (c__law_take _ _) (hr.mono (by omega)) rfl fnOp_len (List.mem_cons_self ..) .nil tkE (pa_z (pe_opd (pe_var rfl (by first | exact .inl rfl | exact .inr (.inl rfl) | exact .inr (.inr rfl)))) (pa_z (pe_val z_int) pa_z0)))) (by intro _ _; rfl)))) s_nil) (s_one (s_ret (z_callD (dd := []) (dvs := []) (c__law_odd _ _) (hr.mono (by omega)) rfl fnOp_len (List.mem_cons_self ..) .nil tkE (pa_z (pe_opd (pe_var rfl (by first | exact .inl rfl | exact .inr (.inl rfl) | exact .inr (.inr rfl)))) pa_z0)))))))

/-- _law_bag -/
def m__law_bag : S := (sRet (mApp oTupleX [(.val (mApp oSortedB [(.val (mLc (iRng [.val (mApp (dfOp op__law_take []) [(.peek 0), (.val (mC (.int 7)))])]) (.nm 2) none (mApp (dfOp op__law_take []) [(.peek 0), (.peek 1)]) [2]))]))]))
abbrev op__law_bag : Op := fnOp 2 3 [0, 1] m__law_bag
abbrev dfl__law_bag : List (List V) := [[]]
abbrev ks__law_bag : List Str := []
theorem k__law_bag (D : Ob K mg cA) (B : Bl mg) (F : FunD K "_law_bag" "_law_bag" (defArgs (top 32)) (defBody (top 32)) (defScope (top 32)) dvs [] f fd) (c__law_take : ∀ lk fk, Cl P wo K mg base ⟨K, wo, cA, lk, fk⟩ 1 "_law_take" 2 op__law_take dfl__law_take ks__law_take) :
    FnG P wo K mg base (L2.CX P wo) 2 f fd ["box", "values"] (spF ⟨K, wo, cA, lk, fk⟩ op__law_bag 2) :=
  have nd : (["box", "values", "turn"] : List Str).Nodup := by decide
  z_fn (k := 1) (N := ["box", "values", "turn"]) [0, 1] F (C8.fnScope_by (by decide +kernel)) rfl rfl (by decide) (by decide) fun cdv A outer s H vs E hr hp =>
    (s_one (s_ret (z_callTy call_tupleX od_tupleX rfl B.«tuple» (by decide +kernel) (pa_z (pe_val (z_callB cr_sortedB od_sortedB rfl B.«sorted» (by decide +kernel) (pa_z (pe_val (z_lc (own := [("turn", 2)]) (hp := (by decide : ∀ i ∈ ([0, 1] : List Nat), i ∉ ([2] : List Nat))) rfl nd (i_rng1 rfl B.range (pi_range1 rfl B.range (pa_z (pe_val (z_callD (dd := []) (dvs := []) (c__law_take _ _) (hr.mono (by omega)) rfl fnOp_len (List.mem_cons_self ..) .nil tkE (pa_z (pe_opd (pe_var rfl (by first | exact .inl rfl | exact .inr (.inl rfl) | exact .inr (.inr rfl)))) (pa_z (pe_val z_int) pa_z0)))) pa_z0))) (blkOk_by (N := ["box", "values", "turn"]) (sc := defScope (top 32)) (by decide +kernel)) (fun _ _ _ _ _ => (g_nm (pg_name nd rfl (by first | exact .inl rfl | exact .inr rfl)) (by decide : (2 : Nat) ∉ ([0, 1] : List Nat)))) (fun _ _ _ _ _ => ts_nil) (fun _ _ _ _ _ => (z_callD (dd := []) (dvs := []) (c__law_take _ _) (hr.mono (by omega)) rfl fnOp_len (List.mem_cons_self ..) .nil tk0 (pa_z (pe_opd (pe_var rfl (by first | exact .inl rfl | exact .inr (.inl rfl) | exact .inr (.inr rfl)))) (pa_z (pe_opd (pe_var rfl (by first | exact .inl rfl | exact .inr (.inl rfl) | exact .inr (.inr rfl)))) pa_z0)))))) pa_z0))) pa_z0))))

/-- _law_near -/
def m__law_near : S := (sSeq (sPar [2, 3] [(.val (mApp (dfOp op__law_take []) [(.peek 0), (.val (mC (.int 10)))])), (.val (mApp (dfOp op__law_bag []) [(.peek 0), (.peek 1)]))]) (sSeq (sIf (mApp (op2 (eqB false)) [(.peek 2), (.val (mC (.int 0)))]) (sRet (mApp oList [(.peek 3)])) sNext) (sSeq (sIf (mApp (op2 (eqB false)) [(.peek 2), (.val (mC (.int 1)))]) (sRet (mRevX (mVar 3))) sNext) (sSeq (sIf (mApp (op2 (eqB false)) [(.peek 2), (.val (mC (.int 2)))]) (sRet (mApp oTupleX [(.val (mApp oCat [(.val (mApp oRep [(.val (mApp oLst [(.val (mC (.int 0)))])), (.val (mApp oSub [(.val (mC (.int 7))), (.val (mApp oLen [(.peek 3)]))]))])), (.val (mApp oList [(.peek 3)]))]))])) sNext) (sSeq (sIf (mAnd (mApp (op2 (eqB false)) [(.peek 2), (.val (mC (.int 3)))]) (mApp (op2 (eqB true)) [(.peek 3), (.val (mApp oTux []))])) (sSeq (sAsg (.nm 4) (mApp (dfOp op__law_take []) [(.peek 0), (.val (mApp oLen [(.peek 3)]))])) (sSeq (sAsg (.nm 5) (mApp oIx [(.val (mApp oLst [(.val (mVar 1)), (.val (mApp oNeg [(.val (mC (.int 1)))])), (.val (mC .non)), (.val (mC (.bl true))), (.val (mC (.str "0"))), (.val (mApp oTux [(.val (mC (.int 0)))])), (.val (mC (.bl false))), (.val (mApp oLst [(.val (mC (.int 0)))]))])), (.val (mApp (dfOp op__law_take []) [(.peek 0), (.val (mC (.int 8)))]))])) (sRet (mApp oCatX [(.val (mApp oCatX [(.val (mSlice (mVar 3) none (some (mVar 4)))), (.val (mApp oTux [(.val (mVar 5))]))])), (.val (mSlice (mVar 3) (some (mApp oAdd [(.val (mVar 4)), (.val (mC (.int 1)))])) none))])))) sNext) (sRet (mIf (mApp (op2 (eqB false)) [(.peek 2), (.val (mC (.int 4)))]) (mApp (dfOp op__law_odd []) [(.peek 0)]) (mVar 3))))))))
abbrev op__law_near : Op := fnOp 2 6 [0, 1] m__law_near
abbrev dfl__law_near : List (List V) := [[]]
abbrev ks__law_near : List Str := []
theorem k__law_near (D : Ob K mg cA) (B : Bl mg) (F : FunD K "_law_near" "_law_near" (defArgs (top 33)) (defBody (top 33)) (defScope (top 33)) dvs [] f fd) (c__law_bag : ∀ lk fk, Cl P wo K mg base ⟨K, wo, cA, lk, fk⟩ 2 "_law_bag" 2 op__law_bag dfl__law_bag ks__law_bag) (c__law_take : ∀ lk fk, Cl P wo K mg base ⟨K, wo, cA, lk, fk⟩ 1 "_law_take" 2 op__law_take dfl__law_take ks__law_take) (c__law_odd : ∀ lk fk, Cl P wo K mg base ⟨K, wo, cA, lk, fk⟩ 2 "_law_odd" 1 op__law_odd dfl__law_odd ks__law_odd) :
    FnG P wo K mg base (L2.CX P wo) 3 f fd ["box", "values"] (spF ⟨K, wo, cA, lk, fk⟩ op__law_near 2) :=
  have nd : (["box", "values", "way", "bag", "at", "thing"] : List Str).Nodup := by decide
  z_fn (k := 2) (N := ["box", "values", "way", "bag", "at", "thing"]) [0, 1] F (C8.fnScope_by (by decide +kernel)) rfl rfl (by decide) (by decide) fun cdv A outer s H vs E hr hp =>
    (s_seq (s_par rfl nd rfl rfl (by decide) rfl rfl (pa_z (pe_val (z_callD (dd := []) (dvs := []) (c__law_take _ _) (hr.mono (by omega)) rfl fnOp_len (List.mem_cons_self ..) .nil tkE (pa_z (pe_opd (pe_var rfl (by first | exact .inl rfl | exact .inr (.inl rfl) | exact .inr (.inr rfl)))) (pa_z (pe_val z_int) pa_z0)))) (pa_z (pe_val (z_callD (dd := []) (dvs := []) (c__law_bag _ _) (hr.mono (by omega)) rfl fnOp_len (List.mem_cons_self ..) .nil tkE (pa_z (pe_opd (pe_var rfl (by first | exact .inl rfl | exact .inr (.inl rfl) | exact .inr (.inr rfl)))) (pa_z (pe_opd (pe_var rfl (by first | exact .inl rfl | exact .inr (.inl rfl) | exact .inr (.inr rfl)))) pa_z0)))) pa_z0)) rfl (by decide : ∀ k ∈ ([2, 3] : List Nat), k ∉ ([0, 1] : List Nat))) (s_seq (s_if (t_cmp (op_eqB hr.units) od_eqB (pe_opd (pe_var rfl (by first | exact .inl rfl | exact .inr (.inl rfl) | exact .inr (.inr rfl)))) (pe_val z_int) rfl) (s_one (s_ret (z_callTy call_list_of od_list rfl B.«list» (by decide +kernel) (pa_z (pe_opd (pe_var rfl (by first | exact .inl rfl | exact .inr (.inl rfl) | exact .inr (.inr rfl)))) pa_z0)))) s_nil) (s_seq (s_if (t_cmp (op_eqB hr.units) od_eqB (pe_opd (pe_var rfl (by first | exact .inl rfl | exact .inr (.inl rfl) | exact .inr (.inr rfl)))) (pe_val z_int) rfl) (s_one (s_ret (z_revX rfl (z_var 3 (pe_var rfl (by first | exact .inl rfl | exact .inr (.inl rfl) | exact .inr (.inr rfl))))))) s_nil) (s_seq (s_if (t_cmp (op_eqB hr.units) od_eqB (pe_opd (pe_var rfl (by first | exact .inl rfl | exact .inr (.inl rfl) | exact .inr (.inr rfl)))) (pe_val z_int) rfl) (s_one (s_ret (z_callTy call_tupleX od_tupleX rfl B.«tuple» (by decide +kernel) (pa_z (pe_val (z_op op_cat od_cat (pe_val (z_op op_rep od_rep (pe_val (z_lst (pa_z (pe_val z_int) pa_z0))) (pe_val (z_op op_sub od_sub (pe_val z_int) (pe_val (z_callB call_len_seq od_len rfl B.«len» (by decide +kernel) (pa_z (pe_opd (pe_var rfl (by first | exact .inl rfl | exact .inr (.inl rfl) | exact .inr (.inr rfl)))) pa_z0))))))) (pe_val (z_callTy call_list_of od_list rfl B.«list» (by decide +kernel) (pa_z (pe_opd (pe_var rfl (by first | exact .inl rfl | exact .inr (.inl rfl) | exact .inr (.inr rfl)))) pa_z0))))) pa_z0)))) s_nil) (s_seq (s_if (PW.pt (t_and (t_cmp (op_eqB hr.units) od_eqB (pe_opd (pe_var rfl (by first | exact .inl rfl | exact .inr (.inl rfl) | exact .inr (.inr rfl)))) (pe_val z_int) rfl) (t_and1 (t_cmp (op_neB hr.units) od_neB (pe_opd (pe_var rfl (by first | exact .inl rfl | exact .inr (.inl rfl) | exact .inr (.inr rfl)))) (pe_val (z_tux pa_z0)) rfl)))) (s_seq (s_set nd rfl (by first | exact .inl rfl | exact .inr rfl) (z_callD (dd := []) (dvs := []) (c__law_take _ _) (hr.mono (by omega)) rfl fnOp_len (List.mem_cons_self ..) .nil tkE (pa_z (pe_opd (pe_var rfl (by first | exact .inl rfl | exact .inr (.inl rfl) | exact .inr (.inr rfl)))) (pa_z (pe_val (z_callB call_len_seq od_len rfl B.«len» (by decide +kernel) (pa_z (pe_opd (pe_var rfl (by first | exact .inl rfl | exact .inr (.inl rfl) | exact .inr (.inr rfl)))) pa_z0))) pa_z0))) (by decide : (4 : Nat) ∉ ([0, 1] : List Nat))) (s_seq (s_set nd rfl (by first | exact .inl rfl | exact .inr rfl) (z_ix ix_seq od_ix (pe_val (z_lst (pa_z (pe_val (z_var 1 (pe_var rfl (by first | exact .inl rfl | exact .inr (.inl rfl) | exact .inr (.inr rfl))))) (pa_z (pe_val (z_un un_neg od_neg (pe_val z_int))) (pa_z (pe_val z_non) (pa_z (pe_val z_bl) (pa_z (pe_val z_str) (pa_z (pe_val (z_tux (pa_z (pe_val z_int) pa_z0))) (pa_z (pe_val z_bl) (pa_z (pe_val (z_lst (pa_z (pe_val z_int) pa_z0))) pa_z0)))))))))) (pe_val (z_callD (dd := []) (dvs := []) (c__law_take _ _) (hr.mono (by omega)) rfl fnOp_len (List.mem_cons_self ..) .nil tkE (pa_z (pe_opd (pe_var rfl (by first | exact .inl rfl | exact .inr (.inl rfl) | exact .inr (.inr rfl)))) (pa_z (pe_val z_int) pa_z0)))) (by intro _ _; rfl)) (by decide : (5 : Nat) ∉ ([0, 1] : List Nat))) (s_one (s_ret (z_op op_catX od_catX (pe_val (z_op op_catX od_catX (pe_val (z_slice rfl (z_var 3 (pe_var rfl (by first | exact .inl rfl | exact .inr (.inl rfl) | exact .inr (.inr rfl)))) po_none (po_some (z_var 4 (pe_var rfl (by first | exact .inl rfl | exact .inr (.inl rfl) | exact .inr (.inr rfl))))))) (pe_val (z_tux (pa_z (pe_val (z_var 5 (pe_var rfl (by first | exact .inl rfl | exact .inr (.inl rfl) | exact .inr (.inr rfl))))) pa_z0))))) (pe_val (z_slice rfl (z_var 3 (pe_var rfl (by first | exact .inl rfl | exact .inr (.inl rfl) | exact .inr (.inr rfl)))) (po_some (z_op op_add od_add (pe_val (z_var 4 (pe_var rfl (by first | exact .inl rfl | exact .inr (.inl rfl) | exact .inr (.inr rfl))))) (pe_val z_int))) po_none))))))) s_nil) (s_one (s_ret (z_if (t_cmp (op_eqB hr.units) od_eqB (pe_opd (pe_var rfl (by first | exact .inl rfl | exact .inr (.inl rfl) | exact .inr (.inr rfl)))) (pe_val z_int) rfl) (z_callD (dd := []) (dvs := []) (c__law_odd _ _) (hr.mono (by omega)) rfl fnOp_len (List.mem_cons_self ..) .nil tkE (pa_z (pe_opd (pe_var rfl (by first | exact .inl rfl | exact .inr (.inl rfl) | exact .inr (.inr rfl)))) pa_z0)) (z_var 3 (pe_var rfl (by first | exact .inl rfl | exact .inr (.inl rfl) | exact .inr (.inr rfl))))))))))))

/-- _law_due -/
def m__law_due : S := (sSeq (sIf (mApp (oLt) [(.peek 0), (.val (mC (.int 3)))]) (sSeq (sIf (mNot (mApp (dfOp op__law_is_number []) [(.peek 1), (.val (mC (.int 1))), (.val (mC (.int 4)))])) (sRet (mApp oLst [(.val (mC (.str "values"))), (.val (mVar 1))])) sNext) (sSeq (sIf (mApp (oLt) [(.peek 0), (.val (mC (.int 2)))]) (sSeq (sIf (mNot (mApp (dfOp op__law_is_number []) [(.peek 2), (.val (mC (.int 0))), (.val (mC (.int 6)))])) (sRet (mApp oLst [(.val (mC (.str "size"))), (.val (mVar 2))])) sNext) (sSeq (sAsg (.nm 4) (mApp (dfOp op__law_bags []) [(.peek 1), (.peek 2)])) (sRet (mApp oLst [(.val (mC (.str "told"))), (.val (mIf (mApp (op2 (eqB false)) [(.peek 0), (.val (mC (.int 0)))]) (mVar 4) (mApp oLen [(.peek 4)])))])))) sNext) (sSeq (sIf (mNot (mApp (dfOp op__law_is_bag []) [(.peek 1), (.peek 2)])) (sRet (mApp oLst [(.val (mC (.str "bag"))), (.val (mVar 2))])) sNext) (sRet (mApp oLst [(.val (mC (.str "told"))), (.val (mApp oIndex (.val (mIs isLst (mApp (dfOp op__law_bags []) [(.peek 1), (.val (mApp oLen [(.peek 2)]))])) :: [(.val (mVar 2))])))]))))) sNext) (sSeq (sIf (mNot (mApp (dfOp op__law_is_bag []) [(.val (mC (.int 4))), (.peek 1)])) (sRet (mApp oLst [(.val (mC (.str "bag"))), (.val (mVar 1))])) sNext) (sSeq (sIf (mNot (mApp (dfOp op__law_is_number []) [(.peek 2), (.val (mC (.int 0))), (.val (mC (.int 3)))])) (sRet (mApp oLst [(.val (mC (.str "value"))), (.val (mVar 2))])) sNext) (sSeq (sIf (mApp (op2 (eqB false)) [(.peek 0), (.val (mC (.int 3)))]) (sRet (mApp oLst [(.val (mC (.str "told"))), (.val (mApp oTupleX [(.val (mApp oSortedB [(.val (mApp oCat [(.val (mApp oList [(.peek 1)])), (.val (mApp oLst [(.val (mVar 2))]))]))]))]))])) sNext) (sSeq (sIf (mApp (op2 (inT true)) [(.peek 2), (.peek 1)]) (sRet (mApp oLst [(.val (mC (.str "absent"))), (.val (mVar 2))])) sNext) (sSeq (sAsg (.nm 3) (mApp oIndexX (.val (mIs isTux (mVar 1)) :: [(.val (mVar 2))]))) (sRet (mApp oLst [(.val (mC (.str "told"))), (.val (mApp oCatX [(.val (mSlice (mVar 1) none (some (mVar 3)))), (.val (mSlice (mVar 1) (some (mApp oAdd [(.val (mVar 3)), (.val (mC (.int 1)))])) none))]))]))))))))
abbrev op__law_due : Op := fnOp 3 5 [0, 1, 2] m__law_due
abbrev dfl__law_due : List (List V) := [[]]
abbrev ks__law_due : List Str := []
theorem k__law_due (D : Ob K mg cA) (B : Bl mg) (F : FunD K "_law_due" "_law_due" (defArgs (top 34)) (defBody (top 34)) (defScope (top 34)) dvs [] f fd) (c__law_is_number : ∀ lk fk, Cl P wo K mg base ⟨K, wo, cA, lk, fk⟩ 1 "_law_is_number" 3 op__law_is_number dfl__law_is_number ks__law_is_number) (c__law_bags : ∀ lk fk, Cl P wo K mg base ⟨K, wo, cA, lk, fk⟩ 1 "_law_bags" 2 op__law_bags dfl__law_bags ks__law_bags) (c__law_is_bag : ∀ lk fk, Cl P wo K mg base ⟨K, wo, cA, lk, fk⟩ 2 "_law_is_bag" 2 op__law_is_bag dfl__law_is_bag ks__law_is_bag) :
    FnG P wo K mg base (L2.CX P wo) 3 f fd ["way", "one", "other"] (spF ⟨K, wo, cA, lk, fk⟩ op__law_due 3) :=
  have nd : (["way", "one", "other", "at", "found"] : List Str).Nodup := by decide
  z_fn (k := 2) (N := ["way", "one", "other", "at", "found"]) [0, 1, 2] F (C8.fnScope_by (by decide +kernel)) rfl rfl (by decide) (by decide) fun cdv A outer s H vs E hr hp =>
    (s_seq (s_if (t_cmp op_lt od_lt (pe_opd (pe_var rfl (by first | exact .inl rfl | exact .inr (.inl rfl) | exact .inr (.inr rfl)))) (pe_val z_int) rfl) (s_seq (s_if (t_not (t_val (z_callD (dd := []) (dvs := []) (c__law_is_number _ _) (hr.mono (by omega)) rfl fnOp_len (List.mem_cons_self ..) .nil tkE (pa_z (pe_opd (pe_var rfl (by first | exact .inl rfl | exact .inr (.inl rfl) | exact .inr (.inr rfl)))) (pa_z (pe_val z_int) (pa_z (pe_val z_int) pa_z0)))))) (s_one (s_ret (z_lst (pa_z (pe_val z_str) (pa_z (pe_val (z_var 1 (pe_var rfl (by first | exact .inl rfl | exact .inr (.inl rfl) | exact .inr (.inr rfl))))) pa_z0))))) s_nil) (s_seq (s_if (t_cmp op_lt od_lt (pe_opd (pe_var rfl (by first | exact .inl rfl | exact .inr (.inl rfl) | exact .inr (.inr rfl)))) (pe_val z_int) rfl) (s_seq (s_if (t_not (t_val (z_callD (dd := []) (dvs := []) (c__law_is_number _ _) (hr.mono (by omega)) rfl fnOp_len (List.mem_cons_self ..) .nil tkE (pa_z (pe_opd (pe_var rfl (by first | exact .inl rfl | exact .inr (.inl rfl) | exact .inr (.inr rfl)))) (pa_z (pe_val z_int) (pa_z (pe_val z_int) pa_z0)))))) (s_one (s_ret (z_lst (pa_z (pe_val z_str) (pa_z (pe_val (z_var 2 (pe_var rfl (by first | exact .inl rfl | exact .inr (.inl rfl) | exact .inr (.inr rfl))))) pa_z0))))) s_nil) (s_seq (s_set nd rfl (by first | exact .inl rfl | exact .inr rfl) (z_callD (dd := []) (dvs := []) (c__law_bags _ _) (hr.mono (by omega)) rfl fnOp_len (List.mem_cons_self ..) .nil tkE (pa_z (pe_opd (pe_var rfl (by first | exact .inl rfl | exact .inr (.inl rfl) | exact .inr (.inr rfl)))) (pa_z (pe_opd (pe_var rfl (by first | exact .inl rfl | exact .inr (.inl rfl) | exact .inr (.inr rfl)))) pa_z0))) (by decide : (4 : Nat) ∉ ([0, 1, 2] : List Nat))) (s_one (s_ret (z_lst (pa_z (pe_val z_str) (pa_z (pe_val (z_if (t_cmp (op_eqB hr.units) od_eqB (pe_opd (pe_var rfl (by first | exact .inl rfl | exact .inr (.inl rfl) | exact .inr (.inr rfl)))) (pe_val z_int) rfl) (z_var 4 (pe_var rfl (by first | exact .inl rfl | exact .inr (.inl rfl) | exact .inr (.inr rfl)))) (z_callB call_len_seq od_len rfl B.«len» (by decide +kernel) (pa_z (pe_opd (pe_var rfl (by first | exact .inl rfl | exact .inr (.inl rfl) | exact .inr (.inr rfl)))) pa_z0)))) pa_z0))))))) s_nil) (s_seq (s_if (t_not (t_val (z_callD (dd := []) (dvs := []) (c__law_is_bag _ _) (hr.mono (by omega)) rfl fnOp_len (List.mem_cons_self ..) .nil tkE (pa_z (pe_opd (pe_var rfl (by first | exact .inl rfl | exact .inr (.inl rfl) | exact .inr (.inr rfl)))) (pa_z (pe_opd (pe_var rfl (by first | exact .inl rfl | exact .inr (.inl rfl) | exact .inr (.inr rfl)))) pa_z0))))) (s_one (s_ret (z_lst (pa_z (pe_val z_str) (pa_z (pe_val (z_var 2 (pe_var rfl (by first | exact .inl rfl | exact .inr (.inl rfl) | exact .inr (.inr rfl))))) pa_z0))))) s_nil) (s_one (s_ret (z_lst (pa_z (pe_val z_str) (pa_z (pe_val (z_look PySem.F.slot_list_index PySem.F.type_list_index (mt_indexD hr.u65) od_index (z_callD (dd := []) (dvs := []) (c__law_bags _ _) (hr.mono (by omega)) rfl fnOp_len (List.mem_cons_self ..) .nil tkE (pa_z (pe_opd (pe_var rfl (by first | exact .inl rfl | exact .inr (.inl rfl) | exact .inr (.inr rfl)))) (pa_z (pe_val (z_callB call_len_seq od_len rfl B.«len» (by decide +kernel) (pa_z (pe_opd (pe_var rfl (by first | exact .inl rfl | exact .inr (.inl rfl) | exact .inr (.inr rfl)))) pa_z0))) pa_z0))) (pa_z (pe_val (z_var 2 (pe_var rfl (by first | exact .inl rfl | exact .inr (.inl rfl) | exact .inr (.inr rfl))))) pa_z0) rfl)) pa_z0)))))))) s_nil) (s_seq (s_if (t_not (t_val (z_callD (dd := []) (dvs := []) (c__law_is_bag _ _) (hr.mono (by omega)) rfl fnOp_len (List.mem_cons_self ..) .nil tkE (pa_z (pe_val z_int) (pa_z (pe_opd (pe_var rfl (by first | exact .inl rfl | exact .inr (.inl rfl) | exact .inr (.inr rfl)))) pa_z0))))) (s_one (s_ret (z_lst (pa_z (pe_val z_str) (pa_z (pe_val (z_var 1 (pe_var rfl (by first | exact .inl rfl | exact .inr (.inl rfl) | exact .inr (.inr rfl))))) pa_z0))))) s_nil) (s_seq (s_if (t_not (t_val (z_callD (dd := []) (dvs := []) (c__law_is_number _ _) (hr.mono (by omega)) rfl fnOp_len (List.mem_cons_self ..) .nil tkE (pa_z (pe_opd (pe_var rfl (by first | exact .inl rfl | exact .inr (.inl rfl) | exact .inr (.inr rfl)))) (pa_z (pe_val z_int) (pa_z (pe_val z_int) pa_z0)))))) (s_one (s_ret (z_lst (pa_z (pe_val z_str) (pa_z (pe_val (z_var 2 (pe_var rfl (by first | exact .inl rfl | exact .inr (.inl rfl) | exact .inr (.inr rfl))))) pa_z0))))) s_nil) (s_seq (s_if (t_cmp (op_eqB hr.units) od_eqB (pe_opd (pe_var rfl (by first | exact .inl rfl | exact .inr (.inl rfl) | exact .inr (.inr rfl)))) (pe_val z_int) rfl) (s_one (s_ret (z_lst (pa_z (pe_val z_str) (pa_z (pe_val (z_callTy call_tupleX od_tupleX rfl B.«tuple» (by decide +kernel) (pa_z (pe_val (z_callB cr_sortedB od_sortedB rfl B.«sorted» (by decide +kernel) (pa_z (pe_val (z_op op_cat od_cat (pe_val (z_callTy call_list_of od_list rfl B.«list» (by decide +kernel) (pa_z (pe_opd (pe_var rfl (by first | exact .inl rfl | exact .inr (.inl rfl) | exact .inr (.inr rfl)))) pa_z0))) (pe_val (z_lst (pa_z (pe_val (z_var 2 (pe_var rfl (by first | exact .inl rfl | exact .inr (.inl rfl) | exact .inr (.inr rfl))))) pa_z0))))) pa_z0))) pa_z0))) pa_z0))))) s_nil) (s_seq (s_if (t_cmp (op_notInT hr.u65) od_inT (pe_opd (pe_var rfl (by first | exact .inl rfl | exact .inr (.inl rfl) | exact .inr (.inr rfl)))) (pe_opd (pe_var rfl (by first | exact .inl rfl | exact .inr (.inl rfl) | exact .inr (.inr rfl)))) rfl) (s_one (s_ret (z_lst (pa_z (pe_val z_str) (pa_z (pe_val (z_var 2 (pe_var rfl (by first | exact .inl rfl | exact .inr (.inl rfl) | exact .inr (.inr rfl))))) pa_z0))))) s_nil) (s_seq (s_set nd rfl (by first | exact .inl rfl | exact .inr rfl) (z_lookX PySem.F.slot_tuple_index PySem.F.type_tuple_index (mt_indexX hr.u65) od_indexX (z_var 1 (pe_var rfl (by first | exact .inl rfl | exact .inr (.inl rfl) | exact .inr (.inr rfl)))) (pa_z (pe_val (z_var 2 (pe_var rfl (by first | exact .inl rfl | exact .inr (.inl rfl) | exact .inr (.inr rfl))))) pa_z0)) (by decide : (3 : Nat) ∉ ([0, 1, 2] : List Nat))) (s_one (s_ret (z_lst (pa_z (pe_val z_str) (pa_z (pe_val (z_op op_catX od_catX (pe_val (z_slice rfl (z_var 1 (pe_var rfl (by first | exact .inl rfl | exact .inr (.inl rfl) | exact .inr (.inr rfl)))) po_none (po_some (z_var 3 (pe_var rfl (by first | exact .inl rfl | exact .inr (.inl rfl) | exact .inr (.inr rfl))))))) (pe_val (z_slice rfl (z_var 1 (pe_var rfl (by first | exact .inl rfl | exact .inr (.inl rfl) | exact .inr (.inr rfl)))) (po_some (z_op op_add od_add (pe_val (z_var 3 (pe_var rfl (by first | exact .inl rfl | exact .inr (.inl rfl) | exact .inr (.inr rfl))))) (pe_val z_int))) po_none)))) pa_z0)))))))))))

/-- _law_call -/
def m__law_call : S := (sSeq (sIf (mApp (op2 (eqB false)) [(.peek 0), (.val (mC (.int 0)))]) (sRet (mApp (dfOp op_bags []) [(.peek 1), (.peek 2)])) sNext) (sSeq (sIf (mApp (op2 (eqB false)) [(.peek 0), (.val (mC (.int 1)))]) (sRet (mApp (dfOp op_count_bags []) [(.peek 1), (.peek 2)])) sNext) (sSeq (sIf (mApp (op2 (eqB false)) [(.peek 0), (.val (mC (.int 2)))]) (sRet (mApp (dfOp op_bag_index []) [(.peek 1), (.peek 2)])) sNext) (sRet (mIf (mApp (op2 (eqB false)) [(.peek 0), (.val (mC (.int 3)))]) (mApp (dfOp op_added []) [(.peek 1), (.peek 2)]) (mApp (dfOp op_removed []) [(.peek 1), (.peek 2)]))))))
abbrev op__law_call : Op := fnOp 3 3 [0, 1, 2] m__law_call
abbrev dfl__law_call : List (List V) := [[]]
abbrev ks__law_call : List Str := []
theorem k__law_call (D : Ob K mg cA) (B : Bl mg) (F : FunD K "_law_call" "_law_call" (defArgs (top 35)) (defBody (top 35)) (defScope (top 35)) dvs [] f fd) (c_bags : ∀ lk fk, Cl P wo K mg base ⟨K, wo, cA, lk, fk⟩ 4 "bags" 2 op_bags dfl_bags ks_bags) (c_count_bags : ∀ lk fk, Cl P wo K mg base ⟨K, wo, cA, lk, fk⟩ 4 "count_bags" 2 op_count_bags dfl_count_bags ks_count_bags) (c_bag_index : ∀ lk fk, Cl P wo K mg base ⟨K, wo, cA, lk, fk⟩ 5 "bag_index" 2 op_bag_index dfl_bag_index ks_bag_index) (c_added : ∀ lk fk, Cl P wo K mg base ⟨K, wo, cA, lk, fk⟩ 5 "added" 2 op_added dfl_added ks_added) (c_removed : ∀ lk fk, Cl P wo K mg base ⟨K, wo, cA, lk, fk⟩ 5 "removed" 2 op_removed dfl_removed ks_removed) :
    FnG P wo K mg base (L2.CX P wo) 6 f fd ["way", "one", "other"] (spF ⟨K, wo, cA, lk, fk⟩ op__law_call 3) :=
  have nd : (["way", "one", "other"] : List Str).Nodup := by decide
  z_fn (k := 5) (N := ["way", "one", "other"]) [0, 1, 2] F (C8.fnScope_by (by decide +kernel)) rfl rfl (by decide) (by decide) fun cdv A outer s H vs E hr hp =>
    (s_seq (s_if (t_cmp (op_eqB hr.units) od_eqB (pe_opd (pe_var rfl (by first | exact .inl rfl | exact .inr (.inl rfl) | exact .inr (.inr rfl)))) (pe_val z_int) rfl) (s_one (s_ret (z_callD (dd := []) (dvs := []) (c_bags _ _) (hr.mono (by omega)) rfl fnOp_len (List.mem_cons_self ..) .nil tkE (pa_z (pe_opd (pe_var rfl (by first | exact .inl rfl | exact .inr (.inl rfl) | exact .inr (.inr rfl)))) (pa_z (pe_opd (pe_var rfl (by first | exact .inl rfl | exact .inr (.inl rfl) | exact .inr (.inr rfl)))) pa_z0))))) s_nil) (s_seq (s_if (t_cmp (op_eqB hr.units) od_eqB (pe_opd (pe_var rfl (by first | exact .inl rfl | exact .inr (.inl rfl) | exact .inr (.inr rfl)))) (pe_val z_int) rfl) (s_one (s_ret (z_callD (dd := []) (dvs := []) (c_count_bags _ _) (hr.mono (by omega)) rfl fnOp_len (List.mem_cons_self ..) .nil tkE (pa_z (pe_opd (pe_var rfl (by first | exact .inl rfl | exact .inr (.inl rfl) | exact .inr (.inr rfl)))) (pa_z (pe_opd (pe_var rfl (by first | exact .inl rfl | exact .inr (.inl rfl) | exact .inr (.inr rfl)))) pa_z0))))) s_nil) (s_seq (s_if (t_cmp (op_eqB hr.units) od_eqB (pe_opd (pe_var rfl (by first | exact .inl rfl | exact .inr (.inl rfl) | exact .inr (.inr rfl)))) (pe_val z_int) rfl) (s_one (s_ret (z_callD (dd := []) (dvs := []) (c_bag_index _ _) (hr.mono (by omega)) rfl fnOp_len (List.mem_cons_self ..) .nil tkE (pa_z (pe_opd (pe_var rfl (by first | exact .inl rfl | exact .inr (.inl rfl) | exact .inr (.inr rfl)))) (pa_z (pe_opd (pe_var rfl (by first | exact .inl rfl | exact .inr (.inl rfl) | exact .inr (.inr rfl)))) pa_z0))))) s_nil) (s_one (s_ret (z_if (t_cmp (op_eqB hr.units) od_eqB (pe_opd (pe_var rfl (by first | exact .inl rfl | exact .inr (.inl rfl) | exact .inr (.inr rfl)))) (pe_val z_int) rfl) (z_callD (dd := []) (dvs := []) (c_added _ _) (hr.mono (by omega)) rfl fnOp_len (List.mem_cons_self ..) .nil tkE (pa_z (pe_opd (pe_var rfl (by first | exact .inl rfl | exact .inr (.inl rfl) | exact .inr (.inr rfl)))) (pa_z (pe_opd (pe_var rfl (by first | exact .inl rfl | exact .inr (.inl rfl) | exact .inr (.inr rfl)))) pa_z0))) (z_callD (dd := []) (dvs := []) (c_removed _ _) (hr.mono (by omega)) rfl fnOp_len (List.mem_cons_self ..) .nil tkE (pa_z (pe_opd (pe_var rfl (by first | exact .inl rfl | exact .inr (.inl rfl) | exact .inr (.inr rfl)))) (pa_z (pe_opd (pe_var rfl (by first | exact .inl rfl | exact .inr (.inl rfl) | exact .inr (.inr rfl)))) pa_z0)))))))))

/-- _law_named -/
def m__law_named : S := (sSeq (sIf (mApp (op2 (eqB false)) [(.peek 0), (.val (mC (.int 0)))]) (sRet (mApp (revOp op_bags) [(.peek 2), (.peek 1)])) sNext) (sSeq (sIf (mApp (op2 (eqB false)) [(.peek 0), (.val (mC (.int 1)))]) (sRet (mApp (revOp op_count_bags) [(.peek 2), (.peek 1)])) sNext) (sSeq (sIf (mApp (op2 (eqB false)) [(.peek 0), (.val (mC (.int 2)))]) (sRet (mApp (revOp op_bag_index) [(.peek 2), (.peek 1)])) sNext) (sRet (mIf (mApp (op2 (eqB false)) [(.peek 0), (.val (mC (.int 3)))]) (mApp (revOp op_added) [(.peek 2), (.peek 1)]) (mApp (revOp op_removed) [(.peek 2), (.peek 1)]))))))
abbrev op__law_named : Op := fnOp 3 3 [0, 1, 2] m__law_named
abbrev dfl__law_named : List (List V) := [[]]
abbrev ks__law_named : List Str := []
theorem k__law_named (D : Ob K mg cA) (B : Bl mg) (F : FunD K "_law_named" "_law_named" (defArgs (top 36)) (defBody (top 36)) (defScope (top 36)) dvs [] f fd) (c_bags : ∀ lk fk, Cl P wo K mg base ⟨K, wo, cA, lk, fk⟩ 4 "bags" 2 op_bags dfl_bags ks_bags) (c_count_bags : ∀ lk fk, Cl P wo K mg base ⟨K, wo, cA, lk, fk⟩ 4 "count_bags" 2 op_count_bags dfl_count_bags ks_count_bags) (c_bag_index : ∀ lk fk, Cl P wo K mg base ⟨K, wo, cA, lk, fk⟩ 5 "bag_index" 2 op_bag_index dfl_bag_index ks_bag_index) (c_added : ∀ lk fk, Cl P wo K mg base ⟨K, wo, cA, lk, fk⟩ 5 "added" 2 op_added dfl_added ks_added) (c_removed : ∀ lk fk, Cl P wo K mg base ⟨K, wo, cA, lk, fk⟩ 5 "removed" 2 op_removed dfl_removed ks_removed) :
    FnG P wo K mg base (L2.CX P wo) 6 f fd ["way", "one", "other"] (spF ⟨K, wo, cA, lk, fk⟩ op__law_named 3) :=
  have nd : (["way", "one", "other"] : List Str).Nodup := by decide
  z_fn (k := 5) (N := ["way", "one", "other"]) [0, 1, 2] F (C8.fnScope_by (by decide +kernel)) rfl rfl (by decide) (by decide) fun cdv A outer s H vs E hr hp =>
    (s_seq (s_if (t_cmp (op_eqB hr.units) od_eqB (pe_opd (pe_var rfl (by first | exact .inl rfl | exact .inr (.inl rfl) | exact .inr (.inr rfl)))) (pe_val z_int) rfl) (s_one (s_ret (z_callKR (c_bags _ _) (by decide) (hr.mono (by omega)) rfl fnOp_len tkE (pk_z (pe_opd (pe_var rfl (by first | exact .inl rfl | exact .inr (.inl rfl) | exact .inr (.inr rfl)))) (pk_z (pe_opd (pe_var rfl (by first | exact .inl rfl | exact .inr (.inl rfl) | exact .inr (.inr rfl)))) pk_z0))))) s_nil) (s_seq (s_if (t_cmp (op_eqB hr.units) od_eqB (pe_opd (pe_var rfl (by first | exact .inl rfl | exact .inr (.inl rfl) | exact .inr (.inr rfl)))) (pe_val z_int) rfl) (s_one (s_ret (z_callKR (c_count_bags _ _) (by decide) (hr.mono (by omega)) rfl fnOp_len tkE (pk_z (pe_opd (pe_var rfl (by first | exact .inl rfl | exact .inr (.inl rfl) | exact .inr (.inr rfl)))) (pk_z (pe_opd (pe_var rfl (by first | exact .inl rfl | exact .inr (.inl rfl) | exact .inr (.inr rfl)))) pk_z0))))) s_nil) (s_seq (s_if (t_cmp (op_eqB hr.units) od_eqB (pe_opd (pe_var rfl (by first | exact .inl rfl | exact .inr (.inl rfl) | exact .inr (.inr rfl)))) (pe_val z_int) rfl) (s_one (s_ret (z_callKR (c_bag_index _ _) (by decide) (hr.mono (by omega)) rfl fnOp_len tkE (pk_z (pe_opd (pe_var rfl (by first | exact .inl rfl | exact .inr (.inl rfl) | exact .inr (.inr rfl)))) (pk_z (pe_opd (pe_var rfl (by first | exact .inl rfl | exact .inr (.inl rfl) | exact .inr (.inr rfl)))) pk_z0))))) s_nil) (s_one (s_ret (z_if (t_cmp (op_eqB hr.units) od_eqB (pe_opd (pe_var rfl (by first | exact .inl rfl | exact .inr (.inl rfl) | exact .inr (.inr rfl)))) (pe_val z_int) rfl) (z_callKR (c_added _ _) (by decide) (hr.mono (by omega)) rfl fnOp_len tkE (pk_z (pe_opd (pe_var rfl (by first | exact .inl rfl | exact .inr (.inl rfl) | exact .inr (.inr rfl)))) (pk_z (pe_opd (pe_var rfl (by first | exact .inl rfl | exact .inr (.inl rfl) | exact .inr (.inr rfl)))) pk_z0))) (z_callKR (c_removed _ _) (by decide) (hr.mono (by omega)) rfl fnOp_len tkE (pk_z (pe_opd (pe_var rfl (by first | exact .inl rfl | exact .inr (.inl rfl) | exact .inr (.inr rfl)))) (pk_z (pe_opd (pe_var rfl (by first | exact .inl rfl | exact .inr (.inl rfl) | exact .inr (.inr rfl)))) pk_z0)))))))))

/-- _law_told -/
def m__law_told : S := (sTryM nopL (sRet (mApp oLst [(.val (mC (.str "told"))), (.val (mIf (mTru (mVar 3)) (mApp (dfOp op__law_named []) [(.peek 0), (.peek 1), (.peek 2)]) (mApp (dfOp op__law_call []) [(.peek 0), (.peek 1), (.peek 2)])))])) [⟨"InvalidValues", 4, ["given"], fun xs => (sRet (mApp oLst [(.val (mC (.str "values"))), (.val (mXf xs 0))]))⟩, ⟨"InvalidSize", 4, ["given"], fun xs => (sRet (mApp oLst [(.val (mC (.str "size"))), (.val (mXf xs 0))]))⟩, ⟨"InvalidBag", 4, ["given"], fun xs => (sRet (mApp oLst [(.val (mC (.str "bag"))), (.val (mXf xs 0))]))⟩, ⟨"InvalidValue", 4, ["given"], fun xs => (sRet (mApp oLst [(.val (mC (.str "value"))), (.val (mXf xs 0))]))⟩, ⟨"NotInBag", 4, ["value"], fun xs => (sRet (mApp oLst [(.val (mC (.str "absent"))), (.val (mXf xs 0))]))⟩])
abbrev op__law_told : Op := fnOp 4 5 [0, 1, 2, 3] m__law_told
abbrev dfl__law_told : List (List V) := [[]]
abbrev ks__law_told : List Str := []
theorem k__law_told (D : Ob K mg cA) (B : Bl mg) (F : FunD K "_law_told" "_law_told" (defArgs (top 37)) (defBody (top 37)) (defScope (top 37)) dvs [] f fd) (c__law_named : ∀ lk fk, Cl P wo K mg base ⟨K, wo, cA, lk, fk⟩ 6 "_law_named" 3 op__law_named dfl__law_named ks__law_named) (c__law_call : ∀ lk fk, Cl P wo K mg base ⟨K, wo, cA, lk, fk⟩ 6 "_law_call" 3 op__law_call dfl__law_call ks__law_call) :
    FnG P wo K mg base (L2.CX P wo) 7 f fd ["way", "one", "other", "named"] (spF ⟨K, wo, cA, lk, fk⟩ op__law_told 4) :=
  have nd : (["way", "one", "other", "named", "e"] : List Str).Nodup := by decide
  z_fn (k := 6) (N := ["way", "one", "other", "named", "e"]) [0, 1, 2, 3] F (C8.fnScope_by (by decide +kernel)) rfl rfl (by decide) (by decide) fun cdv A outer s H vs E hr hp =>
    (s_one (s_tryM rfl rfl nd tkE rfl hp D.nop (fun W1 pn xe tk1 po1 => (s_one (s_ret (z_lst (pa_z (pe_val z_str) (pa_z (pe_val (z_if (t_tru (z_var 3 (pe_var rfl (by first | exact .inl rfl | exact .inr (.inl rfl) | exact .inr (.inr rfl)))) rfl) (z_callD (dd := []) (dvs := []) (c__law_named _ _) (hr.mono (by omega)) rfl fnOp_len (List.mem_cons_self ..) .nil tk1 (pa_z (pe_opd (pe_var rfl (by first | exact .inl rfl | exact .inr (.inl rfl) | exact .inr (.inr rfl)))) (pa_z (pe_opd (pe_var rfl (by first | exact .inl rfl | exact .inr (.inl rfl) | exact .inr (.inr rfl)))) (pa_z (pe_opd (pe_var rfl (by first | exact .inl rfl | exact .inr (.inl rfl) | exact .inr (.inr rfl)))) pa_z0)))) (z_callD (dd := []) (dvs := []) (c__law_call _ _) (hr.mono (by omega)) rfl fnOp_len (List.mem_cons_self ..) .nil tk1 (pa_z (pe_opd (pe_var rfl (by first | exact .inl rfl | exact .inr (.inl rfl) | exact .inr (.inr rfl)))) (pa_z (pe_opd (pe_var rfl (by first | exact .inl rfl | exact .inr (.inl rfl) | exact .inr (.inr rfl)))) (pa_z (pe_opd (pe_var rfl (by first | exact .inl rfl | exact .inr (.inl rfl) | exact .inr (.inr rfl)))) pa_z0)))))) pa_z0)))))) (Cl1s.cons rfl rfl ⟨rfl, by decide, .inl D.g_InvalidValues⟩ D.e_InvalidValues.te (by decide) (fun a dd oe pn lk2 fk2 vs2 xs hz hfl hp hx => (s_one (s_ret (z_lst (pa_z (pe_val z_str) (pa_z (pe_val (z_xf rfl D.e_InvalidValues.xf (D.e_InvalidValues.nf "given" (List.mem_cons_self ..)) hz hfl hx rfl (pe_var rfl (by first | exact .inl rfl | exact .inr (.inl rfl) | exact .inr (.inr rfl))))) pa_z0)))))) (Cl1s.cons rfl rfl ⟨rfl, by decide, .inl D.g_InvalidSize⟩ D.e_InvalidSize.te (by decide) (fun a dd oe pn lk2 fk2 vs2 xs hz hfl hp hx => (s_one (s_ret (z_lst (pa_z (pe_val z_str) (pa_z (pe_val (z_xf rfl D.e_InvalidSize.xf (D.e_InvalidSize.nf "given" (List.mem_cons_self ..)) hz hfl hx rfl (pe_var rfl (by first | exact .inl rfl | exact .inr (.inl rfl) | exact .inr (.inr rfl))))) pa_z0)))))) (Cl1s.cons rfl rfl ⟨rfl, by decide, .inl D.g_InvalidBag⟩ D.e_InvalidBag.te (by decide) (fun a dd oe pn lk2 fk2 vs2 xs hz hfl hp hx => (s_one (s_ret (z_lst (pa_z (pe_val z_str) (pa_z (pe_val (z_xf rfl D.e_InvalidBag.xf (D.e_InvalidBag.nf "given" (List.mem_cons_self ..)) hz hfl hx rfl (pe_var rfl (by first | exact .inl rfl | exact .inr (.inl rfl) | exact .inr (.inr rfl))))) pa_z0)))))) (Cl1s.cons rfl rfl ⟨rfl, by decide, .inl D.g_InvalidValue⟩ D.e_InvalidValue.te (by decide) (fun a dd oe pn lk2 fk2 vs2 xs hz hfl hp hx => (s_one (s_ret (z_lst (pa_z (pe_val z_str) (pa_z (pe_val (z_xf rfl D.e_InvalidValue.xf (D.e_InvalidValue.nf "given" (List.mem_cons_self ..)) hz hfl hx rfl (pe_var rfl (by first | exact .inl rfl | exact .inr (.inl rfl) | exact .inr (.inr rfl))))) pa_z0)))))) (Cl1s.cons rfl rfl ⟨rfl, by decide, .inl D.g_NotInBag⟩ D.e_NotInBag.te (by decide) (fun a dd oe pn lk2 fk2 vs2 xs hz hfl hp hx => (s_one (s_ret (z_lst (pa_z (pe_val z_str) (pa_z (pe_val (z_xf rfl D.e_NotInBag.xf (D.e_NotInBag.nf "value" (List.mem_cons_self ..)) hz hfl hx rfl (pe_var rfl (by first | exact .inl rfl | exact .inr (.inl rfl) | exact .inr (.inr rfl))))) pa_z0)))))) Cl1s.nil)))))))

/-- _law_question -/
def m__law_question : S := (sSeq (sAsg (.nm 1) (mApp (dfOp op__law_take []) [(.peek 0), (.val (mC (.int 5)))])) (sSeq (sIf (mApp (oLt) [(.peek 1), (.val (mC (.int 2)))]) (sRet (mApp oLst [(.val (mVar 1)), (.val (mApp (dfOp op__law_number []) [(.peek 0), (.val (mC (.int 1))), (.val (mC (.int 4)))])), (.val (mApp (dfOp op__law_number []) [(.peek 0), (.val (mC (.int 0))), (.val (mC (.int 6)))]))])) sNext) (sSeq (sIf (mApp (op2 (eqB false)) [(.peek 1), (.val (mC (.int 2)))]) (sSeq (sAsg (.nm 2) (mApp (dfOp op__law_number []) [(.peek 0), (.val (mC (.int 1))), (.val (mC (.int 4)))])) (sSeq (sAsg (.nm 3) (mIf (mApp (dfOp op__law_is_number []) [(.peek 2), (.val (mC (.int 1))), (.val (mC (.int 4)))]) (mVar 2) (mC (.int 3)))) (sRet (mApp oLst [(.val (mVar 1)), (.val (mVar 2)), (.val (mApp (dfOp op__law_near []) [(.peek 0), (.val (mApp oAdd [(.val (mVar 3)), (.val (mApp (op1 intOf) [(.val (mAnd (mApp (oLt) [(.peek 3), (.val (mC (.int 4)))]) (mApp (op2 (eqB false)) [(.val (mApp (dfOp op__law_take []) [(.peek 0), (.val (mC (.int 6)))])), (.val (mC (.int 0)))])))]))]))]))])))) sNext) (sRet (mApp oLst [(.val (mVar 1)), (.val (mApp (dfOp op__law_near []) [(.peek 0), (.val (mC (.int 4)))])), (.val (mApp (dfOp op__law_number []) [(.peek 0), (.val (mC (.int 0))), (.val (mC (.int 3)))]))])))))
abbrev op__law_question : Op := fnOp 1 4 [0] m__law_question
abbrev dfl__law_question : List (List V) := [[]]
abbrev ks__law_question : List Str := []
theorem k__law_question (D : Ob K mg cA) (B : Bl mg) (F : FunD K "_law_question" "_law_question" (defArgs (top 38)) (defBody (top 38)) (defScope (top 38)) dvs [] f fd) (c__law_take : ∀ lk fk, Cl P wo K mg base ⟨K, wo, cA, lk, fk⟩ 1 "_law_take" 2 op__law_take dfl__law_take ks__law_take) (c__law_number : ∀ lk fk, Cl P wo K mg base ⟨K, wo, cA, lk, fk⟩ 3 "_law_number" 3 op__law_number dfl__law_number ks__law_number) (c__law_is_number : ∀ lk fk, Cl P wo K mg base ⟨K, wo, cA, lk, fk⟩ 1 "_law_is_number" 3 op__law_is_number dfl__law_is_number ks__law_is_number) (c__law_near : ∀ lk fk, Cl P wo K mg base ⟨K, wo, cA, lk, fk⟩ 3 "_law_near" 2 op__law_near dfl__law_near ks__law_near) :
    FnG P wo K mg base (L2.CX P wo) 4 f fd ["box"] (spF ⟨K, wo, cA, lk, fk⟩ op__law_question 1) :=
  have nd : (["box", "way", "values", "most"] : List Str).Nodup := by decide
  z_fn (k := 3) (N := ["box", "way", "values", "most"]) [0] F (C8.fnScope_by (by decide +kernel)) rfl rfl (by decide) (by decide) fun cdv A outer s H vs E hr hp =>
    (s_seq (s_set nd rfl (by first | exact .inl rfl | exact .inr rfl) (z_callD (dd := []) (dvs := []) (c__law_take _ _) (hr.mono (by omega)) rfl fnOp_len (List.mem_cons_self ..) .nil tkE (pa_z (pe_opd (pe_var rfl (by first | exact .inl rfl | exact .inr (.inl rfl) | exact .inr (.inr rfl)))) (pa_z (pe_val z_int) pa_z0))) (by decide : (1 : Nat) ∉ ([0] : List Nat))) (s_seq (s_if (t_cmp op_lt od_lt (pe_opd (pe_var rfl (by first | exact .inl rfl | exact .inr (.inl rfl) | exact .inr (.inr rfl)))) (pe_val z_int) rfl) (s_one (s_ret (z_lst (pa_z (pe_val (z_var 1 (pe_var rfl (by first | exact .inl rfl | exact .inr (.inl rfl) | exact .inr (.inr rfl))))) (pa_z (pe_val (z_callD (dd := []) (dvs := []) (c__law_number _ _) (hr.mono (by omega)) rfl fnOp_len (List.mem_cons_self ..) .nil tkE (pa_z (pe_opd (pe_var rfl (by first | exact .inl rfl | exact .inr (.inl rfl) | exact .inr (.inr rfl)))) (pa_z (pe_val z_int) (pa_z (pe_val z_int) pa_z0))))) (pa_z (pe_val (z_callD (dd := []) (dvs := []) (c__law_number _ _) (hr.mono (by omega)) rfl fnOp_len (List.mem_cons_self ..) .nil tkE (pa_z (pe_opd (pe_var rfl (by first | exact .inl rfl | exact .inr (.inl rfl) | exact .inr (.inr rfl)))) (pa_z (pe_val z_int) (pa_z (pe_val z_int) pa_z0))))) pa_z0)))))) s_nil) (s_seq (s_if (t_cmp (op_eqB hr.units) od_eqB (pe_opd (pe_var rfl (by first | exact .inl rfl | exact .inr (.inl rfl) | exact .inr (.inr rfl)))) (pe_val z_int) rfl) (s_seq (s_set nd rfl (by first | exact .inl rfl | exact .inr rfl) (z_callD (dd := []) (dvs := []) (c__law_number _ _) (hr.mono (by omega)) rfl fnOp_len (List.mem_cons_self ..) .nil tkE (pa_z (pe_opd (pe_var rfl (by first | exact .inl rfl | exact .inr (.inl rfl) | exact .inr (.inr rfl)))) (pa_z (pe_val z_int) (pa_z (pe_val z_int) pa_z0)))) (by decide : (2 : Nat) ∉ ([0] : List Nat))) (s_seq (s_set nd rfl (by first | exact .inl rfl | exact .inr rfl) (z_if (t_val (z_callD (dd := []) (dvs := []) (c__law_is_number _ _) (hr.mono (by omega)) rfl fnOp_len (List.mem_cons_self ..) .nil tkE (pa_z (pe_opd (pe_var rfl (by first | exact .inl rfl | exact .inr (.inl rfl) | exact .inr (.inr rfl)))) (pa_z (pe_val z_int) (pa_z (pe_val z_int) pa_z0))))) (z_var 2 (pe_var rfl (by first | exact .inl rfl | exact .inr (.inl rfl) | exact .inr (.inr rfl)))) z_int) (by decide : (3 : Nat) ∉ ([0] : List Nat))) (s_one (s_ret (z_lst (pa_z (pe_val (z_var 1 (pe_var rfl (by first | exact .inl rfl | exact .inr (.inl rfl) | exact .inr (.inr rfl))))) (pa_z (pe_val (z_var 2 (pe_var rfl (by first | exact .inl rfl | exact .inr (.inl rfl) | exact .inr (.inr rfl))))) (pa_z (pe_val (z_callD (dd := []) (dvs := []) (c__law_near _ _) (hr.mono (by omega)) rfl fnOp_len (List.mem_cons_self ..) .nil tkE (pa_z (pe_opd (pe_var rfl (by first | exact .inl rfl | exact .inr (.inl rfl) | exact .inr (.inr rfl)))) (pa_z (pe_val (z_op op_add od_add (pe_val (z_var 3 (pe_var rfl (by first | exact .inl rfl | exact .inr (.inl rfl) | exact .inr (.inr rfl))))) (pe_val (z_callTy call_int1 od_int rfl B.«int» (by decide +kernel) (pa_z (pe_val (z_and (z_cmp op_lt od_lt (pe_opd (pe_var rfl (by first | exact .inl rfl | exact .inr (.inl rfl) | exact .inr (.inr rfl)))) (pe_val z_int) rfl) (z_one (z_cmp (op_eqB hr.units) od_eqB (pe_val (z_callD (dd := []) (dvs := []) (c__law_take _ _) (hr.mono (by omega)) rfl fnOp_len (List.mem_cons_self ..) .nil tkE (pa_z (pe_opd (pe_var rfl (by first | exact .inl rfl | exact .inr (.inl rfl) | exact .inr (.inr rfl)))) (pa_z (pe_val z_int) pa_z0)))) (pe_val z_int) rfl)))) pa_z0))))) pa_z0)))) pa_z0)))))))) s_nil) (s_one (s_ret (z_lst (pa_z (pe_val (z_var 1 (pe_var rfl (by first | exact .inl rfl | exact .inr (.inl rfl) | exact .inr (.inr rfl))))) (pa_z (pe_val (z_callD (dd := []) (dvs := []) (c__law_near _ _) (hr.mono (by omega)) rfl fnOp_len (List.mem_cons_self ..) .nil tkE (pa_z (pe_opd (pe_var rfl (by first | exact .inl rfl | exact .inr (.inl rfl) | exact .inr (.inr rfl)))) (pa_z (pe_val z_int) pa_z0)))) (pa_z (pe_val (z_callD (dd := []) (dvs := []) (c__law_number _ _) (hr.mono (by omega)) rfl fnOp_len (List.mem_cons_self ..) .nil tkE (pa_z (pe_opd (pe_var rfl (by first | exact .inl rfl | exact .inr (.inl rfl) | exact .inr (.inr rfl)))) (pa_z (pe_val z_int) (pa_z (pe_val z_int) pa_z0))))) pa_z0)))))))))

/-- _law_answers_right -/
def m__law_answers_right : S := (sSeq (sUnl [(.nm 4), (.nm 5), (.nm 6)] (mVar 1)) (sSeq (sPar [7, 8] [(.val (mApp oRepr [(.val (mApp (dfOp op__law_due []) [(.peek 4), (.peek 5), (.peek 6)]))])), (.val (mApp (op2 (eqB false)) [(.val (mApp (dfOp op__law_take []) [(.peek 0), (.val (mC (.int 2)))])), (.val (mC (.int 0)))]))]) (sSeq (sAsg (.nm 2) (mApp oRepr [(.val (mApp oLst [(.val (mVar 5)), (.val (mVar 6))]))])) (sSeq (sAsg (.nm 3) (mApp (dfOp op__law_told []) [(.peek 4), (.peek 5), (.peek 6), (.peek 8)])) (sSeq (sIf (mOr (mApp (op2 (eqB true)) [(.val (mApp oRepr [(.peek 3)])), (.peek 7)]) (mApp (op2 (eqB true)) [(.val (mApp oRepr [(.val (mApp oLst [(.val (mVar 5)), (.val (mVar 6))]))])), (.peek 2)])) (sRet (mC (.bl false))) sNext) (sSeq (sIf (mAnd (mIsiSub 3 1 "list") (mApp (op2 (eqB false)) [(.val (mApp oIx [(.peek 3), (.val (mC (.int 0)))])), (.val (mC (.str "told")))])) (sDrop (mAppSub 3 1 .non)) sNext) (sRet (mApp (op2 (eqB false)) [(.val (mApp oRepr [(.val (mApp (dfOp op__law_told []) [(.peek 4), (.peek 5), (.peek 6), (.val (mNot (mVar 8)))]))])), (.peek 7)]))))))))
abbrev op__law_answers_right : Op := fnOp 2 9 [0, 1] m__law_answers_right
abbrev dfl__law_answers_right : List (List V) := [[]]
abbrev ks__law_answers_right : List Str := []
theorem k__law_answers_right (D : Ob K mg cA) (B : Bl mg) (F : FunD K "_law_answers_right" "_law_answers_right" (defArgs (top 39)) (defBody (top 39)) (defScope (top 39)) dvs [] f fd) (c__law_take : ∀ lk fk, Cl P wo K mg base ⟨K, wo, cA, lk, fk⟩ 1 "_law_take" 2 op__law_take dfl__law_take ks__law_take) (c__law_due : ∀ lk fk, Cl P wo K mg base ⟨K, wo, cA, lk, fk⟩ 3 "_law_due" 3 op__law_due dfl__law_due ks__law_due) (c__law_told : ∀ lk fk, Cl P wo K mg base ⟨K, wo, cA, lk, fk⟩ 7 "_law_told" 4 op__law_told dfl__law_told ks__law_told) :
    FnG P wo K mg base (L2.CX P wo) 8 f fd ["box", "question"] (spF ⟨K, wo, cA, lk, fk⟩ op__law_answers_right 2) :=
  have nd : (["box", "question", "kept", "first", "way", "one", "other", "due", "named"] : List Str).Nodup := by decide
  z_fn (k := 7) (N := ["box", "question", "kept", "first", "way", "one", "other", "due", "named"]) [0, 1] F (C8.fnScope_by (by decide +kernel)) rfl rfl (by decide) (by decide) fun cdv A outer s H vs E hr hp =>
    (s_seq (s_unl (z_var 1 (pe_var rfl (by first | exact .inl rfl | exact .inr (.inl rfl) | exact .inr (.inr rfl)))) rfl rfl (gs_cons (g_nm (pg_name nd rfl (by first | exact .inl rfl | exact .inr rfl)) (by decide : (4 : Nat) ∉ ([0, 1] : List Nat))) (gs_cons (g_nm (pg_name nd rfl (by first | exact .inl rfl | exact .inr rfl)) (by decide : (5 : Nat) ∉ ([0, 1] : List Nat))) (gs_cons (g_nm (pg_name nd rfl (by first | exact .inl rfl | exact .inr rfl)) (by decide : (6 : Nat) ∉ ([0, 1] : List Nat))) gs_nil)))) (s_seq (s_par rfl nd rfl rfl (by decide) rfl rfl (pa_z (pe_val (z_repr hr rfl D.sys rfl B.repr (pa_z (pe_val (z_callD (dd := []) (dvs := []) (c__law_due _ _) (hr.mono (by omega)) rfl fnOp_len (List.mem_cons_self ..) .nil tkE (pa_z (pe_opd (pe_var rfl (by first | exact .inl rfl | exact .inr (.inl rfl) | exact .inr (.inr rfl)))) (pa_z (pe_opd (pe_var rfl (by first | exact .inl rfl | exact .inr (.inl rfl) | exact .inr (.inr rfl)))) (pa_z (pe_opd (pe_var rfl (by first | exact .inl rfl | exact .inr (.inl rfl) | exact .inr (.inr rfl)))) pa_z0))))) pa_z0))) (pa_z (pe_val (z_cmp (op_eqB hr.units) od_eqB (pe_val (z_callD (dd := []) (dvs := []) (c__law_take _ _) (hr.mono (by omega)) rfl fnOp_len (List.mem_cons_self ..) .nil tkE (pa_z (pe_opd (pe_var rfl (by first | exact .inl rfl | exact .inr (.inl rfl) | exact .inr (.inr rfl)))) (pa_z (pe_val z_int) pa_z0)))) (pe_val z_int) rfl)) pa_z0)) rfl (by decide : ∀ k ∈ ([7, 8] : List Nat), k ∉ ([0, 1] : List Nat))) (s_seq (s_set nd rfl (by first | exact .inl rfl | exact .inr rfl) (z_repr hr rfl D.sys rfl B.repr (pa_z (pe_val (z_lst (pa_z (pe_val (z_var 5 (pe_var rfl (by first | exact .inl rfl | exact .inr (.inl rfl) | exact .inr (.inr rfl))))) (pa_z (pe_val (z_var 6 (pe_var rfl (by first | exact .inl rfl | exact .inr (.inl rfl) | exact .inr (.inr rfl))))) pa_z0)))) pa_z0)) (by decide : (2 : Nat) ∉ ([0, 1] : List Nat))) (s_seq (s_set nd rfl (by first | exact .inl rfl | exact .inr rfl) (z_callD (dd := []) (dvs := []) (c__law_told _ _) (hr.mono (by omega)) rfl fnOp_len (List.mem_cons_self ..) .nil tkE (pa_z (pe_opd (pe_var rfl (by first | exact .inl rfl | exact .inr (.inl rfl) | exact .inr (.inr rfl)))) (pa_z (pe_opd (pe_var rfl (by first | exact .inl rfl | exact .inr (.inl rfl) | exact .inr (.inr rfl)))) (pa_z (pe_opd (pe_var rfl (by first | exact .inl rfl | exact .inr (.inl rfl) | exact .inr (.inr rfl)))) (pa_z (pe_opd (pe_var rfl (by first | exact .inl rfl | exact .inr (.inl rfl) | exact .inr (.inr rfl)))) pa_z0))))) (by decide : (3 : Nat) ∉ ([0, 1] : List Nat))) (s_seq (s_if (PW.pt (t_or (t_cmp (op_neB hr.units) od_neB (pe_val (z_repr hr rfl D.sys rfl B.repr (pa_z (pe_opd (pe_var rfl (by first | exact .inl rfl | exact .inr (.inl rfl) | exact .inr (.inr rfl)))) pa_z0))) (pe_opd (pe_var rfl (by first | exact .inl rfl | exact .inr (.inl rfl) | exact .inr (.inr rfl)))) rfl) (t_or1 (t_cmp (op_neB hr.units) od_neB (pe_val (z_repr hr rfl D.sys rfl B.repr (pa_z (pe_val (z_lst (pa_z (pe_val (z_var 5 (pe_var rfl (by first | exact .inl rfl | exact .inr (.inl rfl) | exact .inr (.inr rfl))))) (pa_z (pe_val (z_var 6 (pe_var rfl (by first | exact .inl rfl | exact .inr (.inl rfl) | exact .inr (.inr rfl))))) pa_z0)))) pa_z0))) (pe_opd (pe_var rfl (by first | exact .inl rfl | exact .inr (.inl rfl) | exact .inr (.inr rfl)))) rfl)))) (s_one (s_ret z_bl)) s_nil) (s_seq (s_if (PW.pt (t_and (t_val (z_isiSub (j := 1) (pe_var rfl (by first | exact .inl rfl | exact .inr (.inl rfl) | exact .inr (.inr rfl))) (pe_bt rfl B.«list» (by decide +kernel)) rfl B.isinstance rfl)) (t_and1 (t_cmp (op_eqB hr.units) od_eqB (pe_val (z_ix ix_seq od_ix (pe_opd (pe_var rfl (by first | exact .inl rfl | exact .inr (.inl rfl) | exact .inr (.inr rfl)))) (pe_val z_int) (by intro _ _; rfl))) (pe_val z_str) rfl)))) (s_one (s_drop (z_appSub (j := 1) (pe_var rfl (by first | exact .inl rfl | exact .inr (.inl rfl) | exact .inr (.inr rfl))) pe_non rfl rfl (by decide)))) s_nil) (s_one (s_ret (z_cmp (op_eqB hr.units) od_eqB (pe_val (z_repr hr rfl D.sys rfl B.repr (pa_z (pe_val (z_callD (dd := []) (dvs := []) (c__law_told _ _) (hr.mono (by omega)) rfl fnOp_len (List.mem_cons_self ..) .nil tkE (pa_z (pe_opd (pe_var rfl (by first | exact .inl rfl | exact .inr (.inl rfl) | exact .inr (.inr rfl)))) (pa_z (pe_opd (pe_var rfl (by first | exact .inl rfl | exact .inr (.inl rfl) | exact .inr (.inr rfl)))) (pa_z (pe_opd (pe_var rfl (by first | exact .inl rfl | exact .inr (.inl rfl) | exact .inr (.inr rfl)))) (pa_z (pe_val (z_not (z_var 8 (pe_var rfl (by first | exact .inl rfl | exact .inr (.inl rfl) | exact .inr (.inr rfl)))))) pa_z0)))))) pa_z0))) (pe_opd (pe_var rfl (by first | exact .inl rfl | exact .inr (.inl rfl) | exact .inr (.inr rfl)))) rfl)))))))))

/-- _law_there_and_back -/
def m__law_there_and_back : S := (sSeq (sAsg (.nm 3) (mApp (dfOp op__law_bags []) [(.peek 1), (.peek 2)])) (sSeq (sIf (mOr (mApp (op2 (eqB true)) [(.val (mApp oRepr [(.val (mApp (dfOp op_bags []) [(.peek 1), (.peek 2)]))])), (.val (mApp oRepr [(.peek 3)]))]) (mApp (op2 (eqB true)) [(.val (mApp oRepr [(.val (mApp (dfOp op_count_bags []) [(.peek 1), (.peek 2)]))])), (.val (mApp oRepr [(.val (mApp oLen [(.peek 3)]))]))])) (sRet (mC (.bl false))) sNext) (sSeq (sFor (iRng [.val (mC (.int 4))]) (.nm 4) (sSeq (sPar [6, 7] [(.val (mApp oIx [(.val (mApp oLst [(.val (mC (.int 0))), (.val (mApp oSub [(.val (mApp oLen [(.peek 3)])), (.val (mC (.int 1)))])), (.val (mApp (dfOp op__law_take []) [(.peek 0), (.val (mApp oLen [(.peek 3)]))]))])), (.val (mApp oMod [(.val (mVar 4)), (.val (mC (.int 3)))]))])), (.val (mApp (dfOp op__law_take []) [(.peek 0), (.val (mC (.int 4)))]))]) (sSeq (sAsg (.nm 5) (mApp (dfOp op_added []) [(.val (mApp oIx [(.peek 3), (.peek 6)])), (.peek 7)])) (sSeq (sIf (mOr (mApp (op2 (eqB true)) [(.val (mApp oRepr [(.val (mApp (dfOp op_bag_index []) [(.peek 1), (.val (mApp oIx [(.peek 3), (.peek 6)]))]))])), (.val (mApp oRepr [(.peek 6)]))]) (mApp (op2 (eqB true)) [(.val (mApp oRepr [(.peek 5)])), (.val (mApp oRepr [(.val (mApp oTupleX [(.val (mApp oSortedB [(.val (mApp oCat [(.val (mApp oList [(.val (mApp oIx [(.peek 3), (.peek 6)]))])), (.val (mApp oLst [(.val (mVar 7))]))]))]))]))]))])) (sRet (mC (.bl false))) sNext) (sIf (mAnd (mApp (oLt) [(.peek 2), (.val (mC (.int 6)))]) (mApp (op2 (eqB true)) [(.val (mApp (dfOp op_removed []) [(.peek 5), (.peek 7)])), (.val (mApp oIx [(.peek 3), (.peek 6)]))])) (sRet (mC (.bl false))) sNext))))) (sRet (mC (.bl true))))))
abbrev op__law_there_and_back : Op := fnOp 3 8 [0, 1, 2] m__law_there_and_back
abbrev dfl__law_there_and_back : List (List V) := [[]]
abbrev ks__law_there_and_back : List Str := []
theorem k__law_there_and_back (D : Ob K mg cA) (B : Bl mg) (F : FunD K "_law_there_and_back" "_law_there_and_back" (defArgs (top 40)) (defBody (top 40)) (defScope (top 40)) dvs [] f fd) (c__law_bags : ∀ lk fk, Cl P wo K mg base ⟨K, wo, cA, lk, fk⟩ 1 "_law_bags" 2 op__law_bags dfl__law_bags ks__law_bags) (c_bags : ∀ lk fk, Cl P wo K mg base ⟨K, wo, cA, lk, fk⟩ 4 "bags" 2 op_bags dfl_bags ks_bags) (c_count_bags : ∀ lk fk, Cl P wo K mg base ⟨K, wo, cA, lk, fk⟩ 4 "count_bags" 2 op_count_bags dfl_count_bags ks_count_bags) (c__law_take : ∀ lk fk, Cl P wo K mg base ⟨K, wo, cA, lk, fk⟩ 1 "_law_take" 2 op__law_take dfl__law_take ks__law_take) (c_added : ∀ lk fk, Cl P wo K mg base ⟨K, wo, cA, lk, fk⟩ 5 "added" 2 op_added dfl_added ks_added) (c_bag_index : ∀ lk fk, Cl P wo K mg base ⟨K, wo, cA, lk, fk⟩ 5 "bag_index" 2 op_bag_index dfl_bag_index ks_bag_index) (c_removed : ∀ lk fk, Cl P wo K mg base ⟨K, wo, cA, lk, fk⟩ 5 "removed" 2 op_removed dfl_removed ks_removed) :
    FnG P wo K mg base (L2.CX P wo) 6 f fd ["box", "values", "size"] (spF ⟨K, wo, cA, lk, fk⟩ op__law_there_and_back 3) :=
  have nd : (["box", "values", "size", "found", "turn", "more", "at", "value"] : List Str).Nodup := by decide
  z_fn (k := 5) (N := ["box", "values", "size", "found", "turn", "more", "at", "value"]) [0, 1, 2] F (C8.fnScope_by (by decide +kernel)) rfl rfl (by decide) (by decide) fun cdv A outer s H vs E hr hp =>
    (s_seq (s_set nd rfl (by first | exact .inl rfl | exact .inr rfl) (z_callD (dd := []) (dvs := []) (c__law_bags _ _) (hr.mono (by omega)) rfl fnOp_len (List.mem_cons_self ..) .nil tkE (pa_z (pe_opd (pe_var rfl (by first | exact .inl rfl | exact .inr (.inl rfl) | exact .inr (.inr rfl)))) (pa_z (pe_opd (pe_var rfl (by first | exact .inl rfl | exact .inr (.inl rfl) | exact .inr (.inr rfl)))) pa_z0))) (by decide : (3 : Nat) ∉ ([0, 1, 2] : List Nat))) (s_seq (s_if (PW.pt (t_or (t_cmp (op_neB hr.units) od_neB (pe_val (z_repr hr rfl D.sys rfl B.repr (pa_z (pe_val (z_callD (dd := []) (dvs := []) (c_bags _ _) (hr.mono (by omega)) rfl fnOp_len (List.mem_cons_self ..) .nil tkE (pa_z (pe_opd (pe_var rfl (by first | exact .inl rfl | exact .inr (.inl rfl) | exact .inr (.inr rfl)))) (pa_z (pe_opd (pe_var rfl (by first | exact .inl rfl | exact .inr (.inl rfl) | exact .inr (.inr rfl)))) pa_z0)))) pa_z0))) (pe_val (z_repr hr rfl D.sys rfl B.repr (pa_z (pe_opd (pe_var rfl (by first | exact .inl rfl | exact .inr (.inl rfl) | exact .inr (.inr rfl)))) pa_z0))) rfl) (t_or1 (t_cmp (op_neB hr.units) od_neB (pe_val (z_repr hr rfl D.sys rfl B.repr (pa_z (pe_val (z_callD (dd := []) (dvs := []) (c_count_bags _ _) (hr.mono (by omega)) rfl fnOp_len (List.mem_cons_self ..) .nil tkE (pa_z (pe_opd (pe_var rfl (by first | exact .inl rfl | exact .inr (.inl rfl) | exact .inr (.inr rfl)))) (pa_z (pe_opd (pe_var rfl (by first | exact .inl rfl | exact .inr (.inl rfl) | exact .inr (.inr rfl)))) pa_z0)))) pa_z0))) (pe_val (z_repr hr rfl D.sys rfl B.repr (pa_z (pe_val (z_callB call_len_seq od_len rfl B.«len» (by decide +kernel) (pa_z (pe_opd (pe_var rfl (by first | exact .inl rfl | exact .inr (.inl rfl) | exact .inr (.inr rfl)))) pa_z0))) pa_z0))) rfl)))) (s_one (s_ret z_bl)) s_nil) (s_seq (s_for pOwn rfl (i_rng1 rfl B.range (pi_range1 rfl B.range (pa_z (pe_val z_int) pa_z0))) (g_nm (pg_name nd rfl (by first | exact .inl rfl | exact .inr rfl)) (by decide : (4 : Nat) ∉ ([0, 1, 2] : List Nat))) (s_seq (s_par rfl nd rfl rfl (by decide) rfl rfl (pa_z (pe_val (z_ix ix_seq od_ix (pe_val (z_lst (pa_z (pe_val z_int) (pa_z (pe_val (z_op op_sub od_sub (pe_val (z_callB call_len_seq od_len rfl B.«len» (by decide +kernel) (pa_z (pe_opd (pe_var rfl (by first | exact .inl rfl | exact .inr (.inl rfl) | exact .inr (.inr rfl)))) pa_z0))) (pe_val z_int))) (pa_z (pe_val (z_callD (dd := []) (dvs := []) (c__law_take _ _) (hr.mono (by omega)) rfl fnOp_len (List.mem_cons_self ..) .nil tkE (pa_z (pe_opd (pe_var rfl (by first | exact .inl rfl | exact .inr (.inl rfl) | exact .inr (.inr rfl)))) (pa_z (pe_val (z_callB call_len_seq od_len rfl B.«len» (by decide +kernel) (pa_z (pe_opd (pe_var rfl (by first | exact .inl rfl | exact .inr (.inl rfl) | exact .inr (.inr rfl)))) pa_z0))) pa_z0)))) pa_z0))))) (pe_val (z_op op_modN od_mod (pe_val (z_var 4 (pe_var rfl (by first | exact .inl rfl | exact .inr (.inl rfl) | exact .inr (.inr rfl))))) (pe_val z_int))) (by intro _ _; rfl))) (pa_z (pe_val (z_callD (dd := []) (dvs := []) (c__law_take _ _) (hr.mono (by omega)) rfl fnOp_len (List.mem_cons_self ..) .nil tkE (pa_z (pe_opd (pe_var rfl (by first | exact .inl rfl | exact .inr (.inl rfl) | exact .inr (.inr rfl)))) (pa_z (pe_val z_int) pa_z0)))) pa_z0)) rfl (by decide : ∀ k ∈ ([6, 7] : List Nat), k ∉ ([0, 1, 2] : List Nat))) (s_seq (s_set nd rfl (by first | exact .inl rfl | exact .inr rfl) (z_callD (dd := []) (dvs := []) (c_added _ _) (hr.mono (by omega)) rfl fnOp_len (List.mem_cons_self ..) .nil tkE (pa_z (pe_val (z_ix ix_seq od_ix (pe_opd (pe_var rfl (by first | exact .inl rfl | exact .inr (.inl rfl) | exact .inr (.inr rfl)))) (pe_opd (pe_var rfl (by first | exact .inl rfl | exact .inr (.inl rfl) | exact .inr (.inr rfl)))) (by intro _ _; rfl))) (pa_z (pe_opd (pe_var rfl (by first | exact .inl rfl | exact .inr (.inl rfl) | exact .inr (.inr rfl)))) pa_z0))) (by decide : (5 : Nat) ∉ ([0, 1, 2] : List Nat))) (s_seq (s_if (PW.pt (t_or (t_cmp (op_neB hr.units) od_neB (pe_val (z_repr hr rfl D.sys rfl B.repr (pa_z (pe_val (z_callD (dd := []) (dvs := []) (c_bag_index _ _) (hr.mono (by omega)) rfl fnOp_len (List.mem_cons_self ..) .nil tkE (pa_z (pe_opd (pe_var rfl (by first | exact .inl rfl | exact .inr (.inl rfl) | exact .inr (.inr rfl)))) (pa_z (pe_val (z_ix ix_seq od_ix (pe_opd (pe_var rfl (by first | exact .inl rfl | exact .inr (.inl rfl) | exact .inr (.inr rfl)))) (pe_opd (pe_var rfl (by first | exact .inl rfl | exact .inr (.inl rfl) | exact .inr (.inr rfl)))) (by intro _ _; rfl))) pa_z0)))) pa_z0))) (pe_val (z_repr hr rfl D.sys rfl B.repr (pa_z (pe_opd (pe_var rfl (by first | exact .inl rfl | exact .inr (.inl rfl) | exact .inr (.inr rfl)))) pa_z0))) rfl) (t_or1 (t_cmp (op_neB hr.units) od_neB (pe_val (z_repr hr rfl D.sys rfl B.repr (pa_z (pe_opd (pe_var rfl (by first | exact .inl rfl | exact .inr (.inl rfl) | exact .inr (.inr rfl)))) pa_z0))) (pe_val (z_repr hr rfl D.sys rfl B.repr (pa_z (pe_val (z_callTy call_tupleX od_tupleX rfl B.«tuple» (by decide +kernel) (pa_z (pe_val (z_callB cr_sortedB od_sortedB rfl B.«sorted» (by decide +kernel) (pa_z (pe_val (z_op op_cat od_cat (pe_val (z_callTy call_list_of od_list rfl B.«list» (by decide +kernel) (pa_z (pe_val (z_ix ix_seq od_ix (pe_opd (pe_var rfl (by first | exact .inl rfl | exact .inr (.inl rfl) | exact .inr (.inr rfl)))) (pe_opd (pe_var rfl (by first | exact .inl rfl | exact .inr (.inl rfl) | exact .inr (.inr rfl)))) (by intro _ _; rfl))) pa_z0))) (pe_val (z_lst (pa_z (pe_val (z_var 7 (pe_var rfl (by first | exact .inl rfl | exact .inr (.inl rfl) | exact .inr (.inr rfl))))) pa_z0))))) pa_z0))) pa_z0))) pa_z0))) rfl)))) (s_one (s_ret z_bl)) s_nil) (s_one (s_if (PW.pt (t_and (t_cmp op_lt od_lt (pe_opd (pe_var rfl (by first | exact .inl rfl | exact .inr (.inl rfl) | exact .inr (.inr rfl)))) (pe_val z_int) rfl) (t_and1 (t_cmp (op_neB hr.units) od_neB (pe_val (z_callD (dd := []) (dvs := []) (c_removed _ _) (hr.mono (by omega)) rfl fnOp_len (List.mem_cons_self ..) .nil tkE (pa_z (pe_opd (pe_var rfl (by first | exact .inl rfl | exact .inr (.inl rfl) | exact .inr (.inr rfl)))) (pa_z (pe_opd (pe_var rfl (by first | exact .inl rfl | exact .inr (.inl rfl) | exact .inr (.inr rfl)))) pa_z0)))) (pe_val (z_ix ix_seq od_ix (pe_opd (pe_var rfl (by first | exact .inl rfl | exact .inr (.inl rfl) | exact .inr (.inr rfl)))) (pe_opd (pe_var rfl (by first | exact .inl rfl | exact .inr (.inl rfl) | exact .inr (.inr rfl)))) (by intro _ _; rfl))) rfl)))) (s_one (s_ret z_bl)) s_nil)))))) (s_one (s_ret z_bl)))))

/-- law -/
def m_law : S := (sSeq (sFor (iRng [.val (mApp oMax2 [(.val (mC (.int 2))), (.val (mApp oMin2 [(.val (mC (.int 4))), (.val (mApp oLen [(.peek 0)]))]))])]) (.nm 1) (sSeq (sAsg (.nm 2) (mApp (dfOp op__law_box []) [(.val (mApp (dfOp op__law_cell []) [(.peek 0), (.peek 1)]))])) (sSeq (sPar [5, 6] [(.val (mApp oAdd [(.val (mC (.int 1))), (.val (mApp (dfOp op__law_take []) [(.peek 2), (.val (mC (.int 4)))]))])), (.val (mApp (dfOp op__law_take []) [(.peek 2), (.val (mC (.int 7)))]))]) (sSeq (sAsg (.nm 3) (mLc (iRng [.val (mC (.int 12))]) (.nm 7) none (mApp (dfOp op__law_question []) [(.peek 2)]) [7])) (sSeq (sFor (iSeq (mVar 3)) (.nm 4) (sIf (mNot (mApp (dfOp op__law_answers_right []) [(.peek 2), (.peek 4)])) (sRet (mC (.bl false))) sNext)) (sIf (mOr (mNot (mApp (dfOp op__law_there_and_back []) [(.peek 2), (.peek 5), (.peek 6)])) (mNot (mApp (dfOp op__law_answers_right []) [(.peek 2), (.val (mApp oIx [(.peek 3), (.val (mApp (dfOp op__law_take []) [(.peek 2), (.val (mC (.int 12)))]))]))]))) (sRet (mC (.bl false))) sNext)))))) (sRet (mC (.bl true))))
abbrev op_law : Op := fnOp 1 8 [0] m_law
abbrev dfl_law : List (List V) := [[]]
abbrev ks_law : List Str := []
theorem k_law (D : Ob K mg cA) (B : Bl mg) (F : FunD K "law" "law" (defArgs (top 41)) (defBody (top 41)) (defScope (top 41)) dvs [] f fd) (c__law_box : ∀ lk fk, Cl P wo K mg base ⟨K, wo, cA, lk, fk⟩ 1 "_law_box" 1 op__law_box dfl__law_box ks__law_box) (c__law_cell : ∀ lk fk, Cl P wo K mg base ⟨K, wo, cA, lk, fk⟩ 1 "_law_cell" 2 op__law_cell dfl__law_cell ks__law_cell) (c__law_take : ∀ lk fk, Cl P wo K mg base ⟨K, wo, cA, lk, fk⟩ 1 "_law_take" 2 op__law_take dfl__law_take ks__law_take) (c__law_question : ∀ lk fk, Cl P wo K mg base ⟨K, wo, cA, lk, fk⟩ 4 "_law_question" 1 op__law_question dfl__law_question ks__law_question) (c__law_answers_right : ∀ lk fk, Cl P wo K mg base ⟨K, wo, cA, lk, fk⟩ 8 "_law_answers_right" 2 op__law_answers_right dfl__law_answers_right ks__law_answers_right) (c__law_there_and_back : ∀ lk fk, Cl P wo K mg base ⟨K, wo, cA, lk, fk⟩ 6 "_law_there_and_back" 3 op__law_there_and_back dfl__law_there_and_back ks__law_there_and_back) :
    FnG P wo K mg base (L2.CX P wo) 9 f fd ["script"] (spF ⟨K, wo, cA, lk, fk⟩ op_law 1) :=
  have nd : (["script", "k", "box", "questions", "question", "values", "size", "turn"] : List Str).Nodup := by decide
  z_fn (k := 8) (N := ["script", "k", "box", "questions", "question", "values", "size", "turn"]) [0] F (C8.fnScope_by (by decide +kernel)) rfl rfl (by decide) (by decide) fun cdv A outer s H vs E hr hp =>
    (s_seq (s_for pOwn rfl (i_rng1 rfl B.range (pi_range1 rfl B.range (pa_z (pe_val (z_callB (call_max2 rfl) od_max2 rfl B.«max» (by decide +kernel) (pa_z (pe_val z_int) (pa_z (pe_val (z_callB (call_min2 rfl) od_min2 rfl B.«min» (by decide +kernel) (pa_z (pe_val z_int) (pa_z (pe_val (z_callB call_len_seq od_len rfl B.«len» (by decide +kernel) (pa_z (pe_opd (pe_var rfl (by first | exact .inl rfl | exact .inr (.inl rfl) | exact .inr (.inr rfl)))) pa_z0))) pa_z0)))) pa_z0)))) pa_z0))) (g_nm (pg_name nd rfl (by first | exact .inl rfl | exact .inr rfl)) (by decide : (1 : Nat) ∉ ([0] : List Nat))) (s_seq (s_set nd rfl (by first | exact .inl rfl | exact .inr rfl) (z_callD (dd := []) (dvs := []) (c__law_box _ _) (hr.mono (by omega)) rfl fnOp_len (List.mem_cons_self ..) .nil tkE (pa_z (pe_val (z_callD (dd := []) (dvs := []) (c__law_cell _ _) (hr.mono (by omega)) rfl fnOp_len (List.mem_cons_self ..) .nil tkE (pa_z (pe_opd (pe_var rfl (by first | exact .inl rfl | exact .inr (.inl rfl) | exact .inr (.inr rfl)))) (pa_z (pe_opd (pe_var rfl (by first | exact .inl rfl | exact .inr (.inl rfl) | exact .inr (.inr rfl)))) pa_z0)))) pa_z0)) (by decide : (2 : Nat) ∉ ([0] : List Nat))) (s_seq (s_par rfl nd rfl rfl (by decide) rfl rfl (pa_z (pe_val (z_op op_add od_add (pe_val z_int) (pe_val (z_callD (dd := []) (dvs := []) (c__law_take _ _) (hr.mono (by omega)) rfl fnOp_len (List.mem_cons_self ..) .nil tkE (pa_z (pe_opd (pe_var rfl (by first | exact .inl rfl | exact .inr (.inl rfl) | exact .inr (.inr rfl)))) (pa_z (pe_val z_int) pa_z0)))))) (pa_z (pe_val (z_callD (dd := []) (dvs := []) (c__law_take _ _) (hr.mono (by omega)) rfl fnOp_len (List.mem_cons_self ..) .nil tkE (pa_z (pe_opd (pe_var rfl (by first | exact .inl rfl | exact .inr (.inl rfl) | exact .inr (.inr rfl)))) (pa_z (pe_val z_int) pa_z0)))) pa_z0)) rfl (by decide : ∀ k ∈ ([5, 6] : List Nat), k ∉ ([0] : List Nat))) (s_seq (s_setLc (hpi := (by decide : (3 : Nat) ∉ ([0] : List Nat))) (own := [("turn", 7)]) (hp := (by decide : ∀ i ∈ ([0] : List Nat), i ∉ ([7] : List Nat))) rfl nd rfl rfl rfl (i_rng1 rfl B.range (pi_range1 rfl B.range (pa_z (pe_val z_int) pa_z0))) (blkOk_by (N := ["script", "k", "box", "questions", "question", "values", "size", "turn"]) (sc := defScope (top 41)) (by decide +kernel)) (fun _ _ _ _ _ => (g_nm (pg_name nd rfl (by first | exact .inl rfl | exact .inr rfl)) (by decide : (7 : Nat) ∉ ([0] : List Nat)))) (fun _ _ _ _ _ => ts_nil) (fun _ _ _ _ _ => (z_callD (dd := []) (dvs := []) (c__law_question _ _) (hr.mono (by omega)) rfl fnOp_len (List.mem_cons_self ..) .nil tk0 (pa_z (pe_opd (pe_var rfl (by first | exact .inl rfl | exact .inr (.inl rfl) | exact .inr (.inr rfl)))) pa_z0)))) (s_seq (s_for pOwn rfl (i_seq (z_var 3 (pe_var rfl (by first | exact .inl rfl | exact .inr (.inl rfl) | exact .inr (.inr rfl)))) rfl) (g_nm (pg_name nd rfl (by first | exact .inl rfl | exact .inr rfl)) (by decide : (4 : Nat) ∉ ([0] : List Nat))) (s_one (s_if (t_not (t_val (z_callD (dd := []) (dvs := []) (c__law_answers_right _ _) (hr.mono (by omega)) rfl fnOp_len (List.mem_cons_self ..) .nil tkE (pa_z (pe_opd (pe_var rfl (by first | exact .inl rfl | exact .inr (.inl rfl) | exact .inr (.inr rfl)))) (pa_z (pe_opd (pe_var rfl (by first | exact .inl rfl | exact .inr (.inl rfl) | exact .inr (.inr rfl)))) pa_z0))))) (s_one (s_ret z_bl)) s_nil))) (s_one (s_if (PW.pt (t_or (t_not (t_val (z_callD (dd := []) (dvs := []) (c__law_there_and_back _ _) (hr.mono (by omega)) rfl fnOp_len (List.mem_cons_self ..) .nil tkE (pa_z (pe_opd (pe_var rfl (by first | exact .inl rfl | exact .inr (.inl rfl) | exact .inr (.inr rfl)))) (pa_z (pe_opd (pe_var rfl (by first | exact .inl rfl | exact .inr (.inl rfl) | exact .inr (.inr rfl)))) (pa_z (pe_opd (pe_var rfl (by first | exact .inl rfl | exact .inr (.inl rfl) | exact .inr (.inr rfl)))) pa_z0)))))) (t_or1 (t_not (t_val (z_callD (dd := []) (dvs := []) (c__law_answers_right _ _) (hr.mono (by omega)) rfl fnOp_len (List.mem_cons_self ..) .nil tkE (pa_z (pe_opd (pe_var rfl (by first | exact .inl rfl | exact .inr (.inl rfl) | exact .inr (.inr rfl)))) (pa_z (pe_val (z_ix ix_seq od_ix (pe_opd (pe_var rfl (by first | exact .inl rfl | exact .inr (.inl rfl) | exact .inr (.inr rfl)))) (pe_val (z_callD (dd := []) (dvs := []) (c__law_take _ _) (hr.mono (by omega)) rfl fnOp_len (List.mem_cons_self ..) .nil tkE (pa_z (pe_opd (pe_var rfl (by first | exact .inl rfl | exact .inr (.inl rfl) | exact .inr (.inr rfl)))) (pa_z (pe_val z_int) pa_z0)))) (by intro _ _; rfl))) pa_z0)))))))) (s_one (s_ret z_bl)) s_nil))))))) (s_one (s_ret z_bl)))

end
end Z

set_option Elab.async false
set_option linter.all false
set_option maxRecDepth 100000
set_option maxHeartbeats 4000000
namespace Z
open PySem PySem.Spec PyProof.Rows
open L2 StX

theorem take_ok {k : Nat} {d : D} {m : Int} (h : Bx k d) (hk : k < 1000000) (hm : 0 < m) (hm2 : m < 1000000) :
    ∃ (r : Int) (d' : D), op__law_take [d, .int m] = .ok (.int r) [d', .int m] ∧ 0 ≤ r ∧ r < m ∧ Bx (k + 1) d' := take_gen (q := 179424697) (by omega) (by omega) h hk hm hm2
theorem cell_ok {l : List Int} {k : Nat} (hk : k < 1000) : ∃ c : Int, op__law_cell [scD l, .int (k : Int)] = .ok (.int c) [scD l, .int (k : Int)] := cell_gen hk
theorem box_ok (c : Int) : ∃ d, op__law_box [.int c] = .ok d [.int c] ∧ Bx 0 d := box_gen c

/-- the sorts of what is asked -/
def tyB : D → Bool
  | .non => true
  | .bl _ => true
  | .int _ => true
  | .str _ => true
  | .node .tux _ => true
  | .node (.lst false) _ => true
  | .node (.dk false _) _ => true
  | _ => false
def numIn (a b : Int) : D → Bool
  | .int i => decide (a ≤ i) && decide (i ≤ b)
  | _ => false
theorem numIn_inv {a b : Int} {d : D} (h : numIn a b d = true) : ∃ i, d = .int i ∧ a ≤ i ∧ i ≤ b := by
  unfold numIn at h
  split at h
  · simp only [Bool.and_eq_true, decide_eq_true_eq] at h
    exact ⟨_, rfl, h.1, h.2⟩
  · cases h
theorem tyB_any {d : D} (h : tyB d = true) : d.isAny = false := by
  cases d <;> first | rfl | cases h

theorem k9 : kitB "bool" "int" = some true := by kernel_rfl
theorem isnum_ok {d : D} (h : tyB d = true) (a b : Int) : op__law_is_number [d, .int a, .int b] = .ok (.bl (numIn a b d)) [d, .int a, .int b] := by
  cases d with
  | any => cases h
  | non => kernel_rfl
  | bl c => kernel_rfl
  | str s => kernel_rfl
  | node t xs =>
    cases t with
    | tux => kernel_rfl
    | lst o => cases o with
      | false => kernel_rfl
      | true => cases h
    | dk o ks => cases o with
      | false => kernel_rfl
      | true => cases h
    | _ => cases h
  | int i =>
    by_cases h1 : a ≤ i
    · simp only [numIn, decide_eq_true h1, Bool.true_and]
      have E1 : oLe [.int a, .int i] = .ok (.bl true) [.int a, .int i] := by simp only [op2, onInt, decide_eq_true h1]
      refine fnOp_rt (e := [.int i, .int a, .int b]) rfl (sRet_ok (mAnd_t (e := [.int i, .int a, .int b]) ?_ (mAnd_t (e := [.int i, .int a, .int b]) ?_ (mAnd_t (e := [.int i, .int a, .int b]) ?_ ?_)))) (by simp)
      · kernel_rfl
      · kernel_rfl
      · exact mApp_ok (e := [.any, .any, .int b]) rfl E1
      · rfl
    · simp only [numIn, decide_eq_false h1, Bool.false_and]
      have E1 : oLe [.int a, .int i] = .ok (.bl false) [.int a, .int i] := by simp only [op2, onInt, decide_eq_false h1]
      refine fnOp_rt (e := [.int i, .int a, .int b]) rfl (sRet_ok (mAnd_t (e := [.int i, .int a, .int b]) ?_ (mAnd_t (e := [.int i, .int a, .int b]) ?_ (mAnd_f (e := [.int i, .int a, .int b]) ?_)))) (by simp)
      · kernel_rfl
      · kernel_rfl
      · exact mApp_ok (e := [.any, .any, .int b]) rfl E1
theorem betw_ok {d : D} (h : tyB d = true) (a b : Int) : op_is_between [d, .int a, .int b] = .ok (.bl (numIn a b d)) [d, .int a, .int b] := by
  cases d with
  | any => cases h
  | non => kernel_rfl
  | bl c => kernel_rfl
  | str s => kernel_rfl
  | node t xs =>
    cases t with
    | tux => kernel_rfl
    | lst o => cases o with
      | false => kernel_rfl
      | true => cases h
    | dk o ks => cases o with
      | false => kernel_rfl
      | true => cases h
    | _ => cases h
  | int i =>
    by_cases h1 : a ≤ i
    · simp only [numIn, decide_eq_true h1, Bool.true_and]
      refine fnOp_rt (e := [.int i, .int a, .int b]) rfl (sRet_ok (mAnd_t (e := [.int i, .int a, .int b]) ?_ ?_)) (by simp)
      · kernel_rfl
      · simp -implicitDefEqProofs only [sSeq, sAsg, sIf, sRet, sRetV, sDrop, sPar, sNext, sBad, sCnt, sFor, mVar, mC, mApp, evA, putA, op1, op2, onInt, onI1, mAnd, mOr, mNot, mIf, mChain, frz_int, frz_bl, frz_non, frz_any, frz_node, frzL_nil, frzL_cons, frzL_dI, Tag.frz, D.isAny, asg, asgL, Option.bind, List.map_cons, List.map_nil, List.getElem?_cons_zero, List.getElem?_cons_succ, List.set_cons_zero, List.set_cons_succ, Bool.false_eq_true, if_false, if_true, reduceIte, List.length_cons, List.length_nil, Nat.zero_add, List.cons_append, List.nil_append, List.replicate, eqD_int, D.seq, intOf, Bool.not_true, Bool.not_false, oTup, oLst, Option.map_some, Option.map_none, decide_eq_true_eq, Nat.lt_add_left_iff_pos, Nat.zero_lt_succ, Nat.reduceLeDiff, Nat.reduceAdd, Nat.reduceSub, Nat.reduceLT, Bool.bne_false, Bool.bne_true, decide_eq_true h1]
    · simp only [numIn, decide_eq_false h1, Bool.false_and]
      refine fnOp_rt (e := [.int i, .int a, .int b]) rfl (sRet_ok (mAnd_t (e := [.int i, .int a, .int b]) ?_ ?_)) (by simp)
      · kernel_rfl
      · simp -implicitDefEqProofs only [sSeq, sAsg, sIf, sRet, sRetV, sDrop, sPar, sNext, sBad, sCnt, sFor, mVar, mC, mApp, evA, putA, op1, op2, onInt, onI1, mAnd, mOr, mNot, mIf, mChain, frz_int, frz_bl, frz_non, frz_any, frz_node, frzL_nil, frzL_cons, frzL_dI, Tag.frz, D.isAny, asg, asgL, Option.bind, List.map_cons, List.map_nil, List.getElem?_cons_zero, List.getElem?_cons_succ, List.set_cons_zero, List.set_cons_succ, Bool.false_eq_true, if_false, if_true, reduceIte, List.length_cons, List.length_nil, Nat.zero_add, List.cons_append, List.nil_append, List.replicate, eqD_int, D.seq, intOf, Bool.not_true, Bool.not_false, oTup, oLst, Option.map_some, Option.map_none, decide_eq_true_eq, Nat.lt_add_left_iff_pos, Nat.zero_lt_succ, Nat.reduceLeDiff, Nat.reduceAdd, Nat.reduceSub, Nat.reduceLT, Bool.bne_false, Bool.bne_true, decide_eq_false h1]

/-- the items of a bag from lo on -/
def asI : D → Int
  | .int i => i
  | _ => 0
def bagL (hi : Int) : Int → List D → Bool
  | _, [] => true
  | lo, x :: xs => numIn lo hi x && bagL hi (asI x) xs
def bagIn (v : Int) : D → Bool
  | .node .tux xs => decide (xs.length ≤ 6) && bagL (v - 1) 0 xs
  | _ => false
theorem bagL_ints {hi : Int} : ∀ (l : List Int) (lo : Int), bagL hi lo (dI l) = upFrom hi lo l
  | [], _ => rfl
  | x :: l, lo => by
    rw [dI_cons, bagL, upFrom, numIn, asI, bagL_ints l x]
theorem bagL_inv {hi : Int} : ∀ (xs : List D) (lo : Int), bagL hi lo xs = true → ∃ l, xs = dI l
  | [], _, _ => ⟨[], rfl⟩
  | x :: xs, lo, h => by
    rw [bagL, Bool.and_eq_true] at h
    obtain ⟨i, rfl, _⟩ := numIn_inv h.1
    obtain ⟨l, rfl⟩ := bagL_inv xs i h.2
    exact ⟨i :: l, rfl⟩
theorem bagIn_inv {v : Nat} {d : D} (h : bagIn v d = true) : ∃ l : List Int, d = tuxD l ∧ l.length ≤ 6 ∧ l ∈ BL v l.length := by
  unfold bagIn at h
  split at h
  · rename_i xs
    rw [Bool.and_eq_true] at h
    obtain ⟨l, rfl⟩ := bagL_inv xs 0 h.2
    rw [bagL_ints] at h
    exact ⟨l, rfl, by simpa using h.1, up_BL l.length l rfl h.2⟩
  · cases h

abbrev bIB : S := (sSeq (sIf (mNot (mApp (dfOp op_is_between []) [(.peek 5), (.peek 4), (.val (mApp oSub [(.val (mVar 1)), (.val (mC (.int 1)))]))])) (sRet (mC (.bl false))) sNext) (sAsg (.nm 4) (mVar 5)))
theorem bib_step {x z : D} {v lo : Int} (h : tyB x = true) (hf : x.frz = x) : bIB [.any, .int v, .int 0, .int 6, .int lo, x] = if numIn lo (v - 1) x = true then .nx [.any, .int v, .int 0, .int 6, x, x] else .rt (.bl false) [.any, .int v, .int 0, .int 6, .int lo, x] := by
  have B := dfOp_ok (betw_ok h lo (v - 1)) rfl
  have hx := tyB_any h
  have P : evA [(.peek 5), (.peek 4), (.val (mApp oSub [(.val (mVar 1)), (.val (mC (.int 1)))]))] [.any, .int v, .int 0, .int 6, .int lo, x] = .ok [x, .int lo, .int (v - 1)] [.any, .int v, .int 0, .int 6, .any, .any] :=
    evA_peek (d0 := x) rfl hx (e1 := [.any, .int v, .int 0, .int 6, .any, x]) rfl (d := x) rfl hx
  have M := mNot_ok (mApp_ok P B)
  by_cases c : numIn lo (v - 1) x = true
  · rw [if_pos c]
    rw [c] at M
    exact sSeq_nx (sIf_f M rfl) (sAsg_ok (mVar_s (d := x) rfl hx hf) rfl)
  · rw [if_neg c]
    have c' : numIn lo (v - 1) x = false := by simpa using c
    rw [c'] at M
    exact sSeq_rt (sIf_t M rfl)
theorem bib_loop {v : Int} : ∀ (xs : List D) (lo : Int) (z : D), (∀ x ∈ xs, tyB x = true) → isFrzL xs = true →
    (bagL (v - 1) lo xs = true ∧ ∃ p q, loopS (.nm 5) bIB xs [.any, .int v, .int 0, .int 6, .int lo, z] = .nx [.any, .int v, .int 0, .int 6, p, q]) ∨
    (bagL (v - 1) lo xs = false ∧ ∃ p q, loopS (.nm 5) bIB xs [.any, .int v, .int 0, .int 6, .int lo, z] = .rt (.bl false) [.any, .int v, .int 0, .int 6, p, q])
  | [], lo, z, _, _ => .inl ⟨rfl, _, _, rfl⟩
  | x :: xs, lo, z, h, hf => by
    rw [isFrzL, Bool.and_eq_true] at hf
    have hx := h x (List.mem_cons_self ..)
    have st := bib_step (z := z) (v := v) (lo := lo) hx (frz_id hf.1)
    have A : asg (.nm 5) x [.any, .int v, .int 0, .int 6, .int lo, z] = some [.any, .int v, .int 0, .int 6, .int lo, x] := rfl
    by_cases c : numIn lo (v - 1) x = true
    · rw [if_pos c] at st
      obtain ⟨i, rfl, _⟩ := numIn_inv c
      have e : bagL (v - 1) lo (.int i :: xs) = bagL (v - 1) i xs := by
        rw [bagL, c, Bool.true_and]
        rfl
      rw [e]
      rcases bib_loop xs i (.int i) (fun y hy => h y (List.mem_cons_of_mem _ hy)) hf.2 with ⟨h1, p, q, h2⟩ | ⟨h1, p, q, h2⟩
      · exact .inl ⟨h1, p, q, loopS_nx A st h2⟩
      · exact .inr ⟨h1, p, q, loopS_nx A st h2⟩
    · rw [if_neg c] at st
      have c' : numIn lo (v - 1) x = false := by simpa using c
      refine .inr ⟨by rw [bagL, c']; rfl, .int lo, x, ?_⟩
      simp only [loopS, A, st]

theorem putS_nx {i : Nat} {d : D} {e : Env} (h : isA e[i]? = true) : putS i d (.nx e) = .nx (e.set i d) := by
  simp only [putS, h, if_true]
theorem putS_rt {i : Nat} {d r : D} {e : Env} (h : isA e[i]? = true) : putS i d (.rt r e) = .rt r (e.set i d) := by
  simp only [putS, h, if_true]
/-- the data that may be asked about -/
structure Th (d : D) : Prop where
  ty : tyB d = true
  fz : d.isFrz = true
  its : ∀ xs, d = .node .tux xs → xs.length ≤ 1000 ∧ ∀ x ∈ xs, tyB x = true
theorem Th.any {d : D} (h : Th d) : d.isAny = false := tyB_any h.ty
theorem Th.frz {d : D} (h : Th d) : d.frz = d := frz_id h.fz
theorem tux_frz {xs : List D} (h : Th (.node .tux xs)) : isFrzL xs = true := by
  have := h.fz
  rw [D.isFrz, Bool.and_eq_true] at this
  exact this.2
/-- no tuple: no bag -/
def isTx : D → Bool
  | .node .tux _ => true
  | _ => false
theorem isTx_inv {d : D} (h : isTx d = true) : ∃ xs, d = .node .tux xs := by
  unfold isTx at h
  split at h
  · exact ⟨_, rfl⟩
  · cases h
theorem isi_tuple {d : D} (h : tyB d = true) : isiB "tuple" d = some (.bl (isTx d)) := by
  cases d with
  | any => cases h
  | non => kernel_rfl
  | bl c => kernel_rfl
  | str s => kernel_rfl
  | int i => kernel_rfl
  | node t xs =>
    cases t with
    | tux => kernel_rfl
    | lst o => cases o with
      | false => kernel_rfl
      | true => cases h
    | dk o ks => cases o with
      | false => kernel_rfl
      | true => cases h
    | _ => cases h
theorem isbag_ok {d : D} (h : Th d) (v : Int) : op_is_bag [d, .int v, .int 0, .int 6] = .ok (.bl (bagIn v d)) [d, .int v, .int 0, .int 6] := by
  have hd := h.any
  have T : mApp (op1 (isiB "tuple")) [(.peek 0)] [d, .int v, .int 0, .int 6, .any, .any] = .ok (.bl (isTx d)) [d, .int v, .int 0, .int 6, .any, .any] := by
    have O : op1 (isiB "tuple") [d] = .ok (.bl (isTx d)) [d] := by simp only [op1, isi_tuple h.ty]
    exact mApp_ok (evA_peek (d0 := d) rfl hd evA_nil (d := d) rfl hd) O
  by_cases c : isTx d = true
  · rw [c] at T
    obtain ⟨xs, rfl⟩ := isTx_inv c
    have O : oLen [.node .tux xs] = .ok (.int xs.length) [.node .tux xs] := len_node (α := Nat) .tux xs xs rfl
    have L : mApp oLen [(.peek 0)] [.node .tux xs, .int v, .int 0, .int 6, .any, .any] = .ok (.int xs.length) [.node .tux xs, .int v, .int 0, .int 6, .any, .any] := mApp_ok (evA_peek (d0 := .node .tux xs) rfl hd evA_nil (d := .node .tux xs) rfl hd) O
    have C : mChain (fun i j => decide (i ≤ j)) (fun i j => decide (i ≤ j)) (mVar 2) (mApp oLen [(.peek 0)]) (mVar 3) [.node .tux xs, .int v, .int 0, .int 6, .any, .any] = .ok (.bl (decide (xs.length ≤ 6))) [.node .tux xs, .int v, .int 0, .int 6, .any, .any] := by
      have q : decide ((0 : Int) ≤ (xs.length : Int)) = true := decide_eq_true (by omega)
      have q2 : decide ((xs.length : Int) ≤ 6) = decide (xs.length ≤ 6) := by
        rw [Bool.eq_iff_iff]
        simp only [decide_eq_true_eq]
        omega
      have V2 : mVar 2 [.node .tux xs, .int v, .int 0, .int 6, .any, .any] = .ok (.int 0) [.node .tux xs, .int v, .int 0, .int 6, .any, .any] := rfl
      have V3 : mVar 3 [.node .tux xs, .int v, .int 0, .int 6, .any, .any] = .ok (.int 6) [.node .tux xs, .int v, .int 0, .int 6, .any, .any] := rfl
      simp only [mChain, V2, L, q, V3, q2, if_true, reduceIte]
    have N := mNot_ok C
    by_cases c6 : xs.length ≤ 6
    · rw [decide_eq_true c6] at N
      have S0 := sIf_f (a := sRet (mC (.bl false))) (b := sNext) (mOr_f (mNot_ok T) N) rfl
      have B : bagIn v (.node .tux xs) = bagL (v - 1) 0 xs := by
        rw [bagIn, decide_eq_true c6, Bool.true_and]
      rw [B]
      have A := sAside_ok (i := 0) (s := fun xs => (sFor (fun env => .ok xs env) (.nm 5) bIB)) (env := [.node .tux xs, .int v, .int 0, .int 6, .int 0, .any]) (d := .node .tux xs) rfl rfl (tux_frz h)
      rcases bib_loop (v := v) xs 0 .any ((h.its xs rfl).2) (tux_frz h) with ⟨h1, p, q, h2⟩ | ⟨h1, p, q, h2⟩
      · rw [h1]
        have F : sFor (fun env => .ok xs env) (.nm 5) bIB [.any, .int v, .int 0, .int 6, .int 0, .any] = .nx [.any, .int v, .int 0, .int 6, p, q] := sFor_ok rfl h2
        have A2 := A.trans ((congrArg (putS 0 (.node .tux xs)) F).trans (putS_nx rfl))
        exact fnOp_rt (e := [.node .tux xs, .int v, .int 0, .int 6, p, q]) rfl (sSeq_nx S0 (sSeq_nx (sAsg_ok (r := .int 0) rfl rfl) (sSeq_nx A2 rfl))) (by simp)
      · rw [h1]
        have F : sFor (fun env => .ok xs env) (.nm 5) bIB [.any, .int v, .int 0, .int 6, .int 0, .any] = .rt (.bl false) [.any, .int v, .int 0, .int 6, p, q] := sFor_ok rfl h2
        have A2 := A.trans ((congrArg (putS 0 (.node .tux xs)) F).trans (putS_rt rfl))
        exact fnOp_rt (e := [.node .tux xs, .int v, .int 0, .int 6, p, q]) rfl (sSeq_nx S0 (sSeq_nx (sAsg_ok (r := .int 0) rfl rfl) (sSeq_rt A2))) (by simp)
    · rw [decide_eq_false c6] at N
      have B : bagIn v (.node .tux xs) = false := by
        rw [bagIn, decide_eq_false c6, Bool.false_and]
      rw [B]
      exact fnOp_rt (e := [.node .tux xs, .int v, .int 0, .int 6, .any, .any]) rfl (sSeq_rt (sIf_t (mOr_f (mNot_ok T) N) rfl)) (by simp)
  · have c' : isTx d = false := by simpa using c
    rw [c'] at T
    have B : bagIn v d = false := by
      unfold bagIn
      split
      · cases c'
      · rfl
    rw [B]
    exact fnOp_rt (e := [d, .int v, .int 0, .int 6, .any, .any]) rfl (sSeq_rt (sIf_t (mOr_t (mNot_ok T)) rfl)) (by simp)

/-! the law's own -/
def allIn (v : Int) (xs : List D) : Bool := xs.all (numIn 0 (v - 1))
theorem allIn_inv {v : Int} : ∀ (xs : List D), allIn v xs = true → ∃ l, xs = dI l
  | [], _ => ⟨[], rfl⟩
  | x :: xs, h => by
    simp only [allIn, List.all_cons, Bool.and_eq_true] at h
    obtain ⟨i, rfl, _⟩ := numIn_inv h.1
    obtain ⟨l, rfl⟩ := allIn_inv xs h.2
    exact ⟨i :: l, rfl⟩
theorem bagL_all {hi : Int} : ∀ (xs : List D) (lo : Int), 0 ≤ lo → bagL hi lo xs = true → xs.all (numIn 0 hi) = true
  | [], _, _, _ => rfl
  | x :: xs, lo, h0, h => by
    rw [bagL, Bool.and_eq_true] at h
    obtain ⟨i, rfl, h1, h2⟩ := numIn_inv h.1
    rw [List.all_cons, Bool.and_eq_true]
    refine ⟨?_, bagL_all xs i (by omega) h.2⟩
    simp only [numIn, Bool.and_eq_true, decide_eq_true_eq]
    exact ⟨by omega, h2⟩
abbrev bLB : S := (sIf (mNot (mApp (dfOp op__law_is_number []) [(.peek 2), (.val (mC (.int 0))), (.val (mApp oSub [(.val (mVar 0)), (.val (mC (.int 1)))]))])) (sRet (mC (.bl false))) sNext)
theorem blb_step {x : D} {v : Int} (h : tyB x = true) : bLB [.int v, .any, x] = if numIn 0 (v - 1) x = true then .nx [.int v, .any, x] else .rt (.bl false) [.int v, .any, x] := by
  have B := dfOp_ok (isnum_ok h 0 (v - 1)) rfl
  have hx := tyB_any h
  have P : evA [(.peek 2), (.val (mC (.int 0))), (.val (mApp oSub [(.val (mVar 0)), (.val (mC (.int 1)))]))] [.int v, .any, x] = .ok [x, .int 0, .int (v - 1)] [.int v, .any, .any] :=
    evA_peek (d0 := x) rfl hx (e1 := [.int v, .any, x]) rfl (d := x) rfl hx
  have M := mNot_ok (mApp_ok P B)
  by_cases c : numIn 0 (v - 1) x = true
  · rw [if_pos c]
    rw [c] at M
    exact sIf_f M rfl
  · rw [if_neg c]
    have c' : numIn 0 (v - 1) x = false := by simpa using c
    rw [c'] at M
    exact sIf_t M rfl
theorem blb_loop {v : Int} : ∀ (xs : List D) (z : D), (∀ x ∈ xs, tyB x = true) →
    (allIn v xs = true ∧ ∃ p, loopS (.nm 2) bLB xs [.int v, .any, z] = .nx [.int v, .any, p]) ∨ (allIn v xs = false ∧ ∃ p, loopS (.nm 2) bLB xs [.int v, .any, z] = .rt (.bl false) [.int v, .any, p])
  | [], z, _ => .inl ⟨rfl, _, rfl⟩
  | x :: xs, z, h => by
    have hx := h x (List.mem_cons_self ..)
    have st := blb_step (v := v) hx
    have A : asg (.nm 2) x [.int v, .any, z] = some [.int v, .any, x] := rfl
    by_cases c : numIn 0 (v - 1) x = true
    · rw [if_pos c] at st
      have e : allIn v (x :: xs) = allIn v xs := by simp only [allIn, List.all_cons, c, Bool.true_and]
      rw [e]
      rcases blb_loop xs x (fun y hy => h y (List.mem_cons_of_mem _ hy)) with ⟨h1, p, h2⟩ | ⟨h1, p, h2⟩
      · exact .inl ⟨h1, p, loopS_nx A st h2⟩
      · exact .inr ⟨h1, p, loopS_nx A st h2⟩
    · rw [if_neg c] at st
      have c' : numIn 0 (v - 1) x = false := by simpa using c
      refine .inr ⟨by simp only [allIn, List.all_cons, c', Bool.false_and], x, ?_⟩
      simp only [loopS, A, st]
theorem lisbag_ok {d : D} (h : Th d) (v : Int) : op__law_is_bag [.int v, d] = .ok (.bl (bagIn v d)) [.int v, d] := by
  have hd := h.any
  have T : mApp (op1 (isiB "tuple")) [(.peek 1)] [.int v, d, .any] = .ok (.bl (isTx d)) [.int v, d, .any] := by
    have O : op1 (isiB "tuple") [d] = .ok (.bl (isTx d)) [d] := by simp only [op1, isi_tuple h.ty]
    exact mApp_ok (evA_peek (d0 := d) rfl hd evA_nil (d := d) rfl hd) O
  by_cases c : isTx d = true
  · rw [c] at T
    obtain ⟨xs, rfl⟩ := isTx_inv c
    have O : oLen [.node .tux xs] = .ok (.int xs.length) [.node .tux xs] := len_node (α := Nat) .tux xs xs rfl
    have L : mApp oLen [(.peek 1)] [.int v, .node .tux xs, .any] = .ok (.int xs.length) [.int v, .node .tux xs, .any] := mApp_ok (evA_peek (d0 := .node .tux xs) rfl hd evA_nil (d := .node .tux xs) rfl hd) O
    have G : oGt [.int xs.length, .int 6] = .ok (.bl (decide (6 < xs.length))) [.int xs.length, .int 6] := by
      have q2 : decide ((6 : Int) < (xs.length : Int)) = decide (6 < xs.length) := by
        rw [Bool.eq_iff_iff]
        simp only [decide_eq_true_eq]
        omega
      simp only [op2, onInt, q2]
    have N := mApp_ok (evA_val L (evA_val (m := mC (.int 6)) rfl evA_nil)) G
    by_cases c6 : xs.length ≤ 6
    · rw [decide_eq_false (by omega)] at N
      have S0 := sIf_f (a := sRet (mC (.bl false))) (b := sNext) (mOr_f (mNot_ok T) N) rfl
      have A := sAside_ok (i := 1) (s := fun xs => (sFor (fun env => .ok xs env) (.nm 2) bLB)) (env := [.int v, .node .tux xs, .any]) (d := .node .tux xs) rfl rfl (tux_frz h)
      rcases blb_loop (v := v) xs .any ((h.its xs rfl).2) with ⟨h1, p, h2⟩ | ⟨h1, p, h2⟩
      · obtain ⟨l, rfl⟩ := allIn_inv xs h1
        have B : bagIn v (.node .tux (dI l)) = decide (l = srtI l) := by
          rw [bagIn, decide_eq_true c6, Bool.true_and, bagL_ints, up_iff]
          have a : l.all (fun x => decide (0 ≤ x) && decide (x ≤ v - 1)) = true := by
            rw [allIn, dI, List.all_map] at h1
            exact h1
          rw [a, Bool.true_and]
          rw [Bool.eq_iff_iff]
          simp only [decide_eq_true_eq]
          exact eq_comm
        rw [B]
        have F : sFor (fun env => .ok (dI l) env) (.nm 2) bLB [.int v, .any, .any] = .nx [.int v, .any, p] := sFor_ok rfl h2
        have A2 := A.trans ((congrArg (putS 1 (.node .tux (dI l))) F).trans (putS_nx rfl))
        have P1 : evA [(.peek 1)] [.int v, tuxD l, p] = .ok [tuxD l] [.int v, .any, p] := evA_peek (d0 := tuxD l) rfl rfl evA_nil (d := tuxD l) rfl rfl
        have M1 := mApp_ok P1 (list_tux l)
        have M2 := mApp_ok P1 (sortedB_ok (t := .tux) (l := l) rfl)
        have E : op2 (eqB false) [.node (.lst true) (dI l), .node (.lst true) (dI (srtI l))] = .ok (.bl (decide (l = srtI l))) [.node (.lst true) (dI l), .node (.lst true) (dI (srtI l))] := by
          simp only [op2, eqB_li, Bool.bne_false]
        have R := mApp_ok (evA_val M1 (evA_val M2 evA_nil)) E
        exact fnOp_rt (e := [.int v, tuxD l, p]) rfl (sSeq_nx S0 (sSeq_nx A2 (sRet_ok R))) (by simp)
      · have B : bagIn v (.node .tux xs) = false := by
          rw [bagIn, decide_eq_true c6, Bool.true_and]
          cases q : bagL (v - 1) 0 xs with
          | false => rfl
          | true =>
            rw [allIn, bagL_all xs 0 (by omega) q] at h1
            cases h1
        rw [B]
        have F : sFor (fun env => .ok xs env) (.nm 2) bLB [.int v, .any, .any] = .rt (.bl false) [.int v, .any, p] := sFor_ok rfl h2
        have A2 := A.trans ((congrArg (putS 1 (.node .tux xs)) F).trans (putS_rt rfl))
        exact fnOp_rt (e := [.int v, .node .tux xs, p]) rfl (sSeq_nx S0 (sSeq_rt A2)) (by simp)
    · rw [decide_eq_true (by omega)] at N
      have B : bagIn v (.node .tux xs) = false := by
        rw [bagIn, decide_eq_false c6, Bool.false_and]
      rw [B]
      exact fnOp_rt (e := [.int v, .node .tux xs, .any]) rfl (sSeq_rt (sIf_t (mOr_f (mNot_ok T) N) rfl)) (by simp)
  · have c' : isTx d = false := by simpa using c
    rw [c'] at T
    have B : bagIn v d = false := by
      unfold bagIn
      split
      · cases c'
      · rfl
    rw [B]
    exact fnOp_rt (e := [.int v, d, .any]) rfl (sSeq_rt (sIf_t (mOr_t (mNot_ok T)) rfl)) (by simp)
end Z

set_option Elab.async false
set_option linter.all false
set_option maxRecDepth 100000
set_option maxHeartbeats 4000000
namespace Z
open PySem PySem.Spec PyProof.Rows
open L2 StX
/-! ### the operations asked about -/
abbrev lstB (o : Bool) (v s : Nat) : D := .node (.lst o) ((BL v s).map tuxD)
abbrev ansD (k : Str) (d : D) : D := .node (.lst true) [.str k, d]
theorem bags_ok {v s : Nat} (h1 : 1 ≤ v) (h2 : v ≤ 4) (h3 : s ≤ 6) : op_bags [.int v, .int s] = .ok (lstB true v s) [.int v, .int s] := by
  refine dom28 (P := fun v s => op_bags [.int (v : Nat), .int (s : Nat)] = .ok (lstB true v s) [.int (v : Nat), .int (s : Nat)]) ?_ ?_ ?_ ?_ ?_ ?_ ?_ ?_ ?_ ?_ ?_ ?_ ?_ ?_ ?_ ?_ ?_ ?_ ?_ ?_ ?_ ?_ ?_ ?_ ?_ ?_ ?_ ?_ h1 h2 h3 <;> kernel_rfl
theorem lbags_ok {v s : Nat} (h1 : 1 ≤ v) (h2 : v ≤ 4) (h3 : s ≤ 6) : op__law_bags [.int v, .int s] = .ok (lstB (decide (s = 0)) v s) [.int v, .int s] := by
  refine dom28 (P := fun v s => op__law_bags [.int (v : Nat), .int (s : Nat)] = .ok (lstB (decide (s = 0)) v s) [.int (v : Nat), .int (s : Nat)]) ?_ ?_ ?_ ?_ ?_ ?_ ?_ ?_ ?_ ?_ ?_ ?_ ?_ ?_ ?_ ?_ ?_ ?_ ?_ ?_ ?_ ?_ ?_ ?_ ?_ ?_ ?_ ?_ h1 h2 h3 <;> kernel_rfl
theorem cbags_ok {v s : Nat} (h1 : 1 ≤ v) (h2 : v ≤ 4) (h3 : s ≤ 6) : op_count_bags [.int v, .int s] = .ok (.int ((BL v s).length : Nat)) [.int v, .int s] := by
  refine dom28 (P := fun v s => op_count_bags [.int (v : Nat), .int (s : Nat)] = .ok (.int ((BL v s).length : Nat)) [.int (v : Nat), .int (s : Nat)]) ?_ ?_ ?_ ?_ ?_ ?_ ?_ ?_ ?_ ?_ ?_ ?_ ?_ ?_ ?_ ?_ ?_ ?_ ?_ ?_ ?_ ?_ ?_ ?_ ?_ ?_ ?_ ?_ h1 h2 h3 <;> kernel_rfl
abbrev remD (b : List Int) (x : Int) : ORes := if b.contains x = true then .ok (tuxD (b.erase x)) [tuxD b, .int x] else .exc "NotInBag" ["value"] [.int x] [tuxD b, .int x]
theorem dom7 {P : Nat → Prop} (a0 : P 0) (a1 : P 1) (a2 : P 2) (a3 : P 3) (a4 : P 4) (a5 : P 5) (a6 : P 6) {s : Nat} (h3 : s ≤ 6) : P s := by
  match s, h3 with
  | 0, _ => exact a0
  | 1, _ => exact a1
  | 2, _ => exact a2
  | 3, _ => exact a3
  | 4, _ => exact a4
  | 5, _ => exact a5
  | 6, _ => exact a6
theorem in4 {P : Int → Prop} (h : ∀ x ∈ ([0, 1, 2, 3] : List Int), P x) {x : Int} (h0 : 0 ≤ x) (h1 : x ≤ 3) : P x := h x (by simp; omega)
theorem four {α β : Type} {f g : α → Int → β} {L : List α} (h : L.map (fun b => ([0, 1, 2, 3] : List Int).map fun x => f b x) = L.map (fun b => ([0, 1, 2, 3] : List Int).map fun x => g b x)) : ∀ b ∈ L, ∀ x : Int, 0 ≤ x → x ≤ 3 → f b x = g b x := fun b hb x h0 h1 =>
  in4 (P := fun x => f b x = g b x) (List.map_inj_left.mp (List.map_inj_left.mp h b hb)) h0 h1
theorem added_ok {s : Nat} (h3 : s ≤ 6) : ∀ b ∈ BL 4 s, ∀ x : Int, 0 ≤ x → x ≤ 3 → op_added [tuxD b, .int x] = .ok (tuxD (srtI (b ++ [x]))) [tuxD b, .int x] := by
  refine dom7 (P := fun s => ∀ b ∈ BL 4 s, ∀ x : Int, 0 ≤ x → x ≤ 3 → op_added [tuxD b, .int x] = .ok (tuxD (srtI (b ++ [x]))) [tuxD b, .int x]) ?_ ?_ ?_ ?_ ?_ ?_ ?_ h3 <;> refine four ?_ <;> kernel_rfl
theorem removed_ok {s : Nat} (h3 : s ≤ 6) : ∀ b ∈ BL 4 s, ∀ x : Int, 0 ≤ x → x ≤ 3 → op_removed [tuxD b, .int x] = remD b x := by
  refine dom7 (P := fun s => ∀ b ∈ BL 4 s, ∀ x : Int, 0 ≤ x → x ≤ 3 → op_removed [tuxD b, .int x] = remD b x) ?_ ?_ ?_ ?_ ?_ ?_ ?_ h3 <;> refine four ?_ <;> kernel_rfl
theorem due3_ok {s : Nat} (h3 : s ≤ 6) : ∀ b ∈ BL 4 s, ∀ x : Int, 0 ≤ x → x ≤ 3 → op__law_due [.int 3, tuxD b, .int x] = .ok (ansD "told" (tuxD (srtI (b ++ [x])))) [.int 3, tuxD b, .int x] := by
  refine dom7 (P := fun s => ∀ b ∈ BL 4 s, ∀ x : Int, 0 ≤ x → x ≤ 3 → op__law_due [.int 3, tuxD b, .int x] = .ok (ansD "told" (tuxD (srtI (b ++ [x])))) [.int 3, tuxD b, .int x]) ?_ ?_ ?_ ?_ ?_ ?_ ?_ h3 <;> refine four ?_ <;> kernel_rfl
abbrev remA (b : List Int) (x : Int) : D := if b.contains x = true then ansD "told" (tuxD (b.erase x)) else ansD "absent" (.int x)
theorem due4_ok {s : Nat} (h3 : s ≤ 6) : ∀ b ∈ BL 4 s, ∀ x : Int, 0 ≤ x → x ≤ 3 → op__law_due [.int 4, tuxD b, .int x] = .ok (remA b x) [.int 4, tuxD b, .int x] := by
  refine dom7 (P := fun s => ∀ b ∈ BL 4 s, ∀ x : Int, 0 ≤ x → x ≤ 3 → op__law_due [.int 4, tuxD b, .int x] = .ok (remA b x) [.int 4, tuxD b, .int x]) ?_ ?_ ?_ ?_ ?_ ?_ ?_ h3 <;> refine four ?_ <;> kernel_rfl
end Z

set_option Elab.async false
set_option linter.all false
set_option maxRecDepth 100000
set_option maxHeartbeats 4000000
namespace Z
open PySem PySem.Spec PyProof.Rows
open L2 StX

/-! ### where a bag stands -/
abbrev tupP (b : List Int) : PyData := .tuple (b.map .int)
theorem py_tux (b : List Int) : (tuxD b).py = some (tupP b) := by rw [tuxD, D.py, pyL_dI]; rfl
theorem pyL_tux (L : List (List Int)) : pyL (L.map tuxD) = some (L.map tupP) := by
  induction L with
  | nil => rw [List.map_nil, pyL]; rfl
  | cons b L ih =>
    rw [List.map_cons, pyL, ih, py_tux]
    rfl
theorem can_tups (L : List (List Int)) : PyData.canLayAll0 (L.map tupP) = true := by
  induction L with
  | nil => rfl
  | cons x l ih =>
    rw [List.map_cons, PyData.canLayAll0, ih, tupP, PyData.canLay0, can_ints]
    rfl
theorem dep_tups (L : List (List Int)) : PyData.depthAll (L.map tupP) ≤ 1 := by
  induction L with
  | nil => exact Nat.zero_le _
  | cons x l ih =>
    rw [List.map_cons, PyData.depthAll, tupP, PyData.depth, dep_ints]
    omega
theorem shaped_tups (L : List (List Int)) : SeqAt.shaped (.list (L.map tupP)) = true := by
  have := dep_tups L
  rw [SeqAt.shaped, PyData.canLay0, can_tups, PyData.depth, Bool.true_and, decide_eq_true_eq]
  omega
theorem find_tup {L : List (List Int)} {b : List Int} : b ∈ L → (L.map tupP).findIdx? (fun y => PyData.eqv y (tupP b)) = some (L.idxOf b) := by
  induction L with
  | nil => intro h; cases h
  | cons c L ih =>
    intro h
    rw [List.map_cons, List.findIdx?_cons]
    have e : PyData.eqv (tupP c) (tupP b) = decide (c = b) := by rw [PyData.eqv, eqv_all]
    rw [e, List.idxOf_cons]
    by_cases hc : c = b
    · rw [decide_eq_true hc, if_pos rfl, beq_iff_eq.mpr hc, cond_true]
    · rw [decide_eq_false hc]
      have h' : b ∈ L := by
        rcases List.mem_cons.mp h with h | h
        · exact absurd h.symm hc
        · exact h
      rw [ih h', beq_eq_false_iff_ne.mpr hc, cond_false]
      rfl
theorem index_ok {o : Bool} {L : List (List Int)} {b : List Int} (h : b ∈ L) : oIndex [.node (.lst o) (L.map tuxD), tuxD b] = .ok (.int (L.idxOf b : Nat)) [.node (.lst o) (L.map tuxD), tuxD b] := by
  simp only [op2, py_tux, pyL_tux]
  rw [if_pos ⟨shaped_tu b, shaped_tups L⟩, find_tup h]
  rfl

/-! ### what is refused -/
theorem ansV {k : Str} {i : Nat} {d : D} {e : Env} (h : e[i]? = some d) (ha : d.isAny = false) (hf : d.frz = d) : mApp oLst [(.val (mC (.str k))), (.val (mVar i))] e = .ok (ansD k d) e :=
  mApp_ok (f := oLst) (evA_val (m := mC (.str k)) rfl (evA_val (mVar_s h ha hf) evA_nil)) rfl
theorem raise1 {c : Str} {i : Nat} {d : D} {e : Env} {f : Str} (h : e[i]? = some d) (ha : d.isAny = false) (hf : d.frz = d) : sDrop (mApp (oRaise c [f]) [(.val (mVar i))]) e = .exc c [f] [d] e := by
  have R : oRaise c [f] [d] = .exc c [f] [d] [d] := by
    simp only [oRaise, List.length_cons, List.length_nil, if_true, frzL_cons, frzL_nil, hf]
    rfl
  exact sDrop_ex (mApp_ex (evA_val (mVar_s h ha hf) evA_nil) R)
theorem cval_t {d : D} (h : Th d) (c : numIn 1 4 d = true) : op_check_values [d] = .ok .non [d] := by
  have I := dfOp_ok (betw_ok h.ty 1 4) rfl
  rw [c] at I
  have P : evA [(.peek 0), (.val (mC (.int 1))), (.val (mC (.int 4)))] [d] = .ok [d, .int 1, .int 4] [.any] := evA_peek (d0 := d) rfl h.any (e1 := [d]) rfl (d := d) rfl h.any
  exact fnOp_nx (e := [d]) rfl (sIf_f (mNot_ok (mApp_ok P I)) rfl) (by simp)
theorem cval_f {d : D} (h : Th d) (c : numIn 1 4 d = false) : op_check_values [d] = .exc "InvalidValues" ["given"] [d] [d] := by
  have I := dfOp_ok (betw_ok h.ty 1 4) rfl
  rw [c] at I
  have P : evA [(.peek 0), (.val (mC (.int 1))), (.val (mC (.int 4)))] [d] = .ok [d, .int 1, .int 4] [.any] := evA_peek (d0 := d) rfl h.any (e1 := [d]) rfl (d := d) rfl h.any
  exact fnOp_ex (e := [d]) rfl (sIf_t (mNot_ok (mApp_ok P I)) (raise1 rfl h.any h.frz)) (by simp)
theorem csize_t {d : D} (h : Th d) (c : numIn 0 6 d = true) : op_check_size [d, .int 0, .int 6] = .ok .non [d, .int 0, .int 6] := by
  have I := dfOp_ok (betw_ok h.ty 0 6) rfl
  rw [c] at I
  have P : evA [(.peek 0), (.peek 1), (.peek 2)] [d, .int 0, .int 6] = .ok [d, .int 0, .int 6] [.any, .any, .any] := evA_peek (d0 := d) rfl h.any (e1 := [d, .any, .any]) rfl (d := d) rfl h.any
  exact fnOp_nx (e := [d, .int 0, .int 6]) rfl (sIf_f (mNot_ok (mApp_ok P I)) rfl) (by simp)
theorem csize_f {d : D} (h : Th d) (c : numIn 0 6 d = false) : op_check_size [d, .int 0, .int 6] = .exc "InvalidSize" ["given"] [d] [d, .int 0, .int 6] := by
  have I := dfOp_ok (betw_ok h.ty 0 6) rfl
  rw [c] at I
  have P : evA [(.peek 0), (.peek 1), (.peek 2)] [d, .int 0, .int 6] = .ok [d, .int 0, .int 6] [.any, .any, .any] := evA_peek (d0 := d) rfl h.any (e1 := [d, .any, .any]) rfl (d := d) rfl h.any
  exact fnOp_ex (e := [d, .int 0, .int 6]) rfl (sIf_t (mNot_ok (mApp_ok P I)) (raise1 rfl h.any h.frz)) (by simp)
theorem cvalue_f {d : D} (h : Th d) (c : numIn 0 3 d = false) : op_check_value [d, .int 4] = .exc "InvalidValue" ["given"] [d] [d, .int 4] := by
  have I := dfOp_ok (betw_ok h.ty 0 3) rfl
  rw [c] at I
  have P : evA [(.peek 0), (.val (mC (.int 0))), (.val (mApp oSub [(.val (mVar 1)), (.val (mC (.int 1)))]))] [d, .int 4] = .ok [d, .int 0, .int 3] [.any, .int 4] := evA_peek (d0 := d) rfl h.any (e1 := [d, .int 4]) rfl (d := d) rfl h.any
  exact fnOp_ex (e := [d, .int 4]) rfl (sIf_t (mNot_ok (mApp_ok P I)) (raise1 rfl h.any h.frz)) (by simp)

section
variable {one other : D} (h1 : Th one) (h2 : Th other)
include h1 h2
theorem pk0 {a b : List D} {i : Nat} : evA [(.peek 0)] (one :: a) = .ok [one] (.any :: a) := evA_peek (d0 := one) rfl h1.any evA_nil (d := one) rfl h1.any
theorem bags_f1 (c : numIn 1 4 one = false) : op_bags [one, other] = .exc "InvalidValues" ["given"] [one] [one, other] :=
  fnOp_ex (e := [one, other, .any, .any, .any, .any]) rfl (sSeq_ex (sDrop_ex (mApp_ex (e := [.any, other, .any, .any, .any, .any]) (evA_peek (d0 := one) rfl h1.any evA_nil (d := one) rfl h1.any) (dfOp_ex (cval_f h1 c) rfl)))) (by simp)
theorem bags_f2 (c : numIn 1 4 one = true) (c2 : numIn 0 6 other = false) : op_bags [one, other] = .exc "InvalidSize" ["given"] [other] [one, other] :=
  fnOp_ex (e := [one, other, .any, .any, .any, .any]) rfl (sSeq_nx (e := [one, other, .any, .any, .any, .any]) (sDrop_ok (mApp_ok (e := [.any, other, .any, .any, .any, .any]) (evA_peek (d0 := one) rfl h1.any evA_nil (d := one) rfl h1.any) (dfOp_ok (cval_t h1 c) rfl)))
    (sSeq_ex (sDrop_ex (mApp_ex (e := [one, .any, .any, .any, .any, .any]) (evA_peek (d0 := other) rfl h2.any (e1 := [one, other, .any, .any, .any, .any]) rfl (d := other) rfl h2.any) (dfOp_ex (csize_f h2 c2) rfl))))) (by simp)
theorem cnt_f1 (c : numIn 1 4 one = false) : op_count_bags [one, other] = .exc "InvalidValues" ["given"] [one] [one, other] :=
  fnOp_ex (e := [one, other]) rfl (sSeq_ex (sDrop_ex (mApp_ex (e := [.any, other]) (evA_peek (d0 := one) rfl h1.any evA_nil (d := one) rfl h1.any) (dfOp_ex (cval_f h1 c) rfl)))) (by simp)
theorem cnt_f2 (c : numIn 1 4 one = true) (c2 : numIn 0 6 other = false) : op_count_bags [one, other] = .exc "InvalidSize" ["given"] [other] [one, other] :=
  fnOp_ex (e := [one, other]) rfl (sSeq_nx (e := [one, other]) (sDrop_ok (mApp_ok (e := [.any, other]) (evA_peek (d0 := one) rfl h1.any evA_nil (d := one) rfl h1.any) (dfOp_ok (cval_t h1 c) rfl)))
    (sSeq_ex (sDrop_ex (mApp_ex (e := [one, .any]) (evA_peek (d0 := other) rfl h2.any (e1 := [one, other]) rfl (d := other) rfl h2.any) (dfOp_ex (csize_f h2 c2) rfl))))) (by simp)
theorem idx_f1 (c : numIn 1 4 one = false) : op_bag_index [one, other] = .exc "InvalidValues" ["given"] [one] [one, other] :=
  fnOp_ex (e := [one, other]) rfl (sSeq_ex (sDrop_ex (mApp_ex (e := [.any, other]) (evA_peek (d0 := one) rfl h1.any evA_nil (d := one) rfl h1.any) (dfOp_ex (cval_f h1 c) rfl)))) (by simp)
omit h1 in
theorem idx_f2 {v : Nat} (hv : 1 ≤ v) (hv4 : v ≤ 4) (c2 : bagIn v other = false) : op_bag_index [.int v, other] = .exc "InvalidBag" ["given"] [other] [.int v, other] := by
  have C : op_check_values [.int v] = .ok .non [.int v] := by
    match v, hv, hv4 with
    | 1, _, _ => kernel_rfl
    | 2, _, _ => kernel_rfl
    | 3, _, _ => kernel_rfl
    | 4, _, _ => kernel_rfl
  have I := dfOp_ok (isbag_ok h2 v) rfl
  rw [c2] at I
  exact fnOp_ex (e := [.int v, other]) rfl (sSeq_nx (e := [.int v, other]) (sDrop_ok (mApp_ok (e := [.any, other]) rfl (dfOp_ok C rfl)))
    (sSeq_ex (sIf_t (mNot_ok (b := false) (mApp_ok (e := [.any, .any]) (evA_peek (d0 := other) rfl h2.any (e1 := [.any, other]) rfl (d := other) rfl h2.any) I)) (raise1 rfl h2.any h2.frz)))) (by simp)
theorem cbv_f1 (c : bagIn 4 one = false) : op__check_bag_and_value [one, other] = .exc "InvalidBag" ["given"] [one] [one, other] := by
  have I := dfOp_ok (isbag_ok h1 4) rfl
  rw [c] at I
  exact fnOp_ex (e := [one, other]) rfl (sSeq_ex (sIf_t (mNot_ok (b := false) (mApp_ok (e := [.any, other]) (evA_peek (d0 := one) rfl h1.any (e1 := [one, other]) rfl (d := one) rfl h1.any) I)) (raise1 rfl h1.any h1.frz))) (by simp)
theorem cbv_f2 (c : bagIn 4 one = true) (c2 : numIn 0 3 other = false) : op__check_bag_and_value [one, other] = .exc "InvalidValue" ["given"] [other] [one, other] := by
  have I := dfOp_ok (isbag_ok h1 4) rfl
  rw [c] at I
  exact fnOp_ex (e := [one, other]) rfl (sSeq_nx (e := [one, other]) (sIf_f (mNot_ok (b := true) (mApp_ok (e := [.any, other]) (evA_peek (d0 := one) rfl h1.any (e1 := [one, other]) rfl (d := one) rfl h1.any) I)) rfl)
    (sDrop_ex (mApp_ex (e := [one, .any]) (evA_peek (d0 := other) rfl h2.any (e1 := [one, other]) rfl (d := other) rfl h2.any) (dfOp_ex (cvalue_f h2 c2) rfl)))) (by simp)
theorem pk01 {a b : D} : evA [(.peek 0), (.peek 1)] [one, other] = .ok [one, other] [.any, .any] := evA_peek (d0 := one) rfl h1.any (evA_peek (d0 := other) rfl h2.any evA_nil (d := other) rfl h2.any) rfl h1.any
theorem add_f {k : Str} {d : D} (h : op__check_bag_and_value [one, other] = .exc k ["given"] [d] [one, other]) : op_added [one, other] = .exc k ["given"] [d] [one, other] :=
  fnOp_ex (e := [one, other]) rfl (sSeq_ex (sDrop_ex (mApp_ex (e := [.any, .any]) (evA_peek (d0 := one) rfl h1.any (evA_peek (d0 := other) rfl h2.any evA_nil (d := other) rfl h2.any) rfl h1.any) (dfOp_ex h rfl)))) (by simp)
theorem rem_f {k : Str} {d : D} (h : op__check_bag_and_value [one, other] = .exc k ["given"] [d] [one, other]) : op_removed [one, other] = .exc k ["given"] [d] [one, other] :=
  fnOp_ex (e := [one, other, .any]) rfl (sSeq_ex (sDrop_ex (mApp_ex (e := [.any, .any, .any]) (evA_peek (d0 := one) rfl h1.any (evA_peek (d0 := other) rfl h2.any evA_nil (d := other) rfl h2.any) rfl h1.any) (dfOp_ex h rfl)))) (by simp)
end
theorem idx_t {v s : Nat} (hv : 1 ≤ v) (hv4 : v ≤ 4) (hs : s ≤ 6) {b : List Int} (hb : b ∈ BL v s) : op_bag_index [.int v, tuxD b] = .ok (.int ((BL v s).idxOf b : Nat)) [.int v, tuxD b] := by
  obtain ⟨hl, hi⟩ := BL_in hv hv4 hs b hb
  have T : Th (tuxD b) := ⟨rfl, isFrz_tux b, fun xs e => by
    injection e with _ e
    subst e
    refine ⟨by simp; omega, fun x hx => ?_⟩
    obtain ⟨i, _, rfl⟩ := List.mem_map.mp hx
    rfl⟩
  have C : op_check_values [.int v] = .ok .non [.int v] := by
    match v, hv, hv4 with
    | 1, _, _ => kernel_rfl
    | 2, _, _ => kernel_rfl
    | 3, _, _ => kernel_rfl
    | 4, _, _ => kernel_rfl
  have c : bagIn v (tuxD b) = true := by
    rw [bagIn, bagL_ints, BL_up hv hv4 hs b hb, Bool.and_true, decide_eq_true_eq, dI_length, hl]
    exact hs
  have I := dfOp_ok (isbag_ok T v) rfl
  rw [c] at I
  have B := dfOp_ok (bags_ok hv hv4 hs) rfl
  have O : oLen [tuxD b] = .ok (.int s) [tuxD b] := by
    have := len_node (α := Nat) .tux (dI b) (dI b) rfl
    rw [dI_length, hl] at this
    exact this
  have L : mApp oLen [(.peek 1)] [.int v, tuxD b] = .ok (.int s) [.int v, tuxD b] := mApp_ok (e := [.int v, .any]) rfl O
  have M : mApp (dfOp op_bags []) [(.peek 0), (.val (mApp oLen [(.peek 1)]))] [.int v, tuxD b] = .ok (lstB true v s) [.int v, tuxD b] := mApp_ok (evA_peek (d0 := .int v) rfl rfl (evA_val L evA_nil) rfl rfl) B
  have M2 : mIs isLst (mApp (dfOp op_bags []) [(.peek 0), (.val (mApp oLen [(.peek 1)]))]) [.int v, tuxD b] = .ok (lstB true v s) [.int v, tuxD b] := by
    simp only [mIs, M]
    rfl
  have V : mVar 1 [.int v, tuxD b] = .ok (tuxD b) [.int v, tuxD b] := mVar_s (d := tuxD b) rfl rfl (frz_tux b)
  have R := mApp_ok (evA_val M2 (evA_val V evA_nil)) (index_ok (o := true) hb)
  exact fnOp_rt (e := [.int v, tuxD b]) rfl (sSeq_nx (e := [.int v, tuxD b]) (sDrop_ok (mApp_ok (e := [.any, tuxD b]) rfl (dfOp_ok C rfl)))
    (sSeq_nx (e := [.int v, tuxD b]) (sIf_f (mNot_ok (b := true) (mApp_ok (e := [.any, .any]) rfl I)) rfl) (sRet_ok R))) (by simp)
end Z

set_option Elab.async false
set_option linter.all false
set_option maxRecDepth 100000
set_option maxHeartbeats 4000000
namespace Z
open PySem PySem.Spec PyProof.Rows
open L2 StX
/-! ### what is told -/
def opOf : Nat → Op
  | 0 => op_bags
  | 1 => op_count_bags
  | 2 => op_bag_index
  | 3 => op_added
  | _ => op_removed
theorem eq0 (w k : Int) (a : List D) : mApp (op2 (eqB false)) [(.peek 0), (.val (mC (.int k)))] (.int w :: a) = .ok (.bl (decide (w = k))) (.int w :: a) := by
  have E : op2 (eqB false) [.int w, .int k] = .ok (.bl (decide (w = k))) [.int w, .int k] := by
    simp only [op2, eqB_int, Bool.bne_false]
  exact mApp_ok (evA_peek (d0 := .int w) rfl rfl (e1 := .int w :: a) rfl (d := .int w) rfl rfl) E
theorem lt0 (w k : Int) (a : List D) : mApp oLt [(.peek 0), (.val (mC (.int k)))] (.int w :: a) = .ok (.bl (decide (w < k))) (.int w :: a) := by
  have E : oLt [.int w, .int k] = .ok (.bl (decide (w < k))) [.int w, .int k] := by
    simp only [op2, onInt]
  exact mApp_ok (evA_peek (d0 := .int w) rfl rfl (e1 := .int w :: a) rfl (d := .int w) rfl rfl) E
theorem rev_ok {op : Op} {a b r : D} (h : op [a, b] = .ok r [a, b]) : revOp op [b, a] = .ok r [b, a] := by
  simp only [revOp, List.reverse_cons, List.reverse_nil, List.nil_append, List.cons_append, h]
theorem rev_ex {op : Op} {a b : D} {c : Str} {ns : List Str} {xs : List D} (h : op [a, b] = .exc c ns xs [a, b]) : revOp op [b, a] = .exc c ns xs [b, a] := by
  simp only [revOp, List.reverse_cons, List.reverse_nil, List.nil_append, List.cons_append, h]
section
variable {one other : D} (h1 : Th one) (h2 : Th other)
include h1 h2
theorem p12 {w : D} {a : List D} : evA [(.peek 1), (.peek 2)] (w :: one :: other :: a) = .ok [one, other] (w :: .any :: .any :: a) := evA_peek (d0 := one) rfl h1.any (evA_peek (d0 := other) rfl h2.any evA_nil (d := other) rfl h2.any) rfl h1.any
theorem p21 {w : D} {a : List D} : evA [(.peek 2), (.peek 1)] (w :: one :: other :: a) = .ok [other, one] (w :: .any :: .any :: a) := evA_peek (d0 := other) rfl h2.any (evA_peek (d0 := one) rfl h1.any evA_nil (d := one) rfl h1.any) rfl h2.any
theorem p012 {w : Int} {a : List D} : evA [(.peek 0), (.peek 1), (.peek 2)] (.int w :: one :: other :: a) = .ok [.int w, one, other] (.any :: .any :: .any :: a) := evA_peek (d0 := .int w) rfl rfl (evA_peek (d0 := one) rfl h1.any (evA_peek (d0 := other) rfl h2.any evA_nil (d := other) rfl h2.any) rfl h1.any) rfl rfl
theorem call_ok {w : Nat} (hw : w ≤ 4) {r : D} (h : opOf w [one, other] = .ok r [one, other]) : op__law_call [.int w, one, other] = .ok r [.int w, one, other] := by
  have P := fun {op : Op} (h : op [one, other] = .ok r [one, other]) => (mApp_ok (p12 h1 h2 (w := .int w) (a := [])) (dfOp_ok h rfl) : mApp (dfOp op []) [(.peek 1), (.peek 2)] [.int w, one, other] = .ok r [.int w, one, other])
  match w, hw with
  | 0, _ => exact fnOp_rt (e := [.int (0 : Nat), one, other]) rfl (sSeq_rt (sIf_t (eq0 _ _ _) (sRet_ok (P h)))) (by simp)
  | 1, _ => exact fnOp_rt (e := [.int (1 : Nat), one, other]) rfl (sSeq_nx (sIf_f (eq0 _ _ _) rfl) (sSeq_rt (sIf_t (eq0 _ _ _) (sRet_ok (P h))))) (by simp)
  | 2, _ => exact fnOp_rt (e := [.int (2 : Nat), one, other]) rfl (sSeq_nx (sIf_f (eq0 _ _ _) rfl) (sSeq_nx (sIf_f (eq0 _ _ _) rfl) (sSeq_rt (sIf_t (eq0 _ _ _) (sRet_ok (P h)))))) (by simp)
  | 3, _ => exact fnOp_rt (e := [.int (3 : Nat), one, other]) rfl (sSeq_nx (sIf_f (eq0 _ _ _) rfl) (sSeq_nx (sIf_f (eq0 _ _ _) rfl) (sSeq_nx (sIf_f (eq0 _ _ _) rfl) (sRet_ok (mIf_t (eq0 _ _ _) (P h)))))) (by simp)
  | 4, _ => exact fnOp_rt (e := [.int (4 : Nat), one, other]) rfl (sSeq_nx (sIf_f (eq0 _ _ _) rfl) (sSeq_nx (sIf_f (eq0 _ _ _) rfl) (sSeq_nx (sIf_f (eq0 _ _ _) rfl) (sRet_ok (mIf_f (eq0 _ _ _) (P h)))))) (by simp)
theorem named_ok {w : Nat} (hw : w ≤ 4) {r : D} (h : opOf w [one, other] = .ok r [one, other]) : op__law_named [.int w, one, other] = .ok r [.int w, one, other] := by
  have P := fun {op : Op} (h : op [one, other] = .ok r [one, other]) => (mApp_ok (p21 h1 h2 (w := .int w) (a := [])) (rev_ok h) : mApp (revOp op) [(.peek 2), (.peek 1)] [.int w, one, other] = .ok r [.int w, one, other])
  match w, hw with
  | 0, _ => exact fnOp_rt (e := [.int (0 : Nat), one, other]) rfl (sSeq_rt (sIf_t (eq0 _ _ _) (sRet_ok (P h)))) (by simp)
  | 1, _ => exact fnOp_rt (e := [.int (1 : Nat), one, other]) rfl (sSeq_nx (sIf_f (eq0 _ _ _) rfl) (sSeq_rt (sIf_t (eq0 _ _ _) (sRet_ok (P h))))) (by simp)
  | 2, _ => exact fnOp_rt (e := [.int (2 : Nat), one, other]) rfl (sSeq_nx (sIf_f (eq0 _ _ _) rfl) (sSeq_nx (sIf_f (eq0 _ _ _) rfl) (sSeq_rt (sIf_t (eq0 _ _ _) (sRet_ok (P h)))))) (by simp)
  | 3, _ => exact fnOp_rt (e := [.int (3 : Nat), one, other]) rfl (sSeq_nx (sIf_f (eq0 _ _ _) rfl) (sSeq_nx (sIf_f (eq0 _ _ _) rfl) (sSeq_nx (sIf_f (eq0 _ _ _) rfl) (sRet_ok (mIf_t (eq0 _ _ _) (P h)))))) (by simp)
  | 4, _ => exact fnOp_rt (e := [.int (4 : Nat), one, other]) rfl (sSeq_nx (sIf_f (eq0 _ _ _) rfl) (sSeq_nx (sIf_f (eq0 _ _ _) rfl) (sSeq_nx (sIf_f (eq0 _ _ _) rfl) (sRet_ok (mIf_f (eq0 _ _ _) (P h)))))) (by simp)
theorem call_ex {w : Nat} (hw : w ≤ 4) {c : Str} {ns : List Str} {xs : List D} (h : opOf w [one, other] = .exc c ns xs [one, other]) : op__law_call [.int w, one, other] = .exc c ns xs [.int w, one, other] := by
  have P := fun {op : Op} (h : op [one, other] = .exc c ns xs [one, other]) => (mApp_ex (p12 h1 h2 (w := .int w) (a := [])) (dfOp_ex h rfl) : mApp (dfOp op []) [(.peek 1), (.peek 2)] [.int w, one, other] = .exc c ns xs [.int w, one, other])
  match w, hw with
  | 0, _ => exact fnOp_ex (e := [.int (0 : Nat), one, other]) rfl (sSeq_ex (sIf_t (eq0 _ _ _) (sRet_ex (P h)))) (by simp)
  | 1, _ => exact fnOp_ex (e := [.int (1 : Nat), one, other]) rfl (sSeq_nx (sIf_f (eq0 _ _ _) rfl) (sSeq_ex (sIf_t (eq0 _ _ _) (sRet_ex (P h))))) (by simp)
  | 2, _ => exact fnOp_ex (e := [.int (2 : Nat), one, other]) rfl (sSeq_nx (sIf_f (eq0 _ _ _) rfl) (sSeq_nx (sIf_f (eq0 _ _ _) rfl) (sSeq_ex (sIf_t (eq0 _ _ _) (sRet_ex (P h)))))) (by simp)
  | 3, _ => exact fnOp_ex (e := [.int (3 : Nat), one, other]) rfl (sSeq_nx (sIf_f (eq0 _ _ _) rfl) (sSeq_nx (sIf_f (eq0 _ _ _) rfl) (sSeq_nx (sIf_f (eq0 _ _ _) rfl) (sRet_ex (mIf_t (eq0 _ _ _) (P h)))))) (by simp)
  | 4, _ => exact fnOp_ex (e := [.int (4 : Nat), one, other]) rfl (sSeq_nx (sIf_f (eq0 _ _ _) rfl) (sSeq_nx (sIf_f (eq0 _ _ _) rfl) (sSeq_nx (sIf_f (eq0 _ _ _) rfl) (sRet_ex (mIf_f (eq0 _ _ _) (P h)))))) (by simp)
theorem named_ex {w : Nat} (hw : w ≤ 4) {c : Str} {ns : List Str} {xs : List D} (h : opOf w [one, other] = .exc c ns xs [one, other]) : op__law_named [.int w, one, other] = .exc c ns xs [.int w, one, other] := by
  have P := fun {op : Op} (h : op [one, other] = .exc c ns xs [one, other]) => (mApp_ex (p21 h1 h2 (w := .int w) (a := [])) (rev_ex h) : mApp (revOp op) [(.peek 2), (.peek 1)] [.int w, one, other] = .exc c ns xs [.int w, one, other])
  match w, hw with
  | 0, _ => exact fnOp_ex (e := [.int (0 : Nat), one, other]) rfl (sSeq_ex (sIf_t (eq0 _ _ _) (sRet_ex (P h)))) (by simp)
  | 1, _ => exact fnOp_ex (e := [.int (1 : Nat), one, other]) rfl (sSeq_nx (sIf_f (eq0 _ _ _) rfl) (sSeq_ex (sIf_t (eq0 _ _ _) (sRet_ex (P h))))) (by simp)
  | 2, _ => exact fnOp_ex (e := [.int (2 : Nat), one, other]) rfl (sSeq_nx (sIf_f (eq0 _ _ _) rfl) (sSeq_nx (sIf_f (eq0 _ _ _) rfl) (sSeq_ex (sIf_t (eq0 _ _ _) (sRet_ex (P h)))))) (by simp)
  | 3, _ => exact fnOp_ex (e := [.int (3 : Nat), one, other]) rfl (sSeq_nx (sIf_f (eq0 _ _ _) rfl) (sSeq_nx (sIf_f (eq0 _ _ _) rfl) (sSeq_nx (sIf_f (eq0 _ _ _) rfl) (sRet_ex (mIf_t (eq0 _ _ _) (P h)))))) (by simp)
  | 4, _ => exact fnOp_ex (e := [.int (4 : Nat), one, other]) rfl (sSeq_nx (sIf_f (eq0 _ _ _) rfl) (sSeq_nx (sIf_f (eq0 _ _ _) rfl) (sSeq_nx (sIf_f (eq0 _ _ _) rfl) (sRet_ex (mIf_f (eq0 _ _ _) (P h)))))) (by simp)
end
abbrev toldKs : List Cls1 := [⟨"InvalidValues", 4, ["given"], fun xs => (sRet (mApp oLst [(.val (mC (.str "values"))), (.val (mXf xs 0))]))⟩, ⟨"InvalidSize", 4, ["given"], fun xs => (sRet (mApp oLst [(.val (mC (.str "size"))), (.val (mXf xs 0))]))⟩, ⟨"InvalidBag", 4, ["given"], fun xs => (sRet (mApp oLst [(.val (mC (.str "bag"))), (.val (mXf xs 0))]))⟩, ⟨"InvalidValue", 4, ["given"], fun xs => (sRet (mApp oLst [(.val (mC (.str "value"))), (.val (mXf xs 0))]))⟩, ⟨"NotInBag", 4, ["value"], fun xs => (sRet (mApp oLst [(.val (mC (.str "absent"))), (.val (mXf xs 0))]))⟩]
theorem pickV {a b c n d : D} : pick nopL "InvalidValues" ["given"] [d] [a, b, c, n, .any] toldKs = .rt (ansD "values" d) [a, b, c, n, .any] := by kernel_rfl
theorem pickS {a b c n d : D} : pick nopL "InvalidSize" ["given"] [d] [a, b, c, n, .any] toldKs = .rt (ansD "size" d) [a, b, c, n, .any] := by kernel_rfl
theorem pickB {a b c n d : D} : pick nopL "InvalidBag" ["given"] [d] [a, b, c, n, .any] toldKs = .rt (ansD "bag" d) [a, b, c, n, .any] := by kernel_rfl
theorem pickE {a b c n d : D} : pick nopL "InvalidValue" ["given"] [d] [a, b, c, n, .any] toldKs = .rt (ansD "value" d) [a, b, c, n, .any] := by kernel_rfl
theorem pickN {a b c n d : D} : pick nopL "NotInBag" ["value"] [d] [a, b, c, n, .any] toldKs = .rt (ansD "absent" d) [a, b, c, n, .any] := by kernel_rfl
theorem try_ex {no : List (Str × Str)} {m : S} {ks : List Cls1} {env e : Env} {c : Str} {ns : List Str} {xs : List D} {r : SRes} (h : m env = .exc c ns xs e) (hr : pick no c ns xs e ks = r) : sTryM no m ks env = r := by
  simp only [sTryM, h, hr]
theorem try_rt {no : List (Str × Str)} {m : S} {ks : List Cls1} {env e : Env} {r : D} (h : m env = .rt r e) : sTryM no m ks env = .rt r e := by
  simp only [sTryM, h]
theorem evA_ex {m : M} {ops : List Opd} {env e1 : Env} {c : Str} {ns : List Str} {xs : List D} (h : m env = .exc c ns xs e1) : evA (.val m :: ops) env = .exc c ns xs e1 := by
  simp only [evA, h]
theorem evA_v2x {m m2 : M} {ops : List Opd} {env e1 e2 : Env} {r : D} {c : Str} {ns : List Str} {xs : List D} (h : m env = .ok r e1) (h2 : m2 e1 = .exc c ns xs e2) : evA [.val m, .val m2] env = .exc c ns xs e2 := by
  simp only [evA, h, h2]
theorem mApp_xx {f : Op} {ops : List Opd} {env e : Env} {c : Str} {ns : List Str} {xs : List D} (h : evA ops env = .exc c ns xs e) : mApp f ops env = .exc c ns xs e := by
  simp only [mApp, h]
section
variable {one other : D} (h1 : Th one) (h2 : Th other)
include h1 h2
theorem told_ok {w : Nat} (hw : w ≤ 4) {r : D} (h : opOf w [one, other] = .ok r [one, other]) (n : Bool) : op__law_told [.int w, one, other, .bl n] = .ok (ansD "told" r) [.int w, one, other, .bl n] := by
  have A1 := mApp_ok (p012 h1 h2 (w := w) (a := [.bl n, .any])) (dfOp_ok (named_ok h1 h2 hw h) rfl)
  have A2 := mApp_ok (p012 h1 h2 (w := w) (a := [.bl n, .any])) (dfOp_ok (call_ok h1 h2 hw h) rfl)
  have T : mTru (mVar 3) [.int w, one, other, .bl n, .any] = .ok (.bl n) [.int w, one, other, .bl n, .any] := rfl
  have M : mIf (mTru (mVar 3)) (mApp (dfOp op__law_named []) [(.peek 0), (.peek 1), (.peek 2)]) (mApp (dfOp op__law_call []) [(.peek 0), (.peek 1), (.peek 2)]) [.int w, one, other, .bl n, .any] = .ok r [.int w, one, other, .bl n, .any] := by
    cases n with
    | true => exact mIf_t T A1
    | false => exact mIf_f T A2
  exact fnOp_rt (e := [.int w, one, other, .bl n, .any]) rfl (try_rt (sRet_ok (mApp_ok (f := oLst) (evA_val (m := mC (.str "told")) rfl (evA_val M evA_nil)) rfl))) (by simp)
theorem told_ex {w : Nat} (hw : w ≤ 4) {c : Str} {ns : List Str} {d a : D} (h : opOf w [one, other] = .exc c ns [d] [one, other]) (n : Bool) (hp : pick nopL c ns [d] [.int w, one, other, .bl n, .any] toldKs = .rt a [.int w, one, other, .bl n, .any]) : op__law_told [.int w, one, other, .bl n] = .ok a [.int w, one, other, .bl n] := by
  have A1 := mApp_ex (p012 h1 h2 (w := w) (a := [.bl n, .any])) (dfOp_ex (named_ex h1 h2 hw h) rfl)
  have A2 := mApp_ex (p012 h1 h2 (w := w) (a := [.bl n, .any])) (dfOp_ex (call_ex h1 h2 hw h) rfl)
  have T : mTru (mVar 3) [.int w, one, other, .bl n, .any] = .ok (.bl n) [.int w, one, other, .bl n, .any] := rfl
  have M : mIf (mTru (mVar 3)) (mApp (dfOp op__law_named []) [(.peek 0), (.peek 1), (.peek 2)]) (mApp (dfOp op__law_call []) [(.peek 0), (.peek 1), (.peek 2)]) [.int w, one, other, .bl n, .any] = .exc c ns [d] [.int w, one, other, .bl n, .any] := by
    cases n with
    | true => exact mIf_t T A1
    | false => exact mIf_f T A2
  exact fnOp_rt (e := [.int w, one, other, .bl n, .any]) rfl (try_ex (sRet_ex (mApp_xx (evA_v2x (ops := []) (m := mC (.str "told")) rfl M))) hp) (by simp)
end
end Z

set_option Elab.async false
set_option linter.all false
set_option maxRecDepth 100000
set_option maxHeartbeats 4000000
namespace Z
open PySem PySem.Spec PyProof.Rows
open L2 StX
theorem frzL_tuxs (L : List (List Int)) : frzL (L.map tuxD) = L.map tuxD := by
  rw [frzL_eq, List.map_map]
  exact List.map_congr_left fun b _ => frz_tux b
theorem frz_lstB (o : Bool) (v s : Nat) : (lstB o v s).frz = lstB false v s := by
  simp only [lstB, frz_node, Tag.frz, frzL_tuxs]
/-! ### what is due -/
section
variable {one other : D} (h1 : Th one) (h2 : Th other)
include h1 h2
theorem n1_ok (w : D) (a : List D) (lo hi : Int) : mNot (mApp (dfOp op__law_is_number []) [(.peek 1), (.val (mC (.int lo))), (.val (mC (.int hi)))]) (w :: one :: other :: a) = .ok (.bl (!numIn lo hi one)) (w :: one :: other :: a) :=
  mNot_ok (mApp_ok (evA_peek (d0 := one) rfl h1.any (e1 := w :: one :: other :: a) rfl (d := one) rfl h1.any) (dfOp_ok (isnum_ok h1.ty lo hi) rfl))
theorem n2_ok (w : D) (a : List D) (lo hi : Int) : mNot (mApp (dfOp op__law_is_number []) [(.peek 2), (.val (mC (.int lo))), (.val (mC (.int hi)))]) (w :: one :: other :: a) = .ok (.bl (!numIn lo hi other)) (w :: one :: other :: a) :=
  mNot_ok (mApp_ok (evA_peek (d0 := other) rfl h2.any (e1 := w :: one :: other :: a) rfl (d := other) rfl h2.any) (dfOp_ok (isnum_ok h2.ty lo hi) rfl))
theorem b1_ok (w : D) (a : List D) (v : Int) : mNot (mApp (dfOp op__law_is_bag []) [(.val (mC (.int v))), (.peek 1)]) (w :: one :: other :: a) = .ok (.bl (!bagIn v one)) (w :: one :: other :: a) :=
  mNot_ok (mApp_ok (evA_val (m := mC (.int v)) rfl (evA_peek (d0 := one) rfl h1.any (e1 := w :: one :: other :: a) rfl (d := one) rfl h1.any)) (dfOp_ok (lisbag_ok h1 v) rfl))
omit h1 in
theorem b2_ok (w : D) (a : List D) (v : Int) : mNot (mApp (dfOp op__law_is_bag []) [(.peek 1), (.peek 2)]) (w :: .int v :: other :: a) = .ok (.bl (!bagIn v other)) (w :: .int v :: other :: a) :=
  mNot_ok (mApp_ok (evA_peek (d0 := .int v) rfl rfl (evA_peek (d0 := other) rfl h2.any (e1 := w :: .int v :: other :: a) rfl (d := other) rfl h2.any) rfl rfl) (dfOp_ok (lisbag_ok h2 v) rfl))
theorem due_values {w : Nat} (hw : w < 3) (c : numIn 1 4 one = false) : op__law_due [.int w, one, other] = .ok (ansD "values" one) [.int w, one, other] := by
  have L := lt0 w 3 [one, other, .any, .any]
  rw [decide_eq_true (by omega)] at L
  have N := n1_ok h1 h2 (.int w) [.any, .any] 1 4
  rw [c] at N
  exact fnOp_rt (e := [.int w, one, other, .any, .any]) rfl (sSeq_rt (sIf_t L (sSeq_rt (sIf_t N (sRet_ok (ansV (i := 1) rfl h1.any h1.frz)))))) (by simp)
theorem due_size {w : Nat} (hw : w < 2) (c : numIn 1 4 one = true) (c2 : numIn 0 6 other = false) : op__law_due [.int w, one, other] = .ok (ansD "size" other) [.int w, one, other] := by
  have L := lt0 w 3 [one, other, .any, .any]
  rw [decide_eq_true (by omega)] at L
  have L2 := lt0 w 2 [one, other, .any, .any]
  rw [decide_eq_true (by omega)] at L2
  have N := n1_ok h1 h2 (.int w) [.any, .any] 1 4
  rw [c] at N
  have N2 := n2_ok h1 h2 (.int w) [.any, .any] 0 6
  rw [c2] at N2
  exact fnOp_rt (e := [.int w, one, other, .any, .any]) rfl (sSeq_rt (sIf_t L (sSeq_nx (sIf_f N rfl) (sSeq_rt (sIf_t L2 (sSeq_rt (sIf_t N2 (sRet_ok (ansV (i := 2) rfl h2.any h2.frz)))))))) ) (by simp)
theorem due_bag1 {w : Nat} (hw : 3 ≤ w) (c : bagIn 4 one = false) : op__law_due [.int w, one, other] = .ok (ansD "bag" one) [.int w, one, other] := by
  have L := lt0 w 3 [one, other, .any, .any]
  rw [decide_eq_false (by omega)] at L
  have N := b1_ok h1 h2 (.int w) [.any, .any] 4
  rw [c] at N
  exact fnOp_rt (e := [.int w, one, other, .any, .any]) rfl (sSeq_nx (sIf_f L rfl) (sSeq_rt (sIf_t N (sRet_ok (ansV (i := 1) rfl h1.any h1.frz))))) (by simp)
theorem due_value {w : Nat} (hw : 3 ≤ w) (c : bagIn 4 one = true) (c2 : numIn 0 3 other = false) : op__law_due [.int w, one, other] = .ok (ansD "value" other) [.int w, one, other] := by
  have L := lt0 w 3 [one, other, .any, .any]
  rw [decide_eq_false (by omega)] at L
  have N := b1_ok h1 h2 (.int w) [.any, .any] 4
  rw [c] at N
  have N2 := n2_ok h1 h2 (.int w) [.any, .any] 0 3
  rw [c2] at N2
  exact fnOp_rt (e := [.int w, one, other, .any, .any]) rfl (sSeq_nx (sIf_f L rfl) (sSeq_nx (sIf_f N rfl) (sSeq_rt (sIf_t N2 (sRet_ok (ansV (i := 2) rfl h2.any h2.frz)))))) (by simp)
omit h1 in
theorem due_bag2 {v : Nat} (hv : 1 ≤ v) (hv4 : v ≤ 4) (c : bagIn v other = false) : op__law_due [.int (2 : Nat), .int v, other] = .ok (ansD "bag" other) [.int (2 : Nat), .int v, other] := by
  have h1 : Th (.int v) := ⟨rfl, rfl, nofun⟩
  have N := n1_ok h1 h2 (.int (2 : Nat)) [.any, .any] 1 4
  have q : numIn 1 4 (.int v) = true := by
    simp only [numIn, Bool.and_eq_true, decide_eq_true_eq]
    omega
  rw [q] at N
  have N2 := b2_ok h2 (.int (2 : Nat)) [.any, .any] v
  rw [c] at N2
  exact fnOp_rt (e := [.int (2 : Nat), .int v, other, .any, .any]) rfl (sSeq_rt (sIf_t (lt0 _ _ _) (sSeq_nx (sIf_f N rfl) (sSeq_nx (sIf_f (lt0 _ _ _) rfl) (sSeq_rt (sIf_t N2 (sRet_ok (ansV (i := 2) rfl h2.any h2.frz)))))))) (by simp)
end
theorem th_int (i : Int) : Th (.int i) := ⟨rfl, isFrz_int i, nofun⟩
theorem th_tux {l : List Int} (h : l.length ≤ 1000) : Th (tuxD l) := ⟨rfl, isFrz_tux l, fun xs e => by
    injection e with _ e
    subst e
    refine ⟨by simpa using h, fun x hx => ?_⟩
    obtain ⟨i, _, rfl⟩ := List.mem_map.mp hx
    rfl⟩
theorem num14 {v : Nat} (hv : 1 ≤ v) (hv4 : v ≤ 4) : numIn 1 4 (.int v) = true := by
  simp only [numIn, Bool.and_eq_true, decide_eq_true_eq]
  omega
theorem num06 {v : Nat} (hv4 : v ≤ 6) : numIn 0 6 (.int v) = true := by
  simp only [numIn, Bool.and_eq_true, decide_eq_true_eq]
  omega
theorem due_0g {v s : Nat} {Z Y : D} (hb : op__law_bags [.int v, .int s] = .ok Z [.int v, .int s]) (a : Z.isAny = false) (f : Z.frz = Y) (hv : 1 ≤ v) (hv4 : v ≤ 4) (hs : s ≤ 6) : op__law_due [.int (0 : Nat), .int v, .int s] = .ok (ansD "told" Y) [.int (0 : Nat), .int v, .int s] := by
  have N := n1_ok (th_int v) (th_int s) (.int (0 : Nat)) [.any, .any] 1 4
  rw [num14 hv hv4] at N
  have N2 := n2_ok (th_int v) (th_int s) (.int (0 : Nat)) [.any, .any] 0 6
  rw [num06 hs] at N2
  have B := mApp_ok (p12 (th_int v) (th_int s) (w := .int (0 : Nat)) (a := [.any, .any])) (dfOp_ok hb rfl)
  have S4 : sAsg (.nm 4) (mApp (dfOp op__law_bags []) [(.peek 1), (.peek 2)]) [.int (0 : Nat), .int v, .int s, .any, .any] = .nx [.int (0 : Nat), .int v, .int s, .any, Z] := sAsg_ok B rfl
  have V : mVar 4 [.int (0 : Nat), .int v, .int s, .any, Z] = .ok Y [.int (0 : Nat), .int v, .int s, .any, Y] := by
    rw [mVar_ok (d := Z) rfl (isAny_iff.mp a), f]
    rfl
  exact fnOp_rt (e := [.int (0 : Nat), .int v, .int s, .any, Y]) rfl (sSeq_rt (sIf_t (lt0 _ _ _) (sSeq_nx (sIf_f N rfl) (sSeq_rt (sIf_t (lt0 _ _ _) (sSeq_nx (sIf_f N2 rfl) (sSeq_nx S4 (sRet_ok (mApp_ok (f := oLst) (evA_val (m := mC (.str "told")) rfl (evA_val (mIf_t (eq0 _ _ _) V) evA_nil)) rfl))))))))) (by simp)
theorem due_1g {v s : Nat} {Z : D} {n : Int} (hb : op__law_bags [.int v, .int s] = .ok Z [.int v, .int s]) (a : Z.isAny = false) (o : oLen [Z] = .ok (.int n) [Z]) (hv : 1 ≤ v) (hv4 : v ≤ 4) (hs : s ≤ 6) : op__law_due [.int (1 : Nat), .int v, .int s] = .ok (ansD "told" (.int n)) [.int (1 : Nat), .int v, .int s] := by
  have N := n1_ok (th_int v) (th_int s) (.int (1 : Nat)) [.any, .any] 1 4
  rw [num14 hv hv4] at N
  have N2 := n2_ok (th_int v) (th_int s) (.int (1 : Nat)) [.any, .any] 0 6
  rw [num06 hs] at N2
  have B := mApp_ok (p12 (th_int v) (th_int s) (w := .int (1 : Nat)) (a := [.any, .any])) (dfOp_ok hb rfl)
  have S4 : sAsg (.nm 4) (mApp (dfOp op__law_bags []) [(.peek 1), (.peek 2)]) [.int (1 : Nat), .int v, .int s, .any, .any] = .nx [.int (1 : Nat), .int v, .int s, .any, Z] := sAsg_ok B rfl
  have M : mApp oLen [(.peek 4)] [.int (1 : Nat), .int v, .int s, .any, Z] = .ok (.int n) [.int (1 : Nat), .int v, .int s, .any, Z] := mApp_ok (e := [.int (1 : Nat), .int v, .int s, .any, .any]) (evA_peek (d0 := Z) rfl a evA_nil (d := Z) rfl a) o
  exact fnOp_rt (e := [.int (1 : Nat), .int v, .int s, .any, Z]) rfl (sSeq_rt (sIf_t (lt0 _ _ _) (sSeq_nx (sIf_f N rfl) (sSeq_rt (sIf_t (lt0 _ _ _) (sSeq_nx (sIf_f N2 rfl) (sSeq_nx S4 (sRet_ok (mApp_ok (f := oLst) (evA_val (m := mC (.str "told")) rfl (evA_val (mIf_f (eq0 _ _ _) M) evA_nil)) rfl))))))))) (by simp)
theorem len_lstB (o : Bool) (v s : Nat) : oLen [lstB o v s] = .ok (.int ((BL v s).length : Nat)) [lstB o v s] := by
  have := len_node (α := Nat) (.lst o) ((BL v s).map tuxD) ((BL v s).map tuxD) rfl
  rw [List.length_map] at this
  exact this
theorem due_0 {v s : Nat} (hv : 1 ≤ v) (hv4 : v ≤ 4) (hs : s ≤ 6) : op__law_due [.int (0 : Nat), .int v, .int s] = .ok (ansD "told" (lstB false v s)) [.int (0 : Nat), .int v, .int s] := due_0g (lbags_ok hv hv4 hs) rfl (frz_lstB _ v s) hv hv4 hs
theorem due_1 {v s : Nat} (hv : 1 ≤ v) (hv4 : v ≤ 4) (hs : s ≤ 6) : op__law_due [.int (1 : Nat), .int v, .int s] = .ok (ansD "told" (.int ((BL v s).length : Nat))) [.int (1 : Nat), .int v, .int s] := due_1g (lbags_ok hv hv4 hs) rfl (len_lstB _ v s) hv hv4 hs
theorem bagIn_BL {v s : Nat} (hv : 1 ≤ v) (hv4 : v ≤ 4) (hs : s ≤ 6) {b : List Int} (hb : b ∈ BL v s) : bagIn v (tuxD b) = true := by
  obtain ⟨hl, hi⟩ := BL_in hv hv4 hs b hb
  rw [bagIn, bagL_ints, BL_up hv hv4 hs b hb, Bool.and_true, decide_eq_true_eq, dI_length, hl]
  exact hs
theorem due_2g {v s : Nat} {Z T : D} {n : Int} (h : Th T) (o : oLen [T] = .ok (.int s) [T]) (hb : op__law_bags [.int v, .int s] = .ok Z [.int v, .int s]) (hz : isLst Z = true) (hi : oIndex [Z, T] = .ok (.int n) [Z, T]) (c : bagIn v T = true) (hv : 1 ≤ v) (hv4 : v ≤ 4) : op__law_due [.int (2 : Nat), .int v, T] = .ok (ansD "told" (.int n)) [.int (2 : Nat), .int v, T] := by
  have N := n1_ok (th_int v) h (.int (2 : Nat)) [.any, .any] 1 4
  rw [num14 hv hv4] at N
  have N2 := b2_ok h (.int (2 : Nat)) [.any, .any] v
  rw [c] at N2
  have L : mApp oLen [(.peek 2)] [.int (2 : Nat), .int v, T, .any, .any] = .ok (.int s) [.int (2 : Nat), .int v, T, .any, .any] := mApp_ok (e := [.int (2 : Nat), .int v, .any, .any, .any]) (evA_peek (d0 := T) rfl h.any evA_nil (d := T) rfl h.any) o
  have B := dfOp_ok hb rfl
  have M : mApp (dfOp op__law_bags []) [(.peek 1), (.val (mApp oLen [(.peek 2)]))] [.int (2 : Nat), .int v, T, .any, .any] = .ok Z [.int (2 : Nat), .int v, T, .any, .any] := mApp_ok (evA_peek (d0 := .int v) rfl rfl (evA_val L evA_nil) rfl rfl) B
  have M2 : mIs isLst (mApp (dfOp op__law_bags []) [(.peek 1), (.val (mApp oLen [(.peek 2)]))]) [.int (2 : Nat), .int v, T, .any, .any] = .ok Z [.int (2 : Nat), .int v, T, .any, .any] := by
    simp only [mIs, M, hz, if_true]
  have V : mVar 2 [.int (2 : Nat), .int v, T, .any, .any] = .ok T [.int (2 : Nat), .int v, T, .any, .any] := mVar_s (d := T) rfl h.any h.frz
  have R := mApp_ok (evA_val M2 (evA_val V evA_nil)) hi
  exact fnOp_rt (e := [.int (2 : Nat), .int v, T, .any, .any]) rfl (sSeq_rt (sIf_t (lt0 _ _ _) (sSeq_nx (sIf_f N rfl) (sSeq_nx (sIf_f (lt0 _ _ _) rfl) (sSeq_nx (sIf_f N2 rfl) (sRet_ok (mApp_ok (f := oLst) (evA_val (m := mC (.str "told")) rfl (evA_val R evA_nil)) rfl))))))) (by simp)
theorem due_2 {v s : Nat} (hv : 1 ≤ v) (hv4 : v ≤ 4) (hs : s ≤ 6) {b : List Int} (hb : b ∈ BL v s) : op__law_due [.int (2 : Nat), .int v, tuxD b] = .ok (ansD "told" (.int ((BL v s).idxOf b : Nat))) [.int (2 : Nat), .int v, tuxD b] := by
  obtain ⟨hl, hi⟩ := BL_in hv hv4 hs b hb
  have O : oLen [tuxD b] = .ok (.int s) [tuxD b] := by
    have := len_node (α := Nat) .tux (dI b) (dI b) rfl
    rw [dI_length, hl] at this
    exact this
  exact due_2g (th_tux (by omega)) O (lbags_ok hv hv4 hs) rfl (index_ok hb) (bagIn_BL hv hv4 hs hb) hv hv4
end Z

set_option Elab.async false
set_option linter.all false
set_option maxRecDepth 100000
set_option maxHeartbeats 4000000
namespace Z
open PySem PySem.Spec PyProof.Rows
open L2 StX
/-! ### what can be written out -/
def Rp (d : D) : Prop := ∃ p, d.sh = some p ∧ p.showable = true ∧ wt p ≤ 2000000 ∧ p.depth ≤ 20
def rpB (d : D) : Bool := match d.sh with
  | some p => p.showable && decide (wt p ≤ 2000000) && decide (p.depth ≤ 20)
  | none => false
theorem rp_of {d : D} (h : rpB d = true) : Rp d := by
  unfold rpB at h
  split at h
  · rename_i p e
    simp only [Bool.and_eq_true, decide_eq_true_eq] at h
    exact ⟨p, e, h.1.1, h.1.2, h.2⟩
  · cases h
theorem show_int {i : Int} (h : i.natAbs < 18446744073709551616) : (PyData.int i).showable = true := by
  rw [PyData.showable, decide_eq_true_eq]
  by_cases h0 : i.natAbs = 0
  · rw [h0]
    decide
  · have : i.natAbs.log2 < 64 := (Nat.log2_lt h0).mpr h
    omega
theorem rp_int {i : Int} (h : i.natAbs < 18446744073709551616) : Rp (.int i) := ⟨.int i, rfl, show_int h, by rw [wt]; decide, by rw [PyData.depth]; decide⟩
theorem shL_dI (l : List Int) : shL (dI l) = some (l.map .int) := by
  induction l with
  | nil => rw [dI_nil, shL]; rfl
  | cons x l ih =>
    rw [dI_cons, shL, ih]
    rfl
theorem show_ints {l : List Int} (h : ∀ x ∈ l, x.natAbs < 18446744073709551616) : PyData.showableAll (l.map .int) = true := by
  induction l with
  | nil => rfl
  | cons x l ih =>
    rw [List.map_cons, PyData.showableAll, ih fun y hy => h y (List.mem_cons_of_mem _ hy), show_int (h x (List.mem_cons_self ..))]
    rfl
theorem wt_ints (l : List Int) : wtL (l.map .int) = 1932 * l.length := by
  induction l with
  | nil => rfl
  | cons x l ih =>
    rw [List.map_cons, wtL, ih, wt, List.length_cons]
    omega
theorem rp_tux {l : List Int} (h : ∀ x ∈ l, x.natAbs < 18446744073709551616) (hl : l.length ≤ 1000) : Rp (tuxD l) :=
  ⟨.tuple (l.map .int), by rw [tuxD, D.sh, shL_dI]; rfl, by rw [PyData.showable, show_ints h], by rw [wt, wt_ints]; omega, by rw [PyData.depth, dep_ints]; decide⟩
theorem rp_lstB {v s : Nat} (h1 : 1 ≤ v) (h2 : v ≤ 4) (h3 : s ≤ 6) : Rp (lstB false v s) := rp_of (dom (P := fun v s => rpB (lstB false v s) = true) (by decide +kernel) h1 h2 h3)
theorem rp_pair {one other : D} (h1 : Rp one) (h2 : Rp other) : ∃ q, (D.node (.lst true) [one, other]).sh = some q ∧ canRepr q = true := by
  obtain ⟨p1, e1, a1, b1, c1⟩ := h1
  obtain ⟨p2, e2, a2, b2, c2⟩ := h2
  refine ⟨.list [p1, p2], ?_, ?_⟩
  · rw [D.sh, shL, shL, shL, e1, e2]
    rfl
  · unfold canRepr
    rw [PyData.showable, PyData.showableAll, PyData.showableAll, PyData.showableAll, a1, a2, wt, wtL, wtL, wtL, PyData.depth, PyData.depthAll, PyData.depthAll, PyData.depthAll]
    simp only [Bool.and_eq_true, decide_eq_true_eq, Bool.true_and]
    omega
theorem rp_str {k : Str} (h : wt (.str k) ≤ 100) : Rp (.str k) := ⟨.str k, rfl, by rw [PyData.showable], by omega, by rw [PyData.depth]; decide⟩

/-- one question: what is told is what is due -/
def QOk (w : Nat) (one other : D) : Prop := ∃ (k : Str) (it1 it2 : D), op__law_due [.int w, one, other] = .ok (ansD k it1) [.int w, one, other] ∧ (∀ n, op__law_told [.int w, one, other, .bl n] = .ok (ansD k it2) [.int w, one, other, .bl n]) ∧
  it1.sh = it2.sh ∧ Rp it1 ∧ wt (.str k) ≤ 100 ∧ ((∃ b, isiB "list" it2 = some (.bl b) ∧ (b = true → k ≠ "told")) ∨ (k = "told" ∧ ∃ ys, it2 = .node (.lst true) ys ∧ ys.length < 1000))
def isL : D → Bool
  | .node (.lst _) _ => true
  | _ => false
theorem isi_list {d : D} (h : tyB d = true) : isiB "list" d = some (.bl (isL d)) := by
  cases d with
  | any => cases h
  | non => kernel_rfl
  | bl c => kernel_rfl
  | str s => kernel_rfl
  | int i => kernel_rfl
  | node t xs =>
    cases t with
    | tux => kernel_rfl
    | lst o => cases o with
      | false => kernel_rfl
      | true => cases h
    | dk o ks => cases o with
      | false => kernel_rfl
      | true => cases h
    | _ => cases h
theorem numIn_nat {a b : Nat} {d : D} (h : numIn a b d = true) : ∃ v : Nat, d = .int v ∧ a ≤ v ∧ v ≤ b := by
  obtain ⟨i, rfl, h1, h2⟩ := numIn_inv h
  exact ⟨i.toNat, by rw [Int.toNat_of_nonneg (by omega)], by omega, by omega⟩
theorem qok {w : Nat} (hw : w ≤ 4) {one other : D} (h1 : Th one) (r1 : Rp one) (h2 : Th other) (r2 : Rp other) : QOk w one other := by
  have V1 : ∀ k : Str, k ≠ "told" → (∃ b, isiB "list" one = some (.bl b) ∧ (b = true → k ≠ "told")) := fun k hk => ⟨_, isi_list h1.ty, fun _ => hk⟩
  have V2 : ∀ k : Str, k ≠ "told" → (∃ b, isiB "list" other = some (.bl b) ∧ (b = true → k ≠ "told")) := fun k hk => ⟨_, isi_list h2.ty, fun _ => hk⟩
  have k1 : wt (.str "values") ≤ 100 := by decide +kernel
  have k2 : wt (.str "size") ≤ 100 := by decide +kernel
  have k3 : wt (.str "bag") ≤ 100 := by decide +kernel
  have k4 : wt (.str "value") ≤ 100 := by decide +kernel
  have k5 : wt (.str "absent") ≤ 100 := by decide +kernel
  have k6 : wt (.str "told") ≤ 100 := by decide +kernel
  by_cases hw3 : w < 3
  · cases c : numIn 1 4 one with
    | false =>
      have F : opOf w [one, other] = .exc "InvalidValues" ["given"] [one] [one, other] := by
        match w, hw3 with
        | 0, _ => exact bags_f1 h1 h2 c
        | 1, _ => exact cnt_f1 h1 h2 c
        | 2, _ => exact idx_f1 h1 h2 c
      exact ⟨"values", one, one, due_values h1 h2 hw3 c, fun n => told_ex h1 h2 hw F n pickV, rfl, r1, k1, .inl (V1 _ (by decide))⟩
    | true =>
      obtain ⟨v, rfl, hv, hv4⟩ := numIn_nat (a := 1) (b := 4) c
      by_cases hw2 : w < 2
      · cases c2 : numIn 0 6 other with
        | false =>
          have F : opOf w [.int v, other] = .exc "InvalidSize" ["given"] [other] [.int v, other] := by
            match w, hw2 with
            | 0, _ => exact bags_f2 h1 h2 c c2
            | 1, _ => exact cnt_f2 h1 h2 c c2
          exact ⟨"size", other, other, due_size h1 h2 hw2 c c2, fun n => told_ex h1 h2 hw F n pickS, rfl, r2, k2, .inl (V2 _ (by decide))⟩
        | true =>
          obtain ⟨s, rfl, _, hs⟩ := numIn_nat (a := 0) (b := 6) c2
          have hn := BL_len hv hv4 hs
          match w, hw2 with
          | 0, _ => exact ⟨"told", lstB false v s, lstB true v s, due_0 hv hv4 hs, fun n => told_ok (w := 0) h1 h2 (by omega) (bags_ok hv hv4 hs) n, rfl, rp_lstB hv hv4 hs, k6, .inr ⟨rfl, _, rfl, by rw [List.length_map]; omega⟩⟩
          | 1, _ => exact ⟨"told", .int ((BL v s).length : Nat), .int ((BL v s).length : Nat), due_1 hv hv4 hs, fun n => told_ok (w := 1) h1 h2 (by omega) (cbags_ok hv hv4 hs) n, rfl, rp_int (by omega), k6, .inl ⟨false, by kernel_rfl, nofun⟩⟩
      · have : w = 2 := by omega
        subst this
        cases c2 : bagIn v other with
        | false => exact ⟨"bag", other, other, due_bag2 h2 hv hv4 c2, fun n => told_ex (w := 2) h1 h2 (by omega) (idx_f2 h2 hv hv4 c2) n pickB, rfl, r2, k3, .inl (V2 _ (by decide))⟩
        | true =>
          obtain ⟨b, rfl, hl, hb⟩ := bagIn_inv c2
          have hn := BL_len hv hv4 hl
          have hi : (BL v b.length).idxOf b < 84 + 1 := by
            have := List.idxOf_le_length (a := b) (l := BL v b.length)
            omega
          exact ⟨"told", _, _, due_2 hv hv4 hl hb, fun n => told_ok (w := 2) h1 h2 (by omega) (idx_t hv hv4 hl hb) n, rfl, rp_int (by omega), k6, .inl ⟨false, by kernel_rfl, nofun⟩⟩
  · have hw3 : 3 ≤ w := by omega
    cases c : bagIn 4 one with
    | false =>
      have F : opOf w [one, other] = .exc "InvalidBag" ["given"] [one] [one, other] := by
        match w, hw3, hw with
        | 3, _, _ => exact add_f h1 h2 (cbv_f1 h1 h2 c)
        | 4, _, _ => exact rem_f h1 h2 (cbv_f1 h1 h2 c)
      exact ⟨"bag", one, one, due_bag1 h1 h2 hw3 c, fun n => told_ex h1 h2 hw F n pickB, rfl, r1, k3, .inl (V1 _ (by decide))⟩
    | true =>
      cases c2 : numIn 0 3 other with
      | false =>
        have F : opOf w [one, other] = .exc "InvalidValue" ["given"] [other] [one, other] := by
          match w, hw3, hw with
          | 3, _, _ => exact add_f h1 h2 (cbv_f2 h1 h2 c c2)
          | 4, _, _ => exact rem_f h1 h2 (cbv_f2 h1 h2 c c2)
        exact ⟨"value", other, other, due_value h1 h2 hw3 c c2, fun n => told_ex h1 h2 hw F n pickE, rfl, r2, k4, .inl (V2 _ (by decide))⟩
      | true =>
        obtain ⟨b, rfl, hl, hb⟩ := bagIn_inv (v := 4) c
        obtain ⟨x, rfl, hx0, hx3⟩ := numIn_inv c2
        have hin := (BL_in (v := 4) (by omega) (by omega) hl b hb).2
        have hs : ∀ y ∈ b, y.natAbs < 18446744073709551616 := fun y hy => by
          have := hin y hy
          omega
        match w, hw3, hw with
        | 3, _, _ =>
          refine ⟨"told", _, _, due3_ok hl b hb x hx0 hx3, fun n => told_ok (w := 3) h1 h2 (by omega) (added_ok hl b hb x hx0 hx3) n, rfl, rp_tux (fun y hy => ?_) ?_, k6, .inl ⟨false, by kernel_rfl, nofun⟩⟩
          · rcases List.mem_append.mp ((srtI_perm _).mem_iff.mp hy) with h | h
            · exact hs y h
            · rw [List.mem_singleton.mp h]
              omega
          · rw [srtI_len, List.length_append, List.length_singleton]
            omega
        | 4, _, _ =>
          have R := removed_ok hl b hb x hx0 hx3
          have Q := due4_ok hl b hb x hx0 hx3
          by_cases hc : b.contains x = true
          · rw [remD, if_pos hc] at R
            rw [remA, if_pos hc] at Q
            refine ⟨"told", _, _, Q, fun n => told_ok (w := 4) h1 h2 (by omega) R n, rfl, rp_tux (fun y hy => hs y (List.mem_of_mem_erase hy)) ?_, k6, .inl ⟨false, by kernel_rfl, nofun⟩⟩
            have := List.length_erase_le (a := x) (l := b)
            omega
          · rw [remD, if_neg hc] at R
            rw [remA, if_neg hc] at Q
            exact ⟨"absent", _, _, Q, fun n => told_ex (w := 4) h1 h2 (by omega) R n pickN, rfl, r2, k5, .inl ⟨false, by kernel_rfl, nofun⟩⟩
end Z

set_option Elab.async false
set_option linter.all false
set_option maxRecDepth 100000
set_option maxHeartbeats 4000000
namespace Z
open PySem PySem.Spec PyProof.Rows
open L2 StX
/-! ### draws in a run -/
theorem mVar_f {env : Env} {i : Nat} {d : D} (h : env[i]? = some d) (ha : d.isAny = false) : mVar i env = .ok d.frz (env.set i d.frz) := mVar_ok h (isAny_iff.mp ha)
theorem sPar_ok {is : List Nat} {ops : List Opd} {env e1 e2 : Env} {ds : List D} (h : evA ops env = .ok ds e1) (h2 : asgL (is.map .nm) ds e1 = some e2) : sPar is ops env = .nx e2 := by
  simp only [sPar, h, h2]
theorem takeA {k : Nat} {d : D} {m : Int} (h : Bx k d) (hk : k < 1000000) (hm : 0 < m) (hm2 : m < 1000000) :
    ∃ (r : Int) (d' : D), (∀ a : List D, mApp (dfOp op__law_take []) [(.peek 0), (.val (mC (.int m)))] (d :: a) = .ok (.int r) (d' :: a)) ∧ 0 ≤ r ∧ r < m ∧ Bx (k + 1) d' := by
  obtain ⟨r, d', h1, h2, h3, h4⟩ := take_ok h hk hm hm2
  refine ⟨r, d', fun a => ?_, h2, h3, h4⟩
  exact mApp_ok (e := .any :: a) (evA_peek (d0 := d) rfl h.node (evA_val (m := mC (.int m)) (e1 := d :: a) rfl evA_nil) rfl h.node) (dfOp_ok h1 rfl)
/-- .. of a value computed before -/
theorem takeV {k : Nat} {d : D} {m : Int} (h : Bx k d) (hk : k < 1000000) (hm : 0 < m) (hm2 : m < 1000000) :
    ∃ (r : Int) (d' : D), (∀ (a : List D) (mm : M), mm (d :: a) = .ok (.int m) (d :: a) → mApp (dfOp op__law_take []) [(.peek 0), (.val mm)] (d :: a) = .ok (.int r) (d' :: a)) ∧ 0 ≤ r ∧ r < m ∧ Bx (k + 1) d' := by
  obtain ⟨r, d', h1, h2, h3, h4⟩ := take_ok h hk hm hm2
  refine ⟨r, d', fun a mm hmm => ?_, h2, h3, h4⟩
  exact mApp_ok (e := .any :: a) (evA_peek (d0 := d) rfl h.node (evA_val hmm evA_nil) rfl h.node) (dfOp_ok h1 rfl)
theorem ix_frz {t : Tag} {xs : List D} {j : Nat} {c : D} (hs : D.seq (.node t xs) = some xs) (hx : xs[j]? = some c) : ∃ b, oIx [.node t xs, .int j] = .ok c.frz [b, .int j] ∧ b.isAny = false := by
  have hj : j < xs.length := (List.getElem?_eq_some_iff.mp hx).1
  simp only [oIx, hs, ixN_nat hj, hx]
  by_cases q : c.isFrz = true
  · rw [if_pos q, frz_id q]
    exact ⟨_, rfl, rfl⟩
  · rw [if_neg q]
    exact ⟨_, rfl, by rw [frz_node]; rfl⟩

theorem eqI_ok (i j : Int) : op2 (eqB false) [.int i, .int j] = .ok (.bl (decide (i = j))) [.int i, .int j] := by
  simp only [op2, eqB_int, Bool.bne_false]
/-! ### what is asked about -/
def thB (d : D) : Bool := tyB d && d.isFrz && (match d with
  | .node .tux xs => decide (xs.length ≤ 1000) && xs.all tyB
  | _ => true)
theorem th_of {d : D} (h : thB d = true) : Th d := by
  unfold thB at h
  rw [Bool.and_eq_true, Bool.and_eq_true] at h
  refine ⟨h.1.1, h.1.2, fun xs e => ?_⟩
  have h2 := h.2
  subst e
  simp only [Bool.and_eq_true, decide_eq_true_eq, List.all_eq_true] at h2
  exact h2
/-- good for asking -/
def Gd (d : D) : Prop := Th d ∧ Rp d
theorem gd_of {d : D} (h : (thB d && rpB d) = true) : Gd d := by
  rw [Bool.and_eq_true] at h
  exact ⟨th_of h.1, rp_of h.2⟩
theorem gd_int {i : Int} (h : i.natAbs < 18446744073709551616) : Gd (.int i) := ⟨th_int i, rp_int h⟩
/-- what may stand in a tuple that is asked about -/
def It (x : D) : Prop := tyB x = true ∧ x.isFrz = true ∧ ∃ p, x.sh = some p ∧ p.showable = true ∧ wt p ≤ 4000 ∧ p.depth ≤ 10
theorem it_int {i : Int} (h : i.natAbs < 18446744073709551616) : It (.int i) := ⟨rfl, isFrz_int i, .int i, rfl, show_int h, by rw [wt]; decide, by rw [PyData.depth]; decide⟩
theorem shL_its : ∀ (xs : List D), (∀ x ∈ xs, It x) → ∃ ps, shL xs = some ps ∧ PyData.showableAll ps = true ∧ wtL ps ≤ 4002 * xs.length ∧ PyData.depthAll ps ≤ 10
  | [], _ => ⟨[], by rw [shL], rfl, Nat.zero_le _, by rw [PyData.depthAll]; omega⟩
  | x :: xs, h => by
    obtain ⟨_, _, p, e1, a1, b1, c1⟩ := h x (List.mem_cons_self ..)
    obtain ⟨ps, e2, a2, b2, c2⟩ := shL_its xs fun y hy => h y (List.mem_cons_of_mem _ hy)
    refine ⟨p :: ps, by rw [shL, e1, e2], by rw [PyData.showableAll, a1, a2]; rfl, ?_, ?_⟩
    · rw [wtL, List.length_cons]
      omega
    · rw [PyData.depthAll]
      omega
theorem isFrzL_of {xs : List D} (h : ∀ x ∈ xs, x.isFrz = true) : isFrzL xs = true := by
  rw [isFrzL_all, List.all_eq_true]
  exact h
theorem gd_tux {xs : List D} (h : ∀ x ∈ xs, It x) (hl : xs.length ≤ 100) : Gd (.node .tux xs) := by
  obtain ⟨ps, e, a, b, c⟩ := shL_its xs h
  refine ⟨⟨rfl, isFrz_node rfl (isFrzL_of fun x hx => (h x hx).2.1), fun ys e => ?_⟩, .tuple ps, by rw [D.sh, e]; rfl, by rw [PyData.showable, a], by rw [wt]; omega, by rw [PyData.depth]; omega⟩
  injection e with _ e
  subst e
  exact ⟨by omega, fun x hx => (h x hx).1⟩
theorem gd_lst {xs : List D} (h : ∀ x ∈ xs, It x) (hl : xs.length ≤ 100) : Gd (.node (.lst false) xs) := by
  obtain ⟨ps, e, a, b, c⟩ := shL_its xs h
  exact ⟨⟨rfl, isFrz_node rfl (isFrzL_of fun x hx => (h x hx).2.1), nofun⟩, .list ps, by rw [D.sh, e]; rfl, by rw [PyData.showable, a], by rw [wt]; omega, by rw [PyData.depth]; omega⟩
theorem its_dI {l : List Int} (h : ∀ x ∈ l, 0 ≤ x ∧ x < 100) : ∀ x ∈ dI l, It x := fun x hx => by
  obtain ⟨i, hi, rfl⟩ := List.mem_map.mp hx
  have := h i hi
  exact it_int (by omega)

def menuL : List D := [.non, .bl true, .bl false, .int (-1), .int 10000000000000000000, .str "1", .str "", .node (.lst true) [], .node (.lst true) [.int 1], tuxD [1], tuxD [], .node (.dk true [.inr "a"]) [.int 1], tuxD [0, 0], .node .tux [tuxD [0]], .int 3, .int (-1000000000000000000)]
theorem menu_gd : ∀ j < 16, ∃ c, menuL[j]? = some c ∧ Gd c.frz := by
  have h : (List.range 16).all (fun j => match menuL[j]? with
    | some c => thB c.frz && rpB c.frz
    | none => false) = true := by decide +kernel
  intro j hj
  rw [List.all_eq_true] at h
  have q := h j (List.mem_range.mpr hj)
  split at q
  · rename_i c e
    exact ⟨c, e, gd_of q⟩
  · cases q
theorem odd_ok {k : Nat} {d : D} (h : Bx k d) (hk : k < 1000000) : ∃ r d', op__law_odd [d] = .ok r [d'] ∧ Gd r ∧ r.isFrz = true ∧ Bx (k + 1) d' := by
  obtain ⟨r, d', hr, r0, r1, hb⟩ := takeA h hk (m := 16) (by omega) (by omega)
  obtain ⟨c, hc, hg⟩ := menu_gd r.toNat (by omega)
  have er : ((r.toNat : Nat) : Int) = r := Int.toNat_of_nonneg r0
  obtain ⟨b, hx, ha⟩ := ix_frz (t := .lst true) rfl hc
  rw [er] at hx
  refine ⟨c.frz, d', ?_, hg, hg.1.fz, hb⟩
  have S : m__law_odd = sSeq (sAsg (.nm 1) (mApp oLst [(.val (mC .non)), (.val (mC (.bl true))), (.val (mC (.bl false))), (.val (mApp oNeg [(.val (mC (.int 1)))])), (.val (mApp oPow [(.val (mC (.int 10))), (.val (mC (.int 19)))])), (.val (mC (.str "1"))), (.val (mC (.str ""))), (.val (mApp oLst [])), (.val (mApp oLst [(.val (mC (.int 1)))])), (.val (mApp oTux [(.val (mC (.int 1)))])), (.val (mApp oTux [])), (.val (mApp oDict1 [(.val (mApp oLst [(.val (mApp oTux [(.val (mC (.str "a"))), (.val (mC (.int 1)))]))]))])), (.val (mApp oTux [(.val (mC (.int 0))), (.val (mC (.int 0)))])), (.val (mApp oTux [(.val (mApp oTux [(.val (mC (.int 0)))]))])), (.val (mC (.int 3))), (.val (mApp oNeg [(.val (mApp oPow [(.val (mC (.int 10))), (.val (mC (.int 18)))]))]))])) (sRet (mApp oIx [(.peek 1), (.val (mApp (dfOp op__law_take []) [(.peek 0), (.val (mC (.int 16)))]))])) := rfl
  have A : ∀ d : D, sAsg (.nm 1) (mApp oLst [(.val (mC .non)), (.val (mC (.bl true))), (.val (mC (.bl false))), (.val (mApp oNeg [(.val (mC (.int 1)))])), (.val (mApp oPow [(.val (mC (.int 10))), (.val (mC (.int 19)))])), (.val (mC (.str "1"))), (.val (mC (.str ""))), (.val (mApp oLst [])), (.val (mApp oLst [(.val (mC (.int 1)))])), (.val (mApp oTux [(.val (mC (.int 1)))])), (.val (mApp oTux [])), (.val (mApp oDict1 [(.val (mApp oLst [(.val (mApp oTux [(.val (mC (.str "a"))), (.val (mC (.int 1)))]))]))])), (.val (mApp oTux [(.val (mC (.int 0))), (.val (mC (.int 0)))])), (.val (mApp oTux [(.val (mApp oTux [(.val (mC (.int 0)))]))])), (.val (mC (.int 3))), (.val (mApp oNeg [(.val (mApp oPow [(.val (mC (.int 10))), (.val (mC (.int 18)))]))]))]) [d, .any] = .nx [d, .node (.lst true) menuL] := fun d => by kernel_rfl
  have I : mApp oIx [(.peek 1), (.val (mApp (dfOp op__law_take []) [(.peek 0), (.val (mC (.int 16)))]))] [d, .node (.lst true) menuL] = .ok c.frz [d', b] :=
    mApp_ok (e := [d', .any]) (evA_peek (d0 := .node (.lst true) menuL) rfl rfl (evA_val (hr [.node (.lst true) menuL]) evA_nil) rfl rfl) hx
  show fnOp 1 2 [0] m__law_odd [d] = _
  rw [S]
  exact fnOp_rt (e := [d', b]) rfl (sSeq_nx (A d) (sRet_ok I)) (by simp)
theorem number_ok {k : Nat} {d : D} (h : Bx k d) (hk : k < 900000) {lo hi : Nat} (h1 : lo ≤ hi) (h2 : hi ≤ 10) : ∃ r d', op__law_number [d, .int lo, .int hi] = .ok r [d', .int lo, .int hi] ∧ Gd r ∧ r.isFrz = true ∧ Bx (k + 2) d' := by
  obtain ⟨y, d1, hy, y0, y1, hb⟩ := takeA h (by omega) (m := 8) (by omega) (by omega)
  have S1 : sAsg (.nm 3) (mApp (dfOp op__law_take []) [(.peek 0), (.val (mC (.int 8)))]) [d, .int lo, .int hi, .any] = .nx [d1, .int lo, .int hi, .int y] := sAsg_ok (hy _) rfl
  have P3 : ∀ (x : Int) (e : D), evA [(.peek 3), (.val (mC (.int x)))] [e, .int lo, .int hi, .int y] = .ok [.int y, .int x] [e, .int lo, .int hi, .any] := fun x e => rfl
  have L : ∀ e : D, mApp oLt [(.peek 3), (.val (mC (.int 5)))] [e, .int lo, .int hi, .int y] = .ok (.bl (decide (y < 5))) [e, .int lo, .int hi, .int y] := fun e => mApp_ok (P3 5 e) (rfl : oLt [.int y, .int 5] = .ok (.bl (decide (y < 5))) [.int y, .int 5])
  have Q : ∀ e : D, mApp (op2 (eqB false)) [(.peek 3), (.val (mC (.int 5)))] [e, .int lo, .int hi, .int y] = .ok (.bl (decide (y = 5))) [e, .int lo, .int hi, .int y] := fun e => mApp_ok (P3 5 e) (eqI_ok y 5)
  by_cases c : y < 5
  · have L1 := L d1
    rw [decide_eq_true c] at L1
    obtain ⟨z, d2, hz, z0, z1, hb2⟩ := takeV hb (by omega) (m := (hi : Int) - lo + 1) (by omega) (by omega)
    have T := hz [.int lo, .int hi, .int y] (mApp oAdd [(.val (mApp oSub [(.val (mVar 2)), (.val (mVar 1))])), (.val (mC (.int 1)))]) rfl
    have R : mApp oAdd [(.val (mVar 1)), (.val (mApp (dfOp op__law_take []) [(.peek 0), (.val (mApp oAdd [(.val (mApp oSub [(.val (mVar 2)), (.val (mVar 1))])), (.val (mC (.int 1)))]))]))] [d1, .int lo, .int hi, .int y] = .ok (.int (lo + z)) [d2, .int lo, .int hi, .int y] :=
      mApp_ok (f := oAdd) (evA_val (m := mVar 1) (r := .int lo) (e1 := [d1, .int lo, .int hi, .int y]) rfl (evA_val T evA_nil)) rfl
    exact ⟨.int (lo + z), d2, fnOp_rt (e := [d2, .int lo, .int hi, .int y]) rfl (sSeq_nx S1 (sSeq_rt (sIf_t L1 (sRet_ok R)))) (by simp), gd_int (by omega), isFrz_int _, hb2⟩
  · have L1 := L d1
    rw [decide_eq_false c] at L1
    by_cases c5 : y = 5
    · have Q1 := Q d1
      rw [decide_eq_true c5] at Q1
      obtain ⟨z, d2, hz, z0, z1, hb2⟩ := takeA hb (by omega) (m := 2) (by omega) (by omega)
      have I := ix_int (t := .lst true) (l := [(lo : Int) - 1, (hi : Int) + 1]) (x := z) rfl z0 (by simpa using z1)
      have M := mApp_ok (evA_val (r := .node (.lst true) (dI [(lo : Int) - 1, (hi : Int) + 1])) (m := mApp oLst [(.val (mApp oSub [(.val (mVar 1)), (.val (mC (.int 1)))])), (.val (mApp oAdd [(.val (mVar 2)), (.val (mC (.int 1)))]))]) (env := [d1, .int lo, .int hi, .int y]) (e1 := [d1, .int lo, .int hi, .int y]) rfl (evA_val (hz [.int lo, .int hi, .int y]) evA_nil)) I
      refine ⟨_, d2, fnOp_rt (e := [d2, .int lo, .int hi, .int y]) rfl (sSeq_nx S1 (sSeq_nx (sIf_f L1 rfl) (sSeq_rt (sIf_t Q1 (sRet_ok M))))) (by simp), gd_int ?_, isFrz_int _, hb2⟩
      have : z = 0 ∨ z = 1 := by omega
      rcases this with rfl | rfl <;> simp <;> omega
    · have Q1 := Q d1
      rw [decide_eq_false c5] at Q1
      obtain ⟨r, d2, ho, hg, hf, hb2⟩ := odd_ok hb (by omega)
      have M : mApp (dfOp op__law_odd []) [(.peek 0)] [d1, .int lo, .int hi, .int y] = .ok r [d2, .int lo, .int hi, .int y] := mApp_ok (e := [.any, .int lo, .int hi, .int y]) (evA_peek (d0 := d1) rfl hb.node evA_nil (d := d1) rfl hb.node) (dfOp_ok ho rfl)
      exact ⟨r, d2, fnOp_rt (e := [d2, .int lo, .int hi, .int y]) rfl (sSeq_nx S1 (sSeq_nx (sIf_f L1 rfl) (sSeq_nx (sIf_f Q1 rfl) (sRet_ok M)))) (by simp), hg, hf, hb2⟩
end Z

set_option Elab.async false
set_option linter.all false
set_option maxRecDepth 100000
set_option maxHeartbeats 4000000
namespace Z
open PySem PySem.Spec PyProof.Rows
open L2 StX
theorem takeP {k : Nat} {d : D} {m : Int} (h : Bx k d) (hk : k < 1000000) (hm : 0 < m) (hm2 : m < 1000000) :
    ∃ (r : Int) (d' : D), (∀ a : List D, mApp (dfOp op__law_take []) [(.peek 0), (.peek 1)] (d :: .int m :: a) = .ok (.int r) (d' :: .int m :: a)) ∧ 0 ≤ r ∧ r < m ∧ Bx (k + 1) d' := by
  obtain ⟨r, d', h1, h2, h3, h4⟩ := take_ok h hk hm hm2
  refine ⟨r, d', fun a => ?_, h2, h3, h4⟩
  exact mApp_ok (e := .any :: .any :: a) (evA_peek (d0 := d) rfl h.node (e1 := d :: .any :: a) rfl rfl h.node) (dfOp_ok h1 rfl)
theorem range_at {n : Nat} {ys zs : List Nat} {x : Nat} (h : List.range n = ys ++ x :: zs) : x = ys.length ∧ x < n := by
  have h1 : (List.range n)[ys.length]? = some x := by rw [h]; simp
  rw [List.getElem?_range] at h1
  · injection h1 with h1
    subst h1
    refine ⟨rfl, ?_⟩
    have : (List.range n).length = n := List.length_range
    rw [h] at this
    simp at this
    omega
  · have : (List.range n).length = n := List.length_range
    rw [h] at this
    simp at this
    omega
theorem lawbag_ok {k : Nat} {d : D} (h : Bx k d) (hk : k < 900000) {v : Nat} (hv : 1 ≤ v) (hv4 : v ≤ 4) : ∃ b d', op__law_bag [d, .int v] = .ok (tuxD b) [d', .int v] ∧ b.length ≤ 6 ∧ (∀ x ∈ b, 0 ≤ x ∧ x < v) ∧ Bx (k + 7) d' := by
  obtain ⟨y, d1, hy, y0, y1, hb⟩ := takeA h (by omega) (m := 7) (by omega) (by omega)
  obtain ⟨n, rfl⟩ : ∃ n : Nat, y = n := ⟨y.toNat, (Int.toNat_of_nonneg y0).symm⟩
  have s := iRng_nat (n := n) (ops := [.val (mApp (dfOp op__law_take []) [(.peek 0), (.val (mC (.int 7)))])]) (evA_val (hy [.int v, .any]) evA_nil) (by omega)
  obtain ⟨acc, e', L, hl, d2, l, rfl, rfl, hlen, hall, hb2⟩ := loopC_inv (α := Nat) (t := .nm 2) (m := mApp (dfOp op__law_take []) [(.peek 0), (.peek 1)]) (vs := [2]) (tof := fun k : Nat => D.int (k : Int))
    (P := fun ys acc e => ∃ d' l, e = [d', .int v, .any] ∧ acc = dI l ∧ l.length = ys.length ∧ (∀ x ∈ l, 0 ≤ x ∧ x < (v : Int)) ∧ Bx (k + 1 + ys.length) d') (List.range n) (by simp; omega) (List.range n) [] [] [d1, .int v, .any] rfl rfl
    (fun ys x zs acc e hx ⟨d', l, he, ha, hlen, hall, hb⟩ => by
      subst he ha
      obtain ⟨rfl, hlt⟩ := range_at hx
      obtain ⟨r, d'', hr, r0, r1, hb'⟩ := takeP hb (by omega) (m := v) (by omega) (by omega)
      refine ⟨[d', .int v, .int (ys.length : Nat)], .int r, [d'', .int v, .int (ys.length : Nat)], rfl, hr _, d'', l ++ [r], rfl, by simp, by simp [hlen], ?_, ?_⟩
      · intro x hx
        rcases List.mem_append.mp hx with hx | hx
        · exact hall x hx
        · rw [List.mem_singleton.mp hx]
          exact ⟨r0, r1⟩
      · rw [List.length_append, List.length_singleton]
        exact hb')
    ⟨d1, [], rfl, rfl, rfl, by simp, hb⟩
  rw [List.length_range] at hlen hb2
  have M : mLc (iRng [.val (mApp (dfOp op__law_take []) [(.peek 0), (.val (mC (.int 7)))])]) (.nm 2) none (mApp (dfOp op__law_take []) [(.peek 0), (.peek 1)]) [2] [d, .int v, .any] = .ok (.node (.lst true) (dI l)) [d2, .int v, .any] := by
    unfold mLc
    rw [s]
    dsimp only
    rw [show anyAll [2] [d1, .int v, .any] = [d1, .int v, .any] from rfl, L]
    rfl
  have R := mApp_v1 (mApp_v1 M (sortedB_ok (t := .lst true) (l := l) rfl)) (tupleX_ok true (srtI l))
  refine ⟨srtI l, d2, fnOp_rt (e := [d2, .int v, .any]) rfl (sRet_ok R) (by simp), by rw [srtI_len]; omega, fun x hx => hall x ((srtI_perm l).mem_iff.mp hx), hb2.le (by omega)⟩

/-! ### something near a bag -/
theorem cut_dI (b : List Int) (lo hi : Option Int) : ∃ l, cutD (dI b) lo hi = dI l ∧ (∀ x ∈ l, x ∈ b) ∧ l.length ≤ b.length := by
  refine ⟨(b.drop (HT.sIx (dI b).length 0 lo)).take (HT.sIx (dI b).length (dI b).length hi - HT.sIx (dI b).length 0 lo), ?_, fun x hx => List.mem_of_mem_drop (List.mem_of_mem_take hx), ?_⟩
  · simp only [cutD, dI, List.map_take, List.map_drop]
  · simp only [List.length_take, List.length_drop]
    omega
theorem sl_tux (b : List Int) (lo hi : Option Int) : ∃ l, slD (tuxD b) lo hi = some (tuxD l) ∧ (∀ x ∈ l, x ∈ b) ∧ l.length ≤ b.length := by
  obtain ⟨l, h1, h2, h3⟩ := cut_dI b lo hi
  refine ⟨l, ?_, h2, h3⟩
  show some (D.node .tux (cutD (frzL (dI b)) lo hi)) = _
  rw [frzL_dI, h1]
theorem mSlice_from {m lo : M} {env e0 e1 : Env} {d r : D} {n : Int} (h : m env = .ok d e0) (hl : lo e0 = .ok (.int n) e1) (hs : slD d (some n) none = some r) : mSlice m (some lo) none env = .ok r e1 := by
  simp only [mSlice, h, evP, ptI, hl, hs]
def thingL (v : Int) : List D := [.int v, .int (-1), .non, .bl true, .str "0", tuxD [0], .bl false, .node (.lst true) [.int 0]]
theorem it_of {d : D} (h : (tyB d && d.isFrz && (match d.sh with
    | some p => p.showable && decide (wt p ≤ 4000) && decide (p.depth ≤ 10)
    | none => false)) = true) : It d := by
  rw [Bool.and_eq_true, Bool.and_eq_true] at h
  refine ⟨h.1.1, h.1.2, ?_⟩
  have h2 := h.2
  split at h2
  · rename_i p e
    simp only [Bool.and_eq_true, decide_eq_true_eq] at h2
    exact ⟨p, e, h2.1.1, h2.1.2, h2.2⟩
  · cases h2
theorem thing_it {v : Nat} (hv : v ≤ 4) : ∀ j < 8, ∃ c, (thingL v)[j]? = some c ∧ It c.frz := by
  intro j hj
  match j, hj with
  | 0, _ => exact ⟨_, rfl, it_int (by omega)⟩
  | 1, _ => exact ⟨_, rfl, it_of (by decide +kernel)⟩
  | 2, _ => exact ⟨_, rfl, it_of (by decide +kernel)⟩
  | 3, _ => exact ⟨_, rfl, it_of (by decide +kernel)⟩
  | 4, _ => exact ⟨_, rfl, it_of (by decide +kernel)⟩
  | 5, _ => exact ⟨_, rfl, it_of (by decide +kernel)⟩
  | 6, _ => exact ⟨_, rfl, it_of (by decide +kernel)⟩
  | 7, _ => exact ⟨_, rfl, it_of (by decide +kernel)⟩
theorem rep0 (k : Nat) : (List.replicate k [D.int 0]).flatten = dI (List.replicate k 0) := by
  induction k with
  | zero => rfl
  | succ k ih => rw [List.replicate_succ, List.flatten_cons, ih, List.replicate_succ]; rfl
theorem gd_tuxI {l : List Int} (h : ∀ x ∈ l, 0 ≤ x ∧ x < 100) (hl : l.length ≤ 100) : Gd (tuxD l) := gd_tux (its_dI h) (by rw [dI_length]; exact hl)
theorem near_ok {k : Nat} {d : D} (h : Bx k d) (hk : k < 800000) {v : Nat} (hv : 1 ≤ v) (hv4 : v ≤ 4) : ∃ r d', op__law_near [d, .int v] = .ok r [d', .int v] ∧ Gd r.frz ∧ Bx (k + 11) d' := by
  obtain ⟨y, d1, hy, y0, y1, hb1⟩ := takeA h (by omega) (m := 10) (by omega) (by omega)
  obtain ⟨b, d2, hbag, bl, bin, hb2⟩ := lawbag_ok hb1 (by omega) hv hv4
  have bin' : ∀ x ∈ b, 0 ≤ x ∧ x < 100 := fun x hx => by
    have := bin x hx
    omega
  have hB : mApp (dfOp op__law_bag []) [(.peek 0), (.peek 1)] [d1, .int v, .any, .any, .any, .any] = .ok (tuxD b) [d2, .int v, .any, .any, .any, .any] :=
    mApp_ok (e := [.any, .any, .any, .any, .any, .any]) (evA_peek (d0 := d1) rfl hb1.node (e1 := [d1, .any, .any, .any, .any, .any]) rfl rfl hb1.node) (dfOp_ok hbag rfl)
  have S1 : sPar [2, 3] [(.val (mApp (dfOp op__law_take []) [(.peek 0), (.val (mC (.int 10)))])), (.val (mApp (dfOp op__law_bag []) [(.peek 0), (.peek 1)]))] [d, .int v, .any, .any, .any, .any] = .nx [d2, .int v, .int y, tuxD b, .any, .any] :=
    sPar_ok (evA_val (hy _) (evA_val hB evA_nil)) rfl
  have Q : ∀ x : Int, mApp (op2 (eqB false)) [(.peek 2), (.val (mC (.int x)))] [d2, .int v, .int y, tuxD b, .any, .any] = .ok (.bl (decide (y = x))) [d2, .int v, .int y, tuxD b, .any, .any] := fun x => mApp_ok (e := [d2, .int v, .any, tuxD b, .any, .any]) rfl (eqI_ok y x)
  have V3 : mVar 3 [d2, .int v, .int y, tuxD b, .any, .any] = .ok (tuxD b) [d2, .int v, .int y, tuxD b, .any, .any] := mVar_s (d := tuxD b) rfl rfl (frz_tux b)
  have LI : mApp oList [(.peek 3)] [d2, .int v, .int y, tuxD b, .any, .any] = .ok (.node (.lst true) (dI b)) [d2, .int v, .int y, tuxD b, .any, .any] := mApp_ok (e := [d2, .int v, .int y, .any, .any, .any]) rfl (list_tux b)
  have LEN : ∀ d2 : D, mApp oLen [(.peek 3)] [d2, .int v, .int y, tuxD b, .any, .any] = .ok (.int (b.length : Nat)) [d2, .int v, .int y, tuxD b, .any, .any] := fun d2 => by
    have O := len_node (α := Nat) .tux (dI b) (dI b) rfl
    rw [dI_length] at O
    exact mApp_ok (e := [d2, .int v, .int y, .any, .any, .any]) rfl O
  by_cases c0 : y = 0
  · have Q0 := Q 0
    rw [decide_eq_true c0] at Q0
    refine ⟨_, d2, fnOp_rt (e := [d2, .int v, .int y, tuxD b, .any, .any]) rfl (sSeq_nx S1 (sSeq_rt (sIf_t Q0 (sRet_ok LI)))) (by simp), ?_, hb2.le (by omega)⟩
    rw [frz_node, frzL_dI]
    exact gd_lst (its_dI bin') (by rw [dI_length]; omega)
  have Q0 := Q 0
  rw [decide_eq_false c0] at Q0
  by_cases c1 : y = 1
  · have Q1 := Q 1
    rw [decide_eq_true c1] at Q1
    have R : mRevX (mVar 3) [d2, .int v, .int y, tuxD b, .any, .any] = .ok (tuxD b.reverse) [d2, .int v, .int y, tuxD b, .any, .any] := by
      simp only [mRevX, V3, frzL_dI]
      simp only [tuxD, dI, List.map_reverse]
    have G : Gd (tuxD b.reverse) := gd_tuxI (fun x hx => bin' x (List.mem_reverse.mp hx)) (by rw [List.length_reverse]; omega)
    refine ⟨_, d2, fnOp_rt (e := [d2, .int v, .int y, tuxD b, .any, .any]) rfl (sSeq_nx S1 (sSeq_nx (sIf_f Q0 rfl) (sSeq_rt (sIf_t Q1 (sRet_ok R))))) (by simp), ?_, hb2.le (by omega)⟩
    rw [frz_tux]
    exact G
  have Q1 := Q 1
  rw [decide_eq_false c1] at Q1
  by_cases c2 : y = 2
  · have Q2 := Q 2
    rw [decide_eq_true c2] at Q2
    have SU : mApp oSub [(.val (mC (.int 7))), (.val (mApp oLen [(.peek 3)]))] [d2, .int v, .int y, tuxD b, .any, .any] = .ok (.int (7 - (b.length : Nat))) [d2, .int v, .int y, tuxD b, .any, .any] := mApp_ok (f := oSub) (evA_val (m := mC (.int 7)) rfl (evA_val (LEN d2) evA_nil)) rfl
    have RP : oRep [.node (.lst true) [.int 0], .int (7 - (b.length : Nat))] = .ok (.node (.lst true) (dI (List.replicate (7 - b.length) 0))) [.any, .int (7 - (b.length : Nat))] := by
      have e : (7 - (b.length : Int)).toNat = 7 - b.length := by omega
      have cnd : isFrzL [D.int 0] = true ∧ (0 : Int) ≤ 7 - (b.length : Nat) ∧ (7 - (b.length : Nat) : Int) < 1000 ∧ [D.int 0].length < 1000 := ⟨rfl, by omega, by omega, by simp⟩
      simp only [oRep]
      rw [if_pos cnd, e, rep0]
    have MR : mApp oRep [(.val (mApp oLst [(.val (mC (.int 0)))])), (.val (mApp oSub [(.val (mC (.int 7))), (.val (mApp oLen [(.peek 3)]))]))] [d2, .int v, .int y, tuxD b, .any, .any] = .ok (.node (.lst true) (dI (List.replicate (7 - b.length) 0))) [d2, .int v, .int y, tuxD b, .any, .any] :=
      mApp_ok (f := oRep) (evA_val (m := mApp oLst [(.val (mC (.int 0)))]) (r := .node (.lst true) [.int 0]) rfl (evA_val SU evA_nil)) RP
    have CA : oCat [.node (.lst true) (dI (List.replicate (7 - b.length) 0)), .node (.lst true) (dI b)] = .ok (.node (.lst true) (dI (List.replicate (7 - b.length) 0 ++ b))) [.any, .any] := by
      simp only [oCat]
      rw [if_pos (by simp only [dI_length, List.length_replicate]; omega), frzL_dI, frzL_dI, dI_append]
    have MC := mApp_ok (f := oCat) (evA_val MR (evA_val LI evA_nil)) CA
    have R := mApp_v1 MC (tupleX_ok true (List.replicate (7 - b.length) 0 ++ b))
    refine ⟨_, d2, fnOp_rt (e := [d2, .int v, .int y, tuxD b, .any, .any]) rfl (sSeq_nx S1 (sSeq_nx (sIf_f Q0 rfl) (sSeq_nx (sIf_f Q1 rfl) (sSeq_rt (sIf_t Q2 (sRet_ok R)))))) (by simp), ?_, hb2.le (by omega)⟩
    rw [frz_tux]
    refine gd_tuxI (fun x hx => ?_) (by rw [List.length_append, List.length_replicate]; omega)
    rcases List.mem_append.mp hx with hx | hx
    · rw [(List.mem_replicate.mp hx).2]
      omega
    · exact bin' x hx
  have Q2 := Q 2
  rw [decide_eq_false c2] at Q2
  by_cases c3 : y = 3 ∧ b ≠ []
  · obtain ⟨c3, cb⟩ := c3
    have Q3 := Q 3
    rw [decide_eq_true c3] at Q3
    have NE : mApp (op2 (eqB true)) [(.peek 3), (.val (mApp oTux []))] [d2, .int v, .int y, tuxD b, .any, .any] = .ok (.bl true) [d2, .int v, .int y, tuxD b, .any, .any] := by
      have E : op2 (eqB true) [tuxD b, tuxD []] = .ok (.bl true) [tuxD b, tuxD []] := by
        simp only [op2, eqB_tux, decide_eq_false cb]
        rfl
      exact mApp_ok (e := [d2, .int v, .int y, .any, .any, .any]) rfl E
    obtain ⟨a, d3, ha, a0, a1, hb3⟩ := takeV hb2 (by omega) (m := (b.length : Nat)) (by
      have := List.length_pos_iff.mpr cb
      omega) (by omega)
    have S4 : sAsg (.nm 4) (mApp (dfOp op__law_take []) [(.peek 0), (.val (mApp oLen [(.peek 3)]))]) [d2, .int v, .int y, tuxD b, .any, .any] = .nx [d3, .int v, .int y, tuxD b, .int a, .any] := sAsg_ok (ha _ _ (LEN d2)) rfl
    obtain ⟨z, d4, hz, z0, z1, hb4⟩ := takeA hb3 (by omega) (m := 8) (by omega) (by omega)
    obtain ⟨c, hc, hci⟩ := thing_it hv4 z.toNat (by omega)
    obtain ⟨bb, hx, _⟩ := ix_frz (t := .lst true) rfl hc
    rw [Int.toNat_of_nonneg z0] at hx
    have TL : mApp oLst [(.val (mVar 1)), (.val (mApp oNeg [(.val (mC (.int 1)))])), (.val (mC .non)), (.val (mC (.bl true))), (.val (mC (.str "0"))), (.val (mApp oTux [(.val (mC (.int 0)))])), (.val (mC (.bl false))), (.val (mApp oLst [(.val (mC (.int 0)))]))] [d3, .int v, .int y, tuxD b, .int a, .any] = .ok (.node (.lst true) (thingL v)) [d3, .int v, .int y, tuxD b, .int a, .any] := rfl
    have S5 : sAsg (.nm 5) (mApp oIx [(.val (mApp oLst [(.val (mVar 1)), (.val (mApp oNeg [(.val (mC (.int 1)))])), (.val (mC .non)), (.val (mC (.bl true))), (.val (mC (.str "0"))), (.val (mApp oTux [(.val (mC (.int 0)))])), (.val (mC (.bl false))), (.val (mApp oLst [(.val (mC (.int 0)))]))])), (.val (mApp (dfOp op__law_take []) [(.peek 0), (.val (mC (.int 8)))]))]) [d3, .int v, .int y, tuxD b, .int a, .any] = .nx [d4, .int v, .int y, tuxD b, .int a, c.frz] :=
      sAsg_ok (mApp_ok (f := oIx) (evA_val TL (evA_val (hz [.int v, .int y, tuxD b, .int a, .any]) evA_nil)) hx) rfl
    generalize c.frz = t at S5 hci
    have tf : t.frz = t := frz_id hci.2.1
    have ta : t.isAny = false := tyB_any hci.1
    have W3 : mVar 3 [d4, .int v, .int y, tuxD b, .int a, t] = .ok (tuxD b) [d4, .int v, .int y, tuxD b, .int a, t] := mVar_s (d := tuxD b) rfl rfl (frz_tux b)
    have W5 : mVar 5 [d4, .int v, .int y, tuxD b, .int a, t] = .ok t [d4, .int v, .int y, tuxD b, .int a, t] := mVar_s (d := t) rfl ta tf
    obtain ⟨l1, e1, i1, n1⟩ := sl_tux b none (some a)
    obtain ⟨l2, e2, i2, n2⟩ := sl_tux b (some (a + 1)) none
    have M1 := mSlice_to (hi := mVar 4) W3 (n := a) rfl e1
    have M2 := mSlice_from (lo := mApp oAdd [(.val (mVar 4)), (.val (mC (.int 1)))]) W3 (n := a + 1) rfl e2
    have MT : mApp oTux [(.val (mVar 5))] [d4, .int v, .int y, tuxD b, .int a, t] = .ok (.node .tux [t]) [d4, .int v, .int y, tuxD b, .int a, t] := mApp_ok (f := oTux) (evA_val W5 evA_nil) rfl
    have C1 : oCatX [tuxD l1, .node .tux [t]] = .ok (.node .tux (dI l1 ++ [t])) [.any, .any] := by
      simp only [oCatX]
      rw [if_pos (by simp only [dI_length, List.length_singleton]; omega), frzL_dI, frzL_cons, frzL_nil, tf]
    have fr : frzL (dI l1 ++ [t]) = dI l1 ++ [t] := by
      rw [frzL_eq, List.map_append, ← frzL_eq, frzL_dI, List.map_singleton, tf]
    have C2 : oCatX [.node .tux (dI l1 ++ [t]), tuxD l2] = .ok (.node .tux ((dI l1 ++ [t]) ++ dI l2)) [.any, .any] := by
      simp only [oCatX]
      rw [if_pos (by simp only [dI_length, List.length_singleton, List.length_append]; omega), frzL_dI, fr]
    have R := mApp_ok (f := oCatX) (evA_val (mApp_ok (f := oCatX) (evA_val M1 (evA_val MT evA_nil)) C1) (evA_val M2 evA_nil)) C2
    have G : Gd (.node .tux ((dI l1 ++ [t]) ++ dI l2)) := gd_tux (fun x hx => by
      rcases List.mem_append.mp hx with hx | hx
      · rcases List.mem_append.mp hx with hx | hx
        · exact its_dI (fun y hy => bin' y (i1 y hy)) x hx
        · rw [List.mem_singleton.mp hx]
          exact hci
      · exact its_dI (fun y hy => bin' y (i2 y hy)) x hx) (by
      simp only [dI_length, List.length_singleton, List.length_append]
      omega)
    refine ⟨_, d4, fnOp_rt (e := [d4, .int v, .int y, tuxD b, .int a, t]) rfl (sSeq_nx S1 (sSeq_nx (sIf_f Q0 rfl) (sSeq_nx (sIf_f Q1 rfl) (sSeq_nx (sIf_f Q2 rfl) (sSeq_rt (sIf_t (mAnd_t Q3 NE) (sSeq_nx S4 (sSeq_nx S5 (sRet_ok R))))))))) (by simp), ?_, hb4.le (by omega)⟩
    rw [G.1.frz]
    exact G
  have C3 : mAnd (mApp (op2 (eqB false)) [(.peek 2), (.val (mC (.int 3)))]) (mApp (op2 (eqB true)) [(.peek 3), (.val (mApp oTux []))]) [d2, .int v, .int y, tuxD b, .any, .any] = .ok (.bl false) [d2, .int v, .int y, tuxD b, .any, .any] := by
    have Q3 := Q 3
    by_cases c : y = 3
    · rw [decide_eq_true c] at Q3
      have cb : b = [] := Classical.byContradiction fun q => c3 ⟨c, q⟩
      refine mAnd_t Q3 ?_
      subst cb
      have E : op2 (eqB true) [tuxD [], tuxD []] = .ok (.bl false) [tuxD [], tuxD []] := by
        simp only [op2, eqB_tux]
        rfl
      exact mApp_ok (e := [d2, .int v, .int y, .any, .any, .any]) rfl E
    · rw [decide_eq_false c] at Q3
      exact mAnd_f Q3
  by_cases c4 : y = 4
  · have Q4 := Q 4
    rw [decide_eq_true c4] at Q4
    obtain ⟨r, d3, ho, hg, hf, hb3⟩ := odd_ok hb2 (by omega)
    have M : mApp (dfOp op__law_odd []) [(.peek 0)] [d2, .int v, .int y, tuxD b, .any, .any] = .ok r [d3, .int v, .int y, tuxD b, .any, .any] := mApp_ok (e := [.any, .int v, .int y, tuxD b, .any, .any]) (evA_peek (d0 := d2) rfl hb2.node evA_nil (d := d2) rfl hb2.node) (dfOp_ok ho rfl)
    refine ⟨r, d3, fnOp_rt (e := [d3, .int v, .int y, tuxD b, .any, .any]) rfl (sSeq_nx S1 (sSeq_nx (sIf_f Q0 rfl) (sSeq_nx (sIf_f Q1 rfl) (sSeq_nx (sIf_f Q2 rfl) (sSeq_nx (sIf_f C3 rfl) (sRet_ok (mIf_t Q4 M))))))) (by simp), ?_, hb3.le (by omega)⟩
    rw [hg.1.frz]
    exact hg
  · have Q4 := Q 4
    rw [decide_eq_false c4] at Q4
    refine ⟨tuxD b, d2, fnOp_rt (e := [d2, .int v, .int y, tuxD b, .any, .any]) rfl (sSeq_nx S1 (sSeq_nx (sIf_f Q0 rfl) (sSeq_nx (sIf_f Q1 rfl) (sSeq_nx (sIf_f Q2 rfl) (sSeq_nx (sIf_f C3 rfl) (sRet_ok (mIf_f Q4 V3))))))) (by simp), ?_, hb2.le (by omega)⟩
    rw [frz_tux]
    exact gd_tuxI bin' (by omega)
end Z

set_option Elab.async false
set_option linter.all false
set_option maxRecDepth 100000
set_option maxHeartbeats 4000000
namespace Z
open PySem PySem.Spec PyProof.Rows
open L2 StX
theorem numA {k : Nat} {d : D} (h : Bx k d) (hk : k < 900000) {lo hi : Nat} (h1 : lo ≤ hi) (h2 : hi ≤ 10) : ∃ r d', (∀ a : List D, mApp (dfOp op__law_number []) [(.peek 0), (.val (mC (.int lo))), (.val (mC (.int hi)))] (d :: a) = .ok r (d' :: a)) ∧ Gd r ∧ Bx (k + 2) d' := by
  obtain ⟨r, d', hr, hg, _, hb⟩ := number_ok h hk h1 h2
  exact ⟨r, d', fun a => mApp_ok (e := .any :: a) (evA_peek (d0 := d) rfl h.node (e1 := d :: a) rfl rfl h.node) (dfOp_ok hr rfl), hg, hb⟩
/-- something near a bag of so many values, the number of values computed before -/
theorem nearA {k : Nat} {d : D} (h : Bx k d) (hk : k < 800000) {v : Nat} (hv : 1 ≤ v) (hv4 : v ≤ 4) : ∃ r d', (∀ (d0 : D) (a : List D) (mm : M), d0.isAny = false → mm (d0 :: a) = .ok (.int v) (d :: a) → mApp (dfOp op__law_near []) [(.peek 0), (.val mm)] (d0 :: a) = .ok r (d' :: a)) ∧ Gd r.frz ∧ Bx (k + 11) d' := by
  obtain ⟨r, d', hr, hg, hb⟩ := near_ok h hk hv hv4
  exact ⟨r, d', fun d0 a mm h0 hm => mApp_ok (e := .any :: a) (evA_peek (d0 := d0) rfl h0 (evA_val hm evA_nil) rfl h.node) (dfOp_ok hr rfl), hg, hb⟩
theorem question_ok {k : Nat} {d : D} (h : Bx k d) (hk : k < 700000) : ∃ (w : Nat) (one other d' : D), w ≤ 4 ∧ op__law_question [d] = .ok (.node (.lst true) [.int (w : Nat), one, other]) [d'] ∧ Gd one.frz ∧ Gd other.frz ∧ Bx (k + 20) d' := by
  obtain ⟨y, d1, hy, y0, y1, hb1⟩ := takeA h (by omega) (m := 5) (by omega) (by omega)
  obtain ⟨w, rfl⟩ : ∃ w : Nat, y = w := ⟨y.toNat, (Int.toNat_of_nonneg y0).symm⟩
  have S1 : sAsg (.nm 1) (mApp (dfOp op__law_take []) [(.peek 0), (.val (mC (.int 5)))]) [d, .any, .any, .any] = .nx [d1, .int w, .any, .any] := sAsg_ok (hy _) rfl
  have P1 : ∀ (x : Int), evA [(.peek 1), (.val (mC (.int x)))] [d1, .int w, .any, .any] = .ok [.int w, .int x] [d1, .any, .any, .any] := fun x => rfl
  have L : mApp oLt [(.peek 1), (.val (mC (.int 2)))] [d1, .int w, .any, .any] = .ok (.bl (decide ((w : Int) < 2))) [d1, .int w, .any, .any] := mApp_ok (P1 2) (rfl : oLt [.int w, .int 2] = .ok (.bl (decide ((w : Int) < 2))) [.int w, .int 2])
  have Q : mApp (op2 (eqB false)) [(.peek 1), (.val (mC (.int 2)))] [d1, .int w, .any, .any] = .ok (.bl (decide ((w : Int) = 2))) [d1, .int w, .any, .any] := mApp_ok (P1 2) (eqI_ok w 2)
  by_cases c : (w : Int) < 2
  · rw [decide_eq_true c] at L
    obtain ⟨r1, d2, h1, g1, hb2⟩ := numA hb1 (by omega) (lo := 1) (hi := 4) (by omega) (by omega)
    obtain ⟨r2, d3, h2, g2, hb3⟩ := numA hb2 (by omega) (lo := 0) (hi := 6) (by omega) (by omega)
    have V : mVar 1 [d1, .int w, .any, .any] = .ok (.int w) [d1, .int w, .any, .any] := rfl
    have R := mApp_ok (f := oLst) (evA_val V (evA_val (h1 [.int w, .any, .any]) (evA_val (h2 [.int w, .any, .any]) evA_nil))) (rfl : oLst [.int w, r1, r2] = .ok (.node (.lst true) [.int w, r1, r2]) [.any, .any, .any])
    refine ⟨w, r1, r2, d3, by omega, fnOp_rt (e := [d3, .int w, .any, .any]) rfl (sSeq_nx S1 (sSeq_rt (sIf_t L (sRet_ok R)))) (by simp), ?_, ?_, hb3.le (by omega)⟩
    · rw [g1.1.frz]
      exact g1
    · rw [g2.1.frz]
      exact g2
  rw [decide_eq_false c] at L
  by_cases c2 : (w : Int) = 2
  · rw [decide_eq_true c2] at Q
    obtain ⟨r1, d2, h1, g1, hb2⟩ := numA hb1 (by omega) (lo := 1) (hi := 4) (by omega) (by omega)
    have a1 := g1.1.any
    have S2 : sAsg (.nm 2) (mApp (dfOp op__law_number []) [(.peek 0), (.val (mC (.int 1))), (.val (mC (.int 4)))]) [d1, .int w, .any, .any] = .nx [d2, .int w, r1, .any] := sAsg_ok (h1 _) rfl
    have NU : mApp (dfOp op__law_is_number []) [(.peek 2), (.val (mC (.int 1))), (.val (mC (.int 4)))] [d2, .int w, r1, .any] = .ok (.bl (numIn 1 4 r1)) [d2, .int w, r1, .any] :=
      mApp_ok (e := [d2, .int w, .any, .any]) (evA_peek (d0 := r1) rfl a1 (e1 := [d2, .int w, r1, .any]) rfl (d := r1) rfl a1) (dfOp_ok (isnum_ok g1.1.ty 1 4) rfl)
    obtain ⟨m, hm1, hm4, S3⟩ : ∃ m : Nat, 1 ≤ m ∧ m ≤ 4 ∧ sAsg (.nm 3) (mIf (mApp (dfOp op__law_is_number []) [(.peek 2), (.val (mC (.int 1))), (.val (mC (.int 4)))]) (mVar 2) (mC (.int 3))) [d2, .int w, r1, .any] = .nx [d2, .int w, r1, .int m] := by
      cases q : numIn 1 4 r1 with
      | true =>
        rw [q] at NU
        obtain ⟨v, rfl, h1, h4⟩ := numIn_nat (a := 1) (b := 4) q
        exact ⟨v, h1, h4, sAsg_ok (mIf_t NU (mVar_s (d := .int v) rfl rfl rfl)) rfl⟩
      | false =>
        rw [q] at NU
        exact ⟨3, by omega, by omega, sAsg_ok (mIf_f NU rfl) rfl⟩
    have LT : mApp oLt [(.peek 3), (.val (mC (.int 4)))] [d2, .int w, r1, .int m] = .ok (.bl (decide ((m : Int) < 4))) [d2, .int w, r1, .int m] := mApp_ok (e := [d2, .int w, r1, .any]) rfl (rfl : oLt [.int m, .int 4] = .ok (.bl (decide ((m : Int) < 4))) [.int m, .int 4])
    obtain ⟨m', d3, hm1', hm4', MM, hb3⟩ : ∃ (m' : Nat) (d3 : D), 1 ≤ m' ∧ m' ≤ 4 ∧ mApp oAdd [(.val (mVar 3)), (.val (mApp (op1 intOf) [(.val (mAnd (mApp (oLt) [(.peek 3), (.val (mC (.int 4)))]) (mApp (op2 (eqB false)) [(.val (mApp (dfOp op__law_take []) [(.peek 0), (.val (mC (.int 6)))])), (.val (mC (.int 0)))])))]))] [d2, .int w, r1, .int m] = .ok (.int m') [d3, .int w, r1, .int m] ∧ Bx (k + 4) d3 := by
      have V3 : mVar 3 [d2, .int w, r1, .int m] = .ok (.int m) [d2, .int w, r1, .int m] := mVar_s (d := .int m) rfl rfl rfl
      by_cases q : (m : Int) < 4
      · rw [decide_eq_true q] at LT
        obtain ⟨z, d3, hz, z0, z1, hb3⟩ := takeA hb2 (by omega) (m := 6) (by omega) (by omega)
        have E := mApp_ok (f := op2 (eqB false)) (evA_val (hz [.int w, r1, .int m]) (evA_val (m := mC (.int 0)) rfl evA_nil)) (eqI_ok z 0)
        have I : op1 intOf [.bl (decide (z = 0))] = .ok (.int (if decide (z = 0) = true then 1 else 0)) [.bl (decide (z = 0))] := by
          cases decide (z = 0) <;> rfl
        have A := mApp_v1 (mAnd_t LT E) I
        have O : oAdd [.int m, .int (if decide (z = 0) = true then 1 else 0)] = .ok (.int ((m + (if decide (z = 0) = true then 1 else 0) : Nat) : Int)) [.int m, .int (if decide (z = 0) = true then 1 else 0)] := by
          cases decide (z = 0) <;> rfl
        refine ⟨m + (if decide (z = 0) = true then 1 else 0), d3, by omega, ?_, mApp_ok (f := oAdd) (evA_val V3 (evA_val A evA_nil)) O, hb3.le (by omega)⟩
        split <;> omega
      · rw [decide_eq_false q] at LT
        have A := mApp_v1 (f := op1 intOf) (mAnd_f (b := mApp (op2 (eqB false)) [(.val (mApp (dfOp op__law_take []) [(.peek 0), (.val (mC (.int 6)))])), (.val (mC (.int 0)))]) LT) (rfl : op1 intOf [.bl false] = .ok (.int 0) [.bl false])
        have O : oAdd [.int m, .int 0] = .ok (.int ((m + 0 : Nat) : Int)) [.int m, .int 0] := rfl
        exact ⟨m + 0, d2, by omega, by omega, mApp_ok (f := oAdd) (evA_val V3 (evA_val A evA_nil)) O, hb2.le (by omega)⟩
    obtain ⟨r2, d4, hn, g2, hb4⟩ := nearA hb3 (by omega) hm1' hm4'
    have NE := hn d2 [.int w, r1, .int m] _ hb2.node MM
    have V1 : mVar 1 [d2, .int w, r1, .int m] = .ok (.int w) [d2, .int w, r1, .int m] := rfl
    have V2 : mVar 2 [d2, .int w, r1, .int m] = .ok r1 [d2, .int w, r1, .int m] := mVar_s (d := r1) rfl a1 g1.1.frz
    have R := mApp_ok (f := oLst) (evA_val V1 (evA_val V2 (evA_val NE evA_nil))) (rfl : oLst [.int w, r1, r2] = .ok (.node (.lst true) [.int w, r1, r2]) [.any, .any, .any])
    refine ⟨w, r1, r2, d4, by omega, fnOp_rt (e := [d4, .int w, r1, .int m]) rfl (sSeq_nx S1 (sSeq_nx (sIf_f L rfl) (sSeq_rt (sIf_t Q (sSeq_nx S2 (sSeq_nx S3 (sRet_ok R))))))) (by simp), ?_, g2, hb4.le (by omega)⟩
    rw [g1.1.frz]
    exact g1
  · rw [decide_eq_false c2] at Q
    obtain ⟨r1, d2, hn, g1, hb2⟩ := nearA hb1 (by omega) (v := 4) (by omega) (by omega)
    have NE := hn d1 [.int w, .any, .any] (mC (.int 4)) hb1.node rfl
    obtain ⟨r2, d3, h2, g2, hb3⟩ := numA hb2 (by omega) (lo := 0) (hi := 3) (by omega) (by omega)
    have V : mVar 1 [d1, .int w, .any, .any] = .ok (.int w) [d1, .int w, .any, .any] := rfl
    have R := mApp_ok (f := oLst) (evA_val V (evA_val NE (evA_val (h2 [.int w, .any, .any]) evA_nil))) (rfl : oLst [.int w, r1, r2] = .ok (.node (.lst true) [.int w, r1, r2]) [.any, .any, .any])
    refine ⟨w, r1, r2, d3, by omega, fnOp_rt (e := [d3, .int w, .any, .any]) rfl (sSeq_nx S1 (sSeq_nx (sIf_f L rfl) (sSeq_nx (sIf_f Q rfl) (sRet_ok R)))) (by simp), g1, ?_, hb3.le (by omega)⟩
    rw [g2.1.frz]
    exact g2

/-! ### is a question answered right -/
theorem repr_ok {d : D} {p : PyData} (h : d.sh = some p) (c : canRepr p = true) : oRepr [d] = .ok (.str p.shown) [d] := by
  simp only [op1, h, Option.bind, if_pos c]
theorem eqS_ok (a : Str) : op2 (eqB false) [.str a, .str a] = .ok (.bl true) [.str a, .str a] := by
  simp only [op2, eqB_str, decide_true]
  rfl
theorem neS_ok (a : Str) : op2 (eqB true) [.str a, .str a] = .ok (.bl false) [.str a, .str a] := by
  simp only [op2, eqB_str, decide_true]
  rfl
theorem eqS_ok2 (a b : Str) : op2 (eqB false) [.str a, .str b] = .ok (.bl (decide (a = b))) [.str a, .str b] := by
  simp only [op2, eqB_str, Bool.bne_false]
theorem right_ok {k : Nat} {d : D} (h : Bx k d) (hk : k < 900000) {w : Nat} (hw : w ≤ 4) {one other : D} (g1 : Gd one) (g2 : Gd other) : ∃ d', op__law_answers_right [d, .node (.lst false) [.int w, one, other]] = .ok (.bl true) [d', .node (.lst false) [.int w, one, other]] ∧ Bx (k + 1) d' := by
  obtain ⟨kk, it1, it2, due, told, hsh, hrp, hk1, hls⟩ := qok hw g1.1 g1.2 g2.1 g2.2
  obtain ⟨y, d1, hy, y0, y1, hb1⟩ := takeA h (by omega) (m := 2) (by omega) (by omega)
  obtain ⟨p, e1, c1⟩ := rp_pair (rp_str hk1) hrp
  have e2 : (ansD kk it2).sh = some p := by
    rw [← e1]
    show D.sh (.node (.lst true) [.str kk, it2]) = D.sh (.node (.lst true) [.str kk, it1])
    simp only [D.sh, shL, hsh]
  obtain ⟨q, e3, c3⟩ := rp_pair g1.2 g2.2
  have RQ := repr_ok e3 c3
  have R1 := repr_ok e1 c1
  have R2 := repr_ok e2 c1
  generalize p.shown = P at R1 R2
  generalize q.shown = K at RQ
  have a1 := g1.1.any
  have a2 := g2.1.any
  have f1 := g1.1.frz
  have f2 := g2.1.frz
  have hq : (D.node (.lst false) [.int w, one, other]).frz = .node (.lst false) [.int w, one, other] := by
    simp only [frz_node, Tag.frz, frzL_cons, frzL_nil, frz_int, f1, f2]
  have aN : (ansD kk it2).isAny = false := rfl
  let E (d x f a b c p n : D) : Env := [d, .node (.lst false) [.int w, one, other], x, f, a, b, c, p, n]
  have S1 : sUnl [(.nm 4), (.nm 5), (.nm 6)] (mVar 1) (E d .any .any .any .any .any .any .any) = .nx (E d .any .any (.int w) one other .any .any) := by
    have V : mVar 1 (E d .any .any .any .any .any .any .any) = .ok (.node (.lst false) [.int w, one, other]) (E d .any .any .any .any .any .any .any) := mVar_s (d := .node (.lst false) [.int w, one, other]) rfl rfl hq
    unfold sUnl
    rw [V]
    rfl
  have P3 : ∀ d x f p n, evA [(.peek 4), (.peek 5), (.peek 6)] (E d x f (.int w) one other p n) = .ok [.int w, one, other] (E d x f .any .any .any p n) := fun d x f p n => evA_peek (d0 := .int w) rfl rfl (evA_peek (d0 := one) rfl a1 (evA_peek (d0 := other) rfl a2 evA_nil (d := other) rfl a2) rfl a1) rfl rfl
  have DU : ∀ d x f p n, mApp (dfOp op__law_due []) [(.peek 4), (.peek 5), (.peek 6)] (E d x f (.int w) one other p n) = .ok (ansD kk it1) (E d x f (.int w) one other p n) := fun d x f p n => mApp_ok (P3 d x f p n) (dfOp_ok due rfl)
  have M1 := mApp_v1 (DU d .any .any .any .any) R1
  have M2 := mApp_ok (f := op2 (eqB false)) (evA_val (hy [.node (.lst false) [.int w, one, other], .any, .any, .int w, one, other, .any, .any]) (evA_val (m := mC (.int 0)) rfl evA_nil)) (eqI_ok y 0)
  have S2 : sPar [7, 8] [(.val (mApp oRepr [(.val (mApp (dfOp op__law_due []) [(.peek 4), (.peek 5), (.peek 6)]))])), (.val (mApp (op2 (eqB false)) [(.val (mApp (dfOp op__law_take []) [(.peek 0), (.val (mC (.int 2)))])), (.val (mC (.int 0)))]))] (E d .any .any (.int w) one other .any .any) = .nx (E d1 .any .any (.int w) one other (.str P) (.bl (decide (y = 0)))) :=
    sPar_ok (evA_val M1 (evA_val M2 evA_nil)) rfl
  generalize decide (y = 0) = n at S2
  have PL : ∀ d x f p n, mApp oLst [(.val (mVar 5)), (.val (mVar 6))] (E d x f (.int w) one other p n) = .ok (.node (.lst true) [one, other]) (E d x f (.int w) one other p n) := fun d x f p n =>
    mApp_ok (f := oLst) (evA_val (mVar_s (d := one) rfl a1 f1) (evA_val (mVar_s (d := other) rfl a2 f2) evA_nil)) rfl
  have KP : ∀ d x f p n, mApp oRepr [(.val (mApp oLst [(.val (mVar 5)), (.val (mVar 6))]))] (E d x f (.int w) one other p n) = .ok (.str K) (E d x f (.int w) one other p n) := fun d x f p n => mApp_v1 (PL d x f p n) RQ
  have S3 : sAsg (.nm 2) (mApp oRepr [(.val (mApp oLst [(.val (mVar 5)), (.val (mVar 6))]))]) (E d1 .any .any (.int w) one other (.str P) (.bl n)) = .nx (E d1 (.str K) .any (.int w) one other (.str P) (.bl n)) := sAsg_ok (KP _ _ _ _ _) rfl
  have S4 : sAsg (.nm 3) (mApp (dfOp op__law_told []) [(.peek 4), (.peek 5), (.peek 6), (.peek 8)]) (E d1 (.str K) .any (.int w) one other (.str P) (.bl n)) = .nx (E d1 (.str K) (ansD kk it2) (.int w) one other (.str P) (.bl n)) := by
    have P4 : evA [(.peek 4), (.peek 5), (.peek 6), (.peek 8)] (E d1 (.str K) .any (.int w) one other (.str P) (.bl n)) = .ok [.int w, one, other, .bl n] (E d1 (.str K) .any .any .any .any (.str P) .any) := evA_peek (d0 := .int w) rfl rfl (evA_peek (d0 := one) rfl a1 (evA_peek (d0 := other) rfl a2 (e1 := E d1 (.str K) .any (.int w) one other (.str P) .any) rfl (d := other) rfl a2) rfl a1) rfl rfl
    exact sAsg_ok (mApp_ok P4 (dfOp_ok (told n) rfl)) rfl
  have C1 : mApp (op2 (eqB true)) [(.val (mApp oRepr [(.peek 3)])), (.peek 7)] (E d1 (.str K) (ansD kk it2) (.int w) one other (.str P) (.bl n)) = .ok (.bl false) (E d1 (.str K) (ansD kk it2) (.int w) one other (.str P) (.bl n)) := by
    have A : mApp oRepr [(.peek 3)] (E d1 (.str K) (ansD kk it2) (.int w) one other (.str P) (.bl n)) = .ok (.str P) (E d1 (.str K) (ansD kk it2) (.int w) one other (.str P) (.bl n)) := mApp_ok (e := E d1 (.str K) .any (.int w) one other (.str P) (.bl n)) rfl R2
    exact mApp_ok (e := E d1 (.str K) (ansD kk it2) (.int w) one other .any (.bl n)) (evA_val A rfl) (neS_ok P)
  have C2 : mApp (op2 (eqB true)) [(.val (mApp oRepr [(.val (mApp oLst [(.val (mVar 5)), (.val (mVar 6))]))])), (.peek 2)] (E d1 (.str K) (ansD kk it2) (.int w) one other (.str P) (.bl n)) = .ok (.bl false) (E d1 (.str K) (ansD kk it2) (.int w) one other (.str P) (.bl n)) :=
    mApp_ok (e := E d1 .any (ansD kk it2) (.int w) one other (.str P) (.bl n)) (evA_val (KP _ _ _ _ _) rfl) (neS_ok K)
  have I0 : mApp (op2 (eqB false)) [(.val (mApp oIx [(.peek 3), (.val (mC (.int 0)))])), (.val (mC (.str "told")))] (E d1 (.str K) (ansD kk it2) (.int w) one other (.str P) (.bl n)) = .ok (.bl (decide (kk = "told"))) (E d1 (.str K) (ansD kk it2) (.int w) one other (.str P) (.bl n)) := by
    have O : oIx [ansD kk it2, .int 0] = .ok (.str kk) [ansD kk it2, .int 0] := ix_ok rfl rfl rfl (by rw [D.isFrz]; nofun)
    have A : mApp oIx [(.peek 3), (.val (mC (.int 0)))] (E d1 (.str K) (ansD kk it2) (.int w) one other (.str P) (.bl n)) = .ok (.str kk) (E d1 (.str K) (ansD kk it2) (.int w) one other (.str P) (.bl n)) := mApp_ok (e := E d1 (.str K) .any (.int w) one other (.str P) (.bl n)) rfl O
    exact mApp_ok (f := op2 (eqB false)) (evA_val A (evA_val (m := mC (.str "told")) rfl evA_nil)) (eqS_ok2 kk "told")
  have IS : ∀ b, isiB "list" it2 = some (.bl b) → mIsiSub 3 1 "list" (E d1 (.str K) (ansD kk it2) (.int w) one other (.str P) (.bl n)) = .ok (.bl b) (E d1 (.str K) (ansD kk it2) (.int w) one other (.str P) (.bl n)) := fun b hb => by
    show (match isiB "list" it2 with
      | some r => Res.ok r _
      | none => Res.bad) = _
    rw [hb]
  have TD : ∀ f, f.isAny = false → mApp (op2 (eqB false)) [(.val (mApp oRepr [(.val (mApp (dfOp op__law_told []) [(.peek 4), (.peek 5), (.peek 6), (.val (mNot (mVar 8)))]))])), (.peek 7)] (E d1 (.str K) f (.int w) one other (.str P) (.bl n)) = .ok (.bl true) (E d1 (.str K) f (.int w) one other (.str P) (.bl n)) := fun f hf => by
    have N : mNot (mVar 8) (E d1 (.str K) f (.int w) one other (.str P) (.bl n)) = .ok (.bl (!n)) (E d1 (.str K) f (.int w) one other (.str P) (.bl n)) := mNot_ok (b := n) rfl
    have P4 : evA [(.peek 4), (.peek 5), (.peek 6), (.val (mNot (mVar 8)))] (E d1 (.str K) f (.int w) one other (.str P) (.bl n)) = .ok [.int w, one, other, .bl (!n)] (E d1 (.str K) f .any .any .any (.str P) (.bl n)) := evA_peek (d0 := .int w) rfl rfl (evA_peek (d0 := one) rfl a1 (evA_peek (d0 := other) rfl a2 (evA_val N evA_nil) (d := other) rfl a2) rfl a1) rfl rfl
    have A := mApp_v1 (mApp_ok P4 (dfOp_ok (told (!n)) rfl)) R2
    exact mApp_ok (e := E d1 (.str K) f (.int w) one other .any (.bl n)) (evA_val A rfl) (eqS_ok P)
  have fin : ∀ f, f.isAny = false → sIf (mAnd (mIsiSub 3 1 "list") (mApp (op2 (eqB false)) [(.val (mApp oIx [(.peek 3), (.val (mC (.int 0)))])), (.val (mC (.str "told")))])) (sDrop (mAppSub 3 1 .non)) sNext (E d1 (.str K) (ansD kk it2) (.int w) one other (.str P) (.bl n)) = .nx (E d1 (.str K) f (.int w) one other (.str P) (.bl n)) →
      op__law_answers_right [d, .node (.lst false) [.int w, one, other]] = .ok (.bl true) [d1, .node (.lst false) [.int w, one, other]] := fun f hf S6 =>
    fnOp_rt (e := E d1 (.str K) f (.int w) one other (.str P) (.bl n)) rfl (sSeq_nx S1 (sSeq_nx S2 (sSeq_nx S3 (sSeq_nx S4 (sSeq_nx (sIf_f (mOr_f C1 C2) rfl) (sSeq_nx S6 (sRet_ok (TD f hf)))))))) (by simp [E])
  refine ⟨d1, ?_, hb1⟩
  rcases hls with ⟨b, hb, hne⟩ | ⟨hk, ys, hys, hl⟩
  · refine fin (ansD kk it2) rfl ?_
    cases b with
    | false => exact sIf_f (mAnd_f (IS _ hb)) rfl
    | true =>
      rw [decide_eq_false (hne rfl)] at I0
      exact sIf_f (mAnd_t (IS _ hb) I0) rfl
  · have hb : isiB "list" it2 = some (.bl true) := by
      rw [hys]
      kernel_rfl
    rw [decide_eq_true hk] at I0
    refine fin (ansD kk (.node (.lst true) (ys ++ [.non]))) rfl (sIf_t (mAnd_t (IS _ hb) I0) (sDrop_ok (r := .non) ?_))
    show mAppSub 3 1 .non (E d1 (.str K) (ansD kk it2) (.int w) one other (.str P) (.bl n)) = _
    rw [hys]
    show (if ys.length < 100000 then Res.ok _ _ else Res.bad) = _
    rw [if_pos (by omega)]
    rfl
end Z

set_option Elab.async false
set_option linter.all false
set_option maxRecDepth 100000
set_option maxHeartbeats 4000000
namespace Z
open PySem PySem.Spec PyProof.Rows
open L2 StX
theorem BL_four {v s : Nat} (h1 : 1 ≤ v) (h2 : v ≤ 4) (h3 : s ≤ 6) : ∀ b ∈ BL v s, b ∈ BL 4 s := dom (P := fun v s => ∀ b ∈ BL v s, b ∈ BL 4 s) (by decide +kernel) h1 h2 h3
theorem BL_idx {v s : Nat} (h1 : 1 ≤ v) (h2 : v ≤ 4) (h3 : s ≤ 6) : ∀ j < (BL v s).length, (BL v s).idxOf ((BL v s)[j]?.getD []) = j := dom (P := fun v s => ∀ j < (BL v s).length, (BL v s).idxOf ((BL v s)[j]?.getD []) = j) (by decide +kernel) h1 h2 h3
theorem BL_back {s : Nat} (h3 : s ≤ 5) : ∀ b ∈ BL 4 s, ∀ x ∈ ([0, 1, 2, 3] : List Int), srtI (b ++ [x]) ∈ BL 4 (s + 1) ∧ (srtI (b ++ [x])).contains x = true ∧ (srtI (b ++ [x])).erase x = b := by
  have h : ∀ s ∈ [0, 1, 2, 3, 4, 5], ∀ b ∈ BL 4 s, ∀ x ∈ ([0, 1, 2, 3] : List Int), srtI (b ++ [x]) ∈ BL 4 (s + 1) ∧ (srtI (b ++ [x])).contains x = true ∧ (srtI (b ++ [x])).erase x = b := by decide +kernel
  exact h s (by simp; omega)
theorem rp_can {d : D} (h : Rp d) : ∃ P, ∀ d' : D, d'.sh = d.sh → oRepr [d'] = .ok (.str P) [d'] := by
  obtain ⟨p, e, a, b, c⟩ := h
  refine ⟨p.shown, fun d' hd => repr_ok (hd.trans e) ?_⟩
  unfold canRepr
  rw [a]
  simp only [Bool.and_eq_true, decide_eq_true_eq, Bool.true_and]
  omega

abbrev bTB : S := (sSeq (sPar [6, 7] [(.val (mApp oIx [(.val (mApp oLst [(.val (mC (.int 0))), (.val (mApp oSub [(.val (mApp oLen [(.peek 3)])), (.val (mC (.int 1)))])), (.val (mApp (dfOp op__law_take []) [(.peek 0), (.val (mApp oLen [(.peek 3)]))]))])), (.val (mApp oMod [(.val (mVar 4)), (.val (mC (.int 3)))]))])), (.val (mApp (dfOp op__law_take []) [(.peek 0), (.val (mC (.int 4)))]))]) (sSeq (sAsg (.nm 5) (mApp (dfOp op_added []) [(.val (mApp oIx [(.peek 3), (.peek 6)])), (.peek 7)])) (sSeq (sIf (mOr (mApp (op2 (eqB true)) [(.val (mApp oRepr [(.val (mApp (dfOp op_bag_index []) [(.peek 1), (.val (mApp oIx [(.peek 3), (.peek 6)]))]))])), (.val (mApp oRepr [(.peek 6)]))]) (mApp (op2 (eqB true)) [(.val (mApp oRepr [(.peek 5)])), (.val (mApp oRepr [(.val (mApp oTupleX [(.val (mApp oSortedB [(.val (mApp oCat [(.val (mApp oList [(.val (mApp oIx [(.peek 3), (.peek 6)]))])), (.val (mApp oLst [(.val (mVar 7))]))]))]))]))]))])) (sRet (mC (.bl false))) sNext) (sIf (mAnd (mApp (oLt) [(.peek 2), (.val (mC (.int 6)))]) (mApp (op2 (eqB true)) [(.val (mApp (dfOp op_removed []) [(.peek 5), (.peek 7)])), (.val (mApp oIx [(.peek 3), (.peek 6)]))])) (sRet (mC (.bl false))) sNext))))
/-- one turn; F: the bags -/
theorem turn_ok {k : Nat} {d : D} (h : Bx k d) (hk : k < 900000) {v s : Nat} (hv : 1 ≤ v) (hv4 : v ≤ 4) (hs : s ≤ 6) {F : D} (aF : F.isAny = false) (lF : oLen [F] = .ok (.int ((BL v s).length : Nat)) [F])
    (iF : ∀ j < (BL v s).length, oIx [F, .int (j : Nat)] = .ok (tuxD ((BL v s)[j]?.getD [])) [F, .int (j : Nat)]) {t : Nat} (ht : t < 4) (m a x : D) :
    ∃ d' m' a' x', bTB [d, .int v, .int s, F, .int (t : Nat), m, a, x] = .nx [d', .int v, .int s, F, .int (t : Nat), m', a', x'] ∧ Bx (k + 2) d' := by
  have hn := BL_len hv hv4 hs
  obtain ⟨r, d1, hr, r0, r1, hb1⟩ := takeV h (by omega) (m := ((BL v s).length : Nat)) (by omega) (by omega)
  obtain ⟨y, d2, hy, y0, y1, hb2⟩ := takeA hb1 (by omega) (m := 4) (by omega) (by omega)
  have LEN : ∀ d t m a x, mApp oLen [(.peek 3)] [d, .int v, .int s, F, t, m, a, x] = .ok (.int ((BL v s).length : Nat)) [d, .int v, .int s, F, t, m, a, x] := fun d t m a x => mApp_ok (evA_peek (d0 := F) rfl aF evA_nil (d := F) rfl aF) lF
  have T1 := hr [.int v, .int s, F, .int (t : Nat), m, a, x] _ (LEN d (.int (t : Nat)) m a x)
  have SU : mApp oSub [(.val (mApp oLen [(.peek 3)])), (.val (mC (.int 1)))] [d, .int v, .int s, F, .int (t : Nat), m, a, x] = .ok (.int (((BL v s).length : Nat) - 1)) [d, .int v, .int s, F, .int (t : Nat), m, a, x] := mApp_ok (f := oSub) (evA_val (LEN d (.int (t : Nat)) m a x) (evA_val (m := mC (.int 1)) rfl evA_nil)) rfl
  have LS : mApp oLst [(.val (mC (.int 0))), (.val (mApp oSub [(.val (mApp oLen [(.peek 3)])), (.val (mC (.int 1)))])), (.val (mApp (dfOp op__law_take []) [(.peek 0), (.val (mApp oLen [(.peek 3)]))]))] [d, .int v, .int s, F, .int (t : Nat), m, a, x] = .ok (.node (.lst true) (dI [0, ((BL v s).length : Nat) - 1, r])) [d1, .int v, .int s, F, .int (t : Nat), m, a, x] :=
    mApp_ok (f := oLst) (evA_val (m := mC (.int 0)) rfl (evA_val SU (evA_val T1 evA_nil))) rfl
  have MO : mApp oMod [(.val (mVar 4)), (.val (mC (.int 3)))] [d1, .int v, .int s, F, .int (t : Nat), m, a, x] = .ok (.int ((t : Int).fmod 3)) [d1, .int v, .int s, F, .int (t : Nat), m, a, x] := by
    have O : oMod [.int (t : Nat), .int 3] = .ok (.int ((t : Int).fmod 3)) [.int (t : Nat), .int 3] := by
      simp only [op2, onInt, if_pos (show (3 : Int) ≠ 0 by omega)]
    exact mApp_ok (f := oMod) (evA_val (m := mVar 4) (r := .int (t : Nat)) rfl (evA_val (m := mC (.int 3)) rfl evA_nil)) O
  have q0 := fmod_nn (a := (t : Int)) (m := 3) (by omega)
  have q1 := fmod_lt (a := (t : Int)) (m := 3) (by omega)
  generalize (t : Int).fmod 3 = q at MO q0 q1
  have IX := ix_int (t := .lst true) (l := [0, ((BL v s).length : Nat) - 1, r]) (x := q) rfl q0 (by simpa using q1)
  obtain ⟨j, hj, ej⟩ : ∃ j : Nat, j < (BL v s).length ∧ ([0, ((BL v s).length : Nat) - 1, r] : List Int)[q.toNat]?.getD 0 = j := by
    have : q = 0 ∨ q = 1 ∨ q = 2 := by omega
    rcases this with rfl | rfl | rfl
    · exact ⟨0, by omega, rfl⟩
    · exact ⟨(BL v s).length - 1, by omega, by show ((BL v s).length : Int) - 1 = _; omega⟩
    · exact ⟨r.toNat, by omega, by show r = _; omega⟩
  rw [ej] at IX
  have A1 := mApp_ok (f := oIx) (evA_val LS (evA_val MO evA_nil)) IX
  have S1 : sPar [6, 7] [(.val (mApp oIx [(.val (mApp oLst [(.val (mC (.int 0))), (.val (mApp oSub [(.val (mApp oLen [(.peek 3)])), (.val (mC (.int 1)))])), (.val (mApp (dfOp op__law_take []) [(.peek 0), (.val (mApp oLen [(.peek 3)]))]))])), (.val (mApp oMod [(.val (mVar 4)), (.val (mC (.int 3)))]))])), (.val (mApp (dfOp op__law_take []) [(.peek 0), (.val (mC (.int 4)))]))] [d, .int v, .int s, F, .int (t : Nat), m, a, x] = .nx [d2, .int v, .int s, F, .int (t : Nat), m, .int (j : Nat), .int y] :=
    sPar_ok (evA_val A1 (evA_val (hy [.int v, .int s, F, .int (t : Nat), m, a, x]) evA_nil)) rfl
  have hbm : (BL v s)[j]?.getD [] ∈ BL v s := by
    rw [List.getElem?_eq_getElem hj]
    exact List.getElem_mem hj
  have hidx := BL_idx hv hv4 hs j hj
  have hI := iF j hj
  generalize (BL v s)[j]?.getD [] = b at hbm hidx hI
  have b4 := BL_four hv hv4 hs b hbm
  have hbl := (BL_in hv hv4 hs b hbm).1
  have hbi := (BL_in hv hv4 hs b hbm).2
  have P36 : ∀ m, evA [(.peek 3), (.peek 6)] [d2, .int v, .int s, F, .int (t : Nat), m, .int (j : Nat), .int y] = .ok [F, .int (j : Nat)] [d2, .int v, .int s, .any, .int (t : Nat), m, .any, .int y] := fun m => evA_peek (d0 := F) rfl aF (e1 := [d2, .int v, .int s, F, .int (t : Nat), m, .any, .int y]) rfl (d := F) rfl aF
  have X : ∀ m, mApp oIx [(.peek 3), (.peek 6)] [d2, .int v, .int s, F, .int (t : Nat), m, .int (j : Nat), .int y] = .ok (tuxD b) [d2, .int v, .int s, F, .int (t : Nat), m, .int (j : Nat), .int y] := fun m => mApp_ok (P36 m) hI
  have AD := dfOp_ok (added_ok hs b b4 y y0 (by omega)) rfl
  have S2 : sAsg (.nm 5) (mApp (dfOp op_added []) [(.val (mApp oIx [(.peek 3), (.peek 6)])), (.peek 7)]) [d2, .int v, .int s, F, .int (t : Nat), m, .int (j : Nat), .int y] = .nx [d2, .int v, .int s, F, .int (t : Nat), tuxD (srtI (b ++ [y])), .int (j : Nat), .int y] :=
    sAsg_ok (mApp_ok (e := [d2, .int v, .int s, F, .int (t : Nat), m, .int (j : Nat), .any]) (evA_val (X m) rfl) AD) rfl
  generalize hM : tuxD (srtI (b ++ [y])) = M at S2
  have aM : M.isAny = false := by rw [← hM]; rfl
  have BI : mApp (dfOp op_bag_index []) [(.peek 1), (.val (mApp oIx [(.peek 3), (.peek 6)]))] [d2, .int v, .int s, F, .int (t : Nat), M, .int (j : Nat), .int y] = .ok (.int (j : Nat)) [d2, .int v, .int s, F, .int (t : Nat), M, .int (j : Nat), .int y] := by
    have := idx_t hv hv4 hs hbm
    rw [hidx] at this
    exact mApp_ok (evA_peek (d0 := .int v) rfl rfl (evA_val (X M) evA_nil) rfl rfl) (dfOp_ok this rfl)
  obtain ⟨PJ, hPJ⟩ := rp_can (rp_int (i := (j : Nat)) (by omega))
  have RJ := hPJ (.int (j : Nat)) rfl
  have C1 : mApp (op2 (eqB true)) [(.val (mApp oRepr [(.val (mApp (dfOp op_bag_index []) [(.peek 1), (.val (mApp oIx [(.peek 3), (.peek 6)]))]))])), (.val (mApp oRepr [(.peek 6)]))] [d2, .int v, .int s, F, .int (t : Nat), M, .int (j : Nat), .int y] = .ok (.bl false) [d2, .int v, .int s, F, .int (t : Nat), M, .int (j : Nat), .int y] := by
    have R6 : mApp oRepr [(.peek 6)] [d2, .int v, .int s, F, .int (t : Nat), M, .int (j : Nat), .int y] = .ok (.str PJ) [d2, .int v, .int s, F, .int (t : Nat), M, .int (j : Nat), .int y] := mApp_ok (e := [d2, .int v, .int s, F, .int (t : Nat), M, .any, .int y]) rfl RJ
    exact mApp_ok (f := op2 (eqB true)) (evA_val (mApp_v1 BI RJ) (evA_val R6 evA_nil)) (neS_ok PJ)
  have RM : Rp M := by
    rw [← hM]
    refine rp_tux (fun z hz => ?_) (by rw [srtI_len, List.length_append, List.length_singleton]; omega)
    rcases List.mem_append.mp ((srtI_perm _).mem_iff.mp hz) with h | h
    · have := hbi z h
      omega
    · rw [List.mem_singleton.mp h]
      omega
  obtain ⟨PM, hPM⟩ := rp_can RM
  have RMM := hPM M rfl
  have C2 : mApp (op2 (eqB true)) [(.val (mApp oRepr [(.peek 5)])), (.val (mApp oRepr [(.val (mApp oTupleX [(.val (mApp oSortedB [(.val (mApp oCat [(.val (mApp oList [(.val (mApp oIx [(.peek 3), (.peek 6)]))])), (.val (mApp oLst [(.val (mVar 7))]))]))]))]))]))] [d2, .int v, .int s, F, .int (t : Nat), M, .int (j : Nat), .int y] = .ok (.bl false) [d2, .int v, .int s, F, .int (t : Nat), M, .int (j : Nat), .int y] := by
    have R5 : mApp oRepr [(.peek 5)] [d2, .int v, .int s, F, .int (t : Nat), M, .int (j : Nat), .int y] = .ok (.str PM) [d2, .int v, .int s, F, .int (t : Nat), M, .int (j : Nat), .int y] := mApp_ok (e := [d2, .int v, .int s, F, .int (t : Nat), .any, .int (j : Nat), .int y]) (evA_peek (d0 := M) rfl aM evA_nil (d := M) rfl aM) RMM
    have CA : oCat [.node (.lst true) (dI b), .node (.lst true) [.int y]] = .ok (.node (.lst true) (dI (b ++ [y]))) [.any, .any] := by
      have e : frzL [D.int y] = [D.int y] := by rw [frzL_cons, frzL_nil, frz_int]
      simp only [oCat]
      rw [if_pos (by rw [dI_length, List.length_singleton]; omega), frzL_dI, e, dI_append, dI_cons, dI_nil]
    have ML := mApp_v1 (X M) (list_tux b)
    have M7 : mApp oLst [(.val (mVar 7))] [d2, .int v, .int s, F, .int (t : Nat), M, .int (j : Nat), .int y] = .ok (.node (.lst true) [.int y]) [d2, .int v, .int s, F, .int (t : Nat), M, .int (j : Nat), .int y] := mApp_ok (f := oLst) (evA_val (m := mVar 7) (r := .int y) rfl evA_nil) rfl
    have MC := mApp_ok (f := oCat) (evA_val ML (evA_val M7 evA_nil)) CA
    have MT := mApp_v1 (mApp_v1 (mApp_v1 MC (sortedB_ok (t := .lst true) (l := b ++ [y]) rfl)) (tupleX_ok true (srtI (b ++ [y])))) (show oRepr [tuxD (srtI (b ++ [y]))] = .ok (.str PM) [M] by rw [hM]; exact RMM)
    exact mApp_ok (f := op2 (eqB true)) (evA_val R5 (evA_val MT evA_nil)) (neS_ok PM)
  have C3 : mAnd (mApp (oLt) [(.peek 2), (.val (mC (.int 6)))]) (mApp (op2 (eqB true)) [(.val (mApp (dfOp op_removed []) [(.peek 5), (.peek 7)])), (.val (mApp oIx [(.peek 3), (.peek 6)]))]) [d2, .int v, .int s, F, .int (t : Nat), M, .int (j : Nat), .int y] = .ok (.bl false) [d2, .int v, .int s, F, .int (t : Nat), M, .int (j : Nat), .int y] := by
    have LT : mApp (oLt) [(.peek 2), (.val (mC (.int 6)))] [d2, .int v, .int s, F, .int (t : Nat), M, .int (j : Nat), .int y] = .ok (.bl (decide ((s : Int) < 6))) [d2, .int v, .int s, F, .int (t : Nat), M, .int (j : Nat), .int y] := mApp_ok (e := [d2, .int v, .any, F, .int (t : Nat), M, .int (j : Nat), .int y]) rfl (rfl : oLt [.int s, .int 6] = .ok (.bl (decide ((s : Int) < 6))) [.int s, .int 6])
    by_cases c : (s : Int) < 6
    · rw [decide_eq_true c] at LT
      refine mAnd_t LT ?_
      obtain ⟨e1, e2, e3⟩ := BL_back (s := s) (by omega) b b4 y (by simp; omega)
      have RR := removed_ok (s := s + 1) (by omega) _ e1 y y0 (by omega)
      rw [remD, if_pos e2, e3, hM] at RR
      have R1 : mApp (dfOp op_removed []) [(.peek 5), (.peek 7)] [d2, .int v, .int s, F, .int (t : Nat), M, .int (j : Nat), .int y] = .ok (tuxD b) [d2, .int v, .int s, F, .int (t : Nat), M, .int (j : Nat), .int y] := mApp_ok (e := [d2, .int v, .int s, F, .int (t : Nat), .any, .int (j : Nat), .any]) (evA_peek (d0 := M) rfl aM (e1 := [d2, .int v, .int s, F, .int (t : Nat), M, .int (j : Nat), .any]) rfl (d := M) rfl aM) (dfOp_ok RR rfl)
      have N : op2 (eqB true) [tuxD b, tuxD b] = .ok (.bl false) [tuxD b, tuxD b] := by
        simp only [op2, eqB_tux, decide_true]
        rfl
      exact mApp_ok (f := op2 (eqB true)) (evA_val R1 (evA_val (X M) evA_nil)) N
    · rw [decide_eq_false c] at LT
      exact mAnd_f LT
  exact ⟨d2, M, .int (j : Nat), .int y, sSeq_nx S1 (sSeq_nx S2 (sSeq_nx (sIf_f (mOr_f C1 C2) rfl) (sIf_f C3 rfl))), hb2⟩
theorem back_g {k : Nat} {d : D} (h : Bx k d) (hk : k < 800000) {v s : Nat} (hv : 1 ≤ v) (hv4 : v ≤ 4) (hs : s ≤ 6) {F G : D} (aF : F.isAny = false) (lF : oLen [F] = .ok (.int ((BL v s).length : Nat)) [F])
    (iF : ∀ j < (BL v s).length, oIx [F, .int (j : Nat)] = .ok (tuxD ((BL v s)[j]?.getD [])) [F, .int (j : Nat)]) (hF : op__law_bags [.int v, .int s] = .ok F [.int v, .int s]) (hG : op_bags [.int v, .int s] = .ok G [.int v, .int s]) {P : Str} (rF : oRepr [F] = .ok (.str P) [F]) (rG : oRepr [G] = .ok (.str P) [G]) :
    ∃ d', op__law_there_and_back [d, .int v, .int s] = .ok (.bl true) [d', .int v, .int s] ∧ Bx (k + 8) d' := by
  have hn := BL_len hv hv4 hs
  have P12 : ∀ f, evA [(.peek 1), (.peek 2)] [d, .int v, .int s, f, .any, .any, .any, .any] = .ok [.int v, .int s] [d, .any, .any, f, .any, .any, .any, .any] := fun f => rfl
  have S1 : sAsg (.nm 3) (mApp (dfOp op__law_bags []) [(.peek 1), (.peek 2)]) [d, .int v, .int s, .any, .any, .any, .any, .any] = .nx [d, .int v, .int s, F, .any, .any, .any, .any] := sAsg_ok (mApp_ok (P12 _) (dfOp_ok hF rfl)) rfl
  have C1 : mApp (op2 (eqB true)) [(.val (mApp oRepr [(.val (mApp (dfOp op_bags []) [(.peek 1), (.peek 2)]))])), (.val (mApp oRepr [(.peek 3)]))] [d, .int v, .int s, F, .any, .any, .any, .any] = .ok (.bl false) [d, .int v, .int s, F, .any, .any, .any, .any] := by
    have A := mApp_v1 (mApp_ok (P12 F) (dfOp_ok hG rfl)) rG
    have B : mApp oRepr [(.peek 3)] [d, .int v, .int s, F, .any, .any, .any, .any] = .ok (.str P) [d, .int v, .int s, F, .any, .any, .any, .any] := mApp_ok (evA_peek (d0 := F) rfl aF evA_nil (d := F) rfl aF) rF
    exact mApp_ok (f := op2 (eqB true)) (evA_val A (evA_val B evA_nil)) (neS_ok P)
  have C2 : mApp (op2 (eqB true)) [(.val (mApp oRepr [(.val (mApp (dfOp op_count_bags []) [(.peek 1), (.peek 2)]))])), (.val (mApp oRepr [(.val (mApp oLen [(.peek 3)]))]))] [d, .int v, .int s, F, .any, .any, .any, .any] = .ok (.bl false) [d, .int v, .int s, F, .any, .any, .any, .any] := by
    obtain ⟨PN, hPN⟩ := rp_can (rp_int (i := ((BL v s).length : Nat)) (by omega))
    have RN := hPN (.int ((BL v s).length : Nat)) rfl
    have A := mApp_v1 (mApp_ok (P12 F) (dfOp_ok (cbags_ok hv hv4 hs) rfl)) RN
    have L : mApp oLen [(.peek 3)] [d, .int v, .int s, F, .any, .any, .any, .any] = .ok (.int ((BL v s).length : Nat)) [d, .int v, .int s, F, .any, .any, .any, .any] := mApp_ok (evA_peek (d0 := F) rfl aF evA_nil (d := F) rfl aF) lF
    exact mApp_ok (f := op2 (eqB true)) (evA_val A (evA_val (mApp_v1 L RN) evA_nil)) (neS_ok PN)
  have sr := iRng_nat (n := 4) (ops := [.val (mC (.int 4))]) (env := [d, .int v, .int s, F, .any, .any, .any, .any]) (e := [d, .int v, .int s, F, .any, .any, .any, .any]) rfl (by omega)
  obtain ⟨e', L1, d', t', m', a', x', rfl, hb'⟩ := loopS_all (α := Nat) (t := .nm 4) (tof := fun k : Nat => D.int (k : Int)) (b := bTB) (P := fun ys e => ∃ d' t' m' a' x', e = [d', .int v, .int s, F, t', m', a', x'] ∧ Bx (k + 2 * ys.length) d') (List.range 4) (List.range 4) [] [d, .int v, .int s, F, .any, .any, .any, .any] rfl
    (fun ys x zs e hx ⟨d', t', m', a', x', he, hb⟩ => by
      subst he
      obtain ⟨rfl, hlt⟩ := range_at hx
      obtain ⟨d'', m'', a'', x'', hT, hb2⟩ := turn_ok hb (by omega) hv hv4 hs aF lF iF hlt m' a' x'
      refine ⟨[d', .int v, .int s, F, .int (ys.length : Nat), m', a', x'], _, rfl, Or.inl hT, d'', _, _, _, _, rfl, ?_⟩
      rw [List.length_append, List.length_singleton]
      exact hb2.le (by omega))
    ⟨d, .any, .any, .any, .any, rfl, h⟩
  exact ⟨d', fnOp_rt (e := [d', .int v, .int s, F, t', m', a', x']) rfl (sSeq_nx S1 (sSeq_nx (sIf_f (mOr_f C1 C2) rfl) (sSeq_nx (sFor_ok sr L1) rfl))) (by simp), hb'.le (by simp)⟩
theorem back_ok {k : Nat} {d : D} (h : Bx k d) (hk : k < 800000) {v s : Nat} (hv : 1 ≤ v) (hv4 : v ≤ 4) (hs : s ≤ 6) : ∃ d', op__law_there_and_back [d, .int v, .int s] = .ok (.bl true) [d', .int v, .int s] ∧ Bx (k + 8) d' := by
  obtain ⟨P, hP⟩ := rp_can (rp_lstB hv hv4 hs)
  refine back_g h hk hv hv4 hs (F := lstB (decide (s = 0)) v s) (G := lstB true v s) rfl (len_lstB _ v s) (fun j hj => ?_) (lbags_ok hv hv4 hs) (bags_ok hv hv4 hs) (hP _ rfl) (hP _ rfl)
  refine ix_ok rfl (ixN_nat (by rw [List.length_map]; exact hj)) ?_ (isFrz_tux _)
  rw [List.getElem?_map, List.getElem?_eq_getElem hj]
  rfl
end Z

set_option Elab.async false
set_option linter.all false
set_option maxRecDepth 100000
set_option maxHeartbeats 4000000
namespace Z
open PySem PySem.Spec PyProof.Rows
open L2 StX
abbrev oneS : S := (sSeq (sAsg (.nm 2) (mApp (dfOp op__law_box []) [(.val (mApp (dfOp op__law_cell []) [(.peek 0), (.peek 1)]))])) (sSeq (sPar [5, 6] [(.val (mApp oAdd [(.val (mC (.int 1))), (.val (mApp (dfOp op__law_take []) [(.peek 2), (.val (mC (.int 4)))]))])), (.val (mApp (dfOp op__law_take []) [(.peek 2), (.val (mC (.int 7)))]))]) (sSeq (sAsg (.nm 3) (mLc (iRng [.val (mC (.int 12))]) (.nm 7) none (mApp (dfOp op__law_question []) [(.peek 2)]) [7])) (sSeq (sFor (iSeq (mVar 3)) (.nm 4) (sIf (mNot (mApp (dfOp op__law_answers_right []) [(.peek 2), (.peek 4)])) (sRet (mC (.bl false))) sNext)) (sIf (mOr (mNot (mApp (dfOp op__law_there_and_back []) [(.peek 2), (.peek 5), (.peek 6)])) (mNot (mApp (dfOp op__law_answers_right []) [(.peek 2), (.val (mApp oIx [(.peek 3), (.val (mApp (dfOp op__law_take []) [(.peek 2), (.val (mC (.int 12)))]))]))]))) (sRet (mC (.bl false))) sNext)))))
def QN (x : D) : Prop := ∃ (w : Nat) (one other : D), w ≤ 4 ∧ x = .node (.lst true) [.int w, one, other] ∧ Gd one.frz ∧ Gd other.frz
def QF (x : D) : Prop := ∃ (w : Nat) (one other : D), w ≤ 4 ∧ x = .node (.lst false) [.int w, one, other] ∧ Gd one ∧ Gd other
theorem QN.frz {x : D} (h : QN x) : QF x.frz := by
  obtain ⟨w, one, other, hw, rfl, g1, g2⟩ := h
  exact ⟨w, one.frz, other.frz, hw, by simp only [frz_node, Tag.frz, frzL_cons, frzL_nil, frz_int], g1, g2⟩
theorem QF.fz {x : D} (h : QF x) : x.isFrz = true := by
  obtain ⟨w, one, other, hw, rfl, g1, g2⟩ := h
  refine isFrz_node rfl ?_
  rw [isFrzL, isFrzL, isFrzL, isFrzL, isFrz_int, g1.1.fz, g2.1.fz]
  rfl
theorem QF.any {x : D} (h : QF x) : x.isAny = false := by
  obtain ⟨w, one, other, hw, rfl, g1, g2⟩ := h
  rfl
theorem right_q {k : Nat} {d x : D} (h : Bx k d) (hk : k < 900000) (q : QF x) : ∃ d', op__law_answers_right [d, x] = .ok (.bl true) [d', x] ∧ Bx (k + 1) d' := by
  obtain ⟨w, one, other, hw, rfl, g1, g2⟩ := q
  exact right_ok h hk hw g1 g2
theorem take2 {k : Nat} {d : D} {m : Int} (h : Bx k d) (hk : k < 1000000) (hm : 0 < m) (hm2 : m < 1000000) :
    ∃ (r : Int) (d' : D), (∀ (x y : D) (a : List D), mApp (dfOp op__law_take []) [(.peek 2), (.val (mC (.int m)))] (x :: y :: d :: a) = .ok (.int r) (x :: y :: d' :: a)) ∧ 0 ≤ r ∧ r < m ∧ Bx (k + 1) d' := by
  obtain ⟨r, d', h1, h2, h3, h4⟩ := take_ok h hk hm hm2
  refine ⟨r, d', fun x y a => ?_, h2, h3, h4⟩
  exact mApp_ok (e := x :: y :: .any :: a) (evA_peek (d0 := d) rfl h.node (evA_val (m := mC (.int m)) (e1 := x :: y :: d :: a) rfl evA_nil) rfl h.node) (dfOp_ok h1 rfl)
theorem once_ok {l : List Int} {k : Nat} (hk : k < 1000) (x2 x3 x4 x5 x6 x7 : D) : ∃ y2 y3 y4 y5 y6 y7, oneS [scD l, .int (k : Nat), x2, x3, x4, x5, x6, x7] = .nx [scD l, .int (k : Nat), y2, y3, y4, y5, y6, y7] := by
  obtain ⟨c, C⟩ := cell_ok (l := l) hk
  obtain ⟨d, B, hb⟩ := box_ok c
  have P : evA [(.peek 0), (.peek 1)] [scD l, .int (k : Nat), x2, x3, x4, x5, x6, x7] = .ok [scD l, .int (k : Nat)] [.any, .any, x2, x3, x4, x5, x6, x7] := rfl
  have S1 : sAsg (.nm 2) (mApp (dfOp op__law_box []) [(.val (mApp (dfOp op__law_cell []) [(.peek 0), (.peek 1)]))]) [scD l, .int (k : Nat), x2, x3, x4, x5, x6, x7] = .nx [scD l, .int (k : Nat), d, x3, x4, x5, x6, x7] := sAsg_ok (mApp_v1 (mApp_ok P (dfOp_ok C rfl)) (dfOp_ok B rfl)) rfl
  obtain ⟨v0, d1, hv, v00, v01, hb1⟩ := take2 hb (by omega) (m := 4) (by omega) (by omega)
  obtain ⟨s0, d2, hs, s00, s01, hb2⟩ := take2 hb1 (by omega) (m := 7) (by omega) (by omega)
  obtain ⟨v, hv1, hv4, ev⟩ : ∃ v : Nat, 1 ≤ v ∧ v ≤ 4 ∧ 1 + v0 = (v : Nat) := ⟨(1 + v0).toNat, by omega, by omega, by omega⟩
  obtain ⟨s, hs6, es⟩ : ∃ s : Nat, s ≤ 6 ∧ s0 = (s : Nat) := ⟨s0.toNat, by omega, by omega⟩
  have A1 : mApp oAdd [(.val (mC (.int 1))), (.val (mApp (dfOp op__law_take []) [(.peek 2), (.val (mC (.int 4)))]))] [scD l, .int (k : Nat), d, x3, x4, x5, x6, x7] = .ok (.int v) [scD l, .int (k : Nat), d1, x3, x4, x5, x6, x7] := by
    rw [← ev]
    exact mApp_ok (f := oAdd) (evA_val (m := mC (.int 1)) rfl (evA_val (hv (scD l) (.int (k : Nat)) [x3, x4, x5, x6, x7]) evA_nil)) rfl
  have A2 := hs (scD l) (.int (k : Nat)) [x3, x4, x5, x6, x7]
  rw [es] at A2
  have S2 : sPar [5, 6] [(.val (mApp oAdd [(.val (mC (.int 1))), (.val (mApp (dfOp op__law_take []) [(.peek 2), (.val (mC (.int 4)))]))])), (.val (mApp (dfOp op__law_take []) [(.peek 2), (.val (mC (.int 7)))]))] [scD l, .int (k : Nat), d, x3, x4, x5, x6, x7] = .nx [scD l, .int (k : Nat), d2, x3, x4, .int v, .int s, x7] :=
    sPar_ok (evA_val A1 (evA_val A2 evA_nil)) rfl
  have sr := iRng_nat (n := 12) (ops := [.val (mC (.int 12))]) (env := [scD l, .int (k : Nat), d2, x3, x4, .int v, .int s, x7]) (e := [scD l, .int (k : Nat), d2, x3, x4, .int v, .int s, x7]) rfl (by omega)
  obtain ⟨acc, e', L, hl, d3, rfl, hacc, hb3⟩ := loopC_inv (α := Nat) (t := .nm 7) (m := mApp (dfOp op__law_question []) [(.peek 2)]) (vs := [7]) (tof := fun k : Nat => D.int (k : Int))
    (P := fun ys acc e => ∃ d', e = [scD l, .int (k : Nat), d', x3, x4, .int v, .int s, .any] ∧ (∀ x ∈ acc, QN x) ∧ Bx (2 + 20 * ys.length) d') (List.range 12) (by simp) (List.range 12) [] [] [scD l, .int (k : Nat), d2, x3, x4, .int v, .int s, .any] rfl rfl
    (fun ys x zs acc e hx ⟨d', he, hall, hb⟩ => by
      subst he
      obtain ⟨rfl, hlt⟩ := range_at hx
      obtain ⟨w, one, other, d'', hw, hq, g1, g2, hb'⟩ := question_ok hb (by omega)
      refine ⟨[scD l, .int (k : Nat), d', x3, x4, .int v, .int s, .int (ys.length : Nat)], .node (.lst true) [.int (w : Nat), one, other], [scD l, .int (k : Nat), d'', x3, x4, .int v, .int s, .int (ys.length : Nat)], rfl, ?_, d'', rfl, ?_, ?_⟩
      · exact mApp_ok (e := [scD l, .int (k : Nat), .any, x3, x4, .int v, .int s, .int (ys.length : Nat)]) (evA_peek (d0 := d') rfl hb.node evA_nil (d := d') rfl hb.node) (dfOp_ok hq rfl)
      · intro x hx
        rcases List.mem_append.mp hx with hx | hx
        · exact hall x hx
        · rw [List.mem_singleton.mp hx]
          exact ⟨w, one, other, hw, rfl, g1, g2⟩
      · rw [List.length_append, List.length_singleton]
        exact hb'.le (by omega))
    ⟨d2, rfl, by simp, hb2⟩
  rw [List.length_range] at hl hb3
  have M : mLc (iRng [.val (mC (.int 12))]) (.nm 7) none (mApp (dfOp op__law_question []) [(.peek 2)]) [7] [scD l, .int (k : Nat), d2, x3, x4, .int v, .int s, x7] = .ok (.node (.lst true) acc) [scD l, .int (k : Nat), d3, x3, x4, .int v, .int s, x7] := by
    unfold mLc
    rw [sr]
    dsimp only
    rw [show anyAll [7] [scD l, .int (k : Nat), d2, x3, x4, .int v, .int s, x7] = [scD l, .int (k : Nat), d2, x3, x4, .int v, .int s, .any] from rfl, L]
    rfl
  have S3 : sAsg (.nm 3) (mLc (iRng [.val (mC (.int 12))]) (.nm 7) none (mApp (dfOp op__law_question []) [(.peek 2)]) [7]) [scD l, .int (k : Nat), d2, x3, x4, .int v, .int s, x7] = .nx [scD l, .int (k : Nat), d3, .node (.lst true) acc, x4, .int v, .int s, x7] := sAsg_ok M rfl
  have hqf : ∀ x ∈ frzL acc, QF x := fun x hx => by
    rw [frzL_eq] at hx
    obtain ⟨y, hy, rfl⟩ := List.mem_map.mp hx
    exact (hacc y hy).frz
  have hfz : frzL (frzL acc) = frzL acc := by
    rw [frzL_eq (frzL acc)]
    conv => rhs; rw [← List.map_id (frzL acc)]
    exact List.map_congr_left fun x hx => frz_id (hqf x hx).fz
  have hlen : (frzL acc).length = 12 := by rw [frzL_eq, List.length_map, hl]
  have SR : iSeq (mVar 3) [scD l, .int (k : Nat), d3, .node (.lst true) acc, x4, .int v, .int s, x7] = .ok (frzL acc) [scD l, .int (k : Nat), d3, .node (.lst false) (frzL acc), x4, .int v, .int s, x7] := by
    have V : mVar 3 [scD l, .int (k : Nat), d3, .node (.lst true) acc, x4, .int v, .int s, x7] = .ok (.node (.lst false) (frzL acc)) [scD l, .int (k : Nat), d3, .node (.lst false) (frzL acc), x4, .int v, .int s, x7] := by
      rw [mVar_f (d := .node (.lst true) acc) rfl rfl, frz_node]
      rfl
    simp only [iSeq, V, D.seq, hfz]
  generalize frzL acc = A at hqf hlen SR
  obtain ⟨e', L2, d4, z4, rfl, hb4⟩ := loopS_all (α := D) (t := .nm 4) (tof := fun x : D => x) (b := (sIf (mNot (mApp (dfOp op__law_answers_right []) [(.peek 2), (.peek 4)])) (sRet (mC (.bl false))) sNext)) (P := fun ys e => ∃ d' z, e = [scD l, .int (k : Nat), d', .node (.lst false) A, z, .int v, .int s, x7] ∧ Bx (300 + ys.length) d') A A [] [scD l, .int (k : Nat), d3, .node (.lst false) A, x4, .int v, .int s, x7] rfl
    (fun ys x zs e hx ⟨d', z, he, hb⟩ => by
      subst he
      have hx2 : x ∈ A := by rw [hx]; simp
      have hle : ys.length ≤ 12 := by
        rw [hx] at hlen
        simp at hlen
        omega
      obtain ⟨d'', hr, hb'⟩ := right_q hb (by omega) (hqf x hx2)
      refine ⟨[scD l, .int (k : Nat), d', .node (.lst false) A, x, .int v, .int s, x7], [scD l, .int (k : Nat), d'', .node (.lst false) A, x, .int v, .int s, x7], rfl, Or.inl ?_, d'', x, rfl, ?_⟩
      · have MR : mApp (dfOp op__law_answers_right []) [(.peek 2), (.peek 4)] [scD l, .int (k : Nat), d', .node (.lst false) A, x, .int v, .int s, x7] = .ok (.bl true) [scD l, .int (k : Nat), d'', .node (.lst false) A, x, .int v, .int s, x7] :=
          mApp_ok (e := [scD l, .int (k : Nat), .any, .node (.lst false) A, .any, .int v, .int s, x7]) (evA_peek (d0 := d') rfl hb.node (evA_peek (d0 := x) rfl (hqf x hx2).any evA_nil (d := x) rfl (hqf x hx2).any) rfl hb.node) (dfOp_ok hr rfl)
        exact sIf_f (mNot_ok (b := true) MR) rfl
      · rw [List.length_append, List.length_singleton]
        exact hb')
    ⟨d3, x4, rfl, hb3.le (by simp)⟩
  have S4 : sFor (iSeq (mVar 3)) (.nm 4) (sIf (mNot (mApp (dfOp op__law_answers_right []) [(.peek 2), (.peek 4)])) (sRet (mC (.bl false))) sNext) [scD l, .int (k : Nat), d3, .node (.lst true) acc, x4, .int v, .int s, x7] = .nx [scD l, .int (k : Nat), d4, .node (.lst false) A, z4, .int v, .int s, x7] := by
    rw [show A.map (fun x : D => x) = A from List.map_id A] at L2
    exact sFor_ok SR L2
  rw [hlen] at hb4
  obtain ⟨d5, TB, hb5⟩ := back_ok hb4 (by omega) hv1 hv4 hs6
  have C1 : mNot (mApp (dfOp op__law_there_and_back []) [(.peek 2), (.peek 5), (.peek 6)]) [scD l, .int (k : Nat), d4, .node (.lst false) A, z4, .int v, .int s, x7] = .ok (.bl false) [scD l, .int (k : Nat), d5, .node (.lst false) A, z4, .int v, .int s, x7] :=
    mNot_ok (b := true) (mApp_ok (e := [scD l, .int (k : Nat), .any, .node (.lst false) A, z4, .any, .any, x7]) (evA_peek (d0 := d4) rfl hb4.node (e1 := [scD l, .int (k : Nat), d4, .node (.lst false) A, z4, .any, .any, x7]) rfl (d := d4) rfl hb4.node) (dfOp_ok TB rfl))
  obtain ⟨r, d6, hr, r0, r1, hb6⟩ := take2 hb5 (by omega) (m := 12) (by omega) (by omega)
  obtain ⟨x, hx⟩ : ∃ x, A[r.toNat]? = some x := ⟨_, List.getElem?_eq_getElem (by omega)⟩
  have hxq := hqf x (List.mem_of_getElem? hx)
  have IX : oIx [.node (.lst false) A, .int r] = .ok x [.node (.lst false) A, .int r] := by
    have e : ((r.toNat : Nat) : Int) = r := Int.toNat_of_nonneg r0
    have := ix_ok (t := .lst false) (xs := A) (i := (r.toNat : Nat)) (j := r.toNat) (c := x) rfl (ixN_nat (by omega)) hx hxq.fz
    rw [e] at this
    exact this
  obtain ⟨d7, RR, hb7⟩ := right_q hb6 (by omega) hxq
  have MI : mApp oIx [(.peek 3), (.val (mApp (dfOp op__law_take []) [(.peek 2), (.val (mC (.int 12)))]))] [scD l, .int (k : Nat), d5, .node (.lst false) A, z4, .int v, .int s, x7] = .ok x [scD l, .int (k : Nat), d6, .node (.lst false) A, z4, .int v, .int s, x7] :=
    mApp_ok (e := [scD l, .int (k : Nat), d6, .any, z4, .int v, .int s, x7]) (evA_peek (d0 := .node (.lst false) A) rfl rfl (evA_val (hr (scD l) (.int (k : Nat)) [.node (.lst false) A, z4, .int v, .int s, x7]) evA_nil) rfl rfl) IX
  have C2 : mNot (mApp (dfOp op__law_answers_right []) [(.peek 2), (.val (mApp oIx [(.peek 3), (.val (mApp (dfOp op__law_take []) [(.peek 2), (.val (mC (.int 12)))]))]))]) [scD l, .int (k : Nat), d5, .node (.lst false) A, z4, .int v, .int s, x7] = .ok (.bl false) [scD l, .int (k : Nat), d7, .node (.lst false) A, z4, .int v, .int s, x7] :=
    mNot_ok (b := true) (mApp_ok (e := [scD l, .int (k : Nat), .any, .node (.lst false) A, z4, .int v, .int s, x7]) (evA_peek (d0 := d5) rfl hb5.node (evA_val MI evA_nil) rfl hb6.node) (dfOp_ok RR rfl))
  exact ⟨d7, _, z4, _, _, x7, sSeq_nx S1 (sSeq_nx S2 (sSeq_nx S3 (sSeq_nx S4 (sIf_f (mOr_f C1 C2) rfl))))⟩
theorem law_ok (l : List Int) (hl : l.length ≤ 1000) : op_law [scD l] = .ok (.bl true) [scD l] := by
  have O := len_node (α := Nat) .scr (dI l) (dI l) rfl
  rw [dI_length] at O
  have Q : mApp oLen [(.peek 0)] [scD l, .any, .any, .any, .any, .any, .any, .any] = .ok (.int l.length) [scD l, .any, .any, .any, .any, .any, .any, .any] := mApp_ok (show evA [(.peek 0)] [scD l, .any, .any, .any, .any, .any, .any, .any] = .ok [scD l] [.any, .any, .any, .any, .any, .any, .any, .any] from rfl) O
  have O1 : oMin2 [.int 4, .int l.length] = .ok (.int (if (l.length : Int) < 4 then (l.length : Int) else 4)) [.int 4, .int l.length] := rfl
  have M1 := mApp_ok (evA_val (m := mC (.int 4)) rfl (evA_val Q evA_nil)) O1
  have hq : (if (l.length : Int) < 4 then (l.length : Int) else 4) ≤ 4 := by split <;> omega
  generalize (if (l.length : Int) < 4 then (l.length : Int) else 4) = q at M1 hq
  have O2 : oMax2 [.int 2, .int q] = .ok (.int (if q > 2 then q else 2)) [.int 2, .int q] := rfl
  have M2 := mApp_ok (evA_val (m := mC (.int 2)) rfl (evA_val M1 evA_nil)) O2
  obtain ⟨n, hn, hn3⟩ : ∃ n : Nat, (if q > 2 then q else 2) = (n : Int) ∧ n ≤ 4 := by
    refine ⟨(if q > 2 then q else 2).toNat, ?_, ?_⟩ <;> split <;> omega
  rw [hn] at M2
  have sr := iRng_nat (n := n) (evA_val M2 evA_nil) (by omega)
  obtain ⟨e', L1, z1, z2, z3, z4, z5, z6, z7, rfl⟩ := loopS_all (α := Nat) (t := .nm 1) (tof := fun k : Nat => D.int (k : Int)) (b := oneS) (P := fun _ e => ∃ z1 z2 z3 z4 z5 z6 z7, e = [scD l, z1, z2, z3, z4, z5, z6, z7]) (List.range n) (List.range n) [] [scD l, .any, .any, .any, .any, .any, .any, .any] rfl
    (fun ys x zs e hx ⟨z1, z2, z3, z4, z5, z6, z7, he⟩ => by
      subst he
      obtain ⟨rfl, hlt⟩ := range_at hx
      obtain ⟨y2, y3, y4, y5, y6, y7, hO⟩ := once_ok (l := l) (k := ys.length) (by omega) z2 z3 z4 z5 z6 z7
      exact ⟨[scD l, .int (ys.length : Int), z2, z3, z4, z5, z6, z7], _, rfl, Or.inl hO, _, _, _, _, _, _, _, rfl⟩)
    ⟨_, _, _, _, _, _, _, rfl⟩
  exact fnOp_rt (r := .bl true) (e := [scD l, z1, z2, z3, z4, z5, z6, z7]) rfl (sSeq_nx (sFor_ok sr L1) rfl) (by simp)
end Z

set_option Elab.async false
set_option linter.all false
set_option maxRecDepth 100000
set_option maxHeartbeats 0
namespace Z
open PySem PySem.Spec PyProof.Rows
open L2 StX

def dd0 : He.DefD := ⟨("is_whole", none), "is_whole", "is_whole", defArgs (top 8), defBody (top 8), defScope (top 8), [], []⟩
def dd1 : He.DefD := ⟨("is_between", none), "is_between", "is_between", defArgs (top 9), defBody (top 9), defScope (top 9), [], []⟩
def dd2 : He.DefD := ⟨("is_bag", none), "is_bag", "is_bag", defArgs (top 10), defBody (top 10), defScope (top 10), [], []⟩
def dd3 : He.DefD := ⟨("check_values", none), "check_values", "check_values", defArgs (top 11), defBody (top 11), defScope (top 11), [], []⟩
def dd4 : He.DefD := ⟨("check_size", none), "check_size", "check_size", defArgs (top 12), defBody (top 12), defScope (top 12), [], []⟩
def dd5 : He.DefD := ⟨("check_value", none), "check_value", "check_value", defArgs (top 13), defBody (top 13), defScope (top 13), [], []⟩
def dd6 : He.DefD := ⟨("bags", none), "bags", "bags", defArgs (top 17), defBody (top 17), defScope (top 17), [], []⟩
def dd7 : He.DefD := ⟨("count_bags", none), "count_bags", "count_bags", defArgs (top 18), defBody (top 18), defScope (top 18), [], []⟩
def dd8 : He.DefD := ⟨("bag_index", none), "bag_index", "bag_index", defArgs (top 19), defBody (top 19), defScope (top 19), [], []⟩
def dd9 : He.DefD := ⟨("_check_bag_and_value", none), "_check_bag_and_value", "_check_bag_and_value", defArgs (top 20), defBody (top 20), defScope (top 20), [], []⟩
def dd10 : He.DefD := ⟨("added", none), "added", "added", defArgs (top 21), defBody (top 21), defScope (top 21), [], []⟩
def dd11 : He.DefD := ⟨("removed", none), "removed", "removed", defArgs (top 22), defBody (top 22), defScope (top 22), [], []⟩
def dd12 : He.DefD := ⟨("_law_cell", none), "_law_cell", "_law_cell", defArgs (top 24), defBody (top 24), defScope (top 24), [], []⟩
def dd13 : He.DefD := ⟨("_law_box", none), "_law_box", "_law_box", defArgs (top 25), defBody (top 25), defScope (top 25), [], []⟩
def dd14 : He.DefD := ⟨("_law_take", none), "_law_take", "_law_take", defArgs (top 26), defBody (top 26), defScope (top 26), [], []⟩
def dd15 : He.DefD := ⟨("_law_bags", none), "_law_bags", "_law_bags", defArgs (top 27), defBody (top 27), defScope (top 27), [], []⟩
def dd16 : He.DefD := ⟨("_law_is_number", none), "_law_is_number", "_law_is_number", defArgs (top 28), defBody (top 28), defScope (top 28), [], []⟩
def dd17 : He.DefD := ⟨("_law_is_bag", none), "_law_is_bag", "_law_is_bag", defArgs (top 29), defBody (top 29), defScope (top 29), [], []⟩
def dd18 : He.DefD := ⟨("_law_odd", none), "_law_odd", "_law_odd", defArgs (top 30), defBody (top 30), defScope (top 30), [], []⟩
def dd19 : He.DefD := ⟨("_law_number", none), "_law_number", "_law_number", defArgs (top 31), defBody (top 31), defScope (top 31), [], []⟩
def dd20 : He.DefD := ⟨("_law_bag", none), "_law_bag", "_law_bag", defArgs (top 32), defBody (top 32), defScope (top 32), [], []⟩
def dd21 : He.DefD := ⟨("_law_near", none), "_law_near", "_law_near", defArgs (top 33), defBody (top 33), defScope (top 33), [], []⟩
def dd22 : He.DefD := ⟨("_law_due", none), "_law_due", "_law_due", defArgs (top 34), defBody (top 34), defScope (top 34), [], []⟩
def dd23 : He.DefD := ⟨("_law_call", none), "_law_call", "_law_call", defArgs (top 35), defBody (top 35), defScope (top 35), [], []⟩
def dd24 : He.DefD := ⟨("_law_named", none), "_law_named", "_law_named", defArgs (top 36), defBody (top 36), defScope (top 36), [], []⟩
def dd25 : He.DefD := ⟨("_law_told", none), "_law_told", "_law_told", defArgs (top 37), defBody (top 37), defScope (top 37), [], []⟩
def dd26 : He.DefD := ⟨("_law_question", none), "_law_question", "_law_question", defArgs (top 38), defBody (top 38), defScope (top 38), [], []⟩
def dd27 : He.DefD := ⟨("_law_answers_right", none), "_law_answers_right", "_law_answers_right", defArgs (top 39), defBody (top 39), defScope (top 39), [], []⟩
def dd28 : He.DefD := ⟨("_law_there_and_back", none), "_law_there_and_back", "_law_there_and_back", defArgs (top 40), defBody (top 40), defScope (top 40), [], []⟩
def dd29 : He.DefD := ⟨("law", none), "law", "law", defArgs (top 41), defBody (top 41), defScope (top 41), [], []⟩
def dd30 : He.DefD := ⟨("InvalidValues", some "__init__"), "__init__", "InvalidValues.__init__", defArgs (meth (top 3) 0), defBody (meth (top 3) 0), defScope (meth (top 3) 0), [], []⟩
def dd31 : He.DefD := ⟨("InvalidSize", some "__init__"), "__init__", "InvalidSize.__init__", defArgs (meth (top 4) 0), defBody (meth (top 4) 0), defScope (meth (top 4) 0), [], []⟩
def dd32 : He.DefD := ⟨("InvalidBag", some "__init__"), "__init__", "InvalidBag.__init__", defArgs (meth (top 5) 0), defBody (meth (top 5) 0), defScope (meth (top 5) 0), [], []⟩
def dd33 : He.DefD := ⟨("InvalidValue", some "__init__"), "__init__", "InvalidValue.__init__", defArgs (meth (top 6) 0), defBody (meth (top 6) 0), defScope (meth (top 6) 0), [], []⟩
def dd34 : He.DefD := ⟨("NotInBag", some "__init__"), "__init__", "NotInBag.__init__", defArgs (meth (top 15) 0), defBody (meth (top 15) 0), defScope (meth (top 15) 0), [], []⟩
def fnL : List He.DefD := [dd0, dd1, dd2, dd3, dd4, dd5, dd6, dd7, dd8, dd9, dd10, dd11, dd12, dd13, dd14, dd15, dd16, dd17, dd18, dd19, dd20, dd21, dd22, dd23, dd24, dd25, dd26, dd27, dd28, dd29, dd30, dd31, dd32, dd33, dd34]
def faL : List He.Fa := [.glo "is_whole", .glo "is_between", .glo "is_bag", .glo "check_values", .glo "check_size", .glo "check_value", .glo "bags", .glo "count_bags", .glo "bag_index", .glo "_check_bag_and_value", .glo "added", .glo "removed", .glo "_law_cell", .glo "_law_box", .glo "_law_take", .glo "_law_bags", .glo "_law_is_number", .glo "_law_is_bag", .glo "_law_odd", .glo "_law_number", .glo "_law_bag", .glo "_law_near", .glo "_law_due", .glo "_law_call", .glo "_law_named", .glo "_law_told", .glo "_law_question", .glo "_law_answers_right", .glo "_law_there_and_back", .glo "law", .free "isinstance", .free "tuple", .free "list", .free "int", .free "bool", .free "len", .free "all", .free "any", .free "sum", .free "min", .free "max", .free "abs", .free "sorted", .free "range", .free "enumerate", .free "zip", .free "dict", .free "repr", .glo "InvalidValues", .glo "InvalidSize", .glo "InvalidBag", .glo "InvalidValue", .glo "NotInBag"]
def bsL : List (Str × String) := [("comb", "math.comb")]
def loose0 : List Str := ["__name__", "BoardError", "InvalidValues", "InvalidSize", "InvalidBag", "InvalidValue", "is_whole", "is_between", "is_bag", "check_values", "check_size", "check_value", "NotInBag", "bags", "count_bags", "bag_index", "_check_bag_and_value", "added", "removed", "_law_cell", "_law_box", "_law_take", "_law_bags", "_law_is_number", "_law_is_bag", "_law_odd", "_law_number", "_law_bag", "_law_near", "_law_due"]
def loose1 : List Str := ["_law_call", "_law_named", "_law_told", "_law_question", "_law_answers_right", "_law_there_and_back"]
def looseL : List Str := loose0 ++ loose1
abbrev RO : PySem.W.OpenRow := PySem.W.OpenLaw.row PySem.Challenge.rw_oneforone_k01_bags
abbrev hkL : PySem.W.Hook := hookZ 5 faL fnL bsL xsL nopL
def obL (s : PySem.W.SharedT) : He.AlD × Bool := (He.obsD faL fnL (fragZ 5 (HeadRun.getT s)), moreZ bsL xsL nopL (fragZ 5 (HeadRun.getT s)))
theorem obL_eq (s : PySem.W.SharedT) : obL s = hkL.obs s.abs := by
  have e : HeadRun.getT s = s.abs.heap.get? := funext (HeadRun.getT_eq s)
  unfold obL
  rw [e]
  rfl
theorem runL (w : World) : HeadRun.RunEqI RO (PySem.W.view RO.prog [0, 41]) hkL obL 4000 looseL w := by
  unfold HeadRun.RunEqI
  kernel_rfl

/-! ### calls by keywords, exceptions that none is, the first heap -/
theorem FunD.kbn0 {K : PySem.W.Frag} {x qual : Str} {params : Arguments} {body : List Stmt} {scope : Scope} {kws : List (Str × V)} {f : Addr} {fd : FuncData} {ps ks : List Str} (F : FunD K x qual params body scope [] kws f fd)
    (h : ∀ (kV doc pm : Value) (an : Option Addr) (cdv ct : Value) (ws : List Value), ws.length = ks.length → bindArgs (PySem.W.fnOf x qual params body scope .none kV doc pm an cdv ct) ⟨[], ks.zip ws⟩ = pure (ps.zip ws.reverse)) : KBn K fd ps 0 ks (fun _ ws => ws.reverse) (fun _ zs => zs.reverse) := by
  obtain ⟨oc, od, dV, kV, doc, pm, an, cdv, ct, osl, rfl, lk, hcd, hD, hK⟩ := F.ex
  rcases hD with ⟨_, rfl⟩ | ⟨e, _⟩
  · refine ⟨fun s us ws _ hu hw => ?_, fun r rz => rz.reverse⟩
    cases us with
    | nil => exact .of_eq (h kV doc pm an cdv ct ws hw)
    | cons u us => cases hu
  · exact absurd rfl e
def CXE : CXT := fun outer H s E e s' => ∃ (P : Program) (w : World), L2.CX P w outer H s E e s'
theorem CXE_no (H : Hp) (s : Shared) (e : Value) (s' : Shared) (h : CXE [] H s (fun _ _ _ => False) e s') : False := by
  obtain ⟨P, w, a, B, H', cls, d, _, _, _, _, _, _, _, q⟩ := h
  exact q
theorem fng_ex {P : Program} {wo : World} {K : PySem.W.Frag} {mg : Str → Option Value} {base : Heap} {cA : Str → Addr} {k n : Nat} {f : Addr} {fd : FuncData} {ps : List Str} {op : Op} (h : ∀ lk fk, FnG P wo K mg base (L2.CX P wo) k f fd ps (spF ⟨K, wo, cA, lk, fk⟩ op n)) :
    FnG P wo K mg base CXE k f fd ps (fun vs H Q E => ∃ lk fk, spF ⟨K, wo, cA, lk, fk⟩ op n vs H Q E) :=
  ⟨fun vs H Q E ⟨lk, fk, q⟩ => (h lk fk).len vs H Q E q, fun A outer s H args us vs Q E hr he hb hv ⟨lk, fk, q⟩ => codeAny_mono ((h lk fk).run A outer s H args us vs Q E hr he hb hv q) fun r s' hq => by
    cases r with
    | error e => exact ⟨P, wo, hq⟩
    | ok fl => cases fl <;> exact hq⟩
theorem repL_ints {w : Wd} {I H : Hp} : ∀ ns : List Int, RepL w I H (dI ns) (ns.map V.int) []
  | [] => by
    rw [dI_nil, RepL]
    exact ⟨rfl, rfl⟩
  | n :: ns => by
    rw [dI_cons, RepL]
    refine ⟨.int n, ns.map V.int, [], [], rfl, rfl, ?_, repL_ints ns⟩
    rw [Rep]
    exact ⟨rfl, rfl⟩
theorem entry {K : PySem.W.Frag} {wo : World} {cA : Str → Addr} {H : Hp} {a : Addr} {ns : List Int} (hl : ns.length ≤ 1000) (hS : SqL K H a (ns.map V.int)) : spF ⟨K, wo, cA, fun _ => none, fun _ => none⟩ op_law 1 [.ref a] H (fun v _ => v = .bl true) (fun _ _ _ => False) := by
  refine ⟨rfl, H, fun _ => none, [scD ns], ?_, ?_⟩
  · refine ⟨⟨[], ?_, List.nodup_nil, List.forall_mem_nil _⟩, fun b o e => ⟨e, rfl⟩, nofun, nofun, nofun, nofun⟩
    rw [RepL]
    refine ⟨.ref a, [], [], [], rfl, rfl, ?_, ?_⟩
    · unfold scD
      rw [Rep]
      exact ⟨a, ns.map V.int, [], rfl, repL_ints ns, trivial, Or.inr ⟨rfl, hS, rfl⟩⟩
    · rw [RepL]
      exact ⟨rfl, rfl⟩
  · rw [law_ok ns hl]
    intro z I' H' _ hs
    obtain ⟨fp, r, _, _⟩ := hs.ex
    rw [RepL] at r
    obtain ⟨v, us, f1, f2, e, _, r1, _⟩ := r
    cases e
    rw [Rep] at r1
    exact r1.1

theorem factsL {P : Program} {w : World} {K : PySem.W.Frag} {h : Heap} {mg : Str → Option Value} {fL : Addr} (X : K.In h) (G : h.Ns mainGlobals mg) (hfa : mg ("law" : Str) = some (.ref fL)) (c : He.SaysD faL fnL K) (hb : moreZ bsL xsL nopL K = true) :
    ∃ fd : FuncData, (∀ (s : Shared) (v : Value), BindsTo s fd ⟨[v], []⟩ [("script", v)]) ∧ ∀ base : Heap, K.In base → base.Ns mainGlobals mg → FnG P w K mg base CXE 9 fL fd ["script"] (fun vs H Q E => ∃ lk fk, spF ⟨K, w, He.ga K, lk, fk⟩ op_law 1 vs H Q E) := by
  obtain ⟨e0, F0⟩ := c.def_ 0 (d := dd0) rfl
  obtain ⟨e1, F1⟩ := c.def_ 1 (d := dd1) rfl
  obtain ⟨e2, F2⟩ := c.def_ 2 (d := dd2) rfl
  obtain ⟨e3, F3⟩ := c.def_ 3 (d := dd3) rfl
  obtain ⟨e4, F4⟩ := c.def_ 4 (d := dd4) rfl
  obtain ⟨e5, F5⟩ := c.def_ 5 (d := dd5) rfl
  obtain ⟨e6, F6⟩ := c.def_ 6 (d := dd6) rfl
  obtain ⟨e7, F7⟩ := c.def_ 7 (d := dd7) rfl
  obtain ⟨e8, F8⟩ := c.def_ 8 (d := dd8) rfl
  obtain ⟨e9, F9⟩ := c.def_ 9 (d := dd9) rfl
  obtain ⟨e10, F10⟩ := c.def_ 10 (d := dd10) rfl
  obtain ⟨e11, F11⟩ := c.def_ 11 (d := dd11) rfl
  obtain ⟨e12, F12⟩ := c.def_ 12 (d := dd12) rfl
  obtain ⟨e13, F13⟩ := c.def_ 13 (d := dd13) rfl
  obtain ⟨e14, F14⟩ := c.def_ 14 (d := dd14) rfl
  obtain ⟨e15, F15⟩ := c.def_ 15 (d := dd15) rfl
  obtain ⟨e16, F16⟩ := c.def_ 16 (d := dd16) rfl
  obtain ⟨e17, F17⟩ := c.def_ 17 (d := dd17) rfl
  obtain ⟨e18, F18⟩ := c.def_ 18 (d := dd18) rfl
  obtain ⟨e19, F19⟩ := c.def_ 19 (d := dd19) rfl
  obtain ⟨e20, F20⟩ := c.def_ 20 (d := dd20) rfl
  obtain ⟨e21, F21⟩ := c.def_ 21 (d := dd21) rfl
  obtain ⟨e22, F22⟩ := c.def_ 22 (d := dd22) rfl
  obtain ⟨e23, F23⟩ := c.def_ 23 (d := dd23) rfl
  obtain ⟨e24, F24⟩ := c.def_ 24 (d := dd24) rfl
  obtain ⟨e25, F25⟩ := c.def_ 25 (d := dd25) rfl
  obtain ⟨e26, F26⟩ := c.def_ 26 (d := dd26) rfl
  obtain ⟨e27, F27⟩ := c.def_ 27 (d := dd27) rfl
  obtain ⟨e28, F28⟩ := c.def_ 28 (d := dd28) rfl
  obtain ⟨e29, F29⟩ := c.def_ 29 (d := dd29) rfl
  obtain ⟨e30, F30⟩ := c.def_ 30 (d := dd30) rfl
  obtain ⟨e31, F31⟩ := c.def_ 31 (d := dd31) rfl
  obtain ⟨e32, F32⟩ := c.def_ 32 (d := dd32) rfl
  obtain ⟨e33, F33⟩ := c.def_ 33 (d := dd33) rfl
  obtain ⟨e34, F34⟩ := c.def_ 34 (d := dd34) rfl
  have e := hfa.symm.trans (He.glo_ok X G (c.fact 29 (f := .glo "law") rfl))
  cases e
  have bl := FunD.bindsA (ps := ["script"]) F29 fun _ _ _ _ _ _ us hl => match us, hl with | [_], _ => rfl
  refine ⟨e29, fun s v => bl s [v] rfl, fun base _ _ => fng_ex fun lk0 fk0 => ?_⟩
  obtain ⟨hbb, hb⟩ := Bool.and_eq_true_iff.mp hb
  obtain ⟨hbx, hb⟩ := Bool.and_eq_true_iff.mp hb
  obtain ⟨hbn, hbs⟩ := Bool.and_eq_true_iff.mp hb
  have D : Ob K mg (He.ga K) := ⟨sysB_ok hbs, noB_ok hbn, xsB_ok hbx (by simp [xsL]), He.glo_ok X G (c.fact 48 (f := .glo "InvalidValues") rfl), xsB_ok hbx (by simp [xsL]), He.glo_ok X G (c.fact 49 (f := .glo "InvalidSize") rfl), xsB_ok hbx (by simp [xsL]), He.glo_ok X G (c.fact 50 (f := .glo "InvalidBag") rfl), xsB_ok hbx (by simp [xsL]), He.glo_ok X G (c.fact 51 (f := .glo "InvalidValue") rfl), xsB_ok hbx (by simp [xsL]), He.glo_ok X G (c.fact 52 (f := .glo "NotInBag") rfl)⟩
  have B : Bl mg := ⟨He.free_ok X G (c.fact 30 (f := .free "isinstance") rfl), He.free_ok X G (c.fact 31 (f := .free "tuple") rfl), He.free_ok X G (c.fact 32 (f := .free "list") rfl), He.free_ok X G (c.fact 33 (f := .free "int") rfl), He.free_ok X G (c.fact 34 (f := .free "bool") rfl), He.free_ok X G (c.fact 35 (f := .free "len") rfl), He.free_ok X G (c.fact 36 (f := .free "all") rfl), He.free_ok X G (c.fact 37 (f := .free "any") rfl), He.free_ok X G (c.fact 38 (f := .free "sum") rfl), He.free_ok X G (c.fact 39 (f := .free "min") rfl), He.free_ok X G (c.fact 40 (f := .free "max") rfl), He.free_ok X G (c.fact 41 (f := .free "abs") rfl), He.free_ok X G (c.fact 42 (f := .free "sorted") rfl), He.free_ok X G (c.fact 43 (f := .free "range") rfl), He.free_ok X G (c.fact 44 (f := .free "enumerate") rfl), He.free_ok X G (c.fact 45 (f := .free "zip") rfl), He.free_ok X G (c.fact 46 (f := .free "dict") rfl), He.free_ok X G (c.fact 47 (f := .free "repr") rfl), builtB_ok X G hbb (List.mem_singleton.mpr rfl)⟩
  have b13 : Binds K e13 ["great"] [] := F13.bindsN fun _ _ _ _ _ _ us hl => match us, hl with | [_], _ => rfl
  have c__law_box : ∀ lk fk, Cl P w K mg base ⟨K, w, He.ga K, lk, fk⟩ 1 "_law_box" 1 op__law_box dfl__law_box ks__law_box := fun lk fk => ⟨_, e13, ["great"], rfl, k__law_box D B F13 , F13.kp, (He.glo_ok X G (c.fact 13 (f := .glo "_law_box") rfl)), fun dvs h => by rw [List.mem_singleton.mp h]; exact ⟨[], .nil, b13⟩, fun h => absurd rfl h⟩
  have b12 : Binds K e12 ["script", "k"] [] := F12.bindsN fun _ _ _ _ _ _ us hl => match us, hl with | [_, _], _ => rfl
  have c__law_cell : ∀ lk fk, Cl P w K mg base ⟨K, w, He.ga K, lk, fk⟩ 1 "_law_cell" 2 op__law_cell dfl__law_cell ks__law_cell := fun lk fk => ⟨_, e12, ["script", "k"], rfl, k__law_cell D B F12 , F12.kp, (He.glo_ok X G (c.fact 12 (f := .glo "_law_cell") rfl)), fun dvs h => by rw [List.mem_singleton.mp h]; exact ⟨[], .nil, b12⟩, fun h => absurd rfl h⟩
  have b14 : Binds K e14 ["box", "many"] [] := F14.bindsN fun _ _ _ _ _ _ us hl => match us, hl with | [_, _], _ => rfl
  have c__law_take : ∀ lk fk, Cl P w K mg base ⟨K, w, He.ga K, lk, fk⟩ 1 "_law_take" 2 op__law_take dfl__law_take ks__law_take := fun lk fk => ⟨_, e14, ["box", "many"], rfl, k__law_take D B F14 , F14.kp, (He.glo_ok X G (c.fact 14 (f := .glo "_law_take") rfl)), fun dvs h => by rw [List.mem_singleton.mp h]; exact ⟨[], .nil, b14⟩, fun h => absurd rfl h⟩
  have b18 : Binds K e18 ["box"] [] := F18.bindsN fun _ _ _ _ _ _ us hl => match us, hl with | [_], _ => rfl
  have c__law_odd : ∀ lk fk, Cl P w K mg base ⟨K, w, He.ga K, lk, fk⟩ 2 "_law_odd" 1 op__law_odd dfl__law_odd ks__law_odd := fun lk fk => ⟨_, e18, ["box"], rfl, k__law_odd D B F18 c__law_take, F18.kp, (He.glo_ok X G (c.fact 18 (f := .glo "_law_odd") rfl)), fun dvs h => by rw [List.mem_singleton.mp h]; exact ⟨[], .nil, b18⟩, fun h => absurd rfl h⟩
  have b19 : Binds K e19 ["box", "least", "most"] [] := F19.bindsN fun _ _ _ _ _ _ us hl => match us, hl with | [_, _, _], _ => rfl
  have c__law_number : ∀ lk fk, Cl P w K mg base ⟨K, w, He.ga K, lk, fk⟩ 3 "_law_number" 3 op__law_number dfl__law_number ks__law_number := fun lk fk => ⟨_, e19, ["box", "least", "most"], rfl, k__law_number D B F19 c__law_take c__law_odd, F19.kp, (He.glo_ok X G (c.fact 19 (f := .glo "_law_number") rfl)), fun dvs h => by rw [List.mem_singleton.mp h]; exact ⟨[], .nil, b19⟩, fun h => absurd rfl h⟩
  have b16 : Binds K e16 ["thing", "least", "most"] [] := F16.bindsN fun _ _ _ _ _ _ us hl => match us, hl with | [_, _, _], _ => rfl
  have c__law_is_number : ∀ lk fk, Cl P w K mg base ⟨K, w, He.ga K, lk, fk⟩ 1 "_law_is_number" 3 op__law_is_number dfl__law_is_number ks__law_is_number := fun lk fk => ⟨_, e16, ["thing", "least", "most"], rfl, k__law_is_number D B F16 , F16.kp, (He.glo_ok X G (c.fact 16 (f := .glo "_law_is_number") rfl)), fun dvs h => by rw [List.mem_singleton.mp h]; exact ⟨[], .nil, b16⟩, fun h => absurd rfl h⟩
  have b20 : Binds K e20 ["box", "values"] [] := F20.bindsN fun _ _ _ _ _ _ us hl => match us, hl with | [_, _], _ => rfl
  have c__law_bag : ∀ lk fk, Cl P w K mg base ⟨K, w, He.ga K, lk, fk⟩ 2 "_law_bag" 2 op__law_bag dfl__law_bag ks__law_bag := fun lk fk => ⟨_, e20, ["box", "values"], rfl, k__law_bag D B F20 c__law_take, F20.kp, (He.glo_ok X G (c.fact 20 (f := .glo "_law_bag") rfl)), fun dvs h => by rw [List.mem_singleton.mp h]; exact ⟨[], .nil, b20⟩, fun h => absurd rfl h⟩
  have b21 : Binds K e21 ["box", "values"] [] := F21.bindsN fun _ _ _ _ _ _ us hl => match us, hl with | [_, _], _ => rfl
  have c__law_near : ∀ lk fk, Cl P w K mg base ⟨K, w, He.ga K, lk, fk⟩ 3 "_law_near" 2 op__law_near dfl__law_near ks__law_near := fun lk fk => ⟨_, e21, ["box", "values"], rfl, k__law_near D B F21 c__law_bag c__law_take c__law_odd, F21.kp, (He.glo_ok X G (c.fact 21 (f := .glo "_law_near") rfl)), fun dvs h => by rw [List.mem_singleton.mp h]; exact ⟨[], .nil, b21⟩, fun h => absurd rfl h⟩
  have b26 : Binds K e26 ["box"] [] := F26.bindsN fun _ _ _ _ _ _ us hl => match us, hl with | [_], _ => rfl
  have c__law_question : ∀ lk fk, Cl P w K mg base ⟨K, w, He.ga K, lk, fk⟩ 4 "_law_question" 1 op__law_question dfl__law_question ks__law_question := fun lk fk => ⟨_, e26, ["box"], rfl, k__law_question D B F26 c__law_take c__law_number c__law_is_number c__law_near, F26.kp, (He.glo_ok X G (c.fact 26 (f := .glo "_law_question") rfl)), fun dvs h => by rw [List.mem_singleton.mp h]; exact ⟨[], .nil, b26⟩, fun h => absurd rfl h⟩
  have b15 : Binds K e15 ["values", "size"] [] := F15.bindsN fun _ _ _ _ _ _ us hl => match us, hl with | [_, _], _ => rfl
  have c__law_bags : ∀ lk fk, Cl P w K mg base ⟨K, w, He.ga K, lk, fk⟩ 1 "_law_bags" 2 op__law_bags dfl__law_bags ks__law_bags := fun lk fk => ⟨_, e15, ["values", "size"], rfl, k__law_bags D B F15 , F15.kp, (He.glo_ok X G (c.fact 15 (f := .glo "_law_bags") rfl)), fun dvs h => by rw [List.mem_singleton.mp h]; exact ⟨[], .nil, b15⟩, fun h => absurd rfl h⟩
  have b17 : Binds K e17 ["values", "thing"] [] := F17.bindsN fun _ _ _ _ _ _ us hl => match us, hl with | [_, _], _ => rfl
  have c__law_is_bag : ∀ lk fk, Cl P w K mg base ⟨K, w, He.ga K, lk, fk⟩ 2 "_law_is_bag" 2 op__law_is_bag dfl__law_is_bag ks__law_is_bag := fun lk fk => ⟨_, e17, ["values", "thing"], rfl, k__law_is_bag D B F17 c__law_is_number, F17.kp, (He.glo_ok X G (c.fact 17 (f := .glo "_law_is_bag") rfl)), fun dvs h => by rw [List.mem_singleton.mp h]; exact ⟨[], .nil, b17⟩, fun h => absurd rfl h⟩
  have b22 : Binds K e22 ["way", "one", "other"] [] := F22.bindsN fun _ _ _ _ _ _ us hl => match us, hl with | [_, _, _], _ => rfl
  have c__law_due : ∀ lk fk, Cl P w K mg base ⟨K, w, He.ga K, lk, fk⟩ 3 "_law_due" 3 op__law_due dfl__law_due ks__law_due := fun lk fk => ⟨_, e22, ["way", "one", "other"], rfl, k__law_due D B F22 c__law_is_number c__law_bags c__law_is_bag, F22.kp, (He.glo_ok X G (c.fact 22 (f := .glo "_law_due") rfl)), fun dvs h => by rw [List.mem_singleton.mp h]; exact ⟨[], .nil, b22⟩, fun h => absurd rfl h⟩
  have b30 : Binds K e30 ["self", "given"] [] := F30.bindsN fun _ _ _ _ _ _ us hl => match us, hl with | [_, _], _ => rfl
  have x_InvalidValues : ∀ lk fk, Ec P w K mg base ⟨K, w, He.ga K, lk, fk⟩ 1 "InvalidValues" ["given"] := fun lk fk => ⟨_, e30, ["self", "given"], D.e_InvalidValues.oex, D.e_InvalidValues.ini, D.e_InvalidValues.fn, ki_InvalidValues D F30, b30, D.g_InvalidValues⟩
  have b0 : Binds K e0 ["value"] [] := F0.bindsN fun _ _ _ _ _ _ us hl => match us, hl with | [_], _ => rfl
  have c_is_whole : ∀ lk fk, Cl P w K mg base ⟨K, w, He.ga K, lk, fk⟩ 1 "is_whole" 1 op_is_whole dfl_is_whole ks_is_whole := fun lk fk => ⟨_, e0, ["value"], rfl, k_is_whole D B F0 , F0.kp, (He.glo_ok X G (c.fact 0 (f := .glo "is_whole") rfl)), fun dvs h => by rw [List.mem_singleton.mp h]; exact ⟨[], .nil, b0⟩, fun h => absurd rfl h⟩
  have b1 : Binds K e1 ["value", "least", "most"] [] := F1.bindsN fun _ _ _ _ _ _ us hl => match us, hl with | [_, _, _], _ => rfl
  have c_is_between : ∀ lk fk, Cl P w K mg base ⟨K, w, He.ga K, lk, fk⟩ 2 "is_between" 3 op_is_between dfl_is_between ks_is_between := fun lk fk => ⟨_, e1, ["value", "least", "most"], rfl, k_is_between D B F1 c_is_whole, F1.kp, (He.glo_ok X G (c.fact 1 (f := .glo "is_between") rfl)), fun dvs h => by rw [List.mem_singleton.mp h]; exact ⟨[], .nil, b1⟩, fun h => absurd rfl h⟩
  have b3 : Binds K e3 ["values"] [] := F3.bindsN fun _ _ _ _ _ _ us hl => match us, hl with | [_], _ => rfl
  have c_check_values : ∀ lk fk, Cl P w K mg base ⟨K, w, He.ga K, lk, fk⟩ 3 "check_values" 1 op_check_values dfl_check_values ks_check_values := fun lk fk => ⟨_, e3, ["values"], rfl, k_check_values D B F3 x_InvalidValues c_is_between, F3.kp, (He.glo_ok X G (c.fact 3 (f := .glo "check_values") rfl)), fun dvs h => by rw [List.mem_singleton.mp h]; exact ⟨[], .nil, b3⟩, fun h => absurd rfl h⟩
  have b31 : Binds K e31 ["self", "given"] [] := F31.bindsN fun _ _ _ _ _ _ us hl => match us, hl with | [_, _], _ => rfl
  have x_InvalidSize : ∀ lk fk, Ec P w K mg base ⟨K, w, He.ga K, lk, fk⟩ 1 "InvalidSize" ["given"] := fun lk fk => ⟨_, e31, ["self", "given"], D.e_InvalidSize.oex, D.e_InvalidSize.ini, D.e_InvalidSize.fn, ki_InvalidSize D F31, b31, D.g_InvalidSize⟩
  have b4 : Binds K e4 ["size", "least", "most"] [] := F4.bindsN fun _ _ _ _ _ _ us hl => match us, hl with | [_, _, _], _ => rfl
  have c_check_size : ∀ lk fk, Cl P w K mg base ⟨K, w, He.ga K, lk, fk⟩ 3 "check_size" 3 op_check_size dfl_check_size ks_check_size := fun lk fk => ⟨_, e4, ["size", "least", "most"], rfl, k_check_size D B F4 x_InvalidSize c_is_between, F4.kp, (He.glo_ok X G (c.fact 4 (f := .glo "check_size") rfl)), fun dvs h => by rw [List.mem_singleton.mp h]; exact ⟨[], .nil, b4⟩, fun h => absurd rfl h⟩
  have b6 : Binds K e6 ["values", "size"] [] := F6.bindsN fun _ _ _ _ _ _ us hl => match us, hl with | [_, _], _ => rfl
  have c_bags : ∀ lk fk, Cl P w K mg base ⟨K, w, He.ga K, lk, fk⟩ 4 "bags" 2 op_bags dfl_bags ks_bags := fun lk fk => ⟨_, e6, ["values", "size"], rfl, k_bags D B F6 c_check_values c_check_size, F6.kp, (He.glo_ok X G (c.fact 6 (f := .glo "bags") rfl)), fun dvs h => by rw [List.mem_singleton.mp h]; exact ⟨[], .nil, b6⟩, fun _ => ⟨rfl, FunD.kbn0 F6 fun _ _ _ _ _ _ ws hl => match ws, hl with | [_, _], _ => rfl⟩⟩
  have b7 : Binds K e7 ["values", "size"] [] := F7.bindsN fun _ _ _ _ _ _ us hl => match us, hl with | [_, _], _ => rfl
  have c_count_bags : ∀ lk fk, Cl P w K mg base ⟨K, w, He.ga K, lk, fk⟩ 4 "count_bags" 2 op_count_bags dfl_count_bags ks_count_bags := fun lk fk => ⟨_, e7, ["values", "size"], rfl, k_count_bags D B F7 c_check_values c_check_size, F7.kp, (He.glo_ok X G (c.fact 7 (f := .glo "count_bags") rfl)), fun dvs h => by rw [List.mem_singleton.mp h]; exact ⟨[], .nil, b7⟩, fun _ => ⟨rfl, FunD.kbn0 F7 fun _ _ _ _ _ _ ws hl => match ws, hl with | [_, _], _ => rfl⟩⟩
  have b32 : Binds K e32 ["self", "given"] [] := F32.bindsN fun _ _ _ _ _ _ us hl => match us, hl with | [_, _], _ => rfl
  have x_InvalidBag : ∀ lk fk, Ec P w K mg base ⟨K, w, He.ga K, lk, fk⟩ 1 "InvalidBag" ["given"] := fun lk fk => ⟨_, e32, ["self", "given"], D.e_InvalidBag.oex, D.e_InvalidBag.ini, D.e_InvalidBag.fn, ki_InvalidBag D F32, b32, D.g_InvalidBag⟩
  have b2 : Binds K e2 ["value", "values", "least", "most"] [] := F2.bindsN fun _ _ _ _ _ _ us hl => match us, hl with | [_, _, _, _], _ => rfl
  have c_is_bag : ∀ lk fk, Cl P w K mg base ⟨K, w, He.ga K, lk, fk⟩ 3 "is_bag" 4 op_is_bag dfl_is_bag ks_is_bag := fun lk fk => ⟨_, e2, ["value", "values", "least", "most"], rfl, k_is_bag D B F2 c_is_between, F2.kp, (He.glo_ok X G (c.fact 2 (f := .glo "is_bag") rfl)), fun dvs h => by rw [List.mem_singleton.mp h]; exact ⟨[], .nil, b2⟩, fun h => absurd rfl h⟩
  have b8 : Binds K e8 ["values", "bag"] [] := F8.bindsN fun _ _ _ _ _ _ us hl => match us, hl with | [_, _], _ => rfl
  have c_bag_index : ∀ lk fk, Cl P w K mg base ⟨K, w, He.ga K, lk, fk⟩ 5 "bag_index" 2 op_bag_index dfl_bag_index ks_bag_index := fun lk fk => ⟨_, e8, ["values", "bag"], rfl, k_bag_index D B F8 x_InvalidBag c_check_values c_is_bag c_bags, F8.kp, (He.glo_ok X G (c.fact 8 (f := .glo "bag_index") rfl)), fun dvs h => by rw [List.mem_singleton.mp h]; exact ⟨[], .nil, b8⟩, fun _ => ⟨rfl, FunD.kbn0 F8 fun _ _ _ _ _ _ ws hl => match ws, hl with | [_, _], _ => rfl⟩⟩
  have b33 : Binds K e33 ["self", "given"] [] := F33.bindsN fun _ _ _ _ _ _ us hl => match us, hl with | [_, _], _ => rfl
  have x_InvalidValue : ∀ lk fk, Ec P w K mg base ⟨K, w, He.ga K, lk, fk⟩ 1 "InvalidValue" ["given"] := fun lk fk => ⟨_, e33, ["self", "given"], D.e_InvalidValue.oex, D.e_InvalidValue.ini, D.e_InvalidValue.fn, ki_InvalidValue D F33, b33, D.g_InvalidValue⟩
  have b5 : Binds K e5 ["value", "values"] [] := F5.bindsN fun _ _ _ _ _ _ us hl => match us, hl with | [_, _], _ => rfl
  have c_check_value : ∀ lk fk, Cl P w K mg base ⟨K, w, He.ga K, lk, fk⟩ 3 "check_value" 2 op_check_value dfl_check_value ks_check_value := fun lk fk => ⟨_, e5, ["value", "values"], rfl, k_check_value D B F5 x_InvalidValue c_is_between, F5.kp, (He.glo_ok X G (c.fact 5 (f := .glo "check_value") rfl)), fun dvs h => by rw [List.mem_singleton.mp h]; exact ⟨[], .nil, b5⟩, fun h => absurd rfl h⟩
  have b9 : Binds K e9 ["bag", "value"] [] := F9.bindsN fun _ _ _ _ _ _ us hl => match us, hl with | [_, _], _ => rfl
  have c__check_bag_and_value : ∀ lk fk, Cl P w K mg base ⟨K, w, He.ga K, lk, fk⟩ 4 "_check_bag_and_value" 2 op__check_bag_and_value dfl__check_bag_and_value ks__check_bag_and_value := fun lk fk => ⟨_, e9, ["bag", "value"], rfl, k__check_bag_and_value D B F9 x_InvalidBag c_is_bag c_check_value, F9.kp, (He.glo_ok X G (c.fact 9 (f := .glo "_check_bag_and_value") rfl)), fun dvs h => by rw [List.mem_singleton.mp h]; exact ⟨[], .nil, b9⟩, fun h => absurd rfl h⟩
  have b10 : Binds K e10 ["bag", "value"] [] := F10.bindsN fun _ _ _ _ _ _ us hl => match us, hl with | [_, _], _ => rfl
  have c_added : ∀ lk fk, Cl P w K mg base ⟨K, w, He.ga K, lk, fk⟩ 5 "added" 2 op_added dfl_added ks_added := fun lk fk => ⟨_, e10, ["bag", "value"], rfl, k_added D B F10 c__check_bag_and_value, F10.kp, (He.glo_ok X G (c.fact 10 (f := .glo "added") rfl)), fun dvs h => by rw [List.mem_singleton.mp h]; exact ⟨[], .nil, b10⟩, fun _ => ⟨rfl, FunD.kbn0 F10 fun _ _ _ _ _ _ ws hl => match ws, hl with | [_, _], _ => rfl⟩⟩
  have b34 : Binds K e34 ["self", "value"] [] := F34.bindsN fun _ _ _ _ _ _ us hl => match us, hl with | [_, _], _ => rfl
  have x_NotInBag : ∀ lk fk, Ec P w K mg base ⟨K, w, He.ga K, lk, fk⟩ 1 "NotInBag" ["value"] := fun lk fk => ⟨_, e34, ["self", "value"], D.e_NotInBag.oex, D.e_NotInBag.ini, D.e_NotInBag.fn, ki_NotInBag D F34, b34, D.g_NotInBag⟩
  have b11 : Binds K e11 ["bag", "value"] [] := F11.bindsN fun _ _ _ _ _ _ us hl => match us, hl with | [_, _], _ => rfl
  have c_removed : ∀ lk fk, Cl P w K mg base ⟨K, w, He.ga K, lk, fk⟩ 5 "removed" 2 op_removed dfl_removed ks_removed := fun lk fk => ⟨_, e11, ["bag", "value"], rfl, k_removed D B F11 x_NotInBag c__check_bag_and_value, F11.kp, (He.glo_ok X G (c.fact 11 (f := .glo "removed") rfl)), fun dvs h => by rw [List.mem_singleton.mp h]; exact ⟨[], .nil, b11⟩, fun _ => ⟨rfl, FunD.kbn0 F11 fun _ _ _ _ _ _ ws hl => match ws, hl with | [_, _], _ => rfl⟩⟩
  have b24 : Binds K e24 ["way", "one", "other"] [] := F24.bindsN fun _ _ _ _ _ _ us hl => match us, hl with | [_, _, _], _ => rfl
  have c__law_named : ∀ lk fk, Cl P w K mg base ⟨K, w, He.ga K, lk, fk⟩ 6 "_law_named" 3 op__law_named dfl__law_named ks__law_named := fun lk fk => ⟨_, e24, ["way", "one", "other"], rfl, k__law_named D B F24 c_bags c_count_bags c_bag_index c_added c_removed, F24.kp, (He.glo_ok X G (c.fact 24 (f := .glo "_law_named") rfl)), fun dvs h => by rw [List.mem_singleton.mp h]; exact ⟨[], .nil, b24⟩, fun h => absurd rfl h⟩
  have b23 : Binds K e23 ["way", "one", "other"] [] := F23.bindsN fun _ _ _ _ _ _ us hl => match us, hl with | [_, _, _], _ => rfl
  have c__law_call : ∀ lk fk, Cl P w K mg base ⟨K, w, He.ga K, lk, fk⟩ 6 "_law_call" 3 op__law_call dfl__law_call ks__law_call := fun lk fk => ⟨_, e23, ["way", "one", "other"], rfl, k__law_call D B F23 c_bags c_count_bags c_bag_index c_added c_removed, F23.kp, (He.glo_ok X G (c.fact 23 (f := .glo "_law_call") rfl)), fun dvs h => by rw [List.mem_singleton.mp h]; exact ⟨[], .nil, b23⟩, fun h => absurd rfl h⟩
  have b25 : Binds K e25 ["way", "one", "other", "named"] [] := F25.bindsN fun _ _ _ _ _ _ us hl => match us, hl with | [_, _, _, _], _ => rfl
  have c__law_told : ∀ lk fk, Cl P w K mg base ⟨K, w, He.ga K, lk, fk⟩ 7 "_law_told" 4 op__law_told dfl__law_told ks__law_told := fun lk fk => ⟨_, e25, ["way", "one", "other", "named"], rfl, k__law_told D B F25 c__law_named c__law_call, F25.kp, (He.glo_ok X G (c.fact 25 (f := .glo "_law_told") rfl)), fun dvs h => by rw [List.mem_singleton.mp h]; exact ⟨[], .nil, b25⟩, fun h => absurd rfl h⟩
  have b27 : Binds K e27 ["box", "question"] [] := F27.bindsN fun _ _ _ _ _ _ us hl => match us, hl with | [_, _], _ => rfl
  have c__law_answers_right : ∀ lk fk, Cl P w K mg base ⟨K, w, He.ga K, lk, fk⟩ 8 "_law_answers_right" 2 op__law_answers_right dfl__law_answers_right ks__law_answers_right := fun lk fk => ⟨_, e27, ["box", "question"], rfl, k__law_answers_right D B F27 c__law_take c__law_due c__law_told, F27.kp, (He.glo_ok X G (c.fact 27 (f := .glo "_law_answers_right") rfl)), fun dvs h => by rw [List.mem_singleton.mp h]; exact ⟨[], .nil, b27⟩, fun h => absurd rfl h⟩
  have b28 : Binds K e28 ["box", "values", "size"] [] := F28.bindsN fun _ _ _ _ _ _ us hl => match us, hl with | [_, _, _], _ => rfl
  have c__law_there_and_back : ∀ lk fk, Cl P w K mg base ⟨K, w, He.ga K, lk, fk⟩ 6 "_law_there_and_back" 3 op__law_there_and_back dfl__law_there_and_back ks__law_there_and_back := fun lk fk => ⟨_, e28, ["box", "values", "size"], rfl, k__law_there_and_back D B F28 c__law_bags c_bags c_count_bags c__law_take c_added c_bag_index c_removed, F28.kp, (He.glo_ok X G (c.fact 28 (f := .glo "_law_there_and_back") rfl)), fun dvs h => by rw [List.mem_singleton.mp h]; exact ⟨[], .nil, b28⟩, fun h => absurd rfl h⟩
  exact k_law D B F29 c__law_box c__law_cell c__law_take c__law_question c__law_answers_right c__law_there_and_back
end Z
open PySem PySem.W PySem.Calls PyProof.Rows
theorem PySem.Challenge.cw_oneforone_k01_bags_holds : PySem.Challenge.rw_oneforone_k01_bags.Holds := by
  w_on; o_law
  refine HeadRun.head_imp (r := OpenLaw.row PySem.Challenge.rw_oneforone_k01_bags) (q := view (OpenLaw.row PySem.Challenge.rw_oneforone_k01_bags).prog [0, 41]) (H := Z.hkL) (ob := Z.obL) (M := 4000) (loose := Z.looseL) (d := HandSHeadRun.topDef (OpenLaw.row PySem.Challenge.rw_oneforone_k01_bags).prog 41) (kwd := []) Z.obL_eq
    Z.runL (by kernel_rfl) (by kernel_rfl) (by kernel_rfl) (by rfl) (by first | assumption | decide +kernel) (by decide +kernel) ⟨rfl, rfl, rfl, rfl, rfl, by decide +kernel⟩ ?hw ?hc
  case hw => w_witness2
  case hc =>
    refine Z.walk_ofG (l := PySem.Challenge.rw_oneforone_k01_bags) (n := 63) (k := 9) (x := "script") (C := Z.CXE) rfl (by decide) (by kernel_rfl) ⟨⟨rfl, by decide, by decide⟩, rfl⟩ ?F Z.CXE_no
    intro w mg fa h Y G hmg0
    obtain ⟨K, KX, c, hb⟩ := Y
    have hmg : mg ("law" : PySem.Str) = some (.ref fa) := by
      have e : (HandSHeadRun.topDef (OpenLaw.row PySem.Challenge.rw_oneforone_k01_bags).prog 41).name = ("law" : PySem.Str) := by kernel_rfl
      rw [← e]
      exact hmg0
    obtain ⟨fd, hbi, hF⟩ := Z.factsL (P := (PySem.Challenge.rw_oneforone_k01_bags).prog) (w := w) KX G hmg c hb
    exact ⟨K, fd, _, KX, hbi, fun H a ns hl _ hS => ⟨fun _ => none, fun _ => none, Z.entry (Nat.le_trans hl (by decide)) hS⟩, hF⟩

