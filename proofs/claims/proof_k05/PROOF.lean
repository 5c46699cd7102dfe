import PyProof.Rows.All
import Wide.All
import OpenK.AllK
import Wide.FinOn
import HandS.ForMost
import HandS.Star
import HandS.SortInts
import HandS.Wide
import HandS.Evl
import HandS.IsInst
import HandS.Deep
import HandS.TupAny
import KE.DataFind
import HandS.Defaults
import HandS.CallSlots
import HandS.WordsExc
import HandS.Gcd
import HandS.SetFor
import HandS.Strs
import KE.KMathGC
import KE.DataMinMax
import HandS.Style
import KE.GoesEnum
import HandS.Iter
import HandS.Dict
import KE.KDictList
import KE.GoesZip
import KE.KDictZip
import HandS.Codes
import HandS.Words
import HandS.HeadEnd
import KE.KStateDown
import HandS.Base
import HandS.Call
import HandS.Ends
import HandS.More
import HandS.Head0
import HandS.Head1
import HandS.Head2
import HandS.HeadHook1
import HandS.HeadHook2
import KE.HD3
import PySem.Challenge.RW_oneforone_k05_matches
set_option Elab.async false
set_option linter.all false
set_option maxRecDepth 100000
set_option maxHeartbeats 4000000
/-! ZA: data as trees with owners; what a heap must hold for them; the state of a def. -/
namespace Z
open PySem PySem.Spec PyProof.Rows L2

/-- the sort of a node; o: owned (it may be changed by whoever holds it), else it stays as it is for ever -/
inductive Tag where
  | tup | tux | scr | lst (o : Bool) | dk (o : Bool) (ks : List Key) | dt (o : Bool) (ks : List (List Key)) | ins (o : Bool) (c : Str) (ns : List Str)
  deriving DecidableEq
/-- data; any: no claim -/
inductive D where
  | any | non | bl (b : Bool) | int (i : Int) | str (s : Str) | node (t : Tag) (xs : List D)

def Tag.own : Tag → Bool
  | .tup => false
  | .tux => false
  | .scr => false
  | .lst o => o
  | .dk o _ => o
  | .dt o _ => o
  | .ins o _ _ => o
def Tag.frz : Tag → Tag
  | .tup => .tup
  | .tux => .tux
  | .scr => .scr
  | .lst _ => .lst false
  | .dk _ ks => .dk false ks
  | .dt _ ks => .dt false ks
  | .ins _ c ns => .ins false c ns
mutual
def D.frz : D → D
  | .node t xs => .node t.frz (frzL xs)
  | d => d
def frzL : List D → List D
  | [] => []
  | d :: ds => d.frz :: frzL ds
end
theorem frzL_eq : ∀ xs : List D, frzL xs = xs.map D.frz
  | [] => rfl
  | d :: ds => by rw [frzL, frzL_eq ds]; rfl

/-- the world of a law: K the written part, cA: where a class stands -/
structure Wd where
  K : PySem.W.Frag
  cA : Str → Addr
  /-- what is locked: dicts that are gone through -/
  lk : Hp
  /-- what is set aside: lists that are gone through -/
  fk : Hp

/-- a tuple that is known to have no dict of its own -/
def Tux (H : Hp) (a : Addr) (vs : List V) : Prop := ∃ od : Obj, H a = some (.frz od (.tup vs)) ∧ od.dict = none
theorem Tux.sqt {K : PySem.W.Frag} {H : Hp} {a : Addr} {vs : List V} (h : Tux H a vs) : SqT K H a vs := let ⟨od, h, _⟩ := h; Or.inl (Or.inr ⟨od, h⟩)
/-- an owned node's object -/
def OwnAt (w : Wd) (H : Hp) (a : Addr) : Tag → List V → Prop
  | .tup, vs => H a = some (.tup vs)
  | .tux, vs => Tux H a vs
  | .scr, vs => H a = some (.lst vs)
  | .lst _, vs => H a = some (.lst vs)
  | .dk _ ks, vs => H a = some (.dK (ks.zip vs))
  | .dt _ ks, vs => H a = some (.dT (ks.zip vs))
  | .ins _ c ns, vs => ∃ dx, H a = some (.ins (w.cA c) dx (ns.zip vs))
/-- a frozen node's object, in the part that stays -/
def FroAt (w : Wd) (I : Hp) (a : Addr) : Tag → List V → Prop
  | .tup, vs => I a = some (.tup vs)
  | .tux, vs => Tux I a vs
  | .scr, vs => SqL w.K I a vs
  | .lst _, vs => I a = some (.lst vs)
  | .dk _ ks, vs => Rd I a (.dK (ks.zip vs))
  | .dt _ ks, vs => Rd I a (.dT (ks.zip vs))
  | .ins _ c ns, vs => ∃ dx, I a = some (.ins (w.cA c) dx (ns.zip vs))
/-- as many children as the tag names -/
def Tag.fits : Tag → Nat → Prop
  | .tup, _ => True
  | .tux, _ => True
  | .scr, _ => True
  | .lst _, _ => True
  | .dk _ ks, n => ks.length = n
  | .dt _ ks, n => ks.length = n
  | .ins _ _ ns, n => ns.length = n

mutual
/-- v stands for d; fp: the addresses of its owned nodes -/
def Rep (w : Wd) (I H : Hp) : D → V → List Addr → Prop
  | .any, _, fp => fp = []
  | .non, v, fp => v = .non ∧ fp = []
  | .bl b, v, fp => v = .bl b ∧ fp = []
  | .int i, v, fp => v = .int i ∧ fp = []
  | .str s, v, fp => v = .str s ∧ fp = []
  | .node t xs, v, fp => ∃ a vs fp', v = .ref a ∧ RepL w I H xs vs fp' ∧ t.fits vs.length ∧
      ((t.own = true ∧ OwnAt w H a t vs ∧ fp = a :: fp') ∨ (t.own = false ∧ FroAt w I a t vs ∧ fp = fp'))
def RepL (w : Wd) (I H : Hp) : List D → List V → List Addr → Prop
  | [], vs, fp => vs = [] ∧ fp = []
  | d :: ds, vs, fp => ∃ v us f1 f2, vs = v :: us ∧ fp = f1 ++ f2 ∧ Rep w I H d v f1 ∧ RepL w I H ds us f2
end

def Le (I J : Hp) : Prop := ∀ a o, I a = some o → J a = some o
theorem Le.refl (I : Hp) : Le I I := fun _ _ h => h
theorem Le.trans {I J L : Hp} (x : Le I J) (y : Le J L) : Le I L := fun a o h => y a o (x a o h)
theorem Le.new {H : Hp} {p : Addr} {o : HO} (h : H p = none) : Le H (upd H p o) := fun a u e => by
  rw [upd_ne (ne_of_none e h)]
  exact e
theorem le_rd {I J : Hp} {a : Addr} {u : HO} (e : Le I J) (h : Rd I a u) : Rd J a u := by
  rcases h with h | ⟨o, h⟩
  · exact Or.inl (e a _ h)
  · exact Or.inr ⟨o, e a _ h⟩
theorem le_l {K : PySem.W.Frag} {I J : Hp} {a : Addr} {xs : List V} (e : Le I J) (h : SqL K I a xs) : SqL K J a xs := by
  rcases h with h | h
  · exact Or.inl (le_rd e h)
  · exact Or.inr h
theorem le_t {K : PySem.W.Frag} {I J : Hp} {a : Addr} {xs : List V} (e : Le I J) (h : SqT K I a xs) : SqT K J a xs := by
  rcases h with h | h
  · exact Or.inl (le_rd e h)
  · exact Or.inr h
theorem FroAt.mono {w : Wd} {I J : Hp} {a : Addr} {t : Tag} {vs : List V} (e : Le I J) (h : FroAt w I a t vs) : FroAt w J a t vs := by
  cases t with
  | tup => exact e a _ h
  | tux => obtain ⟨od, h, n⟩ := h; exact ⟨od, e a _ h, n⟩
  | scr => exact le_l e h
  | lst o => exact e a _ h
  | dk o ks => exact le_rd e h
  | dt o ks => exact le_rd e h
  | ins o c ns => obtain ⟨dx, h⟩ := h; exact ⟨dx, e a _ h⟩
theorem OwnAt.at {w : Wd} {H J : Hp} {a : Addr} {t : Tag} {vs : List V} (h : OwnAt w H a t vs) (e : J a = H a) : OwnAt w J a t vs := by
  cases t with
  | tup => exact e.trans h
  | tux => obtain ⟨od, h, n⟩ := h; exact ⟨od, e.trans h, n⟩
  | scr => exact e.trans h
  | lst o => exact e.trans h
  | dk o ks => exact e.trans h
  | dt o ks => exact e.trans h
  | ins o c ns => obtain ⟨dx, h⟩ := h; exact ⟨dx, e.trans h⟩
theorem OwnAt.some {w : Wd} {H : Hp} {a : Addr} {t : Tag} {vs : List V} (h : OwnAt w H a t vs) : ∃ o, H a = some o := by
  cases t with
  | tup => exact ⟨_, h⟩
  | tux => obtain ⟨od, h, n⟩ := h; exact ⟨_, h⟩
  | scr => exact ⟨_, h⟩
  | lst o => exact ⟨_, h⟩
  | dk o ks => exact ⟨_, h⟩
  | dt o ks => exact ⟨_, h⟩
  | ins o c ns => obtain ⟨dx, h⟩ := h; exact ⟨_, h⟩
/-- an owned object becomes one of those that stay -/
theorem OwnAt.fro {w : Wd} {H : Hp} {a : Addr} {t : Tag} {vs : List V} (h : OwnAt w H a t vs) : FroAt w H a t.frz vs := by
  cases t with
  | tup => exact h
  | tux => exact h
  | scr => exact Or.inl (Or.inl h)
  | lst o => exact h
  | dk o ks => exact .inl h
  | dt o ks => exact .inl h
  | ins o c ns => exact h
theorem FroAt.frz {w : Wd} {H : Hp} {a : Addr} {t : Tag} {vs : List V} (h : FroAt w H a t vs) : FroAt w H a t.frz vs := by
  cases t <;> exact h
theorem Tag.fits_frz {t : Tag} {n : Nat} (h : t.fits n) : t.frz.fits n := by cases t <;> exact h
theorem Tag.own_frz (t : Tag) : t.frz.own = false := by cases t <;> rfl

mutual
theorem Rep.frame {w : Wd} {I J H H' : Hp} (e : Le I J) : ∀ (d : D) (v : V) (fp : List Addr), (∀ a ∈ fp, H' a = H a) → Rep w I H d v fp → Rep w J H' d v fp
  | .any, v, fp, _, h => h
  | .non, v, fp, _, h => h
  | .bl b, v, fp, _, h => h
  | .int i, v, fp, _, h => h
  | .str s, v, fp, _, h => h
  | .node t xs, v, fp, k, h => by
    unfold Rep at h ⊢
    obtain ⟨a, vs, fp', rfl, hl, hf, h⟩ := h
    rcases h with ⟨ho, h, rfl⟩ | ⟨ho, h, rfl⟩
    · exact ⟨a, vs, fp', rfl, RepL.frame e xs vs fp' (fun b hb => k b (List.mem_cons_of_mem _ hb)) hl, hf, .inl ⟨ho, h.at (k a (List.mem_cons_self ..)), rfl⟩⟩
    · exact ⟨a, vs, fp, rfl, RepL.frame e xs vs fp k hl, hf, .inr ⟨ho, h.mono e, rfl⟩⟩
theorem RepL.frame {w : Wd} {I J H H' : Hp} (e : Le I J) : ∀ (ds : List D) (vs : List V) (fp : List Addr), (∀ a ∈ fp, H' a = H a) → RepL w I H ds vs fp → RepL w J H' ds vs fp
  | [], vs, fp, _, h => h
  | d :: ds, vs, fp, k, h => by
    unfold RepL at h ⊢
    obtain ⟨v, us, f1, f2, rfl, rfl, h1, h2⟩ := h
    exact ⟨v, us, f1, f2, rfl, rfl, Rep.frame e d v f1 (fun b hb => k b (List.mem_append_left _ hb)) h1, RepL.frame e ds us f2 (fun b hb => k b (List.mem_append_right _ hb)) h2⟩
end

theorem RepL.length {w : Wd} {I H : Hp} : ∀ {ds : List D} {vs : List V} {fp : List Addr}, RepL w I H ds vs fp → ds.length = vs.length
  | [], vs, fp, h => by
    unfold RepL at h
    rw [h.1]
    rfl
  | d :: ds, vs, fp, h => by
    unfold RepL at h
    obtain ⟨v, us, f1, f2, rfl, rfl, _, h2⟩ := h
    rw [List.length_cons, List.length_cons, RepL.length h2]
theorem RepL.nil {w : Wd} {I H : Hp} : RepL w I H [] [] [] := by unfold RepL; exact ⟨rfl, rfl⟩
theorem RepL.cons {w : Wd} {I H : Hp} {d : D} {v : V} {ds : List D} {vs : List V} {f1 f2 : List Addr} (h1 : Rep w I H d v f1) (h2 : RepL w I H ds vs f2) : RepL w I H (d :: ds) (v :: vs) (f1 ++ f2) := by
  unfold RepL; exact ⟨v, vs, f1, f2, rfl, rfl, h1, h2⟩
theorem RepL.out {w : Wd} {I H : Hp} {d : D} {v : V} {ds : List D} {vs : List V} {fp : List Addr} (h : RepL w I H (d :: ds) (v :: vs) fp) : ∃ f1 f2, fp = f1 ++ f2 ∧ Rep w I H d v f1 ∧ RepL w I H ds vs f2 := by
  unfold RepL at h
  obtain ⟨v', us, f1, f2, e, rfl, h1, h2⟩ := h
  injection e with e1 e2
  subst e1 e2
  exact ⟨f1, f2, rfl, h1, h2⟩
theorem RepL.append {w : Wd} {I H : Hp} : ∀ {ds es : List D} {vs us : List V} {f1 f2 : List Addr}, RepL w I H ds vs f1 → RepL w I H es us f2 → RepL w I H (ds ++ es) (vs ++ us) (f1 ++ f2)
  | [], es, vs, us, f1, f2, h1, h2 => by
    unfold RepL at h1
    obtain ⟨rfl, rfl⟩ := h1
    exact h2
  | d :: ds, es, vs, us, f1, f2, h1, h2 => by
    unfold RepL at h1
    obtain ⟨v, vs', g1, g2, rfl, rfl, q1, q2⟩ := h1
    have z := RepL.cons q1 (RepL.append q2 h2)
    rw [List.append_assoc]
    exact z
theorem RepL.split {w : Wd} {I H : Hp} : ∀ {ds es : List D} {vs us : List V} {fp : List Addr}, RepL w I H (ds ++ es) (vs ++ us) fp → ds.length = vs.length → ∃ f1 f2, fp = f1 ++ f2 ∧ RepL w I H ds vs f1 ∧ RepL w I H es us f2
  | [], es, [], us, fp, h, _ => ⟨[], fp, rfl, .nil, h⟩
  | [], es, _ :: _, us, fp, h, e => by simp at e
  | _ :: _, es, [], us, fp, h, e => by simp at e
  | d :: ds, es, v :: vs, us, fp, h, e => by
    obtain ⟨f1, f2, rfl, h1, h2⟩ := RepL.out h
    obtain ⟨g1, g2, rfl, q1, q2⟩ := RepL.split h2 (by simpa using e)
    exact ⟨f1 ++ g1, g2, by rw [List.append_assoc], .cons h1 q1, q2⟩

/-- one of them taken out -/
theorem RepL.take {w : Wd} {I H : Hp} : ∀ {ds : List D} {vs : List V} {fp : List Addr} {i : Nat} {d : D}, RepL w I H ds vs fp → ds[i]? = some d → ∃ v f1 f2, vs[i]? = some v ∧ Rep w I H d v f1 ∧ RepL w I H (ds.set i .any) vs f2 ∧ List.Perm fp (f1 ++ f2)
  | [], vs, fp, i, d, h, e => by simp at e
  | d' :: ds, vs, fp, 0, d, h, e => by
    unfold RepL at h
    obtain ⟨v, us, f1, f2, rfl, rfl, h1, h2⟩ := h
    simp at e
    subst e
    exact ⟨v, f1, f2, rfl, h1, RepL.cons (f1 := []) (by unfold Rep; rfl) h2, .refl _⟩
  | d' :: ds, vs, fp, i + 1, d, h, e => by
    unfold RepL at h
    obtain ⟨v, us, f1, f2, rfl, rfl, h1, h2⟩ := h
    obtain ⟨v', g1, g2, e2, q1, q2, p⟩ := RepL.take h2 (show ds[i]? = some d by simpa using e)
    refine ⟨v', g1, f1 ++ g2, by simpa using e2, q1, RepL.cons h1 q2, ?_⟩
    have p2 : List.Perm (f1 ++ f2) (f1 ++ (g1 ++ g2)) := List.Perm.append_left f1 p
    refine p2.trans ?_
    rw [← List.append_assoc, ← List.append_assoc]
    exact List.Perm.append_right g2 List.perm_append_comm
/-- .. and put back -/
theorem RepL.put {w : Wd} {I H : Hp} : ∀ {ds : List D} {vs : List V} {fp : List Addr} {i : Nat} {d : D} {v : V} {f1 : List Addr}, RepL w I H ds vs fp → ds[i]? = some .any → vs[i]? = some v → Rep w I H d v f1 → ∃ f2, RepL w I H (ds.set i d) vs f2 ∧ List.Perm f2 (f1 ++ fp)
  | [], vs, fp, i, d, v, f1, h, e, _, _ => by simp at e
  | d' :: ds, vs, fp, 0, d, v, f1, h, e, ev, r => by
    unfold RepL at h
    obtain ⟨v', us, g1, g2, rfl, rfl, h1, h2⟩ := h
    simp at e ev
    subst e ev
    unfold Rep at h1
    subst h1
    exact ⟨f1 ++ g2, RepL.cons r h2, .refl _⟩
  | d' :: ds, vs, fp, i + 1, d, v, f1, h, e, ev, r => by
    unfold RepL at h
    obtain ⟨v', us, g1, g2, rfl, rfl, h1, h2⟩ := h
    obtain ⟨f2, q, p⟩ := RepL.put (i := i) h2 (by simpa using e) (by simpa using ev) r
    refine ⟨g1 ++ f2, RepL.cons h1 q, ?_⟩
    have p2 : List.Perm (g1 ++ f2) (g1 ++ (f1 ++ g2)) := List.Perm.append_left g1 p
    refine p2.trans ?_
    rw [← List.append_assoc, ← List.append_assoc]
    exact List.Perm.append_right g2 List.perm_append_comm
/-- one of them replaced -/
theorem RepL.set {w : Wd} {I H : Hp} : ∀ {ds : List D} {vs : List V} {fp : List Addr} {i : Nat} {d : D} {v : V} {f1 : List Addr}, RepL w I H ds vs fp → i < ds.length → Rep w I H d v f1 → ∃ f2 g f3, RepL w I H (ds.set i d) (vs.set i v) f2 ∧ List.Perm fp (g ++ f3) ∧ List.Perm f2 (f1 ++ f3)
  | [], vs, fp, i, d, v, f1, h, e, _ => by simp at e
  | d' :: ds, vs, fp, 0, d, v, f1, h, _, r => by
    unfold RepL at h
    obtain ⟨v', us, g1, g2, rfl, rfl, h1, h2⟩ := h
    exact ⟨f1 ++ g2, g1, g2, RepL.cons r h2, .refl _, .refl _⟩
  | d' :: ds, vs, fp, i + 1, d, v, f1, h, e, r => by
    unfold RepL at h
    obtain ⟨v', us, g1, g2, rfl, rfl, h1, h2⟩ := h
    obtain ⟨f2, g, f3, q, p1, p2⟩ := RepL.set (i := i) h2 (by simpa using e) r
    refine ⟨g1 ++ f2, g, g1 ++ f3, RepL.cons h1 q, ?_, ?_⟩
    · refine (List.Perm.append_left g1 p1).trans ?_
      rw [← List.append_assoc, ← List.append_assoc]
      exact List.Perm.append_right f3 List.perm_append_comm
    · refine (List.Perm.append_left g1 p2).trans ?_
      rw [← List.append_assoc, ← List.append_assoc]
      exact List.Perm.append_right f3 List.perm_append_comm

mutual
theorem Rep.there {w : Wd} {I H : Hp} : ∀ (d : D) (v : V) (fp : List Addr), Rep w I H d v fp → ∀ a ∈ fp, ∃ o, H a = some o
  | .any, v, fp, h, a, m => by unfold Rep at h; subst h; cases m
  | .non, v, fp, h, a, m => by unfold Rep at h; obtain ⟨_, rfl⟩ := h; cases m
  | .bl b, v, fp, h, a, m => by unfold Rep at h; obtain ⟨_, rfl⟩ := h; cases m
  | .int i, v, fp, h, a, m => by unfold Rep at h; obtain ⟨_, rfl⟩ := h; cases m
  | .str s, v, fp, h, a, m => by unfold Rep at h; obtain ⟨_, rfl⟩ := h; cases m
  | .node t xs, v, fp, h, a, m => by
    unfold Rep at h
    obtain ⟨b, vs, fp', rfl, hl, _, h⟩ := h
    rcases h with ⟨_, h, rfl⟩ | ⟨_, h, rfl⟩
    · rcases List.mem_cons.mp m with rfl | m
      · exact h.some
      · exact RepL.there xs vs fp' hl a m
    · exact RepL.there xs vs fp hl a m
theorem RepL.there {w : Wd} {I H : Hp} : ∀ (ds : List D) (vs : List V) (fp : List Addr), RepL w I H ds vs fp → ∀ a ∈ fp, ∃ o, H a = some o
  | [], vs, fp, h, a, m => by unfold RepL at h; obtain ⟨_, rfl⟩ := h; cases m
  | d :: ds, vs, fp, h, a, m => by
    unfold RepL at h
    obtain ⟨v, us, f1, f2, rfl, rfl, h1, h2⟩ := h
    rcases List.mem_append.mp m with m | m
    · exact Rep.there d v f1 h1 a m
    · exact RepL.there ds us f2 h2 a m
end

theorem OwnAt.notup {w : Wd} {H : Hp} {a : Addr} {t : Tag} {vs : List V} (h : OwnAt w H a t vs) (ho : t.own = true) : ∀ us : List V, H a ≠ Option.some (HO.tup us) := fun us e => by
  cases t with
  | tup => cases ho
  | tux => cases ho
  | scr => cases ho
  | lst o => rw [show H a = Option.some (.lst vs) from h] at e; cases e
  | dk o ks => rw [show H a = Option.some (.dK (ks.zip vs)) from h] at e; cases e
  | dt o ks => rw [show H a = Option.some (.dT (ks.zip vs)) from h] at e; cases e
  | ins o c ns => obtain ⟨dx, h⟩ := h; rw [h] at e; cases e
mutual
theorem Rep.notup {w : Wd} {I H : Hp} : ∀ (d : D) (v : V) (fp : List Addr), Rep w I H d v fp → ∀ a ∈ fp, ∀ us : List V, H a ≠ some (HO.tup us)
  | .any, v, fp, h, a, m => by unfold Rep at h; subst h; cases m
  | .non, v, fp, h, a, m => by unfold Rep at h; obtain ⟨_, rfl⟩ := h; cases m
  | .bl b, v, fp, h, a, m => by unfold Rep at h; obtain ⟨_, rfl⟩ := h; cases m
  | .int i, v, fp, h, a, m => by unfold Rep at h; obtain ⟨_, rfl⟩ := h; cases m
  | .str s, v, fp, h, a, m => by unfold Rep at h; obtain ⟨_, rfl⟩ := h; cases m
  | .node t xs, v, fp, h, a, m => by
    unfold Rep at h
    obtain ⟨b, vs, fp', rfl, hl, _, h⟩ := h
    rcases h with ⟨ho, h, rfl⟩ | ⟨_, h, rfl⟩
    · rcases List.mem_cons.mp m with rfl | m
      · exact h.notup ho
      · exact RepL.notup xs vs fp' hl a m
    · exact RepL.notup xs vs fp hl a m
theorem RepL.notup {w : Wd} {I H : Hp} : ∀ (ds : List D) (vs : List V) (fp : List Addr), RepL w I H ds vs fp → ∀ a ∈ fp, ∀ us : List V, H a ≠ some (HO.tup us)
  | [], vs, fp, h, a, m => by unfold RepL at h; obtain ⟨_, rfl⟩ := h; cases m
  | d :: ds, vs, fp, h, a, m => by
    unfold RepL at h
    obtain ⟨v, us, f1, f2, rfl, rfl, h1, h2⟩ := h
    rcases List.mem_append.mp m with m | m
    · exact Rep.notup d v f1 h1 a m
    · exact RepL.notup ds us f2 h2 a m
end

mutual
theorem Rep.freeze {w : Wd} {I J H : Hp} (e : Le I J) : ∀ (d : D) (v : V) (fp : List Addr), (∀ a ∈ fp, J a = H a) → Rep w I H d v fp → Rep w J H d.frz v []
  | .any, v, fp, _, h => by unfold D.frz Rep; rfl
  | .non, v, fp, _, h => by unfold Rep at h; unfold D.frz Rep; exact ⟨h.1, rfl⟩
  | .bl b, v, fp, _, h => by unfold Rep at h; unfold D.frz Rep; exact ⟨h.1, rfl⟩
  | .int i, v, fp, _, h => by unfold Rep at h; unfold D.frz Rep; exact ⟨h.1, rfl⟩
  | .str s, v, fp, _, h => by unfold Rep at h; unfold D.frz Rep; exact ⟨h.1, rfl⟩
  | .node t xs, v, fp, k, h => by
    unfold Rep at h
    unfold D.frz Rep
    obtain ⟨a, vs, fp', rfl, hl, hf, h⟩ := h
    rcases h with ⟨ho, h, rfl⟩ | ⟨ho, h, rfl⟩
    · refine ⟨a, vs, [], rfl, RepL.freeze e xs vs fp' (fun b hb => k b (List.mem_cons_of_mem _ hb)) hl, Tag.fits_frz hf, .inr ⟨Tag.own_frz t, ?_, rfl⟩⟩
      exact (h.at (k a (List.mem_cons_self ..))).fro
    · exact ⟨a, vs, [], rfl, RepL.freeze e xs vs fp k hl, Tag.fits_frz hf, .inr ⟨Tag.own_frz t, (h.mono e).frz, rfl⟩⟩
theorem RepL.freeze {w : Wd} {I J H : Hp} (e : Le I J) : ∀ (ds : List D) (vs : List V) (fp : List Addr), (∀ a ∈ fp, J a = H a) → RepL w I H ds vs fp → RepL w J H (frzL ds) vs []
  | [], vs, fp, _, h => by unfold RepL at h; unfold frzL RepL; exact ⟨h.1, rfl⟩
  | d :: ds, vs, fp, k, h => by
    unfold RepL at h
    obtain ⟨v, us, f1, f2, rfl, rfl, h1, h2⟩ := h
    unfold frzL
    exact RepL.cons (f1 := []) (f2 := []) (Rep.freeze e d v f1 (fun b hb => k b (List.mem_append_left _ hb)) h1) (RepL.freeze e ds us f2 (fun b hb => k b (List.mem_append_right _ hb)) h2)
end
/-- what is frozen owns nothing -/
theorem Rep.own_nil {w : Wd} {I H : Hp} : ∀ {d : D} {v : V} {fp : List Addr}, Rep w I H d v fp → d.frz = d → fp = [] := by
  intro d v fp h e
  have key : ∀ (d : D) (v : V) (fp : List Addr), d.frz = d → Rep w I H d v fp → fp = [] := by
    intro d
    induction d using D.rec (motive_2 := fun ds => ∀ vs fp, frzL ds = ds → RepL w I H ds vs fp → fp = []) with
    | any => intro v fp _ h; unfold Rep at h; exact h
    | non => intro v fp _ h; unfold Rep at h; exact h.2
    | bl b => intro v fp _ h; unfold Rep at h; exact h.2
    | int i => intro v fp _ h; unfold Rep at h; exact h.2
    | str s => intro v fp _ h; unfold Rep at h; exact h.2
    | node t xs ih =>
      intro v fp e h
      unfold Rep at h
      unfold D.frz at e
      injection e with e1 e2
      obtain ⟨a, vs, fp', rfl, hl, hf, h⟩ := h
      rcases h with ⟨ho, h, rfl⟩ | ⟨ho, h, rfl⟩
      · rw [← e1, Tag.own_frz] at ho
        cases ho
      · exact ih vs fp e2 hl
    | nil =>
      rename_i vs fp _ h
      unfold RepL at h
      exact h.2
    | cons d ds ih1 ih2 =>
      rename_i vs fp e h
      unfold RepL at h
      unfold frzL at e
      injection e with e1 e2
      obtain ⟨v, us, f1, f2, rfl, rfl, h1, h2⟩ := h
      rw [ih1 v f1 e1 h1, ih2 us f2 e2 h2]
      rfl
  exact key d v fp e h

/-! ### the state: I what stays, F the others' part, and what is held -/
structure Hs (w : Wd) (I F : Hp) (ds : List D) (vs : List V) (H : Hp) : Prop where
  ex : ∃ fp, RepL w I H ds vs fp ∧ fp.Nodup ∧ ∀ a ∈ fp, I a = none ∧ F a = none
  iF : ∀ a o, I a = some o → H a = some o ∧ F a = none
  fH : Le F H
  fT : ∀ (a : Addr) (us : List V), F a ≠ some (HO.tup us)
  lkI : Le w.lk I
  fkF : Le w.fk F

section
variable {w : Wd} {I F H : Hp} {ds es : List D} {vs us : List V} {d : D} {v : V}
theorem Hs.length (h : Hs w I F ds vs H) : ds.length = vs.length := by
  obtain ⟨fp, r, _⟩ := h.ex
  exact r.length
theorem Hs.iH (h : Hs w I F ds vs H) : Le I H := fun a o e => (h.iF a o e).1
theorem Hs.of_sub {fp fp' : List Addr} (h : Hs w I F ds vs H) (r : RepL w I H es us fp') (hr : RepL w I H ds vs fp) (nd : fp.Nodup) (dj : ∀ a ∈ fp, I a = none ∧ F a = none) (nd' : fp'.Nodup) (sub : ∀ a ∈ fp', a ∈ fp) : Hs w I F es us H :=
  ⟨⟨fp', r, nd', fun a m => dj a (sub a m)⟩, h.iF, h.fH, h.fT, h.lkI, h.fkF⟩
theorem Hs.drop (h : Hs w I F (d :: ds) (v :: vs) H) : Hs w I F ds vs H := by
  obtain ⟨fp, r, nd, dj⟩ := h.ex
  obtain ⟨f1, f2, rfl, r1, r2⟩ := r.out
  exact h.of_sub r2 r nd dj (List.nodup_append.mp nd).2.1 fun a m => List.mem_append_right _ m
theorem Hs.head (h : Hs w I F (d :: ds) (v :: vs) H) : ∃ fp, Rep w I H d v fp := by
  obtain ⟨fp, r, nd, dj⟩ := h.ex
  obtain ⟨f1, f2, rfl, r1, r2⟩ := r.out
  exact ⟨f1, r1⟩
/-- others' part set aside; it comes back untouched -/
theorem Hs.push (h : Hs w I F (ds ++ es) (vs ++ us) H) (hl : ds.length = vs.length) : ∃ G, Hs w I G es us H ∧ ∀ I' es' us' H', Le I I' → Hs w I' G es' us' H' → Hs w I' F (ds ++ es') (vs ++ us') H' := by
  obtain ⟨fp, r, nd, dj⟩ := h.ex
  obtain ⟨f1, f2, rfl, r1, r2⟩ := r.split hl
  obtain ⟨n1, n2, n3⟩ := List.nodup_append.mp nd
  have th := RepL.there ds vs f1 r1
  refine ⟨fun a => if a ∈ f1 then H a else F a, ⟨⟨f2, r2, n2, fun a m => ⟨(dj a (List.mem_append_right _ m)).1, ?_⟩⟩, fun a o e => ⟨(h.iF a o e).1, ?_⟩, fun a o e => ?_, fun a us e => ?_, h.lkI, fun a o e => ?_⟩, ?_⟩
  · show (if a ∈ f1 then H a else F a) = none
    rw [if_neg (fun m1 => n3 a m1 a m rfl)]
    exact (dj a (List.mem_append_right _ m)).2
  · show (if a ∈ f1 then H a else F a) = none
    rw [if_neg (fun m1 => by
      have := (dj a (List.mem_append_left _ m1)).1
      rw [e] at this
      cases this)]
    exact (h.iF a o e).2
  · have e2 : (if a ∈ f1 then H a else F a) = some o := e
    by_cases m : a ∈ f1
    · rw [if_pos m] at e2
      exact e2
    · rw [if_neg m] at e2
      exact h.fH a o e2
  · have e2 : (if a ∈ f1 then H a else F a) = some (HO.tup us) := e
    by_cases m : a ∈ f1
    · rw [if_pos m] at e2
      exact RepL.notup _ _ _ r1 a m us e2
    · rw [if_neg m] at e2
      exact h.fT a us e2
  · have e2 := h.fkF a o e
    show (if a ∈ f1 then H a else F a) = some o
    rw [if_neg (fun m => by
      have := (dj a (List.mem_append_left _ m)).2
      rw [e2] at this
      cases this)]
    exact e2
  · intro I' es' us' H' le h'
    obtain ⟨fp', r', nd', dj'⟩ := h'.ex
    have keep : ∀ a ∈ f1, H' a = H a := fun a m => by
      obtain ⟨o, eo⟩ := th a m
      have g : (if a ∈ f1 then H a else F a) = some o := by rw [if_pos m]; exact eo
      rw [h'.fH a o g, eo]
    have dis : ∀ a ∈ f1, I' a = none := fun a m => by
      cases q : I' a with
      | none => rfl
      | some o =>
        obtain ⟨o2, eo⟩ := th a m
        have g : (if a ∈ f1 then H a else F a) = some o2 := by rw [if_pos m]; exact eo
        have := (h'.iF a o q).2
        rw [show (if a ∈ f1 then H a else F a) = none from this] at g
        cases g
    refine ⟨⟨f1 ++ fp', (RepL.frame le ds vs f1 keep r1).append r', List.nodup_append.mpr ⟨n1, nd', fun a m b m' e => ?_⟩, fun a m => ?_⟩, fun a o e => ⟨(h'.iF a o e).1, ?_⟩, fun a o e => ?_, h.fT, h'.lkI, h.fkF⟩
    · subst e
      obtain ⟨o, eo⟩ := th a m
      have z : (if a ∈ f1 then H a else F a) = none := (dj' a m').2
      rw [if_pos m, eo] at z
      cases z
    · rcases List.mem_append.mp m with m | m
      · exact ⟨dis a m, (dj a (List.mem_append_left _ m)).2⟩
      · refine ⟨(dj' a m).1, ?_⟩
        have z : (if a ∈ f1 then H a else F a) = none := (dj' a m).2
        by_cases m1 : a ∈ f1
        · rw [if_pos m1] at z
          obtain ⟨o, eo⟩ := th a m1
          rw [z] at eo
          cases eo
        · rw [if_neg m1] at z
          exact z
    · have z : (if a ∈ f1 then H a else F a) = none := (h'.iF a o e).2
      by_cases m1 : a ∈ f1
      · exact (dj a (List.mem_append_left _ m1)).2
      · rw [if_neg m1] at z
        exact z
    · have nf : a ∉ f1 := fun m => by
        have := (dj a (List.mem_append_left _ m)).2
        rw [e] at this
        cases this
      have g : (if a ∈ f1 then H a else F a) = some o := by rw [if_neg nf]; exact e
      exact h'.fH a o g
/-- one held thing out of many -/
theorem Hs.take {i : Nat} (h : Hs w I F (es ++ ds) (us ++ vs) H) (hl : es.length = us.length) (e : ds[i]? = some d) : ∃ v, vs[i]? = some v ∧ Hs w I F (d :: (es ++ ds.set i .any)) (v :: (us ++ vs)) H := by
  obtain ⟨fp, r, nd, dj⟩ := h.ex
  obtain ⟨f1, f2, rfl, r1, r2⟩ := r.split hl
  obtain ⟨v, g1, g2, ev, q1, q2, p⟩ := r2.take e
  have p2 : List.Perm (f1 ++ f2) (g1 ++ (f1 ++ g2)) := by
    refine (List.Perm.append_left f1 p).trans ?_
    rw [← List.append_assoc, ← List.append_assoc]
    exact List.Perm.append_right g2 List.perm_append_comm
  exact ⟨v, ev, h.of_sub (.cons q1 (r1.append q2)) r nd dj (p2.nodup_iff.mp nd) fun a m => p2.symm.subset m⟩
theorem Hs.put {i : Nat} (h : Hs w I F (d :: (es ++ ds)) (v :: (us ++ vs)) H) (hl : es.length = us.length) (e : ds[i]? = some .any) (ev : vs[i]? = some v) : Hs w I F (es ++ ds.set i d) (us ++ vs) H := by
  obtain ⟨fp, r, nd, dj⟩ := h.ex
  obtain ⟨f0, f12, rfl, r0, r12⟩ := r.out
  obtain ⟨f1, f2, rfl, r1, r2⟩ := r12.split hl
  obtain ⟨g, q, p⟩ := r2.put e ev r0
  have p2 : List.Perm (f0 ++ (f1 ++ f2)) (f1 ++ g) := by
    refine List.Perm.trans ?_ (List.Perm.append_left f1 p.symm)
    rw [← List.append_assoc, ← List.append_assoc]
    exact List.Perm.append_right f2 List.perm_append_comm
  exact h.of_sub (r1.append q) r nd dj (p2.nodup_iff.mp nd) fun a m => p2.symm.subset m
/-- a name gets a value -/
theorem Hs.set {i : Nat} (h : Hs w I F (d :: ds) (v :: vs) H) (hi : i < ds.length) : Hs w I F (ds.set i d) (vs.set i v) H := by
  obtain ⟨fp, r, nd, dj⟩ := h.ex
  obtain ⟨f1, f2, rfl, r1, r2⟩ := r.out
  obtain ⟨g, g1, g2, q, p1, p2⟩ := r2.set hi r1
  have n : (f1 ++ g2).Nodup := by
    have n1 : (f1 ++ (g1 ++ g2)).Nodup := (List.Perm.append_left f1 p1).nodup_iff.mp nd
    obtain ⟨a1, a2, a3⟩ := List.nodup_append.mp n1
    exact List.nodup_append.mpr ⟨a1, (List.nodup_append.mp a2).2.1, fun a m b m' => a3 a m b (List.mem_append_right _ m')⟩
  refine h.of_sub q r nd dj (p2.nodup_iff.mpr n) fun a m => ?_
  rcases List.mem_append.mp (p2.subset m) with m | m
  · exact List.mem_append_left _ m
  · exact List.mem_append_right _ (p1.symm.subset (List.mem_append_right _ m))
theorem Hs.swap {d2 : D} {v2 : V} (h : Hs w I F (d :: d2 :: ds) (v :: v2 :: vs) H) : Hs w I F (d2 :: d :: ds) (v2 :: v :: vs) H := by
  obtain ⟨fp, r, nd, dj⟩ := h.ex
  obtain ⟨f1, f2, rfl, r1, r2⟩ := r.out
  obtain ⟨f3, f4, rfl, r3, r4⟩ := r2.out
  have p : List.Perm (f1 ++ (f3 ++ f4)) (f3 ++ (f1 ++ f4)) := by
    rw [← List.append_assoc, ← List.append_assoc]
    exact List.Perm.append_right f4 List.perm_append_comm
  exact h.of_sub (.cons r3 (.cons r1 r4)) r nd dj (p.nodup_iff.mp nd) fun a m => p.symm.subset m
/-- what is frozen may be held twice -/
theorem Hs.dup (h : Hs w I F (d :: ds) (v :: vs) H) (e : d.frz = d) : Hs w I F (d :: d :: ds) (v :: v :: vs) H := by
  obtain ⟨fp, r, nd, dj⟩ := h.ex
  obtain ⟨f1, f2, rfl, r1, r2⟩ := r.out
  obtain rfl := r1.own_nil e
  exact h.of_sub (.cons r1 (.cons r1 r2)) r nd dj nd fun a m => m
/-- what is owned is given up: it stays as it is -/
theorem Hs.freeze (h : Hs w I F (d :: ds) (v :: vs) H) : ∃ J, Le I J ∧ Hs w J F (d.frz :: ds) (v :: vs) H := by
  obtain ⟨fp, r, nd, dj⟩ := h.ex
  obtain ⟨f1, f2, rfl, r1, r2⟩ := r.out
  obtain ⟨n1, n2, n3⟩ := List.nodup_append.mp nd
  have th := Rep.there d v f1 r1
  have le : Le I (fun a => if a ∈ f1 then H a else I a) := fun a o e => by
    show (if a ∈ f1 then H a else I a) = some o
    rw [if_neg (fun m => by
      have := (dj a (List.mem_append_left _ m)).1
      rw [e] at this
      cases this)]
    exact e
  refine ⟨fun a => if a ∈ f1 then H a else I a, le, ⟨f2, RepL.cons (f1 := []) (Rep.freeze le d v f1 (fun a m => if_pos m) r1) (RepL.frame le ds vs f2 (fun _ _ => rfl) r2), n2, fun a m => ⟨?_, (dj a (List.mem_append_right _ m)).2⟩⟩, fun a o e => ?_, h.fH, h.fT, h.lkI.trans le, h.fkF⟩
  · show (if a ∈ f1 then H a else I a) = none
    rw [if_neg (fun m1 => n3 a m1 a m rfl)]
    exact (dj a (List.mem_append_right _ m)).1
  · have e2 : (if a ∈ f1 then H a else I a) = some o := e
    by_cases m : a ∈ f1
    · rw [if_pos m] at e2
      exact ⟨e2, (dj a (List.mem_append_left _ m)).2⟩
    · rw [if_neg m] at e2
      exact h.iF a o e2
/-- a new owned object -/
theorem Hs.newO {p : Addr} {o : HO} {t : Tag} {xs : List D} (h : Hs w I F (xs ++ ds) (us ++ vs) H) (hl : xs.length = us.length) (np : H p = none) (ho : t.own = true) (hf : t.fits us.length) (at_ : OwnAt w (upd H p o) p t us) :
    Hs w I F (.node t xs :: ds) (.ref p :: vs) (upd H p o) := by
  obtain ⟨fp, r, nd, dj⟩ := h.ex
  obtain ⟨f1, f2, rfl, r1, r2⟩ := r.split hl
  have pI : I p = none := by
    cases e : I p with
    | none => rfl
    | some o => rw [(h.iF p o e).1] at np; cases np
  have pF : F p = none := by
    cases e : F p with
    | none => rfl
    | some o => rw [h.fH p o e] at np; cases np
  have pn : p ∉ f1 ++ f2 := fun m => by
    rcases List.mem_append.mp m with m | m
    · obtain ⟨o, e⟩ := RepL.there _ _ _ r1 p m
      rw [np] at e; cases e
    · obtain ⟨o, e⟩ := RepL.there _ _ _ r2 p m
      rw [np] at e; cases e
  have k : ∀ a ∈ f1 ++ f2, upd H p o a = H a := fun a m => upd_ne fun e => pn (e ▸ m)
  refine ⟨⟨p :: (f1 ++ f2), ?_, List.nodup_cons.mpr ⟨pn, nd⟩, fun a m => ?_⟩, fun a u e => ⟨?_, (h.iF a u e).2⟩, fun a u e => ?_, h.fT, h.lkI, h.fkF⟩
  · have z := RepL.cons (w := w) (I := I) (H := upd H p o) (d := .node t xs) (v := .ref p) (f1 := p :: f1) (f2 := f2) (by
      unfold Rep
      exact ⟨p, us, f1, rfl, RepL.frame (Le.refl I) xs us f1 (fun a m => k a (List.mem_append_left _ m)) r1, hf, .inl ⟨ho, at_, rfl⟩⟩) (RepL.frame (Le.refl I) ds vs f2 (fun a m => k a (List.mem_append_right _ m)) r2)
    exact z
  · rcases List.mem_cons.mp m with rfl | m
    · exact ⟨pI, pF⟩
    · exact dj a m
  · rw [upd_ne (fun e2 => by rw [e2, pI] at e; cases e)]
    exact (h.iF a u e).1
  · rw [upd_ne (fun e2 => by rw [e2, pF] at e; cases e)]
    exact h.fH a u e
/-- a new tuple -/
theorem Hs.newT {p : Addr} {xs : List D} (h : Hs w I F (xs ++ ds) (us ++ vs) H) (hl : xs.length = us.length) (np : H p = none) :
    Le I (upd I p (.tup us)) ∧ Hs w (upd I p (.tup us)) F (.node .tup xs :: ds) (.ref p :: vs) (upd H p (.tup us)) := by
  obtain ⟨fp, r, nd, dj⟩ := h.ex
  obtain ⟨f1, f2, rfl, r1, r2⟩ := r.split hl
  have pI : I p = none := by
    cases e : I p with
    | none => rfl
    | some o => rw [(h.iF p o e).1] at np; cases np
  have pF : F p = none := by
    cases e : F p with
    | none => rfl
    | some o => rw [h.fH p o e] at np; cases np
  have pn : p ∉ f1 ++ f2 := fun m => by
    rcases List.mem_append.mp m with m | m
    · obtain ⟨o, e⟩ := RepL.there _ _ _ r1 p m
      rw [np] at e; cases e
    · obtain ⟨o, e⟩ := RepL.there _ _ _ r2 p m
      rw [np] at e; cases e
  have k : ∀ a ∈ f1 ++ f2, upd H p (.tup us) a = H a := fun a m => upd_ne fun e => pn (e ▸ m)
  have le : Le I (upd I p (.tup us)) := Le.new pI
  refine ⟨le, ⟨f1 ++ f2, RepL.cons (by
      unfold Rep
      exact ⟨p, us, f1, rfl, RepL.frame le xs us f1 (fun a m => k a (List.mem_append_left _ m)) r1, trivial, .inr ⟨rfl, upd_same, rfl⟩⟩) (RepL.frame le ds vs f2 (fun a m => k a (List.mem_append_right _ m)) r2), nd, fun a m => ⟨?_, (dj a m).2⟩⟩, fun a u e => ?_, fun a u e => ?_, h.fT, h.lkI.trans le, h.fkF⟩
  · rw [upd_ne (fun e => pn (by rw [← e]; exact m))]
    exact (dj a m).1
  · by_cases q : a = p
    · subst q
      rw [upd_same] at e ⊢
      exact ⟨e, pF⟩
    · rw [upd_ne q] at e ⊢
      exact h.iF a u e
  · rw [upd_ne (fun e2 => by rw [e2, pF] at e; cases e)]
    exact h.fH a u e
/-- an owned object opened: its children are held, it stands in the others' part, and may be changed -/
theorem Hs.open {t : Tag} {xs : List D} (h : Hs w I F (.node t xs :: ds) (v :: vs) H) (ho : t.own = true) :
    ∃ a us G, v = .ref a ∧ xs.length = us.length ∧ t.fits us.length ∧ OwnAt w H a t us ∧ Hs w I G (xs ++ ds) (us ++ vs) H ∧ (∀ o, H a = some o → G a = some o) ∧
      ∀ I' t' xs' us' ds' vs' H' o', Le I I' → Hs w I' G (xs' ++ ds') (us' ++ vs') H' → xs'.length = us'.length → t'.own = true → t'.fits us'.length → OwnAt w (upd H' a o') a t' us' → Hs w I' F (.node t' xs' :: ds') (.ref a :: vs') (upd H' a o') := by
  obtain ⟨fp, r, nd, dj⟩ := h.ex
  obtain ⟨f1, f2, rfl, r1, r2⟩ := r.out
  unfold Rep at r1
  obtain ⟨a, us, fp', rfl, hl, hf, q⟩ := r1
  rcases q with ⟨_, hat, rfl⟩ | ⟨hn, _, _⟩
  · obtain ⟨oa, eoa⟩ := hat.some
    obtain ⟨aI, aF⟩ := dj a (List.mem_append_left _ (List.mem_cons_self ..))
    have nd' : (fp' ++ f2).Nodup ∧ a ∉ fp' ++ f2 := by
      have z : (a :: (fp' ++ f2)).Nodup := nd
      exact ⟨(List.nodup_cons.mp z).2, (List.nodup_cons.mp z).1⟩
    refine ⟨a, us, fun b => if b = a then H a else F b, rfl, hl.length, hf, hat, ⟨⟨fp' ++ f2, hl.append r2, nd'.1, fun b m => ?_⟩, fun b o e => ⟨(h.iF b o e).1, ?_⟩, fun b o e => ?_, fun b us' e => ?_, h.lkI, fun b o e => ?_⟩, fun o e => ?_, ?_⟩
    · have m2 : b ∈ a :: fp' ++ f2 := List.mem_cons_of_mem _ m
      refine ⟨(dj b m2).1, ?_⟩
      show (if b = a then H a else F b) = none
      rw [if_neg (fun e => nd'.2 (by rw [← e]; exact m))]
      exact (dj b m2).2
    · show (if b = a then H a else F b) = none
      rw [if_neg (fun e2 => by rw [e2, aI] at e; cases e)]
      exact (h.iF b o e).2
    · have e2 : (if b = a then H a else F b) = some o := e
      by_cases q : b = a
      · rw [if_pos q] at e2
        rw [q]
        exact e2
      · rw [if_neg q] at e2
        exact h.fH b o e2
    · have e2 : (if b = a then H a else F b) = some (HO.tup us') := e
      by_cases q : b = a
      · rw [if_pos q] at e2
        exact hat.notup ho us' e2
      · rw [if_neg q] at e2
        exact h.fT b us' e2
    · have e2 := h.fkF b o e
      show (if b = a then H a else F b) = some o
      rw [if_neg (fun q => by rw [q, aF] at e2; cases e2)]
      exact e2
    · show (if a = a then H a else F a) = some o
      rw [if_pos rfl]
      exact e
    · intro I' t' xs' us' ds' vs' H' o' le h' hl' ho' hf' at'
      obtain ⟨fq, rq, nq, dq⟩ := h'.ex
      obtain ⟨q1, q2, rfl, s1, s2⟩ := rq.split hl'
      have an : a ∉ q1 ++ q2 := fun m => by
        have z : (if a = a then H a else F a) = none := (dq a m).2
        rw [if_pos rfl, eoa] at z
        cases z
      have aI' : I' a = none := by
        cases e : I' a with
        | none => rfl
        | some o =>
          have z : (if a = a then H a else F a) = none := (h'.iF a o e).2
          rw [if_pos rfl, eoa] at z
          cases z
      have k : ∀ b ∈ q1 ++ q2, upd H' a o' b = H' b := fun b m => upd_ne (fun e => an (by rw [← e]; exact m))
      refine ⟨⟨a :: (q1 ++ q2), ?_, List.nodup_cons.mpr ⟨an, nq⟩, fun b m => ?_⟩, fun b u e => ⟨?_, ?_⟩, fun b u e => ?_, h.fT, h'.lkI, h.fkF⟩
      · have z := RepL.cons (w := w) (I := I') (H := upd H' a o') (d := .node t' xs') (v := .ref a) (f1 := a :: q1) (f2 := q2) (by
          unfold Rep
          exact ⟨a, us', q1, rfl, RepL.frame (Le.refl I') xs' us' q1 (fun b m => k b (List.mem_append_left _ m)) s1, hf', .inl ⟨ho', at', rfl⟩⟩) (RepL.frame (Le.refl I') ds' vs' q2 (fun b m => k b (List.mem_append_right _ m)) s2)
        exact z
      · rcases List.mem_cons.mp m with rfl | m
        · exact ⟨aI', aF⟩
        · refine ⟨(dq b m).1, ?_⟩
          have z : (if b = a then H a else F b) = none := (dq b m).2
          rw [if_neg (fun e => an (by rw [← e]; exact m))] at z
          exact z
      · rw [upd_ne (fun e2 => by rw [e2, aI'] at e; cases e)]
        exact (h'.iF b u e).1
      · have z : (if b = a then H a else F b) = none := (h'.iF b u e).2
        by_cases q : b = a
        · rw [q]; exact aF
        · rw [if_neg q] at z
          exact z
      · have nb : b ≠ a := fun e2 => by rw [e2, aF] at e; cases e
        rw [upd_ne nb]
        exact h'.fH b u (show (if b = a then H a else F b) = some u by rw [if_neg nb]; exact e)
  · rw [ho] at hn
    cases hn
end
end Z

set_option Elab.async false
set_option linter.all false
set_option maxRecDepth 100000
set_option maxHeartbeats 4000000
/-! ZB: expressions as functions on trees, their readings, operands. -/
namespace Z
open PySem PySem.Spec PyProof.Rows L2

abbrev Env := List D
/-- how an expression ends -/
inductive Res where
  | ok (r : D) (e : Env) | exc (c : Str) (ns : List Str) (xs : List D) (e : Env) | bad
abbrev M := Env → Res
/-- how an operation ends: its result, and what its operands are behind it -/
inductive ORes where
  | ok (r : D) (es : List D) | exc (c : Str) (ns : List Str) (xs : List D) (es : List D) | bad
abbrev Op := List D → ORes

/-- what stays in a def's run: pinned slots hold what they held at first -/
structure Fx where
  w : Wd
  pin : List Nat
  vs0 : List V

def σv (σ : L2.St) : List V := σ.map (·.getD .non)
def D.isAny : D → Bool
  | .any => true
  | _ => false
theorem isAny_iff {d : D} : d.isAny = false ↔ d ≠ D.any := by cases d <;> simp [D.isAny]
structure EnvR (X : Fx) (σ : L2.St) (env : Env) : Prop where
  on : ∀ (i : Nat) (d : D), env[i]? = some d → d ≠ D.any → ∃ v : V, σ[i]? = some (some v)
  pin : ∀ i ∈ X.pin, ∀ v : V, X.vs0[i]? = some v → σ[i]? = some (some v)
/-- an exception: its class, its own dict -/
def XRep (w : Wd) (I : Hp) (cls : Value) (d : Option Addr) (c : Str) (ns : List Str) (xs : List D) : Prop :=
  cls = .ref (w.cA c) ∧ ∃ dd vs, d = some dd ∧ I dd = some (.xd (ns.zip vs)) ∧ RepL w I I xs vs []

def Out (X : Fx) (W : WX) (I F : Hp) (σ : L2.St) (Q : VK) : Res → Prop
  | .ok r env' => ∀ v I' H', Le I I' → Hs X.w I' F (r :: env') (v :: σv σ) H' → EnvR X σ env' → Q v H'
  | .exc c ns xs env' => ∀ cls d I' H', Le I I' → Hs X.w I' F env' (σv σ) H' → EnvR X σ env' → XRep X.w I' cls d c ns xs → W cls d σ H'
  | .bad => False
/-- the reading of an expression that does m -/
def tE (X : Fx) (W : WX) (m : M) : TE := fun σ H Q => ∃ I F env, Hs X.w I F env (σv σ) H ∧ EnvR X σ env ∧ Out X W I F σ Q (m env)

theorem PEi {Γ : Cx} {e : Expr} {t t' : TE} (h : PE Γ e t) (i : ∀ σ H Q, t' σ H Q → t σ H Q) : PE Γ e t' := ⟨fun pins s σ H Q I q => h.run pins s σ H Q I (i σ H Q q)⟩
theorem PTi {Γ : Cx} {e : Expr} {t t' : TT} (h : PT Γ e t) (i : ∀ σ H Q, t' σ H Q → t σ H Q) : PT Γ e t' := ⟨fun pins s σ H Q I q => h.run pins s σ H Q I (i σ H Q q)⟩
theorem PSi {Γ : Cx} {e : Stmt} {t t' : TS} (h : PS Γ e t) (i : ∀ D σ H, t' D σ H → t D σ H) : PS Γ e t' := ⟨fun pins s σ H D I q => h.run pins s σ H D I (i D σ H q)⟩
theorem PSsi {Γ : Cx} {e : List Stmt} {t t' : TS} (h : PSs Γ e t) (i : ∀ D σ H, t' D σ H → t D σ H) : PSs Γ e t' := ⟨fun pins s σ H D I q => h.run pins s σ H D I (i D σ H q)⟩

theorem σv_at {σ : L2.St} {i : Nat} {v : V} (h : σ[i]? = some (some v)) : (σv σ)[i]? = some v := by
  unfold σv
  rw [List.getElem?_map, h]
  rfl
theorem EnvR.set {X : Fx} {σ : L2.St} {env : Env} (h : EnvR X σ env) {i : Nat} {d d' : D} (hd : env[i]? = some d) (hn : d' ≠ D.any → d ≠ D.any) : EnvR X σ (env.set i d') := by
  refine ⟨fun j e hj hne => ?_, h.pin⟩
  by_cases q : i = j
  · subst q
    have lt : i < env.length := (List.getElem?_eq_some_iff.mp hd).1
    rw [List.getElem?_set_self lt] at hj
    cases hj
    exact h.on i d hd (hn hne)
  · rw [List.getElem?_set_ne q] at hj
    exact h.on j e hj hne
theorem set_set {α : Type} {l : List α} {i : Nat} {a b : α} : (l.set i a).set i b = l.set i b := by
  rw [List.set_set]

mutual
theorem frz_frz : ∀ d : D, d.frz.frz = d.frz
  | .any => rfl
  | .non => rfl
  | .bl _ => rfl
  | .int _ => rfl
  | .str _ => rfl
  | .node t xs => by
    show D.node t.frz.frz (frzL (frzL xs)) = D.node t.frz (frzL xs)
    rw [frzL_frzL xs]
    cases t <;> rfl
theorem frzL_frzL : ∀ ds : List D, frzL (frzL ds) = frzL ds
  | [] => rfl
  | d :: ds => by
    show d.frz.frz :: frzL (frzL ds) = d.frz :: frzL ds
    rw [frz_frz d, frzL_frzL ds]
end
theorem frz_ne {d : D} (h : d ≠ D.any) : d.frz ≠ D.any := by
  cases d <;> first | exact absurd rfl h | (intro e; cases e)

/-! ### a name -/
/-- the value of a name: it may be held by two from now on, so what is owned is given up -/
def mVar (i : Nat) : M := fun env => match env[i]? with
  | some .any => .bad
  | some d => .ok d.frz (env.set i d.frz)
  | none => .bad
theorem mVar_ok {i : Nat} {env : Env} {d : D} (h : env[i]? = some d) (hn : d ≠ D.any) : mVar i env = .ok d.frz (env.set i d.frz) := by
  unfold mVar
  rw [h]
  cases d <;> first | rfl | exact absurd rfl hn
theorem hs_read {X : Fx} {I F H : Hp} {σ : L2.St} {env : Env} (h : Hs X.w I F env (σv σ) H) (er : EnvR X σ env) {i : Nat} {d : D} (hd : env[i]? = some d) (hn : d ≠ D.any) :
    ∃ v J, σ[i]? = some (some v) ∧ Le I J ∧ Hs X.w J F (d.frz :: env.set i d.frz) (v :: σv σ) H := by
  obtain ⟨v, hv⟩ := er.on i d hd hn
  obtain ⟨v', e', h1⟩ := Hs.take (es := []) (us := []) h rfl hd
  have ev : v' = v := Option.some.inj (e'.symm.trans (σv_at hv))
  subst ev
  obtain ⟨J, le, h2⟩ := h1.freeze
  have lt : i < env.length := (List.getElem?_eq_some_iff.mp hd).1
  have h3 := Hs.put (es := [d.frz]) (us := [v']) (i := i) (h2.dup (frz_frz d)) rfl (by rw [List.getElem?_set_self lt]) e'
  rw [set_set] at h3
  exact ⟨v', J, hv, le, h3⟩
section
variable {Γ : Cx} {X : Fx} {W : WX}
theorem z_var {x : Str} {pos : Pos} (i : Nat) (h : PE Γ (.Name x pos) (tVar i)) : PE Γ (.Name x pos) (tE X W (mVar i)) := PEi h fun σ H Q h => by
  obtain ⟨I, F, env, hs, er, o⟩ := h
  unfold mVar at o
  cases hd : env[i]? with
  | none => rw [hd] at o; exact o.elim
  | some d =>
    by_cases hn : d = D.any
    · rw [hd, hn] at o; exact o.elim
    · have o2 : Out X W I F σ Q (mVar i env) := by unfold mVar; rw [hd]; rw [hd] at o; exact o
      rw [mVar_ok hd hn] at o2
      obtain ⟨v, J, hv, le, h1⟩ := hs_read hs er hd hn
      exact ⟨v, hv, o2 v J H le h1 (er.set hd fun _ => hn)⟩
/-! ### constants -/
def mC (d : D) : M := fun env => .ok d env
def D.scal : D → Option V
  | .non => some .non
  | .bl b => some (.bl b)
  | .int i => some (.int i)
  | .str s => some (.str s)
  | _ => none
theorem Rep.of_scal {w : Wd} {I H : Hp} {d : D} {v : V} (h : d.scal = some v) : Rep w I H d v [] := by
  cases d <;> simp [D.scal] at h <;> (subst h; unfold Rep; exact ⟨rfl, rfl⟩)
theorem Hs.addC {w : Wd} {I F H : Hp} {ds : List D} {vs : List V} {d : D} {v : V} (h : Hs w I F ds vs H) (e : d.scal = some v) : Hs w I F (d :: ds) (v :: vs) H := by
  obtain ⟨fp, r, nd, dj⟩ := h.ex
  exact h.of_sub (RepL.cons (f1 := []) (Rep.of_scal e) r) r nd dj nd fun a m => m
theorem z_c {e : Expr} {d : D} {v : V} (h : PE Γ e (tC v)) (hd : d.scal = some v) : PE Γ e (tE X W (mC d)) := PEi h fun σ H Q h => by
  obtain ⟨I, F, env, hs, er, o⟩ := h
  exact o v I H (Le.refl I) (hs.addC hd) er
theorem z_int {i j pos} : PE Γ (.Constant (.int i) j pos) (tE X W (mC (.int i))) := z_c pe_int rfl
theorem z_bl {b j pos} : PE Γ (.Constant (.bool b) j pos) (tE X W (mC (.bl b))) := z_c pe_bl rfl
theorem z_non {j pos} : PE Γ (.Constant .none j pos) (tE X W (mC .non)) := z_c pe_non rfl
theorem z_str {x j pos} : PE Γ (.Constant (.str x) j pos) (tE X W (mC (.str x))) := z_c pe_str rfl

/-! ### operands: values, and names that are looked at without being given up -/
inductive Opd where
  | val (m : M) | peek (i : Nat)
inductive AsR where
  | ok (ds : List D) (e : Env) | exc (c : Str) (ns : List Str) (xs : List D) (e : Env) | bad
def evA : List Opd → Env → AsR
  | [], env => .ok [] env
  | .val m :: ops, env => match m env with
    | .ok r e1 => (match evA ops e1 with
      | .ok ds e2 => .ok (r :: ds) e2
      | .exc c ns xs e2 => .exc c ns xs e2
      | .bad => .bad)
    | .exc c ns xs e1 => .exc c ns xs e1
    | .bad => .bad
  | .peek i :: ops, env => match env[i]? with
    | none => .bad
    | some d0 => if d0.isAny then .bad else match evA ops env with
      | .ok ds e1 => (match e1[i]? with
        | none => .bad
        | some d => if d.isAny then .bad else .ok (d :: ds) (e1.set i .any))
      | .exc c ns xs e1 => .exc c ns xs e1
      | .bad => .bad
/-- the operands' names get back what they had (or what it became) -/
def putA : List Opd → List D → Env → Env
  | .peek i :: ops, d :: ds, env => (putA ops ds env).set i d
  | .val _ :: ops, _ :: ds, env => putA ops ds env
  | _, _, env => env
/-- which names the values at hand are those of -/
def PkOk (σ : L2.St) : List Opd → List V → Prop
  | [], vs => vs = []
  | .val _ :: ops, vs => ∃ v us, vs = v :: us ∧ PkOk σ ops us
  | .peek i :: ops, vs => ∃ v us, vs = v :: us ∧ σ[i]? = some (some v) ∧ PkOk σ ops us
def OutA (X : Fx) (W : WX) (I F : Hp) (σ : L2.St) (ops : List Opd) (Q : List V → Hp → Prop) : AsR → Prop
  | .ok ds env' => ∀ vs I' H', Le I I' → Hs X.w I' F (ds ++ env') (vs ++ σv σ) H' → ds.length = vs.length → EnvR X σ env' → PkOk σ ops vs → Q vs H'
  | .exc c ns xs env' => ∀ cls d I' H', Le I I' → Hs X.w I' F env' (σv σ) H' → EnvR X σ env' → XRep X.w I' cls d c ns xs → W cls d σ H'
  | .bad => False
def tA (X : Fx) (W : WX) (ops : List Opd) : TA := fun σ H Q => ∃ I F env, Hs X.w I F env (σv σ) H ∧ EnvR X σ env ∧ OutA X W I F σ ops Q (evA ops env)
def tO (X : Fx) (W : WX) : Opd → TE
  | .val m => tE X W m
  | .peek i => tVar i
def tOs (X : Fx) (W : WX) : List Opd → TA
  | [] => tNil
  | o :: ops => tCons (tO X W o) (tOs X W ops)
theorem XRep.mono {w : Wd} {I J : Hp} {cls : Value} {d : Option Addr} {c : Str} {ns : List Str} {xs : List D} (e : Le I J) (h : XRep w I cls d c ns xs) : XRep w J cls d c ns xs := by
  obtain ⟨h1, dd, vs, h2, h3, h4⟩ := h
  exact ⟨h1, dd, vs, h2, e _ _ h3, RepL.frame e xs vs [] (fun a m => nomatch m) h4⟩
theorem ops_run : ∀ (ops : List Opd) (σ : L2.St) (H : Hp) (Q : List V → Hp → Prop), tA X W ops σ H Q → tOs X W ops σ H Q
  | [], σ, H, Q, h => by
    obtain ⟨I, F, env, hs, er, o⟩ := h
    exact o [] I H (Le.refl I) hs rfl er rfl
  | .val m :: ops, σ, H, Q, h => by
    obtain ⟨I, F, env, hs, er, o⟩ := h
    unfold evA at o
    refine ⟨I, F, env, hs, er, ?_⟩
    cases hm : m env with
    | bad => simp only [hm] at o; exact o.elim
    | exc c ns xs e1 =>
      simp only [hm] at o
      exact o
    | ok r e1 =>
      simp only [hm] at o
      intro v I1 H1 le1 hs1 er1
      obtain ⟨G, hg, back⟩ := Hs.push (ds := [r]) (vs := [v]) hs1 rfl
      refine ops_run ops σ H1 _ ⟨I1, G, e1, hg, er1, ?_⟩
      cases ha : evA ops e1 with
      | bad => simp only [ha] at o; exact o.elim
      | exc c ns xs e2 =>
        simp only [ha] at o
        intro cls d I2 H2 le2 hs2 er2 x2
        exact o cls d I2 H2 (le1.trans le2) (back I2 _ _ H2 le2 hs2).drop er2 x2
      | ok ds e2 =>
        simp only [ha] at o
        intro vs I2 H2 le2 hs2 hl er2 pk
        exact o (v :: vs) I2 H2 (le1.trans le2) (back I2 _ _ H2 le2 hs2) (by simp [hl]) er2 ⟨v, vs, rfl, pk⟩
  | .peek i :: ops, σ, H, Q, h => by
    obtain ⟨I, F, env, hs, er, o⟩ := h
    unfold evA at o
    cases hd : env[i]? with
    | none => rw [hd] at o; exact o.elim
    | some d0 =>
      rw [hd] at o
      cases hn : d0.isAny with
      | true => simp [hn] at o; exact o.elim
      | false =>
        simp [hn] at o
        obtain ⟨v, hv⟩ := er.on i d0 hd (isAny_iff.mp hn)
        refine ⟨v, hv, ops_run ops σ H _ ⟨I, F, env, hs, er, ?_⟩⟩
        cases ha : evA ops env with
        | bad => simp only [ha] at o; exact o.elim
        | exc c ns xs e2 => simp only [ha] at o; exact o
        | ok ds e1 =>
          simp only [ha] at o
          cases he : e1[i]? with
          | none => simp [he] at o; exact o.elim
          | some d =>
            cases hn2 : d.isAny with
            | true => simp [he, hn2] at o; exact o.elim
            | false =>
            simp [he, hn2] at o
            intro vs I2 H2 le2 hs2 hl er2 pk
            obtain ⟨v', ev', hs3⟩ := Hs.take hs2 hl he
            obtain rfl : v' = v := Option.some.inj (ev'.symm.trans (σv_at hv))
            exact o (v' :: vs) I2 H2 le2 hs3 (by simp [hl]) (er2.set he (fun h => absurd rfl h)) ⟨v', vs, rfl, hv, pk⟩
end
end Z

set_option Elab.async false
set_option linter.all false
set_option maxRecDepth 100000
set_option maxHeartbeats 4000000
/-! ZC: operations on operands: one rule for all. -/
namespace Z
open PySem PySem.Spec PyProof.Rows L2

section
variable {w : Wd} {I F H : Hp} {ds es : List D} {vs us : List V} {d : D} {v : V}
theorem Hs.comm (h : Hs w I F (ds ++ es) (vs ++ us) H) (hl : ds.length = vs.length) : Hs w I F (es ++ ds) (us ++ vs) H := by
  obtain ⟨fp, r, nd, dj⟩ := h.ex
  obtain ⟨f1, f2, rfl, r1, r2⟩ := r.split hl
  have p : List.Perm (f1 ++ f2) (f2 ++ f1) := List.perm_append_comm
  exact h.of_sub (r2.append r1) r nd dj (p.nodup_iff.mp nd) fun a m => p.symm.subset m
theorem Hs.front (h : Hs w I F (ds ++ d :: es) (vs ++ v :: us) H) (hl : ds.length = vs.length) : Hs w I F (d :: (ds ++ es)) (v :: (vs ++ us)) H := by
  obtain ⟨fp, r, nd, dj⟩ := h.ex
  obtain ⟨f1, f2, rfl, r1, r2⟩ := r.split hl
  obtain ⟨f3, f4, rfl, r3, r4⟩ := r2.out
  have p : List.Perm (f1 ++ (f3 ++ f4)) (f3 ++ (f1 ++ f4)) := by
    rw [← List.append_assoc, ← List.append_assoc]
    exact List.Perm.append_right f4 List.perm_append_comm
  exact h.of_sub (.cons r3 (r1.append r4)) r nd dj (p.nodup_iff.mp nd) fun a m => p.symm.subset m
theorem Hs.setAt {i : Nat} (h : Hs w I F (d :: (ds ++ es)) (v :: (vs ++ us)) H) (hl : ds.length = vs.length) (hi : i < es.length) (hv : us[i]? = some v) : Hs w I F (ds ++ es.set i d) (vs ++ us) H := by
  have z := h.set (i := ds.length + i) (by rw [List.length_append]; omega)
  rw [List.set_append_right _ _ (by omega), List.set_append_right _ _ (by omega)] at z
  rw [show ds.length + i - ds.length = i by omega, show ds.length + i - vs.length = i by omega] at z
  have e : us.set i v = us := by
    apply List.ext_getElem?
    intro j
    by_cases q : i = j
    · subst q
      have lt : i < us.length := (List.getElem?_eq_some_iff.mp hv).1
      rw [List.getElem?_set_self lt, hv]
    · rw [List.getElem?_set_ne q]
  rw [e] at z
  exact z
end

/-- an operation r on values does f on trees -/
def OutO (w : Wd) (I F : Hp) (es0 : List D) (us : List V) (Q : VK) (E : XK) : ORes → Prop
  | .ok rd es => ∀ z I' H', Le I I' → Hs w I' F (rd :: es) (z :: us) H' → Q z H'
  | .exc c ns xs es => ∀ cls d I' H', Le I I' → Hs w I' F es us H' → XRep w I' cls d c ns xs → E cls d H'
  | .bad => False
abbrev RN := List V → Hp → VK → XK → Prop
def OpD (w : Wd) (r : RN) (f : Op) : Prop := ∀ I F es us H Q E, Hs w I F es us H → OutO w I F es us Q E (f es) → r us H Q E

def mApp (f : Op) (ops : List Opd) : M := fun env => match evA ops env with
  | .ok ds e1 => (match f ds with
    | .ok r es => .ok r (putA ops es e1)
    | .exc c ns xs es => .exc c ns xs (putA ops es e1)
    | .bad => .bad)
  | .exc c ns xs e1 => .exc c ns xs e1
  | .bad => .bad

section
variable {Γ : Cx} {X : Fx} {W : WX}
theorem pk_len : ∀ {ops : List Opd} {us : List V} {σ : L2.St}, PkOk σ ops us → ops.length = us.length
  | [], us, σ, h => by rw [h]; rfl
  | .val m :: ops, us, σ, h => by obtain ⟨v, u, rfl, h⟩ := h; rw [List.length_cons, List.length_cons, pk_len h]
  | .peek i :: ops, us, σ, h => by obtain ⟨v, u, rfl, _, h⟩ := h; rw [List.length_cons, List.length_cons, pk_len h]
theorem σv_len (σ : L2.St) : (σv σ).length = σ.length := List.length_map _
theorem hs_put {w : Wd} {I F H : Hp} {σ : L2.St} : ∀ (ops : List Opd) (us : List V) (es env : List D) (pre : List D) (prev : List V), PkOk σ ops us → es.length = us.length → pre.length = prev.length →
    Hs w I F (pre ++ (es ++ env)) (prev ++ (us ++ σv σ)) H → Hs w I F (pre ++ putA ops es env) (prev ++ σv σ) H
  | [], us, es, env, pre, prev, pk, hl, hp, h => by
    have e1 : us = [] := pk
    subst e1
    have e2 : es = [] := List.length_eq_zero_iff.mp hl
    subst e2
    exact h
  | .val m :: ops, us, es, env, pre, prev, pk, hl, hp, h => by
    obtain ⟨v, u, rfl, pk⟩ := pk
    cases es with
    | nil => cases hl
    | cons d ds =>
      have h2 := (Hs.front (d := d) (v := v) h hp).drop
      exact hs_put ops u ds env pre prev pk (by simpa using hl) hp h2
  | .peek i :: ops, us, es, env, pre, prev, pk, hl, hp, h => by
    obtain ⟨v, u, rfl, hv, pk⟩ := pk
    cases es with
    | nil => cases hl
    | cons d ds =>
      have h2 := Hs.front (d := d) (v := v) h hp
      have h3 := hs_put ops u ds env (d :: pre) (v :: prev) pk (by simpa using hl) (by simp [hp]) h2
      have lt : i < (putA ops ds env).length := by
        have l1 := h3.length
        have l2 : i < σ.length := (List.getElem?_eq_some_iff.mp hv).1
        rw [List.length_append, List.length_append, σv_len] at l1
        simp at l1
        omega
      exact Hs.setAt (d := d) (v := v) h3 hp lt (σv_at hv)
theorem er_put {σ : L2.St} : ∀ (ops : List Opd) (us : List V) (es env : List D), PkOk σ ops us → EnvR X σ env → EnvR X σ (putA ops es env)
  | [], us, es, env, pk, h => by
    unfold putA; exact h
  | .val m :: ops, us, [], env, pk, h => by
    unfold putA; exact h
  | .peek i :: ops, us, [], env, pk, h => by
    unfold putA; exact h
  | .val m :: ops, us, d :: ds, env, pk, h => by
    obtain ⟨v, u, rfl, pk⟩ := pk
    exact er_put ops u ds env pk h
  | .peek i :: ops, us, d :: ds, env, pk, h => by
    obtain ⟨v, u, rfl, hv, pk⟩ := pk
    have h2 := er_put ops u ds env pk h
    refine ⟨fun j e hj hne => ?_, h2.pin⟩
    by_cases q : i = j
    · subst q
      exact ⟨v, hv⟩
    · have hj2 : ((putA ops ds env).set i d)[j]? = some e := hj
      rw [List.getElem?_set_ne q] at hj2
      exact h2.on j e hj2 hne
/-- operands, then an operation -/
theorem app_run {r : RN} {f : Op} (o : OpD X.w r f) {ops : List Opd} {σ : L2.St} {H : Hp} {Q : VK} (h : tE X W (mApp f ops) σ H Q) : tOs X W ops σ H fun us H1 => r us H1 Q (fun cls d H2 => W cls d σ H2) := by
  obtain ⟨I, F, env, hs, er, out⟩ := h
  refine ops_run ops σ H _ ⟨I, F, env, hs, er, ?_⟩
  unfold mApp at out
  cases ha : evA ops env with
  | bad => simp only [ha] at out; exact out.elim
  | exc c ns xs e1 => simp only [ha] at out; exact out
  | ok ds e1 =>
    simp only [ha] at out
    intro us I1 H1 le1 hs1 hl er1 pk
    have hs1' := hs1.comm hl
    have len2 : e1.length = (σv σ).length := by
      have := hs1.length
      rw [List.length_append, List.length_append] at this
      omega
    obtain ⟨G, hg, back⟩ := Hs.push hs1' len2
    refine o I1 G ds us H1 Q _ hg ?_
    cases hf : f ds with
    | bad => simp only [hf] at out; exact out.elim
    | ok rd es =>
      simp only [hf] at out
      intro z I2 H2 le2 hs2
      have hl2 : es.length = us.length := by
        have := hs2.length
        simpa using this
      have hs3 := (back I2 (rd :: es) (z :: us) H2 le2 hs2).comm len2
      refine out z I2 H2 (le1.trans le2) (hs_put ops us es e1 [rd] [z] pk hl2 rfl hs3) (er_put ops us es e1 pk er1)
    | exc c ns xs es =>
      simp only [hf] at out
      intro cls d I2 H2 le2 hs2 x2
      have hl2 : es.length = us.length := hs2.length
      have hs3 := (back I2 es us H2 le2 hs2).comm len2
      exact out cls d I2 H2 (le1.trans le2) (hs_put ops us es e1 [] [] pk hl2 rfl hs3) (er_put ops us es e1 pk er1) x2

/-! ### the shapes of the layer -/
theorem pe_opd {x : Str} {pos : Pos} {i : Nat} (h : PE Γ (.Name x pos) (tVar i)) : PE Γ (.Name x pos) (tO X W (.peek i)) := h
theorem pe_val {e : Expr} {m : M} (h : PE Γ e (tE X W m)) : PE Γ e (tO X W (.val m)) := h
theorem pa_z0 : PA Γ [] (tOs X W []) := pa_nil
theorem pa_z {e : Expr} {es : List Expr} {o : Opd} {ops : List Opd} (h : PE Γ e (tO X W o)) (hs : PA Γ es (tOs X W ops)) (hst : starEach (e :: es) Γ.env = (false, eval e Γ.env) :: starEach es Γ.env := by rfl) : PA Γ (e :: es) (tOs X W (o :: ops)) := pa_cons h hs hst
def r1 (r : V → Hp → VK → Prop) : RN := fun us H Q _ => match us with
  | [x] => r x H Q
  | _ => False
def r2 (r : R2) : RN := fun us H Q _ => match us with
  | [x, y] => r x y H Q
  | _ => False
def rN (r : List V → Hp → VK → Prop) : RN := fun us H Q _ => r us H Q
theorem z_op {op : Operator} {a b : Expr} {pos : Pos} {oa ob : Opd} {r : R2} {f : Op} (ho : OpR Γ (binaryOp op) r) (o : OpD X.w (r2 r) f) (ha : PE Γ a (tO X W oa)) (hb : PE Γ b (tO X W ob)) : PE Γ (.BinOp a op b pos) (tE X W (mApp f [oa, ob])) :=
  PEi (pe_op ho ha hb) fun σ H Q h => app_run o h
theorem z_cmp {op : CmpOp} {a b : Expr} {pos : Pos} {oa ob : Opd} {r : R2} {f : Op} (ho : OpR Γ (compareOp op) r) (o : OpD X.w (r2 r) f) (ha : PE Γ a (tO X W oa)) (hb : PE Γ b (tO X W ob)) (hm : behindInMarks op b = false) : PE Γ (.Compare a [op] [b] pos) (tE X W (mApp f [oa, ob])) :=
  PEi (pe_cmpR ho ha hb hm) fun σ H Q h => app_run o h
theorem z_un {op : UnaryOp} {a : Expr} {pos : Pos} {oa : Opd} {r : V → Hp → VK → Prop} {f : Op} (ho : UnR Γ (unaryOp op) r) (o : OpD X.w (r1 r) f) (ha : PE Γ a (tO X W oa)) : PE Γ (.UnaryOp op a pos) (tE X W (mApp f [oa])) :=
  PEi (pe_un ho ha) fun σ H Q h => app_run o h
theorem z_ix {a b : Expr} {pos : Pos} {oa ob : Opd} {r : R2} {f : Op} (hr : IxR Γ r) (o : OpD X.w (r2 r) f) (ha : PE Γ a (tO X W oa)) (hb : PE Γ b (tO X W ob)) (hs : PlainIx b) : PE Γ (.Subscript a b pos) (tE X W (mApp f [oa, ob])) :=
  PEi (pe_ix hr ha hb hs) fun σ H Q h => app_run o h
theorem z_callB {x : Str} {p pos : Pos} {id : String} {e : Expr} {es : List Expr} {ops : List Opd} {r : List V → Hp → VK → Prop} {f : Op} (hc : CallR Γ (.builtin id) r) (o : OpD X.w (rN r) f) (hg : Gl Γ x) (hm : Γ.mg x = none) (hv : bootBuiltins x = some (.builtin id)) (ha : PA Γ (e :: es) (tOs X W ops)) (hn : x ≠ "__name__" := by decide) (hdb : (x == ("__debug__" : Str)) = false := by decide)
    (he : starEach (e :: es) Γ.env = (false, eval e Γ.env) :: starEach es Γ.env := by rfl) (hpl : (backTo pos (starEach es Γ.env)).any (·.1) = false := by rfl) : PE Γ (.Call (.Name x p) (e :: es) [] pos) (tE X W (mApp f ops)) :=
  PEi (pe_callB hc hg hm hv ha hn hdb he hpl) fun σ H Q h => app_run o h
theorem z_callTy {x : Str} {p pos : Pos} {T : String} {e : Expr} {es : List Expr} {ops : List Opd} {r : List V → Hp → VK → Prop} {f : Op} (hc : CallR Γ (.type T) r) (o : OpD X.w (rN r) f) (hg : Gl Γ x) (hm : Γ.mg x = none) (hv : bootBuiltins x = some (.type T)) (ha : PA Γ (e :: es) (tOs X W ops)) (hn : x ≠ "__name__" := by decide) (hdb : (x == ("__debug__" : Str)) = false := by decide)
    (he : starEach (e :: es) Γ.env = (false, eval e Γ.env) :: starEach es Γ.env := by rfl) (hpl : (backTo pos (starEach es Γ.env)).any (·.1) = false := by rfl) : PE Γ (.Call (.Name x p) (e :: es) [] pos) (tE X W (mApp f ops)) :=
  PEi (pe_callTy hc hg hm hv ha hn hdb he hpl) fun σ H Q h => app_run o h
end
/-- nothing is held of them -/
theorem Hs.anys {w : Wd} {I F H : Hp} {ds : List D} {vs : List V} (h : Hs w I F ds vs H) : ∀ us : List V, Hs w I F (us.map (fun _ => D.any) ++ ds) (us ++ vs) H
  | [] => h
  | u :: us => by
    have h1 := Hs.anys h us
    obtain ⟨fp, r, nd, dj⟩ := h1.ex
    exact h1.of_sub (RepL.cons (d := .any) (v := u) (f1 := []) (by unfold Rep; rfl) r) r nd dj nd fun a m => m
theorem map_any {ds : List D} {us : List V} (h : ds.length = us.length) : ds.map (fun _ => D.any) = us.map (fun _ => D.any) := by
  rw [List.map_const', List.map_const', h]
theorem ite_out {w : Wd} {I F : Hp} {es0 : List D} {us : List V} {Q : VK} {E : XK} {c : Prop} [Decidable c] {a : ORes} (h : OutO w I F es0 us Q E (if c then a else .bad)) : c ∧ OutO w I F es0 us Q E a := by
  by_cases q : c
  · rw [if_pos q] at h; exact ⟨q, h⟩
  · rw [if_neg q] at h; exact h.elim
theorem szO {n : Nat} (h : n ≤ 100000) : n ≤ sizeLine := Nat.le_trans h (by decide)
theorem szL {n : Nat} (h : n < 100000) : n < sizeLine := Nat.lt_of_lt_of_le h (by decide)
section
variable {w : Wd}
/-! displays -/
def oTup : Op := fun ds => if ds.length ≤ 100000 then .ok (.node .tup ds) (ds.map fun _ => .any) else .bad
def oLst : Op := fun ds => if ds.length ≤ 100000 then .ok (.node (.lst true) ds) (ds.map fun _ => .any) else .bad
def rTup : RN := fun xs H Q _ => xs.length ≤ sizeLine ∧ ∀ p, H p = none → Q (.ref p) (upd H p (.tup xs))
def rLst : RN := fun xs H Q _ => xs.length ≤ sizeLine ∧ ∀ p, H p = none → Q (.ref p) (upd H p (.lst xs))
/-- all of the operands go into a new tuple -/
theorem Hs.tupOf {I F H : Hp} {es : List D} {us : List V} {p : Addr} (hs : Hs w I F es us H) (np : H p = none) : Le I (upd I p (.tup us)) ∧ Hs w (upd I p (.tup us)) F (.node .tup es :: es.map fun _ => .any) (.ref p :: us) (upd H p (.tup us)) := by
  have hl := hs.length
  obtain ⟨le, h2⟩ := Hs.newT (ds := []) (vs := []) (xs := es) (us := us) (by simpa using hs) hl np
  refine ⟨le, ?_⟩
  have h3 := (h2.anys us).comm (by simp)
  rw [map_any hl]
  exact h3
theorem Hs.lstOf {I F H : Hp} {es : List D} {us : List V} {p : Addr} (hs : Hs w I F es us H) (np : H p = none) : Hs w I F (.node (.lst true) es :: es.map fun _ => .any) (.ref p :: us) (upd H p (.lst us)) := by
  have hl := hs.length
  have h2 := Hs.newO (t := .lst true) (ds := []) (vs := []) (xs := es) (us := us) (o := .lst us) (by simpa using hs) hl np rfl trivial (show upd H p (.lst us) p = some (.lst us) from upd_same)
  have h3 := (h2.anys us).comm (by simp)
  rw [map_any hl]
  exact h3
theorem od_tup : OpD w rTup oTup := fun I F es us H Q E hs o => by
  obtain ⟨hz, o⟩ := ite_out o
  have hl := hs.length
  exact ⟨szO (by omega), fun p np => o (.ref p) _ _ (hs.tupOf np).1 (hs.tupOf np).2⟩
theorem od_lst : OpD w rLst oLst := fun I F es us H Q E hs o => by
  obtain ⟨hz, o⟩ := ite_out o
  have hl := hs.length
  exact ⟨szO (by omega), fun p np => o (.ref p) I _ (Le.refl I) (hs.lstOf np)⟩

/-! operations that look at their operands and give a flat value -/
def op1 (f : D → Option D) : Op
  | [d] => (match f d with
    | some z => .ok z [d]
    | none => .bad)
  | _ => .bad
def op2 (f : D → D → Option D) : Op
  | [d, e] => (match f d e with
    | some z => .ok z [d, e]
    | none => .bad)
  | _ => .bad
theorem od1 {r : RN} {f : D → Option D} (k : ∀ I F H d v z, Hs w I F [d] [v] H → f d = some z → ∃ zv, z.scal = some zv ∧ ∀ Q E, Q zv H → r [v] H Q E) : OpD w r (op1 f) := fun I F es us H Q E hs o => by
  match es, us, hs.length, hs, o with
  | [d], [v], _, hs, o =>
    unfold op1 at o
    cases e : f d with
    | none => simp only [e] at o; exact o.elim
    | some z =>
      simp only [e] at o
      obtain ⟨zv, hz, q⟩ := k I F H d v z hs e
      exact q Q E (o zv I H (Le.refl I) (hs.addC hz))
  | [], _, _, _, o => exact o.elim
  | _ :: _ :: _, _, _, _, o => exact o.elim
theorem od2 {r : RN} {f : D → D → Option D} (k : ∀ I F H d e v u z, Hs w I F [d, e] [v, u] H → f d e = some z → ∃ zv, z.scal = some zv ∧ ∀ Q E, Q zv H → r [v, u] H Q E) : OpD w r (op2 f) := fun I F es us H Q E hs o => by
  match es, us, hs.length, hs, o with
  | [d, g], [v, u], _, hs, o =>
    unfold op2 at o
    cases e : f d g with
    | none => simp only [e] at o; exact o.elim
    | some z =>
      simp only [e] at o
      obtain ⟨zv, hz, q⟩ := k I F H d g v u z hs e
      exact q Q E (o zv I H (Le.refl I) (hs.addC hz))
  | [], _, _, _, o => exact o.elim
  | [_], _, _, _, o => exact o.elim
  | _ :: _ :: _ :: _, _, _, _, o => exact o.elim
/-- what a flat tree stands for -/
theorem Hs.scal {I F H : Hp} {ds : List D} {vs : List V} {d : D} {v x : V} (h : Hs w I F (d :: ds) (v :: vs) H) (e : d.scal = some x) : v = x := by
  obtain ⟨fp, r⟩ := h.head
  cases d <;> simp [D.scal] at e <;> (subst e; unfold Rep at r; exact r.1)
theorem Hs.scal2 {I F H : Hp} {ds : List D} {vs : List V} {d d2 : D} {v v2 x : V} (h : Hs w I F (d :: d2 :: ds) (v :: v2 :: vs) H) (e : d2.scal = some x) : v2 = x := h.drop.scal e

end
end Z

set_option Elab.async false
set_option linter.all false
set_option maxRecDepth 100000
set_option maxHeartbeats 4000000
/-! ZD: what each operation of Python does on trees. -/
namespace Z
open PySem PySem.Spec PyProof.Rows L2
section
variable {w : Wd}
/-! ### ints -/
def onInt (g : Int → Int → Option D) (d e : D) : Option D := match d, e with
  | .int i, .int j => g i j
  | _, _ => none
theorem onInt_some {g : Int → Int → Option D} {d e z : D} (h : onInt g d e = some z) : ∃ i j, d = .int i ∧ e = .int j ∧ g i j = some z := by
  unfold onInt at h
  split at h
  · exact ⟨_, _, rfl, rfl, h⟩
  · cases h
theorem od_int2 {r : R2} {g : Int → Int → Option D} (k : ∀ i j z, g i j = some z → ∃ zv, z.scal = some zv ∧ ∀ H Q, Q zv H → r (.int i) (.int j) H Q) : OpD w (r2 r) (op2 (onInt g)) := od2 fun I F H d e v u z hs h => by
  obtain ⟨i, j, rfl, rfl, h⟩ := onInt_some h
  obtain ⟨zv, hz, q⟩ := k i j z h
  rw [hs.scal rfl, hs.scal2 rfl]
  exact ⟨zv, hz, fun Q E hq => q H Q hq⟩
abbrev oAdd : Op := op2 (onInt fun i j => some (.int (i + j)))
abbrev oSub : Op := op2 (onInt fun i j => some (.int (i - j)))
instance (i j : Int) : Decidable (CMul i j) := by unfold CMul; exact inferInstance
instance (i j : Int) : Decidable (CPow i j) := by unfold CPow; exact inferInstance
instance (i j : Int) : Decidable (CDivN i j) := by unfold CDivN; exact inferInstance
abbrev oMul : Op := op2 (onInt fun i j => if CMul i j then some (.int (i * j)) else none)
abbrev oDiv : Op := op2 (onInt fun i j => if CDivN i j then some (.int (i.fdiv j)) else none)
abbrev oMod : Op := op2 (onInt fun i j => if j ≠ 0 then some (.int (i.fmod j)) else none)
abbrev oPow : Op := op2 (onInt fun i j => if CPow i j then some (.int (i ^ j.toNat)) else none)
theorem ifs {α : Type} {c : Prop} [Decidable c] {a : α} {z : α} (h : (if c then some a else none) = some z) : c ∧ a = z := by
  by_cases q : c
  · rw [if_pos q] at h; exact ⟨q, Option.some.inj h⟩
  · rw [if_neg q] at h; cases h
theorem od_add : OpD w (r2 (rI0 fun i j => .int (i + j))) oAdd := od_int2 fun i j z h => by cases h; exact ⟨_, rfl, fun H Q q => ⟨i, j, rfl, rfl, q⟩⟩
theorem od_sub : OpD w (r2 (rI0 fun i j => .int (i - j))) oSub := od_int2 fun i j z h => by cases h; exact ⟨_, rfl, fun H Q q => ⟨i, j, rfl, rfl, q⟩⟩
theorem od_mul : OpD w (r2 (rI CMul fun i j => .int (i * j))) oMul := od_int2 fun i j z h => by obtain ⟨c, rfl⟩ := ifs h; exact ⟨_, rfl, fun H Q q => ⟨i, j, rfl, rfl, c, q⟩⟩
theorem od_div : OpD w (r2 (rI CDivN fun i j => .int (i.fdiv j))) oDiv := od_int2 fun i j z h => by obtain ⟨c, rfl⟩ := ifs h; exact ⟨_, rfl, fun H Q q => ⟨i, j, rfl, rfl, c, q⟩⟩
theorem od_mod : OpD w (r2 (rI (fun _ j => j ≠ 0) fun i j => .int (i.fmod j))) oMod := od_int2 fun i j z h => by obtain ⟨c, rfl⟩ := ifs h; exact ⟨_, rfl, fun H Q q => ⟨i, j, rfl, rfl, c, q⟩⟩
theorem od_pow : OpD w (r2 (rI CPow fun i j => .int (i ^ j.toNat))) oPow := od_int2 fun i j z h => by obtain ⟨c, rfl⟩ := ifs h; exact ⟨_, rfl, fun H Q q => ⟨i, j, rfl, rfl, c, q⟩⟩
abbrev oLt : Op := op2 (onInt fun i j => some (.bl (decide (i < j))))
abbrev oLe : Op := op2 (onInt fun i j => some (.bl (decide (i ≤ j))))
abbrev oGt : Op := op2 (onInt fun i j => some (.bl (decide (j < i))))
abbrev oGe : Op := op2 (onInt fun i j => some (.bl (decide (j ≤ i))))
theorem od_lt : OpD w (r2 (rI0 fun i j => .bl (decide (i < j)))) oLt := od_int2 fun i j z h => by cases h; exact ⟨_, rfl, fun H Q q => ⟨i, j, rfl, rfl, q⟩⟩
theorem od_le : OpD w (r2 (rI0 fun i j => .bl (decide (i ≤ j)))) oLe := od_int2 fun i j z h => by cases h; exact ⟨_, rfl, fun H Q q => ⟨i, j, rfl, rfl, q⟩⟩
theorem od_gt : OpD w (r2 (rI0 fun i j => .bl (decide (j < i)))) oGt := od_int2 fun i j z h => by cases h; exact ⟨_, rfl, fun H Q q => ⟨i, j, rfl, rfl, q⟩⟩
theorem od_ge : OpD w (r2 (rI0 fun i j => .bl (decide (j ≤ i)))) oGe := od_int2 fun i j z h => by cases h; exact ⟨_, rfl, fun H Q q => ⟨i, j, rfl, rfl, q⟩⟩
def onI1 (g : Int → Option D) (d : D) : Option D := match d with
  | .int i => g i
  | _ => none
theorem onI1_some {g : Int → Option D} {d z : D} (h : onI1 g d = some z) : ∃ i, d = .int i ∧ g i = some z := by
  unfold onI1 at h
  split at h
  · exact ⟨_, rfl, h⟩
  · cases h
abbrev oNeg : Op := op1 (onI1 fun i => some (.int (-i)))
theorem od_neg : OpD w (r1 (rU fun i => .int (-i))) oNeg := od1 fun I F H d v z hs h => by
  obtain ⟨i, rfl, h⟩ := onI1_some h
  cases h
  rw [hs.scal rfl]
  exact ⟨_, rfl, fun Q E q => ⟨i, rfl, q⟩⟩
abbrev oAbs : Op := op1 (onI1 fun i => some (.int (if i < 0 then -i else i)))
theorem od_abs : OpD w (rN fun xs H Q => ∃ i, xs = [.int i] ∧ Q (.int (if i < 0 then -i else i)) H) oAbs := od1 fun I F H d v z hs h => by
  obtain ⟨i, rfl, h⟩ := onI1_some h
  cases h
  rw [hs.scal rfl]
  exact ⟨_, rfl, fun Q E q => ⟨i, rfl, q⟩⟩
abbrev oMax2 : Op := op2 (onInt fun i j => some (.int (if j > i then j else i)))
abbrev oMin2 : Op := op2 (onInt fun i j => some (.int (if j < i then j else i)))
theorem od_max2 : OpD w (rN fun xs H Q => ∃ i j, xs = [.int i, .int j] ∧ Q (.int (if j > i then j else i)) H) oMax2 := od2 fun I F H d e v u z hs h => by
  obtain ⟨i, j, rfl, rfl, h⟩ := onInt_some h
  cases h
  rw [hs.scal rfl, hs.scal2 rfl]
  exact ⟨_, rfl, fun Q E q => ⟨i, j, rfl, q⟩⟩
theorem od_min2 : OpD w (rN fun xs H Q => ∃ i j, xs = [.int i, .int j] ∧ Q (.int (if j < i then j else i)) H) oMin2 := od2 fun I F H d e v u z hs h => by
  obtain ⟨i, j, rfl, rfl, h⟩ := onInt_some h
  cases h
  rw [hs.scal rfl, hs.scal2 rfl]
  exact ⟨_, rfl, fun Q E q => ⟨i, j, rfl, q⟩⟩
def intOf : D → Option D
  | .int i => some (.int i)
  | .bl b => some (.int (if b then 1 else 0))
  | _ => none
theorem od_int : OpD w (rN fun xs H Q => (∃ i, xs = [.int i] ∧ Q (.int i) H) ∨ ∃ k, xs = [.bl k] ∧ Q (.int (if k then 1 else 0)) H) (op1 intOf) := od1 fun I F H d v z hs h => by
  unfold intOf at h
  split at h
  · cases h
    rw [hs.scal rfl]
    exact ⟨_, rfl, fun Q E q => .inl ⟨_, rfl, q⟩⟩
  · cases h
    rw [hs.scal rfl]
    exact ⟨_, rfl, fun Q E q => .inr ⟨_, rfl, q⟩⟩
  · cases h
/-! ### lists and tuples looked at -/
/-- the items of a list or a tuple -/
def D.seq : D → Option (List D)
  | .node .tup xs => some xs
  | .node .tux xs => some xs
  | .node .scr xs => some xs
  | .node (.lst _) xs => some xs
  | _ => none
/-- a list or a tuple opened for looking: what stands there, and its items as they are -/
theorem Hs.seq {I F H : Hp} {ds : List D} {vs : List V} {d : D} {v : V} {xs : List D} (h : Hs w I F (d :: ds) (v :: vs) H) (e : d.seq = some xs) :
    ∃ a us, v = .ref a ∧ (SqL w.K H a us ∨ SqT w.K H a us) ∧ (∀ o, d = .node (.lst o) xs → H a = some (.lst us)) ∧ (d = .node .tup xs ∨ d = .node .tux xs → SqT w.K I a us) ∧ xs.length = us.length ∧ (∃ fp, RepL w I H xs us fp) ∧ Hs w I F (xs ++ ds) (us ++ vs) H := by
  obtain ⟨fp, r, nd, dj⟩ := h.ex
  obtain ⟨f1, f2, rfl, rr1, rr2⟩ := r.out
  have leI := h.iH
  cases d with
  | node t ys =>
    have rr := rr1
    unfold Rep at rr
    obtain ⟨a, us, fp', rfl, hl, hf, q⟩ := rr
    have hxs : ys = xs := by cases t <;> simp [D.seq] at e <;> exact e
    subst hxs
    have sub : ∀ b ∈ fp', b ∈ f1 := by
      rcases q with ⟨_, _, rfl⟩ | ⟨_, _, rfl⟩
      · exact fun b m => List.mem_cons_of_mem _ m
      · exact fun b m => m
    have nd' : fp'.Nodup := by
      rcases q with ⟨_, _, rfl⟩ | ⟨_, _, rfl⟩
      · exact (List.nodup_cons.mp (List.nodup_append.mp nd).1).2
      · exact (List.nodup_append.mp nd).1
    have h2 : Hs w I F (ys ++ ds) (us ++ vs) H := h.of_sub (hl.append rr2) r nd dj (List.nodup_append.mpr ⟨nd', (List.nodup_append.mp nd).2.1, fun b m c m' => (List.nodup_append.mp nd).2.2 b (sub b m) c m'⟩) (fun b m => by
      rcases List.mem_append.mp m with m | m
      · exact List.mem_append_left _ (sub b m)
      · exact List.mem_append_right _ m)
    cases t with
    | tup =>
      rcases q with ⟨ho, _, _⟩ | ⟨_, hat, _⟩
      · cases ho
      · exact ⟨a, us, rfl, .inr (le_t leI (SqT.of hat)), fun o e => (by cases e), fun _ => SqT.of hat, hl.length, ⟨_, hl⟩, h2⟩
    | tux =>
      rcases q with ⟨ho, _, _⟩ | ⟨_, hat, _⟩
      · cases ho
      · exact ⟨a, us, rfl, .inr (le_t leI (Tux.sqt hat)), fun o e => (by cases e), fun _ => Tux.sqt hat, hl.length, ⟨_, hl⟩, h2⟩
    | scr =>
      rcases q with ⟨ho, _, _⟩ | ⟨_, hat, _⟩
      · cases ho
      · exact ⟨a, us, rfl, .inl (le_l leI hat), fun o e => (by cases e), fun e => (by rcases e with e | e <;> cases e), hl.length, ⟨_, hl⟩, h2⟩
    | lst o =>
      rcases q with ⟨_, hat, _⟩ | ⟨_, hat, _⟩
      · have hat' : H a = some (.lst us) := hat
        exact ⟨a, us, rfl, .inl (Or.inl (Or.inl hat')), fun o e => hat', fun e => (by rcases e with e | e <;> cases e), hl.length, ⟨_, hl⟩, h2⟩
      · have hat' : I a = some (.lst us) := hat
        exact ⟨a, us, rfl, .inl (Or.inl (Or.inl (leI a _ hat'))), fun o e => leI a _ hat', fun e => (by rcases e with e | e <;> cases e), hl.length, ⟨_, hl⟩, h2⟩
    | dk o ks => simp [D.seq] at e
    | dt o ks => simp [D.seq] at e
    | ins o c ns => simp [D.seq] at e
  | _ => simp [D.seq] at e
/-- ints of trees -/
def intsOf : List D → Option (List Int)
  | [] => some []
  | .int i :: ds => (intsOf ds).map (i :: ·)
  | _ :: _ => none
def boolsOf : List D → Option (List Bool)
  | [] => some []
  | .bl i :: ds => (boolsOf ds).map (i :: ·)
  | _ :: _ => none
theorem intsOf_rep {I H : Hp} : ∀ {ds : List D} {us : List V} {fp : List Addr} {ns : List Int}, RepL w I H ds us fp → intsOf ds = some ns → us = ns.map V.int
  | [], us, fp, ns, h, e => by
    unfold RepL at h
    cases e
    exact h.1
  | d :: ds, us, fp, ns, h, e => by
    unfold RepL at h
    obtain ⟨v, u, f1, f2, rfl, rfl, h1, h2⟩ := h
    cases d <;> simp [intsOf] at e
    obtain ⟨ms, e1, rfl⟩ := e
    unfold Rep at h1
    rw [h1.1, intsOf_rep h2 e1]
    rfl
theorem boolsOf_rep {I H : Hp} : ∀ {ds : List D} {us : List V} {fp : List Addr} {ns : List Bool}, RepL w I H ds us fp → boolsOf ds = some ns → us = ns.map V.bl
  | [], us, fp, ns, h, e => by
    unfold RepL at h
    cases e
    exact h.1
  | d :: ds, us, fp, ns, h, e => by
    unfold RepL at h
    obtain ⟨v, u, f1, f2, rfl, rfl, h1, h2⟩ := h
    cases d <;> simp [boolsOf] at e
    obtain ⟨ms, e1, rfl⟩ := e
    unfold Rep at h1
    rw [h1.1, boolsOf_rep h2 e1]
    rfl
def lstInts : D → Option (List Int)
  | .node (.lst _) xs => intsOf xs
  | .node .scr xs => intsOf xs
  | _ => none
theorem Hs.seqL {I F H : Hp} {ds : List D} {vs : List V} {xs : List D} {v : V} {t : Tag} (h : Hs w I F (.node t xs :: ds) (v :: vs) H) (ht : t = .scr ∨ ∃ o, t = .lst o) : ∃ a us, v = .ref a ∧ SqL w.K H a us ∧ xs.length = us.length ∧ ∃ fp, RepL w I H xs us fp := by
  have leI := h.iH
  obtain ⟨fp, r⟩ := h.head
  unfold Rep at r
  obtain ⟨a, us, fp', rfl, hl, hf, q⟩ := r
  refine ⟨a, us, rfl, ?_, hl.length, _, hl⟩
  rcases ht with rfl | ⟨o, rfl⟩
  · rcases q with ⟨ho, _, _⟩ | ⟨_, hat, _⟩
    · cases ho
    · exact le_l leI hat
  · rcases q with ⟨_, hat, _⟩ | ⟨_, hat, _⟩
    · exact Or.inl (Or.inl hat)
    · exact Or.inl (Or.inl (leI a _ hat))
theorem lstInts_rep {I F H : Hp} {ds : List D} {vs : List V} {d : D} {v : V} {ns : List Int} (h : Hs w I F (d :: ds) (v :: vs) H) (e : lstInts d = some ns) : ∃ a, v = .ref a ∧ SqL w.K H a (ns.map V.int) := by
  unfold lstInts at e
  split at e
  · obtain ⟨a, us, rfl, hq, hl, fp, r⟩ := h.seqL (.inr ⟨_, rfl⟩)
    rw [← intsOf_rep r e]
    exact ⟨a, rfl, hq⟩
  · obtain ⟨a, us, rfl, hq, hl, fp, r⟩ := h.seqL (.inl rfl)
    rw [← intsOf_rep r e]
    exact ⟨a, rfl, hq⟩
  · cases e
def lstBools : D → Option (List Bool)
  | .node (.lst _) xs => boolsOf xs
  | _ => none
theorem lstBools_rep {I F H : Hp} {ds : List D} {vs : List V} {d : D} {v : V} {ns : List Bool} (h : Hs w I F (d :: ds) (v :: vs) H) (e : lstBools d = some ns) : ∃ a, v = .ref a ∧ SqL w.K H a (ns.map V.bl) := by
  unfold lstBools at e
  split at e
  · rename_i o xs
    obtain ⟨a, us, rfl, _, hq, _, hl, ⟨fp, r⟩, _⟩ := h.seq (xs := xs) rfl
    rw [← boolsOf_rep r e]
    exact ⟨a, rfl, Or.inl (Or.inl (hq o rfl))⟩
  · cases e
abbrev oSum : Op := op1 fun d => (lstInts d).map fun ns => .int ns.sum
theorem od_sum : OpD w (rN (rSum w.K)) oSum := od1 fun I F H d v z hs h => by
  obtain ⟨ns, e, rfl⟩ := Option.map_eq_some_iff.mp h
  obtain ⟨a, rfl, hq⟩ := lstInts_rep hs e
  exact ⟨_, rfl, fun Q E q => ⟨a, ns, rfl, hq, q⟩⟩
def maxI : List Int → Option Int
  | [] => none
  | x :: xs => some (xs.foldl max x)
def minI : List Int → Option Int
  | [] => none
  | x :: xs => some (xs.foldl min x)
theorem foldl_max : ∀ (xs : List Int) (x m : Int), (m = x ∨ m ∈ xs) → x ≤ m → (∀ y ∈ xs, y ≤ m) → xs.foldl max x = m
  | [], x, m, h, _, _ => by
    rcases h with rfl | h
    · rfl
    · cases h
  | y :: ys, x, m, h, h1, h2 => by
    have hy := h2 y (List.mem_cons_self ..)
    refine foldl_max ys (max x y) m ?_ (by omega) (fun z hz => h2 z (List.mem_cons_of_mem _ hz))
    rcases h with rfl | h
    · left; omega
    · rcases List.mem_cons.mp h with rfl | h
      · left; omega
      · right; exact h
theorem foldl_min : ∀ (xs : List Int) (x m : Int), (m = x ∨ m ∈ xs) → m ≤ x → (∀ y ∈ xs, m ≤ y) → xs.foldl min x = m
  | [], x, m, h, _, _ => by
    rcases h with rfl | h
    · rfl
    · cases h
  | y :: ys, x, m, h, h1, h2 => by
    have hy := h2 y (List.mem_cons_self ..)
    refine foldl_min ys (min x y) m ?_ (by omega) (fun z hz => h2 z (List.mem_cons_of_mem _ hz))
    rcases h with rfl | h
    · left; omega
    · rcases List.mem_cons.mp h with rfl | h
      · left; omega
      · right; exact h
theorem maxI_of {ns : List Int} {m x : Int} (h : maxI ns = some x) (h1 : m ∈ ns) (h2 : ∀ y ∈ ns, y ≤ m) : x = m := by
  cases ns with
  | nil => cases h
  | cons y ys =>
    have e : ys.foldl max y = x := Option.some.inj h
    rw [← e]
    exact foldl_max ys y m (List.mem_cons.mp h1) (h2 y (List.mem_cons_self ..)) fun z hz => h2 z (List.mem_cons_of_mem _ hz)
theorem minI_of {ns : List Int} {m x : Int} (h : minI ns = some x) (h1 : m ∈ ns) (h2 : ∀ y ∈ ns, m ≤ y) : x = m := by
  cases ns with
  | nil => cases h
  | cons y ys =>
    have e : ys.foldl min y = x := Option.some.inj h
    rw [← e]
    exact foldl_min ys y m (List.mem_cons.mp h1) (h2 y (List.mem_cons_self ..)) fun z hz => h2 z (List.mem_cons_of_mem _ hz)
theorem maxI_pos {ns : List Int} {x : Int} (h : maxI ns = some x) : 0 < ns.length := by
  cases ns with
  | nil => cases h
  | cons y ys => simp
theorem minI_pos {ns : List Int} {x : Int} (h : minI ns = some x) : 0 < ns.length := by
  cases ns with
  | nil => cases h
  | cons y ys => simp
abbrev oMaxL : Op := op1 fun d => (lstInts d).bind fun ns => (maxI ns).map .int
theorem od_maxL : OpD w (rN (rMax w.K)) oMaxL := od1 fun I F H d v z hs h => by
  obtain ⟨ns, e, h⟩ := Option.bind_eq_some_iff.mp h
  obtain ⟨x, ex, rfl⟩ := Option.map_eq_some_iff.mp h
  obtain ⟨a, rfl, hq⟩ := lstInts_rep hs e
  refine ⟨_, rfl, fun Q E q => ⟨a, ns, rfl, hq, maxI_pos ex, fun m hm hle => ?_⟩⟩
  rw [← maxI_of ex hm hle]
  exact q
abbrev oAll : Op := op1 fun d => (lstBools d).map fun bs => .bl (bs.all id)
theorem od_all : OpD w (rN (rAll w.K)) oAll := od1 fun I F H d v z hs h => by
  obtain ⟨ns, e, rfl⟩ := Option.map_eq_some_iff.mp h
  obtain ⟨a, rfl, hq⟩ := lstBools_rep hs e
  exact ⟨_, rfl, fun Q E q => ⟨a, ns, rfl, hq, q⟩⟩
abbrev oAny : Op := op1 fun d => (lstBools d).map fun bs => .bl (bs.any id)
theorem od_any : OpD w (rN (rAny w.K)) oAny := od1 fun I F H d v z hs h => by
  obtain ⟨ns, e, rfl⟩ := Option.map_eq_some_iff.mp h
  obtain ⟨a, rfl, hq⟩ := lstBools_rep hs e
  exact ⟨_, rfl, fun Q E q => ⟨a, ns, rfl, hq, q⟩⟩
abbrev oLen : Op := op1 fun d => d.seq.map fun xs => .int xs.length
theorem od_len : OpD w (rN fun xs H Q => ∃ p ys, xs = [.ref p] ∧ (SqL w.K H p ys ∨ SqT w.K H p ys) ∧ Q (.int ys.length) H) oLen := od1 fun I F H d v z hs h => by
  obtain ⟨xs, e, rfl⟩ := Option.map_eq_some_iff.mp h
  obtain ⟨a, us, rfl, hq, _, _, hl, _⟩ := hs.seq e
  exact ⟨_, rfl, fun Q E q => ⟨a, us, rfl, hq, by rw [← hl]; exact q⟩⟩
def isNon : D → Option D
  | .any => none
  | .non => some (.bl true)
  | _ => some (.bl false)
theorem Hs.nonOf {I F H : Hp} {ds : List D} {vs : List V} {d z : D} {v : V} (h : Hs w I F (d :: ds) (v :: vs) H) (e : isNon d = some z) : z = .bl (decide (v = .non)) := by
  obtain ⟨fp, r⟩ := h.head
  cases d <;> simp [isNon] at e <;> subst e
  · rw [h.scal rfl]; rfl
  · rw [h.scal rfl]; rfl
  · rw [h.scal rfl]; rfl
  · rw [h.scal rfl]; rfl
  · unfold Rep at r
    obtain ⟨a, us, fp', rfl, _⟩ := r
    rfl
def onNon (neg : Bool) (d e : D) : Option D := match e with
  | .non => (match isNon d with
    | some (.bl b) => some (.bl (b != neg))
    | _ => none)
  | _ => none
theorem od_isN : OpD w (r2 fun x y H Q => y = .non ∧ Q (.bl (decide (x = .non))) H) (op2 (onNon false)) := od2 fun I F H d e v u z hs h => by
  unfold onNon at h
  split at h
  · split at h
    · rename_i b hb
      cases h
      have hz := hs.nonOf hb
      rw [hs.scal2 rfl]
      refine ⟨.bl (b != false), rfl, fun Q E q => ⟨rfl, ?_⟩⟩
      have : b = decide (v = .non) := by simpa using hz
      rw [← this]
      simpa using q
    · cases h
  · cases h
theorem od_notN : OpD w (r2 fun x y H Q => y = .non ∧ Q (.bl (!decide (x = .non))) H) (op2 (onNon true)) := od2 fun I F H d e v u z hs h => by
  unfold onNon at h
  split at h
  · split at h
    · rename_i b hb
      cases h
      have hz := hs.nonOf hb
      rw [hs.scal2 rfl]
      refine ⟨.bl (b != true), rfl, fun Q E q => ⟨rfl, ?_⟩⟩
      have : b = decide (v = .non) := by simpa using hz
      rw [← this]
      simpa using q
    · cases h
  · cases h
end
end Z

set_option Elab.async false
set_option linter.all false
set_option maxRecDepth 100000
set_option maxHeartbeats 4000000
/-! ZE: data compared, items, slices, sums of lists, isinstance. -/
namespace Z
open PySem PySem.Spec PyProof.Rows L2
/-! ### trees as plain data -/
mutual
def D.py : D → Option PyData
  | .any => none
  | .non => some .none
  | .bl b => some (.bool b)
  | .int i => some (.int i)
  | .str s => some (.str s)
  | .node .tup xs => (pyL xs).map .tuple
  | .node .tux xs => (pyL xs).map .tuple
  | .node .scr xs => (pyL xs).map .list
  | .node (.lst _) xs => (pyL xs).map .list
  | .node _ _ => none
def pyL : List D → Option (List PyData)
  | [] => some []
  | d :: ds => match d.py, pyL ds with
    | some p, some ps => some (p :: ps)
    | _, _ => none
end
/-! nothing within is owned -/
mutual
def D.isFrz : D → Bool
  | .node t xs => !t.own && isFrzL xs
  | _ => true
def isFrzL : List D → Bool
  | [] => true
  | d :: ds => d.isFrz && isFrzL ds
end
theorem Tag.frz_id {t : Tag} (h : t.own = false) : t.frz = t := by
  cases t <;> first | rfl | (cases h; rfl)
mutual
theorem frz_id : ∀ {d : D}, d.isFrz = true → d.frz = d
  | .any, _ => rfl
  | .non, _ => rfl
  | .bl _, _ => rfl
  | .int _, _ => rfl
  | .str _, _ => rfl
  | .node t xs, h => by
    unfold D.isFrz at h
    simp at h
    show D.node t.frz (frzL xs) = D.node t xs
    rw [Tag.frz_id h.1, frzL_id h.2]
theorem frzL_id : ∀ {ds : List D}, isFrzL ds = true → frzL ds = ds
  | [], _ => rfl
  | d :: ds, h => by
    unfold isFrzL at h
    simp at h
    show d.frz :: frzL ds = d :: ds
    rw [frz_id h.1, frzL_id h.2]
end
theorem isFrzL_all : ∀ {ds : List D}, isFrzL ds = ds.all D.isFrz
  | [] => rfl
  | d :: ds => by unfold isFrzL; rw [List.all_cons, isFrzL_all]
mutual
theorem isFrz_frz : ∀ d : D, d.frz.isFrz = true
  | .any => rfl
  | .non => rfl
  | .bl _ => rfl
  | .int _ => rfl
  | .str _ => rfl
  | .node t xs => by
    show (!t.frz.own && isFrzL (frzL xs)) = true
    rw [Tag.own_frz, isFrzL_frz xs]
    rfl
theorem isFrzL_frz : ∀ ds : List D, isFrzL (frzL ds) = true
  | [] => rfl
  | d :: ds => by
    show (d.frz.isFrz && isFrzL (frzL ds)) = true
    rw [isFrz_frz d, isFrzL_frz ds]
    rfl
end
section
variable {w : Wd}
mutual
theorem Rep.dp {I H : Hp} (le : Le I H) : ∀ (d : D) (v : V) (fp : List Addr) (p : PyData), Rep w I H d v fp → d.py = some p → Dp w.K H v p
  | .any, v, fp, p, _, e => by cases e
  | .non, v, fp, p, h, e => by unfold Rep at h; cases e; rw [h.1]; exact .non
  | .bl b, v, fp, p, h, e => by unfold Rep at h; cases e; rw [h.1]; exact .bl b
  | .int i, v, fp, p, h, e => by unfold Rep at h; cases e; rw [h.1]; exact .int i
  | .str s, v, fp, p, h, e => by unfold Rep at h; cases e; rw [h.1]; exact .str s
  | .node t xs, v, fp, p, h, e => by
    unfold Rep at h
    obtain ⟨a, vs, fp', rfl, hl, hf, h⟩ := h
    cases t with
    | tup =>
      obtain ⟨ps, e1, rfl⟩ := Option.map_eq_some_iff.mp (show (pyL xs).map PyData.tuple = some p by unfold D.py at e; exact e)
      rcases h with ⟨ho, _, _⟩ | ⟨_, hat, _⟩
      · cases ho
      · exact .tup (le_t le (SqT.of hat)) (RepL.dp le xs vs fp' ps hl e1)
    | tux =>
      obtain ⟨ps, e1, rfl⟩ := Option.map_eq_some_iff.mp (show (pyL xs).map PyData.tuple = some p by unfold D.py at e; exact e)
      rcases h with ⟨ho, _, _⟩ | ⟨_, hat, _⟩
      · cases ho
      · exact .tup (le_t le (Tux.sqt hat)) (RepL.dp le xs vs fp' ps hl e1)
    | scr =>
      obtain ⟨ps, e1, rfl⟩ := Option.map_eq_some_iff.mp (show (pyL xs).map PyData.list = some p by unfold D.py at e; exact e)
      rcases h with ⟨ho, _, _⟩ | ⟨_, hat, _⟩
      · cases ho
      · exact .lst (le_l le hat) (RepL.dp le xs vs fp' ps hl e1)
    | lst o =>
      obtain ⟨ps, e1, rfl⟩ := Option.map_eq_some_iff.mp (show (pyL xs).map PyData.list = some p by unfold D.py at e; exact e)
      rcases h with ⟨_, hat, _⟩ | ⟨_, hat, _⟩
      · exact .lst (Or.inl (Or.inl hat)) (RepL.dp le xs vs fp' ps hl e1)
      · exact .lst (Or.inl (Or.inl (le a _ hat))) (RepL.dp le xs vs fp' ps hl e1)
    | dk o ks => unfold D.py at e; cases e
    | dt o ks => unfold D.py at e; cases e
    | ins o c ns => unfold D.py at e; cases e
theorem RepL.dp {I H : Hp} (le : Le I H) : ∀ (ds : List D) (vs : List V) (fp : List Addr) (ps : List PyData), RepL w I H ds vs fp → pyL ds = some ps → DpAll w.K H vs ps
  | [], vs, fp, ps, h, e => by
    unfold RepL at h
    unfold pyL at e
    cases e
    rw [h.1]
    exact .nil
  | d :: ds, vs, fp, ps, h, e => by
    unfold RepL at h
    obtain ⟨v, us, f1, f2, rfl, rfl, h1, h2⟩ := h
    unfold pyL at e
    cases e1 : d.py with
    | none => rw [e1] at e; cases e
    | some p =>
      cases e2 : pyL ds with
      | none => rw [e1, e2] at e; cases e
      | some qs =>
        rw [e1, e2] at e
        cases e
        exact .cons (Rep.dp le d v f1 p h1 e1) (RepL.dp le ds us f2 qs h2 e2)
end
theorem Hs.dp {I F H : Hp} {ds : List D} {vs : List V} {d : D} {v : V} {p : PyData} (h : Hs w I F (d :: ds) (v :: vs) H) (e : d.py = some p) : Dp w.K H v p := by
  obtain ⟨fp, r⟩ := h.head
  exact Rep.dp h.iH d v fp p r e
/-! ### == and != of data -/
def eqD (neg : Bool) (d e : D) : Option D := match d.py, e.py with
  | some p, some q => if SeqAt.shaped p = true ∧ SeqAt.shaped q = true then some (.bl (PyData.eqv p q != neg)) else none
  | _, _ => none
theorem eqD_some {neg : Bool} {d e z : D} (h : eqD neg d e = some z) : ∃ p q, d.py = some p ∧ e.py = some q ∧ SeqAt.shaped p = true ∧ SeqAt.shaped q = true ∧ z = .bl (PyData.eqv p q != neg) := by
  unfold eqD at h
  split at h
  · rename_i p q hp hq
    obtain ⟨⟨c1, c2⟩, rfl⟩ := ifs h
    exact ⟨p, q, hp, hq, c1, c2, rfl⟩
  · cases h
theorem od_eq : OpD w (r2 (rEqD w.K)) (op2 (eqD false)) := od2 fun I F H d e v u z hs h => by
  obtain ⟨p, q, hp, hq, s1, s2, rfl⟩ := eqD_some h
  exact ⟨_, rfl, fun Q E k => ⟨p, q, hs.dp hp, hs.drop.dp hq, s1, s2, by simpa using k⟩⟩
theorem od_ne : OpD w (r2 (rNeD w.K)) (op2 (eqD true)) := od2 fun I F H d e v u z hs h => by
  obtain ⟨p, q, hp, hq, s1, s2, rfl⟩ := eqD_some h
  exact ⟨_, rfl, fun Q E k => ⟨p, q, hs.dp hp, hs.drop.dp hq, s1, s2, by simpa using k⟩⟩
/-! ### x in a list of data -/
def inD (neg : Bool) (d e : D) : Option D := match d.py, e with
  | some p, .node (.lst _) xs => (match pyL xs with
    | some qs => if SeqAt.shaped p = true ∧ SeqAt.shaped (.list qs) = true then some (.bl ((qs.any fun z => PyData.eqv z p) != neg)) else none
    | none => none)
  | _, _ => none
theorem inD_some {neg : Bool} {d e z : D} (h : inD neg d e = some z) : ∃ p qs o xs, d.py = some p ∧ e = .node (.lst o) xs ∧ e.py = some (.list qs) ∧ SeqAt.shaped p = true ∧ SeqAt.shaped (.list qs) = true ∧ z = .bl ((qs.any fun z => PyData.eqv z p) != neg) := by
  unfold inD at h
  split at h
  · rename_i p o xs hp
    split at h
    · rename_i qs hq
      obtain ⟨⟨c1, c2⟩, rfl⟩ := ifs h
      exact ⟨p, qs, o, xs, hp, rfl, by unfold D.py; rw [hq]; rfl, c1, c2, rfl⟩
    · cases h
  · cases h
theorem od_in : OpD w (r2 (rInD w.K)) (op2 (inD false)) := od2 fun I F H d e v u z hs h => by
  obtain ⟨p, qs, o, xs, hp, rfl, hq, s1, s2, rfl⟩ := inD_some h
  exact ⟨_, rfl, fun Q E k => ⟨p, qs, hs.dp hp, hs.drop.dp hq, s1, s2, by simpa using k⟩⟩
theorem od_notIn : OpD w (r2 (rNotInD w.K)) (op2 (inD true)) := od2 fun I F H d e v u z hs h => by
  obtain ⟨p, qs, o, xs, hp, rfl, hq, s1, s2, rfl⟩ := inD_some h
  exact ⟨_, rfl, fun Q E k => ⟨p, qs, hs.dp hp, hs.drop.dp hq, s1, s2, by simpa using k⟩⟩
/-! ### an item -/
/-- one of the items is held, too, if it owns nothing -/
theorem Hs.child {I F H : Hp} {ds : List D} {vs : List V} {d c : D} {v : V} {xs : List D} {j : Nat} (h : Hs w I F (d :: ds) (v :: vs) H) (e : d.seq = some xs) (hj : xs[j]? = some c) (hc : c.isFrz = true) :
    ∃ a us z, v = .ref a ∧ (SqL w.K H a us ∨ SqT w.K H a us) ∧ us.length = xs.length ∧ us[j]? = some z ∧ Hs w I F (c :: d :: ds) (z :: v :: vs) H := by
  obtain ⟨a, us, rfl, hq, _, _, hl, ⟨fp, r⟩, _⟩ := h.seq e
  obtain ⟨z, f1, f2, hz, rz, _, _⟩ := r.take hj
  obtain rfl := rz.own_nil (frz_id hc)
  obtain ⟨fq, rq, nq, dq⟩ := h.ex
  exact ⟨a, us, z, rfl, hq, hl.symm, hz, h.of_sub (RepL.cons (f1 := []) rz rq) rq nq dq nq fun b m => m⟩
theorem seq_frz {d : D} {xs : List D} (e : d.seq = some xs) : d.frz.seq = some (frzL xs) := by
  cases d with
  | node t ys => cases t <;> simp [D.seq] at e <;> subst e <;> rfl
  | _ => simp [D.seq] at e
theorem frzL_at {xs : List D} {j : Nat} {c : D} (h : xs[j]? = some c) : (frzL xs)[j]? = some c.frz := by
  rw [frzL_eq, List.getElem?_map, h]
  rfl
theorem frzL_len (xs : List D) : (frzL xs).length = xs.length := by rw [frzL_eq, List.length_map]
/-- x[i] of a list, a tuple: an item that owns something is given up with all that it stands in -/
def oIx : Op
  | [d, .int i] => (match d.seq with
    | some xs => (match ixN xs.length i with
      | some j => (match xs[j]? with
        | some c => if c.isFrz = true then .ok c [d, .int i] else .ok c.frz [d.frz, .int i]
        | none => .bad)
      | none => .bad)
    | none => .bad)
  | _ => .bad
theorem atI_of {α : Type} {us : List α} {n j : Nat} {i : Int} {z : α} (hl : us.length = n) (h : ixN n i = some j) (hz : us[j]? = some z) : atI us i = some z := by
  unfold atI
  rw [hl, h]
  exact hz
theorem od_ix : OpD w (r2 (rIx w.K)) oIx := fun I F es us H Q E hs o => by
  unfold oIx at o
  split at o
  · rename_i d i
    match us, hs.length, hs, o with
    | [v, u], _, hs, o =>
      cases e1 : d.seq with
      | none => simp only [e1] at o; exact o.elim
      | some xs =>
        simp only [e1] at o
        cases e2 : ixN xs.length i with
        | none => simp only [e2] at o; exact o.elim
        | some j =>
          simp only [e2] at o
          cases e3 : xs[j]? with
          | none => simp only [e3] at o; exact o.elim
          | some c =>
            simp only [e3] at o
            have hu : u = .int i := hs.scal2 rfl
            subst hu
            by_cases hc : c.isFrz = true
            · rw [if_pos hc] at o
              obtain ⟨a, us, z, rfl, hq, hl, hz, h2⟩ := hs.child e1 e3 hc
              have q := o z I H (Le.refl I) h2
              rcases hq with hq | hq
              · exact .inl ⟨a, us, i, z, rfl, rfl, hq, atI_of hl e2 hz, q⟩
              · exact .inr (.inl ⟨a, us, i, z, rfl, rfl, hq, atI_of hl e2 hz, q⟩)
            · rw [if_neg hc] at o
              obtain ⟨J, le, h1⟩ := hs.freeze
              obtain ⟨a, us, z, rfl, hq, hl, hz, h2⟩ := h1.child (seq_frz e1) (frzL_at e3) (isFrz_frz c)
              rw [frzL_len] at hl
              have q := o z J H le h2
              rcases hq with hq | hq
              · exact .inl ⟨a, us, i, z, rfl, rfl, hq, atI_of hl e2 hz, q⟩
              · exact .inr (.inl ⟨a, us, i, z, rfl, rfl, hq, atI_of hl e2 hz, q⟩)
  · exact o.elim
/-! ### the items, held too -/
theorem RepL.nil_of_frz {I H : Hp} : ∀ {ds : List D} {vs : List V} {fp : List Addr}, RepL w I H ds vs fp → isFrzL ds = true → fp = []
  | [], vs, fp, h, _ => by unfold RepL at h; exact h.2
  | d :: ds, vs, fp, h, e => by
    unfold RepL at h
    obtain ⟨v, us, f1, f2, rfl, rfl, h1, h2⟩ := h
    unfold isFrzL at e
    simp at e
    rw [h1.own_nil (frz_id e.1), h2.nil_of_frz e.2]
    rfl
theorem Hs.items {I F H : Hp} {ds : List D} {vs : List V} {d : D} {v : V} {xs : List D} (h : Hs w I F (d :: ds) (v :: vs) H) (e : d.seq = some xs) (hc : isFrzL xs = true) :
    ∃ a us, v = .ref a ∧ (SqL w.K H a us ∨ SqT w.K H a us) ∧ (∀ o, d = .node (.lst o) xs → H a = some (.lst us)) ∧ (d = .node .tup xs ∨ d = .node .tux xs → SqT w.K H a us) ∧ us.length = xs.length ∧ Hs w I F (xs ++ (d :: ds)) (us ++ (v :: vs)) H := by
  obtain ⟨a, us, rfl, hq, hq2, hq3, hl, ⟨fp, r⟩, _⟩ := h.seq e
  obtain rfl := r.nil_of_frz hc
  obtain ⟨fq, rq, nq, dq⟩ := h.ex
  exact ⟨a, us, rfl, hq, hq2, fun e => le_t h.iH (hq3 e), hl.symm, h.of_sub (RepL.append (f1 := []) r rq) rq nq dq nq fun b m => m⟩
theorem RepL.sub {I H : Hp} : ∀ {ds : List D} {vs : List V} {fp : List Addr}, RepL w I H ds vs fp → isFrzL ds = true → ∀ (k n : Nat), RepL w I H ((ds.drop k).take n) ((vs.drop k).take n) []
  | [], vs, fp, h, _, k, n => by
    unfold RepL at h
    rw [h.1]
    simp
    exact .nil
  | d :: ds, vs, fp, h, e, k, n => by
    unfold RepL at h
    obtain ⟨v, us, f1, f2, rfl, rfl, h1, h2⟩ := h
    unfold isFrzL at e
    simp at e
    cases k with
    | succ k => exact h2.sub e.2 k n
    | zero =>
      cases n with
      | zero => simp; exact .nil
      | succ n =>
        have z := h2.sub e.2 0 n
        have e1 := h1.own_nil (frz_id e.1)
        subst e1
        exact RepL.cons (f1 := []) (f2 := []) h1 z
/-! ### list(x), of a list or a tuple -/
def oList : Op
  | [d] => (match d.seq with
    | some xs => if isFrzL xs = true then .ok (.node (.lst true) xs) [d] else .ok (.node (.lst true) (frzL xs)) [d.frz]
    | none => .bad)
  | _ => .bad
theorem od_list : OpD w (rN fun xs H Q => ∃ p ys, xs = [.ref p] ∧ (SqL w.K H p ys ∨ SqT w.K H p ys) ∧ ∀ l, H l = none → Q (.ref l) (upd H l (.lst ys))) oList := fun I F es us H Q E hs o => by
  unfold oList at o
  split at o
  · rename_i d
    match us, hs.length, hs, o with
    | [v], _, hs, o =>
      cases e1 : d.seq with
      | none => simp only [e1] at o; exact o.elim
      | some xs =>
        simp only [e1] at o
        by_cases hc : isFrzL xs = true
        · rw [if_pos hc] at o
          obtain ⟨a, us, rfl, hq, _, _, hl, h2⟩ := hs.items e1 hc
          exact ⟨a, us, rfl, hq, fun l nl => o (.ref l) I _ (Le.refl I) (Hs.newO (t := .lst true) h2 hl.symm nl rfl trivial (show upd H l (.lst us) l = some (.lst us) from upd_same))⟩
        · rw [if_neg hc] at o
          obtain ⟨J, le, h1⟩ := hs.freeze
          obtain ⟨a, us, rfl, hq, _, _, hl, h2⟩ := h1.items (seq_frz e1) (isFrzL_frz xs)
          exact ⟨a, us, rfl, hq, fun l nl => o (.ref l) J _ le (Hs.newO (t := .lst true) h2 hl.symm nl rfl trivial (show upd H l (.lst us) l = some (.lst us) from upd_same))⟩
  · exact o.elim
/-! ### tuple(x): of a list, of a tuple -/
def oTuple : Op
  | [.node (.lst o) xs] => if isFrzL xs = true then .ok (.node .tup xs) [.node (.lst o) xs] else .ok (.node .tup (frzL xs)) [.node (.lst false) (frzL xs)]
  | [.node .tup xs] => .ok (.node .tup (frzL xs)) [.node .tup (frzL xs)]
  | _ => .bad
theorem od_tuple : OpD w (rN fun xs H Q => ∃ p ys, xs = [.ref p] ∧ ((SqL w.K H p ys ∧ ∀ l, H l = none → Q (.ref l) (upd H l (.tup ys))) ∨ (SqT w.K H p ys ∧ Q (.ref p) H))) oTuple := fun I F es us H Q E hs o => by
  unfold oTuple at o
  split at o
  · rename_i o' xs
    match us, hs.length, hs, o with
    | [v], _, hs, o =>
      by_cases hc : isFrzL xs = true
      · rw [if_pos hc] at o
        obtain ⟨a, us, rfl, hq, hq2, _, hl, h2⟩ := hs.items (xs := xs) rfl hc
        refine ⟨a, us, rfl, .inl ⟨Or.inl (Or.inl (hq2 _ rfl)), fun l nl => ?_⟩⟩
        obtain ⟨le, h3⟩ := Hs.newT h2 hl.symm nl
        exact o (.ref l) _ _ le h3
      · rw [if_neg hc] at o
        obtain ⟨J, le, h1⟩ := hs.freeze
        obtain ⟨a, us, rfl, hq, hq2, _, hl, h2⟩ := h1.items (xs := frzL xs) rfl (isFrzL_frz xs)
        refine ⟨a, us, rfl, .inl ⟨Or.inl (Or.inl (hq2 false rfl)), fun l nl => ?_⟩⟩
        obtain ⟨le2, h3⟩ := Hs.newT h2 hl.symm nl
        exact o (.ref l) _ _ (le.trans le2) h3
  · rename_i xs
    match us, hs.length, hs, o with
    | [v], _, hs, o =>
      obtain ⟨J, le, h1⟩ := hs.freeze
      obtain ⟨a, us, rfl, hq, hq2, hq3, hl, h2⟩ := h1.items (xs := frzL xs) rfl (isFrzL_frz xs)
      exact ⟨a, us, rfl, .inr ⟨hq3 (.inl rfl), o (.ref a) J H le (h1.dup (frz_frz _))⟩⟩
  · exact o.elim
/-! ### xs + ys, of two lists; t + u, of two tuples -/
def oCat : Op
  | [.node (.lst o1) xs, .node (.lst o2) ys] => if xs.length + ys.length ≤ 100000 then (.ok (.node (.lst true) (frzL xs ++ frzL ys)) [.any, .any]) else .bad
  | _ => .bad
theorem od_cat : OpD w (r2 rCat) oCat := fun I F es us H Q E hs o => by
  unfold oCat at o
  split at o
  · rename_i o1 xs o2 ys
    obtain ⟨hz, o⟩ := ite_out o
    match us, hs.length, hs, o with
    | [v, u], _, hs, o =>
      obtain ⟨J, le, h1⟩ := hs.freeze
      obtain ⟨J2, le2, h2⟩ := h1.swap.freeze
      obtain ⟨b, us2, rfl, _, q2, _, l2, h3⟩ := h2.items (xs := frzL ys) rfl (isFrzL_frz ys)
      have h4 : Hs w J2 F ((frzL ys ++ [(D.node (.lst o2) ys).frz]) ++ (D.node (.lst o1) xs).frz :: []) ((us2 ++ [.ref b]) ++ v :: []) H := by simpa using h3
      have h5 := h4.front (by simp [l2])
      obtain ⟨a, us1, rfl, _, q1, _, l1, h6⟩ := h5.items (xs := frzL xs) rfl (isFrzL_frz xs)
      refine ⟨a, b, us1, us2, rfl, rfl, q1 false rfl, q2 false rfl, szO (by rw [l1, l2, frzL_len, frzL_len]; exact hz), fun p np => ?_⟩
      have h7 : Hs w J2 F ((frzL xs ++ [(D.node (.lst o1) xs).frz]) ++ (frzL ys ++ [(D.node (.lst o2) ys).frz])) ((us1 ++ [.ref a]) ++ (us2 ++ [.ref b])) H := by simpa using h6
      have h8 : Hs w J2 F ((frzL xs) ++ ((D.node (.lst o1) xs).frz :: (frzL ys ++ [(D.node (.lst o2) ys).frz]))) (us1 ++ (.ref a :: (us2 ++ [.ref b]))) H := by simpa using h7
      have h9 := (h8.front (by rw [l1])).drop
      have h10 : Hs w J2 F ((frzL xs ++ frzL ys) ++ [(D.node (.lst o2) ys).frz]) ((us1 ++ us2) ++ [.ref b]) H := by simpa using h9
      have h11 := (h10.comm (by simp [l1, l2])).drop
      have h12 : Hs w J2 F ((frzL xs ++ frzL ys) ++ []) ((us1 ++ us2) ++ []) H := by simpa using h11
      have h13 := Hs.newO (t := .lst true) (o := .lst (us1 ++ us2)) h12 (by simp [l1, l2]) np rfl trivial (show upd H p (.lst (us1 ++ us2)) p = some (.lst (us1 ++ us2)) from upd_same)
      have h14 := (h13.anys [.ref a, .ref b]).comm (by simp)
      exact o (.ref p) J2 _ (le.trans le2) h14
  · exact o.elim
end
end Z

set_option Elab.async false
set_option linter.all false
set_option maxRecDepth 100000
set_option maxHeartbeats 4000000
/-! ZF: tests, targets, statements, loops. -/
namespace Z
open PySem PySem.Spec PyProof.Rows L2
section
variable {Γ : Cx} {X : Fx} {W : WX}
/-! ### tests -/
def OutT (X : Fx) (W : WX) (I F : Hp) (σ : L2.St) (Q : Bool → Hp → Prop) : Res → Prop
  | .ok (.bl b) env' => ∀ I' H', Le I I' → Hs X.w I' F env' (σv σ) H' → EnvR X σ env' → Q b H'
  | .ok _ _ => False
  | .exc c ns xs env' => ∀ cls d I' H', Le I I' → Hs X.w I' F env' (σv σ) H' → EnvR X σ env' → XRep X.w I' cls d c ns xs → W cls d σ H'
  | .bad => False
def tT (X : Fx) (W : WX) (m : M) : TT := fun σ H Q => ∃ I F env, Hs X.w I F env (σv σ) H ∧ EnvR X σ env ∧ OutT X W I F σ Q (m env)
/-- a value that is a bool, as a test -/
theorem tT_of {m : M} {σ : L2.St} {H : Hp} {Q : Bool → Hp → Prop} (h : tT X W m σ H Q) : tB (tE X W m) σ H Q := by
  obtain ⟨I, F, env, hs, er, o⟩ := h
  refine ⟨I, F, env, hs, er, ?_⟩
  cases hm : m env with
  | bad => rw [hm] at o; exact o.elim
  | exc c ns xs e => rw [hm] at o; exact o
  | ok r e =>
    rw [hm] at o
    intro v I1 H1 le h1 er1
    cases r with
    | bl b =>
      rw [h1.scal rfl]
      exact ⟨b, rfl, o I1 H1 le h1.drop er1⟩
    | _ => exact o.elim
theorem t_val {e : Expr} {m : M} (h : PE Γ e (tE X W m)) (he : ∀ whole, isTrue e Γ.env whole = (do let v ← whole; standAt e.pos; holding [v] (truthy v)) := by intro _; rfl) : PT Γ e (tT X W m) := PTi (pt_val h he) fun σ H Q q => tT_of q
theorem t_cmp {op : CmpOp} {a b : Expr} {pos : Pos} {oa ob : Opd} {r : R2} {f : Op} (ho : OpR Γ (compareOp op) r) (o : OpD X.w (r2 r) f) (ha : PE Γ a (tO X W oa)) (hb : PE Γ b (tO X W ob)) (hm : behindInMarks op b = false) : PT Γ (.Compare a [op] [b] pos) (tT X W (mApp f [oa, ob])) :=
  PTi (pt_cmpR ho ha hb hm) fun σ H Q h => by
    obtain ⟨I, F, env, hs, er, q⟩ := tT_of h
    exact app_run o ⟨I, F, env, hs, er, q⟩
def mAnd (a b : M) : M := fun env => match a env with
  | .ok (.bl true) e => b e
  | .ok (.bl false) e => .ok (.bl false) e
  | .ok _ _ => .bad
  | r => r
def mOr (a b : M) : M := fun env => match a env with
  | .ok (.bl false) e => b e
  | .ok (.bl true) e => .ok (.bl true) e
  | .ok _ _ => .bad
  | r => r
def mNot (a : M) : M := fun env => match a env with
  | .ok (.bl b) e => .ok (.bl (!b)) e
  | .ok _ _ => .bad
  | r => r
theorem t_not {a : Expr} {pos : Pos} {m : M} (h : PT Γ a (tT X W m)) : PT Γ (.UnaryOp .Not a pos) (tT X W (mNot m)) := PTi (pt_not h) fun σ H Q q => by
  obtain ⟨I, F, env, hs, er, o⟩ := q
  refine ⟨I, F, env, hs, er, ?_⟩
  unfold mNot at o
  cases hm : m env with
  | bad => simp only [hm] at o; exact o.elim
  | exc c ns xs e => simp only [hm] at o; exact o
  | ok r e =>
    simp only [hm] at o
    cases r with
    | bl b => exact o
    | _ => exact o.elim
theorem t_and1 {a : Expr} {pos : Pos} {m : M} (h : PT Γ a (tT X W m)) : PW Γ (.BoolOp .And [a] pos) (tT X W m) := pw_and1 h
theorem t_or1 {a : Expr} {pos : Pos} {m : M} (h : PT Γ a (tT X W m)) : PW Γ (.BoolOp .Or [a] pos) (tT X W m) := pw_or1 h
theorem PWi {e : Expr} {t t' : TT} (h : PW Γ e t) (i : ∀ σ H Q, t' σ H Q → t σ H Q) : PW Γ e t' := ⟨fun wh pins s σ H Q I q => h.run wh pins s σ H Q I (i σ H Q q)⟩
theorem t_and {a b : Expr} {rest : List Expr} {pos : Pos} {ma mb : M} (ha : PT Γ a (tT X W ma)) (hb : PW Γ (.BoolOp .And (b :: rest) pos) (tT X W mb)) : PW Γ (.BoolOp .And (a :: b :: rest) pos) (tT X W (mAnd ma mb)) := PWi (pw_and ha hb) fun σ H Q q => by
  obtain ⟨I, F, env, hs, er, o⟩ := q
  refine ⟨I, F, env, hs, er, ?_⟩
  unfold mAnd at o
  cases hm : ma env with
  | bad => simp only [hm] at o; exact o.elim
  | exc c ns xs e => simp only [hm] at o; exact o
  | ok r e =>
    simp only [hm] at o
    cases r with
    | bl b =>
      intro I1 H1 le h1 er1
      cases b with
      | true =>
        refine ⟨I1, F, e, h1, er1, ?_⟩
        simp only at o
        revert o
        cases mb e with
        | bad => exact fun o => o
        | exc c ns xs e2 => exact fun o cls d I2 H2 le2 => o cls d I2 H2 (le.trans le2)
        | ok r2 e2 =>
          cases r2 with
          | bl c => exact fun o I2 H2 le2 => o I2 H2 (le.trans le2)
          | _ => exact fun o => o
      | false => exact o I1 H1 le h1 er1
    | _ => exact o.elim
theorem t_or {a b : Expr} {rest : List Expr} {pos : Pos} {ma mb : M} (ha : PT Γ a (tT X W ma)) (hb : PW Γ (.BoolOp .Or (b :: rest) pos) (tT X W mb)) : PW Γ (.BoolOp .Or (a :: b :: rest) pos) (tT X W (mOr ma mb)) := PWi (pw_or ha hb) fun σ H Q q => by
  obtain ⟨I, F, env, hs, er, o⟩ := q
  refine ⟨I, F, env, hs, er, ?_⟩
  unfold mOr at o
  cases hm : ma env with
  | bad => simp only [hm] at o; exact o.elim
  | exc c ns xs e => simp only [hm] at o; exact o
  | ok r e =>
    simp only [hm] at o
    cases r with
    | bl b =>
      intro I1 H1 le h1 er1
      cases b with
      | false =>
        refine ⟨I1, F, e, h1, er1, ?_⟩
        simp only at o
        revert o
        cases mb e with
        | bad => exact fun o => o
        | exc c ns xs e2 => exact fun o cls d I2 H2 le2 => o cls d I2 H2 (le.trans le2)
        | ok r2 e2 =>
          cases r2 with
          | bl c => exact fun o I2 H2 le2 => o I2 H2 (le.trans le2)
          | _ => exact fun o => o
      | true => exact o I1 H1 le h1 er1
    | _ => exact o.elim
/-- what comes later comes from what was before -/
theorem Out.later {I J F : Hp} {σ : L2.St} {Q : VK} {r : Res} (le : Le I J) (o : Out X W I F σ Q r) : Out X W J F σ Q r := by
  cases r with
  | bad => exact o
  | ok r e => exact fun v I2 H2 le2 => o v I2 H2 (le.trans le2)
  | exc c ns xs e => exact fun cls d I2 H2 le2 => o cls d I2 H2 (le.trans le2)
theorem OutT.later {I J F : Hp} {σ : L2.St} {Q : Bool → Hp → Prop} {r : Res} (le : Le I J) (o : OutT X W I F σ Q r) : OutT X W J F σ Q r := by
  cases r with
  | bad => exact o
  | ok r e =>
    cases r with
    | bl b => exact fun I2 H2 le2 => o I2 H2 (le.trans le2)
    | _ => exact o
  | exc c ns xs e => exact fun cls d I2 H2 le2 => o cls d I2 H2 (le.trans le2)
/-! ### and, or as values -/
theorem z_and {a b : Expr} {rest : List Expr} {pos : Pos} {ma mb : M} (ha : PE Γ a (tE X W ma)) (hb : PE Γ (.BoolOp .And (b :: rest) pos) (tE X W mb)) : PE Γ (.BoolOp .And (a :: b :: rest) pos) (tE X W (mAnd ma mb)) := PEi (pe_and ha hb) fun σ H Q q => by
  obtain ⟨I, F, env, hs, er, o⟩ := q
  refine ⟨I, F, env, hs, er, ?_⟩
  unfold mAnd at o
  cases hm : ma env with
  | bad => simp only [hm] at o; exact o.elim
  | exc c ns xs e => simp only [hm] at o; exact o
  | ok r e =>
    simp only [hm] at o
    intro v I1 H1 le h1 er1
    cases r with
    | bl b =>
      rw [h1.scal rfl]
      refine ⟨b, rfl, ?_⟩
      cases b with
      | true => exact ⟨I1, F, e, h1.drop, er1, Out.later le o⟩
      | false => exact o (.bl false) I1 H1 le (h1.drop.addC rfl) er1
    | _ => exact o.elim
theorem z_or {a b : Expr} {rest : List Expr} {pos : Pos} {ma mb : M} (ha : PE Γ a (tE X W ma)) (hb : PE Γ (.BoolOp .Or (b :: rest) pos) (tE X W mb)) : PE Γ (.BoolOp .Or (a :: b :: rest) pos) (tE X W (mOr ma mb)) := PEi (pe_or ha hb) fun σ H Q q => by
  obtain ⟨I, F, env, hs, er, o⟩ := q
  refine ⟨I, F, env, hs, er, ?_⟩
  unfold mOr at o
  cases hm : ma env with
  | bad => simp only [hm] at o; exact o.elim
  | exc c ns xs e => simp only [hm] at o; exact o
  | ok r e =>
    simp only [hm] at o
    intro v I1 H1 le h1 er1
    cases r with
    | bl b =>
      rw [h1.scal rfl]
      refine ⟨b, rfl, ?_⟩
      cases b with
      | false => exact ⟨I1, F, e, h1.drop, er1, Out.later le o⟩
      | true => exact o (.bl true) I1 H1 le (h1.drop.addC rfl) er1
    | _ => exact o.elim
theorem z_one {op} {a : Expr} {pos : Pos} {m : M} (h : PE Γ a (tE X W m)) : PE Γ (.BoolOp op [a] pos) (tE X W m) := pe_one h
theorem z_not {a : Expr} {pos : Pos} {m : M} (h : PE Γ a (tE X W m)) : PE Γ (.UnaryOp .Not a pos) (tE X W (mNot m)) := PEi (pe_not h) fun σ H Q q => by
  obtain ⟨I, F, env, hs, er, o⟩ := q
  refine ⟨I, F, env, hs, er, ?_⟩
  unfold mNot at o
  cases hm : m env with
  | bad => simp only [hm] at o; exact o.elim
  | exc c ns xs e => simp only [hm] at o; exact o
  | ok r e =>
    simp only [hm] at o
    intro v I1 H1 le h1 er1
    cases r with
    | bl b =>
      rw [h1.scal rfl]
      exact ⟨b, rfl, o _ I1 H1 le (h1.drop.addC rfl) er1⟩
    | _ => exact o.elim
def mIf (c a b : M) : M := fun env => match c env with
  | .ok (.bl true) e => a e
  | .ok (.bl false) e => b e
  | .ok _ _ => .bad
  | r => r
theorem z_if {c a b : Expr} {pos : Pos} {mc ma mb : M} (hc : PT Γ c (tT X W mc)) (ha : PE Γ a (tE X W ma)) (hb : PE Γ b (tE X W mb)) : PE Γ (.IfExp c a b pos) (tE X W (mIf mc ma mb)) := PEi (pe_ifExp hc ha hb) fun σ H Q q => by
  obtain ⟨I, F, env, hs, er, o⟩ := q
  refine ⟨I, F, env, hs, er, ?_⟩
  unfold mIf at o
  cases hm : mc env with
  | bad => simp only [hm] at o; exact o.elim
  | exc c ns xs e => simp only [hm] at o; exact o
  | ok r e =>
    simp only [hm] at o
    cases r with
    | bl b =>
      intro I1 H1 le h1 er1
      cases b with
      | true => exact ⟨I1, F, e, h1, er1, Out.later le o⟩
      | false => exact ⟨I1, F, e, h1, er1, Out.later le o⟩
    | _ => exact o.elim
/-- a < b < c of ints, b looked at once -/
def mChain (p q : Int → Int → Bool) (a b c : M) : M := fun env => match a env with
  | .ok (.int i) e1 => (match b e1 with
    | .ok (.int j) e2 => if p i j = true then (match c e2 with
      | .ok (.int k) e3 => .ok (.bl (q j k)) e3
      | .ok _ _ => .bad
      | r => r) else .ok (.bl false) e2
    | .ok _ _ => .bad
    | r => r)
  | .ok _ _ => .bad
  | r => r
theorem chain_run {p q : Int → Int → Bool} {ma mb mc : M} {σ : L2.St} {H : Hp} {Q : VK} (z : tE X W (mChain p q ma mb mc) σ H Q) : tChain (rI0 fun i j => .bl (p i j)) (rI0 fun i j => .bl (q i j)) (tE X W ma) (tE X W mb) (tE X W mc) σ H Q := by
  obtain ⟨I, F, env, hs, er, o⟩ := z
  refine ⟨I, F, env, hs, er, ?_⟩
  unfold mChain at o
  cases h1 : ma env with
  | bad => simp only [h1] at o; exact o.elim
  | exc c ns xs e => simp only [h1] at o; exact o
  | ok r e1 =>
    simp only [h1] at o
    intro v I1 H1 le1 s1 er1
    cases r with
    | int i =>
      rw [s1.scal rfl]
      refine ⟨I1, F, e1, s1.drop, er1, ?_⟩
      cases h2 : mb e1 with
      | bad => simp only [h2] at o; exact o.elim
      | exc c ns xs e => simp only [h2] at o; exact Out.later (r := .exc c ns xs e) (Q := Q) le1 o
      | ok r2 e2 =>
        simp only [h2] at o
        intro u I2 H2 le2 s2 er2
        cases r2 with
        | int j =>
          rw [s2.scal rfl]
          refine ⟨i, j, rfl, rfl, p i j, rfl, ?_⟩
          cases hp : p i j with
          | false =>
            simp only [hp] at o
            exact o (.bl false) I2 H2 (le1.trans le2) (s2.drop.addC rfl) er2
          | true =>
            simp only [hp, if_true] at o
            refine ⟨I2, F, e2, s2.drop, er2, ?_⟩
            cases h3 : mc e2 with
            | bad => simp only [h3] at o; exact o.elim
            | exc c ns xs e => simp only [h3] at o; exact Out.later (r := .exc c ns xs e) (Q := Q) (le1.trans le2) o
            | ok r3 e3 =>
              simp only [h3] at o
              intro y I3 H3 le3 s3 er3
              cases r3 with
              | int k =>
                rw [s3.scal rfl]
                exact ⟨j, k, rfl, rfl, o _ I3 H3 ((le1.trans le2).trans le3) (s3.drop.addC rfl) er3⟩
              | _ => exact o.elim
        | _ => exact o.elim
    | _ => exact o.elim
theorem z_chain {op op' : CmpOp} {p q : Int → Int → Bool} {a b c : Expr} {pos : Pos} {ma mb mc : M} (ho : OpR Γ (compareOp op) (rI0 fun i j => .bl (p i j))) (ho' : OpR Γ (compareOp op') (rI0 fun i j => .bl (q i j))) (ha : PE Γ a (tE X W ma)) (hb : PE Γ b (tE X W mb)) (hc : PE Γ c (tE X W mc))
    (hm : lastMarks [op, op'] [b, c] = false := by with_unfolding_all rfl) : PE Γ (.Compare a [op, op'] [b, c] pos) (tE X W (mChain p q ma mb mc)) := PEi (pe_chain ho ho' ha hb hc hm) fun σ H Q z => chain_run z
theorem t_chain {op op' : CmpOp} {p q : Int → Int → Bool} {a b c : Expr} {pos : Pos} {ma mb mc : M} (ho : OpR Γ (compareOp op) (rI0 fun i j => .bl (p i j))) (ho' : OpR Γ (compareOp op') (rI0 fun i j => .bl (q i j))) (ha : PE Γ a (tE X W ma)) (hb : PE Γ b (tE X W mb)) (hc : PE Γ c (tE X W mc))
    (hm : lastMarks [op, op'] [b, c] = false := by with_unfolding_all rfl) : PT Γ (.Compare a [op, op'] [b, c] pos) (tT X W (mChain p q ma mb mc)) := PTi (pt_chain ho ho' ha hb hc hm) fun σ H Q z => chain_run (tT_of z)
end
end Z

set_option Elab.async false
set_option linter.all false
set_option maxRecDepth 100000
set_option maxHeartbeats 4000000
/-! ZG: targets, statements, loops. -/
namespace Z
open PySem PySem.Spec PyProof.Rows L2
/-- how a statement ends -/
inductive SRes where
  | nx (e : Env) | rt (d : D) (e : Env) | bk (e : Env) | ct (e : Env) | exc (c : Str) (ns : List Str) (xs : List D) (e : Env) | bad
abbrev S := Env → SRes
section
variable {Γ : Cx} {X : Fx} {W : WX}
def OutS (X : Fx) (W : WX) (I F : Hp) (E : Ends) : SRes → Prop
  | .nx e => ∀ σ' I' H', Le I I' → Hs X.w I' F e (σv σ') H' → EnvR X σ' e → E.nx σ' H'
  | .rt d e => ∀ v σ' I' H', Le I I' → Hs X.w I' F (d :: e) (v :: σv σ') H' → EnvR X σ' e → E.rt v H'
  | .bk e => ∀ σ' I' H', Le I I' → Hs X.w I' F e (σv σ') H' → EnvR X σ' e → E.bk σ' H'
  | .ct e => ∀ σ' I' H', Le I I' → Hs X.w I' F e (σv σ') H' → EnvR X σ' e → E.ct σ' H'
  | .exc c ns xs e => ∀ cls d σ' I' H', Le I I' → Hs X.w I' F e (σv σ') H' → EnvR X σ' e → XRep X.w I' cls d c ns xs → W cls d σ' H'
  | .bad => False
theorem OutS.later {I J F : Hp} {E : Ends} {r : SRes} (le : Le I J) (o : OutS X W I F E r) : OutS X W J F E r := by
  cases r with
  | bad => exact o
  | nx e => exact fun σ' I2 H2 le2 => o σ' I2 H2 (le.trans le2)
  | rt d e => exact fun v σ' I2 H2 le2 => o v σ' I2 H2 (le.trans le2)
  | bk e => exact fun σ' I2 H2 le2 => o σ' I2 H2 (le.trans le2)
  | ct e => exact fun σ' I2 H2 le2 => o σ' I2 H2 (le.trans le2)
  | exc c ns xs e => exact fun cls d σ' I2 H2 le2 => o cls d σ' I2 H2 (le.trans le2)
def tS (X : Fx) (W : WX) (m : S) : TS := fun E σ H => ∃ I F env, Hs X.w I F env (σv σ) H ∧ EnvR X σ env ∧ OutS X W I F E (m env)

/-! ### targets -/
inductive Tgt where
  | nm (i : Nat) | tp (ts : List Tgt)
mutual
def asg : Tgt → D → Env → Option Env
  | .nm i, d, env => if i < env.length then some (env.set i d) else none
  | .tp ts, .node .tup xs, env => asgL ts xs env
  | .tp ts, .node .tux xs, env => asgL ts xs env
  | .tp _, _, _ => none
def asgL : List Tgt → List D → Env → Option Env
  | [], [], env => some env
  | t :: ts, d :: ds, env => (asg t d env).bind (asgL ts ds)
  | _, _, _ => none
end
mutual
def Tgt.slots : Tgt → List Nat
  | .nm i => [i]
  | .tp ts => slotsL ts
def slotsL : List Tgt → List Nat
  | [] => []
  | t :: ts => t.slots ++ slotsL ts
end
/-- alike but at some slots -/
def But (js : List Nat) (σ σ' : L2.St) : Prop := σ'.length = σ.length ∧ ∀ i, i ∉ js → σ'[i]? = σ[i]?
theorem But.refl (js : List Nat) (σ : L2.St) : But js σ σ := ⟨rfl, fun _ _ => rfl⟩
def tG (X : Fx) (t : Tgt) : TG := fun v σ H Q => ∃ I F env d, Hs X.w I F (d :: env) (v :: σv σ) H ∧ EnvR X σ env ∧ ∃ env', asg t d env = some env' ∧ ∀ σ' I' H', But t.slots σ σ' → Le I I' → Hs X.w I' F env' (σv σ') H' → EnvR X σ' env' → Q σ' H'
def tGs (X : Fx) (t : List Tgt) : TGs := fun vs σ H Q => ∃ I F env ds, Hs X.w I F (ds ++ env) (vs ++ σv σ) H ∧ ds.length = vs.length ∧ EnvR X σ env ∧ ∃ env', asgL t ds env = some env' ∧ ∀ σ' I' H', But (slotsL t) σ σ' → Le I I' → Hs X.w I' F env' (σv σ') H' → EnvR X σ' env' → Q σ' H'
theorem PGi {e : Expr} {t t' : TG} (h : PG Γ e t) (i : ∀ v σ H Q, t' v σ H Q → t v σ H Q) : PG Γ e t' := ⟨fun pins s σ H v u Q I r q => h.run pins s σ H v u Q I r (i v σ H Q q)⟩
theorem PGsi {e : List Expr} {t t' : TGs} (h : PGs Γ e t) (i : ∀ v σ H Q, t' v σ H Q → t v σ H Q) : PGs Γ e t' := ⟨fun pins s σ H v u Q I r q => h.run pins s σ H v u Q I r (i v σ H Q q)⟩
theorem σv_set (σ : L2.St) (i : Nat) (v : V) : σv (σ.set i (some v)) = (σv σ).set i v := by
  unfold σv
  rw [List.map_set]
  rfl
theorem EnvR.store {σ : L2.St} {env : Env} (h : EnvR X σ env) {i : Nat} {d : D} {v : V} (hl : env.length = σ.length) (hi : i < env.length) (hp : i ∉ X.pin) : EnvR X (σ.set i (some v)) (env.set i d) := by
  refine ⟨fun j e hj hne => ?_, fun j hj u hu => ?_⟩
  · by_cases q : i = j
    · subst q
      exact ⟨v, by rw [List.getElem?_set_self (by omega)]⟩
    · rw [List.getElem?_set_ne q] at hj
      obtain ⟨x, hx⟩ := h.on j e hj hne
      exact ⟨x, by rw [List.getElem?_set_ne q]; exact hx⟩
  · have q : i ≠ j := fun e => hp (by rw [e]; exact hj)
    rw [List.getElem?_set_ne q]
    exact h.pin j hj u hu
theorem hs_len {I F H : Hp} {σ : L2.St} {env : Env} (h : Hs X.w I F env (σv σ) H) : env.length = σ.length := by
  have := h.length
  rw [σv_len] at this
  exact this
theorem g_name {i : Nat} (hp : i ∉ X.pin) : ∀ v σ H Q, tG X (.nm i) v σ H Q → gName i v σ H Q := fun v σ H Q q => by
  obtain ⟨I, F, env, d, hs, er, env', e, k⟩ := q
  unfold asg at e
  by_cases hi : i < env.length
  · rw [if_pos hi] at e
    cases e
    have h1 := hs.set hi
    rw [← σv_set] at h1
    exact k _ I H ⟨List.length_set, fun j hj => List.getElem?_set_ne (fun e => hj (by rw [← e]; exact List.mem_singleton.mpr rfl))⟩ (Le.refl I) h1 (er.store (hs_len hs.drop) hi hp)
  · rw [if_neg hi] at e
    cases e
theorem g_nm {i : Nat} {x : Str} {pos : Pos} (h : PG Γ (.Name x pos) (gName i)) (hp : i ∉ X.pin := by decide) : PG Γ (.Name x pos) (tG X (.nm i)) := PGi h (g_name hp)
theorem gs_nil : PGs Γ [] (tGs X []) := PGsi pgs_nil fun vs σ H Q q => by
  obtain ⟨I, F, env, ds, hs, hl, er, env', e, k⟩ := q
  cases ds with
  | nil =>
    have ev : vs = [] := List.length_eq_zero_iff.mp hl.symm
    subst ev
    unfold asgL at e
    cases e
    exact ⟨rfl, k σ I H (But.refl _ _) (Le.refl I) hs er⟩
  | cons d ds => unfold asgL at e; cases e
theorem gs_cons {t : Tgt} {ts : List Tgt} {e : Expr} {es : List Expr} (h : PG Γ e (tG X t)) (hs : PGs Γ es (tGs X ts))
    (hst : (assignEach (e :: es) Γ.env).map (·.2) = assign e Γ.env :: (assignEach es Γ.env).map (·.2) := by rfl) : PGs Γ (e :: es) (tGs X (t :: ts)) := PGsi (pgs_cons h hs hst) fun vs σ H Q q => by
  obtain ⟨I, F, env, ds, hs, hl, er, env', e, k⟩ := q
  cases ds with
  | nil => unfold asgL at e; cases e
  | cons d ds =>
    cases vs with
    | nil => cases hl
    | cons v vs =>
      unfold asgL at e
      obtain ⟨e1, a1, a2⟩ := Option.bind_eq_some_iff.mp e
      refine ⟨v, vs, rfl, ?_⟩
      have hl2 : ds.length = vs.length := by simpa using hl
      have h1 : Hs X.w I F ((d :: ds) ++ env) ((v :: vs) ++ σv σ) H := hs
      have h2 : Hs X.w I F ((d :: ds).tail ++ (d :: env)) (vs ++ (v :: σv σ)) H := by
        have z : Hs X.w I F ([d] ++ (ds ++ env)) ([v] ++ (vs ++ σv σ)) H := hs
        have z2 := (z.comm rfl)
        have z3 : Hs X.w I F (ds ++ (env ++ [d])) (vs ++ (σv σ ++ [v])) H := by simpa using z2
        obtain ⟨G, g, back⟩ := Hs.push z3 hl2
        have g2 := g.comm (by have := hs.length; simp [σv_len] at this ⊢; omega)
        exact back I _ _ H (Le.refl I) g2
      obtain ⟨G, g, back⟩ := Hs.push h2 hl2
      refine ⟨I, G, env, d, g, er, e1, a1, fun σ' I' H' bt le h' er' => ?_⟩
      refine ⟨I', F, e1, ds, back I' _ _ H' le h', hl2, er', env', a2, fun σ2 I2 H2 bt2 le2 => k σ2 I2 H2 ⟨bt2.1.trans bt.1, fun i hi => ?_⟩ (le.trans le2)⟩
      have hi' : i ∉ t.slots ++ slotsL ts := hi
      rw [bt2.2 i (fun z => hi' (List.mem_append_right _ z)), bt.2 i (fun z => hi' (List.mem_append_left _ z))]
theorem asgL_len : ∀ (ts : List Tgt) (ds : List D) (env env' : Env), asgL ts ds env = some env' → ds.length = ts.length := by
  intro ts
  induction ts with
  | nil =>
    intro ds env env' e
    cases ds with
    | nil => rfl
    | cons d ds => unfold asgL at e; cases e
  | cons t ts ih =>
    intro ds env env' e
    cases ds with
    | nil => unfold asgL at e; cases e
    | cons d ds =>
      unfold asgL at e
      obtain ⟨e1, a1, a2⟩ := Option.bind_eq_some_iff.mp e
      simp [ih ds e1 env' a2]
theorem g_tp {ts : List Tgt} {es : List Expr} {k} {pos : Pos} (hc : Γ.calm = true) (h : PGs Γ es (tGs X ts)) (hK : X.w.K = Γ.K) (hn : (assignEach es Γ.env).length = ts.length := by rfl) (hst : (assignEach es Γ.env).findIdx? (·.1) = none := by rfl) : PG Γ (.Tuple es k pos) (tG X (.tp ts)) := PGi (pg_tup hc h hn hst) fun v σ H Q q => by
  obtain ⟨I, F, env, d, hs, er, env', e, kk⟩ := q
  cases d with
  | node t xs =>
    cases t with
    | tup =>
      unfold asg at e
      obtain ⟨a, us, rfl, hq, _, hq2, hl, _, h2⟩ := hs.seq (xs := xs) rfl
      refine ⟨a, us, rfl, ?_, by rw [← hl]; exact asgL_len ts xs env env' e, I, F, env, xs, h2, hl, er, env', e, kk⟩
      rw [← hK]
      exact le_t hs.iH (hq2 (.inl rfl))
    | tux =>
      unfold asg at e
      obtain ⟨a, us, rfl, hq, _, hq2, hl, _, h2⟩ := hs.seq (xs := xs) rfl
      refine ⟨a, us, rfl, ?_, by rw [← hl]; exact asgL_len ts xs env env' e, I, F, env, xs, h2, hl, er, env', e, kk⟩
      rw [← hK]
      exact le_t hs.iH (hq2 (.inr rfl))
    | _ => unfold asg at e; cases e
  | _ => unfold asg at e; cases e

/-! ### statements -/
def sSeq (a b : S) : S := fun env => match a env with
  | .nx e => b e
  | r => r
theorem s_seq {st : Stmt} {rest : List Stmt} {a b : S} (h1 : PS Γ st (tS X W a)) (h2 : PSs Γ rest (tS X W b)) : PSs Γ (st :: rest) (tS X W (sSeq a b)) := PSsi (pss_cons h1 h2) fun E σ H q => by
  obtain ⟨I, F, env, hs, er, o⟩ := q
  refine ⟨I, F, env, hs, er, ?_⟩
  unfold sSeq at o
  cases h : a env with
  | nx e =>
    simp only [h] at o
    intro σ' I' H' le h' er'
    exact ⟨I', F, e, h', er', o.later le⟩
  | rt d e => simp only [h] at o; exact o
  | bk e => simp only [h] at o; exact o
  | ct e => simp only [h] at o; exact o
  | exc c ns xs e => simp only [h] at o; exact o
  | bad => simp only [h] at o; exact o
def sNext : S := fun env => .nx env
theorem s_nil : PSs Γ [] (tS X W sNext) := PSsi pss_nil fun E σ H q => by
  obtain ⟨I, F, env, hs, er, o⟩ := q
  exact o σ I H (Le.refl I) hs er
theorem s_pass {pos : Pos} : PS Γ (.Pass pos) (tS X W sNext) := PSi ps_pass fun E σ H q => by
  obtain ⟨I, F, env, hs, er, o⟩ := q
  exact o σ I H (Le.refl I) hs er
def sBrk : S := fun env => .bk env
theorem s_brk {pos : Pos} : PS Γ (.Break pos) (tS X W sBrk) := PSi ps_break fun E σ H q => by
  obtain ⟨I, F, env, hs, er, o⟩ := q
  exact o σ I H (Le.refl I) hs er
def sCnt : S := fun env => .ct env
theorem s_cnt {pos : Pos} : PS Γ (.Continue pos) (tS X W sCnt) := PSi ps_continue fun E σ H q => by
  obtain ⟨I, F, env, hs, er, o⟩ := q
  exact o σ I H (Le.refl I) hs er
def sBad : S := fun _ => .bad
theorem s_bad {st : Stmt} : PS Γ st (tS X W sBad) := PSi ps_never fun E σ H q => by
  obtain ⟨I, F, env, hs, er, o⟩ := q
  exact o
theorem s_one {st : Stmt} {a : S} (h : PS Γ st (tS X W a)) : PSs Γ [st] (tS X W a) := pss_one h
def sRet (m : M) : S := fun env => match m env with
  | .ok r e => .rt r e
  | .exc c ns xs e => .exc c ns xs e
  | .bad => .bad
theorem s_ret {e : Expr} {pos : Pos} {m : M} (h : PE Γ e (tE X W m)) : PS Γ (.Return (some e) pos) (tS X W (sRet m)) := PSi (ps_ret h) fun E σ H q => by
  obtain ⟨I, F, env, hs, er, o⟩ := q
  refine ⟨I, F, env, hs, er, ?_⟩
  unfold sRet at o
  cases hm : m env with
  | bad => simp only [hm] at o; exact o.elim
  | ok r e => simp only [hm] at o; exact fun v I' H' le h' er' => o v σ I' H' le h' er'
  | exc c ns xs e => simp only [hm] at o; exact fun cls d I' H' le h' er' x => o cls d σ I' H' le h' er' x
/-- return x, of a name: nothing is given up, for nothing comes after -/
def sRetV (i : Nat) : S := fun env => match env[i]? with
  | some d => if d.isAny = true then .bad else .rt d (env.set i .any)
  | none => .bad
theorem s_retV {x : Str} {p pos : Pos} {i : Nat} (h : PE Γ (.Name x p) (tVar i)) : PS Γ (.Return (some (.Name x p)) pos) (tS X W (sRetV i)) := PSi (ps_ret h) fun E σ H q => by
  obtain ⟨I, F, env, hs, er, o⟩ := q
  unfold sRetV at o
  cases hd : env[i]? with
  | none => simp only [hd] at o; exact o.elim
  | some d =>
    simp only [hd] at o
    cases ha : d.isAny with
    | true => simp [ha] at o; exact o.elim
    | false =>
      simp [ha] at o
      obtain ⟨v, hv⟩ := er.on i d hd (isAny_iff.mp ha)
      obtain ⟨v', e', h1⟩ := Hs.take (es := []) (us := []) hs rfl hd
      have ev : v' = v := Option.some.inj (e'.symm.trans (σv_at hv))
      subst ev
      exact ⟨v', hv, o v' σ I H (Le.refl I) h1 (er.set hd fun h => absurd rfl h)⟩
def sRetN : S := fun env => .rt .non env
theorem s_retN {pos : Pos} : PS Γ (.Return none pos) (tS X W sRetN) := PSi ps_retN fun E σ H q => by
  obtain ⟨I, F, env, hs, er, o⟩ := q
  exact o .non σ I H (Le.refl I) (hs.addC rfl) er
def sDrop (m : M) : S := fun env => match m env with
  | .ok _ e => .nx e
  | .exc c ns xs e => .exc c ns xs e
  | .bad => .bad
theorem s_drop {e : Expr} {pos : Pos} {m : M} (h : PE Γ e (tE X W m)) (hsw : swapsWith e none pos.line Γ.env = pure false := by rfl) : PS Γ (.Expr e pos) (tS X W (sDrop m)) := PSi (ps_expr h hsw) fun E σ H q => by
  obtain ⟨I, F, env, hs, er, o⟩ := q
  refine ⟨I, F, env, hs, er, ?_⟩
  unfold sDrop at o
  cases hm : m env with
  | bad => simp only [hm] at o; exact o.elim
  | ok r e => simp only [hm] at o; exact fun v I' H' le h' er' => o σ I' H' le h'.drop er'
  | exc c ns xs e => simp only [hm] at o; exact fun cls d I' H' le h' er' x => o cls d σ I' H' le h' er' x
def sIf (c : M) (a b : S) : S := fun env => match c env with
  | .ok (.bl true) e => a e
  | .ok (.bl false) e => b e
  | .ok _ _ => .bad
  | .exc c ns xs e => .exc c ns xs e
  | .bad => .bad
theorem s_if {c : Expr} {p q : List Stmt} {pos : Pos} {mc : M} {a b : S} (hc : PT Γ c (tT X W mc)) (ha : PSs Γ p (tS X W a)) (hb : PSs Γ q (tS X W b)) : PS Γ (.If c p q pos) (tS X W (sIf mc a b)) := PSi (ps_if hc ha hb) fun E σ H q => by
  obtain ⟨I, F, env, hs, er, o⟩ := q
  refine ⟨I, F, env, hs, er, ?_⟩
  unfold sIf at o
  cases hm : mc env with
  | bad => simp only [hm] at o; exact o.elim
  | exc c ns xs e => simp only [hm] at o; exact fun cls d I' H' le h' er' x => o cls d σ I' H' le h' er' x
  | ok r e =>
    simp only [hm] at o
    cases r with
    | bl b =>
      intro I1 H1 le h1 er1
      cases b with
      | true => exact ⟨I1, F, e, h1, er1, OutS.later le o⟩
      | false => exact ⟨I1, F, e, h1, er1, OutS.later le o⟩
    | _ => exact o.elim
def sAsg (t : Tgt) (m : M) : S := fun env => match m env with
  | .ok r e => (match asg t r e with
    | some e2 => .nx e2
    | none => .bad)
  | .exc c ns xs e => .exc c ns xs e
  | .bad => .bad
theorem asg_run {te : TE} {m : M} {t : Tgt} {g : TG} {E : Ends} {σ : L2.St} {H : Hp} (hte : ∀ Q, tE X W m σ H Q → te σ H Q) (hg : ∀ v σ H Q, tG X t v σ H Q → g v σ H Q) (q : tS X W (sAsg t m) E σ H) : tAsg te g E σ H := by
  obtain ⟨I, F, env, hs, er, o⟩ := q
  refine hte _ ⟨I, F, env, hs, er, ?_⟩
  unfold sAsg at o
  cases hm : m env with
  | bad => simp only [hm] at o; exact o.elim
  | exc c ns xs e => simp only [hm] at o; exact fun cls d I' H' le h' er' x => o cls d σ I' H' le h' er' x
  | ok r e =>
    simp only [hm] at o
    intro v I1 H1 le h1 er1
    cases ht : asg t r e with
    | none => simp only [ht] at o; exact o.elim
    | some e2 =>
      simp only [ht] at o
      exact hg _ _ _ _ ⟨I1, F, e, r, h1, er1, e2, ht, fun σ' I2 H2 _ le2 h2 er2 => o σ' I2 H2 (le.trans le2) h2 er2⟩
/-- x = e -/
theorem s_set {i : Nat} {x : Str} {e : Expr} {m : M} {pos' pos : Pos} (hN : Γ.N.Nodup) (hi : Γ.N[i]? = some x) (hx : Loc Γ.env.scope x) (he : PE Γ e (tE X W m)) (hp : i ∉ X.pin := by decide) (hs : swapsWith e (some (.Name x pos')) pos.line Γ.env = pure false := by rfl) (hf : Γ.fn x = true ∨ Γ.env.scope.names.lookup x = some .local := by first | exact .inl rfl | exact .inr rfl | assumption) :
    PS Γ (.Assign [.Name x pos'] e pos) (tS X W (sAsg (.nm i) m)) := PSi (ps_set hN hi hx he hs hf) fun E σ H q => asg_run (fun _ z => z) (g_name hp) q
/-- a, b = e and the like -/
theorem s_asg {tg e : Expr} {pos : Pos} {m : M} {t : Tgt} (he : PE Γ e (tE X W m)) (hg : PG Γ tg (tG X t)) (hs : swapsWithSole [tg] e pos.line Γ.env = pure false := by rfl) (hw : swappedStores [tg] e Γ.env = pure none := by rfl)
    (h1 : (assignEach [tg] Γ.env).map (·.2) = [assign tg Γ.env] := by rfl) : PS Γ (.Assign [tg] e pos) (tS X W (sAsg t m)) := PSi (ps_asg he hg hs hw h1) fun E σ H q => asg_run (fun _ z => z) (fun _ _ _ _ z => z) q
/-- a, b = x, y: both sides written -/
def sPar (is : List Nat) (ops : List Opd) : S := fun env => match evA ops env with
  | .ok ds e1 => (match asgL (is.map .nm) ds e1 with
    | some e2 => .nx e2
    | none => .bad)
  | .exc c ns xs e => .exc c ns xs e
  | .bad => .bad
theorem par_go {I F H : Hp} : ∀ (is : List Nat) (ds : List D) (vs : List V) (env env' : Env) (σ : L2.St), (∀ i ∈ is, i ∉ X.pin) → Hs X.w I F (ds ++ env) (vs ++ σv σ) H → ds.length = vs.length → EnvR X σ env → asgL (is.map .nm) ds env = some env' →
    Hs X.w I F env' (σv ((is.zip vs).foldl (fun s p => s.set p.1 (some p.2)) σ)) H ∧ EnvR X ((is.zip vs).foldl (fun s p => s.set p.1 (some p.2)) σ) env' ∧ is.length = vs.length
  | [], ds, vs, env, env', σ, hp, hs, hl, er, e => by
    cases ds with
    | nil =>
      have ev : vs = [] := List.length_eq_zero_iff.mp hl.symm
      subst ev
      have e2 : some env = some env' := e
      cases e2
      exact ⟨hs, er, rfl⟩
    | cons d ds => cases e
  | i :: is, ds, vs, env, env', σ, hp, hs, hl, er, e => by
    cases ds with
    | nil => cases e
    | cons d ds =>
      cases vs with
      | nil => cases hl
      | cons v vs =>
        have e2 : (asg (.nm i) d env).bind (asgL (is.map .nm) ds) = some env' := e
        obtain ⟨e1, a1, a2⟩ := Option.bind_eq_some_iff.mp e2
        unfold asg at a1
        have hl2 : ds.length = vs.length := by simpa using hl
        by_cases hi : i < env.length
        · rw [if_pos hi] at a1
          cases a1
          have hlen : env.length = σ.length := by have := hs.length; simp [σv_len] at this hl; omega
          have z : Hs X.w I F (d :: (ds ++ env)) (v :: (vs ++ σv σ)) H := hs
          have z1 := z.set (i := ds.length + i) (by simp; omega)
          rw [List.set_append_right _ _ (by omega), List.set_append_right _ _ (by omega)] at z1
          rw [show ds.length + i - ds.length = i by omega, show ds.length + i - vs.length = i by omega] at z1
          rw [← σv_set] at z1
          obtain ⟨r1, r2, r3⟩ := par_go is ds vs (env.set i d) env' (σ.set i (some v)) (fun j m => hp j (List.mem_cons_of_mem _ m)) z1 hl2 (er.store hlen hi (hp i (List.mem_cons_self ..))) a2
          exact ⟨r1, r2, by simp [r3]⟩
        · rw [if_neg hi] at a1
          cases a1
theorem par_run {is : List Nat} {ops : List Opd} {E : Ends} {σ : L2.St} {H : Hp} (hp : ∀ i ∈ is, i ∉ X.pin) (q : tS X W (sPar is ops) E σ H) : tOs X W ops σ H fun vs H1 => is.length = vs.length ∧ E.nx ((is.zip vs).foldl (fun s p => s.set p.1 (some p.2)) σ) H1 := by
  obtain ⟨I, F, env, hs, er, o⟩ := q
  refine ops_run ops σ H _ ⟨I, F, env, hs, er, ?_⟩
  unfold sPar at o
  cases ha : evA ops env with
  | bad => simp only [ha] at o; exact o.elim
  | exc c ns xs e => simp only [ha] at o; exact fun cls d I' H' le h' er' x => o cls d σ I' H' le h' er' x
  | ok ds e1 =>
    simp only [ha] at o
    intro vs I1 H1 le1 h1 hl er1 pk
    cases hb : asgL (is.map .nm) ds e1 with
    | none => simp only [hb] at o; exact o.elim
    | some e2 =>
      simp only [hb] at o
      obtain ⟨r1, r2, r3⟩ := par_go is ds vs e1 e2 σ hp h1 hl er1 hb
      exact ⟨r3, o _ I1 H1 le1 r1 r2⟩
theorem s_par {i j : Nat} {x y : Str} {a b : Expr} {px py pt pos : Pos} {kt k2 pt2} {ops : List Opd} (hc : Γ.calm = true) (hN : Γ.N.Nodup) (hi : Γ.N[i]? = some x) (hj : Γ.N[j]? = some y) (hij : i ≠ j)
    (hx : Γ.env.scope.names.lookup x = some .local) (hy : Γ.env.scope.names.lookup y = some .local) (ha : PA Γ [a, b] (tOs X W ops))
    (hw : swappedStores [.Tuple [.Name x px, .Name y py] kt pt] (.Tuple [a, b] k2 pt2) Γ.env = pure (some [x, y])) (hp : ∀ k ∈ [i, j], k ∉ X.pin := by decide)
    (hs : swapsWithSole [.Tuple [.Name x px, .Name y py] kt pt] (.Tuple [a, b] k2 pt2) pos.line Γ.env = pure false := by rfl) :
    PS Γ (.Assign [.Tuple [.Name x px, .Name y py] kt pt] (.Tuple [a, b] k2 pt2) pos) (tS X W (sPar [i, j] ops)) := PSi (ps_par hc hN hi hj hij hx hy ha hw hs) fun E σ H q => by
  have z := par_run hp q
  have key : ∀ (ops : List Opd) (σ0 : L2.St) (H : Hp) (Q Q' : List V → Hp → Prop), (∀ vs H, Q vs H → Q' vs H) → tOs X W ops σ0 H Q → tOs X W ops σ0 H Q' := by
    intro ops
    induction ops with
    | nil => exact fun σ0 H Q Q' k h => k _ _ h
    | cons o ops ih =>
      intro σ0 H Q Q' k h
      cases o with
      | peek i =>
        obtain ⟨v, hv, h⟩ := h
        exact ⟨v, hv, ih _ _ _ _ (fun vs H q => k _ _ q) h⟩
      | val m =>
        obtain ⟨I, F, env, hs, er, o⟩ := h
        refine ⟨I, F, env, hs, er, ?_⟩
        revert o
        cases m env with
        | bad => exact fun o => o
        | exc c ns xs e => exact fun o => o
        | ok r e => exact fun o v I' H' le h' er' => ih _ _ _ _ (fun vs H q => k _ _ q) (o v I' H' le h' er')
  refine key ops σ H _ _ (fun vs H1 h => ?_) z
  obtain ⟨hl, h⟩ := h
  match vs, hl, h with
  | [v, u], _, h => exact ⟨v, u, rfl, h⟩

/-! ### what is walked -/
structure Walks (w : Wd) (J : It) (I : Hp) (xs : List D) : Prop where
  go : ∀ i I0 F ds vs H, Hs w I0 F ds vs H → Le I I0 → i < xs.length → J.go i H
  stop : ∀ I0 F ds vs H, Hs w I0 F ds vs H → Le I I0 → J.stop xs.length H
  yld : ∀ i d I0 F ds vs H x H', Hs w I0 F ds vs H → Le I I0 → xs[i]? = some d → J.yld i H x H' → ∃ I1, Le I0 I1 ∧ Hs w I1 F (d :: ds) (x :: vs) H'
inductive SrcR where
  | ok (xs : List D) (e : Env) | exc (c : Str) (ns : List Str) (xs : List D) (e : Env) | bad
abbrev Src := Env → SrcR
def OutI (X : Fx) (W : WX) (I F : Hp) (σ : L2.St) (R : It → Hp → Prop) : SrcR → Prop
  | .ok xs env' => ∀ J I' H', Le I I' → Hs X.w I' F env' (σv σ) H' → EnvR X σ env' → Walks X.w J I' xs → R J H'
  | .exc c ns xs env' => ∀ cls d I' H', Le I I' → Hs X.w I' F env' (σv σ) H' → EnvR X σ env' → XRep X.w I' cls d c ns xs → W cls d σ H'
  | .bad => False
def tI (X : Fx) (W : WX) (s : Src) : TI := fun σ H R => ∃ I F env, Hs X.w I F env (σv σ) H ∧ EnvR X σ env ∧ OutI X W I F σ R (s env)
theorem PIi {tg e : Expr} {t t' : TI} (h : PI Γ tg e t) (i : ∀ σ H R, t' σ H R → t σ H R) : PI Γ tg e t' := ⟨fun pins s σ H R I q => h.run pins s σ H R I (i σ H R q)⟩
theorem PI.or {tg e : Expr} {t t' : TI} (h : PI Γ tg e t) (h' : PI Γ tg e t') : PI Γ tg e (fun σ H R => t σ H R ∨ t' σ H R) := ⟨fun pins s σ H R I q => q.elim (h.run pins s σ H R I) (h'.run pins s σ H R I)⟩
/-- the items of a list or a tuple; the thing itself is given up -/
def iSeq (m : M) : Src := fun env => match m env with
  | .ok d e => (match d.seq with
    | some xs => .ok (frzL xs) e
    | none => .bad)
  | .exc c ns xs e => .exc c ns xs e
  | .bad => .bad
theorem SqL.fun {K : PySem.W.Frag} {I : Hp} {a : Addr} {us : List V} (h : I a = some (.lst us)) : SqL K I a us := Or.inl (Or.inl h)
theorem walks_l {w : Wd} {I : Hp} {a : Addr} {us : List V} {xs : List D} (hq : SqL w.K I a us) (r : RepL w I I xs us []) : Walks w (Itl w.K a) I xs where
  go := fun i I0 F ds vs H hs le hi => by
    have hl := r.length
    exact ⟨us, us[i], le_l (le.trans hs.iH) hq, by rw [List.getElem?_eq_getElem]⟩
  stop := fun I0 F ds vs H hs le => ⟨us, le_l (le.trans hs.iH) hq, by rw [r.length]; exact Nat.le_refl _⟩
  yld := fun i d I0 F ds vs H x H' hs le hd y => by
    obtain ⟨rfl, hx⟩ := y
    have e := hx us (le_l (le.trans hs.iH) hq)
    obtain ⟨v, f1, f2, ev, r1, r2, p⟩ := r.take hd
    have ex : x = v := Option.some.inj (e.symm.trans ev)
    subst ex
    have f0 : f1 = [] := by
      have := p.length_eq
      simp at this
      exact List.length_eq_zero_iff.mp (by omega)
    subst f0
    obtain ⟨fp, rr, nd, dj⟩ := hs.ex
    have r1' := Rep.frame (H' := H') le d x [] (fun a m => nomatch m) r1
    exact ⟨I0, Le.refl _, hs.of_sub (RepL.cons (f1 := []) r1' rr) rr nd dj nd fun b m => m⟩
theorem walks_t {w : Wd} {I : Hp} {a : Addr} {us : List V} {xs : List D} (hq : SqT w.K I a us) (r : RepL w I I xs us []) : Walks w (Itt w.K a) I xs where
  go := fun i I0 F ds vs H hs le hi => by
    have hl := r.length
    exact ⟨us, us[i], le_t (le.trans hs.iH) hq, by rw [List.getElem?_eq_getElem]⟩
  stop := fun I0 F ds vs H hs le => ⟨us, le_t (le.trans hs.iH) hq, by rw [r.length]; exact Nat.le_refl _⟩
  yld := fun i d I0 F ds vs H x H' hs le hd y => by
    obtain ⟨rfl, hx⟩ := y
    have e := hx us (le_t (le.trans hs.iH) hq)
    obtain ⟨v, f1, f2, ev, r1, r2, p⟩ := r.take hd
    have ex : x = v := Option.some.inj (e.symm.trans ev)
    subst ex
    have f0 : f1 = [] := by
      have := p.length_eq
      simp at this
      exact List.length_eq_zero_iff.mp (by omega)
    subst f0
    obtain ⟨fp, rr, nd, dj⟩ := hs.ex
    have r1' := Rep.frame (H' := H') le d x [] (fun a m => nomatch m) r1
    exact ⟨I0, Le.refl _, hs.of_sub (RepL.cons (f1 := []) r1' rr) rr nd dj nd fun b m => m⟩
/-- a frozen list or tuple: where it stands for ever -/
theorem Hs.seqF {w : Wd} {I F H : Hp} {ds : List D} {vs : List V} {d : D} {v : V} {xs : List D} (h : Hs w I F (d.frz :: ds) (v :: vs) H) (e : d.seq = some xs) :
    ∃ a us, v = .ref a ∧ (SqL w.K I a us ∨ SqT w.K I a us) ∧ RepL w I I (frzL xs) us [] := by
  obtain ⟨fp, r⟩ := h.head
  obtain rfl := r.own_nil (frz_frz d)
  cases d with
  | node t ys =>
    have hxs : ys = xs := by cases t <;> simp [D.seq] at e <;> exact e
    subst hxs
    unfold D.frz Rep at r
    obtain ⟨a, us, fp', rfl, hl, hf, q⟩ := r
    rcases q with ⟨ho, _, _⟩ | ⟨_, hat, e0⟩
    · rw [Tag.own_frz] at ho; cases ho
    · subst e0
      refine ⟨a, us, rfl, ?_, RepL.frame (Le.refl I) _ us [] (fun a m => nomatch m) hl⟩
      cases t with
      | tup => exact .inr (SqT.of hat)
      | tux => exact .inr (Tux.sqt hat)
      | scr => exact .inl hat
      | lst o => exact .inl (Or.inl (Or.inl hat))
      | dk o ks => simp [D.seq] at e
      | dt o ks => simp [D.seq] at e
      | ins o c ns => simp [D.seq] at e
  | _ => simp [D.seq] at e
theorem Hs.seqF2 {w : Wd} {I F H : Hp} {ds : List D} {vs : List V} {d : D} {v : V} {xs : List D} (h : Hs w I F (d.frz :: ds) (v :: vs) H) (e : d.seq = some xs) :
    ∃ a us, v = .ref a ∧ ((∃ ys, d = .node .tup ys ∨ d = .node .tux ys) → SqT w.K I a us) ∧ ((¬ ∃ ys, d = .node .tup ys ∨ d = .node .tux ys) → SqL w.K I a us) ∧ RepL w I I (frzL xs) us [] := by
  obtain ⟨fp, r⟩ := h.head
  obtain rfl := r.own_nil (frz_frz d)
  cases d with
  | node t ys =>
    have hxs : ys = xs := by cases t <;> simp [D.seq] at e <;> exact e
    subst hxs
    unfold D.frz Rep at r
    obtain ⟨a, us, fp', rfl, hl, hf, q⟩ := r
    rcases q with ⟨ho, _, _⟩ | ⟨_, hat, e0⟩
    · rw [Tag.own_frz] at ho; cases ho
    · subst e0
      refine ⟨a, us, rfl, fun z => ?_, fun z => ?_, RepL.frame (Le.refl I) _ us [] (fun a m => nomatch m) hl⟩
      · obtain ⟨zs, z⟩ := z
        rcases z with z | z
        · cases z
          exact SqT.of hat
        · cases z
          exact Tux.sqt hat
      · cases t with
        | tup => exact absurd ⟨_, .inl rfl⟩ z
        | tux => exact absurd ⟨_, .inr rfl⟩ z
        | scr => exact hat
        | lst o => exact Or.inl (Or.inl hat)
        | dk o ks => simp [D.seq] at e
        | dt o ks => simp [D.seq] at e
        | ins o c ns => simp [D.seq] at e
  | _ => simp [D.seq] at e
theorem OutI.later {I J F : Hp} {σ : L2.St} {R : It → Hp → Prop} {r : SrcR} (le : Le I J) (o : OutI X W I F σ R r) : OutI X W J F σ R r := by
  cases r with
  | bad => exact o
  | ok r e => exact fun j I2 H2 le2 => o j I2 H2 (le.trans le2)
  | exc c ns xs e => exact fun cls d I2 H2 le2 => o cls d I2 H2 (le.trans le2)
theorem i_seq {tg e : Expr} {m : M} (h : PE Γ e (tE X W m)) (hK : X.w.K = Γ.K) : PI Γ tg e (tI X W (iSeq m)) := by
  refine PIi (PI.or (pi_list h) (pi_tup h)) fun σ H R q => ?_
  obtain ⟨I, F, env, hs, er, o⟩ := q
  unfold iSeq at o
  cases hm : m env with
  | bad => simp only [hm] at o; exact o.elim
  | exc c ns xs e =>
    simp only [hm] at o
    refine .inl ⟨I, F, env, hs, er, ?_⟩
    rw [hm]
    exact o
  | ok d e1 =>
    simp only [hm] at o
    cases hd : d.seq with
    | none => simp only [hd] at o; exact o.elim
    | some xs =>
      simp only [hd] at o
      by_cases ht : ∃ ys, d = .node .tup ys ∨ d = .node .tux ys
      · refine .inr ⟨I, F, env, hs, er, ?_⟩
        rw [hm]
        intro v I1 H1 le h1 er1
        obtain ⟨J, leJ, h2⟩ := h1.freeze
        obtain ⟨a, us, rfl, hq, _, r⟩ := h2.seqF2 hd
        have hq' : SqT Γ.K J a us := by rw [← hK]; exact hq ht
        refine ⟨a, rfl, ⟨us, le_t h2.iH hq'⟩, o _ J H1 (le.trans leJ) h2.drop er1 ?_⟩
        rw [← hK]
        exact walks_t (hq ht) r
      · refine .inl ⟨I, F, env, hs, er, ?_⟩
        rw [hm]
        intro v I1 H1 le h1 er1
        obtain ⟨J, leJ, h2⟩ := h1.freeze
        obtain ⟨a, us, rfl, _, hq, r⟩ := h2.seqF2 hd
        have hq' : SqL Γ.K J a us := by rw [← hK]; exact hq ht
        refine ⟨a, rfl, ⟨us, le_l h2.iH hq'⟩, o _ J H1 (le.trans leJ) h2.drop er1 ?_⟩
        rw [← hK]
        exact walks_l (hq ht) r
/-- range(n), range(a, b) -/
def rngL (lo : Int) (n : Nat) : List D := (List.range n).map fun k : Nat => .int (lo + (k : Int))
theorem walks_r {w : Wd} {I : Hp} {lo : Int} {n : Nat} : Walks w (Itr lo n) I (rngL lo n) where
  go := fun i I0 F ds vs H hs le hi => by
    have h : i < (rngL lo n).length := hi
    unfold rngL at h
    rw [List.length_map, List.length_range] at h
    exact h
  stop := fun I0 F ds vs H hs le => by
    show n ≤ (rngL lo n).length
    unfold rngL
    rw [List.length_map, List.length_range]
    exact Nat.le_refl _
  yld := fun i d I0 F ds vs H x H' hs le hd y => by
    obtain ⟨rfl, rfl⟩ := y
    unfold rngL at hd
    rw [List.getElem?_map] at hd
    obtain ⟨k, e1, e2⟩ := Option.map_eq_some_iff.mp hd
    have : k = i := by
      obtain ⟨h1, h2⟩ := List.getElem?_eq_some_iff.mp e1
      simp at h2
      exact h2.symm
    subst this
    subst e2
    exact ⟨I0, Le.refl _, hs.addC rfl⟩
def iRng (ops : List Opd) : Src := fun env => match evA ops env with
  | .ok [.int n] e => if -(2 ^ 62) ≤ n ∧ n < 2 ^ 62 then .ok (rngL 0 n.toNat) e else .bad
  | .ok [.int a, .int b] e => if -(2 ^ 62) ≤ a ∧ a < 2 ^ 62 ∧ -(2 ^ 62) ≤ b ∧ b < 2 ^ 62 then .ok (rngL a (b - a).toNat) e else .bad
  | .ok _ _ => .bad
  | .exc c ns xs e => .exc c ns xs e
  | .bad => .bad
theorem rng_env {ops : List Opd} {env e : Env} {ds : List D} (h : evA ops env = .ok ds e) (hv : ∀ o ∈ ops, ∃ m, o = .val m) : True := trivial
theorem i_rng1 {tg a : Expr} {p pos : Pos} {m : M} (hg : Gl Γ "range") (hm : Γ.mg "range" = none) (h : PI Γ tg (.Call (.Name "range" p) [a] [] pos) (iRng1 (tOs X W [.val m]))) : PI Γ tg (.Call (.Name "range" p) [a] [] pos) (tI X W (iRng [.val m])) := PIi h fun σ H R q => by
  obtain ⟨I, F, env, hs, er, o⟩ := q
  refine ops_run [.val m] σ H _ ⟨I, F, env, hs, er, ?_⟩
  unfold iRng at o
  cases ha : evA [.val m] env with
  | bad => simp only [ha] at o; exact o.elim
  | exc c ns xs e => simp only [ha] at o; exact o
  | ok ds e1 =>
    simp only [ha] at o
    intro vs I1 H1 le1 h1 hl er1 pk
    match ds, vs, hl, h1, o with
    | [.int n], [v], _, h1, o =>
      simp only at o
      by_cases c : -(2 ^ 62) ≤ n ∧ n < 2 ^ 62
      · rw [if_pos c] at o
        have h1' : Hs X.w I1 F (.int n :: e1) (v :: σv σ) H1 := h1
        rw [h1'.scal rfl]
        exact ⟨n, rfl, c.1, c.2, o _ I1 H1 le1 h1'.drop er1 walks_r⟩
      · rw [if_neg c] at o
        exact o.elim
    | [.any], _, _, _, o => exact o.elim
    | [.non], _, _, _, o => exact o.elim
    | [.bl _], _, _, _, o => exact o.elim
    | [.str _], _, _, _, o => exact o.elim
    | [.node _ _], _, _, _, o => exact o.elim
    | [], _, _, _, o => exact o.elim
    | d1 :: d2 :: ds, v :: vs, hl, _, o =>
      obtain ⟨v', u, e, hu⟩ := pk
      cases e
      have : vs = [] := hu
      subst this
      simp at hl
theorem i_rng2 {tg a b : Expr} {p pos : Pos} {m m2 : M} (h : PI Γ tg (.Call (.Name "range" p) [a, b] [] pos) (iRng2 (tOs X W [.val m, .val m2]))) : PI Γ tg (.Call (.Name "range" p) [a, b] [] pos) (tI X W (iRng [.val m, .val m2])) := PIi h fun σ H R q => by
  obtain ⟨I, F, env, hs, er, o⟩ := q
  refine ops_run [.val m, .val m2] σ H _ ⟨I, F, env, hs, er, ?_⟩
  unfold iRng at o
  cases ha : evA [.val m, .val m2] env with
  | bad => simp only [ha] at o; exact o.elim
  | exc c ns xs e => simp only [ha] at o; exact o
  | ok ds e1 =>
    simp only [ha] at o
    intro vs I1 H1 le1 h1 hl er1 pk
    obtain ⟨v, u1, rfl, v2, u2, rfl, rfl⟩ := pk
    match ds, hl with
    | [d1, d2], _ =>
      have h1' : Hs X.w I1 F (d1 :: d2 :: e1) (v :: v2 :: σv σ) H1 := h1
      cases d1 with
      | int n =>
        cases d2 with
        | int k =>
          simp only at o
          by_cases c : -(2 ^ 62) ≤ n ∧ n < 2 ^ 62 ∧ -(2 ^ 62) ≤ k ∧ k < 2 ^ 62
          · rw [if_pos c] at o
            rw [h1'.scal rfl, h1'.scal2 rfl]
            exact ⟨n, k, rfl, c, o _ I1 H1 le1 h1'.drop.drop er1 walks_r⟩
          · rw [if_neg c] at o
            exact o.elim
        | _ => exact o.elim
      | _ => exact o.elim
/-! ### for -/
def loopS (t : Tgt) (b : S) : List D → S
  | [], env => .nx env
  | x :: xs, env => match asg t x env with
    | none => .bad
    | some e1 => (match b e1 with
      | .nx e2 => loopS t b xs e2
      | .ct e2 => loopS t b xs e2
      | .bk e2 => .nx e2
      | .rt d e2 => .rt d e2
      | .exc c ns xs e2 => .exc c ns xs e2
      | .bad => .bad)
def sFor (src : Src) (t : Tgt) (b : S) : S := fun env => match src env with
  | .ok xs e => loopS t b xs e
  | .exc c ns xs e => .exc c ns xs e
  | .bad => .bad
theorem s_for {tg iter : Expr} {body : List Stmt} {pos : Pos} {src : Src} {t : Tgt} {b : S} (hp : PassesOwn (model Γ.prog Γ.w) Γ.A Γ.env Γ.xe) (hc : Γ.calm = true) (hi : PI Γ tg iter (tI X W src)) (hg : PG Γ tg (tG X t)) (hb : PSs Γ body (tS X W b))
    (hst : ∀ x, foldedSetIterable iter Γ.env x = pure x := by intro _; rfl) : PS Γ (.For tg iter body [] pos) (tS X W (sFor src t b)) := PSi (ps_for hp hc hi hg hb hst) fun E σ H q => by
  obtain ⟨I, F, env, hs, er, o⟩ := q
  refine ⟨I, F, env, hs, er, ?_⟩
  unfold sFor at o
  cases ha : src env with
  | bad => simp only [ha] at o; exact o.elim
  | exc c ns xs e => simp only [ha] at o; exact fun cls d I' H' le h' er' x => o cls d σ I' H' le h' er' x
  | ok xs e1 =>
    simp only [ha] at o
    intro J I1 H1 le1 h1 er1 wk
    refine ⟨fun i m σ' H' => m = xs.length - i ∧ i ≤ xs.length ∧ ∃ I0 env0, Le I1 I0 ∧ Hs X.w I0 F env0 (σv σ') H' ∧ EnvR X σ' env0 ∧ OutS X W I0 F E (loopS t b (xs.drop i) env0),
      ⟨xs.length, by simp, Nat.zero_le _, I1, e1, Le.refl _, h1, er1, o.later le1⟩, ?_⟩
    rintro i m σ' H' ⟨rfl, hi, I0, env0, le0, h0, er0, o0⟩
    by_cases hlt : i < xs.length
    · refine .inr ⟨wk.go i I0 F env0 _ H' h0 le0 hlt, fun σ2 H2 => ∃ I2 env2, Le I1 I2 ∧ Hs X.w I2 F env2 (σv σ2) H2 ∧ EnvR X σ2 env2 ∧ OutS X W I2 F E (loopS t b (xs.drop (i + 1)) env2), ?_, ?_⟩
      · rintro σ2 H2 ⟨I2, env2, k1, k2, k3, k4⟩
        exact ⟨xs.length - (i + 1), by omega, rfl, by omega, I2, env2, k1, k2, k3, k4⟩
      · intro x H2 y
        rw [List.drop_eq_getElem_cons hlt] at o0
        obtain ⟨I2, le2, h2⟩ := wk.yld i xs[i] I0 F env0 _ H' x H2 h0 le0 (List.getElem?_eq_getElem hlt) y
        unfold loopS at o0
        cases ht : asg t xs[i] env0 with
        | none => simp only [ht] at o0; exact o0.elim
        | some e' =>
          simp only [ht] at o0
          refine ⟨I2, F, env0, xs[i], h2, er0, e', ht, fun σ3 I3 H3 _ le3 h3 er3 => ⟨I3, F, e', h3, er3, ?_⟩⟩
          have le4 := (le0.trans le2).trans le3
          cases hb' : b e' with
          | bad => simp only [hb'] at o0; exact o0.elim
          | nx e2 =>
            simp only [hb'] at o0
            exact fun σ4 I4 H4 le5 h4 er4 => ⟨I4, e2, le4.trans le5, h4, er4, o0.later ((le2.trans le3).trans le5)⟩
          | ct e2 =>
            simp only [hb'] at o0
            exact fun σ4 I4 H4 le5 h4 er4 => ⟨I4, e2, le4.trans le5, h4, er4, o0.later ((le2.trans le3).trans le5)⟩
          | bk e2 =>
            simp only [hb'] at o0
            exact fun σ4 I4 H4 le5 h4 er4 => o0 σ4 I4 H4 ((le2.trans le3).trans le5) h4 er4
          | rt d e2 =>
            simp only [hb'] at o0
            exact fun v σ4 I4 H4 le5 h4 er4 => o0 v σ4 I4 H4 ((le2.trans le3).trans le5) h4 er4
          | exc c ns xs e2 =>
            simp only [hb'] at o0
            exact fun cls d σ4 I4 H4 le5 h4 er4 x => o0 cls d σ4 I4 H4 ((le2.trans le3).trans le5) h4 er4 x
    · have he : i = xs.length := by omega
      subst he
      rw [List.drop_length] at o0
      exact .inl ⟨wk.stop I0 F env0 _ H' h0 le0, o0 σ' I0 H' (Le.refl _) h0 er0⟩
/-! ### while, at most n turns -/
def loopW (c : M) (b : S) : Nat → S
  | 0, _ => .bad
  | n + 1, env => match c env with
    | .ok (.bl true) e1 => (match b e1 with
      | .nx e2 => loopW c b n e2
      | .ct e2 => loopW c b n e2
      | .bk e2 => .nx e2
      | .rt d e2 => .rt d e2
      | .exc c ns xs e2 => .exc c ns xs e2
      | .bad => .bad)
    | .ok (.bl false) e1 => .nx e1
    | .ok _ _ => .bad
    | .exc c ns xs e1 => .exc c ns xs e1
    | .bad => .bad
theorem s_while {c : Expr} {body : List Stmt} {pos : Pos} {mc : M} {b : S} (n : Nat) (hp : PassesOwn (model Γ.prog Γ.w) Γ.A Γ.env Γ.xe) (hc : PT Γ c (tT X W mc)) (hb : PSs Γ body (tS X W b)) : PS Γ (.While c body [] pos) (tS X W (loopW mc b n)) := PSi (ps_while hp hc hb) fun E σ H q => by
  obtain ⟨I, F, env, hs, er, o⟩ := q
  refine ⟨fun m σ' H' => ∃ I0 env0, Hs X.w I0 F env0 (σv σ') H' ∧ EnvR X σ' env0 ∧ OutS X W I0 F E (loopW mc b m env0), ⟨n, I, env, hs, er, o⟩, ?_⟩
  rintro m σ' H' ⟨I0, env0, h0, er0, o0⟩
  refine ⟨I0, F, env0, h0, er0, ?_⟩
  cases m with
  | zero => exact o0.elim
  | succ m =>
    unfold loopW at o0
    cases hm : mc env0 with
    | bad => simp only [hm] at o0; exact o0.elim
    | exc c ns xs e => simp only [hm] at o0; exact fun cls d I' H' le h' er' x => o0 cls d σ' I' H' le h' er' x
    | ok r e1 =>
      simp only [hm] at o0
      cases r with
      | bl k =>
        intro I1 H1 le h1 er1
        cases k with
        | false => exact o0 σ' I1 H1 le h1 er1
        | true =>
          refine ⟨fun σ2 H2 => ∃ I2 env2, Hs X.w I2 F env2 (σv σ2) H2 ∧ EnvR X σ2 env2 ∧ OutS X W I2 F E (loopW mc b m env2), fun σ2 H2 z => ⟨m, by omega, z⟩, I1, F, e1, h1, er1, ?_⟩
          simp only at o0
          cases hb' : b e1 with
          | bad => simp only [hb'] at o0; exact o0.elim
          | nx e2 =>
            simp only [hb'] at o0
            exact fun σ4 I4 H4 le5 h4 er4 => ⟨I4, e2, h4, er4, o0.later (le.trans le5)⟩
          | ct e2 =>
            simp only [hb'] at o0
            exact fun σ4 I4 H4 le5 h4 er4 => ⟨I4, e2, h4, er4, o0.later (le.trans le5)⟩
          | bk e2 =>
            simp only [hb'] at o0
            exact fun σ4 I4 H4 le5 h4 er4 => o0 σ4 I4 H4 (le.trans le5) h4 er4
          | rt d e2 =>
            simp only [hb'] at o0
            exact fun v σ4 I4 H4 le5 h4 er4 => o0 v σ4 I4 H4 (le.trans le5) h4 er4
          | exc c ns xs e2 =>
            simp only [hb'] at o0
            exact fun cls d σ4 I4 H4 le5 h4 er4 x => o0 cls d σ4 I4 H4 (le.trans le5) h4 er4 x
      | _ => exact o0.elim
end
end Z

set_option Elab.async false
set_option linter.all false
set_option maxRecDepth 100000
set_option maxHeartbeats 4000000
/-! ZH: comprehensions. -/
namespace Z
open PySem PySem.Spec PyProof.Rows L2
/-! ### some slots kept, the others not claimed -/
def keepP (p : Nat → Bool) : List D → List D
  | [] => []
  | d :: ds => (if p 0 = true then d else .any) :: keepP (fun i => p (i + 1)) ds
def mrg (p : Nat → Bool) : List D → List D → List D
  | a :: as, b :: bs => (if p 0 = true then a else b) :: mrg (fun i => p (i + 1)) as bs
  | _, bs => bs
theorem keepP_get : ∀ (ds : List D) (p : Nat → Bool) (i : Nat), (keepP p ds)[i]? = (ds[i]?).map fun d => if p i = true then d else .any
  | [], p, i => by simp [keepP]
  | d :: ds, p, 0 => by simp [keepP]
  | d :: ds, p, i + 1 => by
    have := keepP_get ds (fun i => p (i + 1)) i
    simpa [keepP] using this
theorem keepP_len : ∀ (ds : List D) (p : Nat → Bool), (keepP p ds).length = ds.length
  | [], p => rfl
  | d :: ds, p => by simp [keepP, keepP_len ds]
theorem mrg_get : ∀ (as bs : List D) (p : Nat → Bool) (i : Nat), as.length = bs.length → (mrg p as bs)[i]? = if p i = true then as[i]? else bs[i]?
  | [], [], p, i, _ => by simp [mrg]
  | [], _ :: _, p, i, h => by cases h
  | _ :: _, [], p, i, h => by cases h
  | a :: as, b :: bs, p, 0, h => by
    by_cases q : p 0 = true <;> simp [mrg, q]
  | a :: as, b :: bs, p, i + 1, h => by
    have := mrg_get as bs (fun i => p (i + 1)) i (by simpa using h)
    simpa [mrg] using this
section
variable {w : Wd}
theorem RepL.part {I H : Hp} : ∀ {ds : List D} {vs : List V} {fp : List Addr} (p : Nat → Bool), RepL w I H ds vs fp → ∃ f1 f2, RepL w I H (keepP p ds) vs f1 ∧ RepL w I H (keepP (fun i => !p i) ds) vs f2 ∧ List.Perm fp (f1 ++ f2)
  | [], vs, fp, p, h => by
    unfold RepL at h
    obtain ⟨rfl, rfl⟩ := h
    exact ⟨[], [], .nil, .nil, .refl _⟩
  | d :: ds, vs, fp, p, h => by
    unfold RepL at h
    obtain ⟨v, us, g1, g2, rfl, rfl, h1, h2⟩ := h
    obtain ⟨f1, f2, r1, r2, pm⟩ := h2.part (fun i => p (i + 1))
    unfold keepP
    by_cases q : p 0 = true
    · rw [if_pos q, if_neg (by simp [q])]
      refine ⟨g1 ++ f1, [] ++ f2, .cons h1 r1, .cons (by unfold Rep; rfl) r2, ?_⟩
      rw [List.nil_append, List.append_assoc]
      exact List.Perm.append_left g1 pm
    · rw [if_neg q, if_pos (by simpa using q)]
      refine ⟨[] ++ f1, g1 ++ f2, .cons (by unfold Rep; rfl) r1, .cons h1 r2, ?_⟩
      rw [List.nil_append]
      refine (List.Perm.append_left g1 pm).trans ?_
      rw [← List.append_assoc, ← List.append_assoc]
      exact List.Perm.append_right f2 List.perm_append_comm
/-- what was set aside, and what came meanwhile -/
theorem RepL.mrg {I H : Hp} : ∀ {as bs : List D} {vs : List V} {f1 f2 : List Addr} (p : Nat → Bool), RepL w I H (keepP p as) vs f1 → RepL w I H bs vs f2 → ∃ f3 f4, RepL w I H (Z.mrg p as bs) vs f3 ∧ List.Perm (f1 ++ f2) (f3 ++ f4)
  | [], [], vs, f1, f2, p, h1, h2 => ⟨f2, f1, h2, List.perm_append_comm⟩
  | [], b :: bs, vs, f1, f2, p, h1, h2 => ⟨f2, f1, h2, List.perm_append_comm⟩
  | a :: as, [], vs, f1, f2, p, h1, h2 => ⟨f2, f1, h2, List.perm_append_comm⟩
  | a :: as, b :: bs, vs, f1, f2, p, h1, h2 => by
    unfold keepP at h1
    unfold RepL at h1
    obtain ⟨v, us, g1, g2, rfl, rfl, q1, q2⟩ := h1
    obtain ⟨k1, k2, rfl, q3, q4⟩ := h2.out
    obtain ⟨f3, f4, r, pm⟩ := RepL.mrg (fun i => p (i + 1)) q2 q4
    unfold Z.mrg
    by_cases q : p 0 = true
    · rw [if_pos q] at q1 ⊢
      refine ⟨g1 ++ f3, k1 ++ f4, .cons q1 r, ?_⟩
      have e1 : List.Perm ((g1 ++ g2) ++ (k1 ++ k2)) (g1 ++ (k1 ++ (g2 ++ k2))) := by
        rw [List.append_assoc]
        refine List.Perm.append_left g1 ?_
        rw [← List.append_assoc, ← List.append_assoc]
        exact List.Perm.append_right k2 List.perm_append_comm
      refine e1.trans ?_
      refine (List.Perm.append_left g1 (List.Perm.append_left k1 pm)).trans ?_
      rw [List.append_assoc]
      refine List.Perm.append_left g1 ?_
      rw [← List.append_assoc, ← List.append_assoc]
      exact List.Perm.append_right f4 List.perm_append_comm
    · rw [if_neg q] at q1 ⊢
      unfold Rep at q1
      subst q1
      refine ⟨k1 ++ f3, f4, .cons q3 r, ?_⟩
      have e1 : List.Perm (([] ++ g2) ++ (k1 ++ k2)) (k1 ++ (g2 ++ k2)) := by
        rw [List.nil_append, ← List.append_assoc, ← List.append_assoc]
        exact List.Perm.append_right k2 List.perm_append_comm
      refine e1.trans ?_
      rw [List.append_assoc]
      exact List.Perm.append_left k1 pm
theorem RepL.vals {I H : Hp} : ∀ {ds : List D} {vs us : List V} {fp : List Addr}, RepL w I H ds vs fp → us.length = vs.length → (∀ (i : Nat) (d : D), ds[i]? = some d → d ≠ D.any → us[i]? = vs[i]?) → RepL w I H ds us fp
  | [], vs, us, fp, h, hl, e => by
    unfold RepL at h
    obtain ⟨rfl, rfl⟩ := h
    have : us = [] := List.length_eq_zero_iff.mp hl
    subst this
    exact .nil
  | d :: ds, vs, us, fp, h, hl, e => by
    unfold RepL at h
    obtain ⟨v, vs', f1, f2, rfl, rfl, h1, h2⟩ := h
    cases us with
    | nil => cases hl
    | cons u us =>
      refine .cons ?_ (h2.vals (by simpa using hl) fun i d' hi hd => by simpa using e (i + 1) d' (by simpa using hi) hd)
      by_cases q : d = D.any
      · subst q
        unfold Rep at h1 ⊢
        exact h1
      · have := e 0 d rfl q
        simp at this
        rw [this]
        exact h1
theorem Hs.vals {I F H : Hp} {ds : List D} {vs us : List V} (h : Hs w I F ds vs H) (hl : us.length = vs.length) (e : ∀ (i : Nat) (d : D), ds[i]? = some d → d ≠ D.any → us[i]? = vs[i]?) : Hs w I F ds us H := by
  obtain ⟨fp, r, nd, dj⟩ := h.ex
  exact ⟨⟨fp, r.vals hl e, nd, dj⟩, h.iF, h.fH, h.fT, h.lkI, h.fkF⟩
theorem Hs.keep {I F H : Hp} {ds : List D} {vs : List V} (p : Nat → Bool) (h : Hs w I F ds vs H) : Hs w I F (keepP p ds) vs H := by
  obtain ⟨fp, r, nd, dj⟩ := h.ex
  obtain ⟨f1, f2, r1, r2, pm⟩ := r.part p
  have n := pm.nodup_iff.mp nd
  exact h.of_sub r1 r nd dj (List.nodup_append.mp n).1 fun a m => pm.symm.subset (List.mem_append_left _ m)
/-- some slots set aside -/
theorem Hs.aside {I F H : Hp} {ds : List D} {vs : List V} (p : Nat → Bool) (h : Hs w I F ds vs H) : ∃ G, Hs w I G (keepP (fun i => !p i) ds) vs H ∧
    ∀ I' pre prev ds' H', Le I I' → pre.length = prev.length → Hs w I' G (pre ++ ds') (prev ++ vs) H' → Hs w I' F (pre ++ mrg p ds ds') (prev ++ vs) H' := by
  obtain ⟨fp, r, nd, dj⟩ := h.ex
  obtain ⟨f1, f2, r1, r2, pm⟩ := r.part p
  have n := pm.nodup_iff.mp nd
  have h2 : Hs w I F (keepP p ds ++ keepP (fun i => !p i) ds) (vs ++ vs) H := h.of_sub (r1.append r2) r nd dj n fun a m => pm.symm.subset m
  obtain ⟨G, g, back⟩ := Hs.push h2 r1.length
  refine ⟨G, g, fun I' pre prev ds' H' le hl h' => ?_⟩
  have h3 := back I' (pre ++ ds') (prev ++ vs) H' le h'
  obtain ⟨fq, rq, nq, dq⟩ := h3.ex
  obtain ⟨k1, k2, rfl, s1, s2⟩ := rq.split r1.length
  obtain ⟨k3, k4, rfl, s3, s4⟩ := s2.split hl
  obtain ⟨f3, f4, s5, pm2⟩ := RepL.mrg p s1 s4
  have pm3 : List.Perm (k1 ++ (k3 ++ k4)) ((k3 ++ f3) ++ f4) := by
    have e1 : List.Perm (k1 ++ (k3 ++ k4)) (k3 ++ (k1 ++ k4)) := by
      rw [← List.append_assoc, ← List.append_assoc]
      exact List.Perm.append_right k4 List.perm_append_comm
    refine e1.trans ?_
    rw [List.append_assoc]
    exact List.Perm.append_left k3 pm2
  exact h3.of_sub (s3.append s5) rq nq dq (List.nodup_append.mp (pm3.nodup_iff.mp nq)).1 fun a m => pm3.symm.subset (List.mem_append_left _ m)
end
section
variable {Γ : Cx} {X : Fx} {W W1 : WX}
theorem wipe_get (σ : L2.St) : ∀ (vs : List Nat) (i : Nat), (wipe σ vs)[i]? = if i ∈ vs ∧ i < σ.length then some none else σ[i]?
  | [], i => by simp [wipe]
  | v :: vs, i => by
    unfold wipe
    by_cases q : v = i
    · subst q
      by_cases hl : v < σ.length
      · rw [List.getElem?_set_self (by rw [wipe_length]; exact hl), if_pos ⟨List.mem_cons_self .., hl⟩]
      · rw [if_neg (fun z => hl z.2), List.getElem?_eq_none (by rw [List.length_set, wipe_length]; omega), List.getElem?_eq_none (by omega)]
    · rw [List.getElem?_set_ne q, wipe_get σ vs i]
      by_cases m : i ∈ vs
      · simp [m]
      · have : i ∉ v :: vs := fun z => (List.mem_cons.mp z).elim (fun e => q e.symm) m
        simp [m, this]
theorem wipe_but {σ σ' : L2.St} {js vs : List Nat} (h : But js (wipe σ vs) σ') (hj : ∀ j ∈ js, j ∈ vs) : wipe σ' vs = wipe σ vs := by
  have hl : σ'.length = σ.length := by rw [h.1, wipe_length]
  apply List.ext_getElem?
  intro i
  rw [wipe_get, wipe_get, hl]
  by_cases m : i ∈ vs
  · by_cases l : i < σ.length
    · rw [if_pos ⟨m, l⟩, if_pos ⟨m, l⟩]
    · rw [if_neg (fun z => l z.2), if_neg (fun z => l z.2), List.getElem?_eq_none (by omega), List.getElem?_eq_none (by omega)]
  · rw [if_neg (fun z => m z.1), if_neg (fun z => m z.1), h.2 i (fun z => m (hj i z)), wipe_get, if_neg (fun z => m z.1)]
def own? (vs : List Nat) (i : Nat) : Bool := vs.contains i
def anyAll (vs : List Nat) (env : Env) : Env := keepP (fun i => !own? vs i) env
theorem own_iff {vs : List Nat} {i : Nat} : own? vs i = true ↔ i ∈ vs := by unfold own?; simp
/-- a frame where the comprehension's own names are not claimed -/
theorem er_any {σ : L2.St} {env : Env} {vs : List Nat} (er : EnvR X σ env) (hp : ∀ i ∈ X.pin, i ∉ vs) : EnvR X (wipe σ vs) (anyAll vs env) := by
  refine ⟨fun i d hd hn => ?_, fun i hi v hv => ?_⟩
  · unfold anyAll at hd
    rw [keepP_get] at hd
    obtain ⟨d0, e0, e1⟩ := Option.map_eq_some_iff.mp hd
    by_cases q : own? vs i = true
    · simp [q] at e1
      exact absurd e1.symm hn
    · simp [q] at e1
      subst e1
      obtain ⟨v, hv⟩ := er.on i d0 e0 hn
      refine ⟨v, ?_⟩
      rw [wipe_get, if_neg (fun z => q (own_iff.mpr z.1))]
      exact hv
  · rw [wipe_get, if_neg (fun z => hp i hi z.1)]
    exact er.pin i hi v hv
theorem hs_any {I F H : Hp} {σ : L2.St} {env : Env} {vs : List Nat} (h : Hs X.w I F env (σv σ) H) : Hs X.w I F (anyAll vs env) (σv (wipe σ vs)) H := by
  refine (h.keep (fun i => !own? vs i)).vals (by rw [σv_len, σv_len, wipe_length]) fun i d hd hn => ?_
  rw [keepP_get] at hd
  obtain ⟨d0, e0, e1⟩ := Option.map_eq_some_iff.mp hd
  by_cases q : own? vs i = true
  · simp [q] at e1
    exact absurd e1.symm hn
  · unfold σv
    rw [List.getElem?_map, List.getElem?_map, wipe_get, if_neg (fun z => q (own_iff.mpr z.1))]
theorem anyAll_idem (vs : List Nat) (env : Env) : anyAll vs (anyAll vs env) = anyAll vs env := by
  apply List.ext_getElem?
  intro i
  unfold anyAll
  rw [keepP_get, keepP_get, Option.map_map]
  congr 1
  funext d
  by_cases q : own? vs i = true <;> simp [q]
/-- .. and back -/
theorem hs_back {I F H : Hp} {σ : L2.St} {env : Env} {vs : List Nat} (h : Hs X.w I F (anyAll vs env) (σv (wipe σ vs)) H) : Hs X.w I F (anyAll vs env) (σv σ) H := by
  refine h.vals (by rw [σv_len, σv_len, wipe_length]) fun i d hd hn => ?_
  unfold anyAll at hd
  rw [keepP_get] at hd
  obtain ⟨d0, e0, e1⟩ := Option.map_eq_some_iff.mp hd
  by_cases q : own? vs i = true
  · simp [q] at e1
    exact absurd e1.symm hn
  · unfold σv
    rw [List.getElem?_map, List.getElem?_map, wipe_get, if_neg (fun z => q (own_iff.mpr z.1))]
theorem er_back {σ : L2.St} {env0 env : Env} {vs : List Nat} (er0 : EnvR X σ env0) (er : EnvR X (wipe σ vs) env) (hl : env0.length = env.length) : EnvR X σ (mrg (own? vs) env0 env) := by
  refine ⟨fun i d hd hn => ?_, er0.pin⟩
  rw [mrg_get _ _ _ _ hl] at hd
  by_cases q : own? vs i = true
  · rw [if_pos q] at hd
    exact er0.on i d hd hn
  · rw [if_neg q] at hd
    obtain ⟨v, hv⟩ := er.on i d hd hn
    rw [wipe_get, if_neg (fun z => q (own_iff.mpr z.1))] at hv
    exact ⟨v, hv⟩
/-! ### one for -/
def tsto (X : Fx) (W : WX) : Option M → TT
  | none => tYes
  | some m => tT X W m
/-- the turns: what is made so far, what is left -/
def loopC (t : Tgt) (c : Option M) (m : M) (vs : List Nat) : List D → List D → Env → Option (List D × Env)
  | [], acc, env => some (acc, env)
  | x :: xs, acc, env => match asg t x env with
    | none => none
    | some e1 => (match (match c with
      | none => Res.ok (.bl true) e1
      | some c => c e1) with
      | .ok (.bl true) e2 => (match m e2 with
        | .ok r e3 => if acc.length < 100000 then loopC t c m vs xs (acc ++ [r]) (anyAll vs e3) else none
        | _ => none)
      | .ok (.bl false) e2 => loopC t c m vs xs acc (anyAll vs e2)
      | _ => none)
def mLc (src : Src) (t : Tgt) (c : Option M) (m : M) (vs : List Nat) : M := fun env => match src env with
  | .ok xs e => (match loopC t c m vs xs [] (anyAll vs e) with
    | some (acc, e2) => .ok (.node (.lst true) acc) (mrg (own? vs) e e2)
    | none => .bad)
  | .exc c ns xs e => .exc c ns xs e
  | .bad => .bad
abbrev W0 : WX := fun _ _ _ _ => False
/-- one more item into the list that is made -/
theorem Hs.grow {w : Wd} {I F H : Hp} {ds : List D} {vs : List V} {acc : List D} {r : D} {y : V} {Dl : Addr} (h : Hs w I F (r :: .node (.lst true) acc :: ds) (y :: .ref Dl :: vs) H) :
    ∃ us, H Dl = some (.lst us) ∧ acc.length = us.length ∧ Hs w I F (.node (.lst true) (acc ++ [r]) :: ds) (.ref Dl :: vs) (upd H Dl (.lst (us ++ [y]))) := by
  obtain ⟨a, us, G, ea, hl, hf, hat, hs, _, close⟩ := h.swap.open rfl
  cases ea
  refine ⟨us, hat, hl, ?_⟩
  have hs2 : Hs w I G ((acc ++ [r]) ++ ds) ((us ++ [y]) ++ vs) H := by simpa using hs
  exact close I (.lst true) (acc ++ [r]) (us ++ [y]) ds vs H (.lst (us ++ [y])) (Le.refl I) hs2 (by simp [hl]) rfl trivial (show upd H Dl (.lst (us ++ [y])) Dl = some (.lst (us ++ [y])) from upd_same)
/-- what is made stands in the others' part while a turn is made -/
theorem lc_run {src : Src} {t : Tgt} {c : Option M} {m : M} {vs : List Nat} {σ : L2.St} {H : Hp} {Q : VK} (hp : ∀ i ∈ X.pin, i ∉ vs) (ht : ∀ j ∈ t.slots, j ∈ vs) (q : tE X W (mLc src t c m vs) σ H Q) :
    tLc (tI X W src) (tG X t) (tsto X W0 c) (tE X W0 m) vs σ H Q := by
  obtain ⟨I, F, env, hs, er, o⟩ := q
  refine ⟨I, F, env, hs, er, ?_⟩
  unfold mLc at o
  cases ha : src env with
  | bad => simp only [ha] at o; exact o.elim
  | exc c ns xs e => simp only [ha] at o; exact o
  | ok xs e =>
    simp only [ha] at o
    intro J I1 H1 le1 h1 er1 wk Dl hD
    cases hb : loopC t c m vs xs [] (anyAll vs e) with
    | none => simp only [hb] at o; exact o.elim
    | some fin =>
      obtain ⟨accF, eF⟩ := fin
      simp only [hb] at o
      obtain ⟨G, hg, back⟩ := h1.aside (own? vs)
      have hg2 : Hs X.w I1 G (anyAll vs e) (σv (wipe σ vs)) H1 := by
        have := hs_any (vs := vs) hg
        rw [show anyAll vs (keepP (fun i => !own? vs i) e) = anyAll vs e from anyAll_idem vs e] at this
        exact this
      have hg3 : Hs X.w I1 G (.node (.lst true) [] :: anyAll vs e) (.ref Dl :: σv (wipe σ vs)) (upd H1 Dl (.lst [])) := Hs.newO (t := .lst true) (xs := []) (us := []) hg2 rfl hD rfl trivial (show upd H1 Dl (.lst []) Dl = some (.lst []) from upd_same)
      refine ⟨fun i k H' => k = xs.length - i ∧ i ≤ xs.length ∧ ∃ I0 env0 acc, Le I1 I0 ∧ Hs X.w I0 G (.node (.lst true) acc :: anyAll vs env0) (.ref Dl :: σv (wipe σ vs)) H' ∧ EnvR X (wipe σ vs) (anyAll vs env0) ∧ env0.length = e.length ∧ loopC t c m vs (xs.drop i) acc (anyAll vs env0) = some (accF, eF),
        ⟨xs.length, by simp, Nat.zero_le _, I1, e, [], Le.refl _, hg3, er_any er1 hp, rfl, hb⟩, ?_⟩
      rintro i k H' ⟨rfl, hi, I0, env0, acc, le0, h0, er0, hlen, o0⟩
      by_cases hlt : i < xs.length
      · refine .inr ⟨wk.go i I0 G _ _ H' h0 le0 hlt, fun H2 => ∃ I2 env2 acc2, Le I1 I2 ∧ Hs X.w I2 G (.node (.lst true) acc2 :: anyAll vs env2) (.ref Dl :: σv (wipe σ vs)) H2 ∧ EnvR X (wipe σ vs) (anyAll vs env2) ∧ env2.length = e.length ∧ loopC t c m vs (xs.drop (i + 1)) acc2 (anyAll vs env2) = some (accF, eF), ?_, ?_⟩
        · rintro H2 ⟨I2, env2, acc2, k1, k2, k3, k4, k5⟩
          exact ⟨xs.length - (i + 1), by omega, rfl, by omega, I2, env2, acc2, k1, k2, k3, k4, k5⟩
        · intro x H2 y
          rw [List.drop_eq_getElem_cons hlt] at o0
          obtain ⟨I2, le2, h2⟩ := wk.yld i xs[i] I0 G _ _ H' x H2 h0 le0 (List.getElem?_eq_getElem hlt) y
          unfold loopC at o0
          cases hta : asg t xs[i] (anyAll vs env0) with
          | none => simp only [hta] at o0; cases o0
          | some e' =>
            simp only [hta] at o0
            obtain ⟨K, hk, kback⟩ := Hs.push (ds := [.node (.lst true) acc]) (vs := [.ref Dl]) h2.swap rfl
            refine ⟨I2, K, anyAll vs env0, xs[i], hk, er0, e', hta, fun σ3 I3 H3 bt le3 h3 er3 => ⟨wipe_but bt ht, ?_⟩⟩
            have hw := wipe_but bt ht
            -- behind a turn: the env as it is then, own names not claimed
            have fin : ∀ I4 H4 e4, Le I3 I4 → Hs X.w I4 K e4 (σv σ3) H4 → EnvR X σ3 e4 → Hs X.w I4 K (anyAll vs e4) (σv (wipe σ vs)) H4 ∧ EnvR X (wipe σ vs) (anyAll vs e4) ∧ e4.length = e.length := by
              intro I4 H4 e4 le4 h4 er4
              have a1 := hs_any (vs := vs) h4
              have a2 := er_any (vs := vs) er4 hp
              rw [hw] at a1 a2
              refine ⟨a1, a2, ?_⟩
              have l1 := hs_len h4
              have l2 := hs_len h1
              rw [l1, l2, bt.1, wipe_length]
            -- the test
            have elt : ∀ I4 H4 e4, Le I3 I4 → Hs X.w I4 K e4 (σv σ3) H4 → EnvR X σ3 e4 → (match m e4 with | .ok r e3 => if acc.length < 100000 then loopC t c m vs (xs.drop (i + 1)) (acc ++ [r]) (anyAll vs e3) else none | _ => none) = some (accF, eF) →
                tE X W0 m σ3 H4 fun y H5 => ∃ acc', H5 Dl = some (.lst acc') ∧ acc'.length < sizeLine ∧ ∃ I2 env2 acc2, Le I1 I2 ∧ Hs X.w I2 G (.node (.lst true) acc2 :: anyAll vs env2) (.ref Dl :: σv (wipe σ vs)) (upd H5 Dl (.lst (acc' ++ [y]))) ∧ EnvR X (wipe σ vs) (anyAll vs env2) ∧ env2.length = e.length ∧ loopC t c m vs (xs.drop (i + 1)) acc2 (anyAll vs env2) = some (accF, eF) := by
              intro I4 H4 e4 le4 h4 er4 o4
              refine ⟨I4, K, e4, h4, er4, ?_⟩
              cases hm : m e4 with
              | bad => rw [hm] at o4; cases o4
              | exc c ns xs e => rw [hm] at o4; cases o4
              | ok r e3 =>
                rw [hm] at o4
                simp only at o4
                by_cases hz : acc.length < 100000
                · rw [if_pos hz] at o4
                  intro y I5 H5 le5 h5 er5
                  have h6 := kback I5 (r :: e3) (y :: σv σ3) H5 ((le3.trans le4).trans le5) h5
                  have h7 : Hs X.w I5 G (r :: .node (.lst true) acc :: e3) (y :: .ref Dl :: σv σ3) H5 := Hs.swap h6
                  obtain ⟨us, g1, g2, g3⟩ := h7.grow
                  have a2 := er_any (vs := vs) er5 hp
                  rw [hw] at a2
                  have l1 : e3.length = σ3.length := by have := g3.length; simpa [σv_len] using this
                  have l2 := hs_len h1
                  refine ⟨us, g1, szL (by rw [← g2]; exact hz), I5, e3, acc ++ [r], (((le0.trans le2).trans le3).trans le4).trans le5, ?_, a2, by rw [l1, l2, bt.1, wipe_length], o4⟩
                  have g4 : Hs X.w I5 G ([.node (.lst true) (acc ++ [r])] ++ e3) ([.ref Dl] ++ σv σ3) (upd H5 Dl (.lst (us ++ [y]))) := g3
                  obtain ⟨K2, k1, k2⟩ := Hs.push g4 rfl
                  have a1 := hs_any (vs := vs) k1
                  rw [hw] at a1
                  exact k2 I5 _ _ _ (Le.refl _) a1
                · rw [if_neg hz] at o4
                  cases o4
            have skip : ∀ I4 H4 e4, Le I3 I4 → Hs X.w I4 K e4 (σv σ3) H4 → EnvR X σ3 e4 → loopC t c m vs (xs.drop (i + 1)) acc (anyAll vs e4) = some (accF, eF) → ∃ I2 env2 acc2, Le I1 I2 ∧ Hs X.w I2 G (.node (.lst true) acc2 :: anyAll vs env2) (.ref Dl :: σv (wipe σ vs)) H4 ∧ EnvR X (wipe σ vs) (anyAll vs env2) ∧ env2.length = e.length ∧ loopC t c m vs (xs.drop (i + 1)) acc2 (anyAll vs env2) = some (accF, eF) := by
              intro I4 H4 e4 le4 h4 er4 o4
              obtain ⟨a1, a2, a3⟩ := fin I4 H4 e4 le4 h4 er4
              exact ⟨I4, e4, acc, ((le0.trans le2).trans le3).trans le4, kback I4 _ _ H4 (le3.trans le4) a1, a2, a3, o4⟩
            cases c with
            | none =>
              simp only at o0
              have z := elt I3 H3 e' (Le.refl _) h3 er3 o0
              simp only [tsto, tYes, reduceIte]
              exact z
            | some cm =>
              refine ⟨I3, K, e', h3, er3, ?_⟩
              simp only at o0
              cases hcm : cm e' with
              | bad => rw [hcm] at o0; cases o0
              | exc c ns xs e => rw [hcm] at o0; cases o0
              | ok r e2 =>
                rw [hcm] at o0
                cases r with
                | bl b =>
                  intro I4 H4 le4 h4 er4
                  cases b with
                  | true =>
                    have z := elt I4 H4 e2 le4 h4 er4 o0
                    simp only [reduceIte]
                    exact z
                  | false =>
                    have z := skip I4 H4 e2 le4 h4 er4 o0
                    rw [if_neg (by decide)]
                    exact z
                | any => cases o0
                | non => cases o0
                | int _ => cases o0
                | str _ => cases o0
                | node _ _ => cases o0
      · have he : i = xs.length := by omega
        subst he
        rw [List.drop_length] at o0
        have o1 : some (acc, anyAll vs env0) = some (accF, eF) := o0
        cases o1
        refine .inl ⟨wk.stop I0 G _ _ H' h0 le0, ?_⟩
        have h5 : Hs X.w I0 G ([.node (.lst true) accF] ++ anyAll vs env0) ([.ref Dl] ++ σv (wipe σ vs)) H' := h0
        obtain ⟨K2, k1, k2⟩ := Hs.push h5 rfl
        have h6 := k2 I0 _ _ H' (Le.refl _) (hs_back k1)
        have h7 := back I0 [.node (.lst true) accF] [.ref Dl] _ H' le0 rfl h6
        refine o (.ref Dl) I0 H' (le1.trans le0) h7 (er_back er1 er0 ?_)
        unfold anyAll
        rw [keepP_len]
        exact hlen.symm
theorem z_lc {elt tg iter : Expr} {ifs : List Expr} {scope : Scope} {own : List (Str × Nat)} {pos : Pos} {src : Src} {t : Tgt} {c : Option M} {m : M} (hc : Γ.calm = true) (hN : Γ.N.Nodup) (hi : PI Γ tg iter (tI X W src)) (ok : BlkOk Γ.N Γ.env.scope scope own)
    (hg : ∀ (s : Shared) (H : Hp) (C : Addr) (cl : List (Str × Addr)) (fp : List Addr), PG (Γ.blk s H scope (compEnvC scope cl C Γ.env) fp) tg (tG X t)) (ht : ∀ (s : Shared) (H : Hp) (C : Addr) (cl : List (Str × Addr)) (fp : List Addr), PTs (Γ.blk s H scope (compEnvC scope cl C Γ.env) fp) ifs (tsto X W0 c))
    (he : ∀ (s : Shared) (H : Hp) (C : Addr) (cl : List (Str × Addr)) (fp : List Addr), PE (Γ.blk s H scope (compEnvC scope cl C Γ.env) fp) elt (tE X W0 m)) (hp : ∀ i ∈ X.pin, i ∉ own.map (·.2) := by decide) (hj : ∀ j ∈ t.slots, j ∈ own.map (·.2) := by decide) (hs : ∀ x, foldedSetIterable iter Γ.env x = pure x := by intro _; rfl) :
    PE Γ (.ListComp elt [⟨tg, iter, ifs, 0⟩] scope pos) (tE X W (mLc src t c m (own.map (·.2)))) := PEi (pe_lc hc hN hi ok hg ht he hs) fun σ H Q q => lc_run hp hj q
/-- y = [..] -/
theorem s_setLc {i : Nat} {y : Str} {py : Pos} {elt tg iter : Expr} {ifs : List Expr} {scope : Scope} {own : List (Str × Nat)} {pos spos : Pos} {src : Src} {t : Tgt} {c : Option M} {m : M} (hc : Γ.calm = true) (hN : Γ.N.Nodup) (hy : Γ.N[i]? = some y) (hyl : Γ.env.scope.names.lookup y = some .local)
    (hsw : swapsWith (.ListComp elt [⟨tg, iter, ifs, 0⟩] scope pos) (some (.Name y py)) spos.line Γ.env = pure true) (hi : PI Γ tg iter (tI X W src)) (ok : BlkOk Γ.N Γ.env.scope scope own)
    (hg : ∀ (s : Shared) (H : Hp) (C : Addr) (cl : List (Str × Addr)) (fp : List Addr), PG (Γ.blk s H scope (compEnvC scope cl C Γ.env) fp) tg (tG X t)) (ht : ∀ (s : Shared) (H : Hp) (C : Addr) (cl : List (Str × Addr)) (fp : List Addr), PTs (Γ.blk s H scope (compEnvC scope cl C Γ.env) fp) ifs (tsto X W0 c))
    (he : ∀ (s : Shared) (H : Hp) (C : Addr) (cl : List (Str × Addr)) (fp : List Addr), PE (Γ.blk s H scope (compEnvC scope cl C Γ.env) fp) elt (tE X W0 m)) (hpi : i ∉ X.pin := by decide) (hp : ∀ i ∈ X.pin, i ∉ own.map (·.2) := by decide) (hj : ∀ j ∈ t.slots, j ∈ own.map (·.2) := by decide) (hs : ∀ x, foldedSetIterable iter Γ.env x = pure x := by intro _; rfl) :
    PS Γ (.Assign [.Name y py] (.ListComp elt [⟨tg, iter, ifs, 0⟩] scope pos) spos) (tS X W (sAsg (.nm i) (mLc src t c m (own.map (·.2))))) := PSi (ps_setLc hc hN hy hyl hsw hi ok hg ht he hs) fun E σ H q => asg_run (fun Q z => lc_run hp hj z) (g_name hpi) q
theorem ts_nil : PTs Γ [] (tsto X W none) := pts_nil
theorem ts_one {c : Expr} {m : M} (h : PT Γ c (tT X W m)) : PTs Γ [c] (tsto X W (some m)) := pts_one h
end
end Z

set_option Elab.async false
set_option linter.all false
set_option maxRecDepth 100000
set_option maxHeartbeats 4000000
/-! ZI: a def's body as an operation on trees; its calls. -/
namespace Z
open PySem PySem.Spec PyProof.Rows L2
/-- what a def promises: it does op -/
def spF (w : Wd) (op : Op) (n : Nat) : Sp := fun vs H Q E => vs.length = n ∧ ∃ I F ds, Hs w I F ds vs H ∧ OutO w I F ds vs Q E (op ds)
def back (pin : List Nat) (n : Nat) (e : Env) : List D := keepP (fun i => pin.contains i) (e.take n)
/-- the operation of a body: n parameters, m slots; pin: the parameters that it never stores to -/
def fnOp (n m : Nat) (pin : List Nat) (b : S) : Op := fun ds => if ds.length = n then (match b (ds ++ List.replicate (m - n) .any) with
  | .rt r e => if n ≤ e.length then .ok r (back pin n e) else .bad
  | .nx e => if n ≤ e.length then .ok .non (back pin n e) else .bad
  | .exc c ns xs e => if n ≤ e.length then .exc c ns xs (back pin n e) else .bad
  | _ => .bad) else .bad
section
variable {w : Wd}
theorem Hs.anysR {I F H : Hp} {ds : List D} {vs : List V} (h : Hs w I F ds vs H) (k : Nat) : Hs w I F (ds ++ List.replicate k .any) (vs ++ List.replicate k .non) H := by
  have h1 := h.anys (List.replicate k V.non)
  have e : (List.replicate k V.non).map (fun _ => D.any) = List.replicate k .any := by simp
  rw [e] at h1
  exact h1.comm (by simp)
theorem σv_start (N : List Str) (vs : List V) : σv (L2.start N vs) = vs ++ List.replicate (N.length - vs.length) .non := by
  unfold σv L2.start
  rw [List.map_append, List.map_map]
  congr 1
  · induction vs with
    | nil => rfl
    | cons v vs ih => simp only [List.map_cons]; rw [ih]; rfl
  · simp
theorem hs_params {X : Fx} {I F H : Hp} {σ : L2.St} {r : D} {v : V} {e : Env} {n : Nat} (h : Hs X.w I F (r :: e) (v :: σv σ) H) (er : EnvR X σ e) (hl : X.vs0.length = n) (hn : n ≤ e.length) (hpin : ∀ i ∈ X.pin, i < n) :
    Hs X.w I F (r :: back X.pin n e) (v :: X.vs0) H := by
  have hle := h.length
  have h1 : Hs X.w I F ([r] ++ (e.take n ++ e.drop n)) ([v] ++ ((σv σ).take n ++ (σv σ).drop n)) H := by
    rw [List.take_append_drop, List.take_append_drop]
    exact h
  have hlen : (e.take n).length = ((σv σ).take n).length := by
    rw [List.length_take, List.length_take]
    simp at hle
    omega
  have h2 : Hs X.w I F ((r :: e.take n) ++ e.drop n) ((v :: (σv σ).take n) ++ (σv σ).drop n) H := by simpa using h1
  obtain ⟨fp, rr, nd, dj⟩ := h2.ex
  obtain ⟨f1, f2, rfl, r1, r2⟩ := rr.split (by simp [hlen])
  have h3 : Hs X.w I F (r :: e.take n) (v :: (σv σ).take n) H := h2.of_sub r1 rr nd dj (List.nodup_append.mp nd).1 fun a m => List.mem_append_left _ m
  have h4 := h3.keep (fun i => match i with
    | 0 => true
    | i + 1 => X.pin.contains i)
  have h5 : Hs X.w I F (r :: back X.pin n e) (v :: (σv σ).take n) H := by
    unfold keepP at h4
    exact h4
  refine h5.vals (by simp [List.length_take]; rw [hl]; simp at hle; omega) fun i d hd hne => ?_
  cases i with
  | zero => rfl
  | succ i =>
    simp at hd ⊢
    unfold back at hd
    rw [keepP_get] at hd
    obtain ⟨d0, e0, e1⟩ := Option.map_eq_some_iff.mp hd
    by_cases q : X.pin.contains i = true
    · have hi : i ∈ X.pin := by simpa using q
      have lt : i < n := hpin i hi
      have lt2 : i < X.vs0.length := by omega
      have := er.pin i hi X.vs0[i] (List.getElem?_eq_getElem lt2)
      rw [List.getElem?_take, if_pos lt, List.getElem?_eq_getElem lt2, σv_at this]
    · rw [if_neg q] at e1
      exact absurd e1.symm hne
end
section
variable {P : Program} {wo : World} {K : PySem.W.Frag} {mg : Str → Option Value} {base : Heap} {x qual : Str} {params : Arguments} {body : List Stmt} {scope : Scope} {dvs : List V} {kws : List (Str × V)} {f : Addr} {fd : FuncData}
abbrev WE' (E : XK) : WX := fun cls d _ H => E cls d H
/-- THE RULE for a def -/
theorem z_fn {N ps : List Str} {k : Nat} {w : Wd} {n m : Nat} {b : S} (pin : List Nat) (F : FunD K x qual params body scope dvs kws f fd) (S : FnScope N ps scope) (hn : ps.length = n) (hm : N.length = m) (hnm : n ≤ m) (hpin : ∀ i ∈ pin, i < n)
    (hder : ∀ (cdv : Value) (A : Around) (outer : List PySem.Env) (s : Shared) (H : Hp) (vs : List V) (E : XK), Room k (A.deeper (envOfC qual scope s.heap.objs.size f cdv)) → (∀ j ∈ pin, j < vs.length) →
      PSs (cxOf (L2.CX P wo) P wo K mg base N qual scope f cdv A outer s H E) body (tS ⟨w, pin, vs⟩ (WE' E) b)) : FnOk P wo K mg base (L2.CX P wo) (k + 1) f fd ps (spF w (fnOp n m pin b) n) := by
  refine F.ok S (fun vs H Q E h => by rw [hn]; exact h.1) fun cdv A outer s H vs Q E hr h => ⟨_, hder cdv A outer s H vs E hr (fun j hj => by rw [h.1]; exact hpin j hj), ?_⟩
  obtain ⟨hl, I, Fr, ds, hs, o⟩ := h
  have hld := hs.length
  unfold fnOp at o
  have hd : ds.length = n := by omega
  rw [if_pos hd] at o
  have hs1 : Hs w I Fr (ds ++ List.replicate (m - n) .any) (σv (L2.start N vs)) H := by
    rw [σv_start, hm, hl]
    exact hs.anysR (m - n)
  have er1 : EnvR ⟨w, pin, vs⟩ (L2.start N vs) (ds ++ List.replicate (m - n) .any) := by
    refine ⟨fun i d hi hne => ?_, fun i hi v hv => ?_⟩
    · by_cases q : i < ds.length
      · refine ⟨vs[i]'(by omega), ?_⟩
        unfold L2.start
        rw [List.getElem?_append_left (by simp; omega), List.getElem?_map, List.getElem?_eq_getElem (by omega)]
        rfl
      · rw [List.getElem?_append_right (by omega), List.getElem?_replicate] at hi
        split at hi
        · cases hi; exact absurd rfl hne
        · cases hi
    · have hv' : vs[i]? = some v := hv
      unfold L2.start
      rw [List.getElem?_append_left (by simp; exact (List.getElem?_eq_some_iff.mp hv').1), List.getElem?_map, hv']
      rfl
  refine ⟨I, Fr, _, hs1, er1, ?_⟩
  have hlv : (⟨w, pin, vs⟩ : Fx).vs0.length = n := hl
  cases hb : b (ds ++ List.replicate (m - n) .any) with
  | bad => simp only [hb] at o; exact o.elim
  | bk e => simp only [hb] at o; exact o.elim
  | ct e => simp only [hb] at o; exact o.elim
  | rt r e =>
    simp only [hb] at o
    obtain ⟨q, o⟩ := ite_out o
    intro v σ' I' H' le h' er'
    exact o v I' H' le (hs_params (X := ⟨w, pin, vs⟩) h' er' hlv q hpin)
  | nx e =>
    simp only [hb] at o
    obtain ⟨q, o⟩ := ite_out o
    intro σ' I' H' le h' er'
    exact o .non I' H' le (hs_params (X := ⟨w, pin, vs⟩) (h'.addC (d := .non) rfl) er' hlv q hpin)
  | exc c ns xs e =>
    simp only [hb] at o
    obtain ⟨q, o⟩ := ite_out o
    intro cls d σ' I' H' le h' er' xr
    exact o cls d I' H' le (hs_params (X := ⟨w, pin, vs⟩) (h'.addC (d := .non) rfl) er' hlv q hpin).drop xr
end
/-! ### calls -/
/-- a def that stands at the module's name x, n parameters, and does op -/
structure Cl (P : Program) (wo : World) (K : PySem.W.Frag) (mg : Str → Option Value) (base : Heap) (w : Wd) (k : Nat) (x : Str) (n : Nat) (op : Op) (dfl : List (List V)) (ks : List Str) : Prop where
  ex : ∃ (f : Addr) (fd : FuncData) (ps : List Str), ps.length = n ∧ FnOk P wo K mg base (L2.CX P wo) k f fd ps (spF w op n) ∧ PySem.W.keepIn K (.ref f) = true ∧ mg x = some (.ref f) ∧ (∀ dvs ∈ dfl, ∃ ds, Vals dvs ds ∧ Binds K fd ps ds) ∧
    (ks ≠ [] → ks.length = n ∧ KBn K fd ps 0 ks (fun _ ws => ws.reverse) (fun _ zs => zs.reverse))
def opLen (op : Op) (n : Nat) : Prop := ∀ ds, ds.length ≠ n → op ds = .bad
theorem fnOp_len {n m : Nat} {pin : List Nat} {b : S} : opLen (fnOp n m pin b) n := fun ds h => by
  unfold fnOp
  rw [if_neg h]
/-- the last arguments left out -/
def dfOp (op : Op) (dd : List D) : Op := fun ds => match op (ds ++ dd) with
  | .ok r es => .ok r (es.take ds.length)
  | .exc c ns xs es => .exc c ns xs (es.take ds.length)
  | .bad => .bad
theorem Hs.takeL {w : Wd} {I F H : Hp} {ds : List D} {vs : List V} (h : Hs w I F ds vs H) (k : Nat) : Hs w I F (ds.take k) (vs.take k) H := by
  have hl := h.length
  have h1 : Hs w I F (ds.take k ++ ds.drop k) (vs.take k ++ vs.drop k) H := by
    rw [List.take_append_drop, List.take_append_drop]
    exact h
  obtain ⟨fp, rr, nd, dj⟩ := h1.ex
  obtain ⟨f1, f2, rfl, r1, r2⟩ := rr.split (by rw [List.length_take, List.length_take]; omega)
  exact h1.of_sub r1 rr nd dj (List.nodup_append.mp nd).1 fun a m => List.mem_append_left _ m
theorem Hs.addCs {w : Wd} {I F H : Hp} : ∀ {dd : List D} {dvs : List V} {ds : List D} {vs : List V}, Hs w I F ds vs H → Paired (fun d v => D.scal d = some v) dd dvs → Hs w I F (dd ++ ds) (dvs ++ vs) H
  | _, _, ds, vs, h, .nil => h
  | _, _, ds, vs, h, .cons r t => (Hs.addCs h t).addC r
theorem Paired.len {α β : Type} {R : α → β → Prop} : ∀ {as : List α} {bs : List β}, Paired R as bs → as.length = bs.length
  | _, _, .nil => rfl
  | _, _, .cons _ t => by simp [Paired.len t]
theorem od_call {w : Wd} {op : Op} {n : Nat} {dd : List D} {dvs : List V} (ho : opLen op n) (hd : Paired (fun d v => D.scal d = some v) dd dvs) : OpD w (fun us H Q E => spF w op n (us ++ dvs) H Q E) (dfOp op dd) := fun I F es us H Q E hs o => by
  have hl := hs.length
  have h2 : Hs w I F (es ++ dd) (us ++ dvs) H := (hs.addCs hd).comm (Paired.len hd)
  have hlen : (us ++ dvs).length = (es ++ dd).length := h2.length.symm
  unfold dfOp at o
  refine ⟨?_, I, F, es ++ dd, h2, ?_⟩
  · rw [hlen]
    by_cases q : (es ++ dd).length = n
    · exact q
    · rw [ho _ q] at o
      exact o.elim
  · cases hop : op (es ++ dd) with
    | bad => rw [hop] at o; exact o
    | ok r es' =>
      rw [hop] at o
      intro z I' H' le h'
      have h3 := h'.takeL (es.length + 1)
      refine o z I' H' le ?_
      have e1 : (z :: (us ++ dvs)).take (es.length + 1) = z :: us := by
        rw [List.take_succ_cons, hl, List.take_left]
      have e2 : (r :: es').take (es.length + 1) = r :: es'.take es.length := List.take_succ_cons ..
      rw [e1, e2] at h3
      exact h3
    | exc c ns xs es' =>
      rw [hop] at o
      intro cls d I' H' le h' x
      have h3 := h'.takeL es.length
      refine o cls d I' H' le ?_ x
      have e1 : (us ++ dvs).take es.length = us := by rw [hl, List.take_left]
      rw [e1] at h3
      exact h3
section
variable {Γ : Cx} {X : Fx} {W : WX} {k : Nat} {x : Str} {n : Nat} {op : Op} {dfl : List (List V)} {ks : List Str} {p pos : Pos} {e : Expr} {es : List Expr} {ops : List Opd}
/-- f(e, ..), some last arguments perhaps left out -/
theorem z_callD {dd : List D} {dvs : List V} (c : Cl Γ.prog Γ.w Γ.K Γ.mg Γ.base X.w k x n op dfl ks) (hr : Room k Γ.A) (hg : Gl Γ x) (ho : opLen op n) (hdf : dvs ∈ dfl) (hd : Paired (fun d v => D.scal d = some v) dd dvs) (tk : Takes Γ W) (ha : PA Γ (e :: es) (tOs X W ops))
    (hdb : (x == ("__debug__" : Str)) = false := by decide) (he : starEach (e :: es) Γ.env = (false, eval e Γ.env) :: starEach es Γ.env := by rfl) (hpl : (backTo pos (starEach es Γ.env)).any (·.1) = false := by rfl) :
    PE Γ (.Call (.Name x p) (e :: es) [] pos) (tE X W (mApp (dfOp op dd) ops)) := by
  obtain ⟨f, fd, ps, hn, F, hk, hm, hb, _⟩ := c.ex
  obtain ⟨ds, hv, hbb⟩ := hb dvs hdf
  exact PEi (pe_callSD F hr hg hm hk hbb hv (fun σ => passAt tk σ) ha hdb he hpl) fun σ H Q h => app_run (od_call ho hd) h
end
end Z

set_option Elab.async false
set_option linter.all false
set_option maxRecDepth 100000
set_option maxHeartbeats 4000000
/-! ZJ: calls by keywords, instances, their fields, displays with a star, isinstance. -/
namespace Z
open PySem PySem.Spec PyProof.Rows L2
section
variable {w : Wd}
theorem RepL.rev {I H : Hp} : ∀ {ds : List D} {vs : List V} {fp : List Addr}, RepL w I H ds vs fp → ∃ f2, RepL w I H ds.reverse vs.reverse f2 ∧ List.Perm fp f2
  | [], vs, fp, h => by
    unfold RepL at h
    obtain ⟨rfl, rfl⟩ := h
    exact ⟨[], .nil, .refl _⟩
  | d :: ds, vs, fp, h => by
    unfold RepL at h
    obtain ⟨v, us, f1, f2, rfl, rfl, h1, h2⟩ := h
    obtain ⟨f3, r, pm⟩ := h2.rev
    rw [List.reverse_cons, List.reverse_cons]
    have z : RepL w I H [d] [v] (f1 ++ []) := .cons h1 .nil
    rw [List.append_nil] at z
    exact ⟨f3 ++ f1, r.append z, (List.Perm.append_left f1 pm).trans List.perm_append_comm⟩
theorem Hs.rev {I F H : Hp} {ds : List D} {vs : List V} (h : Hs w I F ds vs H) : Hs w I F ds.reverse vs.reverse H := by
  obtain ⟨fp, r, nd, dj⟩ := h.ex
  obtain ⟨f2, r2, pm⟩ := r.rev
  exact h.of_sub r2 r nd dj (pm.nodup_iff.mp nd) fun a m => pm.symm.subset m
def revOp (op : Op) : Op := fun ds => match op ds.reverse with
  | .ok r es => .ok r es.reverse
  | .exc c ns xs es => .exc c ns xs es.reverse
  | .bad => .bad
theorem Hs.rev1 {I F H : Hp} {r : D} {z : V} {es : List D} {us : List V} (h : Hs w I F (r :: es) (z :: us.reverse) H) : Hs w I F (r :: es.reverse) (z :: us) H := by
  have h1 : Hs w I F ([r] ++ es) ([z] ++ us.reverse) H := h
  obtain ⟨G, g, back⟩ := Hs.push h1 rfl
  have g2 := g.rev
  rw [List.reverse_reverse] at g2
  exact back I _ _ H (Le.refl _) g2
theorem od_rev {op : Op} {n : Nat} (ho : opLen op n) : OpD w (fun us H Q E => spF w op n us.reverse H Q E) (revOp op) := fun I F es us H Q E hs o => by
  have h2 := hs.rev
  unfold revOp at o
  refine ⟨?_, I, F, es.reverse, h2, ?_⟩
  · rw [← h2.length]
    by_cases q : es.reverse.length = n
    · exact q
    · rw [ho _ q] at o
      exact o.elim
  · cases hop : op es.reverse with
    | bad => rw [hop] at o; exact o
    | ok r es' =>
      rw [hop] at o
      exact fun z I' H' le h' => o z I' H' le h'.rev1
    | exc c ns xs es' =>
      rw [hop] at o
      intro cls d I' H' le h' x
      have g2 := h'.rev
      rw [List.reverse_reverse] at g2
      exact o cls d I' H' le g2 x
end
/-! ### f(k = v, ..), keywords alone, the last parameter first -/
section
variable {Γ : Cx} {X : Fx} {W : WX} {k : Nat} {f : Addr} {fd : FuncData} {ps ks : List Str} {sp : Sp} {E : L2.St → XK} {x : Str} {p pos : Pos} {kws : List Keyword} {tk : TA}
def tKR (sp : Sp) (E : L2.St → XK) (tk : TA) : TE := fun σ H Q => tk σ H fun zs H1 => sp zs.reverse H1 Q (E σ)
theorem pe_callKR {CX : CXT} (F : FnOk Γ.prog Γ.w Γ.K Γ.mg Γ.base CX k f fd ps sp) (hr : Room k Γ.A) (hg : Gl Γ x) (hm : Γ.mg x = some (.ref f)) (hk : PySem.W.keepIn Γ.K (.ref f) = true) (hl0 : ks.length = ps.length) (hb : KBn Γ.K fd ps 0 ks (fun _ ws => ws.reverse) (fun _ zs => zs.reverse)) (hx : ∀ σ, PassesAt CX Γ σ (E σ))
    (hkw : PK Γ kws tk) (hall : (backToKw pos (keywordEach kws Γ.env)).all (·.1.isSome) = true := by rfl) (hks : (backToKw pos (keywordEach kws Γ.env)).filterMap (·.1) = ks := by rfl)
    (hdb : (x == ("__debug__" : Str)) = false := by decide) (hpl : ((backTo pos (starEach [] Γ.env)).any (·.1) || (backToKw pos (keywordEach kws Γ.env)).any (·.1.isNone)) = false := by rfl) :
    PE Γ (.Call (.Name x p) [] kws pos) (tKR sp E tk) := by
  refine ⟨fun pins s σ H Q I h => ?_⟩
  refine wpAny_Call_Name_kw (ld_glob I hg hm ?_ hdb)
  refine PySem.W.callWith_KW0 (h₀ := Γ.base) I.ok.mod.kin hk hall ?_ hpl
  refine thn (hkw.run pos pins s σ H _ I h) fun ws s2 ⟨zs, H2, I2, rz, q2⟩ => ⟨I2.kIn, ?_⟩
  rw [hks]
  have r2 := hb.rel (vs := []) (us := []) .nil rz
  have hl : ws.length = ks.length := by
    have e : ws.reverse.length = ps.length := by rw [← r2.length]; exact F.len _ _ _ _ q2
    rw [hl0, ← e, List.length_reverse]
  refine wpAny_call (codeAny_mono (F.run Γ.A Γ.stack s2 H2 ⟨[], ks.zip ws⟩ ws.reverse zs.reverse Q (E σ) hr I2.env0 (hb.to s2 [] ws I2.kIn rfl hl) r2 q2) fun r s' hq => ?_)
  cases r with
  | error e => exact hx σ pins H2 s2 e s' I2 hq
  | ok fl =>
    cases fl with
    | ret u => exact I2.after hq
    | next => exact False.elim hq
    | brk => exact False.elim hq
    | cont => exact False.elim hq
theorem pk_z0 : PK Γ [] (tOs X W []) := pk_nil
theorem pk_z {nm : Option Str} {e : Expr} {kpos : Pos} {o : Opd} {ops : List Opd} (h : PE Γ e (tO X W o)) (hs : PK Γ kws (tOs X W ops)) : PK Γ (⟨nm, e, kpos⟩ :: kws) (tOs X W (o :: ops)) := pk_cons h hs
theorem z_callKR {n : Nat} {op : Op} {dfl : List (List V)} {ops : List Opd} (c : Cl Γ.prog Γ.w Γ.K Γ.mg Γ.base X.w k x n op dfl ks) (hne : ks ≠ []) (hr : Room k Γ.A) (hg : Gl Γ x) (ho : opLen op n) (tk : Takes Γ W) (hkw : PK Γ kws (tOs X W ops))
    (hall : (backToKw pos (keywordEach kws Γ.env)).all (·.1.isSome) = true := by rfl) (hks : (backToKw pos (keywordEach kws Γ.env)).filterMap (·.1) = ks := by rfl)
    (hdb : (x == ("__debug__" : Str)) = false := by decide) (hpl : ((backTo pos (starEach [] Γ.env)).any (·.1) || (backToKw pos (keywordEach kws Γ.env)).any (·.1.isNone)) = false := by rfl) :
    PE Γ (.Call (.Name x p) [] kws pos) (tE X W (mApp (revOp op) ops)) := by
  obtain ⟨f, fd, ps, hn, F, hk, hm, _, hb⟩ := c.ex
  exact PEi (pe_callKR F hr hg hm hk ((hb hne).1.trans hn.symm) (hb hne).2 (fun σ => passAt tk σ) hkw hall hks hdb hpl) fun σ H Q h => app_run (od_rev ho) h
end
/-! ### instances -/
section
variable {w : Wd}
theorem Hs.junk {I F H : Hp} {ds : List D} {vs : List V} {p : Addr} {o : HO} (h : Hs w I F ds vs H) (np : H p = none) : Hs w I F ds vs (upd H p o) := by
  obtain ⟨fp, r, nd, dj⟩ := h.ex
  have k : ∀ a, H a ≠ none → upd H p o a = H a := fun a m => upd_ne fun e => m (by rw [e]; exact np)
  refine ⟨⟨fp, RepL.frame (Le.refl I) ds vs fp (fun a m => k a ?_) r, nd, dj⟩, fun a u e => ?_, fun a u e => ?_, h.fT, h.lkI, h.fkF⟩
  · obtain ⟨u, e⟩ := RepL.there ds vs fp r a m
    rw [e]
    exact fun z => nomatch z
  · obtain ⟨e1, e2⟩ := h.iF a u e
    exact ⟨by rw [k a (by rw [e1]; exact fun z => nomatch z)]; exact e1, e2⟩
  · have e1 := h.fH a u e
    rw [k a (by rw [e1]; exact fun z => nomatch z)]
    exact e1
/-- C(e, ..): what __init__ (op) makes of a new instance -/
def makeOp (c : Str) (op : Op) : Op := fun ds => match op (.node (.ins true c []) [] :: ds) with
  | .ok .non (s :: es) => .ok s es
  | _ => .bad
theorem od_make {c : Str} {op : Op} {n : Nat} (ho : opLen op (n + 1)) : OpD w (fun us H Q _ => ∀ x dx, H x = none → H dx = none → dx ≠ x → spF w op (n + 1) (.ref x :: us) (upd (upd H dx (.own x)) x (.ins (w.cA c) dx [])) (fun v H2 => v = .non ∧ Q (.ref x) H2) E0) (makeOp c op) := fun I F es us H Q E hs o => by
  intro x dx nx ndx ne
  have h1 := hs.junk (o := .own x) ndx
  have nx' : upd H dx (.own x) x = none := by rw [upd_ne (fun e => ne e.symm)]; exact nx
  have h2 := Hs.newO (t := .ins true c []) (xs := []) (us := []) (p := x) (o := .ins (w.cA c) dx []) h1 rfl nx' rfl rfl ⟨dx, upd_same⟩
  unfold makeOp at o
  refine ⟨?_, I, F, _, h2, ?_⟩
  · rw [← h2.length]
    by_cases q : (D.node (.ins true c []) [] :: es).length = n + 1
    · exact q
    · rw [ho _ q] at o
      exact o.elim
  · cases hop : op (D.node (.ins true c []) [] :: es) with
    | bad => rw [hop] at o; exact o.elim
    | exc c ns xs es' => rw [hop] at o; exact o.elim
    | ok r es' =>
      rw [hop] at o
      cases r with
      | non =>
        cases es' with
        | nil => exact o.elim
        | cons s es' =>
          intro z I' H' le h'
          exact ⟨h'.scal rfl, o (.ref x) I' H' le h'.drop⟩
      | _ => exact o.elim
/-- a class of the program's own, and what its __init__ does -/
structure Ck (P : Program) (wo : World) (K : PySem.W.Frag) (mg : Str → Option Value) (base : Heap) (w : Wd) (k : Nat) (x : Str) (n : Nat) (op : Op) : Prop where
  ex : ∃ (f : Addr) (fd : FuncData) (ps : List Str), FnOk P wo K mg base (L2.CX P wo) k f fd ps (spF w op (n + 1)) ∧ Mk K (w.cA x) f ∧ mg x = some (.ref (w.cA x)) ∧ Binds K fd ps []
theorem z_make {Γ : Cx} {X : Fx} {W : WX} {k n : Nat} {x : Str} {op : Op} {p pos : Pos} {e : Expr} {es : List Expr} {ops : List Opd} (c : Ck Γ.prog Γ.w Γ.K Γ.mg Γ.base X.w k x n op) (hr : Room (k + 1) Γ.A) (hg : Gl Γ x) (ho : opLen op (n + 1)) (ha : PA Γ (e :: es) (tOs X W ops))
    (hdb : (x == ("__debug__" : Str)) = false := by decide) (he : starEach (e :: es) Γ.env = (false, eval e Γ.env) :: starEach es Γ.env := by rfl) (hpl : (backTo pos (starEach es Γ.env)).any (·.1) = false := by rfl) :
    PE Γ (.Call (.Name x p) (e :: es) [] pos) (tE X W (mApp (makeOp x op) ops)) := by
  obtain ⟨f, fd, ps, F, M, hm, hb⟩ := c.ex
  exact PEi (pe_make M F hr hg hm hb .nil passL ha hdb he hpl) fun σ H Q h => by
    have z := app_run (od_make ho) h
    simp only [tMake, List.append_nil]
    exact z
/-! ### x.f -/
def fAt (ns : List Str) (f : Str) : Option Nat := ns.findIdx? (· == f)
theorem lookup_at : ∀ {ns : List Str} {vs : List V} {f : Str} {j : Nat} {v : V}, fAt ns f = some j → vs[j]? = some v → (ns.zip vs).lookup f = some v
  | [], vs, f, j, v, h, e => by cases h
  | n :: ns, [], f, j, v, h, e => by simp at e
  | n :: ns, u :: vs, f, j, v, h, e => by
    unfold fAt at h
    rw [List.findIdx?_cons] at h
    by_cases q : (n == f) = true
    · rw [if_pos q] at h
      cases h
      have : n = f := by simpa using q
      subst this
      simp at e
      subst e
      show List.lookup n ((n, u) :: ns.zip vs) = some u
      rw [List.lookup_cons]
      simp
    · rw [if_neg q] at h
      obtain ⟨j', e1, rfl⟩ := Option.map_eq_some_iff.mp h
      have z := lookup_at (ns := ns) (vs := vs) (f := f) (j := j') (v := v) e1 (by simpa using e)
      show List.lookup f ((n, u) :: ns.zip vs) = some v
      rw [List.lookup_cons]
      have : (f == n) = false := by
        cases hh : f == n with
        | false => rfl
        | true => exact absurd (by simpa using (by simpa using hh : f = n).symm) q
      rw [this]
      exact z
/-- the field f of an instance of c -/
def oFld (c f : Str) : Op
  | [.node (.ins o c' ns) xs] => if c' = c then (match fAt ns f with
    | some j => (match xs[j]? with
      | some d => if d.isFrz = true then .ok d [.node (.ins o c' ns) xs] else .ok d.frz [D.frz (.node (.ins o c' ns) xs)]
      | none => .bad)
    | none => .bad) else .bad
  | _ => .bad
theorem Hs.insAt {I F H : Hp} {ds : List D} {vs : List V} {v : V} {o : Bool} {c : Str} {ns : List Str} {xs : List D} {j : Nat} {d : D} (h : Hs w I F (.node (.ins o c ns) xs :: ds) (v :: vs) H) (e : xs[j]? = some d) (hd : d.isFrz = true) :
    ∃ a dx us z, v = .ref a ∧ H a = some (.ins (w.cA c) dx (ns.zip us)) ∧ us[j]? = some z ∧ Hs w I F (d :: .node (.ins o c ns) xs :: ds) (z :: v :: vs) H := by
  obtain ⟨fp, r, nd, dj⟩ := h.ex
  obtain ⟨f1, f2, rfl, r1, r2⟩ := r.out
  have r1' := r1
  unfold Rep at r1'
  obtain ⟨a, us, fp', rfl, hl, hf, q⟩ := r1'
  obtain ⟨z, g1, g2, hz, rz, _, _⟩ := hl.take e
  obtain rfl := rz.own_nil (frz_id hd)
  have hat : ∃ dx, H a = some (.ins (w.cA c) dx (ns.zip us)) := by
    rcases q with ⟨_, ⟨dx, q⟩, _⟩ | ⟨_, ⟨dx, q⟩, _⟩
    · exact ⟨dx, q⟩
    · exact ⟨dx, h.iH a _ q⟩
  obtain ⟨dx, hat⟩ := hat
  exact ⟨a, dx, us, z, rfl, hat, hz, h.of_sub (RepL.cons (f1 := []) rz (RepL.cons r1 r2)) r nd dj nd fun b m => m⟩
def rFld (K : PySem.W.Frag) (f : Str) : V → Hp → VK → Prop := fun x H1 Q => ∃ a C dx fs v, x = .ref a ∧ H1 a = some (.ins C dx fs) ∧ Cls K C ∧ NoAttr K C f ∧ fs.lookup f = some v ∧ Q v H1
theorem od_fld {c f : Str} (hc : Cls w.K (w.cA c)) (hn : NoAttr w.K (w.cA c) f) : OpD w (r1 (rFld w.K f)) (oFld c f) := fun I F es us H Q E hs o => by
  unfold oFld at o
  split at o
  · rename_i o' c' ns xs
    match us, hs.length, hs, o with
    | [v], _, hs, o =>
      obtain ⟨ec, o⟩ := ite_out o
      subst ec
      cases h1 : fAt ns f with
      | none => simp only [h1] at o; exact o.elim
      | some j =>
        simp only [h1] at o
        cases h2 : xs[j]? with
        | none => simp only [h2] at o; exact o.elim
        | some d =>
          simp only [h2] at o
          by_cases hd : d.isFrz = true
          · rw [if_pos hd] at o
            obtain ⟨a, dx, us, z, rfl, hat, hz, h3⟩ := hs.insAt h2 hd
            exact ⟨a, _, dx, _, z, rfl, hat, hc, hn, lookup_at h1 hz, o z I H (Le.refl _) h3⟩
          · rw [if_neg hd] at o
            obtain ⟨J, le, h4⟩ := hs.freeze
            obtain ⟨a, dx, us, z, rfl, hat, hz, h3⟩ := Hs.insAt (o := false) h4 (frzL_at h2) (isFrz_frz d)
            exact ⟨a, _, dx, _, z, rfl, hat, hc, hn, lookup_at h1 hz, o z J H le h3⟩
  · exact o.elim
theorem z_fld {Γ : Cx} {X : Fx} {W : WX} {e : Expr} {f c : Str} {pos : Pos} {o : Opd} (h : PE Γ e (tO X W o)) (hc : Cls X.w.K (X.w.cA c)) (hn : NoAttr X.w.K (X.w.cA c) f) (hK : X.w.K = Γ.K) (hb : attributeBase e f Γ.env (eval e Γ.env) = eval e Γ.env := by rfl) :
    PE Γ (.Attribute e f pos) (tE X W (mApp (oFld c f) [o])) := PEi (pe_fld h hb) fun σ H Q q => by
  have z := app_run (od_fld hc hn) q
  rw [hK] at z
  exact z
/-! ### self.f = e, a field that is not there yet -/
def sFldNew (i : Nat) (c f : Str) (m : M) : S := fun env => match m env with
  | .ok r e => (match e[i]? with
    | some (.node (.ins true c' ns) xs) => if c' = c ∧ fAt ns f = none ∧ ns.length = xs.length ∧ ns.length < 900 then .nx (e.set i (.node (.ins true c' (ns ++ [f])) (xs ++ [r]))) else .bad
    | _ => .bad)
  | .exc c ns xs e => .exc c ns xs e
  | .bad => .bad
theorem putF_new : ∀ {ns : List Str} {vs : List V} {f : Str} {v : V}, fAt ns f = none → ns.length = vs.length → putF f v (ns.zip vs) = (ns ++ [f]).zip (vs ++ [v])
  | [], [], f, v, h, l => rfl
  | [], _ :: _, f, v, h, l => by cases l
  | _ :: _, [], f, v, h, l => by cases l
  | n :: ns, u :: vs, f, v, h, l => by
    unfold fAt at h
    rw [List.findIdx?_cons] at h
    by_cases q : (n == f) = true
    · rw [if_pos q] at h; cases h
    · rw [if_neg q] at h
      have h' : ns.findIdx? (· == f) = none := by
        cases hh : ns.findIdx? (· == f) with
        | none => rfl
        | some j => rw [hh] at h; cases h
      have ne : ¬ n = f := by simpa using q
      show putF f v ((n, u) :: ns.zip vs) = _
      unfold putF
      rw [if_neg ne, putF_new (ns := ns) h' (by simpa using l)]
      rfl
theorem s_fldNew {Γ : Cx} {X : Fx} {W : WX} {i : Nat} {x f c : Str} {value : Expr} {pos pos' p : Pos} {m : M} (ha : PE Γ (.Name x p) (tVar i)) (hv : PE Γ value (tE X W m)) (hc : Cls X.w.K (X.w.cA c)) (hn : NoAttr X.w.K (X.w.cA c) f) (hK : X.w.K = Γ.K)
    (hs : swapsWith value (some (.Attribute (.Name x p) f pos')) pos.line Γ.env = pure false := by rfl) : PS Γ (.Assign [.Attribute (.Name x p) f pos'] value pos) (tS X W (sFldNew i c f m)) := PSi (ps_fld ha hv hs) fun E σ H q => by
  obtain ⟨I, F, env, h, er, o⟩ := q
  refine ⟨I, F, env, h, er, ?_⟩
  unfold sFldNew at o
  cases hm : m env with
  | bad => simp only [hm] at o; exact o.elim
  | exc c ns xs e => simp only [hm] at o; exact fun cls d I' H' le h' er' x => o cls d σ I' H' le h' er' x
  | ok r e =>
    simp only [hm] at o
    intro y I1 H1 le1 h1 er1
    split at o
    · rename_i c' ns xs hd
      by_cases q : c' = c ∧ fAt ns f = none ∧ ns.length = xs.length ∧ ns.length < 900
      · rw [if_pos q] at o
        obtain ⟨rfl, q1, q2, q3⟩ := q
        obtain ⟨v, hv⟩ := er1.on i _ hd (fun z => nomatch z)
        obtain ⟨v', e', h2⟩ := Hs.take (es := [r]) (us := [y]) h1 rfl hd
        have ev : v' = v := Option.some.inj (e'.symm.trans (σv_at hv))
        subst ev
        obtain ⟨a, us, G, rfl, hl, hf, ⟨dx, hat⟩, h3, _, close⟩ := h2.open rfl
        have hl2 : ns.length = us.length := hf
        have h4 : Hs X.w I1 G ((xs ++ [r]) ++ e.set i .any) ((us ++ [y]) ++ σv σ) H1 := by
          rw [List.append_assoc, List.append_assoc]
          exact h3
        have h5 := close I1 (.ins true c' (ns ++ [f])) (xs ++ [r]) (us ++ [y]) _ _ H1 (.ins (X.w.cA c') dx ((ns ++ [f]).zip (us ++ [y]))) (Le.refl _) h4 (by simp [hl]) rfl (by show (ns ++ [f]).length = (us ++ [y]).length; simp [hl2]) ⟨dx, upd_same⟩
        refine ⟨.ref a, hv, a, X.w.cA c', dx, ns.zip us, rfl, hat, by rw [← hK]; exact hc, by rw [← hK]; exact hn, by rw [List.length_zip]; omega, ?_⟩
        rw [putF_new q1 hl2]
        have lt : i < e.length := (List.getElem?_eq_some_iff.mp hd).1
        have h6 := Hs.put (es := []) (us := []) (i := i) h5 rfl (by rw [List.getElem?_set_self lt]) e'
        rw [set_set] at h6
        exact o σ I1 _ le1 h6 (er1.set hd fun _ z => nomatch z)
      · rw [if_neg q] at o
        exact o.elim
    · exact o.elim
end
end Z

set_option Elab.async false
set_option linter.all false
set_option maxRecDepth 100000
set_option maxHeartbeats 4000000
/-! ZK: isinstance, truth, displays with a star, methods, slices and what else stands in the programs. -/
namespace Z
open PySem PySem.Spec PyProof.Rows L2 StX
/-! ### isinstance of built-in classes -/
def D.ty : D → Option String
  | .any => none
  | .non => some "NoneType"
  | .bl _ => some "bool"
  | .int _ => some "int"
  | .str _ => some "str"
  | .node .tup _ => some "tuple"
  | .node .tux _ => some "tuple"
  | .node .scr _ => some "list"
  | .node (.lst _) _ => some "list"
  | .node (.dk _ _) _ => some "dict"
  | .node (.dt true _) _ => some "dict"
  | .node (.dt false _) _ => none
  | .node (.ins _ _ _) _ => none
section
variable {w : Wd}
theorem tyx_l {K : PySem.W.Frag} {H : Hp} {a : Addr} {us : List V} (h : SqL K H a us) : TyX K H (.ref a) (.type "list") := by
  rcases h with h | ⟨o, its, n, h1, h2, _⟩
  · rcases h with h | ⟨ob, h⟩
    · exact .base (.lst h)
    · exact .base (.frz h)
  · exact .kList h1 h2
theorem tyx_t {K : PySem.W.Frag} {H : Hp} {a : Addr} {us : List V} (h : SqT K H a us) : TyX K H (.ref a) (.type "tuple") := by
  rcases h with h | ⟨o, its, n, h1, h2, _⟩
  · rcases h with h | ⟨ob, h⟩
    · exact .base (.tup h)
    · exact .fTuple h
  · exact .kTuple h1 h2
theorem Hs.tyx {I F H : Hp} {ds : List D} {vs : List V} {d : D} {v : V} {T : String} (h : Hs w I F (d :: ds) (v :: vs) H) (e : d.ty = some T) : TyX w.K H v (.type T) := by
  obtain ⟨fp, r⟩ := h.head
  have le := h.iH
  cases d with
  | any => cases e
  | non => cases e; rw [h.scal rfl]; exact .base .non
  | bl b => cases e; rw [h.scal rfl]; exact .base (.bl b)
  | int i => cases e; rw [h.scal rfl]; exact .base (.int i)
  | str s => cases e; rw [h.scal rfl]; exact .base (.str s)
  | node t xs =>
    unfold Rep at r
    obtain ⟨a, us, fp', rfl, hl, hf, q⟩ := r
    cases t with
    | tup =>
      cases e
      rcases q with ⟨ho, _, _⟩ | ⟨_, hat, _⟩
      · cases ho
      · exact tyx_t (le_t le (SqT.of hat))
    | tux =>
      cases e
      rcases q with ⟨ho, _, _⟩ | ⟨_, hat, _⟩
      · cases ho
      · exact tyx_t (le_t le (Tux.sqt hat))
    | scr =>
      cases e
      rcases q with ⟨ho, _, _⟩ | ⟨_, hat, _⟩
      · cases ho
      · exact tyx_l (le_l le hat)
    | lst o =>
      cases e
      rcases q with ⟨_, hat, _⟩ | ⟨_, hat, _⟩
      · exact .base (.lst hat)
      · exact .base (.lst (le a _ hat))
    | dk o ks =>
      cases e
      rcases q with ⟨_, hat, _⟩ | ⟨_, hat, _⟩
      · exact .base (.dK hat)
      · rcases le_rd le hat with h | ⟨od, h⟩
        · exact .base (.dK h)
        · exact .fDict h
    | dt o ks =>
      cases o with
      | false => cases e
      | true =>
        cases e
        rcases q with ⟨_, hat, _⟩ | ⟨ho, _, _⟩
        · exact .base (.dT hat)
        · cases ho
    | ins o c ns => cases e
/-- isinstance(x, T): the answer for each class that x may be of -/
def isiB (T : String) (d : D) : Option D := match d.ty with
  | some t => (kitB t T).map .bl
  | none => none
def rIs1 (K : PySem.W.Frag) (T : String) : RN := r1 fun x H Q => rIsi K [x, .ty T] H Q
theorem od_isi {T : String} : OpD w (rIs1 w.K T) (op1 (isiB T)) := od1 fun I F H d v z hs h => by
  unfold isiB at h
  cases e : d.ty with
  | none => rw [e] at h; cases h
  | some t =>
    rw [e] at h
    obtain ⟨b, hb, rfl⟩ := Option.map_eq_some_iff.mp h
    exact ⟨_, rfl, fun Q E q => ⟨v, .ty T, .type t, .type T, b, rfl, .ty T, hs.tyx e, kit_ty hb, q⟩⟩
def isi2B (T U : String) (d : D) : Option D := match d.ty with
  | some t => (match kitB t T, kitB t U with
    | some a, some b => some (.bl (a || b))
    | _, _ => none)
  | none => none
def rIs2 (K : PySem.W.Frag) (T U : String) : RN := r1 fun x H Q => 2 ≤ sizeLine ∧ ∀ p, H p = none → rIsiT K [x, .ref p] (upd H p (.tup [.ty T, .ty U])) Q
theorem od_isi2 {T U : String} : OpD w (rIs2 w.K T U) (op1 (isi2B T U)) := fun I F es us H Q E hs o => by
  match es, us, hs.length, hs, o with
  | [d], [v], _, hs, o =>
    unfold op1 at o
    cases h : isi2B T U d with
    | none => simp only [h] at o; exact o.elim
    | some z =>
      simp only [h] at o
      unfold isi2B at h
      cases e : d.ty with
      | none => rw [e] at h; cases h
      | some t =>
        rw [e] at h
        simp only at h
        cases e1 : kitB t T with
        | none => rw [e1] at h; cases h
        | some a =>
          cases e2 : kitB t U with
          | none => rw [e1, e2] at h; cases h
          | some b =>
            rw [e1, e2] at h
            cases h
            refine ⟨by decide, fun p np => ?_⟩
            have h2 := hs.junk (o := .tup [.ty T, .ty U]) np
            refine ⟨v, p, [.ty T, .ty U], .type t, [.type T, .type U], a || b, rfl, upd_same, .cons (.ty T) (.cons (.ty U) .nil), h2.tyx e, ?_, o (.bl (a || b)) I _ (Le.refl _) (h2.addC rfl)⟩
            refine kitAny_cons (kit_ty e1) (fun ha => ?_) (fun ha => by rw [ha]; rfl)
            refine kitAny_cons (kit_ty e2) (fun hb => ?_) (fun hb => by rw [hb]; cases a <;> rfl)
            rw [ha, hb]
            exact kitAny_nil
  | [], _, _, _, o => exact o.elim
  | _ :: _ :: _, _, _, _, o => exact o.elim
end
section
variable {Γ : Cx} {X : Fx} {W : WX}
theorem z_isi {e : Expr} {T : Str} {n : String} {p p2 pos : Pos} {o : Opd} (h : PE Γ e (tO X W o)) (hT : PE Γ (.Name T p2) (tC (.ty n))) (hg : Gl Γ "isinstance") (hm : Γ.mg "isinstance" = none) (hK : X.w.K = Γ.K)
    (h1 : starEach [e, .Name T p2] Γ.env = (false, eval e Γ.env) :: starEach [.Name T p2] Γ.env := by rfl) (h2 : starEach [.Name T p2] Γ.env = (false, eval (.Name T p2) Γ.env) :: starEach [] Γ.env := by rfl) (hpl : (backTo pos (starEach [.Name T p2] Γ.env)).any (·.1) = false := by rfl) :
    PE Γ (.Call (.Name "isinstance" p) [e, .Name T p2] [] pos) (tE X W (mApp (op1 (isiB n)) [o])) :=
  PEi (pe_callB (x := "isinstance") call_isi hg hm (by decide +kernel) (pa_cons h (pa_cons hT pa_nil h2) h1) (by decide) (by decide) h1 hpl) fun σ H Q q => by
    have z := app_run (od_isi (w := X.w) (T := n)) q
    rw [hK] at z
    exact z
theorem z_isi2 {e : Expr} {T U : Str} {n m : String} {k : Nat} {p p2 p3 p4 pos : Pos} {o : Opd} (h : PE Γ e (tO X W o)) (hT : PE Γ (.Name T p2) (tC (.ty n))) (hU : PE Γ (.Name U p3) (tC (.ty m))) (hg : Gl Γ "isinstance") (hm : Γ.mg "isinstance" = none) (hK : X.w.K = Γ.K)
    (h1 : starEach [e, .Tuple [.Name T p2, .Name U p3] k p4] Γ.env = (false, eval e Γ.env) :: starEach [.Tuple [.Name T p2, .Name U p3] k p4] Γ.env := by rfl)
    (h2 : starEach [.Tuple [.Name T p2, .Name U p3] k p4] Γ.env = (false, eval (.Tuple [.Name T p2, .Name U p3] k p4) Γ.env) :: starEach [] Γ.env := by rfl)
    (h3 : starEach [.Name T p2, .Name U p3] Γ.env = (false, eval (.Name T p2) Γ.env) :: starEach [.Name U p3] Γ.env := by rfl) (h4 : starEach [.Name U p3] Γ.env = (false, eval (.Name U p3) Γ.env) :: starEach [] Γ.env := by rfl)
    (hpl : (backTo pos (starEach [.Tuple [.Name T p2, .Name U p3] k p4] Γ.env)).any (·.1) = false := by rfl) :
    PE Γ (.Call (.Name "isinstance" p) [e, .Tuple [.Name T p2, .Name U p3] k p4] [] pos) (tE X W (mApp (op1 (isi2B n m)) [o])) :=
  PEi (pe_callB (x := "isinstance") call_isiT hg hm (by decide +kernel) (pa_cons h (pa_cons (pe_tup (pa_cons hT (pa_cons hU pa_nil h4) h3)) pa_nil h2) h1) (by decide) (by decide) h1 hpl) fun σ H Q q => by
    have z := app_run (od_isi2 (w := X.w) (T := n) (U := m)) q
    rw [hK] at z
    exact z
/-! ### truth of lists, tuples, ints, texts -/
def truD : D → Option Bool
  | .non => some false
  | .bl b => some b
  | .int i => some (i != 0)
  | .node .tup xs => some (!xs.isEmpty)
  | .node .tux xs => some (!xs.isEmpty)
  | .node .scr xs => some (!xs.isEmpty)
  | .node (.lst _) xs => some (!xs.isEmpty)
  | _ => none
theorem Hs.tru {w : Wd} {I F H : Hp} {ds : List D} {vs : List V} {d : D} {v : V} {b : Bool} (h : Hs w I F (d :: ds) (v :: vs) H) (e : truD d = some b) : TruV w.K v H b := by
  cases d with
  | any => cases e
  | non => cases e; rw [h.scal rfl]; exact rfl
  | bl c => cases e; rw [h.scal rfl]; exact rfl
  | int i => cases e; rw [h.scal rfl]; exact rfl
  | str s => cases e
  | node t xs =>
    have key : ∀ us : List V, xs.length = us.length → (!xs.isEmpty) = !us.isEmpty := fun us hl => by
      cases xs <;> cases us <;> first | rfl | cases hl
    cases t with
    | tup =>
      cases e
      obtain ⟨a, us, rfl, _, _, hq, hl, _⟩ := h.seq (xs := xs) rfl
      exact .inr (.inl ⟨us, le_t h.iH (hq (.inl rfl)), key us hl⟩)
    | tux =>
      cases e
      obtain ⟨a, us, rfl, _, _, hq, hl, _⟩ := h.seq (xs := xs) rfl
      exact .inr (.inl ⟨us, le_t h.iH (hq (.inr rfl)), key us hl⟩)
    | scr =>
      cases e
      obtain ⟨a, us, rfl, hq, hl, _⟩ := h.seqL (.inl rfl)
      exact .inl ⟨us, hq, key us hl⟩
    | lst o =>
      cases e
      obtain ⟨a, us, rfl, hq, hl, _⟩ := h.seqL (.inr ⟨o, rfl⟩)
      exact .inl ⟨us, hq, key us hl⟩
    | _ => cases e
def mTru (m : M) : M := fun env => match m env with
  | .ok d e => (match truD d with
    | some b => .ok (.bl b) e
    | none => .bad)
  | .exc c ns xs e => .exc c ns xs e
  | .bad => .bad
theorem t_tru {a : Expr} {m : M} (h : PE Γ a (tE X W m)) (hK : X.w.K = Γ.K) (he : ∀ whole, isTrue a Γ.env whole = (do let v ← whole; standAt a.pos; holding [v] (truthy v)) := by intro _; rfl) : PT Γ a (tT X W (mTru m)) := PTi (pt_truth h he) fun σ H Q q => by
  obtain ⟨I, F, env, hs, er, o⟩ := q
  refine ⟨I, F, env, hs, er, ?_⟩
  unfold mTru at o
  cases hm : m env with
  | bad => simp only [hm] at o; exact o.elim
  | exc c ns xs e => simp only [hm] at o; exact o
  | ok d e =>
    simp only [hm] at o
    intro v I1 H1 le h1 er1
    cases ht : truD d with
    | none => simp only [ht] at o; exact o.elim
    | some b =>
      simp only [ht] at o
      have z := h1.tru ht
      rw [hK] at z
      exact ⟨b, z, o I1 H1 le h1.drop er1⟩
/-! ### [*xs, e], (*xs, e) -/
def mStar (tup : Bool) (m : M) (ops : List Opd) : M := fun env => match m env with
  | .ok d e => (match d.seq with
    | some xs => (match evA ops e with
      | .ok ds e1 => if xs.length + ds.length ≤ 100000 then .ok (.node (if tup = true then .tup else .lst true) (frzL xs ++ ds)) (putA ops (ds.map fun _ => .any) e1) else .bad
      | .exc c ns xs e => .exc c ns xs e
      | .bad => .bad)
    | none => .bad)
  | .exc c ns xs e => .exc c ns xs e
  | .bad => .bad
theorem star_run {m : M} {ops : List Opd} {tup : Bool} {σ : L2.St} {H : Hp} {Q : VK} (hK : X.w.K = Γ.K) (q : tE X W (mStar tup m ops) σ H Q) :
    tStar Γ.K (tE X W m) (tOs X W ops) σ H fun xs H1 => xs.length ≤ sizeLine ∧ ∀ p, H1 p = none → Q (.ref p) (upd H1 p (if tup = true then .tup xs else .lst xs)) := by
  obtain ⟨I, F, env, hs, er, o⟩ := q
  refine ⟨I, F, env, hs, er, ?_⟩
  unfold mStar at o
  cases hm : m env with
  | bad => simp only [hm] at o; exact o.elim
  | exc c ns xs e => simp only [hm] at o; exact o
  | ok d e =>
    simp only [hm] at o
    intro v I1 H1 le1 h1 er1
    cases hd : d.seq with
    | none => simp only [hd] at o; exact o.elim
    | some xs =>
      simp only [hd] at o
      obtain ⟨J, leJ, h2⟩ := h1.freeze
      obtain ⟨a, us, rfl, hq, _, _, hl, h3⟩ := h2.items (seq_frz hd) (isFrzL_frz xs)
      have h4 : Hs X.w J F (frzL xs ++ (d.frz :: e)) (us ++ (.ref a :: σv σ)) H1 := h3
      have h5 := (h4.front hl.symm).drop
      obtain ⟨G, hg, back⟩ := Hs.push h5 hl.symm
      refine ⟨a, us, rfl, ?_, ?_⟩
      · rw [← hK]
        exact hq.elim .inr .inl
      · refine ops_run ops σ H1 _ ⟨J, G, e, hg, er1, ?_⟩
        cases ha : evA ops e with
        | bad => simp only [ha] at o; exact o.elim
        | exc c ns ys e2 =>
          simp only [ha] at o
          intro cls dd I2 H2 le2 h6 er2 x
          have h7 := (back I2 _ _ H2 le2 h6).comm hl.symm
          refine o cls dd I2 H2 ((le1.trans leJ).trans le2) ?_ er2 x
          obtain ⟨fp, rr, nd, dj⟩ := h7.ex
          obtain ⟨f1, f2, rfl, r1, r2⟩ := rr.split h6.length
          exact h7.of_sub r1 rr nd dj (List.nodup_append.mp nd).1 fun b mm => List.mem_append_left _ mm
        | ok ds e2 =>
          simp only [ha] at o
          by_cases hz : xs.length + ds.length ≤ 100000
          · rw [if_pos hz] at o
            intro ys I2 H2 le2 h6 hl6 er2 pk
            have h7 := back I2 _ _ H2 le2 h6
            have h8 : Hs X.w I2 F ((frzL xs ++ ds) ++ e2) ((us ++ ys) ++ σv σ) H2 := by
              rw [List.append_assoc, List.append_assoc]
              exact h7
            have hlen : (frzL xs ++ ds).length = (us ++ ys).length := by simp [hl, hl6]
            refine ⟨szO (by rw [List.length_append, hl, frzL_len, ← hl6]; exact hz), fun p np => ?_⟩
            have fin : ∀ (J2 : Hp) (t : Tag) (u : HO), Le I2 J2 → Hs X.w J2 F (.node t (frzL xs ++ ds) :: e2) (.ref p :: σv σ) (upd H2 p u) → Hs X.w J2 F (.node t (frzL xs ++ ds) :: putA ops (ds.map fun _ => .any) e2) (.ref p :: σv σ) (upd H2 p u) := by
              intro J2 t u leJ2 h9
              have h10 : Hs X.w J2 F ([.node t (frzL xs ++ ds)] ++ (ds.map (fun _ => D.any) ++ e2)) ([.ref p] ++ (ys ++ σv σ)) (upd H2 p u) := by
                have := h9.anys ys
                rw [← map_any hl6] at this
                have h11 : Hs X.w J2 F ((ds.map fun _ => D.any) ++ ([.node t (frzL xs ++ ds)] ++ e2)) (ys ++ ([.ref p] ++ σv σ)) (upd H2 p u) := this
                have h12 : Hs X.w J2 F ((ds.map fun _ => D.any) ++ D.node t (frzL xs ++ ds) :: e2) (ys ++ .ref p :: σv σ) (upd H2 p u) := h11
                exact h12.front (by simp [hl6])
              exact hs_put ops ys (ds.map fun _ => .any) e2 [.node t (frzL xs ++ ds)] [.ref p] pk (by simp [hl6]) rfl h10
            cases tup with
            | true =>
              obtain ⟨le3, h9⟩ := Hs.newT h8 hlen np
              exact o (.ref p) _ _ (((le1.trans leJ).trans le2).trans le3) (fin _ _ _ le3 h9) (er_put ops ys _ e2 pk er2)
            | false =>
              have h9 := Hs.newO (t := .lst true) (o := .lst (us ++ ys)) h8 hlen np rfl trivial (show upd H2 p (.lst (us ++ ys)) p = some (.lst (us ++ ys)) from upd_same)
              exact o (.ref p) _ _ ((le1.trans leJ).trans le2) (fin _ _ _ (Le.refl _) h9) (er_put ops ys _ e2 pk er2)
          · rw [if_neg hz] at o
            exact o.elim
theorem z_starT {e : Expr} {es : List Expr} {p pos : Pos} {k} {m : M} {ops : List Opd} (h : PE Γ e (tE X W m)) (ha : PA Γ es (tOs X W ops)) (hK : X.w.K = Γ.K) (hs : starEach (.Starred e p :: es) Γ.env = (true, eval e Γ.env) :: starEach es Γ.env := by rfl) : PE Γ (.Tuple (.Starred e p :: es) k pos) (tE X W (mStar true m ops)) :=
  PEi (pe_tup (pa_star h ha hs)) fun σ H Q q => star_run hK q
theorem z_starL {e : Expr} {es : List Expr} {p pos : Pos} {m : M} {ops : List Opd} (h : PE Γ e (tE X W m)) (ha : PA Γ es (tOs X W ops)) (hK : X.w.K = Γ.K) (hs : starEach (.Starred e p :: es) Γ.env = (true, eval e Γ.env) :: starEach es Γ.env := by rfl) : PE Γ (.List (.Starred e p :: es) pos) (tE X W (mStar false m ops)) :=
  PEi (pe_lst (pa_star h ha hs)) fun σ H Q q => star_run hK q
end
end Z

set_option Elab.async false
set_option linter.all false
set_option maxRecDepth 100000
set_option maxHeartbeats 4000000
/-! ZL: lists changed in place, methods that look, slices, sorted, comb, max. -/
namespace Z
open PySem PySem.Spec PyProof.Rows L2 StX
section
variable {Γ : Cx} {X : Fx} {W : WX}
/-! ### a list at a name, changed by a method -/
/-- xs.append(e), xs.pop(i): f, of the items and the arguments, gives the result and the items behind it -/
def mLst (f : List D → List D → Option (D × List D)) (i : Nat) (ops : List Opd) : M := fun env => match env[i]? with
  | some (.node (.lst true) _) => (match evA ops env with
    | .ok ds e1 => (match e1[i]? with
      | some (.node (.lst true) xs) => (match f xs ds with
        | some (r, ys) => .ok r (putA ops (ds.map fun _ => .any) (e1.set i (.node (.lst true) ys)))
        | none => .bad)
      | _ => .bad)
    | .exc c ns xs e => .exc c ns xs e
    | .bad => .bad)
  | _ => .bad
/-- what such a method does at the list's place -/
def LstM (w : Wd) (r : V → List V → Hp → VK → Prop) (f : List D → List D → Option (D × List D)) : Prop :=
  ∀ (I G H : Hp) (a : Addr) (us : List V) (xs ds : List D) (vs : List V) (d : D) (ys : List D) (Q : VK), H a = some (.lst us) → xs.length = us.length → ds.length = vs.length → Hs w I G (xs ++ ds) (us ++ vs) H → f xs ds = some (d, ys) →
    (∀ z us', ys.length = us'.length → Hs w I G (d :: ys) (z :: us') H → Q z (upd H a (.lst us'))) → r (.ref a) vs H Q
theorem lst_run {r : V → List V → Hp → VK → Prop} {f : List D → List D → Option (D × List D)} (hf : LstM X.w r f) {i : Nat} {ops : List Opd} {σ : L2.St} {H : Hp} {Q : VK} (hK : X.w.K = Γ.K) (q : tE X W (mLst f i ops) σ H Q) : tBM Γ.K "list" r (tVar i) (tOs X W ops) σ H Q := by
  obtain ⟨I, F, env, hs, er, o⟩ := q
  unfold mLst at o
  split at o
  · rename_i xs0 hd0
    obtain ⟨v, hv⟩ := er.on i _ hd0 (fun z => nomatch z)
    refine ⟨v, hv, ?_, ?_⟩
    · obtain ⟨v', e', h1⟩ := Hs.take (es := []) (us := []) hs rfl hd0
      have ev : v' = v := Option.some.inj (e'.symm.trans (σv_at hv))
      subst ev
      obtain ⟨a, us, rfl, hq, _⟩ := h1.seqL (.inr ⟨true, rfl⟩)
      rw [← hK]
      exact .inl ⟨rfl, us, hq⟩
    · refine ops_run ops σ H _ ⟨I, F, env, hs, er, ?_⟩
      cases ha : evA ops env with
      | bad => simp only [ha] at o; exact o.elim
      | exc c ns xs e => simp only [ha] at o; exact o
      | ok ds e1 =>
        simp only [ha] at o
        intro vs I1 H1 le1 h1 hl er1 pk
        split at o
        · rename_i xs hd
          cases hfx : f xs ds with
          | none => simp only [hfx] at o; exact o.elim
          | some ry =>
            obtain ⟨rd, ys⟩ := ry
            simp only [hfx] at o
            obtain ⟨v', e', h2⟩ := Hs.take h1 hl hd
            have ev : v' = v := Option.some.inj (e'.symm.trans (σv_at hv))
            subst ev
            obtain ⟨a, us, G, rfl, hlx, _, hat, h3, _, close⟩ := h2.open rfl
            have hat' : H1 a = some (.lst us) := hat
            have h3' : Hs X.w I1 G ((xs ++ ds) ++ e1.set i .any) ((us ++ vs) ++ σv σ) H1 := by
              rw [List.append_assoc, List.append_assoc]
              exact h3
            have h4 := h3'.comm (by simp [hlx, hl])
            have lenE : (e1.set i D.any).length = (σv σ).length := by
              have := h3'.length
              simp [hlx, hl] at this ⊢
              omega
            obtain ⟨G2, g2, back2⟩ := Hs.push h4 lenE
            refine hf I1 G2 H1 a us xs ds vs rd ys _ hat' hlx hl g2 hfx fun z us' hl' h5 => ?_
            have h6 := back2 I1 _ _ H1 (Le.refl _) h5
            -- e ++ (rd :: ys): the items to the front
            have h7 := h6.comm lenE
            have h8 : Hs X.w I1 G ([rd] ++ (ys ++ e1.set i .any)) ([z] ++ (us' ++ σv σ)) H1 := h7
            have h9 := h8.comm rfl
            have h10 : Hs X.w I1 G (ys ++ (e1.set i .any ++ [rd])) (us' ++ (σv σ ++ [z])) H1 := by
              rw [← List.append_assoc, ← List.append_assoc]
              exact h9
            have h11 := close I1 (.lst true) ys us' _ _ H1 (.lst us') (Le.refl _) h10 hl' rfl trivial (show upd H1 a (.lst us') a = some (.lst us') from upd_same)
            have h12 : Hs X.w I1 F ((.node (.lst true) ys :: e1.set i .any) ++ [rd]) ((.ref a :: σv σ) ++ [z]) (upd H1 a (.lst us')) := h11
            have h13 : Hs X.w I1 F (rd :: .node (.lst true) ys :: e1.set i .any) (z :: .ref a :: σv σ) (upd H1 a (.lst us')) := h12.comm (by simp only [List.length_cons, lenE])
            have lt : i < e1.length := (List.getElem?_eq_some_iff.mp hd).1
            have h14 := Hs.put (es := [rd]) (us := [z]) (i := i) h13.swap rfl (by rw [List.getElem?_set_self lt]) e'
            rw [set_set] at h14
            have h15 := h14.anys vs
            rw [← map_any hl] at h15
            have h16 : Hs X.w I1 F ((ds.map fun _ => D.any) ++ rd :: e1.set i (.node (.lst true) ys)) (vs ++ z :: σv σ) (upd H1 a (.lst us')) := h15
            have h17 := h16.front (by simp [hl])
            have h18 : Hs X.w I1 F ([rd] ++ ((ds.map fun _ => D.any) ++ e1.set i (.node (.lst true) ys))) ([z] ++ (vs ++ σv σ)) (upd H1 a (.lst us')) := h17
            have h19 := hs_put ops vs _ _ [rd] [z] pk (by simp [hl]) rfl h18
            exact o z I1 _ le1 h19 (er_put ops vs _ _ pk (er1.set hd fun _ z => nomatch z))
        · exact o.elim
  · exact o.elim
def fAppend : List D → List D → Option (D × List D)
  | xs, [d] => if xs.length < 100000 then some (.non, xs ++ [d]) else none
  | _, _ => none
theorem lm_append {w : Wd} : LstM w rAppend fAppend := fun I G H a us xs ds vs d ys Q hat hl hl2 hs h k => by
  unfold fAppend at h
  split at h
  · rename_i d0
    match vs, hl2, hs with
    | [v], _, hs =>
      obtain ⟨hz, e⟩ := ifs h
      cases e
      refine ⟨a, us, v, rfl, rfl, hat, szL (by rw [← hl]; exact hz), k .non (us ++ [v]) (by simp [hl]) ?_⟩
      exact Hs.addC hs rfl
  · cases h
def fPopAt : List D → List D → Option (D × List D)
  | xs, [.int i] => if 0 ≤ i ∧ i < 100000 then (match xs[i.toNat]? with
    | some d => some (d, xs.eraseIdx i.toNat)
    | none => none) else none
  | _, _ => none
theorem seqIx_nat {i : Int} {n : Nat} (h0 : 0 ≤ i) (h : i.toNat < n) : seqIndex? i n = some i.toNat := by
  have e : ixN n i = some i.toNat := by
    unfold ixN
    rw [if_pos h0, if_pos (by omega)]
  exact (ixN_seq e).1
theorem lm_popAt {w : Wd} : LstM w rPopAt fPopAt := fun I G H a us xs ds vs d ys Q hat hl hl2 hs h k => by
  unfold fPopAt at h
  split at h
  · rename_i i
    match vs, hl2, hs with
    | [v], _, hs =>
      by_cases hz : 0 ≤ i ∧ i < 100000
      · rw [if_pos hz] at h
        split at h
        · rename_i d0 hd
          cases h
          have lt : i.toNat < xs.length := (List.getElem?_eq_some_iff.mp hd).1
          have lt2 : i.toNat < us.length := by omega
          have hs2 := hs.comm hl
          have hv : v = .int i := Hs.scal (ds := xs) (vs := us) hs2 rfl
          subst hv
          have hs3 : Hs w I G xs us H := Hs.drop hs2
          have e1 : xs = xs.take i.toNat ++ d :: xs.drop (i.toNat + 1) := by
            have := List.drop_eq_getElem_cons lt
            rw [List.getElem?_eq_getElem lt] at hd
            cases hd
            rw [← this, List.take_append_drop]
          have e2 : us = us.take i.toNat ++ us[i.toNat] :: us.drop (i.toNat + 1) := by
            rw [← List.drop_eq_getElem_cons lt2, List.take_append_drop]
          have hs4 : Hs w I G (xs.take i.toNat ++ d :: xs.drop (i.toNat + 1)) (us.take i.toNat ++ us[i.toNat] :: us.drop (i.toNat + 1)) H := by
            rw [← e1, ← e2]
            exact hs3
          have hs5 := hs4.front (by simp [hl])
          rw [← List.eraseIdx_eq_take_drop_succ, ← List.eraseIdx_eq_take_drop_succ] at hs5
          refine ⟨a, us, i, i.toNat, us[i.toNat], rfl, rfl, hat, by omega, by omega, seqIx_nat hz.1 lt2, List.getElem?_eq_getElem lt2, k us[i.toNat] (us.eraseIdx i.toNat) (by rw [List.length_eraseIdx, List.length_eraseIdx, hl]) hs5⟩
        · cases h
      · rw [if_neg hz] at h
        cases h
  · cases h
theorem z_append {x : Str} {p : Pos} {i : Nat} {e : Expr} {apos cpos : Pos} {o : Opd} (h : PE Γ (.Name x p) (tVar i)) (ha : PA Γ [e] (tOs X W [o])) (hK : X.w.K = Γ.K)
    (hbase : attributeBase (.Name x p) "append" Γ.env (eval (.Name x p) Γ.env) = eval (.Name x p) Γ.env := by rfl)
    (hfew : ((backTo cpos (starEach [e] Γ.env)).all (fun x => !x.1) && (backToKw cpos (keywordEach [] Γ.env)).all (fun x => x.1.isSome) && decide ([e].length + ([] : List Keyword).length + (if ([] : List Keyword).isEmpty then 0 else 1) < 30)) = true := by rfl)
    (hline : (apos.endLine == cpos.line) = true := by rfl) (hs : starEach [e] Γ.env = (false, eval e Γ.env) :: starEach [] Γ.env := by rfl) (hplain : (backTo cpos (starEach [] Γ.env)).any (·.1) = false := by rfl) :
    PE Γ (.Call (.Attribute (.Name x p) "append" apos) [e] [] cpos) (tE X W (mLst fAppend i [o])) :=
  PEi (pe_bm PySem.F.plainAttrs_list PySem.F.slot_list_append PySem.F.type_list_append mt_append h ha hbase hfew hline hs hplain) fun σ H Q q => lst_run lm_append hK q
theorem z_popAt {x : Str} {p : Pos} {i : Nat} {e : Expr} {apos cpos : Pos} {o : Opd} (h : PE Γ (.Name x p) (tVar i)) (ha : PA Γ [e] (tOs X W [o])) (hK : X.w.K = Γ.K)
    (hbase : attributeBase (.Name x p) "pop" Γ.env (eval (.Name x p) Γ.env) = eval (.Name x p) Γ.env := by rfl)
    (hfew : ((backTo cpos (starEach [e] Γ.env)).all (fun x => !x.1) && (backToKw cpos (keywordEach [] Γ.env)).all (fun x => x.1.isSome) && decide ([e].length + ([] : List Keyword).length + (if ([] : List Keyword).isEmpty then 0 else 1) < 30)) = true := by rfl)
    (hline : (apos.endLine == cpos.line) = true := by rfl) (hs : starEach [e] Γ.env = (false, eval e Γ.env) :: starEach [] Γ.env := by rfl) (hplain : (backTo cpos (starEach [] Γ.env)).any (·.1) = false := by rfl) :
    PE Γ (.Call (.Attribute (.Name x p) "pop" apos) [e] [] cpos) (tE X W (mLst fPopAt i [o])) :=
  PEi (pe_bm PySem.F.plainAttrs_list PySem.F.slot_list_pop PySem.F.type_list_pop mt_popAt h ha hbase hfew hline hs hplain) fun σ H Q q => lst_run lm_popAt hK q
/-! ### xs[i] = e, of a list at a name -/
def sSetI (i : Nat) (m mi : M) : S := fun env => match m env with
  | .ok r e1 => (match e1[i]? with
    | some (.node (.lst true) _) => (match mi e1 with
      | .ok (.int k) e2 => (match e2[i]? with
        | some (.node (.lst true) xs) => (match ixN xs.length k with
          | some j => .nx (e2.set i (.node (.lst true) (xs.set j r)))
          | none => .bad)
        | _ => .bad)
      | .ok _ _ => .bad
      | .exc c ns xs e => .exc c ns xs e
      | .bad => .bad)
    | _ => .bad)
  | .exc c ns xs e => .exc c ns xs e
  | .bad => .bad
theorem hs_setI {w : Wd} {I F H : Hp} {ds : List D} {vs : List V} {r : D} {y : V} {xs : List D} {v : V} {j : Nat} (h : Hs w I F (r :: .node (.lst true) xs :: ds) (y :: v :: vs) H) (hj : j < xs.length) :
    ∃ a us, v = .ref a ∧ H a = some (.lst us) ∧ xs.length = us.length ∧ Hs w I F (.node (.lst true) (xs.set j r) :: ds) (v :: vs) (upd H a (.lst (us.set j y))) := by
  obtain ⟨a, us, G, rfl, hl, _, hat, hs, _, close⟩ := h.swap.open rfl
  refine ⟨a, us, rfl, hat, hl, ?_⟩
  -- xs ++ r :: ds: r to the front, then set
  have h1 := hs.front hl
  have h2 := h1.set (i := j) (by rw [List.length_append]; omega)
  rw [List.set_append_left _ _ hj, List.set_append_left _ _ (by omega)] at h2
  exact close I (.lst true) (xs.set j r) (us.set j y) ds vs H (.lst (us.set j y)) (Le.refl _) h2 (by simp [hl]) rfl trivial (show upd H a (.lst (us.set j y)) a = some (.lst (us.set j y)) from upd_same)
theorem setI_run {i : Nat} {m mi : M} {E : Ends} {σ : L2.St} {H : Hp} (q : tS X W (sSetI i m mi) E σ H) : tAsg (tE X W m) (gSub (tVar i) (tE X W mi) rSetL) E σ H := by
  obtain ⟨I, F, env, hs, er, o⟩ := q
  refine ⟨I, F, env, hs, er, ?_⟩
  unfold sSetI at o
  cases hm : m env with
  | bad => simp only [hm] at o; exact o.elim
  | exc c ns xs e => simp only [hm] at o; exact fun cls d I' H' le h' er' x => o cls d σ I' H' le h' er' x
  | ok r e1 =>
    simp only [hm] at o
    intro y I1 H1 le1 h1 er1
    split at o
    · rename_i xs0 hd0
      obtain ⟨v, hv⟩ := er1.on i _ hd0 (fun z => nomatch z)
      obtain ⟨G, hg, back⟩ := Hs.push (ds := [r]) (vs := [y]) h1 rfl
      refine ⟨v, hv, I1, G, e1, hg, er1, ?_⟩
      cases hmi : mi e1 with
      | bad => simp only [hmi] at o; exact o.elim
      | exc c ns xs e =>
        simp only [hmi] at o
        intro cls d I2 H2 le2 h2 er2 x
        exact o cls d σ I2 H2 (le1.trans le2) (back I2 _ _ H2 le2 h2).drop er2 x
      | ok ri e2 =>
        simp only [hmi] at o
        intro u I2 H2 le2 h2 er2
        cases ri with
        | int k =>
          simp only at o
          have hu := h2.scal (x := .int k) rfl
          subst hu
          split at o
          · rename_i xs hd
            cases hx : ixN xs.length k with
            | none => simp only [hx] at o; exact o.elim
            | some j =>
              simp only [hx] at o
              have h3 : Hs X.w I2 F ([r] ++ e2) ([y] ++ σv σ) H2 := back I2 _ _ H2 le2 h2.drop
              obtain ⟨v', e', h4⟩ := Hs.take h3 rfl hd
              have ev : v' = v := Option.some.inj (e'.symm.trans (σv_at hv))
              subst ev
              have hj : j < xs.length := (ixN_seq hx).2.1
              obtain ⟨a, us, rfl, hat, hl, h5⟩ := hs_setI (Hs.swap h4) hj
              have lt : i < e2.length := (List.getElem?_eq_some_iff.mp hd).1
              have h6 := Hs.put (es := []) (us := []) (i := i) h5 rfl (by rw [List.getElem?_set_self lt]) e'
              rw [set_set] at h6
              exact ⟨a, us, k, j, rfl, rfl, hat, by rw [← hl]; exact hx, o σ I2 _ (le1.trans le2) h6 (er2.set hd fun _ z => nomatch z)⟩
          · exact o.elim
        | _ => exact o.elim
    · exact o.elim
theorem s_setI {x : Str} {i : Nat} {ei value : Expr} {pos pos' p : Pos} {m mi : M} (ha : PE Γ (.Name x p) (tVar i)) (hv : PE Γ value (tE X W m)) (hi : PE Γ ei (tE X W mi)) (hs : swapsWithSole [.Subscript (.Name x p) ei pos'] value pos.line Γ.env = pure false := by rfl) (hw : swappedStores [.Subscript (.Name x p) ei pos'] value Γ.env = pure none := by rfl)
    (h1 : (assignEach [.Subscript (.Name x p) ei pos'] Γ.env).map (·.2) = [assign (.Subscript (.Name x p) ei pos') Γ.env] := by rfl)
    (hag : ∀ v, assign (.Subscript (.Name x p) ei pos') Γ.env v = (do let ov ← holding [v] (eval (.Name x p) Γ.env); let iv ← holding [v, ov] (eval ei Γ.env); standAt pos'; holding [v, ov, iv] (setItem ov iv v); release [v, ov, iv] []) := by intro _; rfl) :
    PS Γ (.Assign [.Subscript (.Name x p) ei pos'] value pos) (tS X W (sSetI i m mi)) := PSi (ps_asg hv (pg_sub ha hi set_list hag) hs hw h1) fun E σ H q => setI_run q
end
end Z

set_option Elab.async false
set_option linter.all false
set_option maxRecDepth 100000
set_option maxHeartbeats 4000000
/-! ZM: methods that look, slices, sorted, comb, max, sums of tuples, three names at once. -/
namespace Z
open PySem PySem.Spec PyProof.Rows L2 StX
section
variable {w : Wd}
/-! ### slices -/
def cutD (xs : List D) (lo hi : Option Int) : List D := (xs.drop (HT.sIx xs.length 0 lo)).take (HT.sIx xs.length xs.length hi - HT.sIx xs.length 0 lo)
theorem Hs.cutOf {I F H : Hp} {ds : List D} {vs us : List V} {xs : List D} {fp : List Addr} (h : Hs w I F ds vs H) (r : RepL w I H xs us fp) (hc : isFrzL xs = true) (lo hi : Option Int) :
    (cutD xs lo hi).length = (cutV us lo hi).length ∧ Hs w I F (cutD xs lo hi ++ ds) (cutV us lo hi ++ vs) H := by
  have hl := r.length
  have r0 := r.nil_of_frz hc
  subst r0
  have r2 := r.sub hc (HT.sIx xs.length 0 lo) (HT.sIx xs.length xs.length hi - HT.sIx xs.length 0 lo)
  obtain ⟨fq, rq, nq, dq⟩ := h.ex
  have e2 : cutV us lo hi = (us.drop (HT.sIx xs.length 0 lo)).take (HT.sIx xs.length xs.length hi - HT.sIx xs.length 0 lo) := by
    unfold cutV
    rw [hl]
  rw [e2]
  exact ⟨r2.length, h.of_sub (RepL.append (f1 := []) r2 rq) rq nq dq nq fun b m => m⟩
end
section
variable {Γ : Cx} {X : Fx} {W : WX}
def partO (X : Fx) (W : WX) : Option M → TO
  | none => tNoPart
  | some m => tPart (tE X W m)
/-- one end of a slice -/
def evP (o : Option M) (e : Env) : Res := match o with
  | none => .ok .non e
  | some m => m e
def ptI : Option M → D → Option (Option Int)
  | none, _ => some none
  | some _, .int i => some (some i)
  | some _, _ => none
theorem part_run {o : Option M} {σ : L2.St} {H : Hp} {Q : Option Int → Hp → Prop} {I F : Hp} {env : Env} (hs : Hs X.w I F env (σv σ) H) (er : EnvR X σ env)
    (out : match evP o env with
      | .ok d e1 => ∃ oi, ptI o d = some oi ∧ ∀ I' H', Le I I' → Hs X.w I' F e1 (σv σ) H' → EnvR X σ e1 → Q oi H'
      | .exc c ns xs e1 => ∀ cls d I' H', Le I I' → Hs X.w I' F e1 (σv σ) H' → EnvR X σ e1 → XRep X.w I' cls d c ns xs → W cls d σ H'
      | .bad => False) : partO X W o σ H Q := by
  cases o with
  | none =>
    obtain ⟨oi, h1, k⟩ := out
    have : oi = none := (Option.some.inj h1).symm
    subst this
    exact k I H (Le.refl _) hs er
  | some m =>
    refine ⟨I, F, env, hs, er, ?_⟩
    cases hm : m env with
    | bad =>
      have o2 := out
      simp only [evP, hm] at o2
    | exc c ns xs e =>
      have o2 := out
      simp only [evP, hm] at o2
      exact o2
    | ok d e1 =>
      have o2 := out
      simp only [evP, hm] at o2
      obtain ⟨oi, h1, k⟩ := o2
      intro v I1 H1 le1 hs1 er1
      cases d with
      | int i =>
        have e2 : oi = some i := (Option.some.inj h1).symm
        subst e2
        rw [hs1.scal rfl]
        exact ⟨i, rfl, k I1 H1 le1 hs1.drop er1⟩
      | _ => cases h1
/-- a slice of d: a new list of what it has, given up; of a tuple a tuple -/
def slD (d : D) (lo hi : Option Int) : Option D := match d with
  | .node (.lst _) xs => some (.node (.lst true) (cutD (frzL xs) lo hi))
  | .node .scr xs => some (.node (.lst true) (cutD (frzL xs) lo hi))
  | .node .tup xs => some (.node .tup (cutD (frzL xs) lo hi))
  | _ => none
/-- x[lo:hi] -/
def mSlice (m : M) (lo hi : Option M) : M := fun env => match m env with
  | .ok d e0 => (match evP lo e0 with
    | .ok l e1 => (match ptI lo l with
      | none => .bad
      | some ol => (match evP hi e1 with
        | .ok h e2 => (match ptI hi h with
          | none => .bad
          | some oh => (match slD d ol oh with
            | some r => .ok r e2
            | none => .bad))
        | .exc c ns xs e2 => .exc c ns xs e2
        | .bad => .bad))
    | .exc c ns xs e1 => .exc c ns xs e1
    | .bad => .bad)
  | .exc c ns xs e0 => .exc c ns xs e0
  | .bad => .bad
theorem cutD_all {xs : List D} {lo hi : Option Int} (h : HT.sIx xs.length 0 lo = 0 ∧ HT.sIx xs.length xs.length hi = xs.length) : cutD xs lo hi = xs := by
  unfold cutD
  rw [h.1, h.2]
  simp
def rSlB (K : PySem.W.Frag) : V → Option Int → Option Int → Hp → VK → Prop := fun x lo hi H Q => rSlL K x lo hi H Q ∨ rSlA K x lo hi H Q
theorem sl_run {w : Wd} {I F H : Hp} {ds : List D} {vs : List V} {d r : D} {v : V} {lo hi : Option Int} {Q : VK} (hs : Hs w I F (d :: ds) (v :: vs) H) (e : slD d lo hi = some r)
    (k : ∀ z I' H', Le I I' → Hs w I' F (r :: ds) (z :: vs) H' → Q z H') : rSlB w.K v lo hi H Q := by
  obtain ⟨J, le, h1⟩ := hs.freeze
  unfold slD at e
  split at e
  · rename_i o xs
    cases e
    obtain ⟨a, us, rfl, hq, hl, fp, r⟩ := h1.seqL (t := .lst false) (xs := frzL xs) (.inr ⟨false, rfl⟩)
    obtain ⟨hl2, h2⟩ := Hs.cutOf h1.drop r (isFrzL_frz xs) lo hi
    exact .inl ⟨a, us, rfl, hq, fun p np => k (.ref p) J _ le (Hs.newO (t := .lst true) h2 hl2 np rfl trivial (show upd H p (.lst (cutV us lo hi)) p = some (.lst (cutV us lo hi)) from upd_same))⟩
  · rename_i xs
    cases e
    obtain ⟨a, us, rfl, hq, hl, fp, r⟩ := h1.seqL (t := .scr) (xs := frzL xs) (.inl rfl)
    obtain ⟨hl2, h2⟩ := Hs.cutOf h1.drop r (isFrzL_frz xs) lo hi
    exact .inl ⟨a, us, rfl, hq, fun p np => k (.ref p) J _ le (Hs.newO (t := .lst true) h2 hl2 np rfl trivial (show upd H p (.lst (cutV us lo hi)) p = some (.lst (cutV us lo hi)) from upd_same))⟩
  · rename_i xs
    cases e
    obtain ⟨a, us, rfl, _, _, hq3, hl, ⟨fp, r⟩, _⟩ := h1.seq (d := (D.node .tup xs).frz) (xs := frzL xs) rfl
    refine .inr ⟨a, us, rfl, le_t h1.iH (hq3 (.inl rfl)), fun hw => ?_, fun hw p np => ?_⟩
    · rw [← hl] at hw
      refine k (.ref a) J H le ?_
      rw [cutD_all hw]
      exact h1
    · obtain ⟨hl2, h2⟩ := Hs.cutOf h1.drop r (isFrzL_frz xs) lo hi
      obtain ⟨le2, h3⟩ := Hs.newT h2 hl2 np
      exact k (.ref p) _ _ (le.trans le2) h3
  · cases e
theorem z_slice {e : Expr} {lo hi : Option Expr} {pos p2 : Pos} {m : M} {ml mh : Option M} (hK : Γ.K = X.w.K) (he : PE Γ e (tE X W m)) (hl : PO Γ lo (partO X W ml)) (hh : PO Γ hi (partO X W mh)) :
    PE Γ (.Subscript e (.Slice lo hi none p2) pos) (tE X W (mSlice m ml mh)) :=
  PEi (pe_slice (SlR.or sl_list sl_tupA) he hl hh) fun σ H Q h => by
    obtain ⟨I, F, env, hs, er, o⟩ := h
    refine ⟨I, F, env, hs, er, ?_⟩
    unfold mSlice at o
    cases hm : m env with
    | bad => simp only [hm] at o; exact o.elim
    | exc c ns xs e0 => simp only [hm] at o; exact o
    | ok d e0 =>
      simp only [hm] at o
      intro v I1 H1 le1 hs1 er1
      obtain ⟨G, hg, back⟩ := Hs.push (ds := [d]) (vs := [v]) hs1 rfl
      refine part_run hg er1 ?_
      cases hlo : evP ml e0 with
      | bad => simp only [hlo] at o; exact o.elim
      | exc c ns xs e1 =>
        simp only [hlo] at o
        intro cls dd I2 H2 le2 hs2 er2 x2
        exact o cls dd I2 H2 (le1.trans le2) (back I2 _ _ H2 le2 hs2).drop er2 x2
      | ok l e1 =>
        simp only [hlo] at o
        cases pl : ptI ml l with
        | none => simp only [pl] at o; exact o.elim
        | some ol =>
          simp only [pl] at o
          refine ⟨ol, pl, fun I2 H2 le2 hs2 er2 => ?_⟩
          refine part_run hs2 er2 ?_
          cases hhi : evP mh e1 with
          | bad => simp only [hhi] at o; exact o.elim
          | exc c ns xs e2 =>
            simp only [hhi] at o
            intro cls dd I3 H3 le3 hs3 er3 x3
            exact o cls dd I3 H3 (le1.trans (le2.trans le3)) (back I3 _ _ H3 (le2.trans le3) hs3).drop er3 x3
          | ok h e2 =>
            simp only [hhi] at o
            cases ph : ptI mh h with
            | none => simp only [ph] at o; exact o.elim
            | some oh =>
              simp only [ph] at o
              cases hr : slD d ol oh with
              | none => simp only [hr] at o; exact o.elim
              | some r =>
                simp only [hr] at o
                refine ⟨oh, ph, fun I3 H3 le3 hs3 er3 => ?_⟩
                show rSlB Γ.K v ol oh H3 Q
                rw [hK]
                exact sl_run (back I3 _ _ H3 (le2.trans le3) hs3) hr fun z I4 H4 le4 hs4 => o z I4 H4 (le1.trans (le2.trans (le3.trans le4))) hs4 er3
theorem po_none : PO Γ none (partO X W none) := L2.po_none
theorem po_some {e : Expr} {m : M} (h : PE Γ e (tE X W m)) : PO Γ (some e) (partO X W (some m)) := L2.po_some h
end
end Z

set_option Elab.async false
set_option linter.all false
set_option maxRecDepth 100000
set_option maxHeartbeats 4000000
/-! ZN: sorted, comb, max of a tuple, sums of tuples, methods that look, three names at once. -/
namespace Z
open PySem PySem.Spec PyProof.Rows L2 StX
/-! ### sorted, of ints -/
def insI (x : Int) : List Int → List Int
  | [] => [x]
  | y :: ys => if x ≤ y then x :: y :: ys else y :: insI x ys
def srtI : List Int → List Int
  | [] => []
  | x :: xs => insI x (srtI xs)
theorem insI_perm (x : Int) : ∀ xs, (insI x xs).Perm (x :: xs)
  | [] => .refl _
  | y :: ys => by
    unfold insI
    split
    · exact .refl _
    · exact ((insI_perm x ys).cons y).trans (.swap x y ys)
theorem srtI_perm : ∀ xs, (srtI xs).Perm xs
  | [] => .refl _
  | x :: xs => (insI_perm x (srtI xs)).trans ((srtI_perm xs).cons x)
theorem insI_srt {x : Int} : ∀ {xs : List Int}, xs.Pairwise (· ≤ ·) → (insI x xs).Pairwise (· ≤ ·)
  | [], _ => by simp [insI]
  | y :: ys, h => by
    unfold insI
    split
    · rename_i hxy
      refine List.pairwise_cons.mpr ⟨fun z hz => ?_, h⟩
      rcases List.mem_cons.mp hz with q | q
      · omega
      · have := (List.pairwise_cons.mp h).1 z q
        omega
    · rename_i hxy
      refine List.pairwise_cons.mpr ⟨fun z hz => ?_, insI_srt (List.pairwise_cons.mp h).2⟩
      rcases List.mem_cons.mp ((insI_perm x ys).mem_iff.mp hz) with q | q
      · omega
      · exact (List.pairwise_cons.mp h).1 z q
theorem srtI_srt : ∀ xs, (srtI xs).Pairwise (· ≤ ·)
  | [] => .nil
  | x :: xs => insI_srt (srtI_srt xs)
theorem srtI_one {xs ys : List Int} (p : ys.Perm xs) (h : ys.Pairwise (· ≤ ·)) : ys = srtI xs :=
  List.Perm.eq_of_pairwise (le := (· ≤ ·)) (fun a b _ _ h1 h2 => Int.le_antisymm h1 h2) h (srtI_srt xs) (p.trans (srtI_perm xs).symm)
section
variable {w : Wd}
theorem Hs.ofInts {I F H : Hp} {ds : List D} {vs : List V} (h : Hs w I F ds vs H) : ∀ ns : List Int, Hs w I F (ns.map D.int ++ ds) (ns.map V.int ++ vs) H
  | [] => h
  | n :: ns => (Hs.ofInts h ns).addC (d := .int n) (v := .int n) rfl
def oSorted : Op
  | [d] => (match lstInts d with
    | some ns => .ok (.node (.lst true) ((srtI ns).map .int)) [d]
    | none => .bad)
  | _ => .bad
theorem od_sorted : OpD w (rN (rSortedI w.K)) oSorted := fun I F es us H Q E hs o => by
  unfold oSorted at o
  split at o
  · rename_i d
    match us, hs.length, hs, o with
    | [v], _, hs, o =>
      cases e : lstInts d with
      | none => simp only [e] at o; exact o.elim
      | some ns =>
        simp only [e] at o
        obtain ⟨a, rfl, hq⟩ := lstInts_rep hs e
        refine ⟨a, ns, rfl, hq, fun ns' p hp hw np => ?_⟩
        have e2 := srtI_one hp hw
        subst e2
        exact o (.ref p) I _ (Le.refl I) (Hs.newO (t := .lst true) (Hs.ofInts hs (srtI ns)) (by simp) np rfl trivial (show upd H p (.lst ((srtI ns).map V.int)) p = some (.lst ((srtI ns).map V.int)) from upd_same))
  · exact o.elim
/-! ### comb -/
def rComb : List V → Hp → VK → Prop := fun vs H Q => ∃ a b : Int, vs = [.int a, .int b] ∧ 0 ≤ a ∧ 0 ≤ b ∧ a < 2 ^ 64 ∧ (b ≤ 9000 ∨ a ≤ 18000) ∧ Q (.int (PySem.W.mcComb a b)) H
theorem cr_comb {Γ : Cx} : CallR Γ (.builtin "math.comb") rComb := by
  intro pins s σ H vs us Q I r h
  obtain ⟨a, b, rfl, h1, h2, h3, h4, q⟩ := h
  obtain ⟨t, u, rfl⟩ := Vals.int2 r
  exact PySem.W.mc_comb h1 h2 h3 h4 fun _ => ⟨.int _, H, I.tok _, ⟨_, rfl⟩, q⟩
abbrev oComb : Op := op2 fun d e => match d, e with
  | .int a, .int b => if 0 ≤ a ∧ 0 ≤ b ∧ a < 1000 then some (.int (PySem.W.mcComb a b)) else none
  | _, _ => none
theorem od_comb : OpD w (rN rComb) oComb := od2 fun I F H d e v u z hs h => by
  split at h
  · rename_i a b
    obtain ⟨⟨h1, h2, h3⟩, e⟩ := ifs h
    subst e
    rw [hs.scal rfl, hs.scal2 rfl]
    exact ⟨_, rfl, fun Q E q => ⟨a, b, rfl, h1, h2, by omega, .inr (by omega), q⟩⟩
  · cases h
/-! ### t + u -/
def oCatT : Op
  | [.node .tup xs, .node .tup ys] => if xs.length + ys.length ≤ 100000 then (.ok (.node .tup (frzL xs ++ frzL ys)) [.any, .any]) else .bad
  | _ => .bad
theorem od_catT : OpD w (r2 (rCatA w.K)) oCatT := fun I F es us H Q E hs o => by
  unfold oCatT at o
  split at o
  · rename_i xs ys
    obtain ⟨hz, o⟩ := ite_out o
    match us, hs.length, hs, o with
    | [v, u], _, hs, o =>
      obtain ⟨J, le, h1⟩ := hs.freeze
      obtain ⟨J2, le2, h2⟩ := h1.swap.freeze
      obtain ⟨b, us2, rfl, _, _, q2, l2, h3⟩ := h2.items (xs := frzL ys) rfl (isFrzL_frz ys)
      have h4 : Hs w J2 F ((frzL ys ++ [(D.node .tup ys).frz]) ++ (D.node .tup xs).frz :: []) ((us2 ++ [.ref b]) ++ v :: []) H := by simpa using h3
      have h5 := h4.front (by simp [l2])
      obtain ⟨a, us1, rfl, _, _, q1, l1, h6⟩ := h5.items (xs := frzL xs) rfl (isFrzL_frz xs)
      have h7 : Hs w J2 F ((frzL xs ++ [(D.node .tup xs).frz]) ++ (frzL ys ++ [(D.node .tup ys).frz])) ((us1 ++ [.ref a]) ++ (us2 ++ [.ref b])) H := by simpa using h6
      have h8 : Hs w J2 F ((frzL xs) ++ ((D.node .tup xs).frz :: (frzL ys ++ [(D.node .tup ys).frz]))) (us1 ++ (.ref a :: (us2 ++ [.ref b]))) H := by simpa using h7
      have h9 := (h8.front (by rw [l1])).drop
      have h10 : Hs w J2 F ((frzL xs ++ frzL ys) ++ [(D.node .tup ys).frz]) ((us1 ++ us2) ++ [.ref b]) H := by simpa using h9
      have h11 := (h10.comm (by simp [l1, l2])).drop
      have h12 : Hs w J2 F ((frzL xs ++ frzL ys) ++ []) ((us1 ++ us2) ++ []) H := by simpa using h11
      have out : ∀ (J3 : Hp) (H3 : Hp) (p : Addr), Le J2 J3 → Hs w J3 F [.node .tup (frzL xs ++ frzL ys)] [.ref p] H3 → Q (.ref p) H3 := fun J3 H3 p le3 h =>
        o (.ref p) J3 H3 (le.trans (le2.trans le3)) ((h.anys [.ref a, .ref b]).comm (by simp))
      -- the two themselves
      have ha : Hs w J2 F [(D.node .tup xs).frz] [.ref a] H := by
        have z := (h6.comm (ds := frzL xs) (vs := us1) (by rw [l1]))
        have z2 : Hs w J2 F ((D.node .tup xs).frz :: (frzL ys ++ [(D.node .tup ys).frz] ++ frzL xs)) (.ref a :: (us2 ++ [.ref b] ++ us1)) H := by simpa using z
        have z3 : Hs w J2 F ([(D.node .tup xs).frz] ++ (frzL ys ++ [(D.node .tup ys).frz] ++ frzL xs)) ([.ref a] ++ (us2 ++ [.ref b] ++ us1)) H := z2
        have z4 := z3.comm rfl
        have hl : (frzL ys ++ [(D.node .tup ys).frz] ++ frzL xs).length = (us2 ++ [V.ref b] ++ us1).length := by simp [l1, l2]
        obtain ⟨fp, r, nd, dj⟩ := z4.ex
        obtain ⟨f1, f2, rfl, r1, r2⟩ := r.split hl
        exact z4.of_sub r2 r nd dj (List.nodup_append.mp nd).2.1 fun b m => List.mem_append_right _ m
      have hb : Hs w J2 F [(D.node .tup ys).frz] [.ref b] H := by
        have hl : (frzL xs ++ frzL ys).length = (us1 ++ us2).length := by simp [l1, l2]
        obtain ⟨fp, r, nd, dj⟩ := h10.ex
        obtain ⟨f1, f2, rfl, r1, r2⟩ := r.split hl
        exact h10.of_sub r2 r nd dj (List.nodup_append.mp nd).2.1 fun b m => List.mem_append_right _ m
      refine ⟨a, b, us1, us2, rfl, rfl, q1 (.inl rfl), q2 (.inl rfl), szO (by rw [l1, l2, frzL_len, frzL_len]; exact hz), fun e => ?_, fun _ e => ?_, fun _ _ p np => ?_⟩
      · have : frzL xs = [] := by
          apply List.length_eq_zero_iff.mp
          rw [← l1, e]
          rfl
        refine out J2 H b (Le.refl _) ?_
        rw [this]
        exact hb
      · have : frzL ys = [] := by
          apply List.length_eq_zero_iff.mp
          rw [← l2, e]
          rfl
        refine out J2 H a (Le.refl _) ?_
        rw [this, List.append_nil]
        exact ha
      · obtain ⟨le3, h13⟩ := Hs.newT h12 (by simp [l1, l2]) np
        exact out _ _ p le3 h13
  · exact o.elim
end
end Z

set_option Elab.async false
set_option linter.all false
set_option maxRecDepth 100000
set_option maxHeartbeats 4000000
/-! ZO: enumerate of a list, of a tuple. -/
namespace Z
open PySem PySem.Spec PyProof.Rows L2 StX
/-! ### enumerate(t), of a tuple -/
section
theorem meets_enum1 {v : Value} {o : Obj} {P : Heap → Prop} (B : Begins v o P) :
    Meets (Builtin.«enumerate.__new__» ⟨[.type "enumerate", v], []⟩) (fun _ R s => P s.heap ∧
      R (.ok (.ret (.ref (s.heap.push o).objs.size))) { s with heap := (s.heap.push o).push { cls := .type "enumerate", data := .fields #[.none, .bool false, .ref s.heap.objs.size, rawInt 0, .none, .none] } }) :=
  .of_wp fun prog w A R s h => by
    obtain ⟨hp, g, d, tk, os⟩ := s
    obtain ⟨h1, h⟩ := h
    have sub0 := sub_enumerate
    have begin1 : ∀ {A' : Around} {E : Value → Shared → Prop} {Q : Value → Shared → Prop}, Q (.ref hp.objs.size) ⟨hp.push o, g, d, tk, os⟩ → wpAny (model prog w) A' (pyIter v) Q E ⟨hp, g, d, tk, os⟩ :=
      fun q => B.iter prog w _ _ ⟨hp, g, d, tk, os⟩ _ h1 q
    wp_walk using begin1
    refine wpAny_stack_any fun now => wpAny_pure ?_
    split
    · rename_i c _ _ _ _ _
      cases (c == Value.type "enumerate")
      · wp_walk using begin1
        exact ⟨_, rfl, h⟩
      · wp_walk using begin1
        exact ⟨_, rfl, h⟩
    · wp_walk using begin1
      exact ⟨_, rfl, h⟩
variable {prog : Program} {w : World} {A : Around} {E : Value → Shared → Prop} {s : Shared}
theorem call_enum_tup {t : Addr} {vals : Array Value} {Q : Value → Shared → Prop} (h1 : s.heap.IsTuple t vals)
    (h : ∀ h', IsEnum h' (s.heap.objs.size + 1) s.heap.objs.size 0 .none → h'.IsTupleIter s.heap.objs.size t 0 → h'.objs.size = s.heap.objs.size + 2 →
      (∀ b o, s.heap.get? b = some o → h'.get? b = some o) → Q (.ref (s.heap.objs.size + 1)) { s with heap := h' }) :
    wpAny (model prog w) A (call (.type "enumerate") [.ref t]) Q E s := by
  refine callType_new F.called_enumerate (by decide) (F.typeCall_enumerate_1 _) (F.newCall_enumerate_1 _) (fun obj => F.args_object_init_2 obj _) F.entry_enumerate_new
    (meets_enum1 (begins_tuple t vals)) ⟨h1, ?_⟩
  have hz : ∀ o : Obj, (s.heap.push o).objs.size = s.heap.objs.size + 1 := fun o => Heap.size_push ..
  show _ ∧ _
  rw [hz]
  have isE : IsEnum ((s.heap.push { cls := .type "tuple_iterator", data := .fields #[.ref t, .int 0 0] }).push
      { cls := .type "enumerate", data := .fields #[.none, .bool false, .ref s.heap.objs.size, rawInt 0, .none, .none] }) (s.heap.objs.size + 1) s.heap.objs.size 0 .none := by
    have := Heap.get?_push_size (s.heap.push { cls := .type "tuple_iterator", data := .fields #[.ref t, .int 0 0] })
      (o := { cls := .type "enumerate", data := .fields #[.none, .bool false, .ref s.heap.objs.size, rawInt 0, .none, .none] }) rfl
    rw [hz] at this
    exact this
  refine ⟨⟨_, isE, rfl⟩, h _ isE ⟨_, Heap.get?_push_of_some _ (Heap.get?_push_size _ rfl), rfl, rfl⟩ (by rw [Heap.size_push, hz]) fun b o x => Heap.get?_push_of_some _ (Heap.get?_push_of_some _ x)⟩
end
/-- the tuple at a, each item in a new pair -/
def IteT (K : PySem.W.Frag) (a : Addr) : It :=
  ⟨fun i H => ∃ (xs : List V) (x : V), SqT K H a xs ∧ xs[i]? = some x, fun i H v H' => ∃ T x, v = .ref T ∧ H T = none ∧ H' = upd H T (.tup [.int (i : Nat), x]) ∧ ∀ xs, SqT K H a xs → xs[i]? = some x, fun i H => ∃ xs : List V, SqT K H a xs ∧ xs.length = i⟩
theorem iter_ne {h : Heap} {it a : Addr} {i : Nat} {vals : Array Value} (h1 : h.IsTupleIter it a i) (h2 : h.IsTuple a vals) : a ≠ it := fun e => by
  obtain ⟨o, ho, hc, _⟩ := h1
  obtain ⟨o2, ho2, hc2, _⟩ := h2
  rw [e, ho] at ho2
  cases ho2
  rw [hc] at hc2
  exact absurd hc2 (by decide)
theorem enum_ne {h : Heap} {e it a : Addr} {c : Int} {last : Value} {vals : Array Value} (h1 : IsEnum h e it c last) (h2 : h.IsTuple a vals) : a ≠ e := fun q => by
  obtain ⟨o2, ho2, hc2, _⟩ := h2
  have ho : h.get? e = some _ := h1
  rw [q, ho] at ho2
  cases ho2
  exact absurd (show Value.type "enumerate" = Value.type "tuple" from hc2) (by decide)
theorem turn_enumT {P : Program} {w : World} {K : PySem.W.Frag} {elts : List Expr} {kk : Nat} {tpos : Pos} (a e it : Addr) :
    Turn P w K (.Tuple elts kk tpos) (IteT K a) [e, it] e (fun i h => (∃ last, IsEnum h e it ((i : Nat) : Int) last) ∧ h.IsTupleIter it a i ∧ e ≠ it) where
  mem := by simp
  obj := fun i h now b inFp => by
    obtain ⟨⟨last, isE⟩, ⟨o, ho, hc, hd⟩, _⟩ := now
    have e' : b = e ∨ b = it := by simpa using inFp
    rcases e' with z | z
    · rw [z]; exact ⟨_, isE, fun v q => nomatch q⟩
    · rw [z]; exact ⟨o, ho, fun v q => by rw [hd] at q; cases q⟩
  keep := fun i h h' now k => let ⟨⟨last, isE⟩, hi, apart⟩ := now; ⟨⟨last, k e (by simp) _ isE⟩, hi.at fun o q => k it (by simp) o q, apart⟩
  item := by
    intro X hP hw hK hc i pn s σ H E I mine now todo
    subst hP hw hK
    obtain ⟨⟨last, isE⟩, atI, apart⟩ := now
    obtain ⟨xs, x, seqA, hx⟩ := todo
    obtain ⟨vals, rep, p, hz⟩ := I.tuple seqA
    obtain ⟨u, hu, ru⟩ := rep.get hx
    have ltE : e < s.heap.objs.size := Heap.lt_size isE
    have ltI : it < s.heap.objs.size := by obtain ⟨_, q, _⟩ := atI; exact Heap.lt_size q
    have na := iter_ne atI p
    have ne := enum_ne isE p
    have hlt : i < vals.toArray.size := by
      have := (List.getElem?_eq_some_iff.mp hu).1
      simpa using this
    refine wpAny_pyNext_enum_itemC (Draws.tuple (A := X.A.in1) (I.ok.hd hc) it a na vals.toArray) isE ⟨atI, p⟩ hlt apart (by simp [apart, Ne.symm ne]) fun x' h' tk hPx ho hs' hT hsz hk => ?_
    have eqL : x' = u := by
      have q : vals[i]? = some x' := by simpa using hPx
      rw [hu] at q
      exact (Option.some.inj q).symm
    subst eqL
    refine ⟨_, rfl, wpAny_letOwnedTupleGo_enum (s := { s with heap := h', toks := tk + 1 }) ho fun h'' he' sb => ?_⟩
    have hT2 : h''.get? s.heap.objs.size = some { cls := .type "tuple", data := .seq #[.int i tk, x'] } := (sb.2 _ (Nat.ne_of_gt ltE)).trans hT
    have new : ObjOk X.prog X.w (upd H s.heap.objs.size (.tup [.int (i : Nat), x])) h'' s.heap.objs.size (.tup [.int (i : Nat), x]) :=
      ⟨by show 2 ≤ sizeLine; decide, [.int i tk, x'], .cons ⟨_, rfl⟩ (.cons ru .nil), ⟨_, hT2, rfl, _, rfl⟩⟩
    have I1 : Inv X pn σ (upd H s.heap.objs.size (.tup [.int (i : Nat), x])) { s with heap := h'', toks := tk + 1 } :=
      I.turnedNew (ch := [e, it]) (fun b ob inFp q => (sb.2 b (fun z => inFp (by simp [z]))).trans (hk b ob (fun z => inFp (by simp [z])) (fun z => inFp (by simp [z])) q)) mine (Nat.le_refl _) new
    refine ⟨.ref s.heap.objs.size, _, I1, rfl, ⟨_, x, rfl, I.hok.fresh (Nat.le_refl _), rfl, fun ys hy => by rw [I.tuple_inj hy seqA]; exact hx⟩, ⟨⟨x', ?_⟩, hs'.1.at fun o q => (sb.2 it (Ne.symm apart)).trans q, apart⟩, fun b inFp => ?_⟩
    · have e1 : ((i + 1 : Nat) : Int) = (i : Int) + 1 := by omega
      rw [e1]; exact he'
    · have hb' : b < s.heap.objs.size := by
        have e' : b = e ∨ b = it := by simpa using inFp
        rcases e' with z | z
        · rw [z]; exact ltE
        · rw [z]; exact ltI
      rw [upd_ne (Nat.ne_of_lt hb')]
      exact (mine b inFp).1
  done := by
    intro X hP hw hK hc i pn s σ H E I mine now todo
    subst hP hw hK
    obtain ⟨⟨last, isE⟩, atI, apart⟩ := now
    obtain ⟨xs, seqA, hx⟩ := todo
    obtain ⟨vals, rep, p, hz⟩ := I.tuple seqA
    obtain ⟨f0, f1, f2, f3, f4, f5⟩ := mine it (by simp)
    have hl : i = vals.toArray.size := by rw [← hx, rep.length]; simp
    subst hl
    exact wpAny_pyNext_enum_endD (Draws.tuple (A := X.A.in1) (I.ok.hd hc) it a (iter_ne atI p) vals.toArray) isE ⟨atI, p⟩ fun h' eb => ⟨rfl, I.turned (t' := s.toks) (fun b o inFp q => eb b o inFp q) f0 f1 f3 f4 f5⟩
  self := fun A i s Q E now h => let ⟨⟨_, isE⟩, _⟩ := now; wpAny_pyIter_enum isE h
def iEnumT (K : PySem.W.Frag) (ta : TA) : TI := fun σ H R => ta σ H fun vs H1 => ∃ a xs, vs = [.ref a] ∧ SqT K H1 a xs ∧ R (IteT K a) H1
theorem pi_enumT {Γ : Cx} {e : Expr} {ta : TA} {p pos tpos : Pos} {elts : List Expr} {kk : Nat} (todo : Gl Γ "enumerate") (hm : Γ.mg "enumerate" = none) (ha : PA Γ [e] ta) (hs : starEach [e] Γ.env = [(false, eval e Γ.env)] := by rfl) :
    PI Γ (.Tuple elts kk tpos) (.Call (.Name "enumerate" p) [e] [] pos) (iEnumT Γ.K ta) := by
  refine ⟨fun pn s σ H R I h => ?_⟩
  refine Call_ (ld_blt I todo hm boot_enumerate (PyProof.Rows.callWith_type1 (thn (ha.run pos pn s σ H _ I h) fun us s1 ⟨vs, H1, I1, r1, begin1⟩ => ?_) hs rfl))
  obtain ⟨a, xs, eqL, seqA, q⟩ := begin1
  subst eqL
  cases r1 with
  | cons r rr =>
    cases rr
    cases r
    obtain ⟨vals, rep, p', hz⟩ := I1.tuple seqA
    refine call_enum_tup p' fun h' isE atI hsz hk => wpAny_pyIter_enum isE ?_
    have I2 : Inv Γ pn σ H1 { s1 with heap := h' } := I1.kept (t' := s1.toks) hk
    refine ⟨s1.heap.objs.size + 1, [s1.heap.objs.size + 1, s1.heap.objs.size], _, _, H1, rfl, I2, turn_enumT a (s1.heap.objs.size + 1) s1.heap.objs.size, ⟨⟨.none, isE⟩, atI, Nat.succ_ne_self _⟩, fun b inFp => ?_, q⟩
    have e' : b = s1.heap.objs.size + 1 ∨ b = s1.heap.objs.size := by simpa using inFp
    have above : s1.heap.objs.size ≤ b := by
      rcases e' with z | z
      · rw [z]; exact Nat.le_add_right _ _
      · rw [z]; exact Nat.le_refl _
    exact I1.fpOk above (I1.hok.fresh above)
/-! ### on trees -/
def numD : Nat → List D → List D
  | _, [] => []
  | i, d :: ds => .node .tup [.int (i : Nat), d] :: numD (i + 1) ds
theorem numD_len : ∀ (xs : List D) (i : Nat), (numD i xs).length = xs.length
  | [], _ => rfl
  | x :: xs, i => by unfold numD; rw [List.length_cons, List.length_cons, numD_len xs]
theorem numD_at : ∀ (xs : List D) (k i : Nat) (z : D), (numD k xs)[i]? = some z → ∃ d, xs[i]? = some d ∧ z = .node .tup [.int ((k + i : Nat) : Int), d]
  | [], k, i, z, h => by cases h
  | x :: xs, k, 0, z, h => by
    unfold numD at h
    cases h
    exact ⟨x, rfl, rfl⟩
  | x :: xs, k, i + 1, z, h => by
    unfold numD at h
    obtain ⟨d, h1, h2⟩ := numD_at xs (k + 1) i z h
    refine ⟨d, h1, ?_⟩
    rw [h2, show k + 1 + i = k + (i + 1) by omega]
theorem RepL.frAt {w : Wd} {I : Hp} {xs : List D} {us : List V} {j : Nat} {d : D} (r : RepL w I I xs us []) (hd : xs[j]? = some d) : ∃ v, us[j]? = some v ∧ Rep w I I d v [] := by
  obtain ⟨v, f1, f2, ev, r1, r2, p⟩ := r.take hd
  have f0 : f1 = [] := by
    have := p.length_eq
    simp at this
    exact List.length_eq_zero_iff.mp (by omega)
  subst f0
  exact ⟨v, ev, r1⟩
theorem walks_enum {w : Wd} {I : Hp} {us : List V} {xs : List D} {J : It} (r : RepL w I I xs us [])
    (hgo : ∀ i I0 H, Le I I0 → Le I0 H → i < us.length → J.go i H) (hst : ∀ I0 H, Le I I0 → Le I0 H → J.stop us.length H)
    (hy : ∀ i I0 H x H', Le I I0 → Le I0 H → J.yld i H x H' → ∃ T y, x = .ref T ∧ H T = none ∧ H' = upd H T (.tup [.int (i : Nat), y]) ∧ us[i]? = some y) : Walks w J I (numD 0 xs) where
  go := fun i I0 F ds vs H hs le hi => hgo i I0 H le hs.iH (by rw [numD_len, r.length] at hi; exact hi)
  stop := fun I0 F ds vs H hs le => by rw [numD_len, r.length]; exact hst I0 H le hs.iH
  yld := fun i d I0 F ds vs H x H' hs le hd y => by
    obtain ⟨T, z, rfl, hn, rfl, hu⟩ := hy i I0 H x H' le hs.iH y
    obtain ⟨d0, h1, rfl⟩ := numD_at xs 0 i d hd
    obtain ⟨v, ev, r1⟩ := r.frAt h1
    have e2 : v = z := Option.some.inj (ev.symm.trans hu)
    subst e2
    obtain ⟨fp, rr, nd, dj⟩ := hs.ex
    have r1' := Rep.frame (H' := H) le d0 v [] (fun a m => nomatch m) r1
    have h2 : Hs w I0 F (d0 :: ds) (v :: vs) H := hs.of_sub (RepL.cons (f1 := []) r1' rr) rr nd dj nd fun b m => m
    have h3 : Hs w I0 F ([.int ((0 + i : Nat) : Int), d0] ++ ds) ([.int (i : Nat), v] ++ vs) H := h2.addC (d := .int ((0 + i : Nat) : Int)) (v := .int (i : Nat)) (by rw [Nat.zero_add]; rfl)
    obtain ⟨le3, h4⟩ := Hs.newT h3 rfl hn
    exact ⟨_, le3, h4⟩
section
variable {Γ : Cx} {X : Fx} {W : WX}
/-- enumerate(x), x a list or a tuple, given up -/
def iEnu (m : M) : Src := fun env => match m env with
  | .ok d e => (match d.seq with
    | some xs => .ok (numD 0 (frzL xs)) e
    | none => .bad)
  | .exc c ns xs e => .exc c ns xs e
  | .bad => .bad
theorem i_enum {e : Expr} {p pos tpos : Pos} {elts : List Expr} {kk : Nat} {m : M} (h : PE Γ e (tE X W m)) (hK : X.w.K = Γ.K) (todo : Gl Γ "enumerate") (hm : Γ.mg "enumerate" = none) (hs : starEach [e] Γ.env = [(false, eval e Γ.env)] := by rfl) :
    PI Γ (.Tuple elts kk tpos) (.Call (.Name "enumerate" p) [e] [] pos) (tI X W (iEnu m)) := by
  have ha : PA Γ [e] (tOs X W [.val m]) := pa_z (pe_val h) pa_z0 hs
  refine PIi (PI.or (pi_enum todo hm ha hs) (pi_enumT todo hm ha hs)) fun σ H R q => ?_
  obtain ⟨I, F, env, hs, er, o⟩ := q
  unfold iEnu at o
  cases hmm : m env with
  | bad => simp only [hmm] at o; exact o.elim
  | exc c ns xs e =>
    simp only [hmm] at o
    refine .inl ⟨I, F, env, hs, er, ?_⟩
    rw [hmm]
    exact o
  | ok d e1 =>
    simp only [hmm] at o
    cases hd : d.seq with
    | none => simp only [hd] at o; exact o.elim
    | some xs =>
      simp only [hd] at o
      by_cases ht : ∃ ys, d = .node .tup ys ∨ d = .node .tux ys
      · refine .inr ⟨I, F, env, hs, er, ?_⟩
        rw [hmm]
        intro v I1 H1 le h1 er1
        obtain ⟨J, leJ, h2⟩ := h1.freeze
        obtain ⟨a, us, rfl, seqA, _, r⟩ := h2.seqF2 hd
        have hq' : SqT Γ.K J a us := by rw [← hK]; exact seqA ht
        refine ⟨a, us, rfl, le_t h2.iH hq', o _ J H1 (le.trans leJ) h2.drop er1 (walks_enum r (fun i I0 H l1 l2 hi => ?_) (fun I0 H l1 l2 => ?_) (fun i I0 H x H' l1 l2 y => ?_))⟩
        · exact ⟨us, us[i], le_t (l1.trans l2) hq', by rw [List.getElem?_eq_getElem]⟩
        · exact ⟨us, le_t (l1.trans l2) hq', rfl⟩
        · obtain ⟨T, z, e1, e2, e3, e4⟩ := y
          exact ⟨T, z, e1, e2, e3, e4 us (le_t (l1.trans l2) hq')⟩
      · refine .inl ⟨I, F, env, hs, er, ?_⟩
        rw [hmm]
        intro v I1 H1 le h1 er1
        obtain ⟨J, leJ, h2⟩ := h1.freeze
        obtain ⟨a, us, rfl, _, seqA, r⟩ := h2.seqF2 hd
        have hq' : SqL Γ.K J a us := by rw [← hK]; exact seqA ht
        refine ⟨a, us, rfl, le_l h2.iH hq', o _ J H1 (le.trans leJ) h2.drop er1 (walks_enum r (fun i I0 H l1 l2 hi => ?_) (fun I0 H l1 l2 => ?_) (fun i I0 H x H' l1 l2 y => ?_))⟩
        · exact ⟨us, us[i], le_l (l1.trans l2) hq', by rw [List.getElem?_eq_getElem]⟩
        · exact ⟨us, le_l (l1.trans l2) hq', Nat.le_refl _⟩
        · obtain ⟨T, z, e1, e2, e3, e4⟩ := y
          exact ⟨T, z, e1, e2, e3, e4 us (le_l (l1.trans l2) hq')⟩
end
end Z

set_option Elab.async false
set_option linter.all false
set_option maxRecDepth 100000
set_option maxHeartbeats 4000000
/-! ZP: displays; tuples known to have no dict; count, index. -/
namespace Z
open PySem PySem.Spec PyProof.Rows L2 StX
section
variable {Γ : Cx} {X : Fx} {W : WX}
theorem z_tup {es : List Expr} {k} {pos : Pos} {ops : List Opd} (ha : PA Γ es (tOs X W ops)) : PE Γ (.Tuple es k pos) (tE X W (mApp oTup ops)) :=
  PEi (pe_tup ha) fun σ H Q h => app_run od_tup h
theorem z_lst {es : List Expr} {pos : Pos} {ops : List Opd} (ha : PA Γ es (tOs X W ops)) : PE Γ (.List es pos) (tE X W (mApp oLst ops)) :=
  PEi (pe_lst ha) fun σ H Q h => app_run od_lst h
/-! ### displays that keep the object -/
def tTupX (t : TA) : TE := fun σ H Q => t σ H fun xs H1 => xs.length ≤ sizeLine ∧ ∀ (p : Addr) (od : Obj), od.dict = none → H1 p = none → Q (.ref p) (upd H1 p (.frz od (.tup xs)))
theorem pe_tupX {es : List Expr} {k} {pos : Pos} {t : TA} (h : PA Γ es t) : PE Γ (.Tuple es k pos) (tTupX t) := by
  refine ⟨fun pins s σ H Q I hq => ?_⟩
  refine wpAny_Tuple_spliced (thn (h.run pos pins s σ H _ I hq) fun us s1 ⟨xs, H1, I1, r, z, q⟩ => ⟨by rw [← r.length]; exact z, ?_⟩)
  have hf : H1 s1.heap.objs.size = none := I1.hok.fresh (Nat.le_refl _)
  have e : (s1.heap.push { cls := .type "tuple", data := .seq us.toArray }).get? s1.heap.objs.size = some { cls := .type "tuple", data := .seq us.toArray } := Heap.get?_push_size _ rfl
  refine ⟨.ref s1.heap.objs.size, upd H1 s1.heap.objs.size (.frz { cls := .type "tuple", data := .seq us.toArray } (.tup xs)), I1.laid (t' := s1.toks) (fun b u e => Heap.get?_push_of_some _ e) (Nat.le_refl _) ?_, rfl, q _ _ rfl hf⟩
  exact ⟨e, z, us, r, ⟨_, e, rfl, _, rfl⟩⟩
end
section
variable {w : Wd} {I F H : Hp} {ds : List D} {vs us : List V}
theorem Hs.newF {p : Addr} {xs : List D} {t : Tag} {o : HO} (h : Hs w I F (xs ++ ds) (us ++ vs) H) (hl : xs.length = us.length) (np : H p = none) (hf : t.fits us.length) (hn : t.own = false) (hat : FroAt w (upd I p o) p t us) :
    Le I (upd I p o) ∧ Hs w (upd I p o) F (.node t xs :: ds) (.ref p :: vs) (upd H p o) := by
  obtain ⟨fp, r, nd, dj⟩ := h.ex
  obtain ⟨f1, f2, rfl, r1, r2⟩ := r.split hl
  have pI : I p = none := by
    cases e : I p with
    | none => rfl
    | some o => rw [(h.iF p o e).1] at np; cases np
  have pF : F p = none := by
    cases e : F p with
    | none => rfl
    | some o => rw [h.fH p o e] at np; cases np
  have pn : p ∉ f1 ++ f2 := fun m => by
    rcases List.mem_append.mp m with m | m
    · obtain ⟨o, e⟩ := RepL.there _ _ _ r1 p m
      rw [np] at e; cases e
    · obtain ⟨o, e⟩ := RepL.there _ _ _ r2 p m
      rw [np] at e; cases e
  have k : ∀ a ∈ f1 ++ f2, upd H p o a = H a := fun a m => upd_ne fun e => pn (e ▸ m)
  have le : Le I (upd I p o) := Le.new pI
  refine ⟨le, ⟨f1 ++ f2, RepL.cons (by
      unfold Rep
      exact ⟨p, us, f1, rfl, RepL.frame le xs us f1 (fun a m => k a (List.mem_append_left _ m)) r1, hf, .inr ⟨hn, hat, rfl⟩⟩) (RepL.frame le ds vs f2 (fun a m => k a (List.mem_append_right _ m)) r2), nd, fun a m => ⟨?_, (dj a m).2⟩⟩, fun a u e => ?_, fun a u e => ?_, h.fT, h.lkI.trans le, h.fkF⟩
  · rw [upd_ne (fun e => pn (by rw [← e]; exact m))]
    exact (dj a m).1
  · by_cases q : a = p
    · subst q
      rw [upd_same] at e ⊢
      exact ⟨e, pF⟩
    · rw [upd_ne q] at e ⊢
      exact h.iF a u e
  · rw [upd_ne (fun e2 => by rw [e2, pF] at e; cases e)]
    exact h.fH a u e
theorem Hs.newX {p : Addr} {od : Obj} {xs : List D} (h : Hs w I F (xs ++ ds) (us ++ vs) H) (hl : xs.length = us.length) (np : H p = none) (hd : od.dict = none) :
    Le I (upd I p (.frz od (.tup us))) ∧ Hs w (upd I p (.frz od (.tup us))) F (.node .tux xs :: ds) (.ref p :: vs) (upd H p (.frz od (.tup us))) :=
  Hs.newF h hl np trivial rfl ⟨od, upd_same, hd⟩
def oTux : Op := fun ds => if ds.length ≤ 100000 then .ok (.node .tux ds) (ds.map fun _ => .any) else .bad
def rTux : RN := fun xs H Q _ => xs.length ≤ sizeLine ∧ ∀ (p : Addr) (od : Obj), od.dict = none → H p = none → Q (.ref p) (upd H p (.frz od (.tup xs)))
theorem od_tux : OpD w rTux oTux := fun I F es us H Q E hs o => by
  obtain ⟨hz, o⟩ := ite_out o
  have hl := hs.length
  refine ⟨szO (by omega), fun p od hd np => ?_⟩
  obtain ⟨le, h2⟩ := Hs.newX (ds := []) (vs := []) (xs := es) (us := us) (by simpa using hs) hl np hd
  refine o (.ref p) _ _ le ?_
  have h3 := (h2.anys us).comm (by simp)
  rw [map_any hl]
  exact h3
end
section
variable {Γ : Cx} {X : Fx} {W : WX}
theorem z_tux {es : List Expr} {k} {pos : Pos} {ops : List Opd} (ha : PA Γ es (tOs X W ops)) : PE Γ (.Tuple es k pos) (tE X W (mApp oTux ops)) :=
  PEi (pe_tupX ha) fun σ H Q h => app_run od_tux h
/-! ### t + u, the object kept -/
def rCatX (K : PySem.W.Frag) : R2 := fun x y H Q => ∃ a b xs ys, x = .ref a ∧ y = .ref b ∧ SqT K H a xs ∧ SqT K H b ys ∧ xs.length + ys.length ≤ sizeLine ∧
  (xs = [] → Q (.ref b) H) ∧ (xs ≠ [] → ys = [] → Q (.ref a) H) ∧ (xs ≠ [] → ys ≠ [] → ∀ (p : Addr) (od : Obj), od.dict = none → H p = none → Q (.ref p) (upd H p (.frz od (.tup (xs ++ ys)))))
theorem op_catX : OpR Γ (binaryOp .Add) (rCatX Γ.K) := by
  intro pins s σ H x y v u Q I rx ry h
  obtain ⟨a, b, xs, ys, rfl, rfl, ha, hb, hz, q0, q1, q2⟩ := h
  cases rx
  cases ry
  obtain ⟨its, r1, p1, _⟩ := I.tuple ha
  obtain ⟨its2, r2, p2, _⟩ := I.tuple hb
  by_cases hx : xs = []
  · subst hx
    cases r1
    exact cat_tup0 p1 p2 ⟨.ref b, H, I, rfl, q0 rfl⟩
  · refine HT.cat_tup p1 p2 (fun z => hx (r1.nil_iff.mp z)) (fun z => ⟨.ref a, H, I, rfl, q1 hx (r2.nil_iff.mp z)⟩) (fun z => ?_) (by rw [← r1.length, ← r2.length]; exact hz)
    have e : (s.heap.push { cls := .type "tuple", data := .seq (its ++ its2).toArray }).get? s.heap.objs.size = some { cls := .type "tuple", data := .seq (its ++ its2).toArray } := Heap.get?_push_size _ rfl
    refine ⟨.ref s.heap.objs.size, _, I.laid (t' := s.toks) (o := .frz { cls := .type "tuple", data := .seq (its ++ its2).toArray } (.tup (xs ++ ys))) (fun b ob q => Heap.get?_push_of_some _ q) (Nat.le_refl _) ?_, rfl, q2 hx (fun w => z (r2.nil_iff.mpr w)) _ _ rfl (I.hok.fresh (Nat.le_refl _))⟩
    exact ⟨e, by rw [List.length_append]; exact hz, _, r1.append r2, IsTup.new _ _⟩
theorem ifs2 {c : Prop} [Decidable c] {a : Option D} {z : D} (h : (if c then a else none) = some z) : c ∧ a = some z := by
  by_cases q : c
  · rw [if_pos q] at h; exact ⟨q, h⟩
  · rw [if_neg q] at h; cases h
def oCatX : Op
  | [.node .tux xs, .node .tux ys] => if xs.length + ys.length ≤ 100000 then (.ok (.node .tux (frzL xs ++ frzL ys)) [.any, .any]) else .bad
  | _ => .bad
theorem od_catX : OpD X.w (r2 (rCatX X.w.K)) oCatX := fun I F es us H Q E hs o => by
  unfold oCatX at o
  split at o
  · rename_i xs ys
    obtain ⟨hz, o⟩ := ite_out o
    match us, hs.length, hs, o with
    | [v, u], _, hs, o =>
      obtain ⟨J, le, h1⟩ := hs.freeze
      obtain ⟨J2, le2, h2⟩ := h1.swap.freeze
      obtain ⟨b, us2, rfl, _, _, q2, l2, h3⟩ := h2.items (xs := frzL ys) rfl (isFrzL_frz ys)
      have h4 : Hs X.w J2 F ((frzL ys ++ [(D.node .tux ys).frz]) ++ (D.node .tux xs).frz :: []) ((us2 ++ [.ref b]) ++ v :: []) H := by simpa using h3
      have h5 := h4.front (by simp [l2])
      obtain ⟨a, us1, rfl, _, _, q1, l1, h6⟩ := h5.items (xs := frzL xs) rfl (isFrzL_frz xs)
      have h7 : Hs X.w J2 F ((frzL xs ++ [(D.node .tux xs).frz]) ++ (frzL ys ++ [(D.node .tux ys).frz])) ((us1 ++ [.ref a]) ++ (us2 ++ [.ref b])) H := by simpa using h6
      have h8 : Hs X.w J2 F ((frzL xs) ++ ((D.node .tux xs).frz :: (frzL ys ++ [(D.node .tux ys).frz]))) (us1 ++ (.ref a :: (us2 ++ [.ref b]))) H := by simpa using h7
      have h9 := (h8.front (by rw [l1])).drop
      have h10 : Hs X.w J2 F ((frzL xs ++ frzL ys) ++ [(D.node .tux ys).frz]) ((us1 ++ us2) ++ [.ref b]) H := by simpa using h9
      have h11 := (h10.comm (by simp [l1, l2])).drop
      have h12 : Hs X.w J2 F ((frzL xs ++ frzL ys) ++ []) ((us1 ++ us2) ++ []) H := by simpa using h11
      have out : ∀ (J3 : Hp) (H3 : Hp) (p : Addr), Le J2 J3 → Hs X.w J3 F [.node .tux (frzL xs ++ frzL ys)] [.ref p] H3 → Q (.ref p) H3 := fun J3 H3 p le3 h =>
        o (.ref p) J3 H3 (le.trans (le2.trans le3)) ((h.anys [.ref a, .ref b]).comm (by simp))
      -- the two themselves
      have ha : Hs X.w J2 F [(D.node .tux xs).frz] [.ref a] H := by
        have z := (h6.comm (ds := frzL xs) (vs := us1) (by rw [l1]))
        have z2 : Hs X.w J2 F ((D.node .tux xs).frz :: (frzL ys ++ [(D.node .tux ys).frz] ++ frzL xs)) (.ref a :: (us2 ++ [.ref b] ++ us1)) H := by simpa using z
        have z3 : Hs X.w J2 F ([(D.node .tux xs).frz] ++ (frzL ys ++ [(D.node .tux ys).frz] ++ frzL xs)) ([.ref a] ++ (us2 ++ [.ref b] ++ us1)) H := z2
        have z4 := z3.comm rfl
        have hl : (frzL ys ++ [(D.node .tux ys).frz] ++ frzL xs).length = (us2 ++ [V.ref b] ++ us1).length := by simp [l1, l2]
        obtain ⟨fp, r, nd, dj⟩ := z4.ex
        obtain ⟨f1, f2, rfl, r1, r2⟩ := r.split hl
        exact z4.of_sub r2 r nd dj (List.nodup_append.mp nd).2.1 fun b m => List.mem_append_right _ m
      have hb : Hs X.w J2 F [(D.node .tux ys).frz] [.ref b] H := by
        have hl : (frzL xs ++ frzL ys).length = (us1 ++ us2).length := by simp [l1, l2]
        obtain ⟨fp, r, nd, dj⟩ := h10.ex
        obtain ⟨f1, f2, rfl, r1, r2⟩ := r.split hl
        exact h10.of_sub r2 r nd dj (List.nodup_append.mp nd).2.1 fun b m => List.mem_append_right _ m
      refine ⟨a, b, us1, us2, rfl, rfl, q1 (.inr rfl), q2 (.inr rfl), szO (by rw [l1, l2, frzL_len, frzL_len]; exact hz), fun e => ?_, fun _ e => ?_, fun _ _ p od hod np => ?_⟩
      · have : frzL xs = [] := by
          apply List.length_eq_zero_iff.mp
          rw [← l1, e]
          rfl
        refine out J2 H b (Le.refl _) ?_
        rw [this]
        exact hb
      · have : frzL ys = [] := by
          apply List.length_eq_zero_iff.mp
          rw [← l2, e]
          rfl
        refine out J2 H a (Le.refl _) ?_
        rw [this, List.append_nil]
        exact ha
      · obtain ⟨le3, h13⟩ := Hs.newX h12 (by simp [l1, l2]) np hod
        exact out _ _ p le3 h13
  · exact o.elim

/-! ### methods that look -/
def isLst : D → Bool
  | .node (.lst _) _ => true
  | .node .scr _ => true
  | _ => false
def isTux : D → Bool
  | .node .tux _ => true
  | _ => false
def mIs (p : D → Bool) (m : M) : M := fun env => match m env with
  | .ok d e => if p d = true then .ok d e else .bad
  | .exc c ns xs e => .exc c ns xs e
  | .bad => .bad
theorem is_run {p : D → Bool} {m : M} {σ : L2.St} {H : Hp} {Q : VK} {R : V → Hp → Prop} (k : ∀ I F d ds v vs H, Hs X.w I F (d :: ds) (v :: vs) H → p d = true → R v H) (h : tE X W (mIs p m) σ H Q) : tE X W m σ H fun v H1 => R v H1 ∧ Q v H1 := by
  obtain ⟨I, F, env, hs, er, o⟩ := h
  refine ⟨I, F, env, hs, er, ?_⟩
  unfold mIs at o
  cases hm : m env with
  | bad => simp only [hm] at o; exact o.elim
  | exc c ns xs e => simp only [hm] at o; exact o
  | ok d e =>
    simp only [hm] at o
    by_cases hp : p d = true
    · rw [if_pos hp] at o
      exact fun v I1 H1 le h1 er1 => ⟨k I1 F d e v _ H1 h1 hp, o v I1 H1 le h1 er1⟩
    · rw [if_neg hp] at o
      exact o.elim
def rM (r : V → List V → Hp → VK → Prop) : RN := fun us H Q _ => match us with
  | x :: xs => r x xs H Q
  | [] => False
theorem z_look {o e : Expr} {es : List Expr} {name : Str} {apos cpos : Pos} {id : String} {r : V → List V → Hp → VK → Prop} {m : M} {ops : List Opd} {f : Op} (slot : Slot "list" name id) (hty : typeOf (.builtin id) = pure (.type "method_descriptor")) (hm : MtR Γ id r) (od : OpD X.w (rM r) f) (ho : PE Γ o (tE X W m)) (ha : PA Γ (e :: es) (tOs X W ops)) (hK : X.w.K = Γ.K)
    (hbase : attributeBase o name Γ.env (eval o Γ.env) = eval o Γ.env := by rfl)
    (hfew : ((backTo cpos (starEach (e :: es) Γ.env)).all (fun x => !x.1) && (backToKw cpos (keywordEach [] Γ.env)).all (fun x => x.1.isSome)
      && decide ((e :: es).length + ([] : List Keyword).length + (if ([] : List Keyword).isEmpty then 0 else 1) < 30)) = true := by rfl)
    (hline : (apos.endLine == cpos.line) = true := by rfl) (hs : starEach (e :: es) Γ.env = (false, eval e Γ.env) :: starEach es Γ.env := by rfl) (hplain : (backTo cpos (starEach es Γ.env)).any (·.1) = false := by rfl) :
    PE Γ (.Call (.Attribute o name apos) (e :: es) [] cpos) (tE X W (mApp f (.val (mIs isLst m) :: ops))) :=
  PEi (pe_bm PySem.F.plainAttrs_list slot hty hm ho ha hbase hfew hline hs hplain) fun σ H Q h =>
    is_run (p := isLst) (R := fun v H => tyV Γ.K "list" v H) (fun I F d ds v vs H hs hp => by
      cases d with
      | node t xs =>
        have key : t = .scr ∨ ∃ o, t = .lst o := by
          cases t with
          | lst o => exact .inr ⟨o, rfl⟩
          | scr => exact .inl rfl
          | _ => cases hp
        obtain ⟨a, us, rfl, hq, _⟩ := hs.seqL key
        rw [← hK]
        exact .inl ⟨rfl, us, hq⟩
      | _ => cases hp) (app_run od h)
/-! ### list.index -/
abbrev oIndex : Op := op2 fun d e => match d, e.py with
  | .node (.lst o) xs, some x => (match pyL xs with
    | some ds => if SeqAt.shaped x = true ∧ SeqAt.shaped (.list ds) = true then (ds.findIdx? fun y => PyData.eqv y x).map fun j => .int (j : Nat) else none
    | none => none)
  | _, _ => none
theorem od_index : OpD X.w (rM (rIndexD X.w.K)) oIndex := od2 fun I F H d e v u z hs h => by
  split at h
  · rename_i o xs x hx
    split at h
    · rename_i ds hds
      obtain ⟨⟨c1, c2⟩, h⟩ := ifs2 h
      obtain ⟨j, hj, rfl⟩ := Option.map_eq_some_iff.mp h
      obtain ⟨h1, h2, h3⟩ := List.findIdx?_eq_some_iff_getElem.mp hj
      have hq : D.py (.node (.lst o) xs) = some (.list ds) := by unfold D.py; rw [hds]; rfl
      obtain ⟨a, us, rfl, _⟩ := hs.seqL (.inr ⟨o, rfl⟩)
      refine ⟨_, rfl, fun Q E q => ⟨a, u, x, ds, j, ds[j], rfl, rfl, hs.dp hq, hs.drop.dp hx, c2, c1, List.getElem?_eq_getElem h1, h2, fun m z' hm hz => ?_, q⟩⟩
      have hml : m < ds.length := by omega
      rw [List.getElem?_eq_getElem hml] at hz
      cases hz
      have := h3 m hm
      simpa using this
    · cases h
  · cases h
/-! ### t.count(x) -/
def rCountX (K : PySem.W.Frag) : V → List V → Hp → VK → Prop := fun x xs H Q => ∃ (a : Addr) (y : V) (d : PyData) (ds : List PyData), x = .ref a ∧ xs = [y] ∧ Dp K H (.ref a) (.tuple ds) ∧ Dp K H y d ∧ SeqAt.shaped (.tuple ds) = true ∧ SeqAt.shaped d = true ∧ Q (.int ((ds.countP fun z => PyData.eqv z d : Nat) : Int)) H
theorem mt_countX (hu : Γ.A.units + 65 < cLine) : MtR Γ "tuple.count" (rCountX Γ.K) := by
  intro pins s σ H x xs v us Q I rx rxs h
  obtain ⟨a, y, d, ds, rfl, rfl, hl, hy, sl, sd, q⟩ := h
  cases rx
  cases rxs with
  | cons ry rt =>
    rename_i uy ut
    cases rt
    obtain ⟨bs, r1⟩ := Dp.reads I d y uy hy ry
    have hxs : PyData.canLayAll0 ds = true := SeqAt.canLay_of_shaped sl
    have hroom : Γ.A.units + 1 + min (PyData.depthAll ds) d.depth < cLine := room_in_shaped sd hu
    cases hl with
    | tup hs ha =>
      obtain ⟨its, rv, p, hlen⟩ := I.tuple hs
      obtain ⟨as, h4⟩ := Dp.readsAll I ds _ its ha rv
      exact SeqAt.count_tuple_data p (vs := its.toArray) h4 r1 (PyData.plainAll_of_canLay0 ds hxs) (PyData.plain_of_canLay0 d (SeqAt.canLay_of_shaped sd)) hroom ⟨.int _, H, I.tok _, ⟨_, rfl⟩, q⟩
def tBMX (r : V → List V → Hp → VK → Prop) (to : TE) (t : TA) : TE := fun σ H Q => to σ H fun x H1 => (∃ a xs, x = .ref a ∧ Tux H1 a xs) ∧ t σ H1 fun us H2 => r x us H2 Q
theorem pe_bmX {o e : Expr} {es : List Expr} {to : TE} {t : TA} {name : Str} {apos cpos : Pos} {id : String} {r : V → List V → Hp → VK → Prop} (slot : Slot "tuple" name id) (hty : typeOf (.builtin id) = pure (.type "method_descriptor")) (hm : MtR Γ id r) (ho : PE Γ o to) (ha : PA Γ (e :: es) t)
    (hbase : attributeBase o name Γ.env (eval o Γ.env) = eval o Γ.env := by rfl)
    (hfew : ((backTo cpos (starEach (e :: es) Γ.env)).all (fun x => !x.1) && (backToKw cpos (keywordEach [] Γ.env)).all (fun x => x.1.isSome)
      && decide ((e :: es).length + ([] : List Keyword).length + (if ([] : List Keyword).isEmpty then 0 else 1) < 30)) = true := by rfl)
    (hline : (apos.endLine == cpos.line) = true := by rfl) (hs : starEach (e :: es) Γ.env = (false, eval e Γ.env) :: starEach es Γ.env := by rfl) (hplain : (backTo cpos (starEach es Γ.env)).any (·.1) = false := by rfl) :
    PE Γ (.Call (.Attribute o name apos) (e :: es) [] cpos) (tBMX r to t) := by
  refine ⟨fun pins s σ H Q I h => ?_⟩
  refine wpAny_Call_method_late hbase hfew hline rfl (thn (ho.run pins s σ H _ I h) fun v s1 ⟨x, H1, I1, r1, ty, q1⟩ => ?_)
  obtain ⟨a, xs, rfl, od, hx, hn⟩ := ty
  cases r1
  obtain ⟨hg, _, its, rv, ip⟩ := (show ObjOk Γ.prog Γ.w H1 s1.heap a (.frz od (.tup xs)) from I1.hok a _ hx)
  refine ⟨"tuple", id, PySem.F.plainAttrs_tuple, slot, hty, ip.typeIs, fun b e => ?_, ?_⟩
  · cases e
    exact ⟨od, hg, hn⟩
  · have hA := ha.run cpos pins s1 σ H1 _ I1 q1
    rw [hs] at hA ⊢
    refine Calls.callWith_builtin (by show (false || (backTo cpos (starEach es Γ.env)).any (·.1)) = false; rw [hplain] <;> rfl) (Calls.evalArgs_plain ?_)
    exact thn hA fun us s2 ⟨vs, H2, I2, r2, q2⟩ => hm pins s2 σ H2 (.ref a) vs _ us Q I2 rfl r2 q2
theorem z_lookX {o e : Expr} {es : List Expr} {name : Str} {apos cpos : Pos} {id : String} {r : V → List V → Hp → VK → Prop} {m : M} {ops : List Opd} {f : Op} (slot : Slot "tuple" name id) (hty : typeOf (.builtin id) = pure (.type "method_descriptor")) (hm : MtR Γ id r) (od : OpD X.w (rM r) f) (ho : PE Γ o (tE X W m)) (ha : PA Γ (e :: es) (tOs X W ops))
    (hbase : attributeBase o name Γ.env (eval o Γ.env) = eval o Γ.env := by rfl)
    (hfew : ((backTo cpos (starEach (e :: es) Γ.env)).all (fun x => !x.1) && (backToKw cpos (keywordEach [] Γ.env)).all (fun x => x.1.isSome)
      && decide ((e :: es).length + ([] : List Keyword).length + (if ([] : List Keyword).isEmpty then 0 else 1) < 30)) = true := by rfl)
    (hline : (apos.endLine == cpos.line) = true := by rfl) (hs : starEach (e :: es) Γ.env = (false, eval e Γ.env) :: starEach es Γ.env := by rfl) (hplain : (backTo cpos (starEach es Γ.env)).any (·.1) = false := by rfl) :
    PE Γ (.Call (.Attribute o name apos) (e :: es) [] cpos) (tE X W (mApp f (.val (mIs isTux m) :: ops))) :=
  PEi (pe_bmX slot hty hm ho ha hbase hfew hline hs hplain) fun σ H Q h =>
    is_run (p := isTux) (R := fun v H => ∃ a xs, v = .ref a ∧ Tux H a xs) (fun I F d ds v vs H hs hp => by
      cases d with
      | node t xs =>
        cases t with
        | tux =>
          obtain ⟨fp, r⟩ := hs.head
          unfold Rep at r
          obtain ⟨a, us, fp', rfl, hl, hf, q⟩ := r
          rcases q with ⟨ho, _, _⟩ | ⟨_, hat, _⟩
          · cases ho
          · obtain ⟨od, h1, h2⟩ := hat
            exact ⟨a, us, rfl, od, hs.iH a _ h1, h2⟩
        | _ => cases hp
      | _ => cases hp) (app_run od h)
abbrev oCount : Op := op2 fun d e => match d, e.py with
  | .node .tux xs, some x => (match pyL xs with
    | some ds => if SeqAt.shaped x = true ∧ SeqAt.shaped (.tuple ds) = true then some (.int ((ds.countP fun z => PyData.eqv z x : Nat) : Int)) else none
    | none => none)
  | _, _ => none
theorem od_count : OpD X.w (rM (rCountX X.w.K)) oCount := od2 fun I F H d e v u z hs h => by
  split at h
  · rename_i xs x hx
    split at h
    · rename_i ds hds
      obtain ⟨⟨c1, c2⟩, h⟩ := ifs2 h
      cases h
      have hq : D.py (.node .tux xs) = some (.tuple ds) := by unfold D.py; rw [hds]; rfl
      obtain ⟨a, us, rfl, _⟩ := hs.seq (xs := xs) rfl
      exact ⟨_, rfl, fun Q E q => ⟨a, u, x, ds, rfl, rfl, hs.dp hq, hs.drop.dp hx, c2, c1, q⟩⟩
    · cases h
  · cases h
end
end Z

set_option Elab.async false
set_option linter.all false
set_option maxRecDepth 100000
set_option maxHeartbeats 4000000
/-! ZQ: max of a tuple, three names at once. -/
namespace Z
open PySem PySem.Spec PyProof.Rows L2 StX
section
variable {Γ : Cx} {X : Fx} {W : WX}
theorem s_par3 {i j l : Nat} {x y z : Str} {a b c : Expr} {px py pz pt pos : Pos} {kt k2 pt2} {ops : List Opd} (hc : Γ.calm = true) (hN : Γ.N.Nodup) (hi : Γ.N[i]? = some x) (hj : Γ.N[j]? = some y) (hl : Γ.N[l]? = some z) (hij : i ≠ j) (hil : i ≠ l) (hjl : j ≠ l)
    (hx : Γ.env.scope.names.lookup x = some .local) (hy : Γ.env.scope.names.lookup y = some .local) (hz : Γ.env.scope.names.lookup z = some .local) (ha : PA Γ [a, b, c] (tOs X W ops))
    (hw : swappedStores [.Tuple [.Name x px, .Name y py, .Name z pz] kt pt] (.Tuple [a, b, c] k2 pt2) Γ.env = pure (some [x, y, z])) (hp : ∀ k ∈ [i, j, l], k ∉ X.pin := by decide)
    (hs : swapsWithSole [.Tuple [.Name x px, .Name y py, .Name z pz] kt pt] (.Tuple [a, b, c] k2 pt2) pos.line Γ.env = pure false := by rfl) :
    PS Γ (.Assign [.Tuple [.Name x px, .Name y py, .Name z pz] kt pt] (.Tuple [a, b, c] k2 pt2) pos) (tS X W (sPar [i, j, l] ops)) := PSi (ps_par3 hc hN hi hj hl hij hil hjl hx hy hz ha hw hs) fun E σ H q => by
  have z := par_run hp q
  have key : ∀ (ops : List Opd) (σ0 : L2.St) (H : Hp) (Q Q' : List V → Hp → Prop), (∀ vs H, Q vs H → Q' vs H) → tOs X W ops σ0 H Q → tOs X W ops σ0 H Q' := by
    intro ops
    induction ops with
    | nil => exact fun σ0 H Q Q' k h => k _ _ h
    | cons o ops ih =>
      intro σ0 H Q Q' k h
      cases o with
      | peek i =>
        obtain ⟨v, hv, h⟩ := h
        exact ⟨v, hv, ih _ _ _ _ (fun vs H q => k _ _ q) h⟩
      | val m =>
        obtain ⟨I, F, env, hs, er, o⟩ := h
        refine ⟨I, F, env, hs, er, ?_⟩
        revert o
        cases m env with
        | bad => exact fun o => o
        | exc c ns xs e => exact fun o => o
        | ok r e => exact fun o v I' H' le h' er' => ih _ _ _ _ (fun vs H q => k _ _ q) (o v I' H' le h' er')
  refine key ops σ H _ _ (fun vs H1 h => ?_) z
  obtain ⟨hl, h⟩ := h
  match vs, hl, h with
  | [u, v, t], _, h => exact ⟨u, v, t, rfl, h⟩
/-! ### max(t), of ints -/
def rMaxT (K : PySem.W.Frag) : List V → Hp → VK → Prop := fun xs H Q => ∃ (a : Addr) (n : Int) (ns : List Int), xs = [.ref a] ∧ SqT K H a ((n :: ns).map V.int) ∧ Q (.int (ns.foldl max n)) H
theorem dpAll_ints {K : PySem.W.Frag} {H : Hp} : ∀ ns : List Int, DpAll K H (ns.map V.int) (ns.map PyData.int)
  | [] => .nil
  | n :: ns => .cons (.int n) (dpAll_ints ns)
theorem depth_ints : ∀ ns : List Int, PyData.depthAll (ns.map PyData.int) ≤ 1
  | [] => by simp [PyData.depthAll]
  | n :: ns => by
    have := depth_ints ns
    simp only [List.map_cons, PyData.depthAll, PyData.depth]
    omega
theorem cr_maxT (hc : Γ.calm = true) (hu : Γ.A.units + 65 < cLine) : CallR Γ (.builtin "max") (rMaxT Γ.K) := by
  intro pins s σ H vs us Q I r h
  obtain ⟨a, n, ns, rfl, hs, q⟩ := h
  obtain ⟨its, rv, ip, _⟩ := I.tuple hs
  rw [Vals.ref1 r]
  obtain ⟨as, rs⟩ := Dp.readsAll I _ _ its (dpAll_ints (n :: ns)) rv
  refine PySem.W.max_tuple_data (vs := its.toArray) (x := .int n) (xs := ns.map .int) (I.ok.hd hc) ip (by simpa using rs) ⟨fun x hx y hy => ?_, fun x hx => ?_⟩ ?_ fun i v h' tk bs hv hr hk => ?_
  · obtain ⟨i, _, rfl⟩ := List.mem_map.mp (show x ∈ (n :: ns).map PyData.int from hx)
    obtain ⟨j, _, rfl⟩ := List.mem_map.mp (show y ∈ (n :: ns).map PyData.int from hy)
    rfl
  · obtain ⟨i, _, rfl⟩ := List.mem_map.mp (show x ∈ (n :: ns).map PyData.int from hx)
    exact fun e => nomatch e
  · have := depth_ints (n :: ns)
    have e : PyData.depthAll (PyData.int n :: ns.map PyData.int) ≤ 1 := this
    omega
  · rw [PySem.W.maxD_ints] at hr
    cases hr
    exact ⟨.int _, H, I.kept hk, ⟨_, rfl⟩, q⟩
abbrev oMaxT : Op := op1 fun d => match d with
  | .node .tup xs => (intsOf xs).bind fun ns => (maxI ns).map .int
  | .node .tux xs => (intsOf xs).bind fun ns => (maxI ns).map .int
  | _ => none
theorem od_maxT : OpD X.w (rN (rMaxT X.w.K)) oMaxT := od1 fun I F H d v z hs h => by
  have key : ∀ xs : List D, d = .node .tup xs ∨ d = .node .tux xs → (intsOf xs).bind (fun ns => (maxI ns).map D.int) = some z → ∃ zv, z.scal = some zv ∧ ∀ Q E, Q zv H → rN (rMaxT X.w.K) [v] H Q E := by
    intro xs hd h
    obtain ⟨ns, e, h⟩ := Option.bind_eq_some_iff.mp h
    obtain ⟨x, ex, rfl⟩ := Option.map_eq_some_iff.mp h
    have hseq : d.seq = some xs := by rcases hd with rfl | rfl <;> rfl
    obtain ⟨a, us, rfl, _, _, hq, hl, ⟨fp, r⟩, _⟩ := hs.seq hseq
    have e2 := intsOf_rep r e
    subst e2
    cases ns with
    | nil => cases ex
    | cons n ns =>
      cases ex
      exact ⟨_, rfl, fun Q E q => ⟨a, n, ns, rfl, le_t hs.iH (hq hd), q⟩⟩
  split at h
  · exact key _ (.inl rfl) h
  · exact key _ (.inr rfl) h
  · cases h
end
end Z

set_option Elab.async false
set_option linter.all false
set_option maxRecDepth 100000
set_option maxHeartbeats 4000000
/-! ZR: dicts whose keys are flat tuples. -/
namespace Z
open PySem PySem.Spec PyProof.Rows L2 StX
/-! ### keys -/
def keysOf : List D → Option (List Key)
  | [] => some []
  | .int i :: ds => (keysOf ds).map (Sum.inl i :: ·)
  | .str x :: ds => (keysOf ds).map (Sum.inr x :: ·)
  | _ :: _ => none
theorem keysOf_rep {w : Wd} {I H : Hp} : ∀ {ds : List D} {us : List V} {fp : List Addr} {ks : List Key}, RepL w I H ds us fp → keysOf ds = some ks → us = ks.map kV
  | [], us, fp, ks, h, e => by
    unfold RepL at h
    cases e
    exact h.1
  | d :: ds, us, fp, ks, h, e => by
    unfold RepL at h
    obtain ⟨v, u, f1, f2, rfl, rfl, h1, h2⟩ := h
    cases d <;> simp [keysOf] at e
    · obtain ⟨ms, e1, rfl⟩ := e
      unfold Rep at h1
      rw [h1.1, keysOf_rep h2 e1]
      rfl
    · obtain ⟨ms, e1, rfl⟩ := e
      unfold Rep at h1
      rw [h1.1, keysOf_rep h2 e1]
      rfl
def keyOf : D → Option (List Key)
  | .node .tup xs => keysOf xs
  | _ => none
theorem Hs.key {w : Wd} {I F H : Hp} {ds : List D} {vs : List V} {d : D} {v : V} {k : List Key} (h : Hs w I F (d :: ds) (v :: vs) H) (e : keyOf d = some k) : ∃ b, v = .ref b ∧ H b = some (.tup (k.map kV)) := by
  unfold keyOf at e
  split at e
  · rename_i xs
    obtain ⟨fp, r⟩ := h.head
    unfold Rep at r
    obtain ⟨a, us, fp', rfl, hl, hf, q⟩ := r
    rcases q with ⟨ho, _, _⟩ | ⟨_, hat, _⟩
    · cases ho
    · rw [← keysOf_rep hl e]
      exact ⟨a, rfl, h.iH a _ hat⟩
  · cases e
/-- where a key stands: nowhere, or at one place -/
def dAt (ks : List (List Key)) (k : List Key) : Option (Option Nat) := match ks.findIdx? fun x => decide (x = k) with
  | none => some none
  | some j => if ((ks.drop (j + 1)).all fun x => decide (x ≠ k)) = true then some (some j) else none
def dKs (ks : List (List Key)) (k : List Key) : Option Nat → List (List Key)
  | none => ks ++ [k]
  | some _ => ks
def dXs {α : Type} (xs : List α) (r : α) : Option Nat → List α
  | none => xs ++ [r]
  | some j => xs.set j r
theorem valV_zip {k : List Key} : ∀ (ks : List (List Key)) (us : List V), ks.length = us.length → valV (ks.zip us) k = (ks.findIdx? fun x => decide (x = k)).bind fun j => us[j]?
  | [], us, _ => rfl
  | x :: ks, [], h => by cases h
  | x :: ks, u :: us, h => by
    have hl : ks.length = us.length := by simpa using h
    rw [List.zip_cons_cons, List.findIdx?_cons]
    by_cases e : x = k
    · rw [valV_pos (p := (x, u)) e, if_pos (by simpa using e)]
      rfl
    · rw [valV_neg (p := (x, u)) e, if_neg (by simpa using e), valV_zip ks us hl]
      cases (ks.findIdx? fun x => decide (x = k)) <;> rfl
theorem map_zip_none {k : List Key} {y : V} : ∀ (ks : List (List Key)) (us : List V), (ks.all fun x => decide (x ≠ k)) = true → (ks.zip us).map (fun kv => if kv.1 = k then (kv.1, y) else kv) = ks.zip us
  | [], us, _ => rfl
  | x :: ks, [], _ => rfl
  | x :: ks, u :: us, h => by
    rw [List.all_cons, Bool.and_eq_true] at h
    have hx : ¬ x = k := by simpa using h.1
    rw [List.zip_cons_cons, List.map_cons, if_neg hx, map_zip_none ks us h.2]
theorem map_zip {k : List Key} {y : V} : ∀ (ks : List (List Key)) (us : List V) (j : Nat), ks.length = us.length → (ks.findIdx? fun x => decide (x = k)) = some j → ((ks.drop (j + 1)).all fun x => decide (x ≠ k)) = true →
    (ks.zip us).map (fun kv => if kv.1 = k then (kv.1, y) else kv) = ks.zip (us.set j y)
  | [], us, j, _, h, _ => by cases h
  | x :: ks, [], j, h, _, _ => by cases h
  | x :: ks, u :: us, j, hl, h, hr => by
    have hl' : ks.length = us.length := by simpa using hl
    rw [List.findIdx?_cons] at h
    by_cases e : x = k
    · rw [if_pos (by simpa using e)] at h
      cases h
      rw [List.zip_cons_cons, List.map_cons, if_pos e, List.set_cons_zero, List.zip_cons_cons, map_zip_none ks us (by simpa using hr)]
    · rw [if_neg (by simpa using e)] at h
      obtain ⟨i, hi, rfl⟩ := Option.map_eq_some_iff.mp h
      rw [List.zip_cons_cons, List.map_cons, if_neg e, List.set_cons_succ, List.zip_cons_cons, map_zip ks us i hl' hi (by simpa using hr)]
theorem any_zip {k : List Key} : ∀ (ks : List (List Key)) (us : List V), ks.length = us.length → ((ks.zip us).any fun kv => decide (kv.1 = k)) = (ks.findIdx? fun x => decide (x = k)).isSome
  | ks, us, h => by
    rw [valV_any, valV_zip ks us h]
    cases e : (ks.findIdx? fun x => decide (x = k)) with
    | none => rfl
    | some j =>
      obtain ⟨hj, _⟩ := List.findIdx?_eq_some_iff_getElem.mp e
      show (us[j]?).isSome = true
      rw [List.getElem?_eq_getElem (by omega)]
      rfl
theorem putK_zip {k : List Key} {y : V} {ks : List (List Key)} {us : List V} {o : Option Nat} (hl : ks.length = us.length) (h : dAt ks k = some o) : putK (ks.zip us) k y = (dKs ks k o).zip (dXs us y o) := by
  unfold putK
  rw [any_zip ks us hl]
  unfold dAt at h
  cases e : (ks.findIdx? fun x => decide (x = k)) with
  | none =>
    rw [e] at h
    cases h
    rw [if_neg (by simp)]
    show _ = (ks ++ [k]).zip (us ++ [y])
    rw [List.zip_append hl]
    rfl
  | some j =>
    simp only [e] at h
    rw [if_pos (show (some j).isSome = true from rfl)]
    by_cases hr : ((ks.drop (j + 1)).all fun x => decide (x ≠ k)) = true
    · rw [if_pos hr] at h
      cases h
      exact map_zip ks us j hl e hr
    · rw [if_neg hr] at h
      cases h
/-! ### {} -/
section
variable {Γ : Cx} {X : Fx} {W : WX}
def mNewT : M := fun env => .ok (.node (.dt true []) []) env
theorem z_newT {pos : Pos} : PE Γ (.Dict [] [] pos) (tE X W mNewT) := PEi pe_dnewT fun σ H Q h => by
  obtain ⟨I, F, env, hs, er, o⟩ := h
  intro p np
  exact o (.ref p) I _ (Le.refl I) (Hs.newO (t := .dt true []) (xs := []) (us := []) (o := .dT []) hs rfl np rfl rfl (show upd H p (.dT []) p = some (.dT []) from upd_same)) er
/-! ### d[k] -/
def rDG : RN := fun us H Q _ => match us with
  | [x, y] => ∃ a v, x = .ref a ∧ DGet H a y (some v) ∧ Q v H
  | _ => False
def oDGet : Op
  | [.node (.dt o ks) xs, kd] => (match keyOf kd with
    | some k => (match ks.findIdx? fun x => decide (x = k) with
      | some j => (match xs[j]? with
        | some c => if c.isFrz = true then .ok c [.node (.dt o ks) xs, kd] else .ok c.frz [.node (.dt false ks) (frzL xs), kd]
        | none => .bad)
      | none => .bad)
    | none => .bad)
  | _ => .bad
theorem Hs.dict {w : Wd} {I F H : Hp} {ds : List D} {vs : List V} {o : Bool} {ks : List (List Key)} {xs : List D} {v : V} (h : Hs w I F (.node (.dt o ks) xs :: ds) (v :: vs) H) :
    ∃ a us fp, v = .ref a ∧ Rd H a (.dT (ks.zip us)) ∧ ks.length = us.length ∧ RepL w I H xs us fp := by
  obtain ⟨fp, r⟩ := h.head
  unfold Rep at r
  obtain ⟨a, us, fp', rfl, hl, hf, q⟩ := r
  rcases q with ⟨_, hat, _⟩ | ⟨_, hat, _⟩
  · exact ⟨a, us, fp', rfl, .inl hat, hf, hl⟩
  · exact ⟨a, us, fp', rfl, le_rd h.iH hat, hf, hl⟩
theorem Hs.dchild {w : Wd} {I F H : Hp} {ds : List D} {vs : List V} {o : Bool} {ks : List (List Key)} {xs : List D} {v : V} {c : D} {j : Nat} (h : Hs w I F (.node (.dt o ks) xs :: ds) (v :: vs) H) (hj : xs[j]? = some c) (hc : c.isFrz = true) :
    ∃ a us z, v = .ref a ∧ Rd H a (.dT (ks.zip us)) ∧ ks.length = us.length ∧ us[j]? = some z ∧ Hs w I F (c :: .node (.dt o ks) xs :: ds) (z :: v :: vs) H := by
  obtain ⟨a, us, fp, rfl, hd, hl, r⟩ := h.dict
  obtain ⟨z, f1, f2, hz, rz, _, _⟩ := r.take hj
  obtain rfl := rz.own_nil (frz_id hc)
  obtain ⟨fq, rq, nq, dq⟩ := h.ex
  exact ⟨a, us, z, rfl, hd, hl, hz, h.of_sub (RepL.cons (f1 := []) rz rq) rq nq dq nq fun b m => m⟩
theorem od_dget {w : Wd} : OpD w rDG oDGet := fun I F es us H Q E hs o => by
  unfold oDGet at o
  split at o
  · rename_i ow ks xs kd
    match us, hs.length, hs, o with
    | [v, u], _, hs, o =>
      cases e1 : keyOf kd with
      | none => simp only [e1] at o; exact o.elim
      | some k =>
        simp only [e1] at o
        cases e2 : (ks.findIdx? fun x => decide (x = k)) with
        | none => simp only [e2] at o; exact o.elim
        | some j =>
          simp only [e2] at o
          cases e3 : xs[j]? with
          | none => simp only [e3] at o; exact o.elim
          | some c =>
            simp only [e3] at o
            obtain ⟨b, rfl, hb⟩ := hs.drop.key e1
            by_cases hc : c.isFrz = true
            · rw [if_pos hc] at o
              obtain ⟨a, us, z, rfl, hd, hl, hz, h2⟩ := hs.dchild e3 hc
              exact ⟨a, z, rfl, .inr ⟨_, k, b, hd, rfl, hb, by rw [valV_zip ks us hl, e2]; exact hz.symm⟩, o z I H (Le.refl I) h2⟩
            · rw [if_neg hc] at o
              obtain ⟨J, le, h1⟩ := hs.freeze
              obtain ⟨a, us, z, rfl, hd, hl, hz, h2⟩ := Hs.dchild (o := false) (ks := ks) (xs := frzL xs) h1 (frzL_at e3) (isFrz_frz c)
              exact ⟨a, z, rfl, .inr ⟨_, k, b, hd, rfl, hb, by rw [valV_zip ks us hl, e2]; exact hz.symm⟩, o z J H le h2⟩
  · exact o.elim
theorem z_dget {a b : Expr} {pos : Pos} {oa ob : Opd} (hu : Γ.A.units + 1 < cLine) (ha : PE Γ a (tO X W oa)) (hb : PE Γ b (tO X W ob)) (hs : NoSl b) : PE Γ (.Subscript a b pos) (tE X W (mApp oDGet [oa, ob])) :=
  PEi (pe_dget hu ha hb hs) fun σ H Q h => app_run od_dget h
/-! ### d[k] = e, of a dict at a name -/
def sDict (i : Nat) (m mk : M) : S := fun env => match m env with
  | .ok r e1 => (match e1[i]? with
    | some (.node (.dt true _) _) => (match mk e1 with
      | .ok kd e2 => (match keyOf kd with
        | some k => (match e2[i]? with
          | some (.node (.dt true ks) xs) => (match dAt ks k with
            | some o => if xs.length < 100000 then .nx (e2.set i (.node (.dt true (dKs ks k o)) (dXs xs r o))) else .bad
            | none => .bad)
          | _ => .bad)
        | none => .bad)
      | .exc c ns xs e => .exc c ns xs e
      | .bad => .bad)
    | _ => .bad)
  | .exc c ns xs e => .exc c ns xs e
  | .bad => .bad
theorem hs_dput {w : Wd} {I F H : Hp} {ds : List D} {vs : List V} {r : D} {y : V} {ks : List (List Key)} {xs : List D} {v : V} {k : List Key} {o : Option Nat} (h : Hs w I F (r :: .node (.dt true ks) xs :: ds) (y :: v :: vs) H) (ho : dAt ks k = some o) :
    ∃ a us, v = .ref a ∧ H a = some (.dT (ks.zip us)) ∧ ks.length = us.length ∧ xs.length = us.length ∧ Hs w I F (.node (.dt true (dKs ks k o)) (dXs xs r o) :: ds) (v :: vs) (upd H a (.dT ((dKs ks k o).zip (dXs us y o)))) := by
  obtain ⟨a, us, G, rfl, hl, hf, hat, hs, _, close⟩ := h.swap.open rfl
  have hf : ks.length = us.length := hf
  refine ⟨a, us, rfl, hat, hf, hl, ?_⟩
  have h1 := hs.front hl
  cases o with
  | none =>
    have h2 : Hs w I G ((xs ++ [r]) ++ ds) ((us ++ [y]) ++ vs) H := by
      have h3 : Hs w I G (([r] ++ xs) ++ ds) (([y] ++ us) ++ vs) H := h1
      have hl2 : ([r] ++ xs).length = ([y] ++ us).length := by simp [hl]
      obtain ⟨fp, rr, nd, dj⟩ := h3.ex
      obtain ⟨f1, f2, rfl, r1, r2⟩ := rr.split hl2
      obtain ⟨g1, g2, rfl, q1, q2⟩ := r1.split (ds := [r]) (vs := [y]) rfl
      have p : List.Perm ((g1 ++ g2) ++ f2) ((g2 ++ g1) ++ f2) := List.Perm.append_right f2 List.perm_append_comm
      exact h3.of_sub ((q2.append q1).append r2) rr nd dj (p.nodup_iff.mp nd) fun b m => p.symm.subset m
    exact close I (.dt true (ks ++ [k])) (xs ++ [r]) (us ++ [y]) ds vs H (.dT ((ks ++ [k]).zip (us ++ [y]))) (Le.refl _) h2 (by simp [hl]) rfl (show (ks ++ [k]).length = (us ++ [y]).length by simpa using hf) (show upd H a _ a = some _ from upd_same)
  | some j =>
    have hj : j < xs.length := by
      unfold dAt at ho
      cases e : (ks.findIdx? fun x => decide (x = k)) with
      | none => rw [e] at ho; cases ho
      | some i =>
        obtain ⟨hi, _⟩ := List.findIdx?_eq_some_iff_getElem.mp e
        simp only [e] at ho
        split at ho
        · cases ho
          have : ks.length = us.length := hf
          omega
        · cases ho
    have h2 := h1.set (i := j) (by rw [List.length_append]; omega)
    rw [List.set_append_left _ _ hj, List.set_append_left _ _ (by omega)] at h2
    exact close I (.dt true ks) (xs.set j r) (us.set j y) ds vs H (.dT (ks.zip (us.set j y))) (Le.refl _) h2 (by simp [hl]) rfl (show ks.length = (us.set j y).length by simpa using hf) (show upd H a _ a = some _ from upd_same)
theorem dict_run {i : Nat} {m mk : M} {E : Ends} {σ : L2.St} {H : Hp} (q : tS X W (sDict i m mk) E σ H) : sDPut (tVar i) (tE X W mk) (tE X W m) E σ H := by
  obtain ⟨I, F, env, hs, er, o⟩ := q
  refine ⟨I, F, env, hs, er, ?_⟩
  unfold sDict at o
  cases hm : m env with
  | bad => simp only [hm] at o; exact o.elim
  | exc c ns xs e => simp only [hm] at o; exact fun cls d I' H' le h' er' x => o cls d σ I' H' le h' er' x
  | ok r e1 =>
    simp only [hm] at o
    intro y I1 H1 le1 h1 er1
    split at o
    · rename_i ks0 xs0 hd0
      obtain ⟨v, hv⟩ := er1.on i _ hd0 (fun z => nomatch z)
      obtain ⟨G, hg, back⟩ := Hs.push (ds := [r]) (vs := [y]) h1 rfl
      refine ⟨v, hv, I1, G, e1, hg, er1, ?_⟩
      cases hmi : mk e1 with
      | bad => simp only [hmi] at o; exact o.elim
      | exc c ns xs e =>
        simp only [hmi] at o
        intro cls d I2 H2 le2 h2 er2 x
        exact o cls d σ I2 H2 (le1.trans le2) (back I2 _ _ H2 le2 h2).drop er2 x
      | ok kd e2 =>
        simp only [hmi] at o
        intro u I2 H2 le2 h2 er2
        cases hk : keyOf kd with
        | none => simp only [hk] at o; exact o.elim
        | some k =>
          simp only [hk] at o
          obtain ⟨b, rfl, hb⟩ := h2.key hk
          split at o
          · rename_i ks xs hd
            cases ha : dAt ks k with
            | none => simp only [ha] at o; exact o.elim
            | some oo =>
              simp only [ha] at o
              by_cases hz : xs.length < 100000
              · rw [if_pos hz] at o
                have h3 : Hs X.w I2 F ([r] ++ e2) ([y] ++ σv σ) H2 := back I2 _ _ H2 le2 h2.drop
                obtain ⟨v', e', h4⟩ := Hs.take h3 rfl hd
                have ev : v' = v := Option.some.inj (e'.symm.trans (σv_at hv))
                subst ev
                obtain ⟨a, us, rfl, hat, hl, hl2, h5⟩ := hs_dput (Hs.swap h4) ha
                have lt : i < e2.length := (List.getElem?_eq_some_iff.mp hd).1
                have h6 := Hs.put (es := []) (us := []) (i := i) h5 rfl (by rw [List.getElem?_set_self lt]) e'
                rw [set_set] at h6
                refine ⟨a, _, rfl, .inr ⟨_, k, b, hat, rfl, hb, ?_, by rw [putK_zip hl ha]⟩, o σ I2 _ (le1.trans le2) h6 (er2.set hd fun _ z => nomatch z)⟩
                rw [List.length_zip, hl, Nat.min_self, ← hl2]
                exact szL hz
              · rw [if_neg hz] at o
                exact o.elim
          · exact o.elim
    · exact o.elim
theorem s_dict {x : Str} {i : Nat} {ei value : Expr} {pos pos' p : Pos} {m mk : M} (hu : Γ.A.units + 1 < cLine) (ha : PE Γ (.Name x p) (tVar i)) (hv : PE Γ value (tE X W m)) (hi : PE Γ ei (tE X W mk)) (hs : swapsWith value (some (.Subscript (.Name x p) ei pos')) pos.line Γ.env = pure false := by rfl) :
    PS Γ (.Assign [.Subscript (.Name x p) ei pos'] value pos) (tS X W (sDict i m mk)) := PSi (ps_dput hu ha hi hv hs) fun E σ H q => dict_run q
end
end Z

set_option Elab.async false
set_option linter.all false
set_option maxRecDepth 100000
set_option maxHeartbeats 4000000
/-! ZS: list(d), of a dict whose keys are tuples. -/
namespace Z
open PySem PySem.Spec PyProof.Rows L2 StX
section
variable {prog : Program} {w : World}
theorem walks_ents {A : Around} (hh : A.handled = none) (I d : Addr) (hne : d ≠ I) {o : Obj} {es : Array DictEntry} {ep : Nat} (hdat : o.data = .dict es ep) :
    PySem.Walks prog w A I [I, d] [I] es.size (fun i v => ∃ en : DictEntry, es[i]? = some en ∧ v = en.key) (fun i h => h.IsKeyIter I d i es.size ep ∧ h.get? d = some o) where
  sub := fun b hb => by simp at hb; simp [hb]
  frame := fun _ _ _ st hk => ⟨st.1.at fun o e => hk I (by simp) o e, hk d (by simp) _ st.2⟩
  item := fun i s Q E hi st hQ => by
    have hx := Array.getElem?_eq_getElem hi
    refine next_key_item st.1 st.2 hdat rfl hx fun h' hit' hs' => ?_
    exact hQ _ h' s.toks ⟨_, hx, rfl⟩ ⟨hit', (hs'.2 d hne).trans st.2⟩ fun b o hb e => hs'.extBut b o (fun h => hb (by simp [h])) e
  done := fun s Q E st hQ => next_key_end hh st.1 st.2 hdat rfl (Nat.le_refl _) fun h' he' => hQ h' s.toks fun b o hb e => he' b o (fun h => hb (by simp [h])) e
  self := fun _ _ _ _ st hQ => wpAny_pyIter_keyiter st.1 hQ
theorem kdl_ents {d : Addr} {o : Obj} {es : Array DictEntry} {ep : Nat} (lo : (d == sysModules) = false) (hc : o.ExactDict) (hdat : o.data = .dict es ep) :
    PySem.W.KdlSrc prog w "dict" d d es.size (fun i v => ∃ en : DictEntry, es[i]? = some en ∧ v = en.key) (fun h => h.get? d = some o) where
  type := fun s ho => ⟨o, ho, hc.1⟩
  there := fun _ ho => ⟨Heap.lt_size ho, Heap.lt_size ho⟩
  keep := fun _ _ ho hk => hk d (.inl rfl) _ ho
  notList := by decide
  notTuple := by decide
  hint := fun _ _ s _ ho hq => PySem.W.kdl_hint_dict ⟨o, ho, hc.1⟩ hq
  iter := fun _ _ hh ho => ⟨_, _, (fun _ _ hq => iter_keys lo ho hc hdat hq), walks_ents hh _ d (Nat.ne_of_lt (Heap.lt_size ho)) hdat, ⟨⟨_, Heap.get?_push_size _ rfl, rfl, rfl⟩, Heap.get?_push_of_some _ ho⟩⟩
end
def rListT : List V → Hp → VK → Prop := fun xs H Q => ∃ (a : Addr) (kvs : List (List Key × V)), xs = [.ref a] ∧ Rd H a (.dT kvs) ∧
  ∀ (qs : List Addr) (p : Addr), qs.length = kvs.length → (∀ (i : Nat) (k : List Key) (v : V), kvs[i]? = some (k, v) → ∃ q, qs[i]? = some q ∧ H q = some (.tup (k.map kV))) → H p = none → Q (.ref p) (upd H p (.lst (qs.map V.ref)))
theorem dT_ents {Γ : Cx} {pins : List (Addr × Obj)} {σ : L2.St} {H : Hp} {s : Shared} {a : Addr} {kvs : List (List Key × V)} (I : Inv Γ pins σ H s) (h : Rd H a (.dT kvs)) :
    kvs.length ≤ sizeLine ∧ (a == sysModules) = false ∧ ∃ (o : Obj) (es : Array DictEntry) (ep : Nat), s.heap.get? a = some o ∧ o.ExactDict ∧ o.data = .dict es ep ∧ es.size = kvs.length ∧
      ∃ qs : List Addr, qs.length = kvs.length ∧ ∀ (i : Nat) (k : List Key) (v : V), kvs[i]? = some (k, v) → ∃ (en : DictEntry) (q : Addr), es[i]? = some en ∧ qs[i]? = some q ∧ en.key = .ref q ∧ H q = some (.tup (k.map kV)) := by
  obtain ⟨z, y, xs, r, o, es, ep, h1, h2, h3, h4, h5⟩ := (show ObjOk Γ.prog Γ.w H s.heap a (.dT kvs) from rd_of I.hok h)
  have l1 : es.size = xs.length := size_of_entries h4
  have l2 : kvs.length = xs.length := Paired.length r
  refine ⟨z, y, o, es, ep, h1, h2, h3, by omega, xs.map (·.2.1), by simp [l2], fun i k v e => ?_⟩
  obtain ⟨b, hb, e1, e2, _⟩ := paired_get r e
  have q := entry_at h4 i
  rw [hb] at q
  exact ⟨_, b.2.1, q, by rw [List.getElem?_map, hb]; rfl, rfl, e2⟩
theorem call_listT {Γ : Cx} (hc : Γ.calm = true) : CallR Γ (.type "list") rListT := by
  intro pins s σ H xs us Q I r q
  obtain ⟨a, kvs, rfl, hd, q⟩ := q
  rw [Vals.ref1 r]
  obtain ⟨z, lo, o, es, ep, h1, h2, h3, h4, qs, lq, hk⟩ := dT_ents I hd
  refine PySem.W.kdl_call (kdl_ents lo h2 h3) (I.ok.hd hc) h1 (by omega) fun h' tk acc c' hkeep hD hacc => ?_
  have hv : Vals (qs.map V.ref) acc.toList := by
    have e : acc.toList = qs.map Value.ref := by
      apply List.ext_getElem?
      intro i
      have hl : acc.toList.length = qs.length := by rw [Array.length_toList, hacc.1, h4, lq]
      by_cases hi : i < qs.length
      · obtain ⟨⟨k, v⟩, hkv⟩ : ∃ p, kvs[i]? = some p := ⟨kvs[i], List.getElem?_eq_getElem (by omega)⟩
        obtain ⟨en, q1, e1, e2, e3, e4⟩ := hk i k v hkv
        have hia : i < acc.toList.length := by omega
        rw [List.getElem?_map, e2, List.getElem?_eq_getElem hia]
        obtain ⟨en2, e5, e6⟩ := hacc.2 i acc.toList[i] (by rw [← Array.getElem?_toList, List.getElem?_eq_getElem hia])
        rw [e1] at e5
        cases e5
        rw [e6, e3]
        rfl
      · rw [List.getElem?_eq_none (by omega), List.getElem?_eq_none (by rw [List.length_map]; omega)]
    rw [e]
    have : ∀ l : List Addr, Vals (l.map V.ref) (l.map Value.ref) := fun l => by
      induction l with
      | nil => exact .nil
      | cons x l ih => exact .cons rfl ih
    exact this qs
  refine ⟨.ref s.heap.objs.size, upd H s.heap.objs.size (.lst (qs.map V.ref)), I.laid (t' := tk) hkeep (Nat.le_refl _)
    (show ObjOk Γ.prog Γ.w _ _ _ (.lst (qs.map V.ref)) from ⟨by rw [List.length_map]; omega, acc.toList, c', hv, by rw [Array.toArray_toList]; exact hD⟩), rfl, q qs _ lq (fun i k v e => ?_) (I.hok.fresh (Nat.le_refl _))⟩
  obtain ⟨en, q1, _, e2, _, e4⟩ := hk i k v e
  exact ⟨q1, e2, e4⟩
end Z

set_option Elab.async false
set_option linter.all false
set_option maxRecDepth 100000
set_option maxHeartbeats 4000000
/-! ZT: keys that are held; list(d); dicts locked while they are gone through. -/
namespace Z
open PySem PySem.Spec PyProof.Rows L2 StX
section
variable {w : Wd} {I F H : Hp} {ds : List D} {vs : List V}
/-- a tuple of the heap is among what stays -/
theorem Hs.tupIn {q : Addr} {us : List V} (h : Hs w I F ds vs H) (e : H q = some (.tup us)) : ∃ J, Le I J ∧ Hs w J F ds vs H ∧ J q = some (.tup us) := by
  cases hI : I q with
  | some o =>
    have := (h.iF q o hI).1
    rw [e] at this
    cases this
    exact ⟨I, Le.refl _, h, hI⟩
  | none =>
    have pF : F q = none := by
      cases eF : F q with
      | none => rfl
      | some o =>
        have := h.fH q o eF
        rw [e] at this
        cases this
        exact absurd eF (h.fT q us)
    obtain ⟨fp, r, nd, dj⟩ := h.ex
    have nq : q ∉ fp := fun m => RepL.notup _ _ _ r q m us e
    have le : Le I (upd I q (.tup us)) := Le.new hI
    refine ⟨upd I q (.tup us), le, ⟨⟨fp, RepL.frame le ds vs fp (fun _ _ => rfl) r, nd, fun a m => ⟨?_, (dj a m).2⟩⟩, fun a o ea => ?_, h.fH, h.fT, h.lkI.trans le, h.fkF⟩, upd_same⟩
    · rw [upd_ne (fun e2 => nq (by rw [← e2]; exact m))]
      exact (dj a m).1
    · by_cases qa : a = q
      · subst qa
        rw [upd_same] at ea
        cases ea
        exact ⟨e, pF⟩
      · rw [upd_ne qa] at ea
        exact h.iF a o ea
def kD : Key → D
  | .inl i => .int i
  | .inr x => .str x
def keyD (k : List Key) : D := .node .tup (k.map kD)
theorem repL_keys {I H : Hp} : ∀ k : List Key, RepL w I H (k.map kD) (k.map kV) []
  | [] => .nil
  | .inl i :: ks => RepL.cons (f1 := []) (by show Rep w I H (.int i) (.int i) []; unfold Rep; exact ⟨rfl, rfl⟩) (repL_keys ks)
  | .inr x :: ks => RepL.cons (f1 := []) (by show Rep w I H (.str x) (.str x) []; unfold Rep; exact ⟨rfl, rfl⟩) (repL_keys ks)
theorem Hs.keyIn {q : Addr} {k : List Key} (h : Hs w I F ds vs H) (e : H q = some (.tup (k.map kV))) : ∃ J, Le I J ∧ Hs w J F (keyD k :: ds) (.ref q :: vs) H := by
  obtain ⟨J, le, h2, hJ⟩ := h.tupIn e
  obtain ⟨fp, r, nd, dj⟩ := h2.ex
  have rk : Rep w J H (keyD k) (.ref q) [] := by
    unfold keyD Rep
    exact ⟨q, k.map kV, [], rfl, repL_keys k, trivial, .inr ⟨rfl, hJ, rfl⟩⟩
  exact ⟨J, le, h2.of_sub (RepL.cons (f1 := []) rk r) r nd dj nd fun a m => m⟩
theorem Hs.keysIn : ∀ {I : Hp} (ks : List (List Key)) (qs : List Addr), Hs w I F ds vs H → qs.length = ks.length → (∀ (i : Nat) (k : List Key), ks[i]? = some k → ∃ q, qs[i]? = some q ∧ H q = some (.tup (k.map kV))) → ∃ J, Le I J ∧ Hs w J F (ks.map keyD ++ ds) (qs.map V.ref ++ vs) H
  | I, [], qs, h, hl, _ => by
    have : qs = [] := List.length_eq_zero_iff.mp hl
    subst this
    exact ⟨I, Le.refl _, h⟩
  | I, k :: ks, [], h, hl, _ => by cases hl
  | I, k :: ks, q :: qs, h, hl, hk => by
    obtain ⟨J, le, h2⟩ := Hs.keysIn ks qs h (by simpa using hl) fun i k' e => hk (i + 1) k' e
    obtain ⟨q', e1, e2⟩ := hk 0 k rfl
    cases e1
    obtain ⟨J2, le2, h3⟩ := h2.keyIn e2
    exact ⟨J2, le.trans le2, h3⟩
/-! ### list(d) -/
def oListT : Op
  | [.node (.dt o ks) xs] => .ok (.node (.lst true) (ks.map keyD)) [.node (.dt o ks) xs]
  | _ => .bad
theorem od_listT : OpD w (rN rListT) oListT := fun I F es us H Q E hs o => by
  unfold oListT at o
  split at o
  · rename_i ow ks xs
    match us, hs.length, hs, o with
    | [v], _, hs, o =>
      obtain ⟨a, us, fp, rfl, hd, hl, r⟩ := hs.dict
      refine ⟨a, ks.zip us, rfl, hd, fun qs p lq hk np => ?_⟩
      have lz : (ks.zip us).length = ks.length := by rw [List.length_zip, hl, Nat.min_self]
      obtain ⟨J, le, h2⟩ := Hs.keysIn ks qs hs (by omega) fun i k e => by
        obtain ⟨hi, _⟩ := List.getElem?_eq_some_iff.mp e
        have hi2 : i < us.length := by omega
        exact hk i k us[i] (by rw [List.getElem?_zip_eq_some]; exact ⟨e, List.getElem?_eq_getElem hi2⟩)
      exact o (.ref p) J _ le (Hs.newO (t := .lst true) h2 (by simp; omega) np rfl trivial (show upd H p (.lst (qs.map V.ref)) p = some (.lst (qs.map V.ref)) from upd_same))
  · exact o.elim
/-! ### locks -/
/-- two views of one dict -/
inductive Two : HO → HO → Prop where
  | lock (kvs : List (List Key × V)) (od : Obj) : Two (.dT kvs) (.frz od (.dT kvs))
  | open (kvs : List (List Key × V)) (od : Obj) : Two (.frz od (.dT kvs)) (.dT kvs)
theorem FroAt.two {w w' : Wd} {I : Hp} {a b : Addr} {x y : HO} {t : Tag} {vs : List V} (hK : w'.K = w.K) (hA : w'.cA = w.cA) (hx : I a = some x) (T : Two x y) (h : FroAt w I b t vs) : FroAt w' (upd I a y) b t vs := by
  by_cases e : b = a
  · subst e
    cases t with
    | tup => rw [show I b = some (.tup vs) from h] at hx; cases hx; cases T
    | tux =>
      obtain ⟨od, h, n⟩ := h
      rw [h] at hx
      cases hx
      cases T
    | scr =>
      rcases (show SqL w.K I b vs from h) with (h | ⟨od, h⟩) | h
      · rw [h] at hx; cases hx; cases T
      · rw [h] at hx; cases hx; cases T
      · exact Or.inr (by rw [hK]; exact h)
    | lst o => rw [show I b = some (.lst vs) from h] at hx; cases hx; cases T
    | dk o ks =>
      rcases (show Rd I b (.dK (ks.zip vs)) from h) with h | ⟨od, h⟩
      · rw [h] at hx; cases hx; cases T
      · rw [h] at hx; cases hx; cases T
    | dt o ks =>
      rcases (show Rd I b (.dT (ks.zip vs)) from h) with h | ⟨od, h⟩
      · rw [h] at hx
        cases hx
        cases T
        exact .inr ⟨_, upd_same⟩
      · rw [h] at hx
        cases hx
        cases T
        exact .inl upd_same
    | ins o c ns =>
      obtain ⟨dx, h⟩ := h
      rw [h] at hx
      cases hx
      cases T
  · have e2 : (upd I a y) b = I b := upd_ne e
    cases t with
    | tup => exact e2.trans h
    | tux => obtain ⟨od, h, n⟩ := h; exact ⟨od, e2.trans h, n⟩
    | scr =>
      rcases (show SqL w.K I b vs from h) with (h | ⟨od, h⟩) | h
      · exact Or.inl (Or.inl (e2.trans h))
      · exact Or.inl (Or.inr ⟨od, e2.trans h⟩)
      · exact Or.inr (by rw [hK]; exact h)
    | lst o => exact e2.trans h
    | dk o ks =>
      rcases (show Rd I b (.dK (ks.zip vs)) from h) with h | ⟨od, h⟩
      · exact .inl (e2.trans h)
      · exact .inr ⟨od, e2.trans h⟩
    | dt o ks =>
      rcases (show Rd I b (.dT (ks.zip vs)) from h) with h | ⟨od, h⟩
      · exact .inl (e2.trans h)
      · exact .inr ⟨od, e2.trans h⟩
    | ins o c ns => obtain ⟨dx, h⟩ := h; exact ⟨dx, by rw [hA]; exact e2.trans h⟩
theorem OwnAt.two {w w' : Wd} {H : Hp} {a b : Addr} {y : HO} {t : Tag} {vs : List V} (hA : w'.cA = w.cA) (e : b ≠ a) (h : OwnAt w H b t vs) : OwnAt w' (upd H a y) b t vs := by
  have e2 : (upd H a y) b = H b := upd_ne e
  cases t with
  | tup => exact e2.trans h
  | tux => obtain ⟨od, h, n⟩ := h; exact ⟨od, e2.trans h, n⟩
  | scr => exact e2.trans h
  | lst o => exact e2.trans h
  | dk o ks => exact e2.trans h
  | dt o ks => exact e2.trans h
  | ins o c ns => obtain ⟨dx, h⟩ := h; exact ⟨dx, by rw [hA]; exact e2.trans h⟩
mutual
theorem Rep.two {w w' : Wd} {I H : Hp} {a : Addr} {x y : HO} (hK : w'.K = w.K) (hA : w'.cA = w.cA) (hx : I a = some x) (T : Two x y) : ∀ (d : D) (v : V) (fp : List Addr), a ∉ fp → Rep w I H d v fp → Rep w' (upd I a y) (upd H a y) d v fp
  | .any, v, fp, _, h => by unfold Rep at h ⊢; exact h
  | .non, v, fp, _, h => by unfold Rep at h ⊢; exact h
  | .bl b, v, fp, _, h => by unfold Rep at h ⊢; exact h
  | .int i, v, fp, _, h => by unfold Rep at h ⊢; exact h
  | .str s, v, fp, _, h => by unfold Rep at h ⊢; exact h
  | .node t xs, v, fp, na, h => by
    unfold Rep at h ⊢
    obtain ⟨b, vs, fp', rfl, hl, hf, h⟩ := h
    rcases h with ⟨ho, h, rfl⟩ | ⟨ho, h, rfl⟩
    · exact ⟨b, vs, fp', rfl, RepL.two hK hA hx T xs vs fp' (fun m => na (List.mem_cons_of_mem _ m)) hl, hf, .inl ⟨ho, h.two hA (fun e => na (by rw [← e]; exact List.mem_cons_self ..)), rfl⟩⟩
    · exact ⟨b, vs, fp, rfl, RepL.two hK hA hx T xs vs fp na hl, hf, .inr ⟨ho, h.two hK hA hx T, rfl⟩⟩
theorem RepL.two {w w' : Wd} {I H : Hp} {a : Addr} {x y : HO} (hK : w'.K = w.K) (hA : w'.cA = w.cA) (hx : I a = some x) (T : Two x y) : ∀ (ds : List D) (vs : List V) (fp : List Addr), a ∉ fp → RepL w I H ds vs fp → RepL w' (upd I a y) (upd H a y) ds vs fp
  | [], vs, fp, _, h => by unfold RepL at h ⊢; exact h
  | d :: ds, vs, fp, na, h => by
    unfold RepL at h ⊢
    obtain ⟨v, us, f1, f2, rfl, rfl, h1, h2⟩ := h
    exact ⟨v, us, f1, f2, rfl, rfl, Rep.two hK hA hx T d v f1 (fun m => na (List.mem_append_left _ m)) h1, RepL.two hK hA hx T ds us f2 (fun m => na (List.mem_append_right _ m)) h2⟩
end
theorem Hs.two {w w' : Wd} {I F H : Hp} {ds : List D} {vs : List V} {a : Addr} {x y : HO} (h : Hs w I F ds vs H) (hK : w'.K = w.K) (hA : w'.cA = w.cA) (hx : I a = some x) (T : Two x y) (hl : Le w'.lk (upd I a y)) (hfk : w'.fk = w.fk) : Hs w' (upd I a y) F ds vs (upd H a y) := by
  obtain ⟨fp, r, nd, dj⟩ := h.ex
  have na : a ∉ fp := fun m => by
    have := (dj a m).1
    rw [hx] at this
    cases this
  have aF := (h.iF a x hx).2
  refine ⟨⟨fp, RepL.two hK hA hx T ds vs fp na r, nd, fun b m => ⟨?_, (dj b m).2⟩⟩, fun b o e => ?_, fun b o e => ?_, h.fT, hl, by rw [hfk]; exact h.fkF⟩
  · rw [upd_ne (fun e => na (by rw [← e]; exact m))]
    exact (dj b m).1
  · by_cases q : b = a
    · subst q
      rw [upd_same] at e ⊢
      exact ⟨e, aF⟩
    · rw [upd_ne q] at e ⊢
      exact h.iF b o e
  · have nb : b ≠ a := fun q => by rw [q, aF] at e; cases e
    rw [upd_ne nb]
    exact h.fH b o e
end
end Z

set_option Elab.async false
set_option linter.all false
set_option maxRecDepth 100000
set_option maxHeartbeats 4000000
/-! ZU: for k in d. -/
namespace Z
open PySem PySem.Spec PyProof.Rows L2 StX
/-- the dict at slot i is locked, and stays in its slot -/
def Lkd (X : Fx) (i : Nat) : Prop := ∃ (a : Addr) (od : Obj) (kvs : List (List Key × V)), X.w.lk a = some (.frz od (.dT kvs)) ∧ X.vs0[i]? = some (.ref a) ∧ i ∈ X.pin
theorem walks_keys {w : Wd} {I : Hp} {a : Addr} {od : Obj} {ks : List (List Key)} {us : List V} (hl : ks.length = us.length) (h : I a = some (.frz od (.dT (ks.zip us)))) : Walks w (Itkt a od (ks.zip us)) I (ks.map keyD) where
  go := fun i I0 F ds vs H hs le hi => ⟨hs.iH a _ (le a _ h), by
    rw [List.length_map] at hi
    rw [List.length_zip, hl, Nat.min_self]
    omega⟩
  stop := fun I0 F ds vs H hs le => ⟨hs.iH a _ (le a _ h), by
    rw [List.length_map, List.length_zip, hl, Nat.min_self]
    omega⟩
  yld := fun i d I0 F ds vs H x H' hs le hd y => by
    obtain ⟨rfl, k, v, q, hkv, rfl, hq⟩ := y
    rw [List.getElem?_zip_eq_some] at hkv
    rw [List.getElem?_map, hkv.1] at hd
    cases hd
    exact hs.keyIn hq
section
variable {Γ : Cx} {X : Fx} {W : WX}
mutual
theorem Rep.wd {K : PySem.W.Frag} {cA : Str → Addr} {l l' m : Hp} {I H : Hp} : ∀ (d : D) (v : V) (fp : List Addr), Rep ⟨K, cA, l, m⟩ I H d v fp → Rep ⟨K, cA, l', m⟩ I H d v fp
  | .any, v, fp, h => by unfold Rep at h ⊢; exact h
  | .non, v, fp, h => by unfold Rep at h ⊢; exact h
  | .bl b, v, fp, h => by unfold Rep at h ⊢; exact h
  | .int i, v, fp, h => by unfold Rep at h ⊢; exact h
  | .str s, v, fp, h => by unfold Rep at h ⊢; exact h
  | .node t xs, v, fp, h => by
    unfold Rep at h ⊢
    obtain ⟨b, vs, fp', rfl, hl, hf, h⟩ := h
    refine ⟨b, vs, fp', rfl, RepL.wd xs vs fp' hl, hf, ?_⟩
    rcases h with ⟨ho, h, e⟩ | ⟨ho, h, e⟩
    · exact .inl ⟨ho, by cases t <;> exact h, e⟩
    · exact .inr ⟨ho, by cases t <;> exact h, e⟩
theorem RepL.wd {K : PySem.W.Frag} {cA : Str → Addr} {l l' m : Hp} {I H : Hp} : ∀ (ds : List D) (vs : List V) (fp : List Addr), RepL ⟨K, cA, l, m⟩ I H ds vs fp → RepL ⟨K, cA, l', m⟩ I H ds vs fp
  | [], vs, fp, h => by unfold RepL at h ⊢; exact h
  | d :: ds, vs, fp, h => by
    unfold RepL at h ⊢
    obtain ⟨v, us, f1, f2, rfl, rfl, h1, h2⟩ := h
    exact ⟨v, us, f1, f2, rfl, rfl, Rep.wd d v f1 h1, RepL.wd ds us f2 h2⟩
end
theorem Hs.relk {K : PySem.W.Frag} {cA : Str → Addr} {l l' m : Hp} {I F H : Hp} {ds : List D} {vs : List V} (h : Hs ⟨K, cA, l, m⟩ I F ds vs H) (hl : Le l' I) : Hs ⟨K, cA, l', m⟩ I F ds vs H := by
  obtain ⟨fp, r, nd, dj⟩ := h.ex
  exact ⟨⟨fp, RepL.wd ds vs fp r, nd, dj⟩, h.iF, h.fH, h.fT, hl, h.fkF⟩
/-- the keys of the dict at a name -/
def iKeysP (i : Nat) : Src := fun env => match env[i]? with
  | some (.node (.dt _ ks) _) => .ok (ks.map keyD) env
  | _ => .bad
theorem i_keys {tg : Expr} {x : Str} {p : Pos} {i : Nat} (hx : PE Γ (.Name x p) (tVar i)) (hk : Lkd X i) : PI Γ tg (.Name x p) (tI X W (iKeysP i)) := PIi (pi_keys hx) fun σ H R q => by
  obtain ⟨I, F, env, hs, er, o⟩ := q
  unfold iKeysP at o
  split at o
  · rename_i ow ks xs hd
    obtain ⟨a, od, kvs, h1, h2, h3⟩ := hk
    have hv := er.pin i h3 _ h2
    have hI := hs.lkI a _ h1
    obtain ⟨v', e', h4⟩ := Hs.take (es := []) (us := []) hs rfl hd
    have ev : v' = .ref a := Option.some.inj (e'.symm.trans (σv_at hv))
    subst ev
    obtain ⟨a', us, fp, e5, hr, hl, _⟩ := h4.dict
    cases e5
    have hH := hs.iH a _ hI
    have ez : kvs = ks.zip us := by
      rcases hr with hr | ⟨od', hr⟩
      · rw [hH] at hr; cases hr
      · rw [hH] at hr; cases hr; rfl
    subst ez
    exact ⟨_, hv, a, od, rfl, .inr ⟨_, hH, o _ I H (Le.refl I) hs er (walks_keys hl hI)⟩⟩
  · exact o.elim
/-- a statement run while the dict at slot i is locked; nothing is raised in it -/
def sLk (i : Nat) (s : S) : S := fun env => match env[i]? with
  | some (.node (.dt _ ks) xs) => (match s (env.set i (.node (.dt false ks) (frzL xs))) with
    | .exc _ _ _ _ => .bad
    | r => r)
  | _ => .bad
theorem s_lock {st : Stmt} {i : Nat} {w : Wd} {pin : List Nat} {vs0 : List V} {s : S} (hpin : ∀ j ∈ pin, j < vs0.length)
    (h : ∀ (lk' : Hp) (vs' : List V), (∀ j ∈ i :: pin, j < vs'.length) → Lkd ⟨⟨w.K, w.cA, lk', w.fk⟩, i :: pin, vs'⟩ i → PS Γ st (tS ⟨⟨w.K, w.cA, lk', w.fk⟩, i :: pin, vs'⟩ W s)) : PS Γ st (tS ⟨w, pin, vs0⟩ W (sLk i s)) := by
  have h1 : PS Γ st (fun E σ H => ∃ (lk' : Hp) (vs' : List V), (∀ j ∈ i :: pin, j < vs'.length) ∧ Lkd ⟨⟨w.K, w.cA, lk', w.fk⟩, i :: pin, vs'⟩ i ∧ tS ⟨⟨w.K, w.cA, lk', w.fk⟩, i :: pin, vs'⟩ W s E σ H) := ⟨fun pins sh σ H D I q => by
    obtain ⟨lk', vs', c1, c3, q⟩ := q
    exact (h lk' vs' c1 c3).run pins sh σ H D I q⟩
  have h2 := ps_lock h1
  refine ⟨fun pins sh σ H E Iv q => ?_⟩
  obtain ⟨I, F, env, hs, er, o⟩ := q
  unfold sLk at o
  split at o
  · rename_i ow ks xs hd
    obtain ⟨v, J, hv, le, h3⟩ := hs_read hs er hd (fun z => nomatch z)
    obtain ⟨a, us, fp, rfl, hr, hl, _⟩ := Hs.dict (o := false) (ks := ks) (xs := frzL xs) h3
    have h4 : Hs w J F (env.set i (.node (.dt false ks) (frzL xs))) (σv σ) H := h3.drop
    have hrJ : Rd J a (.dT (ks.zip us)) := by
      obtain ⟨fp, r⟩ := h3.head
      have r2 : Rep w J H (.node (.dt false ks) (frzL xs)) (.ref a) fp := r
      unfold Rep at r2
      obtain ⟨a2, us2, fp2, e2, _, hf2, q2⟩ := r2
      cases e2
      rcases q2 with ⟨z, _, _⟩ | ⟨_, hat, _⟩
      · cases z
      · have hat' : Rd J a (.dT (ks.zip us2)) := hat
        have hH := le_rd h3.iH hat'
        have key : ∀ x y : List (List Key × V), Rd H a (.dT x) → Rd H a (.dT y) → x = y := fun x y hx hy => by
          rcases hx with hx | ⟨ox, hx⟩ <;> rcases hy with hy | ⟨oy, hy⟩ <;> rw [hx] at hy <;> cases hy <;> rfl
        rw [key _ _ hr hH]
        exact hat'
    have er1 : ∀ (w' : Wd), EnvR ⟨w', i :: pin, σv σ⟩ σ (env.set i (.node (.dt false ks) (frzL xs))) := fun w' => by
      have z := er.set hd (d' := .node (.dt false ks) (frzL xs)) fun _ z => nomatch z
      refine ⟨z.on, fun j hj v hvj => ?_⟩
      rcases List.mem_cons.mp hj with rfl | hj
      · rw [σv_at hv] at hvj
        cases hvj
        exact hv
      · have lt := hpin j hj
        have hp := er.pin j hj vs0[j] (List.getElem?_eq_getElem lt)
        rw [σv_at hp] at hvj
        cases hvj
        exact hp
    have er2 : ∀ (w' : Wd) (σ' : L2.St) (e : Env), EnvR ⟨w', i :: pin, σv σ⟩ σ' e → EnvR ⟨w, pin, vs0⟩ σ' e := fun w' σ' e z => by
      refine ⟨z.on, fun j hj v hvj => ?_⟩
      exact z.pin j (List.mem_cons_of_mem _ hj) v (σv_at (er.pin j hj v hvj))
    have hlen : ∀ j ∈ i :: pin, j < (σv σ).length := fun j hj => by
      rw [σv_len]
      rcases List.mem_cons.mp hj with rfl | hj
      · exact (List.getElem?_eq_some_iff.mp hv).1
      · exact (List.getElem?_eq_some_iff.mp (er.pin j hj (vs0[j]'(hpin j hj)) (List.getElem?_eq_getElem (hpin j hj)))).1
    rcases hrJ with hJ | ⟨od, hJ⟩
    · refine h2.run pins sh σ H E Iv ⟨a, _, h3.iH a _ hJ, trivial, fun od => ?_⟩
      refine ⟨upd w.lk a (.frz od (.dT (ks.zip us))), σv σ, hlen, ⟨a, od, _, upd_same, σv_at hv, List.mem_cons_self ..⟩, upd J a (.frz od (.dT (ks.zip us))), F, _, ?_, er1 _, ?_⟩
      · refine Hs.two (w' := ⟨w.K, w.cA, upd w.lk a (.frz od (.dT (ks.zip us))), w.fk⟩) h4 rfl rfl hJ (.lock _ od) (fun b ob e => ?_) rfl
        by_cases q : b = a
        · subst q
          have e' : upd w.lk b (.frz od (.dT (ks.zip us))) b = some ob := e
          rw [upd_same] at e' ⊢
          exact e'
        · have e' : upd w.lk a (.frz od (.dT (ks.zip us))) b = some ob := e
          rw [upd_ne q] at e' ⊢
          exact h4.lkI b ob e'
      · have back : ∀ (ds : List D) (vs : List V) (I' H' : Hp), Le (upd J a (.frz od (.dT (ks.zip us)))) I' → Hs ⟨w.K, w.cA, upd w.lk a (.frz od (.dT (ks.zip us))), w.fk⟩ I' F ds vs H' →
            H' a = some (.frz od (.dT (ks.zip us))) ∧ Le I (upd I' a (.dT (ks.zip us))) ∧ Hs w (upd I' a (.dT (ks.zip us))) F ds vs (upd H' a (.dT (ks.zip us))) := fun ds vs I' H' le' hs' => by
          have hI' := le' a _ upd_same
          refine ⟨hs'.iH a _ hI', fun b ob e => ?_, Hs.two hs' rfl rfl hI' (.open _ od) (fun b ob e => ?_) rfl⟩
          · by_cases q : b = a
            · subst q
              have := le b _ e
              rw [hJ] at this
              rw [upd_same]
              exact this
            · rw [upd_ne q]
              exact le' b ob (by rw [upd_ne q]; exact le b ob e)
          · by_cases q : b = a
            · subst q
              have := h4.lkI b ob e
              rw [hJ] at this
              rw [upd_same]
              exact this
            · rw [upd_ne q]
              exact hs'.lkI b ob (show upd w.lk a (.frz od (.dT (ks.zip us))) b = some ob by rw [upd_ne q]; exact e)
        cases hm : s (env.set i (.node (.dt false ks) (frzL xs))) with
        | bad => simp only [hm] at o; exact o.elim
        | exc c ns ys e => simp only [hm] at o; exact o.elim
        | nx e =>
          simp only [hm] at o
          exact fun σ' I' H' le' hs' er' => let ⟨k1, k2, k3⟩ := back _ _ _ _ le' hs'; ⟨k1, o σ' _ _ k2 k3 (er2 _ _ _ er')⟩
        | bk e =>
          simp only [hm] at o
          exact fun σ' I' H' le' hs' er' => let ⟨k1, k2, k3⟩ := back _ _ _ _ le' hs'; ⟨k1, o σ' _ _ k2 k3 (er2 _ _ _ er')⟩
        | ct e =>
          simp only [hm] at o
          exact fun σ' I' H' le' hs' er' => let ⟨k1, k2, k3⟩ := back _ _ _ _ le' hs'; ⟨k1, o σ' _ _ k2 k3 (er2 _ _ _ er')⟩
        | rt d e =>
          simp only [hm] at o
          exact fun v σ' I' H' le' hs' er' => let ⟨k1, k2, k3⟩ := back _ _ _ _ le' hs'; ⟨k1, o v σ' _ _ k2 k3 (er2 _ _ _ er')⟩
    · refine h1.run pins sh σ H E Iv ⟨upd w.lk a (.frz od (.dT (ks.zip us))), σv σ, hlen, ⟨a, od, _, upd_same, σv_at hv, List.mem_cons_self ..⟩, J, F, _, ?_, er1 _, ?_⟩
      · refine Hs.relk (l := w.lk) h4 fun b ob e => ?_
        by_cases q : b = a
        · subst q
          rw [upd_same] at e
          rw [hJ]
          exact e
        · rw [upd_ne q] at e
          exact h4.lkI b ob e
      · have back : ∀ (ds : List D) (vs : List V) (I' H' : Hp), Le J I' → Hs ⟨w.K, w.cA, upd w.lk a (.frz od (.dT (ks.zip us))), w.fk⟩ I' F ds vs H' → Le I I' ∧ Hs w I' F ds vs H' := fun ds vs I' H' le' hs' =>
          ⟨le.trans le', Hs.relk (l' := w.lk) hs' (h4.lkI.trans le')⟩
        cases hm : s (env.set i (.node (.dt false ks) (frzL xs))) with
        | bad => simp only [hm] at o; exact o.elim
        | exc c ns ys e => simp only [hm] at o; exact o.elim
        | nx e =>
          simp only [hm] at o
          exact fun σ' I' H' le' hs' er' => let ⟨k2, k3⟩ := back _ _ _ _ le' hs'; o σ' _ _ k2 k3 (er2 _ _ _ er')
        | bk e =>
          simp only [hm] at o
          exact fun σ' I' H' le' hs' er' => let ⟨k2, k3⟩ := back _ _ _ _ le' hs'; o σ' _ _ k2 k3 (er2 _ _ _ er')
        | ct e =>
          simp only [hm] at o
          exact fun σ' I' H' le' hs' er' => let ⟨k2, k3⟩ := back _ _ _ _ le' hs'; o σ' _ _ k2 k3 (er2 _ _ _ er')
        | rt d e =>
          simp only [hm] at o
          exact fun v σ' I' H' le' hs' er' => let ⟨k2, k3⟩ := back _ _ _ _ le' hs'; o v σ' _ _ k2 k3 (er2 _ _ _ er')
  · exact o.elim
end
end Z

set_option Elab.async false
set_option linter.all false
set_option maxRecDepth 100000
set_option maxHeartbeats 4000000
/-! ZV: expressions over a locked dict. -/
namespace Z
open PySem PySem.Spec PyProof.Rows L2 StX
section
variable {Γ : Cx} {X : Fx} {W : WX}
/-- an expression, likewise -/
def mLk (i : Nat) (s : M) : M := fun env => match env[i]? with
  | some (.node (.dt _ ks) xs) => (match s (env.set i (.node (.dt false ks) (frzL xs))) with
    | .exc _ _ _ _ => .bad
    | r => r)
  | _ => .bad
theorem z_lock {st : Expr} {i : Nat} {w : Wd} {pin : List Nat} {vs0 : List V} {s : M} (hpin : ∀ j ∈ pin, j < vs0.length)
    (h : ∀ (lk' : Hp) (vs' : List V), (∀ j ∈ i :: pin, j < vs'.length) → Lkd ⟨⟨w.K, w.cA, lk', w.fk⟩, i :: pin, vs'⟩ i → PE Γ st (tE ⟨⟨w.K, w.cA, lk', w.fk⟩, i :: pin, vs'⟩ W s)) : PE Γ st (tE ⟨w, pin, vs0⟩ W (mLk i s)) := by
  have h1 : PE Γ st (fun σ H Q => ∃ (lk' : Hp) (vs' : List V), (∀ j ∈ i :: pin, j < vs'.length) ∧ Lkd ⟨⟨w.K, w.cA, lk', w.fk⟩, i :: pin, vs'⟩ i ∧ tE ⟨⟨w.K, w.cA, lk', w.fk⟩, i :: pin, vs'⟩ W s σ H Q) := ⟨fun pins sh σ H D I q => by
    obtain ⟨lk', vs', c1, c3, q⟩ := q
    exact (h lk' vs' c1 c3).run pins sh σ H D I q⟩
  have h2 := pe_lock h1
  refine ⟨fun pins sh σ H E Iv q => ?_⟩
  obtain ⟨I, F, env, hs, er, o⟩ := q
  unfold mLk at o
  split at o
  · rename_i ow ks xs hd
    obtain ⟨v, J, hv, le, h3⟩ := hs_read hs er hd (fun z => nomatch z)
    obtain ⟨a, us, fp, rfl, hr, hl, _⟩ := Hs.dict (o := false) (ks := ks) (xs := frzL xs) h3
    have h4 : Hs w J F (env.set i (.node (.dt false ks) (frzL xs))) (σv σ) H := h3.drop
    have hrJ : Rd J a (.dT (ks.zip us)) := by
      obtain ⟨fp, r⟩ := h3.head
      have r2 : Rep w J H (.node (.dt false ks) (frzL xs)) (.ref a) fp := r
      unfold Rep at r2
      obtain ⟨a2, us2, fp2, e2, _, hf2, q2⟩ := r2
      cases e2
      rcases q2 with ⟨z, _, _⟩ | ⟨_, hat, _⟩
      · cases z
      · have hat' : Rd J a (.dT (ks.zip us2)) := hat
        have hH := le_rd h3.iH hat'
        have key : ∀ x y : List (List Key × V), Rd H a (.dT x) → Rd H a (.dT y) → x = y := fun x y hx hy => by
          rcases hx with hx | ⟨ox, hx⟩ <;> rcases hy with hy | ⟨oy, hy⟩ <;> rw [hx] at hy <;> cases hy <;> rfl
        rw [key _ _ hr hH]
        exact hat'
    have er1 : ∀ (w' : Wd), EnvR ⟨w', i :: pin, σv σ⟩ σ (env.set i (.node (.dt false ks) (frzL xs))) := fun w' => by
      have z := er.set hd (d' := .node (.dt false ks) (frzL xs)) fun _ z => nomatch z
      refine ⟨z.on, fun j hj v hvj => ?_⟩
      rcases List.mem_cons.mp hj with rfl | hj
      · rw [σv_at hv] at hvj
        cases hvj
        exact hv
      · have lt := hpin j hj
        have hp := er.pin j hj vs0[j] (List.getElem?_eq_getElem lt)
        rw [σv_at hp] at hvj
        cases hvj
        exact hp
    have er2 : ∀ (w' : Wd) (σ' : L2.St) (e : Env), EnvR ⟨w', i :: pin, σv σ⟩ σ' e → EnvR ⟨w, pin, vs0⟩ σ' e := fun w' σ' e z => by
      refine ⟨z.on, fun j hj v hvj => ?_⟩
      exact z.pin j (List.mem_cons_of_mem _ hj) v (σv_at (er.pin j hj v hvj))
    have hlen : ∀ j ∈ i :: pin, j < (σv σ).length := fun j hj => by
      rw [σv_len]
      rcases List.mem_cons.mp hj with rfl | hj
      · exact (List.getElem?_eq_some_iff.mp hv).1
      · exact (List.getElem?_eq_some_iff.mp (er.pin j hj (vs0[j]'(hpin j hj)) (List.getElem?_eq_getElem (hpin j hj)))).1
    rcases hrJ with hJ | ⟨od, hJ⟩
    · refine h2.run pins sh σ H E Iv ⟨a, _, h3.iH a _ hJ, trivial, fun od => ?_⟩
      refine ⟨upd w.lk a (.frz od (.dT (ks.zip us))), σv σ, hlen, ⟨a, od, _, upd_same, σv_at hv, List.mem_cons_self ..⟩, upd J a (.frz od (.dT (ks.zip us))), F, _, ?_, er1 _, ?_⟩
      · refine Hs.two (w' := ⟨w.K, w.cA, upd w.lk a (.frz od (.dT (ks.zip us))), w.fk⟩) h4 rfl rfl hJ (.lock _ od) (fun b ob e => ?_) rfl
        by_cases q : b = a
        · subst q
          have e' : upd w.lk b (.frz od (.dT (ks.zip us))) b = some ob := e
          rw [upd_same] at e' ⊢
          exact e'
        · have e' : upd w.lk a (.frz od (.dT (ks.zip us))) b = some ob := e
          rw [upd_ne q] at e' ⊢
          exact h4.lkI b ob e'
      · have back : ∀ (ds : List D) (vs : List V) (I' H' : Hp), Le (upd J a (.frz od (.dT (ks.zip us)))) I' → Hs ⟨w.K, w.cA, upd w.lk a (.frz od (.dT (ks.zip us))), w.fk⟩ I' F ds vs H' →
            H' a = some (.frz od (.dT (ks.zip us))) ∧ Le I (upd I' a (.dT (ks.zip us))) ∧ Hs w (upd I' a (.dT (ks.zip us))) F ds vs (upd H' a (.dT (ks.zip us))) := fun ds vs I' H' le' hs' => by
          have hI' := le' a _ upd_same
          refine ⟨hs'.iH a _ hI', fun b ob e => ?_, Hs.two hs' rfl rfl hI' (.open _ od) (fun b ob e => ?_) rfl⟩
          · by_cases q : b = a
            · subst q
              have := le b _ e
              rw [hJ] at this
              rw [upd_same]
              exact this
            · rw [upd_ne q]
              exact le' b ob (by rw [upd_ne q]; exact le b ob e)
          · by_cases q : b = a
            · subst q
              have := h4.lkI b ob e
              rw [hJ] at this
              rw [upd_same]
              exact this
            · rw [upd_ne q]
              exact hs'.lkI b ob (show upd w.lk a (.frz od (.dT (ks.zip us))) b = some ob by rw [upd_ne q]; exact e)
        cases hm : s (env.set i (.node (.dt false ks) (frzL xs))) with
        | bad => simp only [hm] at o; exact o.elim
        | exc c ns ys e => simp only [hm] at o; exact o.elim
        | ok d e =>
          simp only [hm] at o
          exact fun v I' H' le' hs' er' => let ⟨k1, k2, k3⟩ := back _ _ _ _ le' hs'; ⟨k1, o v _ _ k2 k3 (er2 _ _ _ er')⟩
    · refine h1.run pins sh σ H E Iv ⟨upd w.lk a (.frz od (.dT (ks.zip us))), σv σ, hlen, ⟨a, od, _, upd_same, σv_at hv, List.mem_cons_self ..⟩, J, F, _, ?_, er1 _, ?_⟩
      · refine Hs.relk (l := w.lk) h4 fun b ob e => ?_
        by_cases q : b = a
        · subst q
          rw [upd_same] at e
          rw [hJ]
          exact e
        · rw [upd_ne q] at e
          exact h4.lkI b ob e
      · have back : ∀ (ds : List D) (vs : List V) (I' H' : Hp), Le J I' → Hs ⟨w.K, w.cA, upd w.lk a (.frz od (.dT (ks.zip us))), w.fk⟩ I' F ds vs H' → Le I I' ∧ Hs w I' F ds vs H' := fun ds vs I' H' le' hs' =>
          ⟨le.trans le', Hs.relk (l' := w.lk) hs' (h4.lkI.trans le')⟩
        cases hm : s (env.set i (.node (.dt false ks) (frzL xs))) with
        | bad => simp only [hm] at o; exact o.elim
        | exc c ns ys e => simp only [hm] at o; exact o.elim
        | ok d e =>
          simp only [hm] at o
          exact fun v I' H' le' hs' er' => let ⟨k2, k3⟩ := back _ _ _ _ le' hs'; o v _ _ k2 k3 (er2 _ _ _ er')
  · exact o.elim
end
end Z

set_option Elab.async false
set_option linter.all false
set_option maxRecDepth 100000
set_option maxHeartbeats 4000000
/-! ZW: comprehensions with two fors. -/
namespace Z
open PySem PySem.Spec PyProof.Rows L2 StX
section
variable {Γ : Cx} {X : Fx} {W W1 : WX}
/-- the turns of one for, into a list that is there -/
theorem in_run {t : Tgt} {c : Option M} {m : M} {vs : List Nat} {σ : L2.St} {H1 : Hp} {J : It} {I1 G : Hp} {xs acc0 : List D} {e : Env} {Dl : Addr} {accF : List D} {eF : Env} {Fin : Hp → Prop} (hp : ∀ i ∈ X.pin, i ∉ vs) (ht : ∀ j ∈ t.slots, j ∈ vs) (hl0 : e.length = σ.length)
    (hg3 : Hs X.w I1 G (.node (.lst true) acc0 :: anyAll vs e) (.ref Dl :: σv (wipe σ vs)) H1) (er1 : EnvR X (wipe σ vs) (anyAll vs e)) (wk : Walks X.w J I1 xs) (hb : loopC t c m vs xs acc0 (anyAll vs e) = some (accF, eF))
    (fin0 : ∀ I0 env0 H', Le I1 I0 → Hs X.w I0 G (.node (.lst true) accF :: anyAll vs env0) (.ref Dl :: σv (wipe σ vs)) H' → EnvR X (wipe σ vs) (anyAll vs env0) → env0.length = e.length → (anyAll vs env0 = eF) → Fin H') :
    ∃ W : Nat → Nat → Hp → Prop, (∃ m, W 0 m H1) ∧ ∀ i mm H, W i mm H →
      (J.stop i H ∧ Fin H) ∨ (J.go i H ∧ ∃ Nx : Hp → Prop, (∀ H', Nx H' → ∃ m', m' < mm ∧ W (i + 1) m' H') ∧ ∀ x H', J.yld i H x H' → tG X t x (wipe σ vs) H' fun σ2 H2 => wipe σ2 vs = wipe σ vs ∧ tsto X W0 c σ2 H2 fun b H3 =>
        if b = true then tE X W0 m σ2 H3 fun y H4 => ∃ acc, H4 Dl = some (.lst acc) ∧ acc.length < sizeLine ∧ Nx (upd H4 Dl (.lst (acc ++ [y]))) else Nx H3) := by
  refine ⟨fun i k H' => k = xs.length - i ∧ i ≤ xs.length ∧ ∃ I0 env0 acc, Le I1 I0 ∧ Hs X.w I0 G (.node (.lst true) acc :: anyAll vs env0) (.ref Dl :: σv (wipe σ vs)) H' ∧ EnvR X (wipe σ vs) (anyAll vs env0) ∧ env0.length = e.length ∧ loopC t c m vs (xs.drop i) acc (anyAll vs env0) = some (accF, eF),
    ⟨xs.length, by simp, Nat.zero_le _, I1, e, acc0, Le.refl _, hg3, er1, rfl, hb⟩, ?_⟩
  rintro i k H' ⟨rfl, hi, I0, env0, acc, le0, h0, er0, hlen, o0⟩
  by_cases hlt : i < xs.length
  · refine .inr ⟨wk.go i I0 G _ _ H' h0 le0 hlt, fun H2 => ∃ I2 env2 acc2, Le I1 I2 ∧ Hs X.w I2 G (.node (.lst true) acc2 :: anyAll vs env2) (.ref Dl :: σv (wipe σ vs)) H2 ∧ EnvR X (wipe σ vs) (anyAll vs env2) ∧ env2.length = e.length ∧ loopC t c m vs (xs.drop (i + 1)) acc2 (anyAll vs env2) = some (accF, eF), ?_, ?_⟩
    · rintro H2 ⟨I2, env2, acc2, k1, k2, k3, k4, k5⟩
      exact ⟨xs.length - (i + 1), by omega, rfl, by omega, I2, env2, acc2, k1, k2, k3, k4, k5⟩
    · intro x H2 y
      rw [List.drop_eq_getElem_cons hlt] at o0
      obtain ⟨I2, le2, h2⟩ := wk.yld i xs[i] I0 G _ _ H' x H2 h0 le0 (List.getElem?_eq_getElem hlt) y
      unfold loopC at o0
      cases hta : asg t xs[i] (anyAll vs env0) with
      | none => simp only [hta] at o0; cases o0
      | some e' =>
        simp only [hta] at o0
        obtain ⟨K, hk, kback⟩ := Hs.push (ds := [.node (.lst true) acc]) (vs := [.ref Dl]) h2.swap rfl
        refine ⟨I2, K, anyAll vs env0, xs[i], hk, er0, e', hta, fun σ3 I3 H3 bt le3 h3 er3 => ⟨wipe_but bt ht, ?_⟩⟩
        have hw := wipe_but bt ht
        -- behind a turn: the env as it is then, own names not claimed
        have fin : ∀ I4 H4 e4, Le I3 I4 → Hs X.w I4 K e4 (σv σ3) H4 → EnvR X σ3 e4 → Hs X.w I4 K (anyAll vs e4) (σv (wipe σ vs)) H4 ∧ EnvR X (wipe σ vs) (anyAll vs e4) ∧ e4.length = e.length := by
          intro I4 H4 e4 le4 h4 er4
          have a1 := hs_any (vs := vs) h4
          have a2 := er_any (vs := vs) er4 hp
          rw [hw] at a1 a2
          refine ⟨a1, a2, ?_⟩
          have l1 := hs_len h4
          have l2 := hl0
          rw [l1, l2, bt.1, wipe_length]
        -- the test
        have elt : ∀ I4 H4 e4, Le I3 I4 → Hs X.w I4 K e4 (σv σ3) H4 → EnvR X σ3 e4 → (match m e4 with | .ok r e3 => if acc.length < 100000 then loopC t c m vs (xs.drop (i + 1)) (acc ++ [r]) (anyAll vs e3) else none | _ => none) = some (accF, eF) →
            tE X W0 m σ3 H4 fun y H5 => ∃ acc', H5 Dl = some (.lst acc') ∧ acc'.length < sizeLine ∧ ∃ I2 env2 acc2, Le I1 I2 ∧ Hs X.w I2 G (.node (.lst true) acc2 :: anyAll vs env2) (.ref Dl :: σv (wipe σ vs)) (upd H5 Dl (.lst (acc' ++ [y]))) ∧ EnvR X (wipe σ vs) (anyAll vs env2) ∧ env2.length = e.length ∧ loopC t c m vs (xs.drop (i + 1)) acc2 (anyAll vs env2) = some (accF, eF) := by
          intro I4 H4 e4 le4 h4 er4 o4
          refine ⟨I4, K, e4, h4, er4, ?_⟩
          cases hm : m e4 with
          | bad => rw [hm] at o4; cases o4
          | exc c ns xs e => rw [hm] at o4; cases o4
          | ok r e3 =>
            rw [hm] at o4
            simp only at o4
            by_cases hz : acc.length < 100000
            · rw [if_pos hz] at o4
              intro y I5 H5 le5 h5 er5
              have h6 := kback I5 (r :: e3) (y :: σv σ3) H5 ((le3.trans le4).trans le5) h5
              have h7 : Hs X.w I5 G (r :: .node (.lst true) acc :: e3) (y :: .ref Dl :: σv σ3) H5 := Hs.swap h6
              obtain ⟨us, g1, g2, g3⟩ := h7.grow
              have a2 := er_any (vs := vs) er5 hp
              rw [hw] at a2
              have l1 : e3.length = σ3.length := by have := g3.length; simpa [σv_len] using this
              have l2 := hl0
              refine ⟨us, g1, szL (by rw [← g2]; exact hz), I5, e3, acc ++ [r], (((le0.trans le2).trans le3).trans le4).trans le5, ?_, a2, by rw [l1, l2, bt.1, wipe_length], o4⟩
              have g4 : Hs X.w I5 G ([.node (.lst true) (acc ++ [r])] ++ e3) ([.ref Dl] ++ σv σ3) (upd H5 Dl (.lst (us ++ [y]))) := g3
              obtain ⟨K2, k1, k2⟩ := Hs.push g4 rfl
              have a1 := hs_any (vs := vs) k1
              rw [hw] at a1
              exact k2 I5 _ _ _ (Le.refl _) a1
            · rw [if_neg hz] at o4
              cases o4
        have skip : ∀ I4 H4 e4, Le I3 I4 → Hs X.w I4 K e4 (σv σ3) H4 → EnvR X σ3 e4 → loopC t c m vs (xs.drop (i + 1)) acc (anyAll vs e4) = some (accF, eF) → ∃ I2 env2 acc2, Le I1 I2 ∧ Hs X.w I2 G (.node (.lst true) acc2 :: anyAll vs env2) (.ref Dl :: σv (wipe σ vs)) H4 ∧ EnvR X (wipe σ vs) (anyAll vs env2) ∧ env2.length = e.length ∧ loopC t c m vs (xs.drop (i + 1)) acc2 (anyAll vs env2) = some (accF, eF) := by
          intro I4 H4 e4 le4 h4 er4 o4
          obtain ⟨a1, a2, a3⟩ := fin I4 H4 e4 le4 h4 er4
          exact ⟨I4, e4, acc, ((le0.trans le2).trans le3).trans le4, kback I4 _ _ H4 (le3.trans le4) a1, a2, a3, o4⟩
        cases c with
        | none =>
          simp only at o0
          have z := elt I3 H3 e' (Le.refl _) h3 er3 o0
          simp only [tsto, tYes, reduceIte]
          exact z
        | some cm =>
          refine ⟨I3, K, e', h3, er3, ?_⟩
          simp only at o0
          cases hcm : cm e' with
          | bad => rw [hcm] at o0; cases o0
          | exc c ns xs e => rw [hcm] at o0; cases o0
          | ok r e2 =>
            rw [hcm] at o0
            cases r with
            | bl b =>
              intro I4 H4 le4 h4 er4
              cases b with
              | true =>
                have z := elt I4 H4 e2 le4 h4 er4 o0
                simp only [reduceIte]
                exact z
              | false =>
                have z := skip I4 H4 e2 le4 h4 er4 o0
                rw [if_neg (by decide)]
                exact z
            | any => cases o0
            | non => cases o0
            | int _ => cases o0
            | str _ => cases o0
            | node _ _ => cases o0
  · have he : i = xs.length := by omega
    subst he
    rw [List.drop_length] at o0
    have o1 : some (acc, anyAll vs env0) = some (accF, eF) := o0
    cases o1
    exact .inl ⟨wk.stop I0 G _ _ H' h0 le0, fin0 I0 env0 H' le0 h0 er0 hlen rfl⟩
theorem wipe_wipe {σ : L2.St} {vs vs1 : List Nat} (h : ∀ i ∈ vs1, i ∈ vs) : wipe (wipe σ vs1) vs = wipe σ vs := by
  apply List.ext_getElem?
  intro i
  rw [wipe_get, wipe_get, wipe_length, wipe_get]
  by_cases m : i ∈ vs ∧ i < σ.length
  · rw [if_pos m, if_pos m]
  · rw [if_neg m, if_neg m, if_neg (fun z => m ⟨h i z.1, z.2⟩)]
def loopC2 (t : Tgt) (c : Option M) (vs : List Nat) (src1 : Src) (t1 : Tgt) (c1 : Option M) (vs1 : List Nat) (m : M) : List D → List D → Env → Option (List D × Env)
  | [], acc, env => some (acc, env)
  | x :: xs, acc, env => match asg t x env with
    | none => none
    | some e1 => (match (match c with
      | none => Res.ok (.bl true) e1
      | some c => c e1) with
      | .ok (.bl true) e2 => (match src1 e2 with
        | .ok ys e3 => (match loopC t1 c1 m vs1 ys acc (anyAll vs1 e3) with
          | some (acc2, e4) => loopC2 t c vs src1 t1 c1 vs1 m xs acc2 (anyAll vs e4)
          | none => none)
        | _ => none)
      | .ok (.bl false) e2 => loopC2 t c vs src1 t1 c1 vs1 m xs acc (anyAll vs e2)
      | _ => none)
def mLc2 (src : Src) (t : Tgt) (c : Option M) (vs : List Nat) (src1 : Src) (t1 : Tgt) (c1 : Option M) (vs1 : List Nat) (m : M) : M := fun env => match src env with
  | .ok xs e => (match loopC2 t c vs src1 t1 c1 vs1 m xs [] (anyAll vs e) with
    | some (acc, e2) => .ok (.node (.lst true) acc) (mrg (own? vs) e e2)
    | none => .bad)
  | .exc c ns xs e => .exc c ns xs e
  | .bad => .bad
theorem lc2_run {src src1 : Src} {t t1 : Tgt} {c c1 : Option M} {m : M} {vs vs1 : List Nat} {σ : L2.St} {H : Hp} {Q : VK} (hp : ∀ i ∈ X.pin, i ∉ vs) (hv : ∀ i ∈ vs1, i ∈ vs) (ht : ∀ j ∈ t.slots, j ∈ vs) (ht1 : ∀ j ∈ t1.slots, j ∈ vs1) (q : tE X W (mLc2 src t c vs src1 t1 c1 vs1 m) σ H Q) :
    tLc2 (tI X W src) (tG X t) (tsto X W0 c) (tI X W0 src1) (tG X t1) (tsto X W0 c1) (tE X W0 m) vs vs1 σ H Q := by
  have hp1 : ∀ i ∈ X.pin, i ∉ vs1 := fun i hi z => hp i hi (hv i z)
  obtain ⟨I, F, env, hs, er, o⟩ := q
  refine ⟨I, F, env, hs, er, ?_⟩
  unfold mLc2 at o
  cases ha : src env with
  | bad => simp only [ha] at o; exact o.elim
  | exc c ns xs e => simp only [ha] at o; exact o
  | ok xs e =>
    simp only [ha] at o
    intro J I1 H1 le1 h1 er1 wk Dl hD
    cases hb : loopC2 t c vs src1 t1 c1 vs1 m xs [] (anyAll vs e) with
    | none => simp only [hb] at o; exact o.elim
    | some fin =>
      obtain ⟨accF, eF⟩ := fin
      simp only [hb] at o
      obtain ⟨G, hg, back⟩ := h1.aside (own? vs)
      have hg2 : Hs X.w I1 G (anyAll vs e) (σv (wipe σ vs)) H1 := by
        have := hs_any (vs := vs) hg
        rw [show anyAll vs (keepP (fun i => !own? vs i) e) = anyAll vs e from anyAll_idem vs e] at this
        exact this
      have hg3 : Hs X.w I1 G (.node (.lst true) [] :: anyAll vs e) (.ref Dl :: σv (wipe σ vs)) (upd H1 Dl (.lst [])) := Hs.newO (t := .lst true) (xs := []) (us := []) hg2 rfl hD rfl trivial (show upd H1 Dl (.lst []) Dl = some (.lst []) from upd_same)
      refine ⟨fun i k H' => k = xs.length - i ∧ i ≤ xs.length ∧ ∃ I0 env0 acc, Le I1 I0 ∧ Hs X.w I0 G (.node (.lst true) acc :: anyAll vs env0) (.ref Dl :: σv (wipe σ vs)) H' ∧ EnvR X (wipe σ vs) (anyAll vs env0) ∧ env0.length = e.length ∧ loopC2 t c vs src1 t1 c1 vs1 m (xs.drop i) acc (anyAll vs env0) = some (accF, eF),
        ⟨xs.length, by simp, Nat.zero_le _, I1, e, [], Le.refl _, hg3, er_any er1 hp, rfl, hb⟩, ?_⟩
      rintro i k H' ⟨rfl, hi, I0, env0, acc, le0, h0, er0, hlen, o0⟩
      by_cases hlt : i < xs.length
      · refine .inr ⟨wk.go i I0 G _ _ H' h0 le0 hlt, fun H2 => ∃ I2 env2 acc2, Le I1 I2 ∧ Hs X.w I2 G (.node (.lst true) acc2 :: anyAll vs env2) (.ref Dl :: σv (wipe σ vs)) H2 ∧ EnvR X (wipe σ vs) (anyAll vs env2) ∧ env2.length = e.length ∧ loopC2 t c vs src1 t1 c1 vs1 m (xs.drop (i + 1)) acc2 (anyAll vs env2) = some (accF, eF), ?_, ?_⟩
        · rintro H2 ⟨I2, env2, acc2, k1, k2, k3, k4, k5⟩
          exact ⟨xs.length - (i + 1), by omega, rfl, by omega, I2, env2, acc2, k1, k2, k3, k4, k5⟩
        · intro x H2 y
          rw [List.drop_eq_getElem_cons hlt] at o0
          obtain ⟨I2, le2, h2⟩ := wk.yld i xs[i] I0 G _ _ H' x H2 h0 le0 (List.getElem?_eq_getElem hlt) y
          unfold loopC2 at o0
          cases hta : asg t xs[i] (anyAll vs env0) with
          | none => simp only [hta] at o0; cases o0
          | some e' =>
            simp only [hta] at o0
            obtain ⟨K, hk, kback⟩ := Hs.push (ds := [.node (.lst true) acc]) (vs := [.ref Dl]) h2.swap rfl
            refine ⟨I2, K, anyAll vs env0, xs[i], hk, er0, e', hta, fun σ3 I3 H3 bt le3 h3 er3 => ⟨wipe_but bt ht, ?_⟩⟩
            have hw := wipe_but bt ht
            have l2 := hs_len h1
            have skip : ∀ I4 H4 e4, Le I3 I4 → Hs X.w I4 K e4 (σv σ3) H4 → EnvR X σ3 e4 → loopC2 t c vs src1 t1 c1 vs1 m (xs.drop (i + 1)) acc (anyAll vs e4) = some (accF, eF) → ∃ I2 env2 acc2, Le I1 I2 ∧ Hs X.w I2 G (.node (.lst true) acc2 :: anyAll vs env2) (.ref Dl :: σv (wipe σ vs)) H4 ∧ EnvR X (wipe σ vs) (anyAll vs env2) ∧ env2.length = e.length ∧ loopC2 t c vs src1 t1 c1 vs1 m (xs.drop (i + 1)) acc2 (anyAll vs env2) = some (accF, eF) := by
              intro I4 H4 e4 le4 h4 er4 o4
              have a1 := hs_any (vs := vs) h4
              have a2 := er_any (vs := vs) er4 hp
              rw [hw] at a1 a2
              have l1 := hs_len h4
              exact ⟨I4, e4, acc, ((le0.trans le2).trans le3).trans le4, kback I4 _ _ H4 (le3.trans le4) a1, a2, by rw [l1, l2, bt.1, wipe_length], o4⟩
            have inner : ∀ I4 H4 e2, Le I3 I4 → Hs X.w I4 K e2 (σv σ3) H4 → EnvR X σ3 e2 → (match src1 e2 with | .ok ys e3 => (match loopC t1 c1 m vs1 ys acc (anyAll vs1 e3) with | some (acc2, e4) => loopC2 t c vs src1 t1 c1 vs1 m (xs.drop (i + 1)) acc2 (anyAll vs e4) | none => none) | _ => none) = some (accF, eF) →
                tI X W0 src1 σ3 H4 fun J1 H4 => ∃ W1 : Nat → Nat → Hp → Prop, (∃ m, W1 0 m H4) ∧ ∀ j k H, W1 j k H →
                  (J1.stop j H ∧ ∃ I2 env2 acc2, Le I1 I2 ∧ Hs X.w I2 G (.node (.lst true) acc2 :: anyAll vs env2) (.ref Dl :: σv (wipe σ vs)) H ∧ EnvR X (wipe σ vs) (anyAll vs env2) ∧ env2.length = e.length ∧ loopC2 t c vs src1 t1 c1 vs1 m (xs.drop (i + 1)) acc2 (anyAll vs env2) = some (accF, eF)) ∨ (J1.go j H ∧ ∃ Nx1 : Hp → Prop, (∀ H', Nx1 H' → ∃ k', k' < k ∧ W1 (j + 1) k' H') ∧ ∀ x H', J1.yld j H x H' → tG X t1 x (wipe σ3 vs1) H' fun σ4 H5 => wipe σ4 vs1 = wipe σ3 vs1 ∧ tsto X W0 c1 σ4 H5 fun b H6 =>
                    if b = true then tE X W0 m σ4 H6 fun y H7 => ∃ acc, H7 Dl = some (.lst acc) ∧ acc.length < sizeLine ∧ Nx1 (upd H7 Dl (.lst (acc ++ [y]))) else Nx1 H6) := by
              intro I4 H4 e2 le4 h4 er4 o4
              refine ⟨I4, K, e2, h4, er4, ?_⟩
              cases hsr : src1 e2 with
              | bad => rw [hsr] at o4; cases o4
              | exc c ns xs e => rw [hsr] at o4; cases o4
              | ok ys e3 =>
                rw [hsr] at o4
                simp only at o4
                cases hin : loopC t1 c1 m vs1 ys acc (anyAll vs1 e3) with
                | none => rw [hin] at o4; cases o4
                | some fin1 =>
                  obtain ⟨acc2, e4⟩ := fin1
                  rw [hin] at o4
                  simp only at o4
                  intro J1 I5 H5 le5 h5 er5 wk1
                  have h6 := kback I5 e3 (σv σ3) H5 ((le3.trans le4).trans le5) h5
                  obtain ⟨K2, k1, k2⟩ := Hs.push (ds := [.node (.lst true) acc]) (vs := [.ref Dl]) h6 rfl
                  have a1 := hs_any (vs := vs1) k1
                  have h7 := k2 I5 _ _ H5 (Le.refl _) a1
                  refine in_run (t := t1) (c := c1) (m := m) (vs := vs1) (σ := σ3) (G := G) (e := e3) (accF := acc2) (eF := e4) hp1 ht1 (hs_len h5) h7 (er_any er5 hp1) wk1 hin fun I6 env1 H6 le6 g1 g2 g3 g4 => ?_
                  have z1 : Hs X.w I6 G ([.node (.lst true) acc2] ++ anyAll vs1 env1) ([.ref Dl] ++ σv (wipe σ3 vs1)) H6 := g1
                  obtain ⟨K3, m1, m2⟩ := Hs.push z1 rfl
                  have b1 := hs_any (vs := vs) m1
                  have b2 := er_any (vs := vs) g2 hp
                  rw [wipe_wipe hv, hw] at b1 b2
                  refine ⟨I6, anyAll vs1 env1, acc2, ((((le0.trans le2).trans le3).trans le4).trans le5).trans le6, m2 I6 _ _ H6 (Le.refl _) b1, b2, ?_, by rw [g4]; exact o4⟩
                  unfold anyAll
                  rw [keepP_len, g3, hs_len h5, l2, bt.1, wipe_length]
            cases c with
            | none =>
              simp only at o0
              have z := inner I3 H3 e' (Le.refl _) h3 er3 o0
              simp only [tsto, tYes, reduceIte]
              exact z
            | some cm =>
              refine ⟨I3, K, e', h3, er3, ?_⟩
              simp only at o0
              cases hcm : cm e' with
              | bad => rw [hcm] at o0; cases o0
              | exc c ns xs e => rw [hcm] at o0; cases o0
              | ok r e2 =>
                rw [hcm] at o0
                cases r with
                | bl b =>
                  intro I4 H4 le4 h4 er4
                  cases b with
                  | true =>
                    have z := inner I4 H4 e2 le4 h4 er4 o0
                    simp only [reduceIte]
                    exact z
                  | false =>
                    have z := skip I4 H4 e2 le4 h4 er4 o0
                    rw [if_neg (by decide)]
                    exact z
                | any => cases o0
                | non => cases o0
                | int _ => cases o0
                | str _ => cases o0
                | node _ _ => cases o0
      · have he : i = xs.length := by omega
        subst he
        rw [List.drop_length] at o0
        have o1 : some (acc, anyAll vs env0) = some (accF, eF) := o0
        cases o1
        refine .inl ⟨wk.stop I0 G _ _ H' h0 le0, ?_⟩
        have h5 : Hs X.w I0 G ([.node (.lst true) accF] ++ anyAll vs env0) ([.ref Dl] ++ σv (wipe σ vs)) H' := h0
        obtain ⟨K2, k1, k2⟩ := Hs.push h5 rfl
        have h6 := k2 I0 _ _ H' (Le.refl _) (hs_back k1)
        have h7 := back I0 [.node (.lst true) accF] [.ref Dl] _ H' le0 rfl h6
        refine o (.ref Dl) I0 H' (le1.trans le0) h7 (er_back er1 er0 ?_)
        unfold anyAll
        rw [keepP_len]
        exact hlen.symm
theorem z_lc2 {elt tg iter tg1 iter1 : Expr} {ifs ifs1 : List Expr} {scope : Scope} {own : List (Str × Nat)} {pos : Pos} {src src1 : Src} {t t1 : Tgt} {c c1 : Option M} {m : M} {vs1 : List Nat} (hc : Γ.calm = true) (hN : Γ.N.Nodup) (hi : PI Γ tg iter (tI X W src)) (ok : BlkOk Γ.N Γ.env.scope scope own)
    (hg : ∀ (s : Shared) (H : Hp) (C : Addr) (cl : List (Str × Addr)) (fp : List Addr), PG (Γ.blk s H scope (compEnvC scope cl C Γ.env) fp) tg (tG X t)) (ht : ∀ (s : Shared) (H : Hp) (C : Addr) (cl : List (Str × Addr)) (fp : List Addr), PTs (Γ.blk s H scope (compEnvC scope cl C Γ.env) fp) ifs (tsto X W0 c))
    (hi1 : ∀ (s : Shared) (H : Hp) (C : Addr) (cl : List (Str × Addr)) (fp : List Addr), PI (Γ.blk s H scope (compEnvC scope cl C Γ.env) fp) tg1 iter1 (tI X W0 src1))
    (hg1 : ∀ (s : Shared) (H : Hp) (C : Addr) (cl : List (Str × Addr)) (fp : List Addr), PG (Γ.blk s H scope (compEnvC scope cl C Γ.env) fp) tg1 (tG X t1)) (ht1 : ∀ (s : Shared) (H : Hp) (C : Addr) (cl : List (Str × Addr)) (fp : List Addr), PTs (Γ.blk s H scope (compEnvC scope cl C Γ.env) fp) ifs1 (tsto X W0 c1))
    (he : ∀ (s : Shared) (H : Hp) (C : Addr) (cl : List (Str × Addr)) (fp : List Addr), PE (Γ.blk s H scope (compEnvC scope cl C Γ.env) fp) elt (tE X W0 m)) (hp : ∀ i ∈ X.pin, i ∉ own.map (·.2) := by decide) (hv : ∀ i ∈ vs1, i ∈ own.map (·.2) := by decide) (hj : ∀ j ∈ t.slots, j ∈ own.map (·.2) := by decide) (hj1 : ∀ j ∈ t1.slots, j ∈ vs1 := by decide) (hs : ∀ x, foldedSetIterable iter Γ.env x = pure x := by intro _; rfl) (hs1 : ∀ env x, foldedSetIterable iter1 env x = pure x := by intro _ _; rfl) :
    PE Γ (.ListComp elt [⟨tg, iter, ifs, 0⟩, ⟨tg1, iter1, ifs1, 0⟩] scope pos) (tE X W (mLc2 src t c (own.map (·.2)) src1 t1 c1 vs1 m)) := PEi (pe_lc2 hc hN hi ok hv hg ht hi1 hg1 ht1 he hs hs1) fun σ H Q q => lc2_run hp hv hj hj1 q
theorem s_setLc2 {i : Nat} {y : Str} {py spos : Pos} {elt tg iter tg1 iter1 : Expr} {ifs ifs1 : List Expr} {scope : Scope} {own : List (Str × Nat)} {pos : Pos} {src src1 : Src} {t t1 : Tgt} {c c1 : Option M} {m : M} {vs1 : List Nat} (hc : Γ.calm = true) (hN : Γ.N.Nodup) (hy : Γ.N[i]? = some y) (hyl : Γ.env.scope.names.lookup y = some .local)
    (hsw : swapsWith (.ListComp elt [⟨tg, iter, ifs, 0⟩, ⟨tg1, iter1, ifs1, 0⟩] scope pos) (some (.Name y py)) spos.line Γ.env = pure true) (hi : PI Γ tg iter (tI X W src)) (ok : BlkOk Γ.N Γ.env.scope scope own)
    (hg : ∀ (s : Shared) (H : Hp) (C : Addr) (cl : List (Str × Addr)) (fp : List Addr), PG (Γ.blk s H scope (compEnvC scope cl C Γ.env) fp) tg (tG X t)) (ht : ∀ (s : Shared) (H : Hp) (C : Addr) (cl : List (Str × Addr)) (fp : List Addr), PTs (Γ.blk s H scope (compEnvC scope cl C Γ.env) fp) ifs (tsto X W0 c))
    (hi1 : ∀ (s : Shared) (H : Hp) (C : Addr) (cl : List (Str × Addr)) (fp : List Addr), PI (Γ.blk s H scope (compEnvC scope cl C Γ.env) fp) tg1 iter1 (tI X W0 src1))
    (hg1 : ∀ (s : Shared) (H : Hp) (C : Addr) (cl : List (Str × Addr)) (fp : List Addr), PG (Γ.blk s H scope (compEnvC scope cl C Γ.env) fp) tg1 (tG X t1)) (ht1 : ∀ (s : Shared) (H : Hp) (C : Addr) (cl : List (Str × Addr)) (fp : List Addr), PTs (Γ.blk s H scope (compEnvC scope cl C Γ.env) fp) ifs1 (tsto X W0 c1))
    (he : ∀ (s : Shared) (H : Hp) (C : Addr) (cl : List (Str × Addr)) (fp : List Addr), PE (Γ.blk s H scope (compEnvC scope cl C Γ.env) fp) elt (tE X W0 m)) (hpi : i ∉ X.pin := by decide) (hp : ∀ i ∈ X.pin, i ∉ own.map (·.2) := by decide) (hv : ∀ i ∈ vs1, i ∈ own.map (·.2) := by decide) (hj : ∀ j ∈ t.slots, j ∈ own.map (·.2) := by decide) (hj1 : ∀ j ∈ t1.slots, j ∈ vs1 := by decide) (hs : ∀ x, foldedSetIterable iter Γ.env x = pure x := by intro _; rfl) (hs1 : ∀ env x, foldedSetIterable iter1 env x = pure x := by intro _ _; rfl) :
    PS Γ (.Assign [.Name y py] (.ListComp elt [⟨tg, iter, ifs, 0⟩, ⟨tg1, iter1, ifs1, 0⟩] scope pos) spos) (tS X W (sAsg (.nm i) (mLc2 src t c (own.map (·.2)) src1 t1 c1 vs1 m))) := PSi (ps_setLc2 hc hN hy hyl hsw hi ok hv hg ht hi1 hg1 ht1 he hs hs1) fun E σ H q => asg_run (fun Q z => lc2_run hp hv hj hj1 z) (g_name hpi) q
end
end Z

set_option Elab.async false
set_option linter.all false
set_option maxRecDepth 100000
set_option maxHeartbeats 4000000
/-! ZX: dict(zip(x, y)), of lists and tuples, whose keys are tuples. -/
namespace Z
open PySem PySem.Spec PyProof.Rows L2 StX
section
variable {prog : Program} {w : World} {A : Around} {E : Value → Shared → Prop} {s : Shared} {z J U i1 i2 : Addr} {fp1 fp2 : List Addr} {n1 n2 i : Nat} {P1 P2 : Nat → Value → Prop} {St1 St2 : Nat → Heap → Prop}
theorem zipH_item {T : Addr} {f : Bool} {ob : Obj} {Q : Value → Shared → Prop} (S : ZipSep2 z J U i1 i2 fp1 fp2) (D1 : Draws prog w A i1 fp1 n1 P1 St1) (D2 : Draws prog w A i2 fp2 n2 P2 St2)
    (az : IsZipHeld s.heap z J U T f) (aT : s.heap.get? T = some ob) (aI : IsPair s.heap J (.ref i1) (.ref i2)) (st1 : St1 i s.heap) (st2 : St2 i s.heap) (hlt1 : i < n1) (hlt2 : i < n2)
    (hQ : ∀ x y h' tk, P1 i x → P2 i y → IsZipHeld h' z J U T true → St1 (i + 1) h' → St2 (i + 1) h' → IsPair h' s.heap.objs.size x y → h'.objs.size = s.heap.objs.size + 1 →
      (∀ c o, c ≠ z → c ≠ i1 → c ≠ i2 → s.heap.get? c = some o → h'.get? c = some o) → Q (.ref s.heap.objs.size) { s with heap := h', toks := tk }) :
    wpAny (model prog w) A (Builtin.«zip.__next__» ⟨[.ref z], []⟩) (fun fin s' => ∃ v, fin = .done (.ret v) ∧ Q v s') E s := by
  obtain ⟨p0, g, d, n0, o0⟩ := s
  show wpAny _ _ (field (.ref z) 2 >>= _) _ _ _
  refine wpAny_bind (wpAny_field az rfl (x := .bool false) rfl ?_)
  show wpAny _ _ (field (.ref z) 3 >>= _) _ _ _
  refine wpAny_bind (wpAny_field az rfl (x := .ref J) rfl ?_)
  refine wpAny_bind (wpAny_seqItems aI rfl ?_)
  show wpAny _ _ (Builtin.SmallTypes.ownedTupleIsFree (.ref z) >>= _) _ _ _
  refine wpAny_bind (wpAny_tupleHeld_zip az aT fun g₁ az₁ d₁ => ?_)
  replace d₁ : Heap.SameBut z p0 g₁ := d₁
  simp only [Bool.false_eq_true, if_false]
  refine wpAny_bind ?_
  rw [← Array.forIn_toList]
  simp only [List.forIn_cons, List.forIn_nil]
  refine wpAny_bind (wpAny_bind (wpAny_holding ?_))
  show wpAny _ _ (Builtin.SmallTypes.nextOf (.ref i1) >>= _) _ _ ⟨g₁, g, d, n0, o0⟩
  refine wpAny_bind (D1.item i ⟨g₁, g, d, n0, o0⟩ _ _ hlt1 (D1.over st1 d₁ S.zf1) fun x g₂ tk₂ hx st1₂ d₂ => wpAny_pure ?_)
  replace d₂ : Heap.SameBut i1 g₁ g₂ := d₂
  refine wpAny_pure ?_
  refine wpAny_bind (wpAny_bind (wpAny_holding ?_))
  show wpAny _ _ (Builtin.SmallTypes.nextOf (.ref i2) >>= _) _ _ ⟨g₂, g, d, tk₂, o0⟩
  refine wpAny_bind (D2.item i ⟨g₂, g, d, tk₂, o0⟩ _ _ hlt2 (D2.over (D2.over st2 d₁ S.zf2) d₂ S.sep1_2) fun y g₃ tk₃ hy st2₃ d₃ => wpAny_pure ?_)
  replace d₃ : Heap.SameBut i2 g₂ g₃ := d₃
  refine wpAny_pure (wpAny_pure ?_)
  show wpAny _ _ (newTuple [x, y] >>= _) _ _ ⟨g₃, g, d, tk₃, o0⟩
  refine wpAny_bind (wpAny_newTuple ?_)
  have hsz : g₃.objs.size = p0.objs.size := by rw [d₃.1, d₂.1, d₁.1]
  have az₃ : IsZipHeld g₃ z J U T true := d₃.extBut _ _ S.zi2 (d₂.extBut _ _ S.zi1 az₁)
  have far : ∀ c o, c ≠ z → c ≠ i1 → c ≠ i2 → p0.get? c = some o → g₃.get? c = some o := fun c o c1 c2 c3 e => d₃.extBut _ _ c3 (d₂.extBut _ _ c2 (d₁.extBut _ _ c1 e))
  have st1₃ : St1 (i + 1) g₃ := D1.over st1₂ d₃ S.sep2_1
  refine wpAny_pure ⟨_, rfl, ?_⟩
  show Q (.ref g₃.objs.size) _
  have hpr : IsPair (g₃.push { cls := .type "tuple", data := .seq #[x, y] }) g₃.objs.size x y := Heap.get?_push_size _ rfl
  have size4 : (g₃.push { cls := .type "tuple", data := .seq #[x, y] }).objs.size = g₃.objs.size + 1 := Heap.size_push ..
  rw [hsz] at hpr size4 ⊢
  exact hQ x y _ tk₃ hx hy (Heap.get?_push_of_some _ az₃) (D1.frame _ _ _ st1₃ fun b _ o e => Heap.get?_push_of_some _ e) (D2.frame _ _ _ st2₃ fun b _ o e => Heap.get?_push_of_some _ e) hpr size4 fun c o c1 c2 c3 e => Heap.get?_push_of_some _ (far c o c1 c2 c3 e)
theorem zipH_end {T : Addr} {f : Bool} {ob : Obj} {Q : Fin → Shared → Prop} (S : ZipSep2 z J U i1 i2 fp1 fp2) (D1 : Draws prog w A i1 fp1 n1 P1 St1) (D2 : Draws prog w A i2 fp2 n2 P2 St2)
    (az : IsZipHeld s.heap z J U T f) (aT : s.heap.get? T = some ob) (aI : IsPair s.heap J (.ref i1) (.ref i2)) (st1 : St1 i s.heap) (st2 : St2 i s.heap) (hle1 : i ≤ n1) (hle2 : i ≤ n2) (hend : i = n1 ∨ i = n2)
    (hE : ∀ h' tk e, (∀ c o, c ≠ z → c ≠ i1 → c ≠ i2 → s.heap.get? c = some o → h'.get? c = some o) → (∃ o, h'.get? e = some o ∧ o.cls = .type "StopIteration") → E (.ref e) { s with heap := h', toks := tk }) :
    wpAny (model prog w) A (Builtin.«zip.__next__» ⟨[.ref z], []⟩) Q E s := by
  obtain ⟨p0, g, d, n0, o0⟩ := s
  show wpAny _ _ (field (.ref z) 2 >>= _) _ _ _
  refine wpAny_bind (wpAny_field az rfl (x := .bool false) rfl ?_)
  show wpAny _ _ (field (.ref z) 3 >>= _) _ _ _
  refine wpAny_bind (wpAny_field az rfl (x := .ref J) rfl ?_)
  refine wpAny_bind (wpAny_seqItems aI rfl ?_)
  show wpAny _ _ (Builtin.SmallTypes.ownedTupleIsFree (.ref z) >>= _) _ _ _
  refine wpAny_bind (wpAny_tupleHeld_zip az aT fun g₁ az₁ d₁ => ?_)
  replace d₁ : Heap.SameBut z p0 g₁ := d₁
  simp only [Bool.false_eq_true, if_false]
  refine wpAny_bind ?_
  rw [← Array.forIn_toList]
  simp only [List.forIn_cons, List.forIn_nil]
  refine wpAny_bind (wpAny_bind (wpAny_holding ?_))
  show wpAny _ _ (Builtin.SmallTypes.nextOf (.ref i1) >>= _) _ _ ⟨g₁, g, d, n0, o0⟩
  by_cases hlt1 : i < n1
  · have end2 : i = n2 := by omega
    refine wpAny_bind (D1.item i ⟨g₁, g, d, n0, o0⟩ _ _ hlt1 (D1.over st1 d₁ S.zf1) fun x g₂ tk₂ hx st1₂ d₂ => wpAny_pure ?_)
    replace d₂ : Heap.SameBut i1 g₁ g₂ := d₂
    refine wpAny_pure ?_
    refine wpAny_bind (wpAny_bind (wpAny_holding ?_))
    show wpAny _ _ (Builtin.SmallTypes.nextOf (.ref i2) >>= _) _ _ ⟨g₂, g, d, tk₂, o0⟩
    refine wpAny_bind (D2.done ⟨g₂, g, d, tk₂, o0⟩ _ _ (by rw [← end2]; exact D2.over (D2.over st2 d₁ S.zf2) d₂ S.sep1_2) fun g₃ e d₃ he => ?_)
    replace d₃ : Heap.ExtBut i2 g₂ g₃ := d₃
    exact hE g₃ tk₂ e (fun c o c1 c2 c3 x => d₃ _ _ c3 (d₂.extBut _ _ c2 (d₁.extBut _ _ c1 x))) he
  · have end1 : i = n1 := by omega
    refine wpAny_bind (D1.done ⟨g₁, g, d, n0, o0⟩ _ _ (by rw [← end1]; exact D1.over st1 d₁ S.zf1) fun g₂ e d₂ he => ?_)
    replace d₂ : Heap.ExtBut i1 g₁ g₂ := d₂
    exact hE g₂ n0 e (fun c o c1 c2 _ x => d₂ _ _ c2 (d₁.extBut _ _ c1 x)) he
theorem next_zipH_item {T : Addr} {f : Bool} {ob : Obj} {Q : Option Value → Shared → Prop} (S : ZipSep2 z J U i1 i2 fp1 fp2) (D1 : Draws prog w A.in1 i1 fp1 n1 P1 St1) (D2 : Draws prog w A.in1 i2 fp2 n2 P2 St2)
    (az : IsZipHeld s.heap z J U T f) (aT : s.heap.get? T = some ob) (aI : IsPair s.heap J (.ref i1) (.ref i2)) (st1 : St1 i s.heap) (st2 : St2 i s.heap) (hlt1 : i < n1) (hlt2 : i < n2)
    (hQ : ∀ x y h' tk, P1 i x → P2 i y → IsZipHeld h' z J U T true → St1 (i + 1) h' → St2 (i + 1) h' → IsPair h' s.heap.objs.size x y → h'.objs.size = s.heap.objs.size + 1 →
      (∀ c o, c ≠ z → c ≠ i1 → c ≠ i2 → s.heap.get? c = some o → h'.get? c = some o) → Q (some (.ref s.heap.objs.size)) { s with heap := h', toks := tk }) :
    wpAny (model prog w) A (pyNext (.ref z)) Q E s := by
  have ofZip : s.TypeIs (.ref z) "zip" := ⟨_, az, rfl⟩
  unfold pyNext
  exact wpAny_bind (wpAny_attempt (wpAny_callSpecial?_slot (name := Str.ofString "__next__") ofZip F.slot_zip_next
    (wpAny_call_entry F.slot_zip_next ofZip F.entry_zip_next
      (zipH_item S D1 D2 az aT aI st1 st2 hlt1 hlt2 fun x y h' tk b1 b2 b3 b4 b5 b6 b7 b8 => wpAny_pure (hQ x y h' tk b1 b2 b3 b4 b5 b6 b7 b8)) (F.args_zip_next_1 _))))
theorem next_zipH_end {T : Addr} {f : Bool} {ob : Obj} {Q : Option Value → Shared → Prop} (S : ZipSep2 z J U i1 i2 fp1 fp2) (D1 : Draws prog w A.in1 i1 fp1 n1 P1 St1) (D2 : Draws prog w A.in1 i2 fp2 n2 P2 St2)
    (az : IsZipHeld s.heap z J U T f) (aT : s.heap.get? T = some ob) (aI : IsPair s.heap J (.ref i1) (.ref i2)) (st1 : St1 i s.heap) (st2 : St2 i s.heap) (hle1 : i ≤ n1) (hle2 : i ≤ n2) (hend : i = n1 ∨ i = n2)
    (hQ : ∀ h' tk, (∀ c o, c ≠ z → c ≠ i1 → c ≠ i2 → s.heap.get? c = some o → h'.get? c = some o) → Q none { s with heap := h', toks := tk }) : wpAny (model prog w) A (pyNext (.ref z)) Q E s := by
  have ofZip : s.TypeIs (.ref z) "zip" := ⟨_, az, rfl⟩
  unfold pyNext
  refine wpAny_bind (wpAny_attempt (wpAny_callSpecial?_slot (name := Str.ofString "__next__") ofZip F.slot_zip_next
    (wpAny_call_entry F.slot_zip_next ofZip F.entry_zip_next (zipH_end S D1 D2 az aT aI st1 st2 hle1 hle2 hend fun h' tk e far he => ?_) (F.args_zip_next_1 _))))
  obtain ⟨o, ho, hc⟩ := he
  refine wpAny_bind (wpAny_isInstance (T := "StopIteration") (b := true) ⟨o, ho, hc⟩ isSubtype_stop ?_)
  exact wpAny_pure (hQ _ _ far)
end
section
variable {prog : Program} {w : World}
/-- zip(x, y) as dict()'s argument -/
theorem pairArg_zipD (A0 : Around) (hA0 : A0.handled = none) (z J U i1 i2 : Addr) (fp1 fp2 : List Addr) (n1 n2 : Nat) (P1 P2 : Nat → Value → Prop) (St1 St2 : Nat → Heap → Prop) (S : ZipSep2 z J U i1 i2 fp1 fp2)
    (D1 : ∀ A : Around, A.handled = none → Draws prog w A i1 fp1 n1 P1 St1) (D2 : ∀ A : Around, A.handled = none → Draws prog w A i2 fp2 n2 P2 St2)
    (all1 : ∀ h, St1 0 h → ∀ b ∈ fp1, ∃ o, h.get? b = some o) (all2 : ∀ h, St2 0 h → ∀ b ∈ fp2, ∃ o, h.get? b = some o) :
    PairArg prog w "zip" z (z :: J :: U :: (fp1 ++ fp2)) [z, U, i1, i2] (min n1 n2) (fun i k v => P1 i k ∧ P2 i v)
      (fun h => IsZip h z J U .none ∧ IsPair h J (.ref i1) (.ref i2) ∧ (∃ a b, IsPair h U a b) ∧ St1 0 h ∧ St2 0 h) where
  type := fun s all => ⟨_, all.1, rfl⟩
  notDict := by decide
  keep := fun h h' all far => by
    obtain ⟨az, aI, ⟨a, b, aO⟩, a1, a2⟩ := all
    exact ⟨far _ _ az, far _ _ aI, ⟨a, b, far _ _ aO⟩, (D1 A0 hA0).frame _ _ _ a1 fun b _ o e => far b o e, (D2 A0 hA0).frame _ _ _ a2 fun b _ o e => far b o e⟩
  there := fun h all b hb => by
    obtain ⟨az, aI, ⟨a, c, aO⟩, a1, a2⟩ := all
    simp only [List.mem_cons, List.mem_append] at hb
    rcases hb with rfl | rfl | rfl | hb | hb
    · exact ⟨_, az⟩
    · exact ⟨_, aI⟩
    · exact ⟨_, aO⟩
    · exact all1 h a1 b hb
    · exact all2 h a2 b hb
  sub := fun b hb => by
    simp only [List.mem_cons, List.not_mem_nil, or_false] at hb
    simp only [List.mem_cons, List.mem_append]
    rcases hb with rfl | rfl | rfl | rfl
    · exact .inl rfl
    · exact .inr (.inr (.inl rfl))
    · exact .inr (.inr (.inr (.inl S.mem1)))
    · exact .inr (.inr (.inr (.inr S.mem2)))
  noKeys := fun A s Q E noExc all h => getAttrOr_miss_zip all.1 rfl rfl rfl zip_no_keys (by decide +kernel) noExc h
  iter := fun A s d Q E noExc all below apart h => by
    obtain ⟨az, aI, ⟨a, b, aO⟩, a1, a2⟩ := all
    simp only [List.mem_cons, List.mem_append, not_or] at apart
    obtain ⟨nz, nJ, nU, df1, df2⟩ := apart
    have di1 : d ≠ i1 := fun e => df1 (by rw [e]; exact S.mem1)
    have di2 : d ≠ i2 := fun e => df2 (by rw [e]; exact S.mem2)
    have hA1 : A.in1.handled = none := noExc
    refine wpAny_pyIter_zip az (h z [z, U, i1, i2] (fun i h => IsPair h J (.ref i1) (.ref i2) ∧ St1 i h ∧ St2 i h ∧
      ((IsZip h z J U .none ∧ ∃ a b, IsPair h U a b) ∨ ∃ T f ob, IsZipHeld h z J U T f ∧ h.get? T = some ob ∧ T ≠ z ∧ T ≠ i1 ∧ T ≠ i2 ∧ T ≠ d)) s.heap s.toks ?_
      ⟨aI, a1, a2, .inl ⟨az, a, b, aO⟩⟩ (fun _ _ e => e) fun b hb => .inl hb)
    exact {
      off := fun hm => by
        simp only [List.mem_cons, List.not_mem_nil, or_false] at hm
        rcases hm with e | e | e | e
        · exact nz e
        · exact nU e
        · exact di1 e
        · exact di2 e
      frame := fun i g₁ g₂ now far => by
        obtain ⟨aI, a1, a2, az⟩ := now
        refine ⟨far _ _ (Ne.symm nJ) aI, (D1 _ hA1).frame _ _ _ a1 fun b hb o e => far b o (fun q => df1 (q ▸ hb)) e, (D2 _ hA1).frame _ _ _ a2 fun b hb o e => far b o (fun q => df2 (q ▸ hb)) e, ?_⟩
        rcases az with ⟨az, a, b, aO⟩ | ⟨T, f, ob, az, aT, w1, w2, w3, w4⟩
        · exact .inl ⟨far _ _ (Ne.symm nz) az, a, b, far _ _ (Ne.symm nU) aO⟩
        · exact .inr ⟨T, f, ob, far _ _ (Ne.symm nz) az, far _ _ w4 aT, w1, w2, w3, w4⟩
      item := fun i sh R Ex hi now hds hQ => by
        obtain ⟨aI, a1, a2, az⟩ := now
        have hix : i < n1 := Nat.lt_of_lt_of_le hi (Nat.min_le_left ..)
        have hiy : i < n2 := Nat.lt_of_lt_of_le hi (Nat.min_le_right ..)
        have below2 : ∀ {c o}, sh.heap.get? c = some o → sh.heap.objs.size ≠ c := fun e => Nat.ne_of_gt (Heap.lt_size e)
        have m1 : sh.heap.objs.size ≠ i1 := let ⟨_, e⟩ := (D1 _ hA1).live _ _ a1; below2 e
        have m2 : sh.heap.objs.size ≠ i2 := let ⟨_, e⟩ := (D2 _ hA1).live _ _ a2; below2 e
        rcases az with ⟨az, a, b, aO⟩ | ⟨T, f, ob, az, aT, w1, w2, w3, w4⟩
        · refine wpAny_pyNext_zipD2_item S (D1 _ hA1) (D2 _ hA1) az aI aO a1 a2 hix hiy fun x y h' tk px py a1 a2 a3 a4 a5 a6 far => ?_
          exact hQ sh.heap.objs.size x y h' tk ⟨px, py⟩ (.inl ⟨_, a5, rfl, _, rfl⟩)
            ⟨far _ _ S.TIz S.TITO S.TIi1 S.TIi2 aI, a3, a4, .inr ⟨sh.heap.objs.size, false, _, a1, a5, below2 az, m1, m2, Nat.ne_of_gt hds⟩⟩
            fun c o hc e => far c o (fun x => hc (by simp [x])) (fun x => hc (by simp [x])) (fun x => hc (by simp [x])) (fun x => hc (by simp [x])) e
        · refine next_zipH_item S (D1 _ hA1) (D2 _ hA1) az aT aI a1 a2 hix hiy fun x y h' tk px py a1 a3 a4 a5 a6 far => ?_
          exact hQ sh.heap.objs.size x y h' tk ⟨px, py⟩ (.inl ⟨_, a5, rfl, _, rfl⟩)
            ⟨far _ _ S.TIz S.TIi1 S.TIi2 aI, a3, a4, .inr ⟨T, true, ob, a1, far _ _ w1 w2 w3 aT, w1, w2, w3, w4⟩⟩
            fun c o hc e => far c o (fun x => hc (by simp [x])) (fun x => hc (by simp [x])) (fun x => hc (by simp [x])) e
      done := fun sh R Ex now hQ => by
        obtain ⟨aI, a1, a2, az⟩ := now
        have hend : min n1 n2 = n1 ∨ min n1 n2 = n2 := by omega
        rcases az with ⟨az, a, b, aO⟩ | ⟨T, f, ob, az, aT, w1, w2, w3, w4⟩
        · exact wpAny_pyNext_zipD2_end S (D1 _ hA1) (D2 _ hA1) az aI aO a1 a2 (Nat.min_le_left ..) (Nat.min_le_right ..) hend fun h' tk far => hQ h' tk fun c o hc e => far c o (fun x => hc (by simp [x])) (fun x => hc (by simp [x])) (fun x => hc (by simp [x])) (fun x => hc (by simp [x])) e
        · exact next_zipH_end S (D1 _ hA1) (D2 _ hA1) az aT aI a1 a2 (Nat.min_le_left ..) (Nat.min_le_right ..) hend fun h' tk far => hQ h' tk fun c o hc e => far c o (fun x => hc (by simp [x])) (fun x => hc (by simp [x])) (fun x => hc (by simp [x])) e }
end
end Z

set_option Elab.async false
set_option linter.all false
set_option maxRecDepth 100000
set_option maxHeartbeats 4000000
/-! ZY: dict(zip(x, y)) as a rule. -/
namespace Z
open PySem PySem.Spec PyProof.Rows L2 StX
/-- the sources of a zip: lists and tuples -/
structure Src2 (prog : Program) (w : World) (s : Shared) (b : Addr) (ys : List Value) where
  o : Obj
  P : Heap → Prop
  B : Begins (.ref b) o P
  here : P s.heap
  St : Addr → Nat → Heap → Prop
  draws : ∀ (A : Around), A.handled = none → ∀ it, b ≠ it → Draws prog w A it [it, b] ys.length (fun i v => ys[i]? = some v) (St it)
  start : ∀ h it, h.get? it = some o → P h → St it 0 h
  all : ∀ h it, St it 0 h → (∃ o, h.get? it = some o) ∧ ∃ o, h.get? b = some o
  there : ∃ o, s.heap.get? b = some o
def src_list {prog : Program} {w : World} {s : Shared} {b : Addr} {ys : List Value} (h : s.heap.IsList b ys.toArray) : Src2 prog w s b ys where
  o := { cls := .type "list_iterator", data := .fields #[.ref b, .int 0 0] }
  P := fun h => h.IsList b ys.toArray
  B := begins_list b ys.toArray
  here := h
  St := fun it i h => h.IsListIter it b i ∧ h.IsList b ys.toArray
  draws := fun A hh it hne => by
    have z := Draws.list (prog := prog) (w := w) hh it b hne ys.toArray
    simpa using z
  start := fun h it e p => ⟨⟨_, e, rfl, rfl⟩, p⟩
  all := fun h it st => ⟨let ⟨o, e, _⟩ := st.1; ⟨o, e⟩, let ⟨o, e, _⟩ := st.2; ⟨o, e⟩⟩
  there := let ⟨o, e, _⟩ := h; ⟨o, e⟩
def src_tup {prog : Program} {w : World} {s : Shared} {b : Addr} {ys : List Value} (h : s.heap.IsTuple b ys.toArray) : Src2 prog w s b ys where
  o := { cls := .type "tuple_iterator", data := .fields #[.ref b, .int 0 0] }
  P := fun h => h.IsTuple b ys.toArray
  B := begins_tuple b ys.toArray
  here := h
  St := fun it i h => h.IsTupleIter it b i ∧ h.IsTuple b ys.toArray
  draws := fun A hh it hne => by
    have z := Draws.tuple (prog := prog) (w := w) hh it b hne ys.toArray
    simpa using z
  start := fun h it e p => ⟨⟨_, e, rfl, rfl⟩, p⟩
  all := fun h it st => ⟨let ⟨o, e, _⟩ := st.1; ⟨o, e⟩, let ⟨o, e, _⟩ := st.2; ⟨o, e⟩⟩
  there := let ⟨o, e, _⟩ := h; ⟨o, e⟩
theorem stored_new {K : Type} [DecidableEq K] : ∀ (ps xs : List (K × Addr × Value)), ((xs ++ ps).map (·.1)).Nodup → storedAllH xs ps = xs ++ ps
  | [], xs, _ => by simp [storedAllH]
  | p :: ps, xs, h => by
    have hn : atKey xs p.1 = none := by
      rw [List.map_append, List.map_cons] at h
      obtain ⟨_, _, h3⟩ := List.nodup_append.mp h
      cases e : atKey xs p.1 with
      | none => rfl
      | some q =>
        exfalso
        have hm : p.1 ∈ xs.map (·.1) := by
          have e2 : (xs.find? fun y => decide (y.1 = p.1)).isSome = true := by
            have : (atKey xs p.1).isSome = true := by rw [e]; rfl
            unfold atKey at this
            simpa using this
          obtain ⟨y, hy⟩ := Option.isSome_iff_exists.mp e2
          have h1 := List.find?_some hy
          have h2 := List.mem_of_find?_eq_some hy
          exact List.mem_map.mpr ⟨y, h2, by simpa using h1⟩
        exact h3 p.1 hm p.1 (List.mem_cons_self ..) rfl
    have e1 : storedAllH xs (p :: ps) = storedAllH (storedH xs p.1 p.2.1 p.2.2) ps := rfl
    rw [e1, storedH_new hn]
    have z := stored_new ps (xs ++ [(p.1, p.2.1, p.2.2)]) (by simpa using h)
    rw [z]
    simp
def tDZip (K : PySem.W.Frag) (ta : TA) : TE := fun σ H Q => ta σ H fun vs H1 => ∃ (a b : Addr) (qs : List Addr) (ys : List V) (ks : List (List Key)), vs = [.ref a, .ref b] ∧ SqL K H1 a (qs.map V.ref) ∧ (SqL K H1 b ys ∨ SqT K H1 b ys) ∧
  qs.length = ks.length ∧ (∀ (i : Nat) (q : Addr), qs[i]? = some q → ∃ k, ks[i]? = some k ∧ H1 q = some (.tup (k.map kV))) ∧ ks.length = ys.length ∧ ks.Nodup ∧ ∀ p, H1 p = none → Q (.ref p) (upd H1 p (.dT (ks.zip ys)))
theorem vals_refs : ∀ {qs : List Addr} {us : List Value}, Vals (qs.map V.ref) us → us = qs.map Value.ref
  | [], us, h => by cases h; rfl
  | q :: qs, us, h => by
    rw [List.map_cons] at h
    cases h with
    | cons r t =>
      cases r
      rw [vals_refs t]
      rfl
theorem kt_zip {H : Hp} : ∀ {ks : List (List Key)} {qs : List Addr} {ys : List V} {us : List Value}, qs.length = ks.length → ks.length = ys.length → Vals ys us → (∀ (i : Nat) (q : Addr), qs[i]? = some q → ∃ k, ks[i]? = some k ∧ H q = some (.tup (k.map kV))) → KT H (ks.zip ys) (ks.zip (qs.zip us))
  | [], qs, ys, us, _, _, _, _ => .nil
  | k :: ks, [], ys, us, h, _, _, _ => by cases h
  | k :: ks, q :: qs, [], us, _, h, _, _ => by cases h
  | k :: ks, q :: qs, y :: ys, us, h1, h2, rv, hk => by
    cases rv with
    | cons r t =>
      obtain ⟨k', e1, e2⟩ := hk 0 q rfl
      cases e1
      exact .cons ⟨rfl, e2, r⟩ (kt_zip (by simpa using h1) (by simpa using h2) t fun i q e => hk (i + 1) q e)
theorem pe_dzip {Γ : Cx} {e e2 : Expr} {ta : TA} {p pos p2 pos2 : Pos} (hcalm : Γ.calm = true) (hu : Γ.A.units + 65 < cLine) (hg1 : Gl Γ "dict") (hm1 : Γ.mg "dict" = none) (hg2 : Gl Γ "zip") (hm2 : Γ.mg "zip" = none) (ha : PA Γ [e, e2] ta)
    (hs : starEach [e, e2] Γ.env = (false, eval e Γ.env) :: starEach [e2] Γ.env := by rfl) (hpl : (backTo pos2 (starEach [e2] Γ.env)).any (·.1) = false := by rfl)
    (na : starEach [.Call (.Name "zip" p2) [e, e2] [] pos2] Γ.env = (false, eval (.Call (.Name "zip" p2) [e, e2] [] pos2) Γ.env) :: starEach [] Γ.env := by rfl) :
    PE Γ (.Call (.Name "dict" p) [.Call (.Name "zip" p2) [e, e2] [] pos2] [] pos) (tDZip Γ.K ta) := by
  refine ⟨fun pins s σ H Q I h => ?_⟩
  refine Call_ (ld_blt I hg1 hm1 boot_dict (PyProof.Rows.callWith_type1 (args_cons ?_ na) na rfl))
  refine Call_ (ld_blt I hg2 hm2 PyProof.Rows.boot_zip (PyProof.Rows.callWith_type1 (thn (ha.run pos2 pins s σ H _ I h) fun us s1 ⟨vs, H1, I1, r1, q1⟩ => ?_) hs hpl))
  obtain ⟨a, b, qs, ys, ks, rfl, hqa, hqb, lq, hk, lk, nd, q⟩ := q1
  obtain ⟨u1, u2, rfl, ra, rb⟩ : ∃ u1 u2, us = [u1, u2] ∧ RelV (.ref a) u1 ∧ RelV (.ref b) u2 := by
    cases r1 with
    | cons p q =>
      cases q with
      | cons p' q' =>
        cases q'
        exact ⟨_, _, rfl, p, p'⟩
  cases ra
  cases rb
  obtain ⟨its, rv, ip, iz⟩ := I1.list hqa
  have eits := vals_refs rv
  have S1 : Src2 Γ.prog Γ.w s1 a its := src_list ip.isList
  obtain ⟨its2, rv2, ⟨S2⟩⟩ : ∃ its2, Vals ys its2 ∧ Nonempty (Src2 Γ.prog Γ.w s1 b its2) := by
    rcases hqb with hqb | hqb
    · obtain ⟨i2, r2, p2, _⟩ := I1.list hqb
      exact ⟨i2, r2, ⟨src_list p2.isList⟩⟩
    · obtain ⟨i2, r2, p2, _⟩ := I1.tuple hqb
      exact ⟨i2, r2, ⟨src_tup p2⟩⟩
  refine zip_begins2 S1.B S2.B S1.here S2.here fun h' hz hTI hTO g1 g2 hsz keep => args_nil ?_
  have lta : a < s1.heap.objs.size := let ⟨o, e⟩ := S1.there; Heap.lt_size e
  have ltb : b < s1.heap.objs.size := let ⟨o, e⟩ := S2.there; Heap.lt_size e
  have l1 : its.length = ks.length := by rw [eits, List.length_map, lq]
  have l2 : its2.length = ks.length := by rw [← rv2.length, ← lk]
  have hA := I.ok.hd hcalm
  have ne1 : a ≠ s1.heap.objs.size := Nat.ne_of_lt lta
  have ne2 : b ≠ s1.heap.objs.size + 1 := Nat.ne_of_lt (Nat.lt_succ_of_lt ltb)
  have P := pairArg_zipD (prog := Γ.prog) (w := Γ.w) Γ.A hA (s1.heap.objs.size + 4) (s1.heap.objs.size + 2) (s1.heap.objs.size + 3) s1.heap.objs.size (s1.heap.objs.size + 1) [s1.heap.objs.size, a] [s1.heap.objs.size + 1, b] its.length its2.length _ _ (S1.St _) (S2.St _)
    (zip_sep2 (fp1 := [a]) (fp2 := [b]) (by simpa using lta) (by simpa using ltb)) (fun A hh => S1.draws A hh _ ne1) (fun A hh => S2.draws A hh _ ne2)
    (fun h st c hc => by
      have hc' : c = s1.heap.objs.size ∨ c = a := by simpa using hc
      rcases hc' with rfl | rfl
      · exact (S1.all h _ st).1
      · exact (S1.all h _ st).2)
    (fun h st c hc => by
      have hc' : c = s1.heap.objs.size + 1 ∨ c = b := by simpa using hc
      rcases hc' with rfl | rfl
      · exact (S2.all h _ st).1
      · exact (S2.all h _ st).2)
  have I2 : Inv Γ pins σ H1 { s1 with heap := h' } := I1.kept (t' := s1.toks) keep
  have nd' : ((ks.zip (qs.zip its2)).map (·.1)).Nodup := by
    rw [List.map_fst_zip (by rw [List.length_zip, lq, l2, Nat.min_self]; exact Nat.le_refl _)]
    exact nd
  refine call_dict_pairsH (s := { s1 with heap := h' }) (knd := tupleKind (mixKind Γ.prog Γ.w)) (ps := ks.zip (qs.zip its2)) P hA ?_ ⟨hz, hTI, ⟨_, _, hTO⟩, S1.start _ _ g1 (S1.B.keeps _ _ S1.here keep), S2.start _ _ g2 (S2.B.keeps _ _ S2.here keep)⟩ ⟨?_, fun i key v hr => ?_⟩ (fun h2 hk2 x hx => ?_) ?_ fun h2 tk hd hk2 => ?_
  · show Γ.A.in1.in1.units < cLine
    have e : Γ.A.in1.in1.units = Γ.A.units + 2 := rfl
    rw [e]
    omega
  · rw [List.length_zip, List.length_zip, lq, l1, l2]
    simp
  · obtain ⟨hr1, hr2⟩ := hr
    rw [eits, List.getElem?_map] at hr1
    obtain ⟨q0, e1, e2⟩ := Option.map_eq_some_iff.mp hr1
    obtain ⟨k, e3, e4⟩ := hk i q0 e1
    exact ⟨k, q0, by rw [List.getElem?_zip_eq_some]; exact ⟨e3, by rw [List.getElem?_zip_eq_some]; exact ⟨e1, hr2⟩⟩, e2.symm⟩
  · obtain ⟨i, hi, e0⟩ := List.getElem_of_mem hx
    have e1 : (ks.zip (qs.zip its2))[i]? = some x := by rw [List.getElem?_eq_getElem hi, e0]
    obtain ⟨k, q0, v⟩ := x
    rw [List.getElem?_zip_eq_some] at e1
    obtain ⟨e1, e2⟩ := e1
    rw [List.getElem?_zip_eq_some] at e2
    obtain ⟨k', e3, e4⟩ := hk i q0 e2.1
    rw [e1] at e3
    cases e3
    obtain ⟨o, ys', n, h1, h2', h3, h4⟩ := key_of I1.hok e4
    have hlt : q0 < s1.heap.objs.size := Heap.lt_size h1
    have hsz' : h'.objs.size = s1.heap.objs.size + 5 := hsz
    refine ⟨o, ys', n, hk2 q0 o (fun e => ?_) (fun m => ?_) (keep q0 o h1), h2', h3, h4⟩
    · have : q0 = h'.objs.size := e
      rw [this, hsz'] at hlt
      exact absurd hlt (Nat.not_lt_of_le (Nat.le_add_right _ _))
    · have m' : q0 = s1.heap.objs.size + 4 ∨ q0 = s1.heap.objs.size + 3 ∨ q0 = s1.heap.objs.size ∨ q0 = s1.heap.objs.size + 1 := by simpa using m
      rcases m' with e | e | e | e <;> (rw [e] at hlt; first | exact absurd hlt (Nat.lt_irrefl _) | exact absurd hlt (Nat.not_lt_of_le (Nat.le_add_right _ _)))
  · rw [l1, l2, Nat.min_self, ← l1, eits, List.length_map]
    rw [List.length_map] at iz
    exact iz
  · have hsz' : h'.objs.size = s1.heap.objs.size + 5 := hsz
    rw [stored_new _ [] (by simpa using nd')] at hd
    obtain ⟨o, es, ep, d1, d2, d3, d4, _, d6⟩ := hd
    have ht := kt_zip (H := H1) lq lk rv2 hk
    have big : s1.heap.objs.size ≤ h'.objs.size := by rw [hsz']; exact Nat.le_add_right _ _
    have hn : H1 h'.objs.size = none := I1.hok.fresh big
    have old : ∀ c u, s1.heap.get? c = some u → h2.get? c = some u := fun c u e => by
      have hlt : c < s1.heap.objs.size := Heap.lt_size e
      refine hk2 c u (fun m => ?_) (keep c u e)
      have m' : c = s1.heap.objs.size + 4 ∨ c = s1.heap.objs.size + 3 ∨ c = s1.heap.objs.size ∨ c = s1.heap.objs.size + 1 := by simpa using m
      rcases m' with e | e | e | e <;> (rw [e] at hlt; first | exact absurd hlt (Nat.lt_irrefl _) | exact absurd hlt (Nat.not_lt_of_le (Nat.le_add_right _ _)))
    have lz : (ks.zip ys).length ≤ sizeLine := by
      rw [List.length_zip, ← lk, Nat.min_self, ← lq]
      rw [List.length_map] at iz
      exact iz
    have hm : (h'.objs.size == sysModules) = false := beq_eq_false_iff_ne.mpr (Nat.ne_of_gt (Nat.lt_of_lt_of_le I1.big big))
    refine ⟨.ref h'.objs.size, upd H1 h'.objs.size (.dT (ks.zip ys)), I1.laid (t' := tk) old big ⟨lz, hm, ks.zip (qs.zip its2), ht.keeps fun c zs ec => ?_, o, es, ep, d1, d2, d3, d4, d6⟩, rfl, q _ hn⟩
    rw [upd_ne (ne_of_none ec hn)]
    exact ec
/-! ### on trees -/
def keysL : List D → Option (List (List Key))
  | [] => some []
  | d :: ds => match keyOf d, keysL ds with
    | some k, some ks => some (k :: ks)
    | _, _ => none
section
variable {w : Wd}
theorem keysL_rep {I H : Hp} (le : Le I H) : ∀ {xs : List D} {us : List V} {fp : List Addr} {ks : List (List Key)}, RepL w I H xs us fp → keysL xs = some ks →
    ∃ qs : List Addr, us = qs.map V.ref ∧ qs.length = ks.length ∧ ∀ (i : Nat) (q : Addr), qs[i]? = some q → ∃ k, ks[i]? = some k ∧ H q = some (.tup (k.map kV))
  | [], us, fp, ks, h, e => by
    unfold RepL at h
    cases e
    exact ⟨[], h.1, rfl, fun i q e => by cases e⟩
  | d :: ds, us, fp, ks, h, e => by
    unfold RepL at h
    obtain ⟨v, u, f1, f2, rfl, rfl, h1, h2⟩ := h
    unfold keysL at e
    cases e1 : keyOf d with
    | none => rw [e1] at e; cases e
    | some k =>
      cases e2 : keysL ds with
      | none => rw [e1, e2] at e; cases e
      | some ks' =>
        rw [e1, e2] at e
        cases e
        obtain ⟨qs, rfl, hl, hk⟩ := keysL_rep le h2 e2
        have hv : ∃ q, v = .ref q ∧ H q = some (.tup (k.map kV)) := by
          unfold keyOf at e1
          split at e1
          · rename_i xs
            unfold Rep at h1
            obtain ⟨a, us, fp', rfl, hl, hf, q⟩ := h1
            rcases q with ⟨ho, _, _⟩ | ⟨_, hat, _⟩
            · cases ho
            · rw [← keysOf_rep hl e1]
              exact ⟨a, rfl, le a _ hat⟩
          · cases e1
        obtain ⟨q, rfl, hq⟩ := hv
        refine ⟨q :: qs, rfl, by simp [hl], fun i q' e => ?_⟩
        cases i with
        | zero =>
          cases e
          exact ⟨k, rfl, hq⟩
        | succ i => exact hk i q' e
def rDZ (K : PySem.W.Frag) : RN := fun us H Q _ => ∃ (a b : Addr) (qs : List Addr) (ys : List V) (ks : List (List Key)), us = [.ref a, .ref b] ∧ SqL K H a (qs.map V.ref) ∧ (SqL K H b ys ∨ SqT K H b ys) ∧
  qs.length = ks.length ∧ (∀ (i : Nat) (q : Addr), qs[i]? = some q → ∃ k, ks[i]? = some k ∧ H q = some (.tup (k.map kV))) ∧ ks.length = ys.length ∧ ks.Nodup ∧ ∀ p, H p = none → Q (.ref p) (upd H p (.dT (ks.zip ys)))
def oDZip : Op
  | [.node (.lst o) xs, e] => (match keysL xs, e.seq with
    | some ks, some ys => if ks.Nodup ∧ ks.length = ys.length then (if isFrzL ys = true then .ok (.node (.dt true ks) ys) [.node (.lst o) xs, e] else .ok (.node (.dt true ks) (frzL ys)) [.node (.lst o) xs, e.frz]) else .bad
    | _, _ => .bad)
  | _ => .bad
theorem od_dzip : OpD w (rDZ w.K) oDZip := fun I F es us H Q E hs o => by
  unfold oDZip at o
  split at o
  · rename_i ow xs e
    match us, hs.length, hs, o with
    | [v, u], _, hs, o =>
      cases e1 : keysL xs with
      | none => simp only [e1] at o; exact o.elim
      | some ks =>
        cases e2 : e.seq with
        | none => simp only [e1, e2] at o; exact o.elim
        | some ys =>
          simp only [e1, e2] at o
          obtain ⟨⟨nd, hl⟩, o⟩ := ite_out o
          have key : ∀ (J : Hp) (e' : D) (zs : List D), Le I J → Hs w J F [.node (.lst ow) xs, e'] [v, u] H → e'.seq = some zs → isFrzL zs = true → zs.length = ys.length →
              (∀ z I' H', Le J I' → Hs w I' F (.node (.dt true ks) zs :: [.node (.lst ow) xs, e']) (z :: [v, u]) H' → Q z H') → rDZ w.K [v, u] H Q E := by
            intro J e' zs le h2 hz hf hzl out
            obtain ⟨a, us, rfl, hq, hl1, fp, r⟩ := h2.seqL (t := .lst ow) (xs := xs) (.inr ⟨ow, rfl⟩)
            obtain ⟨qs, rfl, lq, hk⟩ := keysL_rep h2.iH r e1
            obtain ⟨b, vs2, rfl, hq2, _, _, hl2, h3⟩ := h2.swap.items hz hf
            refine ⟨a, b, qs, vs2, ks, rfl, hq, hq2, lq, hk, by omega, nd, fun p np => ?_⟩
            have h4 : Hs w J F (zs ++ [.node (.lst ow) xs, e']) (vs2 ++ [.ref a, .ref b]) H := by
              obtain ⟨G, g, back⟩ := Hs.push h3 hl2.symm
              exact back J _ _ H (Le.refl _) g.swap
            exact out (.ref p) J _ (Le.refl _) (Hs.newO (t := .dt true ks) h4 hl2.symm np rfl (show ks.length = vs2.length by omega) (show upd H p (.dT (ks.zip vs2)) p = some (.dT (ks.zip vs2)) from upd_same))
          by_cases hc : isFrzL ys = true
          · rw [if_pos hc] at o
            exact key I e ys (Le.refl _) hs e2 hc rfl o
          · rw [if_neg hc] at o
            obtain ⟨J, le, h1⟩ := hs.swap.freeze
            exact key J e.frz (frzL ys) le h1.swap (seq_frz e2) (isFrzL_frz ys) (frzL_len ys) fun z I' H' le' h' => o z I' H' (le.trans le') h'
  · exact o.elim
end
section
variable {Γ : Cx} {X : Fx} {W : WX}
theorem z_dzip {e e2 : Expr} {p pos p2 pos2 : Pos} {ops : List Opd} (hcalm : Γ.calm = true) (hu : Γ.A.units + 65 < cLine) (hK : X.w.K = Γ.K) (hg1 : Gl Γ "dict") (hm1 : Γ.mg "dict" = none) (hg2 : Gl Γ "zip") (hm2 : Γ.mg "zip" = none) (ha : PA Γ [e, e2] (tOs X W ops))
    (hs : starEach [e, e2] Γ.env = (false, eval e Γ.env) :: starEach [e2] Γ.env := by rfl) (hpl : (backTo pos2 (starEach [e2] Γ.env)).any (·.1) = false := by rfl)
    (na : starEach [.Call (.Name "zip" p2) [e, e2] [] pos2] Γ.env = (false, eval (.Call (.Name "zip" p2) [e, e2] [] pos2) Γ.env) :: starEach [] Γ.env := by rfl) :
    PE Γ (.Call (.Name "dict" p) [.Call (.Name "zip" p2) [e, e2] [] pos2] [] pos) (tE X W (mApp oDZip ops)) :=
  PEi (pe_dzip hcalm hu hg1 hm1 hg2 hm2 ha hs hpl na) fun σ H Q h => by
    have z := app_run (X := X) od_dzip h
    rw [hK] at z
    exact z
end
end Z

set_option Elab.async false
set_option linter.all false
set_option maxRecDepth 100000
set_option maxHeartbeats 4000000
/-! ZZ: what a def's derivation asks for: names, exceptions, room. -/
namespace Z
open PySem PySem.Spec PyProof.Rows L2 StX
/-- a name of the def that may be seen -/
theorem pe_bt {Γ : Cx} {x : Str} {n : String} {p : Pos} (hg : Gl Γ x) (hm : Γ.mg x = none) (hv : bootBuiltins x = some (.type n)) (hn : x ≠ "__name__" := by decide) (hd : (x == ("__debug__" : Str)) = false := by decide) : PE Γ (.Name x p) (tC (.ty n)) :=
  ⟨fun pins s σ H Q I h => ld_blt I hg hm hv ⟨.ty n, H, I, rfl, h⟩ hn hd⟩
section
variable {P : Program} {wo : World} {K : PySem.W.Frag} {mg : Str → Option Value} {base : Heap} {N : List Str} {qual : Str} {scope : Scope} {f : Addr} {cdv : Value} {A : Around} {outer : List PySem.Env} {s : Shared} {H : Hp} {E : XK}
theorem tkE : Takes (cxOf (L2.CX P wo) P wo K mg base N qual scope f cdv A outer s H E) (WE' E) := takes_of rfl rfl rfl rfl
theorem tk0 {Γ : Cx} : Takes Γ W0 := takes0
theorem pOwn : PassesOwn (model P wo) (cxOf (L2.CX P wo) P wo K mg base N qual scope f cdv A outer s H E).A (cxOf (L2.CX P wo) P wo K mg base N qual scope f cdv A outer s H E).env (cxOf (L2.CX P wo) P wo K mg base N qual scope f cdv A outer s H E).xe := passes_of rfl
end
section
variable {Γ : Cx} {X : Fx} {W : WX}
/-- f(e, ..), f a name of a module's function of the built-in kind -/
theorem z_callBf {x : Str} {p pos : Pos} {id : String} {e : Expr} {es : List Expr} {ops : List Opd} {r : List V → Hp → VK → Prop} {g : Op} (hc : CallR Γ (.builtin id) r) (o : OpD X.w (rN r) g) (hg : Gl Γ x) (hm : Γ.mg x = some (.builtin id)) (ha : PA Γ (e :: es) (tOs X W ops)) (hdb : (x == ("__debug__" : Str)) = false := by decide)
    (he : starEach (e :: es) Γ.env = (false, eval e Γ.env) :: starEach es Γ.env := by rfl) (hpl : (backTo pos (starEach es Γ.env)).any (·.1) = false := by rfl) : PE Γ (.Call (.Name x p) (e :: es) [] pos) (tE X W (mApp g ops)) :=
  PEi (pe_callBfun hc hg hm ha hdb he hpl) fun σ H Q h => app_run o h
end
theorem Room.u65 {k : Nat} {A : Around} (r : Room k A) : A.units + 65 < cLine := by have := r.un; omega
theorem Room.u1 {k : Nat} {A : Around} (r : Room k A) : A.units + 1 < cLine := by have := r.un; omega
/-- the built-in names are not those of the module -/
structure Bl (mg : Str → Option Value) : Prop where
  isinstance : mg "isinstance" = none
  tuple : mg "tuple" = none
  list : mg "list" = none
  int : mg "int" = none
  bool : mg "bool" = none
  len : mg "len" = none
  all : mg "all" = none
  any : mg "any" = none
  sum : mg "sum" = none
  min : mg "min" = none
  max : mg "max" = none
  abs : mg "abs" = none
  sorted : mg "sorted" = none
  range : mg "range" = none
  enumerate : mg "enumerate" = none
  zip : mg "zip" = none
  dict : mg "dict" = none
  comb : mg "comb" = some (.builtin "math.comb")
/-! ### lists and tuples gone through where they lie -/
mutual
theorem Rep.wf {K : PySem.W.Frag} {cA : Str → Addr} {l l' m m' : Hp} {I H : Hp} : ∀ (d : D) (v : V) (fp : List Addr), Rep ⟨K, cA, l, m⟩ I H d v fp → Rep ⟨K, cA, l', m'⟩ I H d v fp
  | .any, v, fp, h => by unfold Rep at h ⊢; exact h
  | .non, v, fp, h => by unfold Rep at h ⊢; exact h
  | .bl b, v, fp, h => by unfold Rep at h ⊢; exact h
  | .int i, v, fp, h => by unfold Rep at h ⊢; exact h
  | .str s, v, fp, h => by unfold Rep at h ⊢; exact h
  | .node t xs, v, fp, h => by
    unfold Rep at h ⊢
    obtain ⟨b, vs, fp', rfl, hl, hf, h⟩ := h
    refine ⟨b, vs, fp', rfl, RepL.wf xs vs fp' hl, hf, ?_⟩
    rcases h with ⟨ho, h, e⟩ | ⟨ho, h, e⟩
    · exact .inl ⟨ho, by cases t <;> exact h, e⟩
    · exact .inr ⟨ho, by cases t <;> exact h, e⟩
theorem RepL.wf {K : PySem.W.Frag} {cA : Str → Addr} {l l' m m' : Hp} {I H : Hp} : ∀ (ds : List D) (vs : List V) (fp : List Addr), RepL ⟨K, cA, l, m⟩ I H ds vs fp → RepL ⟨K, cA, l', m'⟩ I H ds vs fp
  | [], vs, fp, h => by unfold RepL at h ⊢; exact h
  | d :: ds, vs, fp, h => by
    unfold RepL at h ⊢
    obtain ⟨v, us, f1, f2, rfl, rfl, h1, h2⟩ := h
    exact ⟨v, us, f1, f2, rfl, rfl, Rep.wf d v f1 h1, RepL.wf ds us f2 h2⟩
end
theorem Hs.rewf {K : PySem.W.Frag} {cA : Str → Addr} {l l' m m' : Hp} {I F H : Hp} {ds : List D} {vs : List V} (h : Hs ⟨K, cA, l, m⟩ I F ds vs H) (hl : Le l' I) (hm : Le m' F) : Hs ⟨K, cA, l', m'⟩ I F ds vs H := by
  obtain ⟨fp, r, nd, dj⟩ := h.ex
  exact ⟨⟨fp, RepL.wf ds vs fp r, nd, dj⟩, h.iF, h.fH, h.fT, hl, hm⟩
/-- the list or tuple at slot i stays as it is, xs its items -/
def Pkd (X : Fx) (i : Nat) (xs : List D) : Prop := ∃ (a : Addr) (us : List V), X.vs0[i]? = some (.ref a) ∧ i ∈ X.pin ∧ ((X.w.fk a = some (.lst us) ∨ SqL X.w.K X.w.lk a us) ∨ SqT X.w.K X.w.lk a us) ∧ RepL X.w X.w.lk X.w.lk xs us []
theorem walks_pl {w : Wd} {I : Hp} {a : Addr} {us : List V} {xs : List D} (hq : ∀ I0 F0 ds vs H, Hs w I0 F0 ds vs H → SqL w.K H a us) (r : RepL w I I xs us []) : Walks w (Itl w.K a) I xs where
  go := fun i I0 F ds vs H hs le hi => by
    have hl := r.length
    exact ⟨us, us[i], hq _ _ _ _ _ hs, by rw [List.getElem?_eq_getElem]⟩
  stop := fun I0 F ds vs H hs le => ⟨us, hq _ _ _ _ _ hs, by rw [r.length]; exact Nat.le_refl _⟩
  yld := fun i d I0 F ds vs H x H' hs le hd y => by
    obtain ⟨rfl, hx⟩ := y
    have e := hx us (hq _ _ _ _ _ hs)
    obtain ⟨v, ev, r1⟩ := r.frAt hd
    have ex : x = v := Option.some.inj (e.symm.trans ev)
    subst ex
    obtain ⟨fp, rr, nd, dj⟩ := hs.ex
    have r1' := Rep.frame (H' := H') le d x [] (fun a m => nomatch m) r1
    exact ⟨I0, Le.refl _, hs.of_sub (RepL.cons (f1 := []) r1' rr) rr nd dj nd fun b m => m⟩
section
variable {Γ : Cx} {X : Fx} {W : WX}
theorem i_pk {tg : Expr} {x : Str} {p : Pos} {i : Nat} {xs : List D} (hx : PE Γ (.Name x p) (tVar i)) (hK : X.w.K = Γ.K) (hk : Pkd X i xs) : PI Γ tg (.Name x p) (tI X W (fun env => .ok xs env)) := by
  refine PIi (PI.or (pi_list hx) (pi_tup hx)) fun σ H R q => ?_
  obtain ⟨I, F, env, hs, er, o⟩ := q
  obtain ⟨a, us, h1, h2, h3, h4⟩ := hk
  have hv := er.pin i h2 _ h1
  have r : RepL X.w I I xs us [] := RepL.frame hs.lkI xs us [] (fun _ m => nomatch m) h4
  rcases h3 with h3 | h3
  · have hq : ∀ I0 F0 ds vs H, Hs X.w I0 F0 ds vs H → SqL X.w.K H a us := fun I0 F0 ds vs H hs => by
      rcases h3 with h3 | h3
      · exact Or.inl (Or.inl (hs.fH a _ (hs.fkF a _ h3)))
      · exact le_l (hs.lkI.trans hs.iH) h3
    refine .inl ⟨_, hv, a, rfl, ⟨us, by rw [← hK]; exact hq _ _ _ _ _ hs⟩, o _ I H (Le.refl I) hs er ?_⟩
    rw [← hK]
    exact walks_pl hq r
  · have hI : SqT X.w.K I a us := le_t hs.lkI h3
    refine .inr ⟨_, hv, a, rfl, ⟨us, by rw [← hK]; exact le_t hs.iH hI⟩, o _ I H (Le.refl I) hs er ?_⟩
    rw [← hK]
    exact walks_t hI r
/-- what is set aside comes back -/
theorem aside_out {w : Wd} {I F H : Hp} {σ : L2.St} {env : Env} {i : Nat} {d : D} {xs : List D} {v : V} (hs : Hs w I F env (σv σ) H) (hd : env[i]? = some d) (hv : σ[i]? = some (some v)) (he : d.seq = some xs) (hc : isFrzL xs = true) :
    ∃ (a : Addr) (us : List V) (fk' G : Hp), v = .ref a ∧ ((fk' a = some (.lst us) ∨ SqL w.K I a us) ∨ SqT w.K I a us) ∧ RepL w I I xs us [] ∧ Hs ⟨w.K, w.cA, I, fk'⟩ I G (env.set i .any) (σv σ) H ∧
      ∀ I' e us' H', Le I I' → Hs ⟨w.K, w.cA, I, fk'⟩ I' G e us' H' → Hs w I' F (d :: e) (v :: us') H' := by
  obtain ⟨v', e', h1⟩ := Hs.take (es := []) (us := []) hs rfl hd
  have ev : v' = v := Option.some.inj (e'.symm.trans (σv_at hv))
  subst ev
  have h1' : Hs w I F (d :: env.set i .any) (v' :: σv σ) H := h1
  by_cases ho : ∃ t, d = .node t xs ∧ t.own = true
  · obtain ⟨t, rfl, ho⟩ := ho
    have ht : t = .lst true := by
      cases t with
      | lst o => cases o with
        | true => rfl
        | false => cases ho
      | tup => cases ho
      | tux => cases ho
      | scr => cases ho
      | dk o ks => simp [D.seq] at he
      | dt o ks => simp [D.seq] at he
      | ins o c ns => simp [D.seq] at he
    subst ht
    obtain ⟨a, us, G, rfl, hl, hf, hat, hG, gk, close⟩ := h1'.open rfl
    have hat' : H a = some (.lst us) := hat
    obtain ⟨fp, r, nd, dj⟩ := hG.ex
    obtain ⟨f1, f2, rfl, r1, r2⟩ := r.split hl
    have e0 := r1.nil_of_frz hc
    subst e0
    have rI : RepL w I I xs us [] := RepL.frame (Le.refl I) xs us [] (fun _ m => nomatch m) r1
    have hG2 : Hs w I G (env.set i .any) (σv σ) H := hG.of_sub r2 r nd dj nd fun b m => m
    refine ⟨a, us, upd w.fk a (.lst us), G, rfl, .inl (.inl upd_same), rI, ?_, fun I' e us' H' le h' => ?_⟩
    · refine Hs.rewf (l := w.lk) (m := w.fk) hG2 (Le.refl I) fun b o e => ?_
      by_cases q : b = a
      · subst q
        rw [upd_same] at e
        cases e
        exact gk _ hat'
      · rw [upd_ne q] at e
        exact hG2.fkF b o e
    · have h2 : Hs w I' G e us' H' := Hs.rewf (l' := w.lk) (m' := w.fk) h' (hG2.lkI.trans le) hG2.fkF
      obtain ⟨fq, rq, nq, dq⟩ := h2.ex
      have r3 : RepL w I' H' xs us [] := RepL.frame le xs us [] (fun _ m => nomatch m) rI
      have h3 : Hs w I' G (xs ++ e) (us ++ us') H' := h2.of_sub (RepL.append (f1 := []) r3 rq) rq nq dq nq fun b m => m
      have h4 := close I' (.lst true) xs us e us' H' (.lst us) le h3 hl rfl trivial (show upd H' a (.lst us) a = some (.lst us) from upd_same)
      have e5 : upd H' a (.lst us) = H' := by
        funext b
        by_cases q : b = a
        · subst q
          rw [upd_same]
          exact (h2.fH b _ (gk _ hat')).symm
        · rw [upd_ne q]
      rw [e5] at h4
      exact h4
  · obtain ⟨fp, r, nd, dj⟩ := h1'.ex
    obtain ⟨f1, f2, rfl, r1, r2⟩ := r.out
    have fr : d.isFrz = true := by
      cases d with
      | node t ys =>
        have hy : ys = xs := by cases t <;> simp [D.seq] at he <;> exact he
        subst hy
        unfold D.isFrz
        rw [hc]
        cases q : t.own with
        | true => exact absurd ⟨t, rfl, q⟩ ho
        | false => rfl
      | _ => rfl
    have e0 := r1.own_nil (frz_id fr)
    subst e0
    have hf : Hs w I F (d.frz :: env.set i .any) (v' :: σv σ) H := by rw [frz_id fr]; exact h1'
    obtain ⟨a, us, rfl, q1, q2, rI⟩ := hf.seqF2 he
    rw [frzL_id hc] at rI
    refine ⟨a, us, w.fk, F, rfl, ?_, rI, Hs.rewf (l := w.lk) (m := w.fk) h1'.drop (Le.refl I) h1'.fkF, fun I' e us' H' le h' => ?_⟩
    · by_cases ht : ∃ ys, d = .node .tup ys ∨ d = .node .tux ys
      · exact .inr (q1 ht)
      · exact .inl (.inr (q2 ht))
    · have h2 : Hs w I' F e us' H' := Hs.rewf (l' := w.lk) (m' := w.fk) h' (h1'.lkI.trans le) h1'.fkF
      obtain ⟨fq, rq, nq, dq⟩ := h2.ex
      have r3 : Rep w I' H' d (.ref a) [] := Rep.frame le d (.ref a) [] (fun _ m => nomatch m) r1
      exact h2.of_sub (RepL.cons (f1 := []) r3 rq) rq nq dq nq fun b m => m
end
section
variable {Γ : Cx} {W : WX}
def isA : Option D → Bool
  | some .any => true
  | _ => false
theorem isA_of {o : Option D} (h : isA o = true) : o = some .any := by
  cases o with
  | none => cases h
  | some d => cases d <;> first | rfl | cases h
def putS (i : Nat) (d : D) : SRes → SRes
  | .nx e => if isA e[i]? = true then .nx (e.set i d) else .bad
  | .rt r e => if isA e[i]? = true then .rt r (e.set i d) else .bad
  | .bk e => if isA e[i]? = true then .bk (e.set i d) else .bad
  | .ct e => if isA e[i]? = true then .ct (e.set i d) else .bad
  | .exc _ _ _ _ => .bad
  | .bad => .bad
def putM (i : Nat) (d : D) : Res → Res
  | .ok r e => if isA e[i]? = true then .ok r (e.set i d) else .bad
  | .exc _ _ _ _ => .bad
  | .bad => .bad
theorem outS_if {X : Fx} {I F : Hp} {E : Ends} {c : Prop} [Decidable c] {r : SRes} (o : OutS X W I F E (if c then r else .bad)) : c ∧ OutS X W I F E r := by
  by_cases q : c
  · rw [if_pos q] at o; exact ⟨q, o⟩
  · rw [if_neg q] at o; exact o.elim
theorem outM_if {X : Fx} {I F : Hp} {σ : L2.St} {Q : VK} {c : Prop} [Decidable c] {r : Res} (o : Out X W I F σ Q (if c then r else .bad)) : c ∧ Out X W I F σ Q r := by
  by_cases q : c
  · rw [if_pos q] at o; exact ⟨q, o⟩
  · rw [if_neg q] at o; exact o.elim
/-- the list or tuple at slot i is set aside, with what it has; if it has what is owned, all is given up first -/
def sAside (i : Nat) (s : List D → S) : S := fun env => match env[i]? with
  | some d => (match d.seq with
    | some xs => if isFrzL xs = true then putS i d (s xs (env.set i .any)) else .bad
    | none => .bad)
  | none => .bad
def mAside (i : Nat) (s : List D → M) : M := fun env => match env[i]? with
  | some d => (match d.seq with
    | some xs => if isFrzL xs = true then putM i d (s xs (env.set i .any)) else .bad
    | none => .bad)
  | none => .bad
theorem put_back {w : Wd} {I F H : Hp} {d : D} {v : V} {e : Env} {us : List V} {i : Nat} (h : Hs w I F (d :: e) (v :: us) H) (hi : e[i]? = some .any) (hv : us[i]? = some v) : Hs w I F (e.set i d) us H := Hs.put (es := []) (us := []) h rfl hi hv
theorem put_back2 {w : Wd} {I F H : Hp} {d r : D} {v y : V} {e : Env} {us : List V} {i : Nat} (h : Hs w I F (d :: r :: e) (v :: y :: us) H) (hi : e[i]? = some .any) (hv : us[i]? = some v) : Hs w I F (r :: e.set i d) (y :: us) H := Hs.put (es := [r]) (us := [y]) h rfl hi hv
theorem aside_er {w w' : Wd} {pin : List Nat} {vs0 : List V} {σ : L2.St} {env : Env} {i : Nat} {d : D} {v : V} (hpin : ∀ j ∈ pin, j < vs0.length) (er : EnvR ⟨w, pin, vs0⟩ σ env) (hd : env[i]? = some d) (hn : d ≠ .any) (hv : σ[i]? = some (some v)) :
    EnvR ⟨w', i :: pin, σv σ⟩ σ (env.set i .any) ∧ ∀ (σ' : L2.St) (e : Env), EnvR ⟨w', i :: pin, σv σ⟩ σ' e → σ'[i]? = some (some v) ∧ EnvR ⟨w, pin, vs0⟩ σ' (e.set i d) := by
  constructor
  · have z := er.set hd (d' := .any) fun h => absurd rfl h
    refine ⟨z.on, fun j hj v2 hvj => ?_⟩
    rcases List.mem_cons.mp hj with rfl | hj
    · rw [σv_at hv] at hvj
      cases hvj
      exact hv
    · have lt := hpin j hj
      have hp := er.pin j hj vs0[j] (List.getElem?_eq_getElem lt)
      rw [σv_at hp] at hvj
      cases hvj
      exact hp
  · intro σ' e z
    have hi := z.pin i (List.mem_cons_self ..) v (σv_at hv)
    refine ⟨hi, fun j d2 hj hne => ?_, fun j hj v2 hvj => z.pin j (List.mem_cons_of_mem _ hj) v2 (σv_at (er.pin j hj v2 hvj))⟩
    by_cases q : i = j
    · subst q
      exact ⟨v, hi⟩
    · rw [List.getElem?_set_ne q] at hj
      exact z.on j d2 hj hne
theorem s_aside {st : Stmt} {i : Nat} {w : Wd} {pin : List Nat} {vs0 : List V} {s : List D → S} (hpin : ∀ j ∈ pin, j < vs0.length)
    (h : ∀ (lk' fk' : Hp) (vs' : List V) (xs : List D), (∀ j ∈ i :: pin, j < vs'.length) → Pkd ⟨⟨w.K, w.cA, lk', fk'⟩, i :: pin, vs'⟩ i xs → PS Γ st (tS ⟨⟨w.K, w.cA, lk', fk'⟩, i :: pin, vs'⟩ W (s xs))) : PS Γ st (tS ⟨w, pin, vs0⟩ W (sAside i s)) := by
  have h1 : PS Γ st (fun E σ H => ∃ (lk' fk' : Hp) (vs' : List V) (xs : List D), (∀ j ∈ i :: pin, j < vs'.length) ∧ Pkd ⟨⟨w.K, w.cA, lk', fk'⟩, i :: pin, vs'⟩ i xs ∧ tS ⟨⟨w.K, w.cA, lk', fk'⟩, i :: pin, vs'⟩ W (s xs) E σ H) := ⟨fun pins sh σ H D I q => by
    obtain ⟨lk', fk', vs', xs, c1, c3, q⟩ := q
    exact (h lk' fk' vs' xs c1 c3).run pins sh σ H D I q⟩
  refine PSi h1 fun E σ H q => ?_
  obtain ⟨I, F, env, hs, er, o⟩ := q
  unfold sAside at o
  cases hd : env[i]? with
  | none => rw [hd] at o; exact o.elim
  | some d =>
    simp only [hd] at o
    cases he : d.seq with
    | none => simp only [he] at o; exact o.elim
    | some xs =>
      simp only [he] at o
      by_cases hc : isFrzL xs = true
      · rw [if_pos hc] at o
        have hn : d ≠ .any := fun z => by rw [z] at he; cases he
        obtain ⟨v, hv⟩ := er.on i d hd hn
        obtain ⟨a, us, fk', G, rfl, hk, r, h2, back⟩ := aside_out hs hd hv he hc
        obtain ⟨e1, e2⟩ := aside_er (w' := ⟨w.K, w.cA, I, fk'⟩) hpin er hd hn hv
        have hlen : ∀ j ∈ i :: pin, j < (σv σ).length := fun j hj => by
          rw [σv_len]
          rcases List.mem_cons.mp hj with rfl | hj
          · exact (List.getElem?_eq_some_iff.mp hv).1
          · exact (List.getElem?_eq_some_iff.mp (er.pin j hj (vs0[j]'(hpin j hj)) (List.getElem?_eq_getElem (hpin j hj)))).1
        refine ⟨I, fk', σv σ, xs, hlen, ⟨a, us, σv_at hv, List.mem_cons_self .., hk, RepL.wf (l := w.lk) (m := w.fk) xs us [] r⟩, I, G, _, h2, e1, ?_⟩
        cases hm : s xs (env.set i .any) with
        | bad => rw [hm] at o; exact o.elim
        | exc c ns ys e => rw [hm] at o; exact o.elim
        | nx e =>
          rw [hm] at o
          obtain ⟨hi, o⟩ := outS_if o
          intro σ' I' H' le h' er'
          obtain ⟨k1, k2⟩ := e2 σ' e er'
          exact o σ' I' H' le (put_back (back I' e _ H' le h') (isA_of hi) (σv_at k1)) k2
        | bk e =>
          rw [hm] at o
          obtain ⟨hi, o⟩ := outS_if o
          intro σ' I' H' le h' er'
          obtain ⟨k1, k2⟩ := e2 σ' e er'
          exact o σ' I' H' le (put_back (back I' e _ H' le h') (isA_of hi) (σv_at k1)) k2
        | ct e =>
          rw [hm] at o
          obtain ⟨hi, o⟩ := outS_if o
          intro σ' I' H' le h' er'
          obtain ⟨k1, k2⟩ := e2 σ' e er'
          exact o σ' I' H' le (put_back (back I' e _ H' le h') (isA_of hi) (σv_at k1)) k2
        | rt rd e =>
          rw [hm] at o
          obtain ⟨hi, o⟩ := outS_if o
          intro v2 σ' I' H' le h' er'
          obtain ⟨k1, k2⟩ := e2 σ' e er'
          exact o v2 σ' I' H' le (put_back2 (back I' (rd :: e) _ H' le h') (isA_of hi) (σv_at k1)) k2
      · rw [if_neg hc] at o
        exact o.elim
theorem z_aside {st : Expr} {i : Nat} {w : Wd} {pin : List Nat} {vs0 : List V} {s : List D → M} (hpin : ∀ j ∈ pin, j < vs0.length)
    (h : ∀ (lk' fk' : Hp) (vs' : List V) (xs : List D), (∀ j ∈ i :: pin, j < vs'.length) → Pkd ⟨⟨w.K, w.cA, lk', fk'⟩, i :: pin, vs'⟩ i xs → PE Γ st (tE ⟨⟨w.K, w.cA, lk', fk'⟩, i :: pin, vs'⟩ W (s xs))) : PE Γ st (tE ⟨w, pin, vs0⟩ W (mAside i s)) := by
  have h1 : PE Γ st (fun σ H Q => ∃ (lk' fk' : Hp) (vs' : List V) (xs : List D), (∀ j ∈ i :: pin, j < vs'.length) ∧ Pkd ⟨⟨w.K, w.cA, lk', fk'⟩, i :: pin, vs'⟩ i xs ∧ tE ⟨⟨w.K, w.cA, lk', fk'⟩, i :: pin, vs'⟩ W (s xs) σ H Q) := ⟨fun pins sh σ H D I q => by
    obtain ⟨lk', fk', vs', xs, c1, c3, q⟩ := q
    exact (h lk' fk' vs' xs c1 c3).run pins sh σ H D I q⟩
  refine PEi h1 fun σ H Q q => ?_
  obtain ⟨I, F, env, hs, er, o⟩ := q
  unfold mAside at o
  cases hd : env[i]? with
  | none => rw [hd] at o; exact o.elim
  | some d =>
    simp only [hd] at o
    cases he : d.seq with
    | none => simp only [he] at o; exact o.elim
    | some xs =>
      simp only [he] at o
      by_cases hc : isFrzL xs = true
      · rw [if_pos hc] at o
        have hn : d ≠ .any := fun z => by rw [z] at he; cases he
        obtain ⟨v, hv⟩ := er.on i d hd hn
        obtain ⟨a, us, fk', G, rfl, hk, r, h2, back⟩ := aside_out hs hd hv he hc
        obtain ⟨e1, e2⟩ := aside_er (w' := ⟨w.K, w.cA, I, fk'⟩) hpin er hd hn hv
        have hlen : ∀ j ∈ i :: pin, j < (σv σ).length := fun j hj => by
          rw [σv_len]
          rcases List.mem_cons.mp hj with rfl | hj
          · exact (List.getElem?_eq_some_iff.mp hv).1
          · exact (List.getElem?_eq_some_iff.mp (er.pin j hj (vs0[j]'(hpin j hj)) (List.getElem?_eq_getElem (hpin j hj)))).1
        refine ⟨I, fk', σv σ, xs, hlen, ⟨a, us, σv_at hv, List.mem_cons_self .., hk, RepL.wf (l := w.lk) (m := w.fk) xs us [] r⟩, I, G, _, h2, e1, ?_⟩
        cases hm : s xs (env.set i .any) with
        | bad => rw [hm] at o; exact o.elim
        | exc c ns ys e => rw [hm] at o; exact o.elim
        | ok rd e =>
          rw [hm] at o
          obtain ⟨hi, o⟩ := outM_if o
          intro v2 I' H' le h' er'
          obtain ⟨k1, k2⟩ := e2 σ e er'
          exact o v2 I' H' le (put_back2 (back I' (rd :: e) _ H' le h') (isA_of hi) (σv_at k1)) k2
      · rw [if_neg hc] at o
        exact o.elim
end
/-! ### tuple(l), l a list: the new object known -/
section
variable {Γ : Cx}
def rTupleX (K : PySem.W.Frag) : List V → Hp → VK → Prop := fun xs H Q => ∃ (p : Addr) (ys : List V), xs = [.ref p] ∧ SqL K H p ys ∧ ∀ (l : Addr) (od : Obj), od.dict = none → H l = none → Q (.ref l) (upd H l (.frz od (.tup ys)))
theorem call_tupleX : CallR Γ (.type "tuple") (rTupleX Γ.K) := fun pins s σ H xs us Q I rel h => by
  obtain ⟨p, ys, rfl, seqA, q⟩ := h
  rw [Vals.ref1 rel]
  obtain ⟨vals, rep, isL, room⟩ := I.list seqA
  have hlen := rep.length
  refine call_tuple_list isL.isList (fun g kp => ?_) (by simp only [List.size_toArray] <;> omega)
  have J : Inv Γ pins σ H { s with heap := g } := I.kept (t' := s.toks) kp
  have there : (g.push { cls := .type "tuple", data := .seq vals.toArray }).get? g.objs.size = some { cls := .type "tuple", data := .seq vals.toArray } := Heap.get?_push_size _ rfl
  exact ⟨.ref g.objs.size, _, J.laid (t' := s.toks) (o := .frz { cls := .type "tuple", data := .seq vals.toArray } (.tup ys)) (fun b o e => Heap.get?_push_of_some _ e) (Nat.le_refl _) ⟨there, room, vals, rep, IsTup.new _ _⟩, rfl, q _ _ rfl (J.hok.fresh (Nat.le_refl _))⟩
def oTupleX : Op
  | [.node (.lst o) xs] => if isFrzL xs = true then .ok (.node .tux xs) [.node (.lst o) xs] else .bad
  | _ => .bad
theorem od_tupleX {w : Wd} : OpD w (rN (rTupleX w.K)) oTupleX := fun I F es us H Q E hs o => by
  unfold oTupleX at o
  split at o
  · rename_i ow xs
    match us, hs.length, hs, o with
    | [v], _, hs, o =>
      obtain ⟨hc, o⟩ := ite_out o
      obtain ⟨a, us, rfl, hq, hq2, _, hl, h2⟩ := hs.items (xs := xs) rfl hc
      refine ⟨a, us, rfl, Or.inl (Or.inl (hq2 _ rfl)), fun l od hod nl => ?_⟩
      obtain ⟨le, h3⟩ := Hs.newX h2 hl.symm nl hod
      exact o (.ref l) _ _ le h3
  · exact o.elim
end
end Z

set_option Elab.async false
set_option linter.all false
set_option maxRecDepth 100000
set_option maxHeartbeats 4000000
namespace Z
open PySem PySem.Spec PyProof.Rows
open L2 StX
def top (i : Nat) : Stmt := PySem.Challenge.pw_oneforone_k05_matches.main.body.getD i (.Pass ⟨0, 0, 0, 0⟩)
section
variable {P : Program} {wo : World} {K : PySem.W.Frag} {mg : Str → Option Value} {base : Heap} {f : Addr} {fd : FuncData} {dvs : List V} {cA : Str → Addr} {lk fk : Hp}
/-- the class Board, as the head finds it -/
structure Ob (K : PySem.W.Frag) (cA : Str → Addr) : Prop where
  cls : Cls K (cA "Board")
  no_many : NoAttr K (cA "Board") "many"
  no_size : NoAttr K (cA "Board") "size"
  no_signs : NoAttr K (cA "Board") "signs"
  no__by_bag : NoAttr K (cA "Board") "_by_bag"

/-- _wall -/
def m__wall : S := (loopW (mC (.bl true)) sNext 200)
abbrev op__wall : Op := fnOp 1 1 [0] m__wall
abbrev dfl__wall : List (List V) := [[]]
abbrev ks__wall : List Str := []
theorem k__wall (D : Ob K cA) (B : Bl mg) (F : FunD K "_wall" "_wall" (defArgs (top 1)) (defBody (top 1)) (defScope (top 1)) dvs [] f fd) :
    FnOk P wo K mg base (L2.CX P wo) 1 f fd ["k"] (spF ⟨K, cA, lk, fk⟩ op__wall 1) :=
  have nd : (["k"] : List Str).Nodup := by decide
  z_fn (k := 0) (N := ["k"]) [0] F (C8.fnScope_by (by decide +kernel)) rfl rfl (by decide) (by decide) fun cdv A outer s H vs E hr hp =>
    (s_one (s_while 200 pOwn (t_val z_bl) (s_one s_pass)))

/-- is_whole -/
def m_is_whole : S := (sRet (mAnd (mApp (op1 (isiB "int")) [(.peek 0)]) (mNot (mApp (op1 (isiB "bool")) [(.peek 0)]))))
abbrev op_is_whole : Op := fnOp 1 1 [0] m_is_whole
abbrev dfl_is_whole : List (List V) := [[]]
abbrev ks_is_whole : List Str := []
theorem k_is_whole (D : Ob K cA) (B : Bl mg) (F : FunD K "is_whole" "is_whole" (defArgs (top 10)) (defBody (top 10)) (defScope (top 10)) dvs [] f fd) :
    FnOk P wo K mg base (L2.CX P wo) 1 f fd ["value"] (spF ⟨K, cA, lk, fk⟩ op_is_whole 1) :=
  have nd : (["value"] : List Str).Nodup := by decide
  z_fn (k := 0) (N := ["value"]) [0] F (C8.fnScope_by (by decide +kernel)) rfl rfl (by decide) (by decide) fun cdv A outer s H vs E hr hp =>
    (s_one (s_ret (z_and (z_isi (pe_opd (pe_var rfl (by first | exact .inl rfl | exact .inr (.inl rfl) | exact .inr (.inr rfl)))) (pe_bt rfl B.«int» (by decide +kernel)) rfl B.isinstance rfl) (z_one (z_not (z_isi (pe_opd (pe_var rfl (by first | exact .inl rfl | exact .inr (.inl rfl) | exact .inr (.inr rfl)))) (pe_bt rfl B.«bool» (by decide +kernel)) rfl B.isinstance rfl))))))

/-- is_between -/
def m_is_between : S := (sRet (mAnd (mApp (dfOp op_is_whole []) [(.peek 0)]) (mChain (fun i j => decide (i ≤ j)) (fun i j => decide (i ≤ j)) (mVar 1) (mVar 0) (mVar 2))))
abbrev op_is_between : Op := fnOp 3 3 [0, 1, 2] m_is_between
abbrev dfl_is_between : List (List V) := [[]]
abbrev ks_is_between : List Str := []
theorem k_is_between (D : Ob K cA) (B : Bl mg) (F : FunD K "is_between" "is_between" (defArgs (top 11)) (defBody (top 11)) (defScope (top 11)) dvs [] f fd) (c_is_whole : ∀ lk fk, Cl P wo K mg base ⟨K, cA, lk, fk⟩ 1 "is_whole" 1 op_is_whole dfl_is_whole ks_is_whole) :
    FnOk P wo K mg base (L2.CX P wo) 2 f fd ["value", "least", "most"] (spF ⟨K, cA, lk, fk⟩ op_is_between 3) :=
  have nd : (["value", "least", "most"] : List Str).Nodup := by decide
  z_fn (k := 1) (N := ["value", "least", "most"]) [0, 1, 2] F (C8.fnScope_by (by decide +kernel)) rfl rfl (by decide) (by decide) fun cdv A outer s H vs E hr hp =>
    (s_one (s_ret (z_and (z_callD (dd := []) (dvs := []) (c_is_whole _ _) (hr.mono (by omega)) rfl fnOp_len (List.mem_cons_self ..) .nil tkE (pa_z (pe_opd (pe_var rfl (by first | exact .inl rfl | exact .inr (.inl rfl) | exact .inr (.inr rfl)))) pa_z0)) (z_one (z_chain op_le op_le (z_var 1 (pe_var rfl (by first | exact .inl rfl | exact .inr (.inl rfl) | exact .inr (.inr rfl)))) (z_var 0 (pe_var rfl (by first | exact .inl rfl | exact .inr (.inl rfl) | exact .inr (.inr rfl)))) (z_var 2 (pe_var rfl (by first | exact .inl rfl | exact .inr (.inl rfl) | exact .inr (.inr rfl)))))))))

/-- is_list -/
def m_is_list : S := (sRet (mAnd (mApp (op1 (isi2B "list" "tuple")) [(.peek 0)]) (mAnd (mApp (oLe) [(.peek 1), (.val (mApp oLen [(.peek 0)]))]) (mOr (mApp (op2 (onNon false)) [(.peek 2), (.val (mC .non))]) (mApp (oLe) [(.val (mApp oLen [(.peek 0)])), (.peek 2)])))))
abbrev op_is_list : Op := fnOp 3 3 [0, 1, 2] m_is_list
abbrev dfl_is_list : List (List V) := [[]]
abbrev ks_is_list : List Str := []
theorem k_is_list (D : Ob K cA) (B : Bl mg) (F : FunD K "is_list" "is_list" (defArgs (top 12)) (defBody (top 12)) (defScope (top 12)) dvs [] f fd) :
    FnOk P wo K mg base (L2.CX P wo) 1 f fd ["value", "least", "most"] (spF ⟨K, cA, lk, fk⟩ op_is_list 3) :=
  have nd : (["value", "least", "most"] : List Str).Nodup := by decide
  z_fn (k := 0) (N := ["value", "least", "most"]) [0, 1, 2] F (C8.fnScope_by (by decide +kernel)) rfl rfl (by decide) (by decide) fun cdv A outer s H vs E hr hp =>
    (s_one (s_ret (z_and (z_isi2 (pe_opd (pe_var rfl (by first | exact .inl rfl | exact .inr (.inl rfl) | exact .inr (.inr rfl)))) (pe_bt rfl B.«list» (by decide +kernel)) (pe_bt rfl B.«tuple» (by decide +kernel)) rfl B.isinstance rfl) (z_and (z_cmp op_le od_le (pe_opd (pe_var rfl (by first | exact .inl rfl | exact .inr (.inl rfl) | exact .inr (.inr rfl)))) (pe_val (z_callB call_len_seq od_len rfl B.«len» (by decide +kernel) (pa_z (pe_opd (pe_var rfl (by first | exact .inl rfl | exact .inr (.inl rfl) | exact .inr (.inr rfl)))) pa_z0))) rfl) (z_one (z_or (z_cmp op_isN od_isN (pe_opd (pe_var rfl (by first | exact .inl rfl | exact .inr (.inl rfl) | exact .inr (.inr rfl)))) (pe_val z_non) rfl) (z_one (z_cmp op_le od_le (pe_val (z_callB call_len_seq od_len rfl B.«len» (by decide +kernel) (pa_z (pe_opd (pe_var rfl (by first | exact .inl rfl | exact .inr (.inl rfl) | exact .inr (.inr rfl)))) pa_z0))) (pe_opd (pe_var rfl (by first | exact .inl rfl | exact .inr (.inl rfl) | exact .inr (.inr rfl)))) rfl))))))))

/-- is_tuple -/
def m_is_tuple : S := (sRet (mAnd (mApp (op1 (isiB "tuple")) [(.peek 0)]) (mApp (op2 (eqD false)) [(.val (mApp oLen [(.peek 0)])), (.peek 1)])))
abbrev op_is_tuple : Op := fnOp 2 2 [0, 1] m_is_tuple
abbrev dfl_is_tuple : List (List V) := [[]]
abbrev ks_is_tuple : List Str := []
theorem k_is_tuple (D : Ob K cA) (B : Bl mg) (F : FunD K "is_tuple" "is_tuple" (defArgs (top 13)) (defBody (top 13)) (defScope (top 13)) dvs [] f fd) :
    FnOk P wo K mg base (L2.CX P wo) 1 f fd ["value", "size"] (spF ⟨K, cA, lk, fk⟩ op_is_tuple 2) :=
  have nd : (["value", "size"] : List Str).Nodup := by decide
  z_fn (k := 0) (N := ["value", "size"]) [0, 1] F (C8.fnScope_by (by decide +kernel)) rfl rfl (by decide) (by decide) fun cdv A outer s H vs E hr hp =>
    (s_one (s_ret (z_and (z_isi (pe_opd (pe_var rfl (by first | exact .inl rfl | exact .inr (.inl rfl) | exact .inr (.inr rfl)))) (pe_bt rfl B.«tuple» (by decide +kernel)) rfl B.isinstance rfl) (z_one (z_cmp (op_eqD hr.units) od_eq (pe_val (z_callB call_len_seq od_len rfl B.«len» (by decide +kernel) (pa_z (pe_opd (pe_var rfl (by first | exact .inl rfl | exact .inr (.inl rfl) | exact .inr (.inr rfl)))) pa_z0))) (pe_opd (pe_var rfl (by first | exact .inl rfl | exact .inr (.inl rfl) | exact .inr (.inr rfl)))) rfl)))))

/-- are_whole -/
def m_are_whole : S := (sRet (mApp oAll [(.val (mAside 0 fun xs => (mLc (fun env => .ok xs env) (.nm 1) none (mApp (dfOp op_is_whole []) [(.peek 1)]) [1])))]))
abbrev op_are_whole : Op := fnOp 1 2 [0] m_are_whole
abbrev dfl_are_whole : List (List V) := [[]]
abbrev ks_are_whole : List Str := []
theorem k_are_whole (D : Ob K cA) (B : Bl mg) (F : FunD K "are_whole" "are_whole" (defArgs (top 14)) (defBody (top 14)) (defScope (top 14)) dvs [] f fd) (c_is_whole : ∀ lk fk, Cl P wo K mg base ⟨K, cA, lk, fk⟩ 1 "is_whole" 1 op_is_whole dfl_is_whole ks_is_whole) :
    FnOk P wo K mg base (L2.CX P wo) 2 f fd ["items"] (spF ⟨K, cA, lk, fk⟩ op_are_whole 1) :=
  have nd : (["items", "item"] : List Str).Nodup := by decide
  z_fn (k := 1) (N := ["items", "item"]) [0] F (C8.fnScope_by (by decide +kernel)) rfl rfl (by decide) (by decide) fun cdv A outer s H vs E hr hp =>
    (s_one (s_ret (z_callB (cr_all rfl) od_all rfl B.«all» (by decide +kernel) (pa_z (pe_val (z_aside hp fun _ _ _ xs hp hk => (z_lc (own := [("item", 1)]) (hp := (by decide : ∀ i ∈ ([0, 0] : List Nat), i ∉ ([1] : List Nat))) rfl nd (i_pk (pe_var rfl (by first | exact .inl rfl | exact .inr (.inl rfl) | exact .inr (.inr rfl))) rfl hk) (blkOk_by (N := ["items", "item"]) (sc := defScope (top 14)) (by decide +kernel)) (fun _ _ _ _ _ => (g_nm (pg_name nd rfl (by first | exact .inl rfl | exact .inr rfl)) (by decide : (1 : Nat) ∉ ([0, 0] : List Nat)))) (fun _ _ _ _ _ => ts_nil) (fun _ _ _ _ _ => (z_callD (dd := []) (dvs := []) (c_is_whole _ _) (hr.mono (by omega)) rfl fnOp_len (List.mem_cons_self ..) .nil tk0 (pa_z (pe_opd (pe_var rfl (by first | exact .inl rfl | exact .inr (.inl rfl) | exact .inr (.inr rfl)))) pa_z0)))))) pa_z0))))

/-- are_between -/
def m_are_between : S := (sRet (mApp oAll [(.val (mAside 0 fun xs => (mLc (fun env => .ok xs env) (.nm 3) none (mApp (dfOp op_is_between []) [(.peek 3), (.peek 1), (.peek 2)]) [3])))]))
abbrev op_are_between : Op := fnOp 3 4 [0, 1, 2] m_are_between
abbrev dfl_are_between : List (List V) := [[]]
abbrev ks_are_between : List Str := []
theorem k_are_between (D : Ob K cA) (B : Bl mg) (F : FunD K "are_between" "are_between" (defArgs (top 15)) (defBody (top 15)) (defScope (top 15)) dvs [] f fd) (c_is_between : ∀ lk fk, Cl P wo K mg base ⟨K, cA, lk, fk⟩ 2 "is_between" 3 op_is_between dfl_is_between ks_is_between) :
    FnOk P wo K mg base (L2.CX P wo) 3 f fd ["items", "least", "most"] (spF ⟨K, cA, lk, fk⟩ op_are_between 3) :=
  have nd : (["items", "least", "most", "item"] : List Str).Nodup := by decide
  z_fn (k := 2) (N := ["items", "least", "most", "item"]) [0, 1, 2] F (C8.fnScope_by (by decide +kernel)) rfl rfl (by decide) (by decide) fun cdv A outer s H vs E hr hp =>
    (s_one (s_ret (z_callB (cr_all rfl) od_all rfl B.«all» (by decide +kernel) (pa_z (pe_val (z_aside hp fun _ _ _ xs hp hk => (z_lc (own := [("item", 3)]) (hp := (by decide : ∀ i ∈ ([0, 0, 1, 2] : List Nat), i ∉ ([3] : List Nat))) rfl nd (i_pk (pe_var rfl (by first | exact .inl rfl | exact .inr (.inl rfl) | exact .inr (.inr rfl))) rfl hk) (blkOk_by (N := ["items", "least", "most", "item"]) (sc := defScope (top 15)) (by decide +kernel)) (fun _ _ _ _ _ => (g_nm (pg_name nd rfl (by first | exact .inl rfl | exact .inr rfl)) (by decide : (3 : Nat) ∉ ([0, 0, 1, 2] : List Nat)))) (fun _ _ _ _ _ => ts_nil) (fun _ _ _ _ _ => (z_callD (dd := []) (dvs := []) (c_is_between _ _) (hr.mono (by omega)) rfl fnOp_len (List.mem_cons_self ..) .nil tk0 (pa_z (pe_opd (pe_var rfl (by first | exact .inl rfl | exact .inr (.inl rfl) | exact .inr (.inr rfl)))) (pa_z (pe_opd (pe_var rfl (by first | exact .inl rfl | exact .inr (.inl rfl) | exact .inr (.inr rfl)))) (pa_z (pe_opd (pe_var rfl (by first | exact .inl rfl | exact .inr (.inl rfl) | exact .inr (.inr rfl)))) pa_z0)))))))) pa_z0))))

/-- is_bag -/
def m_is_bag : S := (sSeq (sIf (mOr (mNot (mApp (op1 (isiB "tuple")) [(.peek 0)])) (mNot (mChain (fun i j => decide (i ≤ j)) (fun i j => decide (i ≤ j)) (mVar 2) (mApp oLen [(.peek 0)]) (mVar 3)))) (sRet (mC (.bl false))) sNext) (sSeq (sAsg (.nm 4) (mC (.int 0))) (sSeq (sAside 0 fun xs => (sFor (fun env => .ok xs env) (.nm 5) (sSeq (sIf (mNot (mApp (dfOp op_is_between []) [(.peek 5), (.peek 4), (.val (mApp oSub [(.val (mVar 1)), (.val (mC (.int 1)))]))])) (sRet (mC (.bl false))) sNext) (sAsg (.nm 4) (mVar 5))))) (sRet (mC (.bl true))))))
abbrev op_is_bag : Op := fnOp 4 6 [0, 1, 2, 3] m_is_bag
abbrev dfl_is_bag : List (List V) := [[]]
abbrev ks_is_bag : List Str := []
theorem k_is_bag (D : Ob K cA) (B : Bl mg) (F : FunD K "is_bag" "is_bag" (defArgs (top 16)) (defBody (top 16)) (defScope (top 16)) dvs [] f fd) (c_is_between : ∀ lk fk, Cl P wo K mg base ⟨K, cA, lk, fk⟩ 2 "is_between" 3 op_is_between dfl_is_between ks_is_between) :
    FnOk P wo K mg base (L2.CX P wo) 3 f fd ["value", "values", "least", "most"] (spF ⟨K, cA, lk, fk⟩ op_is_bag 4) :=
  have nd : (["value", "values", "least", "most", "before", "item"] : List Str).Nodup := by decide
  z_fn (k := 2) (N := ["value", "values", "least", "most", "before", "item"]) [0, 1, 2, 3] F (C8.fnScope_by (by decide +kernel)) rfl rfl (by decide) (by decide) fun cdv A outer s H vs E hr hp =>
    (s_seq (s_if (PW.pt (t_or (t_not (t_val (z_isi (pe_opd (pe_var rfl (by first | exact .inl rfl | exact .inr (.inl rfl) | exact .inr (.inr rfl)))) (pe_bt rfl B.«tuple» (by decide +kernel)) rfl B.isinstance rfl))) (t_or1 (t_not (t_chain op_le op_le (z_var 2 (pe_var rfl (by first | exact .inl rfl | exact .inr (.inl rfl) | exact .inr (.inr rfl)))) (z_callB call_len_seq od_len rfl B.«len» (by decide +kernel) (pa_z (pe_opd (pe_var rfl (by first | exact .inl rfl | exact .inr (.inl rfl) | exact .inr (.inr rfl)))) pa_z0)) (z_var 3 (pe_var rfl (by first | exact .inl rfl | exact .inr (.inl rfl) | exact .inr (.inr rfl))))))))) (s_one (s_ret z_bl)) s_nil) (s_seq (s_set nd rfl (by first | exact .inl rfl | exact .inr rfl) z_int (by decide : (4 : Nat) ∉ ([0, 1, 2, 3] : List Nat))) (s_seq (s_aside hp fun _ _ _ xs hp hk => (s_for pOwn rfl (i_pk (pe_var rfl (by first | exact .inl rfl | exact .inr (.inl rfl) | exact .inr (.inr rfl))) rfl hk) (g_nm (pg_name nd rfl (by first | exact .inl rfl | exact .inr rfl)) (by decide : (5 : Nat) ∉ ([0, 0, 1, 2, 3] : List Nat))) (s_seq (s_if (t_not (t_val (z_callD (dd := []) (dvs := []) (c_is_between _ _) (hr.mono (by omega)) rfl fnOp_len (List.mem_cons_self ..) .nil tkE (pa_z (pe_opd (pe_var rfl (by first | exact .inl rfl | exact .inr (.inl rfl) | exact .inr (.inr rfl)))) (pa_z (pe_opd (pe_var rfl (by first | exact .inl rfl | exact .inr (.inl rfl) | exact .inr (.inr rfl)))) (pa_z (pe_val (z_op op_sub od_sub (pe_val (z_var 1 (pe_var rfl (by first | exact .inl rfl | exact .inr (.inl rfl) | exact .inr (.inr rfl))))) (pe_val z_int))) pa_z0)))))) (s_one (s_ret z_bl)) s_nil) (s_one (s_set nd rfl (by first | exact .inl rfl | exact .inr rfl) (z_var 5 (pe_var rfl (by first | exact .inl rfl | exact .inr (.inl rfl) | exact .inr (.inr rfl)))) (by decide : (4 : Nat) ∉ ([0, 0, 1, 2, 3] : List Nat))))))) (s_one (s_ret z_bl)))))

/-- is_full_bag -/
def m_is_full_bag : S := (sRet (mApp (dfOp op_is_bag []) [(.peek 1), (.val (mApp (oFld "Board" "many") [(.peek 0)])), (.val (mApp (oFld "Board" "size") [(.peek 0)])), (.val (mApp (oFld "Board" "size") [(.peek 0)]))]))
abbrev op_is_full_bag : Op := fnOp 2 2 [0, 1] m_is_full_bag
abbrev dfl_is_full_bag : List (List V) := [[]]
abbrev ks_is_full_bag : List Str := []
theorem k_is_full_bag (D : Ob K cA) (B : Bl mg) (F : FunD K "is_full_bag" "is_full_bag" (defArgs (top 17)) (defBody (top 17)) (defScope (top 17)) dvs [] f fd) (c_is_bag : ∀ lk fk, Cl P wo K mg base ⟨K, cA, lk, fk⟩ 3 "is_bag" 4 op_is_bag dfl_is_bag ks_is_bag) :
    FnOk P wo K mg base (L2.CX P wo) 4 f fd ["board", "value"] (spF ⟨K, cA, lk, fk⟩ op_is_full_bag 2) :=
  have nd : (["board", "value"] : List Str).Nodup := by decide
  z_fn (k := 3) (N := ["board", "value"]) [0, 1] F (C8.fnScope_by (by decide +kernel)) rfl rfl (by decide) (by decide) fun cdv A outer s H vs E hr hp =>
    (s_one (s_ret (z_callD (dd := []) (dvs := []) (c_is_bag _ _) (hr.mono (by omega)) rfl fnOp_len (List.mem_cons_self ..) .nil tkE (pa_z (pe_opd (pe_var rfl (by first | exact .inl rfl | exact .inr (.inl rfl) | exact .inr (.inr rfl)))) (pa_z (pe_val (z_fld (pe_opd (pe_var rfl (by first | exact .inl rfl | exact .inr (.inl rfl) | exact .inr (.inr rfl)))) D.cls (D.no_many) rfl)) (pa_z (pe_val (z_fld (pe_opd (pe_var rfl (by first | exact .inl rfl | exact .inr (.inl rfl) | exact .inr (.inr rfl)))) D.cls (D.no_size) rfl)) (pa_z (pe_val (z_fld (pe_opd (pe_var rfl (by first | exact .inl rfl | exact .inr (.inl rfl) | exact .inr (.inr rfl)))) D.cls (D.no_size) rfl)) pa_z0)))))))

/-- is_short_bag -/
def m_is_short_bag : S := (sRet (mApp (dfOp op_is_bag []) [(.peek 1), (.val (mApp (oFld "Board" "many") [(.peek 0)])), (.val (mApp oSub [(.val (mApp (oFld "Board" "size") [(.peek 0)])), (.val (mC (.int 1)))])), (.val (mApp oSub [(.val (mApp (oFld "Board" "size") [(.peek 0)])), (.val (mC (.int 1)))]))]))
abbrev op_is_short_bag : Op := fnOp 2 2 [0, 1] m_is_short_bag
abbrev dfl_is_short_bag : List (List V) := [[]]
abbrev ks_is_short_bag : List Str := []
theorem k_is_short_bag (D : Ob K cA) (B : Bl mg) (F : FunD K "is_short_bag" "is_short_bag" (defArgs (top 18)) (defBody (top 18)) (defScope (top 18)) dvs [] f fd) (c_is_bag : ∀ lk fk, Cl P wo K mg base ⟨K, cA, lk, fk⟩ 3 "is_bag" 4 op_is_bag dfl_is_bag ks_is_bag) :
    FnOk P wo K mg base (L2.CX P wo) 4 f fd ["board", "value"] (spF ⟨K, cA, lk, fk⟩ op_is_short_bag 2) :=
  have nd : (["board", "value"] : List Str).Nodup := by decide
  z_fn (k := 3) (N := ["board", "value"]) [0, 1] F (C8.fnScope_by (by decide +kernel)) rfl rfl (by decide) (by decide) fun cdv A outer s H vs E hr hp =>
    (s_one (s_ret (z_callD (dd := []) (dvs := []) (c_is_bag _ _) (hr.mono (by omega)) rfl fnOp_len (List.mem_cons_self ..) .nil tkE (pa_z (pe_opd (pe_var rfl (by first | exact .inl rfl | exact .inr (.inl rfl) | exact .inr (.inr rfl)))) (pa_z (pe_val (z_fld (pe_opd (pe_var rfl (by first | exact .inl rfl | exact .inr (.inl rfl) | exact .inr (.inr rfl)))) D.cls (D.no_many) rfl)) (pa_z (pe_val (z_op op_sub od_sub (pe_val (z_fld (pe_opd (pe_var rfl (by first | exact .inl rfl | exact .inr (.inl rfl) | exact .inr (.inr rfl)))) D.cls (D.no_size) rfl)) (pe_val z_int))) (pa_z (pe_val (z_op op_sub od_sub (pe_val (z_fld (pe_opd (pe_var rfl (by first | exact .inl rfl | exact .inr (.inl rfl) | exact .inr (.inr rfl)))) D.cls (D.no_size) rfl)) (pe_val z_int))) pa_z0)))))))

/-- is_change -/
def m_is_change : S := (sRet (mAnd (mApp (dfOp op_is_tuple []) [(.peek 1), (.val (mC (.int 2)))]) (mApp (dfOp op_are_between []) [(.peek 1), (.val (mC (.int 0))), (.val (mApp oSub [(.val (mApp (oFld "Board" "many") [(.peek 0)])), (.val (mC (.int 1)))]))])))
abbrev op_is_change : Op := fnOp 2 2 [0, 1] m_is_change
abbrev dfl_is_change : List (List V) := [[]]
abbrev ks_is_change : List Str := []
theorem k_is_change (D : Ob K cA) (B : Bl mg) (F : FunD K "is_change" "is_change" (defArgs (top 19)) (defBody (top 19)) (defScope (top 19)) dvs [] f fd) (c_is_tuple : ∀ lk fk, Cl P wo K mg base ⟨K, cA, lk, fk⟩ 1 "is_tuple" 2 op_is_tuple dfl_is_tuple ks_is_tuple) (c_are_between : ∀ lk fk, Cl P wo K mg base ⟨K, cA, lk, fk⟩ 3 "are_between" 3 op_are_between dfl_are_between ks_are_between) :
    FnOk P wo K mg base (L2.CX P wo) 4 f fd ["board", "value"] (spF ⟨K, cA, lk, fk⟩ op_is_change 2) :=
  have nd : (["board", "value"] : List Str).Nodup := by decide
  z_fn (k := 3) (N := ["board", "value"]) [0, 1] F (C8.fnScope_by (by decide +kernel)) rfl rfl (by decide) (by decide) fun cdv A outer s H vs E hr hp =>
    (s_one (s_ret (z_and (z_callD (dd := []) (dvs := []) (c_is_tuple _ _) (hr.mono (by omega)) rfl fnOp_len (List.mem_cons_self ..) .nil tkE (pa_z (pe_opd (pe_var rfl (by first | exact .inl rfl | exact .inr (.inl rfl) | exact .inr (.inr rfl)))) (pa_z (pe_val z_int) pa_z0))) (z_one (z_callD (dd := []) (dvs := []) (c_are_between _ _) (hr.mono (by omega)) rfl fnOp_len (List.mem_cons_self ..) .nil tkE (pa_z (pe_opd (pe_var rfl (by first | exact .inl rfl | exact .inr (.inl rfl) | exact .inr (.inr rfl)))) (pa_z (pe_val z_int) (pa_z (pe_val (z_op op_sub od_sub (pe_val (z_fld (pe_opd (pe_var rfl (by first | exact .inl rfl | exact .inr (.inl rfl) | exact .inr (.inr rfl)))) D.cls (D.no_many) rfl)) (pe_val z_int))) pa_z0))))))))

/-- check_values -/
def m_check_values : S := (sIf (mNot (mApp (dfOp op_is_between []) [(.peek 0), (.val (mC (.int 1))), (.val (mC (.int 4)))])) sBad sNext)
abbrev op_check_values : Op := fnOp 1 1 [0] m_check_values
abbrev dfl_check_values : List (List V) := [[]]
abbrev ks_check_values : List Str := []
theorem k_check_values (D : Ob K cA) (B : Bl mg) (F : FunD K "check_values" "check_values" (defArgs (top 20)) (defBody (top 20)) (defScope (top 20)) dvs [] f fd) (c_is_between : ∀ lk fk, Cl P wo K mg base ⟨K, cA, lk, fk⟩ 2 "is_between" 3 op_is_between dfl_is_between ks_is_between) :
    FnOk P wo K mg base (L2.CX P wo) 3 f fd ["values"] (spF ⟨K, cA, lk, fk⟩ op_check_values 1) :=
  have nd : (["values"] : List Str).Nodup := by decide
  z_fn (k := 2) (N := ["values"]) [0] F (C8.fnScope_by (by decide +kernel)) rfl rfl (by decide) (by decide) fun cdv A outer s H vs E hr hp =>
    (s_one (s_if (t_not (t_val (z_callD (dd := []) (dvs := []) (c_is_between _ _) (hr.mono (by omega)) rfl fnOp_len (List.mem_cons_self ..) .nil tkE (pa_z (pe_opd (pe_var rfl (by first | exact .inl rfl | exact .inr (.inl rfl) | exact .inr (.inr rfl)))) (pa_z (pe_val z_int) (pa_z (pe_val z_int) pa_z0)))))) (s_one s_bad) s_nil))

/-- check_size -/
def m_check_size : S := (sIf (mNot (mApp (dfOp op_is_between []) [(.peek 0), (.peek 1), (.peek 2)])) sBad sNext)
abbrev op_check_size : Op := fnOp 3 3 [0, 1, 2] m_check_size
abbrev dfl_check_size : List (List V) := [[]]
abbrev ks_check_size : List Str := []
theorem k_check_size (D : Ob K cA) (B : Bl mg) (F : FunD K "check_size" "check_size" (defArgs (top 21)) (defBody (top 21)) (defScope (top 21)) dvs [] f fd) (c_is_between : ∀ lk fk, Cl P wo K mg base ⟨K, cA, lk, fk⟩ 2 "is_between" 3 op_is_between dfl_is_between ks_is_between) :
    FnOk P wo K mg base (L2.CX P wo) 3 f fd ["size", "least", "most"] (spF ⟨K, cA, lk, fk⟩ op_check_size 3) :=
  have nd : (["size", "least", "most"] : List Str).Nodup := by decide
  z_fn (k := 2) (N := ["size", "least", "most"]) [0, 1, 2] F (C8.fnScope_by (by decide +kernel)) rfl rfl (by decide) (by decide) fun cdv A outer s H vs E hr hp =>
    (s_one (s_if (t_not (t_val (z_callD (dd := []) (dvs := []) (c_is_between _ _) (hr.mono (by omega)) rfl fnOp_len (List.mem_cons_self ..) .nil tkE (pa_z (pe_opd (pe_var rfl (by first | exact .inl rfl | exact .inr (.inl rfl) | exact .inr (.inr rfl)))) (pa_z (pe_opd (pe_var rfl (by first | exact .inl rfl | exact .inr (.inl rfl) | exact .inr (.inr rfl)))) (pa_z (pe_opd (pe_var rfl (by first | exact .inl rfl | exact .inr (.inl rfl) | exact .inr (.inr rfl)))) pa_z0)))))) (s_one s_bad) s_nil))

/-- check_full_bag -/
def m_check_full_bag : S := (sIf (mNot (mApp (dfOp op_is_full_bag []) [(.peek 0), (.peek 1)])) sBad sNext)
abbrev op_check_full_bag : Op := fnOp 2 2 [0, 1] m_check_full_bag
abbrev dfl_check_full_bag : List (List V) := [[]]
abbrev ks_check_full_bag : List Str := []
theorem k_check_full_bag (D : Ob K cA) (B : Bl mg) (F : FunD K "check_full_bag" "check_full_bag" (defArgs (top 22)) (defBody (top 22)) (defScope (top 22)) dvs [] f fd) (c_is_full_bag : ∀ lk fk, Cl P wo K mg base ⟨K, cA, lk, fk⟩ 4 "is_full_bag" 2 op_is_full_bag dfl_is_full_bag ks_is_full_bag) :
    FnOk P wo K mg base (L2.CX P wo) 5 f fd ["board", "bag"] (spF ⟨K, cA, lk, fk⟩ op_check_full_bag 2) :=
  have nd : (["board", "bag"] : List Str).Nodup := by decide
  z_fn (k := 4) (N := ["board", "bag"]) [0, 1] F (C8.fnScope_by (by decide +kernel)) rfl rfl (by decide) (by decide) fun cdv A outer s H vs E hr hp =>
    (s_one (s_if (t_not (t_val (z_callD (dd := []) (dvs := []) (c_is_full_bag _ _) (hr.mono (by omega)) rfl fnOp_len (List.mem_cons_self ..) .nil tkE (pa_z (pe_opd (pe_var rfl (by first | exact .inl rfl | exact .inr (.inl rfl) | exact .inr (.inr rfl)))) (pa_z (pe_opd (pe_var rfl (by first | exact .inl rfl | exact .inr (.inl rfl) | exact .inr (.inr rfl)))) pa_z0))))) (s_one s_bad) s_nil))

/-- check_short_bag -/
def m_check_short_bag : S := (sIf (mNot (mApp (dfOp op_is_short_bag []) [(.peek 0), (.peek 1)])) sBad sNext)
abbrev op_check_short_bag : Op := fnOp 2 2 [0, 1] m_check_short_bag
abbrev dfl_check_short_bag : List (List V) := [[]]
abbrev ks_check_short_bag : List Str := []
theorem k_check_short_bag (D : Ob K cA) (B : Bl mg) (F : FunD K "check_short_bag" "check_short_bag" (defArgs (top 23)) (defBody (top 23)) (defScope (top 23)) dvs [] f fd) (c_is_short_bag : ∀ lk fk, Cl P wo K mg base ⟨K, cA, lk, fk⟩ 4 "is_short_bag" 2 op_is_short_bag dfl_is_short_bag ks_is_short_bag) :
    FnOk P wo K mg base (L2.CX P wo) 5 f fd ["board", "bag"] (spF ⟨K, cA, lk, fk⟩ op_check_short_bag 2) :=
  have nd : (["board", "bag"] : List Str).Nodup := by decide
  z_fn (k := 4) (N := ["board", "bag"]) [0, 1] F (C8.fnScope_by (by decide +kernel)) rfl rfl (by decide) (by decide) fun cdv A outer s H vs E hr hp =>
    (s_one (s_if (t_not (t_val (z_callD (dd := []) (dvs := []) (c_is_short_bag _ _) (hr.mono (by omega)) rfl fnOp_len (List.mem_cons_self ..) .nil tkE (pa_z (pe_opd (pe_var rfl (by first | exact .inl rfl | exact .inr (.inl rfl) | exact .inr (.inr rfl)))) (pa_z (pe_opd (pe_var rfl (by first | exact .inl rfl | exact .inr (.inl rfl) | exact .inr (.inr rfl)))) pa_z0))))) (s_one s_bad) s_nil))

/-- check_change -/
def m_check_change : S := (sIf (mNot (mApp (dfOp op_is_change []) [(.peek 0), (.peek 1)])) sBad sNext)
abbrev op_check_change : Op := fnOp 2 2 [0, 1] m_check_change
abbrev dfl_check_change : List (List V) := [[]]
abbrev ks_check_change : List Str := []
theorem k_check_change (D : Ob K cA) (B : Bl mg) (F : FunD K "check_change" "check_change" (defArgs (top 24)) (defBody (top 24)) (defScope (top 24)) dvs [] f fd) (c_is_change : ∀ lk fk, Cl P wo K mg base ⟨K, cA, lk, fk⟩ 4 "is_change" 2 op_is_change dfl_is_change ks_is_change) :
    FnOk P wo K mg base (L2.CX P wo) 5 f fd ["board", "change"] (spF ⟨K, cA, lk, fk⟩ op_check_change 2) :=
  have nd : (["board", "change"] : List Str).Nodup := by decide
  z_fn (k := 4) (N := ["board", "change"]) [0, 1] F (C8.fnScope_by (by decide +kernel)) rfl rfl (by decide) (by decide) fun cdv A outer s H vs E hr hp =>
    (s_one (s_if (t_not (t_val (z_callD (dd := []) (dvs := []) (c_is_change _ _) (hr.mono (by omega)) rfl fnOp_len (List.mem_cons_self ..) .nil tkE (pa_z (pe_opd (pe_var rfl (by first | exact .inl rfl | exact .inr (.inl rfl) | exact .inr (.inr rfl)))) (pa_z (pe_opd (pe_var rfl (by first | exact .inl rfl | exact .inr (.inl rfl) | exact .inr (.inr rfl)))) pa_z0))))) (s_one s_bad) s_nil))

/-- bags -/
def m_bags : S := (sSeq (sDrop (mApp (dfOp op_check_values []) [(.peek 0)])) (sSeq (sDrop (mApp (dfOp op_check_size []) [(.peek 1), (.val (mC (.int 0))), (.val (mC (.int 6)))])) (sSeq (sAsg (.nm 2) (mApp oLst [(.val (mApp oTup []))])) (sSeq (sFor (iRng [.val (mVar 1)]) (.nm 3) (sAsg (.nm 2) (mLc2 (iSeq (mVar 2)) (.nm 4) none [4, 5] (iRng [.val (mIf (mTru (mVar 4)) (mApp oIx [(.peek 4), (.val (mApp oNeg [(.val (mC (.int 1)))]))]) (mC (.int 0))), .val (mVar 0)]) (.nm 5) none [5] (mStar true (mVar 4) [(.val (mVar 5))])))) (sRetV 2)))))
abbrev op_bags : Op := fnOp 2 6 [0, 1] m_bags
abbrev dfl_bags : List (List V) := [[]]
abbrev ks_bags : List Str := []
theorem k_bags (D : Ob K cA) (B : Bl mg) (F : FunD K "bags" "bags" (defArgs (top 26)) (defBody (top 26)) (defScope (top 26)) dvs [] f fd) (c_check_values : ∀ lk fk, Cl P wo K mg base ⟨K, cA, lk, fk⟩ 3 "check_values" 1 op_check_values dfl_check_values ks_check_values) (c_check_size : ∀ lk fk, Cl P wo K mg base ⟨K, cA, lk, fk⟩ 3 "check_size" 3 op_check_size dfl_check_size ks_check_size) :
    FnOk P wo K mg base (L2.CX P wo) 4 f fd ["values", "size"] (spF ⟨K, cA, lk, fk⟩ op_bags 2) :=
  have nd : (["values", "size", "found", "_", "bag", "value"] : List Str).Nodup := by decide
  z_fn (k := 3) (N := ["values", "size", "found", "_", "bag", "value"]) [0, 1] F (C8.fnScope_by (by decide +kernel)) rfl rfl (by decide) (by decide) fun cdv A outer s H vs E hr hp =>
    (s_seq (s_drop (z_callD (dd := []) (dvs := []) (c_check_values _ _) (hr.mono (by omega)) rfl fnOp_len (List.mem_cons_self ..) .nil tkE (pa_z (pe_opd (pe_var rfl (by first | exact .inl rfl | exact .inr (.inl rfl) | exact .inr (.inr rfl)))) pa_z0))) (s_seq (s_drop (z_callD (dd := []) (dvs := []) (c_check_size _ _) (hr.mono (by omega)) rfl fnOp_len (List.mem_cons_self ..) .nil tkE (pa_z (pe_opd (pe_var rfl (by first | exact .inl rfl | exact .inr (.inl rfl) | exact .inr (.inr rfl)))) (pa_z (pe_val z_int) (pa_z (pe_val z_int) pa_z0))))) (s_seq (s_set nd rfl (by first | exact .inl rfl | exact .inr rfl) (z_lst (pa_z (pe_val (z_tup pa_z0)) pa_z0)) (by decide : (2 : Nat) ∉ ([0, 1] : List Nat))) (s_seq (s_for pOwn rfl (i_rng1 rfl B.range (pi_range1 rfl B.range (pa_z (pe_val (z_var 1 (pe_var rfl (by first | exact .inl rfl | exact .inr (.inl rfl) | exact .inr (.inr rfl))))) pa_z0))) (g_nm (pg_name nd rfl (by first | exact .inl rfl | exact .inr rfl)) (by decide : (3 : Nat) ∉ ([0, 1] : List Nat))) (s_one (s_setLc2 (hpi := (by decide : (2 : Nat) ∉ ([0, 1] : List Nat))) (own := [("bag", 4), ("value", 5)]) (vs1 := [5]) (hp := (by decide : ∀ i ∈ ([0, 1] : List Nat), i ∉ ([4, 5] : List Nat))) rfl nd rfl rfl rfl (i_seq (z_var 2 (pe_var rfl (by first | exact .inl rfl | exact .inr (.inl rfl) | exact .inr (.inr rfl)))) rfl) (blkOk_by (N := ["values", "size", "found", "_", "bag", "value"]) (sc := defScope (top 26)) (by decide +kernel)) (fun _ _ _ _ _ => (g_nm (pg_name nd rfl (by first | exact .inl rfl | exact .inr rfl)) (by decide : (4 : Nat) ∉ ([0, 1] : List Nat)))) (fun _ _ _ _ _ => ts_nil) (fun _ _ _ _ _ => (i_rng2 (pi_range2 rfl B.range (pa_z (pe_val (z_if (t_tru (z_var 4 (pe_var rfl (by first | exact .inl rfl | exact .inr (.inl rfl) | exact .inr (.inr rfl)))) rfl) (z_ix ix_seq od_ix (pe_opd (pe_var rfl (by first | exact .inl rfl | exact .inr (.inl rfl) | exact .inr (.inr rfl)))) (pe_val (z_un un_neg od_neg (pe_val z_int))) (by intro _ _; rfl)) z_int)) (pa_z (pe_val (z_var 0 (pe_var rfl (by first | exact .inl rfl | exact .inr (.inl rfl) | exact .inr (.inr rfl))))) pa_z0))))) (fun _ _ _ _ _ => (g_nm (pg_name nd rfl (by first | exact .inl rfl | exact .inr rfl)) (by decide : (5 : Nat) ∉ ([0, 1] : List Nat)))) (fun _ _ _ _ _ => ts_nil) (fun _ _ _ _ _ => (z_starT (z_var 4 (pe_var rfl (by first | exact .inl rfl | exact .inr (.inl rfl) | exact .inr (.inr rfl)))) (pa_z (pe_val (z_var 5 (pe_var rfl (by first | exact .inl rfl | exact .inr (.inl rfl) | exact .inr (.inr rfl))))) pa_z0) rfl))))) (s_one (s_retV (pe_var rfl (by first | exact .inl rfl | exact .inr (.inl rfl) | exact .inr (.inr rfl)))))))))

/-- count_bags -/
def m_count_bags : S := (sSeq (sDrop (mApp (dfOp op_check_values []) [(.peek 0)])) (sSeq (sDrop (mApp (dfOp op_check_size []) [(.peek 1), (.val (mC (.int 0))), (.val (mC (.int 6)))])) (sRet (mApp oComb [(.val (mApp oSub [(.val (mApp oAdd [(.val (mVar 0)), (.val (mVar 1))])), (.val (mC (.int 1)))])), (.val (mVar 1))]))))
abbrev op_count_bags : Op := fnOp 2 2 [0, 1] m_count_bags
abbrev dfl_count_bags : List (List V) := [[]]
abbrev ks_count_bags : List Str := []
theorem k_count_bags (D : Ob K cA) (B : Bl mg) (F : FunD K "count_bags" "count_bags" (defArgs (top 27)) (defBody (top 27)) (defScope (top 27)) dvs [] f fd) (c_check_values : ∀ lk fk, Cl P wo K mg base ⟨K, cA, lk, fk⟩ 3 "check_values" 1 op_check_values dfl_check_values ks_check_values) (c_check_size : ∀ lk fk, Cl P wo K mg base ⟨K, cA, lk, fk⟩ 3 "check_size" 3 op_check_size dfl_check_size ks_check_size) :
    FnOk P wo K mg base (L2.CX P wo) 4 f fd ["values", "size"] (spF ⟨K, cA, lk, fk⟩ op_count_bags 2) :=
  have nd : (["values", "size"] : List Str).Nodup := by decide
  z_fn (k := 3) (N := ["values", "size"]) [0, 1] F (C8.fnScope_by (by decide +kernel)) rfl rfl (by decide) (by decide) fun cdv A outer s H vs E hr hp =>
    (s_seq (s_drop (z_callD (dd := []) (dvs := []) (c_check_values _ _) (hr.mono (by omega)) rfl fnOp_len (List.mem_cons_self ..) .nil tkE (pa_z (pe_opd (pe_var rfl (by first | exact .inl rfl | exact .inr (.inl rfl) | exact .inr (.inr rfl)))) pa_z0))) (s_seq (s_drop (z_callD (dd := []) (dvs := []) (c_check_size _ _) (hr.mono (by omega)) rfl fnOp_len (List.mem_cons_self ..) .nil tkE (pa_z (pe_opd (pe_var rfl (by first | exact .inl rfl | exact .inr (.inl rfl) | exact .inr (.inr rfl)))) (pa_z (pe_val z_int) (pa_z (pe_val z_int) pa_z0))))) (s_one (s_ret (z_callBf cr_comb od_comb rfl B.comb (pa_z (pe_val (z_op op_sub od_sub (pe_val (z_op op_add od_add (pe_val (z_var 0 (pe_var rfl (by first | exact .inl rfl | exact .inr (.inl rfl) | exact .inr (.inr rfl))))) (pe_val (z_var 1 (pe_var rfl (by first | exact .inl rfl | exact .inr (.inl rfl) | exact .inr (.inr rfl))))))) (pe_val z_int))) (pa_z (pe_val (z_var 1 (pe_var rfl (by first | exact .inl rfl | exact .inr (.inl rfl) | exact .inr (.inr rfl))))) pa_z0)))))))

/-- sign_rows -/
def m_sign_rows : S := (sSeq (sAsg (.nm 1) (mApp oDZip [(.val (mApp (dfOp op_bags []) [(.val (mApp (oFld "Board" "many") [(.peek 0)])), (.val (mApp (oFld "Board" "size") [(.peek 0)]))])), (.val (mApp (oFld "Board" "signs") [(.peek 0)]))])) (sSeq (sAsg (.nm 2) mNewT) (sSeq (sFor (iSeq (mApp (dfOp op_bags []) [(.val (mApp (oFld "Board" "many") [(.peek 0)])), (.val (mApp oSub [(.val (mApp (oFld "Board" "size") [(.peek 0)])), (.val (mC (.int 1)))]))])) (.nm 3) (sDict 2 (mApp oTuple [(.val (mLc (iRng [.val (mApp (oFld "Board" "many") [(.peek 0)])]) (.nm 4) none (mApp oDGet [(.peek 1), (.val (mApp oTuple [(.val (mApp oSorted [(.val (mStar false (mVar 3) [(.val (mVar 4))]))]))]))]) [4]))]) (mVar 3))) (sRetV 2))))
abbrev op_sign_rows : Op := fnOp 1 5 [0] m_sign_rows
abbrev dfl_sign_rows : List (List V) := [[]]
abbrev ks_sign_rows : List Str := []
theorem k_sign_rows (D : Ob K cA) (B : Bl mg) (F : FunD K "sign_rows" "sign_rows" (defArgs (top 29)) (defBody (top 29)) (defScope (top 29)) dvs [] f fd) (c_bags : ∀ lk fk, Cl P wo K mg base ⟨K, cA, lk, fk⟩ 4 "bags" 2 op_bags dfl_bags ks_bags) :
    FnOk P wo K mg base (L2.CX P wo) 5 f fd ["board"] (spF ⟨K, cA, lk, fk⟩ op_sign_rows 1) :=
  have nd : (["board", "signs", "found", "bag", "value"] : List Str).Nodup := by decide
  z_fn (k := 4) (N := ["board", "signs", "found", "bag", "value"]) [0] F (C8.fnScope_by (by decide +kernel)) rfl rfl (by decide) (by decide) fun cdv A outer s H vs E hr hp =>
    (s_seq (s_set nd rfl (by first | exact .inl rfl | exact .inr rfl) (z_dzip rfl (Room.u65 hr) rfl rfl B.dict rfl B.zip (pa_z (pe_val (z_callD (dd := []) (dvs := []) (c_bags _ _) (hr.mono (by omega)) rfl fnOp_len (List.mem_cons_self ..) .nil tkE (pa_z (pe_val (z_fld (pe_opd (pe_var rfl (by first | exact .inl rfl | exact .inr (.inl rfl) | exact .inr (.inr rfl)))) D.cls (D.no_many) rfl)) (pa_z (pe_val (z_fld (pe_opd (pe_var rfl (by first | exact .inl rfl | exact .inr (.inl rfl) | exact .inr (.inr rfl)))) D.cls (D.no_size) rfl)) pa_z0)))) (pa_z (pe_val (z_fld (pe_opd (pe_var rfl (by first | exact .inl rfl | exact .inr (.inl rfl) | exact .inr (.inr rfl)))) D.cls (D.no_signs) rfl)) pa_z0))) (by decide : (1 : Nat) ∉ ([0] : List Nat))) (s_seq (s_set nd rfl (by first | exact .inl rfl | exact .inr rfl) z_newT (by decide : (2 : Nat) ∉ ([0] : List Nat))) (s_seq (s_for pOwn rfl (i_seq (z_callD (dd := []) (dvs := []) (c_bags _ _) (hr.mono (by omega)) rfl fnOp_len (List.mem_cons_self ..) .nil tkE (pa_z (pe_val (z_fld (pe_opd (pe_var rfl (by first | exact .inl rfl | exact .inr (.inl rfl) | exact .inr (.inr rfl)))) D.cls (D.no_many) rfl)) (pa_z (pe_val (z_op op_sub od_sub (pe_val (z_fld (pe_opd (pe_var rfl (by first | exact .inl rfl | exact .inr (.inl rfl) | exact .inr (.inr rfl)))) D.cls (D.no_size) rfl)) (pe_val z_int))) pa_z0))) rfl) (g_nm (pg_name nd rfl (by first | exact .inl rfl | exact .inr rfl)) (by decide : (3 : Nat) ∉ ([0] : List Nat))) (s_one (s_dict (Room.u1 hr) (pe_var rfl (by first | exact .inl rfl | exact .inr (.inl rfl) | exact .inr (.inr rfl))) (z_callTy call_tuple_of od_tuple rfl B.«tuple» (by decide +kernel) (pa_z (pe_val (z_lc (own := [("value", 4)]) (hp := (by decide : ∀ i ∈ ([0] : List Nat), i ∉ ([4] : List Nat))) rfl nd (i_rng1 rfl B.range (pi_range1 rfl B.range (pa_z (pe_val (z_fld (pe_opd (pe_var rfl (by first | exact .inl rfl | exact .inr (.inl rfl) | exact .inr (.inr rfl)))) D.cls (D.no_many) rfl)) pa_z0))) (blkOk_by (N := ["board", "signs", "found", "bag", "value"]) (sc := defScope (top 29)) (by decide +kernel)) (fun _ _ _ _ _ => (g_nm (pg_name nd rfl (by first | exact .inl rfl | exact .inr rfl)) (by decide : (4 : Nat) ∉ ([0] : List Nat)))) (fun _ _ _ _ _ => ts_nil) (fun _ _ _ _ _ => (z_dget (Room.u1 hr) (pe_opd (pe_var rfl (by first | exact .inl rfl | exact .inr (.inl rfl) | exact .inr (.inr rfl)))) (pe_val (z_callTy call_tuple_of od_tuple rfl B.«tuple» (by decide +kernel) (pa_z (pe_val (z_callB cr_sortedI od_sorted rfl B.«sorted» (by decide +kernel) (pa_z (pe_val (z_starL (z_var 3 (pe_var rfl (by first | exact .inl rfl | exact .inr (.inl rfl) | exact .inr (.inr rfl)))) (pa_z (pe_val (z_var 4 (pe_var rfl (by first | exact .inl rfl | exact .inr (.inl rfl) | exact .inr (.inr rfl))))) pa_z0) rfl)) pa_z0))) pa_z0))) (by intro _ _; rfl))))) pa_z0)) (z_var 3 (pe_var rfl (by first | exact .inl rfl | exact .inr (.inl rfl) | exact .inr (.inr rfl))))))) (s_one (s_retV (pe_var rfl (by first | exact .inl rfl | exact .inr (.inl rfl) | exact .inr (.inr rfl))))))))

/-- match_of_rows -/
def m_match_of_rows : S := (sRet (mLc2 (iEnu (mVar 0)) (.tp [(.nm 2), (.nm 3)]) none [2, 3, 4, 5] (iEnu (mVar 1)) (.tp [(.nm 4), (.nm 5)]) (some (mApp (op2 (eqD false)) [(.peek 3), (.peek 5)])) [4, 5] (mApp oTup [(.val (mVar 2)), (.val (mVar 4))])))
abbrev op_match_of_rows : Op := fnOp 2 6 [0, 1] m_match_of_rows
abbrev dfl_match_of_rows : List (List V) := [[]]
abbrev ks_match_of_rows : List Str := []
theorem k_match_of_rows (D : Ob K cA) (B : Bl mg) (F : FunD K "match_of_rows" "match_of_rows" (defArgs (top 30)) (defBody (top 30)) (defScope (top 30)) dvs [] f fd) :
    FnOk P wo K mg base (L2.CX P wo) 1 f fd ["one", "other"] (spF ⟨K, cA, lk, fk⟩ op_match_of_rows 2) :=
  have nd : (["one", "other", "here", "sign", "there", "beyond"] : List Str).Nodup := by decide
  z_fn (k := 0) (N := ["one", "other", "here", "sign", "there", "beyond"]) [0, 1] F (C8.fnScope_by (by decide +kernel)) rfl rfl (by decide) (by decide) fun cdv A outer s H vs E hr hp =>
    (s_one (s_ret (z_lc2 (own := [("here", 2), ("sign", 3), ("there", 4), ("beyond", 5)]) (vs1 := [4, 5]) (hp := (by decide : ∀ i ∈ ([0, 1] : List Nat), i ∉ ([2, 3, 4, 5] : List Nat))) rfl nd (i_enum (z_var 0 (pe_var rfl (by first | exact .inl rfl | exact .inr (.inl rfl) | exact .inr (.inr rfl)))) rfl rfl B.enumerate) (blkOk_by (N := ["one", "other", "here", "sign", "there", "beyond"]) (sc := defScope (top 30)) (by decide +kernel)) (fun _ _ _ _ _ => (g_tp rfl (gs_cons (g_nm (pg_name nd rfl (by first | exact .inl rfl | exact .inr rfl)) (by decide : (2 : Nat) ∉ ([0, 1] : List Nat))) (gs_cons (g_nm (pg_name nd rfl (by first | exact .inl rfl | exact .inr rfl)) (by decide : (3 : Nat) ∉ ([0, 1] : List Nat))) gs_nil)) rfl)) (fun _ _ _ _ _ => ts_nil) (fun _ _ _ _ _ => (i_enum (z_var 1 (pe_var rfl (by first | exact .inl rfl | exact .inr (.inl rfl) | exact .inr (.inr rfl)))) rfl rfl B.enumerate)) (fun _ _ _ _ _ => (g_tp rfl (gs_cons (g_nm (pg_name nd rfl (by first | exact .inl rfl | exact .inr rfl)) (by decide : (4 : Nat) ∉ ([0, 1] : List Nat))) (gs_cons (g_nm (pg_name nd rfl (by first | exact .inl rfl | exact .inr rfl)) (by decide : (5 : Nat) ∉ ([0, 1] : List Nat))) gs_nil)) rfl)) (fun _ _ _ _ _ => (ts_one (t_cmp (op_eqD hr.units) od_eq (pe_opd (pe_var rfl (by first | exact .inl rfl | exact .inr (.inl rfl) | exact .inr (.inr rfl)))) (pe_opd (pe_var rfl (by first | exact .inl rfl | exact .inr (.inl rfl) | exact .inr (.inr rfl)))) rfl))) (fun _ _ _ _ _ => (z_tup (pa_z (pe_val (z_var 2 (pe_var rfl (by first | exact .inl rfl | exact .inr (.inl rfl) | exact .inr (.inr rfl))))) (pa_z (pe_val (z_var 4 (pe_var rfl (by first | exact .inl rfl | exact .inr (.inl rfl) | exact .inr (.inr rfl))))) pa_z0)))))))

/-- match_of -/
def m_match_of : S := (sSeq (sDrop (mApp (dfOp op_check_short_bag []) [(.peek 0), (.peek 1)])) (sSeq (sDrop (mApp (dfOp op_check_short_bag []) [(.peek 0), (.peek 2)])) (sSeq (sAsg (.nm 3) (mApp (dfOp op_sign_rows []) [(.peek 0)])) (sRet (mApp (dfOp op_match_of_rows []) [(.val (mApp oDGet [(.peek 3), (.peek 1)])), (.val (mApp oDGet [(.peek 3), (.peek 2)]))])))))
abbrev op_match_of : Op := fnOp 3 4 [0, 1, 2] m_match_of
abbrev dfl_match_of : List (List V) := [[]]
abbrev ks_match_of : List Str := ["other", "one", "board"]
theorem k_match_of (D : Ob K cA) (B : Bl mg) (F : FunD K "match_of" "match_of" (defArgs (top 32)) (defBody (top 32)) (defScope (top 32)) dvs [] f fd) (c_check_short_bag : ∀ lk fk, Cl P wo K mg base ⟨K, cA, lk, fk⟩ 5 "check_short_bag" 2 op_check_short_bag dfl_check_short_bag ks_check_short_bag) (c_sign_rows : ∀ lk fk, Cl P wo K mg base ⟨K, cA, lk, fk⟩ 5 "sign_rows" 1 op_sign_rows dfl_sign_rows ks_sign_rows) (c_match_of_rows : ∀ lk fk, Cl P wo K mg base ⟨K, cA, lk, fk⟩ 1 "match_of_rows" 2 op_match_of_rows dfl_match_of_rows ks_match_of_rows) :
    FnOk P wo K mg base (L2.CX P wo) 6 f fd ["board", "one", "other"] (spF ⟨K, cA, lk, fk⟩ op_match_of 3) :=
  have nd : (["board", "one", "other", "rows"] : List Str).Nodup := by decide
  z_fn (k := 5) (N := ["board", "one", "other", "rows"]) [0, 1, 2] F (C8.fnScope_by (by decide +kernel)) rfl rfl (by decide) (by decide) fun cdv A outer s H vs E hr hp =>
    (s_seq (s_drop (z_callD (dd := []) (dvs := []) (c_check_short_bag _ _) (hr.mono (by omega)) rfl fnOp_len (List.mem_cons_self ..) .nil tkE (pa_z (pe_opd (pe_var rfl (by first | exact .inl rfl | exact .inr (.inl rfl) | exact .inr (.inr rfl)))) (pa_z (pe_opd (pe_var rfl (by first | exact .inl rfl | exact .inr (.inl rfl) | exact .inr (.inr rfl)))) pa_z0)))) (s_seq (s_drop (z_callD (dd := []) (dvs := []) (c_check_short_bag _ _) (hr.mono (by omega)) rfl fnOp_len (List.mem_cons_self ..) .nil tkE (pa_z (pe_opd (pe_var rfl (by first | exact .inl rfl | exact .inr (.inl rfl) | exact .inr (.inr rfl)))) (pa_z (pe_opd (pe_var rfl (by first | exact .inl rfl | exact .inr (.inl rfl) | exact .inr (.inr rfl)))) pa_z0)))) (s_seq (s_set nd rfl (by first | exact .inl rfl | exact .inr rfl) (z_callD (dd := []) (dvs := []) (c_sign_rows _ _) (hr.mono (by omega)) rfl fnOp_len (List.mem_cons_self ..) .nil tkE (pa_z (pe_opd (pe_var rfl (by first | exact .inl rfl | exact .inr (.inl rfl) | exact .inr (.inr rfl)))) pa_z0)) (by decide : (3 : Nat) ∉ ([0, 1, 2] : List Nat))) (s_one (s_ret (z_callD (dd := []) (dvs := []) (c_match_of_rows _ _) (hr.mono (by omega)) rfl fnOp_len (List.mem_cons_self ..) .nil tkE (pa_z (pe_val (z_dget (Room.u1 hr) (pe_opd (pe_var rfl (by first | exact .inl rfl | exact .inr (.inl rfl) | exact .inr (.inr rfl)))) (pe_opd (pe_var rfl (by first | exact .inl rfl | exact .inr (.inl rfl) | exact .inr (.inr rfl)))) (by intro _ _; rfl))) (pa_z (pe_val (z_dget (Room.u1 hr) (pe_opd (pe_var rfl (by first | exact .inl rfl | exact .inr (.inl rfl) | exact .inr (.inr rfl)))) (pe_opd (pe_var rfl (by first | exact .inl rfl | exact .inr (.inl rfl) | exact .inr (.inr rfl)))) (by intro _ _; rfl))) pa_z0))))))))

/-- matches_with -/
def m_matches_with : S := (sSeq (sDrop (mApp (dfOp op_check_change []) [(.peek 0), (.peek 1)])) (sSeq (sAsg (.tp [(.nm 3), (.nm 4)]) (mVar 1)) (sSeq (sAsg (.nm 2) (mApp (dfOp op_sign_rows []) [(.peek 0)])) (sRet (mLk 2 (mLc2 (iKeysP 2) (.nm 5) none [5, 6] (iKeysP 2) (.nm 6) (some (mApp (op2 (eqD false)) [(.val (mApp oIx [(.val (mApp oDGet [(.peek 2), (.peek 5)])), (.peek 3)])), (.val (mApp oIx [(.val (mApp oDGet [(.peek 2), (.peek 6)])), (.peek 4)]))])) [6] (mApp oTup [(.val (mVar 5)), (.val (mVar 6))])))))))
abbrev op_matches_with : Op := fnOp 2 7 [0, 1] m_matches_with
abbrev dfl_matches_with : List (List V) := [[]]
abbrev ks_matches_with : List Str := ["change", "board"]
theorem k_matches_with (D : Ob K cA) (B : Bl mg) (F : FunD K "matches_with" "matches_with" (defArgs (top 33)) (defBody (top 33)) (defScope (top 33)) dvs [] f fd) (c_check_change : ∀ lk fk, Cl P wo K mg base ⟨K, cA, lk, fk⟩ 5 "check_change" 2 op_check_change dfl_check_change ks_check_change) (c_sign_rows : ∀ lk fk, Cl P wo K mg base ⟨K, cA, lk, fk⟩ 5 "sign_rows" 1 op_sign_rows dfl_sign_rows ks_sign_rows) :
    FnOk P wo K mg base (L2.CX P wo) 6 f fd ["board", "change"] (spF ⟨K, cA, lk, fk⟩ op_matches_with 2) :=
  have nd : (["board", "change", "rows", "here", "there", "one", "other"] : List Str).Nodup := by decide
  z_fn (k := 5) (N := ["board", "change", "rows", "here", "there", "one", "other"]) [0, 1] F (C8.fnScope_by (by decide +kernel)) rfl rfl (by decide) (by decide) fun cdv A outer s H vs E hr hp =>
    (s_seq (s_drop (z_callD (dd := []) (dvs := []) (c_check_change _ _) (hr.mono (by omega)) rfl fnOp_len (List.mem_cons_self ..) .nil tkE (pa_z (pe_opd (pe_var rfl (by first | exact .inl rfl | exact .inr (.inl rfl) | exact .inr (.inr rfl)))) (pa_z (pe_opd (pe_var rfl (by first | exact .inl rfl | exact .inr (.inl rfl) | exact .inr (.inr rfl)))) pa_z0)))) (s_seq (s_asg (z_var 1 (pe_var rfl (by first | exact .inl rfl | exact .inr (.inl rfl) | exact .inr (.inr rfl)))) (g_tp rfl (gs_cons (g_nm (pg_name nd rfl (by first | exact .inl rfl | exact .inr rfl)) (by decide : (3 : Nat) ∉ ([0, 1] : List Nat))) (gs_cons (g_nm (pg_name nd rfl (by first | exact .inl rfl | exact .inr rfl)) (by decide : (4 : Nat) ∉ ([0, 1] : List Nat))) gs_nil)) rfl)) (s_seq (s_set nd rfl (by first | exact .inl rfl | exact .inr rfl) (z_callD (dd := []) (dvs := []) (c_sign_rows _ _) (hr.mono (by omega)) rfl fnOp_len (List.mem_cons_self ..) .nil tkE (pa_z (pe_opd (pe_var rfl (by first | exact .inl rfl | exact .inr (.inl rfl) | exact .inr (.inr rfl)))) pa_z0)) (by decide : (2 : Nat) ∉ ([0, 1] : List Nat))) (s_one (s_ret (z_lock hp fun _ _ hp hk => (z_lc2 (own := [("one", 5), ("other", 6)]) (vs1 := [6]) (hp := (by decide : ∀ i ∈ ([2, 0, 1] : List Nat), i ∉ ([5, 6] : List Nat))) rfl nd (i_keys (pe_var rfl (by first | exact .inl rfl | exact .inr (.inl rfl) | exact .inr (.inr rfl))) hk) (blkOk_by (N := ["board", "change", "rows", "here", "there", "one", "other"]) (sc := defScope (top 33)) (by decide +kernel)) (fun _ _ _ _ _ => (g_nm (pg_name nd rfl (by first | exact .inl rfl | exact .inr rfl)) (by decide : (5 : Nat) ∉ ([2, 0, 1] : List Nat)))) (fun _ _ _ _ _ => ts_nil) (fun _ _ _ _ _ => (i_keys (pe_var rfl (by first | exact .inl rfl | exact .inr (.inl rfl) | exact .inr (.inr rfl))) hk)) (fun _ _ _ _ _ => (g_nm (pg_name nd rfl (by first | exact .inl rfl | exact .inr rfl)) (by decide : (6 : Nat) ∉ ([2, 0, 1] : List Nat)))) (fun _ _ _ _ _ => (ts_one (t_cmp (op_eqD hr.units) od_eq (pe_val (z_ix ix_seq od_ix (pe_val (z_dget (Room.u1 hr) (pe_opd (pe_var rfl (by first | exact .inl rfl | exact .inr (.inl rfl) | exact .inr (.inr rfl)))) (pe_opd (pe_var rfl (by first | exact .inl rfl | exact .inr (.inl rfl) | exact .inr (.inr rfl)))) (by intro _ _; rfl))) (pe_opd (pe_var rfl (by first | exact .inl rfl | exact .inr (.inl rfl) | exact .inr (.inr rfl)))) (by intro _ _; rfl))) (pe_val (z_ix ix_seq od_ix (pe_val (z_dget (Room.u1 hr) (pe_opd (pe_var rfl (by first | exact .inl rfl | exact .inr (.inl rfl) | exact .inr (.inr rfl)))) (pe_opd (pe_var rfl (by first | exact .inl rfl | exact .inr (.inl rfl) | exact .inr (.inr rfl)))) (by intro _ _; rfl))) (pe_opd (pe_var rfl (by first | exact .inl rfl | exact .inr (.inl rfl) | exact .inr (.inr rfl)))) (by intro _ _; rfl))) rfl))) (fun _ _ _ _ _ => (z_tup (pa_z (pe_val (z_var 5 (pe_var rfl (by first | exact .inl rfl | exact .inr (.inl rfl) | exact .inr (.inr rfl))))) (pa_z (pe_val (z_var 6 (pe_var rfl (by first | exact .inl rfl | exact .inr (.inl rfl) | exact .inr (.inr rfl))))) pa_z0)))))))))))

/-- Board.__init__ -/
def meth (s : Stmt) (j : Nat) : Stmt := match s with
  | .ClassDef _ _ _ bs _ _ _ _ _ _ _ => bs.getD j (.Pass ⟨0, 0, 0, 0⟩)
  | _ => .Pass ⟨0, 0, 0, 0⟩
def m_new_Board : S := (sSeq (sDrop (mApp (dfOp op_check_values []) [(.peek 1)])) (sSeq (sDrop (mApp (dfOp op_check_size []) [(.peek 2), (.val (mC (.int 1))), (.val (mC (.int 6)))])) (sSeq (sAsg (.nm 4) (mApp (dfOp op_count_bags []) [(.peek 1), (.peek 2)])) (sSeq (sIf (mOr (mNot (mApp (dfOp op_is_list []) [(.peek 3), (.val (mVar 4)), (.peek 4)])) (mNot (mApp (dfOp op_are_whole []) [(.peek 3)]))) sBad sNext) (sSeq (sFldNew 0 "Board" "many" (mVar 1)) (sSeq (sFldNew 0 "Board" "size" (mVar 2)) (sSeq (sFldNew 0 "Board" "signs" (mApp oTuple [(.peek 3)])) (sFldNew 0 "Board" "_by_bag" (mApp oDZip [(.val (mApp (dfOp op_bags []) [(.peek 1), (.peek 2)])), (.peek 3)])))))))))
abbrev op_new_Board : Op := fnOp 4 5 [0, 1, 2, 3] m_new_Board
theorem k_new_Board (D : Ob K cA) (B : Bl mg) (F : FunD K "__init__" "Board.__init__" (defArgs (meth (top 35) 0)) (defBody (meth (top 35) 0)) (defScope (meth (top 35) 0)) dvs [] f fd) (c_check_values : ∀ lk fk, Cl P wo K mg base ⟨K, cA, lk, fk⟩ 3 "check_values" 1 op_check_values dfl_check_values ks_check_values) (c_check_size : ∀ lk fk, Cl P wo K mg base ⟨K, cA, lk, fk⟩ 3 "check_size" 3 op_check_size dfl_check_size ks_check_size) (c_count_bags : ∀ lk fk, Cl P wo K mg base ⟨K, cA, lk, fk⟩ 4 "count_bags" 2 op_count_bags dfl_count_bags ks_count_bags) (c_is_list : ∀ lk fk, Cl P wo K mg base ⟨K, cA, lk, fk⟩ 1 "is_list" 3 op_is_list dfl_is_list ks_is_list) (c_are_whole : ∀ lk fk, Cl P wo K mg base ⟨K, cA, lk, fk⟩ 2 "are_whole" 1 op_are_whole dfl_are_whole ks_are_whole) (c_bags : ∀ lk fk, Cl P wo K mg base ⟨K, cA, lk, fk⟩ 4 "bags" 2 op_bags dfl_bags ks_bags) :
    FnOk P wo K mg base (L2.CX P wo) 5 f fd ["self", "values", "size", "signs"] (spF ⟨K, cA, lk, fk⟩ op_new_Board 4) :=
  have nd : (["self", "values", "size", "signs", "many"] : List Str).Nodup := by decide
  z_fn (k := 4) (N := ["self", "values", "size", "signs", "many"]) [0, 1, 2, 3] F (C8.fnScope_by (by decide +kernel)) rfl rfl (by decide) (by decide) fun cdv A outer s H vs E hr hp =>
    (s_seq (s_drop (z_callD (dd := []) (dvs := []) (c_check_values _ _) (hr.mono (by omega)) rfl fnOp_len (List.mem_cons_self ..) .nil tkE (pa_z (pe_opd (pe_var rfl (by first | exact .inl rfl | exact .inr (.inl rfl) | exact .inr (.inr rfl)))) pa_z0))) (s_seq (s_drop (z_callD (dd := []) (dvs := []) (c_check_size _ _) (hr.mono (by omega)) rfl fnOp_len (List.mem_cons_self ..) .nil tkE (pa_z (pe_opd (pe_var rfl (by first | exact .inl rfl | exact .inr (.inl rfl) | exact .inr (.inr rfl)))) (pa_z (pe_val z_int) (pa_z (pe_val z_int) pa_z0))))) (s_seq (s_set nd rfl (by first | exact .inl rfl | exact .inr rfl) (z_callD (dd := []) (dvs := []) (c_count_bags _ _) (hr.mono (by omega)) rfl fnOp_len (List.mem_cons_self ..) .nil tkE (pa_z (pe_opd (pe_var rfl (by first | exact .inl rfl | exact .inr (.inl rfl) | exact .inr (.inr rfl)))) (pa_z (pe_opd (pe_var rfl (by first | exact .inl rfl | exact .inr (.inl rfl) | exact .inr (.inr rfl)))) pa_z0))) (by decide : (4 : Nat) ∉ ([0, 1, 2, 3] : List Nat))) (s_seq (s_if (PW.pt (t_or (t_not (t_val (z_callD (dd := []) (dvs := []) (c_is_list _ _) (hr.mono (by omega)) rfl fnOp_len (List.mem_cons_self ..) .nil tkE (pa_z (pe_opd (pe_var rfl (by first | exact .inl rfl | exact .inr (.inl rfl) | exact .inr (.inr rfl)))) (pa_z (pe_val (z_var 4 (pe_var rfl (by first | exact .inl rfl | exact .inr (.inl rfl) | exact .inr (.inr rfl))))) (pa_z (pe_opd (pe_var rfl (by first | exact .inl rfl | exact .inr (.inl rfl) | exact .inr (.inr rfl)))) pa_z0)))))) (t_or1 (t_not (t_val (z_callD (dd := []) (dvs := []) (c_are_whole _ _) (hr.mono (by omega)) rfl fnOp_len (List.mem_cons_self ..) .nil tkE (pa_z (pe_opd (pe_var rfl (by first | exact .inl rfl | exact .inr (.inl rfl) | exact .inr (.inr rfl)))) pa_z0))))))) (s_one s_bad) s_nil) (s_seq (s_fldNew (pe_var rfl (by first | exact .inl rfl | exact .inr (.inl rfl) | exact .inr (.inr rfl))) (z_var 1 (pe_var rfl (by first | exact .inl rfl | exact .inr (.inl rfl) | exact .inr (.inr rfl)))) D.cls (D.no_many) rfl) (s_seq (s_fldNew (pe_var rfl (by first | exact .inl rfl | exact .inr (.inl rfl) | exact .inr (.inr rfl))) (z_var 2 (pe_var rfl (by first | exact .inl rfl | exact .inr (.inl rfl) | exact .inr (.inr rfl)))) D.cls (D.no_size) rfl) (s_seq (s_fldNew (pe_var rfl (by first | exact .inl rfl | exact .inr (.inl rfl) | exact .inr (.inr rfl))) (z_callTy call_tuple_of od_tuple rfl B.«tuple» (by decide +kernel) (pa_z (pe_opd (pe_var rfl (by first | exact .inl rfl | exact .inr (.inl rfl) | exact .inr (.inr rfl)))) pa_z0)) D.cls (D.no_signs) rfl) (s_one (s_fldNew (pe_var rfl (by first | exact .inl rfl | exact .inr (.inl rfl) | exact .inr (.inr rfl))) (z_dzip rfl (Room.u65 hr) rfl rfl B.dict rfl B.zip (pa_z (pe_val (z_callD (dd := []) (dvs := []) (c_bags _ _) (hr.mono (by omega)) rfl fnOp_len (List.mem_cons_self ..) .nil tkE (pa_z (pe_opd (pe_var rfl (by first | exact .inl rfl | exact .inr (.inl rfl) | exact .inr (.inr rfl)))) (pa_z (pe_opd (pe_var rfl (by first | exact .inl rfl | exact .inr (.inl rfl) | exact .inr (.inr rfl)))) pa_z0)))) (pa_z (pe_opd (pe_var rfl (by first | exact .inl rfl | exact .inr (.inl rfl) | exact .inr (.inr rfl)))) pa_z0))) D.cls (D.no__by_bag) rfl)))))))))

/-- _law_cell -/
def m__law_cell : S := (sRet (mIf (mApp (oLt) [(.peek 1), (.val (mApp oLen [(.peek 0)]))]) (mApp oIx [(.peek 0), (.peek 1)]) (mApp oAdd [(.val (mApp oMul [(.val (mC (.int 5003))), (.val (mVar 1))])), (.val (mApp oMod [(.val (mApp oSum [(.val (mSlice (mVar 0) none (some (mC (.int 1)))))])), (.val (mC (.int 1000081)))]))])))
abbrev op__law_cell : Op := fnOp 2 2 [0, 1] m__law_cell
abbrev dfl__law_cell : List (List V) := [[]]
abbrev ks__law_cell : List Str := []
theorem k__law_cell (D : Ob K cA) (B : Bl mg) (F : FunD K "_law_cell" "_law_cell" (defArgs (top 37)) (defBody (top 37)) (defScope (top 37)) dvs [] f fd) :
    FnOk P wo K mg base (L2.CX P wo) 1 f fd ["script", "k"] (spF ⟨K, cA, lk, fk⟩ op__law_cell 2) :=
  have nd : (["script", "k"] : List Str).Nodup := by decide
  z_fn (k := 0) (N := ["script", "k"]) [0, 1] F (C8.fnScope_by (by decide +kernel)) rfl rfl (by decide) (by decide) fun cdv A outer s H vs E hr hp =>
    (s_one (s_ret (z_if (t_cmp op_lt od_lt (pe_opd (pe_var rfl (by first | exact .inl rfl | exact .inr (.inl rfl) | exact .inr (.inr rfl)))) (pe_val (z_callB call_len_seq od_len rfl B.«len» (by decide +kernel) (pa_z (pe_opd (pe_var rfl (by first | exact .inl rfl | exact .inr (.inl rfl) | exact .inr (.inr rfl)))) pa_z0))) rfl) (z_ix ix_seq od_ix (pe_opd (pe_var rfl (by first | exact .inl rfl | exact .inr (.inl rfl) | exact .inr (.inr rfl)))) (pe_opd (pe_var rfl (by first | exact .inl rfl | exact .inr (.inl rfl) | exact .inr (.inr rfl)))) (by intro _ _; rfl)) (z_op op_add od_add (pe_val (z_op op_mul od_mul (pe_val z_int) (pe_val (z_var 1 (pe_var rfl (by first | exact .inl rfl | exact .inr (.inl rfl) | exact .inr (.inr rfl))))))) (pe_val (z_op op_modN od_mod (pe_val (z_callB (cr_sum rfl) od_sum rfl B.«sum» (by decide +kernel) (pa_z (pe_val (z_slice rfl (z_var 0 (pe_var rfl (by first | exact .inl rfl | exact .inr (.inl rfl) | exact .inr (.inr rfl)))) po_none (po_some z_int))) pa_z0))) (pe_val z_int)))))))

/-- _law_box -/
def m__law_box : S := (sRet (mApp oLst [(.val (mApp oAbs [(.peek 0)])), (.val (mApp (oGe) [(.val (mApp oAbs [(.peek 0)])), (.val (mApp oPow [(.val (mC (.int 10))), (.val (mC (.int 18)))]))])), (.val (mApp oMod [(.val (mApp (op1 intOf) [(.val (mApp oAbs [(.peek 0)]))])), (.val (mC (.int 2147483629)))])), (.val (mC (.int 0)))]))
abbrev op__law_box : Op := fnOp 1 1 [0] m__law_box
abbrev dfl__law_box : List (List V) := [[]]
abbrev ks__law_box : List Str := []
theorem k__law_box (D : Ob K cA) (B : Bl mg) (F : FunD K "_law_box" "_law_box" (defArgs (top 38)) (defBody (top 38)) (defScope (top 38)) dvs [] f fd) :
    FnOk P wo K mg base (L2.CX P wo) 1 f fd ["great"] (spF ⟨K, cA, lk, fk⟩ op__law_box 1) :=
  have nd : (["great"] : List Str).Nodup := by decide
  z_fn (k := 0) (N := ["great"]) [0] F (C8.fnScope_by (by decide +kernel)) rfl rfl (by decide) (by decide) fun cdv A outer s H vs E hr hp =>
    (s_one (s_ret (z_lst (pa_z (pe_val (z_callB call_abs od_abs rfl B.«abs» (by decide +kernel) (pa_z (pe_opd (pe_var rfl (by first | exact .inl rfl | exact .inr (.inl rfl) | exact .inr (.inr rfl)))) pa_z0))) (pa_z (pe_val (z_cmp op_ge od_ge (pe_val (z_callB call_abs od_abs rfl B.«abs» (by decide +kernel) (pa_z (pe_opd (pe_var rfl (by first | exact .inl rfl | exact .inr (.inl rfl) | exact .inr (.inr rfl)))) pa_z0))) (pe_val (z_op op_pow od_pow (pe_val z_int) (pe_val z_int))) rfl)) (pa_z (pe_val (z_op op_modN od_mod (pe_val (z_callTy call_int1 od_int rfl B.«int» (by decide +kernel) (pa_z (pe_val (z_callB call_abs od_abs rfl B.«abs» (by decide +kernel) (pa_z (pe_opd (pe_var rfl (by first | exact .inl rfl | exact .inr (.inl rfl) | exact .inr (.inr rfl)))) pa_z0))) pa_z0))) (pe_val z_int))) (pa_z (pe_val z_int) pa_z0)))))))

/-- _law_take -/
def m__law_take : S := (sSeq (sIf (mAnd (mApp oIx [(.peek 0), (.val (mC (.int 1)))]) (mApp (oGt) [(.val (mApp oIx [(.peek 0), (.val (mC (.int 0)))])), (.val (mC (.int 0)))])) (sSeq (sAsg (.nm 3) (mApp oMod [(.val (mApp (op1 intOf) [(.val (mApp oIx [(.peek 0), (.val (mC (.int 0)))]))])), (.val (mVar 1))])) (sSeq (sSetI 0 (mApp oDiv [(.val (mApp oIx [(.peek 0), (.val (mC (.int 0)))])), (.val (mVar 1))]) (mC (.int 0))) (sRetV 3))) sNext) (sSeq (sSetI 0 (mApp oAdd [(.val (mApp oIx [(.peek 0), (.val (mC (.int 3)))])), (.val (mC (.int 1)))]) (mC (.int 3))) (sSeq (sAsg (.nm 2) (mApp oMod [(.val (mApp (op1 intOf) [(.val (mApp oPow [(.val (mApp oAdd [(.val (mApp oAdd [(.val (mApp oIx [(.peek 0), (.val (mC (.int 2)))])), (.val (mApp oMul [(.val (mC (.int 15485863))), (.val (mApp oIx [(.peek 0), (.val (mC (.int 3)))]))]))])), (.val (mC (.int 179424719)))])), (.val (mC (.int 5)))]))])), (.val (mC (.int 2147483647)))])) (sRet (mApp oMod [(.val (mApp oDiv [(.val (mApp oMod [(.val (mApp (op1 intOf) [(.val (mApp oPow [(.val (mApp oAdd [(.val (mApp oMul [(.val (mVar 2)), (.val (mC (.int 48271)))])), (.val (mApp oMul [(.val (mC (.int 104723))), (.val (mApp oIx [(.peek 0), (.val (mC (.int 3)))]))]))])), (.val (mC (.int 3)))]))])), (.val (mC (.int 2147483587)))])), (.val (mC (.int 64)))])), (.val (mVar 1))])))))
abbrev op__law_take : Op := fnOp 2 4 [0, 1] m__law_take
abbrev dfl__law_take : List (List V) := [[]]
abbrev ks__law_take : List Str := []
theorem k__law_take (D : Ob K cA) (B : Bl mg) (F : FunD K "_law_take" "_law_take" (defArgs (top 39)) (defBody (top 39)) (defScope (top 39)) dvs [] f fd) :
    FnOk P wo K mg base (L2.CX P wo) 1 f fd ["box", "many"] (spF ⟨K, cA, lk, fk⟩ op__law_take 2) :=
  have nd : (["box", "many", "mixed", "digit"] : List Str).Nodup := by decide
  z_fn (k := 0) (N := ["box", "many", "mixed", "digit"]) [0, 1] F (C8.fnScope_by (by decide +kernel)) rfl rfl (by decide) (by decide) fun cdv A outer s H vs E hr hp =>
    (s_seq (s_if (PW.pt (t_and (t_val (z_ix ix_seq od_ix (pe_opd (pe_var rfl (by first | exact .inl rfl | exact .inr (.inl rfl) | exact .inr (.inr rfl)))) (pe_val z_int) (by intro _ _; rfl))) (t_and1 (t_cmp op_gt od_gt (pe_val (z_ix ix_seq od_ix (pe_opd (pe_var rfl (by first | exact .inl rfl | exact .inr (.inl rfl) | exact .inr (.inr rfl)))) (pe_val z_int) (by intro _ _; rfl))) (pe_val z_int) rfl)))) (s_seq (s_set nd rfl (by first | exact .inl rfl | exact .inr rfl) (z_op op_modN od_mod (pe_val (z_callTy call_int1 od_int rfl B.«int» (by decide +kernel) (pa_z (pe_val (z_ix ix_seq od_ix (pe_opd (pe_var rfl (by first | exact .inl rfl | exact .inr (.inl rfl) | exact .inr (.inr rfl)))) (pe_val z_int) (by intro _ _; rfl))) pa_z0))) (pe_val (z_var 1 (pe_var rfl (by first | exact .inl rfl | exact .inr (.inl rfl) | exact .inr (.inr rfl)))))) (by decide : (3 : Nat) ∉ ([0, 1] : List Nat))) (s_seq (s_setI (pe_var rfl (by first | exact .inl rfl | exact .inr (.inl rfl) | exact .inr (.inr rfl))) (z_op op_fdivN od_div (pe_val (z_ix ix_seq od_ix (pe_opd (pe_var rfl (by first | exact .inl rfl | exact .inr (.inl rfl) | exact .inr (.inr rfl)))) (pe_val z_int) (by intro _ _; rfl))) (pe_val (z_var 1 (pe_var rfl (by first | exact .inl rfl | exact .inr (.inl rfl) | exact .inr (.inr rfl)))))) z_int) (s_one (s_retV (pe_var rfl (by first | exact .inl rfl | exact .inr (.inl rfl) | exact .inr (.inr rfl))))))) s_nil) (s_seq (s_setI (pe_var rfl (by first | exact .inl rfl | exact .inr (.inl rfl) | exact .inr (.inr rfl))) (z_op op_add od_add (pe_val (z_ix ix_seq od_ix (pe_opd (pe_var rfl (by first | exact .inl rfl | exact .inr (.inl rfl) | exact .inr (.inr rfl)))) (pe_val z_int) (by intro _ _; rfl))) (pe_val z_int)) z_int) (s_seq (s_set nd rfl (by first | exact .inl rfl | exact .inr rfl) (z_op op_modN od_mod (pe_val (z_callTy call_int1 od_int rfl B.«int» (by decide +kernel) (pa_z (pe_val (z_op op_pow od_pow (pe_val (z_op op_add od_add (pe_val (z_op op_add od_add (pe_val (z_ix ix_seq od_ix (pe_opd (pe_var rfl (by first | exact .inl rfl | exact .inr (.inl rfl) | exact .inr (.inr rfl)))) (pe_val z_int) (by intro _ _; rfl))) (pe_val (z_op op_mul od_mul (pe_val z_int) (pe_val (z_ix ix_seq od_ix (pe_opd (pe_var rfl (by first | exact .inl rfl | exact .inr (.inl rfl) | exact .inr (.inr rfl)))) (pe_val z_int) (by intro _ _; rfl))))))) (pe_val z_int))) (pe_val z_int))) pa_z0))) (pe_val z_int)) (by decide : (2 : Nat) ∉ ([0, 1] : List Nat))) (s_one (s_ret (z_op op_modN od_mod (pe_val (z_op op_fdivN od_div (pe_val (z_op op_modN od_mod (pe_val (z_callTy call_int1 od_int rfl B.«int» (by decide +kernel) (pa_z (pe_val (z_op op_pow od_pow (pe_val (z_op op_add od_add (pe_val (z_op op_mul od_mul (pe_val (z_var 2 (pe_var rfl (by first | exact .inl rfl | exact .inr (.inl rfl) | exact .inr (.inr rfl))))) (pe_val z_int))) (pe_val (z_op op_mul od_mul (pe_val z_int) (pe_val (z_ix ix_seq od_ix (pe_opd (pe_var rfl (by first | exact .inl rfl | exact .inr (.inl rfl) | exact .inr (.inr rfl)))) (pe_val z_int) (by intro _ _; rfl))))))) (pe_val z_int))) pa_z0))) (pe_val z_int))) (pe_val z_int))) (pe_val (z_var 1 (pe_var rfl (by first | exact .inl rfl | exact .inr (.inl rfl) | exact .inr (.inr rfl)))))))))))

/-- _law_mixed -/
def m__law_mixed : S := (sSeq (sPar [2, 3] [(.val (mApp oList [(.peek 1)])), (.val (mApp oLst []))]) (sSeq (loopW (mApp (op2 (eqD true)) [(.peek 2), (.val (mApp oLst []))]) (sDrop (mLst fAppend 3 [(.val (mLst fPopAt 2 [(.val (mApp (dfOp op__law_take []) [(.peek 0), (.val (mApp oLen [(.peek 2)]))]))]))])) 200) (sRetV 3)))
abbrev op__law_mixed : Op := fnOp 2 4 [0, 1] m__law_mixed
abbrev dfl__law_mixed : List (List V) := [[]]
abbrev ks__law_mixed : List Str := []
theorem k__law_mixed (D : Ob K cA) (B : Bl mg) (F : FunD K "_law_mixed" "_law_mixed" (defArgs (top 40)) (defBody (top 40)) (defScope (top 40)) dvs [] f fd) (c__law_take : ∀ lk fk, Cl P wo K mg base ⟨K, cA, lk, fk⟩ 1 "_law_take" 2 op__law_take dfl__law_take ks__law_take) :
    FnOk P wo K mg base (L2.CX P wo) 2 f fd ["box", "items"] (spF ⟨K, cA, lk, fk⟩ op__law_mixed 2) :=
  have nd : (["box", "items", "left", "found"] : List Str).Nodup := by decide
  z_fn (k := 1) (N := ["box", "items", "left", "found"]) [0, 1] F (C8.fnScope_by (by decide +kernel)) rfl rfl (by decide) (by decide) fun cdv A outer s H vs E hr hp =>
    (s_seq (s_par rfl nd rfl rfl (by decide) rfl rfl (pa_z (pe_val (z_callTy call_list_of od_list rfl B.«list» (by decide +kernel) (pa_z (pe_opd (pe_var rfl (by first | exact .inl rfl | exact .inr (.inl rfl) | exact .inr (.inr rfl)))) pa_z0))) (pa_z (pe_val (z_lst pa_z0)) pa_z0)) rfl (by decide : ∀ k ∈ ([2, 3] : List Nat), k ∉ ([0, 1] : List Nat))) (s_seq (s_while 200 pOwn (t_cmp (op_neD hr.units) od_ne (pe_opd (pe_var rfl (by first | exact .inl rfl | exact .inr (.inl rfl) | exact .inr (.inr rfl)))) (pe_val (z_lst pa_z0)) rfl) (s_one (s_drop (z_append (pe_var rfl (by first | exact .inl rfl | exact .inr (.inl rfl) | exact .inr (.inr rfl))) (pa_z (pe_val (z_popAt (pe_var rfl (by first | exact .inl rfl | exact .inr (.inl rfl) | exact .inr (.inr rfl))) (pa_z (pe_val (z_callD (dd := []) (dvs := []) (c__law_take _ _) (hr.mono (by omega)) rfl fnOp_len (List.mem_cons_self ..) .nil tkE (pa_z (pe_opd (pe_var rfl (by first | exact .inl rfl | exact .inr (.inl rfl) | exact .inr (.inr rfl)))) (pa_z (pe_val (z_callB call_len_seq od_len rfl B.«len» (by decide +kernel) (pa_z (pe_opd (pe_var rfl (by first | exact .inl rfl | exact .inr (.inl rfl) | exact .inr (.inr rfl)))) pa_z0))) pa_z0)))) pa_z0) rfl)) pa_z0) rfl)))) (s_one (s_retV (pe_var rfl (by first | exact .inl rfl | exact .inr (.inl rfl) | exact .inr (.inr rfl)))))))

/-- _law_same, as deep as there is fuel -/
def m__law_same (op__law_same : Op) : S := (sSeq (sIf (mApp (op1 (isi2B "list" "tuple")) [(.peek 1)]) (sSeq (sIf (mOr (mApp (op2 (eqD true)) [(.val (mApp (op1 (isiB "list")) [(.peek 0)])), (.val (mApp (op1 (isiB "list")) [(.peek 1)]))]) (mApp (op2 (eqD true)) [(.val (mApp (op1 (isiB "tuple")) [(.peek 0)])), (.val (mApp (op1 (isiB "tuple")) [(.peek 1)]))])) (sRet (mC (.bl false))) sNext) (sRet (mAnd (mApp (op2 (eqD false)) [(.val (mApp oLen [(.peek 0)])), (.val (mApp oLen [(.peek 1)]))]) (mApp oAll [(.val (mLc (iRng [.val (mApp oLen [(.peek 1)])]) (.nm 2) none (mApp (dfOp op__law_same []) [(.val (mApp oIx [(.peek 0), (.peek 2)])), (.val (mApp oIx [(.peek 1), (.peek 2)]))]) [2]))])))) sNext) (sSeq (sIf (mApp (op2 (onNon false)) [(.peek 1), (.val (mC .non))]) (sRet (mApp (op2 (onNon false)) [(.peek 0), (.val (mC .non))])) sNext) (sRet (mAnd (mApp (op1 (isiB "int")) [(.peek 0)]) (mAnd (mApp (op2 (eqD false)) [(.val (mApp (op1 (isiB "bool")) [(.peek 0)])), (.val (mApp (op1 (isiB "bool")) [(.peek 1)]))]) (mApp (op2 (eqD false)) [(.peek 0), (.peek 1)]))))))
def op__law_same : Nat → Op
  | 0 => fun _ => .bad
  | i + 1 => fnOp 2 3 [0, 1] (m__law_same (op__law_same i))
theorem len__law_same : ∀ i, opLen (op__law_same i) 2
  | 0 => fun _ _ => rfl
  | i + 1 => fnOp_len
theorem k__law_same (B : Bl mg) (F : FunD K "_law_same" "_law_same" (defArgs (top 41)) (defBody (top 41)) (defScope (top 41)) [] [] f fd) (hk : PySem.W.keepIn K (.ref f) = true) (hm : mg "_law_same" = some (.ref f)) (hb : ∃ ds, Vals [] ds ∧ Binds K fd ["told", "due"] ds) : ∀ (i : Nat) (lk fk : Hp),
    FnOk P wo K mg base (L2.CX P wo) i f fd ["told", "due"] (spF ⟨K, cA, lk, fk⟩ (op__law_same i) 2)
  | 0, lk, fk => ⟨fun vs H Q E h => h.1, fun _ _ _ _ _ _ _ _ _ _ _ _ _ h => by obtain ⟨_, I, F, ds, hs, o⟩ := h; exact o.elim⟩
  | i + 1, lk, fk =>
    have nd : (["told", "due", "k"] : List Str).Nodup := by decide
    have c__law_same : ∀ lk fk, Cl P wo K mg base ⟨K, cA, lk, fk⟩ i "_law_same" 2 (op__law_same i) [[]] [] := fun lk fk => ⟨f, fd, ["told", "due"], rfl, k__law_same B F hk hm hb i lk fk, hk, hm, fun dvs h => by rw [List.mem_singleton.mp h]; exact hb, fun h => absurd rfl h⟩
    z_fn (k := i) (N := ["told", "due", "k"]) [0, 1] F (C8.fnScope_by (by decide +kernel)) rfl rfl (by decide) (by decide) fun cdv A outer s H vs E hr hp =>
    (s_seq (s_if (t_val (z_isi2 (pe_opd (pe_var rfl (by first | exact .inl rfl | exact .inr (.inl rfl) | exact .inr (.inr rfl)))) (pe_bt rfl B.«list» (by decide +kernel)) (pe_bt rfl B.«tuple» (by decide +kernel)) rfl B.isinstance rfl)) (s_seq (s_if (PW.pt (t_or (t_cmp (op_neD hr.units) od_ne (pe_val (z_isi (pe_opd (pe_var rfl (by first | exact .inl rfl | exact .inr (.inl rfl) | exact .inr (.inr rfl)))) (pe_bt rfl B.«list» (by decide +kernel)) rfl B.isinstance rfl)) (pe_val (z_isi (pe_opd (pe_var rfl (by first | exact .inl rfl | exact .inr (.inl rfl) | exact .inr (.inr rfl)))) (pe_bt rfl B.«list» (by decide +kernel)) rfl B.isinstance rfl)) rfl) (t_or1 (t_cmp (op_neD hr.units) od_ne (pe_val (z_isi (pe_opd (pe_var rfl (by first | exact .inl rfl | exact .inr (.inl rfl) | exact .inr (.inr rfl)))) (pe_bt rfl B.«tuple» (by decide +kernel)) rfl B.isinstance rfl)) (pe_val (z_isi (pe_opd (pe_var rfl (by first | exact .inl rfl | exact .inr (.inl rfl) | exact .inr (.inr rfl)))) (pe_bt rfl B.«tuple» (by decide +kernel)) rfl B.isinstance rfl)) rfl)))) (s_one (s_ret z_bl)) s_nil) (s_one (s_ret (z_and (z_cmp (op_eqD hr.units) od_eq (pe_val (z_callB call_len_seq od_len rfl B.«len» (by decide +kernel) (pa_z (pe_opd (pe_var rfl (by first | exact .inl rfl | exact .inr (.inl rfl) | exact .inr (.inr rfl)))) pa_z0))) (pe_val (z_callB call_len_seq od_len rfl B.«len» (by decide +kernel) (pa_z (pe_opd (pe_var rfl (by first | exact .inl rfl | exact .inr (.inl rfl) | exact .inr (.inr rfl)))) pa_z0))) rfl) (z_one (z_callB (cr_all rfl) od_all rfl B.«all» (by decide +kernel) (pa_z (pe_val (z_lc (own := [("k", 2)]) (hp := (by decide : ∀ i ∈ ([0, 1] : List Nat), i ∉ ([2] : List Nat))) rfl nd (i_rng1 rfl B.range (pi_range1 rfl B.range (pa_z (pe_val (z_callB call_len_seq od_len rfl B.«len» (by decide +kernel) (pa_z (pe_opd (pe_var rfl (by first | exact .inl rfl | exact .inr (.inl rfl) | exact .inr (.inr rfl)))) pa_z0))) pa_z0))) (blkOk_by (N := ["told", "due", "k"]) (sc := defScope (top 41)) (by decide +kernel)) (fun _ _ _ _ _ => (g_nm (pg_name nd rfl (by first | exact .inl rfl | exact .inr rfl)) (by decide : (2 : Nat) ∉ ([0, 1] : List Nat)))) (fun _ _ _ _ _ => ts_nil) (fun _ _ _ _ _ => (z_callD (dd := []) (dvs := []) (c__law_same _ _) hr rfl (len__law_same i) (List.mem_cons_self ..) .nil tk0 (pa_z (pe_val (z_ix ix_seq od_ix (pe_opd (pe_var rfl (by first | exact .inl rfl | exact .inr (.inl rfl) | exact .inr (.inr rfl)))) (pe_opd (pe_var rfl (by first | exact .inl rfl | exact .inr (.inl rfl) | exact .inr (.inr rfl)))) (by intro _ _; rfl))) (pa_z (pe_val (z_ix ix_seq od_ix (pe_opd (pe_var rfl (by first | exact .inl rfl | exact .inr (.inl rfl) | exact .inr (.inr rfl)))) (pe_opd (pe_var rfl (by first | exact .inl rfl | exact .inr (.inl rfl) | exact .inr (.inr rfl)))) (by intro _ _; rfl))) pa_z0)))))) pa_z0))))))) s_nil) (s_seq (s_if (t_cmp op_isN od_isN (pe_opd (pe_var rfl (by first | exact .inl rfl | exact .inr (.inl rfl) | exact .inr (.inr rfl)))) (pe_val z_non) rfl) (s_one (s_ret (z_cmp op_isN od_isN (pe_opd (pe_var rfl (by first | exact .inl rfl | exact .inr (.inl rfl) | exact .inr (.inr rfl)))) (pe_val z_non) rfl))) s_nil) (s_one (s_ret (z_and (z_isi (pe_opd (pe_var rfl (by first | exact .inl rfl | exact .inr (.inl rfl) | exact .inr (.inr rfl)))) (pe_bt rfl B.«int» (by decide +kernel)) rfl B.isinstance rfl) (z_and (z_cmp (op_eqD hr.units) od_eq (pe_val (z_isi (pe_opd (pe_var rfl (by first | exact .inl rfl | exact .inr (.inl rfl) | exact .inr (.inr rfl)))) (pe_bt rfl B.«bool» (by decide +kernel)) rfl B.isinstance rfl)) (pe_val (z_isi (pe_opd (pe_var rfl (by first | exact .inl rfl | exact .inr (.inl rfl) | exact .inr (.inr rfl)))) (pe_bt rfl B.«bool» (by decide +kernel)) rfl B.isinstance rfl)) rfl) (z_one (z_cmp (op_eqD hr.units) od_eq (pe_opd (pe_var rfl (by first | exact .inl rfl | exact .inr (.inl rfl) | exact .inr (.inr rfl)))) (pe_opd (pe_var rfl (by first | exact .inl rfl | exact .inr (.inl rfl) | exact .inr (.inr rfl)))) rfl))))))))

/-- _law_bags -/
def m__law_bags : S := (sSeq (sAsg (.nm 2) (mApp oLst [(.val (mApp oTup []))])) (sSeq (sFor (iRng [.val (mVar 1)]) (.nm 3) (sSeq (sAsg (.nm 4) (mApp oLst [])) (sSeq (sFor (iSeq (mVar 2)) (.nm 5) (sSeq (sAsg (.nm 6) (mIf (mApp (op2 (eqD true)) [(.peek 5), (.val (mApp oTup []))]) (mApp oMaxT [(.peek 5)]) (mC (.int 0)))) (sAsg (.nm 4) (mApp oCat [(.val (mVar 4)), (.val (mLc (iRng [.val (mVar 6), .val (mVar 0)]) (.nm 7) none (mApp oCatT [(.val (mVar 5)), (.val (mApp oTup [(.val (mVar 7))]))]) [7]))])))) (sAsg (.nm 2) (mVar 4))))) (sRetV 2)))
abbrev op__law_bags : Op := fnOp 2 8 [0, 1] m__law_bags
abbrev dfl__law_bags : List (List V) := [[]]
abbrev ks__law_bags : List Str := []
theorem k__law_bags (D : Ob K cA) (B : Bl mg) (F : FunD K "_law_bags" "_law_bags" (defArgs (top 42)) (defBody (top 42)) (defScope (top 42)) dvs [] f fd) :
    FnOk P wo K mg base (L2.CX P wo) 1 f fd ["values", "size"] (spF ⟨K, cA, lk, fk⟩ op__law_bags 2) :=
  have nd : (["values", "size", "found", "turn", "longer", "bag", "least", "value"] : List Str).Nodup := by decide
  z_fn (k := 0) (N := ["values", "size", "found", "turn", "longer", "bag", "least", "value"]) [0, 1] F (C8.fnScope_by (by decide +kernel)) rfl rfl (by decide) (by decide) fun cdv A outer s H vs E hr hp =>
    (s_seq (s_set nd rfl (by first | exact .inl rfl | exact .inr rfl) (z_lst (pa_z (pe_val (z_tup pa_z0)) pa_z0)) (by decide : (2 : Nat) ∉ ([0, 1] : List Nat))) (s_seq (s_for pOwn rfl (i_rng1 rfl B.range (pi_range1 rfl B.range (pa_z (pe_val (z_var 1 (pe_var rfl (by first | exact .inl rfl | exact .inr (.inl rfl) | exact .inr (.inr rfl))))) pa_z0))) (g_nm (pg_name nd rfl (by first | exact .inl rfl | exact .inr rfl)) (by decide : (3 : Nat) ∉ ([0, 1] : List Nat))) (s_seq (s_set nd rfl (by first | exact .inl rfl | exact .inr rfl) (z_lst pa_z0) (by decide : (4 : Nat) ∉ ([0, 1] : List Nat))) (s_seq (s_for pOwn rfl (i_seq (z_var 2 (pe_var rfl (by first | exact .inl rfl | exact .inr (.inl rfl) | exact .inr (.inr rfl)))) rfl) (g_nm (pg_name nd rfl (by first | exact .inl rfl | exact .inr rfl)) (by decide : (5 : Nat) ∉ ([0, 1] : List Nat))) (s_seq (s_set nd rfl (by first | exact .inl rfl | exact .inr rfl) (z_if (t_cmp (op_neD hr.units) od_ne (pe_opd (pe_var rfl (by first | exact .inl rfl | exact .inr (.inl rfl) | exact .inr (.inr rfl)))) (pe_val (z_tup pa_z0)) rfl) (z_callB (cr_maxT rfl (Room.u65 hr)) od_maxT rfl B.max (by decide +kernel) (pa_z (pe_opd (pe_var rfl (by first | exact .inl rfl | exact .inr (.inl rfl) | exact .inr (.inr rfl)))) pa_z0)) z_int) (by decide : (6 : Nat) ∉ ([0, 1] : List Nat))) (s_one (s_set nd rfl (by first | exact .inl rfl | exact .inr rfl) (z_op op_cat od_cat (pe_val (z_var 4 (pe_var rfl (by first | exact .inl rfl | exact .inr (.inl rfl) | exact .inr (.inr rfl))))) (pe_val (z_lc (own := [("value", 7)]) (hp := (by decide : ∀ i ∈ ([0, 1] : List Nat), i ∉ ([7] : List Nat))) rfl nd (i_rng2 (pi_range2 rfl B.range (pa_z (pe_val (z_var 6 (pe_var rfl (by first | exact .inl rfl | exact .inr (.inl rfl) | exact .inr (.inr rfl))))) (pa_z (pe_val (z_var 0 (pe_var rfl (by first | exact .inl rfl | exact .inr (.inl rfl) | exact .inr (.inr rfl))))) pa_z0)))) (blkOk_by (N := ["values", "size", "found", "turn", "longer", "bag", "least", "value"]) (sc := defScope (top 42)) (by decide +kernel)) (fun _ _ _ _ _ => (g_nm (pg_name nd rfl (by first | exact .inl rfl | exact .inr rfl)) (by decide : (7 : Nat) ∉ ([0, 1] : List Nat)))) (fun _ _ _ _ _ => ts_nil) (fun _ _ _ _ _ => (z_op op_catA od_catT (pe_val (z_var 5 (pe_var rfl (by first | exact .inl rfl | exact .inr (.inl rfl) | exact .inr (.inr rfl))))) (pe_val (z_tup (pa_z (pe_val (z_var 7 (pe_var rfl (by first | exact .inl rfl | exact .inr (.inl rfl) | exact .inr (.inr rfl))))) pa_z0)))))))) (by decide : (4 : Nat) ∉ ([0, 1] : List Nat)))))) (s_one (s_set nd rfl (by first | exact .inl rfl | exact .inr rfl) (z_var 4 (pe_var rfl (by first | exact .inl rfl | exact .inr (.inl rfl) | exact .inr (.inr rfl)))) (by decide : (2 : Nat) ∉ ([0, 1] : List Nat))))))) (s_one (s_retV (pe_var rfl (by first | exact .inl rfl | exact .inr (.inl rfl) | exact .inr (.inr rfl)))))))

/-- _law_bags_X -/
def m__law_bags_X : S := (sSeq (sAsg (.nm 2) (mApp oLst [(.val (mApp oTux []))])) (sSeq (sFor (iRng [.val (mVar 1)]) (.nm 3) (sSeq (sAsg (.nm 4) (mApp oLst [])) (sSeq (sFor (iSeq (mVar 2)) (.nm 5) (sSeq (sAsg (.nm 6) (mIf (mApp (op2 (eqD true)) [(.peek 5), (.val (mApp oTux []))]) (mApp oMaxT [(.peek 5)]) (mC (.int 0)))) (sAsg (.nm 4) (mApp oCat [(.val (mVar 4)), (.val (mLc (iRng [.val (mVar 6), .val (mVar 0)]) (.nm 7) none (mApp oCatX [(.val (mVar 5)), (.val (mApp oTux [(.val (mVar 7))]))]) [7]))])))) (sAsg (.nm 2) (mVar 4))))) (sRetV 2)))
abbrev op__law_bags_X : Op := fnOp 2 8 [0, 1] m__law_bags_X
abbrev dfl__law_bags_X : List (List V) := [[]]
abbrev ks__law_bags_X : List Str := []
theorem k__law_bags_X (D : Ob K cA) (B : Bl mg) (F : FunD K "_law_bags" "_law_bags" (defArgs (top 42)) (defBody (top 42)) (defScope (top 42)) dvs [] f fd) :
    FnOk P wo K mg base (L2.CX P wo) 1 f fd ["values", "size"] (spF ⟨K, cA, lk, fk⟩ op__law_bags_X 2) :=
  have nd : (["values", "size", "found", "turn", "longer", "bag", "least", "value"] : List Str).Nodup := by decide
  z_fn (k := 0) (N := ["values", "size", "found", "turn", "longer", "bag", "least", "value"]) [0, 1] F (C8.fnScope_by (by decide +kernel)) rfl rfl (by decide) (by decide) fun cdv A outer s H vs E hr hp =>
    (s_seq (s_set nd rfl (by first | exact .inl rfl | exact .inr rfl) (z_lst (pa_z (pe_val (z_tux pa_z0)) pa_z0)) (by decide : (2 : Nat) ∉ ([0, 1] : List Nat))) (s_seq (s_for pOwn rfl (i_rng1 rfl B.range (pi_range1 rfl B.range (pa_z (pe_val (z_var 1 (pe_var rfl (by first | exact .inl rfl | exact .inr (.inl rfl) | exact .inr (.inr rfl))))) pa_z0))) (g_nm (pg_name nd rfl (by first | exact .inl rfl | exact .inr rfl)) (by decide : (3 : Nat) ∉ ([0, 1] : List Nat))) (s_seq (s_set nd rfl (by first | exact .inl rfl | exact .inr rfl) (z_lst pa_z0) (by decide : (4 : Nat) ∉ ([0, 1] : List Nat))) (s_seq (s_for pOwn rfl (i_seq (z_var 2 (pe_var rfl (by first | exact .inl rfl | exact .inr (.inl rfl) | exact .inr (.inr rfl)))) rfl) (g_nm (pg_name nd rfl (by first | exact .inl rfl | exact .inr rfl)) (by decide : (5 : Nat) ∉ ([0, 1] : List Nat))) (s_seq (s_set nd rfl (by first | exact .inl rfl | exact .inr rfl) (z_if (t_cmp (op_neD hr.units) od_ne (pe_opd (pe_var rfl (by first | exact .inl rfl | exact .inr (.inl rfl) | exact .inr (.inr rfl)))) (pe_val (z_tux pa_z0)) rfl) (z_callB (cr_maxT rfl (Room.u65 hr)) od_maxT rfl B.max (by decide +kernel) (pa_z (pe_opd (pe_var rfl (by first | exact .inl rfl | exact .inr (.inl rfl) | exact .inr (.inr rfl)))) pa_z0)) z_int) (by decide : (6 : Nat) ∉ ([0, 1] : List Nat))) (s_one (s_set nd rfl (by first | exact .inl rfl | exact .inr rfl) (z_op op_cat od_cat (pe_val (z_var 4 (pe_var rfl (by first | exact .inl rfl | exact .inr (.inl rfl) | exact .inr (.inr rfl))))) (pe_val (z_lc (own := [("value", 7)]) (hp := (by decide : ∀ i ∈ ([0, 1] : List Nat), i ∉ ([7] : List Nat))) rfl nd (i_rng2 (pi_range2 rfl B.range (pa_z (pe_val (z_var 6 (pe_var rfl (by first | exact .inl rfl | exact .inr (.inl rfl) | exact .inr (.inr rfl))))) (pa_z (pe_val (z_var 0 (pe_var rfl (by first | exact .inl rfl | exact .inr (.inl rfl) | exact .inr (.inr rfl))))) pa_z0)))) (blkOk_by (N := ["values", "size", "found", "turn", "longer", "bag", "least", "value"]) (sc := defScope (top 42)) (by decide +kernel)) (fun _ _ _ _ _ => (g_nm (pg_name nd rfl (by first | exact .inl rfl | exact .inr rfl)) (by decide : (7 : Nat) ∉ ([0, 1] : List Nat)))) (fun _ _ _ _ _ => ts_nil) (fun _ _ _ _ _ => (z_op op_catX od_catX (pe_val (z_var 5 (pe_var rfl (by first | exact .inl rfl | exact .inr (.inl rfl) | exact .inr (.inr rfl))))) (pe_val (z_tux (pa_z (pe_val (z_var 7 (pe_var rfl (by first | exact .inl rfl | exact .inr (.inl rfl) | exact .inr (.inr rfl))))) pa_z0)))))))) (by decide : (4 : Nat) ∉ ([0, 1] : List Nat)))))) (s_one (s_set nd rfl (by first | exact .inl rfl | exact .inr rfl) (z_var 4 (pe_var rfl (by first | exact .inl rfl | exact .inr (.inl rfl) | exact .inr (.inr rfl)))) (by decide : (2 : Nat) ∉ ([0, 1] : List Nat))))))) (s_one (s_retV (pe_var rfl (by first | exact .inl rfl | exact .inr (.inl rfl) | exact .inr (.inr rfl)))))))

/-- _law_ranked -/
def m__law_ranked : S := (sSeq (sAsg (.nm 1) (mApp oLst [])) (sSeq (sAside 0 fun xs => (sFor (fun env => .ok xs env) (.nm 2) (sIf (mApp (op2 (inD true)) [(.peek 2), (.peek 1)]) (sDrop (mLst fAppend 1 [(.val (mVar 2))])) sNext))) (sRet (mAside 0 fun xs => (mLc (fun env => .ok xs env) (.nm 2) none (mApp oIndex (.val (mIs isLst (mVar 1)) :: [(.val (mVar 2))])) [2])))))
abbrev op__law_ranked : Op := fnOp 1 3 [0] m__law_ranked
abbrev dfl__law_ranked : List (List V) := [[]]
abbrev ks__law_ranked : List Str := []
theorem k__law_ranked (D : Ob K cA) (B : Bl mg) (F : FunD K "_law_ranked" "_law_ranked" (defArgs (top 43)) (defBody (top 43)) (defScope (top 43)) dvs [] f fd) :
    FnOk P wo K mg base (L2.CX P wo) 1 f fd ["things"] (spF ⟨K, cA, lk, fk⟩ op__law_ranked 1) :=
  have nd : (["things", "seen", "thing"] : List Str).Nodup := by decide
  z_fn (k := 0) (N := ["things", "seen", "thing"]) [0] F (C8.fnScope_by (by decide +kernel)) rfl rfl (by decide) (by decide) fun cdv A outer s H vs E hr hp =>
    (s_seq (s_set nd rfl (by first | exact .inl rfl | exact .inr rfl) (z_lst pa_z0) (by decide : (1 : Nat) ∉ ([0] : List Nat))) (s_seq (s_aside hp fun _ _ _ xs hp hk => (s_for pOwn rfl (i_pk (pe_var rfl (by first | exact .inl rfl | exact .inr (.inl rfl) | exact .inr (.inr rfl))) rfl hk) (g_nm (pg_name nd rfl (by first | exact .inl rfl | exact .inr rfl)) (by decide : (2 : Nat) ∉ ([0, 0] : List Nat))) (s_one (s_if (t_cmp (op_notInD (Room.u65 hr)) od_notIn (pe_opd (pe_var rfl (by first | exact .inl rfl | exact .inr (.inl rfl) | exact .inr (.inr rfl)))) (pe_opd (pe_var rfl (by first | exact .inl rfl | exact .inr (.inl rfl) | exact .inr (.inr rfl)))) rfl) (s_one (s_drop (z_append (pe_var rfl (by first | exact .inl rfl | exact .inr (.inl rfl) | exact .inr (.inr rfl))) (pa_z (pe_val (z_var 2 (pe_var rfl (by first | exact .inl rfl | exact .inr (.inl rfl) | exact .inr (.inr rfl))))) pa_z0) rfl))) s_nil)))) (s_one (s_ret (z_aside hp fun _ _ _ xs hp hk => (z_lc (own := [("thing", 2)]) (hp := (by decide : ∀ i ∈ ([0, 0] : List Nat), i ∉ ([2] : List Nat))) rfl nd (i_pk (pe_var rfl (by first | exact .inl rfl | exact .inr (.inl rfl) | exact .inr (.inr rfl))) rfl hk) (blkOk_by (N := ["things", "seen", "thing"]) (sc := defScope (top 43)) (by decide +kernel)) (fun _ _ _ _ _ => (g_nm (pg_name nd rfl (by first | exact .inl rfl | exact .inr rfl)) (by decide : (2 : Nat) ∉ ([0, 0] : List Nat)))) (fun _ _ _ _ _ => ts_nil) (fun _ _ _ _ _ => (z_look PySem.F.slot_list_index PySem.F.type_list_index (mt_indexD (Room.u65 hr)) od_index (z_var 1 (pe_var rfl (by first | exact .inl rfl | exact .inr (.inl rfl) | exact .inr (.inr rfl)))) (pa_z (pe_val (z_var 2 (pe_var rfl (by first | exact .inl rfl | exact .inr (.inl rfl) | exact .inr (.inr rfl))))) pa_z0) rfl))))))))

/-- _law_shape -/
def m__law_shape : S := (sSeq (sAsg (.nm 2) (mApp (dfOp op__law_take []) [(.peek 0), (.val (mC (.int 16)))])) (sSeq (sIf (mApp (op2 (eqD false)) [(.peek 2), (.val (mC (.int 15)))]) (sRet (mApp oIx [(.val (mApp oLst [(.val (mApp oTup [(.val (mC (.int 3))), (.val (mC (.int 5)))])), (.val (mApp oTup [(.val (mC (.int 3))), (.val (mC (.int 6)))])), (.val (mApp oTup [(.val (mC (.int 4))), (.val (mC (.int 4)))])), (.val (mApp oTup [(.val (mC (.int 1))), (.val (mC (.int 6)))])), (.val (mApp oTup [(.val (mC (.int 4))), (.val (mC (.int 5)))])), (.val (mApp oTup [(.val (mC (.int 4))), (.val (mC (.int 6)))]))])), (.val (mApp (dfOp op__law_take []) [(.peek 0), (.peek 1)]))])) sNext) (sRet (mApp oIx [(.val (mApp oLst [(.val (mApp oTup [(.val (mC (.int 2))), (.val (mC (.int 2)))])), (.val (mApp oTup [(.val (mC (.int 3))), (.val (mC (.int 2)))])), (.val (mApp oTup [(.val (mC (.int 2))), (.val (mC (.int 3)))])), (.val (mApp oTup [(.val (mC (.int 1))), (.val (mC (.int 3)))])), (.val (mApp oTup [(.val (mC (.int 3))), (.val (mC (.int 3)))])), (.val (mApp oTup [(.val (mC (.int 2))), (.val (mC (.int 1)))])), (.val (mApp oTup [(.val (mC (.int 4))), (.val (mC (.int 2)))])), (.val (mApp oTup [(.val (mC (.int 2))), (.val (mC (.int 4)))])), (.val (mApp oTup [(.val (mC (.int 3))), (.val (mC (.int 1)))])), (.val (mApp oTup [(.val (mC (.int 2))), (.val (mC (.int 5)))])), (.val (mApp oTup [(.val (mC (.int 4))), (.val (mC (.int 3)))])), (.val (mApp oTup [(.val (mC (.int 1))), (.val (mC (.int 1)))])), (.val (mApp oTup [(.val (mC (.int 3))), (.val (mC (.int 4)))])), (.val (mApp oTup [(.val (mC (.int 2))), (.val (mC (.int 6)))])), (.val (mApp oTup [(.val (mC (.int 4))), (.val (mC (.int 1)))]))])), (.peek 2)]))))
abbrev op__law_shape : Op := fnOp 2 3 [0, 1] m__law_shape
abbrev dfl__law_shape : List (List V) := [[]]
abbrev ks__law_shape : List Str := []
theorem k__law_shape (D : Ob K cA) (B : Bl mg) (F : FunD K "_law_shape" "_law_shape" (defArgs (top 44)) (defBody (top 44)) (defScope (top 44)) dvs [] f fd) (c__law_take : ∀ lk fk, Cl P wo K mg base ⟨K, cA, lk, fk⟩ 1 "_law_take" 2 op__law_take dfl__law_take ks__law_take) :
    FnOk P wo K mg base (L2.CX P wo) 2 f fd ["box", "many"] (spF ⟨K, cA, lk, fk⟩ op__law_shape 2) :=
  have nd : (["box", "many", "at"] : List Str).Nodup := by decide
  z_fn (k := 1) (N := ["box", "many", "at"]) [0, 1] F (C8.fnScope_by (by decide +kernel)) rfl rfl (by decide) (by decide) fun cdv A outer s H vs E hr hp =>
    (s_seq (s_set nd rfl (by first | exact .inl rfl | exact .inr rfl) (z_callD (dd := []) (dvs := []) (c__law_take _ _) (hr.mono (by omega)) rfl fnOp_len (List.mem_cons_self ..) .nil tkE (pa_z (pe_opd (pe_var rfl (by first | exact .inl rfl | exact .inr (.inl rfl) | exact .inr (.inr rfl)))) (pa_z (pe_val z_int) pa_z0))) (by decide : (2 : Nat) ∉ ([0, 1] : List Nat))) (s_seq (s_if (t_cmp (op_eqD hr.units) od_eq (pe_opd (pe_var rfl (by first | exact .inl rfl | exact .inr (.inl rfl) | exact .inr (.inr rfl)))) (pe_val z_int) rfl) (s_one (s_ret (z_ix ix_seq od_ix (pe_val (z_lst (pa_z (pe_val (z_tup (pa_z (pe_val z_int) (pa_z (pe_val z_int) pa_z0)))) (pa_z (pe_val (z_tup (pa_z (pe_val z_int) (pa_z (pe_val z_int) pa_z0)))) (pa_z (pe_val (z_tup (pa_z (pe_val z_int) (pa_z (pe_val z_int) pa_z0)))) (pa_z (pe_val (z_tup (pa_z (pe_val z_int) (pa_z (pe_val z_int) pa_z0)))) (pa_z (pe_val (z_tup (pa_z (pe_val z_int) (pa_z (pe_val z_int) pa_z0)))) (pa_z (pe_val (z_tup (pa_z (pe_val z_int) (pa_z (pe_val z_int) pa_z0)))) pa_z0)))))))) (pe_val (z_callD (dd := []) (dvs := []) (c__law_take _ _) (hr.mono (by omega)) rfl fnOp_len (List.mem_cons_self ..) .nil tkE (pa_z (pe_opd (pe_var rfl (by first | exact .inl rfl | exact .inr (.inl rfl) | exact .inr (.inr rfl)))) (pa_z (pe_opd (pe_var rfl (by first | exact .inl rfl | exact .inr (.inl rfl) | exact .inr (.inr rfl)))) pa_z0)))) (by intro _ _; rfl)))) s_nil) (s_one (s_ret (z_ix ix_seq od_ix (pe_val (z_lst (pa_z (pe_val (z_tup (pa_z (pe_val z_int) (pa_z (pe_val z_int) pa_z0)))) (pa_z (pe_val (z_tup (pa_z (pe_val z_int) (pa_z (pe_val z_int) pa_z0)))) (pa_z (pe_val (z_tup (pa_z (pe_val z_int) (pa_z (pe_val z_int) pa_z0)))) (pa_z (pe_val (z_tup (pa_z (pe_val z_int) (pa_z (pe_val z_int) pa_z0)))) (pa_z (pe_val (z_tup (pa_z (pe_val z_int) (pa_z (pe_val z_int) pa_z0)))) (pa_z (pe_val (z_tup (pa_z (pe_val z_int) (pa_z (pe_val z_int) pa_z0)))) (pa_z (pe_val (z_tup (pa_z (pe_val z_int) (pa_z (pe_val z_int) pa_z0)))) (pa_z (pe_val (z_tup (pa_z (pe_val z_int) (pa_z (pe_val z_int) pa_z0)))) (pa_z (pe_val (z_tup (pa_z (pe_val z_int) (pa_z (pe_val z_int) pa_z0)))) (pa_z (pe_val (z_tup (pa_z (pe_val z_int) (pa_z (pe_val z_int) pa_z0)))) (pa_z (pe_val (z_tup (pa_z (pe_val z_int) (pa_z (pe_val z_int) pa_z0)))) (pa_z (pe_val (z_tup (pa_z (pe_val z_int) (pa_z (pe_val z_int) pa_z0)))) (pa_z (pe_val (z_tup (pa_z (pe_val z_int) (pa_z (pe_val z_int) pa_z0)))) (pa_z (pe_val (z_tup (pa_z (pe_val z_int) (pa_z (pe_val z_int) pa_z0)))) (pa_z (pe_val (z_tup (pa_z (pe_val z_int) (pa_z (pe_val z_int) pa_z0)))) pa_z0))))))))))))))))) (pe_opd (pe_var rfl (by first | exact .inl rfl | exact .inr (.inl rfl) | exact .inr (.inr rfl)))) (by intro _ _; rfl))))))

/-- _law_thing -/
def m__law_thing : S := (sSeq (sIf (mApp (oLt) [(.peek 1), (.val (mC (.int 3)))]) (sSeq (sAsg (.nm 6) (mApp oSum [(.val (mAside 0 fun xs => (mLc (fun env => .ok xs env) (.nm 7) none (mApp oIx [(.peek 3), (.peek 7)]) [7])))])) (sRet (mIf (mApp (oGt) [(.peek 2), (.val (mC (.int 0)))]) (mApp oMod [(.val (mApp (op1 intOf) [(.peek 6)])), (.val (mVar 2))]) (mVar 6)))) sNext) (sSeq (sIf (mApp (op2 (eqD false)) [(.peek 1), (.val (mC (.int 3)))]) (sRet (mVar 0)) sNext) (sSeq (sIf (mApp (op2 (eqD false)) [(.peek 1), (.val (mC (.int 4)))]) (sRet (mApp oTuple [(.val (mLc (iRng [.val (mApp oLen [(.peek 4)])]) (.nm 7) none (mApp oMin2 [(.val (mApp oCount (.val (mIs isTux (mVar 0)) :: [(.val (mVar 7))]))), (.val (mApp oIx [(.peek 4), (.peek 7)]))]) [7]))])) sNext) (sRet (mVar 5)))))
abbrev op__law_thing : Op := fnOp 6 8 [0, 1, 2, 3, 4, 5] m__law_thing
abbrev dfl__law_thing : List (List V) := [[]]
abbrev ks__law_thing : List Str := []
theorem k__law_thing (D : Ob K cA) (B : Bl mg) (F : FunD K "_law_thing" "_law_thing" (defArgs (top 45)) (defBody (top 45)) (defScope (top 45)) dvs [] f fd) :
    FnOk P wo K mg base (L2.CX P wo) 1 f fd ["bag", "way", "around", "marks", "caps", "drawn"] (spF ⟨K, cA, lk, fk⟩ op__law_thing 6) :=
  have nd : (["bag", "way", "around", "marks", "caps", "drawn", "total", "value"] : List Str).Nodup := by decide
  z_fn (k := 0) (N := ["bag", "way", "around", "marks", "caps", "drawn", "total", "value"]) [0, 1, 2, 3, 4, 5] F (C8.fnScope_by (by decide +kernel)) rfl rfl (by decide) (by decide) fun cdv A outer s H vs E hr hp =>
    (s_seq (s_if (t_cmp op_lt od_lt (pe_opd (pe_var rfl (by first | exact .inl rfl | exact .inr (.inl rfl) | exact .inr (.inr rfl)))) (pe_val z_int) rfl) (s_seq (s_set nd rfl (by first | exact .inl rfl | exact .inr rfl) (z_callB (cr_sum rfl) od_sum rfl B.«sum» (by decide +kernel) (pa_z (pe_val (z_aside hp fun _ _ _ xs hp hk => (z_lc (own := [("value", 7)]) (hp := (by decide : ∀ i ∈ ([0, 0, 1, 2, 3, 4, 5] : List Nat), i ∉ ([7] : List Nat))) rfl nd (i_pk (pe_var rfl (by first | exact .inl rfl | exact .inr (.inl rfl) | exact .inr (.inr rfl))) rfl hk) (blkOk_by (N := ["bag", "way", "around", "marks", "caps", "drawn", "total", "value"]) (sc := defScope (top 45)) (by decide +kernel)) (fun _ _ _ _ _ => (g_nm (pg_name nd rfl (by first | exact .inl rfl | exact .inr rfl)) (by decide : (7 : Nat) ∉ ([0, 0, 1, 2, 3, 4, 5] : List Nat)))) (fun _ _ _ _ _ => ts_nil) (fun _ _ _ _ _ => (z_ix ix_seq od_ix (pe_opd (pe_var rfl (by first | exact .inl rfl | exact .inr (.inl rfl) | exact .inr (.inr rfl)))) (pe_opd (pe_var rfl (by first | exact .inl rfl | exact .inr (.inl rfl) | exact .inr (.inr rfl)))) (by intro _ _; rfl)))))) pa_z0)) (by decide : (6 : Nat) ∉ ([0, 1, 2, 3, 4, 5] : List Nat))) (s_one (s_ret (z_if (t_cmp op_gt od_gt (pe_opd (pe_var rfl (by first | exact .inl rfl | exact .inr (.inl rfl) | exact .inr (.inr rfl)))) (pe_val z_int) rfl) (z_op op_modN od_mod (pe_val (z_callTy call_int1 od_int rfl B.«int» (by decide +kernel) (pa_z (pe_opd (pe_var rfl (by first | exact .inl rfl | exact .inr (.inl rfl) | exact .inr (.inr rfl)))) pa_z0))) (pe_val (z_var 2 (pe_var rfl (by first | exact .inl rfl | exact .inr (.inl rfl) | exact .inr (.inr rfl)))))) (z_var 6 (pe_var rfl (by first | exact .inl rfl | exact .inr (.inl rfl) | exact .inr (.inr rfl)))))))) s_nil) (s_seq (s_if (t_cmp (op_eqD hr.units) od_eq (pe_opd (pe_var rfl (by first | exact .inl rfl | exact .inr (.inl rfl) | exact .inr (.inr rfl)))) (pe_val z_int) rfl) (s_one (s_ret (z_var 0 (pe_var rfl (by first | exact .inl rfl | exact .inr (.inl rfl) | exact .inr (.inr rfl)))))) s_nil) (s_seq (s_if (t_cmp (op_eqD hr.units) od_eq (pe_opd (pe_var rfl (by first | exact .inl rfl | exact .inr (.inl rfl) | exact .inr (.inr rfl)))) (pe_val z_int) rfl) (s_one (s_ret (z_callTy call_tuple_of od_tuple rfl B.«tuple» (by decide +kernel) (pa_z (pe_val (z_lc (own := [("value", 7)]) (hp := (by decide : ∀ i ∈ ([0, 1, 2, 3, 4, 5] : List Nat), i ∉ ([7] : List Nat))) rfl nd (i_rng1 rfl B.range (pi_range1 rfl B.range (pa_z (pe_val (z_callB call_len_seq od_len rfl B.«len» (by decide +kernel) (pa_z (pe_opd (pe_var rfl (by first | exact .inl rfl | exact .inr (.inl rfl) | exact .inr (.inr rfl)))) pa_z0))) pa_z0))) (blkOk_by (N := ["bag", "way", "around", "marks", "caps", "drawn", "total", "value"]) (sc := defScope (top 45)) (by decide +kernel)) (fun _ _ _ _ _ => (g_nm (pg_name nd rfl (by first | exact .inl rfl | exact .inr rfl)) (by decide : (7 : Nat) ∉ ([0, 1, 2, 3, 4, 5] : List Nat)))) (fun _ _ _ _ _ => ts_nil) (fun _ _ _ _ _ => (z_callB (call_min2 rfl) od_min2 rfl B.«min» (by decide +kernel) (pa_z (pe_val (z_lookX PySem.F.slot_tuple_count PySem.F.type_tuple_count (mt_countX (Room.u65 hr)) od_count (z_var 0 (pe_var rfl (by first | exact .inl rfl | exact .inr (.inl rfl) | exact .inr (.inr rfl)))) (pa_z (pe_val (z_var 7 (pe_var rfl (by first | exact .inl rfl | exact .inr (.inl rfl) | exact .inr (.inr rfl))))) pa_z0))) (pa_z (pe_val (z_ix ix_seq od_ix (pe_opd (pe_var rfl (by first | exact .inl rfl | exact .inr (.inl rfl) | exact .inr (.inr rfl)))) (pe_opd (pe_var rfl (by first | exact .inl rfl | exact .inr (.inl rfl) | exact .inr (.inr rfl)))) (by intro _ _; rfl))) pa_z0)))))) pa_z0)))) s_nil) (s_one (s_ret (z_var 5 (pe_var rfl (by first | exact .inl rfl | exact .inr (.inl rfl) | exact .inr (.inr rfl)))))))))

/-- _law_board -/
def m__law_board : S := (sSeq (sAsg (.tp [(.nm 8), (.nm 9)]) (mApp (dfOp op__law_shape []) [(.peek 0), (.peek 1)])) (sSeq (sAsg (.tp [(.nm 10), (.nm 11), (.nm 12), (.nm 13)]) (mApp oTup [(.val (mApp (dfOp op__law_take []) [(.peek 0), (.val (mC (.int 6)))])), (.val (mApp (dfOp op__law_take []) [(.peek 0), (.val (mC (.int 6)))])), (.val (mApp (dfOp op__law_take []) [(.peek 0), (.val (mC (.int 3)))])), (.val (mApp (dfOp op__law_take []) [(.peek 0), (.val (mC (.int 3)))]))])) (sSeq (sAsg (.nm 2) (mSlice (mApp (dfOp op__law_mixed []) [(.peek 0), (.val (mApp oLst [(.val (mC (.int 0))), (.val (mC (.int 1))), (.val (mC (.int 2))), (.val (mC (.int 3))), (.val (mC (.int 5)))]))]) none (some (mVar 8)))) (sSeq (sAsg (.nm 3) (mLc (iRng [.val (mVar 8)]) (.nm 18) none (mApp oAdd [(.val (mC (.int 1))), (.val (mApp (dfOp op__law_take []) [(.peek 0), (.val (mC (.int 2)))]))]) [18])) (sSeq (sAsg (.nm 4) (mLc (iRng [.val (mVar 8)]) (.nm 18) none (mIf (mApp (op2 (eqD false)) [(.peek 13), (.val (mC (.int 0)))]) (mApp (dfOp op__law_take []) [(.peek 0), (.peek 8)]) (mVar 18)) [18])) (sSeq (sAsg (.nm 5) (mApp oLst [])) (sSeq (sFor (iSeq (mApp (dfOp op__law_bags_X []) [(.peek 8), (.peek 9)])) (.nm 6) (sSeq (sAsg (.nm 14) (mApp oTupleX [(.val (mApp oSorted [(.val (mLc (iSeq (mVar 6)) (.nm 18) none (mApp oIx [(.peek 4), (.peek 18)]) [18]))]))])) (sDrop (mLst fAppend 5 [(.val (mApp (dfOp op__law_thing []) [(.peek 14), (.peek 10), (.val (mApp oIx [(.val (mApp oLst [(.val (mC (.int 0))), (.val (mC (.int 2))), (.val (mC (.int 3))), (.val (mC (.int 4))), (.val (mC (.int 5))), (.val (mC (.int 7)))])), (.peek 11)])), (.peek 2), (.peek 3), (.val (mApp (dfOp op__law_take []) [(.peek 0), (.val (mC (.int 4)))]))]))])))) (sSeq (sAsg (.nm 7) (mApp (dfOp op__law_ranked []) [(.peek 5)])) (sSeq (sIf (mApp (op2 (eqD false)) [(.peek 12), (.val (mC (.int 0)))]) (sSeq (sAsg (.nm 15) (mApp oIx [(.val (mApp oLst [(.val (mApp oIx [(.peek 7), (.val (mApp (dfOp op__law_take []) [(.peek 0), (.val (mApp oLen [(.peek 7)]))]))])), (.val (mApp oAdd [(.val (mApp oMaxL [(.peek 7)])), (.val (mC (.int 1)))]))])), (.val (mApp (dfOp op__law_take []) [(.peek 0), (.val (mC (.int 2)))]))])) (sSetI 7 (mVar 15) (mApp (dfOp op__law_take []) [(.peek 0), (.val (mApp oLen [(.peek 7)]))]))) sNext) (sSeq (sAsg (.tp [(.nm 16), (.nm 17)]) (mApp oTup [(.val (mApp oIx [(.val (mApp oLst [(.val (mC (.int 1))), (.val (mApp oNeg [(.val (mC (.int 1)))])), (.val (mC (.int 7))), (.val (mC (.int 2))), (.val (mApp oPow [(.val (mC (.int 10))), (.val (mC (.int 16)))]))])), (.val (mApp (dfOp op__law_take []) [(.peek 0), (.val (mC (.int 5)))]))])), (.val (mApp oIx [(.val (mApp oLst [(.val (mC (.int 0))), (.val (mApp oNeg [(.val (mC (.int 3)))])), (.val (mApp oPow [(.val (mC (.int 10))), (.val (mC (.int 18)))])), (.val (mC (.int 12)))])), (.val (mApp (dfOp op__law_take []) [(.peek 0), (.val (mC (.int 4)))]))]))])) (sRet (mApp oLst [(.val (mVar 8)), (.val (mVar 9)), (.val (mAside 7 fun xs => (mLc (fun env => .ok xs env) (.nm 19) none (mApp oAdd [(.val (mApp oMul [(.val (mVar 19)), (.val (mVar 16))])), (.val (mVar 17))]) [19])))]))))))))))))
abbrev op__law_board : Op := fnOp 2 20 [0, 1] m__law_board
abbrev dfl__law_board : List (List V) := [[]]
abbrev ks__law_board : List Str := []
theorem k__law_board (D : Ob K cA) (B : Bl mg) (F : FunD K "_law_board" "_law_board" (defArgs (top 46)) (defBody (top 46)) (defScope (top 46)) dvs [] f fd) (c__law_shape : ∀ lk fk, Cl P wo K mg base ⟨K, cA, lk, fk⟩ 2 "_law_shape" 2 op__law_shape dfl__law_shape ks__law_shape) (c__law_take : ∀ lk fk, Cl P wo K mg base ⟨K, cA, lk, fk⟩ 1 "_law_take" 2 op__law_take dfl__law_take ks__law_take) (c__law_mixed : ∀ lk fk, Cl P wo K mg base ⟨K, cA, lk, fk⟩ 2 "_law_mixed" 2 op__law_mixed dfl__law_mixed ks__law_mixed) (c__law_bags_X : ∀ lk fk, Cl P wo K mg base ⟨K, cA, lk, fk⟩ 1 "_law_bags" 2 op__law_bags_X dfl__law_bags_X ks__law_bags_X) (c__law_thing : ∀ lk fk, Cl P wo K mg base ⟨K, cA, lk, fk⟩ 1 "_law_thing" 6 op__law_thing dfl__law_thing ks__law_thing) (c__law_ranked : ∀ lk fk, Cl P wo K mg base ⟨K, cA, lk, fk⟩ 1 "_law_ranked" 1 op__law_ranked dfl__law_ranked ks__law_ranked) :
    FnOk P wo K mg base (L2.CX P wo) 3 f fd ["box", "many"] (spF ⟨K, cA, lk, fk⟩ op__law_board 2) :=
  have nd : (["box", "many", "marks", "caps", "names", "things", "bag", "signs", "values", "size", "way", "around", "spoilt", "joined", "named", "other", "step", "more", "value", "sign"] : List Str).Nodup := by decide
  z_fn (k := 2) (N := ["box", "many", "marks", "caps", "names", "things", "bag", "signs", "values", "size", "way", "around", "spoilt", "joined", "named", "other", "step", "more", "value", "sign"]) [0, 1] F (C8.fnScope_by (by decide +kernel)) rfl rfl (by decide) (by decide) fun cdv A outer s H vs E hr hp =>
    (s_seq (s_asg (z_callD (dd := []) (dvs := []) (c__law_shape _ _) (hr.mono (by omega)) rfl fnOp_len (List.mem_cons_self ..) .nil tkE (pa_z (pe_opd (pe_var rfl (by first | exact .inl rfl | exact .inr (.inl rfl) | exact .inr (.inr rfl)))) (pa_z (pe_opd (pe_var rfl (by first | exact .inl rfl | exact .inr (.inl rfl) | exact .inr (.inr rfl)))) pa_z0))) (g_tp rfl (gs_cons (g_nm (pg_name nd rfl (by first | exact .inl rfl | exact .inr rfl)) (by decide : (8 : Nat) ∉ ([0, 1] : List Nat))) (gs_cons (g_nm (pg_name nd rfl (by first | exact .inl rfl | exact .inr rfl)) (by decide : (9 : Nat) ∉ ([0, 1] : List Nat))) gs_nil)) rfl)) (s_seq (s_asg (z_tup (pa_z (pe_val (z_callD (dd := []) (dvs := []) (c__law_take _ _) (hr.mono (by omega)) rfl fnOp_len (List.mem_cons_self ..) .nil tkE (pa_z (pe_opd (pe_var rfl (by first | exact .inl rfl | exact .inr (.inl rfl) | exact .inr (.inr rfl)))) (pa_z (pe_val z_int) pa_z0)))) (pa_z (pe_val (z_callD (dd := []) (dvs := []) (c__law_take _ _) (hr.mono (by omega)) rfl fnOp_len (List.mem_cons_self ..) .nil tkE (pa_z (pe_opd (pe_var rfl (by first | exact .inl rfl | exact .inr (.inl rfl) | exact .inr (.inr rfl)))) (pa_z (pe_val z_int) pa_z0)))) (pa_z (pe_val (z_callD (dd := []) (dvs := []) (c__law_take _ _) (hr.mono (by omega)) rfl fnOp_len (List.mem_cons_self ..) .nil tkE (pa_z (pe_opd (pe_var rfl (by first | exact .inl rfl | exact .inr (.inl rfl) | exact .inr (.inr rfl)))) (pa_z (pe_val z_int) pa_z0)))) (pa_z (pe_val (z_callD (dd := []) (dvs := []) (c__law_take _ _) (hr.mono (by omega)) rfl fnOp_len (List.mem_cons_self ..) .nil tkE (pa_z (pe_opd (pe_var rfl (by first | exact .inl rfl | exact .inr (.inl rfl) | exact .inr (.inr rfl)))) (pa_z (pe_val z_int) pa_z0)))) pa_z0))))) (g_tp rfl (gs_cons (g_nm (pg_name nd rfl (by first | exact .inl rfl | exact .inr rfl)) (by decide : (10 : Nat) ∉ ([0, 1] : List Nat))) (gs_cons (g_nm (pg_name nd rfl (by first | exact .inl rfl | exact .inr rfl)) (by decide : (11 : Nat) ∉ ([0, 1] : List Nat))) (gs_cons (g_nm (pg_name nd rfl (by first | exact .inl rfl | exact .inr rfl)) (by decide : (12 : Nat) ∉ ([0, 1] : List Nat))) (gs_cons (g_nm (pg_name nd rfl (by first | exact .inl rfl | exact .inr rfl)) (by decide : (13 : Nat) ∉ ([0, 1] : List Nat))) gs_nil)))) rfl)) (s_seq (s_set nd rfl (by first | exact .inl rfl | exact .inr rfl) (z_slice rfl (z_callD (dd := []) (dvs := []) (c__law_mixed _ _) (hr.mono (by omega)) rfl fnOp_len (List.mem_cons_self ..) .nil tkE (pa_z (pe_opd (pe_var rfl (by first | exact .inl rfl | exact .inr (.inl rfl) | exact .inr (.inr rfl)))) (pa_z (pe_val (z_lst (pa_z (pe_val z_int) (pa_z (pe_val z_int) (pa_z (pe_val z_int) (pa_z (pe_val z_int) (pa_z (pe_val z_int) pa_z0))))))) pa_z0))) po_none (po_some (z_var 8 (pe_var rfl (by first | exact .inl rfl | exact .inr (.inl rfl) | exact .inr (.inr rfl)))))) (by decide : (2 : Nat) ∉ ([0, 1] : List Nat))) (s_seq (s_setLc (hpi := (by decide : (3 : Nat) ∉ ([0, 1] : List Nat))) (own := [("value", 18)]) (hp := (by decide : ∀ i ∈ ([0, 1] : List Nat), i ∉ ([18] : List Nat))) rfl nd rfl rfl rfl (i_rng1 rfl B.range (pi_range1 rfl B.range (pa_z (pe_val (z_var 8 (pe_var rfl (by first | exact .inl rfl | exact .inr (.inl rfl) | exact .inr (.inr rfl))))) pa_z0))) (blkOk_by (N := ["box", "many", "marks", "caps", "names", "things", "bag", "signs", "values", "size", "way", "around", "spoilt", "joined", "named", "other", "step", "more", "value", "sign"]) (sc := defScope (top 46)) (by decide +kernel)) (fun _ _ _ _ _ => (g_nm (pg_name nd rfl (by first | exact .inl rfl | exact .inr rfl)) (by decide : (18 : Nat) ∉ ([0, 1] : List Nat)))) (fun _ _ _ _ _ => ts_nil) (fun _ _ _ _ _ => (z_op op_add od_add (pe_val z_int) (pe_val (z_callD (dd := []) (dvs := []) (c__law_take _ _) (hr.mono (by omega)) rfl fnOp_len (List.mem_cons_self ..) .nil tk0 (pa_z (pe_opd (pe_var rfl (by first | exact .inl rfl | exact .inr (.inl rfl) | exact .inr (.inr rfl)))) (pa_z (pe_val z_int) pa_z0))))))) (s_seq (s_set nd rfl (by first | exact .inl rfl | exact .inr rfl) (z_lc (own := [("value", 18)]) (hp := (by decide : ∀ i ∈ ([0, 1] : List Nat), i ∉ ([18] : List Nat))) rfl nd (i_rng1 rfl B.range (pi_range1 rfl B.range (pa_z (pe_val (z_var 8 (pe_var rfl (by first | exact .inl rfl | exact .inr (.inl rfl) | exact .inr (.inr rfl))))) pa_z0))) (blkOk_by (N := ["box", "many", "marks", "caps", "names", "things", "bag", "signs", "values", "size", "way", "around", "spoilt", "joined", "named", "other", "step", "more", "value", "sign"]) (sc := defScope (top 46)) (by decide +kernel)) (fun _ _ _ _ _ => (g_nm (pg_name nd rfl (by first | exact .inl rfl | exact .inr rfl)) (by decide : (18 : Nat) ∉ ([0, 1] : List Nat)))) (fun _ _ _ _ _ => ts_nil) (fun _ _ _ _ _ => (z_if (t_cmp (op_eqD hr.units) od_eq (pe_opd (pe_var rfl (by first | exact .inl rfl | exact .inr (.inl rfl) | exact .inr (.inr rfl)))) (pe_val z_int) rfl) (z_callD (dd := []) (dvs := []) (c__law_take _ _) (hr.mono (by omega)) rfl fnOp_len (List.mem_cons_self ..) .nil tk0 (pa_z (pe_opd (pe_var rfl (by first | exact .inl rfl | exact .inr (.inl rfl) | exact .inr (.inr rfl)))) (pa_z (pe_opd (pe_var rfl (by first | exact .inl rfl | exact .inr (.inl rfl) | exact .inr (.inr rfl)))) pa_z0))) (z_var 18 (pe_var rfl (by first | exact .inl rfl | exact .inr (.inl rfl) | exact .inr (.inr rfl))))))) (by decide : (4 : Nat) ∉ ([0, 1] : List Nat))) (s_seq (s_set nd rfl (by first | exact .inl rfl | exact .inr rfl) (z_lst pa_z0) (by decide : (5 : Nat) ∉ ([0, 1] : List Nat))) (s_seq (s_for pOwn rfl (i_seq (z_callD (dd := []) (dvs := []) (c__law_bags_X _ _) (hr.mono (by omega)) rfl fnOp_len (List.mem_cons_self ..) .nil tkE (pa_z (pe_opd (pe_var rfl (by first | exact .inl rfl | exact .inr (.inl rfl) | exact .inr (.inr rfl)))) (pa_z (pe_opd (pe_var rfl (by first | exact .inl rfl | exact .inr (.inl rfl) | exact .inr (.inr rfl)))) pa_z0))) rfl) (g_nm (pg_name nd rfl (by first | exact .inl rfl | exact .inr rfl)) (by decide : (6 : Nat) ∉ ([0, 1] : List Nat))) (s_seq (s_set nd rfl (by first | exact .inl rfl | exact .inr rfl) (z_callTy call_tupleX od_tupleX rfl B.«tuple» (by decide +kernel) (pa_z (pe_val (z_callB cr_sortedI od_sorted rfl B.«sorted» (by decide +kernel) (pa_z (pe_val (z_lc (own := [("value", 18)]) (hp := (by decide : ∀ i ∈ ([0, 1] : List Nat), i ∉ ([18] : List Nat))) rfl nd (i_seq (z_var 6 (pe_var rfl (by first | exact .inl rfl | exact .inr (.inl rfl) | exact .inr (.inr rfl)))) rfl) (blkOk_by (N := ["box", "many", "marks", "caps", "names", "things", "bag", "signs", "values", "size", "way", "around", "spoilt", "joined", "named", "other", "step", "more", "value", "sign"]) (sc := defScope (top 46)) (by decide +kernel)) (fun _ _ _ _ _ => (g_nm (pg_name nd rfl (by first | exact .inl rfl | exact .inr rfl)) (by decide : (18 : Nat) ∉ ([0, 1] : List Nat)))) (fun _ _ _ _ _ => ts_nil) (fun _ _ _ _ _ => (z_ix ix_seq od_ix (pe_opd (pe_var rfl (by first | exact .inl rfl | exact .inr (.inl rfl) | exact .inr (.inr rfl)))) (pe_opd (pe_var rfl (by first | exact .inl rfl | exact .inr (.inl rfl) | exact .inr (.inr rfl)))) (by intro _ _; rfl))))) pa_z0))) pa_z0)) (by decide : (14 : Nat) ∉ ([0, 1] : List Nat))) (s_one (s_drop (z_append (pe_var rfl (by first | exact .inl rfl | exact .inr (.inl rfl) | exact .inr (.inr rfl))) (pa_z (pe_val (z_callD (dd := []) (dvs := []) (c__law_thing _ _) (hr.mono (by omega)) rfl fnOp_len (List.mem_cons_self ..) .nil tkE (pa_z (pe_opd (pe_var rfl (by first | exact .inl rfl | exact .inr (.inl rfl) | exact .inr (.inr rfl)))) (pa_z (pe_opd (pe_var rfl (by first | exact .inl rfl | exact .inr (.inl rfl) | exact .inr (.inr rfl)))) (pa_z (pe_val (z_ix ix_seq od_ix (pe_val (z_lst (pa_z (pe_val z_int) (pa_z (pe_val z_int) (pa_z (pe_val z_int) (pa_z (pe_val z_int) (pa_z (pe_val z_int) (pa_z (pe_val z_int) pa_z0)))))))) (pe_opd (pe_var rfl (by first | exact .inl rfl | exact .inr (.inl rfl) | exact .inr (.inr rfl)))) (by intro _ _; rfl))) (pa_z (pe_opd (pe_var rfl (by first | exact .inl rfl | exact .inr (.inl rfl) | exact .inr (.inr rfl)))) (pa_z (pe_opd (pe_var rfl (by first | exact .inl rfl | exact .inr (.inl rfl) | exact .inr (.inr rfl)))) (pa_z (pe_val (z_callD (dd := []) (dvs := []) (c__law_take _ _) (hr.mono (by omega)) rfl fnOp_len (List.mem_cons_self ..) .nil tkE (pa_z (pe_opd (pe_var rfl (by first | exact .inl rfl | exact .inr (.inl rfl) | exact .inr (.inr rfl)))) (pa_z (pe_val z_int) pa_z0)))) pa_z0)))))))) pa_z0) rfl))))) (s_seq (s_set nd rfl (by first | exact .inl rfl | exact .inr rfl) (z_callD (dd := []) (dvs := []) (c__law_ranked _ _) (hr.mono (by omega)) rfl fnOp_len (List.mem_cons_self ..) .nil tkE (pa_z (pe_opd (pe_var rfl (by first | exact .inl rfl | exact .inr (.inl rfl) | exact .inr (.inr rfl)))) pa_z0)) (by decide : (7 : Nat) ∉ ([0, 1] : List Nat))) (s_seq (s_if (t_cmp (op_eqD hr.units) od_eq (pe_opd (pe_var rfl (by first | exact .inl rfl | exact .inr (.inl rfl) | exact .inr (.inr rfl)))) (pe_val z_int) rfl) (s_seq (s_set nd rfl (by first | exact .inl rfl | exact .inr rfl) (z_ix ix_seq od_ix (pe_val (z_lst (pa_z (pe_val (z_ix ix_seq od_ix (pe_opd (pe_var rfl (by first | exact .inl rfl | exact .inr (.inl rfl) | exact .inr (.inr rfl)))) (pe_val (z_callD (dd := []) (dvs := []) (c__law_take _ _) (hr.mono (by omega)) rfl fnOp_len (List.mem_cons_self ..) .nil tkE (pa_z (pe_opd (pe_var rfl (by first | exact .inl rfl | exact .inr (.inl rfl) | exact .inr (.inr rfl)))) (pa_z (pe_val (z_callB call_len_seq od_len rfl B.«len» (by decide +kernel) (pa_z (pe_opd (pe_var rfl (by first | exact .inl rfl | exact .inr (.inl rfl) | exact .inr (.inr rfl)))) pa_z0))) pa_z0)))) (by intro _ _; rfl))) (pa_z (pe_val (z_op op_add od_add (pe_val (z_callB (cr_max rfl) od_maxL rfl B.max (by decide +kernel) (pa_z (pe_opd (pe_var rfl (by first | exact .inl rfl | exact .inr (.inl rfl) | exact .inr (.inr rfl)))) pa_z0))) (pe_val z_int))) pa_z0)))) (pe_val (z_callD (dd := []) (dvs := []) (c__law_take _ _) (hr.mono (by omega)) rfl fnOp_len (List.mem_cons_self ..) .nil tkE (pa_z (pe_opd (pe_var rfl (by first | exact .inl rfl | exact .inr (.inl rfl) | exact .inr (.inr rfl)))) (pa_z (pe_val z_int) pa_z0)))) (by intro _ _; rfl)) (by decide : (15 : Nat) ∉ ([0, 1] : List Nat))) (s_one (s_setI (pe_var rfl (by first | exact .inl rfl | exact .inr (.inl rfl) | exact .inr (.inr rfl))) (z_var 15 (pe_var rfl (by first | exact .inl rfl | exact .inr (.inl rfl) | exact .inr (.inr rfl)))) (z_callD (dd := []) (dvs := []) (c__law_take _ _) (hr.mono (by omega)) rfl fnOp_len (List.mem_cons_self ..) .nil tkE (pa_z (pe_opd (pe_var rfl (by first | exact .inl rfl | exact .inr (.inl rfl) | exact .inr (.inr rfl)))) (pa_z (pe_val (z_callB call_len_seq od_len rfl B.«len» (by decide +kernel) (pa_z (pe_opd (pe_var rfl (by first | exact .inl rfl | exact .inr (.inl rfl) | exact .inr (.inr rfl)))) pa_z0))) pa_z0)))))) s_nil) (s_seq (s_asg (z_tup (pa_z (pe_val (z_ix ix_seq od_ix (pe_val (z_lst (pa_z (pe_val z_int) (pa_z (pe_val (z_un un_neg od_neg (pe_val z_int))) (pa_z (pe_val z_int) (pa_z (pe_val z_int) (pa_z (pe_val (z_op op_pow od_pow (pe_val z_int) (pe_val z_int))) pa_z0))))))) (pe_val (z_callD (dd := []) (dvs := []) (c__law_take _ _) (hr.mono (by omega)) rfl fnOp_len (List.mem_cons_self ..) .nil tkE (pa_z (pe_opd (pe_var rfl (by first | exact .inl rfl | exact .inr (.inl rfl) | exact .inr (.inr rfl)))) (pa_z (pe_val z_int) pa_z0)))) (by intro _ _; rfl))) (pa_z (pe_val (z_ix ix_seq od_ix (pe_val (z_lst (pa_z (pe_val z_int) (pa_z (pe_val (z_un un_neg od_neg (pe_val z_int))) (pa_z (pe_val (z_op op_pow od_pow (pe_val z_int) (pe_val z_int))) (pa_z (pe_val z_int) pa_z0)))))) (pe_val (z_callD (dd := []) (dvs := []) (c__law_take _ _) (hr.mono (by omega)) rfl fnOp_len (List.mem_cons_self ..) .nil tkE (pa_z (pe_opd (pe_var rfl (by first | exact .inl rfl | exact .inr (.inl rfl) | exact .inr (.inr rfl)))) (pa_z (pe_val z_int) pa_z0)))) (by intro _ _; rfl))) pa_z0))) (g_tp rfl (gs_cons (g_nm (pg_name nd rfl (by first | exact .inl rfl | exact .inr rfl)) (by decide : (16 : Nat) ∉ ([0, 1] : List Nat))) (gs_cons (g_nm (pg_name nd rfl (by first | exact .inl rfl | exact .inr rfl)) (by decide : (17 : Nat) ∉ ([0, 1] : List Nat))) gs_nil)) rfl)) (s_one (s_ret (z_lst (pa_z (pe_val (z_var 8 (pe_var rfl (by first | exact .inl rfl | exact .inr (.inl rfl) | exact .inr (.inr rfl))))) (pa_z (pe_val (z_var 9 (pe_var rfl (by first | exact .inl rfl | exact .inr (.inl rfl) | exact .inr (.inr rfl))))) (pa_z (pe_val (z_aside hp fun _ _ _ xs hp hk => (z_lc (own := [("sign", 19)]) (hp := (by decide : ∀ i ∈ ([7, 0, 1] : List Nat), i ∉ ([19] : List Nat))) rfl nd (i_pk (pe_var rfl (by first | exact .inl rfl | exact .inr (.inl rfl) | exact .inr (.inr rfl))) rfl hk) (blkOk_by (N := ["box", "many", "marks", "caps", "names", "things", "bag", "signs", "values", "size", "way", "around", "spoilt", "joined", "named", "other", "step", "more", "value", "sign"]) (sc := defScope (top 46)) (by decide +kernel)) (fun _ _ _ _ _ => (g_nm (pg_name nd rfl (by first | exact .inl rfl | exact .inr rfl)) (by decide : (19 : Nat) ∉ ([7, 0, 1] : List Nat)))) (fun _ _ _ _ _ => ts_nil) (fun _ _ _ _ _ => (z_op op_add od_add (pe_val (z_op op_mul od_mul (pe_val (z_var 19 (pe_var rfl (by first | exact .inl rfl | exact .inr (.inl rfl) | exact .inr (.inr rfl))))) (pe_val (z_var 16 (pe_var rfl (by first | exact .inl rfl | exact .inr (.inl rfl) | exact .inr (.inr rfl))))))) (pe_val (z_var 17 (pe_var rfl (by first | exact .inl rfl | exact .inr (.inl rfl) | exact .inr (.inr rfl)))))))))) pa_z0))))))))))))))))

/-- _law_made -/
def m__law_made : S := (sSeq (sAsg (.nm 1) (mApp oList [(.val (mApp oIx [(.peek 0), (.val (mC (.int 2)))]))])) (sSeq (sAsg (.nm 2) (mApp (makeOp "Board" op_new_Board) [(.val (mApp oIx [(.peek 0), (.val (mC (.int 0)))])), (.val (mApp oIx [(.peek 0), (.val (mC (.int 1)))])), (.peek 1)])) (sSeq (sSetI 1 (mApp oAdd [(.val (mApp oIx [(.peek 1), (.val (mC (.int 0)))])), (.val (mC (.int 1)))]) (mC (.int 0))) (sSeq (sDrop (mLst fAppend 1 [(.val (mC (.int 0)))])) (sRetV 2)))))
abbrev op__law_made : Op := fnOp 1 3 [0] m__law_made
abbrev dfl__law_made : List (List V) := [[]]
abbrev ks__law_made : List Str := []
theorem k__law_made (D : Ob K cA) (B : Bl mg) (F : FunD K "_law_made" "_law_made" (defArgs (top 47)) (defBody (top 47)) (defScope (top 47)) dvs [] f fd) (c_new_Board : ∀ lk fk, Ck P wo K mg base ⟨K, cA, lk, fk⟩ 5 "Board" 3 op_new_Board) :
    FnOk P wo K mg base (L2.CX P wo) 7 f fd ["board"] (spF ⟨K, cA, lk, fk⟩ op__law_made 1) :=
  have nd : (["board", "signs", "made"] : List Str).Nodup := by decide
  z_fn (k := 6) (N := ["board", "signs", "made"]) [0] F (C8.fnScope_by (by decide +kernel)) rfl rfl (by decide) (by decide) fun cdv A outer s H vs E hr hp =>
    (s_seq (s_set nd rfl (by first | exact .inl rfl | exact .inr rfl) (z_callTy call_list_of od_list rfl B.«list» (by decide +kernel) (pa_z (pe_val (z_ix ix_seq od_ix (pe_opd (pe_var rfl (by first | exact .inl rfl | exact .inr (.inl rfl) | exact .inr (.inr rfl)))) (pe_val z_int) (by intro _ _; rfl))) pa_z0)) (by decide : (1 : Nat) ∉ ([0] : List Nat))) (s_seq (s_set nd rfl (by first | exact .inl rfl | exact .inr rfl) (z_make (c_new_Board _ _) (hr.mono (by omega)) rfl fnOp_len (pa_z (pe_val (z_ix ix_seq od_ix (pe_opd (pe_var rfl (by first | exact .inl rfl | exact .inr (.inl rfl) | exact .inr (.inr rfl)))) (pe_val z_int) (by intro _ _; rfl))) (pa_z (pe_val (z_ix ix_seq od_ix (pe_opd (pe_var rfl (by first | exact .inl rfl | exact .inr (.inl rfl) | exact .inr (.inr rfl)))) (pe_val z_int) (by intro _ _; rfl))) (pa_z (pe_opd (pe_var rfl (by first | exact .inl rfl | exact .inr (.inl rfl) | exact .inr (.inr rfl)))) pa_z0)))) (by decide : (2 : Nat) ∉ ([0] : List Nat))) (s_seq (s_setI (pe_var rfl (by first | exact .inl rfl | exact .inr (.inl rfl) | exact .inr (.inr rfl))) (z_op op_add od_add (pe_val (z_ix ix_seq od_ix (pe_opd (pe_var rfl (by first | exact .inl rfl | exact .inr (.inl rfl) | exact .inr (.inr rfl)))) (pe_val z_int) (by intro _ _; rfl))) (pe_val z_int)) z_int) (s_seq (s_drop (z_append (pe_var rfl (by first | exact .inl rfl | exact .inr (.inl rfl) | exact .inr (.inr rfl))) (pa_z (pe_val z_int) pa_z0) rfl)) (s_one (s_retV (pe_var rfl (by first | exact .inl rfl | exact .inr (.inl rfl) | exact .inr (.inr rfl)))))))))

/-- _law_rows -/
def m__law_rows : S := (sSeq (sAsg (.tp [(.nm 3), (.nm 4), (.nm 5)]) (mApp oTup [(.val (mApp (dfOp op__law_bags []) [(.val (mApp oIx [(.peek 0), (.val (mC (.int 0)))])), (.val (mApp oIx [(.peek 0), (.val (mC (.int 1)))]))])), (.val mNewT), (.val mNewT)])) (sSeq (sFor (iRng [.val (mApp oLen [(.peek 3)])]) (.nm 1) (sDict 4 (mApp oIx [(.val (mApp oIx [(.peek 0), (.val (mC (.int 2)))])), (.peek 1)]) (mApp oIx [(.peek 3), (.peek 1)]))) (sSeq (sFor (iSeq (mApp (dfOp op__law_bags []) [(.val (mApp oIx [(.peek 0), (.val (mC (.int 0)))])), (.val (mApp oSub [(.val (mApp oIx [(.peek 0), (.val (mC (.int 1)))])), (.val (mC (.int 1)))]))])) (.nm 2) (sDict 5 (mLc (iRng [.val (mApp oIx [(.peek 0), (.val (mC (.int 0)))])]) (.nm 6) none (mApp oDGet [(.peek 4), (.val (mApp oTuple [(.val (mApp oSorted [(.val (mApp oCat [(.val (mApp oList [(.peek 2)])), (.val (mApp oLst [(.val (mVar 6))]))]))]))]))]) [6]) (mVar 2))) (sRetV 5))))
abbrev op__law_rows : Op := fnOp 1 7 [0] m__law_rows
abbrev dfl__law_rows : List (List V) := [[]]
abbrev ks__law_rows : List Str := []
theorem k__law_rows (D : Ob K cA) (B : Bl mg) (F : FunD K "_law_rows" "_law_rows" (defArgs (top 48)) (defBody (top 48)) (defScope (top 48)) dvs [] f fd) (c__law_bags : ∀ lk fk, Cl P wo K mg base ⟨K, cA, lk, fk⟩ 1 "_law_bags" 2 op__law_bags dfl__law_bags ks__law_bags) :
    FnOk P wo K mg base (L2.CX P wo) 2 f fd ["board"] (spF ⟨K, cA, lk, fk⟩ op__law_rows 1) :=
  have nd : (["board", "k", "bag", "bags_v", "table", "found", "value"] : List Str).Nodup := by decide
  z_fn (k := 1) (N := ["board", "k", "bag", "bags_v", "table", "found", "value"]) [0] F (C8.fnScope_by (by decide +kernel)) rfl rfl (by decide) (by decide) fun cdv A outer s H vs E hr hp =>
    (s_seq (s_asg (z_tup (pa_z (pe_val (z_callD (dd := []) (dvs := []) (c__law_bags _ _) (hr.mono (by omega)) rfl fnOp_len (List.mem_cons_self ..) .nil tkE (pa_z (pe_val (z_ix ix_seq od_ix (pe_opd (pe_var rfl (by first | exact .inl rfl | exact .inr (.inl rfl) | exact .inr (.inr rfl)))) (pe_val z_int) (by intro _ _; rfl))) (pa_z (pe_val (z_ix ix_seq od_ix (pe_opd (pe_var rfl (by first | exact .inl rfl | exact .inr (.inl rfl) | exact .inr (.inr rfl)))) (pe_val z_int) (by intro _ _; rfl))) pa_z0)))) (pa_z (pe_val z_newT) (pa_z (pe_val z_newT) pa_z0)))) (g_tp rfl (gs_cons (g_nm (pg_name nd rfl (by first | exact .inl rfl | exact .inr rfl)) (by decide : (3 : Nat) ∉ ([0] : List Nat))) (gs_cons (g_nm (pg_name nd rfl (by first | exact .inl rfl | exact .inr rfl)) (by decide : (4 : Nat) ∉ ([0] : List Nat))) (gs_cons (g_nm (pg_name nd rfl (by first | exact .inl rfl | exact .inr rfl)) (by decide : (5 : Nat) ∉ ([0] : List Nat))) gs_nil))) rfl)) (s_seq (s_for pOwn rfl (i_rng1 rfl B.range (pi_range1 rfl B.range (pa_z (pe_val (z_callB call_len_seq od_len rfl B.«len» (by decide +kernel) (pa_z (pe_opd (pe_var rfl (by first | exact .inl rfl | exact .inr (.inl rfl) | exact .inr (.inr rfl)))) pa_z0))) pa_z0))) (g_nm (pg_name nd rfl (by first | exact .inl rfl | exact .inr rfl)) (by decide : (1 : Nat) ∉ ([0] : List Nat))) (s_one (s_dict (Room.u1 hr) (pe_var rfl (by first | exact .inl rfl | exact .inr (.inl rfl) | exact .inr (.inr rfl))) (z_ix ix_seq od_ix (pe_val (z_ix ix_seq od_ix (pe_opd (pe_var rfl (by first | exact .inl rfl | exact .inr (.inl rfl) | exact .inr (.inr rfl)))) (pe_val z_int) (by intro _ _; rfl))) (pe_opd (pe_var rfl (by first | exact .inl rfl | exact .inr (.inl rfl) | exact .inr (.inr rfl)))) (by intro _ _; rfl)) (z_ix ix_seq od_ix (pe_opd (pe_var rfl (by first | exact .inl rfl | exact .inr (.inl rfl) | exact .inr (.inr rfl)))) (pe_opd (pe_var rfl (by first | exact .inl rfl | exact .inr (.inl rfl) | exact .inr (.inr rfl)))) (by intro _ _; rfl))))) (s_seq (s_for pOwn rfl (i_seq (z_callD (dd := []) (dvs := []) (c__law_bags _ _) (hr.mono (by omega)) rfl fnOp_len (List.mem_cons_self ..) .nil tkE (pa_z (pe_val (z_ix ix_seq od_ix (pe_opd (pe_var rfl (by first | exact .inl rfl | exact .inr (.inl rfl) | exact .inr (.inr rfl)))) (pe_val z_int) (by intro _ _; rfl))) (pa_z (pe_val (z_op op_sub od_sub (pe_val (z_ix ix_seq od_ix (pe_opd (pe_var rfl (by first | exact .inl rfl | exact .inr (.inl rfl) | exact .inr (.inr rfl)))) (pe_val z_int) (by intro _ _; rfl))) (pe_val z_int))) pa_z0))) rfl) (g_nm (pg_name nd rfl (by first | exact .inl rfl | exact .inr rfl)) (by decide : (2 : Nat) ∉ ([0] : List Nat))) (s_one (s_dict (Room.u1 hr) (pe_var rfl (by first | exact .inl rfl | exact .inr (.inl rfl) | exact .inr (.inr rfl))) (z_lc (own := [("value", 6)]) (hp := (by decide : ∀ i ∈ ([0] : List Nat), i ∉ ([6] : List Nat))) rfl nd (i_rng1 rfl B.range (pi_range1 rfl B.range (pa_z (pe_val (z_ix ix_seq od_ix (pe_opd (pe_var rfl (by first | exact .inl rfl | exact .inr (.inl rfl) | exact .inr (.inr rfl)))) (pe_val z_int) (by intro _ _; rfl))) pa_z0))) (blkOk_by (N := ["board", "k", "bag", "bags_v", "table", "found", "value"]) (sc := defScope (top 48)) (by decide +kernel)) (fun _ _ _ _ _ => (g_nm (pg_name nd rfl (by first | exact .inl rfl | exact .inr rfl)) (by decide : (6 : Nat) ∉ ([0] : List Nat)))) (fun _ _ _ _ _ => ts_nil) (fun _ _ _ _ _ => (z_dget (Room.u1 hr) (pe_opd (pe_var rfl (by first | exact .inl rfl | exact .inr (.inl rfl) | exact .inr (.inr rfl)))) (pe_val (z_callTy call_tuple_of od_tuple rfl B.«tuple» (by decide +kernel) (pa_z (pe_val (z_callB cr_sortedI od_sorted rfl B.«sorted» (by decide +kernel) (pa_z (pe_val (z_op op_cat od_cat (pe_val (z_callTy call_list_of od_list rfl B.«list» (by decide +kernel) (pa_z (pe_opd (pe_var rfl (by first | exact .inl rfl | exact .inr (.inl rfl) | exact .inr (.inr rfl)))) pa_z0))) (pe_val (z_lst (pa_z (pe_val (z_var 6 (pe_var rfl (by first | exact .inl rfl | exact .inr (.inl rfl) | exact .inr (.inr rfl))))) pa_z0))))) pa_z0))) pa_z0))) (by intro _ _; rfl)))) (z_var 2 (pe_var rfl (by first | exact .inl rfl | exact .inr (.inl rfl) | exact .inr (.inr rfl))))))) (s_one (s_retV (pe_var rfl (by first | exact .inl rfl | exact .inr (.inl rfl) | exact .inr (.inr rfl))))))))

/-- _law_match -/
def m__law_match : S := (sSeq (sAsg (.nm 2) (mApp oLst [])) (sSeq (sFor (iRng [.val (mApp oLen [(.peek 0)])]) (.nm 3) (sFor (iRng [.val (mApp oLen [(.peek 1)])]) (.nm 4) (sIf (mApp (op2 (eqD false)) [(.val (mApp oIx [(.peek 0), (.peek 3)])), (.val (mApp oIx [(.peek 1), (.peek 4)]))]) (sDrop (mLst fAppend 2 [(.val (mApp oTup [(.val (mVar 3)), (.val (mVar 4))]))])) sNext))) (sRetV 2)))
abbrev op__law_match : Op := fnOp 2 5 [0, 1] m__law_match
abbrev dfl__law_match : List (List V) := [[]]
abbrev ks__law_match : List Str := []
theorem k__law_match (D : Ob K cA) (B : Bl mg) (F : FunD K "_law_match" "_law_match" (defArgs (top 49)) (defBody (top 49)) (defScope (top 49)) dvs [] f fd) :
    FnOk P wo K mg base (L2.CX P wo) 1 f fd ["row", "other"] (spF ⟨K, cA, lk, fk⟩ op__law_match 2) :=
  have nd : (["row", "other", "found", "here", "there"] : List Str).Nodup := by decide
  z_fn (k := 0) (N := ["row", "other", "found", "here", "there"]) [0, 1] F (C8.fnScope_by (by decide +kernel)) rfl rfl (by decide) (by decide) fun cdv A outer s H vs E hr hp =>
    (s_seq (s_set nd rfl (by first | exact .inl rfl | exact .inr rfl) (z_lst pa_z0) (by decide : (2 : Nat) ∉ ([0, 1] : List Nat))) (s_seq (s_for pOwn rfl (i_rng1 rfl B.range (pi_range1 rfl B.range (pa_z (pe_val (z_callB call_len_seq od_len rfl B.«len» (by decide +kernel) (pa_z (pe_opd (pe_var rfl (by first | exact .inl rfl | exact .inr (.inl rfl) | exact .inr (.inr rfl)))) pa_z0))) pa_z0))) (g_nm (pg_name nd rfl (by first | exact .inl rfl | exact .inr rfl)) (by decide : (3 : Nat) ∉ ([0, 1] : List Nat))) (s_one (s_for pOwn rfl (i_rng1 rfl B.range (pi_range1 rfl B.range (pa_z (pe_val (z_callB call_len_seq od_len rfl B.«len» (by decide +kernel) (pa_z (pe_opd (pe_var rfl (by first | exact .inl rfl | exact .inr (.inl rfl) | exact .inr (.inr rfl)))) pa_z0))) pa_z0))) (g_nm (pg_name nd rfl (by first | exact .inl rfl | exact .inr rfl)) (by decide : (4 : Nat) ∉ ([0, 1] : List Nat))) (s_one (s_if (t_cmp (op_eqD hr.units) od_eq (pe_val (z_ix ix_seq od_ix (pe_opd (pe_var rfl (by first | exact .inl rfl | exact .inr (.inl rfl) | exact .inr (.inr rfl)))) (pe_opd (pe_var rfl (by first | exact .inl rfl | exact .inr (.inl rfl) | exact .inr (.inr rfl)))) (by intro _ _; rfl))) (pe_val (z_ix ix_seq od_ix (pe_opd (pe_var rfl (by first | exact .inl rfl | exact .inr (.inl rfl) | exact .inr (.inr rfl)))) (pe_opd (pe_var rfl (by first | exact .inl rfl | exact .inr (.inl rfl) | exact .inr (.inr rfl)))) (by intro _ _; rfl))) rfl) (s_one (s_drop (z_append (pe_var rfl (by first | exact .inl rfl | exact .inr (.inl rfl) | exact .inr (.inr rfl))) (pa_z (pe_val (z_tup (pa_z (pe_val (z_var 3 (pe_var rfl (by first | exact .inl rfl | exact .inr (.inl rfl) | exact .inr (.inr rfl))))) (pa_z (pe_val (z_var 4 (pe_var rfl (by first | exact .inl rfl | exact .inr (.inl rfl) | exact .inr (.inr rfl))))) pa_z0)))) pa_z0) rfl))) s_nil))))) (s_one (s_retV (pe_var rfl (by first | exact .inl rfl | exact .inr (.inl rfl) | exact .inr (.inr rfl)))))))

/-- _law_match_right -/
def m__law_match_right : S := (sSeq (sAsg (.nm 4) (mApp (dfOp op__law_match []) [(.val (mApp oDGet [(.peek 1), (.peek 2)])), (.val (mApp oDGet [(.peek 1), (.peek 3)]))])) (sSeq (sAsg (.nm 5) (mApp (dfOp op_match_of []) [(.peek 0), (.peek 2), (.peek 3)])) (sSeq (sIf (mNot (mApp (dfOp (op__law_same 12) []) [(.peek 5), (.peek 4)])) (sRet (mC (.bl false))) sNext) (sSeq (sDrop (mLst fAppend 5 [(.val (mApp oTup [(.val (mC (.int 0))), (.val (mC (.int 0)))]))])) (sRet (mApp (dfOp (op__law_same 12) []) [(.val (mApp (revOp op_match_of) [(.peek 3), (.peek 2), (.peek 0)])), (.peek 4)]))))))
abbrev op__law_match_right : Op := fnOp 4 6 [0, 1, 2, 3] m__law_match_right
abbrev dfl__law_match_right : List (List V) := [[]]
abbrev ks__law_match_right : List Str := []
theorem k__law_match_right (D : Ob K cA) (B : Bl mg) (F : FunD K "_law_match_right" "_law_match_right" (defArgs (top 50)) (defBody (top 50)) (defScope (top 50)) dvs [] f fd) (c__law_match : ∀ lk fk, Cl P wo K mg base ⟨K, cA, lk, fk⟩ 1 "_law_match" 2 op__law_match dfl__law_match ks__law_match) (c_match_of : ∀ lk fk, Cl P wo K mg base ⟨K, cA, lk, fk⟩ 6 "match_of" 3 op_match_of dfl_match_of ks_match_of) (c__law_same : ∀ lk fk, Cl P wo K mg base ⟨K, cA, lk, fk⟩ 12 "_law_same" 2 (op__law_same 12) [[]] []) :
    FnOk P wo K mg base (L2.CX P wo) 13 f fd ["made", "rows", "one", "other"] (spF ⟨K, cA, lk, fk⟩ op__law_match_right 4) :=
  have nd : (["made", "rows", "one", "other", "due", "told"] : List Str).Nodup := by decide
  z_fn (k := 12) (N := ["made", "rows", "one", "other", "due", "told"]) [0, 1, 2, 3] F (C8.fnScope_by (by decide +kernel)) rfl rfl (by decide) (by decide) fun cdv A outer s H vs E hr hp =>
    (s_seq (s_set nd rfl (by first | exact .inl rfl | exact .inr rfl) (z_callD (dd := []) (dvs := []) (c__law_match _ _) (hr.mono (by omega)) rfl fnOp_len (List.mem_cons_self ..) .nil tkE (pa_z (pe_val (z_dget (Room.u1 hr) (pe_opd (pe_var rfl (by first | exact .inl rfl | exact .inr (.inl rfl) | exact .inr (.inr rfl)))) (pe_opd (pe_var rfl (by first | exact .inl rfl | exact .inr (.inl rfl) | exact .inr (.inr rfl)))) (by intro _ _; rfl))) (pa_z (pe_val (z_dget (Room.u1 hr) (pe_opd (pe_var rfl (by first | exact .inl rfl | exact .inr (.inl rfl) | exact .inr (.inr rfl)))) (pe_opd (pe_var rfl (by first | exact .inl rfl | exact .inr (.inl rfl) | exact .inr (.inr rfl)))) (by intro _ _; rfl))) pa_z0))) (by decide : (4 : Nat) ∉ ([0, 1, 2, 3] : List Nat))) (s_seq (s_set nd rfl (by first | exact .inl rfl | exact .inr rfl) (z_callD (dd := []) (dvs := []) (c_match_of _ _) (hr.mono (by omega)) rfl fnOp_len (List.mem_cons_self ..) .nil tkE (pa_z (pe_opd (pe_var rfl (by first | exact .inl rfl | exact .inr (.inl rfl) | exact .inr (.inr rfl)))) (pa_z (pe_opd (pe_var rfl (by first | exact .inl rfl | exact .inr (.inl rfl) | exact .inr (.inr rfl)))) (pa_z (pe_opd (pe_var rfl (by first | exact .inl rfl | exact .inr (.inl rfl) | exact .inr (.inr rfl)))) pa_z0)))) (by decide : (5 : Nat) ∉ ([0, 1, 2, 3] : List Nat))) (s_seq (s_if (t_not (t_val (z_callD (dd := []) (dvs := []) (c__law_same _ _) (hr.mono (by omega)) rfl (len__law_same 12) (List.mem_cons_self ..) .nil tkE (pa_z (pe_opd (pe_var rfl (by first | exact .inl rfl | exact .inr (.inl rfl) | exact .inr (.inr rfl)))) (pa_z (pe_opd (pe_var rfl (by first | exact .inl rfl | exact .inr (.inl rfl) | exact .inr (.inr rfl)))) pa_z0))))) (s_one (s_ret z_bl)) s_nil) (s_seq (s_drop (z_append (pe_var rfl (by first | exact .inl rfl | exact .inr (.inl rfl) | exact .inr (.inr rfl))) (pa_z (pe_val (z_tup (pa_z (pe_val z_int) (pa_z (pe_val z_int) pa_z0)))) pa_z0) rfl)) (s_one (s_ret (z_callD (dd := []) (dvs := []) (c__law_same _ _) (hr.mono (by omega)) rfl (len__law_same 12) (List.mem_cons_self ..) .nil tkE (pa_z (pe_val (z_callKR (c_match_of _ _) (by decide) (hr.mono (by omega)) rfl fnOp_len tkE (pk_z (pe_opd (pe_var rfl (by first | exact .inl rfl | exact .inr (.inl rfl) | exact .inr (.inr rfl)))) (pk_z (pe_opd (pe_var rfl (by first | exact .inl rfl | exact .inr (.inl rfl) | exact .inr (.inr rfl)))) (pk_z (pe_opd (pe_var rfl (by first | exact .inl rfl | exact .inr (.inl rfl) | exact .inr (.inr rfl)))) pk_z0))))) (pa_z (pe_opd (pe_var rfl (by first | exact .inl rfl | exact .inr (.inl rfl) | exact .inr (.inr rfl)))) pa_z0)))))))))

/-- _law_with_right -/
def m__law_with_right : S := (sSeq (sAsg (.nm 3) (mApp oLst [])) (sSeq (sLk 1 (sFor (iKeysP 1) (.nm 4) (sLk 1 (sFor (iKeysP 1) (.nm 6) (sIf (mApp (op2 (eqD false)) [(.val (mApp oIx [(.val (mApp oDGet [(.peek 1), (.peek 4)])), (.val (mApp oIx [(.peek 2), (.val (mC (.int 0)))]))])), (.val (mApp oIx [(.val (mApp oDGet [(.peek 1), (.peek 6)])), (.val (mApp oIx [(.peek 2), (.val (mC (.int 1)))]))]))]) (sDrop (mLst fAppend 3 [(.val (mApp oTup [(.val (mVar 4)), (.val (mVar 6))]))])) sNext))))) (sSeq (sAsg (.nm 5) (mApp (dfOp op_matches_with []) [(.peek 0), (.peek 2)])) (sSeq (sIf (mNot (mApp (dfOp (op__law_same 12) []) [(.peek 5), (.peek 3)])) (sRet (mC (.bl false))) sNext) (sSeq (sDrop (mLst fAppend 5 [(.val (mC .non))])) (sRet (mApp (dfOp (op__law_same 12) []) [(.val (mApp (revOp op_matches_with) [(.peek 2), (.peek 0)])), (.peek 3)])))))))
abbrev op__law_with_right : Op := fnOp 3 7 [0, 1, 2] m__law_with_right
abbrev dfl__law_with_right : List (List V) := [[]]
abbrev ks__law_with_right : List Str := []
theorem k__law_with_right (D : Ob K cA) (B : Bl mg) (F : FunD K "_law_with_right" "_law_with_right" (defArgs (top 51)) (defBody (top 51)) (defScope (top 51)) dvs [] f fd) (c_matches_with : ∀ lk fk, Cl P wo K mg base ⟨K, cA, lk, fk⟩ 6 "matches_with" 2 op_matches_with dfl_matches_with ks_matches_with) (c__law_same : ∀ lk fk, Cl P wo K mg base ⟨K, cA, lk, fk⟩ 12 "_law_same" 2 (op__law_same 12) [[]] []) :
    FnOk P wo K mg base (L2.CX P wo) 13 f fd ["made", "rows", "change"] (spF ⟨K, cA, lk, fk⟩ op__law_with_right 3) :=
  have nd : (["made", "rows", "change", "due", "one", "told", "other"] : List Str).Nodup := by decide
  z_fn (k := 12) (N := ["made", "rows", "change", "due", "one", "told", "other"]) [0, 1, 2] F (C8.fnScope_by (by decide +kernel)) rfl rfl (by decide) (by decide) fun cdv A outer s H vs E hr hp =>
    (s_seq (s_set nd rfl (by first | exact .inl rfl | exact .inr rfl) (z_lst pa_z0) (by decide : (3 : Nat) ∉ ([0, 1, 2] : List Nat))) (s_seq (s_lock hp fun _ _ hp hk => (s_for pOwn rfl (i_keys (pe_var rfl (by first | exact .inl rfl | exact .inr (.inl rfl) | exact .inr (.inr rfl))) hk) (g_nm (pg_name nd rfl (by first | exact .inl rfl | exact .inr rfl)) (by decide : (4 : Nat) ∉ ([1, 0, 1, 2] : List Nat))) (s_one (s_lock hp fun _ _ hp hk => (s_for pOwn rfl (i_keys (pe_var rfl (by first | exact .inl rfl | exact .inr (.inl rfl) | exact .inr (.inr rfl))) hk) (g_nm (pg_name nd rfl (by first | exact .inl rfl | exact .inr rfl)) (by decide : (6 : Nat) ∉ ([1, 1, 0, 1, 2] : List Nat))) (s_one (s_if (t_cmp (op_eqD hr.units) od_eq (pe_val (z_ix ix_seq od_ix (pe_val (z_dget (Room.u1 hr) (pe_opd (pe_var rfl (by first | exact .inl rfl | exact .inr (.inl rfl) | exact .inr (.inr rfl)))) (pe_opd (pe_var rfl (by first | exact .inl rfl | exact .inr (.inl rfl) | exact .inr (.inr rfl)))) (by intro _ _; rfl))) (pe_val (z_ix ix_seq od_ix (pe_opd (pe_var rfl (by first | exact .inl rfl | exact .inr (.inl rfl) | exact .inr (.inr rfl)))) (pe_val z_int) (by intro _ _; rfl))) (by intro _ _; rfl))) (pe_val (z_ix ix_seq od_ix (pe_val (z_dget (Room.u1 hr) (pe_opd (pe_var rfl (by first | exact .inl rfl | exact .inr (.inl rfl) | exact .inr (.inr rfl)))) (pe_opd (pe_var rfl (by first | exact .inl rfl | exact .inr (.inl rfl) | exact .inr (.inr rfl)))) (by intro _ _; rfl))) (pe_val (z_ix ix_seq od_ix (pe_opd (pe_var rfl (by first | exact .inl rfl | exact .inr (.inl rfl) | exact .inr (.inr rfl)))) (pe_val z_int) (by intro _ _; rfl))) (by intro _ _; rfl))) rfl) (s_one (s_drop (z_append (pe_var rfl (by first | exact .inl rfl | exact .inr (.inl rfl) | exact .inr (.inr rfl))) (pa_z (pe_val (z_tup (pa_z (pe_val (z_var 4 (pe_var rfl (by first | exact .inl rfl | exact .inr (.inl rfl) | exact .inr (.inr rfl))))) (pa_z (pe_val (z_var 6 (pe_var rfl (by first | exact .inl rfl | exact .inr (.inl rfl) | exact .inr (.inr rfl))))) pa_z0)))) pa_z0) rfl))) s_nil))))))) (s_seq (s_set nd rfl (by first | exact .inl rfl | exact .inr rfl) (z_callD (dd := []) (dvs := []) (c_matches_with _ _) (hr.mono (by omega)) rfl fnOp_len (List.mem_cons_self ..) .nil tkE (pa_z (pe_opd (pe_var rfl (by first | exact .inl rfl | exact .inr (.inl rfl) | exact .inr (.inr rfl)))) (pa_z (pe_opd (pe_var rfl (by first | exact .inl rfl | exact .inr (.inl rfl) | exact .inr (.inr rfl)))) pa_z0))) (by decide : (5 : Nat) ∉ ([0, 1, 2] : List Nat))) (s_seq (s_if (t_not (t_val (z_callD (dd := []) (dvs := []) (c__law_same _ _) (hr.mono (by omega)) rfl (len__law_same 12) (List.mem_cons_self ..) .nil tkE (pa_z (pe_opd (pe_var rfl (by first | exact .inl rfl | exact .inr (.inl rfl) | exact .inr (.inr rfl)))) (pa_z (pe_opd (pe_var rfl (by first | exact .inl rfl | exact .inr (.inl rfl) | exact .inr (.inr rfl)))) pa_z0))))) (s_one (s_ret z_bl)) s_nil) (s_seq (s_drop (z_append (pe_var rfl (by first | exact .inl rfl | exact .inr (.inl rfl) | exact .inr (.inr rfl))) (pa_z (pe_val z_non) pa_z0) rfl)) (s_one (s_ret (z_callD (dd := []) (dvs := []) (c__law_same _ _) (hr.mono (by omega)) rfl (len__law_same 12) (List.mem_cons_self ..) .nil tkE (pa_z (pe_val (z_callKR (c_matches_with _ _) (by decide) (hr.mono (by omega)) rfl fnOp_len tkE (pk_z (pe_opd (pe_var rfl (by first | exact .inl rfl | exact .inr (.inl rfl) | exact .inr (.inr rfl)))) (pk_z (pe_opd (pe_var rfl (by first | exact .inl rfl | exact .inr (.inl rfl) | exact .inr (.inr rfl)))) pk_z0)))) (pa_z (pe_opd (pe_var rfl (by first | exact .inl rfl | exact .inr (.inl rfl) | exact .inr (.inr rfl)))) pa_z0))))))))))

/-- _law_right -/
def m__law_right : S := (sSeq (sAsg (.nm 2) (mApp oLst [(.val (mApp (dfOp op__law_board []) [(.peek 0), (.peek 1)])), (.val (mApp (dfOp op__law_board []) [(.peek 0), (.val (mC (.int 4)))]))])) (sSeq (sAsg (.nm 3) (mLc (iSeq (mVar 2)) (.nm 9) none (mApp (dfOp op__law_made []) [(.peek 9)]) [9])) (sSeq (sAsg (.nm 4) (mLc (iSeq (mVar 2)) (.nm 9) none (mApp (dfOp op__law_rows []) [(.peek 9)]) [9])) (sSeq (sFor (iRng [.val (mC (.int 8))]) (.nm 5) (sSeq (sAsg (.nm 6) (mApp oMod [(.val (mVar 5)), (.val (mC (.int 2)))])) (sSeq (sPar [10, 11] [(.val (mApp oIx [(.peek 4), (.peek 6)])), (.val (mApp oIx [(.val (mApp oIx [(.peek 2), (.peek 6)])), (.val (mC (.int 0)))]))]) (sSeq (sIf (mAnd (mApp (oGt) [(.peek 5), (.val (mC (.int 3)))]) (mApp (oGt) [(.val (mApp oLen [(.val (mApp oIx [(.val (mApp oIx [(.peek 2), (.peek 6)])), (.val (mC (.int 2)))]))])), (.val (mC (.int 20)))])) sCnt sNext) (sSeq (sAsg (.nm 7) (mApp oListT [(.peek 10)])) (sSeq (sPar [12, 13] [(.val (mApp oIx [(.peek 7), (.val (mApp (dfOp op__law_take []) [(.peek 0), (.val (mApp oLen [(.peek 7)]))]))])), (.val (mApp oIx [(.peek 7), (.val (mApp (dfOp op__law_take []) [(.peek 0), (.val (mApp oLen [(.peek 7)]))]))]))]) (sSeq (sAsg (.nm 8) (mApp oTup [(.val (mApp (dfOp op__law_take []) [(.peek 0), (.peek 11)])), (.val (mApp (dfOp op__law_take []) [(.peek 0), (.peek 11)]))])) (sSeq (sIf (mAnd (mApp (op2 (inD false)) [(.peek 5), (.val (mApp oLst [(.val (mC (.int 1))), (.val (mC (.int 3))), (.val (mC (.int 5)))]))]) (mNot (mApp (dfOp op__law_with_right []) [(.val (mApp oIx [(.peek 3), (.peek 6)])), (.peek 10), (.peek 8)]))) (sRet (mC (.bl false))) sNext) (sSeq (sIf (mNot (mApp (dfOp op__law_match_right []) [(.val (mApp oIx [(.peek 3), (.peek 6)])), (.peek 10), (.peek 12), (.val (mIf (mApp (oGt) [(.peek 5), (.val (mC (.int 5)))]) (mVar 12) (mVar 13)))])) (sRet (mC (.bl false))) sNext) (sSeq (sIf (mNot (mApp (dfOp op__law_match_right []) [(.val (mApp oIx [(.peek 3), (.peek 6)])), (.peek 10), (.peek 13), (.peek 12)])) (sRet (mC (.bl false))) sNext) (sIf (mAnd (mApp (op2 (inD false)) [(.peek 5), (.val (mApp oLst [(.val (mC (.int 0))), (.val (mC (.int 2))), (.val (mC (.int 4)))]))]) (mNot (mApp (dfOp op__law_with_right []) [(.val (mApp oIx [(.peek 3), (.peek 6)])), (.peek 10), (.peek 8)]))) (sRet (mC (.bl false))) sNext))))))))))) (sRet (mApp (op2 (eqD false)) [(.val (mLc (iSeq (mVar 3)) (.nm 12) none (mApp oList [(.val (mApp (oFld "Board" "signs") [(.peek 12)]))]) [12])), (.val (mLc (iSeq (mVar 2)) (.nm 9) none (mApp oIx [(.peek 9), (.val (mC (.int 2)))]) [9]))]))))))
abbrev op__law_right : Op := fnOp 2 14 [0, 1] m__law_right
abbrev dfl__law_right : List (List V) := [[]]
abbrev ks__law_right : List Str := []
theorem k__law_right (D : Ob K cA) (B : Bl mg) (F : FunD K "_law_right" "_law_right" (defArgs (top 52)) (defBody (top 52)) (defScope (top 52)) dvs [] f fd) (c__law_board : ∀ lk fk, Cl P wo K mg base ⟨K, cA, lk, fk⟩ 3 "_law_board" 2 op__law_board dfl__law_board ks__law_board) (c__law_made : ∀ lk fk, Cl P wo K mg base ⟨K, cA, lk, fk⟩ 7 "_law_made" 1 op__law_made dfl__law_made ks__law_made) (c__law_rows : ∀ lk fk, Cl P wo K mg base ⟨K, cA, lk, fk⟩ 2 "_law_rows" 1 op__law_rows dfl__law_rows ks__law_rows) (c__law_take : ∀ lk fk, Cl P wo K mg base ⟨K, cA, lk, fk⟩ 1 "_law_take" 2 op__law_take dfl__law_take ks__law_take) (c__law_with_right : ∀ lk fk, Cl P wo K mg base ⟨K, cA, lk, fk⟩ 13 "_law_with_right" 3 op__law_with_right dfl__law_with_right ks__law_with_right) (c__law_match_right : ∀ lk fk, Cl P wo K mg base ⟨K, cA, lk, fk⟩ 13 "_law_match_right" 4 op__law_match_right dfl__law_match_right ks__law_match_right) :
    FnOk P wo K mg base (L2.CX P wo) 14 f fd ["box", "many"] (spF ⟨K, cA, lk, fk⟩ op__law_right 2) :=
  have nd : (["box", "many", "boards", "made", "every", "turn", "at", "short", "change", "board", "rows", "values", "one", "other"] : List Str).Nodup := by decide
  z_fn (k := 13) (N := ["box", "many", "boards", "made", "every", "turn", "at", "short", "change", "board", "rows", "values", "one", "other"]) [0, 1] F (C8.fnScope_by (by decide +kernel)) rfl rfl (by decide) (by decide) fun cdv A outer s H vs E hr hp =>
    (s_seq (s_set nd rfl (by first | exact .inl rfl | exact .inr rfl) (z_lst (pa_z (pe_val (z_callD (dd := []) (dvs := []) (c__law_board _ _) (hr.mono (by omega)) rfl fnOp_len (List.mem_cons_self ..) .nil tkE (pa_z (pe_opd (pe_var rfl (by first | exact .inl rfl | exact .inr (.inl rfl) | exact .inr (.inr rfl)))) (pa_z (pe_opd (pe_var rfl (by first | exact .inl rfl | exact .inr (.inl rfl) | exact .inr (.inr rfl)))) pa_z0)))) (pa_z (pe_val (z_callD (dd := []) (dvs := []) (c__law_board _ _) (hr.mono (by omega)) rfl fnOp_len (List.mem_cons_self ..) .nil tkE (pa_z (pe_opd (pe_var rfl (by first | exact .inl rfl | exact .inr (.inl rfl) | exact .inr (.inr rfl)))) (pa_z (pe_val z_int) pa_z0)))) pa_z0))) (by decide : (2 : Nat) ∉ ([0, 1] : List Nat))) (s_seq (s_setLc (hpi := (by decide : (3 : Nat) ∉ ([0, 1] : List Nat))) (own := [("board", 9)]) (hp := (by decide : ∀ i ∈ ([0, 1] : List Nat), i ∉ ([9] : List Nat))) rfl nd rfl rfl rfl (i_seq (z_var 2 (pe_var rfl (by first | exact .inl rfl | exact .inr (.inl rfl) | exact .inr (.inr rfl)))) rfl) (blkOk_by (N := ["box", "many", "boards", "made", "every", "turn", "at", "short", "change", "board", "rows", "values", "one", "other"]) (sc := defScope (top 52)) (by decide +kernel)) (fun _ _ _ _ _ => (g_nm (pg_name nd rfl (by first | exact .inl rfl | exact .inr rfl)) (by decide : (9 : Nat) ∉ ([0, 1] : List Nat)))) (fun _ _ _ _ _ => ts_nil) (fun _ _ _ _ _ => (z_callD (dd := []) (dvs := []) (c__law_made _ _) (hr.mono (by omega)) rfl fnOp_len (List.mem_cons_self ..) .nil tk0 (pa_z (pe_opd (pe_var rfl (by first | exact .inl rfl | exact .inr (.inl rfl) | exact .inr (.inr rfl)))) pa_z0)))) (s_seq (s_setLc (hpi := (by decide : (4 : Nat) ∉ ([0, 1] : List Nat))) (own := [("board", 9)]) (hp := (by decide : ∀ i ∈ ([0, 1] : List Nat), i ∉ ([9] : List Nat))) rfl nd rfl rfl rfl (i_seq (z_var 2 (pe_var rfl (by first | exact .inl rfl | exact .inr (.inl rfl) | exact .inr (.inr rfl)))) rfl) (blkOk_by (N := ["box", "many", "boards", "made", "every", "turn", "at", "short", "change", "board", "rows", "values", "one", "other"]) (sc := defScope (top 52)) (by decide +kernel)) (fun _ _ _ _ _ => (g_nm (pg_name nd rfl (by first | exact .inl rfl | exact .inr rfl)) (by decide : (9 : Nat) ∉ ([0, 1] : List Nat)))) (fun _ _ _ _ _ => ts_nil) (fun _ _ _ _ _ => (z_callD (dd := []) (dvs := []) (c__law_rows _ _) (hr.mono (by omega)) rfl fnOp_len (List.mem_cons_self ..) .nil tk0 (pa_z (pe_opd (pe_var rfl (by first | exact .inl rfl | exact .inr (.inl rfl) | exact .inr (.inr rfl)))) pa_z0)))) (s_seq (s_for pOwn rfl (i_rng1 rfl B.range (pi_range1 rfl B.range (pa_z (pe_val z_int) pa_z0))) (g_nm (pg_name nd rfl (by first | exact .inl rfl | exact .inr rfl)) (by decide : (5 : Nat) ∉ ([0, 1] : List Nat))) (s_seq (s_set nd rfl (by first | exact .inl rfl | exact .inr rfl) (z_op op_modN od_mod (pe_val (z_var 5 (pe_var rfl (by first | exact .inl rfl | exact .inr (.inl rfl) | exact .inr (.inr rfl))))) (pe_val z_int)) (by decide : (6 : Nat) ∉ ([0, 1] : List Nat))) (s_seq (s_par rfl nd rfl rfl (by decide) rfl rfl (pa_z (pe_val (z_ix ix_seq od_ix (pe_opd (pe_var rfl (by first | exact .inl rfl | exact .inr (.inl rfl) | exact .inr (.inr rfl)))) (pe_opd (pe_var rfl (by first | exact .inl rfl | exact .inr (.inl rfl) | exact .inr (.inr rfl)))) (by intro _ _; rfl))) (pa_z (pe_val (z_ix ix_seq od_ix (pe_val (z_ix ix_seq od_ix (pe_opd (pe_var rfl (by first | exact .inl rfl | exact .inr (.inl rfl) | exact .inr (.inr rfl)))) (pe_opd (pe_var rfl (by first | exact .inl rfl | exact .inr (.inl rfl) | exact .inr (.inr rfl)))) (by intro _ _; rfl))) (pe_val z_int) (by intro _ _; rfl))) pa_z0)) rfl (by decide : ∀ k ∈ ([10, 11] : List Nat), k ∉ ([0, 1] : List Nat))) (s_seq (s_if (PW.pt (t_and (t_cmp op_gt od_gt (pe_opd (pe_var rfl (by first | exact .inl rfl | exact .inr (.inl rfl) | exact .inr (.inr rfl)))) (pe_val z_int) rfl) (t_and1 (t_cmp op_gt od_gt (pe_val (z_callB call_len_seq od_len rfl B.«len» (by decide +kernel) (pa_z (pe_val (z_ix ix_seq od_ix (pe_val (z_ix ix_seq od_ix (pe_opd (pe_var rfl (by first | exact .inl rfl | exact .inr (.inl rfl) | exact .inr (.inr rfl)))) (pe_opd (pe_var rfl (by first | exact .inl rfl | exact .inr (.inl rfl) | exact .inr (.inr rfl)))) (by intro _ _; rfl))) (pe_val z_int) (by intro _ _; rfl))) pa_z0))) (pe_val z_int) rfl)))) (s_one s_cnt) s_nil) (s_seq (s_set nd rfl (by first | exact .inl rfl | exact .inr rfl) (z_callTy (call_listT rfl) od_listT rfl B.«list» (by decide +kernel) (pa_z (pe_opd (pe_var rfl (by first | exact .inl rfl | exact .inr (.inl rfl) | exact .inr (.inr rfl)))) pa_z0)) (by decide : (7 : Nat) ∉ ([0, 1] : List Nat))) (s_seq (s_par rfl nd rfl rfl (by decide) rfl rfl (pa_z (pe_val (z_ix ix_seq od_ix (pe_opd (pe_var rfl (by first | exact .inl rfl | exact .inr (.inl rfl) | exact .inr (.inr rfl)))) (pe_val (z_callD (dd := []) (dvs := []) (c__law_take _ _) (hr.mono (by omega)) rfl fnOp_len (List.mem_cons_self ..) .nil tkE (pa_z (pe_opd (pe_var rfl (by first | exact .inl rfl | exact .inr (.inl rfl) | exact .inr (.inr rfl)))) (pa_z (pe_val (z_callB call_len_seq od_len rfl B.«len» (by decide +kernel) (pa_z (pe_opd (pe_var rfl (by first | exact .inl rfl | exact .inr (.inl rfl) | exact .inr (.inr rfl)))) pa_z0))) pa_z0)))) (by intro _ _; rfl))) (pa_z (pe_val (z_ix ix_seq od_ix (pe_opd (pe_var rfl (by first | exact .inl rfl | exact .inr (.inl rfl) | exact .inr (.inr rfl)))) (pe_val (z_callD (dd := []) (dvs := []) (c__law_take _ _) (hr.mono (by omega)) rfl fnOp_len (List.mem_cons_self ..) .nil tkE (pa_z (pe_opd (pe_var rfl (by first | exact .inl rfl | exact .inr (.inl rfl) | exact .inr (.inr rfl)))) (pa_z (pe_val (z_callB call_len_seq od_len rfl B.«len» (by decide +kernel) (pa_z (pe_opd (pe_var rfl (by first | exact .inl rfl | exact .inr (.inl rfl) | exact .inr (.inr rfl)))) pa_z0))) pa_z0)))) (by intro _ _; rfl))) pa_z0)) rfl (by decide : ∀ k ∈ ([12, 13] : List Nat), k ∉ ([0, 1] : List Nat))) (s_seq (s_set nd rfl (by first | exact .inl rfl | exact .inr rfl) (z_tup (pa_z (pe_val (z_callD (dd := []) (dvs := []) (c__law_take _ _) (hr.mono (by omega)) rfl fnOp_len (List.mem_cons_self ..) .nil tkE (pa_z (pe_opd (pe_var rfl (by first | exact .inl rfl | exact .inr (.inl rfl) | exact .inr (.inr rfl)))) (pa_z (pe_opd (pe_var rfl (by first | exact .inl rfl | exact .inr (.inl rfl) | exact .inr (.inr rfl)))) pa_z0)))) (pa_z (pe_val (z_callD (dd := []) (dvs := []) (c__law_take _ _) (hr.mono (by omega)) rfl fnOp_len (List.mem_cons_self ..) .nil tkE (pa_z (pe_opd (pe_var rfl (by first | exact .inl rfl | exact .inr (.inl rfl) | exact .inr (.inr rfl)))) (pa_z (pe_opd (pe_var rfl (by first | exact .inl rfl | exact .inr (.inl rfl) | exact .inr (.inr rfl)))) pa_z0)))) pa_z0))) (by decide : (8 : Nat) ∉ ([0, 1] : List Nat))) (s_seq (s_if (PW.pt (t_and (t_cmp (op_inD (Room.u65 hr)) od_in (pe_opd (pe_var rfl (by first | exact .inl rfl | exact .inr (.inl rfl) | exact .inr (.inr rfl)))) (pe_val (z_lst (pa_z (pe_val z_int) (pa_z (pe_val z_int) (pa_z (pe_val z_int) pa_z0))))) rfl) (t_and1 (t_not (t_val (z_callD (dd := []) (dvs := []) (c__law_with_right _ _) (hr.mono (by omega)) rfl fnOp_len (List.mem_cons_self ..) .nil tkE (pa_z (pe_val (z_ix ix_seq od_ix (pe_opd (pe_var rfl (by first | exact .inl rfl | exact .inr (.inl rfl) | exact .inr (.inr rfl)))) (pe_opd (pe_var rfl (by first | exact .inl rfl | exact .inr (.inl rfl) | exact .inr (.inr rfl)))) (by intro _ _; rfl))) (pa_z (pe_opd (pe_var rfl (by first | exact .inl rfl | exact .inr (.inl rfl) | exact .inr (.inr rfl)))) (pa_z (pe_opd (pe_var rfl (by first | exact .inl rfl | exact .inr (.inl rfl) | exact .inr (.inr rfl)))) pa_z0))))))))) (s_one (s_ret z_bl)) s_nil) (s_seq (s_if (t_not (t_val (z_callD (dd := []) (dvs := []) (c__law_match_right _ _) (hr.mono (by omega)) rfl fnOp_len (List.mem_cons_self ..) .nil tkE (pa_z (pe_val (z_ix ix_seq od_ix (pe_opd (pe_var rfl (by first | exact .inl rfl | exact .inr (.inl rfl) | exact .inr (.inr rfl)))) (pe_opd (pe_var rfl (by first | exact .inl rfl | exact .inr (.inl rfl) | exact .inr (.inr rfl)))) (by intro _ _; rfl))) (pa_z (pe_opd (pe_var rfl (by first | exact .inl rfl | exact .inr (.inl rfl) | exact .inr (.inr rfl)))) (pa_z (pe_opd (pe_var rfl (by first | exact .inl rfl | exact .inr (.inl rfl) | exact .inr (.inr rfl)))) (pa_z (pe_val (z_if (t_cmp op_gt od_gt (pe_opd (pe_var rfl (by first | exact .inl rfl | exact .inr (.inl rfl) | exact .inr (.inr rfl)))) (pe_val z_int) rfl) (z_var 12 (pe_var rfl (by first | exact .inl rfl | exact .inr (.inl rfl) | exact .inr (.inr rfl)))) (z_var 13 (pe_var rfl (by first | exact .inl rfl | exact .inr (.inl rfl) | exact .inr (.inr rfl)))))) pa_z0))))))) (s_one (s_ret z_bl)) s_nil) (s_seq (s_if (t_not (t_val (z_callD (dd := []) (dvs := []) (c__law_match_right _ _) (hr.mono (by omega)) rfl fnOp_len (List.mem_cons_self ..) .nil tkE (pa_z (pe_val (z_ix ix_seq od_ix (pe_opd (pe_var rfl (by first | exact .inl rfl | exact .inr (.inl rfl) | exact .inr (.inr rfl)))) (pe_opd (pe_var rfl (by first | exact .inl rfl | exact .inr (.inl rfl) | exact .inr (.inr rfl)))) (by intro _ _; rfl))) (pa_z (pe_opd (pe_var rfl (by first | exact .inl rfl | exact .inr (.inl rfl) | exact .inr (.inr rfl)))) (pa_z (pe_opd (pe_var rfl (by first | exact .inl rfl | exact .inr (.inl rfl) | exact .inr (.inr rfl)))) (pa_z (pe_opd (pe_var rfl (by first | exact .inl rfl | exact .inr (.inl rfl) | exact .inr (.inr rfl)))) pa_z0))))))) (s_one (s_ret z_bl)) s_nil) (s_one (s_if (PW.pt (t_and (t_cmp (op_inD (Room.u65 hr)) od_in (pe_opd (pe_var rfl (by first | exact .inl rfl | exact .inr (.inl rfl) | exact .inr (.inr rfl)))) (pe_val (z_lst (pa_z (pe_val z_int) (pa_z (pe_val z_int) (pa_z (pe_val z_int) pa_z0))))) rfl) (t_and1 (t_not (t_val (z_callD (dd := []) (dvs := []) (c__law_with_right _ _) (hr.mono (by omega)) rfl fnOp_len (List.mem_cons_self ..) .nil tkE (pa_z (pe_val (z_ix ix_seq od_ix (pe_opd (pe_var rfl (by first | exact .inl rfl | exact .inr (.inl rfl) | exact .inr (.inr rfl)))) (pe_opd (pe_var rfl (by first | exact .inl rfl | exact .inr (.inl rfl) | exact .inr (.inr rfl)))) (by intro _ _; rfl))) (pa_z (pe_opd (pe_var rfl (by first | exact .inl rfl | exact .inr (.inl rfl) | exact .inr (.inr rfl)))) (pa_z (pe_opd (pe_var rfl (by first | exact .inl rfl | exact .inr (.inl rfl) | exact .inr (.inr rfl)))) pa_z0))))))))) (s_one (s_ret z_bl)) s_nil)))))))))))) (s_one (s_ret (z_cmp (op_eqD hr.units) od_eq (pe_val (z_lc (own := [("one", 12)]) (hp := (by decide : ∀ i ∈ ([0, 1] : List Nat), i ∉ ([12] : List Nat))) rfl nd (i_seq (z_var 3 (pe_var rfl (by first | exact .inl rfl | exact .inr (.inl rfl) | exact .inr (.inr rfl)))) rfl) (blkOk_by (N := ["box", "many", "boards", "made", "every", "turn", "at", "short", "change", "board", "rows", "values", "one", "other"]) (sc := defScope (top 52)) (by decide +kernel)) (fun _ _ _ _ _ => (g_nm (pg_name nd rfl (by first | exact .inl rfl | exact .inr rfl)) (by decide : (12 : Nat) ∉ ([0, 1] : List Nat)))) (fun _ _ _ _ _ => ts_nil) (fun _ _ _ _ _ => (z_callTy call_list_of od_list rfl B.«list» (by decide +kernel) (pa_z (pe_val (z_fld (pe_opd (pe_var rfl (by first | exact .inl rfl | exact .inr (.inl rfl) | exact .inr (.inr rfl)))) D.cls (D.no_signs) rfl)) pa_z0))))) (pe_val (z_lc (own := [("board", 9)]) (hp := (by decide : ∀ i ∈ ([0, 1] : List Nat), i ∉ ([9] : List Nat))) rfl nd (i_seq (z_var 2 (pe_var rfl (by first | exact .inl rfl | exact .inr (.inl rfl) | exact .inr (.inr rfl)))) rfl) (blkOk_by (N := ["box", "many", "boards", "made", "every", "turn", "at", "short", "change", "board", "rows", "values", "one", "other"]) (sc := defScope (top 52)) (by decide +kernel)) (fun _ _ _ _ _ => (g_nm (pg_name nd rfl (by first | exact .inl rfl | exact .inr rfl)) (by decide : (9 : Nat) ∉ ([0, 1] : List Nat)))) (fun _ _ _ _ _ => ts_nil) (fun _ _ _ _ _ => (z_ix ix_seq od_ix (pe_opd (pe_var rfl (by first | exact .inl rfl | exact .inr (.inl rfl) | exact .inr (.inr rfl)))) (pe_val z_int) (by intro _ _; rfl))))) rfl)))))))

/-- law -/
def m_law : S := (sSeq (sFor (iRng [.val (mApp oMax2 [(.val (mC (.int 2))), (.val (mApp oMin2 [(.val (mC (.int 3))), (.val (mApp oLen [(.peek 0)]))]))])]) (.nm 1) (sIf (mNot (mApp (dfOp op__law_right []) [(.val (mApp (dfOp op__law_box []) [(.val (mApp (dfOp op__law_cell []) [(.peek 0), (.peek 1)]))])), (.val (mApp oIx [(.val (mApp oLst [(.val (mC (.int 6))), (.val (mC (.int 4)))])), (.val (mApp oMin2 [(.val (mC (.int 1))), (.peek 1)]))]))])) (sRet (mC (.bl false))) sNext)) (sRet (mC (.bl true))))
abbrev op_law : Op := fnOp 1 2 [0] m_law
abbrev dfl_law : List (List V) := [[]]
abbrev ks_law : List Str := []
theorem k_law (D : Ob K cA) (B : Bl mg) (F : FunD K "law" "law" (defArgs (top 53)) (defBody (top 53)) (defScope (top 53)) dvs [] f fd) (c__law_right : ∀ lk fk, Cl P wo K mg base ⟨K, cA, lk, fk⟩ 14 "_law_right" 2 op__law_right dfl__law_right ks__law_right) (c__law_box : ∀ lk fk, Cl P wo K mg base ⟨K, cA, lk, fk⟩ 1 "_law_box" 1 op__law_box dfl__law_box ks__law_box) (c__law_cell : ∀ lk fk, Cl P wo K mg base ⟨K, cA, lk, fk⟩ 1 "_law_cell" 2 op__law_cell dfl__law_cell ks__law_cell) :
    FnOk P wo K mg base (L2.CX P wo) 15 f fd ["script"] (spF ⟨K, cA, lk, fk⟩ op_law 1) :=
  have nd : (["script", "k"] : List Str).Nodup := by decide
  z_fn (k := 14) (N := ["script", "k"]) [0] F (C8.fnScope_by (by decide +kernel)) rfl rfl (by decide) (by decide) fun cdv A outer s H vs E hr hp =>
    (s_seq (s_for pOwn rfl (i_rng1 rfl B.range (pi_range1 rfl B.range (pa_z (pe_val (z_callB (call_max2 rfl) od_max2 rfl B.«max» (by decide +kernel) (pa_z (pe_val z_int) (pa_z (pe_val (z_callB (call_min2 rfl) od_min2 rfl B.«min» (by decide +kernel) (pa_z (pe_val z_int) (pa_z (pe_val (z_callB call_len_seq od_len rfl B.«len» (by decide +kernel) (pa_z (pe_opd (pe_var rfl (by first | exact .inl rfl | exact .inr (.inl rfl) | exact .inr (.inr rfl)))) pa_z0))) pa_z0)))) pa_z0)))) pa_z0))) (g_nm (pg_name nd rfl (by first | exact .inl rfl | exact .inr rfl)) (by decide : (1 : Nat) ∉ ([0] : List Nat))) (s_one (s_if (t_not (t_val (z_callD (dd := []) (dvs := []) (c__law_right _ _) (hr.mono (by omega)) rfl fnOp_len (List.mem_cons_self ..) .nil tkE (pa_z (pe_val (z_callD (dd := []) (dvs := []) (c__law_box _ _) (hr.mono (by omega)) rfl fnOp_len (List.mem_cons_self ..) .nil tkE (pa_z (pe_val (z_callD (dd := []) (dvs := []) (c__law_cell _ _) (hr.mono (by omega)) rfl fnOp_len (List.mem_cons_self ..) .nil tkE (pa_z (pe_opd (pe_var rfl (by first | exact .inl rfl | exact .inr (.inl rfl) | exact .inr (.inr rfl)))) (pa_z (pe_opd (pe_var rfl (by first | exact .inl rfl | exact .inr (.inl rfl) | exact .inr (.inr rfl)))) pa_z0)))) pa_z0))) (pa_z (pe_val (z_ix ix_seq od_ix (pe_val (z_lst (pa_z (pe_val z_int) (pa_z (pe_val z_int) pa_z0)))) (pe_val (z_callB (call_min2 rfl) od_min2 rfl B.«min» (by decide +kernel) (pa_z (pe_val z_int) (pa_z (pe_opd (pe_var rfl (by first | exact .inl rfl | exact .inr (.inl rfl) | exact .inr (.inr rfl)))) pa_z0)))) (by intro _ _; rfl))) pa_z0))))) (s_one (s_ret z_bl)) s_nil))) (s_one (s_ret z_bl)))

end
end Z

set_option Elab.async false
set_option linter.all false
set_option maxRecDepth 100000
set_option maxHeartbeats 4000000
namespace Z
open PySem PySem.Spec PyProof.Rows
open L2 StX

/-! ### going through a mirror -/
theorem fnOp_rt {n m : Nat} {pin : List Nat} {b : S} {ds : List D} {r : D} {e : Env} (hn : ds.length = n) (h : b (ds ++ List.replicate (m - n) .any) = .rt r e) (he : n ≤ e.length) : fnOp n m pin b ds = .ok r (back pin n e) := by
  simp only [fnOp, hn, if_true, h, he]
theorem fnOp_nx {n m : Nat} {pin : List Nat} {b : S} {ds : List D} {e : Env} (hn : ds.length = n) (h : b (ds ++ List.replicate (m - n) .any) = .nx e) (he : n ≤ e.length) : fnOp n m pin b ds = .ok .non (back pin n e) := by
  simp only [fnOp, hn, if_true, h, he]
theorem dfOp_ok {op : Op} {ds : List D} {r : D} {es : List D} (h : op ds = .ok r es) (hl : es.length = ds.length) : dfOp op [] ds = .ok r es := by
  simp only [dfOp, List.append_nil, h]
  rw [← hl, List.take_length]

theorem eqD_int (neg : Bool) (i j : Int) : eqD neg (.int i) (.int j) = some (.bl (decide (i = j) != neg)) := by
  simp only [eqD, D.py]
  rw [if_pos ⟨rfl, rfl⟩]
  simp only [PyData.eqv]
  congr 2

@[simp] theorem frz_int (i : Int) : D.frz (.int i) = .int i := by rw [D.frz]; nofun
@[simp] theorem frz_bl (i : Bool) : D.frz (.bl i) = .bl i := by rw [D.frz]; nofun
@[simp] theorem frz_non : D.frz .non = .non := by rw [D.frz]; nofun
@[simp] theorem frz_any : D.frz .any = .any := by rw [D.frz]; nofun
theorem frz_node (t : Tag) (xs : List D) : D.frz (.node t xs) = .node t.frz (frzL xs) := by rw [D.frz]
theorem frzL_nil : frzL [] = [] := by rw [frzL]
theorem frzL_cons (d : D) (ds : List D) : frzL (d :: ds) = d.frz :: frzL ds := by rw [frzL]

/-- whole numbers as data -/
def dI (l : List Int) : List D := l.map .int
@[simp] theorem dI_nil : dI [] = [] := rfl
@[simp] theorem dI_cons (x : Int) (l : List Int) : dI (x :: l) = .int x :: dI l := rfl
@[simp] theorem dI_append (a b : List Int) : dI (a ++ b) = dI a ++ dI b := List.map_append ..
@[simp] theorem dI_length (a : List Int) : (dI a).length = a.length := List.length_map ..
@[simp] theorem frzL_dI (l : List Int) : frzL (dI l) = dI l := by
  rw [frzL_eq]
  induction l with
  | nil => rfl
  | cons x l ih => simp [ih]
theorem isFrz_int (i : Int) : D.isFrz (.int i) = true := by rw [D.isFrz]; nofun
theorem isFrzL_dI (l : List Int) : isFrzL (dI l) = true := by
  induction l with
  | nil => rw [dI_nil, isFrzL]
  | cons x l ih => rw [dI_cons, isFrzL, isFrz_int, ih]; rfl
theorem intsOf_dI (l : List Int) : intsOf (dI l) = some l := by
  induction l with
  | nil => rfl
  | cons x l ih => simp [intsOf, ih]
theorem dI_get (l : List Int) (i : Nat) : (dI l)[i]? = (l[i]?).map .int := by simp [dI]


/-- the box of draws: at most k draws so far -/
def Bx (k : Nat) (d : D) : Prop := ∃ (a : Int) (g : Bool) (c j : Int), d = .node (.lst true) [.int a, .bl g, .int c, .int j] ∧ 0 ≤ a ∧ 0 ≤ c ∧ c < 2147483648 ∧ 0 ≤ j ∧ j ≤ k

theorem CPow_of {i j : Int} (h : 0 ≤ j) (h2 : j ≤ 1000000) (h3 : 0 ≤ i) (h4 : i < 18446744073709551616) : CPow i j := by
  unfold CPow
  refine ⟨h, h2, ?_⟩
  omega
theorem CMul_r {i j : Int} (h : -18446744073709551616 < j) (h2 : j < 18446744073709551616) : CMul i j := by
  unfold CMul
  right
  omega
theorem CMul_l {i j : Int} (h : -18446744073709551616 < i) (h2 : i < 18446744073709551616) : CMul i j := by
  unfold CMul
  left
  omega
theorem CDivN_of {j : Int} {i : Int} (h : 0 < j) (h2 : j < 1000000) : CDivN i j := by
  unfold CDivN
  omega
theorem ix_ok {t : Tag} {xs ys : List D} {i : Int} {j : Nat} {c : D} (hs : D.seq (.node t xs) = some ys) (hi : ixN ys.length i = some j) (hx : ys[j]? = some c) (hf : c.isFrz = true) : oIx [.node t xs, .int i] = .ok c [.node t xs, .int i] := by
  simp only [oIx, hs, hi, hx, hf, if_true]
theorem isFrz_bl (i : Bool) : D.isFrz (.bl i) = true := by rw [D.isFrz]; nofun
theorem fmod_lt {a m : Int} (h : 0 < m) : a.fmod m < m := by
  rw [Int.fmod_eq_emod_of_nonneg _ (by omega)]
  exact Int.emod_lt_of_pos _ h
theorem fmod_nn {a m : Int} (h : 0 < m) : 0 ≤ a.fmod m := by
  rw [Int.fmod_eq_emod_of_nonneg _ (by omega)]
  exact Int.emod_nonneg _ (by omega)
theorem fdiv_nn {a m : Int} (h : 0 < m) (ha : 0 ≤ a) : 0 ≤ a.fdiv m := by
  rw [Int.fdiv_eq_ediv_of_nonneg _ (by omega)]
  exact Int.ediv_nonneg ha (by omega)

/-- the box of draws -/
abbrev bx (a : Int) (g : Bool) (c j : Int) : D := .node (.lst true) [.int a, .bl g, .int c, .int j]
theorem bx0 (a : Int) (g : Bool) (c j : Int) : oIx [bx a g c j, .int 0] = .ok (.int a) [bx a g c j, .int 0] := ix_ok rfl rfl rfl (isFrz_int _)
theorem bx1 (a : Int) (g : Bool) (c j : Int) : oIx [bx a g c j, .int 1] = .ok (.bl g) [bx a g c j, .int 1] := ix_ok rfl rfl rfl (isFrz_bl _)
theorem bx2 (a : Int) (g : Bool) (c j : Int) : oIx [bx a g c j, .int 2] = .ok (.int c) [bx a g c j, .int 2] := ix_ok rfl rfl rfl (isFrz_int _)
theorem bx3 (a : Int) (g : Bool) (c j : Int) : oIx [bx a g c j, .int 3] = .ok (.int j) [bx a g c j, .int 3] := ix_ok rfl rfl rfl (isFrz_int _)
theorem ix40 : ixN 4 0 = some 0 := rfl
theorem ix43 : ixN 4 3 = some 3 := rfl

theorem take_ok {k : Nat} {d : D} {m : Int} (h : Bx k d) (hk : k < 1000000) (hm : 0 < m) (hm2 : m < 1000000) :
    ∃ (r : Int) (d' : D), op__law_take [d, .int m] = .ok (.int r) [d', .int m] ∧ 0 ≤ r ∧ r < m ∧ Bx (k + 1) d' := by
  obtain ⟨a, g, c, j, rfl, ha, hc, hc2, hj, hj2⟩ := h
  have s : op__law_take [bx a g c j, .int m] = op__law_take [bx a g c j, .int m] := rfl
  have D1 : ∀ x : Int, CDivN x m := fun x => CDivN_of hm hm2
  by_cases hb : g = true ∧ 0 < a
  · obtain ⟨rfl, hb2⟩ := hb
    refine ⟨a.fmod m, bx (a.fdiv m) true c j, ?_, fmod_nn hm, fmod_lt hm, ?_⟩
    · show op__law_take [bx a true c j, .int m] = _
      simp only [fnOp]
      simp only [sSeq, sAsg, sIf, sRet, sRetV, sDrop, sPar, sNext, sBad, sCnt, sFor, mVar, mC, mApp, evA, putA, op1, op2, onInt, onI1, mAnd, mOr, mNot, mIf, mChain, frz_int, frz_bl, frz_non, frz_any, frz_node, frzL_nil, frzL_cons, frzL_dI, Tag.frz, D.isAny, asg, asgL, Option.bind, List.map_cons, List.map_nil, List.getElem?_cons_zero, List.getElem?_cons_succ, List.set_cons_zero, List.set_cons_succ, Bool.false_eq_true, if_false, if_true, reduceIte, List.length_cons, List.length_nil, Nat.zero_add, List.cons_append, List.nil_append, List.replicate, eqD_int, D.seq, intOf, Bool.not_true, Bool.not_false, oTup, oLst, Option.map_some, Option.map_none, decide_eq_true_eq, Nat.lt_add_left_iff_pos, Nat.zero_lt_succ, Nat.reduceLeDiff, Nat.reduceAdd, Nat.reduceSub, Nat.reduceLT, Bool.bne_false, Bool.bne_true, m__law_take, bx0, bx1, decide_eq_true hb2, sSetI, ix40, if_pos (D1 _), if_pos (show m ≠ 0 by omega)]
      rfl
    · exact ⟨_, _, _, _, rfl, fdiv_nn hm ha, hc, hc2, hj, by omega⟩
  · have hm0 : m ≠ 0 := by omega
    have key : ∀ (g' : Bool) (hq : (match g' with | true => decide (0 < a) | false => false) = false), ∃ (r : Int), op__law_take [bx a g' c j, .int m] = .ok (.int r) [bx a g' c (j + 1), .int m] ∧ 0 ≤ r ∧ r < m := by
      intro g' hq
      have p1 : CPow (c + 15485863 * (j + 1) + 179424719) 5 := CPow_of (by omega) (by omega) (by omega) (by omega)
      have m1 : CMul 15485863 (j + 1) := CMul_l (by omega) (by omega)
      have q := fmod_lt (a := (c + 15485863 * (j + 1) + 179424719) ^ (5 : Int).toNat) (m := 2147483647) (by omega)
      have q0 := fmod_nn (a := (c + 15485863 * (j + 1) + 179424719) ^ (5 : Int).toNat) (m := 2147483647) (by omega)
      generalize hz : ((c + 15485863 * (j + 1) + 179424719) ^ (5 : Int).toNat).fmod 2147483647 = z at q q0
      have m2 : CMul z 48271 := CMul_r (by omega) (by omega)
      have m3 : CMul 104723 (j + 1) := CMul_l (by omega) (by omega)
      have p2 : CPow (z * 48271 + 104723 * (j + 1)) 3 := CPow_of (by omega) (by omega) (by omega) (by omega)
      have d1 : ∀ x, CDivN x 64 := fun x => CDivN_of (by omega) (by omega)
      refine ⟨(((((z * 48271 + 104723 * (j + 1)) ^ (3 : Int).toNat).fmod 2147483587).fdiv 64).fmod m), ?_, fmod_nn hm, fmod_lt hm⟩
      simp only [fnOp]
      cases g' with
      | true =>
        have hq' : ¬ (0 < a) := by simpa using hq
        simp only [sSeq, sAsg, sIf, sRet, sRetV, sDrop, sPar, sNext, sBad, sCnt, sFor, mVar, mC, mApp, evA, putA, op1, op2, onInt, onI1, mAnd, mOr, mNot, mIf, mChain, frz_int, frz_bl, frz_non, frz_any, frz_node, frzL_nil, frzL_cons, frzL_dI, Tag.frz, D.isAny, asg, asgL, Option.bind, List.map_cons, List.map_nil, List.getElem?_cons_zero, List.getElem?_cons_succ, List.set_cons_zero, List.set_cons_succ, Bool.false_eq_true, if_false, if_true, reduceIte, List.length_cons, List.length_nil, Nat.zero_add, List.cons_append, List.nil_append, List.replicate, eqD_int, D.seq, intOf, Bool.not_true, Bool.not_false, oTup, oLst, Option.map_some, Option.map_none, decide_eq_true_eq, Nat.lt_add_left_iff_pos, Nat.zero_lt_succ, Nat.reduceLeDiff, Nat.reduceAdd, Nat.reduceSub, Nat.reduceLT, Bool.bne_false, Bool.bne_true, m__law_take, bx0, bx1, bx2, bx3, decide_eq_false hq', sSetI, ix43, if_pos p1, if_pos m1, hz, if_pos m2, if_pos m3, if_pos p2, if_pos (d1 _), if_pos hm0, if_pos (show (2147483647 : Int) ≠ 0 by omega), if_pos (show (2147483587 : Int) ≠ 0 by omega)]
        rfl
      | false =>
        simp only [sSeq, sAsg, sIf, sRet, sRetV, sDrop, sPar, sNext, sBad, sCnt, sFor, mVar, mC, mApp, evA, putA, op1, op2, onInt, onI1, mAnd, mOr, mNot, mIf, mChain, frz_int, frz_bl, frz_non, frz_any, frz_node, frzL_nil, frzL_cons, frzL_dI, Tag.frz, D.isAny, asg, asgL, Option.bind, List.map_cons, List.map_nil, List.getElem?_cons_zero, List.getElem?_cons_succ, List.set_cons_zero, List.set_cons_succ, Bool.false_eq_true, if_false, if_true, reduceIte, List.length_cons, List.length_nil, Nat.zero_add, List.cons_append, List.nil_append, List.replicate, eqD_int, D.seq, intOf, Bool.not_true, Bool.not_false, oTup, oLst, Option.map_some, Option.map_none, decide_eq_true_eq, Nat.lt_add_left_iff_pos, Nat.zero_lt_succ, Nat.reduceLeDiff, Nat.reduceAdd, Nat.reduceSub, Nat.reduceLT, Bool.bne_false, Bool.bne_true, m__law_take, bx0, bx1, bx2, bx3, sSetI, ix43, if_pos p1, if_pos m1, hz, if_pos m2, if_pos m3, if_pos p2, if_pos (d1 _), if_pos hm0, if_pos (show (2147483647 : Int) ≠ 0 by omega), if_pos (show (2147483587 : Int) ≠ 0 by omega)]
        rfl
    obtain ⟨r, e, h1, h2⟩ := key g (by
      cases g with
      | true => simpa using hb
      | false => rfl)
    exact ⟨r, _, e, h1, h2, _, _, _, _, rfl, ha, hc, hc2, by omega, by omega⟩
end Z

set_option Elab.async false
set_option linter.all false
set_option maxRecDepth 100000
set_option maxHeartbeats 4000000
namespace Z
open PySem PySem.Spec PyProof.Rows
open L2 StX

/-- all bags of so many values and a size, in order -/
def BL (v : Nat) : Nat → List (List Int)
  | 0 => [[]]
  | s + 1 => (BL v s).flatMap fun b => (List.range (v - (b.getLast?.getD 0).toNat)).map fun k : Nat => b ++ [b.getLast?.getD 0 + (k : Int)]
abbrev bagD (b : List Int) : D := .node .tup (dI b)
theorem dom {P : Nat → Nat → Prop} (h : ∀ v ∈ [1, 2, 3, 4], ∀ s ∈ [0, 1, 2, 3, 4, 5, 6], P v s) {v s : Nat} (h1 : 1 ≤ v) (h2 : v ≤ 4) (h3 : s ≤ 6) : P v s := by
  refine h v ?_ s ?_
  · simp; omega
  · simp; omega
theorem dom28 {P : Nat → Nat → Prop} (a0 : P 1 0) (a1 : P 1 1) (a2 : P 1 2) (a3 : P 1 3) (a4 : P 1 4) (a5 : P 1 5) (a6 : P 1 6)
    (b0 : P 2 0) (b1 : P 2 1) (b2 : P 2 2) (b3 : P 2 3) (b4 : P 2 4) (b5 : P 2 5) (b6 : P 2 6)
    (c0 : P 3 0) (c1 : P 3 1) (c2 : P 3 2) (c3 : P 3 3) (c4 : P 3 4) (c5 : P 3 5) (c6 : P 3 6)
    (d0 : P 4 0) (d1 : P 4 1) (d2 : P 4 2) (d3 : P 4 3) (d4 : P 4 4) (d5 : P 4 5) (d6 : P 4 6) {v s : Nat} (h1 : 1 ≤ v) (h2 : v ≤ 4) (h3 : s ≤ 6) : P v s := by
  match v, s, h1, h2, h3 with
  | 1, 0, _, _, _ => exact a0
  | 1, 1, _, _, _ => exact a1
  | 1, 2, _, _, _ => exact a2
  | 1, 3, _, _, _ => exact a3
  | 1, 4, _, _, _ => exact a4
  | 1, 5, _, _, _ => exact a5
  | 1, 6, _, _, _ => exact a6
  | 2, 0, _, _, _ => exact b0
  | 2, 1, _, _, _ => exact b1
  | 2, 2, _, _, _ => exact b2
  | 2, 3, _, _, _ => exact b3
  | 2, 4, _, _, _ => exact b4
  | 2, 5, _, _, _ => exact b5
  | 2, 6, _, _, _ => exact b6
  | 3, 0, _, _, _ => exact c0
  | 3, 1, _, _, _ => exact c1
  | 3, 2, _, _, _ => exact c2
  | 3, 3, _, _, _ => exact c3
  | 3, 4, _, _, _ => exact c4
  | 3, 5, _, _, _ => exact c5
  | 3, 6, _, _, _ => exact c6
  | 4, 0, _, _, _ => exact d0
  | 4, 1, _, _, _ => exact d1
  | 4, 2, _, _, _ => exact d2
  | 4, 3, _, _, _ => exact d3
  | 4, 4, _, _, _ => exact d4
  | 4, 5, _, _, _ => exact d5
  | 4, 6, _, _, _ => exact d6

theorem bags_ok {v s : Nat} (h1 : 1 ≤ v) (h2 : v ≤ 4) (h3 : s ≤ 6) : op_bags [.int v, .int s] = .ok (.node (.lst true) ((BL v s).map bagD)) [.int v, .int s] := by
  refine dom28 (P := fun v s => op_bags [.int (v : Nat), .int (s : Nat)] = .ok (.node (.lst true) ((BL v s).map bagD)) [.int (v : Nat), .int (s : Nat)]) ?_ ?_ ?_ ?_ ?_ ?_ ?_ ?_ ?_ ?_ ?_ ?_ ?_ ?_ ?_ ?_ ?_ ?_ ?_ ?_ ?_ ?_ ?_ ?_ ?_ ?_ ?_ ?_ h1 h2 h3 <;> kernel_rfl
theorem lbags_ok {v s : Nat} (h1 : 1 ≤ v) (h2 : v ≤ 4) (h3 : s ≤ 6) : op__law_bags [.int v, .int s] = .ok (.node (.lst (decide (s = 0))) ((BL v s).map bagD)) [.int v, .int s] := by
  refine dom28 (P := fun v s => op__law_bags [.int (v : Nat), .int (s : Nat)] = .ok (.node (.lst (decide (s = 0))) ((BL v s).map bagD)) [.int (v : Nat), .int (s : Nat)]) ?_ ?_ ?_ ?_ ?_ ?_ ?_ ?_ ?_ ?_ ?_ ?_ ?_ ?_ ?_ ?_ ?_ ?_ ?_ ?_ ?_ ?_ ?_ ?_ ?_ ?_ ?_ ?_ h1 h2 h3 <;> kernel_rfl
abbrev tuxD (b : List Int) : D := .node .tux (dI b)
theorem xbags_ok {v s : Nat} (h1 : 1 ≤ v) (h2 : v ≤ 4) (h3 : s ≤ 6) : op__law_bags_X [.int v, .int s] = .ok (.node (.lst (decide (s = 0))) ((BL v s).map tuxD)) [.int v, .int s] := by
  refine dom28 (P := fun v s => op__law_bags_X [.int (v : Nat), .int (s : Nat)] = .ok (.node (.lst (decide (s = 0))) ((BL v s).map tuxD)) [.int (v : Nat), .int (s : Nat)]) ?_ ?_ ?_ ?_ ?_ ?_ ?_ ?_ ?_ ?_ ?_ ?_ ?_ ?_ ?_ ?_ ?_ ?_ ?_ ?_ ?_ ?_ ?_ ?_ ?_ ?_ ?_ ?_ h1 h2 h3 <;> kernel_rfl
theorem cbags_ok {v s : Nat} (h1 : 1 ≤ v) (h2 : v ≤ 4) (h3 : s ≤ 6) : op_count_bags [.int v, .int s] = .ok (.int ((BL v s).length : Nat)) [.int v, .int s] := by
  refine dom28 (P := fun v s => op_count_bags [.int (v : Nat), .int (s : Nat)] = .ok (.int ((BL v s).length : Nat)) [.int (v : Nat), .int (s : Nat)]) ?_ ?_ ?_ ?_ ?_ ?_ ?_ ?_ ?_ ?_ ?_ ?_ ?_ ?_ ?_ ?_ ?_ ?_ ?_ ?_ ?_ ?_ ?_ ?_ ?_ ?_ ?_ ?_ h1 h2 h3 <;> kernel_rfl
theorem cval_ok {v : Nat} (h1 : 1 ≤ v) (h2 : v ≤ 4) : op_check_values [.int v] = .ok .non [.int v] := by
  match v, h1, h2 with
  | 1, _, _ => kernel_rfl
  | 2, _, _ => kernel_rfl
  | 3, _, _ => kernel_rfl
  | 4, _, _ => kernel_rfl
theorem csize_ok {s : Nat} (h1 : 1 ≤ s) (h2 : s ≤ 6) : op_check_size [.int s, .int 1, .int 6] = .ok .non [.int s, .int 1, .int 6] := by
  match s, h1, h2 with
  | 1, _, _ => kernel_rfl
  | 2, _, _ => kernel_rfl
  | 3, _, _ => kernel_rfl
  | 4, _, _ => kernel_rfl
  | 5, _, _ => kernel_rfl
  | 6, _, _ => kernel_rfl
theorem fullb_all {v s : Nat} (h1 : 1 ≤ v) (h2 : v ≤ 4) (h3 : s ≤ 6) : ∀ b ∈ BL v s, op_is_bag [bagD b, .int v, .int s, .int s] = .ok (.bl true) [bagD b, .int v, .int s, .int s] := by
  refine List.map_inj_left.mp ?_
  refine dom28 (P := fun v s => (BL v s).map (fun b => op_is_bag [bagD b, .int (v : Nat), .int (s : Nat), .int (s : Nat)]) = (BL v s).map (fun b => ORes.ok (.bl true) [bagD b, .int (v : Nat), .int (s : Nat), .int (s : Nat)])) ?_ ?_ ?_ ?_ ?_ ?_ ?_ ?_ ?_ ?_ ?_ ?_ ?_ ?_ ?_ ?_ ?_ ?_ ?_ ?_ ?_ ?_ ?_ ?_ ?_ ?_ ?_ ?_ h1 h2 h3 <;> kernel_rfl

theorem BL_nodup {v s : Nat} (h1 : 1 ≤ v) (h2 : v ≤ 4) (h3 : s ≤ 6) : (BL v s).Nodup := dom (P := fun v s => (BL v s).Nodup) (by decide +kernel) h1 h2 h3
theorem BL_len {v s : Nat} (h1 : 1 ≤ v) (h2 : v ≤ 4) (h3 : s ≤ 6) : 0 < (BL v s).length ∧ (BL v s).length ≤ 84 := dom (P := fun v s => 0 < (BL v s).length ∧ (BL v s).length ≤ 84) (by decide +kernel) h1 h2 h3
theorem BL_in {v s : Nat} (h1 : 1 ≤ v) (h2 : v ≤ 4) (h3 : s ≤ 6) : ∀ b ∈ BL v s, b.length = s ∧ ∀ x ∈ b, 0 ≤ x ∧ x < v := dom (P := fun v s => ∀ b ∈ BL v s, b.length = s ∧ ∀ x ∈ b, 0 ≤ x ∧ x < v) (by decide +kernel) h1 h2 h3
theorem BL_more {v s : Nat} (h1 : 1 ≤ v) (h2 : v ≤ 4) (h3 : s ≤ 5) : ∀ b ∈ BL v s, ∀ x ∈ List.range v, srtI (b ++ [(x : Int)]) ∈ BL v (s + 1) := dom (P := fun v s => s ≤ 5 → ∀ b ∈ BL v s, ∀ x ∈ List.range v, srtI (b ++ [(x : Int)]) ∈ BL v (s + 1)) (by decide +kernel) h1 h2 (by omega) h3
end Z

set_option Elab.async false
set_option linter.all false
set_option maxRecDepth 100000
set_option maxHeartbeats 4000000
namespace Z
open PySem PySem.Spec PyProof.Rows
open L2 StX

/-! ### loops of the mirrors, with an invariant -/
theorem loopS_inv {α : Type} {t : Tgt} {b : S} {tof : α → D} {P : List α → Env → Prop} : ∀ (xs ys : List α) (env : Env),
    (∀ ys x zs e, ys ++ x :: zs = (ys ++ x :: zs) → P ys e → (∃ e1 e2, asg t (tof x) e = some e1 ∧ (b e1 = .nx e2 ∨ b e1 = .ct e2) ∧ (P (ys ++ [x]) e2))) →
    P ys env → ∃ e', loopS t b (xs.map tof) env = .nx e' ∧ P (ys ++ xs) e' := by
  intro xs
  induction xs with
  | nil => exact fun ys env _ h => ⟨env, rfl, by simpa using h⟩
  | cons x xs ih =>
    intro ys env hb h
    obtain ⟨e1, e2, h1, h2, h3⟩ := hb ys x xs env rfl h
    obtain ⟨e', h4, h5⟩ := ih (ys ++ [x]) e2 hb h3
    refine ⟨e', ?_, by simpa using h5⟩
    show loopS t b (tof x :: xs.map tof) env = .nx e'
    simp only [loopS, h1]
    rcases h2 with h2 | h2 <;> simp only [h2] <;> exact h4
/-- as above; the step knows where it is in the whole list -/
theorem loopS_all {α : Type} {t : Tgt} {b : S} {tof : α → D} {P : List α → Env → Prop} (all : List α) : ∀ (xs ys : List α) (env : Env), all = ys ++ xs →
    (∀ ys x zs e, all = ys ++ x :: zs → P ys e → (∃ e1 e2, asg t (tof x) e = some e1 ∧ (b e1 = .nx e2 ∨ b e1 = .ct e2) ∧ (P (ys ++ [x]) e2))) →
    P ys env → ∃ e', loopS t b (xs.map tof) env = .nx e' ∧ P all e' := by
  intro xs
  induction xs with
  | nil => exact fun ys env ha _ h => ⟨env, rfl, by simpa [ha] using h⟩
  | cons x xs ih =>
    intro ys env ha hb h
    obtain ⟨e1, e2, h1, h2, h3⟩ := hb ys x xs env ha h
    obtain ⟨e', h4, h5⟩ := ih (ys ++ [x]) e2 (by simpa using ha) hb h3
    refine ⟨e', ?_, h5⟩
    show loopS t b (tof x :: xs.map tof) env = .nx e'
    simp only [loopS, h1]
    rcases h2 with h2 | h2 <;> simp only [h2] <;> exact h4
theorem loopC_map {α : Type} {k : Nat} {m : M} {vs : List Nat} {tof f : α → D} {env : Env} (hk : k < env.length) : ∀ (xs : List α) (acc : List D),
    (∀ x ∈ xs, ∃ e', m (env.set k (tof x)) = .ok (f x) e' ∧ anyAll vs e' = env) → acc.length + xs.length ≤ 100000 →
    loopC (.nm k) none m vs (xs.map tof) acc env = some (acc ++ xs.map f, env) := by
  intro xs
  induction xs with
  | nil => intro acc _ _; simp [loopC]
  | cons x xs ih =>
    intro acc hm hl
    obtain ⟨e', h1, h2⟩ := hm x (List.mem_cons_self ..)
    simp only [List.length_cons] at hl
    have := ih (acc ++ [f x]) (fun y hy => hm y (List.mem_cons_of_mem _ hy)) (by simp only [List.length_append, List.length_cons, List.length_nil]; omega)
    simp only [List.map_cons, loopC, asg, hk, if_true, h1, h2, if_pos (show acc.length < 100000 by omega), this]
    simp
theorem mLc_map {α : Type} {src : Src} {k : Nat} {m : M} {vs : List Nat} {tof f : α → D} {env e : Env} {xs : List α} (hs : src env = .ok (xs.map tof) e) (hk : k < (anyAll vs e).length)
    (hm : ∀ x ∈ xs, ∃ e', m ((anyAll vs e).set k (tof x)) = .ok (f x) e' ∧ anyAll vs e' = anyAll vs e) (hl : xs.length ≤ 100000) (hg : mrg (own? vs) e (anyAll vs e) = e) :
    mLc src (.nm k) none m vs env = .ok (.node (.lst true) (xs.map f)) e := by
  have := loopC_map hk xs [] hm (by simpa using hl)
  simp only [mLc, hs, this, hg, List.nil_append]
/-- with an invariant over what is kept and found -/
theorem loopC_inv {α : Type} {t : Tgt} {m : M} {vs : List Nat} {tof : α → D} {P : List α → List D → Env → Prop} (all : List α) (hn : all.length ≤ 100000) : ∀ (xs ys : List α) (acc : List D) (env : Env), all = ys ++ xs → acc.length = ys.length →
    (∀ ys x zs acc e, all = ys ++ x :: zs → P ys acc e → ∃ e1 r e2, asg t (tof x) e = some e1 ∧ m e1 = .ok r e2 ∧ P (ys ++ [x]) (acc ++ [r]) (anyAll vs e2)) →
    P ys acc env → ∃ acc' e', loopC t none m vs (xs.map tof) acc env = some (acc', e') ∧ acc'.length = all.length ∧ P all acc' e' := by
  intro xs
  induction xs with
  | nil => exact fun ys acc env ha hl _ h => ⟨acc, env, rfl, by simp [ha, hl], by simpa [ha] using h⟩
  | cons x xs ih =>
    intro ys acc env ha hl hb h
    obtain ⟨e1, r, e2, h1, h2, h3⟩ := hb ys x xs acc env ha h
    obtain ⟨acc', e', h4, h5, h6⟩ := ih (ys ++ [x]) (acc ++ [r]) (anyAll vs e2) (by simpa using ha) (by simp [hl]) hb h3
    refine ⟨acc', e', ?_, h5, h6⟩
    have hl2 : acc.length < 100000 := by
      have : all.length = ys.length + (xs.length + 1) := by rw [ha]; simp
      omega
    simp only [List.map_cons, loopC, h1, h2, if_pos hl2]
    exact h4
theorem rngL_nat (n : Nat) : rngL 0 n = (List.range n).map fun k : Nat => .int (k : Int) := by
  unfold rngL
  apply List.map_congr_left
  intro k _
  rw [Int.zero_add]
theorem iRng_nat {ops : List Opd} {env e : Env} {n : Nat} (h : evA ops env = .ok [.int (n : Int)] e) (hn : n < 1000000) : iRng ops env = .ok ((List.range n).map fun k : Nat => .int (k : Int)) e := by
  simp only [iRng, h]
  rw [if_pos (by omega), ← rngL_nat, Int.toNat_natCast]

/-! ### tables with bags as keys -/
def keyI (b : List Int) : List Key := b.map Sum.inl
theorem keysOf_dI (l : List Int) : keysOf (dI l) = some (keyI l) := by
  induction l with
  | nil => rfl
  | cons x l ih => simp [keysOf, ih, keyI]
theorem keyOf_bag (b : List Int) : keyOf (bagD b) = some (keyI b) := keysOf_dI b
theorem keyI_inj {a b : List Int} (h : keyI a = keyI b) : a = b := by
  unfold keyI at h
  exact (List.map_inj_right (fun x y e => by injection e)).mp h
theorem keyD_keyI (b : List Int) : keyD (keyI b) = bagD b := by
  unfold keyD keyI bagD dI
  rw [List.map_map]
  rfl
theorem frz_bag (b : List Int) : (bagD b).frz = bagD b := by simp only [bagD, frz_node, frzL_dI, Tag.frz]
theorem isFrz_node {t : Tag} {xs : List D} (h : t.own = false) (h2 : isFrzL xs = true) : D.isFrz (.node t xs) = true := by rw [D.isFrz, h, h2]; rfl
theorem isFrz_bag (b : List Int) : (bagD b).isFrz = true := isFrz_node rfl (isFrzL_dI b)
abbrev tabD (o : Bool) (bs : List (List Int)) (g : List Int → D) : D := .node (.dt o (bs.map keyI)) (bs.map g)
theorem find_key {bs : List (List Int)} {b : List Int} : b ∈ bs → ∃ j, (bs.map keyI).findIdx? (fun x => decide (x = keyI b)) = some j ∧ bs[j]? = some b := by
  induction bs with
  | nil => intro h; cases h
  | cons c bs ih =>
    intro h
    by_cases hc : c = b
    · subst hc
      exact ⟨0, by simp [List.findIdx?_cons], rfl⟩
    · have hk : ¬ keyI c = keyI b := fun e => hc (keyI_inj e)
      rcases List.mem_cons.mp h with h | h
      · exact absurd h.symm hc
      · obtain ⟨j, h1, h2⟩ := ih h
        refine ⟨j + 1, ?_, by simpa using h2⟩
        simp only [List.map_cons, List.findIdx?_cons, hk, decide_false, Bool.false_eq_true, if_false]
        rw [h1]
        rfl
theorem get_ok {o : Bool} {bs : List (List Int)} {g : List Int → D} {b : List Int} (hb : b ∈ bs) (hf : (g b).isFrz = true) : oDGet [tabD o bs g, bagD b] = .ok (g b) [tabD o bs g, bagD b] := by
  obtain ⟨j, h1, h2⟩ := find_key hb
  simp only [oDGet, tabD, keyOf_bag, h1, List.getElem?_map, h2, Option.map_some, hf, if_true]
theorem frz_tab {o : Bool} {bs : List (List Int)} {g g' : List Int → D} (h : ∀ b, (g b).frz = g' b) : (tabD o bs g).frz = tabD false bs g' := by
  simp only [tabD, frz_node, Tag.frz, frzL_eq, List.map_map]
  congr 1
  apply List.map_congr_left
  intro b _
  exact h b
theorem isFrz_tab {bs : List (List Int)} {g : List Int → D} (h : ∀ b, (g b).isFrz = true) : (tabD false bs g).isFrz = true := by
  refine isFrz_node rfl ?_
  rw [isFrzL_all, List.all_map, List.all_eq_true]
  exact fun b _ => h b
theorem findIdx_none {bs : List (List Int)} {b : List Int} (h : b ∉ bs) : (bs.map keyI).findIdx? (fun x => decide (x = keyI b)) = none := by
  rw [List.findIdx?_eq_none_iff]
  intro x hx
  obtain ⟨c, hc, rfl⟩ := List.mem_map.mp hx
  exact decide_eq_false fun e => h (keyI_inj e ▸ hc)
theorem dAt_new {bs : List (List Int)} {b : List Int} (h : b ∉ bs) : dAt (bs.map keyI) (keyI b) = some none := by
  simp only [dAt, findIdx_none h]
theorem keysL_bags (bs : List (List Int)) : keysL (bs.map bagD) = some (bs.map keyI) := by
  induction bs with
  | nil => rfl
  | cons b bs ih => simp only [List.map_cons, keysL, keyOf_bag, ih]
theorem nodup_keys {bs : List (List Int)} (h : bs.Nodup) : (bs.map keyI).Nodup := by
  induction bs with
  | nil => exact List.nodup_nil
  | cons b bs ih =>
    rw [List.map_cons, List.nodup_cons]
    rw [List.nodup_cons] at h
    refine ⟨fun hm => ?_, ih h.2⟩
    obtain ⟨c, hc, e⟩ := List.mem_map.mp hm
    exact h.1 (keyI_inj e ▸ hc)
/-- a function that gives the signs to the bags -/
theorem exists_fun : ∀ {bs : List (List Int)} {S : List Int}, bs.Nodup → S.length = bs.length → ∃ f : List Int → Int, S = bs.map f := by
  intro bs
  induction bs with
  | nil =>
    intro S _ h
    exact ⟨fun _ => 0, by simpa using h⟩
  | cons b bs ih =>
    intro S hn h
    cases S with
    | nil => cases h
    | cons x S =>
      rw [List.nodup_cons] at hn
      obtain ⟨f, hf⟩ := ih hn.2 (by simpa using h)
      refine ⟨fun c => if c = b then x else f c, ?_⟩
      rw [List.map_cons, if_pos rfl, hf]
      congr 1
      apply List.map_congr_left
      intro c hc
      rw [if_neg]
      rintro rfl
      exact hn.1 hc

/-! ### a board, and its rows of signs -/
def bns : List Str := ["many", "size", "signs", "_by_bag"]
abbrev bd (o : Bool) (v s : Nat) (f : List Int → Int) : D := .node (.ins o "Board" bns) [.int v, .int s, .node .tup (dI ((BL v s).map f)), tabD o (BL v s) (fun b => .int (f b))]
theorem fat0 : fAt bns "many" = some 0 := by decide +kernel
theorem fat1 : fAt bns "size" = some 1 := by decide +kernel
theorem fat2 : fAt bns "signs" = some 2 := by decide +kernel
theorem fld0 (v s : Nat) (f : List Int → Int) : oFld "Board" "many" [bd false v s f] = .ok (.int v) [bd false v s f] := by
  simp only [oFld, bd, fat0, if_true, List.getElem?_cons_zero, isFrz_int]
theorem fld1 (v s : Nat) (f : List Int → Int) : oFld "Board" "size" [bd false v s f] = .ok (.int s) [bd false v s f] := by
  simp only [oFld, bd, fat1, if_true, List.getElem?_cons_zero, List.getElem?_cons_succ, isFrz_int]
theorem fld2 (v s : Nat) (f : List Int → Int) : oFld "Board" "signs" [bd false v s f] = .ok (.node .tup (dI ((BL v s).map f))) [bd false v s f] := by
  simp only [oFld, bd, fat2, if_true, List.getElem?_cons_zero, List.getElem?_cons_succ, isFrz_node (t := .tup) rfl (isFrzL_dI _)]
def row (v : Nat) (f : List Int → Int) (b : List Int) : List Int := (List.range v).map fun x : Nat => f (srtI (b ++ [(x : Int)]))
abbrev rowT (v : Nat) (f : List Int → Int) (b : List Int) : D := .node .tup (dI (row v f b))
abbrev rowL (o : Bool) (v : Nat) (f : List Int → Int) (b : List Int) : D := .node (.lst o) (dI (row v f b))
end Z

set_option Elab.async false
set_option linter.all false
set_option maxRecDepth 100000
set_option maxHeartbeats 4000000
namespace Z
open PySem PySem.Spec PyProof.Rows
open L2 StX

theorem int_map {α : Type} (l : List α) (h : α → Int) : dI (l.map h) = l.map fun a => D.int (h a) := by
  unfold dI
  rw [List.map_map]
  rfl
theorem dzip_ok {bs : List (List Int)} {f : List Int → Int} (hn : bs.Nodup) : oDZip [.node (.lst true) (bs.map bagD), .node .tup (dI (bs.map f))] = .ok (tabD true bs fun b => .int (f b)) [.node (.lst true) (bs.map bagD), .node .tup (dI (bs.map f))] := by
  simp only [oDZip, keysL_bags, D.seq]
  rw [if_pos ⟨nodup_keys hn, by simp⟩, if_pos (isFrzL_dI _)]
  simp only [tabD, int_map]
theorem dzip_ok2 {bs : List (List Int)} {f : List Int → Int} (hn : bs.Nodup) : oDZip [.node (.lst true) (bs.map bagD), .node (.lst true) (dI (bs.map f))] = .ok (tabD true bs fun b => .int (f b)) [.node (.lst true) (bs.map bagD), .node (.lst true) (dI (bs.map f))] := by
  simp only [oDZip, keysL_bags, D.seq]
  rw [if_pos ⟨nodup_keys hn, by simp⟩, if_pos (isFrzL_dI _)]
  simp only [tabD, int_map]
theorem frzL_bags (bs : List (List Int)) : frzL (bs.map bagD) = bs.map bagD := by
  rw [frzL_eq, List.map_map]
  exact List.map_congr_left fun b _ => frz_bag b
theorem lstInts_dI (o : Bool) (l : List Int) : lstInts (.node (.lst o) (dI l)) = some l := intsOf_dI l
theorem sorted_ok (o : Bool) (l : List Int) : oSorted [.node (.lst o) (dI l)] = .ok (.node (.lst true) (dI (srtI l))) [.node (.lst o) (dI l)] := by
  simp only [oSorted, lstInts_dI]
  rfl
theorem tuple_ok (o : Bool) (l : List Int) : oTuple [.node (.lst o) (dI l)] = .ok (bagD l) [.node (.lst o) (dI l)] := by
  simp only [oTuple, if_pos (isFrzL_dI l)]
theorem list_tup (l : List Int) : oList [bagD l] = .ok (.node (.lst true) (dI l)) [bagD l] := by
  simp only [oList, bagD, D.seq, if_pos (isFrzL_dI l)]
theorem rowT_eq (v : Nat) (f : List Int → Int) (b : List Int) : rowT v f b = bagD (row v f b) := rfl
theorem length_row (v : Nat) (f : List Int → Int) (b : List Int) : (row v f b).length = v := by simp [row]

theorem frzL_ints {α : Type} (l : List α) (h : α → Int) : frzL (l.map fun a => D.int (h a)) = l.map fun a => D.int (h a) := by rw [← int_map, frzL_dI]
theorem frz_bd (o : Bool) (v s : Nat) (f : List Int → Int) : (bd o v s f).frz = bd false v s f := by
  simp only [bd, frz_node, Tag.frz, frzL_cons, frzL_nil, frz_int, frzL_dI, frzL_ints]
theorem isAny_node (t : Tag) (xs : List D) : (D.node t xs).isAny = false := rfl
theorem isAny_int (i : Int) : (D.int i).isAny = false := rfl
theorem len_node {α : Type} (t : Tag) (xs ys : List D) (h : D.seq (.node t xs) = some ys) : oLen [.node t xs] = .ok (.int ys.length) [.node t xs] := by
  simp only [op1, h, Option.map_some]

theorem sDict_ok {i : Nat} {m mk : M} {env e1 e2 : Env} {r : D} {b : List Int} {bs : List (List Int)} {xs : List D} (hm : m env = .ok r e1) (h1 : e1[i]? = some (.node (.dt true (bs.map keyI)) xs)) (hk : mk e1 = .ok (bagD b) e2) (h2 : e2[i]? = some (.node (.dt true (bs.map keyI)) xs)) (hn : b ∉ bs) (hl : xs.length < 100000) :
    sDict i m mk env = .nx (e2.set i (.node (.dt true ((bs ++ [b]).map keyI)) (xs ++ [r]))) := by
  simp only [sDict, hm, h1, hk, keyOf_bag, h2, dAt_new hn, if_pos hl, dKs, dXs, List.map_append, List.map_cons, List.map_nil]
theorem dI_snoc (l : List Int) (k : Int) : dI l ++ [D.int k] = dI (l ++ [k]) := by simp

theorem set_same {α : Type} : ∀ {l : List α} {i : Nat} {d : α}, l[i]? = some d → l.set i d = l
  | [], _, _, h => by cases h
  | x :: l, 0, d, h => by simp at h; simp [h]
  | x :: l, i + 1, d, h => by simp at h; simp [set_same h]
theorem mVar_s {env : Env} {i : Nat} {d : D} (h : env[i]? = some d) (ha : d.isAny = false) (hf : d.frz = d) : mVar i env = .ok d env := by
  simp only [mVar, h]
  cases d with
  | any => cases ha
  | _ => simp only [hf, set_same h]
theorem mApp_v1 {m : M} {f : Op} {e e1 : Env} {r r' : D} {es : List D} (h : m e = .ok r e1) (h2 : f [r] = .ok r' es) : mApp f [.val m] e = .ok r' e1 := by
  simp only [mApp, evA, h, h2]
  cases es <;> rfl
abbrev mSrIn : M := mApp oDGet [(.peek 1), (.val (mApp oTuple [(.val (mApp oSorted [(.val (mStar false (mVar 3) [(.val (mVar 4))]))]))]))]
abbrev mSrLc : M := mLc (iRng [.val (mApp (oFld "Board" "many") [(.peek 0)])]) (.nm 4) none mSrIn [4]
theorem sr_in {v s : Nat} {f : List Int → Int} {x : List Int} {t : D} {k : Nat} (hx : x.length ≤ 99999) (mem : srtI (x ++ [(k : Int)]) ∈ BL v s) (ht : t.isAny = false) :
    mSrIn [bd false v s f, tabD true (BL v s) (fun b => .int (f b)), t, bagD x, .int (k : Int)] = .ok (.int (f (srtI (x ++ [(k : Int)])))) [bd false v s f, tabD true (BL v s) (fun b => .int (f b)), t, bagD x, .int (k : Int)] := by
  simp only [sSeq, sAsg, sIf, sRet, sRetV, sDrop, sPar, sNext, sBad, sCnt, sFor, mVar, mC, mApp, evA, putA, op1, op2, onInt, onI1, mAnd, mOr, mNot, mIf, mChain, frz_int, frz_bl, frz_non, frz_any, frz_node, frzL_nil, frzL_cons, frzL_dI, Tag.frz, D.isAny, asg, asgL, Option.bind, List.map_cons, List.map_nil, List.getElem?_cons_zero, List.getElem?_cons_succ, List.set_cons_zero, List.set_cons_succ, Bool.false_eq_true, if_false, if_true, reduceIte, List.length_cons, List.length_nil, Nat.zero_add, List.cons_append, List.nil_append, List.replicate, eqD_int, D.seq, intOf, Bool.not_true, Bool.not_false, oTup, oLst, Option.map_some, Option.map_none, decide_eq_true_eq, Nat.lt_add_left_iff_pos, Nat.zero_lt_succ, Nat.reduceLeDiff, Nat.reduceAdd, Nat.reduceSub, Nat.reduceLT, Bool.bne_false, Bool.bne_true, mStar, frzL_dI, List.length_nil, dI_length, hx, dI_snoc, sorted_ok, tuple_ok, get_ok (o := true) (bs := BL v s) (g := fun b => D.int (f b)) mem (isFrz_int _)]
theorem sr_lc {v s : Nat} {f : List Int → Int} {x : List Int} {t : D} (h2 : v ≤ 4) (hx : x.length ≤ 99999) (mem : ∀ k ∈ List.range v, srtI (x ++ [(k : Int)]) ∈ BL v s) (ht : t.isAny = false) :
    mSrLc [bd false v s f, tabD true (BL v s) (fun b => .int (f b)), t, bagD x, .any] = .ok (.node (.lst true) (dI (row v f x))) [bd false v s f, tabD true (BL v s) (fun b => .int (f b)), t, bagD x, .any] := by
  rw [row, int_map]
  refine mLc_map (tof := fun k : Nat => D.int (k : Int)) (f := fun k : Nat => D.int (f (srtI (x ++ [(k : Int)])))) (xs := List.range v) (iRng_nat (n := v) (by simp only [sSeq, sAsg, sIf, sRet, sRetV, sDrop, sPar, sNext, sBad, sCnt, sFor, mVar, mC, mApp, evA, putA, op1, op2, onInt, onI1, mAnd, mOr, mNot, mIf, mChain, frz_int, frz_bl, frz_non, frz_any, frz_node, frzL_nil, frzL_cons, frzL_dI, Tag.frz, D.isAny, asg, asgL, Option.bind, List.map_cons, List.map_nil, List.getElem?_cons_zero, List.getElem?_cons_succ, List.set_cons_zero, List.set_cons_succ, Bool.false_eq_true, if_false, if_true, reduceIte, List.length_cons, List.length_nil, Nat.zero_add, List.cons_append, List.nil_append, List.replicate, eqD_int, D.seq, intOf, Bool.not_true, Bool.not_false, oTup, oLst, Option.map_some, Option.map_none, decide_eq_true_eq, Nat.lt_add_left_iff_pos, Nat.zero_lt_succ, Nat.reduceLeDiff, Nat.reduceAdd, Nat.reduceSub, Nat.reduceLT, Bool.bne_false, Bool.bne_true, fld0]) (by omega)) (by simp [anyAll, keepP]) ?_ (by simp; omega) rfl
  intro k hk
  exact ⟨_, sr_in hx (mem k hk) ht, rfl⟩
theorem sr_tu {v s : Nat} {f : List Int → Int} {x : List Int} {t : D} (h2 : v ≤ 4) (hx : x.length ≤ 99999) (mem : ∀ k ∈ List.range v, srtI (x ++ [(k : Int)]) ∈ BL v s) (ht : t.isAny = false) :
    mApp oTuple [.val mSrLc] [bd false v s f, tabD true (BL v s) (fun b => .int (f b)), t, bagD x, .any] = .ok (rowT v f x) [bd false v s f, tabD true (BL v s) (fun b => .int (f b)), t, bagD x, .any] := by
  exact mApp_v1 (sr_lc (f := f) h2 hx mem ht) (tuple_ok true _)
theorem sr_loop {v s : Nat} {f : List Int → Int} (h1 : 1 ≤ v) (h2 : v ≤ 4) (h3 : 1 ≤ s) (h4 : s ≤ 6) :
    ∃ z, loopS (.nm 3) (sDict 2 (mApp oTuple [.val mSrLc]) (mVar 3)) ((BL v (s - 1)).map bagD) [bd false v s f, tabD true (BL v s) (fun b => .int (f b)), .node (.dt true []) [], .any, .any] = .nx [bd false v s f, tabD true (BL v s) (fun b => .int (f b)), tabD true (BL v (s - 1)) (rowT v f), z, .any] := by
  have L := loopS_all (α := List Int) (t := .nm 3) (tof := bagD) (b := sDict 2 (mApp oTuple [.val mSrLc]) (mVar 3)) (P := fun ys e => ∃ z, e = [bd false v s f, tabD true (BL v s) (fun b => .int (f b)), tabD true ys (rowT v f), z, .any]) (BL v (s - 1)) (BL v (s - 1)) [] [bd false v s f, tabD true (BL v s) (fun b => .int (f b)), .node (.dt true []) [], .any, .any] rfl
    (fun ys x zs e hx ⟨z, he⟩ => by
      subst he
      have hm : x ∈ BL v (s - 1) := by rw [hx]; simp
      have nd : x ∉ ys := by
        have := BL_nodup h1 h2 (show s - 1 ≤ 6 by omega)
        rw [hx, List.nodup_append] at this
        intro hy
        exact this.2.2 x hy x (List.mem_cons_self ..) rfl
      have hl : (ys.map (rowT v f)).length < 100000 := by
        have := (BL_len h1 h2 (show s - 1 ≤ 6 by omega)).2
        rw [hx] at this
        simp at this ⊢
        omega
      have e : s - 1 + 1 = s := by omega
      have hx5 : x.length ≤ 99999 := by
        have := (BL_in h1 h2 (show s - 1 ≤ 6 by omega) x hm).1
        omega
      have mem : ∀ k ∈ List.range v, srtI (x ++ [(k : Int)]) ∈ BL v s := fun k hk => by
        have := BL_more h1 h2 (show s - 1 ≤ 5 by omega) x hm k hk
        rwa [e] at this
      refine ⟨_, _, rfl, Or.inl (sDict_ok (b := x) (bs := ys) (sr_tu h2 hx5 mem rfl) rfl (mk := mVar 3) (mVar_s (d := bagD x) rfl rfl (frz_bag x)) rfl nd hl), ?_⟩
      refine ⟨bagD x, ?_⟩
      show [bd false v s f, tabD true (BL v s) (fun b => .int (f b)), _, _, _] = _
      simp only [tabD, List.map_append, List.map_cons, List.map_nil]) ⟨_, rfl⟩
  obtain ⟨e', L1, z, rfl⟩ := L
  exact ⟨z, L1⟩
theorem srows_ok {v s : Nat} {f : List Int → Int} (h1 : 1 ≤ v) (h2 : v ≤ 4) (h3 : 1 ≤ s) (h4 : s ≤ 6) : op_sign_rows [bd false v s f] = .ok (tabD true (BL v (s - 1)) (rowT v f)) [bd false v s f] := by
  have es : ((s : Nat) : Int) - 1 = ((s - 1 : Nat) : Int) := by omega
  have B1 := dfOp_ok (bags_ok h1 h2 h4) rfl
  have B2 := dfOp_ok (bags_ok h1 h2 (show s - 1 ≤ 6 by omega)) rfl
  obtain ⟨z, L1⟩ := sr_loop (f := f) h1 h2 h3 h4
  simp only [fnOp]
  simp only [sSeq, sAsg, sIf, sRet, sRetV, sDrop, sPar, sNext, sBad, sCnt, sFor, mVar, mC, mApp, evA, putA, op1, op2, onInt, onI1, mAnd, mOr, mNot, mIf, mChain, frz_int, frz_bl, frz_non, frz_any, frz_node, frzL_nil, frzL_cons, frzL_dI, Tag.frz, D.isAny, asg, asgL, Option.bind, List.map_cons, List.map_nil, List.getElem?_cons_zero, List.getElem?_cons_succ, List.set_cons_zero, List.set_cons_succ, Bool.false_eq_true, if_false, if_true, reduceIte, List.length_cons, List.length_nil, Nat.zero_add, List.cons_append, List.nil_append, List.replicate, eqD_int, D.seq, intOf, Bool.not_true, Bool.not_false, oTup, oLst, Option.map_some, Option.map_none, decide_eq_true_eq, Nat.lt_add_left_iff_pos, Nat.zero_lt_succ, Nat.reduceLeDiff, Nat.reduceAdd, Nat.reduceSub, Nat.reduceLT, Bool.bne_false, Bool.bne_true, m_sign_rows, fld0, fld1, fld2, B1, B2, es, dzip_ok (BL_nodup h1 h2 h4), mNewT, iSeq, frzL_bags, L1, isAny_node]
  rfl
end Z

set_option Elab.async false
set_option linter.all false
set_option maxRecDepth 100000
set_option maxHeartbeats 4000000
namespace Z
open PySem PySem.Spec PyProof.Rows
open L2 StX

/-! ### steps, one by one -/
theorem loopS_nx {t : Tgt} {b : S} {x : D} {xs : List D} {env e1 e2 : Env} {r : SRes} (h : asg t x env = some e1) (hb : b e1 = .nx e2) (hr : loopS t b xs e2 = r) : loopS t b (x :: xs) env = r := by
  simp only [loopS, h, hb, hr]
theorem loopS_ct {t : Tgt} {b : S} {x : D} {xs : List D} {env e1 e2 : Env} {r : SRes} (h : asg t x env = some e1) (hb : b e1 = .ct e2) (hr : loopS t b xs e2 = r) : loopS t b (x :: xs) env = r := by
  simp only [loopS, h, hb, hr]
theorem sFor_ok {src : Src} {t : Tgt} {b : S} {xs : List D} {env e : Env} {r : SRes} (h : src env = .ok xs e) (hr : loopS t b xs e = r) : sFor src t b env = r := by
  simp only [sFor, h, hr]
theorem sSeq_nx {a b : S} {env e : Env} {r : SRes} (h : a env = .nx e) (hr : b e = r) : sSeq a b env = r := by
  simp only [sSeq, h, hr]
theorem sSeq_rt {a b : S} {env e : Env} {d : D} (h : a env = .rt d e) : sSeq a b env = .rt d e := by
  simp only [sSeq, h]
theorem sSeq_ct {a b : S} {env e : Env} (h : a env = .ct e) : sSeq a b env = .ct e := by
  simp only [sSeq, h]
theorem sAsg_ok {t : Tgt} {m : M} {env e e2 : Env} {r : D} (h : m env = .ok r e) (hr : asg t r e = some e2) : sAsg t m env = .nx e2 := by
  simp only [sAsg, h, hr]
theorem sIf_t {c : M} {a b : S} {env e : Env} {r : SRes} (h : c env = .ok (.bl true) e) (hr : a e = r) : sIf c a b env = r := by
  simp only [sIf, h, hr]
theorem sIf_f {c : M} {a b : S} {env e : Env} {r : SRes} (h : c env = .ok (.bl false) e) (hr : b e = r) : sIf c a b env = r := by
  simp only [sIf, h, hr]
theorem sRet_ok {m : M} {env e : Env} {r : D} (h : m env = .ok r e) : sRet m env = .rt r e := by
  simp only [sRet, h]
theorem sDrop_ok {m : M} {env e : Env} {r : D} (h : m env = .ok r e) : sDrop m env = .nx e := by
  simp only [sDrop, h]

/-! ### matches of two rows -/


def inn (h a : Int) : Nat → List Int → List (Int × Int)
  | _, [] => []
  | k, b :: r => if a = b then (h, (k : Int)) :: inn h a (k + 1) r else inn h a (k + 1) r
def outr (r2 : List Int) : Nat → List Int → List (Int × Int)
  | _, [] => []
  | k, a :: r => inn k a 0 r2 ++ outr r2 (k + 1) r
def pairD (p : Int × Int) : D := .node .tup [.int p.1, .int p.2]
theorem inn_len (h a : Int) : ∀ (r : List Int) (k : Nat), (inn h a k r).length ≤ r.length
  | [], _ => Nat.le_refl _
  | b :: r, k => by
    have := inn_len h a r (k + 1)
    simp only [inn]
    split <;> simp only [List.length_cons] <;> omega
theorem outr_len (r2 : List Int) : ∀ (r : List Int) (k : Nat), (outr r2 k r).length ≤ r.length * r2.length
  | [], _ => by simp [outr]
  | a :: r, k => by
    have h1 := outr_len r2 r (k + 1)
    have h2 := inn_len k a r2 0
    simp only [outr, List.length_append, List.length_cons]
    rw [Nat.add_mul]
    omega
theorem numD_dI : ∀ (l : List Int) (k : Nat), numD k (dI l) = match l with
    | [] => []
    | a :: r => .node .tup [.int (k : Int), .int a] :: numD (k + 1) (dI r)
  | [], _ => rfl
  | _ :: _, _ => rfl

abbrev mMr : M := mApp oTup [(.val (mVar 2)), (.val (mVar 4))]
abbrev cMr : M := mApp (op2 (eqD false)) [(.peek 3), (.peek 5)]
theorem mr_in {x y : D} {h a : Int} : ∀ (r : List Int) (k : Nat) (acc : List D), acc.length + r.length ≤ 100000 →
    loopC (.tp [(.nm 4), (.nm 5)]) (some cMr) mMr [4, 5] (numD k (dI r)) acc [x, y, .int h, .int a, .any, .any] = some (acc ++ (inn h a k r).map pairD, [x, y, .int h, .int a, .any, .any])
  | [], k, acc, _ => by simp [numD, loopC, inn]
  | b :: r, k, acc, hl => by
    simp only [List.length_cons] at hl
    have hl1 : acc.length < 100000 := by omega
    rw [numD_dI]
    by_cases hab : a = b
    · have ih := mr_in (x := x) (y := y) (h := h) (a := a) r (k + 1) (acc ++ [pairD (h, (k : Int))]) (by simp; omega)
      have e : ∀ q : D, anyAll [4, 5] [x, y, .int h, .int a, .int (k : Int), q] = [x, y, .int h, .int a, .any, .any] := fun q => rfl
      have c : cMr [x, y, .int h, .int a, .int (k : Int), .int b] = .ok (.bl true) [x, y, .int h, .int a, .int (k : Int), .int b] := by
        simp -implicitDefEqProofs only [sSeq, sAsg, sIf, sRet, sRetV, sDrop, sPar, sNext, sBad, sCnt, sFor, mVar, mC, mApp, evA, putA, op1, op2, onInt, onI1, mAnd, mOr, mNot, mIf, mChain, frz_int, frz_bl, frz_non, frz_any, frz_node, frzL_nil, frzL_cons, frzL_dI, Tag.frz, D.isAny, asg, asgL, Option.bind, List.map_cons, List.map_nil, List.getElem?_cons_zero, List.getElem?_cons_succ, List.set_cons_zero, List.set_cons_succ, Bool.false_eq_true, if_false, if_true, reduceIte, List.length_cons, List.length_nil, Nat.zero_add, List.cons_append, List.nil_append, List.replicate, eqD_int, D.seq, intOf, Bool.not_true, Bool.not_false, oTup, oLst, Option.map_some, Option.map_none, decide_eq_true_eq, Nat.lt_add_left_iff_pos, Nat.zero_lt_succ, Nat.reduceLeDiff, Nat.reduceAdd, Nat.reduceSub, Nat.reduceLT, Bool.bne_false, Bool.bne_true, decide_eq_true hab]
      have m : mMr [x, y, .int h, .int a, .int (k : Int), .int b] = .ok (pairD (h, (k : Int))) [x, y, .int h, .int a, .int (k : Int), .int b] := by
        simp -implicitDefEqProofs only [sSeq, sAsg, sIf, sRet, sRetV, sDrop, sPar, sNext, sBad, sCnt, sFor, mVar, mC, mApp, evA, putA, op1, op2, onInt, onI1, mAnd, mOr, mNot, mIf, mChain, frz_int, frz_bl, frz_non, frz_any, frz_node, frzL_nil, frzL_cons, frzL_dI, Tag.frz, D.isAny, asg, asgL, Option.bind, List.map_cons, List.map_nil, List.getElem?_cons_zero, List.getElem?_cons_succ, List.set_cons_zero, List.set_cons_succ, Bool.false_eq_true, if_false, if_true, reduceIte, List.length_cons, List.length_nil, Nat.zero_add, List.cons_append, List.nil_append, List.replicate, eqD_int, D.seq, intOf, Bool.not_true, Bool.not_false, oTup, oLst, Option.map_some, Option.map_none, decide_eq_true_eq, Nat.lt_add_left_iff_pos, Nat.zero_lt_succ, Nat.reduceLeDiff, Nat.reduceAdd, Nat.reduceSub, Nat.reduceLT, Bool.bne_false, Bool.bne_true]
        rfl
      have g : asg (.tp [(.nm 4), (.nm 5)]) (.node .tup [.int (k : Int), .int b]) [x, y, .int h, .int a, .any, .any] = some [x, y, .int h, .int a, .int (k : Int), .int b] := rfl
      simp -implicitDefEqProofs only [loopC, g, c, m, if_pos hl1, e, ih, inn, if_pos hab]
      simp
    · have ih := mr_in (x := x) (y := y) (h := h) (a := a) r (k + 1) acc (by omega)
      have e : ∀ q : D, anyAll [4, 5] [x, y, .int h, .int a, .int (k : Int), q] = [x, y, .int h, .int a, .any, .any] := fun q => rfl
      have c : cMr [x, y, .int h, .int a, .int (k : Int), .int b] = .ok (.bl false) [x, y, .int h, .int a, .int (k : Int), .int b] := by
        simp -implicitDefEqProofs only [sSeq, sAsg, sIf, sRet, sRetV, sDrop, sPar, sNext, sBad, sCnt, sFor, mVar, mC, mApp, evA, putA, op1, op2, onInt, onI1, mAnd, mOr, mNot, mIf, mChain, frz_int, frz_bl, frz_non, frz_any, frz_node, frzL_nil, frzL_cons, frzL_dI, Tag.frz, D.isAny, asg, asgL, Option.bind, List.map_cons, List.map_nil, List.getElem?_cons_zero, List.getElem?_cons_succ, List.set_cons_zero, List.set_cons_succ, Bool.false_eq_true, if_false, if_true, reduceIte, List.length_cons, List.length_nil, Nat.zero_add, List.cons_append, List.nil_append, List.replicate, eqD_int, D.seq, intOf, Bool.not_true, Bool.not_false, oTup, oLst, Option.map_some, Option.map_none, decide_eq_true_eq, Nat.lt_add_left_iff_pos, Nat.zero_lt_succ, Nat.reduceLeDiff, Nat.reduceAdd, Nat.reduceSub, Nat.reduceLT, Bool.bne_false, Bool.bne_true, decide_eq_false hab]
      have g : asg (.tp [(.nm 4), (.nm 5)]) (.node .tup [.int (k : Int), .int b]) [x, y, .int h, .int a, .any, .any] = some [x, y, .int h, .int a, .int (k : Int), .int b] := rfl
      simp -implicitDefEqProofs only [loopC, g, c, e, ih, inn, if_neg hab]
theorem mr_out {x : D} {r2 : List Int} : ∀ (r : List Int) (k : Nat) (acc : List D), acc.length + r.length * r2.length ≤ 100000 →
    loopC2 (.tp [(.nm 2), (.nm 3)]) none [2, 3, 4, 5] (iEnu (mVar 1)) (.tp [(.nm 4), (.nm 5)]) (some cMr) [4, 5] mMr (numD k (dI r)) acc [x, bagD r2, .any, .any, .any, .any] = some (acc ++ (outr r2 k r).map pairD, [x, bagD r2, .any, .any, .any, .any])
  | [], k, acc, _ => by simp [numD, loopC2, outr]
  | a :: r, k, acc, hl => by
    simp only [List.length_cons, Nat.add_mul, Nat.one_mul] at hl
    have h1 := inn_len k a r2 0
    have ih := mr_out (x := x) (r2 := r2) r (k + 1) (acc ++ (inn k a 0 r2).map pairD) (by simp; omega)
    have i1 := mr_in (x := x) (y := bagD r2) (h := (k : Int)) (a := a) r2 0 acc (by omega)
    have g : asg (.tp [(.nm 2), (.nm 3)]) (.node .tup [.int (k : Int), .int a]) [x, bagD r2, .any, .any, .any, .any] = some [x, bagD r2, .int (k : Int), .int a, .any, .any] := rfl
    have s : iEnu (mVar 1) [x, bagD r2, .int (k : Int), .int a, .any, .any] = .ok (numD 0 (dI r2)) [x, bagD r2, .int (k : Int), .int a, .any, .any] := by
      simp -implicitDefEqProofs only [sSeq, sAsg, sIf, sRet, sRetV, sDrop, sPar, sNext, sBad, sCnt, sFor, mVar, mC, mApp, evA, putA, op1, op2, onInt, onI1, mAnd, mOr, mNot, mIf, mChain, frz_int, frz_bl, frz_non, frz_any, frz_node, frzL_nil, frzL_cons, frzL_dI, Tag.frz, D.isAny, asg, asgL, Option.bind, List.map_cons, List.map_nil, List.getElem?_cons_zero, List.getElem?_cons_succ, List.set_cons_zero, List.set_cons_succ, Bool.false_eq_true, if_false, if_true, reduceIte, List.length_cons, List.length_nil, Nat.zero_add, List.cons_append, List.nil_append, List.replicate, eqD_int, D.seq, intOf, Bool.not_true, Bool.not_false, oTup, oLst, Option.map_some, Option.map_none, decide_eq_true_eq, Nat.lt_add_left_iff_pos, Nat.zero_lt_succ, Nat.reduceLeDiff, Nat.reduceAdd, Nat.reduceSub, Nat.reduceLT, Bool.bne_false, Bool.bne_true, iEnu]
    have e1 : anyAll [4, 5] [x, bagD r2, .int (k : Int), .int a, .any, .any] = [x, bagD r2, .int (k : Int), .int a, .any, .any] := rfl
    have e2 : anyAll [2, 3, 4, 5] [x, bagD r2, .int (k : Int), .int a, .any, .any] = [x, bagD r2, .any, .any, .any, .any] := rfl
    rw [numD_dI]
    simp -implicitDefEqProofs only [loopC2, g, s, e1, i1, e2, ih, outr]
    simp
theorem mrows_ok {r1 r2 : List Int} (h1 : r1.length ≤ 4) (h2 : r2.length ≤ 4) : op_match_of_rows [bagD r1, bagD r2] = .ok (.node (.lst true) ((outr r2 0 r1).map pairD)) [bagD r1, bagD r2] := by
  have hl : r1.length * r2.length ≤ 16 := Nat.mul_le_mul h1 h2
  have L := mr_out (x := bagD r1) (r2 := r2) r1 0 [] (by simp; omega)
  have s : iEnu (mVar 0) [bagD r1, bagD r2, .any, .any, .any, .any] = .ok (numD 0 (dI r1)) [bagD r1, bagD r2, .any, .any, .any, .any] := by
    simp -implicitDefEqProofs only [sSeq, sAsg, sIf, sRet, sRetV, sDrop, sPar, sNext, sBad, sCnt, sFor, mVar, mC, mApp, evA, putA, op1, op2, onInt, onI1, mAnd, mOr, mNot, mIf, mChain, frz_int, frz_bl, frz_non, frz_any, frz_node, frzL_nil, frzL_cons, frzL_dI, Tag.frz, D.isAny, asg, asgL, Option.bind, List.map_cons, List.map_nil, List.getElem?_cons_zero, List.getElem?_cons_succ, List.set_cons_zero, List.set_cons_succ, Bool.false_eq_true, if_false, if_true, reduceIte, List.length_cons, List.length_nil, Nat.zero_add, List.cons_append, List.nil_append, List.replicate, eqD_int, D.seq, intOf, Bool.not_true, Bool.not_false, oTup, oLst, Option.map_some, Option.map_none, decide_eq_true_eq, Nat.lt_add_left_iff_pos, Nat.zero_lt_succ, Nat.reduceLeDiff, Nat.reduceAdd, Nat.reduceSub, Nat.reduceLT, Bool.bne_false, Bool.bne_true, iEnu]
  have e2 : anyAll [2, 3, 4, 5] [bagD r1, bagD r2, .any, .any, .any, .any] = [bagD r1, bagD r2, .any, .any, .any, .any] := rfl
  have K : mLc2 (iEnu (mVar 0)) (.tp [(.nm 2), (.nm 3)]) none [2, 3, 4, 5] (iEnu (mVar 1)) (.tp [(.nm 4), (.nm 5)]) (some cMr) [4, 5] mMr [bagD r1, bagD r2, .any, .any, .any, .any] = .ok (.node (.lst true) ((outr r2 0 r1).map pairD)) [bagD r1, bagD r2, .any, .any, .any, .any] := by
    simp -implicitDefEqProofs only [mLc2, s, e2, L, List.nil_append]
    rfl
  refine fnOp_rt (r := .node (.lst true) ((outr r2 0 r1).map pairD)) (e := [bagD r1, bagD r2, .any, .any, .any, .any]) rfl ?_ (by simp)
  show m_match_of_rows [bagD r1, bagD r2, .any, .any, .any, .any] = _
  simp -implicitDefEqProofs only [m_match_of_rows, sRet]
  rw [K]

/-! ### the law's own match -/
theorem rng_from (n : Nat) : (List.range n).map (fun k : Nat => D.int (k : Int)) = (List.range' 0 n).map fun k : Nat => D.int (k : Int) := by rw [List.range_eq_range']
theorem ixN_nat {n k : Nat} (h : k < n) : ixN n (k : Int) = some k := by
  unfold ixN
  rw [if_pos (by omega), if_pos (by omega), Int.toNat_natCast]
theorem ix_ints {t : Tag} {l : List Int} {k : Nat} {a : Int} (ht : D.seq (.node t (dI l)) = some (dI l)) (h : l[k]? = some a) : oIx [.node t (dI l), .int (k : Int)] = .ok (.int a) [.node t (dI l), .int (k : Int)] := by
  have hk : k < l.length := (List.getElem?_eq_some_iff.mp h).1
  exact ix_ok ht (ixN_nat (by simpa using hk)) (by rw [dI_get, h]; rfl) (isFrz_int _)
theorem mid_get {α : Type} (xs : List α) (x : α) (ys : List α) : (xs ++ x :: ys)[xs.length]? = some x := by simp
abbrev bLm : S := sIf (mApp (op2 (eqD false)) [(.val (mApp oIx [(.peek 0), (.peek 3)])), (.val (mApp oIx [(.peek 1), (.peek 4)]))]) (sDrop (mLst fAppend 2 [(.val (mApp oTup [(.val (mVar 3)), (.val (mVar 4))]))])) sNext
theorem lm_in {r1 r2 : List Int} {h : Nat} {a : Int} (ha : r1[h]? = some a) : ∀ (r pre : List Int) (acc : List D) (z : D), r2 = pre ++ r → acc.length + r.length ≤ 100000 →
    ∃ z', loopS (.nm 4) bLm ((List.range' pre.length r.length).map fun k : Nat => D.int (k : Int)) [.node (.lst false) (dI r1), .node (.lst false) (dI r2), .node (.lst true) acc, .int (h : Int), z] = .nx [.node (.lst false) (dI r1), .node (.lst false) (dI r2), .node (.lst true) (acc ++ (inn h a pre.length r).map pairD), .int (h : Int), z']
  | [], pre, acc, z, _, _ => ⟨z, by simp [loopS, inn]⟩
  | b :: r, pre, acc, z, hr, hl => by
    simp only [List.length_cons] at hl
    have i1 := ix_ints (t := .lst false) rfl ha
    have i2 := ix_ints (t := .lst false) (l := r2) (k := pre.length) (a := b) rfl (by rw [hr]; exact mid_get _ _ _)
    have g : asg (.nm 4) (.int (pre.length : Int)) [.node (.lst false) (dI r1), .node (.lst false) (dI r2), .node (.lst true) acc, .int (h : Int), z] = some [.node (.lst false) (dI r1), .node (.lst false) (dI r2), .node (.lst true) acc, .int (h : Int), .int (pre.length : Int)] := rfl
    have pl : (pre ++ [b]).length = pre.length + 1 := by simp
    by_cases hab : a = b
    · obtain ⟨z', ih⟩ := lm_in (r2 := r2) ha r (pre ++ [b]) (acc ++ [pairD ((h : Int), (pre.length : Int))]) (.int (pre.length : Int)) (by rw [hr]; simp) (by simp; omega)
      have st : bLm [.node (.lst false) (dI r1), .node (.lst false) (dI r2), .node (.lst true) acc, .int (h : Int), .int (pre.length : Int)] = .nx [.node (.lst false) (dI r1), .node (.lst false) (dI r2), .node (.lst true) (acc ++ [pairD ((h : Int), (pre.length : Int))]), .int (h : Int), .int (pre.length : Int)] := by
        have hl1 : acc.length < 100000 := by omega
        simp -implicitDefEqProofs only [sSeq, sAsg, sIf, sRet, sRetV, sDrop, sPar, sNext, sBad, sCnt, sFor, mVar, mC, mApp, evA, putA, op1, op2, onInt, onI1, mAnd, mOr, mNot, mIf, mChain, frz_int, frz_bl, frz_non, frz_any, frz_node, frzL_nil, frzL_cons, frzL_dI, Tag.frz, D.isAny, asg, asgL, Option.bind, List.map_cons, List.map_nil, List.getElem?_cons_zero, List.getElem?_cons_succ, List.set_cons_zero, List.set_cons_succ, Bool.false_eq_true, if_false, if_true, reduceIte, List.length_cons, List.length_nil, Nat.zero_add, List.cons_append, List.nil_append, List.replicate, eqD_int, D.seq, intOf, Bool.not_true, Bool.not_false, oTup, oLst, Option.map_some, Option.map_none, decide_eq_true_eq, Nat.lt_add_left_iff_pos, Nat.zero_lt_succ, Nat.reduceLeDiff, Nat.reduceAdd, Nat.reduceSub, Nat.reduceLT, Bool.bne_false, Bool.bne_true, i1, i2, decide_eq_true hab, mLst, fAppend, if_pos hl1]
        rfl
      refine ⟨z', ?_⟩
      rw [pl] at ih
      simp -implicitDefEqProofs only [List.length_cons, List.range'_succ, List.map_cons, loopS, g, st, ih, inn, if_pos hab]
      simp
    · obtain ⟨z', ih⟩ := lm_in (r2 := r2) ha r (pre ++ [b]) acc (.int (pre.length : Int)) (by rw [hr]; simp) (by omega)
      have st : bLm [.node (.lst false) (dI r1), .node (.lst false) (dI r2), .node (.lst true) acc, .int (h : Int), .int (pre.length : Int)] = .nx [.node (.lst false) (dI r1), .node (.lst false) (dI r2), .node (.lst true) acc, .int (h : Int), .int (pre.length : Int)] := by
        simp -implicitDefEqProofs only [sSeq, sAsg, sIf, sRet, sRetV, sDrop, sPar, sNext, sBad, sCnt, sFor, mVar, mC, mApp, evA, putA, op1, op2, onInt, onI1, mAnd, mOr, mNot, mIf, mChain, frz_int, frz_bl, frz_non, frz_any, frz_node, frzL_nil, frzL_cons, frzL_dI, Tag.frz, D.isAny, asg, asgL, Option.bind, List.map_cons, List.map_nil, List.getElem?_cons_zero, List.getElem?_cons_succ, List.set_cons_zero, List.set_cons_succ, Bool.false_eq_true, if_false, if_true, reduceIte, List.length_cons, List.length_nil, Nat.zero_add, List.cons_append, List.nil_append, List.replicate, eqD_int, D.seq, intOf, Bool.not_true, Bool.not_false, oTup, oLst, Option.map_some, Option.map_none, decide_eq_true_eq, Nat.lt_add_left_iff_pos, Nat.zero_lt_succ, Nat.reduceLeDiff, Nat.reduceAdd, Nat.reduceSub, Nat.reduceLT, Bool.bne_false, Bool.bne_true, i1, i2, decide_eq_false hab]
      refine ⟨z', ?_⟩
      rw [pl] at ih
      simp -implicitDefEqProofs only [List.length_cons, List.range'_succ, List.map_cons, loopS, g, st, ih, inn, if_neg hab]
theorem lm_out {r1 r2 : List Int} (h2 : r2.length ≤ 4) : ∀ (r pre : List Int) (acc : List D) (z y : D), r1 = pre ++ r → acc.length + r.length * r2.length ≤ 100000 →
    ∃ z' y', loopS (.nm 3) (sFor (iRng [.val (mApp oLen [(.peek 1)])]) (.nm 4) bLm) ((List.range' pre.length r.length).map fun k : Nat => D.int (k : Int)) [.node (.lst false) (dI r1), .node (.lst false) (dI r2), .node (.lst true) acc, z, y] = .nx [.node (.lst false) (dI r1), .node (.lst false) (dI r2), .node (.lst true) (acc ++ (outr r2 pre.length r).map pairD), z', y']
  | [], pre, acc, z, y, _, _ => ⟨z, y, by simp [loopS, outr]⟩
  | a :: r, pre, acc, z, y, hr, hl => by
    simp only [List.length_cons, Nat.add_mul, Nat.one_mul] at hl
    have g : asg (.nm 3) (.int (pre.length : Int)) [.node (.lst false) (dI r1), .node (.lst false) (dI r2), .node (.lst true) acc, z, y] = some [.node (.lst false) (dI r1), .node (.lst false) (dI r2), .node (.lst true) acc, .int (pre.length : Int), y] := rfl
    have pl : (pre ++ [a]).length = pre.length + 1 := by simp
    have h1 := inn_len pre.length a r2 0
    obtain ⟨z1, i1⟩ := lm_in (r1 := r1) (r2 := r2) (h := pre.length) (a := a) (by rw [hr]; exact mid_get _ _ _) r2 [] acc y rfl (by omega)
    obtain ⟨z2, y2, ih⟩ := lm_out (r1 := r1) h2 r (pre ++ [a]) (acc ++ (inn pre.length a 0 r2).map pairD) (.int (pre.length : Int)) z1 (by rw [hr]; simp) (by simp; omega)
    have s : iRng [.val (mApp oLen [(.peek 1)])] [.node (.lst false) (dI r1), .node (.lst false) (dI r2), .node (.lst true) acc, .int (pre.length : Int), y] = .ok ((List.range r2.length).map fun k : Nat => D.int (k : Int)) [.node (.lst false) (dI r1), .node (.lst false) (dI r2), .node (.lst true) acc, .int (pre.length : Int), y] := iRng_nat (by simp -implicitDefEqProofs only [sSeq, sAsg, sIf, sRet, sRetV, sDrop, sPar, sNext, sBad, sCnt, sFor, mVar, mC, mApp, evA, putA, op1, op2, onInt, onI1, mAnd, mOr, mNot, mIf, mChain, frz_int, frz_bl, frz_non, frz_any, frz_node, frzL_nil, frzL_cons, frzL_dI, Tag.frz, D.isAny, asg, asgL, Option.bind, List.map_cons, List.map_nil, List.getElem?_cons_zero, List.getElem?_cons_succ, List.set_cons_zero, List.set_cons_succ, Bool.false_eq_true, if_false, if_true, reduceIte, List.length_cons, List.length_nil, Nat.zero_add, List.cons_append, List.nil_append, List.replicate, eqD_int, D.seq, intOf, Bool.not_true, Bool.not_false, oTup, oLst, Option.map_some, Option.map_none, decide_eq_true_eq, Nat.lt_add_left_iff_pos, Nat.zero_lt_succ, Nat.reduceLeDiff, Nat.reduceAdd, Nat.reduceSub, Nat.reduceLT, Bool.bne_false, Bool.bne_true, dI_length]) (by omega)
    refine ⟨z2, y2, ?_⟩
    rw [pl] at ih
    rw [rng_from] at s
    have i2 : loopS (.nm 4) bLm ((List.range' 0 r2.length).map fun k : Nat => D.int (k : Int)) [.node (.lst false) (dI r1), .node (.lst false) (dI r2), .node (.lst true) acc, .int (pre.length : Int), y] = _ := i1
    have st := sFor_ok (t := .nm 4) (b := bLm) s i2
    have fin := loopS_nx g st ih
    have e1 : (List.range' pre.length (a :: r).length).map (fun k : Nat => D.int (k : Int)) = D.int (pre.length : Int) :: (List.range' (pre.length + 1) r.length).map (fun k : Nat => D.int (k : Int)) := by
      rw [List.length_cons, List.range'_succ, List.map_cons]
    have e2 : (acc ++ (inn pre.length a 0 r2).map pairD) ++ (outr r2 (pre.length + 1) r).map pairD = acc ++ (outr r2 pre.length (a :: r)).map pairD := by
      rw [outr, List.map_append, List.append_assoc]
    rw [e1, ← e2]
    exact fin
theorem lmatch_ok {r1 r2 : List Int} (h1 : r1.length ≤ 4) (h2 : r2.length ≤ 4) : op__law_match [.node (.lst false) (dI r1), .node (.lst false) (dI r2)] = .ok (.node (.lst true) ((outr r2 0 r1).map pairD)) [.node (.lst false) (dI r1), .node (.lst false) (dI r2)] := by
  have hl : r1.length * r2.length ≤ 16 := Nat.mul_le_mul h1 h2
  obtain ⟨z, y, L⟩ := lm_out (r1 := r1) h2 r1 [] [] .any .any rfl (by simp; omega)
  have s : iRng [.val (mApp oLen [(.peek 0)])] [.node (.lst false) (dI r1), .node (.lst false) (dI r2), .node (.lst true) [], .any, .any] = .ok ((List.range r1.length).map fun k : Nat => D.int (k : Int)) [.node (.lst false) (dI r1), .node (.lst false) (dI r2), .node (.lst true) [], .any, .any] := iRng_nat (by simp -implicitDefEqProofs only [sSeq, sAsg, sIf, sRet, sRetV, sDrop, sPar, sNext, sBad, sCnt, sFor, mVar, mC, mApp, evA, putA, op1, op2, onInt, onI1, mAnd, mOr, mNot, mIf, mChain, frz_int, frz_bl, frz_non, frz_any, frz_node, frzL_nil, frzL_cons, frzL_dI, Tag.frz, D.isAny, asg, asgL, Option.bind, List.map_cons, List.map_nil, List.getElem?_cons_zero, List.getElem?_cons_succ, List.set_cons_zero, List.set_cons_succ, Bool.false_eq_true, if_false, if_true, reduceIte, List.length_cons, List.length_nil, Nat.zero_add, List.cons_append, List.nil_append, List.replicate, eqD_int, D.seq, intOf, Bool.not_true, Bool.not_false, oTup, oLst, Option.map_some, Option.map_none, decide_eq_true_eq, Nat.lt_add_left_iff_pos, Nat.zero_lt_succ, Nat.reduceLeDiff, Nat.reduceAdd, Nat.reduceSub, Nat.reduceLT, Bool.bne_false, Bool.bne_true, dI_length]) (by omega)
  rw [rng_from] at s
  have A : sAsg (.nm 2) (mApp oLst []) [.node (.lst false) (dI r1), .node (.lst false) (dI r2), .any, .any, .any] = .nx [.node (.lst false) (dI r1), .node (.lst false) (dI r2), .node (.lst true) [], .any, .any] := rfl
  exact fnOp_rt (r := .node (.lst true) ((outr r2 0 r1).map pairD)) (e := [.node (.lst false) (dI r1), .node (.lst false) (dI r2), .any, z, y]) rfl (sSeq_nx A (sSeq_nx (sFor_ok s L) rfl)) (by simp)
end Z

set_option Elab.async false
set_option linter.all false
set_option maxRecDepth 100000
set_option maxHeartbeats 4000000
namespace Z
open PySem PySem.Spec PyProof.Rows
open L2 StX

theorem mAnd_t {a b : M} {env e : Env} {r : Res} (h : a env = .ok (.bl true) e) (hr : b e = r) : mAnd a b env = r := by
  simp only [mAnd, h, hr]
theorem mAnd_f {a b : M} {env e : Env} (h : a env = .ok (.bl false) e) : mAnd a b env = .ok (.bl false) e := by
  simp only [mAnd, h]
theorem mOr_f {a b : M} {env e : Env} {r : Res} (h : a env = .ok (.bl false) e) (hr : b e = r) : mOr a b env = r := by
  simp only [mOr, h, hr]
theorem mOr_t {a b : M} {env e : Env} (h : a env = .ok (.bl true) e) : mOr a b env = .ok (.bl true) e := by
  simp only [mOr, h]
theorem mNot_ok {a : M} {env e : Env} {b : Bool} (h : a env = .ok (.bl b) e) : mNot a env = .ok (.bl (!b)) e := by
  simp only [mNot, h]
theorem mIf_t {c a b : M} {env e : Env} {r : Res} (h : c env = .ok (.bl true) e) (hr : a e = r) : mIf c a b env = r := by
  simp only [mIf, h, hr]
theorem mIf_f {c a b : M} {env e : Env} {r : Res} (h : c env = .ok (.bl false) e) (hr : b e = r) : mIf c a b env = r := by
  simp only [mIf, h, hr]
/-- an operation on what evA gives; its operands come back as they were -/
theorem mApp_ok {f : Op} {ops : List Opd} {env e : Env} {ds es : List D} {r : D} (h : evA ops env = .ok ds e) (hf : f ds = .ok r es) : mApp f ops env = .ok r (putA ops es e) := by
  simp only [mApp, h, hf]
theorem evA_nil {env : Env} : evA [] env = .ok [] env := rfl
theorem evA_val {m : M} {ops : List Opd} {env e1 e2 : Env} {r : D} {ds : List D} (h : m env = .ok r e1) (h2 : evA ops e1 = .ok ds e2) : evA (.val m :: ops) env = .ok (r :: ds) e2 := by
  simp only [evA, h, h2]
theorem evA_peek {i : Nat} {ops : List Opd} {env e1 : Env} {d0 d : D} {ds : List D} (h0 : env[i]? = some d0) (a0 : d0.isAny = false) (h : evA ops env = .ok ds e1) (h1 : e1[i]? = some d) (a1 : d.isAny = false) : evA (.peek i :: ops) env = .ok (d :: ds) (e1.set i .any) := by
  simp only [evA, h0, a0, h, h1, a1]
  simp

theorem k1 : kitB "int" "list" = some false := by kernel_rfl
theorem k2 : kitB "int" "tuple" = some false := by kernel_rfl
theorem k3 : kitB "list" "list" = some true := by kernel_rfl
theorem k4 : kitB "list" "tuple" = some false := by kernel_rfl
theorem k5 : kitB "tuple" "list" = some false := by kernel_rfl
theorem k6 : kitB "tuple" "tuple" = some true := by kernel_rfl
theorem k7 : kitB "int" "int" = some true := by kernel_rfl
theorem k8 : kitB "int" "bool" = some false := by kernel_rfl
theorem isi2_int (i : Int) : isi2B "list" "tuple" (.int i) = some (.bl false) := by simp only [isi2B, D.ty, k1, k2, Bool.or_false]
theorem isi2_lst (o : Bool) (xs : List D) : isi2B "list" "tuple" (.node (.lst o) xs) = some (.bl true) := by simp only [isi2B, D.ty, k3, k4, Bool.or_false]
theorem isi2_tup (xs : List D) : isi2B "list" "tuple" (.node .tup xs) = some (.bl true) := by simp only [isi2B, D.ty, k5, k6, Bool.or_true]
theorem isi_lst_lst (o : Bool) (xs : List D) : isiB "list" (.node (.lst o) xs) = some (.bl true) := by simp only [isiB, D.ty, k3, Option.map_some]
theorem isi_lst_tup (xs : List D) : isiB "list" (.node .tup xs) = some (.bl false) := by simp only [isiB, D.ty, k5, Option.map_some]
theorem isi_tup_lst (o : Bool) (xs : List D) : isiB "tuple" (.node (.lst o) xs) = some (.bl false) := by simp only [isiB, D.ty, k4, Option.map_some]
theorem isi_tup_tup (xs : List D) : isiB "tuple" (.node .tup xs) = some (.bl true) := by simp only [isiB, D.ty, k6, Option.map_some]
theorem isi_int_int (i : Int) : isiB "int" (.int i) = some (.bl true) := by simp only [isiB, D.ty, k7, Option.map_some]
theorem isi_bool_int (i : Int) : isiB "bool" (.int i) = some (.bl false) := by simp only [isiB, D.ty, k8, Option.map_some]
theorem eqD_bl (neg a b : Bool) : eqD neg (.bl a) (.bl b) = some (.bl ((a == b) != neg)) := by
  simp only [eqD, D.py]
  rw [if_pos ⟨rfl, rfl⟩]
  simp only [PyData.eqv]

/-- trees of whole numbers, lists and tuples of a depth -/
inductive Tr : Nat → D → Prop where
  | int (n : Nat) (i : Int) : Tr (n + 1) (.int i)
  | tup (n : Nat) (xs : List D) (hf : isFrzL xs = true) (hl : xs.length ≤ 99999) (h : ∀ (k : Nat) (x : D), xs[k]? = some x → Tr n x) : Tr (n + 1) (.node .tup xs)
  | lst (n : Nat) (o : Bool) (xs : List D) (hf : isFrzL xs = true) (hl : xs.length ≤ 99999) (h : ∀ (k : Nat) (x : D), xs[k]? = some x → Tr n x) : Tr (n + 1) (.node (.lst o) xs)
theorem isFrzL_at {xs : List D} {k : Nat} {x : D} (hf : isFrzL xs = true) (h : xs[k]? = some x) : x.isFrz = true := by
  rw [isFrzL_all, List.all_eq_true] at hf
  exact hf x (List.mem_of_getElem? h)
theorem boolsOf_true {α : Type} (l : List α) : boolsOf (l.map fun _ => D.bl true) = some (l.map fun _ => true) := by
  induction l with
  | nil => rfl
  | cons x l ih => simp [boolsOf, ih]
theorem all_true {α : Type} (o : Bool) (l : List α) : oAll [.node (.lst o) (l.map fun _ => D.bl true)] = .ok (.bl true) [.node (.lst o) (l.map fun _ => D.bl true)] := by
  simp only [op1, lstBools, boolsOf_true, Option.map_some]
  simp
abbrev mSm (op : Op) : M := mApp (dfOp op []) [(.val (mApp oIx [(.peek 0), (.peek 2)])), (.val (mApp oIx [(.peek 1), (.peek 2)]))]
theorem same_seq {op : Op} {t : Tag} {xs : List D} (hs : D.seq (.node t xs) = some xs) (hf : isFrzL xs = true) (hl : xs.length ≤ 99999) (h : ∀ (k : Nat) (x : D), xs[k]? = some x → op [x, x] = .ok (.bl true) [x, x]) :
    mApp oAll [(.val (mLc (iRng [.val (mApp oLen [(.peek 1)])]) (.nm 2) none (mSm op) [2]))] [.node t xs, .node t xs, .any] = .ok (.bl true) [.node t xs, .node t xs, .any] := by
  have s : iRng [.val (mApp oLen [(.peek 1)])] [.node t xs, .node t xs, .any] = .ok ((List.range xs.length).map fun k : Nat => D.int (k : Int)) [.node t xs, .node t xs, .any] := iRng_nat (by
    have hlen := len_node (α := Nat) t xs xs hs
    simp -implicitDefEqProofs only [evA, mApp, putA, hlen, List.getElem?_cons_zero, List.getElem?_cons_succ, isAny_node, Bool.false_eq_true, if_false, reduceIte, List.set_cons_zero, List.set_cons_succ]) (by omega)
  have L := mLc_map (k := 2) (m := mSm op) (vs := [2]) (tof := fun k : Nat => D.int (k : Int)) (f := fun _ : Nat => D.bl true) (xs := List.range xs.length) s (by simp [anyAll, keepP]) (fun k hk => by
    have hk2 : k < xs.length := List.mem_range.mp hk
    have hx : xs[k]? = some xs[k] := List.getElem?_eq_getElem hk2
    have i1 : oIx [.node t xs, .int (k : Int)] = .ok xs[k] [.node t xs, .int (k : Int)] := ix_ok hs (ixN_nat hk2) hx (isFrzL_at hf hx)
    have o1 := dfOp_ok (h k _ hx) rfl
    refine ⟨[.node t xs, .node t xs, .int (k : Int)], ?_, rfl⟩
    have ha : (D.int (k : Int)).isAny = false := rfl
    have hn : (D.node t xs).isAny = false := rfl
    show mSm op [.node t xs, .node t xs, .int (k : Int)] = _
    generalize xs[k] = x at i1 o1
    simp -implicitDefEqProofs only [sSeq, sAsg, sIf, sRet, sRetV, sDrop, sPar, sNext, sBad, sCnt, sFor, mVar, mC, mApp, evA, putA, op1, op2, onInt, onI1, mAnd, mOr, mNot, mIf, mChain, frz_int, frz_bl, frz_non, frz_any, frz_node, frzL_nil, frzL_cons, frzL_dI, Tag.frz, D.isAny, asg, asgL, Option.bind, List.map_cons, List.map_nil, List.getElem?_cons_zero, List.getElem?_cons_succ, List.set_cons_zero, List.set_cons_succ, Bool.false_eq_true, if_false, if_true, reduceIte, List.length_cons, List.length_nil, Nat.zero_add, List.cons_append, List.nil_append, List.replicate, eqD_int, D.seq, intOf, Bool.not_true, Bool.not_false, oTup, oLst, Option.map_some, Option.map_none, decide_eq_true_eq, Nat.lt_add_left_iff_pos, Nat.zero_lt_succ, Nat.reduceLeDiff, Nat.reduceAdd, Nat.reduceSub, Nat.reduceLT, Bool.bne_false, Bool.bne_true, i1, o1]) (by simp; omega) rfl
  exact mApp_v1 L (all_true true (List.range xs.length))
theorem same_ok : ∀ (n : Nat) (d : D), Tr n d → op__law_same n [d, d] = .ok (.bl true) [d, d] := by
  intro n
  induction n with
  | zero => intro d h; cases h
  | succ n ih =>
    intro d h
    show fnOp 2 3 [0, 1] (m__law_same (op__law_same n)) [d, d] = _
    cases h with
    | int _ i =>
      refine fnOp_rt (r := .bl true) (e := [.int i, .int i, .any]) rfl (sSeq_nx (sIf_f (e := [.int i, .int i, .any]) ?_ rfl) (sSeq_nx (sIf_f (e := [.int i, .int i, .any]) ?_ rfl) (sRet_ok (mAnd_t (e := [.int i, .int i, .any]) ?_ (mAnd_t (e := [.int i, .int i, .any]) ?_ ?_))))) (by simp)
      · show mApp _ _ [.int i, .int i, .any] = _
        simp -implicitDefEqProofs only [sSeq, sAsg, sIf, sRet, sRetV, sDrop, sPar, sNext, sBad, sCnt, sFor, mVar, mC, mApp, evA, putA, op1, op2, onInt, onI1, mAnd, mOr, mNot, mIf, mChain, frz_int, frz_bl, frz_non, frz_any, frz_node, frzL_nil, frzL_cons, frzL_dI, Tag.frz, D.isAny, asg, asgL, Option.bind, List.map_cons, List.map_nil, List.getElem?_cons_zero, List.getElem?_cons_succ, List.set_cons_zero, List.set_cons_succ, Bool.false_eq_true, if_false, if_true, reduceIte, List.length_cons, List.length_nil, Nat.zero_add, List.cons_append, List.nil_append, List.replicate, eqD_int, D.seq, intOf, Bool.not_true, Bool.not_false, oTup, oLst, Option.map_some, Option.map_none, decide_eq_true_eq, Nat.lt_add_left_iff_pos, Nat.zero_lt_succ, Nat.reduceLeDiff, Nat.reduceAdd, Nat.reduceSub, Nat.reduceLT, Bool.bne_false, Bool.bne_true, isi2_int]
      · simp -implicitDefEqProofs only [sSeq, sAsg, sIf, sRet, sRetV, sDrop, sPar, sNext, sBad, sCnt, sFor, mVar, mC, mApp, evA, putA, op1, op2, onInt, onI1, mAnd, mOr, mNot, mIf, mChain, frz_int, frz_bl, frz_non, frz_any, frz_node, frzL_nil, frzL_cons, frzL_dI, Tag.frz, D.isAny, asg, asgL, Option.bind, List.map_cons, List.map_nil, List.getElem?_cons_zero, List.getElem?_cons_succ, List.set_cons_zero, List.set_cons_succ, Bool.false_eq_true, if_false, if_true, reduceIte, List.length_cons, List.length_nil, Nat.zero_add, List.cons_append, List.nil_append, List.replicate, eqD_int, D.seq, intOf, Bool.not_true, Bool.not_false, oTup, oLst, Option.map_some, Option.map_none, decide_eq_true_eq, Nat.lt_add_left_iff_pos, Nat.zero_lt_succ, Nat.reduceLeDiff, Nat.reduceAdd, Nat.reduceSub, Nat.reduceLT, Bool.bne_false, Bool.bne_true, onNon, isNon]
      · simp -implicitDefEqProofs only [sSeq, sAsg, sIf, sRet, sRetV, sDrop, sPar, sNext, sBad, sCnt, sFor, mVar, mC, mApp, evA, putA, op1, op2, onInt, onI1, mAnd, mOr, mNot, mIf, mChain, frz_int, frz_bl, frz_non, frz_any, frz_node, frzL_nil, frzL_cons, frzL_dI, Tag.frz, D.isAny, asg, asgL, Option.bind, List.map_cons, List.map_nil, List.getElem?_cons_zero, List.getElem?_cons_succ, List.set_cons_zero, List.set_cons_succ, Bool.false_eq_true, if_false, if_true, reduceIte, List.length_cons, List.length_nil, Nat.zero_add, List.cons_append, List.nil_append, List.replicate, eqD_int, D.seq, intOf, Bool.not_true, Bool.not_false, oTup, oLst, Option.map_some, Option.map_none, decide_eq_true_eq, Nat.lt_add_left_iff_pos, Nat.zero_lt_succ, Nat.reduceLeDiff, Nat.reduceAdd, Nat.reduceSub, Nat.reduceLT, Bool.bne_false, Bool.bne_true, isi_int_int]
      · simp -implicitDefEqProofs only [sSeq, sAsg, sIf, sRet, sRetV, sDrop, sPar, sNext, sBad, sCnt, sFor, mVar, mC, mApp, evA, putA, op1, op2, onInt, onI1, mAnd, mOr, mNot, mIf, mChain, frz_int, frz_bl, frz_non, frz_any, frz_node, frzL_nil, frzL_cons, frzL_dI, Tag.frz, D.isAny, asg, asgL, Option.bind, List.map_cons, List.map_nil, List.getElem?_cons_zero, List.getElem?_cons_succ, List.set_cons_zero, List.set_cons_succ, Bool.false_eq_true, if_false, if_true, reduceIte, List.length_cons, List.length_nil, Nat.zero_add, List.cons_append, List.nil_append, List.replicate, eqD_int, D.seq, intOf, Bool.not_true, Bool.not_false, oTup, oLst, Option.map_some, Option.map_none, decide_eq_true_eq, Nat.lt_add_left_iff_pos, Nat.zero_lt_succ, Nat.reduceLeDiff, Nat.reduceAdd, Nat.reduceSub, Nat.reduceLT, Bool.bne_false, Bool.bne_true, isi_bool_int, eqD_bl]
        rfl
      · simp -implicitDefEqProofs only [sSeq, sAsg, sIf, sRet, sRetV, sDrop, sPar, sNext, sBad, sCnt, sFor, mVar, mC, mApp, evA, putA, op1, op2, onInt, onI1, mAnd, mOr, mNot, mIf, mChain, frz_int, frz_bl, frz_non, frz_any, frz_node, frzL_nil, frzL_cons, frzL_dI, Tag.frz, D.isAny, asg, asgL, Option.bind, List.map_cons, List.map_nil, List.getElem?_cons_zero, List.getElem?_cons_succ, List.set_cons_zero, List.set_cons_succ, Bool.false_eq_true, if_false, if_true, reduceIte, List.length_cons, List.length_nil, Nat.zero_add, List.cons_append, List.nil_append, List.replicate, eqD_int, D.seq, intOf, Bool.not_true, Bool.not_false, oTup, oLst, Option.map_some, Option.map_none, decide_eq_true_eq, Nat.lt_add_left_iff_pos, Nat.zero_lt_succ, Nat.reduceLeDiff, Nat.reduceAdd, Nat.reduceSub, Nat.reduceLT, Bool.bne_false, Bool.bne_true, eqD_int, decide_true]
    | tup _ xs hf hl h =>
      have S := same_seq (op := op__law_same n) (t := .tup) rfl hf hl fun k x hx => ih x (h k x hx)
      refine fnOp_rt (r := .bl true) (e := [.node .tup xs, .node .tup xs, .any]) rfl (sSeq_rt (sIf_t (e := [.node .tup xs, .node .tup xs, .any]) ?_ (sSeq_nx (sIf_f (e := [.node .tup xs, .node .tup xs, .any]) (mOr_f (e := [.node .tup xs, .node .tup xs, .any]) ?_ ?_) rfl) (sRet_ok (mAnd_t (e := [.node .tup xs, .node .tup xs, .any]) ?_ S))))) (by simp)
      · show mApp _ _ [.node .tup xs, .node .tup xs, .any] = _
        simp -implicitDefEqProofs only [sSeq, sAsg, sIf, sRet, sRetV, sDrop, sPar, sNext, sBad, sCnt, sFor, mVar, mC, mApp, evA, putA, op1, op2, onInt, onI1, mAnd, mOr, mNot, mIf, mChain, frz_int, frz_bl, frz_non, frz_any, frz_node, frzL_nil, frzL_cons, frzL_dI, Tag.frz, D.isAny, asg, asgL, Option.bind, List.map_cons, List.map_nil, List.getElem?_cons_zero, List.getElem?_cons_succ, List.set_cons_zero, List.set_cons_succ, Bool.false_eq_true, if_false, if_true, reduceIte, List.length_cons, List.length_nil, Nat.zero_add, List.cons_append, List.nil_append, List.replicate, eqD_int, D.seq, intOf, Bool.not_true, Bool.not_false, oTup, oLst, Option.map_some, Option.map_none, decide_eq_true_eq, Nat.lt_add_left_iff_pos, Nat.zero_lt_succ, Nat.reduceLeDiff, Nat.reduceAdd, Nat.reduceSub, Nat.reduceLT, Bool.bne_false, Bool.bne_true, isi2_tup]
      · simp -implicitDefEqProofs only [sSeq, sAsg, sIf, sRet, sRetV, sDrop, sPar, sNext, sBad, sCnt, sFor, mVar, mC, mApp, evA, putA, op1, op2, onInt, onI1, mAnd, mOr, mNot, mIf, mChain, frz_int, frz_bl, frz_non, frz_any, frz_node, frzL_nil, frzL_cons, frzL_dI, Tag.frz, D.isAny, asg, asgL, Option.bind, List.map_cons, List.map_nil, List.getElem?_cons_zero, List.getElem?_cons_succ, List.set_cons_zero, List.set_cons_succ, Bool.false_eq_true, if_false, if_true, reduceIte, List.length_cons, List.length_nil, Nat.zero_add, List.cons_append, List.nil_append, List.replicate, eqD_int, D.seq, intOf, Bool.not_true, Bool.not_false, oTup, oLst, Option.map_some, Option.map_none, decide_eq_true_eq, Nat.lt_add_left_iff_pos, Nat.zero_lt_succ, Nat.reduceLeDiff, Nat.reduceAdd, Nat.reduceSub, Nat.reduceLT, Bool.bne_false, Bool.bne_true, isi_lst_tup, eqD_bl]
        rfl
      · simp -implicitDefEqProofs only [sSeq, sAsg, sIf, sRet, sRetV, sDrop, sPar, sNext, sBad, sCnt, sFor, mVar, mC, mApp, evA, putA, op1, op2, onInt, onI1, mAnd, mOr, mNot, mIf, mChain, frz_int, frz_bl, frz_non, frz_any, frz_node, frzL_nil, frzL_cons, frzL_dI, Tag.frz, D.isAny, asg, asgL, Option.bind, List.map_cons, List.map_nil, List.getElem?_cons_zero, List.getElem?_cons_succ, List.set_cons_zero, List.set_cons_succ, Bool.false_eq_true, if_false, if_true, reduceIte, List.length_cons, List.length_nil, Nat.zero_add, List.cons_append, List.nil_append, List.replicate, eqD_int, D.seq, intOf, Bool.not_true, Bool.not_false, oTup, oLst, Option.map_some, Option.map_none, decide_eq_true_eq, Nat.lt_add_left_iff_pos, Nat.zero_lt_succ, Nat.reduceLeDiff, Nat.reduceAdd, Nat.reduceSub, Nat.reduceLT, Bool.bne_false, Bool.bne_true, isi_tup_tup, eqD_bl]
        rfl
      · simp -implicitDefEqProofs only [sSeq, sAsg, sIf, sRet, sRetV, sDrop, sPar, sNext, sBad, sCnt, sFor, mVar, mC, mApp, evA, putA, op1, op2, onInt, onI1, mAnd, mOr, mNot, mIf, mChain, frz_int, frz_bl, frz_non, frz_any, frz_node, frzL_nil, frzL_cons, frzL_dI, Tag.frz, D.isAny, asg, asgL, Option.bind, List.map_cons, List.map_nil, List.getElem?_cons_zero, List.getElem?_cons_succ, List.set_cons_zero, List.set_cons_succ, Bool.false_eq_true, if_false, if_true, reduceIte, List.length_cons, List.length_nil, Nat.zero_add, List.cons_append, List.nil_append, List.replicate, eqD_int, D.seq, intOf, Bool.not_true, Bool.not_false, oTup, oLst, Option.map_some, Option.map_none, decide_eq_true_eq, Nat.lt_add_left_iff_pos, Nat.zero_lt_succ, Nat.reduceLeDiff, Nat.reduceAdd, Nat.reduceSub, Nat.reduceLT, Bool.bne_false, Bool.bne_true, eqD_int, decide_true]
    | lst _ o xs hf hl h =>
      have S := same_seq (op := op__law_same n) (t := .lst o) rfl hf hl fun k x hx => ih x (h k x hx)
      refine fnOp_rt (r := .bl true) (e := [.node (.lst o) xs, .node (.lst o) xs, .any]) rfl (sSeq_rt (sIf_t (e := [.node (.lst o) xs, .node (.lst o) xs, .any]) ?_ (sSeq_nx (sIf_f (e := [.node (.lst o) xs, .node (.lst o) xs, .any]) (mOr_f (e := [.node (.lst o) xs, .node (.lst o) xs, .any]) ?_ ?_) rfl) (sRet_ok (mAnd_t (e := [.node (.lst o) xs, .node (.lst o) xs, .any]) ?_ S))))) (by simp)
      · show mApp _ _ [.node (.lst o) xs, .node (.lst o) xs, .any] = _
        simp -implicitDefEqProofs only [sSeq, sAsg, sIf, sRet, sRetV, sDrop, sPar, sNext, sBad, sCnt, sFor, mVar, mC, mApp, evA, putA, op1, op2, onInt, onI1, mAnd, mOr, mNot, mIf, mChain, frz_int, frz_bl, frz_non, frz_any, frz_node, frzL_nil, frzL_cons, frzL_dI, Tag.frz, D.isAny, asg, asgL, Option.bind, List.map_cons, List.map_nil, List.getElem?_cons_zero, List.getElem?_cons_succ, List.set_cons_zero, List.set_cons_succ, Bool.false_eq_true, if_false, if_true, reduceIte, List.length_cons, List.length_nil, Nat.zero_add, List.cons_append, List.nil_append, List.replicate, eqD_int, D.seq, intOf, Bool.not_true, Bool.not_false, oTup, oLst, Option.map_some, Option.map_none, decide_eq_true_eq, Nat.lt_add_left_iff_pos, Nat.zero_lt_succ, Nat.reduceLeDiff, Nat.reduceAdd, Nat.reduceSub, Nat.reduceLT, Bool.bne_false, Bool.bne_true, isi2_lst]
      · simp -implicitDefEqProofs only [sSeq, sAsg, sIf, sRet, sRetV, sDrop, sPar, sNext, sBad, sCnt, sFor, mVar, mC, mApp, evA, putA, op1, op2, onInt, onI1, mAnd, mOr, mNot, mIf, mChain, frz_int, frz_bl, frz_non, frz_any, frz_node, frzL_nil, frzL_cons, frzL_dI, Tag.frz, D.isAny, asg, asgL, Option.bind, List.map_cons, List.map_nil, List.getElem?_cons_zero, List.getElem?_cons_succ, List.set_cons_zero, List.set_cons_succ, Bool.false_eq_true, if_false, if_true, reduceIte, List.length_cons, List.length_nil, Nat.zero_add, List.cons_append, List.nil_append, List.replicate, eqD_int, D.seq, intOf, Bool.not_true, Bool.not_false, oTup, oLst, Option.map_some, Option.map_none, decide_eq_true_eq, Nat.lt_add_left_iff_pos, Nat.zero_lt_succ, Nat.reduceLeDiff, Nat.reduceAdd, Nat.reduceSub, Nat.reduceLT, Bool.bne_false, Bool.bne_true, isi_lst_lst, eqD_bl]
        rfl
      · simp -implicitDefEqProofs only [sSeq, sAsg, sIf, sRet, sRetV, sDrop, sPar, sNext, sBad, sCnt, sFor, mVar, mC, mApp, evA, putA, op1, op2, onInt, onI1, mAnd, mOr, mNot, mIf, mChain, frz_int, frz_bl, frz_non, frz_any, frz_node, frzL_nil, frzL_cons, frzL_dI, Tag.frz, D.isAny, asg, asgL, Option.bind, List.map_cons, List.map_nil, List.getElem?_cons_zero, List.getElem?_cons_succ, List.set_cons_zero, List.set_cons_succ, Bool.false_eq_true, if_false, if_true, reduceIte, List.length_cons, List.length_nil, Nat.zero_add, List.cons_append, List.nil_append, List.replicate, eqD_int, D.seq, intOf, Bool.not_true, Bool.not_false, oTup, oLst, Option.map_some, Option.map_none, decide_eq_true_eq, Nat.lt_add_left_iff_pos, Nat.zero_lt_succ, Nat.reduceLeDiff, Nat.reduceAdd, Nat.reduceSub, Nat.reduceLT, Bool.bne_false, Bool.bne_true, isi_tup_lst, eqD_bl]
        rfl
      · simp -implicitDefEqProofs only [sSeq, sAsg, sIf, sRet, sRetV, sDrop, sPar, sNext, sBad, sCnt, sFor, mVar, mC, mApp, evA, putA, op1, op2, onInt, onI1, mAnd, mOr, mNot, mIf, mChain, frz_int, frz_bl, frz_non, frz_any, frz_node, frzL_nil, frzL_cons, frzL_dI, Tag.frz, D.isAny, asg, asgL, Option.bind, List.map_cons, List.map_nil, List.getElem?_cons_zero, List.getElem?_cons_succ, List.set_cons_zero, List.set_cons_succ, Bool.false_eq_true, if_false, if_true, reduceIte, List.length_cons, List.length_nil, Nat.zero_add, List.cons_append, List.nil_append, List.replicate, eqD_int, D.seq, intOf, Bool.not_true, Bool.not_false, oTup, oLst, Option.map_some, Option.map_none, decide_eq_true_eq, Nat.lt_add_left_iff_pos, Nat.zero_lt_succ, Nat.reduceLeDiff, Nat.reduceAdd, Nat.reduceSub, Nat.reduceLT, Bool.bne_false, Bool.bne_true, eqD_int, decide_true]
theorem tr_ints (n : Nat) (l : List Int) (hl : l.length ≤ 99999) : Tr (n + 2) (bagD l) := .tup _ _ (isFrzL_dI l) (by simpa using hl) fun k x hx => by
  rw [dI_get] at hx
  cases h : l[k]? with
  | none => rw [h] at hx; cases hx
  | some i =>
    rw [h] at hx
    cases hx
    exact .int _ _
end Z

set_option Elab.async false
set_option linter.all false
set_option maxRecDepth 100000
set_option maxHeartbeats 4000000
namespace Z
open PySem PySem.Spec PyProof.Rows
open L2 StX

/-! ### what the program checks -/
theorem shortb_ok {v s : Nat} {f : List Int → Int} {b : List Int} (h1 : 1 ≤ v) (h2 : v ≤ 4) (h3 : 1 ≤ s) (h4 : s ≤ 6) (hb : b ∈ BL v (s - 1)) : op_is_short_bag [bd false v s f, bagD b] = .ok (.bl true) [bd false v s f, bagD b] := by
  have es : ((s : Nat) : Int) - 1 = ((s - 1 : Nat) : Int) := by omega
  have IB := dfOp_ok (fullb_all h1 h2 (show s - 1 ≤ 6 by omega) b hb) rfl
  refine fnOp_rt (r := .bl true) (e := [bd false v s f, bagD b]) rfl (sRet_ok ?_) (by simp)
  show mApp _ _ [bd false v s f, bagD b] = _
  simp -implicitDefEqProofs only [sSeq, sAsg, sIf, sRet, sRetV, sDrop, sPar, sNext, sBad, sCnt, sFor, mVar, mC, mApp, evA, putA, op1, op2, onInt, onI1, mAnd, mOr, mNot, mIf, mChain, frz_int, frz_bl, frz_non, frz_any, frz_node, frzL_nil, frzL_cons, frzL_dI, Tag.frz, D.isAny, asg, asgL, Option.bind, List.map_cons, List.map_nil, List.getElem?_cons_zero, List.getElem?_cons_succ, List.set_cons_zero, List.set_cons_succ, Bool.false_eq_true, if_false, if_true, reduceIte, List.length_cons, List.length_nil, Nat.zero_add, List.cons_append, List.nil_append, List.replicate, eqD_int, D.seq, intOf, Bool.not_true, Bool.not_false, oTup, oLst, Option.map_some, Option.map_none, decide_eq_true_eq, Nat.lt_add_left_iff_pos, Nat.zero_lt_succ, Nat.reduceLeDiff, Nat.reduceAdd, Nat.reduceSub, Nat.reduceLT, Bool.bne_false, Bool.bne_true, fld0, fld1, es, IB]
theorem cshort_ok {v s : Nat} {f : List Int → Int} {b : List Int} (h1 : 1 ≤ v) (h2 : v ≤ 4) (h3 : 1 ≤ s) (h4 : s ≤ 6) (hb : b ∈ BL v (s - 1)) : op_check_short_bag [bd false v s f, bagD b] = .ok .non [bd false v s f, bagD b] := by
  have IB := dfOp_ok (shortb_ok (f := f) h1 h2 h3 h4 hb) rfl
  refine fnOp_nx (e := [bd false v s f, bagD b]) rfl (sIf_f (e := [bd false v s f, bagD b]) (mNot_ok (b := true) ?_) rfl) (by simp)
  show mApp _ _ [bd false v s f, bagD b] = _
  simp -implicitDefEqProofs only [sSeq, sAsg, sIf, sRet, sRetV, sDrop, sPar, sNext, sBad, sCnt, sFor, mVar, mC, mApp, evA, putA, op1, op2, onInt, onI1, mAnd, mOr, mNot, mIf, mChain, frz_int, frz_bl, frz_non, frz_any, frz_node, frzL_nil, frzL_cons, frzL_dI, Tag.frz, D.isAny, asg, asgL, Option.bind, List.map_cons, List.map_nil, List.getElem?_cons_zero, List.getElem?_cons_succ, List.set_cons_zero, List.set_cons_succ, Bool.false_eq_true, if_false, if_true, reduceIte, List.length_cons, List.length_nil, Nat.zero_add, List.cons_append, List.nil_append, List.replicate, eqD_int, D.seq, intOf, Bool.not_true, Bool.not_false, oTup, oLst, Option.map_some, Option.map_none, decide_eq_true_eq, Nat.lt_add_left_iff_pos, Nat.zero_lt_succ, Nat.reduceLeDiff, Nat.reduceAdd, Nat.reduceSub, Nat.reduceLT, Bool.bne_false, Bool.bne_true, IB]
/-- all changes of so many values -/
def chs (v : Nat) : List (List Int) := (List.range v).flatMap fun a : Nat => (List.range v).map fun c : Nat => [(a : Int), (c : Int)]
theorem chs_all {v : Nat} {a c : Int} (ha : 0 ≤ a) (ha2 : a < v) (hc : 0 ≤ c) (hc2 : c < v) : [a, c] ∈ chs v := by
  unfold chs
  rw [List.mem_flatMap]
  refine ⟨a.toNat, List.mem_range.mpr (by omega), List.mem_map.mpr ⟨c.toNat, List.mem_range.mpr (by omega), ?_⟩⟩
  rw [Int.toNat_of_nonneg ha, Int.toNat_of_nonneg hc]
theorem betw_all {v : Nat} (h1 : 1 ≤ v) (h2 : v ≤ 4) : ∀ p ∈ chs v, op_are_between [bagD p, .int 0, .int ((v - 1 : Nat) : Int)] = .ok (.bl true) [bagD p, .int 0, .int ((v - 1 : Nat) : Int)] := by
  refine List.map_inj_left.mp ?_
  match v, h1, h2 with
  | 1, _, _ => kernel_rfl
  | 2, _, _ => kernel_rfl
  | 3, _, _ => kernel_rfl
  | 4, _, _ => kernel_rfl
theorem istup_all {v : Nat} (h1 : 1 ≤ v) (h2 : v ≤ 4) : ∀ p ∈ chs v, op_is_tuple [bagD p, .int 2] = .ok (.bl true) [bagD p, .int 2] := by
  refine List.map_inj_left.mp ?_
  match v, h1, h2 with
  | 1, _, _ => kernel_rfl
  | 2, _, _ => kernel_rfl
  | 3, _, _ => kernel_rfl
  | 4, _, _ => kernel_rfl
theorem cchange_ok {v s : Nat} {f : List Int → Int} {a c : Int} (h1 : 1 ≤ v) (h2 : v ≤ 4) (ha : 0 ≤ a) (ha2 : a < v) (hc : 0 ≤ c) (hc2 : c < v) : op_check_change [bd false v s f, bagD [a, c]] = .ok .non [bd false v s f, bagD [a, c]] := by
  have es : ((v : Nat) : Int) - 1 = ((v - 1 : Nat) : Int) := by omega
  have mem := chs_all ha ha2 hc hc2
  have A := dfOp_ok (betw_all h1 h2 _ mem) rfl
  have B := dfOp_ok (istup_all h1 h2 _ mem) rfl
  have C : op_is_change [bd false v s f, bagD [a, c]] = .ok (.bl true) [bd false v s f, bagD [a, c]] := by
    refine fnOp_rt (r := .bl true) (e := [bd false v s f, bagD [a, c]]) rfl (sRet_ok (mAnd_t (e := [bd false v s f, bagD [a, c]]) ?_ ?_)) (by simp)
    · show mApp _ _ [bd false v s f, bagD [a, c]] = _
      simp -implicitDefEqProofs only [sSeq, sAsg, sIf, sRet, sRetV, sDrop, sPar, sNext, sBad, sCnt, sFor, mVar, mC, mApp, evA, putA, op1, op2, onInt, onI1, mAnd, mOr, mNot, mIf, mChain, frz_int, frz_bl, frz_non, frz_any, frz_node, frzL_nil, frzL_cons, frzL_dI, Tag.frz, D.isAny, asg, asgL, Option.bind, List.map_cons, List.map_nil, List.getElem?_cons_zero, List.getElem?_cons_succ, List.set_cons_zero, List.set_cons_succ, Bool.false_eq_true, if_false, if_true, reduceIte, List.length_cons, List.length_nil, Nat.zero_add, List.cons_append, List.nil_append, List.replicate, eqD_int, D.seq, intOf, Bool.not_true, Bool.not_false, oTup, oLst, Option.map_some, Option.map_none, decide_eq_true_eq, Nat.lt_add_left_iff_pos, Nat.zero_lt_succ, Nat.reduceLeDiff, Nat.reduceAdd, Nat.reduceSub, Nat.reduceLT, Bool.bne_false, Bool.bne_true, B]
    · simp -implicitDefEqProofs only [sSeq, sAsg, sIf, sRet, sRetV, sDrop, sPar, sNext, sBad, sCnt, sFor, mVar, mC, mApp, evA, putA, op1, op2, onInt, onI1, mAnd, mOr, mNot, mIf, mChain, frz_int, frz_bl, frz_non, frz_any, frz_node, frzL_nil, frzL_cons, frzL_dI, Tag.frz, D.isAny, asg, asgL, Option.bind, List.map_cons, List.map_nil, List.getElem?_cons_zero, List.getElem?_cons_succ, List.set_cons_zero, List.set_cons_succ, Bool.false_eq_true, if_false, if_true, reduceIte, List.length_cons, List.length_nil, Nat.zero_add, List.cons_append, List.nil_append, List.replicate, eqD_int, D.seq, intOf, Bool.not_true, Bool.not_false, oTup, oLst, Option.map_some, Option.map_none, decide_eq_true_eq, Nat.lt_add_left_iff_pos, Nat.zero_lt_succ, Nat.reduceLeDiff, Nat.reduceAdd, Nat.reduceSub, Nat.reduceLT, Bool.bne_false, Bool.bne_true, fld0, es, A]
  have D9 := dfOp_ok C rfl
  refine fnOp_nx (e := [bd false v s f, bagD [a, c]]) rfl (sIf_f (e := [bd false v s f, bagD [a, c]]) (mNot_ok (b := true) ?_) rfl) (by simp)
  show mApp _ _ [bd false v s f, bagD [a, c]] = _
  simp -implicitDefEqProofs only [sSeq, sAsg, sIf, sRet, sRetV, sDrop, sPar, sNext, sBad, sCnt, sFor, mVar, mC, mApp, evA, putA, op1, op2, onInt, onI1, mAnd, mOr, mNot, mIf, mChain, frz_int, frz_bl, frz_non, frz_any, frz_node, frzL_nil, frzL_cons, frzL_dI, Tag.frz, D.isAny, asg, asgL, Option.bind, List.map_cons, List.map_nil, List.getElem?_cons_zero, List.getElem?_cons_succ, List.set_cons_zero, List.set_cons_succ, Bool.false_eq_true, if_false, if_true, reduceIte, List.length_cons, List.length_nil, Nat.zero_add, List.cons_append, List.nil_append, List.replicate, eqD_int, D.seq, intOf, Bool.not_true, Bool.not_false, oTup, oLst, Option.map_some, Option.map_none, decide_eq_true_eq, Nat.lt_add_left_iff_pos, Nat.zero_lt_succ, Nat.reduceLeDiff, Nat.reduceAdd, Nat.reduceSub, Nat.reduceLT, Bool.bne_false, Bool.bne_true, D9]

/-! ### match_of -/
theorem frz_bd1 (v s : Nat) (f : List Int → Int) : (bd false v s f).frz = bd false v s f := frz_bd false v s f
theorem matchof_ok {v s : Nat} {f : List Int → Int} {b c : List Int} (h1 : 1 ≤ v) (h2 : v ≤ 4) (h3 : 1 ≤ s) (h4 : s ≤ 6) (hb : b ∈ BL v (s - 1)) (hc : c ∈ BL v (s - 1)) :
    op_match_of [bd false v s f, bagD b, bagD c] = .ok (.node (.lst true) ((outr (row v f c) 0 (row v f b)).map pairD)) [bd false v s f, bagD b, bagD c] := by
  have C1 := dfOp_ok (cshort_ok (f := f) h1 h2 h3 h4 hb) rfl
  have C2 := dfOp_ok (cshort_ok (f := f) h1 h2 h3 h4 hc) rfl
  have R := dfOp_ok (srows_ok (f := f) h1 h2 h3 h4) rfl
  have M := dfOp_ok (mrows_ok (r1 := row v f b) (r2 := row v f c) (by rw [length_row]; exact h2) (by rw [length_row]; exact h2)) rfl
  have g1 := get_ok (o := true) (bs := BL v (s - 1)) (g := rowT v f) hb (isFrz_bag _)
  have g2 := get_ok (o := true) (bs := BL v (s - 1)) (g := rowT v f) hc (isFrz_bag _)
  refine fnOp_rt (r := .node (.lst true) ((outr (row v f c) 0 (row v f b)).map pairD)) (e := [bd false v s f, bagD b, bagD c, tabD true (BL v (s - 1)) (rowT v f)]) rfl (sSeq_nx (e := [bd false v s f, bagD b, bagD c, .any]) (sDrop_ok (r := .non) ?_) (sSeq_nx (e := [bd false v s f, bagD b, bagD c, .any]) (sDrop_ok (r := .non) ?_) (sSeq_nx (e := [bd false v s f, bagD b, bagD c, tabD true (BL v (s - 1)) (rowT v f)]) (sAsg_ok (r := tabD true (BL v (s - 1)) (rowT v f)) (e := [bd false v s f, bagD b, bagD c, .any]) ?_ rfl) (sRet_ok ?_)))) (by simp)
  · show mApp _ _ [bd false v s f, bagD b, bagD c, .any] = _
    simp -implicitDefEqProofs only [sSeq, sAsg, sIf, sRet, sRetV, sDrop, sPar, sNext, sBad, sCnt, sFor, mVar, mC, mApp, evA, putA, op1, op2, onInt, onI1, mAnd, mOr, mNot, mIf, mChain, frz_int, frz_bl, frz_non, frz_any, frz_node, frzL_nil, frzL_cons, frzL_dI, Tag.frz, D.isAny, asg, asgL, Option.bind, List.map_cons, List.map_nil, List.getElem?_cons_zero, List.getElem?_cons_succ, List.set_cons_zero, List.set_cons_succ, Bool.false_eq_true, if_false, if_true, reduceIte, List.length_cons, List.length_nil, Nat.zero_add, List.cons_append, List.nil_append, List.replicate, eqD_int, D.seq, intOf, Bool.not_true, Bool.not_false, oTup, oLst, Option.map_some, Option.map_none, decide_eq_true_eq, Nat.lt_add_left_iff_pos, Nat.zero_lt_succ, Nat.reduceLeDiff, Nat.reduceAdd, Nat.reduceSub, Nat.reduceLT, Bool.bne_false, Bool.bne_true, C1]
  · simp -implicitDefEqProofs only [sSeq, sAsg, sIf, sRet, sRetV, sDrop, sPar, sNext, sBad, sCnt, sFor, mVar, mC, mApp, evA, putA, op1, op2, onInt, onI1, mAnd, mOr, mNot, mIf, mChain, frz_int, frz_bl, frz_non, frz_any, frz_node, frzL_nil, frzL_cons, frzL_dI, Tag.frz, D.isAny, asg, asgL, Option.bind, List.map_cons, List.map_nil, List.getElem?_cons_zero, List.getElem?_cons_succ, List.set_cons_zero, List.set_cons_succ, Bool.false_eq_true, if_false, if_true, reduceIte, List.length_cons, List.length_nil, Nat.zero_add, List.cons_append, List.nil_append, List.replicate, eqD_int, D.seq, intOf, Bool.not_true, Bool.not_false, oTup, oLst, Option.map_some, Option.map_none, decide_eq_true_eq, Nat.lt_add_left_iff_pos, Nat.zero_lt_succ, Nat.reduceLeDiff, Nat.reduceAdd, Nat.reduceSub, Nat.reduceLT, Bool.bne_false, Bool.bne_true, C2]
  · simp -implicitDefEqProofs only [sSeq, sAsg, sIf, sRet, sRetV, sDrop, sPar, sNext, sBad, sCnt, sFor, mVar, mC, mApp, evA, putA, op1, op2, onInt, onI1, mAnd, mOr, mNot, mIf, mChain, frz_int, frz_bl, frz_non, frz_any, frz_node, frzL_nil, frzL_cons, frzL_dI, Tag.frz, D.isAny, asg, asgL, Option.bind, List.map_cons, List.map_nil, List.getElem?_cons_zero, List.getElem?_cons_succ, List.set_cons_zero, List.set_cons_succ, Bool.false_eq_true, if_false, if_true, reduceIte, List.length_cons, List.length_nil, Nat.zero_add, List.cons_append, List.nil_append, List.replicate, eqD_int, D.seq, intOf, Bool.not_true, Bool.not_false, oTup, oLst, Option.map_some, Option.map_none, decide_eq_true_eq, Nat.lt_add_left_iff_pos, Nat.zero_lt_succ, Nat.reduceLeDiff, Nat.reduceAdd, Nat.reduceSub, Nat.reduceLT, Bool.bne_false, Bool.bne_true, R]
  · have G1 : mApp oDGet [(.peek 3), (.peek 1)] [bd false v s f, bagD b, bagD c, tabD true (BL v (s - 1)) (rowT v f)] = .ok (rowT v f b) [bd false v s f, bagD b, bagD c, tabD true (BL v (s - 1)) (rowT v f)] := by
      simp -implicitDefEqProofs only [sSeq, sAsg, sIf, sRet, sRetV, sDrop, sPar, sNext, sBad, sCnt, sFor, mVar, mC, mApp, evA, putA, op1, op2, onInt, onI1, mAnd, mOr, mNot, mIf, mChain, frz_int, frz_bl, frz_non, frz_any, frz_node, frzL_nil, frzL_cons, frzL_dI, Tag.frz, D.isAny, asg, asgL, Option.bind, List.map_cons, List.map_nil, List.getElem?_cons_zero, List.getElem?_cons_succ, List.set_cons_zero, List.set_cons_succ, Bool.false_eq_true, if_false, if_true, reduceIte, List.length_cons, List.length_nil, Nat.zero_add, List.cons_append, List.nil_append, List.replicate, eqD_int, D.seq, intOf, Bool.not_true, Bool.not_false, oTup, oLst, Option.map_some, Option.map_none, decide_eq_true_eq, Nat.lt_add_left_iff_pos, Nat.zero_lt_succ, Nat.reduceLeDiff, Nat.reduceAdd, Nat.reduceSub, Nat.reduceLT, Bool.bne_false, Bool.bne_true, g1]
    have G2 : mApp oDGet [(.peek 3), (.peek 2)] [bd false v s f, bagD b, bagD c, tabD true (BL v (s - 1)) (rowT v f)] = .ok (rowT v f c) [bd false v s f, bagD b, bagD c, tabD true (BL v (s - 1)) (rowT v f)] := by
      simp -implicitDefEqProofs only [sSeq, sAsg, sIf, sRet, sRetV, sDrop, sPar, sNext, sBad, sCnt, sFor, mVar, mC, mApp, evA, putA, op1, op2, onInt, onI1, mAnd, mOr, mNot, mIf, mChain, frz_int, frz_bl, frz_non, frz_any, frz_node, frzL_nil, frzL_cons, frzL_dI, Tag.frz, D.isAny, asg, asgL, Option.bind, List.map_cons, List.map_nil, List.getElem?_cons_zero, List.getElem?_cons_succ, List.set_cons_zero, List.set_cons_succ, Bool.false_eq_true, if_false, if_true, reduceIte, List.length_cons, List.length_nil, Nat.zero_add, List.cons_append, List.nil_append, List.replicate, eqD_int, D.seq, intOf, Bool.not_true, Bool.not_false, oTup, oLst, Option.map_some, Option.map_none, decide_eq_true_eq, Nat.lt_add_left_iff_pos, Nat.zero_lt_succ, Nat.reduceLeDiff, Nat.reduceAdd, Nat.reduceSub, Nat.reduceLT, Bool.bne_false, Bool.bne_true, g2]
    exact mApp_ok (evA_val G1 (evA_val G2 evA_nil)) M
end Z

set_option Elab.async false
set_option linter.all false
set_option maxRecDepth 100000
set_option maxHeartbeats 4000000
namespace Z
open PySem PySem.Spec PyProof.Rows
open L2 StX

/-! ### the law's own rows -/
/-- a board of the law's own, as it lies -/
abbrev lb (v s : Nat) (f : List Int → Int) : D := .node (.lst false) [.int v, .int s, .node (.lst false) (dI ((BL v s).map f))]
theorem lb0 (v s : Nat) (f : List Int → Int) : oIx [lb v s f, .int 0] = .ok (.int v) [lb v s f, .int 0] := ix_ok rfl rfl rfl (isFrz_int _)
theorem lb1 (v s : Nat) (f : List Int → Int) : oIx [lb v s f, .int 1] = .ok (.int s) [lb v s f, .int 1] := ix_ok rfl rfl rfl (isFrz_int _)
theorem lb2 (v s : Nat) (f : List Int → Int) : oIx [lb v s f, .int 2] = .ok (.node (.lst false) (dI ((BL v s).map f))) [lb v s f, .int 2] := ix_ok rfl rfl rfl (isFrz_node rfl (isFrzL_dI _))
theorem isFrzL_bags (bs : List (List Int)) : isFrzL (bs.map bagD) = true := by
  rw [isFrzL_all, List.all_map, List.all_eq_true]
  exact fun b _ => isFrz_bag b
theorem cat_ok {l m : List Int} (h : l.length + m.length ≤ 100000) : oCat [.node (.lst true) (dI l), .node (.lst true) (dI m)] = .ok (.node (.lst true) (dI (l ++ m))) [.any, .any] := by
  simp only [oCat, dI_length, if_pos h, frzL_dI, dI_append]
abbrev mLrV : M := mApp oIx [(.val (mApp oIx [(.peek 0), (.val (mC (.int 2)))])), (.peek 1)]
abbrev mLrK : M := mApp oIx [(.peek 3), (.peek 1)]
theorem range_at {n : Nat} {ys zs : List Nat} {x : Nat} (h : List.range n = ys ++ x :: zs) : x = ys.length ∧ ys.length < n := by
  have h2 : (List.range n)[ys.length]? = some x := by rw [h]; simp
  obtain ⟨hlt, he⟩ := List.getElem?_eq_some_iff.mp h2
  rw [List.getElem_range] at he
  rw [List.length_range] at hlt
  exact ⟨he.symm, hlt⟩
theorem lr_tab {v s : Nat} {f : List Int → Int} {o : Bool} {w : D} (h1 : 1 ≤ v) (h2 : v ≤ 4) (h4 : s ≤ 6) :
    ∃ z, loopS (.nm 1) (sDict 4 mLrV mLrK) ((List.range (BL v s).length).map fun k : Nat => D.int (k : Int)) [lb v s f, .any, .any, .node (.lst o) ((BL v s).map bagD), .node (.dt true []) [], w, .any] = .nx [lb v s f, z, .any, .node (.lst o) ((BL v s).map bagD), tabD true (BL v s) (fun b => .int (f b)), w, .any] := by
  have L := loopS_all (α := Nat) (t := .nm 1) (tof := fun k : Nat => D.int (k : Int)) (b := sDict 4 mLrV mLrK) (P := fun ys e => ∃ z, e = [lb v s f, z, .any, .node (.lst o) ((BL v s).map bagD), tabD true ((BL v s).take ys.length) (fun b => .int (f b)), w, .any]) (List.range (BL v s).length) (List.range (BL v s).length) [] [lb v s f, .any, .any, .node (.lst o) ((BL v s).map bagD), .node (.dt true []) [], w, .any] rfl
    (fun ys x zs e hx ⟨z, he⟩ => by
      subst he
      obtain ⟨rfl, hlt⟩ := range_at hx
      have nd := BL_nodup h1 h2 h4
      have hb : (BL v s)[ys.length]? = some (BL v s)[ys.length] := List.getElem?_eq_getElem hlt
      have ht : (BL v s).take (ys.length + 1) = (BL v s).take ys.length ++ [(BL v s)[ys.length]] := List.take_succ_eq_append_getElem hlt
      have nn : (BL v s)[ys.length] ∉ (BL v s).take ys.length := by
        have h5 : ((BL v s).take (ys.length + 1)).Nodup := nd.sublist (List.take_sublist _ _)
        rw [ht, List.nodup_append] at h5
        intro hy
        exact h5.2.2 _ hy _ (List.mem_cons_self ..) rfl
      have hl : (((BL v s).take ys.length).map fun b => D.int (f b)).length < 100000 := by
        have := (BL_len h1 h2 h4).2
        simp
        omega
      have hs2 : ((BL v s).map f)[ys.length]? = some (f (BL v s)[ys.length]) := by rw [List.getElem?_map, hb]; rfl
      have i1 := ix_ints (t := .lst false) (l := (BL v s).map f) rfl hs2
      have i2 : oIx [.node (.lst o) ((BL v s).map bagD), .int (ys.length : Int)] = .ok (bagD (BL v s)[ys.length]) [.node (.lst o) ((BL v s).map bagD), .int (ys.length : Int)] := ix_ok rfl (ixN_nat (by simpa using hlt)) (by rw [List.getElem?_map, hb]; rfl) (isFrz_bag _)
      generalize (BL v s)[ys.length] = b at hb ht nn i1 i2
      have mv : mLrV [lb v s f, .int (ys.length : Int), .any, .node (.lst o) ((BL v s).map bagD), tabD true ((BL v s).take ys.length) (fun b => .int (f b)), w, .any] = .ok (.int (f b)) [lb v s f, .int (ys.length : Int), .any, .node (.lst o) ((BL v s).map bagD), tabD true ((BL v s).take ys.length) (fun b => .int (f b)), w, .any] := by
        simp -implicitDefEqProofs only [sSeq, sAsg, sIf, sRet, sRetV, sDrop, sPar, sNext, sBad, sCnt, sFor, mVar, mC, mApp, evA, putA, op1, op2, onInt, onI1, mAnd, mOr, mNot, mIf, mChain, frz_int, frz_bl, frz_non, frz_any, frz_node, frzL_nil, frzL_cons, frzL_dI, Tag.frz, D.isAny, asg, asgL, Option.bind, List.map_cons, List.map_nil, List.getElem?_cons_zero, List.getElem?_cons_succ, List.set_cons_zero, List.set_cons_succ, Bool.false_eq_true, if_false, if_true, reduceIte, List.length_cons, List.length_nil, Nat.zero_add, List.cons_append, List.nil_append, List.replicate, eqD_int, D.seq, intOf, Bool.not_true, Bool.not_false, oTup, oLst, Option.map_some, Option.map_none, decide_eq_true_eq, Nat.lt_add_left_iff_pos, Nat.zero_lt_succ, Nat.reduceLeDiff, Nat.reduceAdd, Nat.reduceSub, Nat.reduceLT, Bool.bne_false, Bool.bne_true, lb2, i1]
      have mk : mLrK [lb v s f, .int (ys.length : Int), .any, .node (.lst o) ((BL v s).map bagD), tabD true ((BL v s).take ys.length) (fun b => .int (f b)), w, .any] = .ok (bagD b) [lb v s f, .int (ys.length : Int), .any, .node (.lst o) ((BL v s).map bagD), tabD true ((BL v s).take ys.length) (fun b => .int (f b)), w, .any] := by
        simp -implicitDefEqProofs only [sSeq, sAsg, sIf, sRet, sRetV, sDrop, sPar, sNext, sBad, sCnt, sFor, mVar, mC, mApp, evA, putA, op1, op2, onInt, onI1, mAnd, mOr, mNot, mIf, mChain, frz_int, frz_bl, frz_non, frz_any, frz_node, frzL_nil, frzL_cons, frzL_dI, Tag.frz, D.isAny, asg, asgL, Option.bind, List.map_cons, List.map_nil, List.getElem?_cons_zero, List.getElem?_cons_succ, List.set_cons_zero, List.set_cons_succ, Bool.false_eq_true, if_false, if_true, reduceIte, List.length_cons, List.length_nil, Nat.zero_add, List.cons_append, List.nil_append, List.replicate, eqD_int, D.seq, intOf, Bool.not_true, Bool.not_false, oTup, oLst, Option.map_some, Option.map_none, decide_eq_true_eq, Nat.lt_add_left_iff_pos, Nat.zero_lt_succ, Nat.reduceLeDiff, Nat.reduceAdd, Nat.reduceSub, Nat.reduceLT, Bool.bne_false, Bool.bne_true, i2]
      refine ⟨_, _, rfl, Or.inl (sDict_ok (b := b) (bs := (BL v s).take ys.length) mv rfl mk rfl nn hl), .int (ys.length : Int), ?_⟩
      rw [List.length_append, List.length_cons, List.length_nil, Nat.zero_add, ht]
      show [_, _, _, _, _, _, _] = _
      simp only [tabD, List.map_append, List.map_cons, List.map_nil]) ⟨_, rfl⟩
  obtain ⟨e', L1, z, rfl⟩ := L
  refine ⟨z, ?_⟩
  rw [List.length_range, List.take_length] at L1
  exact L1

abbrev mLrIn : M := mApp oDGet [(.peek 4), (.val (mApp oTuple [(.val (mApp oSorted [(.val (mApp oCat [(.val (mApp oList [(.peek 2)])), (.val (mApp oLst [(.val (mVar 6))]))]))]))]))]
abbrev mLrLc : M := mLc (iRng [.val (mApp oIx [(.peek 0), (.val (mC (.int 0)))])]) (.nm 6) none mLrIn [6]
theorem lr_in {v s : Nat} {f : List Int → Int} {x : List Int} {t z w : D} {k : Nat} (hx : x.length ≤ 99999) (mem : srtI (x ++ [(k : Int)]) ∈ BL v s) :
    mLrIn [lb v s f, z, bagD x, w, tabD true (BL v s) (fun b => .int (f b)), t, .int (k : Int)] = .ok (.int (f (srtI (x ++ [(k : Int)])))) [lb v s f, z, bagD x, w, tabD true (BL v s) (fun b => .int (f b)), t, .int (k : Int)] := by
  have c : oCat [.node (.lst true) (dI x), .node (.lst true) [.int (k : Int)]] = .ok (.node (.lst true) (dI (x ++ [(k : Int)]))) [.any, .any] := cat_ok (l := x) (m := [(k : Int)]) (by simp; omega)
  have g := get_ok (o := true) (bs := BL v s) (g := fun b => D.int (f b)) mem (isFrz_int _)
  have lt := list_tup x
  simp -implicitDefEqProofs only [sSeq, sAsg, sIf, sRet, sRetV, sDrop, sPar, sNext, sBad, sCnt, sFor, mVar, mC, mApp, evA, putA, op1, op2, onInt, onI1, mAnd, mOr, mNot, mIf, mChain, frz_int, frz_bl, frz_non, frz_any, frz_node, frzL_nil, frzL_cons, frzL_dI, Tag.frz, D.isAny, asg, asgL, Option.bind, List.map_cons, List.map_nil, List.getElem?_cons_zero, List.getElem?_cons_succ, List.set_cons_zero, List.set_cons_succ, Bool.false_eq_true, if_false, if_true, reduceIte, List.length_cons, List.length_nil, Nat.zero_add, List.cons_append, List.nil_append, List.replicate, eqD_int, D.seq, intOf, Bool.not_true, Bool.not_false, oTup, oLst, Option.map_some, Option.map_none, decide_eq_true_eq, Nat.lt_add_left_iff_pos, Nat.zero_lt_succ, Nat.reduceLeDiff, Nat.reduceAdd, Nat.reduceSub, Nat.reduceLT, Bool.bne_false, Bool.bne_true, lt, c, sorted_ok, tuple_ok, g]
theorem lr_lc {v s : Nat} {f : List Int → Int} {x : List Int} {t z w : D} (h2 : v ≤ 4) (hx : x.length ≤ 99999) (mem : ∀ k ∈ List.range v, srtI (x ++ [(k : Int)]) ∈ BL v s) :
    mLrLc [lb v s f, z, bagD x, w, tabD true (BL v s) (fun b => .int (f b)), t, .any] = .ok (rowL true v f x) [lb v s f, z, bagD x, w, tabD true (BL v s) (fun b => .int (f b)), t, .any] := by
  rw [rowL, row, int_map]
  have s0 : iRng [.val (mApp oIx [(.peek 0), (.val (mC (.int 0)))])] [lb v s f, z, bagD x, w, tabD true (BL v s) (fun b => .int (f b)), t, .any] = .ok ((List.range v).map fun k : Nat => D.int (k : Int)) [lb v s f, z, bagD x, w, tabD true (BL v s) (fun b => .int (f b)), t, .any] := iRng_nat (n := v) (by simp -implicitDefEqProofs only [sSeq, sAsg, sIf, sRet, sRetV, sDrop, sPar, sNext, sBad, sCnt, sFor, mVar, mC, mApp, evA, putA, op1, op2, onInt, onI1, mAnd, mOr, mNot, mIf, mChain, frz_int, frz_bl, frz_non, frz_any, frz_node, frzL_nil, frzL_cons, frzL_dI, Tag.frz, D.isAny, asg, asgL, Option.bind, List.map_cons, List.map_nil, List.getElem?_cons_zero, List.getElem?_cons_succ, List.set_cons_zero, List.set_cons_succ, Bool.false_eq_true, if_false, if_true, reduceIte, List.length_cons, List.length_nil, Nat.zero_add, List.cons_append, List.nil_append, List.replicate, eqD_int, D.seq, intOf, Bool.not_true, Bool.not_false, oTup, oLst, Option.map_some, Option.map_none, decide_eq_true_eq, Nat.lt_add_left_iff_pos, Nat.zero_lt_succ, Nat.reduceLeDiff, Nat.reduceAdd, Nat.reduceSub, Nat.reduceLT, Bool.bne_false, Bool.bne_true, lb0]) (by omega)
  refine mLc_map (tof := fun k : Nat => D.int (k : Int)) (f := fun k : Nat => D.int (f (srtI (x ++ [(k : Int)])))) (xs := List.range v) s0 (by simp [anyAll, keepP]) ?_ (by simp; omega) rfl
  intro k hk
  exact ⟨_, lr_in hx (mem k hk), rfl⟩
theorem lr_loop {v s : Nat} {f : List Int → Int} {z w : D} (h1 : 1 ≤ v) (h2 : v ≤ 4) (h3 : 1 ≤ s) (h4 : s ≤ 6) :
    ∃ y, loopS (.nm 2) (sDict 5 mLrLc (mVar 2)) ((BL v (s - 1)).map bagD) [lb v s f, z, .any, w, tabD true (BL v s) (fun b => .int (f b)), .node (.dt true []) [], .any] = .nx [lb v s f, z, y, w, tabD true (BL v s) (fun b => .int (f b)), tabD true (BL v (s - 1)) (rowL true v f), .any] := by
  have L := loopS_all (α := List Int) (t := .nm 2) (tof := bagD) (b := sDict 5 mLrLc (mVar 2)) (P := fun ys e => ∃ y, e = [lb v s f, z, y, w, tabD true (BL v s) (fun b => .int (f b)), tabD true ys (rowL true v f), .any]) (BL v (s - 1)) (BL v (s - 1)) [] [lb v s f, z, .any, w, tabD true (BL v s) (fun b => .int (f b)), .node (.dt true []) [], .any] rfl
    (fun ys x zs e hx ⟨y, he⟩ => by
      subst he
      have hm : x ∈ BL v (s - 1) := by rw [hx]; simp
      have nd : x ∉ ys := by
        have := BL_nodup h1 h2 (show s - 1 ≤ 6 by omega)
        rw [hx, List.nodup_append] at this
        intro hy
        exact this.2.2 x hy x (List.mem_cons_self ..) rfl
      have hl : (ys.map (rowL true v f)).length < 100000 := by
        have := (BL_len h1 h2 (show s - 1 ≤ 6 by omega)).2
        rw [hx] at this
        simp at this ⊢
        omega
      have e : s - 1 + 1 = s := by omega
      have hx5 : x.length ≤ 99999 := by
        have := (BL_in h1 h2 (show s - 1 ≤ 6 by omega) x hm).1
        omega
      have mem : ∀ k ∈ List.range v, srtI (x ++ [(k : Int)]) ∈ BL v s := fun k hk => by
        have := BL_more h1 h2 (show s - 1 ≤ 5 by omega) x hm k hk
        rwa [e] at this
      refine ⟨_, _, rfl, Or.inl (sDict_ok (b := x) (bs := ys) (lr_lc h2 hx5 mem) rfl (mk := mVar 2) (mVar_s (d := bagD x) rfl rfl (frz_bag x)) rfl nd hl), ?_⟩
      refine ⟨bagD x, ?_⟩
      show [_, _, _, _, _, _, _] = _
      simp only [tabD, List.map_append, List.map_cons, List.map_nil]) ⟨_, rfl⟩
  obtain ⟨e', L1, y, rfl⟩ := L
  exact ⟨y, L1⟩
theorem iSeq_ok {m : M} {env e : Env} {d : D} {xs ys : List D} (h : m env = .ok d e) (hs : d.seq = some xs) (hf : frzL xs = ys) : iSeq m env = .ok ys e := by
  simp only [iSeq, h, hs, hf]
theorem lrows_ok {v s : Nat} {f : List Int → Int} (h1 : 1 ≤ v) (h2 : v ≤ 4) (h3 : 1 ≤ s) (h4 : s ≤ 6) : op__law_rows [lb v s f] = .ok (tabD true (BL v (s - 1)) (rowL true v f)) [lb v s f] := by
  have es : ((s : Nat) : Int) - 1 = ((s - 1 : Nat) : Int) := by omega
  have B1 := dfOp_ok (lbags_ok h1 h2 h4) rfl
  have B2 := dfOp_ok (lbags_ok h1 h2 (show s - 1 ≤ 6 by omega)) rfl
  generalize hq : decide (s - 1 = 0) = q at B2
  have hs0 : decide (s = 0) = false := decide_eq_false (by omega)
  rw [hs0] at B1
  obtain ⟨z, L1⟩ := lr_tab (f := f) (o := false) (w := .node (.dt true []) []) h1 h2 h4
  obtain ⟨y, L2⟩ := lr_loop (f := f) (z := z) (w := .node (.lst false) ((BL v s).map bagD)) h1 h2 h3 h4
  have A : sAsg (.tp [(.nm 3), (.nm 4), (.nm 5)]) (mApp oTup [(.val (mApp (dfOp op__law_bags []) [(.val (mApp oIx [(.peek 0), (.val (mC (.int 0)))])), (.val (mApp oIx [(.peek 0), (.val (mC (.int 1)))]))])), (.val mNewT), (.val mNewT)]) [lb v s f, .any, .any, .any, .any, .any, .any] = .nx [lb v s f, .any, .any, .node (.lst false) ((BL v s).map bagD), .node (.dt true []) [], .node (.dt true []) [], .any] := by
    have Y0 : mApp oIx [(.peek 0), (.val (mC (.int 0)))] [lb v s f, .any, .any, .any, .any, .any, .any] = .ok (.int v) [lb v s f, .any, .any, .any, .any, .any, .any] := by simp -implicitDefEqProofs only [sSeq, sAsg, sIf, sRet, sRetV, sDrop, sPar, sNext, sBad, sCnt, sFor, mVar, mC, mApp, evA, putA, op1, op2, onInt, onI1, mAnd, mOr, mNot, mIf, mChain, frz_int, frz_bl, frz_non, frz_any, frz_node, frzL_nil, frzL_cons, frzL_dI, Tag.frz, D.isAny, asg, asgL, Option.bind, List.map_cons, List.map_nil, List.getElem?_cons_zero, List.getElem?_cons_succ, List.set_cons_zero, List.set_cons_succ, Bool.false_eq_true, if_false, if_true, reduceIte, List.length_cons, List.length_nil, Nat.zero_add, List.cons_append, List.nil_append, List.replicate, eqD_int, D.seq, intOf, Bool.not_true, Bool.not_false, oTup, oLst, Option.map_some, Option.map_none, decide_eq_true_eq, Nat.lt_add_left_iff_pos, Nat.zero_lt_succ, Nat.reduceLeDiff, Nat.reduceAdd, Nat.reduceSub, Nat.reduceLT, Bool.bne_false, Bool.bne_true, lb0]
    have Y1 : mApp oIx [(.peek 0), (.val (mC (.int 1)))] [lb v s f, .any, .any, .any, .any, .any, .any] = .ok (.int s) [lb v s f, .any, .any, .any, .any, .any, .any] := by simp -implicitDefEqProofs only [sSeq, sAsg, sIf, sRet, sRetV, sDrop, sPar, sNext, sBad, sCnt, sFor, mVar, mC, mApp, evA, putA, op1, op2, onInt, onI1, mAnd, mOr, mNot, mIf, mChain, frz_int, frz_bl, frz_non, frz_any, frz_node, frzL_nil, frzL_cons, frzL_dI, Tag.frz, D.isAny, asg, asgL, Option.bind, List.map_cons, List.map_nil, List.getElem?_cons_zero, List.getElem?_cons_succ, List.set_cons_zero, List.set_cons_succ, Bool.false_eq_true, if_false, if_true, reduceIte, List.length_cons, List.length_nil, Nat.zero_add, List.cons_append, List.nil_append, List.replicate, eqD_int, D.seq, intOf, Bool.not_true, Bool.not_false, oTup, oLst, Option.map_some, Option.map_none, decide_eq_true_eq, Nat.lt_add_left_iff_pos, Nat.zero_lt_succ, Nat.reduceLeDiff, Nat.reduceAdd, Nat.reduceSub, Nat.reduceLT, Bool.bne_false, Bool.bne_true, lb1]
    have X := mApp_ok (evA_val Y0 (evA_val Y1 evA_nil)) B1
    exact sAsg_ok (mApp_ok (f := oTup) (evA_val X (evA_val (m := mNewT) rfl (evA_val (m := mNewT) rfl evA_nil))) rfl) rfl
  have s1 : iRng [.val (mApp oLen [(.peek 3)])] [lb v s f, .any, .any, .node (.lst false) ((BL v s).map bagD), .node (.dt true []) [], .node (.dt true []) [], .any] = .ok ((List.range (BL v s).length).map fun k : Nat => D.int (k : Int)) [lb v s f, .any, .any, .node (.lst false) ((BL v s).map bagD), .node (.dt true []) [], .node (.dt true []) [], .any] := iRng_nat (by simp -implicitDefEqProofs only [sSeq, sAsg, sIf, sRet, sRetV, sDrop, sPar, sNext, sBad, sCnt, sFor, mVar, mC, mApp, evA, putA, op1, op2, onInt, onI1, mAnd, mOr, mNot, mIf, mChain, frz_int, frz_bl, frz_non, frz_any, frz_node, frzL_nil, frzL_cons, frzL_dI, Tag.frz, D.isAny, asg, asgL, Option.bind, List.map_cons, List.map_nil, List.getElem?_cons_zero, List.getElem?_cons_succ, List.set_cons_zero, List.set_cons_succ, Bool.false_eq_true, if_false, if_true, reduceIte, List.length_cons, List.length_nil, Nat.zero_add, List.cons_append, List.nil_append, List.replicate, eqD_int, D.seq, intOf, Bool.not_true, Bool.not_false, oTup, oLst, Option.map_some, Option.map_none, decide_eq_true_eq, Nat.lt_add_left_iff_pos, Nat.zero_lt_succ, Nat.reduceLeDiff, Nat.reduceAdd, Nat.reduceSub, Nat.reduceLT, Bool.bne_false, Bool.bne_true, List.length_map]) (by
    have := (BL_len h1 h2 h4).2
    omega)
  have s2 : iSeq (mApp (dfOp op__law_bags []) [(.val (mApp oIx [(.peek 0), (.val (mC (.int 0)))])), (.val (mApp oSub [(.val (mApp oIx [(.peek 0), (.val (mC (.int 1)))])), (.val (mC (.int 1)))]))]) [lb v s f, z, .any, .node (.lst false) ((BL v s).map bagD), tabD true (BL v s) (fun b => .int (f b)), .node (.dt true []) [], .any] = .ok ((BL v (s - 1)).map bagD) [lb v s f, z, .any, .node (.lst false) ((BL v s).map bagD), tabD true (BL v s) (fun b => .int (f b)), .node (.dt true []) [], .any] := by
    have Y0 : mApp oIx [(.peek 0), (.val (mC (.int 0)))] [lb v s f, z, .any, .node (.lst false) ((BL v s).map bagD), tabD true (BL v s) (fun b => .int (f b)), .node (.dt true []) [], .any] = .ok (.int v) [lb v s f, z, .any, .node (.lst false) ((BL v s).map bagD), tabD true (BL v s) (fun b => .int (f b)), .node (.dt true []) [], .any] := by simp -implicitDefEqProofs only [sSeq, sAsg, sIf, sRet, sRetV, sDrop, sPar, sNext, sBad, sCnt, sFor, mVar, mC, mApp, evA, putA, op1, op2, onInt, onI1, mAnd, mOr, mNot, mIf, mChain, frz_int, frz_bl, frz_non, frz_any, frz_node, frzL_nil, frzL_cons, frzL_dI, Tag.frz, D.isAny, asg, asgL, Option.bind, List.map_cons, List.map_nil, List.getElem?_cons_zero, List.getElem?_cons_succ, List.set_cons_zero, List.set_cons_succ, Bool.false_eq_true, if_false, if_true, reduceIte, List.length_cons, List.length_nil, Nat.zero_add, List.cons_append, List.nil_append, List.replicate, eqD_int, D.seq, intOf, Bool.not_true, Bool.not_false, oTup, oLst, Option.map_some, Option.map_none, decide_eq_true_eq, Nat.lt_add_left_iff_pos, Nat.zero_lt_succ, Nat.reduceLeDiff, Nat.reduceAdd, Nat.reduceSub, Nat.reduceLT, Bool.bne_false, Bool.bne_true, lb0]
    have Y1 : mApp oSub [(.val (mApp oIx [(.peek 0), (.val (mC (.int 1)))])), (.val (mC (.int 1)))] [lb v s f, z, .any, .node (.lst false) ((BL v s).map bagD), tabD true (BL v s) (fun b => .int (f b)), .node (.dt true []) [], .any] = .ok (.int (s - 1 : Nat)) [lb v s f, z, .any, .node (.lst false) ((BL v s).map bagD), tabD true (BL v s) (fun b => .int (f b)), .node (.dt true []) [], .any] := by simp -implicitDefEqProofs only [sSeq, sAsg, sIf, sRet, sRetV, sDrop, sPar, sNext, sBad, sCnt, sFor, mVar, mC, mApp, evA, putA, op1, op2, onInt, onI1, mAnd, mOr, mNot, mIf, mChain, frz_int, frz_bl, frz_non, frz_any, frz_node, frzL_nil, frzL_cons, frzL_dI, Tag.frz, D.isAny, asg, asgL, Option.bind, List.map_cons, List.map_nil, List.getElem?_cons_zero, List.getElem?_cons_succ, List.set_cons_zero, List.set_cons_succ, Bool.false_eq_true, if_false, if_true, reduceIte, List.length_cons, List.length_nil, Nat.zero_add, List.cons_append, List.nil_append, List.replicate, eqD_int, D.seq, intOf, Bool.not_true, Bool.not_false, oTup, oLst, Option.map_some, Option.map_none, decide_eq_true_eq, Nat.lt_add_left_iff_pos, Nat.zero_lt_succ, Nat.reduceLeDiff, Nat.reduceAdd, Nat.reduceSub, Nat.reduceLT, Bool.bne_false, Bool.bne_true, lb1, es]
    have X := mApp_ok (evA_val Y0 (evA_val Y1 evA_nil)) B2
    exact iSeq_ok X rfl (frzL_bags _)
  exact fnOp_rt (r := tabD true (BL v (s - 1)) (rowL true v f)) (e := [lb v s f, z, y, .node (.lst false) ((BL v s).map bagD), tabD true (BL v s) (fun b => .int (f b)), .any, .any]) rfl (sSeq_nx A (sSeq_nx (sFor_ok s1 L1) (sSeq_nx (sFor_ok s2 L2) rfl))) (by simp)
end Z

set_option Elab.async false
set_option linter.all false
set_option maxRecDepth 100000
set_option maxHeartbeats 4000000
namespace Z
open PySem PySem.Spec PyProof.Rows
open L2 StX

theorem same12 {d : D} (h : Tr 12 d) : dfOp (op__law_same 12) [] [d, d] = .ok (.bl true) [d, d] := dfOp_ok (same_ok 12 d h) rfl
theorem revOp_ok {op : Op} {ds es : List D} {r : D} (h : op ds.reverse = .ok r es) : revOp op ds = .ok r es.reverse := by
  simp only [revOp, h]
theorem isFrz_pair (p : Int × Int) : (pairD p).isFrz = true := isFrz_bag [p.1, p.2]
theorem tr_pairs {ps : List (Int × Int)} (hl : ps.length ≤ 99999) : Tr 12 (.node (.lst true) (ps.map pairD)) := by
  refine .lst 11 true _ ?_ (by simpa using hl) fun k x hx => ?_
  · rw [isFrzL_all, List.all_map, List.all_eq_true]
    exact fun p _ => isFrz_pair p
  · rw [List.getElem?_map] at hx
    cases h : ps[k]? with
    | none => rw [h] at hx; cases hx
    | some p =>
      rw [h] at hx
      cases hx
      exact tr_ints 9 [p.1, p.2] (by simp)
theorem isFrz_rowL (v : Nat) (f : List Int → Int) (b : List Int) : (rowL false v f b).isFrz = true := isFrz_node rfl (isFrzL_dI _)
theorem append_ok {i : Nat} {env e1 : Env} {xs : List D} {d : D} {m : M} {ys : List D} (h0 : env[i]? = some (.node (.lst true) ys)) (h : m env = .ok d e1) (h1 : e1[i]? = some (.node (.lst true) xs)) (hl : xs.length < 100000) :
    sDrop (mLst fAppend i [.val m]) env = .nx (e1.set i (.node (.lst true) (xs ++ [d]))) := by
  refine sDrop_ok (r := .non) ?_
  simp only [mLst, h0, evA_val h evA_nil, h1, fAppend, if_pos hl]
  rfl

theorem mright_ok {v s : Nat} {f : List Int → Int} {b c : List Int} (h1 : 1 ≤ v) (h2 : v ≤ 4) (h3 : 1 ≤ s) (h4 : s ≤ 6) (hb : b ∈ BL v (s - 1)) (hc : c ∈ BL v (s - 1)) :
    op__law_match_right [bd false v s f, tabD false (BL v (s - 1)) (rowL false v f), bagD b, bagD c] = .ok (.bl true) [bd false v s f, tabD false (BL v (s - 1)) (rowL false v f), bagD b, bagD c] := by
  have g1 := get_ok (o := false) (bs := BL v (s - 1)) (g := rowL false v f) hb (isFrz_rowL v f b)
  have g2 := get_ok (o := false) (bs := BL v (s - 1)) (g := rowL false v f) hc (isFrz_rowL v f c)
  have LM := dfOp_ok (lmatch_ok (r1 := row v f b) (r2 := row v f c) (by rw [length_row]; exact h2) (by rw [length_row]; exact h2)) rfl
  have MO := matchof_ok (f := f) h1 h2 h3 h4 hb hc
  have MO1 := dfOp_ok MO rfl
  have MO2 : revOp op_match_of [bagD c, bagD b, bd false v s f] = .ok (.node (.lst true) ((outr (row v f c) 0 (row v f b)).map pairD)) [bagD c, bagD b, bd false v s f] := revOp_ok (ds := [bagD c, bagD b, bd false v s f]) (es := [bd false v s f, bagD b, bagD c]) MO
  have len : (outr (row v f c) 0 (row v f b)).length ≤ 16 := by
    have := outr_len (row v f c) (row v f b) 0
    rw [length_row, length_row] at this
    exact Nat.le_trans this (Nat.mul_le_mul h2 h2)
  generalize outr (row v f c) 0 (row v f b) = ps at LM MO1 MO2 len
  have T := tr_pairs (ps := ps) (by omega)
  have SA := same12 T
  generalize hB : bd false v s f = B at MO1 MO2
  have aB : B.isAny = false := by rw [← hB]; rfl
  have D1 : mApp oDGet [(.peek 1), (.peek 2)] [B, tabD false (BL v (s - 1)) (rowL false v f), bagD b, bagD c, .any, .any] = .ok (rowL false v f b) [B, tabD false (BL v (s - 1)) (rowL false v f), bagD b, bagD c, .any, .any] := by simp -implicitDefEqProofs only [sSeq, sAsg, sIf, sRet, sRetV, sDrop, sPar, sNext, sBad, sCnt, sFor, mVar, mC, mApp, evA, putA, op1, op2, onInt, onI1, mAnd, mOr, mNot, mIf, mChain, frz_int, frz_bl, frz_non, frz_any, frz_node, frzL_nil, frzL_cons, frzL_dI, Tag.frz, D.isAny, asg, asgL, Option.bind, List.map_cons, List.map_nil, List.getElem?_cons_zero, List.getElem?_cons_succ, List.set_cons_zero, List.set_cons_succ, Bool.false_eq_true, if_false, if_true, reduceIte, List.length_cons, List.length_nil, Nat.zero_add, List.cons_append, List.nil_append, List.replicate, eqD_int, D.seq, intOf, Bool.not_true, Bool.not_false, oTup, oLst, Option.map_some, Option.map_none, decide_eq_true_eq, Nat.lt_add_left_iff_pos, Nat.zero_lt_succ, Nat.reduceLeDiff, Nat.reduceAdd, Nat.reduceSub, Nat.reduceLT, Bool.bne_false, Bool.bne_true, g1]
  have D2 : mApp oDGet [(.peek 1), (.peek 3)] [B, tabD false (BL v (s - 1)) (rowL false v f), bagD b, bagD c, .any, .any] = .ok (rowL false v f c) [B, tabD false (BL v (s - 1)) (rowL false v f), bagD b, bagD c, .any, .any] := by simp -implicitDefEqProofs only [sSeq, sAsg, sIf, sRet, sRetV, sDrop, sPar, sNext, sBad, sCnt, sFor, mVar, mC, mApp, evA, putA, op1, op2, onInt, onI1, mAnd, mOr, mNot, mIf, mChain, frz_int, frz_bl, frz_non, frz_any, frz_node, frzL_nil, frzL_cons, frzL_dI, Tag.frz, D.isAny, asg, asgL, Option.bind, List.map_cons, List.map_nil, List.getElem?_cons_zero, List.getElem?_cons_succ, List.set_cons_zero, List.set_cons_succ, Bool.false_eq_true, if_false, if_true, reduceIte, List.length_cons, List.length_nil, Nat.zero_add, List.cons_append, List.nil_append, List.replicate, eqD_int, D.seq, intOf, Bool.not_true, Bool.not_false, oTup, oLst, Option.map_some, Option.map_none, decide_eq_true_eq, Nat.lt_add_left_iff_pos, Nat.zero_lt_succ, Nat.reduceLeDiff, Nat.reduceAdd, Nat.reduceSub, Nat.reduceLT, Bool.bne_false, Bool.bne_true, g2]
  clear g1 g2
  have aT : (tabD false (BL v (s - 1)) (rowL false v f)).isAny = false := rfl
  generalize tabD false (BL v (s - 1)) (rowL false v f) = R at D1 D2 aT
  have S1 : sAsg (.nm 4) (mApp (dfOp op__law_match []) [(.val (mApp oDGet [(.peek 1), (.peek 2)])), (.val (mApp oDGet [(.peek 1), (.peek 3)]))]) [B, R, bagD b, bagD c, .any, .any] = .nx [B, R, bagD b, bagD c, .node (.lst true) (ps.map pairD), .any] :=
    sAsg_ok (mApp_ok (evA_val D1 (evA_val D2 evA_nil)) LM) rfl
  have P3 : evA [(.peek 3)] [B, R, bagD b, bagD c, .node (.lst true) (ps.map pairD), .any] = .ok [bagD c] [B, R, bagD b, .any, .node (.lst true) (ps.map pairD), .any] := rfl
  have P2 : evA [(.peek 2), (.peek 3)] [B, R, bagD b, bagD c, .node (.lst true) (ps.map pairD), .any] = .ok [bagD b, bagD c] [B, R, .any, .any, .node (.lst true) (ps.map pairD), .any] := rfl
  have P1 : evA [(.peek 0), (.peek 2), (.peek 3)] [B, R, bagD b, bagD c, .node (.lst true) (ps.map pairD), .any] = .ok [B, bagD b, bagD c] [.any, R, .any, .any, .node (.lst true) (ps.map pairD), .any] := evA_peek rfl aB P2 rfl aB
  have S2 : sAsg (.nm 5) (mApp (dfOp op_match_of []) [(.peek 0), (.peek 2), (.peek 3)]) [B, R, bagD b, bagD c, .node (.lst true) (ps.map pairD), .any] = .nx [B, R, bagD b, bagD c, .node (.lst true) (ps.map pairD), .node (.lst true) (ps.map pairD)] :=
    sAsg_ok (mApp_ok P1 MO1) rfl
  have P4 : evA [(.peek 5), (.peek 4)] [B, R, bagD b, bagD c, .node (.lst true) (ps.map pairD), .node (.lst true) (ps.map pairD)] = .ok [.node (.lst true) (ps.map pairD), .node (.lst true) (ps.map pairD)] [B, R, bagD b, bagD c, .any, .any] := rfl
  have N1 : mNot (mApp (dfOp (op__law_same 12) []) [(.peek 5), (.peek 4)]) [B, R, bagD b, bagD c, .node (.lst true) (ps.map pairD), .node (.lst true) (ps.map pairD)] = .ok (.bl false) [B, R, bagD b, bagD c, .node (.lst true) (ps.map pairD), .node (.lst true) (ps.map pairD)] := mNot_ok (b := true) (mApp_ok P4 SA)
  have P5 : mApp oTup [(.val (mC (.int 0))), (.val (mC (.int 0)))] [B, R, bagD b, bagD c, .node (.lst true) (ps.map pairD), .node (.lst true) (ps.map pairD)] = .ok (.node .tup [.int 0, .int 0]) [B, R, bagD b, bagD c, .node (.lst true) (ps.map pairD), .node (.lst true) (ps.map pairD)] := rfl
  have S3 : sDrop (mLst fAppend 5 [(.val (mApp oTup [(.val (mC (.int 0))), (.val (mC (.int 0)))]))]) [B, R, bagD b, bagD c, .node (.lst true) (ps.map pairD), .node (.lst true) (ps.map pairD)] = .nx [B, R, bagD b, bagD c, .node (.lst true) (ps.map pairD), .node (.lst true) (ps.map pairD ++ [.node .tup [.int 0, .int 0]])] :=
    append_ok (i := 5) rfl P5 rfl (by simp; omega)
  generalize D.node (.lst true) (ps.map pairD ++ [.node .tup [.int 0, .int 0]]) = U at S3
  have P6 : evA [(.peek 0)] [B, R, bagD b, bagD c, .node (.lst true) (ps.map pairD), U] = .ok [B] [.any, R, bagD b, bagD c, .node (.lst true) (ps.map pairD), U] := evA_peek rfl aB evA_nil rfl aB
  have P7 : evA [(.peek 3), (.peek 2), (.peek 0)] [B, R, bagD b, bagD c, .node (.lst true) (ps.map pairD), U] = .ok [bagD c, bagD b, B] [.any, R, .any, .any, .node (.lst true) (ps.map pairD), U] := evA_peek (d0 := bagD c) rfl rfl (evA_peek (d0 := bagD b) rfl rfl P6 rfl rfl) rfl rfl
  have Q1 := mApp_ok (f := revOp op_match_of) P7 MO2
  have Q2 : evA [(.val (mApp (revOp op_match_of) [(.peek 3), (.peek 2), (.peek 0)])), (.peek 4)] [B, R, bagD b, bagD c, .node (.lst true) (ps.map pairD), U] = .ok [.node (.lst true) (ps.map pairD), .node (.lst true) (ps.map pairD)] [B, R, bagD b, bagD c, .any, U] := evA_val Q1 rfl
  exact fnOp_rt (r := .bl true) (e := [B, R, bagD b, bagD c, .node (.lst true) (ps.map pairD), U]) rfl (sSeq_nx S1 (sSeq_nx S2 (sSeq_nx (sIf_f N1 rfl) (sSeq_nx S3 (sRet_ok (mApp_ok Q2 SA)))))) (by simp)
end Z

set_option Elab.async false
set_option linter.all false
set_option maxRecDepth 100000
set_option maxHeartbeats 4000000
namespace Z
open PySem PySem.Spec PyProof.Rows
open L2 StX

/-! ### all pairs with a change -/
def ra (v : Nat) (f : List Int → Int) (x : List Int) (a : Nat) : Int := f (srtI (x ++ [(a : Int)]))
theorem row_get {v a : Nat} {f : List Int → Int} {x : List Int} (ha : a < v) : (row v f x)[a]? = some (ra v f x a) := by
  unfold row
  rw [List.getElem?_map, List.getElem?_range ha]
  rfl
def prD (x y : List Int) : D := .node .tup [bagD x, bagD y]
def wIn (v : Nat) (f : List Int → Int) (a c : Nat) (x : List Int) (r : List (List Int)) : List (List Int) := r.filter fun y => decide (ra v f x a = ra v f y c)
def wOut (v : Nat) (f : List Int → Int) (a c : Nat) (bs r : List (List Int)) : List D := r.flatMap fun x => (wIn v f a c x bs).map (prD x)
theorem wIn_len (v : Nat) (f : List Int → Int) (a c : Nat) (x : List Int) (r : List (List Int)) : (wIn v f a c x r).length ≤ r.length := List.length_filter_le ..
theorem wOut_len (v : Nat) (f : List Int → Int) (a c : Nat) (bs : List (List Int)) : ∀ r : List (List Int), (wOut v f a c bs r).length ≤ r.length * bs.length
  | [] => by simp [wOut]
  | x :: r => by
    have h1 := wOut_len v f a c bs r
    have h2 := wIn_len v f a c x bs
    have e : wOut v f a c bs (x :: r) = (wIn v f a c x bs).map (prD x) ++ wOut v f a c bs r := rfl
    rw [e, List.length_append, List.length_map, List.length_cons, Nat.add_mul]
    omega
theorem isFrz_rowT (v : Nat) (f : List Int → Int) (b : List Int) : (rowT v f b).isFrz = true := isFrz_bag _

/-- a condition holds, or there is none -/
def Cd (c : Option M) (e : Env) (b : Bool) (e2 : Env) : Prop := match c with
  | none => b = true ∧ e2 = e
  | some c => c e = .ok (.bl b) e2
theorem some_c {c : M} {e e2 : Env} {b : Bool} (h : c e = .ok (.bl b) e2) : Cd (some c) e b e2 := h
theorem none_c (e : Env) : Cd none e true e := ⟨rfl, rfl⟩
theorem loopC_t {t : Tgt} {c : Option M} {m : M} {vs : List Nat} {x : D} {xs acc : List D} {env e1 e2 e3 e4 : Env} {r : D} {z : Option (List D × Env)} (hc : Cd c e1 true e2) (g : asg t x env = some e1) (hm : m e2 = .ok r e3) (hl : acc.length < 100000) (he : anyAll vs e3 = e4)
    (hz : loopC t c m vs xs (acc ++ [r]) e4 = z) : loopC t c m vs (x :: xs) acc env = z := by
  cases c with
  | none =>
    obtain ⟨_, rfl⟩ := hc
    simp only [loopC, g, hm, if_pos hl, he, hz]
  | some c =>
    have h2 : c e1 = .ok (.bl true) e2 := hc
    simp only [loopC, g, h2, hm, if_pos hl, he, hz]
theorem loopC_f {t : Tgt} {c : Option M} {m : M} {vs : List Nat} {x : D} {xs acc : List D} {env e1 e2 e4 : Env} {z : Option (List D × Env)} (hc : Cd c e1 false e2) (g : asg t x env = some e1) (he : anyAll vs e2 = e4)
    (hz : loopC t c m vs xs acc e4 = z) : loopC t c m vs (x :: xs) acc env = z := by
  cases c with
  | none => cases hc.1
  | some c =>
    have h2 : c e1 = .ok (.bl false) e2 := hc
    simp only [loopC, g, h2, he, hz]
theorem loopC2_t {t : Tgt} {c : Option M} {vs : List Nat} {src1 : Src} {t1 : Tgt} {c1 : Option M} {vs1 : List Nat} {m : M} {x : D} {xs ys acc acc2 : List D} {env e1 e2 e3 e4 e5 e6 : Env} {z : Option (List D × Env)} (hc : Cd c e1 true e2) (g : asg t x env = some e1) (hs : src1 e2 = .ok ys e3) (he : anyAll vs1 e3 = e4)
    (hi : loopC t1 c1 m vs1 ys acc e4 = some (acc2, e5)) (he2 : anyAll vs e5 = e6) (hz : loopC2 t c vs src1 t1 c1 vs1 m xs acc2 e6 = z) : loopC2 t c vs src1 t1 c1 vs1 m (x :: xs) acc env = z := by
  cases c with
  | none =>
    obtain ⟨_, rfl⟩ := hc
    simp only [loopC2, g, hs, he, hi, he2, hz]
  | some c =>
    have h2 : c e1 = .ok (.bl true) e2 := hc
    simp only [loopC2, g, h2, hs, he, hi, he2, hz]
theorem mLc2_ok {src : Src} {t : Tgt} {c : Option M} {vs : List Nat} {src1 : Src} {t1 : Tgt} {c1 : Option M} {vs1 : List Nat} {m : M} {env e e1 e2 e3 : Env} {xs acc : List D} (hs : src env = .ok xs e) (he : anyAll vs e = e1) (hl : loopC2 t c vs src1 t1 c1 vs1 m xs [] e1 = some (acc, e2)) (hm : mrg (own? vs) e e2 = e3) :
    mLc2 src t c vs src1 t1 c1 vs1 m env = .ok (.node (.lst true) acc) e3 := by
  simp only [mLc2, hs, he, hl, hm]
abbrev cMw : M := mApp (op2 (eqD false)) [(.val (mApp oIx [(.val (mApp oDGet [(.peek 2), (.peek 5)])), (.peek 3)])), (.val (mApp oIx [(.val (mApp oDGet [(.peek 2), (.peek 6)])), (.peek 4)]))]
abbrev mMw : M := mApp oTup [(.val (mVar 5)), (.val (mVar 6))]
theorem mw_c {v : Nat} {f : List Int → Int} {bs : List (List Int)} {B ch : D} {a c : Nat} {x y : List Int} (ha : a < v) (hc : c < v) (hx : x ∈ bs) (hy : y ∈ bs) :
    cMw [B, ch, tabD false bs (rowT v f), .int (a : Int), .int (c : Int), bagD x, bagD y] = .ok (.bl (decide (ra v f x a = ra v f y c))) [B, ch, tabD false bs (rowT v f), .int (a : Int), .int (c : Int), bagD x, bagD y] := by
  have g1 := get_ok (o := false) (bs := bs) (g := rowT v f) hx (isFrz_rowT v f x)
  have g2 := get_ok (o := false) (bs := bs) (g := rowT v f) hy (isFrz_rowT v f y)
  have i1 := ix_ints (t := .tup) (l := row v f x) (k := a) rfl (row_get ha)
  have i2 := ix_ints (t := .tup) (l := row v f y) (k := c) rfl (row_get hc)
  generalize ra v f x a = p at i1
  generalize ra v f y c = q at i2
  simp -implicitDefEqProofs only [sSeq, sAsg, sIf, sRet, sRetV, sDrop, sPar, sNext, sBad, sCnt, sFor, mVar, mC, mApp, evA, putA, op1, op2, onInt, onI1, mAnd, mOr, mNot, mIf, mChain, frz_int, frz_bl, frz_non, frz_any, frz_node, frzL_nil, frzL_cons, frzL_dI, Tag.frz, D.isAny, asg, asgL, Option.bind, List.map_cons, List.map_nil, List.getElem?_cons_zero, List.getElem?_cons_succ, List.set_cons_zero, List.set_cons_succ, Bool.false_eq_true, if_false, if_true, reduceIte, List.length_cons, List.length_nil, Nat.zero_add, List.cons_append, List.nil_append, List.replicate, eqD_int, D.seq, intOf, Bool.not_true, Bool.not_false, oTup, oLst, Option.map_some, Option.map_none, decide_eq_true_eq, Nat.lt_add_left_iff_pos, Nat.zero_lt_succ, Nat.reduceLeDiff, Nat.reduceAdd, Nat.reduceSub, Nat.reduceLT, Bool.bne_false, Bool.bne_true, g1, g2, i1, i2]
theorem mw_in {v : Nat} {f : List Int → Int} {bs : List (List Int)} {B ch : D} {a c : Nat} {x : List Int} (ha : a < v) (hc : c < v) (hx : x ∈ bs) : ∀ (r : List (List Int)) (acc : List D), (∀ y ∈ r, y ∈ bs) → acc.length + r.length ≤ 100000 →
    loopC (.nm 6) (some cMw) mMw [6] (r.map bagD) acc [B, ch, tabD false bs (rowT v f), .int (a : Int), .int (c : Int), bagD x, .any] = some (acc ++ (wIn v f a c x r).map (prD x), [B, ch, tabD false bs (rowT v f), .int (a : Int), .int (c : Int), bagD x, .any])
  | [], acc, _, _ => by simp [loopC, wIn]
  | y :: r, acc, hr, hl => by
    simp only [List.length_cons] at hl
    have hl1 : acc.length < 100000 := by omega
    have C := mw_c (f := f) (B := B) (ch := ch) ha hc hx (hr y (List.mem_cons_self ..))
    have hr2 : ∀ z ∈ r, z ∈ bs := fun z hz => hr z (List.mem_cons_of_mem _ hz)
    have m : mMw [B, ch, tabD false bs (rowT v f), .int (a : Int), .int (c : Int), bagD x, bagD y] = .ok (prD x y) [B, ch, tabD false bs (rowT v f), .int (a : Int), .int (c : Int), bagD x, bagD y] :=
      mApp_ok (f := oTup) (evA_val (mVar_s (d := bagD x) rfl rfl (frz_bag x)) (evA_val (mVar_s (d := bagD y) rfl rfl (frz_bag y)) evA_nil)) rfl
    have g : asg (.nm 6) (bagD y) [B, ch, tabD false bs (rowT v f), .int (a : Int), .int (c : Int), bagD x, .any] = some [B, ch, tabD false bs (rowT v f), .int (a : Int), .int (c : Int), bagD x, bagD y] := rfl
    have e : anyAll [6] [B, ch, tabD false bs (rowT v f), .int (a : Int), .int (c : Int), bagD x, bagD y] = [B, ch, tabD false bs (rowT v f), .int (a : Int), .int (c : Int), bagD x, .any] := rfl
    by_cases h : ra v f x a = ra v f y c
    · have ih := mw_in (B := B) (ch := ch) (f := f) ha hc hx r (acc ++ [prD x y]) hr2 (by simp; omega)
      rw [decide_eq_true h] at C
      have w : wIn v f a c x (y :: r) = y :: wIn v f a c x r := by simp [wIn, h]
      rw [w, List.map_cons]
      have fin := loopC_t (some_c C) g m hl1 e ih
      rw [List.append_assoc] at fin
      exact fin
    · have ih := mw_in (B := B) (ch := ch) (f := f) ha hc hx r acc hr2 (by omega)
      rw [decide_eq_false h] at C
      have w : wIn v f a c x (y :: r) = wIn v f a c x r := by simp [wIn, h]
      rw [w]
      exact loopC_f (some_c C) g e ih
theorem keys_bags (bs : List (List Int)) : (bs.map keyI).map keyD = bs.map bagD := by
  rw [List.map_map]
  exact List.map_congr_left fun b _ => keyD_keyI b
theorem iKeys_ok {i : Nat} {env : Env} {o : Bool} {bs : List (List Int)} {g : List Int → D} (h : env[i]? = some (tabD o bs g)) : iKeysP i env = .ok (bs.map bagD) env := by
  simp only [iKeysP, h, keys_bags]
theorem mw_out {v : Nat} {f : List Int → Int} {bs : List (List Int)} {B ch : D} {a c : Nat} (ha : a < v) (hc : c < v) (hn : bs.length ≤ 84) : ∀ (r : List (List Int)) (acc : List D), (∀ y ∈ r, y ∈ bs) → acc.length + r.length * bs.length ≤ 100000 →
    loopC2 (.nm 5) none [5, 6] (iKeysP 2) (.nm 6) (some cMw) [6] mMw (r.map bagD) acc [B, ch, tabD false bs (rowT v f), .int (a : Int), .int (c : Int), .any, .any] = some (acc ++ wOut v f a c bs r, [B, ch, tabD false bs (rowT v f), .int (a : Int), .int (c : Int), .any, .any])
  | [], acc, _, _ => by simp [loopC2, wOut]
  | x :: r, acc, hr, hl => by
    simp only [List.length_cons, Nat.add_mul, Nat.one_mul] at hl
    have hr2 : ∀ z ∈ r, z ∈ bs := fun z hz => hr z (List.mem_cons_of_mem _ hz)
    have l1 := wIn_len v f a c x bs
    have ih := mw_out (B := B) (ch := ch) (f := f) ha hc hn r (acc ++ (wIn v f a c x bs).map (prD x)) hr2 (by simp; omega)
    have i1 := mw_in (B := B) (ch := ch) (f := f) ha hc (hr x (List.mem_cons_self ..)) bs acc (fun y h => h) (by omega)
    have g : asg (.nm 5) (bagD x) [B, ch, tabD false bs (rowT v f), .int (a : Int), .int (c : Int), .any, .any] = some [B, ch, tabD false bs (rowT v f), .int (a : Int), .int (c : Int), bagD x, .any] := rfl
    have e1 : anyAll [6] [B, ch, tabD false bs (rowT v f), .int (a : Int), .int (c : Int), bagD x, .any] = [B, ch, tabD false bs (rowT v f), .int (a : Int), .int (c : Int), bagD x, .any] := rfl
    have e2 : anyAll [5, 6] [B, ch, tabD false bs (rowT v f), .int (a : Int), .int (c : Int), bagD x, .any] = [B, ch, tabD false bs (rowT v f), .int (a : Int), .int (c : Int), .any, .any] := rfl
    have fin := loopC2_t (none_c _) g (iKeys_ok (i := 2) rfl) e1 i1 e2 ih
    have w : wOut v f a c bs (x :: r) = (wIn v f a c x bs).map (prD x) ++ wOut v f a c bs r := rfl
    rw [w, ← List.append_assoc]
    exact fin
theorem mLk_ok {i : Nat} {s : M} {env e : Env} {o : Bool} {bs : List (List Int)} {g : List Int → D} {r : D} (h : env[i]? = some (tabD o bs g)) (hg : ∀ b, (g b).frz = g b) (hs : s (env.set i (tabD false bs g)) = .ok r e) : mLk i s env = .ok r e := by
  have f : frzL (bs.map g) = bs.map g := by
    rw [frzL_eq, List.map_map]
    exact List.map_congr_left fun b _ => hg b
  simp only [mLk, h, f]
  rw [hs]
theorem frz_rowT (v : Nat) (f : List Int → Int) (b : List Int) : (rowT v f b).frz = rowT v f b := frz_bag _
theorem frz_rowL (v : Nat) (f : List Int → Int) (b : List Int) : (rowL false v f b).frz = rowL false v f b := frz_id (isFrz_rowL v f b)
theorem mwith_ok {v s : Nat} {f : List Int → Int} {a c : Nat} (h1 : 1 ≤ v) (h2 : v ≤ 4) (h3 : 1 ≤ s) (h4 : s ≤ 6) (ha : a < v) (hc : c < v) :
    op_matches_with [bd false v s f, bagD [(a : Int), (c : Int)]] = .ok (.node (.lst true) (wOut v f a c (BL v (s - 1)) (BL v (s - 1)))) [bd false v s f, bagD [(a : Int), (c : Int)]] := by
  have C := dfOp_ok (cchange_ok (s := s) (f := f) h1 h2 (a := (a : Int)) (c := (c : Int)) (by omega) (by omega) (by omega) (by omega)) rfl
  have R := dfOp_ok (srows_ok (f := f) h1 h2 h3 h4) rfl
  have hn := (BL_len h1 h2 (show s - 1 ≤ 6 by omega)).2
  have hm : (BL v (s - 1)).length * (BL v (s - 1)).length ≤ 84 * 84 := Nat.mul_le_mul hn hn
  generalize BL v (s - 1) = bs at R hn hm ⊢
  have aB : (bd false v s f).isAny = false := rfl
  generalize bd false v s f = B at C R aB ⊢
  have L := mw_out (f := f) (B := B) (ch := bagD [(a : Int), (c : Int)]) ha hc hn bs [] (fun y h => h) (by simp; omega)
  rw [List.nil_append] at L
  have K := mLc2_ok (src := iKeysP 2) (env := [B, bagD [(a : Int), (c : Int)], tabD false bs (rowT v f), .int (a : Int), .int (c : Int), .any, .any]) (iKeys_ok (i := 2) rfl) (show anyAll [5, 6] [B, bagD [(a : Int), (c : Int)], tabD false bs (rowT v f), .int (a : Int), .int (c : Int), .any, .any] = [B, bagD [(a : Int), (c : Int)], tabD false bs (rowT v f), .int (a : Int), .int (c : Int), .any, .any] from rfl) L (show mrg (own? [5, 6]) [B, bagD [(a : Int), (c : Int)], tabD false bs (rowT v f), .int (a : Int), .int (c : Int), .any, .any] [B, bagD [(a : Int), (c : Int)], tabD false bs (rowT v f), .int (a : Int), .int (c : Int), .any, .any] = [B, bagD [(a : Int), (c : Int)], tabD false bs (rowT v f), .int (a : Int), .int (c : Int), .any, .any] from rfl)
  have P1 : evA [(.peek 0), (.peek 1)] [B, bagD [(a : Int), (c : Int)], .any, .any, .any, .any, .any] = .ok [B, bagD [(a : Int), (c : Int)]] [.any, .any, .any, .any, .any, .any, .any] := evA_peek rfl aB (show evA [(.peek 1)] [B, bagD [(a : Int), (c : Int)], .any, .any, .any, .any, .any] = .ok [bagD [(a : Int), (c : Int)]] [B, .any, .any, .any, .any, .any, .any] from rfl) rfl aB
  have P2 : evA [(.peek 0)] [B, bagD [(a : Int), (c : Int)], .any, .int (a : Int), .int (c : Int), .any, .any] = .ok [B] [.any, bagD [(a : Int), (c : Int)], .any, .int (a : Int), .int (c : Int), .any, .any] := evA_peek rfl aB evA_nil rfl aB
  have S1 : sDrop (mApp (dfOp op_check_change []) [(.peek 0), (.peek 1)]) [B, bagD [(a : Int), (c : Int)], .any, .any, .any, .any, .any] = .nx [B, bagD [(a : Int), (c : Int)], .any, .any, .any, .any, .any] := sDrop_ok (mApp_ok P1 C)
  have S2 : sAsg (.tp [(.nm 3), (.nm 4)]) (mVar 1) [B, bagD [(a : Int), (c : Int)], .any, .any, .any, .any, .any] = .nx [B, bagD [(a : Int), (c : Int)], .any, .int (a : Int), .int (c : Int), .any, .any] := sAsg_ok (mVar_s (d := bagD [(a : Int), (c : Int)]) rfl rfl (frz_bag _)) rfl
  have S3 : sAsg (.nm 2) (mApp (dfOp op_sign_rows []) [(.peek 0)]) [B, bagD [(a : Int), (c : Int)], .any, .int (a : Int), .int (c : Int), .any, .any] = .nx [B, bagD [(a : Int), (c : Int)], tabD true bs (rowT v f), .int (a : Int), .int (c : Int), .any, .any] := sAsg_ok (mApp_ok P2 R) rfl
  have S4 := mLk_ok (i := 2) (env := [B, bagD [(a : Int), (c : Int)], tabD true bs (rowT v f), .int (a : Int), .int (c : Int), .any, .any]) rfl (frz_rowT v f) K
  exact fnOp_rt (r := .node (.lst true) (wOut v f a c bs bs)) (e := [B, bagD [(a : Int), (c : Int)], tabD false bs (rowT v f), .int (a : Int), .int (c : Int), .any, .any]) rfl (sSeq_nx S1 (sSeq_nx S2 (sSeq_nx S3 (sRet_ok S4)))) (by simp)

/-! ### the law's own -/
abbrev cLw : M := mApp (op2 (eqD false)) [(.val (mApp oIx [(.val (mApp oDGet [(.peek 1), (.peek 4)])), (.val (mApp oIx [(.peek 2), (.val (mC (.int 0)))]))])), (.val (mApp oIx [(.val (mApp oDGet [(.peek 1), (.peek 6)])), (.val (mApp oIx [(.peek 2), (.val (mC (.int 1)))]))]))]
abbrev sLw : S := sIf cLw (sDrop (mLst fAppend 3 [(.val (mApp oTup [(.val (mVar 4)), (.val (mVar 6))]))])) sNext
theorem lw_c {v : Nat} {f : List Int → Int} {bs : List (List Int)} {B w : D} {acc : List D} {a c : Nat} {x y : List Int} (ha : a < v) (hc : c < v) (hx : x ∈ bs) (hy : y ∈ bs) :
    cLw [B, tabD false bs (rowL false v f), bagD [(a : Int), (c : Int)], .node (.lst true) acc, bagD x, w, bagD y] = .ok (.bl (decide (ra v f x a = ra v f y c))) [B, tabD false bs (rowL false v f), bagD [(a : Int), (c : Int)], .node (.lst true) acc, bagD x, w, bagD y] := by
  have g1 := get_ok (o := false) (bs := bs) (g := rowL false v f) hx (isFrz_rowL v f x)
  have g2 := get_ok (o := false) (bs := bs) (g := rowL false v f) hy (isFrz_rowL v f y)
  have i1 := ix_ints (t := .lst false) (l := row v f x) (k := a) rfl (row_get ha)
  have i2 := ix_ints (t := .lst false) (l := row v f y) (k := c) rfl (row_get hc)
  have j1 : oIx [bagD [(a : Int), (c : Int)], .int 0] = .ok (.int (a : Int)) [bagD [(a : Int), (c : Int)], .int 0] := ix_ok rfl rfl rfl (isFrz_int _)
  have j2 : oIx [bagD [(a : Int), (c : Int)], .int 1] = .ok (.int (c : Int)) [bagD [(a : Int), (c : Int)], .int 1] := ix_ok rfl rfl rfl (isFrz_int _)
  generalize ra v f x a = p at i1
  generalize ra v f y c = q at i2
  simp -implicitDefEqProofs only [sSeq, sAsg, sIf, sRet, sRetV, sDrop, sPar, sNext, sBad, sCnt, sFor, mVar, mC, mApp, evA, putA, op1, op2, onInt, onI1, mAnd, mOr, mNot, mIf, mChain, frz_int, frz_bl, frz_non, frz_any, frz_node, frzL_nil, frzL_cons, frzL_dI, Tag.frz, D.isAny, asg, asgL, Option.bind, List.map_cons, List.map_nil, List.getElem?_cons_zero, List.getElem?_cons_succ, List.set_cons_zero, List.set_cons_succ, Bool.false_eq_true, if_false, if_true, reduceIte, List.length_cons, List.length_nil, Nat.zero_add, List.cons_append, List.nil_append, List.replicate, eqD_int, D.seq, intOf, Bool.not_true, Bool.not_false, oTup, oLst, Option.map_some, Option.map_none, decide_eq_true_eq, Nat.lt_add_left_iff_pos, Nat.zero_lt_succ, Nat.reduceLeDiff, Nat.reduceAdd, Nat.reduceSub, Nat.reduceLT, Bool.bne_false, Bool.bne_true, g1, g2, i1, i2, j1, j2]
theorem lw_in {v : Nat} {f : List Int → Int} {bs : List (List Int)} {B w : D} {a c : Nat} {x : List Int} (ha : a < v) (hc : c < v) (hx : x ∈ bs) : ∀ (r : List (List Int)) (acc : List D) (z : D), (∀ y ∈ r, y ∈ bs) → acc.length + r.length ≤ 100000 →
    ∃ z', loopS (.nm 6) sLw (r.map bagD) [B, tabD false bs (rowL false v f), bagD [(a : Int), (c : Int)], .node (.lst true) acc, bagD x, w, z] = .nx [B, tabD false bs (rowL false v f), bagD [(a : Int), (c : Int)], .node (.lst true) (acc ++ (wIn v f a c x r).map (prD x)), bagD x, w, z']
  | [], acc, z, _, _ => ⟨z, by simp [loopS, wIn]⟩
  | y :: r, acc, z, hr, hl => by
    simp only [List.length_cons] at hl
    have hl1 : acc.length < 100000 := by omega
    have C := lw_c (f := f) (B := B) (w := w) (acc := acc) ha hc hx (hr y (List.mem_cons_self ..))
    have hr2 : ∀ z ∈ r, z ∈ bs := fun z hz => hr z (List.mem_cons_of_mem _ hz)
    have m : mApp oTup [(.val (mVar 4)), (.val (mVar 6))] [B, tabD false bs (rowL false v f), bagD [(a : Int), (c : Int)], .node (.lst true) acc, bagD x, w, bagD y] = .ok (prD x y) [B, tabD false bs (rowL false v f), bagD [(a : Int), (c : Int)], .node (.lst true) acc, bagD x, w, bagD y] :=
      mApp_ok (f := oTup) (evA_val (mVar_s (d := bagD x) rfl rfl (frz_bag x)) (evA_val (mVar_s (d := bagD y) rfl rfl (frz_bag y)) evA_nil)) rfl
    have g : asg (.nm 6) (bagD y) [B, tabD false bs (rowL false v f), bagD [(a : Int), (c : Int)], .node (.lst true) acc, bagD x, w, z] = some [B, tabD false bs (rowL false v f), bagD [(a : Int), (c : Int)], .node (.lst true) acc, bagD x, w, bagD y] := rfl
    by_cases h : ra v f x a = ra v f y c
    · obtain ⟨z', ih⟩ := lw_in (B := B) (w := w) (f := f) ha hc hx r (acc ++ [prD x y]) (bagD y) hr2 (by simp; omega)
      rw [decide_eq_true h] at C
      have e : wIn v f a c x (y :: r) = y :: wIn v f a c x r := by simp [wIn, h]
      refine ⟨z', ?_⟩
      rw [e, List.map_cons]
      rw [List.append_assoc] at ih
      exact loopS_nx g (sIf_t C (append_ok (i := 3) rfl m rfl hl1)) ih
    · obtain ⟨z', ih⟩ := lw_in (B := B) (w := w) (f := f) ha hc hx r acc (bagD y) hr2 (by omega)
      rw [decide_eq_false h] at C
      have e : wIn v f a c x (y :: r) = wIn v f a c x r := by simp [wIn, h]
      refine ⟨z', ?_⟩
      rw [e]
      exact loopS_nx g (sIf_f C rfl) ih
theorem sLk_nx {i : Nat} {s : S} {env e : Env} {o : Bool} {bs : List (List Int)} {g : List Int → D} (h : env[i]? = some (tabD o bs g)) (hg : ∀ b, (g b).frz = g b) (hs : s (env.set i (tabD false bs g)) = .nx e) : sLk i s env = .nx e := by
  have f : frzL (bs.map g) = bs.map g := by
    rw [frzL_eq, List.map_map]
    exact List.map_congr_left fun b _ => hg b
  simp only [sLk, h, f]
  rw [hs]
theorem lw_out {v : Nat} {f : List Int → Int} {bs : List (List Int)} {B w : D} {a c : Nat} (ha : a < v) (hc : c < v) (hn : bs.length ≤ 84) : ∀ (r : List (List Int)) (acc : List D) (y z : D), (∀ y ∈ r, y ∈ bs) → acc.length + r.length * bs.length ≤ 100000 →
    ∃ y' z', loopS (.nm 4) (sLk 1 (sFor (iKeysP 1) (.nm 6) sLw)) (r.map bagD) [B, tabD false bs (rowL false v f), bagD [(a : Int), (c : Int)], .node (.lst true) acc, y, w, z] = .nx [B, tabD false bs (rowL false v f), bagD [(a : Int), (c : Int)], .node (.lst true) (acc ++ wOut v f a c bs r), y', w, z']
  | [], acc, y, z, _, _ => ⟨y, z, by simp [loopS, wOut]⟩
  | x :: r, acc, y, z, hr, hl => by
    simp only [List.length_cons, Nat.add_mul, Nat.one_mul] at hl
    have hr2 : ∀ z ∈ r, z ∈ bs := fun z hz => hr z (List.mem_cons_of_mem _ hz)
    have l1 := wIn_len v f a c x bs
    obtain ⟨z1, i1⟩ := lw_in (B := B) (w := w) (f := f) ha hc (hr x (List.mem_cons_self ..)) bs acc z (fun y h => h) (by omega)
    obtain ⟨y2, z2, ih⟩ := lw_out (B := B) (w := w) (f := f) ha hc hn r (acc ++ (wIn v f a c x bs).map (prD x)) (bagD x) z1 hr2 (by simp; omega)
    have g : asg (.nm 4) (bagD x) [B, tabD false bs (rowL false v f), bagD [(a : Int), (c : Int)], .node (.lst true) acc, y, w, z] = some [B, tabD false bs (rowL false v f), bagD [(a : Int), (c : Int)], .node (.lst true) acc, bagD x, w, z] := rfl
    have S := sLk_nx (i := 1) (s := sFor (iKeysP 1) (.nm 6) sLw) (env := [B, tabD false bs (rowL false v f), bagD [(a : Int), (c : Int)], .node (.lst true) acc, bagD x, w, z]) rfl (frz_rowL v f) (sFor_ok (iKeys_ok (i := 1) rfl) i1)
    have e : wOut v f a c bs (x :: r) = (wIn v f a c x bs).map (prD x) ++ wOut v f a c bs r := rfl
    refine ⟨y2, z2, ?_⟩
    rw [e, ← List.append_assoc]
    exact loopS_nx g S ih
end Z

set_option Elab.async false
set_option linter.all false
set_option maxRecDepth 100000
set_option maxHeartbeats 4000000
namespace Z
open PySem PySem.Spec PyProof.Rows
open L2 StX

theorem isFrz_pr (x y : List Int) : (prD x y).isFrz = true := isFrz_node rfl (by
  rw [isFrzL, isFrzL, isFrzL, isFrz_bag, isFrz_bag]
  rfl)
theorem mem_wOut {v : Nat} {f : List Int → Int} {a c : Nat} {bs r : List (List Int)} {d : D} (h : d ∈ wOut v f a c bs r) : ∃ x y, x ∈ r ∧ y ∈ bs ∧ d = prD x y := by
  obtain ⟨x, hx, hd⟩ := List.mem_flatMap.mp h
  obtain ⟨y, hy, rfl⟩ := List.mem_map.mp hd
  exact ⟨x, y, hx, (List.mem_filter.mp hy).1, rfl⟩
theorem tr_wOut {v : Nat} {f : List Int → Int} {a c : Nat} {bs r : List (List Int)} (hb : ∀ x ∈ bs, x.length ≤ 99999) (hr : ∀ x ∈ r, x.length ≤ 99999) (hl : (wOut v f a c bs r).length ≤ 99999) : Tr 12 (.node (.lst true) (wOut v f a c bs r)) := by
  refine .lst 11 true _ ?_ hl fun k d hd => ?_
  · rw [isFrzL_all, List.all_eq_true]
    intro d hd
    obtain ⟨x, y, _, _, rfl⟩ := mem_wOut hd
    exact isFrz_pr x y
  · obtain ⟨x, y, hx, hy, rfl⟩ := mem_wOut (List.mem_of_getElem? hd)
    refine .tup 10 _ ?_ (by simp) fun k d hd => ?_
    · rw [isFrzL, isFrzL, isFrzL, isFrz_bag, isFrz_bag]
      rfl
    · match k, hd with
      | 0, h => cases h; exact tr_ints 8 x (hr x hx)
      | 1, h => cases h; exact tr_ints 8 y (hb y hy)
      | k + 2, h => simp at h
theorem wright_ok {v s : Nat} {f : List Int → Int} {a c : Nat} (h1 : 1 ≤ v) (h2 : v ≤ 4) (h3 : 1 ≤ s) (h4 : s ≤ 6) (ha : a < v) (hc : c < v) :
    op__law_with_right [bd false v s f, tabD false (BL v (s - 1)) (rowL false v f), bagD [(a : Int), (c : Int)]] = .ok (.bl true) [bd false v s f, tabD false (BL v (s - 1)) (rowL false v f), bagD [(a : Int), (c : Int)]] := by
  have MW := mwith_ok (f := f) h1 h2 h3 h4 ha hc
  have MW1 := dfOp_ok MW rfl
  have MW2 : revOp op_matches_with [bagD [(a : Int), (c : Int)], bd false v s f] = .ok (.node (.lst true) (wOut v f a c (BL v (s - 1)) (BL v (s - 1)))) [bagD [(a : Int), (c : Int)], bd false v s f] := revOp_ok (ds := [bagD [(a : Int), (c : Int)], bd false v s f]) (es := [bd false v s f, bagD [(a : Int), (c : Int)]]) MW
  have hn := (BL_len h1 h2 (show s - 1 ≤ 6 by omega)).2
  have hm : (BL v (s - 1)).length * (BL v (s - 1)).length ≤ 84 * 84 := Nat.mul_le_mul hn hn
  have hin : ∀ x ∈ BL v (s - 1), x.length ≤ 99999 := fun x hx => by
    have := (BL_in h1 h2 (show s - 1 ≤ 6 by omega) x hx).1
    omega
  generalize BL v (s - 1) = bs at MW1 MW2 hn hm hin ⊢
  have hw := wOut_len v f a c bs bs
  have T := tr_wOut (v := v) (f := f) (a := a) (c := c) hin hin (by omega)
  have SA := same12 T
  have aB : (bd false v s f).isAny = false := rfl
  generalize bd false v s f = B at MW1 MW2 aB ⊢
  obtain ⟨y, z, L⟩ := lw_out (f := f) (B := B) (w := .any) ha hc hn bs [] .any .any (fun y h => h) (by simp; omega)
  rw [List.nil_append] at L
  generalize hW : wOut v f a c bs bs = W at MW1 MW2 SA L hw
  have S1 : sAsg (.nm 3) (mApp oLst []) [B, tabD false bs (rowL false v f), bagD [(a : Int), (c : Int)], .any, .any, .any, .any] = .nx [B, tabD false bs (rowL false v f), bagD [(a : Int), (c : Int)], .node (.lst true) [], .any, .any, .any] := rfl
  have S2 := sLk_nx (i := 1) (s := sFor (iKeysP 1) (.nm 4) (sLk 1 (sFor (iKeysP 1) (.nm 6) sLw))) (env := [B, tabD false bs (rowL false v f), bagD [(a : Int), (c : Int)], .node (.lst true) [], .any, .any, .any]) rfl (frz_rowL v f) (sFor_ok (iKeys_ok (i := 1) rfl) L)
  have aT : (tabD false bs (rowL false v f)).isAny = false := rfl
  generalize tabD false bs (rowL false v f) = R at S1 S2 aT ⊢
  have P1 : evA [(.peek 0), (.peek 2)] [B, R, bagD [(a : Int), (c : Int)], .node (.lst true) W, y, .any, z] = .ok [B, bagD [(a : Int), (c : Int)]] [.any, R, .any, .node (.lst true) W, y, .any, z] := evA_peek rfl aB (show evA [(.peek 2)] [B, R, bagD [(a : Int), (c : Int)], .node (.lst true) W, y, .any, z] = .ok [bagD [(a : Int), (c : Int)]] [B, R, .any, .node (.lst true) W, y, .any, z] from rfl) rfl aB
  have S3 : sAsg (.nm 5) (mApp (dfOp op_matches_with []) [(.peek 0), (.peek 2)]) [B, R, bagD [(a : Int), (c : Int)], .node (.lst true) W, y, .any, z] = .nx [B, R, bagD [(a : Int), (c : Int)], .node (.lst true) W, y, .node (.lst true) W, z] := sAsg_ok (mApp_ok P1 MW1) rfl
  have P4 : evA [(.peek 5), (.peek 3)] [B, R, bagD [(a : Int), (c : Int)], .node (.lst true) W, y, .node (.lst true) W, z] = .ok [.node (.lst true) W, .node (.lst true) W] [B, R, bagD [(a : Int), (c : Int)], .any, y, .any, z] := rfl
  have N1 : mNot (mApp (dfOp (op__law_same 12) []) [(.peek 5), (.peek 3)]) [B, R, bagD [(a : Int), (c : Int)], .node (.lst true) W, y, .node (.lst true) W, z] = .ok (.bl false) [B, R, bagD [(a : Int), (c : Int)], .node (.lst true) W, y, .node (.lst true) W, z] := mNot_ok (b := true) (mApp_ok P4 SA)
  have S5 : sDrop (mLst fAppend 5 [(.val (mC .non))]) [B, R, bagD [(a : Int), (c : Int)], .node (.lst true) W, y, .node (.lst true) W, z] = .nx [B, R, bagD [(a : Int), (c : Int)], .node (.lst true) W, y, .node (.lst true) (W ++ [.non]), z] := append_ok (i := 5) rfl (m := mC .non) rfl rfl (by omega)
  generalize D.node (.lst true) (W ++ [.non]) = U at S5
  have P6 : evA [(.peek 2), (.peek 0)] [B, R, bagD [(a : Int), (c : Int)], .node (.lst true) W, y, U, z] = .ok [bagD [(a : Int), (c : Int)], B] [.any, R, .any, .node (.lst true) W, y, U, z] := evA_peek (d0 := bagD [(a : Int), (c : Int)]) rfl rfl (evA_peek rfl aB evA_nil rfl aB) rfl rfl
  have Q1 := mApp_ok (f := revOp op_matches_with) P6 MW2
  have Q2 : evA [(.val (mApp (revOp op_matches_with) [(.peek 2), (.peek 0)])), (.peek 3)] [B, R, bagD [(a : Int), (c : Int)], .node (.lst true) W, y, U, z] = .ok [.node (.lst true) W, .node (.lst true) W] [B, R, bagD [(a : Int), (c : Int)], .any, y, U, z] := evA_val Q1 rfl
  exact fnOp_rt (r := .bl true) (e := [B, R, bagD [(a : Int), (c : Int)], .node (.lst true) W, y, U, z]) rfl (sSeq_nx S1 (sSeq_nx S2 (sSeq_nx S3 (sSeq_nx (sIf_f N1 rfl) (sSeq_nx S5 (sRet_ok (mApp_ok Q2 SA))))))) (by simp)
end Z

set_option Elab.async false
set_option linter.all false
set_option maxRecDepth 100000
set_option maxHeartbeats 4000000
namespace Z
open PySem PySem.Spec PyProof.Rows
open L2 StX

/-! ### a board is made -/
theorem iswhole_ok (i : Int) : op_is_whole [.int i] = .ok (.bl true) [.int i] := by
  refine fnOp_rt (r := .bl true) (e := [.int i]) rfl (sRet_ok (mAnd_t (e := [.int i]) ?_ (mNot_ok (b := false) ?_))) (by simp)
  · show mApp _ _ [.int i] = _
    simp -implicitDefEqProofs only [sSeq, sAsg, sIf, sRet, sRetV, sDrop, sPar, sNext, sBad, sCnt, sFor, mVar, mC, mApp, evA, putA, op1, op2, onInt, onI1, mAnd, mOr, mNot, mIf, mChain, frz_int, frz_bl, frz_non, frz_any, frz_node, frzL_nil, frzL_cons, frzL_dI, Tag.frz, D.isAny, asg, asgL, Option.bind, List.map_cons, List.map_nil, List.getElem?_cons_zero, List.getElem?_cons_succ, List.set_cons_zero, List.set_cons_succ, Bool.false_eq_true, if_false, if_true, reduceIte, List.length_cons, List.length_nil, Nat.zero_add, List.cons_append, List.nil_append, List.replicate, eqD_int, D.seq, intOf, Bool.not_true, Bool.not_false, oTup, oLst, Option.map_some, Option.map_none, decide_eq_true_eq, Nat.lt_add_left_iff_pos, Nat.zero_lt_succ, Nat.reduceLeDiff, Nat.reduceAdd, Nat.reduceSub, Nat.reduceLT, Bool.bne_false, Bool.bne_true, isi_int_int]
  · simp -implicitDefEqProofs only [sSeq, sAsg, sIf, sRet, sRetV, sDrop, sPar, sNext, sBad, sCnt, sFor, mVar, mC, mApp, evA, putA, op1, op2, onInt, onI1, mAnd, mOr, mNot, mIf, mChain, frz_int, frz_bl, frz_non, frz_any, frz_node, frzL_nil, frzL_cons, frzL_dI, Tag.frz, D.isAny, asg, asgL, Option.bind, List.map_cons, List.map_nil, List.getElem?_cons_zero, List.getElem?_cons_succ, List.set_cons_zero, List.set_cons_succ, Bool.false_eq_true, if_false, if_true, reduceIte, List.length_cons, List.length_nil, Nat.zero_add, List.cons_append, List.nil_append, List.replicate, eqD_int, D.seq, intOf, Bool.not_true, Bool.not_false, oTup, oLst, Option.map_some, Option.map_none, decide_eq_true_eq, Nat.lt_add_left_iff_pos, Nat.zero_lt_succ, Nat.reduceLeDiff, Nat.reduceAdd, Nat.reduceSub, Nat.reduceLT, Bool.bne_false, Bool.bne_true, isi_bool_int]
theorem arewhole_ok {S : List Int} (hl : S.length ≤ 100000) : op_are_whole [.node (.lst true) (dI S)] = .ok (.bl true) [.node (.lst true) (dI S)] := by
  have L := mLc_map (src := fun env => .ok (dI S) env) (k := 1) (m := mApp (dfOp op_is_whole []) [(.peek 1)]) (vs := [1]) (tof := D.int) (f := fun _ : Int => D.bl true) (env := [.any, .any]) (e := [.any, .any]) (xs := S) rfl (by simp [anyAll, keepP]) (fun i _ => by
    have I := dfOp_ok (iswhole_ok i) rfl
    refine ⟨[.any, .int i], ?_, rfl⟩
    exact mApp_ok (e := [.any, .any]) rfl I) hl rfl
  have A : mAside 0 (fun xs => (mLc (fun env => .ok xs env) (.nm 1) none (mApp (dfOp op_is_whole []) [(.peek 1)]) [1])) [.node (.lst true) (dI S), .any] = .ok (.node (.lst true) (S.map fun _ => D.bl true)) [.node (.lst true) (dI S), .any] := by
    simp only [mAside, List.getElem?_cons_zero, D.seq, isFrzL_dI, if_true, List.set_cons_zero]
    rw [L]
    rfl
  exact fnOp_rt (r := .bl true) (e := [.node (.lst true) (dI S), .any]) rfl (sRet_ok (mApp_v1 A (all_true true S))) (by simp)
theorem islist_ok {S : List Int} {n : Nat} (hl : S.length = n) : op_is_list [.node (.lst true) (dI S), .int (n : Int), .int (n : Int)] = .ok (.bl true) [.node (.lst true) (dI S), .int (n : Int), .int (n : Int)] := by
  have h : decide ((n : Int) ≤ (n : Int)) = true := decide_eq_true (Int.le_refl _)
  refine fnOp_rt (r := .bl true) (e := [.node (.lst true) (dI S), .int (n : Int), .int (n : Int)]) rfl (sRet_ok (mAnd_t (e := [.node (.lst true) (dI S), .int (n : Int), .int (n : Int)]) ?_ (mAnd_t (e := [.node (.lst true) (dI S), .int (n : Int), .int (n : Int)]) ?_ (mOr_f (e := [.node (.lst true) (dI S), .int (n : Int), .int (n : Int)]) ?_ ?_)))) (by simp)
  · show mApp _ _ [.node (.lst true) (dI S), .int (n : Int), .int (n : Int)] = _
    simp -implicitDefEqProofs only [sSeq, sAsg, sIf, sRet, sRetV, sDrop, sPar, sNext, sBad, sCnt, sFor, mVar, mC, mApp, evA, putA, op1, op2, onInt, onI1, mAnd, mOr, mNot, mIf, mChain, frz_int, frz_bl, frz_non, frz_any, frz_node, frzL_nil, frzL_cons, frzL_dI, Tag.frz, D.isAny, asg, asgL, Option.bind, List.map_cons, List.map_nil, List.getElem?_cons_zero, List.getElem?_cons_succ, List.set_cons_zero, List.set_cons_succ, Bool.false_eq_true, if_false, if_true, reduceIte, List.length_cons, List.length_nil, Nat.zero_add, List.cons_append, List.nil_append, List.replicate, eqD_int, D.seq, intOf, Bool.not_true, Bool.not_false, oTup, oLst, Option.map_some, Option.map_none, decide_eq_true_eq, Nat.lt_add_left_iff_pos, Nat.zero_lt_succ, Nat.reduceLeDiff, Nat.reduceAdd, Nat.reduceSub, Nat.reduceLT, Bool.bne_false, Bool.bne_true, isi2_lst]
  · simp -implicitDefEqProofs only [sSeq, sAsg, sIf, sRet, sRetV, sDrop, sPar, sNext, sBad, sCnt, sFor, mVar, mC, mApp, evA, putA, op1, op2, onInt, onI1, mAnd, mOr, mNot, mIf, mChain, frz_int, frz_bl, frz_non, frz_any, frz_node, frzL_nil, frzL_cons, frzL_dI, Tag.frz, D.isAny, asg, asgL, Option.bind, List.map_cons, List.map_nil, List.getElem?_cons_zero, List.getElem?_cons_succ, List.set_cons_zero, List.set_cons_succ, Bool.false_eq_true, if_false, if_true, reduceIte, List.length_cons, List.length_nil, Nat.zero_add, List.cons_append, List.nil_append, List.replicate, eqD_int, D.seq, intOf, Bool.not_true, Bool.not_false, oTup, oLst, Option.map_some, Option.map_none, decide_eq_true_eq, Nat.lt_add_left_iff_pos, Nat.zero_lt_succ, Nat.reduceLeDiff, Nat.reduceAdd, Nat.reduceSub, Nat.reduceLT, Bool.bne_false, Bool.bne_true, dI_length, hl, h]
  · simp -implicitDefEqProofs only [sSeq, sAsg, sIf, sRet, sRetV, sDrop, sPar, sNext, sBad, sCnt, sFor, mVar, mC, mApp, evA, putA, op1, op2, onInt, onI1, mAnd, mOr, mNot, mIf, mChain, frz_int, frz_bl, frz_non, frz_any, frz_node, frzL_nil, frzL_cons, frzL_dI, Tag.frz, D.isAny, asg, asgL, Option.bind, List.map_cons, List.map_nil, List.getElem?_cons_zero, List.getElem?_cons_succ, List.set_cons_zero, List.set_cons_succ, Bool.false_eq_true, if_false, if_true, reduceIte, List.length_cons, List.length_nil, Nat.zero_add, List.cons_append, List.nil_append, List.replicate, eqD_int, D.seq, intOf, Bool.not_true, Bool.not_false, oTup, oLst, Option.map_some, Option.map_none, decide_eq_true_eq, Nat.lt_add_left_iff_pos, Nat.zero_lt_succ, Nat.reduceLeDiff, Nat.reduceAdd, Nat.reduceSub, Nat.reduceLT, Bool.bne_false, Bool.bne_true, onNon, isNon]
  · simp -implicitDefEqProofs only [sSeq, sAsg, sIf, sRet, sRetV, sDrop, sPar, sNext, sBad, sCnt, sFor, mVar, mC, mApp, evA, putA, op1, op2, onInt, onI1, mAnd, mOr, mNot, mIf, mChain, frz_int, frz_bl, frz_non, frz_any, frz_node, frzL_nil, frzL_cons, frzL_dI, Tag.frz, D.isAny, asg, asgL, Option.bind, List.map_cons, List.map_nil, List.getElem?_cons_zero, List.getElem?_cons_succ, List.set_cons_zero, List.set_cons_succ, Bool.false_eq_true, if_false, if_true, reduceIte, List.length_cons, List.length_nil, Nat.zero_add, List.cons_append, List.nil_append, List.replicate, eqD_int, D.seq, intOf, Bool.not_true, Bool.not_false, oTup, oLst, Option.map_some, Option.map_none, decide_eq_true_eq, Nat.lt_add_left_iff_pos, Nat.zero_lt_succ, Nat.reduceLeDiff, Nat.reduceAdd, Nat.reduceSub, Nat.reduceLT, Bool.bne_false, Bool.bne_true, dI_length, hl, h]
theorem sFldNew_ok {i : Nat} {c f : Str} {m : M} {env e : Env} {ns : List Str} {xs : List D} {r : D} (hm : m env = .ok r e) (he : e[i]? = some (.node (.ins true c ns) xs)) (hf : fAt ns f = none) (hl : ns.length = xs.length) (h9 : ns.length < 900) :
    sFldNew i c f m env = .nx (e.set i (.node (.ins true c (ns ++ [f])) (xs ++ [r]))) := by
  unfold sFldNew
  rw [hm]
  dsimp only
  rw [he]
  dsimp only
  rw [if_pos ⟨rfl, hf, hl, h9⟩]
theorem newb_ok {v s : Nat} {f : List Int → Int} (h1 : 1 ≤ v) (h2 : v ≤ 4) (h3 : 1 ≤ s) (h4 : s ≤ 6) :
    op_new_Board [.node (.ins true "Board" []) [], .int v, .int s, .node (.lst true) (dI ((BL v s).map f))] = .ok .non [bd true v s f, .int v, .int s, .node (.lst true) (dI ((BL v s).map f))] := by
  have CV := dfOp_ok (cval_ok h1 h2) rfl
  have CS := dfOp_ok (csize_ok h3 h4) rfl
  have CB := dfOp_ok (cbags_ok h1 h2 h4) rfl
  have BG := dfOp_ok (bags_ok h1 h2 h4) rfl
  have hn := (BL_len h1 h2 h4).2
  have nd := BL_nodup h1 h2 h4
  have IL := dfOp_ok (islist_ok (S := (BL v s).map f) (n := (BL v s).length) (by simp)) rfl
  have AW := dfOp_ok (arewhole_ok (S := (BL v s).map f) (by simp; omega)) rfl
  have DZ := dzip_ok2 (f := f) nd
  have TU := tuple_ok true ((BL v s).map f)
  have BD : ∀ o, bd o v s f = .node (.ins o "Board" bns) [.int v, .int s, .node .tup (dI ((BL v s).map f)), tabD o (BL v s) (fun b => .int (f b))] := fun _ => rfl
  generalize hT : tabD true (BL v s) (fun b => D.int (f b)) = T at DZ
  have BD2 := BD true
  rw [hT] at BD2
  rw [BD2]
  generalize (BL v s).length = n at CB IL
  generalize (BL v s).map bagD = bg at BG DZ
  generalize (BL v s).map f = S at IL AW DZ TU ⊢
  let E (x y : D) : Env := [x, .int v, .int s, .node (.lst true) (dI S), y]
  have e1 : ∀ x y, evA [(.peek 1)] (E x y) = .ok [.int v] [x, .any, .int s, .node (.lst true) (dI S), y] := fun x y => rfl
  have e2 : ∀ x y, evA [(.peek 2), (.val (mC (.int 1))), (.val (mC (.int 6)))] (E x y) = .ok [.int s, .int 1, .int 6] [x, .int v, .any, .node (.lst true) (dI S), y] := fun x y => rfl
  have e3 : ∀ x y, evA [(.peek 1), (.peek 2)] (E x y) = .ok [.int v, .int s] [x, .any, .any, .node (.lst true) (dI S), y] := fun x y => rfl
  have e4 : ∀ x, evA [(.peek 3), (.val (mVar 4)), (.peek 4)] (E x (.int (n : Int))) = .ok [.node (.lst true) (dI S), .int (n : Int), .int (n : Int)] [x, .int v, .int s, .any, .any] := fun x => rfl
  have e5 : ∀ x y, evA [(.peek 3)] (E x y) = .ok [.node (.lst true) (dI S)] [x, .int v, .int s, .any, y] := fun x y => rfl
  have S1 : ∀ x y, sDrop (mApp (dfOp op_check_values []) [(.peek 1)]) (E x y) = .nx (E x y) := fun x y => sDrop_ok (mApp_ok (e1 x y) CV)
  have S2 : ∀ x y, sDrop (mApp (dfOp op_check_size []) [(.peek 2), (.val (mC (.int 1))), (.val (mC (.int 6)))]) (E x y) = .nx (E x y) := fun x y => sDrop_ok (mApp_ok (e2 x y) CS)
  have S3 : ∀ x y, sAsg (.nm 4) (mApp (dfOp op_count_bags []) [(.peek 1), (.peek 2)]) (E x y) = .nx (E x (.int (n : Int))) := fun x y => sAsg_ok (mApp_ok (e3 x y) CB) rfl
  have C1 : ∀ x, mNot (mApp (dfOp op_is_list []) [(.peek 3), (.val (mVar 4)), (.peek 4)]) (E x (.int (n : Int))) = .ok (.bl false) (E x (.int (n : Int))) := fun x => mNot_ok (b := true) (mApp_ok (e4 x) IL)
  have C2 : ∀ x y, mNot (mApp (dfOp op_are_whole []) [(.peek 3)]) (E x y) = .ok (.bl false) (E x y) := fun x y => mNot_ok (b := true) (mApp_ok (e5 x y) AW)
  have F1 : ∀ y, sFldNew 0 "Board" "many" (mVar 1) (E (.node (.ins true "Board" []) []) y) = .nx (E (.node (.ins true "Board" ["many"]) [.int v]) y) := fun y =>
    sFldNew_ok (i := 0) (c := "Board") (f := "many") (m := mVar 1) (env := E (.node (.ins true "Board" []) []) y) (e := E (.node (.ins true "Board" []) []) y) (ns := []) (xs := []) (r := .int v) (mVar_s (d := .int v) rfl rfl rfl) rfl (by decide +kernel) rfl (by simp)
  have F2 : ∀ y, sFldNew 0 "Board" "size" (mVar 2) (E (.node (.ins true "Board" ["many"]) [.int v]) y) = .nx (E (.node (.ins true "Board" ["many", "size"]) [.int v, .int s]) y) := fun y =>
    sFldNew_ok (i := 0) (c := "Board") (f := "size") (m := mVar 2) (env := E (.node (.ins true "Board" ["many"]) [.int v]) y) (e := E (.node (.ins true "Board" ["many"]) [.int v]) y) (ns := ["many"]) (xs := [.int v]) (r := .int s) (mVar_s (d := .int s) rfl rfl rfl) rfl (by decide +kernel) rfl (by simp)
  have F3 : ∀ y, sFldNew 0 "Board" "signs" (mApp oTuple [(.peek 3)]) (E (.node (.ins true "Board" ["many", "size"]) [.int v, .int s]) y) = .nx (E (.node (.ins true "Board" ["many", "size", "signs"]) [.int v, .int s, .node .tup (dI S)]) y) := fun y =>
    sFldNew_ok (i := 0) (c := "Board") (f := "signs") (m := mApp oTuple [(.peek 3)]) (env := E (.node (.ins true "Board" ["many", "size"]) [.int v, .int s]) y) (e := E (.node (.ins true "Board" ["many", "size"]) [.int v, .int s]) y) (ns := ["many", "size"]) (xs := [.int v, .int s]) (r := .node .tup (dI S)) (mApp_ok (e5 _ y) TU) rfl (by decide +kernel) rfl (by simp)
  have e6 : ∀ x y, evA [(.val (mApp (dfOp op_bags []) [(.peek 1), (.peek 2)])), (.peek 3)] (E x y) = .ok [.node (.lst true) bg, .node (.lst true) (dI S)] [x, .int v, .int s, .any, y] := fun x y => evA_val (mApp_ok (e3 x y) BG) rfl
  have F4 : ∀ y, sFldNew 0 "Board" "_by_bag" (mApp oDZip [(.val (mApp (dfOp op_bags []) [(.peek 1), (.peek 2)])), (.peek 3)]) (E (.node (.ins true "Board" ["many", "size", "signs"]) [.int v, .int s, .node .tup (dI S)]) y) = .nx (E (.node (.ins true "Board" ["many", "size", "signs", "_by_bag"]) [.int v, .int s, .node .tup (dI S), T]) y) := fun y =>
    sFldNew_ok (i := 0) (c := "Board") (f := "_by_bag") (m := mApp oDZip [(.val (mApp (dfOp op_bags []) [(.peek 1), (.peek 2)])), (.peek 3)]) (env := E (.node (.ins true "Board" ["many", "size", "signs"]) [.int v, .int s, .node .tup (dI S)]) y) (e := E (.node (.ins true "Board" ["many", "size", "signs"]) [.int v, .int s, .node .tup (dI S)]) y) (ns := ["many", "size", "signs"]) (xs := [.int v, .int s, .node .tup (dI S)]) (r := T) (mApp_ok (e6 _ y) DZ) rfl (by decide +kernel) rfl (by simp)
  exact fnOp_nx (e := E (.node (.ins true "Board" bns) [.int v, .int s, .node .tup (dI S), T]) (.int (n : Int))) rfl (sSeq_nx (S1 _ _) (sSeq_nx (S2 _ _) (sSeq_nx (S3 _ _) (sSeq_nx (sIf_f (mOr_f (C1 _) (C2 _ _)) rfl) (sSeq_nx (F1 _) (sSeq_nx (F2 _) (sSeq_nx (F3 _) (F4 _)))))))) (by simp [E])
theorem sSetI_ok {i j : Nat} {m mi : M} {env e1 e2 : Env} {r : D} {xs ys : List D} {k : Int} (hm : m env = .ok r e1) (h1 : e1[i]? = some (.node (.lst true) ys)) (hk : mi e1 = .ok (.int k) e2) (h2 : e2[i]? = some (.node (.lst true) xs)) (hj : ixN xs.length k = some j) : sSetI i m mi env = .nx (e2.set i (.node (.lst true) (xs.set j r))) := by
  simp only [sSetI, hm, h1, hk, h2, hj]
theorem made_ok {v s : Nat} {f : List Int → Int} (h1 : 1 ≤ v) (h2 : v ≤ 4) (h3 : 1 ≤ s) (h4 : s ≤ 6) : op__law_made [lb v s f] = .ok (bd true v s f) [lb v s f] := by
  have hn := (BL_len h1 h2 h4)
  have NB : makeOp "Board" op_new_Board [.int v, .int s, .node (.lst true) (dI ((BL v s).map f))] = .ok (bd true v s f) [.int v, .int s, .node (.lst true) (dI ((BL v s).map f))] := by
    simp only [makeOp, newb_ok (f := f) h1 h2 h3 h4]
  have a0 := lb0 v s f
  have a1 := lb1 v s f
  have a2 := lb2 v s f
  have aL : (lb v s f).isAny = false := rfl
  have hS : (BL v s).map f ≠ [] := by
    intro h
    have := congrArg List.length h
    simp at this
    have h0 := hn.1
    rw [this] at h0
    simp at h0
  have hSl : ((BL v s).map f).length ≤ 84 := by simpa using hn.2
  have aB : (bd true v s f).isAny = false := rfl
  generalize lb v s f = B at a0 a1 a2 aL ⊢
  generalize bd true v s f = R at NB aB ⊢
  generalize (BL v s).map f = S at NB a2 hS hSl
  have ix : ∀ (x y : D) (i : Int) (r : D), oIx [B, .int i] = .ok r [B, .int i] → mApp oIx [(.peek 0), (.val (mC (.int i)))] [B, x, y] = .ok r [B, x, y] := fun x y i r h => by
    have P : evA [(.peek 0), (.val (mC (.int i)))] [B, x, y] = .ok [B, .int i] [.any, x, y] := evA_peek rfl aL (evA_val (m := mC (.int i)) rfl evA_nil) rfl aL
    exact mApp_ok P h
  have LI : oList [.node (.lst false) (dI S)] = .ok (.node (.lst true) (dI S)) [.node (.lst false) (dI S)] := by
    simp only [oList, D.seq, if_pos (isFrzL_dI S)]
  have S1 : sAsg (.nm 1) (mApp oList [(.val (mApp oIx [(.peek 0), (.val (mC (.int 2)))]))]) [B, .any, .any] = .nx [B, .node (.lst true) (dI S), .any] := sAsg_ok (mApp_v1 (ix _ _ 2 _ a2) LI) rfl
  have S2 : sAsg (.nm 2) (mApp (makeOp "Board" op_new_Board) [(.val (mApp oIx [(.peek 0), (.val (mC (.int 0)))])), (.val (mApp oIx [(.peek 0), (.val (mC (.int 1)))])), (.peek 1)]) [B, .node (.lst true) (dI S), .any] = .nx [B, .node (.lst true) (dI S), R] := sAsg_ok (mApp_ok (evA_val (ix _ _ 0 _ a0) (evA_val (ix _ _ 1 _ a1) rfl)) NB) rfl
  obtain ⟨q, S', rfl⟩ : ∃ q S', S = q :: S' := by
    cases S with
    | nil => exact absurd rfl hS
    | cons q S' => exact ⟨q, S', rfl⟩
  have i0 : oIx [.node (.lst true) (dI (q :: S')), .int 0] = .ok (.int q) [.node (.lst true) (dI (q :: S')), .int 0] := ix_ok rfl (ixN_nat (k := 0) (by simp)) rfl (isFrz_int _)
  have m0 : mApp oAdd [(.val (mApp oIx [(.peek 1), (.val (mC (.int 0)))])), (.val (mC (.int 1)))] [B, .node (.lst true) (dI (q :: S')), R] = .ok (.int (q + 1)) [B, .node (.lst true) (dI (q :: S')), R] := by simp -implicitDefEqProofs only [sSeq, sAsg, sIf, sRet, sRetV, sDrop, sPar, sNext, sBad, sCnt, sFor, mVar, mC, mApp, evA, putA, op1, op2, onInt, onI1, mAnd, mOr, mNot, mIf, mChain, frz_int, frz_bl, frz_non, frz_any, frz_node, frzL_nil, frzL_cons, frzL_dI, Tag.frz, D.isAny, asg, asgL, Option.bind, List.map_cons, List.map_nil, List.getElem?_cons_zero, List.getElem?_cons_succ, List.set_cons_zero, List.set_cons_succ, Bool.false_eq_true, if_false, if_true, reduceIte, List.length_cons, List.length_nil, Nat.zero_add, List.cons_append, List.nil_append, List.replicate, eqD_int, D.seq, intOf, Bool.not_true, Bool.not_false, oTup, oLst, Option.map_some, Option.map_none, decide_eq_true_eq, Nat.lt_add_left_iff_pos, Nat.zero_lt_succ, Nat.reduceLeDiff, Nat.reduceAdd, Nat.reduceSub, Nat.reduceLT, Bool.bne_false, Bool.bne_true, i0]
  have S3 : sSetI 1 (mApp oAdd [(.val (mApp oIx [(.peek 1), (.val (mC (.int 0)))])), (.val (mC (.int 1)))]) (mC (.int 0)) [B, .node (.lst true) (dI (q :: S')), R] = .nx [B, .node (.lst true) (dI ((q + 1) :: S')), R] := by
    exact sSetI_ok (i := 1) (j := 0) m0 rfl (mi := mC (.int 0)) rfl rfl (ixN_nat (k := 0) (by simp))
  have S4 : sDrop (mLst fAppend 1 [(.val (mC (.int 0)))]) [B, .node (.lst true) (dI ((q + 1) :: S')), R] = .nx [B, .node (.lst true) (dI ((q + 1) :: S') ++ [.int 0]), R] := append_ok (i := 1) rfl (m := mC (.int 0)) rfl rfl (by
    simp at hSl ⊢
    omega)
  have S5 : sRetV 2 [B, .node (.lst true) (dI ((q + 1) :: S') ++ [.int 0]), R] = .rt R [B, .node (.lst true) (dI ((q + 1) :: S') ++ [.int 0]), .any] := by
    simp only [sRetV, List.getElem?_cons_zero, List.getElem?_cons_succ, aB]
    rfl
  exact fnOp_rt (r := R) (e := [B, .node (.lst true) (dI ((q + 1) :: S') ++ [.int 0]), .any]) rfl (sSeq_nx S1 (sSeq_nx S2 (sSeq_nx S3 (sSeq_nx S4 S5)))) (by simp)
end Z

set_option Elab.async false
set_option linter.all false
set_option maxRecDepth 100000
set_option maxHeartbeats 4000000
namespace Z
open PySem PySem.Spec PyProof.Rows
open L2 StX

/-! ### draws within a def -/
theorem Bx.mono {k k' : Nat} {d : D} (h : Bx k d) (hk : k ≤ k') : Bx k' d := by
  obtain ⟨a, g, c, j, e, h1, h2, h3, h4, h5⟩ := h
  exact ⟨a, g, c, j, e, h1, h2, h3, h4, by omega⟩
theorem Bx.nany {k : Nat} {d : D} (h : Bx k d) : d.isAny = false := by
  obtain ⟨a, g, c, j, rfl, _⟩ := h
  rfl
abbrev mTk (o : Opd) : M := mApp (dfOp op__law_take []) [(.peek 0), o]
theorem take_m {k : Nat} {d : D} {m : Int} {mm : M} {rest : Env} (h : Bx k d) (hk : k < 1000000) (hm : 0 < m) (hm2 : m < 1000000) (he : mm (d :: rest) = .ok (.int m) (d :: rest)) :
    ∃ (r : Int) (d' : D), mTk (.val mm) (d :: rest) = .ok (.int r) (d' :: rest) ∧ 0 ≤ r ∧ r < m ∧ Bx (k + 1) d' := by
  obtain ⟨r, d', e, h1, h2, h3⟩ := take_ok h hk hm hm2
  refine ⟨r, d', ?_, h1, h2, h3⟩
  have P : evA [(.peek 0), .val mm] (d :: rest) = .ok [d, .int m] (.any :: rest) := evA_peek rfl h.nany (evA_val he evA_nil) rfl h.nany
  exact mApp_ok P (dfOp_ok e rfl)
theorem take_c {k : Nat} {d : D} {m : Int} {rest : Env} (h : Bx k d) (hk : k < 1000000) (hm : 0 < m) (hm2 : m < 1000000) :
    ∃ (r : Int) (d' : D), mTk (.val (mC (.int m))) (d :: rest) = .ok (.int r) (d' :: rest) ∧ 0 ≤ r ∧ r < m ∧ Bx (k + 1) d' := take_m h hk hm hm2 rfl
theorem take_p {k : Nat} {d : D} {m : Int} {i : Nat} {rest : Env} (h : Bx k d) (hk : k < 1000000) (hm : 0 < m) (hm2 : m < 1000000) (hr : rest[i]? = some (.int m)) :
    ∃ (r : Int) (d' : D), mTk (.peek (i + 1)) (d :: rest) = .ok (.int r) (d' :: rest) ∧ 0 ≤ r ∧ r < m ∧ Bx (k + 1) d' := by
  obtain ⟨r, d', e, h1, h2, h3⟩ := take_ok h hk hm hm2
  refine ⟨r, d', ?_, h1, h2, h3⟩
  have P0 : evA [.peek (i + 1)] (d :: rest) = .ok [.int m] (d :: rest.set i .any) := evA_peek (d0 := .int m) (by simpa using hr) rfl evA_nil (by simpa using hr) rfl
  have P : evA [(.peek 0), .peek (i + 1)] (d :: rest) = .ok [d, .int m] (.any :: rest.set i .any) := evA_peek rfl h.nany P0 rfl h.nany
  have Q := mApp_ok P (dfOp_ok e rfl)
  have S : putA [(.peek 0), .peek (i + 1)] [d', .int m] (.any :: rest.set i .any) = d' :: rest := by
    simp only [putA, List.set_cons_succ, List.set_cons_zero, List.set_set]
    rw [set_same hr]
  rw [S] at Q
  exact Q

/-! ### the shape of a board -/
def L6 : List (Int × Int) := [(3, 5), (3, 6), (4, 4), (1, 6), (4, 5), (4, 6)]
def L15 : List (Int × Int) := [(2, 2), (3, 2), (2, 3), (1, 3), (3, 3), (2, 1), (4, 2), (2, 4), (3, 1), (2, 5), (4, 3), (1, 1), (3, 4), (2, 6), (4, 1)]
theorem sh6 : ∀ p ∈ L6, 1 ≤ p.1 ∧ p.1 ≤ 4 ∧ 1 ≤ p.2 ∧ p.2 ≤ 6 := by decide
theorem sh15 : ∀ p ∈ L15, 1 ≤ p.1 ∧ p.1 ≤ 4 ∧ 1 ≤ p.2 ∧ p.2 ≤ 6 := by decide
theorem ix_pairs {L : List (Int × Int)} {r : Int} (h0 : 0 ≤ r) (h1 : r < L.length) : ∃ p ∈ L, oIx [.node (.lst true) (L.map pairD), .int r] = .ok (pairD p) [.node (.lst true) (L.map pairD), .int r] := by
  obtain ⟨n, rfl⟩ : ∃ n : Nat, r = n := ⟨r.toNat, by omega⟩
  have hn : n < L.length := by omega
  refine ⟨L[n], List.getElem_mem hn, ix_ok rfl (ixN_nat (by simpa using hn)) ?_ (isFrz_pair _)⟩
  rw [List.getElem?_map, List.getElem?_eq_getElem hn]
  rfl
theorem shape_ok {k : Nat} {d : D} {m : Int} (h : Bx k d) (hk : k + 2 < 1000000) (hm : 0 < m) (hm2 : m ≤ 6) :
    ∃ (v s : Nat) (d' : D), op__law_shape [d, .int m] = .ok (pairD ((v : Int), (s : Int))) [d', .int m] ∧ 1 ≤ v ∧ v ≤ 4 ∧ 1 ≤ s ∧ s ≤ 6 ∧ Bx (k + 2) d' := by
  obtain ⟨r, d1, e1, r0, r1, b1⟩ := take_c (m := 16) (rest := [.int m, .any]) h (by omega) (by omega) (by omega)
  have S1 : sAsg (.nm 2) (mTk (.val (mC (.int 16)))) [d, .int m, .any] = .nx [d1, .int m, .int r] := sAsg_ok e1 rfl
  by_cases hr : r = 15
  · obtain ⟨q, d2, e2, q0, q1, b2⟩ := take_p (m := m) (i := 0) (rest := [.int m, .int r]) b1 (by omega) hm (by omega) rfl
    obtain ⟨p, hp, ip⟩ := ix_pairs (L := L6) (r := q) q0 (by
      have : (L6.length : Int) = 6 := rfl
      omega)
    obtain ⟨h1, h2, h3, h4⟩ := sh6 p hp
    have C : mApp (op2 (eqD false)) [(.peek 2), (.val (mC (.int 15)))] [d1, .int m, .int r] = .ok (.bl true) [d1, .int m, .int r] := by
      simp -implicitDefEqProofs only [sSeq, sAsg, sIf, sRet, sRetV, sDrop, sPar, sNext, sBad, sCnt, sFor, mVar, mC, mApp, evA, putA, op1, op2, onInt, onI1, mAnd, mOr, mNot, mIf, mChain, frz_int, frz_bl, frz_non, frz_any, frz_node, frzL_nil, frzL_cons, frzL_dI, Tag.frz, D.isAny, asg, asgL, Option.bind, List.map_cons, List.map_nil, List.getElem?_cons_zero, List.getElem?_cons_succ, List.set_cons_zero, List.set_cons_succ, Bool.false_eq_true, if_false, if_true, reduceIte, List.length_cons, List.length_nil, Nat.zero_add, List.cons_append, List.nil_append, List.replicate, eqD_int, D.seq, intOf, Bool.not_true, Bool.not_false, oTup, oLst, Option.map_some, Option.map_none, decide_eq_true_eq, Nat.lt_add_left_iff_pos, Nat.zero_lt_succ, Nat.reduceLeDiff, Nat.reduceAdd, Nat.reduceSub, Nat.reduceLT, Bool.bne_false, Bool.bne_true, decide_eq_true hr]
    have Q := mApp_ok (evA_val (m := mApp oLst [(.val (mApp oTup [(.val (mC (.int 3))), (.val (mC (.int 5)))])), (.val (mApp oTup [(.val (mC (.int 3))), (.val (mC (.int 6)))])), (.val (mApp oTup [(.val (mC (.int 4))), (.val (mC (.int 4)))])), (.val (mApp oTup [(.val (mC (.int 1))), (.val (mC (.int 6)))])), (.val (mApp oTup [(.val (mC (.int 4))), (.val (mC (.int 5)))])), (.val (mApp oTup [(.val (mC (.int 4))), (.val (mC (.int 6)))]))]) (env := [d1, .int m, .int r]) (r := .node (.lst true) (L6.map pairD)) rfl (evA_val e2 evA_nil)) ip
    refine ⟨p.1.toNat, p.2.toNat, d2, ?_, by omega, by omega, by omega, by omega, b2⟩
    rw [Int.toNat_of_nonneg (by omega), Int.toNat_of_nonneg (by omega)]
    exact fnOp_rt (r := pairD p) (e := [d2, .int m, .int r]) rfl (sSeq_nx S1 (sSeq_rt (sIf_t C (sRet_ok Q)))) (by simp)
  · obtain ⟨p, hp, ip⟩ := ix_pairs (L := L15) (r := r) r0 (by
      have : (L15.length : Int) = 15 := rfl
      omega)
    obtain ⟨h1, h2, h3, h4⟩ := sh15 p hp
    have C : mApp (op2 (eqD false)) [(.peek 2), (.val (mC (.int 15)))] [d1, .int m, .int r] = .ok (.bl false) [d1, .int m, .int r] := by
      simp -implicitDefEqProofs only [sSeq, sAsg, sIf, sRet, sRetV, sDrop, sPar, sNext, sBad, sCnt, sFor, mVar, mC, mApp, evA, putA, op1, op2, onInt, onI1, mAnd, mOr, mNot, mIf, mChain, frz_int, frz_bl, frz_non, frz_any, frz_node, frzL_nil, frzL_cons, frzL_dI, Tag.frz, D.isAny, asg, asgL, Option.bind, List.map_cons, List.map_nil, List.getElem?_cons_zero, List.getElem?_cons_succ, List.set_cons_zero, List.set_cons_succ, Bool.false_eq_true, if_false, if_true, reduceIte, List.length_cons, List.length_nil, Nat.zero_add, List.cons_append, List.nil_append, List.replicate, eqD_int, D.seq, intOf, Bool.not_true, Bool.not_false, oTup, oLst, Option.map_some, Option.map_none, decide_eq_true_eq, Nat.lt_add_left_iff_pos, Nat.zero_lt_succ, Nat.reduceLeDiff, Nat.reduceAdd, Nat.reduceSub, Nat.reduceLT, Bool.bne_false, Bool.bne_true, decide_eq_false hr]
    have P2 : evA [(.peek 2)] [d1, .int m, .int r] = .ok [.int r] [d1, .int m, .any] := rfl
    have Q := mApp_ok (evA_val (m := mApp oLst [(.val (mApp oTup [(.val (mC (.int 2))), (.val (mC (.int 2)))])), (.val (mApp oTup [(.val (mC (.int 3))), (.val (mC (.int 2)))])), (.val (mApp oTup [(.val (mC (.int 2))), (.val (mC (.int 3)))])), (.val (mApp oTup [(.val (mC (.int 1))), (.val (mC (.int 3)))])), (.val (mApp oTup [(.val (mC (.int 3))), (.val (mC (.int 3)))])), (.val (mApp oTup [(.val (mC (.int 2))), (.val (mC (.int 1)))])), (.val (mApp oTup [(.val (mC (.int 4))), (.val (mC (.int 2)))])), (.val (mApp oTup [(.val (mC (.int 2))), (.val (mC (.int 4)))])), (.val (mApp oTup [(.val (mC (.int 3))), (.val (mC (.int 1)))])), (.val (mApp oTup [(.val (mC (.int 2))), (.val (mC (.int 5)))])), (.val (mApp oTup [(.val (mC (.int 4))), (.val (mC (.int 3)))])), (.val (mApp oTup [(.val (mC (.int 1))), (.val (mC (.int 1)))])), (.val (mApp oTup [(.val (mC (.int 3))), (.val (mC (.int 4)))])), (.val (mApp oTup [(.val (mC (.int 2))), (.val (mC (.int 6)))])), (.val (mApp oTup [(.val (mC (.int 4))), (.val (mC (.int 1)))]))]) (env := [d1, .int m, .int r]) (r := .node (.lst true) (L15.map pairD)) rfl P2) ip
    refine ⟨p.1.toNat, p.2.toNat, d1, ?_, by omega, by omega, by omega, by omega, b1.mono (by omega)⟩
    rw [Int.toNat_of_nonneg (by omega), Int.toNat_of_nonneg (by omega)]
    exact fnOp_rt (r := pairD p) (e := [d1, .int m, .int r]) rfl (sSeq_nx S1 (sSeq_nx (sIf_f C rfl) (sRet_ok Q))) (by simp)

/-! ### things that can be told from one another -/
theorem pyL_dI (l : List Int) : pyL (dI l) = some (l.map .int) := by
  induction l with
  | nil => rw [dI_nil, pyL]; rfl
  | cons x l ih =>
    rw [dI_cons, pyL, ih]
    rfl
theorem can_ints (l : List Int) : PyData.canLayAll0 (l.map .int) = true := by
  induction l with
  | nil => rfl
  | cons x l ih =>
    rw [List.map_cons, PyData.canLayAll0, ih]
    rfl
theorem dep_ints (l : List Int) : PyData.depthAll (l.map .int) = 0 := by
  induction l with
  | nil => rfl
  | cons x l ih =>
    rw [List.map_cons, PyData.depthAll, ih]
    rfl
theorem shaped_li (l : List Int) : SeqAt.shaped (.list (l.map .int)) = true := by
  simp only [SeqAt.shaped, PyData.canLay0, can_ints, PyData.depth, dep_ints]
  rfl
theorem shaped_tu (l : List Int) : SeqAt.shaped (.tuple (l.map .int)) = true := by
  simp only [SeqAt.shaped, PyData.canLay0, can_ints, PyData.depth, dep_ints]
  rfl
theorem eqD_nil (l : List Int) : eqD true (.node (.lst true) (dI l)) (.node (.lst true) []) = some (.bl (decide (l ≠ []))) := by
  have e1 : D.py (.node (.lst true) (dI l)) = some (.list (l.map .int)) := by rw [D.py, pyL_dI]; rfl
  have e2 : D.py (.node (.lst true) []) = some (.list []) := by rw [D.py, pyL]; rfl
  simp only [eqD, e1, e2]
  rw [if_pos ⟨shaped_li l, shaped_li []⟩]
  cases l with
  | nil => rfl
  | cons x l => rfl
end Z

set_option Elab.async false
set_option linter.all false
set_option maxRecDepth 100000
set_option maxHeartbeats 4000000
namespace Z
open PySem PySem.Spec PyProof.Rows
open L2 StX

/-! ### a list in mixed order -/
theorem loopW_t {c : M} {b : S} {n : Nat} {env e1 e2 : Env} {r : SRes} (h : c env = .ok (.bl true) e1) (hb : b e1 = .nx e2) (hr : loopW c b n e2 = r) : loopW c b (n + 1) env = r := by
  simp only [loopW, h, hb, hr]
theorem loopW_f {c : M} {b : S} {n : Nat} {env e1 : Env} (h : c env = .ok (.bl false) e1) : loopW c b (n + 1) env = .nx e1 := by
  simp only [loopW, h]
theorem mLst_v {f : List D → List D → Option (D × List D)} {i : Nat} {m : M} {env e1 : Env} {x r : D} {xs ys zs : List D} (h0 : env[i]? = some (.node (.lst true) zs)) (hm : m env = .ok x e1) (h1 : e1[i]? = some (.node (.lst true) xs)) (hf : f xs [x] = some (r, ys)) :
    mLst f i [.val m] env = .ok r (e1.set i (.node (.lst true) ys)) := by
  simp only [mLst, h0, evA_val hm evA_nil, h1, hf]
  rfl
theorem erase_dI : ∀ (l : List Int) (i : Nat), (dI l).eraseIdx i = dI (l.eraseIdx i)
  | [], _ => rfl
  | _ :: _, 0 => rfl
  | x :: l, i + 1 => by
    rw [dI_cons, List.eraseIdx_cons_succ, List.eraseIdx_cons_succ, dI_cons, erase_dI l i]
theorem popAt_ok {l : List Int} {r : Int} (h0 : 0 ≤ r) (h1 : r < l.length) (hl : l.length ≤ 1000) : ∃ x l', fPopAt (dI l) [.int r] = some (.int x, dI l') ∧ l'.length + 1 = l.length := by
  have hn : r.toNat < l.length := by omega
  refine ⟨l[r.toNat], l.eraseIdx r.toNat, ?_, ?_⟩
  · simp only [fPopAt]
    rw [if_pos ⟨h0, by omega⟩, dI_get, List.getElem?_eq_getElem hn]
    simp only [Option.map_some, erase_dI]
  · rw [List.length_eraseIdx_of_lt hn]
    omega
abbrev cMx : M := mApp (op2 (eqD true)) [(.peek 2), (.val (mApp oLst []))]
abbrev mMx : M := mLst fPopAt 2 [(.val (mTk (.val (mApp oLen [(.peek 2)]))))]
theorem mixed_loop {it : D} : ∀ (n : Nat) (l m : List Int) (k : Nat) (d : D), l.length < n → Bx k d → k + l.length < 1000000 → l.length + m.length ≤ 1000 →
    ∃ (m' : List Int) (d' : D), loopW cMx (sDrop (mLst fAppend 3 [.val mMx])) n [d, it, .node (.lst true) (dI l), .node (.lst true) (dI m)] = .nx [d', it, .node (.lst true) [], .node (.lst true) (dI m')] ∧ m'.length = l.length + m.length ∧ Bx (k + l.length) d' := by
  intro n
  induction n with
  | zero => intro l m k d h; omega
  | succ n ih =>
    intro l m k d hl hb hk hm
    have C : cMx [d, it, .node (.lst true) (dI l), .node (.lst true) (dI m)] = .ok (.bl (decide (l ≠ []))) [d, it, .node (.lst true) (dI l), .node (.lst true) (dI m)] := by
      have E := eqD_nil l
      have P : evA [(.peek 2), (.val (mApp oLst []))] [d, it, .node (.lst true) (dI l), .node (.lst true) (dI m)] = .ok [.node (.lst true) (dI l), .node (.lst true) []] [d, it, .any, .node (.lst true) (dI m)] := rfl
      have O : op2 (eqD true) [.node (.lst true) (dI l), .node (.lst true) []] = .ok (.bl (decide (l ≠ []))) [.node (.lst true) (dI l), .node (.lst true) []] := by simp only [op2, E]
      exact mApp_ok P O
    by_cases he : l = []
    · subst he
      refine ⟨m, d, ?_, by simp, by simpa using hb⟩
      exact loopW_f C
    · have hpos : 0 < l.length := List.length_pos_iff.mpr he
      rw [decide_eq_true he] at C
      obtain ⟨r, d1, e1, r0, r1, b1⟩ := take_m (m := (l.length : Int)) (mm := mApp oLen [(.peek 2)]) (rest := [it, .node (.lst true) (dI l), .node (.lst true) (dI m)]) hb (by omega) (by omega) (by omega) (by
        have P : evA [(.peek 2)] [d, it, .node (.lst true) (dI l), .node (.lst true) (dI m)] = .ok [.node (.lst true) (dI l)] [d, it, .any, .node (.lst true) (dI m)] := rfl
        have O := len_node (α := Nat) (.lst true) (dI l) (dI l) rfl
        rw [dI_length] at O
        exact mApp_ok P O)
      obtain ⟨x, l', f1, hl'⟩ := popAt_ok (l := l) r0 r1 (by omega)
      have M1 : mMx [d, it, .node (.lst true) (dI l), .node (.lst true) (dI m)] = .ok (.int x) [d1, it, .node (.lst true) (dI l'), .node (.lst true) (dI m)] := mLst_v (i := 2) rfl e1 rfl f1
      have B1 : sDrop (mLst fAppend 3 [.val mMx]) [d, it, .node (.lst true) (dI l), .node (.lst true) (dI m)] = .nx [d1, it, .node (.lst true) (dI l'), .node (.lst true) (dI m ++ [.int x])] := append_ok (i := 3) rfl M1 rfl (by simp; omega)
      rw [dI_snoc] at B1
      obtain ⟨m', d', L, h1, h2⟩ := ih l' (m ++ [x]) (k + 1) d1 (by omega) b1 (by omega) (by simp; omega)
      refine ⟨m', d', loopW_t C B1 L, ?_, h2.mono (by omega)⟩
      rw [h1, List.length_append, List.length_cons, List.length_nil]
      omega
theorem mixed_ok {k : Nat} {d : D} {l : List Int} (h : Bx k d) (hl : l.length < 100) (hk : k + l.length < 1000000) :
    ∃ (l' : List Int) (d' : D), op__law_mixed [d, .node (.lst true) (dI l)] = .ok (.node (.lst true) (dI l')) [d', .node (.lst true) (dI l)] ∧ l'.length = l.length ∧ Bx (k + l.length) d' := by
  obtain ⟨l', d', L, h1, h2⟩ := mixed_loop (it := .node (.lst true) (dI l)) 200 l [] k d (by omega) h hk (by simp; omega)
  have LI : oList [.node (.lst true) (dI l)] = .ok (.node (.lst true) (dI l)) [.node (.lst true) (dI l)] := by
    simp only [oList, D.seq, if_pos (isFrzL_dI l)]
  have P : evA [(.peek 1)] [d, .node (.lst true) (dI l), .any, .any] = .ok [.node (.lst true) (dI l)] [d, .any, .any, .any] := rfl
  have Q := mApp_ok P LI
  have A : sPar [2, 3] [(.val (mApp oList [(.peek 1)])), (.val (mApp oLst []))] [d, .node (.lst true) (dI l), .any, .any] = .nx [d, .node (.lst true) (dI l), .node (.lst true) (dI l), .node (.lst true) []] := by
    have R : evA [(.val (mApp oList [(.peek 1)])), (.val (mApp oLst []))] [d, .node (.lst true) (dI l), .any, .any] = .ok [.node (.lst true) (dI l), .node (.lst true) []] [d, .node (.lst true) (dI l), .any, .any] := evA_val Q rfl
    simp only [sPar, R]
    rfl
  refine ⟨l', d', ?_, by simpa using h1, h2⟩
  exact fnOp_rt (r := .node (.lst true) (dI l')) (e := [d', .node (.lst true) (dI l), .node (.lst true) [], .any]) rfl (sSeq_nx A (sSeq_nx L rfl)) (by simp)
end Z

set_option Elab.async false
set_option linter.all false
set_option maxRecDepth 100000
set_option maxHeartbeats 4000000
namespace Z
open PySem PySem.Spec PyProof.Rows
open L2 StX

/-! ### things -/
def Th (d : D) : Prop := (∃ i, d = .int i) ∨ (∃ l, d = bagD l) ∨ ∃ l, d = tuxD l
theorem Th.frz {d : D} (h : Th d) : d.isFrz = true := by
  rcases h with ⟨i, rfl⟩ | ⟨l, rfl⟩ | ⟨l, rfl⟩
  · exact isFrz_int i
  · exact isFrz_bag l
  · exact isFrz_node rfl (isFrzL_dI l)
theorem Th.nany {d : D} (h : Th d) : d.isAny = false := by
  rcases h with ⟨i, rfl⟩ | ⟨l, rfl⟩ | ⟨l, rfl⟩ <;> rfl
theorem Th.py {d : D} (h : Th d) : ∃ p, d.py = some p ∧ p.canLay0 = true ∧ p.depth ≤ 1 := by
  rcases h with ⟨i, rfl⟩ | ⟨l, rfl⟩ | ⟨l, rfl⟩
  · exact ⟨.int i, by rw [D.py], rfl, by simp [PyData.depth]⟩
  · refine ⟨.tuple (l.map .int), by rw [D.py, pyL_dI]; rfl, ?_, ?_⟩
    · rw [PyData.canLay0, can_ints]
    · rw [PyData.depth, dep_ints]; omega
  · refine ⟨.tuple (l.map .int), by rw [D.py, pyL_dI]; rfl, ?_, ?_⟩
    · rw [PyData.canLay0, can_ints]
    · rw [PyData.depth, dep_ints]; omega
def PL (xs : List D) (ps : List PyData) : Prop := pyL xs = some ps ∧ PyData.canLayAll0 ps = true ∧ PyData.depthAll ps ≤ 1
theorem PL.nil : PL [] [] := ⟨by rw [pyL], rfl, by simp [PyData.depthAll]⟩
theorem PL.cons {d : D} {xs : List D} {p : PyData} {ps : List PyData} (hp : d.py = some p) (h1 : p.canLay0 = true) (h2 : p.depth ≤ 1) (h : PL xs ps) : PL (d :: xs) (p :: ps) := by
  refine ⟨by rw [pyL, hp, h.1], ?_, ?_⟩
  · rw [PyData.canLayAll0, h1, h.2.1]; rfl
  · rw [PyData.depthAll]
    exact Nat.max_le.mpr ⟨h2, h.2.2⟩
theorem PL.snoc {d : D} {p : PyData} (hp : d.py = some p) (h1 : p.canLay0 = true) (h2 : p.depth ≤ 1) : ∀ {xs : List D} {ps : List PyData}, PL xs ps → PL (xs ++ [d]) (ps ++ [p]) := by
  intro xs
  induction xs with
  | nil =>
    intro ps h
    have e : ps = [] := by
      have := h.1
      rw [pyL] at this
      exact (Option.some.inj this).symm
    subst e
    exact PL.nil.cons hp h1 h2
  | cons x xs ih =>
    intro ps h
    have e := h.1
    rw [pyL] at e
    cases hx : x.py with
    | none => rw [hx] at e; cases e
    | some q =>
      cases hq : pyL xs with
      | none => rw [hx, hq] at e; cases e
      | some qs =>
        rw [hx, hq] at e
        have e2 : q :: qs = ps := Option.some.inj e
        subst e2
        have c := h.2.1
        rw [PyData.canLayAll0, Bool.and_eq_true] at c
        have dd := h.2.2
        rw [PyData.depthAll] at dd
        have dd2 := Nat.max_le.mp dd
        exact (ih ⟨hq, c.2, dd2.2⟩).cons hx c.1 dd2.1
theorem PL.shaped {xs : List D} {ps : List PyData} (h : PL xs ps) : SeqAt.shaped (.list ps) = true := by
  have h2 := h.2.2
  rw [SeqAt.shaped, Bool.and_eq_true]
  refine ⟨by rw [PyData.canLay0]; exact h.2.1, decide_eq_true ?_⟩
  rw [PyData.depth]
  omega
theorem shaped_of {p : PyData} (h1 : p.canLay0 = true) (h2 : p.depth ≤ 1) : SeqAt.shaped p = true := by
  simp only [SeqAt.shaped, h1, Bool.true_and, decide_eq_true_eq]
  omega
theorem inD_of {d : D} {p : PyData} {xs : List D} {ps : List PyData} {o : Bool} (hp : d.py = some p) (h1 : p.canLay0 = true) (h2 : p.depth ≤ 1) (h : PL xs ps) : inD true d (.node (.lst o) xs) = some (.bl (!(ps.any fun z => PyData.eqv z p))) := by
  simp only [inD, hp, h.1]
  rw [if_pos ⟨shaped_of h1 h2, h.shaped⟩]
  simp
theorem index_of {d : D} {p : PyData} {xs : List D} {ps : List PyData} {o : Bool} (hp : d.py = some p) (h1 : p.canLay0 = true) (h2 : p.depth ≤ 1) (h : PL xs ps) (ha : (ps.any fun z => PyData.eqv z p) = true) : ∃ j : Nat, oIndex [.node (.lst o) xs, d] = .ok (.int (j : Int)) [.node (.lst o) xs, d] := by
  have hs : ∃ j, (ps.findIdx? fun y => PyData.eqv y p) = some j := by
    cases hq : ps.findIdx? fun y => PyData.eqv y p with
    | some j => exact ⟨j, rfl⟩
    | none =>
      rw [List.findIdx?_eq_none_iff] at hq
      rw [List.any_eq_true] at ha
      obtain ⟨z, hz, hz2⟩ := ha
      rw [hq z hz] at hz2
      cases hz2
  obtain ⟨j, hj⟩ := hs
  refine ⟨j, ?_⟩
  simp only [op2, hp, h.1]
  rw [if_pos ⟨shaped_of h1 h2, h.shaped⟩, hj]
  rfl

/-! ### which is the first of its like -/
theorem mLc_inv {α : Type} {src : Src} {t : Tgt} {m : M} {vs : List Nat} {tof : α → D} {P : List α → List D → Env → Prop} {env e : Env} {xs : List α} (hs : src env = .ok (xs.map tof) e) (hn : xs.length ≤ 100000)
    (hb : ∀ ys x zs acc e, xs = ys ++ x :: zs → P ys acc e → ∃ e1 r e2, asg t (tof x) e = some e1 ∧ m e1 = .ok r e2 ∧ P (ys ++ [x]) (acc ++ [r]) (anyAll vs e2)) (h0 : P [] [] (anyAll vs e)) :
    ∃ acc e2, mLc src t none m vs env = .ok (.node (.lst true) acc) (mrg (own? vs) e e2) ∧ acc.length = xs.length ∧ P xs acc e2 := by
  obtain ⟨acc, e2, h1, h2, h3⟩ := loopC_inv xs hn xs [] [] (anyAll vs e) rfl rfl hb h0
  refine ⟨acc, e2, ?_, h2, h3⟩
  simp only [mLc, hs, h1]
theorem sAside_nx {i : Nat} {s : List D → S} {env e : Env} {d : D} {xs : List D} (h : env[i]? = some d) (hs : d.seq = some xs) (hf : isFrzL xs = true) (hr : s xs (env.set i .any) = .nx e) (ha : isA e[i]? = true) : sAside i s env = .nx (e.set i d) := by
  simp only [sAside, h, hs, hf, if_true, hr, putS, ha]
theorem mAside_ok {i : Nat} {s : List D → M} {env e : Env} {d r : D} {xs : List D} (h : env[i]? = some d) (hs : d.seq = some xs) (hf : isFrzL xs = true) (hr : s xs (env.set i .any) = .ok r e) (ha : isA e[i]? = true) : mAside i s env = .ok r (e.set i d) := by
  simp only [mAside, h, hs, hf, if_true, hr, putM, ha]
def Fnd (ps : List PyData) (d : D) : Prop := ∃ p, d.py = some p ∧ (ps.any fun z => PyData.eqv z p) = true
abbrev bRk : S := sIf (mApp (op2 (inD true)) [(.peek 2), (.peek 1)]) (sDrop (mLst fAppend 1 [(.val (mVar 2))])) sNext
abbrev iRk : M := mApp oIndex (.val (mIs isLst (mVar 1)) :: [(.val (mVar 2))])
theorem isFrzL_th {xs : List D} (h : ∀ d ∈ xs, Th d) : isFrzL xs = true := by
  rw [isFrzL_all, List.all_eq_true]
  exact fun d hd => (h d hd).frz
theorem ranked_ok {ts : List D} (h : ∀ d ∈ ts, Th d) (hl : ts.length ≤ 1000) : ∃ l : List Int, op__law_ranked [.node (.lst true) ts] = .ok (.node (.lst true) (dI l)) [.node (.lst true) ts] ∧ l.length = ts.length := by
  have L := loopS_all (α := D) (t := .nm 2) (tof := id) (b := bRk) (P := fun ys e => ∃ seen ps z, e = [.any, .node (.lst true) seen, z] ∧ PL seen ps ∧ (∀ d ∈ seen, Th d) ∧ seen.length ≤ ys.length ∧ ∀ y ∈ ys, Fnd ps y) ts ts [] [.any, .node (.lst true) [], .any] rfl
    (fun ys x zs e hx ⟨seen, ps, z, he, hp, ht, hn, hf⟩ => by
      subst he
      have hx2 : x ∈ ts := by rw [hx]; simp
      have T := h x hx2
      obtain ⟨p, p1, p2, p3⟩ := T.py
      have I := inD_of (o := true) p1 p2 p3 hp
      have hlen : ys.length < 1000 := by
        have := congrArg List.length hx
        simp at this
        omega
      have C : mApp (op2 (inD true)) [(.peek 2), (.peek 1)] [.any, .node (.lst true) seen, x] = .ok (.bl (!(ps.any fun z => PyData.eqv z p))) [.any, .node (.lst true) seen, x] := by
        have Q : evA [(.peek 2), (.peek 1)] [.any, .node (.lst true) seen, x] = .ok [x, .node (.lst true) seen] [.any, .any, .any] := evA_peek (d0 := x) rfl T.nany (show evA [(.peek 1)] [.any, .node (.lst true) seen, x] = .ok [.node (.lst true) seen] [.any, .any, x] from rfl) rfl T.nany
        have O : op2 (inD true) [x, .node (.lst true) seen] = .ok (.bl (!(ps.any fun z => PyData.eqv z p))) [x, .node (.lst true) seen] := by simp only [op2, I]
        exact mApp_ok Q O
      cases hq : (ps.any fun z => PyData.eqv z p) with
      | true =>
        rw [hq] at C
        refine ⟨[.any, .node (.lst true) seen, x], _, rfl, Or.inl (sIf_f C rfl), seen, ps, x, rfl, hp, ht, by simp; omega, ?_⟩
        intro y hy
        rcases List.mem_append.mp hy with hy | hy
        · exact hf y hy
        · rw [List.mem_singleton] at hy
          subst hy
          exact ⟨p, p1, hq⟩
      | false =>
        rw [hq] at C
        have A : sDrop (mLst fAppend 1 [(.val (mVar 2))]) [.any, .node (.lst true) seen, x] = .nx [.any, .node (.lst true) (seen ++ [x]), x] := append_ok (i := 1) rfl (mVar_s (d := x) rfl T.nany (frz_id T.frz)) rfl (by omega)
        refine ⟨[.any, .node (.lst true) seen, x], _, rfl, Or.inl (sIf_t C A), seen ++ [x], ps ++ [p], x, rfl, hp.snoc p1 p2 p3, ?_, by simp; omega, ?_⟩
        · intro d hd
          rcases List.mem_append.mp hd with hd | hd
          · exact ht d hd
          · rw [List.mem_singleton] at hd
            subst hd
            exact T
        · intro y hy
          rcases List.mem_append.mp hy with hy | hy
          · obtain ⟨q, q1, q2⟩ := hf y hy
            exact ⟨q, q1, by rw [List.any_append, q2]; rfl⟩
          · rw [List.mem_singleton] at hy
            subst hy
            refine ⟨p, p1, ?_⟩
            rw [List.any_append]
            simp [SeqAt.eqv_refl p p2])
    ⟨[], [], .any, rfl, PL.nil, List.forall_mem_nil _, Nat.le_refl _, List.forall_mem_nil _⟩
  obtain ⟨e', L1, seen, ps, z, rfl, hp, ht, hn, hf⟩ := L
  rw [List.map_id] at L1
  have fs : frzL seen = seen := frzL_id (isFrzL_th ht)
  obtain ⟨acc, e2, M1, M2, o', l, rfl, rfl, M3⟩ := mLc_inv (α := D) (src := fun env => .ok ts env) (t := .nm 2) (m := iRk) (vs := [2]) (tof := id) (P := fun ys acc e => ∃ o l, e = [.any, .node (.lst o) seen, .any] ∧ acc = dI l ∧ l.length = ys.length) (env := [.any, .node (.lst true) seen, z]) (e := [.any, .node (.lst true) seen, z]) (xs := ts) (by rw [List.map_id]) (by omega)
    (fun ys x zs acc e hx ⟨o, l, he, ha, hl⟩ => by
      subst he ha
      have hx2 : x ∈ ts := by rw [hx]; simp
      have T := h x hx2
      obtain ⟨p, p1, p2⟩ := hf x hx2
      obtain ⟨p', p1', p3, p4⟩ := T.py
      have e : p' = p := Option.some.inj (p1'.symm.trans p1)
      subst e
      obtain ⟨j, J⟩ := index_of (o := false) p1 p3 p4 hp p2
      have V1 : mIs isLst (mVar 1) [.any, .node (.lst o) seen, x] = .ok (.node (.lst false) seen) [.any, .node (.lst false) seen, x] := by
        simp -implicitDefEqProofs only [sSeq, sAsg, sIf, sRet, sRetV, sDrop, sPar, sNext, sBad, sCnt, sFor, mVar, mC, mApp, evA, putA, op1, op2, onInt, onI1, mAnd, mOr, mNot, mIf, mChain, frz_int, frz_bl, frz_non, frz_any, frz_node, frzL_nil, frzL_cons, frzL_dI, Tag.frz, D.isAny, asg, asgL, Option.bind, List.map_cons, List.map_nil, List.getElem?_cons_zero, List.getElem?_cons_succ, List.set_cons_zero, List.set_cons_succ, Bool.false_eq_true, if_false, if_true, reduceIte, List.length_cons, List.length_nil, Nat.zero_add, List.cons_append, List.nil_append, List.replicate, eqD_int, D.seq, intOf, Bool.not_true, Bool.not_false, oTup, oLst, Option.map_some, Option.map_none, decide_eq_true_eq, Nat.lt_add_left_iff_pos, Nat.zero_lt_succ, Nat.reduceLeDiff, Nat.reduceAdd, Nat.reduceSub, Nat.reduceLT, Bool.bne_false, Bool.bne_true, mIs, fs, isLst]
      have V2 : mVar 2 [.any, .node (.lst false) seen, x] = .ok x [.any, .node (.lst false) seen, x] := mVar_s (d := x) rfl T.nany (frz_id T.frz)
      refine ⟨[.any, .node (.lst o) seen, x], .int (j : Int), _, rfl, mApp_ok (evA_val V1 (evA_val V2 evA_nil)) J, false, l ++ [(j : Int)], rfl, dI_snoc _ _, by simp [hl]⟩)
    ⟨true, [], rfl, rfl, rfl⟩
  refine ⟨l, ?_, M3⟩
  have A1 : sAsg (.nm 1) (mApp oLst []) [.node (.lst true) ts, .any, .any] = .nx [.node (.lst true) ts, .node (.lst true) [], .any] := rfl
  have A2 := sAside_nx (i := 0) (s := fun xs => sFor (fun env => .ok xs env) (.nm 2) bRk) (env := [.node (.lst true) ts, .node (.lst true) [], .any]) (d := .node (.lst true) ts) (xs := ts) rfl rfl (isFrzL_th h) (sFor_ok (src := fun env => .ok ts env) rfl L1) rfl
  have A3 := mAside_ok (i := 0) (s := fun xs => mLc (fun env => .ok xs env) (.nm 2) none iRk [2]) (env := [.node (.lst true) ts, .node (.lst true) seen, z]) (d := .node (.lst true) ts) (xs := ts) rfl rfl (isFrzL_th h) M1 rfl
  exact fnOp_rt (r := .node (.lst true) (dI l)) (e := [.node (.lst true) ts, .node (.lst o') seen, z]) rfl (sSeq_nx A1 (sSeq_nx A2 (sRet_ok A3))) (by simp)
end Z

set_option Elab.async false
set_option linter.all false
set_option maxRecDepth 100000
set_option maxHeartbeats 4000000
namespace Z
open PySem PySem.Spec PyProof.Rows
open L2 StX

theorem ix_int {t : Tag} {l : List Int} {x : Int} (ht : D.seq (.node t (dI l)) = some (dI l)) (h0 : 0 ≤ x) (h1 : x < l.length) : oIx [.node t (dI l), .int x] = .ok (.int (l[x.toNat]?.getD 0)) [.node t (dI l), .int x] := by
  obtain ⟨n, rfl⟩ : ∃ n : Nat, x = n := ⟨x.toNat, by omega⟩
  have hn : n < l.length := by omega
  have hg : l[n]? = some (l[n]?.getD 0) := by rw [List.getElem?_eq_getElem hn]; rfl
  rw [Int.toNat_natCast]
  exact ix_ints ht hg
theorem count_ok (b : List Int) (x : Int) : ∃ c : Int, oCount [tuxD b, .int x] = .ok (.int c) [tuxD b, .int x] := by
  refine ⟨(((b.map PyData.int).countP fun z => PyData.eqv z (.int x) : Nat) : Int), ?_⟩
  have e : D.py (.int x) = some (.int x) := by rw [D.py]
  simp only [op2, e, pyL_dI]
  rw [if_pos ⟨rfl, shaped_tu b⟩]
theorem sum_ok (o : Bool) (l : List Int) : oSum [.node (.lst o) (dI l)] = .ok (.int l.sum) [.node (.lst o) (dI l)] := by
  simp only [op1, lstInts_dI, Option.map_some]
theorem thing_ok {b marks caps : List Int} {way around drawn : Int} (hb : ∀ x ∈ b, 0 ≤ x ∧ x < marks.length) (hl : b.length ≤ 1000) (hc : caps.length ≤ 1000) :
    ∃ t, Th t ∧ op__law_thing [tuxD b, .int way, .int around, .node (.lst true) (dI marks), .node (.lst true) (dI caps), .int drawn] = .ok t [tuxD b, .int way, .int around, .node (.lst true) (dI marks), .node (.lst true) (dI caps), .int drawn] := by
  let E (x y : D) : Env := [tuxD b, .int way, .int around, .node (.lst true) (dI marks), .node (.lst true) (dI caps), .int drawn, x, y]
  have C1 : ∀ x y, mApp oLt [(.peek 1), (.val (mC (.int 3)))] (E x y) = .ok (.bl (decide (way < 3))) (E x y) := fun x y => by
    simp -implicitDefEqProofs only [sSeq, sAsg, sIf, sRet, sRetV, sDrop, sPar, sNext, sBad, sCnt, sFor, mVar, mC, mApp, evA, putA, op1, op2, onInt, onI1, mAnd, mOr, mNot, mIf, mChain, frz_int, frz_bl, frz_non, frz_any, frz_node, frzL_nil, frzL_cons, frzL_dI, Tag.frz, D.isAny, asg, asgL, Option.bind, List.map_cons, List.map_nil, List.getElem?_cons_zero, List.getElem?_cons_succ, List.set_cons_zero, List.set_cons_succ, Bool.false_eq_true, if_false, if_true, reduceIte, List.length_cons, List.length_nil, Nat.zero_add, List.cons_append, List.nil_append, List.replicate, eqD_int, D.seq, intOf, Bool.not_true, Bool.not_false, oTup, oLst, Option.map_some, Option.map_none, decide_eq_true_eq, Nat.lt_add_left_iff_pos, Nat.zero_lt_succ, Nat.reduceLeDiff, Nat.reduceAdd, Nat.reduceSub, Nat.reduceLT, Bool.bne_false, Bool.bne_true, E]
  have C2 : ∀ x y, mApp (op2 (eqD false)) [(.peek 1), (.val (mC (.int 3)))] (E x y) = .ok (.bl (decide (way = 3))) (E x y) := fun x y => by
    simp -implicitDefEqProofs only [sSeq, sAsg, sIf, sRet, sRetV, sDrop, sPar, sNext, sBad, sCnt, sFor, mVar, mC, mApp, evA, putA, op1, op2, onInt, onI1, mAnd, mOr, mNot, mIf, mChain, frz_int, frz_bl, frz_non, frz_any, frz_node, frzL_nil, frzL_cons, frzL_dI, Tag.frz, D.isAny, asg, asgL, Option.bind, List.map_cons, List.map_nil, List.getElem?_cons_zero, List.getElem?_cons_succ, List.set_cons_zero, List.set_cons_succ, Bool.false_eq_true, if_false, if_true, reduceIte, List.length_cons, List.length_nil, Nat.zero_add, List.cons_append, List.nil_append, List.replicate, eqD_int, D.seq, intOf, Bool.not_true, Bool.not_false, oTup, oLst, Option.map_some, Option.map_none, decide_eq_true_eq, Nat.lt_add_left_iff_pos, Nat.zero_lt_succ, Nat.reduceLeDiff, Nat.reduceAdd, Nat.reduceSub, Nat.reduceLT, Bool.bne_false, Bool.bne_true, E]
  have C3 : ∀ x y, mApp (op2 (eqD false)) [(.peek 1), (.val (mC (.int 4)))] (E x y) = .ok (.bl (decide (way = 4))) (E x y) := fun x y => by
    simp -implicitDefEqProofs only [sSeq, sAsg, sIf, sRet, sRetV, sDrop, sPar, sNext, sBad, sCnt, sFor, mVar, mC, mApp, evA, putA, op1, op2, onInt, onI1, mAnd, mOr, mNot, mIf, mChain, frz_int, frz_bl, frz_non, frz_any, frz_node, frzL_nil, frzL_cons, frzL_dI, Tag.frz, D.isAny, asg, asgL, Option.bind, List.map_cons, List.map_nil, List.getElem?_cons_zero, List.getElem?_cons_succ, List.set_cons_zero, List.set_cons_succ, Bool.false_eq_true, if_false, if_true, reduceIte, List.length_cons, List.length_nil, Nat.zero_add, List.cons_append, List.nil_append, List.replicate, eqD_int, D.seq, intOf, Bool.not_true, Bool.not_false, oTup, oLst, Option.map_some, Option.map_none, decide_eq_true_eq, Nat.lt_add_left_iff_pos, Nat.zero_lt_succ, Nat.reduceLeDiff, Nat.reduceAdd, Nat.reduceSub, Nat.reduceLT, Bool.bne_false, Bool.bne_true, E]
  by_cases h1 : way < 3
  · have L := mLc_map (src := fun env => .ok (dI b) env) (k := 7) (m := mApp oIx [(.peek 3), (.peek 7)]) (vs := [7]) (tof := D.int) (f := fun x : Int => D.int (marks[x.toNat]?.getD 0)) (env := [.any, .int way, .int around, .node (.lst true) (dI marks), .node (.lst true) (dI caps), .int drawn, .any, .any]) (e := [.any, .int way, .int around, .node (.lst true) (dI marks), .node (.lst true) (dI caps), .int drawn, .any, .any]) (xs := b) rfl (by simp [anyAll, keepP]) (fun x hx => by
      obtain ⟨x0, x1⟩ := hb x hx
      have I := ix_int (t := .lst true) (l := marks) rfl x0 x1
      refine ⟨[.any, .int way, .int around, .node (.lst true) (dI marks), .node (.lst true) (dI caps), .int drawn, .any, .int x], ?_, rfl⟩
      have P : evA [(.peek 3), (.peek 7)] [.any, .int way, .int around, .node (.lst true) (dI marks), .node (.lst true) (dI caps), .int drawn, .any, .int x] = .ok [.node (.lst true) (dI marks), .int x] [.any, .int way, .int around, .any, .node (.lst true) (dI caps), .int drawn, .any, .any] := rfl
      exact mApp_ok P I) (by omega) rfl
    have A := mAside_ok (i := 0) (s := fun xs => mLc (fun env => .ok xs env) (.nm 7) none (mApp oIx [(.peek 3), (.peek 7)]) [7]) (env := E .any .any) (d := tuxD b) (xs := dI b) rfl rfl (isFrzL_dI b) L rfl
    rw [← int_map] at A
    have S := mApp_v1 A (sum_ok true _)
    generalize (b.map fun x : Int => marks[x.toNat]?.getD 0).sum = q at S
    have S1 : sAsg (.nm 6) (mApp oSum [(.val (mAside 0 (fun xs => mLc (fun env => .ok xs env) (.nm 7) none (mApp oIx [(.peek 3), (.peek 7)]) [7])))]) (E .any .any) = .nx (E (.int q) .any) := sAsg_ok S rfl
    by_cases h2 : 0 < around
    · refine ⟨.int (q.fmod around), Or.inl ⟨_, rfl⟩, ?_⟩
      have C : mApp oGt [(.peek 2), (.val (mC (.int 0)))] (E (.int q) .any) = .ok (.bl true) (E (.int q) .any) := by
        simp -implicitDefEqProofs only [sSeq, sAsg, sIf, sRet, sRetV, sDrop, sPar, sNext, sBad, sCnt, sFor, mVar, mC, mApp, evA, putA, op1, op2, onInt, onI1, mAnd, mOr, mNot, mIf, mChain, frz_int, frz_bl, frz_non, frz_any, frz_node, frzL_nil, frzL_cons, frzL_dI, Tag.frz, D.isAny, asg, asgL, Option.bind, List.map_cons, List.map_nil, List.getElem?_cons_zero, List.getElem?_cons_succ, List.set_cons_zero, List.set_cons_succ, Bool.false_eq_true, if_false, if_true, reduceIte, List.length_cons, List.length_nil, Nat.zero_add, List.cons_append, List.nil_append, List.replicate, eqD_int, D.seq, intOf, Bool.not_true, Bool.not_false, oTup, oLst, Option.map_some, Option.map_none, decide_eq_true_eq, Nat.lt_add_left_iff_pos, Nat.zero_lt_succ, Nat.reduceLeDiff, Nat.reduceAdd, Nat.reduceSub, Nat.reduceLT, Bool.bne_false, Bool.bne_true, E, decide_eq_true h2]
      have M : mApp oMod [(.val (mApp (op1 intOf) [(.peek 6)])), (.val (mVar 2))] (E (.int q) .any) = .ok (.int (q.fmod around)) (E (.int q) .any) := by
        simp -implicitDefEqProofs only [sSeq, sAsg, sIf, sRet, sRetV, sDrop, sPar, sNext, sBad, sCnt, sFor, mVar, mC, mApp, evA, putA, op1, op2, onInt, onI1, mAnd, mOr, mNot, mIf, mChain, frz_int, frz_bl, frz_non, frz_any, frz_node, frzL_nil, frzL_cons, frzL_dI, Tag.frz, D.isAny, asg, asgL, Option.bind, List.map_cons, List.map_nil, List.getElem?_cons_zero, List.getElem?_cons_succ, List.set_cons_zero, List.set_cons_succ, Bool.false_eq_true, if_false, if_true, reduceIte, List.length_cons, List.length_nil, Nat.zero_add, List.cons_append, List.nil_append, List.replicate, eqD_int, D.seq, intOf, Bool.not_true, Bool.not_false, oTup, oLst, Option.map_some, Option.map_none, decide_eq_true_eq, Nat.lt_add_left_iff_pos, Nat.zero_lt_succ, Nat.reduceLeDiff, Nat.reduceAdd, Nat.reduceSub, Nat.reduceLT, Bool.bne_false, Bool.bne_true, E, if_pos (show around ≠ 0 by omega)]
      exact fnOp_rt (r := .int (q.fmod around)) (e := E (.int q) .any) rfl (sSeq_rt (sIf_t (e := E .any .any) (by have c := C1 .any .any; rw [decide_eq_true h1] at c; exact c) (sSeq_nx S1 (sRet_ok (mIf_t C M))))) (by simp [E])
    · refine ⟨.int q, Or.inl ⟨_, rfl⟩, ?_⟩
      have C : mApp oGt [(.peek 2), (.val (mC (.int 0)))] (E (.int q) .any) = .ok (.bl false) (E (.int q) .any) := by
        simp -implicitDefEqProofs only [sSeq, sAsg, sIf, sRet, sRetV, sDrop, sPar, sNext, sBad, sCnt, sFor, mVar, mC, mApp, evA, putA, op1, op2, onInt, onI1, mAnd, mOr, mNot, mIf, mChain, frz_int, frz_bl, frz_non, frz_any, frz_node, frzL_nil, frzL_cons, frzL_dI, Tag.frz, D.isAny, asg, asgL, Option.bind, List.map_cons, List.map_nil, List.getElem?_cons_zero, List.getElem?_cons_succ, List.set_cons_zero, List.set_cons_succ, Bool.false_eq_true, if_false, if_true, reduceIte, List.length_cons, List.length_nil, Nat.zero_add, List.cons_append, List.nil_append, List.replicate, eqD_int, D.seq, intOf, Bool.not_true, Bool.not_false, oTup, oLst, Option.map_some, Option.map_none, decide_eq_true_eq, Nat.lt_add_left_iff_pos, Nat.zero_lt_succ, Nat.reduceLeDiff, Nat.reduceAdd, Nat.reduceSub, Nat.reduceLT, Bool.bne_false, Bool.bne_true, E, decide_eq_false h2]
      have M : mVar 6 (E (.int q) .any) = .ok (.int q) (E (.int q) .any) := mVar_s (d := .int q) rfl rfl rfl
      exact fnOp_rt (r := .int q) (e := E (.int q) .any) rfl (sSeq_rt (sIf_t (e := E .any .any) (by have c := C1 .any .any; rw [decide_eq_true h1] at c; exact c) (sSeq_nx S1 (sRet_ok (mIf_f C M))))) (by simp [E])
  · have D1 : mApp oLt [(.peek 1), (.val (mC (.int 3)))] (E .any .any) = .ok (.bl false) (E .any .any) := by
      have c := C1 .any .any
      rw [decide_eq_false h1] at c
      exact c
    by_cases h3 : way = 3
    · refine ⟨tuxD b, Or.inr (Or.inr ⟨b, rfl⟩), ?_⟩
      have M : mVar 0 (E .any .any) = .ok (tuxD b) (E .any .any) := mVar_s (d := tuxD b) rfl rfl (frz_id (isFrz_node rfl (isFrzL_dI b)))
      exact fnOp_rt (r := tuxD b) (e := E .any .any) rfl (sSeq_nx (sIf_f D1 rfl) (sSeq_rt (sIf_t (e := E .any .any) (by have c := C2 .any .any; rw [decide_eq_true h3] at c; exact c) (sRet_ok M)))) (by simp [E])
    · have D2 : mApp (op2 (eqD false)) [(.peek 1), (.val (mC (.int 3)))] (E .any .any) = .ok (.bl false) (E .any .any) := by
        have c := C2 .any .any
        rw [decide_eq_false h3] at c
        exact c
      by_cases h4 : way = 4
      · have s : iRng [.val (mApp oLen [(.peek 4)])] (E .any .any) = .ok ((List.range caps.length).map fun k : Nat => D.int (k : Int)) (E .any .any) := iRng_nat (by
          have O := len_node (α := Nat) (.lst true) (dI caps) (dI caps) rfl
          rw [dI_length] at O
          have P : evA [(.peek 4)] (E .any .any) = .ok [.node (.lst true) (dI caps)] [tuxD b, .int way, .int around, .node (.lst true) (dI marks), .any, .int drawn, .any, .any] := rfl
          exact evA_val (mApp_ok P O) evA_nil) (by omega)
        obtain ⟨acc, e2, M1, M2, l, rfl, rfl, M3⟩ := mLc_inv (α := Nat) (t := .nm 7) (m := mApp oMin2 [(.val (mApp oCount (.val (mIs isTux (mVar 0)) :: [(.val (mVar 7))]))), (.val (mApp oIx [(.peek 4), (.peek 7)]))]) (vs := [7]) (tof := fun k : Nat => D.int (k : Int)) (P := fun ys acc e => ∃ l, e = E .any .any ∧ acc = dI l ∧ l.length = ys.length) s (by simp; omega)
          (fun ys x zs acc e hx ⟨l, he, ha, hl⟩ => by
            subst he ha
            obtain ⟨rfl, hlt⟩ := range_at hx
            obtain ⟨c, C⟩ := count_ok b (ys.length : Int)
            have I := ix_int (t := .lst true) (l := caps) (x := (ys.length : Int)) rfl (by omega) (by omega)
            have V1 : mIs isTux (mVar 0) (E .any (.int (ys.length : Int))) = .ok (tuxD b) (E .any (.int (ys.length : Int))) := by
              have V : mVar 0 (E .any (.int (ys.length : Int))) = .ok (tuxD b) (E .any (.int (ys.length : Int))) := mVar_s (d := tuxD b) rfl rfl (frz_id (isFrz_node rfl (isFrzL_dI b)))
              simp only [mIs, V, isTux, if_true]
            have V2 : mVar 7 (E .any (.int (ys.length : Int))) = .ok (.int (ys.length : Int)) (E .any (.int (ys.length : Int))) := mVar_s (d := .int (ys.length : Int)) rfl rfl rfl
            have Q1 := mApp_ok (f := oCount) (evA_val V1 (evA_val V2 evA_nil)) C
            have P : evA [(.peek 4), (.peek 7)] (E .any (.int (ys.length : Int))) = .ok [.node (.lst true) (dI caps), .int (ys.length : Int)] [tuxD b, .int way, .int around, .node (.lst true) (dI marks), .any, .int drawn, .any, .any] := rfl
            have Q2 := mApp_ok P I
            generalize caps[((ys.length : Nat) : Int).toNat]?.getD 0 = g at Q2
            have Q3 : oMin2 [.int c, .int g] = .ok (.int (if g < c then g else c)) [.int c, .int g] := rfl
            exact ⟨E .any (.int (ys.length : Int)), _, _, rfl, mApp_ok (evA_val Q1 (evA_val Q2 evA_nil)) Q3, l ++ [if g < c then g else c], rfl, dI_snoc _ _, by simp [hl]⟩)
          ⟨[], rfl, rfl, rfl⟩
        refine ⟨bagD l, Or.inr (Or.inl ⟨l, rfl⟩), ?_⟩
        have M4 := mApp_v1 M1 (tuple_ok true l)
        exact fnOp_rt (r := bagD l) (e := E .any .any) rfl (sSeq_nx (sIf_f D1 rfl) (sSeq_nx (sIf_f D2 rfl) (sSeq_rt (sIf_t (e := E .any .any) (by have c := C3 .any .any; rw [decide_eq_true h4] at c; exact c) (sRet_ok M4))))) (by simp [E])
      · have D3 : mApp (op2 (eqD false)) [(.peek 1), (.val (mC (.int 4)))] (E .any .any) = .ok (.bl false) (E .any .any) := by
          have c := C3 .any .any
          rw [decide_eq_false h4] at c
          exact c
        refine ⟨.int drawn, Or.inl ⟨_, rfl⟩, ?_⟩
        have M : mVar 5 (E .any .any) = .ok (.int drawn) (E .any .any) := mVar_s (d := .int drawn) rfl rfl rfl
        exact fnOp_rt (r := .int drawn) (e := E .any .any) rfl (sSeq_nx (sIf_f D1 rfl) (sSeq_nx (sIf_f D2 rfl) (sSeq_nx (sIf_f D3 rfl) (sRet_ok M)))) (by simp [E])
end Z

set_option Elab.async false
set_option linter.all false
set_option maxRecDepth 100000
set_option maxHeartbeats 4000000
namespace Z
open PySem PySem.Spec PyProof.Rows
open L2 StX

/-! ### a drawn board -/
abbrev EB (a0 a1 a2 a3 a4 a5 a6 a7 a8 a9 a10 a11 a12 a13 a14 a15 a16 a17 a18 a19 : D) : Env := [a0, a1, a2, a3, a4, a5, a6, a7, a8, a9, a10, a11, a12, a13, a14, a15, a16, a17, a18, a19]
theorem mem_insI {x y : Int} : ∀ {l : List Int}, x ∈ insI y l → x = y ∨ x ∈ l
  | [], h => by simpa [insI] using h
  | z :: l, h => by
    unfold insI at h
    split at h
    · simpa using h
    · rcases List.mem_cons.mp h with h | h
      · exact Or.inr (h ▸ List.mem_cons_self ..)
      · rcases mem_insI h with h | h
        · exact Or.inl h
        · exact Or.inr (List.mem_cons_of_mem _ h)
theorem mem_srtI {x : Int} : ∀ {l : List Int}, x ∈ srtI l → x ∈ l
  | [], h => by cases h
  | z :: l, h => by
    unfold srtI at h
    rcases mem_insI h with h | h
    · exact h ▸ List.mem_cons_self ..
    · exact List.mem_cons_of_mem _ (mem_srtI h)
theorem len_insI (x : Int) : ∀ l : List Int, (insI x l).length = l.length + 1
  | [] => rfl
  | y :: l => by
    unfold insI
    split
    · rfl
    · rw [List.length_cons, len_insI x l, List.length_cons]
theorem len_srtI : ∀ l : List Int, (srtI l).length = l.length
  | [] => rfl
  | x :: l => by rw [srtI, len_insI, len_srtI l, List.length_cons]
theorem cut_ok {l : List Int} {v : Nat} (h1 : 1 ≤ v) (h2 : v ≤ 4) (hl : l.length = 5) : slD (.node (.lst true) (dI l)) none (some (v : Int)) = some (.node (.lst true) (dI (l.take v))) := by
  match l, hl with
  | [a, b, c, d, e], _ =>
    match v, h1, h2 with
    | 1, _, _ => rfl
    | 2, _, _ => rfl
    | 3, _, _ => rfl
    | 4, _, _ => rfl
theorem set_dI (l : List Int) (j : Nat) (x : Int) : (dI l).set j (.int x) = dI (l.set j x) := by
  unfold dI
  rw [List.map_set]
theorem tupleX_ok (l : List Int) : oTupleX [.node (.lst true) (dI l)] = .ok (tuxD l) [.node (.lst true) (dI l)] := by
  simp only [oTupleX, if_pos (isFrzL_dI l)]
theorem maxL_ok {l : List Int} (h : l ≠ []) : ∃ x, oMaxL [.node (.lst true) (dI l)] = .ok (.int x) [.node (.lst true) (dI l)] := by
  cases l with
  | nil => exact absurd rfl h
  | cons y l =>
    refine ⟨l.foldl max y, ?_⟩
    simp only [op1, lstInts_dI]
    rfl
theorem mSlice_to {m hi : M} {env e0 e2 : Env} {d r : D} {n : Int} (h : m env = .ok d e0) (hh : hi e0 = .ok (.int n) e2) (hs : slD d none (some n) = some r) : mSlice m none (some hi) env = .ok r e2 := by
  simp only [mSlice, h, evP, ptI, hh, hs]
section
variable {k v s : Nat} {m : Int} {d : D}
/-- the shape, and four draws -/
theorem lb_1 (h : Bx k d) (hk : k + 100 < 1000000) (hm : 0 < m) (hm2 : m ≤ 6) :
    ∃ (v s : Nat) (w ar sp jo : Int) (d' : D), sSeq (sAsg (.tp [(.nm 8), (.nm 9)]) (mApp (dfOp op__law_shape []) [(.peek 0), (.peek 1)])) (sAsg (.tp [(.nm 10), (.nm 11), (.nm 12), (.nm 13)]) (mApp oTup [(.val (mTk (.val (mC (.int 6))))), (.val (mTk (.val (mC (.int 6))))), (.val (mTk (.val (mC (.int 3))))), (.val (mTk (.val (mC (.int 3)))))]))
      (EB d (.int m) .any .any .any .any .any .any .any .any .any .any .any .any .any .any .any .any .any .any) = .nx (EB d' (.int m) .any .any .any .any .any .any (.int v) (.int s) (.int w) (.int ar) (.int sp) (.int jo) .any .any .any .any .any .any) ∧
      1 ≤ v ∧ v ≤ 4 ∧ 1 ≤ s ∧ s ≤ 6 ∧ 0 ≤ ar ∧ ar < 6 ∧ Bx (k + 6) d' := by
  obtain ⟨v, s, d1, e1, h1, h2, h3, h4, b1⟩ := shape_ok h (by omega) hm hm2
  have P : evA [(.peek 0), (.peek 1)] (EB d (.int m) .any .any .any .any .any .any .any .any .any .any .any .any .any .any .any .any .any .any) = .ok [d, .int m] (EB .any .any .any .any .any .any .any .any .any .any .any .any .any .any .any .any .any .any .any .any) := evA_peek (d0 := d) rfl h.nany (show evA [(.peek 1)] (EB d (.int m) .any .any .any .any .any .any .any .any .any .any .any .any .any .any .any .any .any .any) = .ok [.int m] (EB d .any .any .any .any .any .any .any .any .any .any .any .any .any .any .any .any .any .any .any) from rfl) rfl h.nany
  have A1 : sAsg (.tp [(.nm 8), (.nm 9)]) (mApp (dfOp op__law_shape []) [(.peek 0), (.peek 1)]) (EB d (.int m) .any .any .any .any .any .any .any .any .any .any .any .any .any .any .any .any .any .any) = .nx (EB d1 (.int m) .any .any .any .any .any .any (.int v) (.int s) .any .any .any .any .any .any .any .any .any .any) := sAsg_ok (mApp_ok P (dfOp_ok e1 rfl)) rfl
  obtain ⟨w, d2, e2, w0, w1, b2⟩ := take_c (m := 6) (rest := [.int m, .any, .any, .any, .any, .any, .any, .int v, .int s, .any, .any, .any, .any, .any, .any, .any, .any, .any, .any]) b1 (by omega) (by omega) (by omega)
  obtain ⟨ar, d3, e3, a0, a1, b3⟩ := take_c (m := 6) (rest := [.int m, .any, .any, .any, .any, .any, .any, .int v, .int s, .any, .any, .any, .any, .any, .any, .any, .any, .any, .any]) b2 (by omega) (by omega) (by omega)
  obtain ⟨sp, d4, e4, s0, s1, b4⟩ := take_c (m := 3) (rest := [.int m, .any, .any, .any, .any, .any, .any, .int v, .int s, .any, .any, .any, .any, .any, .any, .any, .any, .any, .any]) b3 (by omega) (by omega) (by omega)
  obtain ⟨jo, d5, e5, j0, j1, b5⟩ := take_c (m := 3) (rest := [.int m, .any, .any, .any, .any, .any, .any, .int v, .int s, .any, .any, .any, .any, .any, .any, .any, .any, .any, .any]) b4 (by omega) (by omega) (by omega)
  have T : oTup [.int w, .int ar, .int sp, .int jo] = .ok (.node .tup [.int w, .int ar, .int sp, .int jo]) [.any, .any, .any, .any] := rfl
  exact ⟨v, s, w, ar, sp, jo, d5, sSeq_nx A1 (sAsg_ok (mApp_ok (evA_val e2 (evA_val e3 (evA_val e4 (evA_val e5 evA_nil)))) T) rfl), h1, h2, h3, h4, a0, a1, b5.mono (by omega)⟩
/-- the marks -/
theorem lb_2 {a9 a10 a11 a12 a13 : D} (h : Bx k d) (hk : k + 100 < 1000000) (h1 : 1 ≤ v) (h2 : v ≤ 4) :
    ∃ (l : List Int) (d' : D), sAsg (.nm 2) (mSlice (mApp (dfOp op__law_mixed []) [(.peek 0), (.val (mApp oLst [(.val (mC (.int 0))), (.val (mC (.int 1))), (.val (mC (.int 2))), (.val (mC (.int 3))), (.val (mC (.int 5)))]))]) none (some (mVar 8)))
      (EB d (.int m) .any .any .any .any .any .any (.int v) a9 a10 a11 a12 a13 .any .any .any .any .any .any) = .nx (EB d' (.int m) (.node (.lst true) (dI l)) .any .any .any .any .any (.int v) a9 a10 a11 a12 a13 .any .any .any .any .any .any) ∧ l.length = v ∧ Bx (k + 5) d' := by
  obtain ⟨l, d1, e1, hl, b1⟩ := mixed_ok (l := [0, 1, 2, 3, 5]) h (by simp) (by simp; omega)
  have P : evA [(.peek 0), (.val (mApp oLst [(.val (mC (.int 0))), (.val (mC (.int 1))), (.val (mC (.int 2))), (.val (mC (.int 3))), (.val (mC (.int 5)))]))] (EB d (.int m) .any .any .any .any .any .any (.int v) a9 a10 a11 a12 a13 .any .any .any .any .any .any) = .ok [d, .node (.lst true) (dI [0, 1, 2, 3, 5])] (EB .any (.int m) .any .any .any .any .any .any (.int v) a9 a10 a11 a12 a13 .any .any .any .any .any .any) := evA_peek (d0 := d) rfl h.nany (evA_val (r := .node (.lst true) (dI [0, 1, 2, 3, 5])) rfl evA_nil) rfl h.nany
  refine ⟨l.take v, d1, ?_, ?_, b1⟩
  · refine sAsg_ok (e := EB d1 (.int m) .any .any .any .any .any .any (.int v) a9 a10 a11 a12 a13 .any .any .any .any .any .any) (mSlice_to (mApp_ok P (dfOp_ok e1 rfl)) ?_ (cut_ok h1 h2 (by simpa using hl))) rfl
    exact mVar_s (d := .int v) rfl rfl rfl
  · rw [List.length_take, hl]
    simp
    omega
/-- the caps -/
theorem lb_3 {a2 a9 a10 a11 a12 a13 : D} (h : Bx k d) (hk : k + 100 < 1000000) (h2 : v ≤ 4) :
    ∃ (l : List Int) (d' : D), sAsg (.nm 3) (mLc (iRng [.val (mVar 8)]) (.nm 18) none (mApp oAdd [(.val (mC (.int 1))), (.val (mTk (.val (mC (.int 2)))))]) [18])
      (EB d (.int m) a2 .any .any .any .any .any (.int v) a9 a10 a11 a12 a13 .any .any .any .any .any .any) = .nx (EB d' (.int m) a2 (.node (.lst true) (dI l)) .any .any .any .any (.int v) a9 a10 a11 a12 a13 .any .any .any .any .any .any) ∧ l.length = v ∧ Bx (k + v) d' := by
  have sr : iRng [.val (mVar 8)] (EB d (.int m) a2 .any .any .any .any .any (.int v) a9 a10 a11 a12 a13 .any .any .any .any .any .any) = .ok ((List.range v).map fun k : Nat => D.int (k : Int)) (EB d (.int m) a2 .any .any .any .any .any (.int v) a9 a10 a11 a12 a13 .any .any .any .any .any .any) := iRng_nat (evA_val (mVar_s (d := .int v) rfl rfl rfl) evA_nil) (by omega)
  obtain ⟨acc, e2, M1, M2, d', l, rfl, rfl, M3, M4⟩ := mLc_inv (α := Nat) (t := .nm 18) (m := mApp oAdd [(.val (mC (.int 1))), (.val (mTk (.val (mC (.int 2)))))]) (vs := [18]) (tof := fun k : Nat => D.int (k : Int)) (P := fun ys acc e => ∃ d' l, e = EB d' (.int m) a2 .any .any .any .any .any (.int v) a9 a10 a11 a12 a13 .any .any .any .any .any .any ∧ acc = dI l ∧ l.length = ys.length ∧ Bx (k + ys.length) d') sr (by simp; omega)
    (fun ys x zs acc e hx ⟨d', l, he, ha, hl, hb⟩ => by
      subst he ha
      obtain ⟨rfl, hlt⟩ := range_at hx
      obtain ⟨r, d1, e1, r0, r1, b1⟩ := take_c (m := 2) (rest := [.int m, a2, .any, .any, .any, .any, .any, .int v, a9, a10, a11, a12, a13, .any, .any, .any, .any, .int (ys.length : Int), .any]) hb (by omega) (by omega) (by omega)
      have O : oAdd [.int 1, .int r] = .ok (.int (1 + r)) [.int 1, .int r] := rfl
      exact ⟨EB d' (.int m) a2 .any .any .any .any .any (.int v) a9 a10 a11 a12 a13 .any .any .any .any (.int (ys.length : Int)) .any, _, _, rfl, mApp_ok (evA_val (m := mC (.int 1)) rfl (evA_val e1 evA_nil)) O, d1, l ++ [1 + r], rfl, dI_snoc _ _, by simp [hl], by rw [List.length_append]; exact b1⟩)
    ⟨d, [], rfl, rfl, rfl, h⟩
  rw [List.length_range] at M3 M4
  exact ⟨l, d', sAsg_ok M1 rfl, M3, M4⟩
/-- the names -/
theorem lb_4 {a2 a3 a9 a10 a11 a12 : D} {jo : Int} (h : Bx k d) (hk : k + 100 < 1000000) (h1 : 1 ≤ v) (h2 : v ≤ 4) :
    ∃ (l : List Int) (d' : D), sAsg (.nm 4) (mLc (iRng [.val (mVar 8)]) (.nm 18) none (mIf (mApp (op2 (eqD false)) [(.peek 13), (.val (mC (.int 0)))]) (mTk (.peek 8)) (mVar 18)) [18])
      (EB d (.int m) a2 a3 .any .any .any .any (.int v) a9 a10 a11 a12 (.int jo) .any .any .any .any .any .any) = .nx (EB d' (.int m) a2 a3 (.node (.lst true) (dI l)) .any .any .any (.int v) a9 a10 a11 a12 (.int jo) .any .any .any .any .any .any) ∧ l.length = v ∧ (∀ x ∈ l, 0 ≤ x ∧ x < v) ∧ Bx (k + v) d' := by
  have sr : iRng [.val (mVar 8)] (EB d (.int m) a2 a3 .any .any .any .any (.int v) a9 a10 a11 a12 (.int jo) .any .any .any .any .any .any) = .ok ((List.range v).map fun k : Nat => D.int (k : Int)) (EB d (.int m) a2 a3 .any .any .any .any (.int v) a9 a10 a11 a12 (.int jo) .any .any .any .any .any .any) := iRng_nat (evA_val (mVar_s (d := .int v) rfl rfl rfl) evA_nil) (by omega)
  obtain ⟨acc, e2, M1, M2, d', l, rfl, rfl, M3, M4, M5⟩ := mLc_inv (α := Nat) (t := .nm 18) (m := mIf (mApp (op2 (eqD false)) [(.peek 13), (.val (mC (.int 0)))]) (mTk (.peek 8)) (mVar 18)) (vs := [18]) (tof := fun k : Nat => D.int (k : Int)) (P := fun ys acc e => ∃ d' l, e = EB d' (.int m) a2 a3 .any .any .any .any (.int v) a9 a10 a11 a12 (.int jo) .any .any .any .any .any .any ∧ acc = dI l ∧ l.length = ys.length ∧ (∀ x ∈ l, 0 ≤ x ∧ x < (v : Int)) ∧ Bx (k + ys.length) d') sr (by simp; omega)
    (fun ys x zs acc e hx ⟨d', l, he, ha, hl, hv, hb⟩ => by
      subst he ha
      obtain ⟨rfl, hlt⟩ := range_at hx
      have C : mApp (op2 (eqD false)) [(.peek 13), (.val (mC (.int 0)))] (EB d' (.int m) a2 a3 .any .any .any .any (.int v) a9 a10 a11 a12 (.int jo) .any .any .any .any (.int (ys.length : Int)) .any) = .ok (.bl (decide (jo = 0))) (EB d' (.int m) a2 a3 .any .any .any .any (.int v) a9 a10 a11 a12 (.int jo) .any .any .any .any (.int (ys.length : Int)) .any) := by
        have O : op2 (eqD false) [.int jo, .int 0] = .ok (.bl (decide (jo = 0))) [.int jo, .int 0] := by simp only [op2, eqD_int, Bool.bne_false]
        exact mApp_ok (evA_peek (d0 := .int jo) rfl rfl (evA_val (m := mC (.int 0)) rfl evA_nil) rfl rfl) O
      by_cases hj : jo = 0
      · rw [decide_eq_true hj] at C
        obtain ⟨r, d1, e1, r0, r1, b1⟩ := take_p (m := (v : Int)) (i := 7) (rest := [.int m, a2, a3, .any, .any, .any, .any, .int v, a9, a10, a11, a12, .int jo, .any, .any, .any, .any, .int (ys.length : Int), .any]) hb (by omega) (by omega) (by omega) rfl
        refine ⟨EB d' (.int m) a2 a3 .any .any .any .any (.int v) a9 a10 a11 a12 (.int jo) .any .any .any .any (.int (ys.length : Int)) .any, _, _, rfl, mIf_t C e1, d1, l ++ [r], rfl, dI_snoc _ _, by simp [hl], ?_, by rw [List.length_append]; exact b1⟩
        intro x hx
        rcases List.mem_append.mp hx with hx | hx
        · exact hv x hx
        · rw [List.mem_singleton] at hx
          subst hx
          exact ⟨r0, r1⟩
      · rw [decide_eq_false hj] at C
        have V : mVar 18 (EB d' (.int m) a2 a3 .any .any .any .any (.int v) a9 a10 a11 a12 (.int jo) .any .any .any .any (.int (ys.length : Int)) .any) = .ok (.int (ys.length : Int)) (EB d' (.int m) a2 a3 .any .any .any .any (.int v) a9 a10 a11 a12 (.int jo) .any .any .any .any (.int (ys.length : Int)) .any) := mVar_s (d := .int (ys.length : Int)) rfl rfl rfl
        refine ⟨EB d' (.int m) a2 a3 .any .any .any .any (.int v) a9 a10 a11 a12 (.int jo) .any .any .any .any (.int (ys.length : Int)) .any, _, _, rfl, mIf_f C V, d', l ++ [(ys.length : Int)], rfl, dI_snoc _ _, by simp [hl], ?_, hb.mono (by simp)⟩
        intro x hx
        rcases List.mem_append.mp hx with hx | hx
        · exact hv x hx
        · rw [List.mem_singleton] at hx
          subst hx
          omega)
    ⟨d, [], rfl, rfl, rfl, List.forall_mem_nil _, h⟩
  rw [List.length_range] at M3 M5
  exact ⟨l, d', sAsg_ok M1 rfl, M3, M4, M5⟩
end
end Z

set_option Elab.async false
set_option linter.all false
set_option maxRecDepth 100000
set_option maxHeartbeats 4000000
namespace Z
open PySem PySem.Spec PyProof.Rows
open L2 StX

theorem seq_tux (b : List Int) : D.seq (tuxD b) = some (dI b) := rfl
theorem frzL_tux (bs : List (List Int)) : frzL (bs.map tuxD) = bs.map tuxD := by
  rw [frzL_eq, List.map_map]
  exact List.map_congr_left fun b _ => frz_id (isFrz_node rfl (isFrzL_dI b))
abbrev mNm : M := mApp oTupleX [(.val (mApp oSorted [(.val (mLc (iSeq (mVar 6)) (.nm 18) none (mApp oIx [(.peek 4), (.peek 18)]) [18]))]))]
abbrev mAr : M := mApp oIx [(.val (mApp oLst [(.val (mC (.int 0))), (.val (mC (.int 2))), (.val (mC (.int 3))), (.val (mC (.int 4))), (.val (mC (.int 5))), (.val (mC (.int 7)))])), (.peek 11)]
abbrev mTh : M := mApp (dfOp op__law_thing []) [(.peek 14), (.peek 10), (.val mAr), (.peek 2), (.peek 3), (.val (mTk (.val (mC (.int 4)))))]
abbrev bBd : S := sSeq (sAsg (.nm 14) mNm) (sDrop (mLst fAppend 5 [(.val mTh)]))
section
variable {k v s : Nat} {m w ar : Int} {d : D}
theorem lb_named {d a1 a2 a3 a5 a8 a9 a10 a11 a12 a13 a14 : D} {names b : List Int} (hb : ∀ x ∈ b, 0 ≤ x ∧ x < names.length) (hl : b.length ≤ 1000) (hv : ∀ x ∈ names, 0 ≤ x ∧ x < (v : Int)) :
    ∃ c : List Int, mNm (EB d a1 a2 a3 (.node (.lst true) (dI names)) a5 (tuxD b) .any a8 a9 a10 a11 a12 a13 a14 .any .any .any .any .any) = .ok (tuxD c) (EB d a1 a2 a3 (.node (.lst true) (dI names)) a5 (tuxD b) .any a8 a9 a10 a11 a12 a13 a14 .any .any .any .any .any) ∧ (∀ x ∈ c, 0 ≤ x ∧ x < (v : Int)) ∧ c.length = b.length := by
  have V : mVar 6 (EB d a1 a2 a3 (.node (.lst true) (dI names)) a5 (tuxD b) .any a8 a9 a10 a11 a12 a13 a14 .any .any .any .any .any) = .ok (tuxD b) (EB d a1 a2 a3 (.node (.lst true) (dI names)) a5 (tuxD b) .any a8 a9 a10 a11 a12 a13 a14 .any .any .any .any .any) := mVar_s (d := tuxD b) rfl rfl (frz_id (isFrz_node rfl (isFrzL_dI b)))
  have sr : iSeq (mVar 6) (EB d a1 a2 a3 (.node (.lst true) (dI names)) a5 (tuxD b) .any a8 a9 a10 a11 a12 a13 a14 .any .any .any .any .any) = .ok (b.map D.int) (EB d a1 a2 a3 (.node (.lst true) (dI names)) a5 (tuxD b) .any a8 a9 a10 a11 a12 a13 a14 .any .any .any .any .any) := iSeq_ok V (seq_tux b) (frzL_dI b)
  have L := mLc_map (k := 18) (m := mApp oIx [(.peek 4), (.peek 18)]) (vs := [18]) (tof := D.int) (f := fun x : Int => D.int (names[x.toNat]?.getD 0)) (xs := b) sr (by simp [anyAll, keepP]) (fun x hx => by
    obtain ⟨x0, x1⟩ := hb x hx
    have I := ix_int (t := .lst true) (l := names) rfl x0 x1
    refine ⟨EB d a1 a2 a3 (.node (.lst true) (dI names)) a5 (tuxD b) .any a8 a9 a10 a11 a12 a13 a14 .any .any .any (.int x) .any, ?_, rfl⟩
    have P : evA [(.peek 4), (.peek 18)] (EB d a1 a2 a3 (.node (.lst true) (dI names)) a5 (tuxD b) .any a8 a9 a10 a11 a12 a13 a14 .any .any .any (.int x) .any) = .ok [.node (.lst true) (dI names), .int x] (EB d a1 a2 a3 .any a5 (tuxD b) .any a8 a9 a10 a11 a12 a13 a14 .any .any .any .any .any) := rfl
    exact mApp_ok P I) (by omega) rfl
  rw [← int_map] at L
  refine ⟨srtI (b.map fun x : Int => names[x.toNat]?.getD 0), mApp_v1 (mApp_v1 L (sorted_ok true _)) (tupleX_ok _), ?_, by rw [len_srtI, List.length_map]⟩
  intro x hx
  obtain ⟨y, hy, rfl⟩ := List.mem_map.mp (mem_srtI hx)
  obtain ⟨y0, y1⟩ := hb y hy
  have hn : y.toNat < names.length := by omega
  rw [List.getElem?_eq_getElem hn]
  exact hv _ (List.getElem_mem hn)
theorem lb_thing {a1 a4 a5 a6 a8 a9 a12 a13 : D} {marks caps c : List Int} (h : Bx k d) (hk : k < 1000000) (hw : 0 ≤ ar ∧ ar < 6) (hc : ∀ x ∈ c, 0 ≤ x ∧ x < marks.length) (hl : c.length ≤ 1000) (hp : caps.length ≤ 1000) :
    ∃ (t : D) (d' : D), mTh (EB d a1 (.node (.lst true) (dI marks)) (.node (.lst true) (dI caps)) a4 a5 a6 .any a8 a9 (.int w) (.int ar) a12 a13 (tuxD c) .any .any .any .any .any) = .ok t (EB d' a1 (.node (.lst true) (dI marks)) (.node (.lst true) (dI caps)) a4 a5 a6 .any a8 a9 (.int w) (.int ar) a12 a13 (tuxD c) .any .any .any .any .any) ∧ Th t ∧ Bx (k + 1) d' := by
  obtain ⟨r, d1, e1, r0, r1, b1⟩ := take_c (m := 4) (rest := [a1, .node (.lst true) (dI marks), .node (.lst true) (dI caps), a4, a5, a6, .any, a8, a9, .int w, .int ar, a12, a13, tuxD c, .any, .any, .any, .any, .any]) h hk (by omega) (by omega)
  have I := ix_int (t := .lst true) (l := [0, 2, 3, 4, 5, 7]) (x := ar) rfl hw.1 (by simp; omega)
  generalize ([0, 2, 3, 4, 5, 7] : List Int)[ar.toNat]?.getD 0 = q at I
  obtain ⟨t, ht, T⟩ := thing_ok (b := c) (marks := marks) (caps := caps) (way := w) (around := q) (drawn := r) hc hl hp
  have R6 : evA [(.val (mTk (.val (mC (.int 4)))))] (EB d a1 (.node (.lst true) (dI marks)) (.node (.lst true) (dI caps)) a4 a5 a6 .any a8 a9 (.int w) (.int ar) a12 a13 (tuxD c) .any .any .any .any .any) = .ok [.int r] (EB d1 a1 (.node (.lst true) (dI marks)) (.node (.lst true) (dI caps)) a4 a5 a6 .any a8 a9 (.int w) (.int ar) a12 a13 (tuxD c) .any .any .any .any .any) := evA_val e1 evA_nil
  have R5 : evA [(.peek 3), (.val (mTk (.val (mC (.int 4)))))] (EB d a1 (.node (.lst true) (dI marks)) (.node (.lst true) (dI caps)) a4 a5 a6 .any a8 a9 (.int w) (.int ar) a12 a13 (tuxD c) .any .any .any .any .any) = .ok [.node (.lst true) (dI caps), .int r] (EB d1 a1 (.node (.lst true) (dI marks)) .any a4 a5 a6 .any a8 a9 (.int w) (.int ar) a12 a13 (tuxD c) .any .any .any .any .any) := evA_peek (d0 := .node (.lst true) (dI caps)) rfl rfl R6 rfl rfl
  have R4 : evA [(.peek 2), (.peek 3), (.val (mTk (.val (mC (.int 4)))))] (EB d a1 (.node (.lst true) (dI marks)) (.node (.lst true) (dI caps)) a4 a5 a6 .any a8 a9 (.int w) (.int ar) a12 a13 (tuxD c) .any .any .any .any .any) = .ok [.node (.lst true) (dI marks), .node (.lst true) (dI caps), .int r] (EB d1 a1 .any .any a4 a5 a6 .any a8 a9 (.int w) (.int ar) a12 a13 (tuxD c) .any .any .any .any .any) := evA_peek (d0 := .node (.lst true) (dI marks)) rfl rfl R5 rfl rfl
  have Q : mAr (EB d a1 (.node (.lst true) (dI marks)) (.node (.lst true) (dI caps)) a4 a5 a6 .any a8 a9 (.int w) (.int ar) a12 a13 (tuxD c) .any .any .any .any .any) = .ok (.int q) (EB d a1 (.node (.lst true) (dI marks)) (.node (.lst true) (dI caps)) a4 a5 a6 .any a8 a9 (.int w) (.int ar) a12 a13 (tuxD c) .any .any .any .any .any) :=
    mApp_ok (evA_val (r := .node (.lst true) (dI [0, 2, 3, 4, 5, 7])) rfl (show evA [(.peek 11)] (EB d a1 (.node (.lst true) (dI marks)) (.node (.lst true) (dI caps)) a4 a5 a6 .any a8 a9 (.int w) (.int ar) a12 a13 (tuxD c) .any .any .any .any .any) = .ok [.int ar] (EB d a1 (.node (.lst true) (dI marks)) (.node (.lst true) (dI caps)) a4 a5 a6 .any a8 a9 (.int w) .any a12 a13 (tuxD c) .any .any .any .any .any) from rfl)) I
  have R3 := evA_val Q R4
  have R2 : evA [(.peek 10), (.val mAr), (.peek 2), (.peek 3), (.val (mTk (.val (mC (.int 4)))))] (EB d a1 (.node (.lst true) (dI marks)) (.node (.lst true) (dI caps)) a4 a5 a6 .any a8 a9 (.int w) (.int ar) a12 a13 (tuxD c) .any .any .any .any .any) = .ok [.int w, .int q, .node (.lst true) (dI marks), .node (.lst true) (dI caps), .int r] (EB d1 a1 .any .any a4 a5 a6 .any a8 a9 .any (.int ar) a12 a13 (tuxD c) .any .any .any .any .any) := evA_peek (d0 := .int w) rfl rfl R3 rfl rfl
  have R1 : evA [(.peek 14), (.peek 10), (.val mAr), (.peek 2), (.peek 3), (.val (mTk (.val (mC (.int 4)))))] (EB d a1 (.node (.lst true) (dI marks)) (.node (.lst true) (dI caps)) a4 a5 a6 .any a8 a9 (.int w) (.int ar) a12 a13 (tuxD c) .any .any .any .any .any) = .ok [tuxD c, .int w, .int q, .node (.lst true) (dI marks), .node (.lst true) (dI caps), .int r] (EB d1 a1 .any .any a4 a5 a6 .any a8 a9 .any (.int ar) a12 a13 .any .any .any .any .any .any) := evA_peek (d0 := tuxD c) rfl rfl R2 rfl rfl
  exact ⟨t, d1, mApp_ok R1 (dfOp_ok T rfl), ht, b1⟩
/-- the things of all bags -/
theorem lb_5 {a12 a13 : D} {marks caps names : List Int} (h : Bx k d) (hk : k + 100 < 1000000) (h1 : 1 ≤ v) (h2 : v ≤ 4) (h4 : s ≤ 6) (hw : 0 ≤ ar ∧ ar < 6) (hm : marks.length = v) (hp : caps.length = v) (hn : names.length = v) (hv : ∀ x ∈ names, 0 ≤ x ∧ x < (v : Int)) :
    ∃ (ts : List D) (d' z6 z14 : D), sFor (iSeq (mApp (dfOp op__law_bags_X []) [(.peek 8), (.peek 9)])) (.nm 6) bBd
      (EB d (.int m) (.node (.lst true) (dI marks)) (.node (.lst true) (dI caps)) (.node (.lst true) (dI names)) (.node (.lst true) []) .any .any (.int v) (.int s) (.int w) (.int ar) a12 a13 .any .any .any .any .any .any) = .nx (EB d' (.int m) (.node (.lst true) (dI marks)) (.node (.lst true) (dI caps)) (.node (.lst true) (dI names)) (.node (.lst true) ts) z6 .any (.int v) (.int s) (.int w) (.int ar) a12 a13 z14 .any .any .any .any .any) ∧
      (∀ t ∈ ts, Th t) ∧ ts.length = (BL v s).length ∧ Bx (k + (BL v s).length) d' := by
  have hlen := (BL_len h1 h2 h4).2
  have hin := BL_in h1 h2 h4
  have XB := dfOp_ok (xbags_ok h1 h2 h4) rfl
  generalize hq : decide (s = 0) = q at XB
  have X := mApp_ok (show evA [(.peek 8), (.peek 9)] (EB d (.int m) (.node (.lst true) (dI marks)) (.node (.lst true) (dI caps)) (.node (.lst true) (dI names)) (.node (.lst true) []) .any .any (.int v) (.int s) (.int w) (.int ar) a12 a13 .any .any .any .any .any .any) = .ok [.int v, .int s] (EB d (.int m) (.node (.lst true) (dI marks)) (.node (.lst true) (dI caps)) (.node (.lst true) (dI names)) (.node (.lst true) []) .any .any .any .any (.int w) (.int ar) a12 a13 .any .any .any .any .any .any) from rfl) XB
  have sr : iSeq (mApp (dfOp op__law_bags_X []) [(.peek 8), (.peek 9)]) (EB d (.int m) (.node (.lst true) (dI marks)) (.node (.lst true) (dI caps)) (.node (.lst true) (dI names)) (.node (.lst true) []) .any .any (.int v) (.int s) (.int w) (.int ar) a12 a13 .any .any .any .any .any .any) = .ok ((BL v s).map tuxD) (EB d (.int m) (.node (.lst true) (dI marks)) (.node (.lst true) (dI caps)) (.node (.lst true) (dI names)) (.node (.lst true) []) .any .any (.int v) (.int s) (.int w) (.int ar) a12 a13 .any .any .any .any .any .any) := iSeq_ok X rfl (frzL_tux _)
  clear X XB
  have L := loopS_all (α := List Int) (t := .nm 6) (tof := tuxD) (b := bBd) (P := fun ys e => ∃ d' ts z6 z14, e = EB d' (.int m) (.node (.lst true) (dI marks)) (.node (.lst true) (dI caps)) (.node (.lst true) (dI names)) (.node (.lst true) ts) z6 .any (.int v) (.int s) (.int w) (.int ar) a12 a13 z14 .any .any .any .any .any ∧ (∀ t ∈ ts, Th t) ∧ ts.length = ys.length ∧ Bx (k + ys.length) d') (BL v s) (BL v s) [] (EB d (.int m) (.node (.lst true) (dI marks)) (.node (.lst true) (dI caps)) (.node (.lst true) (dI names)) (.node (.lst true) []) .any .any (.int v) (.int s) (.int w) (.int ar) a12 a13 .any .any .any .any .any .any) rfl
    (fun ys x zs e hx ⟨d', ts, z6, z14, he, ht, hl, hb⟩ => by
      subst he
      have hm2 : x ∈ BL v s := by rw [hx]; simp
      obtain ⟨i1, i2⟩ := hin x hm2
      have hy : ys.length < 84 := by
        rw [hx] at hlen
        simp at hlen
        omega
      obtain ⟨c, C1, C2, C3⟩ := lb_named (v := v) (d := d') (a1 := .int m) (a2 := .node (.lst true) (dI marks)) (a3 := .node (.lst true) (dI caps)) (a5 := .node (.lst true) ts) (a8 := .int v) (a9 := .int s) (a10 := .int w) (a11 := .int ar) (a12 := a12) (a13 := a13) (a14 := z14) (names := names) (b := x) (fun y hy => by rw [hn]; exact i2 y hy) (by omega) hv
      obtain ⟨t, d2, T1, T2, T3⟩ := lb_thing (d := d') (w := w) (a1 := .int m) (a4 := .node (.lst true) (dI names)) (a5 := .node (.lst true) ts) (a6 := tuxD x) (a8 := .int v) (a9 := .int s) (a12 := a12) (a13 := a13) (marks := marks) (caps := caps) (c := c) hb (by omega) hw (fun y hy => by rw [hm]; exact C2 y hy) (by omega) (by omega)
      have A := append_ok (i := 5) rfl T1 rfl (by omega)
      refine ⟨EB d' (.int m) (.node (.lst true) (dI marks)) (.node (.lst true) (dI caps)) (.node (.lst true) (dI names)) (.node (.lst true) ts) (tuxD x) .any (.int v) (.int s) (.int w) (.int ar) a12 a13 z14 .any .any .any .any .any, _, rfl, Or.inl (sSeq_nx (sAsg_ok C1 rfl) A), d2, ts ++ [t], tuxD x, tuxD c, rfl, ?_, by simp [hl], by rw [List.length_append]; exact T3⟩
      intro u hu
      rcases List.mem_append.mp hu with hu | hu
      · exact ht u hu
      · rw [List.mem_singleton] at hu
        subst hu
        exact T2)
    ⟨d, [], .any, .any, rfl, List.forall_mem_nil _, rfl, h⟩
  obtain ⟨e', L1, d', ts, z6, z14, rfl, ht, hl, hb⟩ := L
  exact ⟨ts, d', z6, z14, sFor_ok sr L1, ht, hl, hb⟩
end
end Z

set_option Elab.async false
set_option linter.all false
set_option maxRecDepth 100000
set_option maxHeartbeats 4000000
namespace Z
open PySem PySem.Spec PyProof.Rows
open L2 StX

section
variable {k : Nat} {d : D}
abbrev mOt : M := mApp oIx [(.val (mApp oLst [(.val (mApp oIx [(.peek 7), (.val (mTk (.val (mApp oLen [(.peek 7)]))))])), (.val (mApp oAdd [(.val (mApp oMaxL [(.peek 7)])), (.val (mC (.int 1)))]))])), (.val (mTk (.val (mC (.int 2)))))]
abbrev bSp : S := sSeq (sAsg (.nm 15) mOt) (sSetI 7 (mVar 15) (mTk (.val (mApp oLen [(.peek 7)]))))
theorem len_at {d a1 a2 a3 a4 a5 a6 a8 a9 a10 a11 a12 a13 a14 a15 : D} {l : List Int} : mApp oLen [(.peek 7)] (EB d a1 a2 a3 a4 a5 a6 (.node (.lst true) (dI l)) a8 a9 a10 a11 a12 a13 a14 a15 .any .any .any .any) = .ok (.int l.length) (EB d a1 a2 a3 a4 a5 a6 (.node (.lst true) (dI l)) a8 a9 a10 a11 a12 a13 a14 a15 .any .any .any .any) := by
  have O := len_node (α := Nat) (.lst true) (dI l) (dI l) rfl
  rw [dI_length] at O
  exact mApp_ok (show evA [(.peek 7)] (EB d a1 a2 a3 a4 a5 a6 (.node (.lst true) (dI l)) a8 a9 a10 a11 a12 a13 a14 a15 .any .any .any .any) = .ok [.node (.lst true) (dI l)] (EB d a1 a2 a3 a4 a5 a6 .any a8 a9 a10 a11 a12 a13 a14 a15 .any .any .any .any) from rfl) O
/-- one sign is changed -/
theorem lb_spoil {a1 a2 a3 a4 a5 a6 a8 a9 a10 a11 a12 a13 a14 : D} {l : List Int} (h : Bx k d) (hk : k + 100 < 1000000) (hl : l ≠ []) (hn : l.length ≤ 1000) :
    ∃ (l' : List Int) (d' z : D), bSp (EB d a1 a2 a3 a4 a5 a6 (.node (.lst true) (dI l)) a8 a9 a10 a11 a12 a13 a14 .any .any .any .any .any) = .nx (EB d' a1 a2 a3 a4 a5 a6 (.node (.lst true) (dI l')) a8 a9 a10 a11 a12 a13 a14 z .any .any .any .any) ∧ l'.length = l.length ∧ Bx (k + 3) d' := by
  have hp : 0 < l.length := List.length_pos_iff.mpr hl
  obtain ⟨r, d1, e1, r0, r1, b1⟩ := take_m (m := (l.length : Int)) (mm := mApp oLen [(.peek 7)]) (rest := [a1, a2, a3, a4, a5, a6, .node (.lst true) (dI l), a8, a9, a10, a11, a12, a13, a14, .any, .any, .any, .any, .any]) h (by omega) (by omega) (by omega) len_at
  have I1 := ix_int (t := .lst true) (l := l) (x := r) rfl r0 r1
  generalize l[r.toNat]?.getD 0 = q at I1
  have Q1 : mApp oIx [(.peek 7), (.val (mTk (.val (mApp oLen [(.peek 7)]))))] (EB d a1 a2 a3 a4 a5 a6 (.node (.lst true) (dI l)) a8 a9 a10 a11 a12 a13 a14 .any .any .any .any .any) = .ok (.int q) (EB d1 a1 a2 a3 a4 a5 a6 (.node (.lst true) (dI l)) a8 a9 a10 a11 a12 a13 a14 .any .any .any .any .any) :=
    mApp_ok (evA_peek (d0 := .node (.lst true) (dI l)) rfl rfl (evA_val e1 evA_nil) rfl rfl) I1
  obtain ⟨y, Y⟩ := maxL_ok hl
  have Q2 : mApp oMaxL [(.peek 7)] (EB d1 a1 a2 a3 a4 a5 a6 (.node (.lst true) (dI l)) a8 a9 a10 a11 a12 a13 a14 .any .any .any .any .any) = .ok (.int y) (EB d1 a1 a2 a3 a4 a5 a6 (.node (.lst true) (dI l)) a8 a9 a10 a11 a12 a13 a14 .any .any .any .any .any) :=
    mApp_ok (show evA [(.peek 7)] (EB d1 a1 a2 a3 a4 a5 a6 (.node (.lst true) (dI l)) a8 a9 a10 a11 a12 a13 a14 .any .any .any .any .any) = .ok [.node (.lst true) (dI l)] (EB d1 a1 a2 a3 a4 a5 a6 .any a8 a9 a10 a11 a12 a13 a14 .any .any .any .any .any) from rfl) Y
  have O3 : oAdd [.int y, .int 1] = .ok (.int (y + 1)) [.int y, .int 1] := rfl
  have Q3 := mApp_ok (evA_val Q2 (evA_val (m := mC (.int 1)) rfl evA_nil)) O3
  have O4 : oLst [.int q, .int (y + 1)] = .ok (.node (.lst true) (dI [q, y + 1])) [.any, .any] := rfl
  have Q4 := mApp_ok (evA_val Q1 (evA_val Q3 evA_nil)) O4
  obtain ⟨r2, d2, e2, p0, p1, b2⟩ := take_c (m := 2) (rest := [a1, a2, a3, a4, a5, a6, .node (.lst true) (dI l), a8, a9, a10, a11, a12, a13, a14, .any, .any, .any, .any, .any]) b1 (by omega) (by omega) (by omega)
  have I2 := ix_int (t := .lst true) (l := [q, y + 1]) (x := r2) rfl p0 (by simpa using p1)
  generalize ([q, y + 1] : List Int)[r2.toNat]?.getD 0 = u at I2
  have Q5 : mOt (EB d a1 a2 a3 a4 a5 a6 (.node (.lst true) (dI l)) a8 a9 a10 a11 a12 a13 a14 .any .any .any .any .any) = .ok (.int u) (EB d2 a1 a2 a3 a4 a5 a6 (.node (.lst true) (dI l)) a8 a9 a10 a11 a12 a13 a14 .any .any .any .any .any) := mApp_ok (evA_val Q4 (evA_val e2 evA_nil)) I2
  obtain ⟨r3, d3, e3, q0, q1, b3⟩ := take_m (m := (l.length : Int)) (mm := mApp oLen [(.peek 7)]) (rest := [a1, a2, a3, a4, a5, a6, .node (.lst true) (dI l), a8, a9, a10, a11, a12, a13, a14, .int u, .any, .any, .any, .any]) b2 (by omega) (by omega) (by omega) len_at
  obtain ⟨n, rfl⟩ : ∃ n : Nat, r3 = n := ⟨r3.toNat, by omega⟩
  have hn3 : n < l.length := by omega
  have S2 := sSetI_ok (i := 7) (j := n) (m := mVar 15) (mi := mTk (.val (mApp oLen [(.peek 7)]))) (env := EB d2 a1 a2 a3 a4 a5 a6 (.node (.lst true) (dI l)) a8 a9 a10 a11 a12 a13 a14 (.int u) .any .any .any .any) (mVar_s (d := .int u) rfl rfl rfl) (ys := dI l) rfl e3 (xs := dI l) rfl (ixN_nat (by simpa using hn3))
  rw [set_dI] at S2
  exact ⟨l.set n u, d3, .int u, sSeq_nx (sAsg_ok Q5 rfl) S2, List.length_set, b3⟩
abbrev mSt : M := mApp oIx [(.val (mApp oLst [(.val (mC (.int 1))), (.val (mApp oNeg [(.val (mC (.int 1)))])), (.val (mC (.int 7))), (.val (mC (.int 2))), (.val (mApp oPow [(.val (mC (.int 10))), (.val (mC (.int 16)))]))])), (.val (mTk (.val (mC (.int 5)))))]
abbrev mMo : M := mApp oIx [(.val (mApp oLst [(.val (mC (.int 0))), (.val (mApp oNeg [(.val (mC (.int 3)))])), (.val (mApp oPow [(.val (mC (.int 10))), (.val (mC (.int 18)))])), (.val (mC (.int 12)))])), (.val (mTk (.val (mC (.int 4)))))]
theorem pow16 : oPow [.int 10, .int 16] = .ok (.int 10000000000000000) [.int 10, .int 16] := by kernel_rfl
theorem pow18 : oPow [.int 10, .int 18] = .ok (.int 1000000000000000000) [.int 10, .int 18] := by kernel_rfl
theorem lb_step {rest : Env} (h : Bx k d) (hk : k + 100 < 1000000) : ∃ (x y : Int) (d' : D), mApp oTup [(.val mSt), (.val mMo)] (d :: rest) = .ok (.node .tup [.int x, .int y]) (d' :: rest) ∧ -18446744073709551616 < x ∧ x < 18446744073709551616 ∧ Bx (k + 2) d' := by
  obtain ⟨r, d1, e1, r0, r1, b1⟩ := take_c (m := 5) (rest := rest) h (by omega) (by omega) (by omega)
  obtain ⟨r2, d2, e2, p0, p1, b2⟩ := take_c (m := 4) (rest := rest) b1 (by omega) (by omega) (by omega)
  have I1 := ix_int (t := .lst true) (l := [1, -1, 7, 2, 10000000000000000]) (x := r) rfl r0 (by simpa using r1)
  have I2 := ix_int (t := .lst true) (l := [0, -3, 1000000000000000000, 12]) (x := r2) rfl p0 (by simpa using p1)
  have bd : ∀ n : Nat, -18446744073709551616 < (([1, -1, 7, 2, 10000000000000000] : List Int)[n]?.getD 0) ∧ (([1, -1, 7, 2, 10000000000000000] : List Int)[n]?.getD 0) < 18446744073709551616 := fun n => by
    match n with
    | 0 => decide
    | 1 => decide
    | 2 => decide
    | 3 => decide
    | 4 => decide
    | n + 5 => simp
  have bb := bd r.toNat
  generalize ([1, -1, 7, 2, 10000000000000000] : List Int)[r.toNat]?.getD 0 = x at I1 bb
  generalize ([0, -3, 1000000000000000000, 12] : List Int)[r2.toNat]?.getD 0 = y at I2
  have P1 : ∀ e : Env, mApp oPow [(.val (mC (.int 10))), (.val (mC (.int 16)))] e = .ok (.int 10000000000000000) e := fun e => mApp_ok (evA_val (m := mC (.int 10)) rfl (evA_val (m := mC (.int 16)) rfl evA_nil)) pow16
  have P2 : ∀ e : Env, mApp oPow [(.val (mC (.int 10))), (.val (mC (.int 18)))] e = .ok (.int 1000000000000000000) e := fun e => mApp_ok (evA_val (m := mC (.int 10)) rfl (evA_val (m := mC (.int 18)) rfl evA_nil)) pow18
  have N1 : ∀ e : Env, mApp oNeg [(.val (mC (.int 1)))] e = .ok (.int (-1)) e := fun e => rfl
  have N3 : ∀ e : Env, mApp oNeg [(.val (mC (.int 3)))] e = .ok (.int (-3)) e := fun e => rfl
  have O1 : oLst [.int 1, .int (-1), .int 7, .int 2, .int 10000000000000000] = .ok (.node (.lst true) (dI [1, -1, 7, 2, 10000000000000000])) [.any, .any, .any, .any, .any] := rfl
  have O2 : oLst [.int 0, .int (-3), .int 1000000000000000000, .int 12] = .ok (.node (.lst true) (dI [0, -3, 1000000000000000000, 12])) [.any, .any, .any, .any] := rfl
  have L1 := fun e : Env => mApp_ok (evA_val (m := mC (.int 1)) (env := e) rfl (evA_val (N1 e) (evA_val (m := mC (.int 7)) rfl (evA_val (m := mC (.int 2)) rfl (evA_val (P1 e) evA_nil))))) O1
  have L2 := fun e : Env => mApp_ok (evA_val (m := mC (.int 0)) (env := e) rfl (evA_val (N3 e) (evA_val (P2 e) (evA_val (m := mC (.int 12)) rfl evA_nil)))) O2
  have Q1 := mApp_ok (evA_val (L1 (d :: rest)) (evA_val e1 evA_nil)) I1
  have Q2 := mApp_ok (evA_val (L2 (d1 :: rest)) (evA_val e2 evA_nil)) I2
  have T : oTup [.int x, .int y] = .ok (.node .tup [.int x, .int y]) [.any, .any] := rfl
  exact ⟨x, y, d2, mApp_ok (evA_val Q1 (evA_val Q2 evA_nil)) T, bb.1, bb.2, b2⟩
/-- the signs at last -/
theorem lb_signs {d a1 a2 a3 a4 a5 a6 a8 a9 a10 a11 a12 a13 a14 a15 : D} {l : List Int} {x y : Int} (hx : -18446744073709551616 < x) (hx2 : x < 18446744073709551616) (hn : l.length ≤ 1000) :
    mAside 7 (fun xs => (mLc (fun env => .ok xs env) (.nm 19) none (mApp oAdd [(.val (mApp oMul [(.val (mVar 19)), (.val (mVar 16))])), (.val (mVar 17))]) [19])) (EB d a1 a2 a3 a4 a5 a6 (.node (.lst true) (dI l)) a8 a9 a10 a11 a12 a13 a14 a15 (.int x) (.int y) .any .any) = .ok (.node (.lst true) (dI (l.map fun z => z * x + y))) (EB d a1 a2 a3 a4 a5 a6 (.node (.lst true) (dI l)) a8 a9 a10 a11 a12 a13 a14 a15 (.int x) (.int y) .any .any) := by
  have L := mLc_map (src := fun env => .ok (dI l) env) (k := 19) (m := mApp oAdd [(.val (mApp oMul [(.val (mVar 19)), (.val (mVar 16))])), (.val (mVar 17))]) (vs := [19]) (tof := D.int) (f := fun z : Int => D.int (z * x + y)) (env := EB d a1 a2 a3 a4 a5 a6 .any a8 a9 a10 a11 a12 a13 a14 a15 (.int x) (.int y) .any .any) (e := EB d a1 a2 a3 a4 a5 a6 .any a8 a9 a10 a11 a12 a13 a14 a15 (.int x) (.int y) .any .any) (xs := l) rfl (by simp [anyAll, keepP]) (fun z _ => by
    have c : CMul z x := CMul_r hx hx2
    have O1 : oMul [.int z, .int x] = .ok (.int (z * x)) [.int z, .int x] := by simp only [op2, onInt, if_pos c]
    have O2 : oAdd [.int (z * x), .int y] = .ok (.int (z * x + y)) [.int (z * x), .int y] := rfl
    have V1 : mVar 19 (EB d a1 a2 a3 a4 a5 a6 .any a8 a9 a10 a11 a12 a13 a14 a15 (.int x) (.int y) .any (.int z)) = .ok (.int z) (EB d a1 a2 a3 a4 a5 a6 .any a8 a9 a10 a11 a12 a13 a14 a15 (.int x) (.int y) .any (.int z)) := mVar_s (d := .int z) rfl rfl rfl
    have V2 : mVar 16 (EB d a1 a2 a3 a4 a5 a6 .any a8 a9 a10 a11 a12 a13 a14 a15 (.int x) (.int y) .any (.int z)) = .ok (.int x) (EB d a1 a2 a3 a4 a5 a6 .any a8 a9 a10 a11 a12 a13 a14 a15 (.int x) (.int y) .any (.int z)) := mVar_s (d := .int x) rfl rfl rfl
    have V3 : mVar 17 (EB d a1 a2 a3 a4 a5 a6 .any a8 a9 a10 a11 a12 a13 a14 a15 (.int x) (.int y) .any (.int z)) = .ok (.int y) (EB d a1 a2 a3 a4 a5 a6 .any a8 a9 a10 a11 a12 a13 a14 a15 (.int x) (.int y) .any (.int z)) := mVar_s (d := .int y) rfl rfl rfl
    exact ⟨_, mApp_ok (evA_val (mApp_ok (evA_val V1 (evA_val V2 evA_nil)) O1) (evA_val V3 evA_nil)) O2, rfl⟩) (by omega) rfl
  rw [← int_map] at L
  exact mAside_ok (i := 7) (s := fun xs => mLc (fun env => .ok xs env) (.nm 19) none (mApp oAdd [(.val (mApp oMul [(.val (mVar 19)), (.val (mVar 16))])), (.val (mVar 17))]) [19]) (env := EB d a1 a2 a3 a4 a5 a6 (.node (.lst true) (dI l)) a8 a9 a10 a11 a12 a13 a14 a15 (.int x) (.int y) .any .any) (d := .node (.lst true) (dI l)) (xs := dI l) rfl rfl (isFrzL_dI l) L rfl
end
theorem sSeq_assoc (a b c : S) (env : Env) : sSeq (sSeq a b) c env = sSeq a (sSeq b c) env := by
  simp only [sSeq]
  cases a env <;> rfl
theorem board_ok {k : Nat} {m : Int} {d : D} (h : Bx k d) (hk : k + 300 < 1000000) (hm : 0 < m) (hm2 : m ≤ 6) :
    ∃ (v s : Nat) (f : List Int → Int) (d' : D), op__law_board [d, .int m] = .ok (.node (.lst true) [.int v, .int s, .node (.lst true) (dI ((BL v s).map f))]) [d', .int m] ∧ 1 ≤ v ∧ v ≤ 4 ∧ 1 ≤ s ∧ s ≤ 6 ∧ Bx (k + 200) d' := by
  obtain ⟨v, s, w, ar, sp, jo, d1, T1, h1, h2, h3, h4, w0, w1, b1⟩ := lb_1 h (by omega) hm hm2
  obtain ⟨marks, d2, T2, hm3, b2⟩ := lb_2 (m := m) (a9 := .int s) (a10 := .int w) (a11 := .int ar) (a12 := .int sp) (a13 := .int jo) b1 (by omega) h1 h2
  obtain ⟨caps, d3, T3, hc, b3⟩ := lb_3 (m := m) (v := v) (a2 := .node (.lst true) (dI marks)) (a9 := .int s) (a10 := .int w) (a11 := .int ar) (a12 := .int sp) (a13 := .int jo) b2 (by omega) h2
  obtain ⟨names, d4, T4, hn, hv, b4⟩ := lb_4 (m := m) (v := v) (a2 := .node (.lst true) (dI marks)) (a3 := .node (.lst true) (dI caps)) (a9 := .int s) (a10 := .int w) (a11 := .int ar) (a12 := .int sp) (jo := jo) b3 (by omega) h1 h2
  obtain ⟨ts, d5, z6, z14, T5, ht, hl, b5⟩ := lb_5 (m := m) (w := w) (ar := ar) (a12 := .int sp) (a13 := .int jo) b4 (by omega) h1 h2 h4 ⟨w0, w1⟩ hm3 hc hn hv
  obtain ⟨hb0, hb1⟩ := BL_len h1 h2 h4
  obtain ⟨l, RK, hl2⟩ := ranked_ok ht (by omega)
  have T6 : sAsg (.nm 7) (mApp (dfOp op__law_ranked []) [(.peek 5)]) (EB d5 (.int m) (.node (.lst true) (dI marks)) (.node (.lst true) (dI caps)) (.node (.lst true) (dI names)) (.node (.lst true) ts) z6 .any (.int v) (.int s) (.int w) (.int ar) (.int sp) (.int jo) z14 .any .any .any .any .any) = .nx (EB d5 (.int m) (.node (.lst true) (dI marks)) (.node (.lst true) (dI caps)) (.node (.lst true) (dI names)) (.node (.lst true) ts) z6 (.node (.lst true) (dI l)) (.int v) (.int s) (.int w) (.int ar) (.int sp) (.int jo) z14 .any .any .any .any .any) :=
    sAsg_ok (mApp_ok (show evA [(.peek 5)] (EB d5 (.int m) (.node (.lst true) (dI marks)) (.node (.lst true) (dI caps)) (.node (.lst true) (dI names)) (.node (.lst true) ts) z6 .any (.int v) (.int s) (.int w) (.int ar) (.int sp) (.int jo) z14 .any .any .any .any .any) = .ok [.node (.lst true) ts] (EB d5 (.int m) (.node (.lst true) (dI marks)) (.node (.lst true) (dI caps)) (.node (.lst true) (dI names)) .any z6 .any (.int v) (.int s) (.int w) (.int ar) (.int sp) (.int jo) z14 .any .any .any .any .any) from rfl) (dfOp_ok RK rfl)) rfl
  have C : ∀ y, mApp (op2 (eqD false)) [(.peek 12), (.val (mC (.int 0)))] (EB d5 (.int m) (.node (.lst true) (dI marks)) (.node (.lst true) (dI caps)) (.node (.lst true) (dI names)) (.node (.lst true) ts) z6 (.node (.lst true) (dI l)) (.int v) (.int s) (.int w) (.int ar) (.int sp) (.int jo) z14 y .any .any .any .any) = .ok (.bl (decide (sp = 0))) (EB d5 (.int m) (.node (.lst true) (dI marks)) (.node (.lst true) (dI caps)) (.node (.lst true) (dI names)) (.node (.lst true) ts) z6 (.node (.lst true) (dI l)) (.int v) (.int s) (.int w) (.int ar) (.int sp) (.int jo) z14 y .any .any .any .any) := fun y => by
    have O : op2 (eqD false) [.int sp, .int 0] = .ok (.bl (decide (sp = 0))) [.int sp, .int 0] := by simp only [op2, eqD_int, Bool.bne_false]
    exact mApp_ok (evA_peek (d0 := .int sp) rfl rfl (evA_val (m := mC (.int 0)) rfl evA_nil) rfl rfl) O
  have T7 : ∃ (l' : List Int) (d' z : D), sIf (mApp (op2 (eqD false)) [(.peek 12), (.val (mC (.int 0)))]) bSp sNext (EB d5 (.int m) (.node (.lst true) (dI marks)) (.node (.lst true) (dI caps)) (.node (.lst true) (dI names)) (.node (.lst true) ts) z6 (.node (.lst true) (dI l)) (.int v) (.int s) (.int w) (.int ar) (.int sp) (.int jo) z14 .any .any .any .any .any) = .nx (EB d' (.int m) (.node (.lst true) (dI marks)) (.node (.lst true) (dI caps)) (.node (.lst true) (dI names)) (.node (.lst true) ts) z6 (.node (.lst true) (dI l')) (.int v) (.int s) (.int w) (.int ar) (.int sp) (.int jo) z14 z .any .any .any .any) ∧ l'.length = l.length ∧ Bx (k + 6 + 5 + v + v + (BL v s).length + 3) d' := by
    have C0 := C .any
    by_cases hs : sp = 0
    · rw [decide_eq_true hs] at C0
      obtain ⟨l', d', z, S1, S2, S3⟩ := lb_spoil (a1 := .int m) (a2 := .node (.lst true) (dI marks)) (a3 := .node (.lst true) (dI caps)) (a4 := .node (.lst true) (dI names)) (a5 := .node (.lst true) ts) (a6 := z6) (a8 := .int v) (a9 := .int s) (a10 := .int w) (a11 := .int ar) (a12 := .int sp) (a13 := .int jo) (a14 := z14) (l := l) b5 (by omega) (fun e => by rw [e] at hl2; simp at hl2; omega) (by omega)
      exact ⟨l', d', z, sIf_t C0 S1, S2, S3⟩
    · rw [decide_eq_false hs] at C0
      exact ⟨l, d5, .any, sIf_f C0 rfl, rfl, b5.mono (by omega)⟩
  obtain ⟨l', d6, z, T7, hl3, b6⟩ := T7
  obtain ⟨x, y, d7, T8, x1, x2, b7⟩ := lb_step (rest := [.int m, .node (.lst true) (dI marks), .node (.lst true) (dI caps), .node (.lst true) (dI names), .node (.lst true) ts, z6, .node (.lst true) (dI l'), .int v, .int s, .int w, .int ar, .int sp, .int jo, z14, z, .any, .any, .any, .any]) b6 (by omega)
  have T9 : sAsg (.tp [(.nm 16), (.nm 17)]) (mApp oTup [(.val mSt), (.val mMo)]) (EB d6 (.int m) (.node (.lst true) (dI marks)) (.node (.lst true) (dI caps)) (.node (.lst true) (dI names)) (.node (.lst true) ts) z6 (.node (.lst true) (dI l')) (.int v) (.int s) (.int w) (.int ar) (.int sp) (.int jo) z14 z .any .any .any .any) = .nx (EB d7 (.int m) (.node (.lst true) (dI marks)) (.node (.lst true) (dI caps)) (.node (.lst true) (dI names)) (.node (.lst true) ts) z6 (.node (.lst true) (dI l')) (.int v) (.int s) (.int w) (.int ar) (.int sp) (.int jo) z14 z (.int x) (.int y) .any .any) := sAsg_ok T8 rfl
  have T10 := lb_signs (d := d7) (a1 := .int m) (a2 := .node (.lst true) (dI marks)) (a3 := .node (.lst true) (dI caps)) (a4 := .node (.lst true) (dI names)) (a5 := .node (.lst true) ts) (a6 := z6) (a8 := .int v) (a9 := .int s) (a10 := .int w) (a11 := .int ar) (a12 := .int sp) (a13 := .int jo) (a14 := z14) (a15 := z) (l := l') (y := y) x1 x2 (by omega)
  obtain ⟨f, hf⟩ := exists_fun (bs := BL v s) (S := l'.map fun z => z * x + y) (BL_nodup h1 h2 h4) (by rw [List.length_map]; omega)
  rw [hf] at T10
  have V8 : mVar 8 (EB d7 (.int m) (.node (.lst true) (dI marks)) (.node (.lst true) (dI caps)) (.node (.lst true) (dI names)) (.node (.lst true) ts) z6 (.node (.lst true) (dI l')) (.int v) (.int s) (.int w) (.int ar) (.int sp) (.int jo) z14 z (.int x) (.int y) .any .any) = .ok (.int v) (EB d7 (.int m) (.node (.lst true) (dI marks)) (.node (.lst true) (dI caps)) (.node (.lst true) (dI names)) (.node (.lst true) ts) z6 (.node (.lst true) (dI l')) (.int v) (.int s) (.int w) (.int ar) (.int sp) (.int jo) z14 z (.int x) (.int y) .any .any) := mVar_s (d := .int v) rfl rfl rfl
  have V9 : mVar 9 (EB d7 (.int m) (.node (.lst true) (dI marks)) (.node (.lst true) (dI caps)) (.node (.lst true) (dI names)) (.node (.lst true) ts) z6 (.node (.lst true) (dI l')) (.int v) (.int s) (.int w) (.int ar) (.int sp) (.int jo) z14 z (.int x) (.int y) .any .any) = .ok (.int s) (EB d7 (.int m) (.node (.lst true) (dI marks)) (.node (.lst true) (dI caps)) (.node (.lst true) (dI names)) (.node (.lst true) ts) z6 (.node (.lst true) (dI l')) (.int v) (.int s) (.int w) (.int ar) (.int sp) (.int jo) z14 z (.int x) (.int y) .any .any) := mVar_s (d := .int s) rfl rfl rfl
  have O : oLst [.int v, .int s, .node (.lst true) (dI ((BL v s).map f))] = .ok (.node (.lst true) [.int v, .int s, .node (.lst true) (dI ((BL v s).map f))]) [.any, .any, .any] := rfl
  have FIN := mApp_ok (evA_val V8 (evA_val V9 (evA_val T10 evA_nil))) O
  refine ⟨v, s, f, d7, ?_, h1, h2, h3, h4, b7.mono (by omega)⟩
  have T1' := T1
  refine fnOp_rt (r := .node (.lst true) [.int v, .int s, .node (.lst true) (dI ((BL v s).map f))]) (e := EB d7 (.int m) (.node (.lst true) (dI marks)) (.node (.lst true) (dI caps)) (.node (.lst true) (dI names)) (.node (.lst true) ts) z6 (.node (.lst true) (dI l')) (.int v) (.int s) (.int w) (.int ar) (.int sp) (.int jo) z14 z (.int x) (.int y) .any .any) rfl ?_ (by simp)
  exact (sSeq_assoc _ _ _ _).symm.trans (sSeq_nx T1 (sSeq_nx T2 (sSeq_nx T3 (sSeq_nx T4 (sSeq_nx (e := EB d4 (.int m) (.node (.lst true) (dI marks)) (.node (.lst true) (dI caps)) (.node (.lst true) (dI names)) (.node (.lst true) []) .any .any (.int v) (.int s) (.int w) (.int ar) (.int sp) (.int jo) .any .any .any .any .any .any) rfl (sSeq_nx T5 (sSeq_nx T6 (sSeq_nx T7 (sSeq_nx T9 (sRet_ok FIN))))))))))
end Z

set_option Elab.async false
set_option linter.all false
set_option maxRecDepth 100000
set_option maxHeartbeats 4000000
namespace Z
open PySem PySem.Spec PyProof.Rows
open L2 StX

abbrev ER (a0 a1 a2 a3 a4 a5 a6 a7 a8 a9 a10 a11 a12 a13 : D) : Env := [a0, a1, a2, a3, a4, a5, a6, a7, a8, a9, a10, a11, a12, a13]
theorem inD_ints (t : Int) (l : List Int) : ∃ b, inD false (.int t) (.node (.lst true) (dI l)) = some (.bl b) := by
  have e : D.py (.int t) = some (.int t) := by rw [D.py]
  refine ⟨((l.map PyData.int).any fun z => PyData.eqv z (.int t)) != false, ?_⟩
  simp only [inD, e, pyL_dI]
  rw [if_pos ⟨rfl, shaped_li l⟩]
theorem ix_bag {bs : List (List Int)} {r : Int} (h0 : 0 ≤ r) (h1 : r < bs.length) : ∃ b ∈ bs, oIx [.node (.lst true) (bs.map bagD), .int r] = .ok (bagD b) [.node (.lst true) (bs.map bagD), .int r] := by
  obtain ⟨n, rfl⟩ : ∃ n : Nat, r = n := ⟨r.toNat, by omega⟩
  have hn : n < bs.length := by omega
  refine ⟨bs[n], List.getElem_mem hn, ix_ok rfl (ixN_nat (by simpa using hn)) ?_ (isFrz_bag _)⟩
  rw [List.getElem?_map, List.getElem?_eq_getElem hn]
  rfl
theorem gt_ok (i j : Int) : oGt [.int i, .int j] = .ok (.bl (decide (j < i))) [.int i, .int j] := rfl
theorem sPar_ok {is : List Nat} {ops : List Opd} {env e1 e2 : Env} {ds : List D} (h : evA ops env = .ok ds e1) (h2 : asgL (is.map .nm) ds e1 = some e2) : sPar is ops env = .nx e2 := by
  simp only [sPar, h, h2]
section
variable {k v s : Nat} {f : List Int → Int} {d many Bs : D} {M3 M4 : Bool → D} {at_ t : Int}
abbrev m36 : M := mApp oIx [(.peek 3), (.peek 6)]
abbrev mWr : M := mApp (dfOp op__law_with_right []) [(.val m36), (.peek 10), (.peek 8)]
theorem tr_36 {o : Bool} {a0 a1 a2 a4 a5 a7 a8 a9 a10 a11 a12 a13 c : D} (aM3 : ∀ o, (M3 o).isAny = false) (h3 : ∀ o, oIx [M3 o, .int at_] = .ok c [M3 false, .int at_]) :
    m36 (ER a0 a1 a2 (M3 o) a4 a5 (.int at_) a7 a8 a9 a10 a11 a12 a13) = .ok c (ER a0 a1 a2 (M3 false) a4 a5 (.int at_) a7 a8 a9 a10 a11 a12 a13) := by
  have P : evA [(.peek 3), (.peek 6)] (ER a0 a1 a2 (M3 o) a4 a5 (.int at_) a7 a8 a9 a10 a11 a12 a13) = .ok [M3 o, .int at_] (ER a0 a1 a2 .any a4 a5 .any a7 a8 a9 a10 a11 a12 a13) := evA_peek (d0 := M3 o) rfl (aM3 o) (show evA [(.peek 6)] (ER a0 a1 a2 (M3 o) a4 a5 (.int at_) a7 a8 a9 a10 a11 a12 a13) = .ok [.int at_] (ER a0 a1 a2 (M3 o) a4 a5 .any a7 a8 a9 a10 a11 a12 a13) from rfl) rfl (aM3 o)
  exact mApp_ok P (h3 o)
/-- all pairs with the change are right, if it is asked -/
theorem tr_w {o : Bool} {a0 a1 a2 a4 a7 a9 a11 a12 a13 R : D} {a c : Nat} (l : List Int) (ml : M) (hml : ∀ e, ml e = .ok (.node (.lst true) (dI l)) e) (h1 : 1 ≤ v) (h2 : v ≤ 4) (h3 : 1 ≤ s) (h4 : s ≤ 6) (ha : a < v) (hc : c < v) (aM3 : ∀ o, (M3 o).isAny = false) (hM3 : ∀ o, oIx [M3 o, .int at_] = .ok (bd false v s f) [M3 false, .int at_])
    (hR : R = tabD false (BL v (s - 1)) (rowL false v f)) :
    ∃ o', sIf (mAnd (mApp (op2 (inD false)) [(.peek 5), (.val ml)]) (mNot mWr)) (sRet (mC (.bl false))) sNext (ER a0 a1 a2 (M3 o) a4 (.int t) (.int at_) a7 (bagD [(a : Int), (c : Int)]) a9 R a11 a12 a13) = .nx (ER a0 a1 a2 (M3 o') a4 (.int t) (.int at_) a7 (bagD [(a : Int), (c : Int)]) a9 R a11 a12 a13) := by
  obtain ⟨b, hb⟩ := inD_ints t l
  have aR : R.isAny = false := by rw [hR]; rfl
  have O : op2 (inD false) [.int t, .node (.lst true) (dI l)] = .ok (.bl b) [.int t, .node (.lst true) (dI l)] := by simp only [op2, hb]
  have C : mApp (op2 (inD false)) [(.peek 5), (.val ml)] (ER a0 a1 a2 (M3 o) a4 (.int t) (.int at_) a7 (bagD [(a : Int), (c : Int)]) a9 R a11 a12 a13) = .ok (.bl b) (ER a0 a1 a2 (M3 o) a4 (.int t) (.int at_) a7 (bagD [(a : Int), (c : Int)]) a9 R a11 a12 a13) := mApp_ok (evA_peek (d0 := .int t) rfl rfl (evA_val (hml _) evA_nil) rfl rfl) O
  cases b with
  | false => exact ⟨o, sIf_f (mAnd_f C) rfl⟩
  | true =>
    have W := dfOp_ok (wright_ok (f := f) h1 h2 h3 h4 ha hc) rfl
    rw [← hR] at W
    have X := tr_36 (o := o) (a0 := a0) (a1 := a1) (a2 := a2) (a4 := a4) (a5 := .int t) (a7 := a7) (a8 := bagD [(a : Int), (c : Int)]) (a9 := a9) (a10 := R) (a11 := a11) (a12 := a12) (a13 := a13) aM3 hM3
    have P8 : evA [(.peek 8)] (ER a0 a1 a2 (M3 false) a4 (.int t) (.int at_) a7 (bagD [(a : Int), (c : Int)]) a9 R a11 a12 a13) = .ok [bagD [(a : Int), (c : Int)]] (ER a0 a1 a2 (M3 false) a4 (.int t) (.int at_) a7 .any a9 R a11 a12 a13) := rfl
    have P10 : evA [(.peek 10), (.peek 8)] (ER a0 a1 a2 (M3 false) a4 (.int t) (.int at_) a7 (bagD [(a : Int), (c : Int)]) a9 R a11 a12 a13) = .ok [R, bagD [(a : Int), (c : Int)]] (ER a0 a1 a2 (M3 false) a4 (.int t) (.int at_) a7 .any a9 .any a11 a12 a13) := evA_peek (d0 := R) rfl aR P8 rfl aR
    have Q := mApp_ok (evA_val X P10) W
    exact ⟨false, sIf_f (mAnd_t C (mNot_ok (b := true) Q)) rfl⟩
/-- a match is right -/
theorem tr_m {o : Bool} {a0 a1 a2 a4 a5 a7 a8 a9 a11 a12 a13 R : D} {b c : List Int} {o3 o4 : Opd} (h1 : 1 ≤ v) (h2 : v ≤ 4) (h3 : 1 ≤ s) (h4 : s ≤ 6) (hb : b ∈ BL v (s - 1)) (hc : c ∈ BL v (s - 1)) (aM3 : ∀ o, (M3 o).isAny = false) (hM3 : ∀ o, oIx [M3 o, .int at_] = .ok (bd false v s f) [M3 false, .int at_])
    (hR : R = tabD false (BL v (s - 1)) (rowL false v f)) {e1 : Env} (hev : evA [(.peek 10), o3, o4] (ER a0 a1 a2 (M3 false) a4 a5 (.int at_) a7 a8 a9 R a11 a12 a13) = .ok [R, bagD b, bagD c] e1) (hput : ∀ z, putA [(.val m36), (.peek 10), o3, o4] [z, R, bagD b, bagD c] e1 = ER a0 a1 a2 (M3 false) a4 a5 (.int at_) a7 a8 a9 R a11 a12 a13) :
    sIf (mNot (mApp (dfOp op__law_match_right []) [(.val m36), (.peek 10), o3, o4])) (sRet (mC (.bl false))) sNext (ER a0 a1 a2 (M3 o) a4 a5 (.int at_) a7 a8 a9 R a11 a12 a13) = .nx (ER a0 a1 a2 (M3 false) a4 a5 (.int at_) a7 a8 a9 R a11 a12 a13) := by
  have W := dfOp_ok (mright_ok (f := f) h1 h2 h3 h4 hb hc) rfl
  rw [← hR] at W
  have X := tr_36 (o := o) (a0 := a0) (a1 := a1) (a2 := a2) (a4 := a4) (a5 := a5) (a7 := a7) (a8 := a8) (a9 := a9) (a10 := R) (a11 := a11) (a12 := a12) (a13 := a13) aM3 hM3
  have Q := mApp_ok (evA_val X hev) W
  rw [hput] at Q
  exact sIf_f (mNot_ok (b := true) Q) rfl
abbrev bTr : S := (sSeq (sAsg (.nm 6) (mApp oMod [(.val (mVar 5)), (.val (mC (.int 2)))])) (sSeq (sPar [10, 11] [(.val (mApp oIx [(.peek 4), (.peek 6)])), (.val (mApp oIx [(.val (mApp oIx [(.peek 2), (.peek 6)])), (.val (mC (.int 0)))]))]) (sSeq (sIf (mAnd (mApp (oGt) [(.peek 5), (.val (mC (.int 3)))]) (mApp (oGt) [(.val (mApp oLen [(.val (mApp oIx [(.val (mApp oIx [(.peek 2), (.peek 6)])), (.val (mC (.int 2)))]))])), (.val (mC (.int 20)))])) sCnt sNext) (sSeq (sAsg (.nm 7) (mApp oListT [(.peek 10)])) (sSeq (sPar [12, 13] [(.val (mApp oIx [(.peek 7), (.val (mTk (.val (mApp oLen [(.peek 7)]))))])), (.val (mApp oIx [(.peek 7), (.val (mTk (.val (mApp oLen [(.peek 7)]))))]))]) (sSeq (sAsg (.nm 8) (mApp oTup [(.val (mTk (.peek 11))), (.val (mTk (.peek 11)))])) (sSeq (sIf (mAnd (mApp (op2 (inD false)) [(.peek 5), (.val (mApp oLst [(.val (mC (.int 1))), (.val (mC (.int 3))), (.val (mC (.int 5)))]))]) (mNot mWr)) (sRet (mC (.bl false))) sNext) (sSeq (sIf (mNot (mApp (dfOp op__law_match_right []) [(.val m36), (.peek 10), (.peek 12), (.val (mIf (mApp (oGt) [(.peek 5), (.val (mC (.int 5)))]) (mVar 12) (mVar 13)))])) (sRet (mC (.bl false))) sNext) (sSeq (sIf (mNot (mApp (dfOp op__law_match_right []) [(.val m36), (.peek 10), (.peek 13), (.peek 12)])) (sRet (mC (.bl false))) sNext) (sIf (mAnd (mApp (op2 (inD false)) [(.peek 5), (.val (mApp oLst [(.val (mC (.int 0))), (.val (mC (.int 2))), (.val (mC (.int 4)))]))]) (mNot mWr)) (sRet (mC (.bl false))) sNext))))))))))
/-- what holds between two turns -/
def RI (k : Nat) (many Bs : D) (M3 M4 : Bool → D) (e : Env) : Prop := ∃ d o3 o4 z5 z6 z7 z8 z10 z11 z12 z13, e = ER d many Bs (M3 o3) (M4 o4) z5 z6 z7 z8 .any z10 z11 z12 z13 ∧ Bx k d
theorem turn_ok {o3 o4 : Bool} {z6 z7 z8 z10 z11 z12 z13 : D} (h : Bx k d) (hk : k + 100 < 1000000) (h1 : 1 ≤ v) (h2 : v ≤ 4) (h3 : 1 ≤ s) (h4 : s ≤ 6) (hat : t.fmod 2 = at_)
    (aM3 : ∀ o, (M3 o).isAny = false) (aM4 : ∀ o, (M4 o).isAny = false) (aBs : Bs.isAny = false)
    (hM3 : ∀ o, oIx [M3 o, .int at_] = .ok (bd false v s f) [M3 false, .int at_]) (hM4 : ∀ o, oIx [M4 o, .int at_] = .ok (tabD false (BL v (s - 1)) (rowL false v f)) [M4 false, .int at_]) (hBs : oIx [Bs, .int at_] = .ok (lb v s f) [Bs, .int at_]) :
    ∃ e', (bTr (ER d many Bs (M3 o3) (M4 o4) (.int t) z6 z7 z8 .any z10 z11 z12 z13) = .nx e' ∨ bTr (ER d many Bs (M3 o3) (M4 o4) (.int t) z6 z7 z8 .any z10 z11 z12 z13) = .ct e') ∧ RI (k + 4) many Bs M3 M4 e' := by
  generalize hR : tabD false (BL v (s - 1)) (rowL false v f) = R at hM4
  have aR : R.isAny = false := by rw [← hR]; rfl
  obtain ⟨n0, n1⟩ := BL_len h1 h2 (show s - 1 ≤ 6 by omega)
  -- at, rows and values
  have A1 : sAsg (.nm 6) (mApp oMod [(.val (mVar 5)), (.val (mC (.int 2)))]) (ER d many Bs (M3 o3) (M4 o4) (.int t) z6 z7 z8 .any z10 z11 z12 z13) = .nx (ER d many Bs (M3 o3) (M4 o4) (.int t) (.int at_) z7 z8 .any z10 z11 z12 z13) := by
    have V : mVar 5 (ER d many Bs (M3 o3) (M4 o4) (.int t) z6 z7 z8 .any z10 z11 z12 z13) = .ok (.int t) (ER d many Bs (M3 o3) (M4 o4) (.int t) z6 z7 z8 .any z10 z11 z12 z13) := mVar_s (d := .int t) rfl rfl rfl
    have O : oMod [.int t, .int 2] = .ok (.int at_) [.int t, .int 2] := by
      simp only [op2, onInt, if_pos (show (2 : Int) ≠ 0 by omega), hat]
    exact sAsg_ok (mApp_ok (evA_val V (evA_val (m := mC (.int 2)) rfl evA_nil)) O) rfl
  have P4 : evA [(.peek 4), (.peek 6)] (ER d many Bs (M3 o3) (M4 o4) (.int t) (.int at_) z7 z8 .any z10 z11 z12 z13) = .ok [M4 o4, .int at_] (ER d many Bs (M3 o3) .any (.int t) .any z7 z8 .any z10 z11 z12 z13) := evA_peek (d0 := M4 o4) rfl (aM4 o4) (show evA [(.peek 6)] (ER d many Bs (M3 o3) (M4 o4) (.int t) (.int at_) z7 z8 .any z10 z11 z12 z13) = .ok [.int at_] (ER d many Bs (M3 o3) (M4 o4) (.int t) .any z7 z8 .any z10 z11 z12 z13) from rfl) rfl (aM4 o4)
  have Q4 := mApp_ok P4 (hM4 o4)
  have X2 : ∀ a10 a11 a12 a13 : D, mApp oIx [(.peek 2), (.peek 6)] (ER d many Bs (M3 o3) (M4 false) (.int t) (.int at_) z7 z8 .any a10 a11 a12 a13) = .ok (lb v s f) (ER d many Bs (M3 o3) (M4 false) (.int t) (.int at_) z7 z8 .any a10 a11 a12 a13) := fun a10 a11 a12 a13 =>
    mApp_ok (evA_peek (d0 := Bs) rfl aBs (show evA [(.peek 6)] (ER d many Bs (M3 o3) (M4 false) (.int t) (.int at_) z7 z8 .any a10 a11 a12 a13) = .ok [.int at_] (ER d many Bs (M3 o3) (M4 false) (.int t) .any z7 z8 .any a10 a11 a12 a13) from rfl) rfl aBs) hBs
  have Q5 := mApp_ok (evA_val (X2 z10 z11 z12 z13) (evA_val (m := mC (.int 0)) rfl evA_nil)) (lb0 v s f)
  have A2 : sPar [10, 11] [(.val (mApp oIx [(.peek 4), (.peek 6)])), (.val (mApp oIx [(.val (mApp oIx [(.peek 2), (.peek 6)])), (.val (mC (.int 0)))]))] (ER d many Bs (M3 o3) (M4 o4) (.int t) (.int at_) z7 z8 .any z10 z11 z12 z13) = .nx (ER d many Bs (M3 o3) (M4 false) (.int t) (.int at_) z7 z8 .any R (.int v) z12 z13) := sPar_ok (evA_val Q4 (evA_val Q5 evA_nil)) rfl
  -- whether it goes on
  have G1 : mApp oGt [(.peek 5), (.val (mC (.int 3)))] (ER d many Bs (M3 o3) (M4 false) (.int t) (.int at_) z7 z8 .any R (.int v) z12 z13) = .ok (.bl (decide (3 < t))) (ER d many Bs (M3 o3) (M4 false) (.int t) (.int at_) z7 z8 .any R (.int v) z12 z13) := mApp_ok (f := oGt) (evA_peek (d0 := .int t) rfl rfl (evA_val (m := mC (.int 3)) rfl evA_nil) rfl rfl) (gt_ok t 3)
  have G2 : ∃ b, mApp oGt [(.val (mApp oLen [(.val (mApp oIx [(.val (mApp oIx [(.peek 2), (.peek 6)])), (.val (mC (.int 2)))]))])), (.val (mC (.int 20)))] (ER d many Bs (M3 o3) (M4 false) (.int t) (.int at_) z7 z8 .any R (.int v) z12 z13) = .ok (.bl b) (ER d many Bs (M3 o3) (M4 false) (.int t) (.int at_) z7 z8 .any R (.int v) z12 z13) := by
    have Q6 := mApp_ok (evA_val (X2 R (.int v) z12 z13) (evA_val (m := mC (.int 2)) rfl evA_nil)) (lb2 v s f)
    have Q7 := mApp_v1 Q6 (len_node (α := Nat) (.lst false) _ _ rfl)
    generalize ((dI ((BL v s).map f)).length : Int) = n at Q7
    exact ⟨decide (20 < n), mApp_ok (f := oGt) (evA_val Q7 (evA_val (m := mC (.int 20)) rfl evA_nil)) (gt_ok n 20)⟩
  obtain ⟨gb, G2⟩ := G2
  have GC : ∃ b, mAnd (mApp oGt [(.peek 5), (.val (mC (.int 3)))]) (mApp oGt [(.val (mApp oLen [(.val (mApp oIx [(.val (mApp oIx [(.peek 2), (.peek 6)])), (.val (mC (.int 2)))]))])), (.val (mC (.int 20)))]) (ER d many Bs (M3 o3) (M4 false) (.int t) (.int at_) z7 z8 .any R (.int v) z12 z13) = .ok (.bl b) (ER d many Bs (M3 o3) (M4 false) (.int t) (.int at_) z7 z8 .any R (.int v) z12 z13) := by
    by_cases ht : 3 < t
    · rw [decide_eq_true ht] at G1
      exact ⟨gb, mAnd_t G1 G2⟩
    · rw [decide_eq_false ht] at G1
      exact ⟨false, mAnd_f G1⟩
  obtain ⟨cb, GC⟩ := GC
  cases cb with
  | true =>
    refine ⟨_, Or.inr (sSeq_nx A1 (sSeq_nx A2 (sSeq_ct (sIf_t GC rfl)))), d, o3, false, .int t, .int at_, z7, z8, R, .int v, z12, z13, rfl, h.mono (by omega)⟩
  | false =>
    have S3 : sIf (mAnd (mApp oGt [(.peek 5), (.val (mC (.int 3)))]) (mApp oGt [(.val (mApp oLen [(.val (mApp oIx [(.val (mApp oIx [(.peek 2), (.peek 6)])), (.val (mC (.int 2)))]))])), (.val (mC (.int 20)))])) sCnt sNext (ER d many Bs (M3 o3) (M4 false) (.int t) (.int at_) z7 z8 .any R (.int v) z12 z13) = .nx (ER d many Bs (M3 o3) (M4 false) (.int t) (.int at_) z7 z8 .any R (.int v) z12 z13) := sIf_f GC rfl
    -- the short bags
    have LT : oListT [R] = .ok (.node (.lst true) ((BL v (s - 1)).map bagD)) [R] := by
      rw [← hR]
      simp only [oListT, keys_bags]
    have P10 : evA [(.peek 10)] (ER d many Bs (M3 o3) (M4 false) (.int t) (.int at_) z7 z8 .any R (.int v) z12 z13) = .ok [R] (ER d many Bs (M3 o3) (M4 false) (.int t) (.int at_) z7 z8 .any .any (.int v) z12 z13) := evA_peek (d0 := R) rfl aR evA_nil rfl aR
    have A4 : sAsg (.nm 7) (mApp oListT [(.peek 10)]) (ER d many Bs (M3 o3) (M4 false) (.int t) (.int at_) z7 z8 .any R (.int v) z12 z13) = .nx (ER d many Bs (M3 o3) (M4 false) (.int t) (.int at_) (.node (.lst true) ((BL v (s - 1)).map bagD)) z8 .any R (.int v) z12 z13) := sAsg_ok (mApp_ok P10 LT) rfl
    generalize hbs : BL v (s - 1) = bs at A4 n0 n1
    have LN : ∀ d', mApp oLen [(.peek 7)] (ER d' many Bs (M3 o3) (M4 false) (.int t) (.int at_) (.node (.lst true) (bs.map bagD)) z8 .any R (.int v) z12 z13) = .ok (.int bs.length) (ER d' many Bs (M3 o3) (M4 false) (.int t) (.int at_) (.node (.lst true) (bs.map bagD)) z8 .any R (.int v) z12 z13) := fun d' => by
      have O := len_node (α := Nat) (.lst true) (bs.map bagD) (bs.map bagD) rfl
      rw [List.length_map] at O
      exact mApp_ok (show evA [(.peek 7)] (ER d' many Bs (M3 o3) (M4 false) (.int t) (.int at_) (.node (.lst true) (bs.map bagD)) z8 .any R (.int v) z12 z13) = .ok [.node (.lst true) (bs.map bagD)] (ER d' many Bs (M3 o3) (M4 false) (.int t) (.int at_) .any z8 .any R (.int v) z12 z13) from rfl) O
    obtain ⟨r1, d1, e1, p0, p1, b1⟩ := take_m (m := (bs.length : Int)) (rest := [many, Bs, M3 o3, M4 false, .int t, .int at_, .node (.lst true) (bs.map bagD), z8, .any, R, .int v, z12, z13]) h (by omega) (by omega) (by omega) (LN d)
    obtain ⟨r2, d2, e2, q0, q1, b2⟩ := take_m (m := (bs.length : Int)) (rest := [many, Bs, M3 o3, M4 false, .int t, .int at_, .node (.lst true) (bs.map bagD), z8, .any, R, .int v, z12, z13]) b1 (by omega) (by omega) (by omega) (LN d1)
    obtain ⟨x, hx, X⟩ := ix_bag p0 p1
    obtain ⟨y, hy, Y⟩ := ix_bag q0 q1
    have E1 : mApp oIx [(.peek 7), (.val (mTk (.val (mApp oLen [(.peek 7)]))))] (ER d many Bs (M3 o3) (M4 false) (.int t) (.int at_) (.node (.lst true) (bs.map bagD)) z8 .any R (.int v) z12 z13) = .ok (bagD x) (ER d1 many Bs (M3 o3) (M4 false) (.int t) (.int at_) (.node (.lst true) (bs.map bagD)) z8 .any R (.int v) z12 z13) := mApp_ok (evA_peek (d0 := .node (.lst true) (bs.map bagD)) rfl rfl (evA_val e1 evA_nil) rfl rfl) X
    have E2 : mApp oIx [(.peek 7), (.val (mTk (.val (mApp oLen [(.peek 7)]))))] (ER d1 many Bs (M3 o3) (M4 false) (.int t) (.int at_) (.node (.lst true) (bs.map bagD)) z8 .any R (.int v) z12 z13) = .ok (bagD y) (ER d2 many Bs (M3 o3) (M4 false) (.int t) (.int at_) (.node (.lst true) (bs.map bagD)) z8 .any R (.int v) z12 z13) := mApp_ok (evA_peek (d0 := .node (.lst true) (bs.map bagD)) rfl rfl (evA_val e2 evA_nil) rfl rfl) Y
    have A5 : sPar [12, 13] [(.val (mApp oIx [(.peek 7), (.val (mTk (.val (mApp oLen [(.peek 7)]))))])), (.val (mApp oIx [(.peek 7), (.val (mTk (.val (mApp oLen [(.peek 7)]))))]))] (ER d many Bs (M3 o3) (M4 false) (.int t) (.int at_) (.node (.lst true) (bs.map bagD)) z8 .any R (.int v) z12 z13) = .nx (ER d2 many Bs (M3 o3) (M4 false) (.int t) (.int at_) (.node (.lst true) (bs.map bagD)) z8 .any R (.int v) (bagD x) (bagD y)) := sPar_ok (evA_val E1 (evA_val E2 evA_nil)) rfl
    -- the change
    generalize hL : D.node (.lst true) (bs.map bagD) = L7 at A4 A5
    obtain ⟨a, d3, e3, a0, a1, b3⟩ := take_p (m := (v : Int)) (i := 10) (rest := [many, Bs, M3 o3, M4 false, .int t, .int at_, L7, z8, .any, R, .int v, bagD x, bagD y]) b2 (by omega) (by omega) (by omega) rfl
    obtain ⟨c, d4, e4, c0, c1, b4⟩ := take_p (m := (v : Int)) (i := 10) (rest := [many, Bs, M3 o3, M4 false, .int t, .int at_, L7, z8, .any, R, .int v, bagD x, bagD y]) b3 (by omega) (by omega) (by omega) rfl
    obtain ⟨a, rfl⟩ : ∃ n : Nat, a = n := ⟨a.toNat, by omega⟩
    obtain ⟨c, rfl⟩ : ∃ n : Nat, c = n := ⟨c.toNat, by omega⟩
    have T : oTup [.int (a : Int), .int (c : Int)] = .ok (bagD [(a : Int), (c : Int)]) [.any, .any] := rfl
    have A6 : sAsg (.nm 8) (mApp oTup [(.val (mTk (.peek 11))), (.val (mTk (.peek 11)))]) (ER d2 many Bs (M3 o3) (M4 false) (.int t) (.int at_) L7 z8 .any R (.int v) (bagD x) (bagD y)) = .nx (ER d4 many Bs (M3 o3) (M4 false) (.int t) (.int at_) L7 (bagD [(a : Int), (c : Int)]) .any R (.int v) (bagD x) (bagD y)) := sAsg_ok (mApp_ok (evA_val e3 (evA_val e4 evA_nil)) T) rfl
    have ha : a < v := by omega
    have hc : c < v := by omega
    subst hbs
    -- the questions
    obtain ⟨o5, A7⟩ := tr_w (t := t) (at_ := at_) (o := o3) (a0 := d4) (a1 := many) (a2 := Bs) (a4 := M4 false) (a7 := L7) (a9 := .any) (a11 := .int v) (a12 := bagD x) (a13 := bagD y) [1, 3, 5] (mApp oLst [(.val (mC (.int 1))), (.val (mC (.int 3))), (.val (mC (.int 5)))]) (fun e => rfl) h1 h2 h3 h4 ha hc aM3 hM3 hR.symm
    have A8 : sIf (mNot (mApp (dfOp op__law_match_right []) [(.val m36), (.peek 10), (.peek 12), (.val (mIf (mApp (oGt) [(.peek 5), (.val (mC (.int 5)))]) (mVar 12) (mVar 13)))])) (sRet (mC (.bl false))) sNext (ER d4 many Bs (M3 o5) (M4 false) (.int t) (.int at_) L7 (bagD [(a : Int), (c : Int)]) .any R (.int v) (bagD x) (bagD y)) = .nx (ER d4 many Bs (M3 false) (M4 false) (.int t) (.int at_) L7 (bagD [(a : Int), (c : Int)]) .any R (.int v) (bagD x) (bagD y)) := by
      have GG : mApp oGt [(.peek 5), (.val (mC (.int 5)))] (ER d4 many Bs (M3 false) (M4 false) (.int t) (.int at_) L7 (bagD [(a : Int), (c : Int)]) .any R (.int v) (bagD x) (bagD y)) = .ok (.bl (decide (5 < t))) (ER d4 many Bs (M3 false) (M4 false) (.int t) (.int at_) L7 (bagD [(a : Int), (c : Int)]) .any R (.int v) (bagD x) (bagD y)) := mApp_ok (f := oGt) (evA_peek (d0 := .int t) rfl rfl (evA_val (m := mC (.int 5)) rfl evA_nil) rfl rfl) (gt_ok t 5)
      by_cases ht : 5 < t
      · rw [decide_eq_true ht] at GG
        have I := mIf_t (a := mVar 12) (b := mVar 13) GG (mVar_s (i := 12) (d := bagD x) rfl rfl (frz_bag x))
        have R12 : evA [(.peek 12), (.val (mIf (mApp (oGt) [(.peek 5), (.val (mC (.int 5)))]) (mVar 12) (mVar 13)))] (ER d4 many Bs (M3 false) (M4 false) (.int t) (.int at_) L7 (bagD [(a : Int), (c : Int)]) .any R (.int v) (bagD x) (bagD y)) = .ok [bagD x, bagD x] (ER d4 many Bs (M3 false) (M4 false) (.int t) (.int at_) L7 (bagD [(a : Int), (c : Int)]) .any R (.int v) .any (bagD y)) := evA_peek (d0 := bagD x) rfl rfl (evA_val I evA_nil) rfl rfl
        exact tr_m h1 h2 h3 h4 hx hx aM3 hM3 hR.symm (evA_peek (d0 := R) rfl aR R12 rfl aR) (fun z => rfl)
      · rw [decide_eq_false ht] at GG
        have I := mIf_f (a := mVar 12) (b := mVar 13) GG (mVar_s (i := 13) (d := bagD y) rfl rfl (frz_bag y))
        have R12 : evA [(.peek 12), (.val (mIf (mApp (oGt) [(.peek 5), (.val (mC (.int 5)))]) (mVar 12) (mVar 13)))] (ER d4 many Bs (M3 false) (M4 false) (.int t) (.int at_) L7 (bagD [(a : Int), (c : Int)]) .any R (.int v) (bagD x) (bagD y)) = .ok [bagD x, bagD y] (ER d4 many Bs (M3 false) (M4 false) (.int t) (.int at_) L7 (bagD [(a : Int), (c : Int)]) .any R (.int v) .any (bagD y)) := evA_peek (d0 := bagD x) rfl rfl (evA_val I evA_nil) rfl rfl
        exact tr_m h1 h2 h3 h4 hx hy aM3 hM3 hR.symm (evA_peek (d0 := R) rfl aR R12 rfl aR) (fun z => rfl)
    have A9 : sIf (mNot (mApp (dfOp op__law_match_right []) [(.val m36), (.peek 10), (.peek 13), (.peek 12)])) (sRet (mC (.bl false))) sNext (ER d4 many Bs (M3 false) (M4 false) (.int t) (.int at_) L7 (bagD [(a : Int), (c : Int)]) .any R (.int v) (bagD x) (bagD y)) = .nx (ER d4 many Bs (M3 false) (M4 false) (.int t) (.int at_) L7 (bagD [(a : Int), (c : Int)]) .any R (.int v) (bagD x) (bagD y)) := by
      have R12 : evA [(.peek 13), (.peek 12)] (ER d4 many Bs (M3 false) (M4 false) (.int t) (.int at_) L7 (bagD [(a : Int), (c : Int)]) .any R (.int v) (bagD x) (bagD y)) = .ok [bagD y, bagD x] (ER d4 many Bs (M3 false) (M4 false) (.int t) (.int at_) L7 (bagD [(a : Int), (c : Int)]) .any R (.int v) .any .any) := rfl
      exact tr_m h1 h2 h3 h4 hy hx aM3 hM3 hR.symm (evA_peek (d0 := R) rfl aR R12 rfl aR) (fun z => rfl)
    obtain ⟨o6, A10⟩ := tr_w (t := t) (at_ := at_) (o := false) (a0 := d4) (a1 := many) (a2 := Bs) (a4 := M4 false) (a7 := L7) (a9 := .any) (a11 := .int v) (a12 := bagD x) (a13 := bagD y) [0, 2, 4] (mApp oLst [(.val (mC (.int 0))), (.val (mC (.int 2))), (.val (mC (.int 4)))]) (fun e => rfl) h1 h2 h3 h4 ha hc aM3 hM3 hR.symm
    exact ⟨_, Or.inl (sSeq_nx A1 (sSeq_nx A2 (sSeq_nx S3 (sSeq_nx A4 (sSeq_nx A5 (sSeq_nx A6 (sSeq_nx A7 (sSeq_nx A8 (sSeq_nx A9 A10))))))))), d4, o6, false, .int t, .int at_, L7, bagD [(a : Int), (c : Int)], R, .int v, bagD x, bagD y, rfl, b4⟩
end
end Z

set_option Elab.async false
set_option linter.all false
set_option maxRecDepth 100000
set_option maxHeartbeats 4000000
namespace Z
open PySem PySem.Spec PyProof.Rows
open L2 StX

theorem ix_frz {o : Bool} {xs ys : List D} {i : Int} {j : Nat} {c c' : D} (hi : ixN xs.length i = some j) (hx : xs[j]? = some c) (hc : c.isFrz = false) (hf : c.frz = c') (hy : frzL xs = ys) : oIx [.node (.lst o) xs, .int i] = .ok c' [.node (.lst false) ys, .int i] := by
  simp only [oIx, D.seq, hi, hx, hc, Bool.false_eq_true, if_false, hf, frz_node, Tag.frz, hy]
theorem isFrz_own {t : Tag} {xs : List D} (h : t.own = true) : D.isFrz (.node t xs) = false := by
  rw [D.isFrz, h]
  rfl
theorem isFrzL_ints {α : Type} (l : List α) (h : α → Int) : isFrzL (l.map fun a => D.int (h a)) = true := by rw [← int_map, isFrzL_dI]
theorem isFrz_bd (v s : Nat) (f : List Int → Int) : (bd false v s f).isFrz = true := by
  refine isFrz_node rfl ?_
  rw [isFrzL, isFrzL, isFrzL, isFrzL, isFrzL, isFrz_int, isFrz_int, isFrz_node (t := .tup) rfl (isFrzL_dI _), isFrz_node (t := .dt false ((BL v s).map keyI)) rfl (isFrzL_ints _ _)]
  rfl
theorem frz_rowLT (o : Bool) (v : Nat) (f : List Int → Int) (b : List Int) : (rowL o v f b).frz = rowL false v f b := by
  simp only [frz_node, Tag.frz, frzL_dI]
theorem isFrz_rows (v : Nat) (f : List Int → Int) (bs : List (List Int)) : (tabD false bs (rowL false v f)).isFrz = true := isFrz_tab (isFrz_rowL v f)
theorem frz_rows (o : Bool) (v : Nat) (f : List Int → Int) (bs : List (List Int)) : (tabD o bs (rowL o v f)).frz = tabD false bs (rowL false v f) := frz_tab (frz_rowLT o v f)
section
variable (v1 s1 v2 s2 : Nat) (f1 f2 : List Int → Int)
def N3 (o : Bool) : D := .node (.lst o) [bd o v1 s1 f1, bd o v2 s2 f2]
def N4 (o : Bool) : D := .node (.lst o) [tabD o (BL v1 (s1 - 1)) (rowL o v1 f1), tabD o (BL v2 (s2 - 1)) (rowL o v2 f2)]
def NB : D := .node (.lst false) [lb v1 s1 f1, lb v2 s2 f2]
theorem frzL_N3 (o : Bool) : frzL [bd o v1 s1 f1, bd o v2 s2 f2] = [bd false v1 s1 f1, bd false v2 s2 f2] := by
  rw [frzL_cons, frzL_cons, frzL_nil, frz_bd, frz_bd]
theorem frzL_N4 (o : Bool) : frzL [tabD o (BL v1 (s1 - 1)) (rowL o v1 f1), tabD o (BL v2 (s2 - 1)) (rowL o v2 f2)] = [tabD false (BL v1 (s1 - 1)) (rowL false v1 f1), tabD false (BL v2 (s2 - 1)) (rowL false v2 f2)] := by
  rw [frzL_cons, frzL_cons, frzL_nil, frz_rows, frz_rows]
theorem N3_0 (o : Bool) : oIx [N3 v1 s1 v2 s2 f1 f2 o, .int 0] = .ok (bd false v1 s1 f1) [N3 v1 s1 v2 s2 f1 f2 false, .int 0] := by
  cases o with
  | false => exact ix_ok rfl (j := 0) rfl rfl (isFrz_bd _ _ _)
  | true => exact ix_frz (j := 0) rfl rfl (isFrz_own rfl) (frz_bd _ _ _ _) (frzL_N3 ..)
theorem N3_1 (o : Bool) : oIx [N3 v1 s1 v2 s2 f1 f2 o, .int 1] = .ok (bd false v2 s2 f2) [N3 v1 s1 v2 s2 f1 f2 false, .int 1] := by
  cases o with
  | false => exact ix_ok rfl (j := 1) rfl rfl (isFrz_bd _ _ _)
  | true => exact ix_frz (j := 1) rfl rfl (isFrz_own rfl) (frz_bd _ _ _ _) (frzL_N3 ..)
theorem N4_0 (o : Bool) : oIx [N4 v1 s1 v2 s2 f1 f2 o, .int 0] = .ok (tabD false (BL v1 (s1 - 1)) (rowL false v1 f1)) [N4 v1 s1 v2 s2 f1 f2 false, .int 0] := by
  cases o with
  | false => exact ix_ok rfl (j := 0) rfl rfl (isFrz_rows _ _ _)
  | true => exact ix_frz (j := 0) rfl rfl (isFrz_own rfl) (frz_rows _ _ _ _) (frzL_N4 ..)
theorem N4_1 (o : Bool) : oIx [N4 v1 s1 v2 s2 f1 f2 o, .int 1] = .ok (tabD false (BL v2 (s2 - 1)) (rowL false v2 f2)) [N4 v1 s1 v2 s2 f1 f2 false, .int 1] := by
  cases o with
  | false => exact ix_ok rfl (j := 1) rfl rfl (isFrz_rows _ _ _)
  | true => exact ix_frz (j := 1) rfl rfl (isFrz_own rfl) (frz_rows _ _ _ _) (frzL_N4 ..)
theorem isFrz_lb (v s : Nat) (f : List Int → Int) : (lb v s f).isFrz = true := by
  refine isFrz_node rfl ?_
  rw [isFrzL, isFrzL, isFrzL, isFrzL, isFrz_int, isFrz_int, isFrz_node (t := .lst false) rfl (isFrzL_dI _)]
  rfl
theorem NB_0 : oIx [NB v1 s1 v2 s2 f1 f2, .int 0] = .ok (lb v1 s1 f1) [NB v1 s1 v2 s2 f1 f2, .int 0] := ix_ok rfl (j := 0) rfl rfl (isFrz_lb _ _ _)
theorem NB_1 : oIx [NB v1 s1 v2 s2 f1 f2, .int 1] = .ok (lb v2 s2 f2) [NB v1 s1 v2 s2 f1 f2, .int 1] := ix_ok rfl (j := 1) rfl rfl (isFrz_lb _ _ _)
theorem frzL_NB : frzL [lb v1 s1 f1, lb v2 s2 f2] = [lb v1 s1 f1, lb v2 s2 f2] := frzL_id (by
  rw [isFrzL, isFrzL, isFrzL, isFrz_lb, isFrz_lb]
  rfl)
theorem frz_NB : (NB v1 s1 v2 s2 f1 f2).frz = NB v1 s1 v2 s2 f1 f2 := by
  unfold NB
  rw [frz_node, frzL_NB]
  rfl
end
theorem mLc_two {src : Src} {t : Tgt} {m : M} {vs : List Nat} {env e e0 e1 e2 e3 e4 e5 e6 e7 : Env} {x y r1 r2 : D} (hs : src env = .ok [x, y] e) (h0 : anyAll vs e = e0) (g1 : asg t x e0 = some e1) (m1 : m e1 = .ok r1 e2) (a1 : anyAll vs e2 = e3) (g2 : asg t y e3 = some e4) (m2 : m e4 = .ok r2 e5) (a2 : anyAll vs e5 = e6) (hm : mrg (own? vs) e e6 = e7) :
    mLc src t none m vs env = .ok (.node (.lst true) [r1, r2]) e7 := by
  have L : loopC t none m vs [x, y] [] e0 = some ([r1, r2], e6) := loopC_t (none_c _) g1 m1 (by simp) a1 (loopC_t (none_c _) g2 m2 (by simp) a2 rfl)
  simp only [mLc, hs, h0, L, hm]
theorem eq_lists (S1 S2 : List Int) : op2 (eqD false) [.node (.lst true) [.node (.lst true) (dI S1), .node (.lst true) (dI S2)], .node (.lst true) [.node (.lst false) (dI S1), .node (.lst false) (dI S2)]] = .ok (.bl true) [.node (.lst true) [.node (.lst true) (dI S1), .node (.lst true) (dI S2)], .node (.lst true) [.node (.lst false) (dI S1), .node (.lst false) (dI S2)]] := by
  have p : ∀ (o : Bool) (S : List Int), D.py (.node (.lst o) (dI S)) = some (.list (S.map .int)) := fun o S => by
    rw [D.py, pyL_dI]
    rfl
  have q : ∀ (o o' : Bool), D.py (.node (.lst o) [.node (.lst o') (dI S1), .node (.lst o') (dI S2)]) = some (.list [.list (S1.map .int), .list (S2.map .int)]) := fun o o' => by
    rw [D.py, pyL, p, pyL, p, pyL]
    rfl
  have c : ∀ S : List Int, PyData.canLay0 (.list (S.map .int)) = true := fun S => by
    rw [PyData.canLay0, can_ints]
  have dd : ∀ S : List Int, PyData.depth (.list (S.map .int)) = 1 := fun S => by
    rw [PyData.depth, dep_ints]
  have cc : PyData.canLay0 (.list [.list (S1.map .int), .list (S2.map .int)]) = true := by
    rw [PyData.canLay0, PyData.canLayAll0, PyData.canLayAll0, PyData.canLayAll0, c, c]
    rfl
  have sh : SeqAt.shaped (.list [.list (S1.map .int), .list (S2.map .int)]) = true := by
    rw [SeqAt.shaped, cc, PyData.depth, PyData.depthAll, PyData.depthAll, PyData.depthAll, dd, dd]
    rfl
  have E : eqD false (.node (.lst true) [.node (.lst true) (dI S1), .node (.lst true) (dI S2)]) (.node (.lst true) [.node (.lst false) (dI S1), .node (.lst false) (dI S2)]) = some (.bl true) := by
    simp only [eqD, q]
    rw [if_pos ⟨sh, sh⟩, SeqAt.eqv_refl _ cc]
    rfl
  simp only [op2, E]
theorem right_ok {k : Nat} {m : Int} {d : D} (h : Bx k d) (hk : k + 1000 < 1000000) (hm : 0 < m) (hm2 : m ≤ 6) : ∃ d', op__law_right [d, .int m] = .ok (.bl true) [d', .int m] := by
  obtain ⟨v1, s1, f1, d1, B1, x1, x2, x3, x4, b1⟩ := board_ok h (by omega) hm hm2
  obtain ⟨v2, s2, f2, d2, B2, y1, y2, y3, y4, b2⟩ := board_ok (m := 4) b1 (by omega) (by omega) (by omega)
  have P1 : evA [(.peek 0), (.peek 1)] (ER d (.int m) .any .any .any .any .any .any .any .any .any .any .any .any) = .ok [d, .int m] (ER .any .any .any .any .any .any .any .any .any .any .any .any .any .any) := evA_peek (d0 := d) rfl h.nany (show evA [(.peek 1)] (ER d (.int m) .any .any .any .any .any .any .any .any .any .any .any .any) = .ok [.int m] (ER d .any .any .any .any .any .any .any .any .any .any .any .any .any) from rfl) rfl h.nany
  have P2 : evA [(.peek 0), (.val (mC (.int 4)))] (ER d1 (.int m) .any .any .any .any .any .any .any .any .any .any .any .any) = .ok [d1, .int 4] (ER .any (.int m) .any .any .any .any .any .any .any .any .any .any .any .any) := evA_peek (d0 := d1) rfl b1.nany (evA_val (m := mC (.int 4)) rfl evA_nil) rfl b1.nany
  have Q1 := mApp_ok P1 (dfOp_ok B1 rfl)
  have Q2 := mApp_ok P2 (dfOp_ok B2 rfl)
  have O1 : ∀ p q : D, oLst [p, q] = .ok (.node (.lst true) [p, q]) [.any, .any] := fun p q => rfl
  have A1 : sAsg (.nm 2) (mApp oLst [(.val (mApp (dfOp op__law_board []) [(.peek 0), (.peek 1)])), (.val (mApp (dfOp op__law_board []) [(.peek 0), (.val (mC (.int 4)))]))]) (ER d (.int m) .any .any .any .any .any .any .any .any .any .any .any .any) = .nx (ER d2 (.int m) (.node (.lst true) [.node (.lst true) [.int v1, .int s1, .node (.lst true) (dI ((BL v1 s1).map f1))], .node (.lst true) [.int v2, .int s2, .node (.lst true) (dI ((BL v2 s2).map f2))]]) .any .any .any .any .any .any .any .any .any .any .any) := sAsg_ok (mApp_ok (evA_val Q1 (evA_val Q2 evA_nil)) (O1 _ _)) rfl
  -- the boards as they lie
  have V1 : mVar 2 (ER d2 (.int m) (.node (.lst true) [.node (.lst true) [.int v1, .int s1, .node (.lst true) (dI ((BL v1 s1).map f1))], .node (.lst true) [.int v2, .int s2, .node (.lst true) (dI ((BL v2 s2).map f2))]]) .any .any .any .any .any .any .any .any .any .any .any) = .ok (NB v1 s1 v2 s2 f1 f2) (ER d2 (.int m) (NB v1 s1 v2 s2 f1 f2) .any .any .any .any .any .any .any .any .any .any .any) := by
    simp only [mVar, List.getElem?_cons_zero, List.getElem?_cons_succ, frz_node, Tag.frz, frzL_cons, frzL_nil, frz_int, frzL_dI, List.set_cons_zero, List.set_cons_succ]
    rfl
  have I1 := iSeq_ok V1 rfl (frzL_NB v1 s1 v2 s2 f1 f2)
  have V2 : ∀ a3 a4 a5 a6 a7 a8 a10 a11 a12 a13 dd : D, mVar 2 (ER dd (.int m) (NB v1 s1 v2 s2 f1 f2) a3 a4 a5 a6 a7 a8 .any a10 a11 a12 a13) = .ok (NB v1 s1 v2 s2 f1 f2) (ER dd (.int m) (NB v1 s1 v2 s2 f1 f2) a3 a4 a5 a6 a7 a8 .any a10 a11 a12 a13) := fun _ _ _ _ _ _ _ _ _ _ _ => mVar_s (d := NB v1 s1 v2 s2 f1 f2) rfl rfl (frz_NB ..)
  have MD1 := dfOp_ok (made_ok (f := f1) x1 x2 x3 x4) rfl
  have MD2 := dfOp_ok (made_ok (f := f2) y1 y2 y3 y4) rfl
  have LR1 := dfOp_ok (lrows_ok (f := f1) x1 x2 x3 x4) rfl
  have LR2 := dfOp_ok (lrows_ok (f := f2) y1 y2 y3 y4) rfl
  have aL1 : (lb v1 s1 f1).isAny = false := rfl
  have aL2 : (lb v2 s2 f2).isAny = false := rfl
  have P9 : ∀ (x a2 a3 a4 : D), x.isAny = false → evA [(.peek 9)] (ER d2 (.int m) a2 a3 a4 .any .any .any .any x .any .any .any .any) = .ok [x] (ER d2 (.int m) a2 a3 a4 .any .any .any .any .any .any .any .any .any) := fun x a2 a3 a4 hx => evA_peek (d0 := x) rfl hx evA_nil rfl hx
  have A2 := sAsg_ok (t := .nm 3) (mLc_two (t := .nm 9) (m := mApp (dfOp op__law_made []) [(.peek 9)]) (vs := [9]) I1 rfl rfl (mApp_ok (P9 (lb v1 s1 f1) _ _ _ aL1) MD1) rfl rfl (mApp_ok (P9 (lb v2 s2 f2) _ _ _ aL2) MD2) rfl rfl) rfl
  have I2 := iSeq_ok (V2 (N3 v1 s1 v2 s2 f1 f2 true) .any .any .any .any .any .any .any .any .any d2) rfl (frzL_NB v1 s1 v2 s2 f1 f2)
  have A3 := sAsg_ok (t := .nm 4) (mLc_two (t := .nm 9) (m := mApp (dfOp op__law_rows []) [(.peek 9)]) (vs := [9]) I2 rfl rfl (mApp_ok (P9 (lb v1 s1 f1) _ _ _ aL1) LR1) rfl rfl (mApp_ok (P9 (lb v2 s2 f2) _ _ _ aL2) LR2) rfl rfl) rfl
  -- eight turns
  have sr : iRng [.val (mC (.int 8))] (ER d2 (.int m) (NB v1 s1 v2 s2 f1 f2) (N3 v1 s1 v2 s2 f1 f2 true) (N4 v1 s1 v2 s2 f1 f2 true) .any .any .any .any .any .any .any .any .any) = .ok ((List.range 8).map fun k : Nat => D.int (k : Int)) (ER d2 (.int m) (NB v1 s1 v2 s2 f1 f2) (N3 v1 s1 v2 s2 f1 f2 true) (N4 v1 s1 v2 s2 f1 f2 true) .any .any .any .any .any .any .any .any .any) := iRng_nat (n := 8) rfl (by omega)
  have L := loopS_all (α := Nat) (t := .nm 5) (tof := fun k : Nat => D.int (k : Int)) (b := bTr) (P := fun ys e => RI (k + 200 + 200 + 4 * ys.length) (.int m) (NB v1 s1 v2 s2 f1 f2) (N3 v1 s1 v2 s2 f1 f2) (N4 v1 s1 v2 s2 f1 f2) e) (List.range 8) (List.range 8) [] (ER d2 (.int m) (NB v1 s1 v2 s2 f1 f2) (N3 v1 s1 v2 s2 f1 f2 true) (N4 v1 s1 v2 s2 f1 f2 true) .any .any .any .any .any .any .any .any .any) rfl
    (fun ys x zs e hx ⟨dd, o3, o4, z5, z6, z7, z8, z10, z11, z12, z13, he, hb⟩ => by
      subst he
      obtain ⟨rfl, hlt⟩ := range_at hx
      have TT : ∃ e', (bTr (ER dd (.int m) (NB v1 s1 v2 s2 f1 f2) (N3 v1 s1 v2 s2 f1 f2 o3) (N4 v1 s1 v2 s2 f1 f2 o4) (.int (ys.length : Int)) z6 z7 z8 .any z10 z11 z12 z13) = .nx e' ∨ bTr (ER dd (.int m) (NB v1 s1 v2 s2 f1 f2) (N3 v1 s1 v2 s2 f1 f2 o3) (N4 v1 s1 v2 s2 f1 f2 o4) (.int (ys.length : Int)) z6 z7 z8 .any z10 z11 z12 z13) = .ct e') ∧ RI (k + 200 + 200 + 4 * ys.length + 4) (.int m) (NB v1 s1 v2 s2 f1 f2) (N3 v1 s1 v2 s2 f1 f2) (N4 v1 s1 v2 s2 f1 f2) e' := by
        have hmod : (ys.length : Int).fmod 2 = 0 ∨ (ys.length : Int).fmod 2 = 1 := by
          have h0 := fmod_nn (a := (ys.length : Int)) (m := 2) (by omega)
          have h1 := fmod_lt (a := (ys.length : Int)) (m := 2) (by omega)
          omega
        rcases hmod with hmod | hmod
        · exact turn_ok hb (by omega) x1 x2 x3 x4 hmod (fun o => rfl) (fun o => rfl) rfl (N3_0 v1 s1 v2 s2 f1 f2) (N4_0 v1 s1 v2 s2 f1 f2) (NB_0 ..)
        · exact turn_ok hb (by omega) y1 y2 y3 y4 hmod (fun o => rfl) (fun o => rfl) rfl (N3_1 v1 s1 v2 s2 f1 f2) (N4_1 v1 s1 v2 s2 f1 f2) (NB_1 ..)
      obtain ⟨e', T1, T2⟩ := TT
      refine ⟨_, e', rfl, T1, ?_⟩
      have e1 : k + 200 + 200 + 4 * (ys ++ [ys.length]).length = k + 200 + 200 + 4 * ys.length + 4 := by simp; omega
      rw [e1]
      exact T2)
    ⟨d2, true, true, .any, .any, .any, .any, .any, .any, .any, .any, rfl, b2⟩
  obtain ⟨e', L1, dd, o3, o4, z5, z6, z7, z8, z10, z11, z12, z13, rfl, hb⟩ := L
  -- the signs as they were
  have V3 : mVar 3 (ER dd (.int m) (NB v1 s1 v2 s2 f1 f2) (N3 v1 s1 v2 s2 f1 f2 o3) (N4 v1 s1 v2 s2 f1 f2 o4) z5 z6 z7 z8 .any z10 z11 z12 z13) = .ok (N3 v1 s1 v2 s2 f1 f2 false) (ER dd (.int m) (NB v1 s1 v2 s2 f1 f2) (N3 v1 s1 v2 s2 f1 f2 false) (N4 v1 s1 v2 s2 f1 f2 o4) z5 z6 z7 z8 .any z10 z11 z12 z13) := by
    simp only [mVar, N3, List.getElem?_cons_zero, List.getElem?_cons_succ, frz_node, Tag.frz, frzL_N3, List.set_cons_zero, List.set_cons_succ]
  have I3 := iSeq_ok V3 rfl (frzL_N3 v1 s1 v2 s2 f1 f2 false)
  have SG : ∀ (v s : Nat) (f : List Int → Int) (a3 : D), mApp oList [(.val (mApp (oFld "Board" "signs") [(.peek 12)]))] (ER dd (.int m) (NB v1 s1 v2 s2 f1 f2) a3 (N4 v1 s1 v2 s2 f1 f2 o4) z5 z6 z7 z8 .any z10 z11 (bd false v s f) z13) = .ok (.node (.lst true) (dI ((BL v s).map f))) (ER dd (.int m) (NB v1 s1 v2 s2 f1 f2) a3 (N4 v1 s1 v2 s2 f1 f2 o4) z5 z6 z7 z8 .any z10 z11 (bd false v s f) z13) := fun v s f a3 => by
    have P : evA [(.peek 12)] (ER dd (.int m) (NB v1 s1 v2 s2 f1 f2) a3 (N4 v1 s1 v2 s2 f1 f2 o4) z5 z6 z7 z8 .any z10 z11 (bd false v s f) z13) = .ok [bd false v s f] (ER dd (.int m) (NB v1 s1 v2 s2 f1 f2) a3 (N4 v1 s1 v2 s2 f1 f2 o4) z5 z6 z7 z8 .any z10 z11 .any z13) := rfl
    exact mApp_v1 (mApp_ok P (fld2 v s f)) (list_tup _)
  have W1 := mLc_two (t := .nm 12) (m := mApp oList [(.val (mApp (oFld "Board" "signs") [(.peek 12)]))]) (vs := [12]) I3 rfl rfl (SG v1 s1 f1 _) rfl rfl (SG v2 s2 f2 _) rfl rfl
  have I4 := iSeq_ok (V2 (N3 v1 s1 v2 s2 f1 f2 false) (N4 v1 s1 v2 s2 f1 f2 o4) z5 z6 z7 z8 z10 z11 z12 z13 dd) rfl (frzL_NB v1 s1 v2 s2 f1 f2)
  have BG : ∀ (v s : Nat) (f : List Int → Int), mApp oIx [(.peek 9), (.val (mC (.int 2)))] (ER dd (.int m) (NB v1 s1 v2 s2 f1 f2) (N3 v1 s1 v2 s2 f1 f2 false) (N4 v1 s1 v2 s2 f1 f2 o4) z5 z6 z7 z8 (lb v s f) z10 z11 z12 z13) = .ok (.node (.lst false) (dI ((BL v s).map f))) (ER dd (.int m) (NB v1 s1 v2 s2 f1 f2) (N3 v1 s1 v2 s2 f1 f2 false) (N4 v1 s1 v2 s2 f1 f2 o4) z5 z6 z7 z8 (lb v s f) z10 z11 z12 z13) := fun v s f => by
    have P : evA [(.peek 9), (.val (mC (.int 2)))] (ER dd (.int m) (NB v1 s1 v2 s2 f1 f2) (N3 v1 s1 v2 s2 f1 f2 false) (N4 v1 s1 v2 s2 f1 f2 o4) z5 z6 z7 z8 (lb v s f) z10 z11 z12 z13) = .ok [lb v s f, .int 2] (ER dd (.int m) (NB v1 s1 v2 s2 f1 f2) (N3 v1 s1 v2 s2 f1 f2 false) (N4 v1 s1 v2 s2 f1 f2 o4) z5 z6 z7 z8 .any z10 z11 z12 z13) := evA_peek (d0 := lb v s f) rfl rfl (evA_val (m := mC (.int 2)) rfl evA_nil) rfl rfl
    exact mApp_ok P (lb2 v s f)
  have W2 := mLc_two (t := .nm 9) (m := mApp oIx [(.peek 9), (.val (mC (.int 2)))]) (vs := [9]) I4 rfl rfl (BG v1 s1 f1) rfl rfl (BG v2 s2 f2) rfl rfl
  have FIN := mApp_ok (evA_val W1 (evA_val W2 evA_nil)) (eq_lists _ _)
  exact ⟨dd, fnOp_rt (r := .bl true) (e := ER dd (.int m) (NB v1 s1 v2 s2 f1 f2) (N3 v1 s1 v2 s2 f1 f2 false) (N4 v1 s1 v2 s2 f1 f2 o4) z5 z6 z7 z8 .any z10 z11 z12 z13) rfl (sSeq_nx A1 (sSeq_nx A2 (sSeq_nx A3 (sSeq_nx (sFor_ok sr L1) (sRet_ok FIN))))) (by simp)⟩
end Z

set_option Elab.async false
set_option linter.all false
set_option maxRecDepth 100000
set_option maxHeartbeats 4000000
namespace Z
open PySem PySem.Spec PyProof.Rows
open L2 StX

/-- the script -/
def scD (l : List Int) : D := .node .scr (dI l)
theorem cell_ok {l : List Int} {k : Nat} (hk : k < 3) : ∃ c : Int, op__law_cell [scD l, .int (k : Int)] = .ok (.int c) [scD l, .int (k : Int)] := by
  have O := len_node (α := Nat) .scr (dI l) (dI l) rfl
  rw [dI_length] at O
  have Q : mApp oLen [(.peek 0)] [scD l, .int (k : Int)] = .ok (.int l.length) [scD l, .int (k : Int)] := mApp_ok (show evA [(.peek 0)] [scD l, .int (k : Int)] = .ok [scD l] [.any, .int (k : Int)] from rfl) O
  have L : oLt [.int (k : Int), .int l.length] = .ok (.bl (decide ((k : Int) < l.length))) [.int (k : Int), .int l.length] := rfl
  have C : mApp oLt [(.peek 1), (.val (mApp oLen [(.peek 0)]))] [scD l, .int (k : Int)] = .ok (.bl (decide ((k : Int) < l.length))) [scD l, .int (k : Int)] := mApp_ok (evA_peek (d0 := .int (k : Int)) rfl rfl (evA_val Q evA_nil) rfl rfl) L
  by_cases h : (k : Int) < l.length
  · rw [decide_eq_true h] at C
    have I := ix_int (t := .scr) (l := l) (x := (k : Int)) rfl (by omega) h
    have P : evA [(.peek 0), (.peek 1)] [scD l, .int (k : Int)] = .ok [scD l, .int (k : Int)] [.any, .any] := rfl
    exact ⟨_, fnOp_rt (e := [scD l, .int (k : Int)]) rfl (sRet_ok (mIf_t C (mApp_ok P I))) (by simp)⟩
  · rw [decide_eq_false h] at C
    have V0 : mVar 0 [scD l, .int (k : Int)] = .ok (scD l) [scD l, .int (k : Int)] := mVar_s (d := scD l) rfl rfl (frz_id (isFrz_node rfl (isFrzL_dI l)))
    have SL : ∃ l', slD (scD l) none (some 1) = some (.node (.lst true) (dI l')) := by
      refine ⟨(l.drop 0).take (HT.sIx (dI l).length (dI l).length (some 1) - 0), ?_⟩
      show some (D.node (.lst true) (cutD (frzL (dI l)) none (some 1))) = _
      rw [frzL_dI]
      simp only [cutD, dI, List.map_take, List.map_drop, HT.sIx_none]
    obtain ⟨l', SL⟩ := SL
    have M := mSlice_to (hi := mC (.int 1)) V0 rfl SL
    have SU := mApp_v1 M (sum_ok true l')
    have O1 : oMod [.int l'.sum, .int 1000081] = .ok (.int (l'.sum.fmod 1000081)) [.int l'.sum, .int 1000081] := by
      simp only [op2, onInt, if_pos (show (1000081 : Int) ≠ 0 by omega)]
    have M2 := mApp_ok (evA_val SU (evA_val (m := mC (.int 1000081)) rfl evA_nil)) O1
    have V1 : mVar 1 [scD l, .int (k : Int)] = .ok (.int (k : Int)) [scD l, .int (k : Int)] := mVar_s (d := .int (k : Int)) rfl rfl rfl
    have c : CMul 5003 (k : Int) := CMul_l (by omega) (by omega)
    have O2 : oMul [.int 5003, .int (k : Int)] = .ok (.int (5003 * (k : Int))) [.int 5003, .int (k : Int)] := by
      simp only [op2, onInt, if_pos c]
    have M3 := mApp_ok (evA_val (m := mC (.int 5003)) rfl (evA_val V1 evA_nil)) O2
    have O3 : oAdd [.int (5003 * (k : Int)), .int (l'.sum.fmod 1000081)] = .ok (.int (5003 * (k : Int) + l'.sum.fmod 1000081)) [.int (5003 * (k : Int)), .int (l'.sum.fmod 1000081)] := rfl
    have M4 := mApp_ok (evA_val M3 (evA_val M2 evA_nil)) O3
    exact ⟨_, fnOp_rt (e := [scD l, .int (k : Int)]) rfl (sRet_ok (mIf_f C M4)) (by simp)⟩
theorem box_ok (c : Int) : ∃ d, op__law_box [.int c] = .ok d [.int c] ∧ Bx 0 d := by
  have A : mApp oAbs [(.peek 0)] [.int c] = .ok (.int (if c < 0 then -c else c)) [.int c] := rfl
  have h0 : 0 ≤ (if c < 0 then -c else c) := by split <;> omega
  generalize (if c < 0 then -c else c) = a at A h0
  have P1 : mApp oPow [(.val (mC (.int 10))), (.val (mC (.int 18)))] [.int c] = .ok (.int 1000000000000000000) [.int c] := mApp_ok (evA_val (m := mC (.int 10)) rfl (evA_val (m := mC (.int 18)) rfl evA_nil)) pow18
  have O1 : oGe [.int a, .int 1000000000000000000] = .ok (.bl (decide ((1000000000000000000 : Int) ≤ a))) [.int a, .int 1000000000000000000] := rfl
  have M1 := mApp_ok (evA_val A (evA_val P1 evA_nil)) O1
  have O2 : op1 intOf [.int a] = .ok (.int a) [.int a] := rfl
  have M2 := mApp_v1 A O2
  have O3 : oMod [.int a, .int 2147483629] = .ok (.int (a.fmod 2147483629)) [.int a, .int 2147483629] := by
    simp only [op2, onInt, if_pos (show (2147483629 : Int) ≠ 0 by omega)]
  have M3 := mApp_ok (evA_val M2 (evA_val (m := mC (.int 2147483629)) rfl evA_nil)) O3
  have O4 : ∀ p q r s : D, oLst [p, q, r, s] = .ok (.node (.lst true) [p, q, r, s]) [.any, .any, .any, .any] := fun _ _ _ _ => rfl
  have M4 := mApp_ok (evA_val A (evA_val M1 (evA_val M3 (evA_val (m := mC (.int 0)) rfl evA_nil)))) (O4 _ _ _ _)
  have f0 := fmod_nn (a := a) (m := 2147483629) (by omega)
  have f1 := fmod_lt (a := a) (m := 2147483629) (by omega)
  exact ⟨_, fnOp_rt (e := [.int c]) rfl (sRet_ok M4) (by simp), _, _, _, _, rfl, h0, f0, by omega, by omega, by omega⟩
abbrev bLaw : S := (sIf (mNot (mApp (dfOp op__law_right []) [(.val (mApp (dfOp op__law_box []) [(.val (mApp (dfOp op__law_cell []) [(.peek 0), (.peek 1)]))])), (.val (mApp oIx [(.val (mApp oLst [(.val (mC (.int 6))), (.val (mC (.int 4)))])), (.val (mApp oMin2 [(.val (mC (.int 1))), (.peek 1)]))]))])) (sRet (mC (.bl false))) sNext)
theorem once_ok {l : List Int} {k : Nat} (hk : k < 3) : bLaw [scD l, .int (k : Int)] = .nx [scD l, .int (k : Int)] := by
  obtain ⟨c, C⟩ := cell_ok (l := l) hk
  obtain ⟨d, Bo, hb⟩ := box_ok c
  have P : evA [(.peek 0), (.peek 1)] [scD l, .int (k : Int)] = .ok [scD l, .int (k : Int)] [.any, .any] := rfl
  have M1 := mApp_ok P (dfOp_ok C rfl)
  have M2 := mApp_v1 M1 (dfOp_ok Bo rfl)
  have MI : mApp oMin2 [(.val (mC (.int 1))), (.peek 1)] [scD l, .int (k : Int)] = .ok (.int (if (k : Int) < 1 then (k : Int) else 1)) [scD l, .int (k : Int)] := rfl
  have hq : 0 ≤ (if (k : Int) < 1 then (k : Int) else 1) ∧ (if (k : Int) < 1 then (k : Int) else 1) < 2 := by split <;> omega
  generalize (if (k : Int) < 1 then (k : Int) else 1) = q at MI hq
  have I := ix_int (t := .lst true) (l := [6, 4]) (x := q) rfl hq.1 (by simpa using hq.2)
  have bm : 0 < ([6, 4] : List Int)[q.toNat]?.getD 0 ∧ ([6, 4] : List Int)[q.toNat]?.getD 0 ≤ 6 := by
    have : q = 0 ∨ q = 1 := by omega
    rcases this with rfl | rfl <;> decide
  generalize ([6, 4] : List Int)[q.toNat]?.getD 0 = m at I bm
  have M3 : mApp oIx [(.val (mApp oLst [(.val (mC (.int 6))), (.val (mC (.int 4)))])), (.val (mApp oMin2 [(.val (mC (.int 1))), (.peek 1)]))] [scD l, .int (k : Int)] = .ok (.int m) [scD l, .int (k : Int)] := mApp_ok (evA_val (r := .node (.lst true) (dI [6, 4])) rfl (evA_val MI evA_nil)) I
  obtain ⟨d', R⟩ := right_ok hb (by omega) bm.1 bm.2
  exact sIf_f (mNot_ok (b := true) (mApp_ok (evA_val M2 (evA_val M3 evA_nil)) (dfOp_ok R rfl))) rfl
theorem law_ok (l : List Int) (hl : l.length ≤ 1000) : op_law [scD l] = .ok (.bl true) [scD l] := by
  have O := len_node (α := Nat) .scr (dI l) (dI l) rfl
  rw [dI_length] at O
  have Q : mApp oLen [(.peek 0)] [scD l, .any] = .ok (.int l.length) [scD l, .any] := mApp_ok (show evA [(.peek 0)] [scD l, .any] = .ok [scD l] [.any, .any] from rfl) O
  have O1 : oMin2 [.int 3, .int l.length] = .ok (.int (if (l.length : Int) < 3 then (l.length : Int) else 3)) [.int 3, .int l.length] := rfl
  have M1 := mApp_ok (evA_val (m := mC (.int 3)) rfl (evA_val Q evA_nil)) O1
  have hq : (if (l.length : Int) < 3 then (l.length : Int) else 3) ≤ 3 := by split <;> omega
  generalize (if (l.length : Int) < 3 then (l.length : Int) else 3) = q at M1 hq
  have O2 : oMax2 [.int 2, .int q] = .ok (.int (if q > 2 then q else 2)) [.int 2, .int q] := rfl
  have M2 := mApp_ok (evA_val (m := mC (.int 2)) rfl (evA_val M1 evA_nil)) O2
  obtain ⟨n, hn, hn3⟩ : ∃ n : Nat, (if q > 2 then q else 2) = (n : Int) ∧ n ≤ 3 := by
    refine ⟨(if q > 2 then q else 2).toNat, ?_, ?_⟩ <;> split <;> omega
  rw [hn] at M2
  have sr := iRng_nat (n := n) (evA_val M2 evA_nil) (by omega)
  obtain ⟨e', L1, z, rfl⟩ := loopS_all (α := Nat) (t := .nm 1) (tof := fun k : Nat => D.int (k : Int)) (b := bLaw) (P := fun _ e => ∃ z, e = [scD l, z]) (List.range n) (List.range n) [] [scD l, .any] rfl
    (fun ys x zs e hx ⟨z, he⟩ => by
      subst he
      obtain ⟨rfl, hlt⟩ := range_at hx
      exact ⟨[scD l, .int (ys.length : Int)], _, rfl, Or.inl (once_ok (by omega)), _, rfl⟩)
    ⟨_, rfl⟩
  exact fnOp_rt (r := .bl true) (e := [scD l, z]) rfl (sSeq_nx (sFor_ok sr L1) rfl) (by simp)
end Z

set_option Elab.async false
set_option linter.all false
set_option maxRecDepth 100000
set_option maxHeartbeats 0
namespace Z
open PySem PySem.Spec PyProof.Rows
open L2 StX
/-! ### the head: facts by their names, and built-in things by theirs -/
def builtB (K : PySem.W.Frag) (bs : List (Str × String)) : Bool := bs.all fun q => He.eqO (PySem.W.nsIn K mainGlobals q.1) (some (some (.builtin q.2)))
theorem builtB_ok {K : PySem.W.Frag} {h : Heap} {mg : Str → Option Value} {bs : List (Str × String)} (X : K.In h) (G : h.Ns mainGlobals mg) (c : builtB K bs = true) {x : Str} {b : String} (hx : (x, b) ∈ bs) : mg x = some (.builtin b) :=
  PySem.W.mg_of X G (He.eqO_ok (List.all_eq_true.mp c (x, b) hx))
def hookB (n : Nat) (fa : List He.Fa) (fn : List He.DefD) (bs : List (Str × String)) : PySem.W.Hook where
  α := He.AlD × Bool
  obs := fun s => (He.obsDG n fa fn s.heap.get?, builtB (He.frG s.heap.get? (He.asD s.heap.get? n)) bs)
  val := fun _ => (He.valD fn, true)
  says := fun _ h => ∃ K : PySem.W.Frag, K.In h ∧ He.SaysD fa fn K ∧ builtB K bs = true
  of := fun _ _ e => ⟨_, He.frG_in, congrArg Prod.fst e, congrArg Prod.snd e⟩
  keeps := fun _ _ _ ⟨K, hK, c, d⟩ k => ⟨K, PySem.W.Frag.In.keeps hK k, c, d⟩

def dd0 : He.DefD := ⟨("is_whole", none), "is_whole", "is_whole", defArgs (top 10), defBody (top 10), defScope (top 10), [], []⟩
def dd1 : He.DefD := ⟨("is_between", none), "is_between", "is_between", defArgs (top 11), defBody (top 11), defScope (top 11), [], []⟩
def dd2 : He.DefD := ⟨("is_list", none), "is_list", "is_list", defArgs (top 12), defBody (top 12), defScope (top 12), [.int 0, .non], []⟩
def dd3 : He.DefD := ⟨("is_tuple", none), "is_tuple", "is_tuple", defArgs (top 13), defBody (top 13), defScope (top 13), [], []⟩
def dd4 : He.DefD := ⟨("are_whole", none), "are_whole", "are_whole", defArgs (top 14), defBody (top 14), defScope (top 14), [], []⟩
def dd5 : He.DefD := ⟨("are_between", none), "are_between", "are_between", defArgs (top 15), defBody (top 15), defScope (top 15), [], []⟩
def dd6 : He.DefD := ⟨("is_bag", none), "is_bag", "is_bag", defArgs (top 16), defBody (top 16), defScope (top 16), [], []⟩
def dd7 : He.DefD := ⟨("is_short_bag", none), "is_short_bag", "is_short_bag", defArgs (top 18), defBody (top 18), defScope (top 18), [], []⟩
def dd8 : He.DefD := ⟨("is_change", none), "is_change", "is_change", defArgs (top 19), defBody (top 19), defScope (top 19), [], []⟩
def dd9 : He.DefD := ⟨("check_values", none), "check_values", "check_values", defArgs (top 20), defBody (top 20), defScope (top 20), [], []⟩
def dd10 : He.DefD := ⟨("check_size", none), "check_size", "check_size", defArgs (top 21), defBody (top 21), defScope (top 21), [], []⟩
def dd11 : He.DefD := ⟨("check_short_bag", none), "check_short_bag", "check_short_bag", defArgs (top 23), defBody (top 23), defScope (top 23), [], []⟩
def dd12 : He.DefD := ⟨("check_change", none), "check_change", "check_change", defArgs (top 24), defBody (top 24), defScope (top 24), [], []⟩
def dd13 : He.DefD := ⟨("bags", none), "bags", "bags", defArgs (top 26), defBody (top 26), defScope (top 26), [], []⟩
def dd14 : He.DefD := ⟨("count_bags", none), "count_bags", "count_bags", defArgs (top 27), defBody (top 27), defScope (top 27), [], []⟩
def dd15 : He.DefD := ⟨("sign_rows", none), "sign_rows", "sign_rows", defArgs (top 29), defBody (top 29), defScope (top 29), [], []⟩
def dd16 : He.DefD := ⟨("match_of_rows", none), "match_of_rows", "match_of_rows", defArgs (top 30), defBody (top 30), defScope (top 30), [], []⟩
def dd17 : He.DefD := ⟨("match_of", none), "match_of", "match_of", defArgs (top 32), defBody (top 32), defScope (top 32), [], []⟩
def dd18 : He.DefD := ⟨("matches_with", none), "matches_with", "matches_with", defArgs (top 33), defBody (top 33), defScope (top 33), [], []⟩
def dd19 : He.DefD := ⟨("Board", some "__init__"), "__init__", "Board.__init__", defArgs (meth (top 35) 0), defBody (meth (top 35) 0), defScope (meth (top 35) 0), [], []⟩
def dd20 : He.DefD := ⟨("_law_cell", none), "_law_cell", "_law_cell", defArgs (top 37), defBody (top 37), defScope (top 37), [], []⟩
def dd21 : He.DefD := ⟨("_law_box", none), "_law_box", "_law_box", defArgs (top 38), defBody (top 38), defScope (top 38), [], []⟩
def dd22 : He.DefD := ⟨("_law_take", none), "_law_take", "_law_take", defArgs (top 39), defBody (top 39), defScope (top 39), [], []⟩
def dd23 : He.DefD := ⟨("_law_mixed", none), "_law_mixed", "_law_mixed", defArgs (top 40), defBody (top 40), defScope (top 40), [], []⟩
def dd24 : He.DefD := ⟨("_law_same", none), "_law_same", "_law_same", defArgs (top 41), defBody (top 41), defScope (top 41), [], []⟩
def dd25 : He.DefD := ⟨("_law_bags", none), "_law_bags", "_law_bags", defArgs (top 42), defBody (top 42), defScope (top 42), [], []⟩
def dd26 : He.DefD := ⟨("_law_ranked", none), "_law_ranked", "_law_ranked", defArgs (top 43), defBody (top 43), defScope (top 43), [], []⟩
def dd27 : He.DefD := ⟨("_law_shape", none), "_law_shape", "_law_shape", defArgs (top 44), defBody (top 44), defScope (top 44), [], []⟩
def dd28 : He.DefD := ⟨("_law_thing", none), "_law_thing", "_law_thing", defArgs (top 45), defBody (top 45), defScope (top 45), [], []⟩
def dd29 : He.DefD := ⟨("_law_board", none), "_law_board", "_law_board", defArgs (top 46), defBody (top 46), defScope (top 46), [], []⟩
def dd30 : He.DefD := ⟨("_law_made", none), "_law_made", "_law_made", defArgs (top 47), defBody (top 47), defScope (top 47), [], []⟩
def dd31 : He.DefD := ⟨("_law_rows", none), "_law_rows", "_law_rows", defArgs (top 48), defBody (top 48), defScope (top 48), [], []⟩
def dd32 : He.DefD := ⟨("_law_match", none), "_law_match", "_law_match", defArgs (top 49), defBody (top 49), defScope (top 49), [], []⟩
def dd33 : He.DefD := ⟨("_law_match_right", none), "_law_match_right", "_law_match_right", defArgs (top 50), defBody (top 50), defScope (top 50), [], []⟩
def dd34 : He.DefD := ⟨("_law_with_right", none), "_law_with_right", "_law_with_right", defArgs (top 51), defBody (top 51), defScope (top 51), [], []⟩
def dd35 : He.DefD := ⟨("_law_right", none), "_law_right", "_law_right", defArgs (top 52), defBody (top 52), defScope (top 52), [], []⟩
def dd36 : He.DefD := ⟨("law", none), "law", "law", defArgs (top 53), defBody (top 53), defScope (top 53), [], []⟩
def fnL : List He.DefD := [dd0, dd1, dd2, dd3, dd4, dd5, dd6, dd7, dd8, dd9, dd10, dd11, dd12, dd13, dd14, dd15, dd16, dd17, dd18, dd19, dd20, dd21, dd22, dd23, dd24, dd25, dd26, dd27, dd28, dd29, dd30, dd31, dd32, dd33, dd34, dd35, dd36]
def faL : List He.Fa := [.glo "is_whole", .glo "is_between", .glo "is_list", .glo "is_tuple", .glo "are_whole", .glo "are_between", .glo "is_bag", .glo "is_short_bag", .glo "is_change", .glo "check_values", .glo "check_size", .glo "check_short_bag", .glo "check_change", .glo "bags", .glo "count_bags", .glo "sign_rows", .glo "match_of_rows", .glo "match_of", .glo "matches_with", .glo "_law_cell", .glo "_law_box", .glo "_law_take", .glo "_law_mixed", .glo "_law_same", .glo "_law_bags", .glo "_law_ranked", .glo "_law_shape", .glo "_law_thing", .glo "_law_board", .glo "_law_made", .glo "_law_rows", .glo "_law_match", .glo "_law_match_right", .glo "_law_with_right", .glo "_law_right", .glo "law", .free "isinstance", .free "tuple", .free "list", .free "int", .free "bool", .free "len", .free "all", .free "any", .free "sum", .free "min", .free "max", .free "abs", .free "sorted", .free "range", .free "enumerate", .free "zip", .free "dict", .glo "Board", .cls "Board", .noat "Board" "many", .noat "Board" "size", .noat "Board" "signs", .noat "Board" "_by_bag", .mkr "Board"]
def bsL : List (Str × String) := [("comb", "math.comb")]
def loose0 : List Str := ["_wall", "__name__", "BoardError", "InvalidValues", "InvalidSize", "InvalidBag", "InvalidSigns", "InvalidChange", "is_whole", "is_between", "is_list", "is_tuple", "are_whole", "are_between", "is_bag", "is_full_bag", "is_short_bag", "is_change", "check_values", "check_size", "check_full_bag", "check_short_bag", "check_change", "bags", "count_bags", "sign_rows", "match_of_rows", "match_of", "matches_with", "Board"]
def loose1 : List Str := ["_law_cell", "_law_box", "_law_take", "_law_mixed", "_law_same", "_law_bags", "_law_ranked", "_law_shape", "_law_thing", "_law_board", "_law_made", "_law_rows", "_law_match", "_law_match_right", "_law_with_right", "_law_right"]
def looseL : List Str := loose0 ++ loose1
abbrev RO : PySem.W.OpenRow := PySem.W.OpenLaw.row PySem.Challenge.rw_oneforone_k05_matches
abbrev hkL : PySem.W.Hook := hookB 5 faL fnL bsL
def obL (s : PySem.W.SharedT) : He.AlD × Bool := (He.obsDG 5 faL fnL (HeadRun.getT s), builtB (He.frG (HeadRun.getT s) (He.asD (HeadRun.getT s) 5)) bsL)
theorem obL_eq (s : PySem.W.SharedT) : obL s = hkL.obs s.abs := by
  have e : HeadRun.getT s = s.abs.heap.get? := funext (HeadRun.getT_eq s)
  unfold obL
  rw [e]
  rfl
theorem runL (w : World) : HeadRun.RunEqI RO (PySem.W.view RO.prog [0, 53]) hkL obL 4000 looseL w := by
  unfold HeadRun.RunEqI
  kernel_rfl

/-! ### calls by keywords, exceptions that none is, the first heap -/
theorem FunD.kbn0 {K : PySem.W.Frag} {x qual : Str} {params : Arguments} {body : List Stmt} {scope : Scope} {kws : List (Str × V)} {f : Addr} {fd : FuncData} {ps ks : List Str} (F : FunD K x qual params body scope [] kws f fd)
    (h : ∀ (kV doc pm : Value) (an : Option Addr) (cdv ct : Value) (ws : List Value), ws.length = ks.length → bindArgs (PySem.W.fnOf x qual params body scope .none kV doc pm an cdv ct) ⟨[], ks.zip ws⟩ = pure (ps.zip ws.reverse)) : KBn K fd ps 0 ks (fun _ ws => ws.reverse) (fun _ zs => zs.reverse) := by
  obtain ⟨oc, od, dV, kV, doc, pm, an, cdv, ct, osl, rfl, lk, hcd, hD, hK⟩ := F.ex
  rcases hD with ⟨_, rfl⟩ | ⟨e, _⟩
  · refine ⟨fun s us ws _ hu hw => ?_, fun r rz => rz.reverse⟩
    cases us with
    | nil => exact .of_eq (h kV doc pm an cdv ct ws hw)
    | cons u us => cases hu
  · exact absurd rfl e
def CXE : CXT := fun outer H s E e s' => ∃ (P : Program) (w : World), L2.CX P w outer H s E e s'
theorem CXE_no (H : Hp) (s : Shared) (e : Value) (s' : Shared) (h : CXE [] H s (fun _ _ _ => False) e s') : False := by
  obtain ⟨P, w, a, B, H', cls, d, _, _, _, _, _, _, _, q⟩ := h
  exact q
theorem fnok_ex {P : Program} {wo : World} {K : PySem.W.Frag} {mg : Str → Option Value} {base : Heap} {cA : Str → Addr} {k n : Nat} {f : Addr} {fd : FuncData} {ps : List Str} {op : Op} (h : ∀ lk fk, FnOk P wo K mg base (L2.CX P wo) k f fd ps (spF ⟨K, cA, lk, fk⟩ op n)) :
    FnOk P wo K mg base CXE k f fd ps (fun vs H Q E => ∃ lk fk, spF ⟨K, cA, lk, fk⟩ op n vs H Q E) :=
  ⟨fun vs H Q E ⟨lk, fk, q⟩ => (h lk fk).len vs H Q E q, fun A outer s H args us vs Q E hr he hb hv ⟨lk, fk, q⟩ => codeAny_mono ((h lk fk).run A outer s H args us vs Q E hr he hb hv q) fun r s' hq => by
    cases r with
    | error e => exact ⟨P, wo, hq⟩
    | ok fl => cases fl <;> exact hq⟩
theorem repL_ints {w : Wd} {I H : Hp} : ∀ ns : List Int, RepL w I H (dI ns) (ns.map V.int) []
  | [] => by
    rw [dI_nil, RepL]
    exact ⟨rfl, rfl⟩
  | n :: ns => by
    rw [dI_cons, RepL]
    refine ⟨.int n, ns.map V.int, [], [], rfl, rfl, ?_, repL_ints ns⟩
    rw [Rep]
    exact ⟨rfl, rfl⟩
theorem entry {K : PySem.W.Frag} {cA : Str → Addr} {H : Hp} {a : Addr} {ns : List Int} (hl : ns.length ≤ 1000) (hS : SqL K H a (ns.map V.int)) : spF ⟨K, cA, fun _ => none, fun _ => none⟩ op_law 1 [.ref a] H (fun v _ => v = .bl true) (fun _ _ _ => False) := by
  refine ⟨rfl, H, fun _ => none, [scD ns], ?_, ?_⟩
  · refine ⟨⟨[], ?_, List.nodup_nil, List.forall_mem_nil _⟩, fun b o e => ⟨e, rfl⟩, nofun, nofun, nofun, nofun⟩
    rw [RepL]
    refine ⟨.ref a, [], [], [], rfl, rfl, ?_, ?_⟩
    · unfold scD
      rw [Rep]
      exact ⟨a, ns.map V.int, [], rfl, repL_ints ns, trivial, Or.inr ⟨rfl, hS, rfl⟩⟩
    · rw [RepL]
      exact ⟨rfl, rfl⟩
  · rw [law_ok ns hl]
    intro z I' H' _ hs
    obtain ⟨fp, r, _, _⟩ := hs.ex
    rw [RepL] at r
    obtain ⟨v, us, f1, f2, e, _, r1, _⟩ := r
    cases e
    rw [Rep] at r1
    exact r1.1

theorem factsL {P : Program} {w : World} {K : PySem.W.Frag} {h : Heap} {mg : Str → Option Value} {fL : Addr} (X : K.In h) (G : h.Ns mainGlobals mg) (hfa : mg ("law" : Str) = some (.ref fL)) (c : He.SaysD faL fnL K) (hb : builtB K bsL = true) :
    ∃ fd : FuncData, (∀ (s : Shared) (v : Value), BindsTo s fd ⟨[v], []⟩ [("script", v)]) ∧ ∀ base : Heap, K.In base → base.Ns mainGlobals mg → FnOk P w K mg base CXE 15 fL fd ["script"] (fun vs H Q E => ∃ lk fk, spF ⟨K, He.ga K, lk, fk⟩ op_law 1 vs H Q E) := by
  obtain ⟨e0, F0⟩ := c.def_ 0 (d := dd0) rfl
  obtain ⟨e1, F1⟩ := c.def_ 1 (d := dd1) rfl
  obtain ⟨e2, F2⟩ := c.def_ 2 (d := dd2) rfl
  obtain ⟨e3, F3⟩ := c.def_ 3 (d := dd3) rfl
  obtain ⟨e4, F4⟩ := c.def_ 4 (d := dd4) rfl
  obtain ⟨e5, F5⟩ := c.def_ 5 (d := dd5) rfl
  obtain ⟨e6, F6⟩ := c.def_ 6 (d := dd6) rfl
  obtain ⟨e7, F7⟩ := c.def_ 7 (d := dd7) rfl
  obtain ⟨e8, F8⟩ := c.def_ 8 (d := dd8) rfl
  obtain ⟨e9, F9⟩ := c.def_ 9 (d := dd9) rfl
  obtain ⟨e10, F10⟩ := c.def_ 10 (d := dd10) rfl
  obtain ⟨e11, F11⟩ := c.def_ 11 (d := dd11) rfl
  obtain ⟨e12, F12⟩ := c.def_ 12 (d := dd12) rfl
  obtain ⟨e13, F13⟩ := c.def_ 13 (d := dd13) rfl
  obtain ⟨e14, F14⟩ := c.def_ 14 (d := dd14) rfl
  obtain ⟨e15, F15⟩ := c.def_ 15 (d := dd15) rfl
  obtain ⟨e16, F16⟩ := c.def_ 16 (d := dd16) rfl
  obtain ⟨e17, F17⟩ := c.def_ 17 (d := dd17) rfl
  obtain ⟨e18, F18⟩ := c.def_ 18 (d := dd18) rfl
  obtain ⟨e19, F19⟩ := c.def_ 19 (d := dd19) rfl
  obtain ⟨e20, F20⟩ := c.def_ 20 (d := dd20) rfl
  obtain ⟨e21, F21⟩ := c.def_ 21 (d := dd21) rfl
  obtain ⟨e22, F22⟩ := c.def_ 22 (d := dd22) rfl
  obtain ⟨e23, F23⟩ := c.def_ 23 (d := dd23) rfl
  obtain ⟨e24, F24⟩ := c.def_ 24 (d := dd24) rfl
  obtain ⟨e25, F25⟩ := c.def_ 25 (d := dd25) rfl
  obtain ⟨e26, F26⟩ := c.def_ 26 (d := dd26) rfl
  obtain ⟨e27, F27⟩ := c.def_ 27 (d := dd27) rfl
  obtain ⟨e28, F28⟩ := c.def_ 28 (d := dd28) rfl
  obtain ⟨e29, F29⟩ := c.def_ 29 (d := dd29) rfl
  obtain ⟨e30, F30⟩ := c.def_ 30 (d := dd30) rfl
  obtain ⟨e31, F31⟩ := c.def_ 31 (d := dd31) rfl
  obtain ⟨e32, F32⟩ := c.def_ 32 (d := dd32) rfl
  obtain ⟨e33, F33⟩ := c.def_ 33 (d := dd33) rfl
  obtain ⟨e34, F34⟩ := c.def_ 34 (d := dd34) rfl
  obtain ⟨e35, F35⟩ := c.def_ 35 (d := dd35) rfl
  obtain ⟨e36, F36⟩ := c.def_ 36 (d := dd36) rfl
  have e := hfa.symm.trans (He.glo_ok X G (c.fact 35 (f := .glo "law") rfl))
  cases e
  have bl := FunD.bindsA (ps := ["script"]) F36 fun _ _ _ _ _ _ us hl => match us, hl with | [_], _ => rfl
  refine ⟨e36, fun s v => bl s [v] rfl, fun base _ _ => fnok_ex fun lk0 fk0 => ?_⟩
  have D : Ob K (He.ga K) := ⟨He.cls_ok (c.fact 54 (f := .cls "Board") rfl), He.noat_ok (c.fact 55 (f := .noat "Board" "many") rfl), He.noat_ok (c.fact 56 (f := .noat "Board" "size") rfl), He.noat_ok (c.fact 57 (f := .noat "Board" "signs") rfl), He.noat_ok (c.fact 58 (f := .noat "Board" "_by_bag") rfl)⟩
  have B : Bl mg := ⟨He.free_ok X G (c.fact 36 (f := .free "isinstance") rfl), He.free_ok X G (c.fact 37 (f := .free "tuple") rfl), He.free_ok X G (c.fact 38 (f := .free "list") rfl), He.free_ok X G (c.fact 39 (f := .free "int") rfl), He.free_ok X G (c.fact 40 (f := .free "bool") rfl), He.free_ok X G (c.fact 41 (f := .free "len") rfl), He.free_ok X G (c.fact 42 (f := .free "all") rfl), He.free_ok X G (c.fact 43 (f := .free "any") rfl), He.free_ok X G (c.fact 44 (f := .free "sum") rfl), He.free_ok X G (c.fact 45 (f := .free "min") rfl), He.free_ok X G (c.fact 46 (f := .free "max") rfl), He.free_ok X G (c.fact 47 (f := .free "abs") rfl), He.free_ok X G (c.fact 48 (f := .free "sorted") rfl), He.free_ok X G (c.fact 49 (f := .free "range") rfl), He.free_ok X G (c.fact 50 (f := .free "enumerate") rfl), He.free_ok X G (c.fact 51 (f := .free "zip") rfl), He.free_ok X G (c.fact 52 (f := .free "dict") rfl), builtB_ok X G hb (List.mem_singleton.mpr rfl)⟩
  have b22 : Binds K e22 ["box", "many"] [] := F22.bindsN fun _ _ _ _ _ _ us hl => match us, hl with | [_, _], _ => rfl
  have c__law_take : ∀ lk fk, Cl P w K mg base ⟨K, He.ga K, lk, fk⟩ 1 "_law_take" 2 op__law_take dfl__law_take ks__law_take := fun lk fk => ⟨_, e22, ["box", "many"], rfl, k__law_take D B F22 , F22.kp, (He.glo_ok X G (c.fact 21 (f := .glo "_law_take") rfl)), fun dvs h => by rw [List.mem_singleton.mp h]; exact ⟨[], .nil, b22⟩, fun h => absurd rfl h⟩
  have b27 : Binds K e27 ["box", "many"] [] := F27.bindsN fun _ _ _ _ _ _ us hl => match us, hl with | [_, _], _ => rfl
  have c__law_shape : ∀ lk fk, Cl P w K mg base ⟨K, He.ga K, lk, fk⟩ 2 "_law_shape" 2 op__law_shape dfl__law_shape ks__law_shape := fun lk fk => ⟨_, e27, ["box", "many"], rfl, k__law_shape D B F27 c__law_take, F27.kp, (He.glo_ok X G (c.fact 26 (f := .glo "_law_shape") rfl)), fun dvs h => by rw [List.mem_singleton.mp h]; exact ⟨[], .nil, b27⟩, fun h => absurd rfl h⟩
  have b23 : Binds K e23 ["box", "items"] [] := F23.bindsN fun _ _ _ _ _ _ us hl => match us, hl with | [_, _], _ => rfl
  have c__law_mixed : ∀ lk fk, Cl P w K mg base ⟨K, He.ga K, lk, fk⟩ 2 "_law_mixed" 2 op__law_mixed dfl__law_mixed ks__law_mixed := fun lk fk => ⟨_, e23, ["box", "items"], rfl, k__law_mixed D B F23 c__law_take, F23.kp, (He.glo_ok X G (c.fact 22 (f := .glo "_law_mixed") rfl)), fun dvs h => by rw [List.mem_singleton.mp h]; exact ⟨[], .nil, b23⟩, fun h => absurd rfl h⟩
  have b25 : Binds K e25 ["values", "size"] [] := F25.bindsN fun _ _ _ _ _ _ us hl => match us, hl with | [_, _], _ => rfl
  have c__law_bags_X : ∀ lk fk, Cl P w K mg base ⟨K, He.ga K, lk, fk⟩ 1 "_law_bags" 2 op__law_bags_X dfl__law_bags_X ks__law_bags_X := fun lk fk => ⟨_, e25, ["values", "size"], rfl, k__law_bags_X D B F25 , F25.kp, (He.glo_ok X G (c.fact 24 (f := .glo "_law_bags") rfl)), fun dvs h => by rw [List.mem_singleton.mp h]; exact ⟨[], .nil, b25⟩, fun h => absurd rfl h⟩
  have b28 : Binds K e28 ["bag", "way", "around", "marks", "caps", "drawn"] [] := F28.bindsN fun _ _ _ _ _ _ us hl => match us, hl with | [_, _, _, _, _, _], _ => rfl
  have c__law_thing : ∀ lk fk, Cl P w K mg base ⟨K, He.ga K, lk, fk⟩ 1 "_law_thing" 6 op__law_thing dfl__law_thing ks__law_thing := fun lk fk => ⟨_, e28, ["bag", "way", "around", "marks", "caps", "drawn"], rfl, k__law_thing D B F28 , F28.kp, (He.glo_ok X G (c.fact 27 (f := .glo "_law_thing") rfl)), fun dvs h => by rw [List.mem_singleton.mp h]; exact ⟨[], .nil, b28⟩, fun h => absurd rfl h⟩
  have b26 : Binds K e26 ["things"] [] := F26.bindsN fun _ _ _ _ _ _ us hl => match us, hl with | [_], _ => rfl
  have c__law_ranked : ∀ lk fk, Cl P w K mg base ⟨K, He.ga K, lk, fk⟩ 1 "_law_ranked" 1 op__law_ranked dfl__law_ranked ks__law_ranked := fun lk fk => ⟨_, e26, ["things"], rfl, k__law_ranked D B F26 , F26.kp, (He.glo_ok X G (c.fact 25 (f := .glo "_law_ranked") rfl)), fun dvs h => by rw [List.mem_singleton.mp h]; exact ⟨[], .nil, b26⟩, fun h => absurd rfl h⟩
  have b29 : Binds K e29 ["box", "many"] [] := F29.bindsN fun _ _ _ _ _ _ us hl => match us, hl with | [_, _], _ => rfl
  have c__law_board : ∀ lk fk, Cl P w K mg base ⟨K, He.ga K, lk, fk⟩ 3 "_law_board" 2 op__law_board dfl__law_board ks__law_board := fun lk fk => ⟨_, e29, ["box", "many"], rfl, k__law_board D B F29 c__law_shape c__law_take c__law_mixed c__law_bags_X c__law_thing c__law_ranked, F29.kp, (He.glo_ok X G (c.fact 28 (f := .glo "_law_board") rfl)), fun dvs h => by rw [List.mem_singleton.mp h]; exact ⟨[], .nil, b29⟩, fun h => absurd rfl h⟩
  have b0 : Binds K e0 ["value"] [] := F0.bindsN fun _ _ _ _ _ _ us hl => match us, hl with | [_], _ => rfl
  have c_is_whole : ∀ lk fk, Cl P w K mg base ⟨K, He.ga K, lk, fk⟩ 1 "is_whole" 1 op_is_whole dfl_is_whole ks_is_whole := fun lk fk => ⟨_, e0, ["value"], rfl, k_is_whole D B F0 , F0.kp, (He.glo_ok X G (c.fact 0 (f := .glo "is_whole") rfl)), fun dvs h => by rw [List.mem_singleton.mp h]; exact ⟨[], .nil, b0⟩, fun h => absurd rfl h⟩
  have b1 : Binds K e1 ["value", "least", "most"] [] := F1.bindsN fun _ _ _ _ _ _ us hl => match us, hl with | [_, _, _], _ => rfl
  have c_is_between : ∀ lk fk, Cl P w K mg base ⟨K, He.ga K, lk, fk⟩ 2 "is_between" 3 op_is_between dfl_is_between ks_is_between := fun lk fk => ⟨_, e1, ["value", "least", "most"], rfl, k_is_between D B F1 c_is_whole, F1.kp, (He.glo_ok X G (c.fact 1 (f := .glo "is_between") rfl)), fun dvs h => by rw [List.mem_singleton.mp h]; exact ⟨[], .nil, b1⟩, fun h => absurd rfl h⟩
  have b9 : Binds K e9 ["values"] [] := F9.bindsN fun _ _ _ _ _ _ us hl => match us, hl with | [_], _ => rfl
  have c_check_values : ∀ lk fk, Cl P w K mg base ⟨K, He.ga K, lk, fk⟩ 3 "check_values" 1 op_check_values dfl_check_values ks_check_values := fun lk fk => ⟨_, e9, ["values"], rfl, k_check_values D B F9 c_is_between, F9.kp, (He.glo_ok X G (c.fact 9 (f := .glo "check_values") rfl)), fun dvs h => by rw [List.mem_singleton.mp h]; exact ⟨[], .nil, b9⟩, fun h => absurd rfl h⟩
  have b10 : Binds K e10 ["size", "least", "most"] [] := F10.bindsN fun _ _ _ _ _ _ us hl => match us, hl with | [_, _, _], _ => rfl
  have c_check_size : ∀ lk fk, Cl P w K mg base ⟨K, He.ga K, lk, fk⟩ 3 "check_size" 3 op_check_size dfl_check_size ks_check_size := fun lk fk => ⟨_, e10, ["size", "least", "most"], rfl, k_check_size D B F10 c_is_between, F10.kp, (He.glo_ok X G (c.fact 10 (f := .glo "check_size") rfl)), fun dvs h => by rw [List.mem_singleton.mp h]; exact ⟨[], .nil, b10⟩, fun h => absurd rfl h⟩
  have b14 : Binds K e14 ["values", "size"] [] := F14.bindsN fun _ _ _ _ _ _ us hl => match us, hl with | [_, _], _ => rfl
  have c_count_bags : ∀ lk fk, Cl P w K mg base ⟨K, He.ga K, lk, fk⟩ 4 "count_bags" 2 op_count_bags dfl_count_bags ks_count_bags := fun lk fk => ⟨_, e14, ["values", "size"], rfl, k_count_bags D B F14 c_check_values c_check_size, F14.kp, (He.glo_ok X G (c.fact 14 (f := .glo "count_bags") rfl)), fun dvs h => by rw [List.mem_singleton.mp h]; exact ⟨[], .nil, b14⟩, fun h => absurd rfl h⟩
  have b2 : ∃ ds, Vals [] ds ∧ Binds K e2 ["value", "least", "most"] ds := F2.binds1 3 2 (by simp [dd2, He.DefD.dvs]) (by simp [dd2, He.DefD.dvs]) (fun _ _ _ _ _ _ _ us its hu hi => match us, its, hu, hi with | [_, _, _], [_, _], _, _ => ⟨_, rfl, rfl⟩)
  have c_is_list : ∀ lk fk, Cl P w K mg base ⟨K, He.ga K, lk, fk⟩ 1 "is_list" 3 op_is_list dfl_is_list ks_is_list := fun lk fk => ⟨_, e2, ["value", "least", "most"], rfl, k_is_list D B F2 , F2.kp, (He.glo_ok X G (c.fact 2 (f := .glo "is_list") rfl)), fun dvs h => by rw [List.mem_singleton.mp h]; exact b2, fun h => absurd rfl h⟩
  have b4 : Binds K e4 ["items"] [] := F4.bindsN fun _ _ _ _ _ _ us hl => match us, hl with | [_], _ => rfl
  have c_are_whole : ∀ lk fk, Cl P w K mg base ⟨K, He.ga K, lk, fk⟩ 2 "are_whole" 1 op_are_whole dfl_are_whole ks_are_whole := fun lk fk => ⟨_, e4, ["items"], rfl, k_are_whole D B F4 c_is_whole, F4.kp, (He.glo_ok X G (c.fact 4 (f := .glo "are_whole") rfl)), fun dvs h => by rw [List.mem_singleton.mp h]; exact ⟨[], .nil, b4⟩, fun h => absurd rfl h⟩
  have b13 : Binds K e13 ["values", "size"] [] := F13.bindsN fun _ _ _ _ _ _ us hl => match us, hl with | [_, _], _ => rfl
  have c_bags : ∀ lk fk, Cl P w K mg base ⟨K, He.ga K, lk, fk⟩ 4 "bags" 2 op_bags dfl_bags ks_bags := fun lk fk => ⟨_, e13, ["values", "size"], rfl, k_bags D B F13 c_check_values c_check_size, F13.kp, (He.glo_ok X G (c.fact 13 (f := .glo "bags") rfl)), fun dvs h => by rw [List.mem_singleton.mp h]; exact ⟨[], .nil, b13⟩, fun h => absurd rfl h⟩
  have b19 : Binds K e19 ["self", "values", "size", "signs"] [] := F19.bindsN fun _ _ _ _ _ _ us hl => match us, hl with | [_, _, _, _], _ => rfl
  have c_new_Board : ∀ lk fk, Ck P w K mg base ⟨K, He.ga K, lk, fk⟩ 5 "Board" 3 op_new_Board := fun lk fk => ⟨_, e19, ["self", "values", "size", "signs"], k_new_Board D B F19 c_check_values c_check_size c_count_bags c_is_list c_are_whole c_bags, He.mkr_ok (c.fact 59 (f := .mkr "Board") rfl), He.glo_ok X G (c.fact 53 (f := .glo "Board") rfl), b19⟩
  have b30 : Binds K e30 ["board"] [] := F30.bindsN fun _ _ _ _ _ _ us hl => match us, hl with | [_], _ => rfl
  have c__law_made : ∀ lk fk, Cl P w K mg base ⟨K, He.ga K, lk, fk⟩ 7 "_law_made" 1 op__law_made dfl__law_made ks__law_made := fun lk fk => ⟨_, e30, ["board"], rfl, k__law_made D B F30 c_new_Board, F30.kp, (He.glo_ok X G (c.fact 29 (f := .glo "_law_made") rfl)), fun dvs h => by rw [List.mem_singleton.mp h]; exact ⟨[], .nil, b30⟩, fun h => absurd rfl h⟩
  have c__law_bags : ∀ lk fk, Cl P w K mg base ⟨K, He.ga K, lk, fk⟩ 1 "_law_bags" 2 op__law_bags dfl__law_bags ks__law_bags := fun lk fk => ⟨_, e25, ["values", "size"], rfl, k__law_bags D B F25 , F25.kp, (He.glo_ok X G (c.fact 24 (f := .glo "_law_bags") rfl)), fun dvs h => by rw [List.mem_singleton.mp h]; exact ⟨[], .nil, b25⟩, fun h => absurd rfl h⟩
  have b31 : Binds K e31 ["board"] [] := F31.bindsN fun _ _ _ _ _ _ us hl => match us, hl with | [_], _ => rfl
  have c__law_rows : ∀ lk fk, Cl P w K mg base ⟨K, He.ga K, lk, fk⟩ 2 "_law_rows" 1 op__law_rows dfl__law_rows ks__law_rows := fun lk fk => ⟨_, e31, ["board"], rfl, k__law_rows D B F31 c__law_bags, F31.kp, (He.glo_ok X G (c.fact 30 (f := .glo "_law_rows") rfl)), fun dvs h => by rw [List.mem_singleton.mp h]; exact ⟨[], .nil, b31⟩, fun h => absurd rfl h⟩
  have b3 : Binds K e3 ["value", "size"] [] := F3.bindsN fun _ _ _ _ _ _ us hl => match us, hl with | [_, _], _ => rfl
  have c_is_tuple : ∀ lk fk, Cl P w K mg base ⟨K, He.ga K, lk, fk⟩ 1 "is_tuple" 2 op_is_tuple dfl_is_tuple ks_is_tuple := fun lk fk => ⟨_, e3, ["value", "size"], rfl, k_is_tuple D B F3 , F3.kp, (He.glo_ok X G (c.fact 3 (f := .glo "is_tuple") rfl)), fun dvs h => by rw [List.mem_singleton.mp h]; exact ⟨[], .nil, b3⟩, fun h => absurd rfl h⟩
  have b5 : Binds K e5 ["items", "least", "most"] [] := F5.bindsN fun _ _ _ _ _ _ us hl => match us, hl with | [_, _, _], _ => rfl
  have c_are_between : ∀ lk fk, Cl P w K mg base ⟨K, He.ga K, lk, fk⟩ 3 "are_between" 3 op_are_between dfl_are_between ks_are_between := fun lk fk => ⟨_, e5, ["items", "least", "most"], rfl, k_are_between D B F5 c_is_between, F5.kp, (He.glo_ok X G (c.fact 5 (f := .glo "are_between") rfl)), fun dvs h => by rw [List.mem_singleton.mp h]; exact ⟨[], .nil, b5⟩, fun h => absurd rfl h⟩
  have b8 : Binds K e8 ["board", "value"] [] := F8.bindsN fun _ _ _ _ _ _ us hl => match us, hl with | [_, _], _ => rfl
  have c_is_change : ∀ lk fk, Cl P w K mg base ⟨K, He.ga K, lk, fk⟩ 4 "is_change" 2 op_is_change dfl_is_change ks_is_change := fun lk fk => ⟨_, e8, ["board", "value"], rfl, k_is_change D B F8 c_is_tuple c_are_between, F8.kp, (He.glo_ok X G (c.fact 8 (f := .glo "is_change") rfl)), fun dvs h => by rw [List.mem_singleton.mp h]; exact ⟨[], .nil, b8⟩, fun h => absurd rfl h⟩
  have b12 : Binds K e12 ["board", "change"] [] := F12.bindsN fun _ _ _ _ _ _ us hl => match us, hl with | [_, _], _ => rfl
  have c_check_change : ∀ lk fk, Cl P w K mg base ⟨K, He.ga K, lk, fk⟩ 5 "check_change" 2 op_check_change dfl_check_change ks_check_change := fun lk fk => ⟨_, e12, ["board", "change"], rfl, k_check_change D B F12 c_is_change, F12.kp, (He.glo_ok X G (c.fact 12 (f := .glo "check_change") rfl)), fun dvs h => by rw [List.mem_singleton.mp h]; exact ⟨[], .nil, b12⟩, fun h => absurd rfl h⟩
  have b15 : Binds K e15 ["board"] [] := F15.bindsN fun _ _ _ _ _ _ us hl => match us, hl with | [_], _ => rfl
  have c_sign_rows : ∀ lk fk, Cl P w K mg base ⟨K, He.ga K, lk, fk⟩ 5 "sign_rows" 1 op_sign_rows dfl_sign_rows ks_sign_rows := fun lk fk => ⟨_, e15, ["board"], rfl, k_sign_rows D B F15 c_bags, F15.kp, (He.glo_ok X G (c.fact 15 (f := .glo "sign_rows") rfl)), fun dvs h => by rw [List.mem_singleton.mp h]; exact ⟨[], .nil, b15⟩, fun h => absurd rfl h⟩
  have b18 : Binds K e18 ["board", "change"] [] := F18.bindsN fun _ _ _ _ _ _ us hl => match us, hl with | [_, _], _ => rfl
  have c_matches_with : ∀ lk fk, Cl P w K mg base ⟨K, He.ga K, lk, fk⟩ 6 "matches_with" 2 op_matches_with dfl_matches_with ks_matches_with := fun lk fk => ⟨_, e18, ["board", "change"], rfl, k_matches_with D B F18 c_check_change c_sign_rows, F18.kp, (He.glo_ok X G (c.fact 18 (f := .glo "matches_with") rfl)), fun dvs h => by rw [List.mem_singleton.mp h]; exact ⟨[], .nil, b18⟩, fun _ => ⟨rfl, FunD.kbn0 F18 fun _ _ _ _ _ _ ws hl => match ws, hl with | [_, _], _ => rfl⟩⟩
  have b24 : Binds K e24 ["told", "due"] [] := F24.bindsN fun _ _ _ _ _ _ us hl => match us, hl with | [_, _], _ => rfl
  have c__law_same : ∀ lk fk, Cl P w K mg base ⟨K, He.ga K, lk, fk⟩ 12 "_law_same" 2 (op__law_same 12) [[]] [] := fun lk fk => ⟨_, e24, ["told", "due"], rfl, k__law_same B F24 F24.kp (He.glo_ok X G (c.fact 23 (f := .glo "_law_same") rfl)) ⟨[], .nil, b24⟩ 12 lk fk, F24.kp, (He.glo_ok X G (c.fact 23 (f := .glo "_law_same") rfl)), fun dvs h => by rw [List.mem_singleton.mp h]; exact ⟨[], .nil, b24⟩, fun h => absurd rfl h⟩
  have b34 : Binds K e34 ["made", "rows", "change"] [] := F34.bindsN fun _ _ _ _ _ _ us hl => match us, hl with | [_, _, _], _ => rfl
  have c__law_with_right : ∀ lk fk, Cl P w K mg base ⟨K, He.ga K, lk, fk⟩ 13 "_law_with_right" 3 op__law_with_right dfl__law_with_right ks__law_with_right := fun lk fk => ⟨_, e34, ["made", "rows", "change"], rfl, k__law_with_right D B F34 c_matches_with c__law_same, F34.kp, (He.glo_ok X G (c.fact 33 (f := .glo "_law_with_right") rfl)), fun dvs h => by rw [List.mem_singleton.mp h]; exact ⟨[], .nil, b34⟩, fun h => absurd rfl h⟩
  have b32 : Binds K e32 ["row", "other"] [] := F32.bindsN fun _ _ _ _ _ _ us hl => match us, hl with | [_, _], _ => rfl
  have c__law_match : ∀ lk fk, Cl P w K mg base ⟨K, He.ga K, lk, fk⟩ 1 "_law_match" 2 op__law_match dfl__law_match ks__law_match := fun lk fk => ⟨_, e32, ["row", "other"], rfl, k__law_match D B F32 , F32.kp, (He.glo_ok X G (c.fact 31 (f := .glo "_law_match") rfl)), fun dvs h => by rw [List.mem_singleton.mp h]; exact ⟨[], .nil, b32⟩, fun h => absurd rfl h⟩
  have b6 : Binds K e6 ["value", "values", "least", "most"] [] := F6.bindsN fun _ _ _ _ _ _ us hl => match us, hl with | [_, _, _, _], _ => rfl
  have c_is_bag : ∀ lk fk, Cl P w K mg base ⟨K, He.ga K, lk, fk⟩ 3 "is_bag" 4 op_is_bag dfl_is_bag ks_is_bag := fun lk fk => ⟨_, e6, ["value", "values", "least", "most"], rfl, k_is_bag D B F6 c_is_between, F6.kp, (He.glo_ok X G (c.fact 6 (f := .glo "is_bag") rfl)), fun dvs h => by rw [List.mem_singleton.mp h]; exact ⟨[], .nil, b6⟩, fun h => absurd rfl h⟩
  have b7 : Binds K e7 ["board", "value"] [] := F7.bindsN fun _ _ _ _ _ _ us hl => match us, hl with | [_, _], _ => rfl
  have c_is_short_bag : ∀ lk fk, Cl P w K mg base ⟨K, He.ga K, lk, fk⟩ 4 "is_short_bag" 2 op_is_short_bag dfl_is_short_bag ks_is_short_bag := fun lk fk => ⟨_, e7, ["board", "value"], rfl, k_is_short_bag D B F7 c_is_bag, F7.kp, (He.glo_ok X G (c.fact 7 (f := .glo "is_short_bag") rfl)), fun dvs h => by rw [List.mem_singleton.mp h]; exact ⟨[], .nil, b7⟩, fun h => absurd rfl h⟩
  have b11 : Binds K e11 ["board", "bag"] [] := F11.bindsN fun _ _ _ _ _ _ us hl => match us, hl with | [_, _], _ => rfl
  have c_check_short_bag : ∀ lk fk, Cl P w K mg base ⟨K, He.ga K, lk, fk⟩ 5 "check_short_bag" 2 op_check_short_bag dfl_check_short_bag ks_check_short_bag := fun lk fk => ⟨_, e11, ["board", "bag"], rfl, k_check_short_bag D B F11 c_is_short_bag, F11.kp, (He.glo_ok X G (c.fact 11 (f := .glo "check_short_bag") rfl)), fun dvs h => by rw [List.mem_singleton.mp h]; exact ⟨[], .nil, b11⟩, fun h => absurd rfl h⟩
  have b16 : Binds K e16 ["one", "other"] [] := F16.bindsN fun _ _ _ _ _ _ us hl => match us, hl with | [_, _], _ => rfl
  have c_match_of_rows : ∀ lk fk, Cl P w K mg base ⟨K, He.ga K, lk, fk⟩ 1 "match_of_rows" 2 op_match_of_rows dfl_match_of_rows ks_match_of_rows := fun lk fk => ⟨_, e16, ["one", "other"], rfl, k_match_of_rows D B F16 , F16.kp, (He.glo_ok X G (c.fact 16 (f := .glo "match_of_rows") rfl)), fun dvs h => by rw [List.mem_singleton.mp h]; exact ⟨[], .nil, b16⟩, fun h => absurd rfl h⟩
  have b17 : Binds K e17 ["board", "one", "other"] [] := F17.bindsN fun _ _ _ _ _ _ us hl => match us, hl with | [_, _, _], _ => rfl
  have c_match_of : ∀ lk fk, Cl P w K mg base ⟨K, He.ga K, lk, fk⟩ 6 "match_of" 3 op_match_of dfl_match_of ks_match_of := fun lk fk => ⟨_, e17, ["board", "one", "other"], rfl, k_match_of D B F17 c_check_short_bag c_sign_rows c_match_of_rows, F17.kp, (He.glo_ok X G (c.fact 17 (f := .glo "match_of") rfl)), fun dvs h => by rw [List.mem_singleton.mp h]; exact ⟨[], .nil, b17⟩, fun _ => ⟨rfl, FunD.kbn0 F17 fun _ _ _ _ _ _ ws hl => match ws, hl with | [_, _, _], _ => rfl⟩⟩
  have b33 : Binds K e33 ["made", "rows", "one", "other"] [] := F33.bindsN fun _ _ _ _ _ _ us hl => match us, hl with | [_, _, _, _], _ => rfl
  have c__law_match_right : ∀ lk fk, Cl P w K mg base ⟨K, He.ga K, lk, fk⟩ 13 "_law_match_right" 4 op__law_match_right dfl__law_match_right ks__law_match_right := fun lk fk => ⟨_, e33, ["made", "rows", "one", "other"], rfl, k__law_match_right D B F33 c__law_match c_match_of c__law_same, F33.kp, (He.glo_ok X G (c.fact 32 (f := .glo "_law_match_right") rfl)), fun dvs h => by rw [List.mem_singleton.mp h]; exact ⟨[], .nil, b33⟩, fun h => absurd rfl h⟩
  have b35 : Binds K e35 ["box", "many"] [] := F35.bindsN fun _ _ _ _ _ _ us hl => match us, hl with | [_, _], _ => rfl
  have c__law_right : ∀ lk fk, Cl P w K mg base ⟨K, He.ga K, lk, fk⟩ 14 "_law_right" 2 op__law_right dfl__law_right ks__law_right := fun lk fk => ⟨_, e35, ["box", "many"], rfl, k__law_right D B F35 c__law_board c__law_made c__law_rows c__law_take c__law_with_right c__law_match_right, F35.kp, (He.glo_ok X G (c.fact 34 (f := .glo "_law_right") rfl)), fun dvs h => by rw [List.mem_singleton.mp h]; exact ⟨[], .nil, b35⟩, fun h => absurd rfl h⟩
  have b21 : Binds K e21 ["great"] [] := F21.bindsN fun _ _ _ _ _ _ us hl => match us, hl with | [_], _ => rfl
  have c__law_box : ∀ lk fk, Cl P w K mg base ⟨K, He.ga K, lk, fk⟩ 1 "_law_box" 1 op__law_box dfl__law_box ks__law_box := fun lk fk => ⟨_, e21, ["great"], rfl, k__law_box D B F21 , F21.kp, (He.glo_ok X G (c.fact 20 (f := .glo "_law_box") rfl)), fun dvs h => by rw [List.mem_singleton.mp h]; exact ⟨[], .nil, b21⟩, fun h => absurd rfl h⟩
  have b20 : Binds K e20 ["script", "k"] [] := F20.bindsN fun _ _ _ _ _ _ us hl => match us, hl with | [_, _], _ => rfl
  have c__law_cell : ∀ lk fk, Cl P w K mg base ⟨K, He.ga K, lk, fk⟩ 1 "_law_cell" 2 op__law_cell dfl__law_cell ks__law_cell := fun lk fk => ⟨_, e20, ["script", "k"], rfl, k__law_cell D B F20 , F20.kp, (He.glo_ok X G (c.fact 19 (f := .glo "_law_cell") rfl)), fun dvs h => by rw [List.mem_singleton.mp h]; exact ⟨[], .nil, b20⟩, fun h => absurd rfl h⟩
  exact k_law D B F36 c__law_right c__law_box c__law_cell
end Z
open PySem PySem.W PySem.Calls PyProof.Rows
theorem PySem.Challenge.cw_oneforone_k05_matches_holds : PySem.Challenge.rw_oneforone_k05_matches.Holds := by
  w_on; o_law
  refine HeadRun.head_imp (r := OpenLaw.row PySem.Challenge.rw_oneforone_k05_matches) (q := view (OpenLaw.row PySem.Challenge.rw_oneforone_k05_matches).prog [0, 53]) (H := Z.hkL) (ob := Z.obL) (M := 4000) (loose := Z.looseL) (d := HandSHeadRun.topDef (OpenLaw.row PySem.Challenge.rw_oneforone_k05_matches).prog 53) (kwd := []) Z.obL_eq
    Z.runL (by kernel_rfl) (by kernel_rfl) (by kernel_rfl) (by rfl) (by first | assumption | decide +kernel) (by decide +kernel) ⟨rfl, rfl, rfl, rfl, rfl, by decide +kernel⟩ ?hw ?hc
  case hw => w_witness2
  case hc =>
    refine L2.walk_ofE (l := PySem.Challenge.rw_oneforone_k05_matches) (n := 63) (k := 15) (x := "script") (CX := Z.CXE) rfl (by decide) (by kernel_rfl) ⟨rfl, by decide, by decide⟩ ?F Z.CXE_no
    intro w mg fa h Y G hmg0
    obtain ⟨K, KX, c, hb⟩ := Y
    have hmg : mg ("law" : PySem.Str) = some (.ref fa) := by
      have e : (HandSHeadRun.topDef (OpenLaw.row PySem.Challenge.rw_oneforone_k05_matches).prog 53).name = ("law" : PySem.Str) := by kernel_rfl
      rw [← e]
      exact hmg0
    obtain ⟨fd, hbi, hF⟩ := Z.factsL (P := (PySem.Challenge.rw_oneforone_k05_matches).prog) (w := w) KX G hmg c hb
    exact ⟨K, fd, _, KX, hbi, fun H a ns hl _ hS => ⟨fun _ => none, fun _ => none, Z.entry (Nat.le_trans hl (by decide)) hS⟩, hF⟩

