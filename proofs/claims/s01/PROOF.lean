import PyProof.Rows.All
import Wide.All
import OpenK.AllK
import Wide.FinOn
import PyProof.EqAt
import PyProof.EqKinds
import PyProof.TupleCall
import Open.SpecLaws
import KE.OsGo
import HandS.ForSpec
import HandS.ForMost
import HandS.TryMany
import HandS.Steps
import HandS.Wide
import HandS.Conv
import HandS.Codes
import HandS.FStr
import HandS.SortInts
import HandS.CallLocal
import HandS.ExcInit
import HandS.ExcField
import KE.IntTextLaws
import KE.KDictKeyed
import KE.KTupTabMore
import HandS.ExcSuper
import KE.DataMinKey
import HandS.Strs
import HandS.Lambda
import PySem.Challenge.RW_testplans_s01_answers
set_option Elab.async false
set_option linter.all false
set_option maxRecDepth 100000
set_option maxHeartbeats 0
/-! Tokens of a text, by place. -/
namespace Tp
open Vatsld

/-- the tokens of a text from a place on -/
def tk (t : Text) (pl : Nat) : Toks := tokensIn t.length (t.length - pl + 1) (t.drop pl)

theorem dropWhile_len {α : Type} (q : α → Bool) : ∀ l : List α, (l.dropWhile q).length ≤ l.length
  | [] => Nat.le_refl _
  | a :: r => by
    rw [List.dropWhile_cons]
    split
    · exact Nat.le_trans (dropWhile_len q r) (Nat.le_succ _)
    · exact Nat.le_refl _

theorem fuel_any (w : Nat) : ∀ (n : Nat) (s : Text), s.length ≤ n → ∀ k k', s.length < k → s.length < k' → tokensIn w k s = tokensIn w k' s := by
  intro n
  induction n with
  | zero =>
    intro s hs k k' hk hk'
    have : s = [] := List.length_eq_zero_iff.mp (Nat.le_zero.mp hs)
    subst this
    cases k with
    | zero => simp at hk
    | succ k =>
      cases k' with
      | zero => simp at hk'
      | succ k' => simp only [tokensIn]
  | succ n ih =>
    intro s hs k k' hk hk'
    cases k with
    | zero => exact absurd hk (Nat.not_lt_zero _)
    | succ k =>
      cases k' with
      | zero => exact absurd hk' (Nat.not_lt_zero _)
      | succ k' =>
        cases s with
        | nil => simp only [tokensIn]
        | cons c r =>
          have hr : r.length ≤ n := by simpa using hs
          have h1 : r.length < k := by simpa using hk
          have h2 : r.length < k' := by simpa using hk'
          have hd : ∀ q : Nat → Bool, tokensIn w k (r.dropWhile q) = tokensIn w k' (r.dropWhile q) := fun q =>
            ih _ (Nat.le_trans (dropWhile_len q r) hr) k k' (Nat.lt_of_le_of_lt (dropWhile_len q r) h1) (Nat.lt_of_le_of_lt (dropWhile_len q r) h2)
          simp only [tokensIn, ih r hr k k' h1 h2, hd]

theorem fuel_tk (t s : Text) (k : Nat) (h : s.length < k) : tokensIn t.length k s = tokensIn t.length (s.length + 1) s :=
  fuel_any t.length s.length s (Nat.le_refl _) k (s.length + 1) h (Nat.lt_succ_self _)

/-- what stands from a place on -/
theorem drop_at {t : Text} {pl c : Nat} (h : t[pl]? = some c) : t.drop pl = c :: t.drop (pl + 1) := by
  obtain ⟨hl, e⟩ := List.getElem?_eq_some_iff.mp h
  rw [List.drop_eq_getElem_cons hl, e]
theorem at_lt {t : Text} {pl c : Nat} (h : t[pl]? = some c) : pl < t.length := (List.getElem?_eq_some_iff.mp h).1

/-- a scan from a place on -/
def scan (q : Nat → Bool) (t : Text) (pl : Nat) : Nat := pl + ((t.drop pl).takeWhile q).length
theorem scan_drop (q : Nat → Bool) (t : Text) (pl : Nat) : t.drop (scan q t pl) = (t.drop pl).dropWhile q := by
  have e : (t.drop pl).takeWhile q ++ (t.drop pl).dropWhile q = t.drop pl := List.takeWhile_append_dropWhile
  unfold scan
  rw [← List.drop_drop]
  conv => lhs; arg 2; rw [← e]
  exact List.drop_left
theorem scan_ge (q : Nat → Bool) (t : Text) (pl : Nat) : pl ≤ scan q t pl := Nat.le_add_right _ _
theorem takeWhile_len {α : Type} (q : α → Bool) (l : List α) : (l.takeWhile q).length ≤ l.length := by
  have e : l.takeWhile q ++ l.dropWhile q = l := List.takeWhile_append_dropWhile
  have := congrArg List.length e
  rw [List.length_append] at this
  omega
theorem scan_le (q : Nat → Bool) (t : Text) (pl : Nat) (h : pl ≤ t.length) : scan q t pl ≤ t.length := by
  have := takeWhile_len q (t.drop pl)
  rw [List.length_drop] at this
  unfold scan
  omega
theorem scan_stop {q : Nat → Bool} {t : Text} {pl : Nat} (h : ∀ c, t[pl]? = some c → q c = false) : scan q t pl = pl := by
  unfold scan
  cases e : t[pl]? with
  | none =>
    rw [List.drop_eq_nil_of_le (List.getElem?_eq_none_iff.mp e)]
    rfl
  | some c =>
    rw [drop_at e, List.takeWhile_cons, h c e]
    rfl
theorem scan_step {q : Nat → Bool} {t : Text} {pl c : Nat} (h : t[pl]? = some c) (hc : q c = true) : scan q t pl = scan q t (pl + 1) := by
  unfold scan
  rw [drop_at h, List.takeWhile_cons, hc, if_pos rfl, List.length_cons]
  omega
theorem scan_take (q : Nat → Bool) (t : Text) (pl : Nat) : (t.drop pl).take (scan q t pl - pl) = (t.drop pl).takeWhile q := by
  have e : (t.drop pl).takeWhile q ++ (t.drop pl).dropWhile q = t.drop pl := List.takeWhile_append_dropWhile
  have h : scan q t pl - pl = ((t.drop pl).takeWhile q).length := by unfold scan; omega
  rw [h]
  conv => lhs; arg 2; rw [← e]
  exact List.take_left

theorem tk_to {t : Text} {k e : Nat} {s : Text} (hs : t.drop e = s) (_he : e ≤ t.length) (hk : s.length < k) : tokensIn t.length k s = tk t e := by
  subst hs
  unfold tk
  rw [fuel_tk t _ k hk]
  have : (t.drop e).length = t.length - e := List.length_drop
  rw [this]
theorem tk_over {t : Text} {pl : Nat} (h : pl = t.length) : tk t pl = [(t.length, .over)] := by
  subst h
  unfold tk
  rw [List.drop_length, Nat.sub_self]
  rfl
section
variable {t : Text} {pl c : Nat}
theorem place_is (h : t[pl]? = some c) : t.length - ((t.drop (pl + 1)).length + 1) = pl := by
  have := at_lt h
  rw [List.length_drop]
  omega
/-- one step -/
theorem tk_step (h : t[pl]? = some c) : tk t pl = (
    if blank c then tk t (pl + 1)
    else if c == 35 then tk t (scan (fun x => x != 10) t (pl + 1))
    else if small c then (if 12 < (c :: (t.drop (pl + 1)).takeWhile inner).length then [(pl, .bad 2)] else (pl, .word (c :: (t.drop (pl + 1)).takeWhile inner)) :: tk t (scan inner t (pl + 1)))
    else if digit c then (if goodNumber (c :: (t.drop (pl + 1)).takeWhile digit) then (pl, .num (valueIn (c :: (t.drop (pl + 1)).takeWhile digit))) :: tk t (scan digit t (pl + 1)) else [(pl, .bad 2)])
    else if c == 44 || c == 59 then (pl, .sign c) :: tk t (pl + 1)
    else [(pl, .bad 1)]) := by
  have hl := at_lt h
  have hn : t.length - pl = (t.drop (pl + 1)).length + 1 := by rw [List.length_drop]; omega
  have e1 : tokensIn t.length (t.length - pl) (t.drop (pl + 1)) = tk t (pl + 1) := tk_to rfl (by omega) (by omega)
  have e2 : ∀ q : Nat → Bool, tokensIn t.length (t.length - pl) ((t.drop (pl + 1)).dropWhile q) = tk t (scan q t (pl + 1)) := fun q =>
    tk_to (scan_drop q t (pl + 1)) (scan_le q t (pl + 1) (by omega)) (by have := dropWhile_len q (t.drop (pl + 1)); omega)
  conv => lhs; unfold tk
  rw [drop_at h]
  simp only [tokensIn, e1, e2, place_is h, WORD]
end
end Tp
/-! What the tokens are, and what a read plan keeps. -/
namespace Tp
open Vatsld

/-- a token as it may be -/
def okTok : Tok → Prop
  | .word w => w.length ≤ 12
  | .num n => n ≤ 1000
  | _ => True
def okToks (ts : Toks) : Prop := ∀ x ∈ ts, okTok x.2

theorem okToks_drop {ts : Toks} (h : okToks ts) (n : Nat) : okToks (ts.drop n) := fun x hx => h x (List.mem_of_mem_drop hx)
theorem okToks_tail {x : Nat × Tok} {ts : Toks} (h : okToks (x :: ts)) : okToks ts := fun y hy => h y (List.mem_cons_of_mem _ hy)

theorem ok_tokensIn (w : Nat) : ∀ (k : Nat) (t : Text), okToks (tokensIn w k t)
  | 0, t => by
    intro x hx
    simp only [tokensIn, List.mem_singleton] at hx
    subst hx
    trivial
  | k + 1, [] => by
    intro x hx
    simp only [tokensIn, List.mem_singleton] at hx
    subst hx
    trivial
  | k + 1, c :: r => by
    have one : ∀ (p : Nat) (y : Tok), okTok y → okToks [(p, y)] := fun p y hy x hx => by
      rw [List.mem_singleton] at hx
      subst hx
      exact hy
    have two : ∀ (p : Nat) (y : Tok) (l : Toks), okTok y → okToks l → okToks ((p, y) :: l) := fun p y l hy hl x hx => by
      rcases List.mem_cons.mp hx with e | e
      · subst e
        exact hy
      · exact hl x e
    simp only [tokensIn]
    split
    · exact ok_tokensIn w k r
    split
    · exact ok_tokensIn w k _
    split
    · split
      · exact one _ _ trivial
      · rename_i h
        refine two _ _ _ ?_ (ok_tokensIn w k _)
        show _ ≤ 12
        have : WORD = 12 := rfl
        omega
    split
    · split
      · rename_i h
        refine two _ _ _ ?_ (ok_tokensIn w k _)
        unfold goodNumber at h
        rw [Bool.and_eq_true, decide_eq_true_eq] at h
        exact h.2
      · exact one _ _ trivial
    split
    · exact two _ _ _ trivial (ok_tokensIn w k r)
    · exact one _ _ trivial
theorem ok_tk (t : Text) (pl : Nat) : okToks (tk t pl) := ok_tokensIn _ _ _

/-- a plan as it may be -/
structure WF (p : Plan) : Prop where
  ng : p.groups.length ≤ 3
  nj : p.jobs.length ≤ 7
  gname : ∀ g ∈ p.groups, g.name.length ≤ 12
  gset : ∀ g ∈ p.groups, g.setup ≤ 1000
  jname : ∀ j ∈ p.jobs, j.name.length ≤ 12
  jcost : ∀ j ∈ p.jobs, j.cost ≤ 1000
  jcost1 : ∀ j ∈ p.jobs, 1 ≤ j.cost
  jch : ∀ j ∈ p.jobs, j.chance ≤ 100
  jgrp : ∀ j ∈ p.jobs, ∀ g, j.group = some g → g < p.groups.length
  jaft : ∀ (i : Nat) (j : Job), p.jobs[i]? = some j → ∀ k ∈ j.after_, k < i
  janod : ∀ j ∈ p.jobs, j.after_.Nodup

theorem wf_empty : WF emptyPlan := by
  constructor
  case jaft => intro i j h; simp [emptyPlan] at h
  all_goals first | (show (0 : Nat) ≤ _; omega) | (intro x hx; simp [emptyPlan] at hx)

theorem readName_ok {ts : Toks} (h : okToks ts) {p : Nat} {w : Text} {r : Toks} (e : readName ts = .ok ((p, w), r)) : w.length ≤ 12 ∧ r = ts.drop 1 ∧ ts.head? = some (p, .word w) := by
  cases ts with
  | nil => simp [readName] at e
  | cons x l =>
    obtain ⟨q, y⟩ := x
    cases y with
    | word v =>
      simp only [readName] at e
      split at e
      · cases e
      · cases e
        exact ⟨h (p, .word w) List.mem_cons_self, rfl, rfl⟩
    | num n => simp [readName] at e
    | sign c => simp [readName] at e
    | over => simp [readName] at e
    | bad k => simp [readName] at e
theorem readNum_ok {lo hi : Nat} {ts : Toks} {n : Nat} {r : Toks} (e : readNum lo hi ts = .ok (n, r)) : lo ≤ n ∧ n ≤ hi ∧ r = ts.drop 1 ∧ ∃ p, ts.head? = some (p, .num n) := by
  cases ts with
  | nil => simp [readNum] at e
  | cons x l =>
    obtain ⟨q, y⟩ := x
    cases y with
    | num v =>
      simp only [readNum] at e
      split at e
      · cases e
      · rename_i hh
        cases e
        exact ⟨by omega, by omega, rfl, q, rfl⟩
    | word n => simp [readNum] at e
    | sign c => simp [readNum] at e
    | over => simp [readNum] at e
    | bad k => simp [readNum] at e
theorem wantSign_ok {c : Nat} {ts r : Toks} (e : wantSign c ts = .ok r) : r = ts.drop 1 := by
  unfold wantSign at e
  split at e
  · cases e
    rfl
  · cases e
theorem wantWord_ok {c : String} {ts r : Toks} (e : wantWord c ts = .ok r) : r = ts.drop 1 := by
  unfold wantWord at e
  split at e
  · cases e
    rfl
  · cases e

theorem bind_ok {A B : Type} {x : Except Fault A} {f : A → Except Fault B} {b : B} (e : x.bind f = .ok b) : ∃ a, x = .ok a ∧ f a = .ok b := by
  cases x with
  | error y => cases e
  | ok a => exact ⟨a, rfl, e⟩
theorem map_ok {A B : Type} {x : Except Fault A} {f : A → B} {b : B} (e : x.map f = .ok b) : ∃ a, x = .ok a ∧ f a = b := by
  cases x with
  | error y => cases e
  | ok a => exact ⟨a, rfl, by cases e; rfl⟩

theorem findIdx_lt {α : Type} {q : α → Bool} {l : List α} {i : Nat} (e : l.findIdx? q = some i) : i < l.length := (List.findIdx?_eq_some_iff_findIdx_eq.mp e).1

theorem readAfter_ok (p : Plan) : ∀ (k : Nat) (l : List Nat) (ts : Toks) (a : List Nat) (r : Toks), okToks ts → (∀ i ∈ l, i < p.jobs.length) → l.Nodup → readAfter p k l ts = .ok (a, r) →
    (∀ i ∈ a, i < p.jobs.length) ∧ a.Nodup ∧ okToks r
  | 0, l, ts, a, r, _, _, _, e => by cases e
  | k + 1, l, ts, a, r, ho, hl, hn, e => by
    rw [readAfter] at e
    obtain ⟨w, ew, e⟩ := bind_ok e
    obtain ⟨⟨pl, nm⟩, rest⟩ := w
    obtain ⟨_, er, _⟩ := readName_ok ho ew
    cases hj : jobNamed p nm with
    | none =>
      simp only [hj] at e
      cases e
    | some i =>
      simp only [hj] at e
      split at e
      · cases e
      · rename_i hc
        have hi : i < p.jobs.length := findIdx_lt hj
        have hl2 : ∀ x ∈ l ++ [i], x < p.jobs.length := fun x hx => by
          rcases List.mem_append.mp hx with q | q
          · exact hl x q
          · rw [List.mem_singleton] at q
            subst q
            exact hi
        have hn2 : (l ++ [i]).Nodup := by
          rw [List.nodup_append]
          refine ⟨hn, by simp, fun x hx y hy => ?_⟩
          rw [List.mem_singleton] at hy
          subst hy
          intro z
          subst z
          simp at hc
          exact hc hx
        split at e
        · exact readAfter_ok p k (l ++ [i]) _ a r (okToks_drop (er ▸ okToks_drop ho 1) 1) hl2 hn2 e
        · cases e
          exact ⟨hl2, hn2, er ▸ okToks_drop ho 1⟩

theorem readGroup_ok {p : Plan} {ts : Toks} {q : Plan} {r : Toks} (h : WF p) (ho : okToks ts) (e : readGroup p ts = .ok (q, r)) :
    WF q ∧ okToks r ∧ q.groups.length = p.groups.length + 1 ∧ q.jobs = p.jobs := by
  unfold readGroup at e
  split at e
  · cases e
  rename_i hg
  have hg3 : GROUPS = 3 := rfl
  obtain ⟨⟨⟨pl, w⟩, r1⟩, e1, e⟩ := bind_ok e
  obtain ⟨hw, er1, _⟩ := readName_ok (okToks_drop ho 1) e1
  have o1 : okToks r1 := er1 ▸ okToks_drop (okToks_drop ho 1) 1
  split at e
  · cases e
  obtain ⟨⟨n, r2⟩, e2, e⟩ := bind_ok e
  obtain ⟨_, hn, er2, _⟩ := readNum_ok e2
  have o2 : okToks r2 := er2 ▸ okToks_drop o1 1
  obtain ⟨r3, e3, e⟩ := map_ok e
  have o3 : okToks r3 := wantSign_ok e3 ▸ okToks_drop o2 1
  cases e
  refine ⟨?_, o3, by simp, rfl⟩
  have hc : COST = 1000 := rfl
  constructor
  case ng => simp; omega
  case nj => exact h.nj
  case gname =>
    intro g hg'
    rcases List.mem_append.mp hg' with z | z
    · exact h.gname g z
    · rw [List.mem_singleton] at z; subst z; exact hw
  case gset =>
    intro g hg'
    rcases List.mem_append.mp hg' with z | z
    · exact h.gset g z
    · rw [List.mem_singleton] at z; subst z; show n ≤ 1000; omega
  case jgrp =>
    intro j hj g eg
    have := h.jgrp j hj g eg
    simp; omega
  case jaft => exact h.jaft
  all_goals first | exact h.jname | exact h.jcost | exact h.jcost1 | exact h.jch | exact h.janod

theorem readJob_ok {p : Plan} {ts : Toks} {q : Plan} {r : Toks} (h : WF p) (ho : okToks ts) (e : readJob p ts = .ok (q, r)) :
    WF q ∧ okToks r ∧ q.jobs.length = p.jobs.length + 1 ∧ q.groups = p.groups := by
  unfold readJob at e
  split at e
  · cases e
  rename_i hg
  have hg3 : JOBS = 7 := rfl
  obtain ⟨⟨⟨pl, w⟩, r1⟩, e1, e⟩ := bind_ok e
  obtain ⟨hw, er1, _⟩ := readName_ok (okToks_drop ho 1) e1
  have o1 : okToks r1 := er1 ▸ okToks_drop (okToks_drop ho 1) 1
  split at e
  · cases e
  obtain ⟨r2, e2, e⟩ := bind_ok e
  have o2 : okToks r2 := wantWord_ok e2 ▸ okToks_drop o1 1
  obtain ⟨⟨c, r3⟩, e3, e⟩ := bind_ok e
  obtain ⟨hc1, hc2, er3, _⟩ := readNum_ok e3
  have o3 : okToks r3 := er3 ▸ okToks_drop o2 1
  obtain ⟨r4, e4, e⟩ := bind_ok e
  have o4 : okToks r4 := wantWord_ok e4 ▸ okToks_drop o3 1
  obtain ⟨⟨ch, r5⟩, e5, e⟩ := bind_ok e
  obtain ⟨_, hch, er5, _⟩ := readNum_ok e5
  have o5 : okToks r5 := er5 ▸ okToks_drop o4 1
  obtain ⟨⟨g, r6⟩, e6, e⟩ := bind_ok e
  have h6 : (∀ k, g = some k → k < p.groups.length) ∧ okToks r6 := by
    split at e6
    · obtain ⟨⟨⟨pg, wg⟩, rg⟩, e7, e6⟩ := bind_ok e6
      obtain ⟨_, erg, _⟩ := readName_ok (okToks_drop o5 1) e7
      cases hgn : groupNamed p wg with
      | none => simp only [hgn] at e6; cases e6
      | some k =>
        simp only [hgn] at e6
        cases e6
        exact ⟨fun k' ek => (Option.some.inj ek) ▸ findIdx_lt hgn, erg ▸ okToks_drop (okToks_drop o5 1) 1⟩
    · cases e6
      exact ⟨(fun k (ek : none = some k) => by cases ek), o5⟩
  obtain ⟨⟨a, r7⟩, e7, e⟩ := bind_ok e
  have h7 : (∀ i ∈ a, i < p.jobs.length) ∧ a.Nodup ∧ okToks r7 := by
    split at e7
    · exact readAfter_ok p _ [] _ a r7 (okToks_drop h6.2 1) (fun i hi => by cases hi) List.nodup_nil e7
    · cases e7
      exact ⟨(fun i hi => by cases hi), List.nodup_nil, h6.2⟩
  obtain ⟨r8, e8, e⟩ := map_ok e
  have o8 : okToks r8 := wantSign_ok e8 ▸ okToks_drop h7.2.2 1
  cases e
  refine ⟨?_, o8, by simp, rfl⟩
  have hc : COST = 1000 := rfl
  have mem : ∀ {P : Job → Prop} (_ : ∀ j ∈ p.jobs, P j) (_ : P { name := w, cost := c, chance := ch, group := g, after_ := a }), ∀ j ∈ p.jobs ++ [{ name := w, cost := c, chance := ch, group := g, after_ := a }], P j := fun hP hN j hj => by
    rcases List.mem_append.mp hj with z | z
    · exact hP j z
    · rw [List.mem_singleton] at z; subst z; exact hN
  constructor
  case ng => exact h.ng
  case nj => simp; omega
  case gname => exact h.gname
  case gset => exact h.gset
  case jname => exact mem h.jname hw
  case jcost => exact mem h.jcost (by show c ≤ 1000; omega)
  case jcost1 => exact mem h.jcost1 hc1
  case jch => exact mem h.jch hch
  case jgrp => exact mem h.jgrp h6.1
  case jaft =>
    intro i j hj k hk
    by_cases hi : i < p.jobs.length
    · rw [List.getElem?_append_left hi] at hj
      exact h.jaft i j hj k hk
    · rw [List.getElem?_append_right (by omega)] at hj
      have hi2 : i - p.jobs.length = 0 := by
        cases e : i - p.jobs.length with
        | zero => rfl
        | succ m => rw [e] at hj; simp at hj
      rw [hi2] at hj
      cases hj
      have := h7.1 k hk
      omega
  case janod => exact mem h.janod h7.2.1

theorem readItems_ok : ∀ (n : Nat) (p : Plan) (ts : Toks) (q : Plan), WF p → okToks ts → readItems n p ts = .ok q → WF q
  | 0, p, ts, q, h, _, e => by
    rw [readItems] at e
    split at e
    · cases e; exact h
    · cases e
  | n + 1, p, ts, q, h, ho, e => by
    rw [readItems] at e
    split at e
    · cases e; exact h
    split at e
    · obtain ⟨⟨q1, r1⟩, e1, e⟩ := bind_ok e
      obtain ⟨h1, o1, _⟩ := readGroup_ok h ho e1
      exact readItems_ok n q1 r1 q h1 o1 e
    split at e
    · obtain ⟨⟨q1, r1⟩, e1, e⟩ := bind_ok e
      obtain ⟨h1, o1, _⟩ := readJob_ok h ho e1
      exact readItems_ok n q1 r1 q h1 o1 e
    · cases e
theorem readPlan_ok {t : Text} {p : Plan} (e : readPlan t = .ok p) : WF p := readItems_ok _ _ _ _ wf_empty (ok_tokensIn _ _ _) e

/-- a job of the plan, by its number -/
theorem jobAt_of {p : Plan} {i : Nat} {j : Job} (h : p.jobs[i]? = some j) : jobAt p i = j := by
  unfold jobAt
  rw [List.getD_eq_getElem?_getD, h]
  rfl
theorem job_there {p : Plan} {i : Nat} (h : i < p.jobs.length) : p.jobs[i]? = some (jobAt p i) := by
  rw [List.getElem?_eq_getElem h, jobAt_of (List.getElem?_eq_getElem h)]
theorem job_mem {p : Plan} {i : Nat} (h : i < p.jobs.length) : jobAt p i ∈ p.jobs := List.mem_of_getElem? (job_there h)
end Tp
/-! Orders: what is left, the best order by masks, the order by the rule. -/
namespace Tp
open Vatsld

/-- what is left of n tests, rising -/
def left (n : Nat) (done : List Nat) : List Nat := (List.range n).filter fun i => !done.contains i

theorem mem_left {n i : Nat} {done : List Nat} : i ∈ left n done ↔ i < n ∧ i ∉ done := by
  unfold left
  rw [List.mem_filter, List.mem_range]
  simp
theorem left_nil (n : Nat) : left n [] = List.range n := by
  unfold left
  rw [List.filter_eq_self]
  intro a _
  rfl
theorem left_more (n i : Nat) (done : List Nat) : ((left n done).filter fun j => j != i) = left n (done ++ [i]) := by
  unfold left
  rw [List.filter_filter]
  congr 1
  funext j
  by_cases h : j = i
  · subst h
    simp
  · have : (j != i) = true := by simp [h]
    simp [h]
theorem left_same {n : Nat} {d d' : List Nat} (h : ∀ x, x ∈ d ↔ x ∈ d') : left n d = left n d' := by
  unfold left
  congr 1
  funext j
  have : d.contains j = d'.contains j := by
    rw [Bool.eq_iff_iff]
    simp [h j]
  rw [this]
theorem left_nodup (n : Nat) (done : List Nat) : (left n done).Nodup := List.filter_sublist.nodup List.nodup_range
/-- taking one out -/
theorem filter_ne_len : ∀ {l : List Nat} {i : Nat}, l.Nodup → i ∈ l → (l.filter fun j => j != i).length + 1 = l.length
  | [], i, _, h => by cases h
  | a :: r, i, hn, h => by
    rw [List.nodup_cons] at hn
    by_cases e : a = i
    · subst e
      have z : (r.filter fun j => j != a) = r := by
        rw [List.filter_eq_self]
        intro b hb
        have : b ≠ a := fun z => hn.1 (z ▸ hb)
        simpa using this
      rw [List.filter_cons]
      simp [z]
    · have hi : i ∈ r := by
        rcases List.mem_cons.mp h with q | q
        · exact absurd q.symm e
        · exact q
      have ih := filter_ne_len hn.2 hi
      rw [List.filter_cons]
      have : (a != i) = true := by simp [e]
      rw [this, if_pos rfl, List.length_cons, List.length_cons, ih]
theorem left_len_more {n i : Nat} {done : List Nat} (h : i ∈ left n done) : (left n (done ++ [i])).length + 1 = (left n done).length := by
  rw [← left_more]
  exact filter_ne_len (left_nodup n done) h
/-- how many are left -/
theorem left_len : ∀ (n : Nat) (done : List Nat), done.Nodup → (∀ i ∈ done, i < n) → (left n done).length + done.length = n := by
  intro n done
  have key : ∀ (l : List Nat), (∀ (d : List Nat), (d ++ l).Nodup → (∀ i ∈ d ++ l, i < n) → (left n (d ++ l)).length + l.length = (left n d).length) := by
    intro l
    induction l with
    | nil => intro d _ _; simp
    | cons a l ih =>
      intro d hn hl
      have e : d ++ a :: l = (d ++ [a]) ++ l := by simp
      rw [e] at hn hl ⊢
      have h1 := ih (d ++ [a]) hn hl
      have ha : a ∈ left n d := by
        rw [mem_left]
        refine ⟨hl a (by simp), fun hd => ?_⟩
        rw [List.nodup_append] at hn
        have := hn.1
        rw [List.nodup_append] at this
        exact this.2.2 a hd a (by simp) rfl
      have h2 := left_len_more ha
      rw [List.length_cons]
      omega
  intro hn hl
  have h := key done [] (by simpa using hn) (by simpa using hl)
  rw [left_nil] at h
  simpa using h

/-- who may run next -/
theorem ready_mem {p : Plan} {done rest : List Nat} {i : Nat} : i ∈ readyIn p done rest ↔ i ∈ rest ∧ (jobAt p i).after_.all done.contains = true := by
  unfold readyIn
  rw [List.mem_filter]
theorem ready_same {p : Plan} {d d' rest : List Nat} (h : ∀ x, x ∈ d ↔ x ∈ d') : readyIn p d rest = readyIn p d' rest := by
  unfold readyIn
  congr 1
  funext i
  have : d.contains = d'.contains := by
    funext j
    rw [Bool.eq_iff_iff]
    simp [h j]
  rw [this]
/-- there is always one: the first that is left -/
theorem ready_some {p : Plan} (h : WF p) {done : List Nat} (hne : left p.jobs.length done ≠ []) : readyIn p done (left p.jobs.length done) ≠ [] := by
  cases e : left p.jobs.length done with
  | nil => exact absurd e hne
  | cons a r =>
    have ha : a ∈ left p.jobs.length done := by rw [e]; exact List.mem_cons_self
    have hlt := (mem_left.mp ha).1
    have small : ∀ k, k < a → k ∈ done := by
      intro k hk
      cases hc : done.contains k with
      | true => simpa using hc
      | false =>
        have hk2 : k ∉ done := by simpa using hc
        have hm : k ∈ left p.jobs.length done := mem_left.mpr ⟨by omega, hk2⟩
        have hs : (left p.jobs.length done).Pairwise (· < ·) := List.Pairwise.filter _ List.pairwise_lt_range
        rw [e] at hm hs
        rw [List.pairwise_cons] at hs
        rcases List.mem_cons.mp hm with z | z
        · omega
        · have := hs.1 k z
          omega
    have ra : a ∈ readyIn p done (a :: r) := by
      rw [ready_mem]
      refine ⟨List.mem_cons_self, ?_⟩
      rw [List.all_eq_true]
      intro k hk
      have := h.jaft a _ (job_there hlt) k hk
      simpa using small k this
    intro z
    rw [z] at ra
    cases ra

/-! ### the best order -/
theorem best_same (p : Plan) : ∀ (k : Nat) (last : Option Nat) (d d' rest : List Nat), (∀ x, x ∈ d ↔ x ∈ d') → bestFrom p k last d rest = bestFrom p k last d' rest
  | 0, _, _, _, _, _ => rfl
  | k + 1, last, d, d', rest, h => by
    rw [bestFrom, bestFrom, ready_same h]
    have : ∀ i, bestFrom p k (groupAfter p last i) (d ++ [i]) (rest.filter fun j => j != i) = bestFrom p k (groupAfter p last i) (d' ++ [i]) (rest.filter fun j => j != i) := fun i =>
      best_same p k _ _ _ _ (fun x => by simp [h x])
    simp only [this]

/-- one turn of the search -/
def pick (b : Option Found) (x : Found) : Option Found := match b with
  | none => some x
  | some y => if x.cost < y.cost then some x else some y
theorem least_fold (l : List Found) : least l = l.foldl pick none := rfl
theorem pick_some (b : Option Found) (x : Found) : ∃ y, pick b x = some y ∧ (y = x ∨ b = some y) := by
  cases b with
  | none => exact ⟨x, rfl, .inl rfl⟩
  | some y =>
    by_cases h : x.cost < y.cost
    · exact ⟨x, if_pos h, .inl rfl⟩
    · exact ⟨y, if_neg h, .inr rfl⟩
theorem fold_some : ∀ (l : List Found) (b : Option Found), (l ≠ [] ∨ b ≠ none) → ∃ y, l.foldl pick b = some y ∧ (y ∈ l ∨ b = some y)
  | [], b, h => by
    cases b with
    | none => exact absurd rfl (h.resolve_left (fun z => z rfl))
    | some y => exact ⟨y, rfl, .inr rfl⟩
  | x :: r, b, _ => by
    obtain ⟨y, e, hy⟩ := pick_some b x
    rw [List.foldl_cons, e]
    obtain ⟨z, ez, hz⟩ := fold_some r (some y) (.inr (by simp))
    refine ⟨z, ez, ?_⟩
    rcases hz with hz | hz
    · exact .inl (List.mem_cons_of_mem _ hz)
    · cases hz
      rcases hy with hy | hy
      · subst hy; exact .inl List.mem_cons_self
      · exact .inr hy

/-- what the best of what is left is, with i next -/
def nextBy (p : Plan) (k : Nat) (last : Option Nat) (done rest : List Nat) (i : Nat) : Found :=
  { cost := costFrom p last i * 100 ^ (k + 1) + (100 - (jobAt p i).chance) * (bestFrom p k (groupAfter p last i) (done ++ [i]) (rest.filter fun j => j != i)).cost,
    order := i :: (bestFrom p k (groupAfter p last i) (done ++ [i]) (rest.filter fun j => j != i)).order }
theorem best_eq (p : Plan) (k : Nat) (last : Option Nat) (done rest : List Nat) :
    bestFrom p (k + 1) last done rest = (((readyIn p done rest).map (nextBy p k last done rest)).foldl pick none).getD { cost := 0, order := [] } := rfl
theorem best_next {p : Plan} {k : Nat} {last : Option Nat} {done rest : List Nat} (h : readyIn p done rest ≠ []) : ∃ i ∈ readyIn p done rest, bestFrom p (k + 1) last done rest = nextBy p k last done rest i := by
  obtain ⟨y, e, hy⟩ := fold_some ((readyIn p done rest).map (nextBy p k last done rest)) none (.inl (by simpa using h))
  rcases hy with hy | hy
  · obtain ⟨i, hi, rfl⟩ := List.mem_map.mp hy
    exact ⟨i, hi, by rw [best_eq, e]; rfl⟩
  · cases hy

/-- the best of what is left behind some -/
def bestOf (p : Plan) (last : Option Nat) (done : List Nat) : Found := bestFrom p (left p.jobs.length done).length last done (left p.jobs.length done)
theorem bestOf_same {p : Plan} {last : Option Nat} {d d' : List Nat} (h : ∀ x, x ∈ d ↔ x ∈ d') : bestOf p last d = bestOf p last d' := by
  unfold bestOf
  rw [left_same h]
  exact best_same p _ _ _ _ _ h
theorem bestOf_none {p : Plan} {last : Option Nat} {done : List Nat} (h : left p.jobs.length done = []) : bestOf p last done = { cost := 0, order := [] } := by
  unfold bestOf
  rw [h]
  rfl
/-- the best with i next, by the best behind it -/
def nextOf (p : Plan) (last : Option Nat) (done : List Nat) (i : Nat) : Found :=
  { cost := costFrom p last i * 100 ^ (left p.jobs.length done).length + (100 - (jobAt p i).chance) * (bestOf p (groupAfter p last i) (done ++ [i])).cost, order := i :: (bestOf p (groupAfter p last i) (done ++ [i])).order }
theorem nextBy_is {p : Plan} {k : Nat} {last : Option Nat} {done : List Nat} {i : Nat} (hk : (left p.jobs.length done).length = k + 1) (hi : i ∈ left p.jobs.length done) :
    nextBy p k last done (left p.jobs.length done) i = nextOf p last done i := by
  have h1 := left_len_more hi
  have h2 : (left p.jobs.length (done ++ [i])).length = k := by omega
  unfold nextBy nextOf bestOf
  rw [left_more, h2, hk]
theorem ready_left {p : Plan} {done rest : List Nat} {i : Nat} (h : i ∈ readyIn p done rest) : i ∈ rest := (ready_mem.mp h).1
theorem bestOf_fold {p : Plan} {last : Option Nat} {done : List Nat} : bestOf p last done = (((readyIn p done (left p.jobs.length done)).map (nextOf p last done)).foldl pick none).getD { cost := 0, order := [] } := by
  cases hk : (left p.jobs.length done).length with
  | zero =>
    have e := List.length_eq_zero_iff.mp hk
    rw [bestOf_none e, e]
    rfl
  | succ k =>
    conv => lhs; unfold bestOf
    rw [hk, best_eq]
    congr 2
    refine List.map_congr_left fun i hi => nextBy_is hk (ready_left hi)
theorem bestOf_next {p : Plan} (h : WF p) {last : Option Nat} {done : List Nat} (hne : left p.jobs.length done ≠ []) : ∃ i ∈ readyIn p done (left p.jobs.length done), bestOf p last done = nextOf p last done i := by
  cases hk : (left p.jobs.length done).length with
  | zero => exact absurd (List.length_eq_zero_iff.mp hk) hne
  | succ k =>
    obtain ⟨i, hi, e⟩ := best_next (k := k) (last := last) (ready_some h hne)
    refine ⟨i, hi, ?_⟩
    rw [← nextBy_is hk (ready_left hi), ← e]
    unfold bestOf
    rw [hk]
theorem bestOrder_is (p : Plan) : bestOrder p = bestOf p none [] := by
  unfold bestOrder bestOf
  rw [left_nil, List.length_range]

/-- how long the best order is, and that its cost is the order's -/
theorem bestOf_len {p : Plan} (h : WF p) : ∀ (k : Nat) (last : Option Nat) (done : List Nat), (left p.jobs.length done).length = k → (bestOf p last done).order.length = k
  | 0, last, done, hk => by rw [bestOf_none (List.length_eq_zero_iff.mp hk)]; rfl
  | k + 1, last, done, hk => by
    obtain ⟨i, hi, e⟩ := bestOf_next h (last := last) (done := done) (fun z => by rw [z] at hk; cases hk)
    have h1 := left_len_more (ready_left hi)
    rw [e]
    show (bestOf p (groupAfter p last i) (done ++ [i])).order.length + 1 = k + 1
    rw [bestOf_len h k _ _ (by omega)]
theorem bestOf_cost {p : Plan} (h : WF p) : ∀ (k : Nat) (last : Option Nat) (done : List Nat), (left p.jobs.length done).length = k → expectedFrom p last (bestOf p last done).order = (bestOf p last done).cost
  | 0, last, done, hk => by rw [bestOf_none (List.length_eq_zero_iff.mp hk)]; rfl
  | k + 1, last, done, hk => by
    obtain ⟨i, hi, e⟩ := bestOf_next h (last := last) (done := done) (fun z => by rw [z] at hk; cases hk)
    have h1 := left_len_more (ready_left hi)
    have hk2 : (left p.jobs.length (done ++ [i])).length = k := by omega
    rw [e]
    show costFrom p last i * 100 ^ ((bestOf p (groupAfter p last i) (done ++ [i])).order.length + 1) + (100 - (jobAt p i).chance) * expectedFrom p (groupAfter p last i) (bestOf p (groupAfter p last i) (done ++ [i])).order = _
    rw [bestOf_len h k _ _ hk2, bestOf_cost h k _ _ hk2]
    show _ = costFrom p last i * 100 ^ (left p.jobs.length done).length + _
    rw [hk]
theorem bestOrder_cost {p : Plan} (h : WF p) : expectedOf p (bestOrder p).order = (bestOrder p).cost := by
  rw [bestOrder_is]
  exact bestOf_cost h _ none [] rfl

/-! ### the order by the rule -/
theorem firstBy_some {p : Plan} : ∀ {l : List Nat}, l ≠ [] → ∃ i ∈ l, firstBy p l = some i
  | [], h => absurd rfl h
  | a :: r, _ => by
    rw [firstBy]
    cases e : firstBy p r with
    | none => exact ⟨a, List.mem_cons_self, rfl⟩
    | some j =>
      by_cases hr : r = []
      · subst hr
        cases e
      · obtain ⟨i, hi, ei⟩ := firstBy_some (p := p) hr
        rw [e] at ei
        cases ei
        dsimp only
        split
        · exact ⟨j, List.mem_cons_of_mem _ hi, rfl⟩
        · exact ⟨a, List.mem_cons_self, rfl⟩
/-- one turn from the left -/
def firstStep (p : Plan) (b i : Nat) : Nat := if before (jobAt p i) (jobAt p b) then i else b

theorem before_iff (a b : Job) : before a b = true ↔ a.chance ≠ 0 ∧ (b.chance = 0 ∨ a.cost * b.chance < b.cost * a.chance) := by
  unfold before
  by_cases h : a.chance = 0
  · simp [h]
  · by_cases h2 : b.chance = 0
    · simp [h, h2]
    · simp [h, h2]
/-- as the program asks it -/
theorem before_prog (a b : Job) : ((a.chance ≠ 0 ∧ b.chance = 0) ∨ a.cost * b.chance < b.cost * a.chance) ↔ before a b = true := by
  rw [before_iff]
  by_cases h : a.chance = 0
  · simp [h]
  · by_cases h2 : b.chance = 0
    · simp [h, h2]
    · simp [h, h2]
theorem cross {a b c x y z : Nat} (hy : 0 < y) (h1 : a * y ≤ b * x) (h2 : b * z ≤ c * y) : a * z ≤ c * x := by
  have e1 : a * z * y ≤ c * x * y := by
    have q1 : a * y * z ≤ b * x * z := Nat.mul_le_mul_right z h1
    have q2 : b * z * x ≤ c * y * x := Nat.mul_le_mul_right x h2
    have r1 : a * z * y = a * y * z := Nat.mul_right_comm a z y
    have r2 : b * x * z = b * z * x := Nat.mul_right_comm b x z
    have r3 : c * y * x = c * x * y := Nat.mul_right_comm c y x
    omega
  exact Nat.le_of_mul_le_mul_right e1 hy
theorem cross_lt {a b c x y z : Nat} (h1 : a * y < b * x) (h2 : b * z ≤ c * y) (hz : 0 < z) : a * z < c * x := by
  cases x with
  | zero => simp at h1
  | succ x =>
    refine Nat.lt_of_not_le fun h => ?_
    have := cross (a := c) (b := a) (c := b) (x := z) (y := x + 1) (z := y) (by omega) h (Nat.le_of_lt h1)
    have k : c * y = b * z := Nat.le_antisymm this h2
    have e1 : a * y * z < b * (x + 1) * z := Nat.mul_lt_mul_of_pos_right h1 hz
    have e2 : c * (x + 1) * y ≤ a * z * y := Nat.mul_le_mul_right y h
    have r1 : a * z * y = a * y * z := Nat.mul_right_comm a z y
    have r2 : c * (x + 1) * y = c * y * (x + 1) := Nat.mul_right_comm c (x + 1) y
    have r3 : b * (x + 1) * z = b * z * (x + 1) := Nat.mul_right_comm b (x + 1) z
    rw [r2, k] at e2
    omega
/-- it is a strict ranking -/
theorem before_trans {a b c : Job} (h1 : before a b = true) (h2 : before b c = true) : before a c = true := by
  rw [before_iff] at *
  obtain ⟨ha, h1⟩ := h1
  obtain ⟨hb, h2⟩ := h2
  refine ⟨ha, ?_⟩
  rcases h1 with h1 | h1
  · exact absurd h1 hb
  rcases h2 with h2 | h2
  · exact .inl h2
  by_cases hc : c.chance = 0
  · exact .inl hc
  · exact .inr (cross_lt h1 (Nat.le_of_lt h2) (by omega))
theorem before_not {a b c : Job} (h1 : before b a = false) (h2 : before c b = false) : before c a = false := by
  rw [Bool.eq_false_iff] at *
  intro h
  rw [Ne, before_iff] at h1 h2
  rw [before_iff] at h
  obtain ⟨hc, h⟩ := h
  have q2 : b.chance ≠ 0 ∧ b.cost * c.chance ≤ c.cost * b.chance := by
    by_cases hb : b.chance = 0
    · exact absurd ⟨hc, .inl hb⟩ h2
    · exact ⟨hb, Nat.le_of_not_lt fun z => h2 ⟨hc, .inr z⟩⟩
  have q1 : a.chance ≠ 0 ∧ a.cost * b.chance ≤ b.cost * a.chance := by
    by_cases ha : a.chance = 0
    · exact absurd ⟨q2.1, .inl ha⟩ h1
    · exact ⟨ha, Nat.le_of_not_lt fun z => h1 ⟨q2.1, .inr z⟩⟩
  rcases h with h | h
  · exact q1.1 h
  · have := cross (a := a.cost) (b := b.cost) (c := c.cost) (x := a.chance) (y := b.chance) (z := c.chance) (by have := q2.1; omega) q1.2 q2.2
    omega
/-- from the left and from the right the same one is found -/
theorem first_fold (p : Plan) : ∀ (r : List Nat) (a : Nat), firstBy p (a :: r) = some (r.foldl (firstStep p) a)
  | [], a => rfl
  | b :: r, a => by
    have ih := first_fold p r b
    have iha := first_fold p r
    -- the rest's own first, as the fold finds it
    rw [firstBy, ih]
    dsimp only
    rw [List.foldl_cons]
    have key : ∀ (r : List Nat) (a b : Nat), (if before (jobAt p (r.foldl (firstStep p) b)) (jobAt p a) = true then r.foldl (firstStep p) b else a) = r.foldl (firstStep p) (firstStep p a b) := by
      intro r
      induction r with
      | nil => intro a b; rfl
      | cons c r ih2 =>
        intro a b
        rw [List.foldl_cons, List.foldl_cons]
        rw [← ih2 (firstStep p a b) c, ← ih2 b c]
        unfold firstStep
        generalize List.foldl _ c r = f
        by_cases h1 : before (jobAt p f) (jobAt p b) = true
        · rw [if_pos h1]
          by_cases h2 : before (jobAt p b) (jobAt p a) = true
          · rw [if_pos (before_trans h1 h2), if_pos h2, if_pos h1]
          · rw [if_neg h2]
        · rw [if_neg h1]
          by_cases h2 : before (jobAt p b) (jobAt p a) = true
          · rw [if_pos h2, if_neg h1]
          · have : before (jobAt p f) (jobAt p a) = false := before_not (Bool.eq_false_iff.mpr h2) (Bool.eq_false_iff.mpr h1)
            rw [if_neg h2, if_neg (by rw [this]; exact Bool.false_ne_true)]
    have h := key r a b
    rw [← h]
    split <;> rfl
/-- the order by the rule, behind some -/
def ruleOf (p : Plan) (done : List Nat) : List Nat := simpleFrom p (left p.jobs.length done).length done (left p.jobs.length done)
theorem ruleOf_none {p : Plan} {done : List Nat} (h : left p.jobs.length done = []) : ruleOf p done = [] := by
  unfold ruleOf
  rw [h]
  rfl
theorem ruleOf_next {p : Plan} {done : List Nat} {i : Nat} (h : firstBy p (readyIn p done (left p.jobs.length done)) = some i) (hi : i ∈ left p.jobs.length done) : ruleOf p done = i :: ruleOf p (done ++ [i]) := by
  have h1 := left_len_more hi
  unfold ruleOf
  cases hk : (left p.jobs.length done).length with
  | zero => omega
  | succ k =>
    rw [simpleFrom, h]
    dsimp only
    rw [left_more]
    have h2 : (left p.jobs.length (done ++ [i])).length = k := by omega
    rw [h2]
theorem simpleOrder_is (p : Plan) : simpleOrder p = ruleOf p [] := by
  unfold simpleOrder ruleOf
  rw [left_nil, List.length_range]
end Tp
/-! Tests as bits; lists that are orders; an order's cost from behind. -/
namespace Tp
open Vatsld

/-! ### bits -/
def maskOf (l : List Nat) : Nat := (l.map fun i => 2 ^ i).sum
theorem add_bit : ∀ (a x i : Nat), x.testBit a = false → (x + 2 ^ a).testBit i = (x.testBit i || i == a)
  | 0, x, i, h => by
    rw [Nat.testBit_zero] at h
    have h0 : x % 2 = 0 := by
      have := Nat.mod_two_eq_zero_or_one x
      simp at h
      omega
    cases i with
    | zero =>
      rw [Nat.testBit_zero, Nat.testBit_zero]
      have : (x + 2 ^ 0) % 2 = 1 := by simp; omega
      simp [this]
    | succ i =>
      rw [Nat.testBit_succ, Nat.testBit_succ]
      have : (x + 2 ^ 0) / 2 = x / 2 := by simp; omega
      rw [this]
      simp
  | a + 1, x, i, h => by
    rw [Nat.testBit_succ] at h
    have hp : 2 ^ (a + 1) = 2 * 2 ^ a := by rw [Nat.pow_succ]; omega
    cases i with
    | zero =>
      rw [Nat.testBit_zero, Nat.testBit_zero]
      have : (x + 2 ^ (a + 1)) % 2 = x % 2 := by rw [hp]; omega
      rw [this]
      simp
    | succ i =>
      rw [Nat.testBit_succ, Nat.testBit_succ]
      have : (x + 2 ^ (a + 1)) / 2 = x / 2 + 2 ^ a := by rw [hp]; omega
      rw [this, add_bit a (x / 2) i h]
      simp
theorem mask_bit : ∀ {l : List Nat}, l.Nodup → ∀ i, (maskOf l).testBit i = l.contains i
  | [], _, i => by simp [maskOf]
  | a :: r, h, i => by
    rw [List.nodup_cons] at h
    have ih := mask_bit h.2
    have e : maskOf (a :: r) = maskOf r + 2 ^ a := by
      unfold maskOf
      rw [List.map_cons, List.sum_cons]
      omega
    rw [e, add_bit a _ i (by rw [ih]; simpa using h.1), ih, List.contains_cons, Bool.or_comm]
theorem mask_perm_more (l : List Nat) (i : Nat) : maskOf (l ++ [i]) = maskOf l + 2 ^ i := by
  unfold maskOf
  rw [List.map_append, List.sum_append]
  simp
/-- the tests whose bits a mask has -/
def ranOf (n m : Nat) : List Nat := (List.range n).filter fun i => m.testBit i
theorem ran_mem {n m i : Nat} : i ∈ ranOf n m ↔ i < n ∧ m.testBit i = true := by
  unfold ranOf
  rw [List.mem_filter, List.mem_range]
theorem ran_nodup (n m : Nat) : (ranOf n m).Nodup := List.filter_sublist.nodup List.nodup_range
theorem mask_lt {n : Nat} {l : List Nat} (h : l.Nodup) (hl : ∀ i ∈ l, i < n) : maskOf l < 2 ^ n := by
  refine Nat.lt_pow_two_of_testBit _ fun i hi => ?_
  rw [mask_bit h]
  cases e : l.contains i with
  | false => rfl
  | true =>
    have : i ∈ l := by simpa using e
    have := hl i this
    omega
theorem mask_ran {n m : Nat} (h : m < 2 ^ n) : maskOf (ranOf n m) = m := by
  refine Nat.eq_of_testBit_eq fun i => ?_
  rw [mask_bit (ran_nodup n m)]
  by_cases hi : i < n
  · rw [Bool.eq_iff_iff]
    simp [ran_mem, hi]
  · have : m.testBit i = false := Nat.testBit_lt_two_pow (Nat.lt_of_lt_of_le h (Nat.pow_le_pow_right (by omega) (by omega)))
    rw [this]
    cases e : (ranOf n m).contains i with
    | false => rfl
    | true =>
      have : i ∈ ranOf n m := by simpa using e
      exact absurd (ran_mem.mp this).1 hi
/-- a list's mask tells its members -/
theorem ran_mask {n : Nat} {l : List Nat} (h : l.Nodup) (hl : ∀ i ∈ l, i < n) : ∀ x, x ∈ ranOf n (maskOf l) ↔ x ∈ l := fun x => by
  rw [ran_mem, mask_bit h]
  constructor
  · rintro ⟨_, e⟩
    simpa using e
  · intro e
    exact ⟨hl x e, by simpa using e⟩
theorem mask_or {l : List Nat} {i : Nat} (h : l.Nodup) (hi : i ∉ l) : maskOf l ||| 2 ^ i = maskOf (l ++ [i]) := by
  have hn : (l ++ [i]).Nodup := by
    rw [List.nodup_append]
    refine ⟨h, by simp, fun x hx y hy => ?_⟩
    rw [List.mem_singleton] at hy
    subst hy
    intro z
    subst z
    exact hi hx
  refine Nat.eq_of_testBit_eq fun j => ?_
  rw [Nat.testBit_or, mask_bit h, mask_bit hn, Nat.testBit_two_pow, Bool.eq_iff_iff]
  simp
  constructor
  · rintro (z | z)
    · exact .inl z
    · exact .inr z.symm
  · rintro (z | z)
    · exact .inl z
    · exact .inr z.symm

/-- what the table holds at a mask and a group -/
def cellOf (p : Plan) (last : Option Nat) (m : Nat) : Found := bestOf p last (ranOf p.jobs.length m)
theorem cell_full {p : Plan} {m : Nat} (h : m < 2 ^ p.jobs.length) (hm : ¬ m + 1 < 2 ^ p.jobs.length) : left p.jobs.length (ranOf p.jobs.length m) = [] := by
  have e : m = 2 ^ p.jobs.length - 1 := by omega
  cases hl : left p.jobs.length (ranOf p.jobs.length m) with
  | nil => rfl
  | cons a r =>
    have ha : a ∈ left p.jobs.length (ranOf p.jobs.length m) := by rw [hl]; exact List.mem_cons_self
    obtain ⟨h1, h2⟩ := mem_left.mp ha
    refine absurd (ran_mem.mpr ⟨h1, ?_⟩) h2
    rw [e, Nat.testBit_two_pow_sub_one]
    simpa using h1
/-- the cell behind a test more -/
theorem cell_more {p : Plan} {last : Option Nat} {m i : Nat} (hm : m < 2 ^ p.jobs.length) (hi : i ∈ left p.jobs.length (ranOf p.jobs.length m)) :
    m ||| 2 ^ i < 2 ^ p.jobs.length ∧ m < m ||| 2 ^ i ∧ bestOf p last (ranOf p.jobs.length m ++ [i]) = cellOf p last (m ||| 2 ^ i) := by
  obtain ⟨h1, h2⟩ := mem_left.mp hi
  have hn := ran_nodup p.jobs.length m
  have e := mask_ran hm
  have eo : m ||| 2 ^ i = maskOf (ranOf p.jobs.length m ++ [i]) := by
    rw [← mask_or hn h2, e]
  have hl : ∀ x ∈ ranOf p.jobs.length m ++ [i], x < p.jobs.length := fun x hx => by
    rcases List.mem_append.mp hx with z | z
    · exact (ran_mem.mp z).1
    · rw [List.mem_singleton] at z
      omega
  have hn2 : (ranOf p.jobs.length m ++ [i]).Nodup := by
    rw [List.nodup_append]
    refine ⟨hn, by simp, fun x hx y hy => ?_⟩
    rw [List.mem_singleton] at hy
    subst hy
    intro z
    subst z
    exact h2 hx
  refine ⟨by rw [eo]; exact mask_lt hn2 hl, ?_, ?_⟩
  · rw [eo, mask_perm_more, e]
    have := Nat.two_pow_pos i
    omega
  · unfold cellOf
    rw [eo]
    exact bestOf_same fun x => (ran_mask hn2 hl x).symm

/-! ### which lists are orders -/
theorem toNats_ints (l : List Nat) : toNats (toInts l) = l := by
  unfold toNats toInts
  rw [List.map_map]
  exact List.map_id'' (fun x => by simp) l
theorem ints_toNats {n : Nat} {o : List Int} (h : isRow n o = true) : toInts (toNats o) = o := by
  unfold toNats toInts
  rw [List.map_map]
  conv => rhs; rw [← List.map_id o]
  refine List.map_congr_left fun x hx => ?_
  unfold isRow at h
  rw [List.all_eq_true] at h
  have := h x hx
  simp at this
  simp
  omega
theorem row_lt {n : Nat} {o : List Int} (h : isRow n o = true) : ∀ i ∈ toNats o, i < n := fun i hi => by
  unfold toNats at hi
  obtain ⟨x, hx, rfl⟩ := List.mem_map.mp hi
  unfold isRow at h
  rw [List.all_eq_true] at h
  have := h x hx
  simp at this
  omega
theorem row_ints {n : Nat} {l : List Nat} (h : ∀ i ∈ l, i < n) : isRow n (toInts l) = true := by
  unfold isRow toInts
  rw [List.all_eq_true]
  intro x hx
  obtain ⟨i, hi, rfl⟩ := List.mem_map.mp hx
  have := h i hi
  simp
  omega
theorem len_toNats (o : List Int) : (toNats o).length = o.length := by unfold toNats; rw [List.length_map]

/-- as many as a set without doubles and all of it: a rearrangement -/
theorem perm_of_all : ∀ {l o : List Nat}, l.Nodup → (∀ x ∈ l, x ∈ o) → o.length = l.length → o.Perm l
  | [], o, _, _, h => by
    have : o = [] := List.length_eq_zero_iff.mp h
    subst this
    exact .nil
  | a :: r, o, hn, ha, hl => by
    rw [List.nodup_cons] at hn
    have hm : a ∈ o := ha a List.mem_cons_self
    have hp := List.perm_cons_erase hm
    have hlen : (o.erase a).length = r.length := by
      rw [List.length_erase_of_mem hm, hl]
      rfl
    have hin : ∀ x ∈ r, x ∈ o.erase a := fun x hx => by
      have hne : x ≠ a := fun z => hn.1 (z ▸ hx)
      exact (List.mem_erase_of_ne hne).mpr (ha x (List.mem_cons_of_mem _ hx))
    exact hp.trans ((perm_of_all hn.2 hin hlen).cons a)
theorem order_perm {n : Nat} {o : List Int} : (isRow n o && ((toNats o).length == n && (List.range n).all (toNats o).contains)) = true ↔ o.Perm (toInts (List.range n)) := by
  constructor
  · intro h
    rw [Bool.and_eq_true, Bool.and_eq_true] at h
    obtain ⟨h1, h2, h3⟩ := h
    rw [List.all_eq_true] at h3
    have h4 : ∀ x ∈ List.range n, x ∈ toNats o := fun x hx => by simpa using h3 x hx
    have := perm_of_all List.nodup_range h4 (by rw [List.length_range]; simpa using h2)
    have q := this.map (fun (k : Nat) => (k : Int))
    have e : (toNats o).map (fun (k : Nat) => (k : Int)) = o := ints_toNats h1
    rw [e] at q
    exact q
  · intro h
    have h1 : isRow n o = true := by
      unfold isRow
      rw [List.all_eq_true]
      intro x hx
      have hx' := h.mem_iff.mp hx
      unfold toInts at hx'
      obtain ⟨i, hi, rfl⟩ := List.mem_map.mp hx'
      have := List.mem_range.mp hi
      simp
      omega
    have h2 : (toNats o).length = n := by
      rw [len_toNats, h.length_eq]
      unfold toInts
      rw [List.length_map, List.length_range]
    have hq : (toNats o).Perm (List.range n) := by
      have := h.map Int.toNat
      rw [show (toInts (List.range n)).map Int.toNat = List.range n from toNats_ints _] at this
      exact this
    rw [Bool.and_eq_true, Bool.and_eq_true]
    refine ⟨h1, by simpa using h2, ?_⟩
    rw [List.all_eq_true]
    intro x hx
    have := hq.mem_iff.mpr hx
    simpa using this

/-- each behind those behind which it must run, as the program goes through them -/
def follows (p : Plan) : List Nat → List Nat → Bool
  | _, [] => true
  | ran, i :: r => (jobAt p i).after_.all ran.contains && follows p (ran ++ [i]) r
theorem follows_zip (p : Plan) : ∀ (o pre : List Nat), ((o.zipIdx pre.length).all fun z => (jobAt p z.1).after_.all fun j => ((pre ++ o).take z.2).contains j) = follows p pre o
  | [], pre => rfl
  | a :: r, pre => by
    rw [List.zipIdx_cons, List.all_cons, follows]
    have e1 : (pre ++ a :: r).take pre.length = pre := List.take_left
    have e2 : pre ++ a :: r = (pre ++ [a]) ++ r := by simp
    have e3 : pre.length + 1 = (pre ++ [a]).length := by simp
    have ih := follows_zip p r (pre ++ [a])
    dsimp only
    rw [e1, e3, e2, ih]
theorem isOrder_is (p : Plan) (o : List Nat) : isOrder p o = ((o.length == p.jobs.length && (List.range p.jobs.length).all o.contains) && follows p [] o) := by
  unfold isOrder
  have := follows_zip p o []
  simp only [List.length_nil, List.nil_append] at this
  rw [this]

/-! ### an order's cost from behind -/
def lastAt (p : Plan) (o : List Nat) (k : Nat) : Option Nat := (o.take k).foldl (groupAfter p) none
theorem take_one {α : Type} {l : List α} {k : Nat} {x : α} (h : l[k]? = some x) : l.take (k + 1) = l.take k ++ [x] := by
  rw [List.take_add_one, h]
  rfl
theorem lastAt_more {p : Plan} {o : List Nat} {k i : Nat} (h : o[k]? = some i) : lastAt p o (k + 1) = groupAfter p (lastAt p o k) i := by
  unfold lastAt
  rw [take_one h, List.foldl_append]
  rfl
def costAt (p : Plan) (o : List Nat) (k : Nat) : Nat := expectedFrom p (lastAt p o k) (o.drop k)
theorem costAt_end (p : Plan) (o : List Nat) : costAt p o o.length = 0 := by
  unfold costAt
  rw [List.drop_length]
  rfl
theorem costAt_step {p : Plan} {o : List Nat} {k i : Nat} (h : o[k]? = some i) :
    costAt p o k = costFrom p (lastAt p o k) i * 100 ^ (o.length - k) + (100 - (jobAt p i).chance) * costAt p o (k + 1) := by
  obtain ⟨hl, e⟩ := List.getElem?_eq_some_iff.mp h
  unfold costAt
  rw [List.drop_eq_getElem_cons hl, e, expectedFrom, lastAt_more h, List.length_drop]
  congr 3
  omega
theorem costAt_all (p : Plan) (o : List Nat) : costAt p o 0 = expectedOf p o := rfl
end Tp
/-! The plan and its kin in the heap. -/
namespace Tp
open PySem PySem.Spec PyProof.Rows L2
open PySem.W (Codec)

/-! ### the texts' names are different ones -/
theorem lk_here {k : Str} {v : V} {r : List (Str × V)} : List.lookup k ((k, v) :: r) = some v := by
  have e : (k == k) = true := beq_self_eq_true k
  simp only [List.lookup, e]
theorem lk_past {k g : Str} {v : V} {r : List (Str × V)} (h : (k == g) = false) : List.lookup k ((g, v) :: r) = List.lookup k r := by
  simp only [List.lookup, h]
theorem put_here {f : Str} {v x : V} {r : List (Str × V)} : putF f v ((f, x) :: r) = (f, v) :: r := if_pos rfl
theorem put_past {f g : Str} {v x : V} {r : List (Str × V)} (h : ¬ g = f) : putF f v ((g, x) :: r) = (g, x) :: putF f v r := if_neg h

/-- where the classes stand -/
structure Ad where
  (cFault cGroup cTest cPlan cToken cReader cHolder cCallReader tGaps tKeys tCalls pChoice pWay : Addr)

/-! ### texts, numbers -/
def strOf (w : List Nat) : Str := ⟨w.toArray⟩
theorem strOf_inj {a b : List Nat} : strOf a = strOf b ↔ a = b := by
  constructor
  · intro h
    have := congrArg (fun s : Str => s.cps.toList) h
    simpa [strOf] using this
  · intro h
    rw [h]
theorem strOf_len (w : List Nat) : (strOf w).length = w.length := by
  show w.toArray.size = w.length
  simp
def natsV (l : List Nat) : List V := l.map fun (n : Nat) => V.int (n : Int)
theorem natsV_get {l : List Nat} {i n : Nat} (h : l[i]? = some n) : (natsV l)[i]? = some (.int (n : Int)) := by
  unfold natsV
  rw [List.getElem?_map, h]
  rfl
theorem natsV_len (l : List Nat) : (natsV l).length = l.length := by unfold natsV; rw [List.length_map]
/-- a group's number, or None -/
def optV : Option Nat → V
  | none => .non
  | some g => .int (g : Int)
theorem optV_inj {a b : Option Nat} : optV a = optV b ↔ a = b := by
  cases a <;> cases b <;> simp [optV] <;> omega

/-! ### objects -/
def grF (g : Vatsld.Group) : List (Str × V) := [("name", .str (strOf g.name)), ("setup", .int (g.setup : Int))]
def teF (j : Vatsld.Job) (la : Addr) : List (Str × V) := [("name", .str (strOf j.name)), ("cost", .int (j.cost : Int)), ("chance", .int (j.chance : Int)), ("group", optV j.group), ("after", .ref la)]
def plF (lg lt : Addr) : List (Str × V) := [("groups", .ref lg), ("tests", .ref lt)]
def GroupAt (A : Ad) (H : Hp) (a : Addr) (g : Vatsld.Group) : Prop := ∃ dx, H a = some (.ins A.cGroup dx (grF g))
def TestAt (A : Ad) (H : Hp) (a : Addr) (j : Vatsld.Job) : Prop := ∃ dx la, H a = some (.ins A.cTest dx (teF j la)) ∧ H la = some (.lst (natsV j.after_))
/-- a list of objects, one for each item -/
def Each {α : Type} (At : Addr → α → Prop) (vs : List V) (xs : List α) : Prop := vs.length = xs.length ∧ ∀ (i : Nat) (x : α), xs[i]? = some x → ∃ q, vs[i]? = some (.ref q) ∧ At q x
def PlanAt (A : Ad) (H : Hp) (a : Addr) (p : Vatsld.Plan) : Prop := ∃ dx lg lt gs ts, H a = some (.ins A.cPlan dx (plF lg lt)) ∧ H lg = some (.lst gs) ∧ H lt = some (.lst ts) ∧
  Each (GroupAt A H) gs p.groups ∧ Each (TestAt A H) ts p.jobs

theorem Each.mono {α : Type} {At At' : Addr → α → Prop} {vs : List V} {xs : List α} (h : Each At vs xs) (m : ∀ q x, At q x → At' q x) : Each At' vs xs :=
  ⟨h.1, fun i x e => let ⟨q, e1, e2⟩ := h.2 i x e; ⟨q, e1, m q x e2⟩⟩
theorem Each.nil {α : Type} {At : Addr → α → Prop} : Each At [] [] := ⟨rfl, fun i x e => by simp at e⟩
theorem Each.more {α : Type} {At : Addr → α → Prop} {vs : List V} {xs : List α} {q : Addr} {x : α} (h : Each At vs xs) (n : At q x) : Each At (vs ++ [.ref q]) (xs ++ [x]) := by
  refine ⟨by rw [List.length_append, List.length_append, h.1]; rfl, fun i y e => ?_⟩
  by_cases hi : i < xs.length
  · rw [List.getElem?_append_left hi] at e
    obtain ⟨r, e1, e2⟩ := h.2 i y e
    exact ⟨r, by rw [List.getElem?_append_left (by rw [h.1]; exact hi)]; exact e1, e2⟩
  · rw [List.getElem?_append_right (by omega)] at e
    have hz : i - xs.length = 0 := by
      cases k : i - xs.length with
      | zero => rfl
      | succ m => rw [k] at e; simp at e
    rw [hz] at e
    have hx : y = x := by simpa using e.symm
    subst hx
    refine ⟨q, ?_, n⟩
    rw [List.getElem?_append_right (by rw [h.1]; omega), h.1, hz]
    rfl
theorem GroupAt.mono {A : Ad} {H H' : Hp} {a : Addr} {g : Vatsld.Group} (s : Same H H') (h : GroupAt A H a g) : GroupAt A H' a g := let ⟨dx, e⟩ := h; ⟨dx, s _ _ e⟩
theorem TestAt.mono {A : Ad} {H H' : Hp} {a : Addr} {j : Vatsld.Job} (s : Same H H') (h : TestAt A H a j) : TestAt A H' a j := let ⟨dx, la, e, e2⟩ := h; ⟨dx, la, s _ _ e, s _ _ e2⟩
theorem PlanAt.mono {A : Ad} {H H' : Hp} {a : Addr} {p : Vatsld.Plan} (s : Same H H') (h : PlanAt A H a p) : PlanAt A H' a p :=
  let ⟨dx, lg, lt, gs, ts, e1, e2, e3, e4, e5⟩ := h
  ⟨dx, lg, lt, gs, ts, s _ _ e1, s _ _ e2, s _ _ e3, e4.mono fun _ _ z => z.mono s, e5.mono fun _ _ z => z.mono s⟩

/-! ### field by field -/
theorem grF_name (g : Vatsld.Group) : (grF g).lookup ("name" : Str) = some (.str (strOf g.name)) := lk_here
theorem grF_setup (g : Vatsld.Group) : (grF g).lookup ("setup" : Str) = some (.int (g.setup : Int)) := (lk_past (by decide +kernel)).trans lk_here
theorem teF_name (j : Vatsld.Job) (la : Addr) : (teF j la).lookup ("name" : Str) = some (.str (strOf j.name)) := lk_here
theorem teF_cost (j : Vatsld.Job) (la : Addr) : (teF j la).lookup ("cost" : Str) = some (.int (j.cost : Int)) := (lk_past (by decide +kernel)).trans lk_here
theorem teF_chance (j : Vatsld.Job) (la : Addr) : (teF j la).lookup ("chance" : Str) = some (.int (j.chance : Int)) := (lk_past (by decide +kernel)).trans ((lk_past (by decide +kernel)).trans lk_here)
theorem teF_group (j : Vatsld.Job) (la : Addr) : (teF j la).lookup ("group" : Str) = some (optV j.group) := (lk_past (by decide +kernel)).trans ((lk_past (by decide +kernel)).trans ((lk_past (by decide +kernel)).trans lk_here))
theorem teF_after (j : Vatsld.Job) (la : Addr) : (teF j la).lookup ("after" : Str) = some (.ref la) := (lk_past (by decide +kernel)).trans ((lk_past (by decide +kernel)).trans ((lk_past (by decide +kernel)).trans ((lk_past (by decide +kernel)).trans lk_here)))
theorem plF_groups (lg lt : Addr) : (plF lg lt).lookup ("groups" : Str) = some (.ref lg) := lk_here
theorem plF_tests (lg lt : Addr) : (plF lg lt).lookup ("tests" : Str) = some (.ref lt) := (lk_past (by decide +kernel)).trans lk_here

/-! ### what the top has written -/
structure Txt (K : PySem.W.Frag) (mg : Str → Option Value) (A : Ad) : Prop where
  cGroup : Cls K A.cGroup
  cTest : Cls K A.cTest
  cPlan : Cls K A.cPlan
  n_g_name : NoAttr K A.cGroup "name"
  n_g_setup : NoAttr K A.cGroup "setup"
  n_t_name : NoAttr K A.cTest "name"
  n_t_cost : NoAttr K A.cTest "cost"
  n_t_chance : NoAttr K A.cTest "chance"
  n_t_group : NoAttr K A.cTest "group"
  n_t_after : NoAttr K A.cTest "after"
  n_p_groups : NoAttr K A.cPlan "groups"
  n_p_tests : NoAttr K A.cPlan "tests"
  k_STRANGE_BYTE : ∃ t, mg "STRANGE_BYTE" = some (Value.int 1 t)
  k_BAD_TOKEN : ∃ t, mg "BAD_TOKEN" = some (Value.int 2 t)
  k_MISPLACED : ∃ t, mg "MISPLACED" = some (Value.int 3 t)
  k_UNENDED : ∃ t, mg "UNENDED" = some (Value.int 4 t)
  k_TOO_MANY : ∃ t, mg "TOO_MANY" = some (Value.int 5 t)
  k_REPEATED : ∃ t, mg "REPEATED" = some (Value.int 6 t)
  k_UNKNOWN : ∃ t, mg "UNKNOWN" = some (Value.int 7 t)
  k_OUT_OF_RANGE : ∃ t, mg "OUT_OF_RANGE" = some (Value.int 8 t)
  k_HUNDRED : ∃ t, mg "HUNDRED" = some (Value.int 100 t)
  k_WORD : ∃ t, mg "WORD" = some (Value.str "word" t)
  k_NUMBER : ∃ t, mg "NUMBER" = some (Value.str "number" t)
  k_SIGN : ∃ t, mg "SIGN" = some (Value.str "sign" t)
  k_END : ∃ t, mg "END" = some (Value.str "end" t)
  k_LETTERS : ∃ t, mg "LETTERS" = some (Value.str "abcdefghijklmnopqrstuvwxyz" t)
  k_DIGITS : ∃ t, mg "DIGITS" = some (Value.str "0123456789" t)
  k_LINE_FEED : ∃ t, mg "LINE_FEED" = some (Value.int 10 t)
  k_LONGEST_WORD : ∃ t, mg "LONGEST_WORD" = some (Value.int 12 t)
  k_LONGEST_NUMBER : ∃ t, mg "LONGEST_NUMBER" = some (Value.int 4 t)
  k_GREATEST_NUMBER : ∃ t, mg "GREATEST_NUMBER" = some (Value.int 1000 t)
  k_MOST_GROUPS : ∃ t, mg "MOST_GROUPS" = some (Value.int 3 t)
  k_MOST_TESTS : ∃ t, mg "MOST_TESTS" = some (Value.int 7 t)
  k_MOST_CHANCE : ∃ t, mg "MOST_CHANCE" = some (Value.int 100 t)
  k_LONGEST_TEXT : ∃ t, mg "LONGEST_TEXT" = some (Value.int 4096 t)
  k_GREATEST_BYTE : ∃ t, mg "GREATEST_BYTE" = some (Value.int 255 t)
  k_NO_BYTE : ∃ t, mg "NO_BYTE" = some (Value.int (-1) t)
  k_TOO_LONG : ∃ t, mg "TOO_LONG" = some (Value.int (-2) t)
  k_BAD_NUMBER : ∃ t, mg "BAD_NUMBER" = some (Value.int (-7) t)
  k_BAD_LIST : ∃ t, mg "BAD_LIST" = some (Value.int (-12) t)
  k_MOST_MACHINES : ∃ t, mg "MOST_MACHINES" = some (Value.int 3 t)
  k_GREATEST_BUDGET : ∃ t, mg "GREATEST_BUDGET" = some (Value.int 100000 t)
  cToken : Cls K A.cToken
  n_Token_kind : NoAttr K A.cToken "kind"
  n_Token_written : NoAttr K A.cToken "written"
  n_Token_place : NoAttr K A.cToken "place"
  cReader : Cls K A.cReader
  n_Reader_text : NoAttr K A.cReader "text"
  n_Reader_place : NoAttr K A.cReader "place"
  cHolder : Cls K A.cHolder
  n_Holder_plan : NoAttr K A.cHolder "plan"
  cCallReader : Cls K A.cCallReader
  n_CallReader_calls : NoAttr K A.cCallReader "calls"
  n_CallReader_place : NoAttr K A.cCallReader "place"
  g_Group : mg "Group" = some (.ref A.cGroup)
  g_Test : mg "Test" = some (.ref A.cTest)
  g_Plan : mg "Plan" = some (.ref A.cPlan)
  g_Token : mg "Token" = some (.ref A.cToken)
  g_Reader : mg "Reader" = some (.ref A.cReader)
  g_Holder : mg "Holder" = some (.ref A.cHolder)
  g_CallReader : mg "CallReader" = some (.ref A.cCallReader)
  k_GAPS : mg "GAPS" = some (.ref A.tGaps)
  t_GAPS : ∀ H, SqT K H A.tGaps [.int 9, .int 10, .int 13, .int 32]
  k_KEYWORDS : mg "KEYWORDS" = some (.ref A.tKeys)
  t_KEYWORDS : ∀ H, SqT K H A.tKeys [.str "group", .str "test", .str "cost", .str "chance", .str "in", .str "after"]
  b_len : mg "len" = none
  b_range : mg "range" = none
  b_all : mg "all" = none
  b_sum : mg "sum" = none
  b_sorted : mg "sorted" = none
  b_list : mg "list" = none
  b_int : mg "int" = none
  b_ord : mg "ord" = none
  b_enumerate : mg "enumerate" = none
  b_reversed : mg "reversed" = none
  b_min : mg "min" = none
  b_max : mg "max" = none
  b_set : mg "set" = none

/-- a def that may be called -/
structure Cal (P : Program) (w : World) (K : PySem.W.Frag) (mg : Str → Option Value) (base : Heap) (CX : CXT) (k : Nat) (x : Str) (ps : List Str) (sp : Sp) : Prop where
  ex : ∃ f fd, mg x = some (.ref f) ∧ PySem.W.keepIn K (.ref f) = true ∧ Binds K fd ps [] ∧ FnOk P w K mg base CX k f fd ps sp
/-- a class's own __init__; a method -/
structure CalI (P : Program) (w : World) (K : PySem.W.Frag) (mg : Str → Option Value) (base : Heap) (CX : CXT) (k : Nat) (C : Addr) (ps : List Str) (sp : Sp) : Prop where
  ex : ∃ f fd, Mk K C f ∧ Binds K fd ps [] ∧ FnOk P w K mg base CX k f fd ps sp
structure CalM (P : Program) (w : World) (K : PySem.W.Frag) (mg : Str → Option Value) (base : Heap) (CX : CXT) (k : Nat) (C : Addr) (m : Str) (ps : List Str) (sp : Sp) : Prop where
  ex : ∃ f fd, Meth K C m f ∧ Binds K fd ps [] ∧ FnOk P w K mg base CX k f fd ps sp
end Tp
/-! What small expressions are worth. -/
namespace Tp
open PySem PySem.Spec PyProof.Rows L2
section
variable {X : Cx} {σ : L2.St} {H : Hp} {K : PySem.W.Frag} {mg : Str → Option Value} {A : Ad} {ta tb tc te : TE} {t u : TT} {x y v : V} {a p q dx : Addr}

theorem pe_num {x : Str} {i : Int} {pos : Pos} (hg : Gl X x) (h : ∃ t, X.mg x = some (Value.int i t)) (hd : (x == ("__debug__" : Str)) = false := by decide) : PE X (.Name x pos) (tC (.int i)) := h.elim fun _ e => pe_glob hg e ⟨_, rfl⟩ hd
theorem pe_txt {x z : Str} {pos : Pos} (hg : Gl X x) (h : ∃ t, X.mg x = some (Value.str z t)) (hd : (x == ("__debug__" : Str)) = false := by decide) : PE X (.Name x pos) (tC (.str z)) := h.elim fun _ e => pe_glob hg e ⟨_, rfl⟩ hd

theorem val_I0 {g : Int → Int → V} {i j : Int} (ha : Val ta σ H (.int i)) (hb : Val tb σ H (.int j)) : Val (tOp (rI0 g) ta tb) σ H (g i j) := val_op ha hb fun _ z => ⟨i, j, rfl, rfl, z⟩
theorem val_I {C : Int → Int → Prop} {g : Int → Int → V} {i j : Int} (hc : C i j) (ha : Val ta σ H (.int i)) (hb : Val tb σ H (.int j)) : Val (tOp (rI C g) ta tb) σ H (g i j) := val_op ha hb fun _ z => ⟨i, j, rfl, rfl, hc, z⟩
theorem val_eq {w : V} (h : Val te σ H v) (e : v = w) : Val te σ H w := e ▸ h
theorem val_ixL {n : Nat} {xs : List V} (h : SqL K H p xs) (e : xs[n]? = some v) (ha : Val ta σ H (.ref p)) (hb : Val tb σ H (.int (n : Int))) : Val (tOp (rIxL K) ta tb) σ H v :=
  val_op ha hb fun _ z => ⟨p, xs, _, v, rfl, rfl, h, atI_nat e, z⟩
theorem val_ixT {n : Nat} {xs : List V} (h : SqT K H p xs) (e : xs[n]? = some v) (ha : Val ta σ H (.ref p)) (hb : Val tb σ H (.int (n : Int))) : Val (tOp (rIxT K) ta tb) σ H v :=
  val_op ha hb fun _ z => ⟨p, xs, _, v, rfl, rfl, h, atI_nat e, z⟩
theorem val_test {b : Bool} (h : Val te σ H (.bl b)) : Ans (tTest te) σ H b := fun Q z => h _ ⟨b, rfl, z⟩
theorem val_B {b : Bool} (h : Val te σ H (.bl b)) : Ans (tB te) σ H b := fun Q z => h _ ⟨b, rfl, z⟩
theorem val_is {b : Bool} (h : Val te σ H v) (e : v = .bl b) : Ans (tTest te) σ H b := val_test (e ▸ h)
theorem ans_or2 {b c : Bool} (h1 : Ans t σ H b) (h2 : b = false → Ans u σ H c) : Ans (tOr t u) σ H (b || c) := by
  cases b with
  | true => exact ans_or1 h1
  | false => exact ans_or h1 (h2 rfl)
theorem ans_and3 {b c : Bool} (h1 : Ans t σ H b) (h2 : b = true → Ans u σ H c) : Ans (tAnd t u) σ H (b && c) := by
  cases b with
  | true => exact ans_and h1 (h2 rfl)
  | false => exact ans_and0 h1
theorem ans_eqV (ha : Val ta σ H x) (hb : Val tb σ H y) (hs : scal x y = true) : Ans (tTest (tOp rEq ta tb)) σ H (decide (x = y)) := ans_eq ha hb hs rfl
theorem ans_neV (ha : Val ta σ H x) (hb : Val tb σ H y) (hs : scal x y = true) : Ans (tTest (tOp rNe ta tb)) σ H (!decide (x = y)) := ans_ne ha hb hs rfl
/-- both ways of an if -/
theorem st_if {c : TT} {t1 t2 : TS} {D : Ends} {b : Bool} (h : Ans c σ H b) (h1 : b = true → t1 D σ H) (h2 : b = false → t2 D σ H) : tIfS c t1 t2 D σ H := by
  cases b with
  | true => exact st_yes h (h1 rfl)
  | false => exact st_no h (h2 rfl)
/-- a new object's value, told of the heap behind -/
def New (te : TE) (σ : L2.St) (H : Hp) (o : HO) : Prop := ∀ Q : VK, (∀ p, H p = none → Q (.ref p) (upd H p o)) → te σ H Q

/-! ### len -/
theorem val_len {n : Nat} {xs : List V} (h : SqL K H p xs) (e : xs.length = n) (ha : Val ta σ H (.ref p)) :
    Val (tCB (fun xs H Q => ∃ p ys, xs = [.ref p] ∧ (SqL K H p ys ∨ SqT K H p ys) ∧ Q (.int ys.length) H) (tCons ta tNil)) σ H (.int (n : Int)) := fun Q z =>
  ha _ ⟨p, xs, rfl, .inl h, by rw [e]; exact z⟩

/-! ### a plan's parts -/
theorem val_tests {lg lt : Addr} (T : Txt K mg A) (ha : Val ta σ H (.ref a)) (h : H a = some (.ins A.cPlan dx (plF lg lt))) : Val (tFld K ta "tests") σ H (.ref lt) := val_fld ha h T.cPlan T.n_p_tests (plF_tests _ _)
theorem val_groups {lg lt : Addr} (T : Txt K mg A) (ha : Val ta σ H (.ref a)) (h : H a = some (.ins A.cPlan dx (plF lg lt))) : Val (tFld K ta "groups") σ H (.ref lg) := val_fld ha h T.cPlan T.n_p_groups (plF_groups _ _)
section
variable {j : Vatsld.Job} {la : Addr} {g : Vatsld.Group}
theorem val_tname (T : Txt K mg A) (ha : Val ta σ H (.ref a)) (h : H a = some (.ins A.cTest dx (teF j la))) : Val (tFld K ta "name") σ H (.str (strOf j.name)) := val_fld ha h T.cTest T.n_t_name (teF_name _ _)
theorem val_cost (T : Txt K mg A) (ha : Val ta σ H (.ref a)) (h : H a = some (.ins A.cTest dx (teF j la))) : Val (tFld K ta "cost") σ H (.int (j.cost : Int)) := val_fld ha h T.cTest T.n_t_cost (teF_cost _ _)
theorem val_chance (T : Txt K mg A) (ha : Val ta σ H (.ref a)) (h : H a = some (.ins A.cTest dx (teF j la))) : Val (tFld K ta "chance") σ H (.int (j.chance : Int)) := val_fld ha h T.cTest T.n_t_chance (teF_chance _ _)
theorem val_group (T : Txt K mg A) (ha : Val ta σ H (.ref a)) (h : H a = some (.ins A.cTest dx (teF j la))) : Val (tFld K ta "group") σ H (optV j.group) := val_fld ha h T.cTest T.n_t_group (teF_group _ _)
theorem val_after (T : Txt K mg A) (ha : Val ta σ H (.ref a)) (h : H a = some (.ins A.cTest dx (teF j la))) : Val (tFld K ta "after") σ H (.ref la) := val_fld ha h T.cTest T.n_t_after (teF_after _ _)
theorem val_gname (T : Txt K mg A) (ha : Val ta σ H (.ref a)) (h : H a = some (.ins A.cGroup dx (grF g))) : Val (tFld K ta "name") σ H (.str (strOf g.name)) := val_fld ha h T.cGroup T.n_g_name (grF_name _)
theorem val_setup (T : Txt K mg A) (ha : Val ta σ H (.ref a)) (h : H a = some (.ins A.cGroup dx (grF g))) : Val (tFld K ta "setup") σ H (.int (g.setup : Int)) := val_fld ha h T.cGroup T.n_g_setup (grF_setup _)
end
theorem scal_opt (a b : Option Nat) : scal (optV a) (optV b) = true := by cases a <;> cases b <;> rfl
theorem dec_opt (a b : Option Nat) : decide (optV a = optV b) = decide (a = b) := by
  by_cases h : a = b
  · subst h; simp
  · rw [decide_eq_false h, decide_eq_false fun z => h (optV_inj.mp z)]

/-- a test of the plan, where it stands -/
theorem PlanAt.test {pl : Vatsld.Plan} (h : PlanAt A H a pl) {i : Nat} (hi : i < pl.jobs.length) : ∃ dx lg lt ts q dq la, H a = some (.ins A.cPlan dx (plF lg lt)) ∧ H lt = some (.lst ts) ∧ ts[i]? = some (.ref q) ∧
    H q = some (.ins A.cTest dq (teF (Vatsld.jobAt pl i) la)) ∧ H la = some (.lst (natsV (Vatsld.jobAt pl i).after_)) := by
  obtain ⟨dx, lg, lt, gs, ts, e1, e2, e3, e4, e5⟩ := h
  obtain ⟨q, h1, dq, la, h2, h3⟩ := e5.2 i _ (job_there hi)
  exact ⟨dx, lg, lt, ts, q, dq, la, e1, e3, h1, h2, h3⟩
theorem PlanAt.grp {pl : Vatsld.Plan} (h : PlanAt A H a pl) {i : Nat} {g : Vatsld.Group} (hi : pl.groups[i]? = some g) : ∃ dx lg lt gs q dq, H a = some (.ins A.cPlan dx (plF lg lt)) ∧ H lg = some (.lst gs) ∧ gs[i]? = some (.ref q) ∧
    H q = some (.ins A.cGroup dq (grF g)) := by
  obtain ⟨dx, lg, lt, gs, ts, e1, e2, e3, e4, e5⟩ := h
  obtain ⟨q, h1, dq, h2⟩ := e4.2 i _ hi
  exact ⟨dx, lg, lt, gs, q, dq, e1, e2, h1, h2⟩
theorem PlanAt.lens {pl : Vatsld.Plan} (h : PlanAt A H a pl) : ∃ dx lg lt gs ts, H a = some (.ins A.cPlan dx (plF lg lt)) ∧ H lg = some (.lst gs) ∧ gs.length = pl.groups.length ∧ H lt = some (.lst ts) ∧ ts.length = pl.jobs.length :=
  let ⟨dx, lg, lt, gs, ts, e1, e2, e3, e4, e5⟩ := h
  ⟨dx, lg, lt, gs, ts, e1, e2, e4.1, e3, e5.1⟩
end
end Tp
/-! What expressions are worth that may lay new objects. -/
namespace Tp
open PySem PySem.Spec PyProof.Rows L2

theorem _root_.L2.Same.new {H : Hp} {p : Addr} {o : HO} (h : H p = none) : Same H (upd H p o) := fun a u e => by
  rw [upd_ne (ne_of_none e h)]
  exact e
theorem _root_.L2.Same.mut {H H' : Hp} {p : Addr} {o : HO} (s : Same H H') (h : H p = none) : Same H (upd H' p o) := fun a u e => by
  rw [upd_ne (ne_of_none e h)]
  exact s a u e

def Evs (te : TE) (σ : L2.St) (H : Hp) (v : V) : Prop := ∀ Q : VK, (∀ H', Same H H' → Q v H') → te σ H Q
def Ans' (t : TT) (σ : L2.St) (H : Hp) (b : Bool) : Prop := ∀ Q : Bool → Hp → Prop, (∀ H', Same H H' → Q b H') → t σ H Q
/-- a new object -/
def EvN (te : TE) (σ : L2.St) (H : Hp) (o : HO) : Prop := ∀ Q : VK, (∀ p H', H p = none → Same H H' → H' p = some o → Q (.ref p) H') → te σ H Q
def EvA (ta : TA) (σ : L2.St) (H : Hp) (vs : List V) : Prop := ∀ Q : List V → Hp → Prop, (∀ H', Same H H' → Q vs H') → ta σ H Q
section
variable {X : Cx} {σ : L2.St} {H H' : Hp} {K : PySem.W.Frag} {ta tb te tl : TE} {t u : TT} {x y v : V} {a p q : Addr} {D : Ends} {t1 t2 : TS} {b c : Bool} {i : Nat} {o : HO}
theorem evs_of (h : Val te σ H v) : Evs te σ H v := fun Q z => h Q (z H (Same.refl H))
theorem ans_of (h : Ans t σ H b) : Ans' t σ H b := fun Q z => h Q (z H (Same.refl H))
theorem evn_of {o : HO} (h : New te σ H o) : EvN te σ H o := fun Q z => h Q fun p hp => z p _ hp (Same.new hp) upd_same
theorem evs_op {r : R2} (ha : Evs ta σ H x) (hb : ∀ H', Same H H' → Evs tb σ H' y) (hr : ∀ H', Same H H' → ∀ Q : VK, (∀ H2, Same H' H2 → Q v H2) → r x y H' Q) : Evs (tOp r ta tb) σ H v := fun Q z =>
  ha _ fun H1 s1 => hb H1 s1 _ fun H2 s2 => hr H2 (s1.trans s2) Q fun H3 s3 => z H3 ((s1.trans s2).trans s3)
theorem evs_I0 {g : Int → Int → V} {i j : Int} (ha : Evs ta σ H (.int i)) (hb : ∀ H', Same H H' → Evs tb σ H' (.int j)) : Evs (tOp (rI0 g) ta tb) σ H (g i j) :=
  evs_op ha hb fun _ _ _ z => ⟨i, j, rfl, rfl, z _ (Same.refl _)⟩
theorem evs_I {C : Int → Int → Prop} {g : Int → Int → V} {i j : Int} (hc : C i j) (ha : Evs ta σ H (.int i)) (hb : ∀ H', Same H H' → Evs tb σ H' (.int j)) : Evs (tOp (rI C g) ta tb) σ H (g i j) :=
  evs_op ha hb fun _ _ _ z => ⟨i, j, rfl, rfl, hc, z _ (Same.refl _)⟩
theorem evs_ixL {n : Nat} {xs : List V} (h : SqL K H p xs) (e : xs[n]? = some v) (ha : Evs ta σ H (.ref p)) (hb : ∀ H', Same H H' → Evs tb σ H' (.int (n : Int))) : Evs (tOp (rIxL K) ta tb) σ H v :=
  evs_op ha hb fun _ s _ z => ⟨p, xs, _, v, rfl, rfl, s.seq h, atI_nat e, z _ (Same.refl _)⟩
theorem ans_B (h : Evs te σ H (.bl b)) : Ans' (tB te) σ H b := fun Q z => h _ fun H' s => ⟨b, rfl, z H' s⟩
theorem ans_test (h : Evs te σ H (.bl b)) : Ans' (tTest te) σ H b := fun Q z => h _ fun H' s => ⟨b, rfl, z H' s⟩
theorem ans_notS (h : Ans' t σ H b) : Ans' (tNot t) σ H (!b) := fun Q z => h _ z
theorem ans_is {b' : Bool} (h : Ans' t σ H b) (e : b = b') : Ans' t σ H b' := e ▸ h
theorem evs_is {v' : V} (h : Evs te σ H v) (e : v = v') : Evs te σ H v' := e ▸ h
theorem ans_orS (h1 : Ans' t σ H b) (h2 : b = false → ∀ H', Same H H' → Ans' u σ H' c) : Ans' (tOr t u) σ H (b || c) := fun Q z => h1 _ fun H1 s1 => by
  cases b with
  | true => exact iteT (z H1 s1)
  | false => exact iteF (h2 rfl H1 s1 Q fun H2 s2 => z H2 (s1.trans s2))
theorem ans_andS (h1 : Ans' t σ H b) (h2 : b = true → ∀ H', Same H H' → Ans' u σ H' c) : Ans' (tAnd t u) σ H (b && c) := fun Q z => h1 _ fun H1 s1 => by
  cases b with
  | true => exact iteT (h2 rfl H1 s1 Q fun H2 s2 => z H2 (s1.trans s2))
  | false => exact iteF (z H1 s1)
/-- the same as values -/
theorem evs_and (h1 : Evs ta σ H (.bl b)) (h2 : b = true → ∀ H', Same H H' → Evs tb σ H' (.bl c)) : Evs (tAndV ta tb) σ H (.bl (b && c)) := fun Q z => h1 _ fun H1 s1 => ⟨b, rfl, by
  cases b with
  | true => exact iteT (h2 rfl H1 s1 Q fun H2 s2 => z H2 (s1.trans s2))
  | false => exact iteF (z H1 s1)⟩
theorem evs_or (h1 : Evs ta σ H (.bl b)) (h2 : b = false → ∀ H', Same H H' → Evs tb σ H' (.bl c)) : Evs (tOrV ta tb) σ H (.bl (b || c)) := fun Q z => h1 _ fun H1 s1 => ⟨b, rfl, by
  cases b with
  | true => exact iteT (z H1 s1)
  | false => exact iteF (h2 rfl H1 s1 Q fun H2 s2 => z H2 (s1.trans s2))⟩
theorem eva_nil : EvA tNil σ H [] := fun Q z => z H (Same.refl H)
theorem eva_cons {tr : TA} {vs : List V} (h : Evs ta σ H x) (hr : ∀ H', Same H H' → EvA tr σ H' vs) : EvA (tCons ta tr) σ H (x :: vs) := fun Q z =>
  h _ fun H1 s1 => hr H1 s1 _ fun H2 s2 => z H2 (s1.trans s2)
/-- a call: the promise of the values -/
theorem evs_call {sp : Sp} {E : XK} {ta : TA} {vs : List V} (h : EvA ta σ H vs) (hs : ∀ H', Same H H' → ∀ Q : VK, (∀ H2, Same H' H2 → Q v H2) → sp vs H' Q E) : Evs (tCall sp [] E ta) σ H v := fun Q z =>
  h _ fun H1 s1 => by
    show sp (vs ++ []) H1 Q E
    rw [List.append_nil]
    exact hs H1 s1 Q fun H2 s2 => z H2 (s1.trans s2)
theorem evn_call {sp : Sp} {E : XK} {ta : TA} {vs : List V} (h : EvA ta σ H vs) (hs : ∀ H', Same H H' → ∀ Q : VK, (∀ p H2, H' p = none → Same H' H2 → H2 p = some o → Q (.ref p) H2) → sp vs H' Q E) : EvN (tCall sp [] E ta) σ H o := fun Q z =>
  h _ fun H1 s1 => by
    show sp (vs ++ []) H1 Q E
    rw [List.append_nil]
    exact hs H1 s1 Q fun p H2 n s2 e => z p H2 (s1.free n) (s1.trans s2) e

/-! ### statements -/
theorem st_setS (h : Evs te σ H v) (q : ∀ H', Same H H' → D.nx (σ.set i (some v)) H') : tAsg te (gName i) D σ H := h _ q
theorem st_setN (h : EvN te σ H o) (q : ∀ p H', H p = none → Same H H' → H' p = some o → D.nx (σ.set i (some (.ref p))) H') : tAsg te (gName i) D σ H := h _ q
theorem st_retS (h : Evs te σ H v) (q : ∀ H', Same H H' → D.rt v H') : tRet te D σ H := h _ q
theorem st_retN' (h : EvN te σ H o) (q : ∀ p H', H p = none → Same H H' → H' p = some o → D.rt (.ref p) H') : tRet te D σ H := h _ q
theorem st_ifS {c : TT} (h : Ans' c σ H b) (h1 : b = true → ∀ H', Same H H' → t1 D σ H') (h2 : b = false → ∀ H', Same H H' → t2 D σ H') : tIfS c t1 t2 D σ H := h _ fun H' s => by
  cases b with
  | true => exact iteT (h1 rfl H' s)
  | false => exact iteF (h2 rfl H' s)

theorem ans_yes : Ans' tYes σ H true := fun Q z => z H (Same.refl H)
theorem pe_fldK {e : Expr} {f : Str} {pos : Pos} (hK : X.K = K) (he : PE X e ta) (hb : attributeBase e f X.env (eval e X.env) = eval e X.env) : PE X (.Attribute e f pos) (tFld K ta f) := hK ▸ pe_fld he hb
theorem pt_truK {e : Expr} (hK : X.K = K) (ha : PE X e ta) (he : ∀ whole, isTrue e X.env whole = (do let v ← whole; standAt e.pos; holding [v] (truthy v))) : PT X e (tTru K ta) := hK ▸ pt_truth ha he
/-! ### comprehensions -/
/-- the slots within a comprehension: its own name holds x -/
def inC (σ : L2.St) (j : Nat) (x : V) : L2.St := (σ.set j none).set j (some x)
theorem inC_get {j k : Nat} (h : k ≠ j) : (inC σ j x)[k]? = σ[k]? := by
  unfold inC
  rw [List.getElem?_set_ne (Ne.symm h), List.getElem?_set_ne (Ne.symm h)]
theorem inC_own {j : Nat} (h : j < σ.length) : (inC σ j x)[j]? = some (some x) := by
  unfold inC
  rw [List.getElem?_set_self (by rw [List.length_set]; exact h)]
theorem inC_wipe {j : Nat} : wipe (inC σ j x) [j] = wipe σ [j] := by
  show (inC σ j x).set j none = σ.set j none
  unfold inC
  rw [List.set_set, List.set_set]
theorem filter_step {α : Type} {xs : List α} {i : Nat} {z : α} (qq : α → Bool) (h : xs[i]? = some z) : (xs.take (i + 1)).filter qq = (xs.take i).filter qq ++ (if qq z = true then [z] else []) := by
  rw [take_one h, List.filter_append]
  congr 1
  cases e : qq z <;> simp [List.filter_cons, e]
theorem filter_len {α : Type} (qq : α → Bool) (xs : List α) : (xs.filter qq).length ≤ xs.length := List.length_filter_le _ _
/-- one turn: what is kept is put behind -/
theorem lc_turn {Da : Addr} {f : V → V} {qq : V → Bool} {tt : TT} {j : Nat} {H0 H1 : Hp} {pre : List V} (hn : H0 Da = none) (s1 : Same H0 H1) (e1 : H1 Da = some (.lst (pre.map f))) (hl : pre.length < sizeLine)
    (ht : Ans' tt (inC σ j x) H1 (qq x)) (he : qq x = true → ∀ H2, Same H1 H2 → Evs te (inC σ j x) H2 (f x)) (R : Hp → Prop)
    (hR : ∀ H', Same H0 H' → H' Da = some (.lst ((pre ++ (if qq x = true then [x] else [])).map f)) → R H') :
    gName j x (wipe σ [j]) H1 fun σ2 H2 => wipe σ2 [j] = wipe σ [j] ∧ tt σ2 H2 fun b H3 => if b = true then te σ2 H3 fun y H4 => ∃ acc, H4 Da = some (.lst acc) ∧ acc.length < sizeLine ∧ R (upd H4 Da (.lst (acc ++ [y]))) else R H3 := by
  refine ⟨inC_wipe, ht _ fun H2 s2 => ?_⟩
  cases hq : qq x with
  | true =>
    refine iteT (he hq H2 s2 _ fun H3 s3 => ⟨_, s3 _ _ (s2 _ _ e1), by rw [List.length_map]; exact hl, ?_⟩)
    refine hR _ (((s1.trans s2).trans s3).mut hn) ?_
    rw [upd_same, hq, if_pos rfl, List.map_append]
    rfl
  | false =>
    refine iteF (hR _ (s1.trans s2) ?_)
    rw [hq, if_neg Bool.false_ne_true, List.append_nil]
    exact s2 _ _ e1
theorem lc_listS {xs : List V} {f : V → V} {qq : V → Bool} {tt : TT} {j : Nat} (ha : Evs tl σ H (.ref a)) (hS : SqL K H a xs) (hlen : xs.length < sizeLine)
    (ht : ∀ (i : Nat) (x : V) (H' : Hp), xs[i]? = some x → Same H H' → Ans' tt (inC σ j x) H' (qq x)) (he : ∀ (i : Nat) (x : V) (H' : Hp), xs[i]? = some x → qq x = true → Same H H' → Evs te (inC σ j x) H' (f x)) :
    EvN (tLc (iList K tl) (gName j) tt te [j]) σ H (.lst ((xs.filter qq).map f)) := fun Q z =>
  ha _ fun H0 s0 => ⟨a, rfl, ⟨_, s0.seq hS⟩, fun Da hD =>
    have hD' : H Da = none := s0.free hD
    lc_list (K := K) (a := a) (xs := xs) (fun i H' => Same H H' ∧ H' Da = some (.lst (((xs.take i).filter qq).map f))) ⟨s0.mut hD', upd_same⟩ (fun i H' _ h => h.1.seq hS)
      (fun i x H' hx h => lc_turn (σ := σ) hD' h.1 h.2 (Nat.lt_of_le_of_lt (Nat.le_trans (filter_len _ _) (by rw [List.length_take]; omega)) hlen) (ht i x H' hx h.1) (fun hq H2 s2 => he i x H2 hx hq (h.1.trans s2)) _
        fun H2 s2 e2 => ⟨s2, by rw [filter_step qq hx]; exact e2⟩)
      (fun H' h => z Da H' hD' h.1 (by have := h.2; rw [List.take_length] at this; exact this))⟩
/-- over range(n) -/
theorem lc_rangeS {f : V → V} {qq : V → Bool} {tt : TT} {j n : Nat} {tn : TA} (hn : ∀ R : List V → Hp → Prop, (∀ H', Same H H' → R [.int (n : Int)] H') → tn σ H R) (hlen : n < 1000000)
    (ht : ∀ (i : Nat) (H' : Hp), i < n → Same H H' → Ans' tt (inC σ j (.int (i : Int))) H' (qq (.int (i : Int)))) (he : ∀ (i : Nat) (H' : Hp), i < n → qq (.int (i : Int)) = true → Same H H' → Evs te (inC σ j (.int (i : Int))) H' (f (.int (i : Int)))) :
    EvN (tLc (iRng1 tn) (gName j) tt te [j]) σ H (.lst (((natsV (List.range n)).filter qq).map f)) := fun Q z =>
  hn _ fun H0 s0 => ⟨(n : Int), rfl, by omega, by omega, fun Da hD =>
    have hD' : H Da = none := s0.free hD
    have zn : ((n : Int) - 0).toNat = n := by omega
    have hN : ∀ i, i < n → (natsV (List.range n))[i]? = some (.int (i : Int)) := fun i hi => natsV_get (List.getElem?_range hi)
    have hL : (natsV (List.range n)).length = n := by rw [natsV_len, List.length_range]
    lc_range (lo := 0) (n := n) (fun i H' => Same H H' ∧ H' Da = some (.lst ((((natsV (List.range n)).take i).filter qq).map f))) ⟨s0.mut hD', upd_same⟩
      (fun i H' hi h => by
        have e0 : ((0 : Int) + (i : Int)) = (i : Int) := by omega
        rw [e0]
        exact lc_turn (σ := σ) hD' h.1 h.2 (Nat.lt_of_le_of_lt (Nat.le_trans (filter_len _ _) (by rw [List.length_take, hL]; omega)) (by rw [sizeLine_eq]; omega : n < sizeLine)) (ht i H' hi h.1) (fun hq H2 s2 => he i H2 hi hq (h.1.trans s2)) _
          fun H2 s2 e2 => ⟨s2, by rw [filter_step qq (hN i hi)]; exact e2⟩)
      (fun H' h => z Da H' hD' h.1 (by have := h.2; rw [List.take_of_length_le (by omega)] at this; exact this))⟩
/-! ### all, sum of a new list -/
theorem evs_all {bs : List Bool} (h : EvN te σ H (.lst (bs.map V.bl))) : Evs (tCB (rAll K) (tCons te tNil)) σ H (.bl (bs.all id)) := fun Q z =>
  h _ fun p H' _ s e => ⟨p, bs, rfl, SqL.of e, z H' s⟩
theorem evs_sum {ns : List Int} (h : EvN te σ H (.lst (ns.map V.int))) : Evs (tCB (rSum K) (tCons te tNil)) σ H (.int ns.sum) := fun Q z =>
  h _ fun p H' _ s e => ⟨p, ns, rfl, SqL.of e, z H' s⟩
theorem evn_is {o o' : HO} (h : EvN te σ H o) (e : o = o') : EvN te σ H o' := e ▸ h
end
end Tp
/-! A dict whose keys are pairs of a number and a number or None. -/
namespace Tp
open PySem PySem.Spec PyProof.Rows L2

/-- a leaf's value -/
def leafV : Leaf → V
  | .none => .non
  | .num i => .int i
  | .text x => .str x
abbrev Ent := List Leaf × Addr × Value
/-- the dict at d, by its entries -/
def tbD (P : Program) (w : World) (d : Addr) (xs : List Ent) : HO := .ext fun h =>
  ∃ o es ep, h.get? d = some o ∧ o.ExactDict ∧ o.data = .dict es ep ∧ es.toList = xs.map (entryOfKey (tupleKind (leafKind P w))) ∧ (xs.map (·.1)).Nodup
/-- .. with its keys' tuples -/
def TabAt (P : Program) (w : World) (H : Hp) (d : Addr) (xs : List Ent) : Prop := H d = some (tbD P w d xs) ∧ ∀ x ∈ xs, H x.2.1 = some (.tup (x.1.map leafV))
theorem TabAt.mono {P : Program} {w : World} {H H' : Hp} {d : Addr} {xs : List Ent} (s : Same H H') (h : TabAt P w H d xs) : TabAt P w H' d xs := ⟨s _ _ h.1, fun x hx => s _ _ (h.2 x hx)⟩

section
variable {P : Program} {w : World} {H : Hp} {h : Heap} {a d : Addr} {xs : List Ent}
theorem leaf_is {k : Leaf} {u : Value} (r : RelV (leafV k) u) : (leafKind P w).is k u = true := by
  cases k with
  | none =>
    obtain rfl : u = Value.none := r
    exact leaf_none
  | num i =>
    obtain ⟨t, rfl⟩ := r
    exact leaf_int i t
  | text x =>
    obtain ⟨t, rfl⟩ := r
    exact leaf_str x t
theorem leaves_are : ∀ {ks : List Leaf} {us : List Value}, Vals (ks.map leafV) us → ItemsAre (leafKind P w) ks us
  | [], _, r => by
    rw [List.map_nil] at r
    cases r
    exact .nil
  | k :: ks, _, r => by
    rw [List.map_cons] at r
    cases r with
    | cons h t => exact .cons (leaf_is h) (leaves_are t)
/-- a tracked tuple is a key -/
theorem leaf_key {ks : List Leaf} (ok : HOk P w H h) (e : H a = some (.tup (ks.map leafV))) : (tupleKind (leafKind P w)).is h ks a := by
  have x : ObjOk P w H h a (.tup (ks.map leafV)) := ok a _ e
  obtain ⟨_, its, r, o, h1, h2, n, h3⟩ := x
  exact ⟨o, its.toArray, n, h1, h2, h3, by rw [List.toList_toArray]; exact leaves_are r⟩
theorem tab_dict (ok : HOk P w H h) (e : TabAt P w H d xs) : h.DictOfH (tupleKind (leafKind P w)) d xs := by
  have x : ObjOk P w H h d (.ext fun h => ∃ o es ep, h.get? d = some o ∧ o.ExactDict ∧ o.data = .dict es ep ∧ es.toList = xs.map (entryOfKey (tupleKind (leafKind P w))) ∧ (xs.map (·.1)).Nodup) := ok d _ e.1
  obtain ⟨⟨o, es, ep, h1, h2, h3, h4, h5⟩, _⟩ := x
  exact ⟨o, es, ep, h1, h2, h3, h4, fun x hx => leaf_key ok (e.2 x hx), h5⟩
theorem tab_ok {H' : Hp} {h' : Heap} (dd : h'.DictOfH (tupleKind (leafKind P w)) d xs) : ObjOk P w H' h' d (tbD P w d xs) := by
  obtain ⟨o, es, ep, h1, h2, h3, h4, _, h5⟩ := dd
  show _ ∧ _ ∧ _
  refine ⟨⟨o, es, ep, h1, h2, h3, h4, h5⟩, ⟨o, h1⟩, fun g1 g2 z k => ?_⟩
  obtain ⟨o', es', ep', k1, k2, k3, k4, k5⟩ := z
  exact ⟨o', es', ep', k _ k1, k2, k3, k4, k5⟩
theorem tbD_tup {ys : List V} : tbD P w d xs ≠ .tup ys := fun z => by
  have z' : HO.ext _ = HO.tup ys := z
  cases z'
end
section
variable {X : Cx} {o i e value : Expr} {td ty tv : TE} {pos pos' : Pos}
/-- d[k] -/
def tDGetN (P : Program) (w : World) (td ty : TE) : TE := fun σ H Q => td σ H fun x H1 => ty σ H1 fun y H2 => ∃ (a b : Addr) (xs : List Ent) (k : List Leaf) (p : Addr × Value) (v : V),
  x = .ref a ∧ y = .ref b ∧ TabAt P w H2 a xs ∧ H2 b = some (.tup (k.map leafV)) ∧ atKey xs k = some p ∧ RelV v p.2 ∧ Q v H2
/-- d[k] = v -/
def sDPutN (P : Program) (w : World) (td ty tv : TE) : TS := fun D σ H => tv σ H fun v H1 => td σ H1 fun x H2 => ty σ H2 fun y H3 => ∃ (a b : Addr) (xs : List Ent) (k : List Leaf),
  x = .ref a ∧ y = .ref b ∧ TabAt P w H3 a xs ∧ H3 b = some (.tup (k.map leafV)) ∧ xs.length ≤ 1000000 ∧ ∀ u, RelV v u → D.nx σ (upd H3 a (tbD P w a (storedH xs k b u)))
def tDNew0 (P : Program) (w : World) : TE := fun _ H Q => ∀ p, H p = none → Q (.ref p) (upd H p (tbD P w p []))
theorem pe_dnew0 : PE X (.Dict [] [] pos) (tDNew0 X.prog X.w) := ⟨fun pins s σ H Q I h =>
  wpAny_Dict_empty ⟨.ref s.heap.objs.size, _, I.laid (a := s.heap.objs.size) (o := tbD X.prog X.w s.heap.objs.size []) (t' := s.toks) (fun _ _ q => Heap.get?_push_of_some _ q) (Nat.le_refl _) (tab_ok (Heap.DictOfH.new s.heap)), rfl, h _ (I.hok.fresh (Nat.le_refl _))⟩⟩
theorem pe_dgetN (hu : X.A.units + 1 < cLine) (ho : PE X o td) (hi : PE X i ty) (hs : NoSl i) : PE X (.Subscript o i pos) (tDGetN X.prog X.w td ty) := by
  refine ⟨fun pins s σ H Q I h => ?_⟩
  refine subD_of PySem.F.slot_dict_getitem.lookup hs (thn (ho.run pins s σ H _ I h) fun u s1 ⟨x, H1, I1, rx, q1⟩ => thn (hi.run pins s1 σ H1 _ I1 q1) fun iv s2 ⟨y, H2, I2, ry, q2⟩ => ?_)
  obtain ⟨a, b, xs, k, p, v, ex, ey, tb, eb, ep, rv, q3⟩ := q2
  subst ex ey
  obtain rfl : u = Value.ref a := rx
  obtain rfl : iv = Value.ref b := ry
  have dd := tab_dict I2.hok tb
  refine ⟨dd.typeIs, wpAny_getItem_heap (tupleKind_room_in1 hu) (leaf_key I2.hok eb) dd ep ?_⟩
  exact ⟨v, H2, I2.tok _, rv, q3⟩
theorem ps_dputN (hu : X.A.units + 1 < cLine) (ho : PE X o td) (hi : PE X i ty) (hv : PE X value tv) (hs : swapsWith value (some (.Subscript o i pos')) pos.line X.env = pure false) :
    PS X (.Assign [.Subscript o i pos'] value pos) (sDPutN X.prog X.w td ty tv) := by
  refine ⟨fun pins s σ H D I h => ?_⟩
  refine wpAny_Assign_Subscript (thn (hv.run pins s σ H _ I h) fun r s1 ⟨v, H1, I1, rv, q1⟩ => thn (ho.run pins s1 σ H1 _ I1 q1) fun u s2 ⟨x, H2, I2, rx, q2⟩ => thn (hi.run pins s2 σ H2 _ I2 q2) fun iv s3 ⟨y, H3, I3, ry, q3⟩ => ?_) hs
  obtain ⟨a, b, xs, k, ex, ey, tb, eb, hl, q4⟩ := q3
  subst ex ey
  obtain rfl : u = Value.ref a := rx
  obtain rfl : iv = Value.ref b := ry
  have dd := tab_dict I3.hok tb
  refine wpAny_setItem_heap (hsz := by rw [sizeLine_eq]; omega) (tupleKind_room_in1 hu) (leaf_key I3.hok eb) dd fun h' dd' hs' => ?_
  have he : ∃ q, h'.get? a = some q := let ⟨q, _, _, hq, _⟩ := dd'; ⟨q, hq⟩
  exact ⟨σ, _, d_write I3 (by rw [tb.1]; exact True.intro) hs' he (tab_ok dd'), q4 r rv⟩
end
section
variable {P : Program} {w : World} {σ : L2.St} {H : Hp} {td ty tv : TE} {a b : Addr} {xs : List Ent} {k : List Leaf} {p : Addr × Value} {v : V} {D : Ends}
theorem evs_dget (ht : TabAt P w H a xs) (hp : atKey xs k = some p) (rv : RelV v p.2) (hd : Evs td σ H (.ref a)) (hy : ∀ H', Same H H' → EvN ty σ H' (.tup (k.map leafV))) : Evs (tDGetN P w td ty) σ H v := fun Q z =>
  hd _ fun H1 s1 => hy H1 s1 _ fun q H2 _ s2 e => ⟨a, q, xs, k, p, v, rfl, rfl, ht.mono (s1.trans s2), e, hp, rv, z H2 (s1.trans s2)⟩
/-- a store of a value that is told as a new object -/
theorem st_dput {y : HO} (ht : TabAt P w H a xs) (hl : xs.length ≤ 1000000) (hv : EvN tv σ H y) (hd : ∀ H', Same H H' → Evs td σ H' (.ref a)) (hy : ∀ H', Same H H' → EvN ty σ H' (.tup (k.map leafV)))
    (q : ∀ c b H', H c = none → H' c = some y → Same H H' → TabAt P w H' a xs → H' b = some (.tup (k.map leafV)) → c ≠ a → D.nx σ (upd H' a (tbD P w a (storedH xs k b (.ref c))))) : sDPutN P w td ty tv D σ H :=
  hv _ fun c H1 n s1 e1 => hd H1 s1 _ fun H2 s2 => hy H2 (s1.trans s2) _ fun b H3 _ s3 e3 => ⟨a, b, xs, k, rfl, rfl, ht.mono ((s1.trans s2).trans s3), e3, hl, fun u ru => by
    obtain rfl : u = Value.ref c := ru
    exact q c b H3 n (s3 _ _ (s2 _ _ e1)) ((s1.trans s2).trans s3) (ht.mono ((s1.trans s2).trans s3)) e3 (fun z => by rw [z, ht.1] at n; cases n)⟩
theorem st_dput_tab {P : Program} {w : World} {H : Hp} {a b : Addr} {xs : List Ent} {k : List Leaf} {u : Value} (ht : TabAt P w H a xs) (hb : H b = some (.tup (k.map leafV))) (hn : atKey xs k = none) :
    TabAt P w (upd H a (tbD P w a (storedH xs k b u))) a (storedH xs k b u) := by
  refine ⟨upd_same, fun x hx => ?_⟩
  have ht2 : H x.2.1 = some (.tup (x.1.map leafV)) := by
    rw [storedH_new hn] at hx
    rcases List.mem_append.mp hx with z | z
    · exact ht.2 x z
    · rw [List.mem_singleton] at z
      subst z
      exact hb
  rw [upd_ne (fun z => by rw [z, ht.1] at ht2; exact tbD_tup (Option.some.inj ht2))]
  exact ht2
end
end Tp
namespace Tp
open PySem PySem.Spec PyProof.Rows L2
section
variable {P : Program} {w : World} {K : PySem.W.Frag} {mg : Str → Option Value} {base : Heap} {A : Ad}
theorem inV_nats (i : Nat) (l : List Nat) : inV (.int (i : Int)) (natsV l) = l.contains i := by
  induction l with
  | nil => rfl
  | cons a r ih =>
    have e : inV (.int (i : Int)) (natsV (a :: r)) = (((a : Int) == (i : Int)) || inV (.int (i : Int)) (natsV r)) := rfl
    rw [e, ih, List.contains_cons]
    congr 1
    rw [Bool.eq_iff_iff]
    simp
    omega
theorem flat_nats (l : List Nat) : (natsV l).all flatV = true := by
  rw [List.all_eq_true]
  intro x hx
  unfold natsV at hx
  obtain ⟨n, _, rfl⟩ := List.mem_map.mp hx
  rfl
/-- x in xs, x not in xs, numbers -/
theorem val_in {σ : L2.St} {H : Hp} {ta tb : TE} {p : Addr} {l : List Nat} {i : Nat} {neg : Bool} (h : SqL K H p (natsV l)) (ha : Val ta σ H (.int (i : Int))) (hb : Val tb σ H (.ref p)) :
    Val (tOp (rIn K neg) ta tb) σ H (.bl (if neg = true then !l.contains i else l.contains i)) :=
  val_op ha hb fun Q z => ⟨p, natsV l, rfl, .inl h, rfl, flat_nats l, by rw [inV_nats]; exact z⟩
theorem natsV_filter (q : Nat → Bool) (qq : V → Bool) (h : ∀ n : Nat, qq (.int (n : Int)) = q n) (l : List Nat) : (natsV l).filter qq = natsV (l.filter q) := by
  unfold natsV
  rw [List.filter_map]
  congr 1
  refine List.filter_congr fun x _ => ?_
  exact h x
theorem natsV_mem {l : List Nat} {i : Nat} {x : V} (h : (natsV l)[i]? = some x) : ∃ n, l[i]? = some n ∧ x = .int (n : Int) := by
  unfold natsV at h
  rw [List.getElem?_map] at h
  cases e : l[i]? with
  | none => rw [e] at h; cases h
  | some n => rw [e] at h; exact ⟨n, rfl, (Option.some.inj h).symm⟩


theorem after_len {p : Vatsld.Plan} (wf : WF p) {i : Nat} (hi : i < p.jobs.length) : (Vatsld.jobAt p i).after_.length ≤ 7 := by
  have h1 := left_len i _ (wf.janod _ (job_mem hi)) (wf.jaft i _ (job_there hi))
  have := wf.nj
  omega
theorem ready_len (p : Vatsld.Plan) (done rest : List Nat) : (Vatsld.readyIn p done rest).length ≤ rest.length := List.length_filter_le _ _
theorem left_le (n : Nat) (done : List Nat) : (left n done).length ≤ n := by
  have := List.length_filter_le (fun i => !done.contains i) (List.range n)
  rw [List.length_range] at this
  exact this
theorem small_line {n : Nat} (h : n < 1000000) : n < sizeLine := by rw [sizeLine_eq]; omega
theorem ip_mul {X : Cx} : PIp X .Mult (fun x y H Q => ∃ i j, x = .int i ∧ y = .int j ∧ CMul i j ∧ Q (.int (i * j)) H) := by
  intro pins s σ H x y v u Q I r1 r2 h
  obtain ⟨i, j, rfl, rfl, hc, q⟩ := h
  obtain ⟨t, rfl⟩ := r1
  obtain ⟨t', rfl⟩ := r2
  exact imul_int ⟨.int _, H, I.tok _, ⟨_, rfl⟩, q⟩ hc.ok
/-- lists of numbers, compared -/
theorem shaped_ints (ns : List Int) : SeqAt.shaped (.list (ns.map PyData.int)) = true := by
  have h1 : ∀ l : List Int, PyData.canLayAll0 (l.map PyData.int) = true := by
    intro l
    induction l with
    | nil => rfl
    | cons a r ih => simpa [PyData.canLayAll0, PyData.canLay0] using ih
  have h2 : ∀ l : List Int, PyData.depthAll (l.map PyData.int) ≤ 1 := by
    intro l
    induction l with
    | nil => simp [PyData.depthAll]
    | cons a r ih =>
      simp only [List.map_cons, PyData.depthAll, PyData.depth]
      omega
  unfold SeqAt.shaped
  rw [Bool.and_eq_true]
  refine ⟨by simpa [PyData.canLay0] using h1 ns, ?_⟩
  have h3 := h2 ns
  rw [decide_eq_true_eq, PyData.depth]
  omega
theorem dp_ints {H : Hp} {q : Addr} {ns : List Int} (h : SqL K H q (ns.map V.int)) : Dp K H (.ref q) (.list (ns.map PyData.int)) := by
  refine .lst h ?_
  have all : ∀ l : List Int, DpAll K H (l.map V.int) (l.map PyData.int) := by
    intro l
    induction l with
    | nil => exact .nil
    | cons a r ih => exact .cons (.int a) ih
  exact all ns
theorem eqv_ints (ns ms : List Int) : PyData.eqv (.list (ns.map PyData.int)) (.list (ms.map PyData.int)) = decide (ns = ms) := by
  rw [PyData.eqv]
  exact PySem.W.ked_eqvAll ns ms
theorem natsV_ints (l : List Nat) : natsV l = (Vatsld.toInts l).map V.int := by
  unfold natsV Vatsld.toInts
  rw [List.map_map]
  rfl
theorem rg_nats (n : Nat) : rgV 0 (n : Int) = natsV (List.range n) := by
  unfold rgV natsV
  rw [show ((n : Int) - 0).toNat = n by omega]
  refine List.map_congr_left fun i _ => ?_
  rw [Int.zero_add]
end
end Tp
/-! Statements: appending, loops. -/
namespace Tp
open PySem PySem.Spec PyProof.Rows L2
section
variable {X : Cx} {σ : L2.St} {H : Hp} {K : PySem.W.Frag} {ta tb te tl : TE} {t u : TT} {x y v : V} {a p q : Addr} {D : Ends} {b c : Bool} {o : HO} {xs : List V} {g : TG} {ts : TS} {n : Nat}
/-- an if without an else, and what stands behind -/
theorem st_seqIf {c : TT} {t1 u : TS} (h : Ans' c σ H b) (h1 : b = true → ∀ H', Same H H' → t1 { D with nx := u D } σ H') (h2 : b = false → ∀ H', Same H H' → u D σ H') : tSeq (tIfS c t1 tNext) u D σ H := h _ fun H' s => by
  cases b with
  | true => exact iteT (h1 rfl H' s)
  | false => exact iteF (h2 rfl H' s)
/-- xs.append(e) -/
theorem st_append (ha : Val tl σ H (.ref q)) (hq : H q = some (.lst xs)) (he : Evs te σ H y) (hl : xs.length < 1000000) (z : ∀ H', Same H H' → D.nx σ (upd H' q (.lst (xs ++ [y])))) :
    tDrop (tBM K "list" rAppend tl (tCons te tNil)) D σ H :=
  ha _ ⟨.inl ⟨rfl, _, SqL.of hq⟩, he _ fun H' s => ⟨q, xs, y, rfl, rfl, s _ _ hq, small_line hl, z H' s⟩⟩
/-- .. a new object -/
theorem st_appendN (ha : Val tl σ H (.ref q)) (hq : H q = some (.lst xs)) (he : EvN te σ H o) (hl : xs.length < 1000000) (z : ∀ r H', H r = none → Same H H' → H' r = some o → r ≠ q → D.nx σ (upd H' q (.lst (xs ++ [.ref r])))) :
    tDrop (tBM K "list" rAppend tl (tCons te tNil)) D σ H :=
  ha _ ⟨.inl ⟨rfl, _, SqL.of hq⟩, he _ fun r H' n s e => ⟨q, xs, .ref r, rfl, rfl, s _ _ hq, small_line hl, z r H' n s e (fun e => by rw [e, hq] at n; cases n)⟩⟩
/-- n turns over what is walked -/
theorem for_gen {J : It} (Pv : Nat → L2.St → Hp → Prop) (h0 : Pv 0 σ H) (hgo : ∀ i σ H, i < n → Pv i σ H → J.go i H) (hstop : ∀ σ H, Pv n σ H → J.stop n H)
    (hs : ∀ i σ H x H', i < n → Pv i σ H → J.yld i H x H' → g x σ H' fun σ2 H2 => ts { D with nx := Pv (i + 1), ct := Pv (i + 1), bk := D.nx } σ2 H2) (hd : ∀ σ H, Pv n σ H → D.nx σ H) :
    ∃ W : Nat → Nat → L2.St → Hp → Prop, (∃ m, W 0 m σ H) ∧ ∀ i m σ H, W i m σ H →
      (J.stop i H ∧ D.nx σ H) ∨ (J.go i H ∧ ∃ N : L2.St → Hp → Prop, (∀ σ' H', N σ' H' → ∃ m', m' < m ∧ W (i + 1) m' σ' H') ∧ ∀ x H', J.yld i H x H' → g x σ H' fun σ2 H2 => ts { D with nx := N, ct := N, bk := D.nx } σ2 H2) := by
  refine ⟨fun i m σ H => m = n - i ∧ i ≤ n ∧ Pv i σ H, ⟨n, by simp, Nat.zero_le _, h0⟩, ?_⟩
  rintro i m σ H ⟨rfl, hi, p⟩
  by_cases hlt : i < n
  · exact .inr ⟨hgo i σ H hlt p, Pv (i + 1), fun σ' H' p' => ⟨n - (i + 1), by omega, rfl, hlt, p'⟩, fun x H' y => hs i σ H x H' hlt p y⟩
  · have e : i = n := by omega
    subst e
    exact .inl ⟨hstop σ H p, hd σ H p⟩
theorem st_forL (ha : Val tl σ H (.ref a)) (hS : SqL K H a xs) (Pv : Nat → L2.St → Hp → Prop) (h0 : Pv 0 σ H) (hl : ∀ i σ H, i ≤ xs.length → Pv i σ H → SqL K H a xs)
    (hs : ∀ i x σ H, xs[i]? = some x → Pv i σ H → g x σ H fun σ2 H2 => ts { D with nx := Pv (i + 1), ct := Pv (i + 1), bk := D.nx } σ2 H2) (hd : ∀ σ H, Pv xs.length σ H → D.nx σ H) : tFor (iList K tl) g ts D σ H :=
  ha _ ⟨a, rfl, ⟨_, hS⟩, for_list Pv h0 hl hs hd⟩
theorem st_forR {ta : TA} {j : Int} (ha : ∀ R : List V → Hp → Prop, R [.int j] H → ta σ H R) (h1 : j < 1000000) (h2 : -1000000 < j) (Pv : Nat → L2.St → Hp → Prop) (h0 : Pv 0 σ H)
    (hs : ∀ (i : Nat) σ H, i < j.toNat → Pv i σ H → g (.int (i : Int)) σ H fun σ2 H2 => ts { D with nx := Pv (i + 1), ct := Pv (i + 1), bk := D.nx } σ2 H2) (hd : ∀ σ H, Pv j.toNat σ H → D.nx σ H) : tFor (iRng1 ta) g ts D σ H :=
  ha _ ⟨j, rfl, by omega, by omega, for_range (lo := 0) Pv h0 (fun i σ H hi p => by rw [Int.zero_add]; exact hs i σ H hi p) hd⟩
/-- backwards over a list -/
theorem st_forV {ta : TA} (ha : ∀ R : List V → Hp → Prop, R [.ref a] H → ta σ H R) (hS : SqL K H a xs) (Pv : Nat → L2.St → Hp → Prop) (h0 : Pv 0 σ H) (hl : ∀ i σ H, i ≤ xs.length → Pv i σ H → SqL K H a xs)
    (hs : ∀ i x σ H, i < xs.length → xs[xs.length - 1 - i]? = some x → Pv i σ H → g x σ H fun σ2 H2 => ts { D with nx := Pv (i + 1), ct := Pv (i + 1), bk := D.nx } σ2 H2) (hd : ∀ σ H, Pv xs.length σ H → D.nx σ H) :
    tFor (iRev K ta) g ts D σ H := by
  refine ha _ ⟨a, xs, rfl, hS, for_gen (n := xs.length) Pv h0 (fun i σ H hi p => ?_) (fun σ H p => ?_) (fun i σ H x H' hi p y => ?_) hd⟩
  · obtain ⟨z, hz⟩ : ∃ z, xs[xs.length - 1 - i]? = some z := ⟨_, List.getElem?_eq_getElem (by omega)⟩
    exact ⟨hi, xs, z, hl i σ H (by omega) p, hz⟩
  · exact Nat.le_refl _
  · obtain ⟨e, hy⟩ := y
    subst e
    exact hs i x σ H' hi (hy xs (hl i σ H' (by omega) p)) p
/-- over range(a, b, -1) -/
theorem st_forD {ta : TA} {i0 : Nat} (ha : ∀ R : List V → Hp → Prop, R [.int ((i0 : Int) - 1), .int (-1), .int (-1)] H → ta σ H R) (h1 : i0 < 1000000) (Pv : Nat → L2.St → Hp → Prop) (h0 : Pv 0 σ H)
    (hs : ∀ (i : Nat) σ H, i < i0 → Pv i σ H → g (.int ((i0 - 1 - i : Nat) : Int)) σ H fun σ2 H2 => ts { D with nx := Pv (i + 1), ct := Pv (i + 1), bk := D.nx } σ2 H2) (hd : ∀ σ H, Pv i0 σ H → D.nx σ H) : tFor (iRng3 ta) g ts D σ H := by
  have e : (((i0 : Int) - 1) - (-1)).toNat = i0 := by omega
  refine ha _ ⟨_, _, _, _, rfl, RgC.neg (by omega) (by omega) (by omega) (by omega), ?_⟩
  rw [e]
  refine for_rangeC Pv h0 (fun i σ H hi p => ?_) hd
  have e2 : ((i0 : Int) - 1 + (i : Nat) * -1) = ((i0 - 1 - i : Nat) : Int) := by omega
  rw [e2]
  exact hs i σ H hi p
/-- while a pure test holds -/
theorem st_whileS {tc : TT} {Pv : Nat → L2.St → Hp → Prop} (m : Nat) (w0 : Pv m σ H) (hc : ∀ m σ H, Pv m σ H → ∃ b, Ans tc σ H b ∧ (b = true → ts { D with nx := fun σ' H' => ∃ m', m' < m ∧ Pv m' σ' H', ct := fun σ' H' => ∃ m', m' < m ∧ Pv m' σ' H', bk := D.nx } σ H) ∧ (b = false → D.nx σ H)) :
    tWhile tc ts D σ H := by
  refine ⟨Pv, ⟨m, w0⟩, fun m σ H p => ?_⟩
  obtain ⟨b, h1, h2, h3⟩ := hc m σ H p
  refine h1 _ ?_
  cases b with
  | true => exact iteT ⟨_, fun σ' H' z => z, h2 rfl⟩
  | false => exact iteF (h3 rfl)
/-! the same with what stands behind -/
theorem st_seqForL {u : TS} (ha : Val tl σ H (.ref a)) (hS : SqL K H a xs) (Pv : Nat → L2.St → Hp → Prop) (h0 : Pv 0 σ H) (hl : ∀ i σ H, i ≤ xs.length → Pv i σ H → SqL K H a xs)
    (hs : ∀ i x σ H, xs[i]? = some x → Pv i σ H → g x σ H fun σ2 H2 => ts { D with nx := Pv (i + 1), ct := Pv (i + 1), bk := u D } σ2 H2) (hd : ∀ σ H, Pv xs.length σ H → u D σ H) : tSeq (tFor (iList K tl) g ts) u D σ H :=
  st_forL (D := { D with nx := u D }) ha hS Pv h0 hl hs hd
theorem st_seqForR {u : TS} {ta : TA} {j : Int} (ha : ∀ R : List V → Hp → Prop, R [.int j] H → ta σ H R) (h1 : j < 1000000) (h2 : -1000000 < j) (Pv : Nat → L2.St → Hp → Prop) (h0 : Pv 0 σ H)
    (hs : ∀ (i : Nat) σ H, i < j.toNat → Pv i σ H → g (.int (i : Int)) σ H fun σ2 H2 => ts { D with nx := Pv (i + 1), ct := Pv (i + 1), bk := u D } σ2 H2) (hd : ∀ σ H, Pv j.toNat σ H → u D σ H) : tSeq (tFor (iRng1 ta) g ts) u D σ H :=
  st_forR (D := { D with nx := u D }) ha h1 h2 Pv h0 hs hd
theorem st_seqForV {u : TS} {ta : TA} (ha : ∀ R : List V → Hp → Prop, R [.ref a] H → ta σ H R) (hS : SqL K H a xs) (Pv : Nat → L2.St → Hp → Prop) (h0 : Pv 0 σ H) (hl : ∀ i σ H, i ≤ xs.length → Pv i σ H → SqL K H a xs)
    (hs : ∀ i x σ H, i < xs.length → xs[xs.length - 1 - i]? = some x → Pv i σ H → g x σ H fun σ2 H2 => ts { D with nx := Pv (i + 1), ct := Pv (i + 1), bk := u D } σ2 H2) (hd : ∀ σ H, Pv xs.length σ H → u D σ H) :
    tSeq (tFor (iRev K ta) g ts) u D σ H := st_forV (D := { D with nx := u D }) ha hS Pv h0 hl hs hd
theorem st_seqForD {u : TS} {ta : TA} {i0 : Nat} (ha : ∀ R : List V → Hp → Prop, R [.int ((i0 : Int) - 1), .int (-1), .int (-1)] H → ta σ H R) (h1 : i0 < 1000000) (Pv : Nat → L2.St → Hp → Prop) (h0 : Pv 0 σ H)
    (hs : ∀ (i : Nat) σ H, i < i0 → Pv i σ H → g (.int ((i0 - 1 - i : Nat) : Int)) σ H fun σ2 H2 => ts { D with nx := Pv (i + 1), ct := Pv (i + 1), bk := u D } σ2 H2) (hd : ∀ σ H, Pv i0 σ H → u D σ H) : tSeq (tFor (iRng3 ta) g ts) u D σ H :=
  st_forD (D := { D with nx := u D }) ha h1 Pv h0 hs hd
theorem st_seqWhile {u : TS} {tc : TT} {Pv : Nat → L2.St → Hp → Prop} (m : Nat) (w0 : Pv m σ H) (hc : ∀ m σ H, Pv m σ H → ∃ b, Ans tc σ H b ∧ (b = true → ts { D with nx := fun σ' H' => ∃ m', m' < m ∧ Pv m' σ' H', ct := fun σ' H' => ∃ m', m' < m ∧ Pv m' σ' H', bk := u D } σ H) ∧ (b = false → u D σ H)) :
    tSeq (tWhile tc ts) u D σ H := st_whileS (D := { D with nx := u D }) m w0 hc
theorem st_seqSet {u : TS} {i : Nat} (h : Val te σ H v) (q : u D (σ.set i (some v)) H) : tSeq (tAsg te (gName i)) u D σ H := st_set (D := { D with nx := u D }) h q
theorem st_seqSetS {u : TS} {i : Nat} (h : Evs te σ H v) (q : ∀ H', Same H H' → u D (σ.set i (some v)) H') : tSeq (tAsg te (gName i)) u D σ H := h _ q
theorem st_seqSetN {u : TS} {i : Nat} (h : EvN te σ H o) (q : ∀ p H', H p = none → Same H H' → H' p = some o → u D (σ.set i (some (.ref p))) H') : tSeq (tAsg te (gName i)) u D σ H := h _ q
theorem st_seqIfV {c : TT} {t1 u : TS} (h : Ans c σ H b) (h1 : b = true → t1 { D with nx := u D } σ H) (h2 : b = false → u D σ H) : tSeq (tIfS c t1 tNext) u D σ H := st_if (D := { D with nx := u D }) h h1 h2
theorem st_seqAppend {u : TS} (ha : Val tl σ H (.ref q)) (hq : H q = some (.lst xs)) (he : Evs te σ H y) (hl : xs.length < 1000000) (z : ∀ H', Same H H' → u D σ (upd H' q (.lst (xs ++ [y])))) :
    tSeq (tDrop (tBM K "list" rAppend tl (tCons te tNil))) u D σ H := st_append (D := { D with nx := u D }) ha hq he hl z
theorem st_seqAppendN {u : TS} (ha : Val tl σ H (.ref q)) (hq : H q = some (.lst xs)) (he : EvN te σ H o) (hl : xs.length < 1000000) (z : ∀ r H', H r = none → Same H H' → H' r = some o → r ≠ q → u D σ (upd H' q (.lst (xs ++ [.ref r])))) :
    tSeq (tDrop (tBM K "list" rAppend tl (tCons te tNil))) u D σ H := st_appendN (D := { D with nx := u D }) ha hq he hl z
theorem evs_add {i j : Int} (ha : Evs ta σ H (.int i)) (hb : ∀ H', Same H H' → Evs tb σ H' (.int j)) : Evs (tOp (rI0 fun i j => .int (i + j)) ta tb) σ H (.int (i + j)) := evs_I0 ha hb
theorem evs_sub {i j : Int} (ha : Evs ta σ H (.int i)) (hb : ∀ H', Same H H' → Evs tb σ H' (.int j)) : Evs (tOp (rI0 fun i j => .int (i - j)) ta tb) σ H (.int (i - j)) := evs_I0 ha hb
theorem evs_mul {i j : Int} (hc : CMul i j) (ha : Evs ta σ H (.int i)) (hb : ∀ H', Same H H' → Evs tb σ H' (.int j)) : Evs (tOp (rI CMul fun i j => .int (i * j)) ta tb) σ H (.int (i * j)) := evs_I hc ha hb
theorem mul_l {i j : Int} (h1 : -1000000 < i) (h2 : i < 1000000) : CMul i j := .inl ⟨by omega, by omega⟩
theorem mul_r {i j : Int} (h1 : -1000000 < j) (h2 : j < 1000000) : CMul i j := .inr ⟨by omega, by omega⟩
/-- f(x, g(..)), g's answer a new object -/
theorem evs_call2N {sp : Sp} {E : XK} (h1 : Evs ta σ H x) (h2 : ∀ H', Same H H' → EvN tb σ H' o) (hs : ∀ q H', Same H H' → H' q = some o → ∀ Q : VK, (∀ H2, Same H' H2 → Q v H2) → sp [x, .ref q] H' Q E) : Evs (tCall sp [] E (tCons ta (tCons tb tNil))) σ H v := fun Q z =>
  h1 _ fun H1 s1 => h2 H1 s1 _ fun q H2 _ s2 e => hs q H2 (s1.trans s2) e Q fun H3 s3 => z H3 ((s1.trans s2).trans s3)
/-- a target of two names -/
theorem g_pair {i j : Nat} {t : Addr} {Q : L2.St → Hp → Prop} (h : SqT K H t [x, y]) (q : Q ((σ.set i (some x)).set j (some y)) H) : gTup K 2 (gCons (gName i) (gCons (gName j) gNil)) (.ref t) σ H Q :=
  ⟨t, [x, y], rfl, h, rfl, x, [y], rfl, y, [], rfl, by first | exact ⟨rfl, q⟩ | exact q⟩
theorem st_seqDict {P : Program} {w : World} {u : TS} {i : Nat} (q : ∀ d, H d = none → u D (σ.set i (some (.ref d))) (upd H d (tbD P w d []))) : tSeq (tAsg (tDNew0 P w) (gName i)) u D σ H := q
theorem st_seqDput {P : Program} {w : World} {u : TS} {td ty tv : TE} {xs : List Ent} {k : List Leaf} {y : HO} (ht : TabAt P w H a xs) (hl : xs.length ≤ 1000000) (hv : EvN tv σ H y) (hd : ∀ H', Same H H' → Evs td σ H' (.ref a)) (hy : ∀ H', Same H H' → EvN ty σ H' (.tup (k.map leafV)))
    (q : ∀ c b H', H c = none → H' c = some y → Same H H' → TabAt P w H' a xs → H' b = some (.tup (k.map leafV)) → c ≠ a → u D σ (upd H' a (tbD P w a (storedH xs k b (.ref c))))) : tSeq (sDPutN P w td ty tv) u D σ H := st_dput (D := { D with nx := u D }) ht hl hv hd hy q
/-- x = f(..), by the promise as it is -/
theorem st_seqCall {sp : Sp} {E : XK} {ta : TA} {vs : List V} {u : TS} {i : Nat} (h : EvA ta σ H vs) (hs : ∀ H', Same H H' → sp vs H' (fun v H2 => u D (σ.set i (some v)) H2) E) : tSeq (tAsg (tCall sp [] E ta) (gName i)) u D σ H := h _ fun H1 s1 => by
  show sp (vs ++ []) H1 _ E
  rw [List.append_nil]
  exact hs H1 s1
theorem st_retCall {sp : Sp} {E : XK} {ta : TA} {vs : List V} (h : EvA ta σ H vs) (hs : ∀ H', Same H H' → sp vs H' D.rt E) : tRet (tCall sp [] E ta) D σ H := h _ fun H1 s1 => by
  show sp (vs ++ []) H1 _ E
  rw [List.append_nil]
  exact hs H1 s1
theorem not_t {b : Bool} (h : (!b) = true) : b = false := by cases b <;> simp_all
theorem not_f {b : Bool} (h : (!b) = false) : b = true := by cases b <;> simp_all
/-- a new tuple, a new list of values -/
theorem evn_tup {ta : TA} {vs : List V} (h : EvA ta σ H vs) (hl : vs.length ≤ 1000) : EvN (tTup ta) σ H (.tup vs) := fun Q z => h _ fun H1 s1 => ⟨by rw [sizeLine_eq]; omega, fun p hp => z p _ (s1.free hp) (s1.trans (Same.new hp)) upd_same⟩
theorem evn_lst {ta : TA} {vs : List V} (h : EvA ta σ H vs) (hl : vs.length ≤ 1000) : EvN (tLst ta) σ H (.lst vs) := fun Q z => h _ fun H1 s1 => ⟨by rw [sizeLine_eq]; omega, fun p hp => z p _ (s1.free hp) (s1.trans (Same.new hp)) upd_same⟩
/-- a sorted list against range -/
theorem ans_unsorted {tl tn : TE} {r : Addr} {ins : List Int} {n : Nat} (hl : Evs tl σ H (.ref r)) (hr : H r = some (.lst (ins.map V.int))) (hn : ∀ H', Same H H' → Evs tn σ H' (.int (n : Int))) (hn1 : n < 1000000) :
    Ans' (tTest (tOp (rNeD K) (tCB (rSortedI K) (tCons tl tNil)) (tLstRg (tRg1 tn)))) σ H (!decide (ins.Perm (Vatsld.toInts (List.range n)))) := fun Q z =>
  hl _ fun H1 s1 => ⟨r, ins, rfl, SqL.of (s1 _ _ hr), fun ns q hp hs hq => hn _ (s1.trans (Same.new hq)) _ fun H2 s2 =>
    ⟨(n : Int), rfl, RgOk.of_le (by omega) (by omega) (by omega) (by omega), fun q2 hq2 => by
      have e1 : (upd H2 q2 (.lst (rgV 0 (n : Int)))) q = some (.lst (ns.map V.int)) := Same.new hq2 _ _ (s2 _ _ upd_same)
      have e2 : (upd H2 q2 (.lst (rgV 0 (n : Int)))) q2 = some (.lst ((Vatsld.toInts (List.range n)).map V.int)) := by rw [upd_same, rg_nats, natsV_ints]
      refine ⟨_, _, dp_ints (SqL.of e1), dp_ints (SqL.of e2), shaped_ints _, shaped_ints _, _, rfl, ?_⟩
      have e3 : decide (ns = Vatsld.toInts (List.range n)) = decide (ins.Perm (Vatsld.toInts (List.range n))) := by
        have hsi : ns = Vatsld.toInts (List.range n) ↔ ins.Perm (Vatsld.toInts (List.range n)) := by
          constructor
          · intro h
            rw [← h]
            exact hp.symm
          · intro h
            have hr : (Vatsld.toInts (List.range n)).Pairwise (· ≤ ·) := by
              unfold Vatsld.toInts
              rw [List.pairwise_map]
              refine List.Pairwise.imp (fun {a b} h => ?_) List.pairwise_lt_range
              omega
            exact (hp.trans h).eq_of_pairwise (fun a b _ _ h1 h2 => by omega) hs hr
        by_cases h : ns = Vatsld.toInts (List.range n)
        · rw [decide_eq_true h, decide_eq_true (hsi.mp h)]
        · rw [decide_eq_false h, decide_eq_false fun z => h (hsi.mpr z)]
      rw [eqv_ints, e3]
      exact z _ ((s1.trans (Same.new hq)).trans (s2.trans (Same.new hq2)))⟩⟩
end
end Tp
namespace Tp
open PySem PySem.Spec PyProof.Rows L2
/-- the program's statements, by their places -/
def top (i : Nat) : Stmt := PySem.Challenge.pw_testplans_s01_answers.main.body.getD i (.Pass ⟨0, 0, 0, 0⟩)
end Tp
namespace Tp
open PySem PySem.Spec PyProof.Rows L2
section
variable {P : Program} {w : World} {K : PySem.W.Frag} {mg : Str → Option Value} {base : Heap} {A : Ad}
def sp_may_follow (A : Ad) : Sp := fun vs H Q _ => ∃ (a r : Addr) (p : Vatsld.Plan) (i : Nat) (l : List Nat), vs = [.ref a, .int (i : Int), .ref r] ∧ PlanAt A H a p ∧ WF p ∧ i < p.jobs.length ∧ H r = some (.lst (natsV l)) ∧
  ∀ H', Same H H' → Q (.bl ((Vatsld.jobAt p i).after_.all l.contains)) H'
/-! ### may_follow -/
abbrev s_may_follow : Stmt := top 6
theorem sc_may_follow : FnScope ["plan", "number", "others", "earlier"] ["plan", "number", "others"] (defScope s_may_follow) := ⟨rfl, rfl, rfl, by decide +kernel, rfl, by decide +kernel, by decide +kernel⟩
theorem ok_may_follow {f : Addr} {fd : FuncData} (F : Fun K "may_follow" "may_follow" s_may_follow f fd) (T : Txt K mg A) : FnOk P w K mg base CX0 1 f fd ["plan", "number", "others"] (sp_may_follow A) := by
  refine F.ok sc_may_follow (fun vs H Q E h => by revert h; first | (rintro ⟨rfl, _⟩; rfl) | (rintro ⟨_, rfl, _⟩; rfl) | (rintro ⟨_, _, rfl, _⟩; rfl) | (rintro ⟨_, _, _, rfl, _⟩; rfl) | (rintro ⟨_, _, _, _, rfl, _⟩; rfl) | (rintro ⟨_, _, _, _, _, rfl, _⟩; rfl) | (rintro ⟨_, _, _, _, _, _, rfl, _⟩; rfl) | (rintro ⟨_, _, _, _, _, _, _, rfl, _⟩; rfl) | (rintro ⟨_, _, _, _, _, _, _, _, rfl, _⟩; rfl) | (rintro ⟨_, _, _, _, _, _, _, _, _, rfl, _⟩; rfl) | (rintro ⟨_, _, _, _, _, _, _, _, _, _, rfl, _⟩; rfl) | (rintro ⟨_, _, _, _, _, _, _, _, _, _, _, rfl, _⟩; rfl)) (fun cdv Ar outer s H vs Q E hr h => ⟨_, 
  (pss_one (ps_ret (pe_callB (cr_all rfl) (by rfl) T.b_all (by decide +kernel) (pa_cons (pe_lc (own := [("earlier", 3)]) (g := gName 3) (tt := tYes) (by rfl) sc_may_follow.nd (pi_list (pe_fld (pe_ix ix_list (pe_fld (pv 0) rfl) (pv 1) (fun _ _ => rfl)) rfl)) (blkOk_by (N := ["plan", "number", "others", "earlier"]) (sc := defScope s_may_follow) (by decide +kernel)) (fun _ _ _ _ _ => pg_name (i := 3) sc_may_follow.nd rfl (Or.inl rfl)) (fun _ _ _ _ _ => pts_nil) (fun _ _ _ _ _ => (pe_cmpR (r := rIn K false) op_in_seq (pv 3) (pv 2) (by rfl)))) pa_nil)))), ?_⟩)
  obtain ⟨a, r, p, i, l, rfl, hp, wf, hi, hr', k⟩ := h
  obtain ⟨dx, lg, lt, ts, q, dq, la, e1, e2, e3, e4, e5⟩ := hp.test hi
  have hlen : (natsV (Vatsld.jobAt p i).after_).length < sizeLine := by
    rw [natsV_len]
    exact small_line (Nat.lt_of_le_of_lt (after_len wf hi) (by omega))
  refine st_retS (evs_is (evs_all (bs := (Vatsld.jobAt p i).after_.map l.contains) (evn_is (lc_listS (qq := fun _ => true) (f := fun x => match x with | .int j => .bl (l.contains j.toNat) | _ => .non)
    (evs_of (val_after T (val_ixL (SqL.of e2) e3 (val_tests T (val_var rfl) e1) (val_var rfl)) e4)) (SqL.of e5) hlen (fun _ _ _ _ _ => ans_yes) fun m x H' hx _ s => ?_) ?_)) ?_) k
  · obtain ⟨n, hn, rfl⟩ := natsV_mem hx
    exact evs_of (val_in (SqL.of (s _ _ hr')) (val_var rfl) (val_var rfl))
  · rw [List.filter_eq_self.mpr (by simp)]
    unfold natsV
    rw [List.map_map, List.map_map]
    rfl
  · rw [List.all_map]
    rfl

def sp_may_run_next (A : Ad) : Sp := fun vs H Q _ => ∃ (a r : Addr) (p : Vatsld.Plan) (l : List Nat), vs = [.ref a, .ref r] ∧ PlanAt A H a p ∧ WF p ∧ H r = some (.lst (natsV l)) ∧
  ∀ q H', H q = none → Same H H' → H' q = some (.lst (natsV (Vatsld.readyIn p l (left p.jobs.length l)))) → Q (.ref q) H'
/-! ### may_run_next -/
abbrev s_may_run_next : Stmt := top 33
theorem sc_may_run_next : FnScope ["plan", "ran", "left", "number"] ["plan", "ran"] (defScope s_may_run_next) := ⟨rfl, rfl, rfl, by decide +kernel, rfl, by decide +kernel, by decide +kernel⟩
theorem ok_may_run_next {f : Addr} {fd : FuncData} (F : Fun K "may_run_next" "may_run_next" s_may_run_next f fd) (T : Txt K mg A)
    (C_may_follow : Cal P w K mg base CX0 1 "may_follow" ["plan", "number", "others"] (sp_may_follow A)) : FnOk P w K mg base CX0 2 f fd ["plan", "ran"] (sp_may_run_next A) := by
  obtain ⟨f_may_follow, fd_may_follow, m_may_follow, kp_may_follow, b_may_follow, G_may_follow⟩ := C_may_follow.ex
  refine F.ok sc_may_run_next (fun vs H Q E h => by revert h; first | (rintro ⟨rfl, _⟩; rfl) | (rintro ⟨_, rfl, _⟩; rfl) | (rintro ⟨_, _, rfl, _⟩; rfl) | (rintro ⟨_, _, _, rfl, _⟩; rfl) | (rintro ⟨_, _, _, _, rfl, _⟩; rfl) | (rintro ⟨_, _, _, _, _, rfl, _⟩; rfl) | (rintro ⟨_, _, _, _, _, _, rfl, _⟩; rfl) | (rintro ⟨_, _, _, _, _, _, _, rfl, _⟩; rfl) | (rintro ⟨_, _, _, _, _, _, _, _, rfl, _⟩; rfl) | (rintro ⟨_, _, _, _, _, _, _, _, _, rfl, _⟩; rfl) | (rintro ⟨_, _, _, _, _, _, _, _, _, _, rfl, _⟩; rfl) | (rintro ⟨_, _, _, _, _, _, _, _, _, _, _, rfl, _⟩; rfl)) (fun cdv Ar outer s H vs Q E hr h => ⟨_, 
  (pss_cons (ps_setLc (i := 2) (own := [("number", 3)]) (g := gName 3) (by rfl) sc_may_run_next.nd rfl rfl (sw_true rfl rfl rfl (by decide +kernel)) (pi_range1 rfl T.b_range (pa_cons (pe_callB call_len_seq (by rfl) T.b_len (by decide +kernel) (pa_cons (pe_fld (pv 0) rfl) pa_nil)) pa_nil)) (blkOk_by (N := ["plan", "ran", "left", "number"]) (sc := defScope s_may_run_next) (by decide +kernel)) (fun _ _ _ _ _ => pg_name (i := 3) sc_may_run_next.nd rfl (Or.inl rfl)) (fun _ _ _ _ _ => (pts_one (pt_cmpR (r := rIn K true) op_notIn_seq (pv 3) (pv 1) (by rfl)))) (fun _ _ _ _ _ => (pv 3)))
      (pss_one (ps_ret (pe_lc (own := [("number", 3)]) (g := gName 3) (by rfl) sc_may_run_next.nd (pi_list (pv 2)) (blkOk_by (N := ["plan", "ran", "left", "number"]) (sc := defScope s_may_run_next) (by decide +kernel)) (fun _ _ _ _ _ => pg_name (i := 3) sc_may_run_next.nd rfl (Or.inl rfl)) (fun _ _ _ _ _ => (pts_one (pt_val (pe_call G_may_follow (hr.mono (by decide)) rfl m_may_follow kp_may_follow b_may_follow .nil pass0 (pa_cons (pv 0) (pa_cons (pv 3) (pa_cons (pv 1) pa_nil))))))) (fun _ _ _ _ _ => (pv 3)))))), ?_⟩)
  obtain ⟨a, r, p, l, rfl, hp, wf, hr', k⟩ := h
  obtain ⟨dx, lg, lt, gs, ts, e1, e2, e3, e4, e5⟩ := hp.lens
  have hn : p.jobs.length < 1000000 := by have := wf.nj; omega
  refine st_seq (st_setN (o := .lst (natsV (left p.jobs.length l))) (evn_is (lc_rangeS (n := p.jobs.length) (qq := fun x => match x with | .int j => !l.contains j.toNat | _ => false) (f := fun x => x)
    (fun R z => (evs_of (val_len (SqL.of e4) e5 (val_tests T (val_var rfl) e1))) _ fun H' s => z H' s) hn (fun i H' hi s => ?_) fun i H' hi _ s => evs_of (val_var rfl)) ?_) ?_)
  · exact ans_test (evs_of (val_in (SqL.of (s _ _ hr')) (val_var rfl) (val_var rfl)))
  · rw [natsV_filter (fun j => !l.contains j) _ (fun n => rfl), List.map_id']
    rfl
  intro q H1 n1 s1 f1
  refine st_retN' (o := .lst (natsV (Vatsld.readyIn p l (left p.jobs.length l)))) (evn_is (lc_listS (qq := fun x => match x with | .int j => (Vatsld.jobAt p j.toNat).after_.all l.contains | _ => false) (f := fun x => x) (evs_of (val_var rfl)) (SqL.of f1)
    (small_line (by rw [natsV_len]; exact Nat.lt_of_le_of_lt (left_le _ _) hn)) (fun i x H' hx s => ?_) fun i x H' _ _ s => evs_of (val_var rfl)) ?_) fun q2 H2 n2 s2 f2 => k q2 H2 (s1.free n2) (s1.trans s2) f2
  · obtain ⟨m, hm, rfl⟩ := natsV_mem hx
    have hm2 : m < p.jobs.length := (mem_left.mp (List.mem_of_getElem? hm)).1
    refine ans_B (evs_call (eva_cons (evs_of (val_var rfl)) fun _ _ => eva_cons (evs_of (val_var rfl)) fun _ _ => eva_cons (evs_of (val_var rfl)) fun _ _ => eva_nil) fun H3 s3 Q z => ?_)
    exact ⟨a, r, p, m, l, rfl, hp.mono ((s1.trans s).trans s3), wf, hm2, s3 _ _ (s _ _ (s1 _ _ hr')), z⟩
  · rw [natsV_filter (fun j => (Vatsld.jobAt p j).after_.all l.contains) _ (fun n => rfl), List.map_id']
    rfl

def sp_is_order (A : Ad) : Sp := fun vs H Q _ => ∃ (a r : Addr) (p : Vatsld.Plan) (o : List Int), vs = [.ref a, .ref r] ∧ PlanAt A H a p ∧ WF p ∧ H r = some (.lst (o.map V.int)) ∧ o.length ≤ 20000 ∧
  ∀ H', Same H H' → Q (.bl (Vatsld.isRow p.jobs.length o && Vatsld.isOrder p (Vatsld.toNats o))) H'
/-! ### is_order -/
abbrev s_is_order : Stmt := top 32
theorem sc_is_order : FnScope ["plan", "order", "ran", "number"] ["plan", "order"] (defScope s_is_order) := ⟨rfl, rfl, rfl, by decide +kernel, rfl, by decide +kernel, by decide +kernel⟩
theorem ok_is_order {f : Addr} {fd : FuncData} (F : Fun K "is_order" "is_order" s_is_order f fd) (T : Txt K mg A)
    (C_may_follow : Cal P w K mg base CX0 1 "may_follow" ["plan", "number", "others"] (sp_may_follow A)) : FnOk P w K mg base CX0 2 f fd ["plan", "order"] (sp_is_order A) := by
  obtain ⟨f_may_follow, fd_may_follow, m_may_follow, kp_may_follow, b_may_follow, G_may_follow⟩ := C_may_follow.ex
  refine F.ok sc_is_order (fun vs H Q E h => by revert h; first | (rintro ⟨rfl, _⟩; rfl) | (rintro ⟨_, rfl, _⟩; rfl) | (rintro ⟨_, _, rfl, _⟩; rfl) | (rintro ⟨_, _, _, rfl, _⟩; rfl) | (rintro ⟨_, _, _, _, rfl, _⟩; rfl) | (rintro ⟨_, _, _, _, _, rfl, _⟩; rfl) | (rintro ⟨_, _, _, _, _, _, rfl, _⟩; rfl) | (rintro ⟨_, _, _, _, _, _, _, rfl, _⟩; rfl) | (rintro ⟨_, _, _, _, _, _, _, _, rfl, _⟩; rfl) | (rintro ⟨_, _, _, _, _, _, _, _, _, rfl, _⟩; rfl) | (rintro ⟨_, _, _, _, _, _, _, _, _, _, rfl, _⟩; rfl) | (rintro ⟨_, _, _, _, _, _, _, _, _, _, _, rfl, _⟩; rfl)) (fun cdv Ar outer s H vs Q E hr h => ⟨_, 
  (pss_cons (ps_if (pt_cmpR (op_neD hr.units) (pe_callB cr_sortedI (by rfl) T.b_sorted (by decide +kernel) (pa_cons (pv 1) pa_nil)) (pe_listRg (by rfl) (by rfl) T.b_list (prg_1 (by rfl) T.b_range (pe_callB call_len_seq (by rfl) T.b_len (by decide +kernel) (pa_cons (pe_fld (pv 0) rfl) pa_nil)))) (nomark _)) (pss_one (ps_ret pe_bl)) pss_nil)
      (pss_cons (ps_set (i := 2) sc_is_order.nd rfl (Or.inl rfl) (pe_lst pa_nil))
      (pss_cons (ps_for PassesOwn.never rfl (pi_list (pv 1)) (pg_name (i := 3) sc_is_order.nd rfl (Or.inl rfl)) (pss_cons (ps_if (pt_not (pt_val (pe_call G_may_follow (hr.mono (by decide)) rfl m_may_follow kp_may_follow b_may_follow .nil pass0 (pa_cons (pv 0) (pa_cons (pv 3) (pa_cons (pv 2) pa_nil)))))) (pss_one (ps_ret pe_bl)) pss_nil)
      (pss_one (ps_expr (pe_bm PySem.F.plainAttrs_list PySem.F.slot_list_append PySem.F.type_list_append mt_append (pv 2) (pa_cons (pv 3) pa_nil))))))
      (pss_one (ps_ret pe_bl))))), ?_⟩)
  obtain ⟨a, r, p, o, rfl, hp, wf, hr', hol, k⟩ := h
  obtain ⟨dx, lg, lt, gs, ts, e1, e2, e3, e4, e5⟩ := hp.lens
  have hn : p.jobs.length < 1000000 := by have := wf.nj; omega
  refine (st_seqIf (ans_unsorted (evs_of (val_var rfl)) hr' (fun _ sa => evs_of (val_len (SqL.of (sa _ _ e4)) e5 (val_tests T (val_var rfl) (sa _ _ e1)))) hn) (fun hb H1 s1 => ?_) fun hb H1 s1 => ?_)
  · refine st_ret val_c ?_
    have hno : ¬ o.Perm (Vatsld.toInts (List.range p.jobs.length)) := by simpa using hb
    have e0 : (Vatsld.isRow p.jobs.length o && Vatsld.isOrder p (Vatsld.toNats o)) = false := by
      rw [isOrder_is, ← Bool.and_assoc]
      cases hc : (Vatsld.isRow p.jobs.length o && ((Vatsld.toNats o).length == p.jobs.length && (List.range p.jobs.length).all (Vatsld.toNats o).contains)) with
      | true => exact absurd (order_perm.mp hc) hno
      | false => rfl
    rw [← e0]
    exact k H1 s1
  · have hpm : o.Perm (Vatsld.toInts (List.range p.jobs.length)) := by simpa using hb
    have hall := order_perm.mpr hpm
    have hrow : Vatsld.isRow p.jobs.length o = true := (Bool.and_eq_true_iff.mp hall).1
    obtain ⟨l, hl⟩ : ∃ l, l = Vatsld.toNats o := ⟨_, rfl⟩
    have ho : o.map V.int = natsV l := by rw [natsV_ints, hl, ints_toNats hrow]
    have hlt : ∀ x ∈ l, x < p.jobs.length := by rw [hl]; exact row_lt hrow
    have hll : l.length ≤ 20000 := by rw [hl, len_toNats]; exact hol
    have e0 : (Vatsld.isRow p.jobs.length o && Vatsld.isOrder p (Vatsld.toNats o)) = follows p [] l := by
      rw [isOrder_is, ← Bool.and_assoc, hall, Bool.true_and, hl]
    rw [ho] at hr'
    rw [e0] at k
    refine st_seq (st_setN (o := .lst []) (evn_of fun Q z => ⟨Nat.zero_le _, z⟩) fun q H2 n2 s2 f2 => ?_)
    have sH : Same H H2 := s1.trans s2
    have hq : H q = none := s1.free n2
    refine (st_seqForL (val_var rfl) (SqL.of (sH _ _ hr')) (fun i σ H' => (∃ v, σ = [some (.ref a), some (.ref r), some (.ref q), v]) ∧ Same H H' ∧ H' q = some (.lst (natsV (l.take i))) ∧ follows p [] l = follows p (l.take i) (l.drop i))
      ⟨⟨_, rfl⟩, sH, f2, rfl⟩ (fun i σ H' _ z => SqL.of (z.2.1 _ _ hr')) ?_ ?_)
    · rintro i x σ H' hx ⟨⟨v, rfl⟩, s3, f3, g3⟩
      obtain ⟨m, hm, rfl⟩ := natsV_mem hx
      have hm2 := hlt m (List.mem_of_getElem? hm)
      have hi : i < l.length := (List.getElem?_eq_some_iff.mp hm).1
      refine (st_seqIf (ans_notS (ans_B (b := (Vatsld.jobAt p m).after_.all (l.take i).contains) (evs_call (eva_cons (evs_of (val_var rfl)) fun _ _ => eva_cons (evs_of (val_var rfl)) fun _ _ => eva_cons (evs_of (val_var rfl)) fun _ _ => eva_nil) fun H4 s4 Q z => ?_)))
        (fun hb H4 s4 => ?_) fun hb H4 s4 => ?_)
      · exact ⟨a, q, p, m, l.take i, rfl, hp.mono (s3.trans s4), wf, hm2, s4 _ _ f3, z⟩
      · refine st_ret val_c ?_
        have e6 : follows p [] l = false := by
          rw [g3, List.drop_eq_getElem_cons hi, (List.getElem?_eq_some_iff.mp hm).2, follows, not_t hb]
          rfl
        rw [← e6]
        exact k H4 (s3.trans s4)
      · refine st_append (val_var rfl) (s4 _ _ f3) (evs_of (val_var rfl)) (by rw [natsV_len, List.length_take]; omega) fun H5 s5 => ?_
        refine ⟨⟨_, rfl⟩, (s3.trans (s4.trans s5)).mut hq, ?_, ?_⟩
        · rw [upd_same, take_one hm]
          unfold natsV
          rw [List.map_append]
          rfl
        · rw [g3, List.drop_eq_getElem_cons hi, (List.getElem?_eq_some_iff.mp hm).2, follows, take_one hm, not_f hb, Bool.true_and]
    · rintro σ H' ⟨⟨v, rfl⟩, s3, f3, g3⟩
      refine st_ret val_c ?_
      have e6 : follows p [] l = true := by
        rw [g3, natsV_len, List.drop_length]
        rfl
      rw [← e6]
      exact k H' s3

def sp_cost_with_setup (A : Ad) : Sp := fun vs H Q _ => ∃ (a : Addr) (p : Vatsld.Plan) (i : Nat) (last : Option Nat), vs = [.ref a, .int (i : Int), optV last] ∧ PlanAt A H a p ∧ WF p ∧ i < p.jobs.length ∧
  Q (.int (Vatsld.costFrom p last i : Int)) H
/-! ### cost_with_setup -/
abbrev s_cost_with_setup : Stmt := top 34
theorem sc_cost_with_setup : FnScope ["plan", "number", "ready", "test"] ["plan", "number", "ready"] (defScope s_cost_with_setup) := ⟨rfl, rfl, rfl, by decide +kernel, rfl, by decide +kernel, by decide +kernel⟩
theorem ok_cost_with_setup {f : Addr} {fd : FuncData} (F : Fun K "cost_with_setup" "cost_with_setup" s_cost_with_setup f fd) (T : Txt K mg A) : FnOk P w K mg base CX0 1 f fd ["plan", "number", "ready"] (sp_cost_with_setup A) := by
  refine F.ok sc_cost_with_setup (fun vs H Q E h => by revert h; first | (rintro ⟨rfl, _⟩; rfl) | (rintro ⟨_, rfl, _⟩; rfl) | (rintro ⟨_, _, rfl, _⟩; rfl) | (rintro ⟨_, _, _, rfl, _⟩; rfl) | (rintro ⟨_, _, _, _, rfl, _⟩; rfl) | (rintro ⟨_, _, _, _, _, rfl, _⟩; rfl) | (rintro ⟨_, _, _, _, _, _, rfl, _⟩; rfl) | (rintro ⟨_, _, _, _, _, _, _, rfl, _⟩; rfl) | (rintro ⟨_, _, _, _, _, _, _, _, rfl, _⟩; rfl) | (rintro ⟨_, _, _, _, _, _, _, _, _, rfl, _⟩; rfl) | (rintro ⟨_, _, _, _, _, _, _, _, _, _, rfl, _⟩; rfl) | (rintro ⟨_, _, _, _, _, _, _, _, _, _, _, rfl, _⟩; rfl)) (fun cdv Ar outer s H vs Q E hr h => ⟨_, 
  (pss_cons (ps_set (i := 3) sc_cost_with_setup.nd rfl (Or.inl rfl) (pe_ix ix_list (pe_fld (pv 0) rfl) (pv 1) (fun _ _ => rfl)))
      (pss_cons (ps_if (PW.pt (pw_or (pt_cmpR op_isN1 (pe_fld (pv 3) rfl) pe_non (nomark _)) (pw_or1 (pt_cmpR op_eq (pe_fld (pv 3) rfl) (pv 2) (nomark _))))) (pss_one (ps_ret (pe_fld (pv 3) rfl))) pss_nil)
      (pss_one (ps_ret (pe_op op_add (pe_fld (pv 3) rfl) (pe_fld (pe_ix ix_list (pe_fld (pv 0) rfl) (pe_fld (pv 3) rfl) (fun _ _ => rfl)) rfl)))))), ?_⟩)
  obtain ⟨a, p, i, last, rfl, hp, wf, hi, k⟩ := h
  obtain ⟨dx, lg, lt, ts, q, dq, la, e1, e2, e3, e4, e5⟩ := hp.test hi
  refine st_seq (st_set (val_ixL (SqL.of e2) e3 (val_tests T (val_var rfl) e1) (val_var rfl)) ?_)
  have vg : ∀ {σ : L2.St}, σ[3]? = some (some (.ref q)) → Val (tFld K (tVar 3) "group") σ H (optV (Vatsld.jobAt p i).group) := fun h => val_group T (val_var h) e4
  refine st_seq (st_if (ans_or2 (ans_isN (vg rfl) rfl) fun _ => ans_eqV (vg rfl) (val_var rfl) (scal_opt _ _)) (fun hb => ?_) fun hb => ?_)
  · refine st_ret (val_cost T (val_var rfl) e4) ?_
    have : Vatsld.costFrom p last i = (Vatsld.jobAt p i).cost := by
      unfold Vatsld.costFrom
      rw [Bool.or_eq_true, dec_opt] at hb
      cases hg : (Vatsld.jobAt p i).group with
      | none => simp [hg]
      | some g =>
        rw [hg] at hb
        have : last = some g := by
          rcases hb with z | z
          · simp [optV] at z
          · exact (of_decide_eq_true z).symm
        simp [hg, this]
    rw [this] at k
    exact k
  · cases hg : (Vatsld.jobAt p i).group with
    | none => rw [hg] at hb; simp [optV] at hb
    | some g =>
      have hlt := wf.jgrp _ (job_mem hi) g hg
      obtain ⟨gr, hgr⟩ : ∃ gr, p.groups[g]? = some gr := ⟨_, List.getElem?_eq_getElem hlt⟩
      obtain ⟨dx', lg', lt', gs, q2, dq2, f1, f2, f3, f4⟩ := hp.grp hgr
      rw [hg] at vg
      refine st_ret (val_I0 (val_cost T (val_var rfl) e4) (val_setup T (val_ixL (SqL.of f2) f3 (val_groups T (val_var rfl) f1) (vg rfl)) f4)) ?_
      have : Vatsld.costFrom p last i = (Vatsld.jobAt p i).cost + gr.setup := by
        have : last ≠ some g := by
          intro z
          rw [hg, z] at hb
          simp at hb
        unfold Vatsld.costFrom
        simp [hg, this, hgr]
      rw [this] at k
      exact k

def sp_ready_behind (A : Ad) : Sp := fun vs H Q _ => ∃ (a : Addr) (p : Vatsld.Plan) (i : Nat) (last : Option Nat), vs = [.ref a, .int (i : Int), optV last] ∧ PlanAt A H a p ∧ i < p.jobs.length ∧
  Q (optV (Vatsld.groupAfter p last i)) H
/-! ### ready_behind -/
abbrev s_ready_behind : Stmt := top 35
theorem sc_ready_behind : FnScope ["plan", "number", "ready", "group"] ["plan", "number", "ready"] (defScope s_ready_behind) := ⟨rfl, rfl, rfl, by decide +kernel, rfl, by decide +kernel, by decide +kernel⟩
theorem ok_ready_behind {f : Addr} {fd : FuncData} (F : Fun K "ready_behind" "ready_behind" s_ready_behind f fd) (T : Txt K mg A) : FnOk P w K mg base CX0 1 f fd ["plan", "number", "ready"] (sp_ready_behind A) := by
  refine F.ok sc_ready_behind (fun vs H Q E h => by revert h; first | (rintro ⟨rfl, _⟩; rfl) | (rintro ⟨_, rfl, _⟩; rfl) | (rintro ⟨_, _, rfl, _⟩; rfl) | (rintro ⟨_, _, _, rfl, _⟩; rfl) | (rintro ⟨_, _, _, _, rfl, _⟩; rfl) | (rintro ⟨_, _, _, _, _, rfl, _⟩; rfl) | (rintro ⟨_, _, _, _, _, _, rfl, _⟩; rfl) | (rintro ⟨_, _, _, _, _, _, _, rfl, _⟩; rfl) | (rintro ⟨_, _, _, _, _, _, _, _, rfl, _⟩; rfl) | (rintro ⟨_, _, _, _, _, _, _, _, _, rfl, _⟩; rfl) | (rintro ⟨_, _, _, _, _, _, _, _, _, _, rfl, _⟩; rfl) | (rintro ⟨_, _, _, _, _, _, _, _, _, _, _, rfl, _⟩; rfl)) (fun cdv Ar outer s H vs Q E hr h => ⟨_, 
  (pss_cons (ps_set (i := 3) sc_ready_behind.nd rfl (Or.inl rfl) (pe_fld (pe_ix ix_list (pe_fld (pv 0) rfl) (pv 1) (fun _ _ => rfl)) rfl))
      (pss_cons (ps_if (pt_cmpR op_isN1 (pv 3) pe_non (nomark _)) (pss_one (ps_ret (pv 2))) pss_nil)
      (pss_one (ps_ret (pv 3))))), ?_⟩)
  obtain ⟨a, p, i, last, rfl, hp, hi, k⟩ := h
  obtain ⟨dx, lg, lt, ts, q, dq, la, e1, e2, e3, e4, e5⟩ := hp.test hi
  refine st_seq (st_set (val_group T (val_ixL (SqL.of e2) e3 (val_tests T (val_var rfl) e1) (val_var rfl)) e4) ?_)
  unfold Vatsld.groupAfter at k
  refine st_seq (st_if (ans_isN (val_var rfl) rfl) (fun hb => ?_) fun hb => ?_)
  · refine st_ret (val_var rfl) ?_
    cases hg : (Vatsld.jobAt p i).group with
    | none => rw [hg] at k; exact k
    | some g => rw [hg] at hb; simp [optV] at hb
  · refine st_ret (val_var rfl) ?_
    cases hg : (Vatsld.jobAt p i).group with
    | none => rw [hg] at hb; simp [optV] at hb
    | some g => rw [hg] at k; exact k

def sp_cost_from (A : Ad) : Sp := fun vs H Q _ => ∃ (a : Addr) (p : Vatsld.Plan) (i : Nat) (last : Option Nat) (sc rest : Nat), vs = [.ref a, .int (i : Int), optV last, .int (sc : Int), .int (rest : Int)] ∧ PlanAt A H a p ∧ WF p ∧ i < p.jobs.length ∧
  ∀ H', Same H H' → Q (.int ((Vatsld.costFrom p last i * sc * 100 + (100 - (Vatsld.jobAt p i).chance) * rest : Nat) : Int)) H'
theorem cost_small {p : Vatsld.Plan} (wf : WF p) {i : Nat} (hi : i < p.jobs.length) (last : Option Nat) : Vatsld.costFrom p last i ≤ 2000 := by
  have h1 := wf.jcost _ (job_mem hi)
  have h2 : ∀ g : Nat, (p.groups[g]?).elim 0 (fun (x : Vatsld.Group) => x.setup) ≤ 1000 := fun g => by
    cases e : p.groups[g]? with
    | none => simp
    | some x => exact wf.gset x (List.mem_of_getElem? e)
  unfold Vatsld.costFrom
  cases hg : (Vatsld.jobAt p i).group with
  | none => simp [hg]; omega
  | some g =>
    have := h2 g
    simp only [hg]
    split <;> omega
/-! ### cost_from -/
abbrev s_cost_from : Stmt := top 36
theorem sc_cost_from : FnScope ["plan", "number", "ready", "scale", "rest", "cost"] ["plan", "number", "ready", "scale", "rest"] (defScope s_cost_from) := ⟨rfl, rfl, rfl, by decide +kernel, rfl, by decide +kernel, by decide +kernel⟩
theorem ok_cost_from {f : Addr} {fd : FuncData} (F : Fun K "cost_from" "cost_from" s_cost_from f fd) (T : Txt K mg A)
    (C_cost_with_setup : Cal P w K mg base CX0 1 "cost_with_setup" ["plan", "number", "ready"] (sp_cost_with_setup A)) : FnOk P w K mg base CX0 2 f fd ["plan", "number", "ready", "scale", "rest"] (sp_cost_from A) := by
  obtain ⟨f_cost_with_setup, fd_cost_with_setup, m_cost_with_setup, kp_cost_with_setup, b_cost_with_setup, G_cost_with_setup⟩ := C_cost_with_setup.ex
  refine F.ok sc_cost_from (fun vs H Q E h => by revert h; first | (rintro ⟨rfl, _⟩; rfl) | (rintro ⟨_, rfl, _⟩; rfl) | (rintro ⟨_, _, rfl, _⟩; rfl) | (rintro ⟨_, _, _, rfl, _⟩; rfl) | (rintro ⟨_, _, _, _, rfl, _⟩; rfl) | (rintro ⟨_, _, _, _, _, rfl, _⟩; rfl) | (rintro ⟨_, _, _, _, _, _, rfl, _⟩; rfl) | (rintro ⟨_, _, _, _, _, _, _, rfl, _⟩; rfl) | (rintro ⟨_, _, _, _, _, _, _, _, rfl, _⟩; rfl) | (rintro ⟨_, _, _, _, _, _, _, _, _, rfl, _⟩; rfl) | (rintro ⟨_, _, _, _, _, _, _, _, _, _, rfl, _⟩; rfl) | (rintro ⟨_, _, _, _, _, _, _, _, _, _, _, rfl, _⟩; rfl)) (fun cdv Ar outer s H vs Q E hr h => ⟨_, 
  (pss_cons (ps_set (i := 5) sc_cost_from.nd rfl (Or.inl rfl) (pe_call G_cost_with_setup (hr.mono (by decide)) rfl m_cost_with_setup kp_cost_with_setup b_cost_with_setup .nil pass0 (pa_cons (pv 0) (pa_cons (pv 1) (pa_cons (pv 2) pa_nil)))))
      (pss_one (ps_ret (pe_op op_add (pe_op op_mul (pe_op op_mul (pv 5) (pv 3)) (pe_num (by rfl) T.k_HUNDRED)) (pe_op op_mul (pe_op op_sub (pe_num (by rfl) T.k_HUNDRED) (pe_fld (pe_ix ix_list (pe_fld (pv 0) rfl) (pv 1) (fun _ _ => rfl)) rfl)) (pv 4)))))), ?_⟩)
  obtain ⟨a, p, i, last, sc, rest, rfl, hp, wf, hi, k⟩ := h
  obtain ⟨dx, lg, lt, ts, q, dq, la, e1, e2, e3, e4, e5⟩ := hp.test hi
  refine st_seq (st_setS (v := .int (Vatsld.costFrom p last i : Int)) (evs_call (eva_cons (evs_of (val_var rfl)) fun _ _ => eva_cons (evs_of (val_var rfl)) fun _ _ => eva_cons (evs_of (val_var rfl)) fun _ _ => eva_nil) fun H1 s1 Q z => ?_) fun H1 s1 => ?_)
  · exact ⟨a, p, i, last, rfl, hp.mono s1, wf, hi, z H1 (Same.refl _)⟩
  · have hc := cost_small wf hi last
    have hh := wf.jch _ (job_mem hi)
    refine st_retS (evs_is (evs_add (evs_mul (mul_r (by decide) (by decide)) (evs_mul (mul_l (by omega) (by omega)) (evs_of (val_var rfl)) fun _ _ => evs_of (val_var rfl)) fun _ _ => evs_of val_c) fun H2 s2 =>
      evs_mul (mul_l (by omega) (by omega)) (evs_sub (evs_of val_c) fun H3 s3 => evs_of (val_chance T (val_ixL (SqL.of (s3 _ _ (s2 _ _ (s1 _ _ e2)))) e3 (val_tests T (val_var rfl) (s3 _ _ (s2 _ _ (s1 _ _ e1)))) (val_var rfl)) (s3 _ _ (s2 _ _ (s1 _ _ e4))))) fun _ _ => evs_of (val_var rfl)) ?_) fun H4 s4 => k H4 (s1.trans s4)
    have e0 : ((100 - (Vatsld.jobAt p i).chance : Nat) : Int) = 100 - ((Vatsld.jobAt p i).chance : Int) := by omega
    rw [Int.natCast_add, Int.natCast_mul, Int.natCast_mul, Int.natCast_mul, e0]
    rfl

def sp_scale_of (A : Ad) : Sp := fun vs H Q _ => ∃ (c : Int), vs = [.int c] ∧ c < 1000 ∧ -1000 < c ∧ Q (.int ((100 ^ c.toNat : Nat) : Int)) H
/-! ### scale_of -/
abbrev s_scale_of : Stmt := top 42
theorem sc_scale_of : FnScope ["count", "scale", "step"] ["count"] (defScope s_scale_of) := ⟨rfl, rfl, rfl, by decide +kernel, rfl, by decide +kernel, by decide +kernel⟩
theorem ok_scale_of {f : Addr} {fd : FuncData} (F : Fun K "scale_of" "scale_of" s_scale_of f fd) (T : Txt K mg A) : FnOk P w K mg base CX0 1 f fd ["count"] (sp_scale_of A) := by
  refine F.ok sc_scale_of (fun vs H Q E h => by revert h; first | (rintro ⟨rfl, _⟩; rfl) | (rintro ⟨_, rfl, _⟩; rfl) | (rintro ⟨_, _, rfl, _⟩; rfl) | (rintro ⟨_, _, _, rfl, _⟩; rfl) | (rintro ⟨_, _, _, _, rfl, _⟩; rfl) | (rintro ⟨_, _, _, _, _, rfl, _⟩; rfl) | (rintro ⟨_, _, _, _, _, _, rfl, _⟩; rfl) | (rintro ⟨_, _, _, _, _, _, _, rfl, _⟩; rfl) | (rintro ⟨_, _, _, _, _, _, _, _, rfl, _⟩; rfl) | (rintro ⟨_, _, _, _, _, _, _, _, _, rfl, _⟩; rfl) | (rintro ⟨_, _, _, _, _, _, _, _, _, _, rfl, _⟩; rfl) | (rintro ⟨_, _, _, _, _, _, _, _, _, _, _, rfl, _⟩; rfl)) (fun cdv Ar outer s H vs Q E hr h => ⟨_, 
  (pss_cons (ps_set (i := 1) sc_scale_of.nd rfl (Or.inl rfl) pe_int)
      (pss_cons (ps_for PassesOwn.never rfl (pi_range1 rfl T.b_range (pa_cons (pv 0) pa_nil)) (pg_name (i := 2) sc_scale_of.nd rfl (Or.inl rfl)) (pss_one (ps_aug (i := 1) sc_scale_of.nd rfl (Or.inl rfl) (pe_num (by rfl) T.k_HUNDRED) ip_mul)))
      (pss_one (ps_ret (pv 1))))), ?_⟩)
  obtain ⟨c, rfl, h1, h2, k⟩ := h
  refine st_seqSet val_c ?_
  refine st_seqForR (fun R z => ⟨_, rfl, z⟩) (by omega) (by omega) (fun i σ H' => (∃ v, σ = [some (.int c), some (.int ((100 ^ i : Nat) : Int)), v]) ∧ H' = H) ⟨⟨_, rfl⟩, rfl⟩ ?_ ?_
  · rintro i σ H' hi ⟨⟨v, rfl⟩, rfl⟩
    refine ⟨_, rfl, _, _, rfl, rfl, mul_r (by decide) (by decide), ⟨⟨some (.int (i : Int)), ?_⟩, rfl⟩⟩
    rw [Nat.pow_succ, Int.natCast_mul]
    rfl
  · rintro σ H' ⟨⟨v, rfl⟩, rfl⟩
    exact st_ret (val_var rfl) k

def sp_mask_of (A : Ad) : Sp := fun vs H Q _ => ∃ (r : Addr) (l : List Nat), vs = [.ref r] ∧ H r = some (.lst (natsV l)) ∧ (∀ x ∈ l, x < 1000) ∧ l.length < 1000 ∧ ∀ H', Same H H' → Q (.int (maskOf l : Int)) H'
/-! ### mask_of -/
abbrev s_mask_of : Stmt := top 41
theorem sc_mask_of : FnScope ["numbers", "number"] ["numbers"] (defScope s_mask_of) := ⟨rfl, rfl, rfl, by decide +kernel, rfl, by decide +kernel, by decide +kernel⟩
theorem ok_mask_of {f : Addr} {fd : FuncData} (F : Fun K "mask_of" "mask_of" s_mask_of f fd) (T : Txt K mg A) : FnOk P w K mg base CX0 1 f fd ["numbers"] (sp_mask_of A) := by
  refine F.ok sc_mask_of (fun vs H Q E h => by revert h; first | (rintro ⟨rfl, _⟩; rfl) | (rintro ⟨_, rfl, _⟩; rfl) | (rintro ⟨_, _, rfl, _⟩; rfl) | (rintro ⟨_, _, _, rfl, _⟩; rfl) | (rintro ⟨_, _, _, _, rfl, _⟩; rfl) | (rintro ⟨_, _, _, _, _, rfl, _⟩; rfl) | (rintro ⟨_, _, _, _, _, _, rfl, _⟩; rfl) | (rintro ⟨_, _, _, _, _, _, _, rfl, _⟩; rfl) | (rintro ⟨_, _, _, _, _, _, _, _, rfl, _⟩; rfl) | (rintro ⟨_, _, _, _, _, _, _, _, _, rfl, _⟩; rfl) | (rintro ⟨_, _, _, _, _, _, _, _, _, _, rfl, _⟩; rfl) | (rintro ⟨_, _, _, _, _, _, _, _, _, _, _, rfl, _⟩; rfl)) (fun cdv Ar outer s H vs Q E hr h => ⟨_, 
  (pss_one (ps_ret (pe_callB (cr_sum rfl) (by rfl) T.b_sum (by decide +kernel) (pa_cons (pe_lc (own := [("number", 1)]) (g := gName 1) (tt := tYes) (by rfl) sc_mask_of.nd (pi_list (pv 0)) (blkOk_by (N := ["numbers", "number"]) (sc := defScope s_mask_of) (by decide +kernel)) (fun _ _ _ _ _ => pg_name (i := 1) sc_mask_of.nd rfl (Or.inl rfl)) (fun _ _ _ _ _ => pts_nil) (fun _ _ _ _ _ => (pe_op op_shl pe_int (pv 1)))) pa_nil)))), ?_⟩)
  obtain ⟨r, l, rfl, hr', hl, hlen, k⟩ := h
  refine st_retS (evs_is (evs_sum (ns := l.map fun i => ((2 ^ i : Nat) : Int)) (evn_is (lc_listS (qq := fun _ => true) (f := fun x => match x with | .int j => .int ((2 ^ j.toNat : Nat) : Int) | _ => .non)
    (evs_of (val_var rfl)) (SqL.of hr') (small_line (by rw [natsV_len]; omega)) (fun _ _ _ _ _ => ans_yes) fun m x H' hx _ s => ?_) ?_)) ?_) k
  · obtain ⟨n, hn, rfl⟩ := natsV_mem hx
    have := hl n (List.mem_of_getElem? hn)
    refine evs_is (evs_I (g := fun i j => .int (i * 2 ^ j.toNat)) ⟨by omega, by omega, by decide⟩ (evs_of val_c) fun _ _ => evs_of (val_var rfl)) ?_
    simp
  · rw [List.filter_eq_self.mpr (by simp)]
    unfold natsV
    rw [List.map_map, List.map_map]
    congr 1
  · unfold maskOf
    congr 1
    clear hr' hl hlen k
    induction l with
    | nil => rfl
    | cons a r ih => rw [List.map_cons, List.map_cons, List.sum_cons, List.sum_cons, Int.natCast_add, ih]

def sp_comes_before (A : Ad) : Sp := fun vs H Q _ => ∃ (a b : Addr) (x y : Vatsld.Job), vs = [.ref a, .ref b] ∧ TestAt A H a x ∧ TestAt A H b y ∧ x.cost ≤ 1000 ∧ y.cost ≤ 1000 ∧ Q (.bl (Vatsld.before x y)) H
/-! ### comes_before -/
abbrev s_comes_before : Stmt := top 45
theorem sc_comes_before : FnScope ["test", "other"] ["test", "other"] (defScope s_comes_before) := ⟨rfl, rfl, rfl, by decide +kernel, rfl, by decide +kernel, by decide +kernel⟩
theorem ok_comes_before {f : Addr} {fd : FuncData} (F : Fun K "comes_before" "comes_before" s_comes_before f fd) (T : Txt K mg A) : FnOk P w K mg base CX0 1 f fd ["test", "other"] (sp_comes_before A) := by
  refine F.ok sc_comes_before (fun vs H Q E h => by revert h; first | (rintro ⟨rfl, _⟩; rfl) | (rintro ⟨_, rfl, _⟩; rfl) | (rintro ⟨_, _, rfl, _⟩; rfl) | (rintro ⟨_, _, _, rfl, _⟩; rfl) | (rintro ⟨_, _, _, _, rfl, _⟩; rfl) | (rintro ⟨_, _, _, _, _, rfl, _⟩; rfl) | (rintro ⟨_, _, _, _, _, _, rfl, _⟩; rfl) | (rintro ⟨_, _, _, _, _, _, _, rfl, _⟩; rfl) | (rintro ⟨_, _, _, _, _, _, _, _, rfl, _⟩; rfl) | (rintro ⟨_, _, _, _, _, _, _, _, _, rfl, _⟩; rfl) | (rintro ⟨_, _, _, _, _, _, _, _, _, _, rfl, _⟩; rfl) | (rintro ⟨_, _, _, _, _, _, _, _, _, _, _, rfl, _⟩; rfl)) (fun cdv Ar outer s H vs Q E hr h => ⟨_, 
  (pss_cons (ps_if (PW.pt (pw_and (pt_cmpR op_ne (pe_fld (pv 0) rfl) pe_int (nomark _)) (pw_and1 (pt_cmpR op_eq (pe_fld (pv 1) rfl) pe_int (nomark _))))) (pss_one (ps_ret pe_bl)) pss_nil)
      (pss_one (ps_ret (pe_cmpR op_lt (pe_op op_mul (pe_fld (pv 0) rfl) (pe_fld (pv 1) rfl)) (pe_op op_mul (pe_fld (pv 1) rfl) (pe_fld (pv 0) rfl)) (nomark _))))), ?_⟩)
  obtain ⟨a, b, x, y, rfl, ⟨dx, lx, e1, _⟩, ⟨dy, ly, e2, _⟩, h1, h2, k⟩ := h
  have sc : ∀ i j : Int, scal (.int i) (.int j) = true := fun _ _ => rfl
  refine st_seqIfV (ans_and3 (ans_neV (val_chance T (val_var rfl) e1) val_c (sc _ _)) fun _ => ans_eqV (val_chance T (val_var rfl) e2) val_c (sc _ _)) (fun hb => ?_) fun hb => ?_
  · refine st_ret val_c ?_
    have : Vatsld.before x y = true := by
      rw [← before_prog]
      simp at hb
      exact .inl ⟨hb.1, hb.2⟩
    rw [this] at k
    exact k
  · refine st_ret (val_I0 (val_I (mul_l (by omega) (by omega)) (val_cost T (val_var rfl) e1) (val_chance T (val_var rfl) e2)) (val_I (mul_l (by omega) (by omega)) (val_cost T (val_var rfl) e2) (val_chance T (val_var rfl) e1))) ?_
    have : decide ((x.cost : Int) * (y.chance : Int) < (y.cost : Int) * (x.chance : Int)) = Vatsld.before x y := by
      rw [Bool.eq_iff_iff, decide_eq_true_iff, ← before_prog]
      have e0 : ((x.cost : Int) * (y.chance : Int) < (y.cost : Int) * (x.chance : Int)) ↔ x.cost * y.chance < y.cost * x.chance := by
        rw [← Int.natCast_mul, ← Int.natCast_mul, Int.ofNat_lt]
      rw [e0]
      constructor
      · exact .inr
      · rintro (z | z)
        · simp at hb
          exact absurd z.2 (hb z.1)
        · exact z
    show Q (.bl (decide _)) H
    rw [this]
    exact k

def sp_first_by_rule (A : Ad) : Sp := fun vs H Q _ => ∃ (a r : Addr) (p : Vatsld.Plan) (x : Nat) (l : List Nat), vs = [.ref a, .ref r] ∧ PlanAt A H a p ∧ WF p ∧ H r = some (.lst (natsV (x :: l))) ∧ (∀ z ∈ x :: l, z < p.jobs.length) ∧
  ∀ H', Same H H' → Q (.int ((l.foldl (firstStep p) x : Nat) : Int)) H'
/-! ### first_by_rule -/
abbrev s_first_by_rule : Stmt := top 44
theorem sc_first_by_rule : FnScope ["plan", "numbers", "first", "number"] ["plan", "numbers"] (defScope s_first_by_rule) := ⟨rfl, rfl, rfl, by decide +kernel, rfl, by decide +kernel, by decide +kernel⟩
theorem ok_first_by_rule {f : Addr} {fd : FuncData} (F : Fun K "first_by_rule" "first_by_rule" s_first_by_rule f fd) (T : Txt K mg A)
    (C_comes_before : Cal P w K mg base CX0 1 "comes_before" ["test", "other"] (sp_comes_before A)) : FnOk P w K mg base CX0 2 f fd ["plan", "numbers"] (sp_first_by_rule A) := by
  obtain ⟨f_comes_before, fd_comes_before, m_comes_before, kp_comes_before, b_comes_before, G_comes_before⟩ := C_comes_before.ex
  refine F.ok sc_first_by_rule (fun vs H Q E h => by revert h; first | (rintro ⟨rfl, _⟩; rfl) | (rintro ⟨_, rfl, _⟩; rfl) | (rintro ⟨_, _, rfl, _⟩; rfl) | (rintro ⟨_, _, _, rfl, _⟩; rfl) | (rintro ⟨_, _, _, _, rfl, _⟩; rfl) | (rintro ⟨_, _, _, _, _, rfl, _⟩; rfl) | (rintro ⟨_, _, _, _, _, _, rfl, _⟩; rfl) | (rintro ⟨_, _, _, _, _, _, _, rfl, _⟩; rfl) | (rintro ⟨_, _, _, _, _, _, _, _, rfl, _⟩; rfl) | (rintro ⟨_, _, _, _, _, _, _, _, _, rfl, _⟩; rfl) | (rintro ⟨_, _, _, _, _, _, _, _, _, _, rfl, _⟩; rfl) | (rintro ⟨_, _, _, _, _, _, _, _, _, _, _, rfl, _⟩; rfl)) (fun cdv Ar outer s H vs Q E hr h => ⟨_, 
  (pss_cons (ps_set (i := 2) sc_first_by_rule.nd rfl (Or.inl rfl) (pe_ix ix_list (pv 1) pe_int (fun _ _ => rfl)))
      (pss_cons (ps_for PassesOwn.never rfl (pi_list (pv 1)) (pg_name (i := 3) sc_first_by_rule.nd rfl (Or.inl rfl)) (pss_one (ps_if (pt_val (pe_call G_comes_before (hr.mono (by decide)) rfl m_comes_before kp_comes_before b_comes_before .nil pass0 (pa_cons (pe_ix ix_list (pe_fld (pv 0) rfl) (pv 3) (fun _ _ => rfl)) (pa_cons (pe_ix ix_list (pe_fld (pv 0) rfl) (pv 2) (fun _ _ => rfl)) pa_nil)))) (pss_one (ps_set (i := 2) sc_first_by_rule.nd rfl (Or.inl rfl) (pv 3))) pss_nil)))
      (pss_one (ps_ret (pv 2))))), ?_⟩)
  obtain ⟨a, r, p, x, l, rfl, hp, wf, hr', hl, k⟩ := h
  refine st_seqSet (val_ixL (n := 0) (v := .int (x : Int)) (SqL.of hr') rfl (val_var rfl) val_c) ?_
  refine st_seqForL (val_var rfl) (SqL.of hr') (fun i σ H' => (∃ v, σ = [some (.ref a), some (.ref r), some (.int (((((x :: l).take i).foldl (firstStep p) x : Nat)) : Int)), v]) ∧ Same H H') ⟨⟨_, rfl⟩, Same.refl _⟩ (fun i σ H' _ z => SqL.of (z.2 _ _ hr')) ?_ ?_
  · rintro i y σ H' hx ⟨⟨v, rfl⟩, s3⟩
    obtain ⟨m, hm, rfl⟩ := natsV_mem hx
    have hm2 := hl m (List.mem_of_getElem? hm)
    obtain ⟨f, hf⟩ : ∃ f, f = ((x :: l).take i).foldl (firstStep p) x := ⟨_, rfl⟩
    have hf2 : f < p.jobs.length := by
      have key : ∀ (ys : List Nat) (b : Nat), (∀ z ∈ ys, z < p.jobs.length) → b < p.jobs.length → ys.foldl (firstStep p) b < p.jobs.length := by
        intro ys
        induction ys with
        | nil => intro b _ hb; exact hb
        | cons c r ih =>
          intro b h1 h2
          rw [List.foldl_cons]
          refine ih _ (fun z hz => h1 z (List.mem_cons_of_mem _ hz)) ?_
          unfold firstStep
          split
          · exact h1 c List.mem_cons_self
          · exact h2
      rw [hf]
      exact key _ _ (fun z hz => hl z (List.mem_of_mem_take hz)) (hl x List.mem_cons_self)
    rw [← hf]
    have step : ((x :: l).take (i + 1)).foldl (firstStep p) x = firstStep p f m := by rw [take_one hm, List.foldl_append, ← hf]; rfl
    have hp' := hp.mono s3
    obtain ⟨dx, lg, lt, ts, q1, dq1, la1, e1, e2, e3, e4, e5⟩ := hp'.test hm2
    obtain ⟨dx2, lg2, lt2, ts2, q2, dq2, la2, f1, f2, f3, f4, f5⟩ := hp'.test hf2
    refine st_ifS (ans_B (b := Vatsld.before (Vatsld.jobAt p m) (Vatsld.jobAt p f)) (evs_call (eva_cons (evs_of (val_ixL (SqL.of e2) e3 (val_tests T (val_var rfl) e1) (val_var rfl))) fun _ sa =>
      eva_cons (evs_of (val_ixL (SqL.of (sa _ _ f2)) f3 (val_tests T (val_var rfl) (sa _ _ f1)) (val_var rfl))) fun _ _ => eva_nil) fun H4 s4 Q z => ?_)) (fun hb H4 s4 => ?_) fun hb H4 s4 => ?_
    · exact ⟨q1, q2, _, _, rfl, ⟨dq1, la1, s4 _ _ e4, s4 _ _ e5⟩, ⟨dq2, la2, s4 _ _ f4, s4 _ _ f5⟩, wf.jcost _ (job_mem hm2), wf.jcost _ (job_mem hf2), z H4 (Same.refl _)⟩
    · refine st_set (val_var rfl) ⟨⟨some (.int (m : Int)), ?_⟩, s3.trans s4⟩
      rw [step]
      unfold firstStep
      rw [if_pos hb]
      rfl
    · refine st_next ⟨⟨some (.int (m : Int)), ?_⟩, s3.trans s4⟩
      rw [step]
      unfold firstStep
      rw [if_neg (by rw [hb]; exact Bool.false_ne_true)]
      rfl
  · rintro σ H' ⟨⟨v, rfl⟩, s3⟩
    have e0 : ((x :: l).take (natsV (x :: l)).length).foldl (firstStep p) x = l.foldl (firstStep p) x := by
      rw [natsV_len, List.take_length, List.foldl_cons]
      congr 1
      unfold firstStep
      split <;> rfl
    rw [e0]
    exact st_ret (val_var rfl) (k H' s3)

def sp_rule_order (A : Ad) : Sp := fun vs H Q _ => ∃ (a : Addr) (p : Vatsld.Plan), vs = [.ref a] ∧ PlanAt A H a p ∧ WF p ∧
  ∀ q H', H q = none → Same H H' → H' q = some (.lst (natsV (Vatsld.simpleOrder p))) → Q (.ref q) H'
/-! ### rule_order -/
abbrev s_rule_order : Stmt := top 43
theorem sc_rule_order : FnScope ["plan", "order"] ["plan"] (defScope s_rule_order) := ⟨rfl, rfl, rfl, by decide +kernel, rfl, by decide +kernel, by decide +kernel⟩
theorem ok_rule_order {f : Addr} {fd : FuncData} (F : Fun K "rule_order" "rule_order" s_rule_order f fd) (T : Txt K mg A)
    (C_first_by_rule : Cal P w K mg base CX0 2 "first_by_rule" ["plan", "numbers"] (sp_first_by_rule A))
    (C_may_run_next : Cal P w K mg base CX0 2 "may_run_next" ["plan", "ran"] (sp_may_run_next A)) : FnOk P w K mg base CX0 3 f fd ["plan"] (sp_rule_order A) := by
  obtain ⟨f_first_by_rule, fd_first_by_rule, m_first_by_rule, kp_first_by_rule, b_first_by_rule, G_first_by_rule⟩ := C_first_by_rule.ex
  obtain ⟨f_may_run_next, fd_may_run_next, m_may_run_next, kp_may_run_next, b_may_run_next, G_may_run_next⟩ := C_may_run_next.ex
  refine F.ok sc_rule_order (fun vs H Q E h => by revert h; first | (rintro ⟨rfl, _⟩; rfl) | (rintro ⟨_, rfl, _⟩; rfl) | (rintro ⟨_, _, rfl, _⟩; rfl) | (rintro ⟨_, _, _, rfl, _⟩; rfl) | (rintro ⟨_, _, _, _, rfl, _⟩; rfl) | (rintro ⟨_, _, _, _, _, rfl, _⟩; rfl) | (rintro ⟨_, _, _, _, _, _, rfl, _⟩; rfl) | (rintro ⟨_, _, _, _, _, _, _, rfl, _⟩; rfl) | (rintro ⟨_, _, _, _, _, _, _, _, rfl, _⟩; rfl) | (rintro ⟨_, _, _, _, _, _, _, _, _, rfl, _⟩; rfl) | (rintro ⟨_, _, _, _, _, _, _, _, _, _, rfl, _⟩; rfl) | (rintro ⟨_, _, _, _, _, _, _, _, _, _, _, rfl, _⟩; rfl)) (fun cdv Ar outer s H vs Q E hr h => ⟨_, 
  (pss_cons (ps_set (i := 1) sc_rule_order.nd rfl (Or.inl rfl) (pe_lst pa_nil))
      (pss_cons (ps_while PassesOwn.never (pt_cmpR op_lt (pe_callB call_len_seq (by rfl) T.b_len (by decide +kernel) (pa_cons (pv 1) pa_nil)) (pe_callB call_len_seq (by rfl) T.b_len (by decide +kernel) (pa_cons (pe_fld (pv 0) rfl) pa_nil)) (nomark _)) (pss_one (ps_expr (pe_bm PySem.F.plainAttrs_list PySem.F.slot_list_append PySem.F.type_list_append mt_append (pv 1) (pa_cons (pe_call G_first_by_rule (hr.mono (by decide)) rfl m_first_by_rule kp_first_by_rule b_first_by_rule .nil pass0 (pa_cons (pv 0) (pa_cons (pe_call G_may_run_next (hr.mono (by decide)) rfl m_may_run_next kp_may_run_next b_may_run_next .nil pass0 (pa_cons (pv 0) (pa_cons (pv 1) pa_nil))) pa_nil))) pa_nil)))))
      (pss_one (ps_ret (pv 1))))), ?_⟩)
  obtain ⟨a, p, rfl, hp, wf, k⟩ := h
  have hn := wf.nj
  refine st_seqSetN (o := .lst []) (evn_lst eva_nil (by decide)) fun q H1 n1 s1 f1 => ?_
  refine st_seqWhile (Pv := fun m σ H' => ∃ done : List Nat, σ = [some (.ref a), some (.ref q)] ∧ Same H H' ∧ H' q = some (.lst (natsV done)) ∧ done.Nodup ∧ (∀ x ∈ done, x < p.jobs.length) ∧
    Vatsld.simpleOrder p = done ++ ruleOf p done ∧ m = p.jobs.length - done.length) (p.jobs.length) ⟨[], rfl, s1, f1, List.nodup_nil, (fun x hx => nomatch hx), by rw [simpleOrder_is]; rfl, rfl⟩ ?_
  rintro m σ H' ⟨done, rfl, s2, f2, hnd, hlt, heq, rfl⟩
  obtain ⟨dx, lg, lt, gs, ts, e1, e2, e3, e4, e5⟩ := (hp.mono s2).lens
  have hll := left_len p.jobs.length done hnd hlt
  refine ⟨_, ans_cmp (val_len (SqL.of f2) (natsV_len done) (val_var rfl)) (val_len (SqL.of e4) e5 (val_tests T (val_var rfl) e1)) fun Q z => ⟨_, _, rfl, rfl, z⟩, fun hb => ?_, fun hb => ?_⟩
  · have hb' : done.length < p.jobs.length := by simpa using hb
    have hne : left p.jobs.length done ≠ [] := fun z => by rw [z] at hll; simp at hll; omega
    obtain ⟨x, l, hxl⟩ : ∃ x l, Vatsld.readyIn p done (left p.jobs.length done) = x :: l := by
      cases e : Vatsld.readyIn p done (left p.jobs.length done) with
      | nil => exact absurd e (ready_some wf hne)
      | cons x l => exact ⟨x, l, rfl⟩
    have hmem : ∀ z ∈ x :: l, z ∈ left p.jobs.length done := fun z hz => ready_left (by rw [hxl]; exact hz)
    have hfst : Vatsld.firstBy p (Vatsld.readyIn p done (left p.jobs.length done)) = some (l.foldl (firstStep p) x) := by rw [hxl, first_fold]
    obtain ⟨i, hi, ei⟩ := firstBy_some (p := p) (l := x :: l) (by simp)
    have hi2 : i = l.foldl (firstStep p) x := by rw [← hxl, hfst] at ei; exact (Option.some.inj ei).symm
    rw [← hi2] at hfst
    have hil := hmem i hi
    obtain ⟨hilt, hin⟩ := mem_left.mp hil
    refine st_append (y := .int (i : Int)) (val_var rfl) f2 (evs_call2N (evs_of (val_var rfl)) (fun H3 s3 => evn_call (o := .lst (natsV (x :: l))) (eva_cons (evs_of (val_var rfl)) fun _ _ => eva_cons (evs_of (val_var rfl)) fun _ _ => eva_nil) fun H4 s4 Q z => ?_) fun q2 H4 s4 f4 Q z => ?_)
      (by rw [natsV_len]; omega) fun H3 s3 => ?_
    · refine ⟨a, q, p, done, rfl, hp.mono (s2.trans (s3.trans s4)), wf, s4 _ _ (s3 _ _ f2), fun q5 H5 n5 s5 f5 => z q5 H5 n5 s5 ?_⟩
      rw [← hxl]
      exact f5
    · refine ⟨a, q2, p, x, l, rfl, hp.mono (s2.trans s4), wf, f4, fun z hz => (mem_left.mp (hmem z hz)).1, fun H5 s5 => ?_⟩
      rw [← hi2]
      exact z H5 s5
    · refine ⟨p.jobs.length - (done ++ [i]).length, by simp; omega, done ++ [i], rfl, (s2.trans s3).mut n1, ?_, ?_, ?_, ?_, rfl⟩
      · rw [upd_same]
        unfold natsV
        rw [List.map_append]
        rfl
      · rw [List.nodup_append]
        refine ⟨hnd, by simp, fun u hu v hv => ?_⟩
        rw [List.mem_singleton] at hv
        subst hv
        intro z
        subst z
        exact hin hu
      · intro u hu
        rcases List.mem_append.mp hu with z | z
        · exact hlt u z
        · rw [List.mem_singleton] at z
          omega
      · rw [heq, ruleOf_next hfst hil]
        simp
  · have hb' : ¬ done.length < p.jobs.length := by simpa using hb
    have hz : left p.jobs.length done = [] := List.length_eq_zero_iff.mp (by omega)
    rw [heq, ruleOf_none hz, List.append_nil] at k
    exact st_ret (val_var rfl) (k q H' n1 s2 f2)
end
end Tp
namespace Tp
open PySem PySem.Spec PyProof.Rows L2
section
variable {P : Program} {w : World} {K : PySem.W.Frag} {mg : Str → Option Value} {base : Heap} {A : Ad}
def sp_expected_cost (A : Ad) : Sp := fun vs H Q _ => ∃ (a r : Addr) (p : Vatsld.Plan) (l : List Nat), vs = [.ref a, .ref r] ∧ PlanAt A H a p ∧ WF p ∧ H r = some (.lst (natsV l)) ∧ (∀ x ∈ l, x < p.jobs.length) ∧ l.length ≤ 1000 ∧
  ∀ H', Same H H' → Q (.int (Vatsld.expectedOf p l : Int)) H'
/-! ### expected_cost -/
abbrev s_expected_cost : Stmt := top 37
theorem sc_expected_cost : FnScope ["plan", "order", "steps", "ready", "number", "scale", "rest", "ready_ahead"] ["plan", "order"] (defScope s_expected_cost) := ⟨rfl, rfl, rfl, by decide +kernel, rfl, by decide +kernel, by decide +kernel⟩
theorem ok_expected_cost {f : Addr} {fd : FuncData} (F : Fun K "expected_cost" "expected_cost" s_expected_cost f fd) (T : Txt K mg A)
    (C_cost_from : Cal P w K mg base CX0 2 "cost_from" ["plan", "number", "ready", "scale", "rest"] (sp_cost_from A))
    (C_ready_behind : Cal P w K mg base CX0 1 "ready_behind" ["plan", "number", "ready"] (sp_ready_behind A)) : FnOk P w K mg base CX0 3 f fd ["plan", "order"] (sp_expected_cost A) := by
  obtain ⟨f_cost_from, fd_cost_from, m_cost_from, kp_cost_from, b_cost_from, G_cost_from⟩ := C_cost_from.ex
  obtain ⟨f_ready_behind, fd_ready_behind, m_ready_behind, kp_ready_behind, b_ready_behind, G_ready_behind⟩ := C_ready_behind.ex
  refine F.ok sc_expected_cost (fun vs H Q E h => by revert h; first | (rintro ⟨rfl, _⟩; rfl) | (rintro ⟨_, rfl, _⟩; rfl) | (rintro ⟨_, _, rfl, _⟩; rfl) | (rintro ⟨_, _, _, rfl, _⟩; rfl) | (rintro ⟨_, _, _, _, rfl, _⟩; rfl) | (rintro ⟨_, _, _, _, _, rfl, _⟩; rfl) | (rintro ⟨_, _, _, _, _, _, rfl, _⟩; rfl) | (rintro ⟨_, _, _, _, _, _, _, rfl, _⟩; rfl) | (rintro ⟨_, _, _, _, _, _, _, _, rfl, _⟩; rfl) | (rintro ⟨_, _, _, _, _, _, _, _, _, rfl, _⟩; rfl) | (rintro ⟨_, _, _, _, _, _, _, _, _, _, rfl, _⟩; rfl) | (rintro ⟨_, _, _, _, _, _, _, _, _, _, _, rfl, _⟩; rfl)) (fun cdv Ar outer s H vs Q E hr h => ⟨_, 
  (pss_cons (ps_set (i := 2) sc_expected_cost.nd rfl (Or.inl rfl) (pe_lst pa_nil))
      (pss_cons (ps_set (i := 3) sc_expected_cost.nd rfl (Or.inl rfl) pe_non)
      (pss_cons (ps_for PassesOwn.never rfl (pi_list (pv 1)) (pg_name (i := 4) sc_expected_cost.nd rfl (Or.inl rfl)) (pss_cons (ps_expr (pe_bm PySem.F.plainAttrs_list PySem.F.slot_list_append PySem.F.type_list_append mt_append (pv 2) (pa_cons (pe_tup (pa_cons (pv 4) (pa_cons (pv 3) pa_nil))) pa_nil)))
      (pss_one (ps_set (i := 3) sc_expected_cost.nd rfl (Or.inl rfl) (pe_call G_ready_behind (hr.mono (by decide)) rfl m_ready_behind kp_ready_behind b_ready_behind .nil pass0 (pa_cons (pv 0) (pa_cons (pv 4) (pa_cons (pv 3) pa_nil))))))))
      (pss_cons (ps_set (i := 5) sc_expected_cost.nd rfl (Or.inl rfl) pe_int)
      (pss_cons (ps_set (i := 6) sc_expected_cost.nd rfl (Or.inl rfl) pe_int)
      (pss_cons (ps_for PassesOwn.never rfl (pi_reversed (by rfl) T.b_reversed (pa_cons (pv 2) pa_nil)) (pg_tup rfl (pgs_cons (pg_name (i := 4) sc_expected_cost.nd rfl (Or.inl rfl)) (pgs_cons (pg_name (i := 7) sc_expected_cost.nd rfl (Or.inl rfl)) pgs_nil))) (pss_cons (ps_set (i := 6) sc_expected_cost.nd rfl (Or.inl rfl) (pe_call G_cost_from (hr.mono (by decide)) rfl m_cost_from kp_cost_from b_cost_from .nil pass0 (pa_cons (pv 0) (pa_cons (pv 4) (pa_cons (pv 7) (pa_cons (pv 5) (pa_cons (pv 6) pa_nil)))))))
      (pss_one (ps_aug (i := 5) sc_expected_cost.nd rfl (Or.inl rfl) (pe_num (by rfl) T.k_HUNDRED) ip_mul))))
      (pss_one (ps_ret (pv 6))))))))), ?_⟩)
  obtain ⟨a, r, p, l, rfl, hp, wf, hr', hl, hlen, k⟩ := h
  refine st_seqSetN (o := .lst []) (evn_lst eva_nil (by decide)) fun q H1 n1 s1 f1 => ?_
  refine st_seqSet val_c ?_
  refine st_seqForL (val_var rfl) (SqL.of (s1 _ _ hr')) (fun i σ H' => ∃ (v : Option V) (ts : List V), σ = [some (.ref a), some (.ref r), some (.ref q), some (optV (lastAt p l i)), v, none, none, none] ∧ Same H H' ∧ H' q = some (.lst ts) ∧ ts.length = i ∧
    ∀ (j : Nat) (m : Nat), j < i → l[j]? = some m → ∃ t, ts[j]? = some (.ref t) ∧ H' t = some (.tup [.int (m : Int), optV (lastAt p l j)])) ⟨none, [], rfl, s1, f1, rfl, fun j m hj => by omega⟩
    (fun i σ H' _ z => let ⟨_, _, _, s, _⟩ := z; SqL.of (s _ _ hr')) ?_ ?_
  · rintro i x σ H' hx ⟨v, ts, rfl, s2, f2, ht, hts⟩
    obtain ⟨m, hm, rfl⟩ := natsV_mem hx
    have hi := (List.getElem?_eq_some_iff.mp hm).1
    refine st_seqAppendN (o := .tup [.int (m : Int), optV (lastAt p l i)]) (val_var rfl) f2 (evn_tup (eva_cons (evs_of (val_var rfl)) fun _ _ => eva_cons (evs_of (val_var rfl)) fun _ _ => eva_nil) (by simp)) (by omega) fun t H3 n3 s3 f3 ne => ?_
    have sH3 : Same H (upd H3 q (.lst (ts ++ [.ref t]))) := (s2.trans s3).mut n1
    refine st_setS (v := optV (lastAt p l (i + 1))) (evs_call (eva_cons (evs_of (val_var rfl)) fun _ _ => eva_cons (evs_of (val_var rfl)) fun _ _ => eva_cons (evs_of (val_var rfl)) fun _ _ => eva_nil) fun H4 s4 Q z => ?_) fun H4 s4 => ?_
    · rw [lastAt_more hm] at z
      exact ⟨a, p, m, lastAt p l i, rfl, hp.mono (sH3.trans s4), hl m (List.mem_of_getElem? hm), z H4 (Same.refl _)⟩
    · refine ⟨some (.int (m : Int)), ts ++ [.ref t], rfl, sH3.trans s4, s4 _ _ upd_same, by simp [ht], fun j m' hj hm' => ?_⟩
      have keep : ∀ (b : Addr) (o : HO), H3 b = some o → b ≠ q → H4 b = some o := fun b o e nb => s4 _ _ (by rw [upd_ne nb]; exact e)
      have hq3 : H3 q = some (.lst ts) := s3 _ _ f2
      by_cases hji : j < i
      · obtain ⟨t', e1, e2⟩ := hts j m' hji hm'
        refine ⟨t', by rw [List.getElem?_append_left (by omega)]; exact e1, keep _ _ (s3 _ _ e2) fun z => ?_⟩
        rw [z, f2] at e2
        cases e2
      · have hji : j = i := by omega
        subst hji
        rw [hm] at hm'
        cases hm'
        exact ⟨t, by rw [List.getElem?_append_right (by omega)]; simp [ht], keep _ _ f3 ne⟩
  · rintro σ H' ⟨v, ts, rfl, s2, f2, ht, hts⟩
    rw [natsV_len] at ht hts ⊢
    refine st_seqSet val_c (st_seqSet val_c ?_)
    refine st_seqForV (fun R z => ⟨_, rfl, z⟩) (SqL.of f2) (fun j σ H3 => (∃ (v4 v7 : Option V), σ = [some (.ref a), some (.ref r), some (.ref q), some (optV (lastAt p l l.length)), v4, some (.int ((100 ^ j : Nat) : Int)), some (.int (costAt p l (l.length - j) : Int)), v7]) ∧ Same H' H3)
      ⟨⟨v, none, by rw [Nat.sub_zero, costAt_end]; rfl⟩, Same.refl _⟩ (fun i σ H3 _ z => SqL.of (z.2 _ _ f2)) ?_ ?_
    · rintro j x σ H3 hj hx ⟨⟨v4, v7, rfl⟩, s3⟩
      rw [ht] at hj hx
      obtain ⟨m, hm⟩ : ∃ m, l[l.length - 1 - j]? = some m := ⟨_, List.getElem?_eq_getElem (by omega)⟩
      obtain ⟨t, e1, e2⟩ := hts (l.length - 1 - j) m (by omega) hm
      rw [e1] at hx
      cases hx
      refine g_pair (SqT.of (s3 _ _ e2)) ?_
      have hm2 := hl m (List.mem_of_getElem? hm)
      have ej : l.length - (j + 1) = l.length - 1 - j := by omega
      have ec : costAt p l (l.length - (j + 1)) = Vatsld.costFrom p (lastAt p l (l.length - 1 - j)) m * 100 ^ j * 100 + (100 - (Vatsld.jobAt p m).chance) * costAt p l (l.length - j) := by
        rw [ej, costAt_step hm]
        have e3 : l.length - (l.length - 1 - j) = j + 1 := by omega
        have e4 : l.length - 1 - j + 1 = l.length - j := by omega
        rw [e3, e4, Nat.pow_succ, Nat.mul_assoc]
      refine st_seqSetS (v := .int (costAt p l (l.length - (j + 1)) : Int)) (evs_call (eva_cons (evs_of (val_var rfl)) fun _ _ => eva_cons (evs_of (val_var rfl)) fun _ _ => eva_cons (evs_of (val_var rfl)) fun _ _ => eva_cons (evs_of (val_var rfl)) fun _ _ => eva_cons (evs_of (val_var rfl)) fun _ _ => eva_nil) fun H4 s4 Q z => ?_) fun H4 s4 => ?_
      · refine ⟨a, p, m, _, _, _, rfl, hp.mono (s2.trans (s3.trans s4)), wf, hm2, fun H5 s5 => ?_⟩
        rw [← ec]
        exact z H5 s5
      · refine ⟨_, rfl, _, _, rfl, rfl, mul_r (by decide) (by decide), ⟨⟨some (.int (m : Int)), some (optV (lastAt p l (l.length - 1 - j))), ?_⟩, s3.trans s4⟩⟩
        rw [Nat.pow_succ, Int.natCast_mul]
        rfl
    · rintro σ H3 ⟨⟨v4, v7, rfl⟩, s3⟩
      rw [ht, Nat.sub_self, costAt_all]
      exact st_ret (val_var rfl) (k H3 (s2.trans s3))
end
end Tp
namespace Tp
open PySem PySem.Spec PyProof.Rows L2
section
variable {P : Program} {w : World} {K : PySem.W.Frag} {mg : Str → Option Value} {base : Heap} {A : Ad}
/-! ### the table -/
def lfO : Option Nat → Leaf
  | none => .none
  | some g => .num (g : Int)
def kOf (m : Nat) (last : Option Nat) : List Leaf := [.num (m : Int), lfO last]
theorem kOf_V (m : Nat) (last : Option Nat) : (kOf m last).map leafV = [.int (m : Int), optV last] := by cases last <;> rfl
theorem kOf_inj {m m' : Nat} {last last' : Option Nat} (h : kOf m last = kOf m' last') : m = m' ∧ last = last' := by
  unfold kOf at h
  injection h with h1 h2
  injection h1 with h1
  injection h2 with h2 _
  refine ⟨by omega, ?_⟩
  cases last with
  | none => cases last' with
    | none => rfl
    | some g => cases h2
  | some g => cases last' with
    | none => cases h2
    | some g' =>
      injection h2 with h2
      congr 1
      omega
def headV (f : Vatsld.Found) : V := optV f.order.head?
def cellO (f : Vatsld.Found) : HO := .tup [.int (f.cost : Int), headV f]
def okLast (p : Vatsld.Plan) (last : Option Nat) : Prop := ∀ g, last = some g → g < p.groups.length
theorem okLast_after {p : Vatsld.Plan} (wf : WF p) {i : Nat} (hi : i < p.jobs.length) {last : Option Nat} (h : okLast p last) : okLast p (Vatsld.groupAfter p last i) := by
  intro g hg
  unfold Vatsld.groupAfter at hg
  cases e : (Vatsld.jobAt p i).group with
  | none => rw [e] at hg; exact h g hg
  | some k =>
    rw [e] at hg
    cases hg
    exact wf.jgrp _ (job_mem hi) _ e
/-- the cells from a mask on are there -/
def Covers (H : Hp) (p : Vatsld.Plan) (xs : List Ent) (m0 : Nat) : Prop := ∀ m last, m0 ≤ m → m < 2 ^ p.jobs.length → okLast p last → ∃ b q, atKey xs (kOf m last) = some (b, .ref q) ∧ H q = some (cellO (cellOf p last m))
theorem Covers.mono {H H' : Hp} {p : Vatsld.Plan} {xs : List Ent} {m0 : Nat} (s : Same H H') (h : Covers H p xs m0) : Covers H' p xs m0 := fun m last h1 h2 h3 =>
  let ⟨b, q, e1, e2⟩ := h m last h1 h2 h3
  ⟨b, q, e1, s _ _ e2⟩
/-- what the search has so far -/
def foundO : Option Vatsld.Found → HO
  | none => .tup [.int 0, .non]
  | some f => cellO f
theorem pow7 {p : Vatsld.Plan} (wf : WF p) : 2 ^ p.jobs.length ≤ 128 := by
  have : 2 ^ p.jobs.length ≤ 2 ^ 7 := Nat.pow_le_pow_right (by omega) wf.nj
  simpa using this

def sp_best_step (P : Program) (w : World) (A : Ad) : Sp := fun vs H Q _ => ∃ (a d r : Addr) (p : Vatsld.Plan) (xs : List Ent) (m : Nat) (last : Option Nat), vs = [.ref a, .ref d, .ref r, optV last] ∧ PlanAt A H a p ∧ WF p ∧ TabAt P w H d xs ∧ Covers H p xs (m + 1) ∧
  m < 2 ^ p.jobs.length ∧ okLast p last ∧ H r = some (.lst (natsV (ranOf p.jobs.length m))) ∧ ∀ q H', H q = none → Same H H' → H' q = some (cellO (cellOf p last m)) → Q (.ref q) H'
/-! ### best_step -/
abbrev s_best_step : Stmt := top 40
theorem sc_best_step : FnScope ["plan", "table", "ran", "ready", "best", "scale", "number", "mask", "rest", "cost"] ["plan", "table", "ran", "ready"] (defScope s_best_step) := ⟨rfl, rfl, rfl, by decide +kernel, rfl, by decide +kernel, by decide +kernel⟩
theorem ok_best_step {f : Addr} {fd : FuncData} (F : Fun K "best_step" "best_step" s_best_step f fd) (T : Txt K mg A)
    (C_may_run_next : Cal P w K mg base CX0 2 "may_run_next" ["plan", "ran"] (sp_may_run_next A))
    (C_cost_from : Cal P w K mg base CX0 2 "cost_from" ["plan", "number", "ready", "scale", "rest"] (sp_cost_from A))
    (C_ready_behind : Cal P w K mg base CX0 1 "ready_behind" ["plan", "number", "ready"] (sp_ready_behind A))
    (C_mask_of : Cal P w K mg base CX0 1 "mask_of" ["numbers"] (sp_mask_of A))
    (C_scale_of : Cal P w K mg base CX0 1 "scale_of" ["count"] (sp_scale_of A)) : FnOk P w K mg base CX0 3 f fd ["plan", "table", "ran", "ready"] (sp_best_step P w A) := by
  obtain ⟨f_may_run_next, fd_may_run_next, m_may_run_next, kp_may_run_next, b_may_run_next, G_may_run_next⟩ := C_may_run_next.ex
  obtain ⟨f_cost_from, fd_cost_from, m_cost_from, kp_cost_from, b_cost_from, G_cost_from⟩ := C_cost_from.ex
  obtain ⟨f_ready_behind, fd_ready_behind, m_ready_behind, kp_ready_behind, b_ready_behind, G_ready_behind⟩ := C_ready_behind.ex
  obtain ⟨f_mask_of, fd_mask_of, m_mask_of, kp_mask_of, b_mask_of, G_mask_of⟩ := C_mask_of.ex
  obtain ⟨f_scale_of, fd_scale_of, m_scale_of, kp_scale_of, b_scale_of, G_scale_of⟩ := C_scale_of.ex
  refine F.ok sc_best_step (fun vs H Q E h => by revert h; first | (rintro ⟨rfl, _⟩; rfl) | (rintro ⟨_, rfl, _⟩; rfl) | (rintro ⟨_, _, rfl, _⟩; rfl) | (rintro ⟨_, _, _, rfl, _⟩; rfl) | (rintro ⟨_, _, _, _, rfl, _⟩; rfl) | (rintro ⟨_, _, _, _, _, rfl, _⟩; rfl) | (rintro ⟨_, _, _, _, _, _, rfl, _⟩; rfl) | (rintro ⟨_, _, _, _, _, _, _, rfl, _⟩; rfl) | (rintro ⟨_, _, _, _, _, _, _, _, rfl, _⟩; rfl) | (rintro ⟨_, _, _, _, _, _, _, _, _, rfl, _⟩; rfl) | (rintro ⟨_, _, _, _, _, _, _, _, _, _, rfl, _⟩; rfl) | (rintro ⟨_, _, _, _, _, _, _, _, _, _, _, rfl, _⟩; rfl)) (fun cdv Ar outer s H vs Q E hr h => ⟨_, 
  (pss_cons (ps_set (i := 4) sc_best_step.nd rfl (Or.inl rfl) (pe_tup (pa_cons pe_int (pa_cons pe_non pa_nil))))
      (pss_cons (ps_set (i := 5) sc_best_step.nd rfl (Or.inl rfl) (pe_call G_scale_of (hr.mono (by decide)) rfl m_scale_of kp_scale_of b_scale_of .nil pass0 (pa_cons (pe_op op_sub (pe_op op_sub (pe_callB call_len_seq (by rfl) T.b_len (by decide +kernel) (pa_cons (pe_fld (pv 0) rfl) pa_nil)) (pe_callB call_len_seq (by rfl) T.b_len (by decide +kernel) (pa_cons (pv 2) pa_nil))) pe_int) pa_nil)))
      (pss_cons (ps_for PassesOwn.never rfl (pi_list (pe_call G_may_run_next (hr.mono (by decide)) rfl m_may_run_next kp_may_run_next b_may_run_next .nil pass0 (pa_cons (pv 0) (pa_cons (pv 2) pa_nil)))) (pg_name (i := 6) sc_best_step.nd rfl (Or.inl rfl)) (pss_cons (ps_set (i := 7) sc_best_step.nd rfl (Or.inl rfl) (pe_op op_or (pe_call G_mask_of (hr.mono (by decide)) rfl m_mask_of kp_mask_of b_mask_of .nil pass0 (pa_cons (pv 2) pa_nil)) (pe_op op_shl pe_int (pv 6))))
      (pss_cons (ps_set (i := 8) sc_best_step.nd rfl (Or.inl rfl) (pe_ix ix_tup (pe_dgetN (hu_of hr) (pv 1) (pe_tup (pa_cons (pv 7) (pa_cons (pe_call G_ready_behind (hr.mono (by decide)) rfl m_ready_behind kp_ready_behind b_ready_behind .nil pass0 (pa_cons (pv 0) (pa_cons (pv 6) (pa_cons (pv 3) pa_nil)))) pa_nil))) (fun _ _ => rfl)) pe_int (fun _ _ => rfl)))
      (pss_cons (ps_set (i := 9) sc_best_step.nd rfl (Or.inl rfl) (pe_call G_cost_from (hr.mono (by decide)) rfl m_cost_from kp_cost_from b_cost_from .nil pass0 (pa_cons (pv 0) (pa_cons (pv 6) (pa_cons (pv 3) (pa_cons (pv 5) (pa_cons (pv 8) pa_nil)))))))
      (pss_one (ps_if (PW.pt (pw_or (pt_cmpR op_isN1 (pe_ix ix_tup (pv 4) pe_int (fun _ _ => rfl)) pe_non (nomark _)) (pw_or1 (pt_cmpR op_lt (pv 9) (pe_ix ix_tup (pv 4) pe_int (fun _ _ => rfl)) (nomark _))))) (pss_one (ps_set (i := 4) sc_best_step.nd rfl (Or.inl rfl) (pe_tup (pa_cons (pv 9) (pa_cons (pv 6) pa_nil))))) pss_nil))))))
      (pss_one (ps_ret (pv 4)))))), ?_⟩)
  obtain ⟨a, d, r, p, xs, m, last, rfl, hp, wf, htab, hcov, hm, hlast, hr', k⟩ := h
  obtain ⟨dx, lg, lt, gs, ts, e1, e2, e3, e4, e5⟩ := hp.lens
  have hnj := wf.nj
  obtain ⟨ran, hran⟩ : ∃ ran, ran = ranOf p.jobs.length m := ⟨_, rfl⟩
  rw [← hran] at hr'
  have hnd : ran.Nodup := by rw [hran]; exact ran_nodup _ _
  have hlt : ∀ x ∈ ran, x < p.jobs.length := fun x hx => by rw [hran] at hx; exact (ran_mem.mp hx).1
  have hll := left_len p.jobs.length ran hnd hlt
  obtain ⟨L, hL⟩ : ∃ L, L = left p.jobs.length ran := ⟨_, rfl⟩
  rw [← hL] at hll
  refine st_seqSetN (o := foundO none) (evn_tup (eva_cons (evs_of val_c) fun _ _ => eva_cons (evs_of val_c) fun _ _ => eva_nil) (by simp)) fun bq H1 n1 s1 f1 => ?_
  refine st_seqSetS (v := .int ((100 ^ (L.length - 1) : Nat) : Int)) (evs_call (eva_cons (evs_sub (evs_sub (evs_of (val_len (SqL.of (s1 _ _ e4)) e5 (val_tests T (val_var rfl) (s1 _ _ e1)))) fun _ sa => evs_of (val_len (SqL.of (sa _ _ (s1 _ _ hr'))) (natsV_len ran) (val_var rfl))) fun _ _ => evs_of val_c) fun _ _ => eva_nil) fun H2 s2 Q z => ?_) fun H2 s2 => ?_
  · refine ⟨_, rfl, by omega, by omega, ?_⟩
    have : ((p.jobs.length : Int) - (ran.length : Int) - 1).toNat = L.length - 1 := by omega
    rw [this]
    exact z H2 (Same.refl _)
  have s02 : Same H H2 := s1.trans s2
  obtain ⟨rd, hrd⟩ : ∃ rd, rd = Vatsld.readyIn p ran L := ⟨_, rfl⟩
  have hmem : ∀ i ∈ rd, i ∈ left p.jobs.length ran := fun i hi => by rw [hrd, hL] at hi; exact ready_left hi
  have hrl : rd.length ≤ 7 := by
    have h1 := ready_len p ran L
    rw [← hrd] at h1
    omega
  refine (evn_call (o := .lst (natsV rd)) (eva_cons (evs_of (val_var rfl)) fun _ _ => eva_cons (evs_of (val_var rfl)) fun _ _ => eva_nil) fun H3 s3 Q z => ?_) _ fun rl H3 n3 s3 f3 => ?_
  · exact ⟨a, r, p, ran, rfl, hp.mono (s02.trans s3), wf, (s02.trans s3) _ _ hr', fun q H4 n4 s4 f4 => z q H4 n4 s4 (by rw [hrd, hL]; exact f4)⟩
  refine ⟨rl, rfl, ⟨_, SqL.of f3⟩, for_list (K := K) (a := rl) (xs := natsV rd) (fun i σ H' => ∃ (b : Addr) (fd : Option Vatsld.Found) (v6 v7 v8 v9 : Option V), σ = [some (.ref a), some (.ref d), some (.ref r), some (optV last), some (.ref b), some (.int ((100 ^ (L.length - 1) : Nat) : Int)), v6, v7, v8, v9] ∧
    Same H3 H' ∧ H b = none ∧ H' b = some (foundO fd) ∧ fd = ((rd.take i).map (nextOf p last ran)).foldl pick none ∧ ∀ f, fd = some f → ∃ j, f.order.head? = some j)
    ⟨bq, none, none, none, none, none, rfl, Same.refl _, n1, s3 _ _ (s2 _ _ f1), rfl, fun f hf => nomatch hf⟩ (fun i σ H' _ z => let ⟨_, _, _, _, _, _, _, s, _⟩ := z; SqL.of (s _ _ f3)) ?_ ?_⟩
  · rintro i x σ H' hx ⟨b, fd, v6, v7, v8, v9, rfl, s4, nb, fb, hfd, hhd⟩
    obtain ⟨j, hj, rfl⟩ := natsV_mem hx
    have hjl := hmem j (List.mem_of_getElem? hj)
    have hjl2 : j ∈ left p.jobs.length (ranOf p.jobs.length m) := by rw [← hran]; exact hjl
    obtain ⟨hjlt, hjn⟩ := mem_left.mp hjl
    have sH : Same H H' := (s02.trans s3).trans s4
    obtain ⟨c1, c2, c3⟩ := cell_more (last := Vatsld.groupAfter p last j) hm hjl2
    rw [← hran] at c3
    have hL0 : 0 < L.length := List.length_pos_of_mem (by rw [hL]; exact hjl)
    -- mask
    refine st_seqSetS (v := .int ((m ||| 2 ^ j : Nat) : Int)) (evs_is (evs_I0 (evs_call (v := .int (m : Int)) (eva_cons (evs_of (val_var rfl)) fun _ _ => eva_nil) fun H5 s5 Q z => ?_) fun _ _ => evs_of (val_I (g := fun i j => .int (i * 2 ^ j.toNat)) ⟨by omega, by omega, by decide⟩ val_c (val_var rfl))) ?_) fun H5 s5 => ?_
    · refine ⟨r, ran, rfl, s5 _ _ (sH _ _ hr'), fun x hx => by have := hlt x hx; omega, by omega, fun H6 s6 => ?_⟩
      have : maskOf ran = m := by rw [hran]; exact mask_ran hm
      rw [this]
      exact z H6 s6
    · have e0 : Builtin.bitOr (m : Int) (1 * 2 ^ (j : Int).toNat) = ((m ||| 2 ^ j : Nat) : Int) := by
        have e9 : (1 : Int) * 2 ^ (j : Int).toNat = ((2 ^ j : Nat) : Int) := by simp
        rw [e9, Bits.bitOr_pp (Int.natCast_nonneg _) (Int.natCast_nonneg _), Int.toNat_natCast, Int.toNat_natCast]
      exact congrArg V.int e0
    have sH5 : Same H H5 := sH.trans s5
    -- rest
    obtain ⟨kb, kq, hk1, hk2⟩ := hcov (m ||| 2 ^ j) (Vatsld.groupAfter p last j) (by omega) c1 (okLast_after wf hjlt hlast)
    refine st_seqSetS (v := .int ((cellOf p (Vatsld.groupAfter p last j) (m ||| 2 ^ j)).cost : Int)) (evs_op (evs_dget (k := kOf (m ||| 2 ^ j) (Vatsld.groupAfter p last j)) (htab.mono sH5) hk1 (v := .ref kq) rfl (evs_of (val_var rfl)) fun H6 s6 => ?_) (fun _ _ => evs_of val_c) fun H6 s6 Q z => ?_) fun H6 s6 => ?_
    · rw [kOf_V]
      refine evn_tup (eva_cons (evs_of (val_var rfl)) fun H7 s7 => eva_cons (evs_call (eva_cons (evs_of (val_var rfl)) fun _ _ => eva_cons (evs_of (val_var rfl)) fun _ _ => eva_cons (evs_of (val_var rfl)) fun _ _ => eva_nil) fun H8 s8 Q z => ?_) fun _ _ => eva_nil) (by simp)
      exact ⟨a, p, j, last, rfl, hp.mono (sH5.trans (s6.trans (s7.trans s8))), hjlt, z H8 (Same.refl _)⟩
    · exact ⟨kq, _, 0, _, rfl, rfl, SqT.of (s6 _ _ (sH5 _ _ hk2)), atI_nat (j := 0) rfl, z H6 (Same.refl _)⟩
    have sH6 : Same H H6 := sH5.trans s6
    -- cost
    have ecost : Vatsld.costFrom p last j * 100 ^ (L.length - 1) * 100 + (100 - (Vatsld.jobAt p j).chance) * (cellOf p (Vatsld.groupAfter p last j) (m ||| 2 ^ j)).cost = (nextOf p last ran j).cost := by
      show _ = Vatsld.costFrom p last j * 100 ^ (left p.jobs.length ran).length + (100 - (Vatsld.jobAt p j).chance) * (bestOf p (Vatsld.groupAfter p last j) (ran ++ [j])).cost
      rw [c3, ← hL, Nat.mul_assoc, ← Nat.pow_succ, Nat.succ_eq_add_one, Nat.sub_add_cancel hL0]
    refine st_seqSetS (v := .int ((nextOf p last ran j).cost : Int)) (evs_call (eva_cons (evs_of (val_var rfl)) fun _ _ => eva_cons (evs_of (val_var rfl)) fun _ _ => eva_cons (evs_of (val_var rfl)) fun _ _ => eva_cons (evs_of (val_var rfl)) fun _ _ => eva_cons (evs_of (val_var rfl)) fun _ _ => eva_nil) fun H7 s7 Q z => ?_) fun H7 s7 => ?_
    · refine ⟨a, p, j, last, _, _, rfl, hp.mono (sH6.trans s7), wf, hjlt, fun H8 s8 => ?_⟩
      rw [ecost]
      exact z H8 s8
    -- the least so far
    have sH37 : Same H3 H7 := (s4.trans s5).trans (s6.trans s7)
    have fb7 : H7 b = some (foundO fd) := s7 _ _ (s6 _ _ (s5 _ _ fb))
    have step : ((rd.take (i + 1)).map (nextOf p last ran)).foldl pick none = pick fd (nextOf p last ran j) := by rw [take_one hj, List.map_append, List.foldl_append, ← hfd]; rfl
    have take_it : pick fd (nextOf p last ran j) = some (nextOf p last ran j) → ∀ H8 nb8, H b = none → Same H7 H8 → H nb8 = none → H8 nb8 = some (.tup [.int ((nextOf p last ran j).cost : Int), .int (j : Int)]) → _ := fun hp1 H8 nb8 _ s8 hn8 f8 => (⟨nb8, some (nextOf p last ran j), some (.int (j : Int)), some (.int ((m ||| 2 ^ j : Nat) : Int)), some (.int ((cellOf p (Vatsld.groupAfter p last j) (m ||| 2 ^ j)).cost : Int)), some (.int ((nextOf p last ran j).cost : Int)), rfl, sH37.trans s8, hn8, f8, by rw [step, hp1], fun f hf => by cases hf; exact ⟨j, rfl⟩⟩ :
      ∃ (b : Addr) (fd : Option Vatsld.Found) (v6 v7 v8 v9 : Option V), [some (.ref a), some (.ref d), some (.ref r), some (optV last), some (.ref nb8), some (.int ((100 ^ (L.length - 1) : Nat) : Int)), some (.int (j : Int)), some (.int ((m ||| 2 ^ j : Nat) : Int)), some (.int ((cellOf p (Vatsld.groupAfter p last j) (m ||| 2 ^ j)).cost : Int)), some (.int ((nextOf p last ran j).cost : Int))] = [some (.ref a), some (.ref d), some (.ref r), some (optV last), some (.ref b), some (.int ((100 ^ (L.length - 1) : Nat) : Int)), v6, v7, v8, v9] ∧
        Same H3 H8 ∧ H b = none ∧ H8 b = some (foundO fd) ∧ fd = ((rd.take (i + 1)).map (nextOf p last ran)).foldl pick none ∧ ∀ f, fd = some f → ∃ j, f.order.head? = some j)
    cases hfe : fd with
    | none =>
      rw [hfe] at fb7
      refine st_ifS (b := true) (ans_of (ans_or1 (ans_isN (val_ixT (n := 1) (v := .non) (SqT.of fb7) rfl (val_var rfl) val_c) rfl))) (fun _ H8 s8 => ?_) fun hb => nomatch hb
      refine st_setN (o := .tup [.int ((nextOf p last ran j).cost : Int), .int (j : Int)]) (evn_tup (eva_cons (evs_of (val_var rfl)) fun _ _ => eva_cons (evs_of (val_var rfl)) fun _ _ => eva_nil) (by simp)) fun nb8 H9 n9 s9 f9 => ?_
      exact take_it (by rw [hfe]; rfl) H9 nb8 nb (s8.trans s9) (sH6.free (s7.free (s8.free n9))) f9
    | some f =>
      rw [hfe] at fb7
      obtain ⟨g, hg⟩ := hhd f hfe
      have hg2 : headV f = .int (g : Int) := by unfold headV; rw [hg]; rfl
      refine st_ifS (b := decide (((nextOf p last ran j).cost : Int) < (f.cost : Int))) (ans_of (ans_or (ans_isN (val_ixT (n := 1) (v := headV f) (SqT.of fb7) rfl (val_var rfl) val_c) (by rw [hg2]; rfl)) (val_test (val_I0 (val_var rfl) (val_ixT (n := 0) (v := .int (f.cost : Int)) (SqT.of fb7) rfl (val_var rfl) val_c))))) (fun hb H8 s8 => ?_) fun hb H8 s8 => ?_
      · refine st_setN (o := .tup [.int ((nextOf p last ran j).cost : Int), .int (j : Int)]) (evn_tup (eva_cons (evs_of (val_var rfl)) fun _ _ => eva_cons (evs_of (val_var rfl)) fun _ _ => eva_nil) (by simp)) fun nb8 H9 n9 s9 f9 => ?_
        have hb' : (nextOf p last ran j).cost < f.cost := by have := of_decide_eq_true hb; omega
        exact take_it (by rw [hfe]; exact if_pos hb') H9 nb8 nb (s8.trans s9) (sH6.free (s7.free (s8.free n9))) f9
      · refine st_next ⟨b, fd, _, _, _, _, rfl, sH37.trans s8, nb, by rw [hfe]; exact s8 _ _ fb7, ?_, hhd⟩
        have hb' : ¬ (nextOf p last ran j).cost < f.cost := by have := of_decide_eq_false hb; omega
        rw [step, hfe]
        exact (if_neg hb').symm
  · rintro σ H' ⟨b, fd, v6, v7, v8, v9, rfl, s4, nb, fb, hfd, hhd⟩
    refine st_ret (val_var rfl) (k b H' nb ((s02.trans s3).trans s4) ?_)
    have e0 : cellOf p last m = fd.getD { cost := 0, order := [] } := by
      rw [hfd, natsV_len, List.take_length, hrd, hL]
      show bestOf p last (ranOf p.jobs.length m) = _
      rw [← hran]
      exact bestOf_fold
    rw [e0, fb]
    cases fd with
    | none => rfl
    | some f => rfl
end
end Tp
namespace Tp
open PySem PySem.Spec PyProof.Rows L2
section
variable {P : Program} {w : World} {K : PySem.W.Frag} {mg : Str → Option Value} {base : Heap} {A : Ad}
theorem and_bit (m j : Nat) : m.testBit j = (((m &&& 2 ^ j : Nat) : Int) != 0) := by
  have key : (m &&& 2 ^ j = 0) ↔ m.testBit j = false := by
    constructor
    · intro h
      have := congrArg (fun x => x.testBit j) h
      simpa [Nat.testBit_and, Nat.testBit_two_pow] using this
    · intro h
      refine Nat.eq_of_testBit_eq fun i => ?_
      rw [Nat.testBit_and, Nat.testBit_two_pow, Nat.zero_testBit]
      by_cases e : j = i
      · subst e
        simp [h]
      · simp [e]
  have key2 : (((m &&& 2 ^ j : Nat) : Int) = 0) ↔ m.testBit j = false := by rw [← key]; omega
  cases h : m.testBit j with
  | false => rw [key2.mpr h]; rfl
  | true =>
    have : ¬ (((m &&& 2 ^ j : Nat) : Int) = 0) := fun z => by rw [key2.mp z] at h; cases h
    exact (bne_iff_ne.mpr this).symm
theorem atKey_new {xs : List Ent} {k k' : List Leaf} {b : Addr} {u : Value} (hn : atKey xs k = none) : atKey (storedH xs k b u) k' = if k' = k then some (b, u) else atKey xs k' := by
  rw [storedH_new hn]
  unfold atKey at hn ⊢
  rw [List.find?_append]
  have hn2 : xs.find? (fun x => decide (x.1 = k)) = none := by
    cases e : xs.find? (fun x => decide (x.1 = k)) with
    | none => rfl
    | some z => rw [e] at hn; cases hn
  by_cases h : k' = k
  · subst h
    rw [hn2, if_pos rfl]
    simp
  · rw [if_neg h]
    cases e : xs.find? (fun x => decide (x.1 = k')) with
    | none => simp [Ne.symm h]
    | some z => rfl
theorem atKey_none {xs : List Ent} {k : List Leaf} (h : ∀ x ∈ xs, x.1 ≠ k) : atKey xs k = none := by
  unfold atKey
  have : xs.find? (fun x => decide (x.1 = k)) = none := by
    rw [List.find?_eq_none]
    intro x hx
    simpa using h x hx
  rw [this]
  rfl
/-- what a table holds while a mask's row is filled: all above the mask, of its own row the groups below j (and None) -/
structure Row (P : Program) (w : World) (H : Hp) (d : Addr) (p : Vatsld.Plan) (xs : List Ent) (m : Nat) (own : Option Nat → Prop) (cnt : Nat) : Prop where
  tab : TabAt P w H d xs
  cov : Covers H p xs (m + 1)
  mine : ∀ last, own last → ∃ b q, atKey xs (kOf m last) = some (b, .ref q) ∧ H q = some (cellO (cellOf p last m))
  keys : ∀ x ∈ xs, ∃ m' last, x.1 = kOf m' last ∧ (m < m' ∨ (m' = m ∧ own last))
  len : xs.length ≤ cnt
theorem Row.mono {P : Program} {w : World} {H H' : Hp} {d : Addr} {p : Vatsld.Plan} {xs : List Ent} {m cnt : Nat} {own : Option Nat → Prop} (h : Row P w H d p xs m own cnt) (s : Same H H') : Row P w H' d p xs m own cnt :=
  ⟨h.tab.mono s, h.cov.mono s, fun l hl => let ⟨b, q, e1, e2⟩ := h.mine l hl; ⟨b, q, e1, s _ _ e2⟩, h.keys, h.len⟩
/-- one more cell of the row -/
theorem Row.put {P : Program} {w : World} {H : Hp} {d b c : Addr} {p : Vatsld.Plan} {xs : List Ent} {m cnt : Nat} {own : Option Nat → Prop} {last : Option Nat} (h : Row P w H d p xs m own cnt) (hno : ¬ own last)
    (hb : H b = some (.tup ((kOf m last).map leafV))) (hc : H c = some (cellO (cellOf p last m))) : Row P w (upd H d (tbD P w d (storedH xs (kOf m last) b (.ref c)))) d p (storedH xs (kOf m last) b (.ref c)) m (fun l => own l ∨ l = last) (cnt + 1) := by
  have hn : atKey xs (kOf m last) = none := atKey_none fun x hx e => by
    obtain ⟨m', l, e2, z⟩ := h.keys x hx
    rw [e2] at e
    obtain ⟨e3, e4⟩ := kOf_inj e
    rcases z with z | ⟨_, z⟩
    · omega
    · exact hno (e4 ▸ z)
  have nd : ∀ {q : Addr} {f : Vatsld.Found}, H q = some (cellO f) → q ≠ d := fun e z => by
    rw [z, h.tab.1] at e
    exact tbD_tup (Option.some.inj e)
  have st : ∀ {q : Addr} {f : Vatsld.Found}, H q = some (cellO f) → (upd H d (tbD P w d (storedH xs (kOf m last) b (.ref c)))) q = some (cellO f) := fun e => by
    rw [upd_ne (nd e)]
    exact e
  refine ⟨st_dput_tab h.tab hb hn, fun m' l h1 h2 h3 => ?_, fun l hl => ?_, fun x hx => ?_, ?_⟩
  · obtain ⟨b', q, e1, e2⟩ := h.cov m' l h1 h2 h3
    refine ⟨b', q, ?_, st e2⟩
    rw [atKey_new hn, if_neg fun z => by have := (kOf_inj z).1; omega]
    exact e1
  · rw [atKey_new hn]
    by_cases e : l = last
    · subst e
      exact ⟨b, c, if_pos rfl, st hc⟩
    · obtain ⟨b', q, e1, e2⟩ := h.mine l (hl.resolve_right e)
      refine ⟨b', q, ?_, st e2⟩
      rw [if_neg fun z => e (kOf_inj z).2]
      exact e1
  · rw [storedH_new hn] at hx
    rcases List.mem_append.mp hx with z | z
    · obtain ⟨m', l, e1, e2⟩ := h.keys x z
      exact ⟨m', l, e1, e2.imp id fun z => ⟨z.1, .inl z.2⟩⟩
    · rw [List.mem_singleton] at z
      subst z
      exact ⟨m, last, rfl, .inr ⟨rfl, .inr rfl⟩⟩
  · rw [storedH_new hn, List.length_append]
    have := h.len
    simp
    omega

def sp_best_table (P : Program) (w : World) (A : Ad) : Sp := fun vs H Q _ => ∃ (a : Addr) (p : Vatsld.Plan), vs = [.ref a] ∧ PlanAt A H a p ∧ WF p ∧
  ∀ d xs H', H d = none → Same H H' → TabAt P w H' d xs → Covers H' p xs 0 → Q (.ref d) H'
/-! ### best_table -/
abbrev s_best_table : Stmt := top 39
theorem sc_best_table : FnScope ["plan", "table", "mask", "ran", "ready", "number"] ["plan"] (defScope s_best_table) := ⟨rfl, rfl, rfl, by decide +kernel, rfl, by decide +kernel, by decide +kernel⟩
theorem ok_best_table {f : Addr} {fd : FuncData} (F : Fun K "best_table" "best_table" s_best_table f fd) (T : Txt K mg A)
    (C_best_step : Cal P w K mg base CX0 3 "best_step" ["plan", "table", "ran", "ready"] (sp_best_step P w A)) : FnOk P w K mg base CX0 4 f fd ["plan"] (sp_best_table P w A) := by
  obtain ⟨f_best_step, fd_best_step, m_best_step, kp_best_step, b_best_step, G_best_step⟩ := C_best_step.ex
  refine F.ok sc_best_table (fun vs H Q E h => by revert h; first | (rintro ⟨rfl, _⟩; rfl) | (rintro ⟨_, rfl, _⟩; rfl) | (rintro ⟨_, _, rfl, _⟩; rfl) | (rintro ⟨_, _, _, rfl, _⟩; rfl) | (rintro ⟨_, _, _, _, rfl, _⟩; rfl) | (rintro ⟨_, _, _, _, _, rfl, _⟩; rfl) | (rintro ⟨_, _, _, _, _, _, rfl, _⟩; rfl) | (rintro ⟨_, _, _, _, _, _, _, rfl, _⟩; rfl) | (rintro ⟨_, _, _, _, _, _, _, _, rfl, _⟩; rfl) | (rintro ⟨_, _, _, _, _, _, _, _, _, rfl, _⟩; rfl) | (rintro ⟨_, _, _, _, _, _, _, _, _, _, rfl, _⟩; rfl) | (rintro ⟨_, _, _, _, _, _, _, _, _, _, _, rfl, _⟩; rfl)) (fun cdv Ar outer s H vs Q E hr h => ⟨_, 
  (pss_cons (ps_set (i := 1) sc_best_table.nd rfl (Or.inl rfl) pe_dnew0)
      (pss_cons (ps_for PassesOwn.never rfl (pi_range3 rfl T.b_range (pa_cons (pe_op op_sub (pe_op op_shl pe_int (pe_callB call_len_seq (by rfl) T.b_len (by decide +kernel) (pa_cons (pe_fld (pv 0) rfl) pa_nil))) pe_int) (pa_cons (pe_un un_neg pe_int) (pa_cons (pe_un un_neg pe_int) pa_nil)))) (pg_name (i := 2) sc_best_table.nd rfl (Or.inr rfl)) (pss_cons (ps_setLc (i := 3) (own := [("number", 5)]) (g := gName 5) (by rfl) sc_best_table.nd rfl rfl (sw_true rfl rfl rfl (by decide +kernel)) (pi_range1 rfl T.b_range (pa_cons (pe_callB call_len_seq (by rfl) T.b_len (by decide +kernel) (pa_cons (pe_fld (pv 0) rfl) pa_nil)) pa_nil)) (blkOk_by (N := ["plan", "table", "mask", "ran", "ready", "number"]) (sc := defScope s_best_table) (by decide +kernel)) (fun _ _ _ _ _ => pg_name (i := 5) sc_best_table.nd rfl (Or.inl rfl)) (fun _ _ _ _ _ => (pts_one (pt_truK (K := K) rfl (pe_op op_and (pv 2) (pe_op op_shl pe_int (pv 5))) (by intro _; rfl)))) (fun _ _ _ _ _ => (pv 5)))
      (pss_cons (ps_dputN (hu_of hr) (pv 1) (pe_tup (pa_cons (pv 2) (pa_cons pe_non pa_nil))) (pe_call G_best_step (hr.mono (by decide)) rfl m_best_step kp_best_step b_best_step .nil pass0 (pa_cons (pv 0) (pa_cons (pv 1) (pa_cons (pv 3) (pa_cons pe_non pa_nil))))) rfl)
      (pss_one (ps_for PassesOwn.never rfl (pi_range1 rfl T.b_range (pa_cons (pe_callB call_len_seq (by rfl) T.b_len (by decide +kernel) (pa_cons (pe_fld (pv 0) rfl) pa_nil)) pa_nil)) (pg_name (i := 4) sc_best_table.nd rfl (Or.inl rfl)) (pss_one (ps_dputN (hu_of hr) (pv 1) (pe_tup (pa_cons (pv 2) (pa_cons (pv 4) pa_nil))) (pe_call G_best_step (hr.mono (by decide)) rfl m_best_step kp_best_step b_best_step .nil pass0 (pa_cons (pv 0) (pa_cons (pv 1) (pa_cons (pv 3) (pa_cons (pv 4) pa_nil))))) rfl)))))))
      (pss_one (ps_ret (pv 1))))), ?_⟩)
  obtain ⟨a, p, rfl, hp, wf, k⟩ := h
  obtain ⟨dx, lg, lt, gs, ts, e1, e2, e3, e4, e5⟩ := hp.lens
  have hnj := wf.nj
  have hng := wf.ng
  have h128 := pow7 wf
  have hpos : 0 < 2 ^ p.jobs.length := Nat.two_pow_pos _
  refine st_seqDict fun d hd => ?_
  have hs0 : Same H (upd H d (tbD P w d [])) := Same.new hd
  refine st_seqForD (i0 := 2 ^ p.jobs.length) (fun R z => ?_) (by omega) (fun i σ H' => ∃ (xs : List Ent) (v2 v3 v4 : Option V), σ = [some (.ref a), some (.ref d), v2, v3, v4, none] ∧ Same H H' ∧ TabAt P w H' d xs ∧ Covers H' p xs (2 ^ p.jobs.length - i) ∧
    (∀ x ∈ xs, ∃ m' last, x.1 = kOf m' last ∧ 2 ^ p.jobs.length - i ≤ m') ∧ xs.length ≤ i * 4) ⟨[], none, none, none, rfl, hs0, ⟨upd_same, fun x hx => nomatch hx⟩, fun m last h1 h2 _ => by omega, (fun x hx => nomatch hx), by simp⟩ ?_ ?_
  · refine (val_I0 (g := fun i j => .int (i - j)) (val_I (g := fun i j => .int (i * 2 ^ j.toNat)) ⟨by omega, by omega, by decide⟩ val_c (val_len (SqL.of (hs0 _ _ e4)) e5 (val_tests T (val_var rfl) (hs0 _ _ e1)))) val_c) _ ?_
    refine ⟨1, rfl, 1, rfl, ?_⟩
    have e0 : (1 : Int) * 2 ^ (p.jobs.length : Int).toNat - 1 = ((2 ^ p.jobs.length : Nat) : Int) - 1 := by simp
    rw [e0]
    exact z
  · rintro i σ H' hi ⟨xs, v2, v3, v4, rfl, s1, htab, hcov, hkeys, hxl⟩
    obtain ⟨m, hme⟩ : ∃ m, m = 2 ^ p.jobs.length - 1 - i := ⟨_, rfl⟩
    have hm : m < 2 ^ p.jobs.length := by omega
    have hm1 : 2 ^ p.jobs.length - i = m + 1 := by omega
    have hm2 : 2 ^ p.jobs.length - (i + 1) = m := by omega
    rw [← hme]
    rw [hm1] at hcov hkeys
    rw [hm2]
    refine st_seqSetN (o := .lst (natsV (ranOf p.jobs.length m))) (evn_is (lc_rangeS (n := p.jobs.length) (qq := fun x => match x with | .int j => m.testBit j.toNat | _ => false) (f := fun x => x)
      (fun R z => (evs_of (val_len (SqL.of (s1 _ _ e4)) e5 (val_tests T (val_var rfl) (s1 _ _ e1)))) _ fun H' s => z H' s) (by omega) (fun j H3 hj s3 => ?_) fun j H3 hj _ s3 => evs_of (val_var rfl)) ?_) fun r H2 n2 s2 f2 => ?_
    · refine ans_of (ans_tr (val_I0 (val_var rfl) (val_I (g := fun i j => .int (i * 2 ^ j.toNat)) ⟨by omega, by omega, by decide⟩ val_c (val_var rfl))) ?_)
      have e9 : (1 : Int) * 2 ^ (j : Int).toNat = ((2 ^ j : Nat) : Int) := by simp
      have e8 : Builtin.bitAnd (m : Int) (1 * 2 ^ (j : Int).toNat) = ((m &&& 2 ^ j : Nat) : Int) := by
        rw [e9, bitAnd_pp (Int.natCast_nonneg _) (Int.natCast_nonneg _), Int.toNat_natCast, Int.toNat_natCast]
      show m.testBit (j : Int).toNat = (Builtin.bitAnd (m : Int) (1 * 2 ^ (j : Int).toNat) != 0)
      rw [e8, Int.toNat_natCast, and_bit]
    · rw [natsV_filter (fun j => m.testBit j) _ (fun n => rfl), List.map_id']
      rfl
    have s02 : Same H H2 := s1.trans s2
    have row0 : Row P w H2 d p xs m (fun _ => False) (i * 4) := ⟨htab.mono s2, hcov.mono s2, fun l hl => hl.elim, fun x hx => let ⟨m', l, h1, h2⟩ := hkeys x hx; ⟨m', l, h1, .inl (by omega)⟩, hxl⟩
    refine st_seqDput (y := cellO (cellOf p none m)) (k := kOf m none) row0.tab (by omega) (evn_call (eva_cons (evs_of (val_var rfl)) fun _ _ => eva_cons (evs_of (val_var rfl)) fun _ _ => eva_cons (evs_of (val_var rfl)) fun _ _ => eva_cons (evs_of val_c) fun _ _ => eva_nil) fun H3 s3 Q z => ?_)
      (fun _ _ => evs_of (val_var rfl)) (fun H3 s3 => by rw [kOf_V]; exact evn_tup (eva_cons (evs_of (val_var rfl)) fun _ _ => eva_cons (evs_of val_c) fun _ _ => eva_nil) (by simp)) fun c b H3 nc fc s3 t3 fb ne => ?_
    · exact ⟨a, d, r, p, xs, m, none, rfl, hp.mono (s02.trans s3), wf, row0.tab.mono s3, row0.cov.mono s3, hm, (fun g hg => nomatch hg), s3 _ _ f2, z⟩
    have row1 := (row0.mono s3).put (last := none) (fun z => z) fb fc
    have sH1 : Same H (upd H3 d (tbD P w d (storedH xs (kOf m none) b (.ref c)))) := (s02.trans s3).mut hd
    have hr1 : (upd H3 d (tbD P w d (storedH xs (kOf m none) b (.ref c)))) r = some (.lst (natsV (ranOf p.jobs.length m))) := by
      rw [upd_ne (fun z => by rw [z, (htab.mono s2).1] at f2; cases f2)]
      exact s3 _ _ f2
    refine st_forR (j := (p.groups.length : Int)) (fun R z => (val_len (SqL.of (sH1 _ _ e2)) e3 (val_groups T (val_var rfl) (sH1 _ _ e1))) _ z) (by omega) (by omega) (fun j σ H' => ∃ (xs : List Ent) (v4 : Option V), σ = [some (.ref a), some (.ref d), some (.int (m : Int)), some (.ref r), v4, none] ∧ Same H H' ∧
      H' r = some (.lst (natsV (ranOf p.jobs.length m))) ∧ Row P w H' d p xs m (fun l => l = none ∨ ∃ g, g < j ∧ l = some g) (i * 4 + 1 + j))
      ⟨_, v4, rfl, sH1, hr1, ⟨row1.tab, row1.cov, fun l hl => row1.mine l (.inr (hl.elim id fun ⟨g, hg, _⟩ => absurd hg (Nat.not_lt_zero _))), fun x hx => let ⟨m', l, h1, h2⟩ := row1.keys x hx; ⟨m', l, h1, h2.imp id fun z => ⟨z.1, .inl (z.2.resolve_left id)⟩⟩, row1.len⟩⟩ ?_ ?_
    · rintro j σ H4 hj ⟨ys, v4, rfl, s4, hr4, row⟩
      have hj' : j < p.groups.length := by omega
      refine st_dput (y := cellO (cellOf p (some j) m)) (k := kOf m (some j)) row.tab (by have := row.len; omega) (evn_call (eva_cons (evs_of (val_var rfl)) fun _ _ => eva_cons (evs_of (val_var rfl)) fun _ _ => eva_cons (evs_of (val_var rfl)) fun _ _ => eva_cons (evs_of (val_var rfl)) fun _ _ => eva_nil) fun H5 s5 Q z => ?_)
        (fun _ _ => evs_of (val_var rfl)) (fun H5 s5 => by rw [kOf_V]; exact evn_tup (eva_cons (evs_of (val_var rfl)) fun _ _ => eva_cons (evs_of (val_var rfl)) fun _ _ => eva_nil) (by simp)) fun c' b' H5 nc' fc' s5 t5 fb' ne' => ?_
      · exact ⟨a, d, r, p, ys, m, some j, rfl, hp.mono (s4.trans s5), wf, row.tab.mono s5, row.cov.mono s5, hm, (fun g hg => by cases hg; exact hj'), s5 _ _ hr4, z⟩
      have row2 := (row.mono s5).put (last := some j) (fun z => by
        rcases z with z | ⟨g, hg, z⟩
        · cases z
        · cases z
          omega) fb' fc'
      refine ⟨_, some (.int (j : Int)), rfl, (s4.trans s5).mut hd, ?_, row2.tab, row2.cov, fun l hl => row2.mine l ?_, fun x hx => ?_, by have := row2.len; omega⟩
      · rw [upd_ne (fun z => by rw [z, row.tab.1] at hr4; cases hr4)]
        exact s5 _ _ hr4
      · rcases hl with z | ⟨g, hg, z⟩
        · exact .inl (.inl z)
        · by_cases e : g = j
          · subst e
            exact .inr z
          · exact .inl (.inr ⟨g, by omega, z⟩)
      · obtain ⟨m', l, h1, h2⟩ := row2.keys x hx
        refine ⟨m', l, h1, h2.imp id fun z => ⟨z.1, ?_⟩⟩
        rcases z.2 with (z | ⟨g, hg, z⟩) | z
        · exact .inl z
        · exact .inr ⟨g, by omega, z⟩
        · exact .inr ⟨j, by omega, z⟩
    · rintro σ H4 ⟨ys, v4, rfl, s4, hr4, row⟩
      refine ⟨ys, _, _, _, rfl, s4, row.tab, fun m' l h1 h2 h3 => ?_, fun x hx => ?_, by have := row.len; omega⟩
      · by_cases e : m' = m
        · subst e
          refine row.mine l ?_
          cases l with
          | none => exact .inl rfl
          | some g => exact .inr ⟨g, by have := h3 g rfl; omega, rfl⟩
        · exact row.cov m' l (by omega) h2 h3
      · obtain ⟨m', l, h1, h2⟩ := row.keys x hx
        refine ⟨m', l, h1, ?_⟩
        rcases h2 with z | z
        · omega
        · omega
  · rintro σ H' ⟨xs, v2, v3, v4, rfl, s1, htab, hcov, hkeys, hxl⟩
    refine st_ret (val_var rfl) (k d xs H' hd s1 htab ?_)
    rw [Nat.sub_self] at hcov
    exact hcov

def sp_best_order (A : Ad) : Sp := fun vs H Q _ => ∃ (a : Addr) (p : Vatsld.Plan), vs = [.ref a] ∧ PlanAt A H a p ∧ WF p ∧
  ∀ q H', H q = none → Same H H' → H' q = some (.lst (natsV (Vatsld.bestOrder p).order)) → Q (.ref q) H'
/-! ### best_order -/
abbrev s_best_order : Stmt := top 38
theorem sc_best_order : FnScope ["plan", "table", "order", "ready", "number"] ["plan"] (defScope s_best_order) := ⟨rfl, rfl, rfl, by decide +kernel, rfl, by decide +kernel, by decide +kernel⟩
theorem ok_best_order {f : Addr} {fd : FuncData} (F : Fun K "best_order" "best_order" s_best_order f fd) (T : Txt K mg A)
    (C_ready_behind : Cal P w K mg base CX0 1 "ready_behind" ["plan", "number", "ready"] (sp_ready_behind A))
    (C_mask_of : Cal P w K mg base CX0 1 "mask_of" ["numbers"] (sp_mask_of A))
    (C_best_table : Cal P w K mg base CX0 4 "best_table" ["plan"] (sp_best_table P w A)) : FnOk P w K mg base CX0 5 f fd ["plan"] (sp_best_order A) := by
  obtain ⟨f_ready_behind, fd_ready_behind, m_ready_behind, kp_ready_behind, b_ready_behind, G_ready_behind⟩ := C_ready_behind.ex
  obtain ⟨f_mask_of, fd_mask_of, m_mask_of, kp_mask_of, b_mask_of, G_mask_of⟩ := C_mask_of.ex
  obtain ⟨f_best_table, fd_best_table, m_best_table, kp_best_table, b_best_table, G_best_table⟩ := C_best_table.ex
  refine F.ok sc_best_order (fun vs H Q E h => by revert h; first | (rintro ⟨rfl, _⟩; rfl) | (rintro ⟨_, rfl, _⟩; rfl) | (rintro ⟨_, _, rfl, _⟩; rfl) | (rintro ⟨_, _, _, rfl, _⟩; rfl) | (rintro ⟨_, _, _, _, rfl, _⟩; rfl) | (rintro ⟨_, _, _, _, _, rfl, _⟩; rfl) | (rintro ⟨_, _, _, _, _, _, rfl, _⟩; rfl) | (rintro ⟨_, _, _, _, _, _, _, rfl, _⟩; rfl) | (rintro ⟨_, _, _, _, _, _, _, _, rfl, _⟩; rfl) | (rintro ⟨_, _, _, _, _, _, _, _, _, rfl, _⟩; rfl) | (rintro ⟨_, _, _, _, _, _, _, _, _, _, rfl, _⟩; rfl) | (rintro ⟨_, _, _, _, _, _, _, _, _, _, _, rfl, _⟩; rfl)) (fun cdv Ar outer s H vs Q E hr h => ⟨_, 
  (pss_cons (ps_set (i := 1) sc_best_order.nd rfl (Or.inl rfl) (pe_call G_best_table (hr.mono (by decide)) rfl m_best_table kp_best_table b_best_table .nil pass0 (pa_cons (pv 0) pa_nil)))
      (pss_cons (ps_set (i := 2) sc_best_order.nd rfl (Or.inl rfl) (pe_lst pa_nil))
      (pss_cons (ps_set (i := 3) sc_best_order.nd rfl (Or.inl rfl) pe_non)
      (pss_cons (ps_while PassesOwn.never (pt_cmpR op_lt (pe_callB call_len_seq (by rfl) T.b_len (by decide +kernel) (pa_cons (pv 2) pa_nil)) (pe_callB call_len_seq (by rfl) T.b_len (by decide +kernel) (pa_cons (pe_fld (pv 0) rfl) pa_nil)) (nomark _)) (pss_cons (ps_set (i := 4) sc_best_order.nd rfl (Or.inl rfl) (pe_ix ix_tup (pe_dgetN (hu_of hr) (pv 1) (pe_tup (pa_cons (pe_call G_mask_of (hr.mono (by decide)) rfl m_mask_of kp_mask_of b_mask_of .nil pass0 (pa_cons (pv 2) pa_nil)) (pa_cons (pv 3) pa_nil))) (fun _ _ => rfl)) pe_int (fun _ _ => rfl)))
      (pss_cons (ps_expr (pe_bm PySem.F.plainAttrs_list PySem.F.slot_list_append PySem.F.type_list_append mt_append (pv 2) (pa_cons (pv 4) pa_nil)))
      (pss_one (ps_set (i := 3) sc_best_order.nd rfl (Or.inl rfl) (pe_call G_ready_behind (hr.mono (by decide)) rfl m_ready_behind kp_ready_behind b_ready_behind .nil pass0 (pa_cons (pv 0) (pa_cons (pv 4) (pa_cons (pv 3) pa_nil)))))))))
      (pss_one (ps_ret (pv 2))))))), ?_⟩)
  obtain ⟨a, p, rfl, hp, wf, k⟩ := h
  have hnj := wf.nj
  refine st_seqCall (eva_cons (evs_of (val_var rfl)) fun _ _ => eva_nil) fun H0 s0 => ⟨a, p, rfl, hp.mono s0, wf, fun d xs H1 hd s1 htab hcov => ?_⟩
  have s01 : Same H H1 := s0.trans s1
  refine st_seqSetN (o := .lst []) (evn_lst eva_nil (by decide)) fun q H2 n2 s2 f2 => ?_
  have s02 : Same H H2 := s01.trans s2
  have hqn : H q = none := s01.free n2
  refine st_seqSet val_c ?_
  refine st_seqWhile (Pv := fun m σ H' => ∃ (done : List Nat) (last : Option Nat) (v4 : Option V), σ = [some (.ref a), some (.ref d), some (.ref q), some (optV last), v4] ∧ Same H H' ∧ Same H1 H' ∧ H' q = some (.lst (natsV done)) ∧ done.Nodup ∧ (∀ x ∈ done, x < p.jobs.length) ∧
    okLast p last ∧ (Vatsld.bestOrder p).order = done ++ (bestOf p last done).order ∧ m = p.jobs.length - done.length) (p.jobs.length) ⟨[], none, none, rfl, s02, s2, f2, List.nodup_nil, (fun x hx => nomatch hx), (fun g hg => nomatch hg), by rw [bestOrder_is]; rfl, rfl⟩ ?_
  rintro m σ H' ⟨done, last, v4, rfl, s3, s13, f3, hnd, hlt, hlast, heq, rfl⟩
  obtain ⟨dx, lg, lt, gs, ts, e1, e2, e3, e4, e5⟩ := (hp.mono s3).lens
  have hll := left_len p.jobs.length done hnd hlt
  refine ⟨_, ans_cmp (val_len (SqL.of f3) (natsV_len done) (val_var rfl)) (val_len (SqL.of e4) e5 (val_tests T (val_var rfl) e1)) fun Q z => ⟨_, _, rfl, rfl, z⟩, fun hb => ?_, fun hb => ?_⟩
  · have hb' : done.length < p.jobs.length := by simpa using hb
    have hne : left p.jobs.length done ≠ [] := fun z => by rw [z] at hll; simp at hll; omega
    obtain ⟨i, hi, hbest⟩ := bestOf_next wf (last := last) hne
    have hil := ready_left hi
    obtain ⟨hilt, hin⟩ := mem_left.mp hil
    have hmk := mask_lt hnd hlt
    have hcell : cellOf p last (maskOf done) = bestOf p last done := bestOf_same (ran_mask hnd hlt)
    obtain ⟨kb, kq, hk1, hk2⟩ := hcov (maskOf done) last (Nat.zero_le _) hmk hlast
    rw [hcell, hbest] at hk2
    refine st_seqSetS (v := .int (i : Int)) (evs_op (evs_dget (k := kOf (maskOf done) last) (htab.mono s13) hk1 (v := .ref kq) rfl (evs_of (val_var rfl)) fun H6 s6 => ?_) (fun _ _ => evs_of val_c) fun H6 s6 Q z => ?_) fun H6 s6 => ?_
    · rw [kOf_V]
      refine evn_tup (eva_cons (evs_call (eva_cons (evs_of (val_var rfl)) fun _ _ => eva_nil) fun H8 s8 Q z => ?_) fun H7 s7 => eva_cons (evs_of (val_var rfl)) fun _ _ => eva_nil) (by simp)
      exact ⟨q, done, rfl, s8 _ _ (s6 _ _ f3), fun x hx => by have := hlt x hx; omega, by omega, z⟩
    · exact ⟨kq, _, 1, _, rfl, rfl, SqT.of (s6 _ _ (s13 _ _ hk2)), atI_nat (j := 1) rfl, z H6 (Same.refl _)⟩
    refine st_seqAppend (y := .int (i : Int)) (val_var rfl) (s6 _ _ f3) (evs_of (val_var rfl)) (by rw [natsV_len]; omega) fun H7 s7 => ?_
    have sH7 : Same H (upd H7 q (.lst (natsV done ++ [.int (i : Int)]))) := (s3.trans (s6.trans s7)).mut hqn
    have sH17 : Same H1 (upd H7 q (.lst (natsV done ++ [.int (i : Int)]))) := (s13.trans (s6.trans s7)).mut n2
    refine st_setS (v := optV (Vatsld.groupAfter p last i)) (evs_call (eva_cons (evs_of (val_var rfl)) fun _ _ => eva_cons (evs_of (val_var rfl)) fun _ _ => eva_cons (evs_of (val_var rfl)) fun _ _ => eva_nil) fun H8 s8 Q z => ?_) fun H8 s8 => ?_
    · exact ⟨a, p, i, last, rfl, hp.mono (sH7.trans s8), hilt, z H8 (Same.refl _)⟩
    · refine ⟨p.jobs.length - (done ++ [i]).length, by simp; omega, done ++ [i], Vatsld.groupAfter p last i, some (.int (i : Int)), rfl, sH7.trans s8, sH17.trans s8, ?_, ?_, ?_, okLast_after wf hilt hlast, ?_, rfl⟩
      · rw [s8 _ _ upd_same]
        unfold natsV
        rw [List.map_append]
        rfl
      · rw [List.nodup_append]
        refine ⟨hnd, by simp, fun u hu v hv => ?_⟩
        rw [List.mem_singleton] at hv
        subst hv
        intro z
        subst z
        exact hin hu
      · intro u hu
        rcases List.mem_append.mp hu with z | z
        · exact hlt u z
        · rw [List.mem_singleton] at z
          omega
      · rw [heq, hbest]
        show done ++ i :: _ = _
        simp
  · have hb' : ¬ done.length < p.jobs.length := by simpa using hb
    have hz : left p.jobs.length done = [] := List.length_eq_zero_iff.mp (by omega)
    rw [heq, bestOf_none hz, List.append_nil] at k
    exact st_ret (val_var rfl) (k q H' hqn s3 f3)
end
end Tp
/-! New instances; chains; texts. -/
namespace Tp
open PySem PySem.Spec PyProof.Rows L2
/-- a new object, by what holds of it -/
def EvP (te : TE) (σ : L2.St) (H : Hp) (R : Addr → Hp → Prop) : Prop := ∀ Q : VK, (∀ p H', H p = none → Same H H' → R p H' → Q (.ref p) H') → te σ H Q
section
variable {X : Cx} {σ : L2.St} {H : Hp} {K : PySem.W.Frag} {ta tb tc te : TE} {t u : TT} {x y v : V} {a p q C : Addr} {D : Ends} {b c : Bool} {o : HO} {ts : TS} {fs : List (Str × V)}
theorem evp_make {sp : Sp} {E : XK} {ta : TA} {vs : List V} (h : EvA ta σ H vs)
    (hs : ∀ (x dx : Addr) (H1 : Hp), Same H (upd (upd H1 dx (.own x)) x (.ins C dx [])) → ∀ Q : VK, (∀ H2, (∀ b o, b ≠ x → (upd (upd H1 dx (.own x)) x (.ins C dx [])) b = some o → H2 b = some o) → H2 x = some (.ins C dx fs) → Q .non H2) → sp (.ref x :: vs) (upd (upd H1 dx (.own x)) x (.ins C dx [])) Q E) :
    EvP (tMake C sp [] E ta) σ H (fun x H' => ∃ dx, H' x = some (.ins C dx fs)) := fun Q z => h _ fun H1 s1 => by
  show ∀ x dx, H1 x = none → H1 dx = none → dx ≠ x → sp (.ref x :: (vs ++ [])) _ _ E
  intro x dx hx hdx hne
  rw [List.append_nil]
  have sm : Same H (upd (upd H1 dx (.own x)) x (.ins C dx [])) := fun b o e => by
    have e1 := s1 _ _ e
    rw [upd_ne (ne_of_none e1 hx), upd_ne (ne_of_none e1 hdx)]
    exact e1
  refine hs x dx H1 sm _ fun H2 k e => ⟨rfl, z x H2 (s1.free hx) (fun b o e0 => k b o (fun zz => ?_) (sm _ _ e0)) ⟨dx, e⟩⟩
  rw [zz, s1.free hx] at e0
  cases e0
theorem evp_make0 {sp : Sp} {E : XK} (hs : ∀ (x dx : Addr) (H1 : Hp), Same H (upd (upd H1 dx (.own x)) x (.ins C dx [])) → ∀ Q : VK, (∀ H2, (∀ b o, b ≠ x → (upd (upd H1 dx (.own x)) x (.ins C dx [])) b = some o → H2 b = some o) → H2 x = some (.ins C dx fs) → Q .non H2) → sp [.ref x] (upd (upd H1 dx (.own x)) x (.ins C dx [])) Q E) :
    EvP (tMake C sp [] E tNil) σ H (fun x H' => ∃ dx, H' x = some (.ins C dx fs)) := evp_make eva_nil hs
theorem st_retP {R : Addr → Hp → Prop} (h : EvP te σ H R) (q : ∀ p H', H p = none → Same H H' → R p H' → D.rt (.ref p) H') : tRet te D σ H := h _ q
theorem st_seqSetP {R : Addr → Hp → Prop} {u : TS} {i : Nat} (h : EvP te σ H R) (q : ∀ p H', H p = none → Same H H' → R p H' → u D (σ.set i (some (.ref p))) H') : tSeq (tAsg te (gName i)) u D σ H := h _ q

/-- a < b < c -/
theorem val_chain {r r' : R2} {k1 k2 : Bool} (ha : Val ta σ H x) (hb : Val tb σ H y) (h1 : ∀ Q : VK, Q (.bl k1) H → r x y H Q) (h2 : k1 = true → ∃ z, Val tc σ H z ∧ ∀ Q : VK, Q (.bl k2) H → r' y z H Q) : Val (tChain r r' ta tb tc) σ H (.bl (k1 && k2)) := fun Q z =>
  ha _ (hb _ (h1 _ ⟨k1, rfl, by
    cases k1 with
    | true =>
      obtain ⟨w, e1, e2⟩ := h2 rfl
      exact iteT (e1 _ (e2 _ z))
    | false => exact iteF z⟩))
/-- ord of a written sign -/
theorem val_ordC {c : Str} {n : Nat} (h1 : c.length = 1) (h2 : c.cps.getD 0 0 = n) : Val (tCB (fun xs H Q => ∃ x, xs = [.str x] ∧ x.length = 1 ∧ Q (.int (x.cps.getD 0 0 : Nat)) H) (tCons (tC (.str c)) tNil)) σ H (.int (n : Int)) := fun Q z =>
  ⟨c, rfl, h1, by rw [h2]; exact z⟩
theorem val_le {i j : Int} (ha : Val ta σ H (.int i)) (hb : Val tb σ H (.int j)) : Val (tOp (rI0 fun i j => .bl (decide (i ≤ j))) ta tb) σ H (.bl (decide (i ≤ j))) := val_I0 ha hb
theorem pe_gref {x : Str} {pos : Pos} (hg : Gl X x) (h : X.mg x = some (.ref a)) (hd : (x == ("__debug__" : Str)) = false := by decide) : PE X (.Name x pos) (tC (.ref a)) := pe_glob hg h rfl hd
theorem ans_lt {i j : Int} (ha : Val ta σ H (.int i)) (hb : Val tb σ H (.int j)) (e : decide (i < j) = b) : Ans (tTest (tOp (rI0 fun i j => .bl (decide (i < j))) ta tb)) σ H b := val_test (val_eq (val_I0 ha hb) (by rw [e]))
theorem ans_gt' {i j : Int} (ha : Val ta σ H (.int i)) (hb : Val tb σ H (.int j)) (e : decide (j < i) = b) : Ans (tTest (tOp (rI0 fun i j => .bl (decide (j < i))) ta tb)) σ H b := val_test (val_eq (val_I0 ha hb) (by rw [e]))
theorem val_lenS {z : Str} {n : Nat} (h : z.length = n) (hn : n ≤ 1000000) (ha : Val ta σ H (.str z)) : Val (tCB (fun xs H Q => ∃ z, xs = [.str z] ∧ z.length ≤ sizeLine ∧ Q (.int z.length) H) (tCons ta tNil)) σ H (.int (n : Int)) := fun Q q =>
  ha _ ⟨z, rfl, by rw [h, sizeLine_eq]; omega, by rw [h]; exact q⟩
theorem val_intS {z : Str} {n : Int} (h : PySem.intText? z = some n) (hn : z.length ≤ 640) (ha : Val ta σ H (.str z)) : Val (tCB (fun xs H Q => ∃ a n, xs = [.str a] ∧ PySem.intText? a = some n ∧ a.length ≤ 640 ∧ Q (.int n) H) (tCons ta tNil)) σ H (.int n) := fun Q q =>
  ha _ ⟨z, n, rfl, h, hn, q⟩
theorem val_starts {z y : Str} (ha : Val ta σ H (.str z)) (hb : Val tb σ H (.str y)) : Val (tM1 (fun x xs H Q => ∃ a b, x = .str a ∧ xs = [.str b] ∧ Q (.bl (Txt.startswith a b)) H) ta tb) σ H (.bl (Txt.startswith z y)) := fun Q q =>
  ha _ ⟨⟨_, rfl⟩, hb _ ⟨z, y, rfl, rfl, q⟩⟩
/-- a sign of a text -/
theorem val_ixS {z : Str} {n cc : Nat} (hl : z.length ≤ 1000) (e : z.cps.toList[n]? = some cc) (ha : Val ta σ H (.str z)) (hb : Val tb σ H (.int (n : Int))) : Val (tOp (fun x y H Q => ∃ (w : Str) (i : Int) (c : Nat), x = .str w ∧ y = .int i ∧ w.length ≤ sizeLine ∧ atI w.cps.toList i = some c ∧ Q (.str ⟨#[c]⟩) H) ta tb) σ H (.str (strOf [cc])) :=
  val_op ha hb fun _ zz => ⟨z, _, cc, rfl, rfl, by rw [sizeLine_eq]; omega, atI_nat e, zz⟩
/-- while a test holds that may lay objects -/
theorem st_whileT {tc : TT} {Pv : Nat → L2.St → Hp → Prop} (m : Nat) (w0 : Pv m σ H) (hc : ∀ m σ H, Pv m σ H → ∃ b, Ans' tc σ H b ∧ (b = true → ∀ H1, Same H H1 → ts { D with nx := fun σ' H' => ∃ m', m' < m ∧ Pv m' σ' H', ct := fun σ' H' => ∃ m', m' < m ∧ Pv m' σ' H', bk := D.nx } σ H1) ∧ (b = false → ∀ H1, Same H H1 → D.nx σ H1)) :
    tWhile tc ts D σ H := by
  refine ⟨Pv, ⟨m, w0⟩, fun m σ H p => ?_⟩
  obtain ⟨b, h1, h2, h3⟩ := hc m σ H p
  refine h1 _ fun H1 s1 => ?_
  cases b with
  | true => exact iteT ⟨_, fun σ' H' z => z, h2 rfl H1 s1⟩
  | false => exact iteF (h3 rfl H1 s1)
theorem st_seqWhileT {u : TS} {tc : TT} {Pv : Nat → L2.St → Hp → Prop} (m : Nat) (w0 : Pv m σ H) (hc : ∀ m σ H, Pv m σ H → ∃ b, Ans' tc σ H b ∧ (b = true → ∀ H1, Same H H1 → ts { D with nx := fun σ' H' => ∃ m', m' < m ∧ Pv m' σ' H', ct := fun σ' H' => ∃ m', m' < m ∧ Pv m' σ' H', bk := u D } σ H1) ∧ (b = false → ∀ H1, Same H H1 → u D σ H1)) :
    tSeq (tWhile tc ts) u D σ H := st_whileT (D := { D with nx := u D }) m w0 hc
/-- f(g(..)), g's answer a new object -/
theorem evs_call1N {sp : Sp} {E : XK} (h2 : EvN ta σ H o) (hs : ∀ q H', Same H H' → H' q = some o → ∀ Q : VK, (∀ H2, Same H' H2 → Q v H2) → sp [.ref q] H' Q E) : Evs (tCall sp [] E (tCons ta tNil)) σ H v := fun Q z =>
  h2 _ fun q H2 _ s2 e => hs q H2 s2 e Q fun H3 s3 => z H3 (s2.trans s3)
/-- x += e, ints -/
theorem st_aug {i : Nat} {n m : Int} {f : Int → Int → Int} (hx : σ[i]? = some (some (.int n))) (he : Val te σ H (.int m)) (q : D.nx (σ.set i (some (.int (f n m)))) H) : tAug i te (ipI f) D σ H := ⟨.int n, hx, he _ ⟨n, m, rfl, rfl, q⟩⟩
/-- a part of a list -/
theorem evn_slice {tl th : TE} {xs : List V} {i j : Nat} (hS : SqL K H a xs) (ha : Val te σ H (.ref a)) (hi : Val tl σ H (.int (i : Int))) (hj : Val th σ H (.int (j : Int))) (h2 : j ≤ xs.length) (h1 : i ≤ j) : EvN (tSl (rSlL K) te (tPart tl) (tPart th)) σ H (.lst ((xs.drop i).take (j - i))) := fun Q z =>
  ha _ (hi _ ⟨_, rfl, hj _ ⟨_, rfl, ⟨a, xs, rfl, hS, fun p hp => z p _ hp (Same.new hp) (by
    rw [upd_same]
    unfold cutV
    rw [HT.sIx_nat, HT.sIx_nat, Nat.min_eq_left h2, Nat.min_eq_left (Nat.le_trans h1 h2)])⟩⟩⟩)
theorem natsV_take (l : List Nat) (i k : Nat) : ((natsV l).drop i).take k = natsV ((l.drop i).take k) := by
  unfold natsV
  rw [List.map_take, List.map_drop]
end
/-! ### fields stored one behind another -/
theorem put2 {f g : Str} {x y : V} (h : ¬ f = g) : putF g y [(f, x)] = [(f, x), (g, y)] := (put_past h).trans rfl
theorem put3 {f g k : Str} {x y z : V} (h1 : ¬ f = k) (h2 : ¬ g = k) : putF k z [(f, x), (g, y)] = [(f, x), (g, y), (k, z)] := (put_past h1).trans (congrArg _ (put2 h2))
theorem put4 {f g k l : Str} {x y z u : V} (h1 : ¬ f = l) (h2 : ¬ g = l) (h3 : ¬ k = l) : putF l u [(f, x), (g, y), (k, z)] = [(f, x), (g, y), (k, z), (l, u)] := (put_past h1).trans (congrArg _ (put3 h2 h3))
theorem put5 {f g k l m : Str} {x y z u v : V} (h1 : ¬ f = m) (h2 : ¬ g = m) (h3 : ¬ k = m) (h4 : ¬ l = m) : putF m v [(f, x), (g, y), (k, z), (l, u)] = [(f, x), (g, y), (k, z), (l, u), (m, v)] := (put_past h1).trans (congrArg _ (put4 h2 h3 h4))
/-! ### texts -/
theorem strOf_list (w : List Nat) : (strOf w).cps.toList = w := by
  unfold strOf
  simp
theorem str_eta (s : Str) : s = strOf s.cps.toList := by
  cases s with
  | mk cps => unfold strOf; simp
theorem str_ext {a b : Str} (h : a.cps.toList = b.cps.toList) : a = b := by rw [str_eta a, str_eta b, h]
theorem starts_one (ds : List Nat) (c : Nat) : Txt.startswith (strOf ds) (strOf [c]) = (ds.head? == some c) := by
  unfold Txt.startswith Builtin.Str.subAt
  cases ds with
  | nil => rfl
  | cons d r =>
    have h1 : (strOf [c]).length = 1 := rfl
    have h2 : (strOf (d :: r)).length = r.length + 1 := strOf_len _
    have h3 : (strOf (d :: r)).cps.extract 0 (0 + (strOf [c]).length) = #[d] := by
      apply Array.toList_inj.mp
      rw [h1]
      simp [strOf]
    rw [h3, h1, h2]
    have h4 : decide (0 + 1 ≤ r.length + 1) = true := decide_eq_true (by omega)
    rw [h4, Bool.true_and, List.head?_cons, Bool.eq_iff_iff]
    simp [strOf]
theorem joinL_nil : ∀ l : List (List Nat), TL.joinL [] l = l.flatten
  | [] => rfl
  | [p] => by simp [TL.joinL]
  | p :: q :: r => by
    show p ++ ([] ++ TL.joinL [] (q :: r)) = _
    rw [joinL_nil (q :: r)]
    simp
theorem join_list (sep : Str) (ys : List Str) : (Txt.join sep ys).cps.toList = TL.joinL sep.cps.toList (ys.map fun y => y.cps.toList) := by
  rw [TL.join_eq]
  exact TL.tl_join sep ys
theorem str_zero : ("0" : Str) = strOf [48] := by decide +kernel
theorem sum_ones (w : List Nat) : ((w.map fun c => strOf [c]).map (·.length)).sum = w.length := by
  rw [List.map_map]
  induction w with
  | nil => rfl
  | cons a r ih =>
    rw [List.map_cons, List.sum_cons, ih, List.length_cons]
    show 1 + _ = _
    omega
theorem join_ones (w : List Nat) : Txt.join (strOf []) (w.map fun c => strOf [c]) = strOf w := by
  apply str_ext
  rw [strOf_list, join_list, strOf_list, joinL_nil, List.map_map]
  induction w with
  | nil => rfl
  | cons c r ih =>
    rw [List.map_cons, List.flatten_cons, ih]
    rfl
end Tp
/-! The program's own error: a class over Exception whose __init__ calls Exception's and stores two fields. -/
namespace Tp
open PySem PySem.Spec PyProof.Rows L2

/-- what the top has written of the class -/
structure FxC (K : PySem.W.Frag) (C : Addr) : Prop where
  obj : ∃ nm q N bs sn sub ab col dd k0 k1 k2 k3 k5, K.lookup C = some (excClassObj nm q C N bs ESX.exTail true sn sub ab col dd k0 k1 k2 k3 k5 "Exception.__new__")
  sa : PySem.W.findIn K (.ref C) "__setattr__" = some (some (.builtin "object.__setattr__"))
  be : PySem.W.subIn K (.ref C) (.type "BaseException") = some true
  ty : PySem.W.typeIn K (.ref C) = some (.type "type")
  kp : PySem.W.keepIn K (.ref C) = true
theorem FxC.data {K : PySem.W.Frag} {C : Addr} (T : FxC K C) : ∃ cd, PySem.W.clsIn K C = some cd ∧ cd.mro = .ref C :: ESX.exTail ∧ cd.hasDict = true := by
  obtain ⟨nm, q, N, bs, sn, sub, ab, col, dd, k0, k1, k2, k3, k5, hC⟩ := T.obj
  have e : PySem.W.clsIn K C = some { name := nm, bases := bs, mro := .ref C :: ESX.exTail, ns := N, qualname := q, hasDict := true, slotNames := sn, subclasses := sub, abstract := ab, collection := col, hasDel := false } := by
    unfold PySem.W.clsIn
    rw [hC] <;> rfl
  exact ⟨_, e, rfl, rfl⟩
theorem other_kind {H : Hp} {e b C x : Addr} {d : Option Addr} {o : HO} (ea : H e = some (exo e C d)) (eb : H b = some o) (ho : ∀ φ, o ≠ .ext φ) : b ≠ e := fun z => by
  rw [z, ea] at eb
  exact ho _ (Option.some.inj eb).symm
section
variable {X : Cx} {pins : List (Addr × Obj)} {σ : L2.St} {H : Hp} {s : Shared} {a C dx : Addr} {f : Str} {y : V} {u : Value} {fs : List (Str × V)} {Q : Unit → Shared → Prop} {E : Value → Shared → Prop} {A : Around}
/-- its first field -/
theorem fx_first (T : FxC X.K C) (I : Inv X pins σ H s) (e : H a = some (exo a C none)) (hno : PySem.W.findIn X.K (.ref C) f = some none) (ry : RelV y u)
    (h : ∀ dx s', H dx = none → dx ≠ a → Inv X pins σ (upd (upd H dx (exd dx [(f, y)])) a (exo a C (some dx))) s' → Q () s') : wpAny (model X.prog X.w) A (setAttr (.ref a) f u) Q E s := by
  obtain ⟨cd, hcl, hmro, hhd⟩ := T.data
  obtain ⟨t1, ho⟩ := exo_at I.hok e
  obtain ⟨hp, g, dr, tk, os⟩ := s
  refine PySem.W.set_plain I.kIn (od := none) ⟨ho, rfl, rfl, trivial⟩ T.sa (ESX.osa_new I.kIn ho hcl hmro hhd hno fun h' tk' dx k dn dne hx hn => ?_)
  have hnd : H dx = none := I.hok.fresh dn
  have old : ∀ {b : Addr} {o : Obj}, hp.get? b = some o → b ≠ dx := fun q => Nat.ne_of_lt (Nat.lt_of_lt_of_le (Heap.lt_size q) dn)
  have nota : ∀ {b : Addr}, H b = none → b ≠ a := fun n z => by rw [z, e] at n; cases n
  have keepH : ∀ {b : Addr} {o : HO}, H b = some o → (∀ φ, o ≠ .ext φ) → (upd (upd H dx (exd dx [(f, y)])) a (exo a C (some dx))) b = some o := fun eb hk => by
    rw [upd_ne (other_kind (x := dx) e eb hk), upd_ne (ne_of_none eb hnd)]
    exact eb
  have un : Un X.fs [] H (upd (upd H dx (exd dx [(f, y)])) a (exo a C (some dx))) hp h' := by
    constructor
    · intro b o q n _ _
      exact k b o (nota n) q
    · intro b o q n _ _
      exact ⟨o.slots, k b o (nota n) q⟩
    · intro b o q n _
      rw [upd_ne (nota n), upd_ne (old q)]
      exact n
    · intro b o q _
      by_cases hb : b = a
      · subst hb
        exact ⟨_, hx⟩
      · exact ⟨o, k b o hb q⟩
    · intro b xs q
      exact keepH q fun _ z => by cases z
    · intro b o v q
      exact keepH q fun _ z => by cases z
    · intro b ps q
      refine ⟨#[], ?_⟩
      rw [Array.append_empty]
      exact keepH q fun _ z => by cases z
  refine h dx _ hnd dne (I.un (t' := tk') un fun b o q => ?_)
  by_cases hb : b = a
  · subst hb
    rw [upd_same] at q
    cases q
    exact exo_ok hx
  rw [upd_ne hb] at q
  by_cases hd : b = dx
  · subst hd
    rw [upd_same] at q
    cases q
    exact exd_ok hn (relO_put (fs := []) ry fun _ => True.intro)
  rw [upd_ne hd] at q
  refine (I.hok b o q).stay (fun c v hc z => k c v ?_ z) (fun c hc => keepH hc fun _ z => by cases z) fun c xs hc => keepH hc fun _ z => by cases z
  rcases hc with hc | hc
  · rw [hc]
    exact hb
  · exact other_kind (x := dx) e hc fun _ z => by cases z
/-- a further field -/
theorem fx_more (T : FxC X.K C) (I : Inv X pins σ H s) (e : H a = some (exo a C (some dx))) (ed : H dx = some (exd dx fs)) (hl : fs.length ≤ 900) (hno : PySem.W.findIn X.K (.ref C) f = some none) (ry : RelV y u)
    (h : ∀ s', Inv X pins σ (upd H dx (exd dx ((f, y) :: fs))) s' → Q () s') : wpAny (model X.prog X.w) A (setAttr (.ref a) f u) Q E s := by
  obtain ⟨cd, hcl, hmro, hhd⟩ := T.data
  obtain ⟨t1, ho⟩ := exo_at I.hok e
  obtain ⟨mA, hns, rel⟩ := exd_at I.hok ed
  have hw := within_of rel
  obtain ⟨hp, g, dr, tk, os⟩ := s
  obtain ⟨oD, _, _, hoD, _, _⟩ := hns.count hw
  refine PySem.W.set_plain I.kIn (od := some oD) ⟨ho, rfl, rfl, hoD⟩ T.sa (ESX.osa_old I.kIn ho hns hw (by rw [List.length_map]; omega) hcl hmro hhd hno fun h' tk' k hn => ?_)
  have there : ∃ o, h'.get? dx = some o := let ⟨o, _, _, z, _⟩ := hn; ⟨o, z⟩
  exact h _ (I.write (t' := tk') (e := dx) (by rw [ed]; exact True.intro) (.inl rfl) k there (exd_ok hn (relO_put ry rel)))
/-- Exception.__init__(self, ..) -/
theorem fx_base {us : List Value} {Q : Value → Shared → Prop} (T : FxC X.K C) (I : Inv X pins σ H s) (e : H a = some (exo a C none)) (hl : us.length ≤ sizeLine) (h : ∀ s', Inv X pins σ H s' → Q .none s') :
    wpAny (model X.prog X.w) A (call (.builtin "Exception.__init__") (.ref a :: us)) Q E s := by
  obtain ⟨nm, q, N, bs, sn, sub, ab, col, dd, k0, k1, k2, k3, k5, hC⟩ := T.obj
  obtain ⟨t1, ho⟩ := exo_at I.hok e
  obtain ⟨hp, g, dr, tk, os⟩ := s
  refine wpAny_call (PySem.HandSPX.init_base F.excBase_Exception (fun _ => rfl) (I.kIn _ _ hC) ho hl fun h' t2 k hx => ?_)
  have J := I.write (t' := tk) (o := exo a C none) (by rw [e]; exact True.intro) (.inl rfl) k ⟨_, hx⟩ (exo_ok hx)
  have same : upd H a (exo a C none) = H := funext fun b => by
    by_cases hb : b = a
    · rw [hb, upd_same, e]
    · exact upd_ne hb
  rw [same] at J
  exact h _ J
end

/-- Exception.__init__(self, ..) as an expression -/
def tFx0 (K : PySem.W.Frag) (ta : TA) : TE := fun σ H Q => ta σ H fun vs H1 => ∃ (a C : Addr) (ws : List V), vs = .ref a :: ws ∧ ws.length ≤ 1000 ∧ FxC K C ∧ H1 a = some (exo a C none) ∧ Q .non H1
/-- self.f = e in such an __init__ -/
def sFx (K : PySem.W.Frag) (f : Str) (to te : TE) : TS := fun D σ H => te σ H fun y H1 => to σ H1 fun x H2 => ∃ a C : Addr, x = .ref a ∧ FxC K C ∧ PySem.W.findIn K (.ref C) f = some none ∧
  ((H2 a = some (exo a C none) ∧ ∀ dx, H2 dx = none → dx ≠ a → D.nx σ (upd (upd H2 dx (exd dx [(f, y)])) a (exo a C (some dx)))) ∨
    ∃ (dx : Addr) (fs : List (Str × V)), H2 a = some (exo a C (some dx)) ∧ H2 dx = some (exd dx fs) ∧ fs.length ≤ 900 ∧ D.nx σ (upd H2 dx (exd dx ((f, y) :: fs))))
section
variable {X : Cx} {o e : Expr} {es : List Expr} {to te : TE} {ta : TA} {f : Str} {p p' p1 p2 pos : Pos}
theorem ty_Exc : typeOf (.type "Exception") = pure (.type "type") := by kernel_rfl
theorem pe_fx0 {pl : Sem Bool} (hg : Gl X "Exception") (hm : X.mg "Exception" = none) (fi : PySem.W.findCls X.K (.type "Exception") (.type "type") "__init__" = some (.val (.builtin "Exception.__init__"))) (ha : PA X (e :: es) ta)
    (hc : eval (.Call (.Attribute (.Name "Exception" p1) "__init__" p2) (e :: es) [] pos) X.env = (do
      let ov ← eval (.Name "Exception" p1) X.env
      standAt p2.atName
      let (f, first) ← holding [ov] (getMethod ov "__init__" pl)
      callWith pos f first (backTo pos (starEach (e :: es) X.env)) (backToKw pos (keywordEach [] X.env))) := by rfl)
    (he : starEach (e :: es) X.env = (false, eval e X.env) :: starEach es X.env := by rfl) (hpl : (backTo pos (starEach es X.env)).any (·.1) = false := by rfl) :
    PE X (.Call (.Attribute (.Name "Exception" p1) "__init__" p2) (e :: es) [] pos) (tFx0 X.K ta) := by
  constructor
  intro pins s σ H Q I h
  refine PySem.W.methodCall_KW (ld_blt I hg hm PyProof.Rows.Boot.«Exception» ?_ (by decide) (by decide)) hc
  obtain ⟨m, fr⟩ := I.fr
  refine PySem.W.method_type fr I.ok.mod.kin ty_Exc (by decide +kernel) fi (by decide +kernel) ?_
  show wpAny _ _ (callWith pos (Value.builtin "Exception.__init__") [] (backTo pos (starEach (e :: es) X.env)) []) _ _ _
  refine PyProof.Rows.callWith_method1 (thn (ha.run pos pins _ σ H _ (I.tok _) h) fun us s1 hh => ?_) he hpl
  obtain ⟨vs, H1, I1, r1, a, C, ws, rfl, hl, T, ea, q⟩ := hh
  cases r1 with
  | @cons _ u0 _ ur ra rws =>
    obtain rfl : u0 = Value.ref a := ra
    exact fx_base T I1 ea (by rw [← Paired.length rws, sizeLine_eq]; omega) fun s' J => ⟨.non, H1, J, rfl, q⟩
theorem ps_fx (ho : PE X o to) (he : PE X e te) (hs : swapsWith e (some (.Attribute o f p')) pos.line X.env = pure false := by rfl) : PS X (.Assign [.Attribute o f p'] e pos) (sFx X.K f to te) := by
  constructor
  intro pins s σ H D I h
  refine plainObj_wpAny_Assign_Attribute (thn (he.run pins s σ H _ I h) fun v s1 h1 => ?_) hs
  obtain ⟨y, H1, I1, r1, q1⟩ := h1
  refine thn (ho.run pins s1 σ H1 _ I1 q1) fun u s2 h2 => ?_
  obtain ⟨x, H2, I2, r2, a, C, rfl, T, hno, q⟩ := h2
  obtain rfl : u = Value.ref a := r2
  rcases q with ⟨ea, q⟩ | ⟨dx, fs, ea, ed, hl, q⟩
  · exact fx_first T I2 ea hno r1 fun dx s' n ne J => ⟨σ, _, J, q dx n ne⟩
  · exact fx_more T I2 ea ed hl hno r1 fun s' J => ⟨σ, _, J, q⟩
/-- C(e, ..): the class's own __init__ keeps sp -/
theorem pmk_fx {CX : CXT} {x : Str} {C fI : Addr} {k : Nat} {fd : FuncData} {ps : List Str} {sp : Sp} (T : FxC X.K C) (iC : PySem.W.findIn X.K (.ref C) "__init__" = some (some (.ref fI))) (tI : PySem.W.typeIn X.K (.ref fI) = some (.type "function"))
    (F1 : FnOk X.prog X.w X.K X.mg X.base CX k fI fd ps sp) (hr : Room (k + 1) X.A) (hb : Binds X.K fd ps []) (hx : Passes CX X (fun _ _ _ => False)) (hg : Gl X x) (hm : X.mg x = some (.ref C)) (ha : PA X (e :: es) ta)
    (hdb : (x == ("__debug__" : Str)) = false := by decide) (he : starEach (e :: es) X.env = (false, eval e X.env) :: starEach es X.env := by rfl) (hpl : (backTo pos (starEach es X.env)).any (·.1) = false := by rfl) :
    PMk X (.Call (.Name x p) (e :: es) [] pos) (tMkO C sp [] ta) := by
  intro pins s σ H Q I h
  obtain ⟨nm, q, N, bs, sn, sub, ab, col, dd, k0, k1, k2, k3, k5, hC⟩ := T.obj
  refine wpAny_Call_Name_kw (ld_glob I hg hm ?_ hdb)
  refine PySem.W.callWith_K (h₀ := X.base) I.ok.mod.kin T.kp (thn (ha.run pos pins s σ H _ I h) fun us s1 h1 => ?_) he hpl
  obtain ⟨vs, H1, I1, r1, hz, q1⟩ := h1
  refine ⟨I1.kIn, ?_⟩
  show wpAny _ _ (call (.ref C) us) _ _ _
  obtain ⟨hp, g, dr, tk, os⟩ := s1
  obtain ⟨e1, hee⟩ : ∃ e1, e1 = hp.objs.size + 1 := ⟨_, rfl⟩
  have hsz : hp.objs.size ≤ e1 := by rw [hee]; exact Nat.le_succ _
  have hn : H1 e1 = none := I1.hok.fresh hsz
  have hq := q1 e1 hn
  rw [List.append_nil] at hq
  have grow : ∀ b o, hp.get? b = some o → ((hp.push (PySem.W.kdv_tup us)).push (PySem.HandSPX.excO C hp.objs.size)).get? b = some o := fun b o z => Heap.get?_push_of_some _ (Heap.get?_push_of_some _ z)
  have born : ((hp.push (PySem.W.kdv_tup us)).push (PySem.HandSPX.excO C hp.objs.size)).get? e1 = some (PySem.HandSPX.excO C hp.objs.size) := by rw [hee]; heap_get
  have I2 : Inv X pins σ (upd H1 e1 (exo e1 C none)) ⟨(hp.push (PySem.W.kdv_tup us)).push (PySem.HandSPX.excO C hp.objs.size), g, dr, tk, os⟩ := I1.laid (t' := tk) grow hsz (exo_ok born)
  have r2 : Vals (V.ref e1 :: vs) (Value.ref e1 :: us) := .cons rfl r1
  have hlen : (Value.ref e1 :: us).length = ps.length := by
    rw [← r2.length]
    exact F1.len _ _ _ _ hq
  have hus : us.length ≤ sizeLine := by
    rw [← Paired.length r1, sizeLine_eq]
    omega
  have hrun := F1.run _ X.stack _ _ ⟨Value.ref e1 :: us, []⟩ (Value.ref e1 :: us) _ _ (fun _ _ _ => False) (hr.make C us []) (I2.env0.make C us []) (by have := hb _ (Value.ref e1 :: us) I2.kIn (by rw [List.append_nil]; exact hlen); rwa [List.append_nil] at this) r2 hq
  rw [hee] at hrun
  refine wpAny_call (PySem.HandSPX.call_own F.excBase_Exception (fun _ => rfl) (I1.kIn _ _ hC) (PySem.W.looks_findIn I1.kIn iC) (fun self => PySem.W.bind_fn I1.kIn self tI) hus (codeAny_mono hrun fun r s' hq' => ?_))
  cases r with
  | error er => exact hx pins σ _ _ er s' (hee ▸ I2) hq'
  | ok fl =>
    cases fl with
    | ret u =>
      obtain ⟨v, H2, os2, bare2, un2, hok2, rv, ev, d, fs, ea, ed, hd1, q2⟩ := hq'
      subst ev
      obtain ⟨h2, g2, d2, t2, os'⟩ := s'
      rw [← hee] at un2 ea q2
      rw [← hee]
      exact ⟨rv, mk_end (raises_own T.be T.ty) I1 hsz grow un2 hok2 os2 bare2 ea ed hd1 q2⟩
    | next => exact False.elim hq'
    | brk => exact False.elim hq'
    | cont => exact False.elim hq'
end
end Tp
namespace Tp
open PySem PySem.Spec PyProof.Rows L2
/-- the error, for defs of the program -/
structure TxF (K : PySem.W.Frag) (mg : Str → Option Value) (A : Ad) : Prop where
  fx : FxC K A.cFault
  g : mg "Fault" = some (.ref A.cFault)
  b : mg "Exception" = none
  fi : PySem.W.findCls K (.type "Exception") (.type "type") "__init__" = some (.val (.builtin "Exception.__init__"))
  nk : PySem.W.findIn K (.ref A.cFault) "kind" = some none
  np : PySem.W.findIn K (.ref A.cFault) "place" = some none
  xf : XfC K A.cFault
  te : PySem.W.exmOne K (.ref A.cFault) (.ref A.cFault) = some true
structure CalF (P : Program) (w : World) (K : PySem.W.Frag) (mg : Str → Option Value) (base : Heap) (C : Addr) (sp : Sp) : Prop where
  ex : ∃ f fd, PySem.W.findIn K (.ref C) "__init__" = some (some (.ref f)) ∧ PySem.W.typeIn K (.ref f) = some (.type "function") ∧ Binds K fd ["self", "kind", "place"] [] ∧ FnOk P w K mg base CX0 1 f fd ["self", "kind", "place"] sp
def ftF (f : Vatsld.Fault) : List (Str × V) := [("place", .int (f.2 : Int)), ("kind", .int (f.1 : Int))]
/-- E takes the fault, whatever else is new -/
def Thrown (A : Ad) (H : Hp) (E : XK) (f : Vatsld.Fault) : Prop := ∀ d H', Same H H' → H' d = some (.xd (ftF f)) → E (.ref A.cFault) (some d) H'
theorem Thrown.mono {A : Ad} {H H' : Hp} {E : XK} {f : Vatsld.Fault} (s : Same H H') (h : Thrown A H E f) : Thrown A H' E f := fun d H2 s2 e => h d H2 (s.trans s2) e
def sp_Fault_init (A : Ad) : Sp := fun vs H Q _ => ∃ (a : Addr) (k p : Nat), vs = [.ref a, .int (k : Int), .int (p : Int)] ∧ H a = some (exo a A.cFault none) ∧
  ∀ d H', H d = none → (∀ b o, b ≠ a → H b = some o → H' b = some o) → H' a = some (exo a A.cFault (some d)) → H' d = some (exd d (ftF (k, p))) → Q .non H'
theorem mk_fault {A : Ad} {σ : L2.St} {H : Hp} {ta : TA} {k p : Nat} {W : XK} (h : EvA ta σ H [.int (k : Int), .int (p : Int)]) (hW : Thrown A H W (k, p)) : tMkO A.cFault (sp_Fault_init A) [] ta σ H W := h _ fun H1 s1 => by
  refine ⟨by simp, fun a ha => ?_⟩
  refine ⟨a, k, p, rfl, upd_same, fun d H' hd hk ea ed => ⟨rfl, d, _, ea, ed, ?_, ?_⟩⟩
  · have hne : d ≠ a := fun z => by rw [z, upd_same] at hd; cases hd
    rw [upd_ne hne] at hd
    exact hd
  · have hne : d ≠ a := fun z => by rw [z, upd_same] at hd; cases hd
    rw [upd_ne hne] at hd
    refine hW d _ (fun b o e => ?_) upd_same
    have e1 := s1 _ _ e
    have nb : b ≠ a := ne_of_none e1 ha
    rw [upd_ne (ne_of_none e1 hd), del_ne nb]
    exact hk b o nb (by rw [upd_ne nb]; exact e1)
/-- raise Fault(k, p) -/
theorem st_fault {A : Ad} {σ : L2.St} {H : Hp} {ta : TA} {k p : Nat} {E : XK} {D : Ends} (h : EvA ta σ H [.int (k : Int), .int (p : Int)]) (hW : Thrown A H E (k, p)) :
    (fun (_ : Ends) σ H => tMkO A.cFault (sp_Fault_init A) [] ta σ H fun cls d H' => (fun (cls : Value) (d : Option Addr) (_ : L2.St) (H : Hp) => E cls d H) cls d σ H') D σ H := mk_fault h hW
end Tp
namespace Tp
open PySem PySem.Spec PyProof.Rows L2
section
variable {P : Program} {w : World} {K : PySem.W.Frag} {mg : Str → Option Value} {base : Heap} {A : Ad}
def sp_is_letter (A : Ad) : Sp := fun vs H Q _ => ∃ (c : Nat), vs = [.int (c : Int)] ∧ Q (.bl (Vatsld.small c)) H
/-! ### is_letter -/
abbrev s_is_letter : Stmt := top 65
theorem sc_is_letter : FnScope ["byte"] ["byte"] (defScope s_is_letter) := ⟨rfl, rfl, rfl, by decide +kernel, rfl, by decide +kernel, by decide +kernel⟩
theorem ok_is_letter {f : Addr} {fd : FuncData} (F : Fun K "is_letter" "is_letter" s_is_letter f fd) (T : Txt K mg A) : FnOk P w K mg base CX0 1 f fd ["byte"] (sp_is_letter A) := by
  refine F.ok sc_is_letter (fun vs H Q E h => by revert h; first | (rintro ⟨rfl, _⟩; rfl) | (rintro ⟨_, rfl, _⟩; rfl) | (rintro ⟨_, _, rfl, _⟩; rfl) | (rintro ⟨_, _, _, rfl, _⟩; rfl) | (rintro ⟨_, _, _, _, rfl, _⟩; rfl) | (rintro ⟨_, _, _, _, _, rfl, _⟩; rfl) | (rintro ⟨_, _, _, _, _, _, rfl, _⟩; rfl) | (rintro ⟨_, _, _, _, _, _, _, rfl, _⟩; rfl) | (rintro ⟨_, _, _, _, _, _, _, _, rfl, _⟩; rfl) | (rintro ⟨_, _, _, _, _, _, _, _, _, rfl, _⟩; rfl) | (rintro ⟨_, _, _, _, _, _, _, _, _, _, rfl, _⟩; rfl) | (rintro ⟨_, _, _, _, _, _, _, _, _, _, _, rfl, _⟩; rfl)) (fun cdv Ar outer s H vs Q E hr h => ⟨_, 
  (pss_one (ps_ret (pe_chain op_le op_le (pe_callB call_ord (by rfl) T.b_ord (by decide +kernel) (pa_cons pe_str pa_nil)) (pv 0) (pe_callB call_ord (by rfl) T.b_ord (by decide +kernel) (pa_cons pe_str pa_nil))))), ?_⟩)
  obtain ⟨c, rfl, k⟩ := h
  refine st_ret (val_chain (k1 := decide ((97 : Int) ≤ (c : Int))) (k2 := decide ((c : Int) ≤ 122)) (val_ordC rfl rfl) (val_var rfl) (fun Q z => ⟨_, _, rfl, rfl, z⟩) fun _ => ⟨_, val_ordC rfl rfl, fun Q z => ⟨_, _, rfl, rfl, z⟩⟩) ?_
  have e0 : (decide ((97 : Int) ≤ (c : Int)) && decide ((c : Int) ≤ 122)) = Vatsld.small c := by
    unfold Vatsld.small
    rw [Bool.eq_iff_iff]
    simp
    omega
  rw [e0]
  exact k

def sp_is_digit (A : Ad) : Sp := fun vs H Q _ => ∃ (c : Nat), vs = [.int (c : Int)] ∧ Q (.bl (Vatsld.digit c)) H
/-! ### is_digit -/
abbrev s_is_digit : Stmt := top 66
theorem sc_is_digit : FnScope ["byte"] ["byte"] (defScope s_is_digit) := ⟨rfl, rfl, rfl, by decide +kernel, rfl, by decide +kernel, by decide +kernel⟩
theorem ok_is_digit {f : Addr} {fd : FuncData} (F : Fun K "is_digit" "is_digit" s_is_digit f fd) (T : Txt K mg A) : FnOk P w K mg base CX0 1 f fd ["byte"] (sp_is_digit A) := by
  refine F.ok sc_is_digit (fun vs H Q E h => by revert h; first | (rintro ⟨rfl, _⟩; rfl) | (rintro ⟨_, rfl, _⟩; rfl) | (rintro ⟨_, _, rfl, _⟩; rfl) | (rintro ⟨_, _, _, rfl, _⟩; rfl) | (rintro ⟨_, _, _, _, rfl, _⟩; rfl) | (rintro ⟨_, _, _, _, _, rfl, _⟩; rfl) | (rintro ⟨_, _, _, _, _, _, rfl, _⟩; rfl) | (rintro ⟨_, _, _, _, _, _, _, rfl, _⟩; rfl) | (rintro ⟨_, _, _, _, _, _, _, _, rfl, _⟩; rfl) | (rintro ⟨_, _, _, _, _, _, _, _, _, rfl, _⟩; rfl) | (rintro ⟨_, _, _, _, _, _, _, _, _, _, rfl, _⟩; rfl) | (rintro ⟨_, _, _, _, _, _, _, _, _, _, _, rfl, _⟩; rfl)) (fun cdv Ar outer s H vs Q E hr h => ⟨_, 
  (pss_one (ps_ret (pe_chain op_le op_le (pe_callB call_ord (by rfl) T.b_ord (by decide +kernel) (pa_cons pe_str pa_nil)) (pv 0) (pe_callB call_ord (by rfl) T.b_ord (by decide +kernel) (pa_cons pe_str pa_nil))))), ?_⟩)
  obtain ⟨c, rfl, k⟩ := h
  refine st_ret (val_chain (k1 := decide ((48 : Int) ≤ (c : Int))) (k2 := decide ((c : Int) ≤ 57)) (val_ordC rfl rfl) (val_var rfl) (fun Q z => ⟨_, _, rfl, rfl, z⟩) fun _ => ⟨_, val_ordC rfl rfl, fun Q z => ⟨_, _, rfl, rfl, z⟩⟩) ?_
  have e0 : (decide ((48 : Int) ≤ (c : Int)) && decide ((c : Int) ≤ 57)) = Vatsld.digit c := by
    unfold Vatsld.digit
    rw [Bool.eq_iff_iff]
    simp
    omega
  rw [e0]
  exact k

def sp_is_word_byte (A : Ad) : Sp := fun vs H Q _ => ∃ (c : Nat), vs = [.int (c : Int)] ∧ ∀ H', Same H H' → Q (.bl (Vatsld.inner c)) H'
theorem dec_int (i j : Int) : decide (V.int i = V.int j) = decide (i = j) := by
  by_cases h : i = j
  · subst h; simp
  · rw [decide_eq_false h, decide_eq_false fun z => h (V.int.inj z)]
theorem evs_letter {σ : L2.St} {H : Hp} {E : XK} {te : TE} {c : Nat} (h : Evs te σ H (.int (c : Int))) : Evs (tCall (sp_is_letter A) [] E (tCons te tNil)) σ H (.bl (Vatsld.small c)) :=
  evs_call (eva_cons h fun _ _ => eva_nil) fun H4 _ _ z => ⟨c, rfl, z H4 (Same.refl _)⟩
theorem evs_digit {σ : L2.St} {H : Hp} {E : XK} {te : TE} {c : Nat} (h : Evs te σ H (.int (c : Int))) : Evs (tCall (sp_is_digit A) [] E (tCons te tNil)) σ H (.bl (Vatsld.digit c)) :=
  evs_call (eva_cons h fun _ _ => eva_nil) fun H4 _ _ z => ⟨c, rfl, z H4 (Same.refl _)⟩
/-! ### is_word_byte -/
abbrev s_is_word_byte : Stmt := top 67
theorem sc_is_word_byte : FnScope ["byte"] ["byte"] (defScope s_is_word_byte) := ⟨rfl, rfl, rfl, by decide +kernel, rfl, by decide +kernel, by decide +kernel⟩
theorem ok_is_word_byte {f : Addr} {fd : FuncData} (F : Fun K "is_word_byte" "is_word_byte" s_is_word_byte f fd) (T : Txt K mg A)
    (C_is_digit : Cal P w K mg base CX0 1 "is_digit" ["byte"] (sp_is_digit A))
    (C_is_letter : Cal P w K mg base CX0 1 "is_letter" ["byte"] (sp_is_letter A)) : FnOk P w K mg base CX0 2 f fd ["byte"] (sp_is_word_byte A) := by
  obtain ⟨f_is_digit, fd_is_digit, m_is_digit, kp_is_digit, b_is_digit, G_is_digit⟩ := C_is_digit.ex
  obtain ⟨f_is_letter, fd_is_letter, m_is_letter, kp_is_letter, b_is_letter, G_is_letter⟩ := C_is_letter.ex
  refine F.ok sc_is_word_byte (fun vs H Q E h => by revert h; first | (rintro ⟨rfl, _⟩; rfl) | (rintro ⟨_, rfl, _⟩; rfl) | (rintro ⟨_, _, rfl, _⟩; rfl) | (rintro ⟨_, _, _, rfl, _⟩; rfl) | (rintro ⟨_, _, _, _, rfl, _⟩; rfl) | (rintro ⟨_, _, _, _, _, rfl, _⟩; rfl) | (rintro ⟨_, _, _, _, _, _, rfl, _⟩; rfl) | (rintro ⟨_, _, _, _, _, _, _, rfl, _⟩; rfl) | (rintro ⟨_, _, _, _, _, _, _, _, rfl, _⟩; rfl) | (rintro ⟨_, _, _, _, _, _, _, _, _, rfl, _⟩; rfl) | (rintro ⟨_, _, _, _, _, _, _, _, _, _, rfl, _⟩; rfl) | (rintro ⟨_, _, _, _, _, _, _, _, _, _, _, rfl, _⟩; rfl)) (fun cdv Ar outer s H vs Q E hr h => ⟨_, 
  (pss_one (ps_ret (pe_or (pe_call G_is_letter (hr.mono (by decide)) rfl m_is_letter kp_is_letter b_is_letter .nil pass0 (pa_cons (pv 0) pa_nil)) (pe_or (pe_call G_is_digit (hr.mono (by decide)) rfl m_is_digit kp_is_digit b_is_digit .nil pass0 (pa_cons (pv 0) pa_nil)) (pe_one (pe_cmpR op_eq (pv 0) (pe_callB call_ord (by rfl) T.b_ord (by decide +kernel) (pa_cons pe_str pa_nil)) (nomark _))))))), ?_⟩)
  obtain ⟨c, rfl, k⟩ := h
  refine st_retS (evs_is (evs_or (evs_letter (evs_of (val_var rfl))) fun _ _ _ => evs_or (evs_digit (evs_of (val_var rfl))) fun _ H3 _ => evs_of (val_op (z := .bl (decide (V.int (c : Int) = .int 95))) (val_var rfl) (val_ordC rfl rfl) fun Q z => ⟨rfl, z⟩)) ?_) k
  rw [dec_int]
  unfold Vatsld.inner
  rw [← Bool.or_assoc]
  congr 2
  rw [Bool.eq_iff_iff]
  simp
  omega

def sp_character (A : Ad) : Sp := fun vs H Q _ => ∃ (c : Nat), vs = [.int (c : Int)] ∧ Vatsld.inner c = true ∧ ∀ H', Same H H' → Q (.str (strOf [c])) H'
theorem letters_at : ∀ k, k < 26 → ("abcdefghijklmnopqrstuvwxyz" : Str).cps.toList[k]? = some (97 + k) := by decide +kernel
theorem digits_at : ∀ k, k < 10 → ("0123456789" : Str).cps.toList[k]? = some (48 + k) := by decide +kernel
theorem val_subN {σ : L2.St} {H : Hp} {ta tb : TE} {i j : Nat} (h : j ≤ i) (ha : Val ta σ H (.int (i : Int))) (hb : Val tb σ H (.int (j : Int))) : Val (tOp (rI0 fun i j => .int (i - j)) ta tb) σ H (.int ((i - j : Nat) : Int)) := by
  have e : ((i - j : Nat) : Int) = (i : Int) - (j : Int) := by omega
  rw [e]
  exact val_I0 ha hb
/-! ### character -/
abbrev s_character : Stmt := top 69
theorem sc_character : FnScope ["byte"] ["byte"] (defScope s_character) := ⟨rfl, rfl, rfl, by decide +kernel, rfl, by decide +kernel, by decide +kernel⟩
theorem ok_character {f : Addr} {fd : FuncData} (F : Fun K "character" "character" s_character f fd) (T : Txt K mg A)
    (C_is_digit : Cal P w K mg base CX0 1 "is_digit" ["byte"] (sp_is_digit A))
    (C_is_letter : Cal P w K mg base CX0 1 "is_letter" ["byte"] (sp_is_letter A)) : FnOk P w K mg base CX0 2 f fd ["byte"] (sp_character A) := by
  obtain ⟨f_is_digit, fd_is_digit, m_is_digit, kp_is_digit, b_is_digit, G_is_digit⟩ := C_is_digit.ex
  obtain ⟨f_is_letter, fd_is_letter, m_is_letter, kp_is_letter, b_is_letter, G_is_letter⟩ := C_is_letter.ex
  refine F.ok sc_character (fun vs H Q E h => by revert h; first | (rintro ⟨rfl, _⟩; rfl) | (rintro ⟨_, rfl, _⟩; rfl) | (rintro ⟨_, _, rfl, _⟩; rfl) | (rintro ⟨_, _, _, rfl, _⟩; rfl) | (rintro ⟨_, _, _, _, rfl, _⟩; rfl) | (rintro ⟨_, _, _, _, _, rfl, _⟩; rfl) | (rintro ⟨_, _, _, _, _, _, rfl, _⟩; rfl) | (rintro ⟨_, _, _, _, _, _, _, rfl, _⟩; rfl) | (rintro ⟨_, _, _, _, _, _, _, _, rfl, _⟩; rfl) | (rintro ⟨_, _, _, _, _, _, _, _, _, rfl, _⟩; rfl) | (rintro ⟨_, _, _, _, _, _, _, _, _, _, rfl, _⟩; rfl) | (rintro ⟨_, _, _, _, _, _, _, _, _, _, _, rfl, _⟩; rfl)) (fun cdv Ar outer s H vs Q E hr h => ⟨_, 
  (pss_cons (ps_if (pt_val (pe_call G_is_letter (hr.mono (by decide)) rfl m_is_letter kp_is_letter b_is_letter .nil pass0 (pa_cons (pv 0) pa_nil))) (pss_one (ps_ret (pe_ix ix_str (pe_txt (by rfl) T.k_LETTERS) (pe_op op_sub (pv 0) (pe_callB call_ord (by rfl) T.b_ord (by decide +kernel) (pa_cons pe_str pa_nil))) (fun _ _ => rfl)))) pss_nil)
      (pss_cons (ps_if (pt_val (pe_call G_is_digit (hr.mono (by decide)) rfl m_is_digit kp_is_digit b_is_digit .nil pass0 (pa_cons (pv 0) pa_nil))) (pss_one (ps_ret (pe_ix ix_str (pe_txt (by rfl) T.k_DIGITS) (pe_op op_sub (pv 0) (pe_callB call_ord (by rfl) T.b_ord (by decide +kernel) (pa_cons pe_str pa_nil))) (fun _ _ => rfl)))) pss_nil)
      (pss_one (ps_ret pe_str)))), ?_⟩)
  obtain ⟨c, rfl, hc, k⟩ := h
  refine st_seqIf (ans_B (evs_letter (evs_of (val_var rfl)))) (fun hb H1 s1 => ?_) fun hb H1 s1 => ?_
  · unfold Vatsld.small at hb
    rw [Bool.and_eq_true, decide_eq_true_eq, decide_eq_true_eq] at hb
    refine st_ret (val_ixS (n := c - 97) (cc := c) (by decide +kernel) ?_ val_c (val_subN (j := 97) hb.1 (val_var rfl) (val_ordC rfl rfl))) (k H1 s1)
    rw [letters_at (c - 97) (by omega)]
    congr 1
    omega
  refine st_seqIf (ans_B (evs_digit (evs_of (val_var rfl)))) (fun hb2 H2 s2 => ?_) fun hb2 H2 s2 => ?_
  · unfold Vatsld.digit at hb2
    rw [Bool.and_eq_true, decide_eq_true_eq, decide_eq_true_eq] at hb2
    refine st_ret (val_ixS (n := c - 48) (cc := c) (by decide +kernel) ?_ val_c (val_subN (j := 48) hb2.1 (val_var rfl) (val_ordC rfl rfl))) (k H2 (s1.trans s2))
    rw [digits_at (c - 48) (by omega)]
    congr 1
    omega
  · have e0 : c = 95 := by
      unfold Vatsld.inner at hc
      rw [hb, hb2] at hc
      simpa using hc
    subst e0
    exact st_ret val_c (k H2 (s1.trans s2))

def sp_characters (A : Ad) : Sp := fun vs H Q _ => ∃ (r : Addr) (t : List Nat), vs = [.ref r] ∧ H r = some (.lst (natsV t)) ∧ (∀ c ∈ t, Vatsld.inner c = true) ∧ t.length ≤ 10000 ∧ ∀ H', Same H H' → Q (.str (strOf t)) H'
/-! ### characters -/
abbrev s_characters : Stmt := top 68
theorem sc_characters : FnScope ["word_bytes", "byte"] ["word_bytes"] (defScope s_characters) := ⟨rfl, rfl, rfl, by decide +kernel, rfl, by decide +kernel, by decide +kernel⟩
theorem ok_characters {f : Addr} {fd : FuncData} (F : Fun K "characters" "characters" s_characters f fd) (T : Txt K mg A)
    (C_character : Cal P w K mg base CX0 2 "character" ["byte"] (sp_character A)) : FnOk P w K mg base CX0 3 f fd ["word_bytes"] (sp_characters A) := by
  obtain ⟨f_character, fd_character, m_character, kp_character, b_character, G_character⟩ := C_character.ex
  refine F.ok sc_characters (fun vs H Q E h => by revert h; first | (rintro ⟨rfl, _⟩; rfl) | (rintro ⟨_, rfl, _⟩; rfl) | (rintro ⟨_, _, rfl, _⟩; rfl) | (rintro ⟨_, _, _, rfl, _⟩; rfl) | (rintro ⟨_, _, _, _, rfl, _⟩; rfl) | (rintro ⟨_, _, _, _, _, rfl, _⟩; rfl) | (rintro ⟨_, _, _, _, _, _, rfl, _⟩; rfl) | (rintro ⟨_, _, _, _, _, _, _, rfl, _⟩; rfl) | (rintro ⟨_, _, _, _, _, _, _, _, rfl, _⟩; rfl) | (rintro ⟨_, _, _, _, _, _, _, _, _, rfl, _⟩; rfl) | (rintro ⟨_, _, _, _, _, _, _, _, _, _, rfl, _⟩; rfl) | (rintro ⟨_, _, _, _, _, _, _, _, _, _, _, rfl, _⟩; rfl)) (fun cdv Ar outer s H vs Q E hr h => ⟨_, 
  (pss_one (ps_ret (pe_join pe_str (pe_lc (own := [("byte", 1)]) (g := gName 1) (tt := tYes) (by rfl) sc_characters.nd (pi_list (pv 0)) (blkOk_by (N := ["word_bytes", "byte"]) (sc := defScope s_characters) (by decide +kernel)) (fun _ _ _ _ _ => pg_name (i := 1) sc_characters.nd rfl (Or.inl rfl)) (fun _ _ _ _ _ => pts_nil) (fun _ _ _ _ _ => (pe_call G_character (hr.mono (by decide)) rfl m_character kp_character b_character .nil pass0 (pa_cons (pv 1) pa_nil))))))), ?_⟩)
  obtain ⟨r, t, rfl, hr', ht, hlen, k⟩ := h
  refine st_retS (v := .str (strOf t)) (fun Q z => ?_) k
  refine ⟨⟨_, rfl⟩, (lc_listS (qq := fun _ => true) (f := fun x => match x with | .int j => .str (strOf [j.toNat]) | _ => .non) (evs_of (val_var rfl)) (SqL.of hr') (small_line (by rw [natsV_len]; omega)) (fun _ _ _ _ _ => ans_yes) fun m x H' hx _ s => ?_ : EvN _ _ _ _) _ fun q H' nq s e => ?_⟩
  · obtain ⟨n, hn, rfl⟩ := natsV_mem hx
    exact evs_call (eva_cons (evs_of (val_var rfl)) fun _ _ => eva_nil) fun H4 _ _ z => ⟨n, rfl, ht n (List.mem_of_getElem? hn), z⟩
  · refine ⟨strOf [], q, t.map fun c => strOf [c], rfl, rfl, .inl (SqL.of ?_), ?_, ?_⟩
    · rw [e, List.filter_eq_self.mpr (by simp)]
      unfold natsV
      rw [List.map_map, List.map_map]
      rfl
    · rw [sum_ones, List.length_map]
      have e2 : (strOf []).length = 0 := rfl
      rw [e2]
      omega
    · rw [join_ones]
      exact z H' s

def sp_is_number (A : Ad) : Sp := fun vs H Q _ => ∃ (ds : List Nat), vs = [.str (strOf ds)] ∧ ds ≠ [] ∧ (∀ c ∈ ds, Vatsld.digit c = true) ∧ ds.length ≤ 10000 ∧ Q (.bl (Vatsld.goodNumber ds)) H
theorem val_digits (ds : List Nat) : PySem.NumText.digitsVal ds = Vatsld.valueIn ds := by
  unfold PySem.NumText.digitsVal Vatsld.valueIn
  congr 1
  funext n c
  rw [Nat.mul_comm]
theorem int_digits {ds : List Nat} (h1 : ds ≠ []) (h2 : ∀ c ∈ ds, Vatsld.digit c = true) (h3 : ds.length ≤ 4300) : PySem.intText? (strOf ds) = some (Vatsld.valueIn ds : Int) := by
  have := PySem.intText_digits (x := strOf ds) (by
    rw [strOf_list]
    intro c hc
    have := h2 c hc
    unfold Vatsld.digit at this
    simpa using this) (by rw [strOf_list]; exact h1) (by rw [strOf_len]; exact h3)
  rw [this, strOf_list, val_digits]
/-! ### is_number -/
abbrev s_is_number : Stmt := top 64
theorem sc_is_number : FnScope ["digits"] ["digits"] (defScope s_is_number) := ⟨rfl, rfl, rfl, by decide +kernel, rfl, by decide +kernel, by decide +kernel⟩
theorem ok_is_number {f : Addr} {fd : FuncData} (F : Fun K "is_number" "is_number" s_is_number f fd) (T : Txt K mg A) : FnOk P w K mg base CX0 1 f fd ["digits"] (sp_is_number A) := by
  refine F.ok sc_is_number (fun vs H Q E h => by revert h; first | (rintro ⟨rfl, _⟩; rfl) | (rintro ⟨_, rfl, _⟩; rfl) | (rintro ⟨_, _, rfl, _⟩; rfl) | (rintro ⟨_, _, _, rfl, _⟩; rfl) | (rintro ⟨_, _, _, _, rfl, _⟩; rfl) | (rintro ⟨_, _, _, _, _, rfl, _⟩; rfl) | (rintro ⟨_, _, _, _, _, _, rfl, _⟩; rfl) | (rintro ⟨_, _, _, _, _, _, _, rfl, _⟩; rfl) | (rintro ⟨_, _, _, _, _, _, _, _, rfl, _⟩; rfl) | (rintro ⟨_, _, _, _, _, _, _, _, _, rfl, _⟩; rfl) | (rintro ⟨_, _, _, _, _, _, _, _, _, _, rfl, _⟩; rfl) | (rintro ⟨_, _, _, _, _, _, _, _, _, _, _, rfl, _⟩; rfl)) (fun cdv Ar outer s H vs Q E hr h => ⟨_, 
  (pss_cons (ps_if (pt_cmpR op_gt (pe_callB call_len_str (by rfl) T.b_len (by decide +kernel) (pa_cons (pv 0) pa_nil)) (pe_num (by rfl) T.k_LONGEST_NUMBER) (nomark _)) (pss_one (ps_ret pe_bl)) pss_nil)
      (pss_cons (ps_if (pt_val (pe_m1 PySem.F.slot_str_startswith PySem.F.type_str_startswith mt_startswith (pv 0) pe_str)) (pss_one (ps_ret (pe_cmpR op_eq (pv 0) pe_str (nomark _)))) pss_nil)
      (pss_one (ps_ret (pe_cmpR op_le (pe_callTy call_int_str (by rfl) T.b_int (by decide +kernel) (pa_cons (pv 0) pa_nil)) (pe_num (by rfl) T.k_GREATEST_NUMBER) (nomark _)))))), ?_⟩)
  obtain ⟨ds, rfl, h1, h2, h3, k⟩ := h
  refine st_seqIfV (ans_gt' (val_lenS (strOf_len ds) (by omega) (val_var rfl)) val_c rfl) (fun hb => ?_) fun hb => ?_
  · refine st_ret val_c ?_
    have e0 : Vatsld.goodNumber ds = false := by
      have : ¬ ds.length ≤ 4 := by have := of_decide_eq_true hb; omega
      unfold Vatsld.goodNumber
      rw [decide_eq_false this, Bool.false_and, Bool.false_and]
    rw [e0] at k
    exact k
  have h4 : ds.length ≤ 4 := by have := of_decide_eq_false hb; omega
  refine st_seqIfV (b := ds.head? == some 48) (val_B (val_eq (val_starts (val_var rfl) val_c) (by rw [str_zero, starts_one]))) (fun hb2 => ?_) fun hb2 => ?_
  · refine st_ret (val_op (z := .bl (decide (V.str (strOf ds) = .str (strOf [48])))) (val_var rfl) val_c fun Q z => ⟨rfl, by rw [str_zero]; exact z⟩) ?_
    have hh : ds.head? = some 48 := by simpa using hb2
    have e0 : decide (V.str (strOf ds) = .str (strOf [48])) = Vatsld.goodNumber ds := by
      cases ds with
      | nil => cases hh
      | cons d r =>
        cases hh
        unfold Vatsld.goodNumber
        have e1 : decide ((48 :: r).length ≤ 4) = true := decide_eq_true h4
        rw [e1, Bool.true_and, Bool.eq_iff_iff, decide_eq_true_iff]
        constructor
        · intro z
          have z2 := strOf_inj.mp (V.str.inj z)
          rw [z2]
          decide
        · intro z
          simp at z
          have : r = [] := z.1
          rw [this]
    rw [e0]
    exact k
  · refine st_ret (val_le (val_intS (int_digits h1 h2 (by omega)) (by rw [strOf_len]; omega) (val_var rfl)) val_c) ?_
    have e0 : decide ((Vatsld.valueIn ds : Int) ≤ 1000) = Vatsld.goodNumber ds := by
      unfold Vatsld.goodNumber
      have hh : (ds.head? != some 48) = true := by
        simp only [bne, hb2, Bool.not_false]
      rw [decide_eq_true h4, hh, Bool.or_true, Bool.true_and, Bool.true_and, Bool.eq_iff_iff, decide_eq_true_iff, decide_eq_true_iff]
      show _ ↔ _ ≤ 1000
      omega
    rw [e0]
    exact k

def sp_remark_end (A : Ad) : Sp := fun vs H Q _ => ∃ (r : Addr) (t : List Nat) (pl : Nat), vs = [.ref r, .int (pl : Int)] ∧ H r = some (.lst (natsV t)) ∧ pl ≤ t.length ∧ Q (.int (scan (fun x => x != 10) t pl : Int)) H
/-! ### remark_end -/
abbrev s_remark_end : Stmt := top 61
theorem sc_remark_end : FnScope ["text", "place"] ["text", "place"] (defScope s_remark_end) := ⟨rfl, rfl, rfl, by decide +kernel, rfl, by decide +kernel, by decide +kernel⟩
theorem ok_remark_end {f : Addr} {fd : FuncData} (F : Fun K "remark_end" "remark_end" s_remark_end f fd) (T : Txt K mg A) : FnOk P w K mg base CX0 1 f fd ["text", "place"] (sp_remark_end A) := by
  refine F.ok sc_remark_end (fun vs H Q E h => by revert h; first | (rintro ⟨rfl, _⟩; rfl) | (rintro ⟨_, rfl, _⟩; rfl) | (rintro ⟨_, _, rfl, _⟩; rfl) | (rintro ⟨_, _, _, rfl, _⟩; rfl) | (rintro ⟨_, _, _, _, rfl, _⟩; rfl) | (rintro ⟨_, _, _, _, _, rfl, _⟩; rfl) | (rintro ⟨_, _, _, _, _, _, rfl, _⟩; rfl) | (rintro ⟨_, _, _, _, _, _, _, rfl, _⟩; rfl) | (rintro ⟨_, _, _, _, _, _, _, _, rfl, _⟩; rfl) | (rintro ⟨_, _, _, _, _, _, _, _, _, rfl, _⟩; rfl) | (rintro ⟨_, _, _, _, _, _, _, _, _, _, rfl, _⟩; rfl) | (rintro ⟨_, _, _, _, _, _, _, _, _, _, _, rfl, _⟩; rfl)) (fun cdv Ar outer s H vs Q E hr h => ⟨_, 
  (pss_cons (ps_while PassesOwn.never (PW.pt (pw_and (pt_cmpR op_lt (pv 1) (pe_callB call_len_seq (by rfl) T.b_len (by decide +kernel) (pa_cons (pv 0) pa_nil)) (nomark _)) (pw_and1 (pt_cmpR op_ne (pe_ix ix_list (pv 0) (pv 1) (fun _ _ => rfl)) (pe_num (by rfl) T.k_LINE_FEED) (nomark _))))) (pss_one (ps_aug (i := 1) sc_remark_end.nd rfl (Or.inl rfl) pe_int ip_add)))
      (pss_one (ps_ret (pv 1)))), ?_⟩)
  obtain ⟨r, t, pl, rfl, hr', hpl, k⟩ := h
  refine st_seqWhile (Pv := fun m σ H' => H' = H ∧ ∃ e : Nat, σ = [some (.ref r), some (.int (e : Int))] ∧ e ≤ t.length ∧ scan (fun x => x != 10) t pl = scan (fun x => x != 10) t e ∧ m = t.length - e) (t.length - pl) ⟨rfl, pl, rfl, hpl, rfl, rfl⟩ ?_
  rintro m σ H' ⟨rfl, e, rfl, he, hs, rfl⟩
  have hlen := val_len (K := K) (σ := [some (.ref r), some (.int (e : Int))]) (SqL.of hr') (natsV_len t) (val_var rfl : Val (tVar 0) _ _ _)
  by_cases hlt : e < t.length
  · obtain ⟨c, hc⟩ : ∃ c, t[e]? = some c := ⟨_, List.getElem?_eq_getElem hlt⟩
    refine ⟨_, ans_and3 (b := true) (c := !decide (V.int (c : Int) = .int 10)) (ans_lt (val_var rfl) hlen (decide_eq_true (by omega))) fun _ => ans_neV (val_ixL (SqL.of hr') (natsV_get hc) (val_var rfl) (val_var rfl)) val_c rfl, fun hb => ?_, fun hb => ?_⟩
    · rw [Bool.true_and, dec_int] at hb
      refine st_aug (f := fun i j => i + j) rfl val_c ⟨t.length - (e + 1), by omega, rfl, e + 1, rfl, by omega, ?_, rfl⟩
      rw [hs]
      refine scan_step hc ?_
      have := of_decide_eq_false (not_t hb)
      simp
      omega
    · rw [Bool.true_and, dec_int] at hb
      refine st_ret (val_var rfl) ?_
      rw [hs] at k
      have e1 : scan (fun x => x != 10) t e = e := scan_stop fun c' hc' => by
        rw [hc] at hc'
        cases hc'
        have := of_decide_eq_true (not_f hb)
        simp
        omega
      rw [e1] at k
      exact k
  · have e2 : e = t.length := by omega
    refine ⟨_, ans_and0 (ans_lt (val_var rfl) hlen (decide_eq_false (by omega))), (fun hb => nomatch hb), fun _ => ?_⟩
    refine st_ret (val_var rfl) ?_
    rw [hs] at k
    have e1 : scan (fun x => x != 10) t e = e := scan_stop fun c' hc' => by have := at_lt hc'; omega
    rw [e1] at k
    exact k

def sp_skip_gaps (A : Ad) : Sp := fun vs H Q _ => ∃ (r : Addr) (t : List Nat) (pl : Nat), vs = [.ref r, .int (pl : Int)] ∧ H r = some (.lst (natsV t)) ∧ pl ≤ t.length ∧
  ∀ st : Nat, st ≤ t.length → tk t st = tk t pl → (∀ c, t[st]? = some c → Vatsld.blank c = false ∧ (c == 35) = false) → ∀ H', Same H H' → Q (.int (st : Int)) H'
theorem inV_gaps (c : Nat) : inV (.int (c : Int)) [.int 9, .int 10, .int 13, .int 32] = Vatsld.blank c := by
  show (((9 : Int) == (c : Int)) || (((10 : Int) == (c : Int)) || (((13 : Int) == (c : Int)) || (((32 : Int) == (c : Int)) || false)))) = Vatsld.blank c
  unfold Vatsld.blank
  rw [Bool.eq_iff_iff]
  simp
  omega
/-! ### skip_gaps -/
abbrev s_skip_gaps : Stmt := top 60
theorem sc_skip_gaps : FnScope ["text", "place"] ["text", "place"] (defScope s_skip_gaps) := ⟨rfl, rfl, rfl, by decide +kernel, rfl, by decide +kernel, by decide +kernel⟩
theorem ok_skip_gaps {f : Addr} {fd : FuncData} (F : Fun K "skip_gaps" "skip_gaps" s_skip_gaps f fd) (T : Txt K mg A)
    (C_remark_end : Cal P w K mg base CX0 1 "remark_end" ["text", "place"] (sp_remark_end A)) : FnOk P w K mg base CX0 2 f fd ["text", "place"] (sp_skip_gaps A) := by
  obtain ⟨f_remark_end, fd_remark_end, m_remark_end, kp_remark_end, b_remark_end, G_remark_end⟩ := C_remark_end.ex
  refine F.ok sc_skip_gaps (fun vs H Q E h => by revert h; first | (rintro ⟨rfl, _⟩; rfl) | (rintro ⟨_, rfl, _⟩; rfl) | (rintro ⟨_, _, rfl, _⟩; rfl) | (rintro ⟨_, _, _, rfl, _⟩; rfl) | (rintro ⟨_, _, _, _, rfl, _⟩; rfl) | (rintro ⟨_, _, _, _, _, rfl, _⟩; rfl) | (rintro ⟨_, _, _, _, _, _, rfl, _⟩; rfl) | (rintro ⟨_, _, _, _, _, _, _, rfl, _⟩; rfl) | (rintro ⟨_, _, _, _, _, _, _, _, rfl, _⟩; rfl) | (rintro ⟨_, _, _, _, _, _, _, _, _, rfl, _⟩; rfl) | (rintro ⟨_, _, _, _, _, _, _, _, _, _, rfl, _⟩; rfl) | (rintro ⟨_, _, _, _, _, _, _, _, _, _, _, rfl, _⟩; rfl)) (fun cdv Ar outer s H vs Q E hr h => ⟨_, 
  (pss_cons (ps_while PassesOwn.never (pt_cmpR op_lt (pv 1) (pe_callB call_len_seq (by rfl) T.b_len (by decide +kernel) (pa_cons (pv 0) pa_nil)) (nomark _)) (pss_one (ps_if (pt_cmpR op_in_seq (pe_ix ix_list (pv 0) (pv 1) (fun _ _ => rfl)) (pe_gref (by rfl) T.k_GAPS) (by rfl)) (pss_one (ps_aug (i := 1) sc_skip_gaps.nd rfl (Or.inl rfl) pe_int ip_add)) (pss_one (ps_if (pt_cmpR op_eq (pe_ix ix_list (pv 0) (pv 1) (fun _ _ => rfl)) (pe_callB call_ord (by rfl) T.b_ord (by decide +kernel) (pa_cons pe_str pa_nil)) (nomark _)) (pss_one (ps_set (i := 1) sc_skip_gaps.nd rfl (Or.inl rfl) (pe_call G_remark_end (hr.mono (by decide)) rfl m_remark_end kp_remark_end b_remark_end .nil pass0 (pa_cons (pv 0) (pa_cons (pv 1) pa_nil))))) (pss_one (ps_ret (pv 1))))))))
      (pss_one (ps_ret (pv 1)))), ?_⟩)
  obtain ⟨r, t, pl, rfl, hr', hpl, k⟩ := h
  refine st_seqWhileT (Pv := fun m σ H' => Same H H' ∧ ∃ e : Nat, σ = [some (.ref r), some (.int (e : Int))] ∧ e ≤ t.length ∧ tk t e = tk t pl ∧ m = t.length - e) (t.length - pl) ⟨Same.refl _, pl, rfl, hpl, rfl, rfl⟩ ?_
  rintro m σ H' ⟨s1, e, rfl, he, hs, rfl⟩
  have hr1 := s1 _ _ hr'
  have hlen := val_len (K := K) (σ := [some (.ref r), some (.int (e : Int))]) (SqL.of hr1) (natsV_len t) (val_var rfl : Val (tVar 0) _ _ _)
  refine ⟨decide ((e : Int) < (t.length : Int)), ans_of (ans_lt (val_var rfl) hlen rfl), fun hb H1 s2 => ?_, fun hb H1 s2 => ?_⟩
  · have hlt : e < t.length := by have := of_decide_eq_true hb; omega
    obtain ⟨c, hc⟩ : ∃ c, t[e]? = some c := ⟨_, List.getElem?_eq_getElem hlt⟩
    have hr2 := s2 _ _ hr1
    have hget : ∀ {H2 : Hp}, Same H1 H2 → Val (tOp (rIxL K) (tVar 0) (tVar 1)) [some (.ref r), some (.int (e : Int))] H2 (.int (c : Int)) := fun s => val_ixL (SqL.of (s _ _ hr2)) (natsV_get hc) (val_var rfl) (val_var rfl)
    refine st_ifS (b := Vatsld.blank c) (ans_of (val_test (val_op (hget (Same.refl _)) val_c fun Q z => ⟨A.tGaps, _, rfl, .inr (T.t_GAPS H1), rfl, rfl, by rw [inV_gaps]; exact z⟩))) (fun hb2 H2 s3 => ?_) fun hb2 H2 s3 => ?_
    · refine st_aug (f := fun i j => i + j) rfl val_c ⟨t.length - (e + 1), by omega, s1.trans (s2.trans s3), e + 1, rfl, by omega, ?_, rfl⟩
      rw [← hs, tk_step hc, if_pos hb2]
    · refine st_ifS (b := decide (V.int (c : Int) = .int 35)) (ans_of (ans_eqV (hget s3) (val_ordC rfl rfl) rfl)) (fun hb3 H3 s4 => ?_) fun hb3 H3 s4 => ?_
      · rw [dec_int] at hb3
        have hc35 : c = 35 := by have := of_decide_eq_true hb3; omega
        refine st_setS (v := .int (scan (fun x => x != 10) t e : Int)) (evs_call (eva_cons (evs_of (val_var rfl)) fun _ _ => eva_cons (evs_of (val_var rfl)) fun _ _ => eva_nil) fun H5 s5 Q z => ?_) fun H5 s5 => ?_
        · exact ⟨r, t, e, rfl, s5 _ _ (s4 _ _ (s3 _ _ hr2)), he, z H5 (Same.refl _)⟩
        · have e1 : scan (fun x => x != 10) t e = scan (fun x => x != 10) t (e + 1) := scan_step hc (by rw [hc35]; rfl)
          have e2 := scan_ge (fun x => x != 10) t (e + 1)
          have e3 := scan_le (fun x => x != 10) t e he
          refine ⟨t.length - scan (fun x => x != 10) t e, by omega, s1.trans (s2.trans (s3.trans (s4.trans s5))), scan (fun x => x != 10) t e, rfl, e3, ?_, rfl⟩
          rw [← hs, tk_step hc, hb2, if_neg Bool.false_ne_true, if_pos (by rw [hc35]; rfl), e1]
      · rw [dec_int] at hb3
        have hc35 : c ≠ 35 := by have := of_decide_eq_false hb3; omega
        refine st_ret (val_var rfl) (k e he hs (fun c' hc' => ?_) H3 (s1.trans (s2.trans (s3.trans s4))))
        rw [hc] at hc'
        cases hc'
        exact ⟨hb2, by simpa using hc35⟩
  · have e2 : e = t.length := by have := of_decide_eq_false hb; omega
    exact st_ret (val_var rfl) (k e he hs (fun c' hc' => by have := at_lt hc'; omega) H1 (s1.trans s2))
end
end Tp
namespace Tp
open PySem PySem.Spec PyProof.Rows L2
section
variable {P : Program} {w : World} {K : PySem.W.Frag} {mg : Str → Option Value} {base : Heap} {A : Ad}
/-! ### tokens as objects -/
def kindS : Vatsld.Tok → Str
  | .word _ => "word"
  | .num _ => "number"
  | .sign _ => "sign"
  | .over => "end"
  | .bad _ => ""
/-- how a token is written -/
def Wr : Vatsld.Tok → List Nat → Prop
  | .word v, w => w = v ∧ ∃ c r, v = c :: r ∧ Vatsld.small c = true
  | .num n, w => w ≠ [] ∧ (∀ c ∈ w, Vatsld.digit c = true) ∧ w.length ≤ 4 ∧ Vatsld.valueIn w = n
  | .sign c, w => w = [c] ∧ (c = 44 ∨ c = 59)
  | .over, w => w = []
  | .bad _, _ => False
def tokF (k : Str) (w : List Nat) (p : Nat) : List (Str × V) := [("kind", .str k), ("written", .str (strOf w)), ("place", .int (p : Int))]
def TokAt (A : Ad) (H : Hp) (q : Addr) (x : Nat × Vatsld.Tok) (w : List Nat) : Prop := ∃ dx, H q = some (.ins A.cToken dx (tokF (kindS x.2) w x.1))
theorem TokAt.mono {A : Ad} {H H' : Hp} {q : Addr} {x : Nat × Vatsld.Tok} {w : List Nat} (s : Same H H') (h : TokAt A H q x w) : TokAt A H' q x w := let ⟨dx, e⟩ := h; ⟨dx, s _ _ e⟩
theorem tokF_kind (k : Str) (w : List Nat) (p : Nat) : (tokF k w p).lookup ("kind" : Str) = some (.str k) := lk_here
theorem tokF_written (k : Str) (w : List Nat) (p : Nat) : (tokF k w p).lookup ("written" : Str) = some (.str (strOf w)) := (lk_past (by decide +kernel)).trans lk_here
theorem tokF_place (k : Str) (w : List Nat) (p : Nat) : (tokF k w p).lookup ("place" : Str) = some (.int (p : Int)) := (lk_past (by decide +kernel)).trans ((lk_past (by decide +kernel)).trans lk_here)

/-! ### Fault.__init__ -/
abbrev s_Fault_init : Stmt := inClass (top 24) 0
theorem sc_Fault_init : FnScope ["self", "kind", "place"] ["self", "kind", "place"] (defScope s_Fault_init) := ⟨rfl, rfl, rfl, by decide +kernel, rfl, by decide +kernel, by decide +kernel⟩
theorem ok_Fault_init {f : Addr} {fd : FuncData} (F : Fun K "__init__" "Fault.__init__" s_Fault_init f fd) (T : Txt K mg A) (TF : TxF K mg A) : FnOk P w K mg base CX0 1 f fd ["self", "kind", "place"] (sp_Fault_init A) := by
  refine F.ok sc_Fault_init (fun vs H Q E h => by revert h; first | (rintro ⟨rfl, _⟩; rfl) | (rintro ⟨_, rfl, _⟩; rfl) | (rintro ⟨_, _, rfl, _⟩; rfl) | (rintro ⟨_, _, _, rfl, _⟩; rfl) | (rintro ⟨_, _, _, _, rfl, _⟩; rfl) | (rintro ⟨_, _, _, _, _, rfl, _⟩; rfl) | (rintro ⟨_, _, _, _, _, _, rfl, _⟩; rfl) | (rintro ⟨_, _, _, _, _, _, _, rfl, _⟩; rfl) | (rintro ⟨_, _, _, _, _, _, _, _, rfl, _⟩; rfl) | (rintro ⟨_, _, _, _, _, _, _, _, _, rfl, _⟩; rfl) | (rintro ⟨_, _, _, _, _, _, _, _, _, _, rfl, _⟩; rfl) | (rintro ⟨_, _, _, _, _, _, _, _, _, _, _, rfl, _⟩; rfl)) (fun cdv Ar outer s H vs Q E hr h => ⟨_, 
  (pss_cons (ps_expr (pe_fx0 (by rfl) TF.b TF.fi (pa_cons (pv 0) (pa_cons (pv 1) (pa_cons (pv 2) pa_nil)))))
      (pss_cons (ps_fx (pv 0) (pv 1))
      (pss_one (ps_fx (pv 0) (pv 2))))), ?_⟩)
  obtain ⟨a, k, p, rfl, ha, z⟩ := h
  refine ⟨_, rfl, _, rfl, _, rfl, ?_⟩
  refine ⟨a, A.cFault, _, rfl, by simp, TF.fx, ha, ?_⟩
  refine ⟨_, rfl, _, rfl, a, A.cFault, rfl, TF.fx, TF.nk, .inl ⟨ha, fun d hd hne => ?_⟩⟩
  refine ⟨_, rfl, _, rfl, a, A.cFault, rfl, TF.fx, TF.np, .inr ⟨d, _, upd_same, (upd_ne hne).trans upd_same, by simp, ?_⟩⟩
  refine z d _ hd (fun b o hb e => ?_) ?_ upd_same
  · rw [upd_ne (ne_of_none e hd), upd_ne hb, upd_ne (ne_of_none e hd)]
    exact e
  · rw [upd_ne (Ne.symm hne)]
    exact upd_same

def sp_Token_init (A : Ad) : Sp := fun vs H Q _ => ∃ (x dx : Addr) (k : Str) (w : List Nat) (p : Nat), vs = [.ref x, .str k, .str (strOf w), .int (p : Int)] ∧ H x = some (.ins A.cToken dx []) ∧
  ∀ H', (∀ b o, b ≠ x → H b = some o → H' b = some o) → H' x = some (.ins A.cToken dx (tokF k w p)) → Q .non H'
/-! ### Token.__init__ -/
abbrev s_Token_init : Stmt := inClass (top 58) 0
theorem sc_Token_init : FnScope ["self", "kind", "written", "place"] ["self", "kind", "written", "place"] (defScope s_Token_init) := ⟨rfl, rfl, rfl, by decide +kernel, rfl, by decide +kernel, by decide +kernel⟩
theorem ok_Token_init {f : Addr} {fd : FuncData} (F : Fun K "__init__" "Token.__init__" s_Token_init f fd) (T : Txt K mg A) : FnOk P w K mg base CX0 1 f fd ["self", "kind", "written", "place"] (sp_Token_init A) := by
  refine F.ok sc_Token_init (fun vs H Q E h => by revert h; first | (rintro ⟨rfl, _⟩; rfl) | (rintro ⟨_, rfl, _⟩; rfl) | (rintro ⟨_, _, rfl, _⟩; rfl) | (rintro ⟨_, _, _, rfl, _⟩; rfl) | (rintro ⟨_, _, _, _, rfl, _⟩; rfl) | (rintro ⟨_, _, _, _, _, rfl, _⟩; rfl) | (rintro ⟨_, _, _, _, _, _, rfl, _⟩; rfl) | (rintro ⟨_, _, _, _, _, _, _, rfl, _⟩; rfl) | (rintro ⟨_, _, _, _, _, _, _, _, rfl, _⟩; rfl) | (rintro ⟨_, _, _, _, _, _, _, _, _, rfl, _⟩; rfl) | (rintro ⟨_, _, _, _, _, _, _, _, _, _, rfl, _⟩; rfl) | (rintro ⟨_, _, _, _, _, _, _, _, _, _, _, rfl, _⟩; rfl)) (fun cdv Ar outer s H vs Q E hr h => ⟨_, 
  (pss_cons (ps_fld (pv 0) (pv 1) rfl)
      (pss_cons (ps_fld (pv 0) (pv 2) rfl)
      (pss_one (ps_fld (pv 0) (pv 3) rfl)))), ?_⟩)
  obtain ⟨x, dx, k, w, p, rfl, hx, z⟩ := h
  refine st_fld (val_var rfl) (val_var rfl) hx T.cToken T.n_Token_kind (by simp) ?_
  refine st_fld (val_var rfl) (val_var rfl) upd_same T.cToken T.n_Token_written (by show 1 < 1000; decide) ?_
  refine st_fld (val_var rfl) (val_var rfl) upd_same T.cToken T.n_Token_place (by show 2 < 1000; decide) ?_
  refine z _ (fun b o hb e => ?_) ?_
  · rw [upd_ne hb, upd_ne hb, upd_ne hb]
    exact e
  · refine upd_same.trans (congrArg (fun q => some (HO.ins A.cToken dx q)) ?_)
    show putF "place" _ (putF "written" _ [(("kind" : Str), V.str k)]) = tokF k w p
    rw [put2 (by decide +kernel), put3 (by decide +kernel) (by decide +kernel)]
    rfl
theorem evp_token {σ : L2.St} {H : Hp} {E : XK} {ta : TA} {k : Str} {w : List Nat} {x : Nat × Vatsld.Tok} (h : EvA ta σ H [.str k, .str (strOf w), .int (x.1 : Int)]) (e : k = kindS x.2) :
    EvP (tMake A.cToken (sp_Token_init A) [] E ta) σ H (fun q H' => TokAt A H' q x w) := fun Q z =>
  evp_make (fs := tokF k w x.1) h (fun q dx H1 _ Q z => ⟨q, dx, k, w, x.1, rfl, upd_same, fun H2 h1 h2 => z H2 h1 h2⟩) Q fun p H' n s ⟨dx, h2⟩ => z p H' n s ⟨dx, by rw [← e]; exact h2⟩

/-- what a scan of a word or number makes of it -/
def sp_word_at (A : Ad) : Sp := fun vs H Q E => ∃ (r : Addr) (t : List Nat) (pl c : Nat), vs = [.ref r, .int (pl : Int)] ∧ H r = some (.lst (natsV t)) ∧ t.length ≤ 5000 ∧ t[pl]? = some c ∧ Vatsld.small c = true ∧
  (12 < ((t.drop pl).takeWhile Vatsld.inner).length → Thrown A H E (2, pl)) ∧
  (¬ 12 < ((t.drop pl).takeWhile Vatsld.inner).length → ∀ q H', H q = none → Same H H' → TokAt A H' q (pl, .word ((t.drop pl).takeWhile Vatsld.inner)) ((t.drop pl).takeWhile Vatsld.inner) → Q (.ref q) H')
theorem take_all {q : Nat → Bool} {l : List Nat} {c : Nat} (h : c ∈ l.takeWhile q) : q c = true := by
  have := List.all_takeWhile (p := q) (l := l)
  rw [List.all_eq_true] at this
  exact this c h
/-! ### word_at -/
abbrev s_word_at : Stmt := top 62
theorem sc_word_at : FnScope ["text", "place", "end"] ["text", "place"] (defScope s_word_at) := ⟨rfl, rfl, rfl, by decide +kernel, rfl, by decide +kernel, by decide +kernel⟩
theorem ok_word_at {f : Addr} {fd : FuncData} (F : Fun K "word_at" "word_at" s_word_at f fd) (T : Txt K mg A) (TF : TxF K mg A)
    (C_Token_init : CalI P w K mg base CX0 1 A.cToken ["self", "kind", "written", "place"] (sp_Token_init A))
    (C_characters : Cal P w K mg base CX0 3 "characters" ["word_bytes"] (sp_characters A))
    (C_Fault_init : CalF P w K mg base A.cFault (sp_Fault_init A))
    (C_is_word_byte : Cal P w K mg base CX0 2 "is_word_byte" ["byte"] (sp_is_word_byte A)) : FnOk P w K mg base (L2.CX P w) 4 f fd ["text", "place"] (sp_word_at A) := by
  obtain ⟨f_Token, fd_Token, M_Token, b_Token, G_Token⟩ := C_Token_init.ex
  obtain ⟨f_characters, fd_characters, m_characters, kp_characters, b_characters, G_characters⟩ := C_characters.ex
  obtain ⟨f_Fault, fd_Fault, i_Fault, t_Fault, b_Fault, G_Fault⟩ := C_Fault_init.ex
  obtain ⟨f_is_word_byte, fd_is_word_byte, m_is_word_byte, kp_is_word_byte, b_is_word_byte, G_is_word_byte⟩ := C_is_word_byte.ex
  refine F.okX sc_word_at (fun vs H Q E h => by revert h; first | (rintro ⟨rfl, _⟩; rfl) | (rintro ⟨_, rfl, _⟩; rfl) | (rintro ⟨_, _, rfl, _⟩; rfl) | (rintro ⟨_, _, _, rfl, _⟩; rfl) | (rintro ⟨_, _, _, _, rfl, _⟩; rfl) | (rintro ⟨_, _, _, _, _, rfl, _⟩; rfl) | (rintro ⟨_, _, _, _, _, _, rfl, _⟩; rfl) | (rintro ⟨_, _, _, _, _, _, _, rfl, _⟩; rfl) | (rintro ⟨_, _, _, _, _, _, _, _, rfl, _⟩; rfl) | (rintro ⟨_, _, _, _, _, _, _, _, _, rfl, _⟩; rfl) | (rintro ⟨_, _, _, _, _, _, _, _, _, _, rfl, _⟩; rfl) | (rintro ⟨_, _, _, _, _, _, _, _, _, _, _, rfl, _⟩; rfl)) (fun cdv Ar outer s H vs Q E hr h => ⟨_, 
  (pss_cons (ps_set (i := 2) sc_word_at.nd rfl (Or.inl rfl) (pv 1))
      (pss_cons (ps_while (passes_of rfl) (PW.pt (pw_and (pt_cmpR op_lt (pv 2) (pe_callB call_len_seq (by rfl) T.b_len (by decide +kernel) (pa_cons (pv 0) pa_nil)) (nomark _)) (pw_and1 (pt_val (pe_call G_is_word_byte (hr.mono (by decide)) rfl m_is_word_byte kp_is_word_byte b_is_word_byte .nil pass0 (pa_cons (pe_ix ix_list (pv 0) (pv 2) (fun _ _ => rfl)) pa_nil)))))) (pss_one (ps_aug (i := 2) sc_word_at.nd rfl (Or.inl rfl) pe_int ip_add)))
      (pss_cons (ps_if (pt_cmpR op_gt (pe_op op_sub (pv 2) (pv 1)) (pe_num (by rfl) T.k_LONGEST_WORD) (nomark _)) (pss_one (ps_raise rfl (takes_of rfl rfl rfl rfl) (pmk_fx TF.fx i_Fault t_Fault G_Fault (hr.mono (by decide)) b_Fault pass0 rfl TF.g (pa_cons (pe_num (by rfl) T.k_BAD_TOKEN) (pa_cons (pv 1) pa_nil))))) pss_nil)
      (pss_one (ps_ret (pe_make M_Token G_Token (hr.mono (by decide)) rfl T.g_Token b_Token .nil pass0 (pa_cons (pe_txt (by rfl) T.k_WORD) (pa_cons (pe_call G_characters (hr.mono (by decide)) rfl m_characters kp_characters b_characters .nil pass0 (pa_cons (pe_slice sl_list (pv 0) (po_some (pv 1)) (po_some (pv 2))) pa_nil)) (pa_cons (pv 1) pa_nil))))))))), ?_⟩)
  obtain ⟨r, t, pl, c, rfl, hr', htl, hc, hsm, kF, kQ⟩ := h
  have hpl := at_lt hc
  obtain ⟨W, hW⟩ : ∃ W, W = (t.drop pl).takeWhile Vatsld.inner := ⟨_, rfl⟩
  rw [← hW] at kF kQ
  have hend : scan Vatsld.inner t pl = pl + W.length := by rw [hW]; rfl
  have hWl : W.length ≤ t.length := by rw [hW]; exact Nat.le_trans (takeWhile_len _ _) (by rw [List.length_drop]; omega)
  refine st_seqSet (val_var rfl) ?_
  refine st_seqWhileT (Pv := fun m σ H' => Same H H' ∧ ∃ e : Nat, σ = [some (.ref r), some (.int (pl : Int)), some (.int (e : Int))] ∧ e ≤ t.length ∧ scan Vatsld.inner t pl = scan Vatsld.inner t e ∧ m = t.length - e) (t.length - pl) ⟨Same.refl _, pl, rfl, by omega, rfl, rfl⟩ ?_
  rintro m σ H' ⟨s1, e, rfl, he, hs, rfl⟩
  have hr1 := s1 _ _ hr'
  have key : scan Vatsld.inner t e = e → ∀ H1, Same H' H1 → Same H H1 ∧ pl + W.length = e := fun heq H1 s2 => ⟨s1.trans s2, by rw [← hs, hend] at heq; exact heq⟩
  refine ⟨decide ((e : Int) < (t.length : Int)) && (t[e]?).any Vatsld.inner, ans_andS (ans_of (ans_lt (val_var rfl) (val_len (SqL.of hr1) (natsV_len t) (val_var rfl)) rfl)) fun hb H1 s2 => ?_, fun hb H1 s2 => ?_, fun hb H1 s2 => ?_⟩
  · obtain ⟨d, hd⟩ : ∃ d, t[e]? = some d := ⟨_, List.getElem?_eq_getElem (by have := of_decide_eq_true hb; omega)⟩
    rw [hd]
    refine ans_B (evs_call (eva_cons (evs_of (val_ixL (SqL.of (s2 _ _ hr1)) (natsV_get hd) (val_var rfl) (val_var rfl))) fun _ _ => eva_nil) fun H4 s4 Q z => ⟨d, rfl, z⟩)
  · rw [Bool.and_eq_true] at hb
    have hlt : e < t.length := by have := of_decide_eq_true hb.1; omega
    obtain ⟨d, hd⟩ : ∃ d, t[e]? = some d := ⟨_, List.getElem?_eq_getElem hlt⟩
    rw [hd] at hb
    refine st_aug (f := fun i j => i + j) rfl val_c ⟨t.length - (e + 1), by omega, s1.trans s2, e + 1, rfl, by omega, ?_, rfl⟩
    rw [hs]
    exact scan_step hd hb.2
  · have hst : scan Vatsld.inner t e = e := scan_stop fun d hd => by
      rw [hd] at hb
      have hlt := at_lt hd
      rw [decide_eq_true (by omega : (e : Int) < (t.length : Int)), Bool.true_and] at hb
      exact hb
    obtain ⟨sH, he2⟩ := key hst H1 s2
    refine st_seqIfV (ans_gt' (i := ((e : Int) - (pl : Int))) (val_I0 (g := fun i j => .int (i - j)) (val_var rfl) (val_var rfl)) val_c rfl) (fun hb2 => ?_) fun hb2 => ?_
    · have : 12 < W.length := by have := of_decide_eq_true hb2; omega
      exact st_fault (D := {nx := fun _ _ => True, rt := fun _ _ => True}) (eva_cons (evs_of val_c) fun _ _ => eva_cons (evs_of (val_var rfl)) fun _ _ => eva_nil) ((kF this).mono sH)
    · have hle : ¬ 12 < W.length := by have := of_decide_eq_false hb2; omega
      have hcut : ((natsV t).drop pl).take (e - pl) = natsV W := by
        rw [natsV_take, hW, ← scan_take, hend, he2]
      refine st_retP (evp_token (x := (pl, .word W)) (w := W) (k := "word") (eva_cons (evs_of val_c) fun H2 s3 => eva_cons (evs_call1N (evn_slice (i := pl) (j := e) (SqL.of (s3 _ _ (sH _ _ hr'))) (val_var rfl) (val_var rfl) (val_var rfl) (by rw [natsV_len]; exact he) (by omega)) fun q H3 s4 f3 Q z => ?_) fun H3 s4 => eva_cons (evs_of (val_var rfl)) fun _ _ => eva_nil) rfl) fun q H2 n s3 h3 => kQ hle q H2 (sH.free n) (sH.trans s3) h3
      refine ⟨q, W, rfl, by rw [f3, hcut], fun c hc => ?_, by omega, z⟩
      rw [hW] at hc
      exact take_all hc

def sp_number_at (A : Ad) : Sp := fun vs H Q E => ∃ (r : Addr) (t : List Nat) (pl c : Nat), vs = [.ref r, .int (pl : Int)] ∧ H r = some (.lst (natsV t)) ∧ t.length ≤ 5000 ∧ t[pl]? = some c ∧ Vatsld.digit c = true ∧
  (Vatsld.goodNumber ((t.drop pl).takeWhile Vatsld.digit) = false → Thrown A H E (2, pl)) ∧
  (Vatsld.goodNumber ((t.drop pl).takeWhile Vatsld.digit) = true → ∀ q H', H q = none → Same H H' → TokAt A H' q (pl, .num (Vatsld.valueIn ((t.drop pl).takeWhile Vatsld.digit))) ((t.drop pl).takeWhile Vatsld.digit) → Q (.ref q) H')
theorem digit_inner {c : Nat} (h : Vatsld.digit c = true) : Vatsld.inner c = true := by
  unfold Vatsld.inner
  rw [h]
  simp
/-! ### number_at -/
abbrev s_number_at : Stmt := top 63
theorem sc_number_at : FnScope ["text", "place", "end", "digits"] ["text", "place"] (defScope s_number_at) := ⟨rfl, rfl, rfl, by decide +kernel, rfl, by decide +kernel, by decide +kernel⟩
theorem ok_number_at {f : Addr} {fd : FuncData} (F : Fun K "number_at" "number_at" s_number_at f fd) (T : Txt K mg A) (TF : TxF K mg A)
    (C_Token_init : CalI P w K mg base CX0 1 A.cToken ["self", "kind", "written", "place"] (sp_Token_init A))
    (C_is_number : Cal P w K mg base CX0 1 "is_number" ["digits"] (sp_is_number A))
    (C_Fault_init : CalF P w K mg base A.cFault (sp_Fault_init A))
    (C_characters : Cal P w K mg base CX0 3 "characters" ["word_bytes"] (sp_characters A))
    (C_is_digit : Cal P w K mg base CX0 1 "is_digit" ["byte"] (sp_is_digit A)) : FnOk P w K mg base (L2.CX P w) 4 f fd ["text", "place"] (sp_number_at A) := by
  obtain ⟨f_Token, fd_Token, M_Token, b_Token, G_Token⟩ := C_Token_init.ex
  obtain ⟨f_is_number, fd_is_number, m_is_number, kp_is_number, b_is_number, G_is_number⟩ := C_is_number.ex
  obtain ⟨f_Fault, fd_Fault, i_Fault, t_Fault, b_Fault, G_Fault⟩ := C_Fault_init.ex
  obtain ⟨f_characters, fd_characters, m_characters, kp_characters, b_characters, G_characters⟩ := C_characters.ex
  obtain ⟨f_is_digit, fd_is_digit, m_is_digit, kp_is_digit, b_is_digit, G_is_digit⟩ := C_is_digit.ex
  refine F.okX sc_number_at (fun vs H Q E h => by revert h; first | (rintro ⟨rfl, _⟩; rfl) | (rintro ⟨_, rfl, _⟩; rfl) | (rintro ⟨_, _, rfl, _⟩; rfl) | (rintro ⟨_, _, _, rfl, _⟩; rfl) | (rintro ⟨_, _, _, _, rfl, _⟩; rfl) | (rintro ⟨_, _, _, _, _, rfl, _⟩; rfl) | (rintro ⟨_, _, _, _, _, _, rfl, _⟩; rfl) | (rintro ⟨_, _, _, _, _, _, _, rfl, _⟩; rfl) | (rintro ⟨_, _, _, _, _, _, _, _, rfl, _⟩; rfl) | (rintro ⟨_, _, _, _, _, _, _, _, _, rfl, _⟩; rfl) | (rintro ⟨_, _, _, _, _, _, _, _, _, _, rfl, _⟩; rfl) | (rintro ⟨_, _, _, _, _, _, _, _, _, _, _, rfl, _⟩; rfl)) (fun cdv Ar outer s H vs Q E hr h => ⟨_, 
  (pss_cons (ps_set (i := 2) sc_number_at.nd rfl (Or.inl rfl) (pv 1))
      (pss_cons (ps_while (passes_of rfl) (PW.pt (pw_and (pt_cmpR op_lt (pv 2) (pe_callB call_len_seq (by rfl) T.b_len (by decide +kernel) (pa_cons (pv 0) pa_nil)) (nomark _)) (pw_and1 (pt_val (pe_call G_is_digit (hr.mono (by decide)) rfl m_is_digit kp_is_digit b_is_digit .nil pass0 (pa_cons (pe_ix ix_list (pv 0) (pv 2) (fun _ _ => rfl)) pa_nil)))))) (pss_one (ps_aug (i := 2) sc_number_at.nd rfl (Or.inl rfl) pe_int ip_add)))
      (pss_cons (ps_set (i := 3) sc_number_at.nd rfl (Or.inl rfl) (pe_call G_characters (hr.mono (by decide)) rfl m_characters kp_characters b_characters .nil pass0 (pa_cons (pe_slice sl_list (pv 0) (po_some (pv 1)) (po_some (pv 2))) pa_nil)))
      (pss_cons (ps_if (pt_not (pt_val (pe_call G_is_number (hr.mono (by decide)) rfl m_is_number kp_is_number b_is_number .nil pass0 (pa_cons (pv 3) pa_nil)))) (pss_one (ps_raise rfl (takes_of rfl rfl rfl rfl) (pmk_fx TF.fx i_Fault t_Fault G_Fault (hr.mono (by decide)) b_Fault pass0 rfl TF.g (pa_cons (pe_num (by rfl) T.k_BAD_TOKEN) (pa_cons (pv 1) pa_nil))))) pss_nil)
      (pss_one (ps_ret (pe_make M_Token G_Token (hr.mono (by decide)) rfl T.g_Token b_Token .nil pass0 (pa_cons (pe_txt (by rfl) T.k_NUMBER) (pa_cons (pv 3) (pa_cons (pv 1) pa_nil)))))))))), ?_⟩)
  obtain ⟨r, t, pl, c, rfl, hr', htl, hc, hsm, kF, kQ⟩ := h
  have hpl := at_lt hc
  obtain ⟨W, hW⟩ : ∃ W, W = (t.drop pl).takeWhile Vatsld.digit := ⟨_, rfl⟩
  rw [← hW] at kF kQ
  have hend : scan Vatsld.digit t pl = pl + W.length := by rw [hW]; rfl
  have hWl : W.length ≤ t.length := by rw [hW]; exact Nat.le_trans (takeWhile_len _ _) (by rw [List.length_drop]; omega)
  have hWd : ∀ c ∈ W, Vatsld.digit c = true := fun c hc => by rw [hW] at hc; exact take_all hc
  have hWn : W ≠ [] := by rw [hW, drop_at hc, List.takeWhile_cons, hsm]; simp
  refine st_seqSet (val_var rfl) ?_
  refine st_seqWhileT (Pv := fun m σ H' => Same H H' ∧ ∃ e : Nat, σ = [some (.ref r), some (.int (pl : Int)), some (.int (e : Int)), none] ∧ e ≤ t.length ∧ scan Vatsld.digit t pl = scan Vatsld.digit t e ∧ m = t.length - e) (t.length - pl) ⟨Same.refl _, pl, rfl, by omega, rfl, rfl⟩ ?_
  rintro m σ H' ⟨s1, e, rfl, he, hs, rfl⟩
  have hr1 := s1 _ _ hr'
  have key : scan Vatsld.digit t e = e → ∀ H1, Same H' H1 → Same H H1 ∧ pl + W.length = e := fun heq H1 s2 => ⟨s1.trans s2, by rw [← hs, hend] at heq; exact heq⟩
  refine ⟨decide ((e : Int) < (t.length : Int)) && (t[e]?).any Vatsld.digit, ans_andS (ans_of (ans_lt (val_var rfl) (val_len (SqL.of hr1) (natsV_len t) (val_var rfl)) rfl)) fun hb H1 s2 => ?_, fun hb H1 s2 => ?_, fun hb H1 s2 => ?_⟩
  · obtain ⟨d, hd⟩ : ∃ d, t[e]? = some d := ⟨_, List.getElem?_eq_getElem (by have := of_decide_eq_true hb; omega)⟩
    rw [hd]
    exact ans_B (evs_digit (evs_of (val_ixL (SqL.of (s2 _ _ hr1)) (natsV_get hd) (val_var rfl) (val_var rfl))))
  · rw [Bool.and_eq_true] at hb
    have hlt : e < t.length := by have := of_decide_eq_true hb.1; omega
    obtain ⟨d, hd⟩ : ∃ d, t[e]? = some d := ⟨_, List.getElem?_eq_getElem hlt⟩
    rw [hd] at hb
    refine st_aug (f := fun i j => i + j) rfl val_c ⟨t.length - (e + 1), by omega, s1.trans s2, e + 1, rfl, by omega, ?_, rfl⟩
    rw [hs]
    exact scan_step hd hb.2
  · have hst : scan Vatsld.digit t e = e := scan_stop fun d hd => by
      rw [hd] at hb
      have hlt := at_lt hd
      rw [decide_eq_true (by omega : (e : Int) < (t.length : Int)), Bool.true_and] at hb
      exact hb
    obtain ⟨sH, he2⟩ := key hst H1 s2
    have hcut : ((natsV t).drop pl).take (e - pl) = natsV W := by
      rw [natsV_take, hW, ← scan_take, hend, he2]
    refine st_seqSetS (v := .str (strOf W)) (evs_call1N (evn_slice (i := pl) (j := e) (SqL.of (sH _ _ hr')) (val_var rfl) (val_var rfl) (val_var rfl) (by rw [natsV_len]; exact he) (by omega)) fun q H3 s4 f3 Q z => ?_) fun H2 s3 => ?_
    · exact ⟨q, W, rfl, by rw [f3, hcut], fun c hc => digit_inner (hWd c hc), by omega, z⟩
    refine st_seqIf (ans_notS (ans_B (b := Vatsld.goodNumber W) (evs_call (eva_cons (evs_of (val_var rfl)) fun _ _ => eva_nil) fun H4 s4 Q z => ⟨W, rfl, hWn, hWd, by omega, z H4 (Same.refl _)⟩))) (fun hb2 H3 s4 => ?_) fun hb2 H3 s4 => ?_
    · exact st_fault (D := {nx := fun _ _ => True, rt := fun _ _ => True}) (eva_cons (evs_of val_c) fun _ _ => eva_cons (evs_of (val_var rfl)) fun _ _ => eva_nil) ((kF (not_t hb2)).mono (sH.trans (s3.trans s4)))
    · exact st_retP (evp_token (x := (pl, .num (Vatsld.valueIn W))) (w := W) (k := "number") (eva_cons (evs_of val_c) fun _ _ => eva_cons (evs_of (val_var rfl)) fun _ _ => eva_cons (evs_of (val_var rfl)) fun _ _ => eva_nil) rfl) fun q H4 n s5 h3 =>
        kQ (not_f hb2) q H4 (sH.free (s3.free (s4.free n))) (sH.trans (s3.trans (s4.trans s5))) h3

/-- the token that stands from a place on -/
def sp_token_from (A : Ad) : Sp := fun vs H Q E => ∃ (r : Addr) (t : List Nat) (pl : Nat), vs = [.ref r, .int (pl : Int)] ∧ H r = some (.lst (natsV t)) ∧ t.length ≤ 5000 ∧ pl ≤ t.length ∧
  (∀ p k rest, tk t pl = (p, .bad k) :: rest → Thrown A H E (k, p)) ∧
  (∀ x rest w, tk t pl = x :: rest → Wr x.2 w → x.1 + w.length ≤ t.length → (x.2 ≠ .over → tk t (x.1 + w.length) = rest) → ∀ q H', H q = none → Same H H' → TokAt A H' q x w → Q (.ref q) H')
/-! ### token_from -/
abbrev s_token_from : Stmt := top 59
theorem sc_token_from : FnScope ["text", "place", "start", "byte"] ["text", "place"] (defScope s_token_from) := ⟨rfl, rfl, rfl, by decide +kernel, rfl, by decide +kernel, by decide +kernel⟩
theorem ok_token_from {f : Addr} {fd : FuncData} (F : Fun K "token_from" "token_from" s_token_from f fd) (T : Txt K mg A) (TF : TxF K mg A)
    (C_Fault_init : CalF P w K mg base A.cFault (sp_Fault_init A))
    (C_Token_init : CalI P w K mg base CX0 1 A.cToken ["self", "kind", "written", "place"] (sp_Token_init A))
    (C_is_digit : Cal P w K mg base CX0 1 "is_digit" ["byte"] (sp_is_digit A))
    (C_number_at : Cal P w K mg base (L2.CX P w) 4 "number_at" ["text", "place"] (sp_number_at A))
    (C_is_letter : Cal P w K mg base CX0 1 "is_letter" ["byte"] (sp_is_letter A))
    (C_word_at : Cal P w K mg base (L2.CX P w) 4 "word_at" ["text", "place"] (sp_word_at A))
    (C_skip_gaps : Cal P w K mg base CX0 2 "skip_gaps" ["text", "place"] (sp_skip_gaps A)) : FnOk P w K mg base (L2.CX P w) 5 f fd ["text", "place"] (sp_token_from A) := by
  obtain ⟨f_Fault, fd_Fault, i_Fault, t_Fault, b_Fault, G_Fault⟩ := C_Fault_init.ex
  obtain ⟨f_Token, fd_Token, M_Token, b_Token, G_Token⟩ := C_Token_init.ex
  obtain ⟨f_is_digit, fd_is_digit, m_is_digit, kp_is_digit, b_is_digit, G_is_digit⟩ := C_is_digit.ex
  obtain ⟨f_number_at, fd_number_at, m_number_at, kp_number_at, b_number_at, G_number_at⟩ := C_number_at.ex
  obtain ⟨f_is_letter, fd_is_letter, m_is_letter, kp_is_letter, b_is_letter, G_is_letter⟩ := C_is_letter.ex
  obtain ⟨f_word_at, fd_word_at, m_word_at, kp_word_at, b_word_at, G_word_at⟩ := C_word_at.ex
  obtain ⟨f_skip_gaps, fd_skip_gaps, m_skip_gaps, kp_skip_gaps, b_skip_gaps, G_skip_gaps⟩ := C_skip_gaps.ex
  refine F.okX sc_token_from (fun vs H Q E h => by revert h; first | (rintro ⟨rfl, _⟩; rfl) | (rintro ⟨_, rfl, _⟩; rfl) | (rintro ⟨_, _, rfl, _⟩; rfl) | (rintro ⟨_, _, _, rfl, _⟩; rfl) | (rintro ⟨_, _, _, _, rfl, _⟩; rfl) | (rintro ⟨_, _, _, _, _, rfl, _⟩; rfl) | (rintro ⟨_, _, _, _, _, _, rfl, _⟩; rfl) | (rintro ⟨_, _, _, _, _, _, _, rfl, _⟩; rfl) | (rintro ⟨_, _, _, _, _, _, _, _, rfl, _⟩; rfl) | (rintro ⟨_, _, _, _, _, _, _, _, _, rfl, _⟩; rfl) | (rintro ⟨_, _, _, _, _, _, _, _, _, _, rfl, _⟩; rfl) | (rintro ⟨_, _, _, _, _, _, _, _, _, _, _, rfl, _⟩; rfl)) (fun cdv Ar outer s H vs Q E hr h => ⟨_, 
  (pss_cons (ps_set (i := 2) sc_token_from.nd rfl (Or.inl rfl) (pe_call G_skip_gaps (hr.mono (by decide)) rfl m_skip_gaps kp_skip_gaps b_skip_gaps .nil pass0 (pa_cons (pv 0) (pa_cons (pv 1) pa_nil))))
      (pss_cons (ps_if (pt_cmpR op_eq (pv 2) (pe_callB call_len_seq (by rfl) T.b_len (by decide +kernel) (pa_cons (pv 0) pa_nil)) (nomark _)) (pss_one (ps_ret (pe_make M_Token G_Token (hr.mono (by decide)) rfl T.g_Token b_Token .nil pass0 (pa_cons (pe_txt (by rfl) T.k_END) (pa_cons pe_str (pa_cons (pv 2) pa_nil)))))) pss_nil)
      (pss_cons (ps_set (i := 3) sc_token_from.nd rfl (Or.inl rfl) (pe_ix ix_list (pv 0) (pv 2) (fun _ _ => rfl)))
      (pss_cons (ps_if (pt_val (pe_call G_is_letter (hr.mono (by decide)) rfl m_is_letter kp_is_letter b_is_letter .nil pass0 (pa_cons (pv 3) pa_nil))) (pss_one (ps_ret (pe_call G_word_at (hr.mono (by decide)) rfl m_word_at kp_word_at b_word_at .nil (passes_call (takes_of rfl rfl rfl rfl) (fun _ _ _ _ z => z)) (pa_cons (pv 0) (pa_cons (pv 2) pa_nil))))) pss_nil)
      (pss_cons (ps_if (pt_val (pe_call G_is_digit (hr.mono (by decide)) rfl m_is_digit kp_is_digit b_is_digit .nil pass0 (pa_cons (pv 3) pa_nil))) (pss_one (ps_ret (pe_call G_number_at (hr.mono (by decide)) rfl m_number_at kp_number_at b_number_at .nil (passes_call (takes_of rfl rfl rfl rfl) (fun _ _ _ _ z => z)) (pa_cons (pv 0) (pa_cons (pv 2) pa_nil))))) pss_nil)
      (pss_cons (ps_if (pt_cmpR op_eq (pv 3) (pe_callB call_ord (by rfl) T.b_ord (by decide +kernel) (pa_cons pe_str pa_nil)) (nomark _)) (pss_one (ps_ret (pe_make M_Token G_Token (hr.mono (by decide)) rfl T.g_Token b_Token .nil pass0 (pa_cons (pe_txt (by rfl) T.k_SIGN) (pa_cons pe_str (pa_cons (pv 2) pa_nil)))))) pss_nil)
      (pss_cons (ps_if (pt_cmpR op_eq (pv 3) (pe_callB call_ord (by rfl) T.b_ord (by decide +kernel) (pa_cons pe_str pa_nil)) (nomark _)) (pss_one (ps_ret (pe_make M_Token G_Token (hr.mono (by decide)) rfl T.g_Token b_Token .nil pass0 (pa_cons (pe_txt (by rfl) T.k_SIGN) (pa_cons pe_str (pa_cons (pv 2) pa_nil)))))) pss_nil)
      (pss_one (ps_raise rfl (takes_of rfl rfl rfl rfl) (pmk_fx TF.fx i_Fault t_Fault G_Fault (hr.mono (by decide)) b_Fault pass0 rfl TF.g (pa_cons (pe_num (by rfl) T.k_STRANGE_BYTE) (pa_cons (pv 2) pa_nil)))))))))))), ?_⟩)
  obtain ⟨r, t, pl, rfl, hr', htl, hpl, kF, kQ⟩ := h
  refine st_seqCall (eva_cons (evs_of (val_var rfl)) fun _ _ => eva_cons (evs_of (val_var rfl)) fun _ _ => eva_nil) fun H0 s0 => ⟨r, t, pl, rfl, s0 _ _ hr', hpl, fun st hst htk hgap H1 s1 => ?_⟩
  have sH : Same H H1 := s0.trans s1
  have hr1 := sH _ _ hr'
  rw [← htk] at kF kQ
  refine st_seqIfV (b := decide (V.int (st : Int) = .int (t.length : Int))) (ans_eqV (val_var rfl) (val_len (SqL.of hr1) (natsV_len t) (val_var rfl)) rfl) (fun hb => ?_) fun hb => ?_
  · rw [dec_int] at hb
    have he : st = t.length := by have := of_decide_eq_true hb; omega
    have hov := tk_over he
    refine st_retP (evp_token (x := (st, .over)) (w := []) (k := "end") (eva_cons (evs_of val_c) fun _ _ => eva_cons (evs_of val_c) fun _ _ => eva_cons (evs_of (val_var rfl)) fun _ _ => eva_nil) rfl) fun q H2 n s2 h2 => kQ (st, .over) [] [] (by rw [hov, he]) rfl (by simp; omega) (fun z => absurd rfl z) q H2 (sH.free n) (sH.trans s2) h2
  rw [dec_int] at hb
  have hlt : st < t.length := by have := of_decide_eq_false hb; omega
  obtain ⟨c, hc⟩ : ∃ c, t[st]? = some c := ⟨_, List.getElem?_eq_getElem hlt⟩
  obtain ⟨hnb, hnh⟩ := hgap c hc
  have hstep := tk_step hc
  rw [hnb, hnh, if_neg Bool.false_ne_true, if_neg Bool.false_ne_true] at hstep
  refine st_seqSet (val_ixL (SqL.of hr1) (natsV_get hc) (val_var rfl) (val_var rfl)) ?_
  refine st_seqIf (ans_B (evs_letter (evs_of (val_var rfl)))) (fun hl H2 s2 => ?_) fun hl H2 s2 => ?_
  · have hin : Vatsld.inner c = true := by unfold Vatsld.inner; rw [hl]; rfl
    have hW : (t.drop st).takeWhile Vatsld.inner = c :: (t.drop (st + 1)).takeWhile Vatsld.inner := by rw [drop_at hc, List.takeWhile_cons, hin]; rfl
    rw [if_pos hl, ← hW] at hstep
    have s02 := sH.trans s2
    refine st_retCall (eva_cons (evs_of (val_var rfl)) fun _ _ => eva_cons (evs_of (val_var rfl)) fun _ _ => eva_nil) fun H3 s3 => ⟨r, t, st, c, rfl, (s02.trans s3) _ _ hr', htl, hc, hl, fun hbig => ?_, fun hsmall q H4 n s4 h4 => ?_⟩
    · rw [if_pos hbig] at hstep
      exact (kF st 2 [] hstep).mono (s02.trans s3)
    · rw [if_neg hsmall] at hstep
      have e1 : st + ((t.drop st).takeWhile Vatsld.inner).length = scan Vatsld.inner t (st + 1) := by rw [← scan_step hc hin]; rfl
      exact kQ _ _ _ hstep ⟨rfl, c, _, hW, hl⟩ (by show st + _ ≤ _; rw [e1]; exact scan_le _ _ _ (by omega)) (fun _ => by show tk t (st + _) = _; rw [e1]) q H4 (s02.free (s3.free n)) (s02.trans (s3.trans s4)) h4
  rw [hl, if_neg Bool.false_ne_true] at hstep
  refine st_seqIf (ans_B (evs_digit (evs_of (val_var rfl)))) (fun hd H3 s3 => ?_) fun hd H3 s3 => ?_
  · have hW : (t.drop st).takeWhile Vatsld.digit = c :: (t.drop (st + 1)).takeWhile Vatsld.digit := by rw [drop_at hc, List.takeWhile_cons, hd]; rfl
    rw [if_pos hd, ← hW] at hstep
    have s03 := sH.trans (s2.trans s3)
    refine st_retCall (eva_cons (evs_of (val_var rfl)) fun _ _ => eva_cons (evs_of (val_var rfl)) fun _ _ => eva_nil) fun H4 s4 => ⟨r, t, st, c, rfl, (s03.trans s4) _ _ hr', htl, hc, hd, fun hbad => ?_, fun hgood q H5 n s5 h5 => ?_⟩
    · rw [hbad, if_neg Bool.false_ne_true] at hstep
      exact (kF st 2 [] hstep).mono (s03.trans s4)
    · rw [if_pos hgood] at hstep
      have e1 : st + ((t.drop st).takeWhile Vatsld.digit).length = scan Vatsld.digit t (st + 1) := by rw [← scan_step hc hd]; rfl
      have hlen : ((t.drop st).takeWhile Vatsld.digit).length ≤ 4 := by
        have := hgood
        unfold Vatsld.goodNumber at this
        rw [Bool.and_eq_true, Bool.and_eq_true, decide_eq_true_iff] at this
        exact this.1.1
      exact kQ _ _ _ hstep ⟨by rw [hW]; simp, fun c hc => take_all hc, hlen, rfl⟩ (by show st + _ ≤ _; rw [e1]; exact scan_le _ _ _ (by omega)) (fun _ => by show tk t (st + _) = _; rw [e1]) q H5 (s03.free (s4.free n)) (s03.trans (s4.trans s5)) h5
  rw [hd, if_neg Bool.false_ne_true] at hstep
  have s03 := sH.trans (s2.trans s3)
  have sign : ∀ d : Nat, c = d → (d = 44 ∨ d = 59) → ∀ q H4, H3 q = none → Same H3 H4 → TokAt A H4 q (st, .sign c) [c] → Q (.ref q) H4 := fun d hcd hdd q H4 n s4 h4 => by
    have hcc : (c == 44 || c == 59) = true := by rcases hdd with z | z <;> simp [hcd, z]
    rw [if_pos hcc] at hstep
    exact kQ _ _ _ hstep ⟨rfl, hcd ▸ hdd⟩ (by show st + 1 ≤ _; omega) (fun _ => rfl) q H4 (s03.free n) (s03.trans s4) h4
  refine st_seqIfV (b := decide (V.int (c : Int) = .int 44)) (ans_eqV (val_var rfl) (val_ordC rfl rfl) rfl) (fun he => ?_) fun he => ?_
  · rw [dec_int] at he
    have hc44 : c = 44 := by have := of_decide_eq_true he; omega
    exact st_retP (evp_token (x := (st, .sign c)) (w := [c]) (k := "sign") (eva_cons (evs_of val_c) fun _ _ => eva_cons (evs_is (evs_of val_c) (by rw [hc44]; decide +kernel)) fun _ _ => eva_cons (evs_of (val_var rfl)) fun _ _ => eva_nil) rfl) fun q H4 n s4 h4 => sign 44 hc44 (.inl rfl) q H4 n s4 h4
  refine st_seqIfV (b := decide (V.int (c : Int) = .int 59)) (ans_eqV (val_var rfl) (val_ordC rfl rfl) rfl) (fun he2 => ?_) fun he2 => ?_
  · rw [dec_int] at he2
    have hc59 : c = 59 := by have := of_decide_eq_true he2; omega
    exact st_retP (evp_token (x := (st, .sign c)) (w := [c]) (k := "sign") (eva_cons (evs_of val_c) fun _ _ => eva_cons (evs_is (evs_of val_c) (by rw [hc59]; decide +kernel)) fun _ _ => eva_cons (evs_of (val_var rfl)) fun _ _ => eva_nil) rfl) fun q H4 n s4 h4 => sign 59 hc59 (.inr rfl) q H4 n s4 h4
  · rw [dec_int] at he he2
    have h44 := of_decide_eq_false he
    have h59 := of_decide_eq_false he2
    have hcc : (c == 44 || c == 59) = false := by
      rw [Bool.or_eq_false_iff]
      constructor <;> (simp; omega)
    rw [hcc, if_neg Bool.false_ne_true] at hstep
    exact st_fault (D := {nx := fun _ _ => True, rt := fun _ _ => True}) (eva_cons (evs_of val_c) fun _ _ => eva_cons (evs_of (val_var rfl)) fun _ _ => eva_nil) ((kF st 1 [] hstep).mono s03)
end
end Tp
/-! The reader of a text: where it stands, what it hands on, what it throws. -/
namespace Tp
open PySem PySem.Spec PyProof.Rows L2
open Vatsld (Toks Fault)
/-- an expression's values, by what holds of them -/
def EvG (te : TE) (σ : L2.St) (H : Hp) (R : V → Hp → Prop) : Prop := ∀ Q : VK, (∀ v H', R v H' → Q v H') → te σ H Q
section
variable {σ : L2.St} {H : Hp} {K : PySem.W.Frag} {ta tb te : TE} {x y v : V} {a C : Addr} {D : Ends} {u ts : TS} {fs : List (Str × V)} {R R' : V → Hp → Prop} {f m : Str} {E : XK} {sp : Sp} {t : TA} {vs : List V} {b : Bool}
theorem evg_meth {dx : Addr} (ha : Val ta σ H (.ref a)) (ho : H a = some (.ins C dx fs)) (hl : fs.lookup m = none) (ht : EvA t σ H vs) (hs : ∀ H', Same H H' → ∀ Q : VK, (∀ v H2, R v H2 → Q v H2) → sp (.ref a :: vs) H' Q E) : EvG (tMeth C m sp [] E ta t) σ H R := fun Q z =>
  ha _ ⟨a, dx, fs, rfl, ho, hl, ht _ fun H1 s1 => by
    show sp (.ref a :: (vs ++ [])) H1 Q E
    rw [List.append_nil]
    exact hs H1 s1 Q z⟩
theorem evg_call (ht : EvA t σ H vs) (hs : ∀ H', Same H H' → ∀ Q : VK, (∀ v H2, R v H2 → Q v H2) → sp vs H' Q E) : EvG (tCall sp [] E t) σ H R := fun Q z => ht _ fun H1 s1 => by
  show sp (vs ++ []) H1 Q E
  rw [List.append_nil]
  exact hs H1 s1 Q z
theorem evg_fld (h : EvG te σ H R) (hf : ∀ v H', R v H' → ∃ a C dx fs y, v = .ref a ∧ H' a = some (.ins C dx fs) ∧ Cls K C ∧ NoAttr K C f ∧ fs.lookup f = some y ∧ R' y H') : EvG (tFld K te f) σ H R' := fun Q z => h _ fun v H' r => by
  obtain ⟨a, C, dx, fs, y, e1, e2, e3, e4, e5, e6⟩ := hf v H' r
  exact ⟨a, C, dx, fs, y, e1, e2, e3, e4, e5, z y H' e6⟩
theorem evg_op {r : R2} (ha : EvG ta σ H R) (hb : ∀ x H', R x H' → ∃ y, Val tb σ H' y ∧ ∀ Q : VK, (∀ v H2, R' v H2 → Q v H2) → r x y H' Q) : EvG (tOp r ta tb) σ H R' := fun Q z => ha _ fun x H' rx => by
  obtain ⟨y, hy, hr⟩ := hb x H' rx
  exact hy _ (hr Q z)
theorem st_retG (h : EvG te σ H R) (q : ∀ v H', R v H' → D.rt v H') : tRet te D σ H := h _ q
theorem st_seqSetG {i : Nat} (h : EvG te σ H R) (q : ∀ v H', R v H' → u D (σ.set i (some v)) H') : tSeq (tAsg te (gName i)) u D σ H := h _ q
theorem st_setG {i : Nat} (h : EvG te σ H R) (q : ∀ v H', R v H' → D.nx (σ.set i (some v)) H') : tAsg te (gName i) D σ H := h _ q
theorem st_seqDropG (h : EvG te σ H R) (q : ∀ v H', R v H' → u D σ H') : tSeq (tDrop te) u D σ H := h _ q
theorem st_dropG (h : EvG te σ H R) (q : ∀ v H', R v H' → D.nx σ H') : tDrop te D σ H := h _ q
theorem evg_of (h : Evs te σ H v) : EvG te σ H (fun x H' => x = v ∧ Same H H') := fun Q z => h _ fun H' s => z v H' ⟨rfl, s⟩
/-- a store to a field -/
theorem st_seqFld {tv : TE} {dx : Addr} (hv : Val tv σ H y) (ha : Val ta σ H (.ref a)) (ho : H a = some (.ins C dx fs)) (hc : Cls K C) (hn : NoAttr K C f) (hl : fs.length < 1000) (q : u D σ (upd H a (.ins C dx (putF f y fs)))) : tSeq (sFld K ta tv f) u D σ H := st_fld (D := { D with nx := u D }) hv ha ho hc hn hl q
end

/-! ### the reader -/
def rdF (tl : Addr) (pl : Nat) : List (Str × V) := [("text", .ref tl), ("place", .int (pl : Int))]
theorem rdF_text (tl : Addr) (pl : Nat) : (rdF tl pl).lookup ("text" : Str) = some (.ref tl) := lk_here
theorem rdF_place (tl : Addr) (pl : Nat) : (rdF tl pl).lookup ("place" : Str) = some (.int (pl : Int)) := (lk_past (by decide +kernel)).trans lk_here
theorem rdF_m {tl : Addr} {pl : Nat} {m : Str} (h1 : (m == ("text" : Str)) = false) (h2 : (m == ("place" : Str)) = false) : (rdF tl pl).lookup m = none := (lk_past h1).trans ((lk_past h2).trans rfl)
theorem rdF_put (tl : Addr) (pl q : Nat) : putF "place" (.int (q : Int)) (rdF tl pl) = rdF tl q := (put_past (by decide +kernel)).trans (congrArg _ put_here)
/-- it stands in a text at a place -/
structure RdAt (A : Ad) (H : Hp) (r dx tl : Addr) (t : List Nat) (pl : Nat) : Prop where
  ob : H r = some (.ins A.cReader dx (rdF tl pl))
  tx : H tl = some (.lst (natsV t))
  len : t.length ≤ 5000
  le : pl ≤ t.length
theorem RdAt.mono {A : Ad} {H H' : Hp} {r dx tl : Addr} {t : List Nat} {pl : Nat} (h : RdAt A H r dx tl t pl) (s : Same H H') : RdAt A H' r dx tl t pl := ⟨s _ _ h.ob, s _ _ h.tx, h.len, h.le⟩
/-- its tokens from there on -/
def RS (A : Ad) (H : Hp) (r : Addr) (ts : Toks) : Prop := ∃ dx tl t pl, RdAt A H r dx tl t pl ∧ tk t pl = ts
theorem RS.mono {A : Ad} {H H' : Hp} {r : Addr} {ts : Toks} (h : RS A H r ts) (s : Same H H') : RS A H' r ts := let ⟨dx, tl, t, pl, h1, h2⟩ := h; ⟨dx, tl, t, pl, h1.mono s, h2⟩
theorem RS.ins {A : Ad} {H : Hp} {r : Addr} {ts : Toks} (h : RS A H r ts) : ∃ dx tl pl, H r = some (.ins A.cReader dx (rdF tl pl)) := let ⟨dx, tl, _, pl, h1, _⟩ := h; ⟨dx, tl, pl, h1.ob⟩
theorem tk_ne (t : List Nat) (pl : Nat) : tk t pl ≠ [] := by
  unfold tk
  have key : ∀ (w k : Nat) (s : List Nat), Vatsld.tokensIn w k s ≠ [] := by
    intro w k
    induction k with
    | zero => intro s; simp [Vatsld.tokensIn]
    | succ k ih =>
      intro s
      cases s with
      | nil => simp [Vatsld.tokensIn]
      | cons c r =>
        simp only [Vatsld.tokensIn]
        split
        · exact ih _
        split
        · exact ih _
        split
        · split <;> simp
        split
        · split <;> simp
        split <;> simp
  exact key _ _ _
theorem RS.ok {A : Ad} {H : Hp} {r : Addr} {ts : Toks} (h : RS A H r ts) : okToks ts ∧ ∃ x rest, ts = x :: rest := by
  obtain ⟨dx, tl, t, pl, h1, rfl⟩ := h
  refine ⟨ok_tk _ _, ?_⟩
  cases e : tk t pl with
  | nil => exact absurd e (tk_ne t pl)
  | cons x rest => exact ⟨x, rest, rfl⟩
/-- all but the reader stays, and the reader its text -/
structure But (r : Addr) (H H' : Hp) : Prop where
  keep : ∀ b o, b ≠ r → H b = some o → H' b = some o
  tx : ∀ C dx tl pl, H r = some (.ins C dx (rdF tl pl)) → ∃ pl', H' r = some (.ins C dx (rdF tl pl'))
instance {r : Addr} {H H' : Hp} : CoeFun (But r H H') (fun _ => ∀ b o, b ≠ r → H b = some o → H' b = some o) := ⟨But.keep⟩
theorem But.refl (r : Addr) (H : Hp) : But r H H := ⟨fun _ _ _ e => e, fun _ _ _ pl e => ⟨pl, e⟩⟩
theorem But.trans {r : Addr} {H H1 H2 : Hp} (a : But r H H1) (b : But r H1 H2) : But r H H2 := ⟨fun c o n e => b.keep c o n (a.keep c o n e), fun C dx tl pl e => let ⟨_, e1⟩ := a.tx C dx tl pl e; b.tx C dx tl _ e1⟩
theorem _root_.L2.Same.but {H H' : Hp} (s : Same H H') (r : Addr) : But r H H' := ⟨fun b o _ e => s b o e, fun _ _ _ pl e => ⟨pl, s _ _ e⟩⟩
theorem But.free {r : Addr} {H H' : Hp} (h : But r H H') {q : Addr} (n : H' q = none) (hq : q ≠ r) : H q = none := by
  cases e : H q with
  | none => rfl
  | some o => rw [h.keep q o hq e] at n; cases n
theorem rdF_inj {tl tl' : Addr} {pl pl' : Nat} (h : rdF tl pl = rdF tl' pl') : tl = tl' := by
  have := rdF_text tl pl
  rw [h, rdF_text] at this
  injection this with e
  injection e with e
  exact e.symm
theorem But.new {r : Addr} {H H' : Hp} (h : But r H H') {q : Addr} {o : HO} (n : H q = none) : But r H (upd H' q o) := ⟨fun b u hb e => by
    rw [upd_ne (ne_of_none e n)]
    exact h.keep b u hb e, fun C dx tl pl e => by
    obtain ⟨pl', e'⟩ := h.tx C dx tl pl e
    exact ⟨pl', by rw [upd_ne (ne_of_none e n)]; exact e'⟩⟩
theorem RS.upd {A : Ad} {r : Addr} {H H' : Hp} {ts0 ts : Toks} {q : Addr} {o : HO} (h0 : RS A H r ts0) (n : H q = none) (b : But r H H') (h : RS A H' r ts) : RS A (upd H' q o) r ts := by
  obtain ⟨dx0, tl0, t0, pl0, h0, rfl⟩ := h0
  obtain ⟨dx, tl, t, pl, h, rfl⟩ := h
  obtain ⟨pl', e⟩ := b.tx _ _ _ _ h0.ob
  have e2 := h.ob
  rw [e] at e2
  injection e2 with e2
  injection e2 with _ _ e3
  have e4 := rdF_inj e3
  subst e4
  exact ⟨dx, tl0, t, pl, ⟨by rw [upd_ne (ne_of_none h0.ob n)]; exact h.ob, by rw [upd_ne (ne_of_none h0.tx n)]; exact h.tx, h.len, h.le⟩, rfl⟩
/-- the error is taken, whatever became of the reader -/
def ThrownB (A : Ad) (H : Hp) (r : Addr) (E : XK) (f : Fault) : Prop := ∀ d H', But r H H' → H' d = some (.xd (ftF f)) → E (.ref A.cFault) (some d) H'
theorem ThrownB.mono {A : Ad} {H H' : Hp} {r : Addr} {E : XK} {f : Fault} (h : ThrownB A H r E f) (s : But r H H') : ThrownB A H' r E f := fun d H2 s2 e => h d H2 (s.trans s2) e
theorem ThrownB.thrown {A : Ad} {H : Hp} {r : Addr} {E : XK} {f : Fault} (h : ThrownB A H r E f) : Thrown A H E f := fun d H2 s2 e => h d H2 (s2.but r) e
/-- a reading def's two ways -/
def Gives {α : Type} (A : Ad) (H : Hp) (r : Addr) (E : XK) (res : Except Fault (α × Toks)) (ok : α → Hp → Prop) : Prop := (∀ f, res = .error f → ThrownB A H r E f) ∧ ∀ a rest, res = .ok (a, rest) → ∀ H', But r H H' → RS A H' r rest → ok a H'
theorem Gives.mono {α : Type} {A : Ad} {H H' : Hp} {r : Addr} {E : XK} {res : Except Fault (α × Toks)} {ok : α → Hp → Prop} (h : Gives A H r E res ok) (s : But r H H') : Gives A H' r E res ok :=
  ⟨fun f e => (h.1 f e).mono s, fun a rest e H2 s2 z => h.2 a rest e H2 (s.trans s2) z⟩
theorem Gives.to {α : Type} {A : Ad} {H : Hp} {r : Addr} {E : XK} {res : Except Fault (α × Toks)} {ok ok' : α → Hp → Prop} (h : Gives A H r E res ok) (m : ∀ a H', ok a H' → ok' a H') : Gives A H r E res ok' :=
  ⟨h.1, fun a rest e H2 s2 z => m a H2 (h.2 a rest e H2 s2 z)⟩
/-- the first part of a chain throws -/
theorem Gives.err {α β : Type} {A : Ad} {H : Hp} {r : Addr} {E : XK} {x : Except Fault α} {g : α → Except Fault (β × Toks)} {ok : β → Hp → Prop} (h : Gives A H r E (x.bind g) ok) {f : Fault} (e : x = .error f) : ThrownB A H r E f := h.1 f (by rw [e]; rfl)
theorem Gives.next {α β : Type} {A : Ad} {H : Hp} {r : Addr} {E : XK} {x : Except Fault α} {g : α → Except Fault (β × Toks)} {ok : β → Hp → Prop} (h : Gives A H r E (x.bind g) ok) {a : α} (e : x = .ok a) : Gives A H r E (g a) ok := by
  rw [e] at h
  exact h

theorem Gives.chain {β γ : Type} {A : Ad} {H : Hp} {r : Addr} {E : XK} {x : Except Fault (γ × Toks)} {g : γ × Toks → Except Fault (β × Toks)} {ok : β → Hp → Prop} {ok1 : γ → Hp → Prop} (h : Gives A H r E (x.bind g) ok)
    (n : ∀ a rest, x = .ok (a, rest) → ∀ H', But r H H' → RS A H' r rest → Gives A H' r E (g (a, rest)) ok → ok1 a H') : Gives A H r E x ok1 :=
  ⟨fun f e => h.err e, fun a rest e H' s z => n a rest e H' s z ((h.next e).mono s)⟩
theorem Gives.out {α : Type} {A : Ad} {H : Hp} {r : Addr} {E : XK} {a : α} {rest : Toks} {ok : α → Hp → Prop} (h : Gives A H r E (.ok (a, rest)) ok) (z : RS A H r rest) : ok a H := h.2 a rest rfl H (But.refl r H) z
theorem Gives.bad {α : Type} {A : Ad} {H : Hp} {r : Addr} {E : XK} {f : Fault} {ok : α → Hp → Prop} (h : Gives A H r E (.error f) ok) : ThrownB A H r E f := h.1 f rfl
/-- tests by what holds behind them -/
def AnsG (t : TT) (σ : L2.St) (H : Hp) (R : Bool → Hp → Prop) : Prop := ∀ Q : Bool → Hp → Prop, (∀ b H', R b H' → Q b H') → t σ H Q
section
variable {σ : L2.St} {H : Hp} {K : PySem.W.Frag} {te tl : TE} {t c : TT} {D : Ends} {u ts t1 t2 : TS} {R' : V → Hp → Prop} {R : Bool → Hp → Prop} {q : Addr} {xs : List V}
theorem ansg_B (h : EvG te σ H R') (e : ∀ v H', R' v H' → ∃ b, v = .bl b ∧ R b H') : AnsG (tB te) σ H R := fun Q z => h _ fun v H' r => by
  obtain ⟨b, e1, e2⟩ := e v H' r
  exact ⟨b, e1, z b H' e2⟩
theorem ansg_test (h : EvG te σ H R') (e : ∀ v H', R' v H' → ∃ b, v = .bl b ∧ R b H') : AnsG (tTest te) σ H R := fun Q z => h _ fun v H' r => by
  obtain ⟨b, e1, e2⟩ := e v H' r
  exact ⟨b, e1, z b H' e2⟩
theorem ansg_not (h : AnsG t σ H (fun b H' => R (!b) H')) : AnsG (tNot t) σ H R := fun Q z => h _ fun b H' r => z _ H' r
theorem st_seqIfG (h : AnsG c σ H R) (h1 : ∀ H', R true H' → t1 { D with nx := u D } σ H') (h2 : ∀ H', R false H' → u D σ H') : tSeq (tIfS c t1 tNext) u D σ H := h _ fun b H' r => by
  cases b with
  | true => exact iteT (h1 H' r)
  | false => exact iteF (h2 H' r)
theorem st_ifG (h : AnsG c σ H R) (h1 : ∀ H', R true H' → t1 D σ H') (h2 : ∀ H', R false H' → t2 D σ H') : tIfS c t1 t2 D σ H := h _ fun b H' r => by
  cases b with
  | true => exact iteT (h1 H' r)
  | false => exact iteF (h2 H' r)
theorem st_seqWhileG {tc : TT} {Pv : Nat → L2.St → Hp → Prop} (m : Nat) (w0 : Pv m σ H) (hc : ∀ m σ H, Pv m σ H → ∃ R, AnsG tc σ H R ∧ (∀ H1, R true H1 → ts { D with nx := fun σ' H' => ∃ m', m' < m ∧ Pv m' σ' H', ct := fun σ' H' => ∃ m', m' < m ∧ Pv m' σ' H', bk := u D } σ H1) ∧ (∀ H1, R false H1 → u D σ H1)) :
    tSeq (tWhile tc ts) u D σ H := by
  refine ⟨Pv, ⟨m, w0⟩, fun m σ H p => ?_⟩
  obtain ⟨R, h1, h2, h3⟩ := hc m σ H p
  refine h1 _ fun b H1 r => ?_
  cases b with
  | true => exact iteT ⟨_, fun σ' H' z => z, h2 H1 r⟩
  | false => exact iteF (h3 H1 r)
theorem st_appendG (ha : Val tl σ H (.ref q)) (hq : H q = some (.lst xs)) (he : EvG te σ H R') (z : ∀ y H', R' y H' → ∃ ys, H' q = some (.lst ys) ∧ ys.length < 1000000 ∧ D.nx σ (upd H' q (.lst (ys ++ [y])))) :
    tDrop (tBM K "list" rAppend tl (tCons te tNil)) D σ H :=
  ha _ ⟨.inl ⟨rfl, _, SqL.of hq⟩, he _ fun y H' r => by
    obtain ⟨ys, e1, e2, e3⟩ := z y H' r
    exact ⟨q, ys, y, rfl, rfl, e1, small_line e2, e3⟩⟩
theorem st_seqAppendG (ha : Val tl σ H (.ref q)) (hq : H q = some (.lst xs)) (he : EvG te σ H R') (z : ∀ y H', R' y H' → ∃ ys, H' q = some (.lst ys) ∧ ys.length < 1000000 ∧ u D σ (upd H' q (.lst (ys ++ [y])))) :
    tSeq (tDrop (tBM K "list" rAppend tl (tCons te tNil))) u D σ H := st_appendG (D := { D with nx := u D }) ha hq he z
end

/-! ### what stands written -/
/-- a written word or sign that is no number -/
theorem wr_word {kw : String} {x : Nat × Vatsld.Tok} {rest : Toks} {w : List Nat} (hk : ∃ c d r, Vatsld.ascii kw = c :: d :: r ∧ Vatsld.digit c = false) (h : Wr x.2 w) : (w == Vatsld.ascii kw) = Vatsld.isWord kw (x :: rest) := by
  obtain ⟨p, k⟩ := x
  obtain ⟨c, d, r, e, hd⟩ := hk
  cases k with
  | word v =>
    obtain ⟨rfl, _⟩ := h
    rfl
  | num n =>
    obtain ⟨h1, h2, _⟩ := h
    show (w == Vatsld.ascii kw) = false
    rw [beq_eq_false_iff_ne]
    intro z
    rw [z, e] at h2
    rw [h2 c List.mem_cons_self] at hd
    cases hd
  | sign s =>
    obtain ⟨rfl, _⟩ := h
    show ([s] == Vatsld.ascii kw) = false
    rw [beq_eq_false_iff_ne, e]
    intro z
    cases z
  | over =>
    obtain rfl : w = [] := h
    show (([] : List Nat) == Vatsld.ascii kw) = false
    rw [beq_eq_false_iff_ne, e]
    intro z
    cases z
  | bad k => exact h.elim
theorem wr_sign {c : Nat} {x : Nat × Vatsld.Tok} {rest : Toks} {w : List Nat} (hc : c = 44 ∨ c = 59) (h : Wr x.2 w) : (w == [c]) = Vatsld.isSign c (x :: rest) := by
  obtain ⟨p, k⟩ := x
  cases k with
  | word v =>
    obtain ⟨rfl, c', r, rfl, hs⟩ := h
    show ((c' :: r) == [c]) = false
    rw [beq_eq_false_iff_ne]
    intro z
    injection z with z1 z2
    subst z1
    unfold Vatsld.small at hs
    simp at hs
    omega
  | num n =>
    obtain ⟨h1, h2, _⟩ := h
    show (w == [c]) = false
    rw [beq_eq_false_iff_ne]
    intro z
    rw [z] at h2
    have := h2 c List.mem_cons_self
    unfold Vatsld.digit at this
    simp at this
    omega
  | sign s =>
    obtain ⟨rfl, _⟩ := h
    show ([s] == [c]) = (c == s)
    rw [Bool.eq_iff_iff]
    simp
    exact eq_comm
  | over =>
    obtain rfl : w = [] := h
    rfl
  | bad k => exact h.elim
/-- where no further token can be taken -/
def stuck : Toks → Bool
  | (_, .bad _) :: _ => true
  | (_, .over) :: _ => true
  | _ => false
theorem word_unstuck {kw : String} {ts : Toks} (h : Vatsld.isWord kw ts = true) : stuck ts = false := by
  cases ts with
  | nil => rfl
  | cons x r => obtain ⟨p, k⟩ := x; cases k <;> first | rfl | cases h
theorem sign_unstuck {c : Nat} {ts : Toks} (h : Vatsld.isSign c ts = true) : stuck ts = false := by
  cases ts with
  | nil => rfl
  | cons x r => obtain ⟨p, k⟩ := x; cases k <;> first | rfl | cases h
theorem stuck_not {x : Nat × Vatsld.Tok} {rest : Toks} (h : stuck (x :: rest) = false) : x.2 ≠ .over ∧ (∀ k, x.2 ≠ .bad k) ∧ Vatsld.faultAt (x :: rest) = (3, x.1) := by
  obtain ⟨p, k⟩ := x
  cases k with
  | bad k => cases h
  | over => cases h
  | word w => exact ⟨nofun, nofun, rfl⟩
  | num n => exact ⟨nofun, nofun, rfl⟩
  | sign c => exact ⟨nofun, nofun, rfl⟩
end Tp
namespace Tp
open PySem PySem.Spec PyProof.Rows L2
section
variable {P : Program} {w : World} {K : PySem.W.Frag} {mg : Str → Option Value} {base : Heap} {A : Ad}
open Vatsld (Toks Fault)
/-- objects with names: groups or tests -/
def Named (A : Ad) (H : Hp) (m : Addr) (names : List (List Nat)) : Prop := ∃ xs, H m = some (.lst xs) ∧ xs.length = names.length ∧
  ∀ (i : Nat) (nm : List Nat), names[i]? = some nm → ∃ q C dx fs, xs[i]? = some (.ref q) ∧ H q = some (.ins C dx fs) ∧ (C = A.cGroup ∨ C = A.cTest) ∧ fs.lookup ("name" : Str) = some (.str (strOf nm))
theorem Named.mono {A : Ad} {H H' : Hp} {m : Addr} {names : List (List Nat)} (h : Named A H m names) (s : Same H H') : Named A H' m names :=
  let ⟨xs, e1, e2, e3⟩ := h
  ⟨xs, s _ _ e1, e2, fun i nm hi => let ⟨q, C, dx, fs, f1, f2, f3⟩ := e3 i nm hi; ⟨q, C, dx, fs, f1, s _ _ f2, f3⟩⟩
def sp_number_of (A : Ad) : Sp := fun vs H Q _ => ∃ (m : Addr) (names : List (List Nat)) (nm : List Nat), vs = [.ref m, .str (strOf nm)] ∧ Named A H m names ∧ names.length ≤ 1000 ∧
  ∀ H', Same H H' → Q (optV (names.findIdx? fun x => x == nm)) H'
theorem find_step {α : Type} {q : α → Bool} {l : List α} {i : Nat} {x : α} (h : l[i]? = some x) (hn : (l.take i).findIdx? q = none) : (l.findIdx? q = if q x then some i else (l.findIdx? q)) ∧ (q x = false → (l.take (i + 1)).findIdx? q = none) := by
  have hno : ∀ y ∈ l.take i, q y = false := by
    rw [List.findIdx?_eq_none_iff] at hn
    exact fun y hy => by simpa using hn y hy
  have hi : i < l.length := (List.getElem?_eq_some_iff.mp h).1
  constructor
  · cases hq : q x with
    | false => simp
    | true =>
      rw [if_pos rfl, List.findIdx?_eq_some_iff_getElem]
      refine ⟨hi, by rw [(List.getElem?_eq_some_iff.mp h).2]; exact hq, fun j hj => ?_⟩
      have := hno (l[j]'(by omega)) (by
        rw [List.mem_take_iff_getElem]
        exact ⟨j, by omega, rfl⟩)
      simpa using this
  · intro hq
    rw [List.findIdx?_eq_none_iff, take_one h]
    intro y hy
    rcases List.mem_append.mp hy with z | z
    · exact hno y z
    · rw [List.mem_singleton] at z
      subst z
      exact hq
/-! ### number_of -/
abbrev s_number_of : Stmt := top 5
theorem sc_number_of : FnScope ["members", "name", "number", "member"] ["members", "name"] (defScope s_number_of) := ⟨rfl, rfl, rfl, by decide +kernel, rfl, by decide +kernel, by decide +kernel⟩
theorem ok_number_of {f : Addr} {fd : FuncData} (F : Fun K "number_of" "number_of" s_number_of f fd) (T : Txt K mg A) : FnOk P w K mg base CX0 1 f fd ["members", "name"] (sp_number_of A) := by
  refine F.ok sc_number_of (fun vs H Q E h => by revert h; first | (rintro ⟨rfl, _⟩; rfl) | (rintro ⟨_, rfl, _⟩; rfl) | (rintro ⟨_, _, rfl, _⟩; rfl) | (rintro ⟨_, _, _, rfl, _⟩; rfl) | (rintro ⟨_, _, _, _, rfl, _⟩; rfl) | (rintro ⟨_, _, _, _, _, rfl, _⟩; rfl) | (rintro ⟨_, _, _, _, _, _, rfl, _⟩; rfl) | (rintro ⟨_, _, _, _, _, _, _, rfl, _⟩; rfl) | (rintro ⟨_, _, _, _, _, _, _, _, rfl, _⟩; rfl) | (rintro ⟨_, _, _, _, _, _, _, _, _, rfl, _⟩; rfl) | (rintro ⟨_, _, _, _, _, _, _, _, _, _, rfl, _⟩; rfl) | (rintro ⟨_, _, _, _, _, _, _, _, _, _, _, rfl, _⟩; rfl)) (fun cdv Ar outer s H vs Q E hr h => ⟨_, 
  (pss_cons (ps_for PassesOwn.never rfl (pi_enum (by rfl) T.b_enumerate (pa_cons (pv 0) pa_nil)) (pg_tup rfl (pgs_cons (pg_name (i := 2) sc_number_of.nd rfl (Or.inl rfl)) (pgs_cons (pg_name (i := 3) sc_number_of.nd rfl (Or.inl rfl)) pgs_nil))) (pss_one (ps_if (pt_cmpR op_eq (pe_fld (pv 3) rfl) (pv 1) (nomark _)) (pss_one (ps_ret (pv 2))) pss_nil)))
      (pss_one (ps_ret pe_non))), ?_⟩)
  obtain ⟨m, names, nm, rfl, ⟨xs, hm, hxl, hx⟩, hlen, k⟩ := h
  refine (?_ : tSeq (tFor (iEnum K _) _ _) _ _ _ _)
  refine ⟨_, rfl, m, xs, rfl, SqL.of hm, for_gen (n := xs.length) (fun i σ H' => (∃ v w, σ = [some (.ref m), some (.str (strOf nm)), v, w]) ∧ Same H H' ∧ (names.take i).findIdx? (fun x => x == nm) = none) ⟨⟨none, none, rfl⟩, Same.refl _, by simp⟩ ?_ ?_ ?_ ?_⟩
  · rintro i σ H' hi ⟨_, s1, _⟩
    exact ⟨xs, xs[i], SqL.of (s1 _ _ hm), List.getElem?_eq_getElem hi⟩
  · rintro σ H' ⟨_, s1, _⟩
    exact ⟨xs, SqL.of (s1 _ _ hm), Nat.le_refl _⟩
  · rintro i σ H' x H2 hi ⟨⟨v, w, rfl⟩, s1, hn⟩ ⟨t, y, rfl, ht, rfl, hy⟩
    have hyi := hy xs (SqL.of (s1 _ _ hm))
    obtain ⟨nm', hnm⟩ : ∃ nm', names[i]? = some nm' := ⟨_, List.getElem?_eq_getElem (by omega)⟩
    obtain ⟨q, C, dx, fs, f1, f2, f3, f4⟩ := hx i nm' hnm
    rw [f1] at hyi
    cases hyi
    have s2 : Same H (upd H' t (.tup [.int (i : Int), .ref q])) := s1.trans (Same.new ht)
    have hcn : Cls K C ∧ NoAttr K C "name" := by
      rcases f3 with z | z
      · rw [z]; exact ⟨T.cGroup, T.n_g_name⟩
      · rw [z]; exact ⟨T.cTest, T.n_t_name⟩
    obtain ⟨k1, k2⟩ := find_step hnm hn
    refine g_pair (SqT.of upd_same) ?_
    refine st_if (b := decide (V.str (strOf nm') = .str (strOf nm))) (ans_eqV (val_fld (val_var rfl) (s2 _ _ f2) hcn.1 hcn.2 f4) (val_var rfl) rfl) (fun hb => ?_) fun hb => ?_
    · have he : nm' = nm := strOf_inj.mp (V.str.inj (of_decide_eq_true hb))
      refine st_ret (val_var rfl) ?_
      rw [k1, if_pos (by rw [he]; simp)] at k
      exact k _ s2
    · have he : (nm' == nm) = false := by
        rw [beq_eq_false_iff_ne]
        intro z
        rw [z] at hb
        simp at hb
      exact st_next ⟨⟨some (.int (i : Int)), some (.ref q), rfl⟩, s2, k2 he⟩
  · rintro σ H' ⟨⟨v, w, rfl⟩, s1, hn⟩
    rw [hxl, List.take_length] at hn
    rw [hn] at k
    exact k H' s1

def sp_Reader_init (A : Ad) : Sp := fun vs H Q _ => ∃ (x dx tl : Addr), vs = [.ref x, .ref tl] ∧ H x = some (.ins A.cReader dx []) ∧
  ∀ H', (∀ b o, b ≠ x → H b = some o → H' b = some o) → H' x = some (.ins A.cReader dx (rdF tl 0)) → Q .non H'
/-! ### Reader.__init__ -/
abbrev s_Reader_init : Stmt := inClass (top 75) 0
theorem sc_Reader_init : FnScope ["self", "text"] ["self", "text"] (defScope s_Reader_init) := ⟨rfl, rfl, rfl, by decide +kernel, rfl, by decide +kernel, by decide +kernel⟩
theorem ok_Reader_init {f : Addr} {fd : FuncData} (F : Fun K "__init__" "Reader.__init__" s_Reader_init f fd) (T : Txt K mg A) : FnOk P w K mg base CX0 1 f fd ["self", "text"] (sp_Reader_init A) := by
  refine F.ok sc_Reader_init (fun vs H Q E h => by revert h; first | (rintro ⟨rfl, _⟩; rfl) | (rintro ⟨_, rfl, _⟩; rfl) | (rintro ⟨_, _, rfl, _⟩; rfl) | (rintro ⟨_, _, _, rfl, _⟩; rfl) | (rintro ⟨_, _, _, _, rfl, _⟩; rfl) | (rintro ⟨_, _, _, _, _, rfl, _⟩; rfl) | (rintro ⟨_, _, _, _, _, _, rfl, _⟩; rfl) | (rintro ⟨_, _, _, _, _, _, _, rfl, _⟩; rfl) | (rintro ⟨_, _, _, _, _, _, _, _, rfl, _⟩; rfl) | (rintro ⟨_, _, _, _, _, _, _, _, _, rfl, _⟩; rfl) | (rintro ⟨_, _, _, _, _, _, _, _, _, _, rfl, _⟩; rfl) | (rintro ⟨_, _, _, _, _, _, _, _, _, _, _, rfl, _⟩; rfl)) (fun cdv Ar outer s H vs Q E hr h => ⟨_, 
  (pss_cons (ps_fld (pv 0) (pv 1) rfl)
      (pss_one (ps_fld (pv 0) pe_int rfl))), ?_⟩)
  obtain ⟨x, dx, tl, rfl, hx, z⟩ := h
  refine st_seqFld (val_var rfl) (val_var rfl) hx T.cReader T.n_Reader_text (by simp) ?_
  refine st_fld val_c (val_var rfl) upd_same T.cReader T.n_Reader_place (by show 1 < 1000; decide) ?_
  refine z _ (fun b o hb e => ?_) ?_
  · rw [upd_ne hb, upd_ne hb]
    exact e
  · exact upd_same.trans (congrArg (fun q => some (HO.ins A.cReader dx q)) (put2 (by decide +kernel)))

def sp_Reader_ahead (A : Ad) : Sp := fun vs H Q E => ∃ (r dx tl : Addr) (t : List Nat) (pl : Nat), vs = [.ref r] ∧ RdAt A H r dx tl t pl ∧
  (∀ p k rest, tk t pl = (p, .bad k) :: rest → Thrown A H E (k, p)) ∧
  (∀ x rest w, tk t pl = x :: rest → Wr x.2 w → x.1 + w.length ≤ t.length → (x.2 ≠ .over → tk t (x.1 + w.length) = rest) → ∀ q H', H q = none → Same H H' → TokAt A H' q x w → Q (.ref q) H')
/-! ### Reader.ahead -/
abbrev s_Reader_ahead : Stmt := inClass (top 75) 1
theorem sc_Reader_ahead : FnScope ["self"] ["self"] (defScope s_Reader_ahead) := ⟨rfl, rfl, rfl, by decide +kernel, rfl, by decide +kernel, by decide +kernel⟩
theorem ok_Reader_ahead {f : Addr} {fd : FuncData} (F : Fun K "ahead" "Reader.ahead" s_Reader_ahead f fd) (T : Txt K mg A) (TF : TxF K mg A)
    (C_token_from : Cal P w K mg base (L2.CX P w) 5 "token_from" ["text", "place"] (sp_token_from A)) : FnOk P w K mg base (L2.CX P w) 6 f fd ["self"] (sp_Reader_ahead A) := by
  obtain ⟨f_token_from, fd_token_from, m_token_from, kp_token_from, b_token_from, G_token_from⟩ := C_token_from.ex
  refine F.okX sc_Reader_ahead (fun vs H Q E h => by revert h; first | (rintro ⟨rfl, _⟩; rfl) | (rintro ⟨_, rfl, _⟩; rfl) | (rintro ⟨_, _, rfl, _⟩; rfl) | (rintro ⟨_, _, _, rfl, _⟩; rfl) | (rintro ⟨_, _, _, _, rfl, _⟩; rfl) | (rintro ⟨_, _, _, _, _, rfl, _⟩; rfl) | (rintro ⟨_, _, _, _, _, _, rfl, _⟩; rfl) | (rintro ⟨_, _, _, _, _, _, _, rfl, _⟩; rfl) | (rintro ⟨_, _, _, _, _, _, _, _, rfl, _⟩; rfl) | (rintro ⟨_, _, _, _, _, _, _, _, _, rfl, _⟩; rfl) | (rintro ⟨_, _, _, _, _, _, _, _, _, _, rfl, _⟩; rfl) | (rintro ⟨_, _, _, _, _, _, _, _, _, _, _, rfl, _⟩; rfl)) (fun cdv Ar outer s H vs Q E hr h => ⟨_, 
  (pss_one (ps_ret (pe_call G_token_from (hr.mono (by decide)) rfl m_token_from kp_token_from b_token_from .nil (passes_call (takes_of rfl rfl rfl rfl) (fun _ _ _ _ z => z)) (pa_cons (pe_fld (pv 0) rfl) (pa_cons (pe_fld (pv 0) rfl) pa_nil))))), ?_⟩)
  obtain ⟨r, dx, tl, t, pl, rfl, hR, kF, kQ⟩ := h
  refine st_retCall (eva_cons (evs_of (val_fld (val_var rfl) hR.ob T.cReader T.n_Reader_text (rdF_text _ _))) fun H1 s1 => eva_cons (evs_of (val_fld (val_var rfl) (s1 _ _ hR.ob) T.cReader T.n_Reader_place (rdF_place _ _))) fun _ _ => eva_nil) fun H1 s1 => ?_
  exact ⟨tl, t, pl, rfl, s1 _ _ hR.tx, hR.len, hR.le, fun p k rest e => (kF p k rest e).mono s1, fun x rest w e1 e2 e3 e4 q H2 n s2 h2 => kQ x rest w e1 e2 e3 e4 q H2 (s1.free n) (s1.trans s2) h2⟩

def sp_Reader_stands (A : Ad) : Sp := fun vs H Q E => ∃ (r : Addr) (ts : Toks) (w0 : List Nat) (m : Bool), vs = [.ref r, .str (strOf w0)] ∧ RS A H r ts ∧ (∀ x rest w, ts = x :: rest → Wr x.2 w → (w == w0) = m) ∧
  (∀ p k rest, ts = (p, .bad k) :: rest → Thrown A H E (k, p)) ∧ ∀ H', Same H H' → Q (.bl m) H'
theorem dec_str (a b : List Nat) : decide (V.str (strOf a) = .str (strOf b)) = (a == b) := by
  rw [Bool.eq_iff_iff, decide_eq_true_iff, beq_iff_eq]
  constructor
  · intro h
    exact strOf_inj.mp (V.str.inj h)
  · intro h
    rw [h]
/-! ### Reader.stands -/
abbrev s_Reader_stands : Stmt := inClass (top 75) 2
theorem sc_Reader_stands : FnScope ["self", "written"] ["self", "written"] (defScope s_Reader_stands) := ⟨rfl, rfl, rfl, by decide +kernel, rfl, by decide +kernel, by decide +kernel⟩
theorem ok_Reader_stands {f : Addr} {fd : FuncData} (F : Fun K "stands" "Reader.stands" s_Reader_stands f fd) (T : Txt K mg A) (TF : TxF K mg A)
    (C_Reader_ahead : CalM P w K mg base (L2.CX P w) 6 A.cReader "ahead" ["self"] (sp_Reader_ahead A)) : FnOk P w K mg base (L2.CX P w) 7 f fd ["self", "written"] (sp_Reader_stands A) := by
  obtain ⟨f_Reader_ahead, fd_Reader_ahead, m_Reader_ahead, b_Reader_ahead, G_Reader_ahead⟩ := C_Reader_ahead.ex
  refine F.okX sc_Reader_stands (fun vs H Q E h => by revert h; first | (rintro ⟨rfl, _⟩; rfl) | (rintro ⟨_, rfl, _⟩; rfl) | (rintro ⟨_, _, rfl, _⟩; rfl) | (rintro ⟨_, _, _, rfl, _⟩; rfl) | (rintro ⟨_, _, _, _, rfl, _⟩; rfl) | (rintro ⟨_, _, _, _, _, rfl, _⟩; rfl) | (rintro ⟨_, _, _, _, _, _, rfl, _⟩; rfl) | (rintro ⟨_, _, _, _, _, _, _, rfl, _⟩; rfl) | (rintro ⟨_, _, _, _, _, _, _, _, rfl, _⟩; rfl) | (rintro ⟨_, _, _, _, _, _, _, _, _, rfl, _⟩; rfl) | (rintro ⟨_, _, _, _, _, _, _, _, _, _, rfl, _⟩; rfl) | (rintro ⟨_, _, _, _, _, _, _, _, _, _, _, rfl, _⟩; rfl)) (fun cdv Ar outer s H vs Q E hr h => ⟨_, 
  (pss_one (ps_ret (pe_cmpR op_eq (pe_fld (pe_meth0 (pv 0) T.cReader m_Reader_ahead G_Reader_ahead (hr.mono (by decide)) b_Reader_ahead .nil (passes_call (takes_of rfl rfl rfl rfl) (fun _ _ _ _ z => z))) rfl) (pv 1) (nomark _)))), ?_⟩)
  obtain ⟨r, ts, w0, m, rfl, ⟨dx, tl, t, pl, hR, rfl⟩, hm, kF, kQ⟩ := h
  refine st_retG (R := fun v H' => v = .bl m ∧ Same H H') (evg_op (R := fun v H' => ∃ w, v = .str (strOf w) ∧ (w == w0) = m ∧ Same H H') (evg_fld (R := fun v H' => ∃ q x rest w, v = .ref q ∧ tk t pl = x :: rest ∧ Wr x.2 w ∧ TokAt A H' q x w ∧ Same H H')
    (evg_meth (val_var rfl) hR.ob (rdF_m (by decide +kernel) (by decide +kernel)) eva_nil fun H1 s1 Q z => ?_) fun v H1 h1 => ?_) fun v H1 h1 => ?_) fun v H1 h1 => ?_
  · exact ⟨r, dx, tl, t, pl, rfl, hR.mono s1, fun p k rest e => (kF p k rest e).mono s1, fun x rest w e1 e2 _ _ q H2 n s2 h2 => z _ H2 ⟨q, x, rest, w, rfl, e1, e2, h2, s1.trans s2⟩⟩
  · obtain ⟨q, x, rest, w, rfl, e1, e2, ⟨dq, e3⟩, s1⟩ := h1
    exact ⟨q, _, dq, _, _, rfl, e3, T.cToken, T.n_Token_written, tokF_written _ _ _, w, rfl, hm x rest w e1 e2, s1⟩
  · obtain ⟨w, rfl, e1, s1⟩ := h1
    exact ⟨_, val_var rfl, fun Q z => ⟨rfl, by rw [dec_str, e1]; exact z _ H1 ⟨rfl, s1⟩⟩⟩
  · obtain ⟨rfl, s1⟩ := h1
    exact kQ H1 s1

def sp_Reader_take (A : Ad) : Sp := fun vs H Q E => ∃ (r : Addr) (ts : Toks), vs = [.ref r] ∧ RS A H r ts ∧ (stuck ts = true → ThrownB A H r E (Vatsld.faultAt ts)) ∧
  (∀ x rest w, ts = x :: rest → stuck ts = false → Wr x.2 w → ∀ q H', H q = none → q ≠ r → But r H H' → TokAt A H' q x w → RS A H' r rest → Q (.ref q) H')
theorem kind_end {x : Nat × Vatsld.Tok} {w : List Nat} (h : Wr x.2 w) : decide (V.str (kindS x.2) = .str ("end" : Str)) = (match x.2 with | .over => true | _ => false) := by
  obtain ⟨p, k⟩ := x
  cases k with
  | over => simp [kindS]
  | bad k => exact h.elim
  | word v =>
    rw [decide_eq_false]
    intro z
    have := V.str.inj z
    revert this
    show ¬ ("word" : Str) = "end"
    decide +kernel
  | num v =>
    rw [decide_eq_false]
    intro z
    have := V.str.inj z
    revert this
    show ¬ ("number" : Str) = "end"
    decide +kernel
  | sign v =>
    rw [decide_eq_false]
    intro z
    have := V.str.inj z
    revert this
    show ¬ ("sign" : Str) = "end"
    decide +kernel
/-! ### Reader.take -/
abbrev s_Reader_take : Stmt := inClass (top 75) 3
theorem sc_Reader_take : FnScope ["self", "token"] ["self"] (defScope s_Reader_take) := ⟨rfl, rfl, rfl, by decide +kernel, rfl, by decide +kernel, by decide +kernel⟩
theorem ok_Reader_take {f : Addr} {fd : FuncData} (F : Fun K "take" "Reader.take" s_Reader_take f fd) (T : Txt K mg A) (TF : TxF K mg A)
    (C_Fault_init : CalF P w K mg base A.cFault (sp_Fault_init A))
    (C_Reader_ahead : CalM P w K mg base (L2.CX P w) 6 A.cReader "ahead" ["self"] (sp_Reader_ahead A)) : FnOk P w K mg base (L2.CX P w) 7 f fd ["self"] (sp_Reader_take A) := by
  obtain ⟨f_Fault, fd_Fault, i_Fault, t_Fault, b_Fault, G_Fault⟩ := C_Fault_init.ex
  obtain ⟨f_Reader_ahead, fd_Reader_ahead, m_Reader_ahead, b_Reader_ahead, G_Reader_ahead⟩ := C_Reader_ahead.ex
  refine F.okX sc_Reader_take (fun vs H Q E h => by revert h; first | (rintro ⟨rfl, _⟩; rfl) | (rintro ⟨_, rfl, _⟩; rfl) | (rintro ⟨_, _, rfl, _⟩; rfl) | (rintro ⟨_, _, _, rfl, _⟩; rfl) | (rintro ⟨_, _, _, _, rfl, _⟩; rfl) | (rintro ⟨_, _, _, _, _, rfl, _⟩; rfl) | (rintro ⟨_, _, _, _, _, _, rfl, _⟩; rfl) | (rintro ⟨_, _, _, _, _, _, _, rfl, _⟩; rfl) | (rintro ⟨_, _, _, _, _, _, _, _, rfl, _⟩; rfl) | (rintro ⟨_, _, _, _, _, _, _, _, _, rfl, _⟩; rfl) | (rintro ⟨_, _, _, _, _, _, _, _, _, _, rfl, _⟩; rfl) | (rintro ⟨_, _, _, _, _, _, _, _, _, _, _, rfl, _⟩; rfl)) (fun cdv Ar outer s H vs Q E hr h => ⟨_, 
  (pss_cons (ps_set (i := 1) sc_Reader_take.nd rfl (Or.inl rfl) (pe_meth0 (pv 0) T.cReader m_Reader_ahead G_Reader_ahead (hr.mono (by decide)) b_Reader_ahead .nil (passes_call (takes_of rfl rfl rfl rfl) (fun _ _ _ _ z => z))))
      (pss_cons (ps_if (pt_cmpR op_eq (pe_fld (pv 1) rfl) (pe_txt (by rfl) T.k_END) (nomark _)) (pss_one (ps_raise rfl (takes_of rfl rfl rfl rfl) (pmk_fx TF.fx i_Fault t_Fault G_Fault (hr.mono (by decide)) b_Fault pass0 rfl TF.g (pa_cons (pe_num (by rfl) T.k_UNENDED) (pa_cons (pe_fld (pv 1) rfl) pa_nil))))) pss_nil)
      (pss_cons (ps_fld (pv 0) (pe_op op_add (pe_fld (pv 1) rfl) (pe_callB call_len_str (by rfl) T.b_len (by decide +kernel) (pa_cons (pe_fld (pv 1) rfl) pa_nil))) rfl)
      (pss_one (ps_ret (pv 1)))))), ?_⟩)
  obtain ⟨r, ts, rfl, ⟨dx, tl, t, pl, hR, rfl⟩, kF, kQ⟩ := h
  refine st_seqSetG (R := fun v H' => ∃ q x rest w, v = .ref q ∧ tk t pl = x :: rest ∧ Wr x.2 w ∧ TokAt A H' q x w ∧ Same H H' ∧ H q = none ∧ x.1 + w.length ≤ t.length ∧ (x.2 ≠ .over → tk t (x.1 + w.length) = rest))
    (evg_meth (val_var rfl) hR.ob (rdF_m (by decide +kernel) (by decide +kernel)) eva_nil fun H1 s1 Q z => ?_) fun v H1 h1 => ?_
  · exact ⟨r, dx, tl, t, pl, rfl, hR.mono s1, fun p k rest e => by have := (kF (by rw [e]; rfl)).thrown.mono s1; rw [e] at this; exact this, fun x rest w e1 e2 e3 e4 q H2 n s2 h2 => z _ H2 ⟨q, x, rest, w, rfl, e1, e2, h2, s1.trans s2, s1.free n, e3, e4⟩⟩
  obtain ⟨q, x, rest, w, rfl, e1, e2, ⟨dq, e3⟩, s1, nq, e5, e6⟩ := h1
  have hne : q ≠ r := fun z => by rw [z, hR.ob] at nq; cases nq
  refine st_seqIfV (ans_eqV (val_fld (val_var rfl) e3 T.cToken T.n_Token_kind (tokF_kind _ _ _)) val_c rfl) (fun hb => ?_) fun hb => ?_
  · rw [kind_end e2] at hb
    obtain ⟨p, k⟩ := x
    cases k with
    | over =>
      have := (kF (by rw [e1]; rfl)).thrown.mono s1
      rw [e1] at this
      exact st_fault (D := {nx := fun _ _ => True, rt := fun _ _ => True}) (eva_cons (evs_of val_c) fun H2 s2 => eva_cons (evs_of (val_fld (val_var rfl) (s2 _ _ e3) T.cToken T.n_Token_place (tokF_place _ _ _))) fun _ _ => eva_nil) this
    | word v => cases hb
    | num v => cases hb
    | sign v => cases hb
    | bad v => cases hb
  rw [kind_end e2] at hb
  have hno : x.2 ≠ .over := fun z => by rw [z] at hb; cases hb
  have hst : stuck (x :: rest) = false := by
    obtain ⟨p, k⟩ := x
    cases k with
    | over => exact absurd rfl hno
    | bad k => exact e2.elim
    | word v => rfl
    | num v => rfl
    | sign v => rfl
  have hwl : w.length ≤ 5000 := by have := hR.len; omega
  refine st_seqFld (y := .int ((x.1 + w.length : Nat) : Int)) (val_eq (val_I0 (g := fun i j => .int (i + j)) (val_fld (val_var rfl) e3 T.cToken T.n_Token_place (tokF_place _ _ _)) (val_lenS (strOf_len w) (by omega) (val_fld (val_var rfl) e3 T.cToken T.n_Token_written (tokF_written _ _ _)))) (by rw [Int.natCast_add])) (val_var rfl) (s1 _ _ hR.ob) T.cReader T.n_Reader_place (by show 2 < 1000; decide) ?_
  refine st_ret (val_var rfl) ?_
  rw [rdF_put]
  have hbut : But r H (upd H1 r (.ins A.cReader dx (rdF tl (x.1 + w.length)))) := ⟨fun b o hb e => by rw [upd_ne hb]; exact s1 _ _ e, fun C dx' tl' pl' e => by
    rw [hR.ob] at e
    injection e with e
    injection e with e1 e2 e3
    subst e1
    subst e2
    exact ⟨_, by rw [upd_same, rdF_inj e3]⟩⟩
  refine kQ x rest w e1 (by rw [e1]; exact hst) e2 q _ nq hne hbut ⟨dq, by rw [upd_ne hne]; exact e3⟩ ⟨dx, tl, t, x.1 + w.length, ⟨upd_same, ?_, hR.len, e5⟩, e6 hno⟩
  have hx := hR.tx
  rw [upd_ne (fun z => by rw [z, hR.ob] at hx; cases hx)]
  exact s1 _ _ hx
end
end Tp
namespace Tp
open PySem PySem.Spec PyProof.Rows L2
section
variable {P : Program} {w : World} {K : PySem.W.Frag} {mg : Str → Option Value} {base : Heap} {A : Ad}
open Vatsld (Toks Fault)
def sp_Reader_take_written (A : Ad) : Sp := fun vs H Q E => ∃ (r : Addr) (ts : Toks) (w0 : List Nat) (m : Bool), vs = [.ref r, .str (strOf w0)] ∧ RS A H r ts ∧ (∀ x rest w, ts = x :: rest → Wr x.2 w → (w == w0) = m) ∧ (m = true → stuck ts = false) ∧
  (m = false → ThrownB A H r E (Vatsld.faultAt ts)) ∧ (m = true → ∀ x rest w, ts = x :: rest → ∀ q H', H q = none → q ≠ r → But r H H' → TokAt A H' q x w → RS A H' r rest → Q (.ref q) H')
/-! ### Reader.take_written -/
abbrev s_Reader_take_written : Stmt := inClass (top 75) 4
theorem sc_Reader_take_written : FnScope ["self", "written", "token"] ["self", "written"] (defScope s_Reader_take_written) := ⟨rfl, rfl, rfl, by decide +kernel, rfl, by decide +kernel, by decide +kernel⟩
theorem ok_Reader_take_written {f : Addr} {fd : FuncData} (F : Fun K "take_written" "Reader.take_written" s_Reader_take_written f fd) (T : Txt K mg A) (TF : TxF K mg A)
    (C_Fault_init : CalF P w K mg base A.cFault (sp_Fault_init A))
    (C_Reader_take : CalM P w K mg base (L2.CX P w) 7 A.cReader "take" ["self"] (sp_Reader_take A)) : FnOk P w K mg base (L2.CX P w) 8 f fd ["self", "written"] (sp_Reader_take_written A) := by
  obtain ⟨f_Fault, fd_Fault, i_Fault, t_Fault, b_Fault, G_Fault⟩ := C_Fault_init.ex
  obtain ⟨f_Reader_take, fd_Reader_take, m_Reader_take, b_Reader_take, G_Reader_take⟩ := C_Reader_take.ex
  refine F.okX sc_Reader_take_written (fun vs H Q E h => by revert h; first | (rintro ⟨rfl, _⟩; rfl) | (rintro ⟨_, rfl, _⟩; rfl) | (rintro ⟨_, _, rfl, _⟩; rfl) | (rintro ⟨_, _, _, rfl, _⟩; rfl) | (rintro ⟨_, _, _, _, rfl, _⟩; rfl) | (rintro ⟨_, _, _, _, _, rfl, _⟩; rfl) | (rintro ⟨_, _, _, _, _, _, rfl, _⟩; rfl) | (rintro ⟨_, _, _, _, _, _, _, rfl, _⟩; rfl) | (rintro ⟨_, _, _, _, _, _, _, _, rfl, _⟩; rfl) | (rintro ⟨_, _, _, _, _, _, _, _, _, rfl, _⟩; rfl) | (rintro ⟨_, _, _, _, _, _, _, _, _, _, rfl, _⟩; rfl) | (rintro ⟨_, _, _, _, _, _, _, _, _, _, _, rfl, _⟩; rfl)) (fun cdv Ar outer s H vs Q E hr h => ⟨_, 
  (pss_cons (ps_set (i := 2) sc_Reader_take_written.nd rfl (Or.inl rfl) (pe_meth0 (pv 0) T.cReader m_Reader_take G_Reader_take (hr.mono (by decide)) b_Reader_take .nil (passes_call (takes_of rfl rfl rfl rfl) (fun _ _ _ _ z => z))))
      (pss_cons (ps_if (pt_cmpR op_ne (pe_fld (pv 2) rfl) (pv 1) (nomark _)) (pss_one (ps_raise rfl (takes_of rfl rfl rfl rfl) (pmk_fx TF.fx i_Fault t_Fault G_Fault (hr.mono (by decide)) b_Fault pass0 rfl TF.g (pa_cons (pe_num (by rfl) T.k_MISPLACED) (pa_cons (pe_fld (pv 2) rfl) pa_nil))))) pss_nil)
      (pss_one (ps_ret (pv 2))))), ?_⟩)
  obtain ⟨r, ts, w0, m, rfl, hR, hm, hst, kF, kQ⟩ := h
  obtain ⟨dx, tl, pl, hob⟩ := hR.ins
  refine st_seqSetG (R := fun v H' => ∃ q x rest w, v = .ref q ∧ ts = x :: rest ∧ stuck ts = false ∧ Wr x.2 w ∧ H q = none ∧ q ≠ r ∧ But r H H' ∧ TokAt A H' q x w ∧ RS A H' r rest)
    (evg_meth (val_var rfl) hob (rdF_m (by decide +kernel) (by decide +kernel)) eva_nil fun H1 s1 Q z => ?_) fun v H1 h1 => ?_
  · refine ⟨r, ts, rfl, hR.mono s1, fun e => ?_, fun x rest w e1 e2 e3 q H2 n hne b h2 r2 => z _ H2 ⟨q, x, rest, w, rfl, e1, e2, e3, s1.free n, hne, (s1.but r).trans b, h2, r2⟩⟩
    refine (kF ?_).mono (s1.but r)
    cases m with
    | false => rfl
    | true => rw [hst rfl] at e; cases e
  obtain ⟨q, x, rest, w, rfl, e1, e2, e3, nq, hne, b, ⟨dq, e4⟩, r2⟩ := h1
  have hmw := hm x rest w e1 e3
  refine st_seqIfV (b := !m) (ans_ne (val_fld (val_var rfl) e4 T.cToken T.n_Token_written (tokF_written _ _ _)) (val_var rfl) rfl (by rw [dec_str, hmw])) (fun hb => ?_) fun hb => ?_
  · have := (kF (not_t hb)).mono b
    rw [e1] at e2 this
    rw [(stuck_not e2).2.2] at this
    exact st_fault (D := {nx := fun _ _ => True, rt := fun _ _ => True}) (eva_cons (evs_of val_c) fun H2 s2 => eva_cons (evs_of (val_fld (val_var rfl) (s2 _ _ e4) T.cToken T.n_Token_place (tokF_place _ _ _))) fun _ _ => eva_nil) this.thrown
  · exact st_ret (val_var rfl) (kQ (not_f hb) x rest w e1 q H1 nq hne b ⟨dq, e4⟩ r2)

def sp_Reader_take_name (A : Ad) : Sp := fun vs H Q E => ∃ (r : Addr) (ts : Toks), vs = [.ref r] ∧ RS A H r ts ∧
  Gives A H r E (Vatsld.readName ts) (fun a H' => ∀ q, H q = none → q ≠ r → TokAt A H' q (a.1, .word a.2) a.2 → Q (.ref q) H')
theorem inV_keys (w : List Nat) : inV (.str (strOf w)) [.str "group", .str "test", .str "cost", .str "chance", .str "in", .str "after"] = Vatsld.reserved.contains w := by
  have e : ∀ (s : Str) (l : List Nat), s = strOf l → (s == strOf w) = (w == l) := fun s l h => by
    rw [h, Bool.eq_iff_iff, beq_iff_eq, beq_iff_eq, strOf_inj]
    exact eq_comm
  show ((("group" : Str) == strOf w) || ((("test" : Str) == strOf w) || ((("cost" : Str) == strOf w) || ((("chance" : Str) == strOf w) || ((("in" : Str) == strOf w) || ((("after" : Str) == strOf w) || false)))))) = _
  rw [e _ (Vatsld.ascii "group") (by decide +kernel), e _ (Vatsld.ascii "test") (by decide +kernel), e _ (Vatsld.ascii "cost") (by decide +kernel), e _ (Vatsld.ascii "chance") (by decide +kernel), e _ (Vatsld.ascii "in") (by decide +kernel), e _ (Vatsld.ascii "after") (by decide +kernel)]
  rfl
def isWordT : Vatsld.Tok → Bool
  | .word _ => true
  | _ => false
def isNumT : Vatsld.Tok → Bool
  | .num _ => true
  | _ => false
theorem kind_word {x : Nat × Vatsld.Tok} {w : List Nat} (h : Wr x.2 w) : decide (V.str (kindS x.2) = .str ("word" : Str)) = isWordT x.2 := by
  obtain ⟨p, k⟩ := x
  cases k with
  | word v => simp [kindS, isWordT]
  | bad k => exact h.elim
  | over =>
    show _ = false
    rw [decide_eq_false]
    intro z
    have := V.str.inj z
    revert this
    show ¬ ("end" : Str) = "word"
    decide +kernel
  | num v =>
    show _ = false
    rw [decide_eq_false]
    intro z
    have := V.str.inj z
    revert this
    show ¬ ("number" : Str) = "word"
    decide +kernel
  | sign v =>
    show _ = false
    rw [decide_eq_false]
    intro z
    have := V.str.inj z
    revert this
    show ¬ ("sign" : Str) = "word"
    decide +kernel
theorem kind_num {x : Nat × Vatsld.Tok} {w : List Nat} (h : Wr x.2 w) : decide (V.str (kindS x.2) = .str ("number" : Str)) = isNumT x.2 := by
  obtain ⟨p, k⟩ := x
  cases k with
  | num v => simp [kindS, isNumT]
  | bad k => exact h.elim
  | over =>
    show _ = false
    rw [decide_eq_false]
    intro z
    have := V.str.inj z
    revert this
    show ¬ ("end" : Str) = "number"
    decide +kernel
  | word v =>
    show _ = false
    rw [decide_eq_false]
    intro z
    have := V.str.inj z
    revert this
    show ¬ ("word" : Str) = "number"
    decide +kernel
  | sign v =>
    show _ = false
    rw [decide_eq_false]
    intro z
    have := V.str.inj z
    revert this
    show ¬ ("sign" : Str) = "number"
    decide +kernel
theorem readName_stuck {ts : Toks} (h : stuck ts = true) : Vatsld.readName ts = .error (Vatsld.faultAt ts) := by
  cases ts with
  | nil => cases h
  | cons x r => obtain ⟨p, k⟩ := x; cases k <;> first | rfl | cases h
/-! ### Reader.take_name -/
abbrev s_Reader_take_name : Stmt := inClass (top 75) 5
theorem sc_Reader_take_name : FnScope ["self", "token"] ["self"] (defScope s_Reader_take_name) := ⟨rfl, rfl, rfl, by decide +kernel, rfl, by decide +kernel, by decide +kernel⟩
theorem ok_Reader_take_name {f : Addr} {fd : FuncData} (F : Fun K "take_name" "Reader.take_name" s_Reader_take_name f fd) (T : Txt K mg A) (TF : TxF K mg A)
    (C_Fault_init : CalF P w K mg base A.cFault (sp_Fault_init A))
    (C_Reader_take : CalM P w K mg base (L2.CX P w) 7 A.cReader "take" ["self"] (sp_Reader_take A)) : FnOk P w K mg base (L2.CX P w) 8 f fd ["self"] (sp_Reader_take_name A) := by
  obtain ⟨f_Fault, fd_Fault, i_Fault, t_Fault, b_Fault, G_Fault⟩ := C_Fault_init.ex
  obtain ⟨f_Reader_take, fd_Reader_take, m_Reader_take, b_Reader_take, G_Reader_take⟩ := C_Reader_take.ex
  refine F.okX sc_Reader_take_name (fun vs H Q E h => by revert h; first | (rintro ⟨rfl, _⟩; rfl) | (rintro ⟨_, rfl, _⟩; rfl) | (rintro ⟨_, _, rfl, _⟩; rfl) | (rintro ⟨_, _, _, rfl, _⟩; rfl) | (rintro ⟨_, _, _, _, rfl, _⟩; rfl) | (rintro ⟨_, _, _, _, _, rfl, _⟩; rfl) | (rintro ⟨_, _, _, _, _, _, rfl, _⟩; rfl) | (rintro ⟨_, _, _, _, _, _, _, rfl, _⟩; rfl) | (rintro ⟨_, _, _, _, _, _, _, _, rfl, _⟩; rfl) | (rintro ⟨_, _, _, _, _, _, _, _, _, rfl, _⟩; rfl) | (rintro ⟨_, _, _, _, _, _, _, _, _, _, rfl, _⟩; rfl) | (rintro ⟨_, _, _, _, _, _, _, _, _, _, _, rfl, _⟩; rfl)) (fun cdv Ar outer s H vs Q E hr h => ⟨_, 
  (pss_cons (ps_set (i := 1) sc_Reader_take_name.nd rfl (Or.inl rfl) (pe_meth0 (pv 0) T.cReader m_Reader_take G_Reader_take (hr.mono (by decide)) b_Reader_take .nil (passes_call (takes_of rfl rfl rfl rfl) (fun _ _ _ _ z => z))))
      (pss_cons (ps_if (PW.pt (pw_or (pt_cmpR op_ne (pe_fld (pv 1) rfl) (pe_txt (by rfl) T.k_WORD) (nomark _)) (pw_or1 (pt_cmpR op_in_seq (pe_fld (pv 1) rfl) (pe_gref (by rfl) T.k_KEYWORDS) (by rfl))))) (pss_one (ps_raise rfl (takes_of rfl rfl rfl rfl) (pmk_fx TF.fx i_Fault t_Fault G_Fault (hr.mono (by decide)) b_Fault pass0 rfl TF.g (pa_cons (pe_num (by rfl) T.k_MISPLACED) (pa_cons (pe_fld (pv 1) rfl) pa_nil))))) pss_nil)
      (pss_one (ps_ret (pv 1))))), ?_⟩)
  obtain ⟨r, ts, rfl, hR, kG⟩ := h
  obtain ⟨dx, tl, pl, hob⟩ := hR.ins
  refine st_seqSetG (R := fun v H' => ∃ q x rest w, v = .ref q ∧ ts = x :: rest ∧ stuck ts = false ∧ Wr x.2 w ∧ H q = none ∧ q ≠ r ∧ But r H H' ∧ TokAt A H' q x w ∧ RS A H' r rest)
    (evg_meth (val_var rfl) hob (rdF_m (by decide +kernel) (by decide +kernel)) eva_nil fun H1 s1 Q z => ?_) fun v H1 h1 => ?_
  · exact ⟨r, ts, rfl, hR.mono s1, fun e => (kG.1 _ (readName_stuck e)).mono (s1.but r), fun x rest w e1 e2 e3 q H2 n hne b h2 r2 => z _ H2 ⟨q, x, rest, w, rfl, e1, e2, e3, s1.free n, hne, (s1.but r).trans b, h2, r2⟩⟩
  obtain ⟨q, x, rest, w, rfl, e1, e2, e3, nq, hne, b, ⟨dq, e4⟩, r2⟩ := h1
  have ht : ∀ f, Vatsld.readName ts = .error f → Thrown A H1 E f := fun f ef => ((kG.1 f ef).mono b).thrown
  have fin : ∀ {H2 : Hp} {f : Fault}, Same H1 H2 → f = (3, x.1) → Vatsld.readName ts = .error f → tMkO A.cFault (sp_Fault_init A) [] (tCons (tC (.int 3)) (tCons (tFld K (tVar 1) "place") tNil)) ([some (.ref r), some (.ref q)] : L2.St) H2 E := fun s2 hf ef =>
    mk_fault (p := x.1) (k := 3) (eva_cons (evs_of val_c) fun H3 s3 => eva_cons (evs_of (val_fld (val_var rfl) (s3 _ _ (s2 _ _ e4)) T.cToken T.n_Token_place (tokF_place _ _ _))) fun _ _ => eva_nil) ((hf ▸ ht _ ef).mono s2)
  obtain ⟨p, k⟩ := x
  rw [e1] at e2
  have h3 := (stuck_not e2).2.2
  refine st_seqIfV (b := !isWordT k || Vatsld.reserved.contains w) (ans_or2 (ans_ne (val_fld (val_var rfl) e4 T.cToken T.n_Token_kind (tokF_kind _ _ _)) val_c rfl (by rw [kind_word (x := (p, k)) e3])) fun _ =>
    val_test (val_op (val_fld (val_var rfl) e4 T.cToken T.n_Token_written (tokF_written _ _ _)) val_c fun Q z => ⟨A.tKeys, _, rfl, .inr (T.t_KEYWORDS H1), rfl, rfl, by rw [inV_keys]; exact z⟩)) (fun hb => ?_) fun hb => ?_
  · cases k with
    | bad k => exact e3.elim
    | over => exact absurd rfl (stuck_not e2).1
    | num n => exact fin (Same.refl _) rfl (by rw [e1]; rfl)
    | sign c => exact fin (Same.refl _) rfl (by rw [e1]; rfl)
    | word v =>
      obtain ⟨rfl, _⟩ := e3
      have hb : Vatsld.reserved.contains w = true := hb
      exact fin (Same.refl _) rfl (by rw [e1]; show (if Vatsld.reserved.contains w then _ else _) = _; rw [if_pos hb])
  · cases k with
    | bad k => exact e3.elim
    | over => exact absurd rfl (stuck_not e2).1
    | num n => cases hb
    | sign c => cases hb
    | word v =>
      obtain ⟨rfl, _⟩ := e3
      have hb : Vatsld.reserved.contains w = false := hb
      refine st_ret (val_var rfl) (kG.2 (p, w) rest (by rw [e1]; show (if Vatsld.reserved.contains w then _ else _) = _; rw [hb, if_neg Bool.false_ne_true]) H1 b r2 q nq hne ⟨dq, e4⟩)

def sp_Reader_take_number (A : Ad) : Sp := fun vs H Q E => ∃ (r : Addr) (ts : Toks), vs = [.ref r] ∧ RS A H r ts ∧ ((∀ p n rest, ts ≠ (p, .num n) :: rest) → ThrownB A H r E (Vatsld.faultAt ts)) ∧
  (∀ p n rest w, ts = (p, .num n) :: rest → Wr (.num n) w → ∀ q H', H q = none → q ≠ r → But r H H' → TokAt A H' q (p, .num n) w → RS A H' r rest → Q (.ref q) H')
/-! ### Reader.take_number -/
abbrev s_Reader_take_number : Stmt := inClass (top 75) 6
theorem sc_Reader_take_number : FnScope ["self", "token"] ["self"] (defScope s_Reader_take_number) := ⟨rfl, rfl, rfl, by decide +kernel, rfl, by decide +kernel, by decide +kernel⟩
theorem ok_Reader_take_number {f : Addr} {fd : FuncData} (F : Fun K "take_number" "Reader.take_number" s_Reader_take_number f fd) (T : Txt K mg A) (TF : TxF K mg A)
    (C_Fault_init : CalF P w K mg base A.cFault (sp_Fault_init A))
    (C_Reader_take : CalM P w K mg base (L2.CX P w) 7 A.cReader "take" ["self"] (sp_Reader_take A)) : FnOk P w K mg base (L2.CX P w) 8 f fd ["self"] (sp_Reader_take_number A) := by
  obtain ⟨f_Fault, fd_Fault, i_Fault, t_Fault, b_Fault, G_Fault⟩ := C_Fault_init.ex
  obtain ⟨f_Reader_take, fd_Reader_take, m_Reader_take, b_Reader_take, G_Reader_take⟩ := C_Reader_take.ex
  refine F.okX sc_Reader_take_number (fun vs H Q E h => by revert h; first | (rintro ⟨rfl, _⟩; rfl) | (rintro ⟨_, rfl, _⟩; rfl) | (rintro ⟨_, _, rfl, _⟩; rfl) | (rintro ⟨_, _, _, rfl, _⟩; rfl) | (rintro ⟨_, _, _, _, rfl, _⟩; rfl) | (rintro ⟨_, _, _, _, _, rfl, _⟩; rfl) | (rintro ⟨_, _, _, _, _, _, rfl, _⟩; rfl) | (rintro ⟨_, _, _, _, _, _, _, rfl, _⟩; rfl) | (rintro ⟨_, _, _, _, _, _, _, _, rfl, _⟩; rfl) | (rintro ⟨_, _, _, _, _, _, _, _, _, rfl, _⟩; rfl) | (rintro ⟨_, _, _, _, _, _, _, _, _, _, rfl, _⟩; rfl) | (rintro ⟨_, _, _, _, _, _, _, _, _, _, _, rfl, _⟩; rfl)) (fun cdv Ar outer s H vs Q E hr h => ⟨_, 
  (pss_cons (ps_set (i := 1) sc_Reader_take_number.nd rfl (Or.inl rfl) (pe_meth0 (pv 0) T.cReader m_Reader_take G_Reader_take (hr.mono (by decide)) b_Reader_take .nil (passes_call (takes_of rfl rfl rfl rfl) (fun _ _ _ _ z => z))))
      (pss_cons (ps_if (pt_cmpR op_ne (pe_fld (pv 1) rfl) (pe_txt (by rfl) T.k_NUMBER) (nomark _)) (pss_one (ps_raise rfl (takes_of rfl rfl rfl rfl) (pmk_fx TF.fx i_Fault t_Fault G_Fault (hr.mono (by decide)) b_Fault pass0 rfl TF.g (pa_cons (pe_num (by rfl) T.k_MISPLACED) (pa_cons (pe_fld (pv 1) rfl) pa_nil))))) pss_nil)
      (pss_one (ps_ret (pv 1))))), ?_⟩)
  obtain ⟨r, ts, rfl, hR, kF, kQ⟩ := h
  obtain ⟨dx, tl, pl, hob⟩ := hR.ins
  refine st_seqSetG (R := fun v H' => ∃ q x rest w, v = .ref q ∧ ts = x :: rest ∧ stuck ts = false ∧ Wr x.2 w ∧ H q = none ∧ q ≠ r ∧ But r H H' ∧ TokAt A H' q x w ∧ RS A H' r rest)
    (evg_meth (val_var rfl) hob (rdF_m (by decide +kernel) (by decide +kernel)) eva_nil fun H1 s1 Q z => ?_) fun v H1 h1 => ?_
  · exact ⟨r, ts, rfl, hR.mono s1, fun e => (kF fun p n rest z => by rw [z] at e; cases e).mono (s1.but r), fun x rest w e1 e2 e3 q H2 n hne b h2 r2 => z _ H2 ⟨q, x, rest, w, rfl, e1, e2, e3, s1.free n, hne, (s1.but r).trans b, h2, r2⟩⟩
  obtain ⟨q, x, rest, w, rfl, e1, e2, e3, nq, hne, b, ⟨dq, e4⟩, r2⟩ := h1
  obtain ⟨p, k⟩ := x
  rw [e1] at e2
  have h3 := (stuck_not e2).2.2
  have fin : (∀ p n rest, ts ≠ (p, .num n) :: rest) → tMkO A.cFault (sp_Fault_init A) [] (tCons (tC (.int 3)) (tCons (tFld K (tVar 1) "place") tNil)) ([some (.ref r), some (.ref q)] : L2.St) H1 E := fun hn => by
    have := ((kF hn).mono b).thrown
    rw [e1, h3] at this
    exact mk_fault (p := p) (k := 3) (eva_cons (evs_of val_c) fun H3 s3 => eva_cons (evs_of (val_fld (val_var rfl) (s3 _ _ e4) T.cToken T.n_Token_place (tokF_place _ _ _))) fun _ _ => eva_nil) this
  refine st_seqIfV (b := !isNumT k) (ans_ne (val_fld (val_var rfl) e4 T.cToken T.n_Token_kind (tokF_kind _ _ _)) val_c rfl (by rw [kind_num (x := (p, k)) e3])) (fun hb => ?_) fun hb => ?_
  · cases k with
    | num n => cases hb
    | bad k => exact e3.elim
    | over => exact absurd rfl (stuck_not e2).1
    | word v => exact fin fun p n rest z => by rw [e1] at z; cases z
    | sign v => exact fin fun p n rest z => by rw [e1] at z; cases z
  · cases k with
    | num n => exact st_ret (val_var rfl) (kQ p n rest w e1 e3 q H1 nq hne b ⟨dq, e4⟩ r2)
    | bad k => exact e3.elim
    | over => exact absurd rfl (stuck_not e2).1
    | word v => cases hb
    | sign v => cases hb
end
end Tp
namespace Tp
open PySem PySem.Spec PyProof.Rows L2
section
variable {P : Program} {w : World} {K : PySem.W.Frag} {mg : Str → Option Value} {base : Heap} {A : Ad}
open Vatsld (Toks Fault)
/-! ### what the reader leaves -/
theorem notR {H : Hp} {r q C dx tl : Addr} {pl : Nat} {o : HO} (h : H r = some (.ins C dx (rdF tl pl))) (e : H q = some o) (n : ∀ C dx, o ≠ .ins C dx (rdF tl pl)) : q ≠ r := fun z => by
  rw [z, h] at e
  exact n _ _ (Option.some.inj e).symm
theorem lst_notR {H : Hp} {r q C dx tl : Addr} {pl : Nat} {xs : List V} (h : H r = some (.ins C dx (rdF tl pl))) (e : H q = some (.lst xs)) : q ≠ r := notR h e fun _ _ z => by cases z
theorem name_notR {H : Hp} {r q C C' dx dx' tl : Addr} {pl : Nat} {fs : List (Str × V)} {v : V} (h : H r = some (.ins C dx (rdF tl pl))) (e : H q = some (.ins C' dx' fs)) (hf : fs.lookup ("name" : Str) = some v) : q ≠ r := notR h e fun _ _ z => by
  injection z with _ _ z
  rw [z, rdF_m (by decide +kernel) (by decide +kernel)] at hf
  cases hf
theorem groups_notR {H : Hp} {r q C C' dx dx' tl : Addr} {pl : Nat} {fs : List (Str × V)} {v : V} (h : H r = some (.ins C dx (rdF tl pl))) (e : H q = some (.ins C' dx' fs)) (hf : fs.lookup ("groups" : Str) = some v) : q ≠ r := notR h e fun _ _ z => by
  injection z with _ _ z
  rw [z, rdF_m (by decide +kernel) (by decide +kernel)] at hf
  cases hf
section
variable {H H' : Hp} {r C dx tl : Addr} {pl : Nat}
theorem GroupAt.but {a : Addr} {g : Vatsld.Group} (h : H r = some (.ins C dx (rdF tl pl))) (b : But r H H') (x : GroupAt A H a g) : GroupAt A H' a g := let ⟨dq, e⟩ := x; ⟨dq, b _ _ (name_notR h e (grF_name g)) e⟩
theorem TestAt.but {a : Addr} {j : Vatsld.Job} (h : H r = some (.ins C dx (rdF tl pl))) (b : But r H H') (x : TestAt A H a j) : TestAt A H' a j := let ⟨dq, la, e, e2⟩ := x; ⟨dq, la, b _ _ (name_notR h e (teF_name j la)) e, b _ _ (lst_notR h e2) e2⟩
theorem PlanAt.but {a : Addr} {p : Vatsld.Plan} (h : H r = some (.ins C dx (rdF tl pl))) (b : But r H H') (x : PlanAt A H a p) : PlanAt A H' a p :=
  let ⟨dq, lg, lt, gs, ts, e1, e2, e3, e4, e5⟩ := x
  ⟨dq, lg, lt, gs, ts, b _ _ (groups_notR h e1 (plF_groups lg lt)) e1, b _ _ (lst_notR h e2) e2, b _ _ (lst_notR h e3) e3, e4.mono fun _ _ z => z.but h b, e5.mono fun _ _ z => z.but h b⟩
theorem Named.but {m : Addr} {names : List (List Nat)} (h : H r = some (.ins C dx (rdF tl pl))) (b : But r H H') (x : Named A H m names) : Named A H' m names :=
  let ⟨xs, e1, e2, e3⟩ := x
  ⟨xs, b _ _ (lst_notR h e1) e1, e2, fun i nm hi => let ⟨q, C, dx, fs, f1, f2, f3, f4⟩ := e3 i nm hi; ⟨q, C, dx, fs, f1, b _ _ (name_notR h f2 f4) f2, f3, f4⟩⟩
end
theorem PlanAt.gnames {H : Hp} {a : Addr} {p : Vatsld.Plan} (h : PlanAt A H a p) : ∃ dx lg lt, H a = some (.ins A.cPlan dx (plF lg lt)) ∧ Named A H lg (p.groups.map (·.name)) := by
  obtain ⟨dx, lg, lt, gs, ts, e1, e2, e3, e4, e5⟩ := h
  refine ⟨dx, lg, lt, e1, gs, e2, by rw [List.length_map]; exact e4.1, fun i nm hi => ?_⟩
  rw [List.getElem?_map] at hi
  cases hg : p.groups[i]? with
  | none => rw [hg] at hi; cases hi
  | some g =>
    rw [hg] at hi
    cases hi
    obtain ⟨q, f1, dq, f2⟩ := e4.2 i g hg
    exact ⟨q, A.cGroup, dq, _, f1, f2, .inl rfl, grF_name g⟩
theorem PlanAt.tnames {H : Hp} {a : Addr} {p : Vatsld.Plan} (h : PlanAt A H a p) : ∃ dx lg lt, H a = some (.ins A.cPlan dx (plF lg lt)) ∧ Named A H lt (p.jobs.map (·.name)) := by
  obtain ⟨dx, lg, lt, gs, ts, e1, e2, e3, e4, e5⟩ := h
  refine ⟨dx, lg, lt, e1, ts, e3, by rw [List.length_map]; exact e5.1, fun i nm hi => ?_⟩
  rw [List.getElem?_map] at hi
  cases hg : p.jobs[i]? with
  | none => rw [hg] at hi; cases hi
  | some g =>
    rw [hg] at hi
    cases hi
    obtain ⟨q, f1, dq, la, f2, f3⟩ := e5.2 i g hg
    exact ⟨q, A.cTest, dq, _, f1, f2, .inr rfl, teF_name g la⟩
theorem find_names {α : Type} (f : α → List Nat) (l : List α) (w : List Nat) : (l.map f).findIdx? (fun x => x == w) = l.findIdx? fun x => f x == w := by
  rw [List.findIdx?_map]
  rfl
theorem opt_is_none (o : Option Nat) : decide (optV o = .non) = o.isNone := by
  cases o with
  | none => rfl
  | some n => exact decide_eq_false nofun
theorem ans_isNS {te : TE} {σ : L2.St} {H : Hp} {x : V} {b : Bool} (h : Evs te σ H x) (hd : decide (x = .non) = b) : Ans' (tTest (tOp rIsN te (tC .non))) σ H b := ans_test (evs_op h (fun _ _ => evs_of val_c) fun _ _ Q z => ⟨rfl, by rw [hd]; exact z _ (Same.refl _)⟩)
theorem ans_notNS {te : TE} {σ : L2.St} {H : Hp} {x : V} {b : Bool} (h : Evs te σ H x) (hd : (!decide (x = .non)) = b) : Ans' (tTest (tOp rNotN te (tC .non))) σ H b := ans_test (evs_op h (fun _ _ => evs_of val_c) fun _ _ Q z => ⟨rfl, by rw [hd]; exact z _ (Same.refl _)⟩)

def sp_begin_member (A : Ad) : Sp := fun vs H Q E => ∃ (r m : Addr) (ts : Toks) (w0 : List Nat) (xs : List V) (mm : Bool) (most : Nat), vs = [.ref r, .str (strOf w0), .ref m, .int (most : Int)] ∧ RS A H r ts ∧
  (∀ x rest w, ts = x :: rest → Wr x.2 w → (w == w0) = mm) ∧ (mm = true → stuck ts = false) ∧ H m = some (.lst xs) ∧ (mm = false → ThrownB A H r E (Vatsld.faultAt ts)) ∧
  (mm = true → xs.length = most → ThrownB A H r E (5, Vatsld.here ts)) ∧ (mm = true → xs.length ≠ most → ∀ H', But r H H' → RS A H' r (ts.drop 1) → Q .non H')
/-! ### begin_member -/
abbrev s_begin_member : Stmt := top 79
theorem sc_begin_member : FnScope ["reader", "keyword", "members", "most", "token"] ["reader", "keyword", "members", "most"] (defScope s_begin_member) := ⟨rfl, rfl, rfl, by decide +kernel, rfl, by decide +kernel, by decide +kernel⟩
theorem ok_begin_member {f : Addr} {fd : FuncData} (F : Fun K "begin_member" "begin_member" s_begin_member f fd) (T : Txt K mg A) (TF : TxF K mg A)
    (C_Fault_init : CalF P w K mg base A.cFault (sp_Fault_init A))
    (C_Reader_take_written : CalM P w K mg base (L2.CX P w) 8 A.cReader "take_written" ["self", "written"] (sp_Reader_take_written A)) : FnOk P w K mg base (L2.CX P w) 9 f fd ["reader", "keyword", "members", "most"] (sp_begin_member A) := by
  obtain ⟨f_Fault, fd_Fault, i_Fault, t_Fault, b_Fault, G_Fault⟩ := C_Fault_init.ex
  obtain ⟨f_Reader_take_written, fd_Reader_take_written, m_Reader_take_written, b_Reader_take_written, G_Reader_take_written⟩ := C_Reader_take_written.ex
  refine F.okX sc_begin_member (fun vs H Q E h => by revert h; first | (rintro ⟨rfl, _⟩; rfl) | (rintro ⟨_, rfl, _⟩; rfl) | (rintro ⟨_, _, rfl, _⟩; rfl) | (rintro ⟨_, _, _, rfl, _⟩; rfl) | (rintro ⟨_, _, _, _, rfl, _⟩; rfl) | (rintro ⟨_, _, _, _, _, rfl, _⟩; rfl) | (rintro ⟨_, _, _, _, _, _, rfl, _⟩; rfl) | (rintro ⟨_, _, _, _, _, _, _, rfl, _⟩; rfl) | (rintro ⟨_, _, _, _, _, _, _, _, rfl, _⟩; rfl) | (rintro ⟨_, _, _, _, _, _, _, _, _, rfl, _⟩; rfl) | (rintro ⟨_, _, _, _, _, _, _, _, _, _, rfl, _⟩; rfl) | (rintro ⟨_, _, _, _, _, _, _, _, _, _, _, rfl, _⟩; rfl)) (fun cdv Ar outer s H vs Q E hr h => ⟨_, 
  (pss_cons (ps_set (i := 4) sc_begin_member.nd rfl (Or.inl rfl) (pe_meth (pv 0) T.cReader m_Reader_take_written G_Reader_take_written (hr.mono (by decide)) b_Reader_take_written .nil (passes_call (takes_of rfl rfl rfl rfl) (fun _ _ _ _ z => z)) (pa_cons (pv 1) pa_nil)))
      (pss_one (ps_if (pt_cmpR op_eq (pe_callB call_len_seq (by rfl) T.b_len (by decide +kernel) (pa_cons (pv 2) pa_nil)) (pv 3) (nomark _)) (pss_one (ps_raise rfl (takes_of rfl rfl rfl rfl) (pmk_fx TF.fx i_Fault t_Fault G_Fault (hr.mono (by decide)) b_Fault pass0 rfl TF.g (pa_cons (pe_num (by rfl) T.k_TOO_MANY) (pa_cons (pe_fld (pv 4) rfl) pa_nil))))) pss_nil))), ?_⟩)
  obtain ⟨r, m, ts, w0, xs, mm, most, rfl, hR, hm, hst, hml, kF, kT, kQ⟩ := h
  obtain ⟨dx, tl, pl, hob⟩ := hR.ins
  refine st_seqSetG (R := fun v H' => ∃ q x rest w, v = .ref q ∧ ts = x :: rest ∧ mm = true ∧ But r H H' ∧ TokAt A H' q x w ∧ RS A H' r rest)
    (evg_meth (val_var rfl) hob (rdF_m (by decide +kernel) (by decide +kernel)) (eva_cons (evs_of (val_var rfl)) fun _ _ => eva_nil) fun H1 s1 Q z => ?_) fun v H1 h1 => ?_
  · refine ⟨r, ts, w0, mm, rfl, hR.mono s1, hm, hst, fun e => (kF e).mono (s1.but r), fun e x rest w e1 q H2 n hne b h2 r2 => z _ H2 ⟨q, x, rest, w, rfl, e1, e, (s1.but r).trans b, h2, r2⟩⟩
  obtain ⟨q, x, rest, w, rfl, e1, e2, b, ⟨dq, e4⟩, r2⟩ := h1
  have hm1 := b _ _ (lst_notR hob hml) hml
  refine st_if (ans_eqV (val_len (SqL.of hm1) rfl (val_var rfl)) (val_var rfl) rfl) (fun hb => ?_) fun hb => ?_
  · have hl : xs.length = most := by
      have := V.int.inj (of_decide_eq_true hb)
      omega
    have := ((kT e2 hl).mono b).thrown
    rw [e1] at this
    exact st_fault (D := {nx := fun _ _ => True, rt := fun _ _ => True}) (eva_cons (evs_of val_c) fun H2 s2 => eva_cons (evs_of (val_fld (val_var rfl) (s2 _ _ e4) T.cToken T.n_Token_place (tokF_place _ _ _))) fun _ _ => eva_nil) this
  · have hl : xs.length ≠ most := fun z => by rw [z] at hb; simp at hb
    exact st_next (kQ e2 hl H1 b (by rw [e1]; exact r2))

def sp_read_new_name (A : Ad) : Sp := fun vs H Q E => ∃ (r m : Addr) (ts : Toks) (names : List (List Nat)), vs = [.ref r, .ref m] ∧ RS A H r ts ∧ Named A H m names ∧ names.length ≤ 1000 ∧
  Gives A H r E ((Vatsld.readName ts).bind fun w => if (names.findIdx? fun x => x == w.1.2).isSome then .error (6, w.1.1) else .ok (w.1.2, w.2)) (fun nm H' => Q (.str (strOf nm)) H')
/-! ### read_new_name -/
abbrev s_read_new_name : Stmt := top 80
theorem sc_read_new_name : FnScope ["reader", "members", "token"] ["reader", "members"] (defScope s_read_new_name) := ⟨rfl, rfl, rfl, by decide +kernel, rfl, by decide +kernel, by decide +kernel⟩
theorem ok_read_new_name {f : Addr} {fd : FuncData} (F : Fun K "read_new_name" "read_new_name" s_read_new_name f fd) (T : Txt K mg A) (TF : TxF K mg A)
    (C_number_of : Cal P w K mg base CX0 1 "number_of" ["members", "name"] (sp_number_of A))
    (C_Fault_init : CalF P w K mg base A.cFault (sp_Fault_init A))
    (C_Reader_take_name : CalM P w K mg base (L2.CX P w) 8 A.cReader "take_name" ["self"] (sp_Reader_take_name A)) : FnOk P w K mg base (L2.CX P w) 9 f fd ["reader", "members"] (sp_read_new_name A) := by
  obtain ⟨f_number_of, fd_number_of, m_number_of, kp_number_of, b_number_of, G_number_of⟩ := C_number_of.ex
  obtain ⟨f_Fault, fd_Fault, i_Fault, t_Fault, b_Fault, G_Fault⟩ := C_Fault_init.ex
  obtain ⟨f_Reader_take_name, fd_Reader_take_name, m_Reader_take_name, b_Reader_take_name, G_Reader_take_name⟩ := C_Reader_take_name.ex
  refine F.okX sc_read_new_name (fun vs H Q E h => by revert h; first | (rintro ⟨rfl, _⟩; rfl) | (rintro ⟨_, rfl, _⟩; rfl) | (rintro ⟨_, _, rfl, _⟩; rfl) | (rintro ⟨_, _, _, rfl, _⟩; rfl) | (rintro ⟨_, _, _, _, rfl, _⟩; rfl) | (rintro ⟨_, _, _, _, _, rfl, _⟩; rfl) | (rintro ⟨_, _, _, _, _, _, rfl, _⟩; rfl) | (rintro ⟨_, _, _, _, _, _, _, rfl, _⟩; rfl) | (rintro ⟨_, _, _, _, _, _, _, _, rfl, _⟩; rfl) | (rintro ⟨_, _, _, _, _, _, _, _, _, rfl, _⟩; rfl) | (rintro ⟨_, _, _, _, _, _, _, _, _, _, rfl, _⟩; rfl) | (rintro ⟨_, _, _, _, _, _, _, _, _, _, _, rfl, _⟩; rfl)) (fun cdv Ar outer s H vs Q E hr h => ⟨_, 
  (pss_cons (ps_set (i := 2) sc_read_new_name.nd rfl (Or.inl rfl) (pe_meth0 (pv 0) T.cReader m_Reader_take_name G_Reader_take_name (hr.mono (by decide)) b_Reader_take_name .nil (passes_call (takes_of rfl rfl rfl rfl) (fun _ _ _ _ z => z))))
      (pss_cons (ps_if (pt_cmpR op_notN1 (pe_call G_number_of (hr.mono (by decide)) rfl m_number_of kp_number_of b_number_of .nil pass0 (pa_cons (pv 1) (pa_cons (pe_fld (pv 2) rfl) pa_nil))) pe_non (nomark _)) (pss_one (ps_raise rfl (takes_of rfl rfl rfl rfl) (pmk_fx TF.fx i_Fault t_Fault G_Fault (hr.mono (by decide)) b_Fault pass0 rfl TF.g (pa_cons (pe_num (by rfl) T.k_REPEATED) (pa_cons (pe_fld (pv 2) rfl) pa_nil))))) pss_nil)
      (pss_one (ps_ret (pe_fld (pv 2) rfl))))), ?_⟩)
  obtain ⟨r, m, ts, names, rfl, hR, hN, hlen, kG⟩ := h
  obtain ⟨dx, tl, pl, hob⟩ := hR.ins
  refine st_seqSetG (R := fun v H' => ∃ q p w rest, v = .ref q ∧ But r H H' ∧ TokAt A H' q (p, .word w) w ∧ RS A H' r rest ∧ Gives A H' r E (if (names.findIdx? fun x => x == w).isSome then .error (6, p) else .ok (w, rest)) (fun nm H' => Q (.str (strOf nm)) H'))
    (evg_meth (val_var rfl) hob (rdF_m (by decide +kernel) (by decide +kernel)) eva_nil fun H1 s1 Q z => ?_) fun v H1 h1 => ?_
  · exact ⟨r, ts, rfl, hR.mono s1, (kG.mono (s1.but r)).chain fun a rest e H2 b r2 g q n hne h2 => z _ H2 ⟨q, a.1, a.2, rest, rfl, (s1.but r).trans b, h2, r2, g⟩⟩
  obtain ⟨q, p, w, rest, rfl, b, ⟨dq, e4⟩, r2, kG⟩ := h1
  have hN1 := hN.but hob b
  refine st_seqIf (b := (names.findIdx? fun x => x == w).isSome) (ans_notNS (x := optV (names.findIdx? fun x => x == w)) (evs_call (eva_cons (evs_of (val_var rfl)) fun H2 s2 => eva_cons (evs_of (val_fld (val_var rfl) (s2 _ _ e4) T.cToken T.n_Token_written (tokF_written _ _ _))) fun _ _ => eva_nil) fun H2 s2 Q z => ?_) ?_) (fun hb H2 s2 => ?_) fun hb H2 s2 => ?_
  · exact ⟨m, names, w, rfl, hN1.mono s2, hlen, fun H3 s3 => z H3 s3⟩
  · rw [opt_is_none]
    cases names.findIdx? fun x => x == w <;> rfl
  · rw [if_pos hb] at kG
    exact st_fault (D := {nx := fun _ _ => True, rt := fun _ _ => True}) (eva_cons (evs_of val_c) fun H3 s3 => eva_cons (evs_of (val_fld (val_var rfl) (s3 _ _ (s2 _ _ e4)) T.cToken T.n_Token_place (tokF_place _ _ _))) fun _ _ => eva_nil) (kG.bad.thrown.mono s2)
  · rw [hb, if_neg Bool.false_ne_true] at kG
    exact st_ret (val_fld (val_var rfl) (s2 _ _ e4) T.cToken T.n_Token_written (tokF_written _ _ _)) ((kG.mono (s2.but r)).out (r2.mono s2))

def sp_read_known_name (A : Ad) : Sp := fun vs H Q E => ∃ (r m : Addr) (ts : Toks) (names : List (List Nat)), vs = [.ref r, .ref m] ∧ RS A H r ts ∧ Named A H m names ∧ names.length ≤ 1000 ∧
  Gives A H r E ((Vatsld.readName ts).bind fun w => match names.findIdx? fun x => x == w.1.2 with
    | none => .error (7, w.1.1)
    | some i => .ok ((w.1, i), w.2)) (fun a H' => ∀ q, TokAt A H' q (a.1.1, .word a.1.2) a.1.2 → Q (.ref q) H')
/-! ### read_known_name -/
abbrev s_read_known_name : Stmt := top 81
theorem sc_read_known_name : FnScope ["reader", "members", "token"] ["reader", "members"] (defScope s_read_known_name) := ⟨rfl, rfl, rfl, by decide +kernel, rfl, by decide +kernel, by decide +kernel⟩
theorem ok_read_known_name {f : Addr} {fd : FuncData} (F : Fun K "read_known_name" "read_known_name" s_read_known_name f fd) (T : Txt K mg A) (TF : TxF K mg A)
    (C_number_of : Cal P w K mg base CX0 1 "number_of" ["members", "name"] (sp_number_of A))
    (C_Fault_init : CalF P w K mg base A.cFault (sp_Fault_init A))
    (C_Reader_take_name : CalM P w K mg base (L2.CX P w) 8 A.cReader "take_name" ["self"] (sp_Reader_take_name A)) : FnOk P w K mg base (L2.CX P w) 9 f fd ["reader", "members"] (sp_read_known_name A) := by
  obtain ⟨f_number_of, fd_number_of, m_number_of, kp_number_of, b_number_of, G_number_of⟩ := C_number_of.ex
  obtain ⟨f_Fault, fd_Fault, i_Fault, t_Fault, b_Fault, G_Fault⟩ := C_Fault_init.ex
  obtain ⟨f_Reader_take_name, fd_Reader_take_name, m_Reader_take_name, b_Reader_take_name, G_Reader_take_name⟩ := C_Reader_take_name.ex
  refine F.okX sc_read_known_name (fun vs H Q E h => by revert h; first | (rintro ⟨rfl, _⟩; rfl) | (rintro ⟨_, rfl, _⟩; rfl) | (rintro ⟨_, _, rfl, _⟩; rfl) | (rintro ⟨_, _, _, rfl, _⟩; rfl) | (rintro ⟨_, _, _, _, rfl, _⟩; rfl) | (rintro ⟨_, _, _, _, _, rfl, _⟩; rfl) | (rintro ⟨_, _, _, _, _, _, rfl, _⟩; rfl) | (rintro ⟨_, _, _, _, _, _, _, rfl, _⟩; rfl) | (rintro ⟨_, _, _, _, _, _, _, _, rfl, _⟩; rfl) | (rintro ⟨_, _, _, _, _, _, _, _, _, rfl, _⟩; rfl) | (rintro ⟨_, _, _, _, _, _, _, _, _, _, rfl, _⟩; rfl) | (rintro ⟨_, _, _, _, _, _, _, _, _, _, _, rfl, _⟩; rfl)) (fun cdv Ar outer s H vs Q E hr h => ⟨_, 
  (pss_cons (ps_set (i := 2) sc_read_known_name.nd rfl (Or.inl rfl) (pe_meth0 (pv 0) T.cReader m_Reader_take_name G_Reader_take_name (hr.mono (by decide)) b_Reader_take_name .nil (passes_call (takes_of rfl rfl rfl rfl) (fun _ _ _ _ z => z))))
      (pss_cons (ps_if (pt_cmpR op_isN1 (pe_call G_number_of (hr.mono (by decide)) rfl m_number_of kp_number_of b_number_of .nil pass0 (pa_cons (pv 1) (pa_cons (pe_fld (pv 2) rfl) pa_nil))) pe_non (nomark _)) (pss_one (ps_raise rfl (takes_of rfl rfl rfl rfl) (pmk_fx TF.fx i_Fault t_Fault G_Fault (hr.mono (by decide)) b_Fault pass0 rfl TF.g (pa_cons (pe_num (by rfl) T.k_UNKNOWN) (pa_cons (pe_fld (pv 2) rfl) pa_nil))))) pss_nil)
      (pss_one (ps_ret (pv 2))))), ?_⟩)
  obtain ⟨r, m, ts, names, rfl, hR, hN, hlen, kG⟩ := h
  obtain ⟨dx, tl, pl, hob⟩ := hR.ins
  refine st_seqSetG (R := fun v H' => ∃ q p w rest, v = .ref q ∧ But r H H' ∧ TokAt A H' q (p, .word w) w ∧ RS A H' r rest ∧ Gives A H' r E (match names.findIdx? fun x => x == w with | none => (.error (7, p) : Except Fault (((Nat × List Nat) × Nat) × Toks)) | some i => .ok (((p, w), i), rest)) (fun a H' => ∀ q, TokAt A H' q (a.1.1, .word a.1.2) a.1.2 → Q (.ref q) H'))
    (evg_meth (val_var rfl) hob (rdF_m (by decide +kernel) (by decide +kernel)) eva_nil fun H1 s1 Q z => ?_) fun v H1 h1 => ?_
  · exact ⟨r, ts, rfl, hR.mono s1, (kG.mono (s1.but r)).chain fun a rest e H2 b r2 g q n hne h2 => z _ H2 ⟨q, a.1, a.2, rest, rfl, (s1.but r).trans b, h2, r2, g⟩⟩
  obtain ⟨q, p, w, rest, rfl, b, ⟨dq, e4⟩, r2, kG⟩ := h1
  have hN1 := hN.but hob b
  refine st_seqIf (b := (names.findIdx? fun x => x == w).isNone) (ans_isNS (x := optV (names.findIdx? fun x => x == w)) (evs_call (eva_cons (evs_of (val_var rfl)) fun H2 s2 => eva_cons (evs_of (val_fld (val_var rfl) (s2 _ _ e4) T.cToken T.n_Token_written (tokF_written _ _ _))) fun _ _ => eva_nil) fun H2 s2 Q z => ?_) (opt_is_none _)) (fun hb H2 s2 => ?_) fun hb H2 s2 => ?_
  · exact ⟨m, names, w, rfl, hN1.mono s2, hlen, fun H3 s3 => z H3 s3⟩
  · cases hf : names.findIdx? (fun x => x == w) with
    | some i => rw [hf] at hb; cases hb
    | none =>
      rw [hf] at kG
      exact st_fault (D := {nx := fun _ _ => True, rt := fun _ _ => True}) (eva_cons (evs_of val_c) fun H3 s3 => eva_cons (evs_of (val_fld (val_var rfl) (s3 _ _ (s2 _ _ e4)) T.cToken T.n_Token_place (tokF_place _ _ _))) fun _ _ => eva_nil) (kG.bad.thrown.mono s2)
  · cases hf : names.findIdx? (fun x => x == w) with
    | none => rw [hf] at hb; cases hb
    | some i =>
      rw [hf] at kG
      exact st_ret (val_var rfl) ((kG.mono (s2.but r)).out (r2.mono s2) q ⟨dq, s2 _ _ e4⟩)
end
end Tp
namespace Tp
open PySem PySem.Spec PyProof.Rows L2
section
variable {P : Program} {w : World} {K : PySem.W.Frag} {mg : Str → Option Value} {base : Heap} {A : Ad}
open Vatsld (Toks Fault)
/-! ### steps of the reader, as expressions -/
theorem tk_short (t : List Nat) (pl : Nat) : (tk t pl).length ≤ t.length + 3 := by
  have key : ∀ (w k : Nat) (s : List Nat), (Vatsld.tokensIn w k s).length ≤ k + 1 := by
    intro w k
    induction k with
    | zero => intro s; simp [Vatsld.tokensIn]
    | succ k ih =>
      intro s
      cases s with
      | nil => simp [Vatsld.tokensIn]
      | cons c r =>
        simp only [Vatsld.tokensIn]
        have h1 := ih r
        have h2 := ih (r.dropWhile fun x => x != 10)
        have h3 := ih (r.dropWhile Vatsld.inner)
        have h4 := ih (r.dropWhile Vatsld.digit)
        split
        · omega
        split
        · omega
        split
        · split <;> simp <;> omega
        split
        · split <;> simp <;> omega
        split <;> simp <;> omega
  have := key t.length (t.length - pl + 1) (t.drop pl)
  unfold tk
  omega
theorem RS.short {H : Hp} {r : Addr} {ts : Toks} (h : RS A H r ts) : ts.length ≤ 6000 := by
  obtain ⟨dx, tl, t, pl, h1, rfl⟩ := h
  have := tk_short t pl
  have := h1.len
  omega
theorem want_t {kw : String} {ts : Toks} (h : Vatsld.isWord kw ts = true) : Vatsld.wantWord kw ts = .ok (ts.drop 1) := if_pos h
theorem want_f {kw : String} {ts : Toks} (h : Vatsld.isWord kw ts = false) : Vatsld.wantWord kw ts = .error (Vatsld.faultAt ts) := if_neg (by rw [h]; exact Bool.false_ne_true)
theorem wantS_t {c : Nat} {ts : Toks} (h : Vatsld.isSign c ts = true) : Vatsld.wantSign c ts = .ok (ts.drop 1) := if_pos h
theorem wantS_f {c : Nat} {ts : Toks} (h : Vatsld.isSign c ts = false) : Vatsld.wantSign c ts = .error (Vatsld.faultAt ts) := if_neg (by rw [h]; exact Bool.false_ne_true)
theorem readNum_not {lo hi : Nat} {ts : Toks} (h : ∀ p n rest, ts ≠ (p, .num n) :: rest) : Vatsld.readNum lo hi ts = .error (Vatsld.faultAt ts) := by
  cases ts with
  | nil => rfl
  | cons x r =>
    obtain ⟨p, k⟩ := x
    cases k with
    | num n => exact absurd rfl (h p n r)
    | word v => rfl
    | sign v => rfl
    | over => rfl
    | bad v => rfl
theorem isWord_bad {kw : String} {p k : Nat} {rest : Toks} : Vatsld.isWord kw ((p, .bad k) :: rest) = false := rfl
theorem isSign_bad {c : Nat} {p k : Nat} {rest : Toks} : Vatsld.isSign c ((p, .bad k) :: rest) = false := rfl
section
variable {σ : L2.St} {H : Hp} {ta : TE} {r : Addr} {ts : Toks} {s : Str} {E : XK}
theorem evg_want {kw : String} (hs : s = strOf (Vatsld.ascii kw)) (hk : ∃ c d r, Vatsld.ascii kw = c :: d :: r ∧ Vatsld.digit c = false) (ha : Val ta σ H (.ref r)) (hR : RS A H r ts) (bad : Vatsld.isWord kw ts = false → ThrownB A H r E (Vatsld.faultAt ts)) :
    EvG (tMeth A.cReader "take_written" (sp_Reader_take_written A) [] E ta (tCons (tC (.str s)) tNil)) σ H (fun v H' => Vatsld.isWord kw ts = true ∧ But r H H' ∧ RS A H' r (ts.drop 1)) := by
  obtain ⟨dx, tl, pl, hob⟩ := hR.ins
  refine evg_meth ha hob (rdF_m (by decide +kernel) (by decide +kernel)) (eva_cons (evs_of val_c) fun _ _ => eva_nil) fun H1 s1 Q z => ?_
  exact ⟨r, ts, Vatsld.ascii kw, Vatsld.isWord kw ts, by rw [hs], hR.mono s1, fun x rest w e hw => by rw [e]; exact wr_word hk hw, word_unstuck, fun e => (bad e).mono (s1.but r),
    fun e x rest w e1 q H2 n hne b h2 r2 => z _ H2 ⟨e, (s1.but r).trans b, by rw [e1]; exact r2⟩⟩
theorem evg_wantS {c : Nat} (hs : s = strOf [c]) (hc : c = 44 ∨ c = 59) (ha : Val ta σ H (.ref r)) (hR : RS A H r ts) (bad : Vatsld.isSign c ts = false → ThrownB A H r E (Vatsld.faultAt ts)) :
    EvG (tMeth A.cReader "take_written" (sp_Reader_take_written A) [] E ta (tCons (tC (.str s)) tNil)) σ H (fun v H' => Vatsld.isSign c ts = true ∧ But r H H' ∧ RS A H' r (ts.drop 1)) := by
  obtain ⟨dx, tl, pl, hob⟩ := hR.ins
  refine evg_meth ha hob (rdF_m (by decide +kernel) (by decide +kernel)) (eva_cons (evs_of val_c) fun _ _ => eva_nil) fun H1 s1 Q z => ?_
  exact ⟨r, ts, [c], Vatsld.isSign c ts, by rw [hs], hR.mono s1, fun x rest w e hw => by rw [e]; exact wr_sign hc hw, sign_unstuck, fun e => (bad e).mono (s1.but r),
    fun e x rest w e1 q H2 n hne b h2 r2 => z _ H2 ⟨e, (s1.but r).trans b, by rw [e1]; exact r2⟩⟩
theorem evg_standsW {kw : String} (hs : s = strOf (Vatsld.ascii kw)) (hk : ∃ c d r, Vatsld.ascii kw = c :: d :: r ∧ Vatsld.digit c = false) (ha : Val ta σ H (.ref r)) (hR : RS A H r ts) (bad : ∀ p k rest, ts = (p, .bad k) :: rest → ThrownB A H r E (k, p)) :
    EvG (tMeth A.cReader "stands" (sp_Reader_stands A) [] E ta (tCons (tC (.str s)) tNil)) σ H (fun v H' => v = .bl (Vatsld.isWord kw ts) ∧ Same H H') := by
  obtain ⟨dx, tl, pl, hob⟩ := hR.ins
  refine evg_meth ha hob (rdF_m (by decide +kernel) (by decide +kernel)) (eva_cons (evs_of val_c) fun _ _ => eva_nil) fun H1 s1 Q z => ?_
  exact ⟨r, ts, Vatsld.ascii kw, Vatsld.isWord kw ts, by rw [hs], hR.mono s1, fun x rest w e hw => by rw [e]; exact wr_word hk hw, fun p k rest e => (bad p k rest e).thrown.mono s1, fun H2 s2 => z _ H2 ⟨rfl, s1.trans s2⟩⟩
theorem evg_standsS {c : Nat} (hs : s = strOf [c]) (hc : c = 44 ∨ c = 59) (ha : Val ta σ H (.ref r)) (hR : RS A H r ts) (bad : ∀ p k rest, ts = (p, .bad k) :: rest → ThrownB A H r E (k, p)) :
    EvG (tMeth A.cReader "stands" (sp_Reader_stands A) [] E ta (tCons (tC (.str s)) tNil)) σ H (fun v H' => v = .bl (Vatsld.isSign c ts) ∧ Same H H') := by
  obtain ⟨dx, tl, pl, hob⟩ := hR.ins
  refine evg_meth ha hob (rdF_m (by decide +kernel) (by decide +kernel)) (eva_cons (evs_of val_c) fun _ _ => eva_nil) fun H1 s1 Q z => ?_
  exact ⟨r, ts, [c], Vatsld.isSign c ts, by rw [hs], hR.mono s1, fun x rest w e hw => by rw [e]; exact wr_sign hc hw, fun p k rest e => (bad p k rest e).thrown.mono s1, fun H2 s2 => z _ H2 ⟨rfl, s1.trans s2⟩⟩
theorem evg_take (ha : Val ta σ H (.ref r)) (hR : RS A H r ts) (hst : stuck ts = false) : EvG (tMeth A.cReader "take" (sp_Reader_take A) [] E ta tNil) σ H (fun v H' => But r H H' ∧ RS A H' r (ts.drop 1)) := by
  obtain ⟨dx, tl, pl, hob⟩ := hR.ins
  refine evg_meth ha hob (rdF_m (by decide +kernel) (by decide +kernel)) eva_nil fun H1 s1 Q z => ?_
  exact ⟨r, ts, rfl, hR.mono s1, fun e => (by rw [hst] at e; cases e), fun x rest w e1 _ _ q H2 n hne b h2 r2 => z _ H2 ⟨(s1.but r).trans b, by rw [e1]; exact r2⟩⟩
theorem evg_number (ha : Val ta σ H (.ref r)) (hR : RS A H r ts) (bad : (∀ p n rest, ts ≠ (p, .num n) :: rest) → ThrownB A H r E (Vatsld.faultAt ts)) :
    EvG (tMeth A.cReader "take_number" (sp_Reader_take_number A) [] E ta tNil) σ H (fun v H' => ∃ q p n w rest, v = .ref q ∧ ts = (p, .num n) :: rest ∧ n ≤ 1000 ∧ Wr (.num n) w ∧ But r H H' ∧ TokAt A H' q (p, .num n) w ∧ RS A H' r rest) := by
  obtain ⟨dx, tl, pl, hob⟩ := hR.ins
  refine evg_meth ha hob (rdF_m (by decide +kernel) (by decide +kernel)) eva_nil fun H1 s1 Q z => ?_
  refine ⟨r, ts, rfl, hR.mono s1, fun e => (bad e).mono (s1.but r), fun p n rest w e1 e2 q H2 _ hne b h2 r2 => z _ H2 ⟨q, p, n, w, rest, rfl, e1, ?_, e2, (s1.but r).trans b, h2, r2⟩⟩
  have := hR.ok.1 (p, .num n) (by rw [e1]; exact List.mem_cons_self)
  exact this
theorem val_num {te : TE} {q : Addr} {p n : Nat} {w : List Nat} (T : Txt K mg A) (h : Val te σ H (.ref q)) (hq : TokAt A H q (p, .num n) w) (hw : Wr (.num n) w) :
    Val (tCB (fun xs H Q => ∃ a n, xs = [.str a] ∧ PySem.intText? a = some n ∧ a.length ≤ 640 ∧ Q (.int n) H) (tCons (tFld K te "written") tNil)) σ H (.int (n : Int)) := by
  obtain ⟨dq, e⟩ := hq
  obtain ⟨h1, h2, h3, h4⟩ := hw
  refine val_intS (z := strOf w) ?_ (by rw [strOf_len]; omega) (val_fld h e T.cToken T.n_Token_written (tokF_written _ _ _))
  rw [int_digits h1 h2 (by omega), h4]
end

/-! ### objects made -/
def sp_Group_init (A : Ad) : Sp := fun vs H Q _ => ∃ (x dx : Addr) (g : Vatsld.Group), vs = [.ref x, .str (strOf g.name), .int (g.setup : Int)] ∧ H x = some (.ins A.cGroup dx []) ∧
  ∀ H', (∀ b o, b ≠ x → H b = some o → H' b = some o) → H' x = some (.ins A.cGroup dx (grF g)) → Q .non H'
/-! ### Group.__init__ -/
abbrev s_Group_init : Stmt := inClass (top 2) 0
theorem sc_Group_init : FnScope ["self", "name", "setup"] ["self", "name", "setup"] (defScope s_Group_init) := ⟨rfl, rfl, rfl, by decide +kernel, rfl, by decide +kernel, by decide +kernel⟩
theorem ok_Group_init {f : Addr} {fd : FuncData} (F : Fun K "__init__" "Group.__init__" s_Group_init f fd) (T : Txt K mg A) : FnOk P w K mg base CX0 1 f fd ["self", "name", "setup"] (sp_Group_init A) := by
  refine F.ok sc_Group_init (fun vs H Q E h => by revert h; first | (rintro ⟨rfl, _⟩; rfl) | (rintro ⟨_, rfl, _⟩; rfl) | (rintro ⟨_, _, rfl, _⟩; rfl) | (rintro ⟨_, _, _, rfl, _⟩; rfl) | (rintro ⟨_, _, _, _, rfl, _⟩; rfl) | (rintro ⟨_, _, _, _, _, rfl, _⟩; rfl) | (rintro ⟨_, _, _, _, _, _, rfl, _⟩; rfl) | (rintro ⟨_, _, _, _, _, _, _, rfl, _⟩; rfl) | (rintro ⟨_, _, _, _, _, _, _, _, rfl, _⟩; rfl) | (rintro ⟨_, _, _, _, _, _, _, _, _, rfl, _⟩; rfl) | (rintro ⟨_, _, _, _, _, _, _, _, _, _, rfl, _⟩; rfl) | (rintro ⟨_, _, _, _, _, _, _, _, _, _, _, rfl, _⟩; rfl)) (fun cdv Ar outer s H vs Q E hr h => ⟨_, 
  (pss_cons (ps_fld (pv 0) (pv 1) rfl)
      (pss_one (ps_fld (pv 0) (pv 2) rfl))), ?_⟩)
  obtain ⟨x, dx, g, rfl, hx, z⟩ := h
  refine st_seqFld (val_var rfl) (val_var rfl) hx T.cGroup T.n_g_name (by simp) ?_
  refine st_fld (val_var rfl) (val_var rfl) upd_same T.cGroup T.n_g_setup (by show 1 < 1000; decide) ?_
  refine z _ (fun b o hb e => ?_) ?_
  · rw [upd_ne hb, upd_ne hb]
    exact e
  · exact upd_same.trans (congrArg (fun q => some (HO.ins A.cGroup dx q)) (put2 (by decide +kernel)))
def sp_Test_init (A : Ad) : Sp := fun vs H Q _ => ∃ (x dx la : Addr) (j : Vatsld.Job), vs = [.ref x, .str (strOf j.name), .int (j.cost : Int), .int (j.chance : Int), optV j.group, .ref la] ∧ H x = some (.ins A.cTest dx []) ∧
  ∀ H', (∀ b o, b ≠ x → H b = some o → H' b = some o) → H' x = some (.ins A.cTest dx (teF j la)) → Q .non H'
/-! ### Test.__init__ -/
abbrev s_Test_init : Stmt := inClass (top 3) 0
theorem sc_Test_init : FnScope ["self", "name", "cost", "chance", "group", "after"] ["self", "name", "cost", "chance", "group", "after"] (defScope s_Test_init) := ⟨rfl, rfl, rfl, by decide +kernel, rfl, by decide +kernel, by decide +kernel⟩
theorem ok_Test_init {f : Addr} {fd : FuncData} (F : Fun K "__init__" "Test.__init__" s_Test_init f fd) (T : Txt K mg A) : FnOk P w K mg base CX0 1 f fd ["self", "name", "cost", "chance", "group", "after"] (sp_Test_init A) := by
  refine F.ok sc_Test_init (fun vs H Q E h => by revert h; first | (rintro ⟨rfl, _⟩; rfl) | (rintro ⟨_, rfl, _⟩; rfl) | (rintro ⟨_, _, rfl, _⟩; rfl) | (rintro ⟨_, _, _, rfl, _⟩; rfl) | (rintro ⟨_, _, _, _, rfl, _⟩; rfl) | (rintro ⟨_, _, _, _, _, rfl, _⟩; rfl) | (rintro ⟨_, _, _, _, _, _, rfl, _⟩; rfl) | (rintro ⟨_, _, _, _, _, _, _, rfl, _⟩; rfl) | (rintro ⟨_, _, _, _, _, _, _, _, rfl, _⟩; rfl) | (rintro ⟨_, _, _, _, _, _, _, _, _, rfl, _⟩; rfl) | (rintro ⟨_, _, _, _, _, _, _, _, _, _, rfl, _⟩; rfl) | (rintro ⟨_, _, _, _, _, _, _, _, _, _, _, rfl, _⟩; rfl)) (fun cdv Ar outer s H vs Q E hr h => ⟨_, 
  (pss_cons (ps_fld (pv 0) (pv 1) rfl)
      (pss_cons (ps_fld (pv 0) (pv 2) rfl)
      (pss_cons (ps_fld (pv 0) (pv 3) rfl)
      (pss_cons (ps_fld (pv 0) (pv 4) rfl)
      (pss_one (ps_fld (pv 0) (pv 5) rfl)))))), ?_⟩)
  obtain ⟨x, dx, la, j, rfl, hx, z⟩ := h
  refine st_seqFld (val_var rfl) (val_var rfl) hx T.cTest T.n_t_name (by simp) ?_
  refine st_seqFld (val_var rfl) (val_var rfl) upd_same T.cTest T.n_t_cost (by show 1 < 1000; decide) ?_
  refine st_seqFld (val_var rfl) (val_var rfl) upd_same T.cTest T.n_t_chance (by show 2 < 1000; decide) ?_
  refine st_seqFld (val_var rfl) (val_var rfl) upd_same T.cTest T.n_t_group (by show 3 < 1000; decide) ?_
  refine st_fld (val_var rfl) (val_var rfl) upd_same T.cTest T.n_t_after (by show 4 < 1000; decide) ?_
  refine z _ (fun b o hb e => ?_) ?_
  · rw [upd_ne hb, upd_ne hb, upd_ne hb, upd_ne hb, upd_ne hb]
    exact e
  · refine upd_same.trans (congrArg (fun q => some (HO.ins A.cTest dx q)) ?_)
    show putF "after" _ (putF "group" _ (putF "chance" _ (putF "cost" _ [(("name" : Str), V.str (strOf j.name))]))) = teF j la
    rw [put2 (by decide +kernel), put3 (by decide +kernel) (by decide +kernel), put4 (by decide +kernel) (by decide +kernel) (by decide +kernel), put5 (by decide +kernel) (by decide +kernel) (by decide +kernel) (by decide +kernel)]
    rfl
/-- a field from a new object -/
theorem st_fldN {σ : L2.St} {H : Hp} {ta tv : TE} {a C dx : Addr} {fs : List (Str × V)} {f : Str} {o : HO} {D : Ends} (hv : EvN tv σ H o) (ha : ∀ H', Same H H' → Val ta σ H' (.ref a)) (ho : H a = some (.ins C dx fs)) (hc : Cls K C) (hn : NoAttr K C f) (hl : fs.length < 1000) (q : ∀ p H', H p = none → Same H H' → H' p = some o → p ≠ a → D.nx σ (upd H' a (.ins C dx (putF f (.ref p) fs)))) : sFld K ta tv f D σ H := hv _ fun p H1 n s e =>
  ha H1 s _ ⟨a, C, dx, fs, rfl, s _ _ ho, hc, hn, hl, q p H1 n s e (fun z => by rw [z, ho] at n; cases n)⟩
theorem st_seqFldN {σ : L2.St} {H : Hp} {ta tv : TE} {a C dx : Addr} {fs : List (Str × V)} {f : Str} {o : HO} {D : Ends} {u : TS} (hv : EvN tv σ H o) (ha : ∀ H', Same H H' → Val ta σ H' (.ref a)) (ho : H a = some (.ins C dx fs)) (hc : Cls K C) (hn : NoAttr K C f) (hl : fs.length < 1000) (q : ∀ p H', H p = none → Same H H' → H' p = some o → p ≠ a → u D σ (upd H' a (.ins C dx (putF f (.ref p) fs)))) : tSeq (sFld K ta tv f) u D σ H := st_fldN (D := { D with nx := u D }) hv ha ho hc hn hl q
def sp_Plan_init (A : Ad) : Sp := fun vs H Q _ => ∃ (x dx : Addr), vs = [.ref x] ∧ H x = some (.ins A.cPlan dx []) ∧
  ∀ lg lt H', H lg = none → H lt = none → lg ≠ lt → (∀ b o, b ≠ x → H b = some o → H' b = some o) → H' x = some (.ins A.cPlan dx (plF lg lt)) → H' lg = some (.lst []) → H' lt = some (.lst []) → Q .non H'
/-! ### Plan.__init__ -/
abbrev s_Plan_init : Stmt := inClass (top 4) 0
theorem sc_Plan_init : FnScope ["self"] ["self"] (defScope s_Plan_init) := ⟨rfl, rfl, rfl, by decide +kernel, rfl, by decide +kernel, by decide +kernel⟩
theorem ok_Plan_init {f : Addr} {fd : FuncData} (F : Fun K "__init__" "Plan.__init__" s_Plan_init f fd) (T : Txt K mg A) : FnOk P w K mg base CX0 1 f fd ["self"] (sp_Plan_init A) := by
  refine F.ok sc_Plan_init (fun vs H Q E h => by revert h; first | (rintro ⟨rfl, _⟩; rfl) | (rintro ⟨_, rfl, _⟩; rfl) | (rintro ⟨_, _, rfl, _⟩; rfl) | (rintro ⟨_, _, _, rfl, _⟩; rfl) | (rintro ⟨_, _, _, _, rfl, _⟩; rfl) | (rintro ⟨_, _, _, _, _, rfl, _⟩; rfl) | (rintro ⟨_, _, _, _, _, _, rfl, _⟩; rfl) | (rintro ⟨_, _, _, _, _, _, _, rfl, _⟩; rfl) | (rintro ⟨_, _, _, _, _, _, _, _, rfl, _⟩; rfl) | (rintro ⟨_, _, _, _, _, _, _, _, _, rfl, _⟩; rfl) | (rintro ⟨_, _, _, _, _, _, _, _, _, _, rfl, _⟩; rfl) | (rintro ⟨_, _, _, _, _, _, _, _, _, _, _, rfl, _⟩; rfl)) (fun cdv Ar outer s H vs Q E hr h => ⟨_, 
  (pss_cons (ps_fld (pv 0) (pe_lst pa_nil) rfl)
      (pss_one (ps_fld (pv 0) (pe_lst pa_nil) rfl))), ?_⟩)
  obtain ⟨x, dx, rfl, hx, z⟩ := h
  refine st_seqFldN (evn_lst eva_nil (by simp)) (fun _ _ => val_var rfl) hx T.cPlan T.n_p_groups (by simp) fun lg H1 n1 s1 e1 ne1 => ?_
  refine st_fldN (evn_lst eva_nil (by simp)) (fun _ _ => val_var rfl) upd_same T.cPlan T.n_p_tests (by show 1 < 1000; decide) fun lt H2 n2 s2 e2 ne2 => ?_
  have e1' : H2 lg = some (.lst []) := s2 _ _ (by rw [upd_ne ne1]; exact e1)
  rw [upd_ne ne2] at n2
  refine z lg lt _ n1 (s1.free n2) (fun z => by rw [z, n2] at e1; cases e1) (fun b o hb e => ?_) ?_ ?_ ?_
  · rw [upd_ne hb]
    exact s2 _ _ (by rw [upd_ne hb]; exact s1 _ _ e)
  · exact upd_same.trans (congrArg (fun q => some (HO.ins A.cPlan dx q)) (put2 (by decide +kernel)))
  · rw [upd_ne ne1]
    exact e1'
  · rw [upd_ne ne2]
    exact e2

/-! ### the parts of a test -/
def sp_read_cost (A : Ad) : Sp := fun vs H Q E => ∃ (r : Addr) (ts : Toks), vs = [.ref r] ∧ RS A H r ts ∧ Gives A H r E ((Vatsld.wantWord "cost" ts).bind fun q => Vatsld.readNum 1 Vatsld.COST q) (fun n H' => Q (.int (n : Int)) H')
/-! ### read_cost -/
abbrev s_read_cost : Stmt := top 82
theorem sc_read_cost : FnScope ["reader", "token", "cost"] ["reader"] (defScope s_read_cost) := ⟨rfl, rfl, rfl, by decide +kernel, rfl, by decide +kernel, by decide +kernel⟩
theorem ok_read_cost {f : Addr} {fd : FuncData} (F : Fun K "read_cost" "read_cost" s_read_cost f fd) (T : Txt K mg A) (TF : TxF K mg A)
    (C_Fault_init : CalF P w K mg base A.cFault (sp_Fault_init A))
    (C_Reader_take_number : CalM P w K mg base (L2.CX P w) 8 A.cReader "take_number" ["self"] (sp_Reader_take_number A))
    (C_Reader_take_written : CalM P w K mg base (L2.CX P w) 8 A.cReader "take_written" ["self", "written"] (sp_Reader_take_written A)) : FnOk P w K mg base (L2.CX P w) 9 f fd ["reader"] (sp_read_cost A) := by
  obtain ⟨f_Fault, fd_Fault, i_Fault, t_Fault, b_Fault, G_Fault⟩ := C_Fault_init.ex
  obtain ⟨f_Reader_take_number, fd_Reader_take_number, m_Reader_take_number, b_Reader_take_number, G_Reader_take_number⟩ := C_Reader_take_number.ex
  obtain ⟨f_Reader_take_written, fd_Reader_take_written, m_Reader_take_written, b_Reader_take_written, G_Reader_take_written⟩ := C_Reader_take_written.ex
  refine F.okX sc_read_cost (fun vs H Q E h => by revert h; first | (rintro ⟨rfl, _⟩; rfl) | (rintro ⟨_, rfl, _⟩; rfl) | (rintro ⟨_, _, rfl, _⟩; rfl) | (rintro ⟨_, _, _, rfl, _⟩; rfl) | (rintro ⟨_, _, _, _, rfl, _⟩; rfl) | (rintro ⟨_, _, _, _, _, rfl, _⟩; rfl) | (rintro ⟨_, _, _, _, _, _, rfl, _⟩; rfl) | (rintro ⟨_, _, _, _, _, _, _, rfl, _⟩; rfl) | (rintro ⟨_, _, _, _, _, _, _, _, rfl, _⟩; rfl) | (rintro ⟨_, _, _, _, _, _, _, _, _, rfl, _⟩; rfl) | (rintro ⟨_, _, _, _, _, _, _, _, _, _, rfl, _⟩; rfl) | (rintro ⟨_, _, _, _, _, _, _, _, _, _, _, rfl, _⟩; rfl)) (fun cdv Ar outer s H vs Q E hr h => ⟨_, 
  (pss_cons (ps_expr (pe_meth (pv 0) T.cReader m_Reader_take_written G_Reader_take_written (hr.mono (by decide)) b_Reader_take_written .nil (passes_call (takes_of rfl rfl rfl rfl) (fun _ _ _ _ z => z)) (pa_cons pe_str pa_nil)))
      (pss_cons (ps_set (i := 1) sc_read_cost.nd rfl (Or.inl rfl) (pe_meth0 (pv 0) T.cReader m_Reader_take_number G_Reader_take_number (hr.mono (by decide)) b_Reader_take_number .nil (passes_call (takes_of rfl rfl rfl rfl) (fun _ _ _ _ z => z))))
      (pss_cons (ps_set (i := 2) sc_read_cost.nd rfl (Or.inl rfl) (pe_callTy call_int_str (by rfl) T.b_int (by decide +kernel) (pa_cons (pe_fld (pv 1) rfl) pa_nil)))
      (pss_cons (ps_if (pt_cmpR op_eq (pv 2) pe_int (nomark _)) (pss_one (ps_raise rfl (takes_of rfl rfl rfl rfl) (pmk_fx TF.fx i_Fault t_Fault G_Fault (hr.mono (by decide)) b_Fault pass0 rfl TF.g (pa_cons (pe_num (by rfl) T.k_OUT_OF_RANGE) (pa_cons (pe_fld (pv 1) rfl) pa_nil))))) pss_nil)
      (pss_one (ps_ret (pv 2))))))), ?_⟩)
  obtain ⟨r, ts, rfl, hR, kG⟩ := h
  refine st_seqDropG (evg_want (kw := "cost") (by decide +kernel) ⟨_, _, _, rfl, rfl⟩ (val_var rfl) hR fun e => kG.err (want_f e)) fun v H1 ⟨e, b, r2⟩ => ?_
  have kG := (kG.next (want_t e)).mono b
  refine st_seqSetG (evg_number (val_var rfl) r2 fun e => kG.1 _ (readNum_not e)) fun v H2 h2 => ?_
  obtain ⟨q, p, n, w, rest, rfl, e1, hn, hw, b2, hq, r3⟩ := h2
  rw [e1] at kG
  have kG := kG.mono b2
  refine st_seqSet (val_num T (val_var rfl) hq hw) ?_
  obtain ⟨dq, e4⟩ := hq
  refine st_seqIfV (ans_eqV (val_var rfl) val_c rfl) (fun hb => ?_) fun hb => ?_
  · have h0 : n = 0 := by
      have := V.int.inj (of_decide_eq_true hb)
      omega
    subst h0
    exact st_fault (D := {nx := fun _ _ => True, rt := fun _ _ => True}) (eva_cons (evs_of val_c) fun H3 s3 => eva_cons (evs_of (val_fld (val_var rfl) (s3 _ _ e4) T.cToken T.n_Token_place (tokF_place _ _ _))) fun _ _ => eva_nil) (Gives.bad (f := (8, p)) kG).thrown
  · have h0 : n ≠ 0 := fun z => by rw [z] at hb; simp at hb
    have hr : Vatsld.readNum 1 Vatsld.COST ((p, .num n) :: rest) = .ok (n, rest) := if_neg (by
      have : Vatsld.COST = 1000 := rfl
      omega)
    rw [hr] at kG
    exact st_ret (val_var rfl) (kG.out r3)
def sp_read_chance (A : Ad) : Sp := fun vs H Q E => ∃ (r : Addr) (ts : Toks), vs = [.ref r] ∧ RS A H r ts ∧ Gives A H r E ((Vatsld.wantWord "chance" ts).bind fun q => Vatsld.readNum 0 100 q) (fun n H' => Q (.int (n : Int)) H')
/-! ### read_chance -/
abbrev s_read_chance : Stmt := top 83
theorem sc_read_chance : FnScope ["reader", "token", "chance"] ["reader"] (defScope s_read_chance) := ⟨rfl, rfl, rfl, by decide +kernel, rfl, by decide +kernel, by decide +kernel⟩
theorem ok_read_chance {f : Addr} {fd : FuncData} (F : Fun K "read_chance" "read_chance" s_read_chance f fd) (T : Txt K mg A) (TF : TxF K mg A)
    (C_Fault_init : CalF P w K mg base A.cFault (sp_Fault_init A))
    (C_Reader_take_number : CalM P w K mg base (L2.CX P w) 8 A.cReader "take_number" ["self"] (sp_Reader_take_number A))
    (C_Reader_take_written : CalM P w K mg base (L2.CX P w) 8 A.cReader "take_written" ["self", "written"] (sp_Reader_take_written A)) : FnOk P w K mg base (L2.CX P w) 9 f fd ["reader"] (sp_read_chance A) := by
  obtain ⟨f_Fault, fd_Fault, i_Fault, t_Fault, b_Fault, G_Fault⟩ := C_Fault_init.ex
  obtain ⟨f_Reader_take_number, fd_Reader_take_number, m_Reader_take_number, b_Reader_take_number, G_Reader_take_number⟩ := C_Reader_take_number.ex
  obtain ⟨f_Reader_take_written, fd_Reader_take_written, m_Reader_take_written, b_Reader_take_written, G_Reader_take_written⟩ := C_Reader_take_written.ex
  refine F.okX sc_read_chance (fun vs H Q E h => by revert h; first | (rintro ⟨rfl, _⟩; rfl) | (rintro ⟨_, rfl, _⟩; rfl) | (rintro ⟨_, _, rfl, _⟩; rfl) | (rintro ⟨_, _, _, rfl, _⟩; rfl) | (rintro ⟨_, _, _, _, rfl, _⟩; rfl) | (rintro ⟨_, _, _, _, _, rfl, _⟩; rfl) | (rintro ⟨_, _, _, _, _, _, rfl, _⟩; rfl) | (rintro ⟨_, _, _, _, _, _, _, rfl, _⟩; rfl) | (rintro ⟨_, _, _, _, _, _, _, _, rfl, _⟩; rfl) | (rintro ⟨_, _, _, _, _, _, _, _, _, rfl, _⟩; rfl) | (rintro ⟨_, _, _, _, _, _, _, _, _, _, rfl, _⟩; rfl) | (rintro ⟨_, _, _, _, _, _, _, _, _, _, _, rfl, _⟩; rfl)) (fun cdv Ar outer s H vs Q E hr h => ⟨_, 
  (pss_cons (ps_expr (pe_meth (pv 0) T.cReader m_Reader_take_written G_Reader_take_written (hr.mono (by decide)) b_Reader_take_written .nil (passes_call (takes_of rfl rfl rfl rfl) (fun _ _ _ _ z => z)) (pa_cons pe_str pa_nil)))
      (pss_cons (ps_set (i := 1) sc_read_chance.nd rfl (Or.inl rfl) (pe_meth0 (pv 0) T.cReader m_Reader_take_number G_Reader_take_number (hr.mono (by decide)) b_Reader_take_number .nil (passes_call (takes_of rfl rfl rfl rfl) (fun _ _ _ _ z => z))))
      (pss_cons (ps_set (i := 2) sc_read_chance.nd rfl (Or.inl rfl) (pe_callTy call_int_str (by rfl) T.b_int (by decide +kernel) (pa_cons (pe_fld (pv 1) rfl) pa_nil)))
      (pss_cons (ps_if (pt_cmpR op_gt (pv 2) (pe_num (by rfl) T.k_MOST_CHANCE) (nomark _)) (pss_one (ps_raise rfl (takes_of rfl rfl rfl rfl) (pmk_fx TF.fx i_Fault t_Fault G_Fault (hr.mono (by decide)) b_Fault pass0 rfl TF.g (pa_cons (pe_num (by rfl) T.k_OUT_OF_RANGE) (pa_cons (pe_fld (pv 1) rfl) pa_nil))))) pss_nil)
      (pss_one (ps_ret (pv 2))))))), ?_⟩)
  obtain ⟨r, ts, rfl, hR, kG⟩ := h
  refine st_seqDropG (evg_want (kw := "chance") (by decide +kernel) ⟨_, _, _, rfl, rfl⟩ (val_var rfl) hR fun e => kG.err (want_f e)) fun v H1 ⟨e, b, r2⟩ => ?_
  have kG := (kG.next (want_t e)).mono b
  refine st_seqSetG (evg_number (val_var rfl) r2 fun e => kG.1 _ (readNum_not e)) fun v H2 h2 => ?_
  obtain ⟨q, p, n, w, rest, rfl, e1, hn, hw, b2, hq, r3⟩ := h2
  rw [e1] at kG
  have kG := kG.mono b2
  refine st_seqSet (val_num T (val_var rfl) hq hw) ?_
  obtain ⟨dq, e4⟩ := hq
  refine st_seqIfV (ans_gt' (val_var rfl) val_c rfl) (fun hb => ?_) fun hb => ?_
  · have h0 : 100 < n := by
      have := of_decide_eq_true hb
      omega
    have hr : Vatsld.readNum 0 100 ((p, .num n) :: rest) = .error (8, p) := if_pos (by omega)
    rw [hr] at kG
    exact st_fault (D := {nx := fun _ _ => True, rt := fun _ _ => True}) (eva_cons (evs_of val_c) fun H3 s3 => eva_cons (evs_of (val_fld (val_var rfl) (s3 _ _ e4) T.cToken T.n_Token_place (tokF_place _ _ _))) fun _ _ => eva_nil) kG.bad.thrown
  · have h0 : ¬ 100 < n := fun z => by
      have := of_decide_eq_false hb
      omega
    have hr : Vatsld.readNum 0 100 ((p, .num n) :: rest) = .ok (n, rest) := if_neg (by omega)
    rw [hr] at kG
    exact st_ret (val_var rfl) (kG.out r3)
end
end Tp
namespace Tp
open PySem PySem.Spec PyProof.Rows L2
section
variable {P : Program} {w : World} {K : PySem.W.Frag} {mg : Str → Option Value} {base : Heap} {A : Ad}
open Vatsld (Toks Fault)
/-! ### the group, the tests ahead -/
/-- the same, where the tokens behind may begin with a bad one -/
def GivesB {α : Type} (A : Ad) (H : Hp) (r : Addr) (E : XK) (res : Except Fault (α × Toks)) (ok : α → Hp → Prop) : Prop := Gives A H r E res ok ∧ ∀ a q k rest, res = .ok (a, (q, .bad k) :: rest) → ThrownB A H r E (k, q)
theorem GivesB.mono {α : Type} {H H' : Hp} {r : Addr} {E : XK} {res : Except Fault (α × Toks)} {ok : α → Hp → Prop} (h : GivesB A H r E res ok) (s : But r H H') : GivesB A H' r E res ok := ⟨h.1.mono s, fun a q k rest e => (h.2 a q k rest e).mono s⟩
def knownIn (names : List (List Nat)) (ts : Toks) : Except Fault (((Nat × List Nat) × Nat) × Toks) := (Vatsld.readName ts).bind fun w => match names.findIdx? fun x => x == w.1.2 with
    | none => .error (7, w.1.1)
    | some i => .ok ((w.1, i), w.2)
theorem known_ok {names : List (List Nat)} {ts : Toks} {a : (Nat × List Nat) × Nat} {rest : Toks} (h : knownIn names ts = .ok (a, rest)) : (names.findIdx? fun x => x == a.1.2) = some a.2 := by
  unfold knownIn at h
  obtain ⟨w, _, h⟩ := bind_ok h
  split at h
  · cases h
  · rename_i i hi
    cases h
    exact hi
def inPart (p : Vatsld.Plan) (ts : Toks) : Except Fault (Option Nat × Toks) := if Vatsld.isWord "in" ts then (Vatsld.readName (ts.drop 1)).bind fun g => match Vatsld.groupNamed p g.1.2 with
    | none => .error (7, g.1.1)
    | some k => .ok (some k, g.2) else .ok (none, ts)
theorem in_known (p : Vatsld.Plan) (ts : Toks) : ((Vatsld.readName ts).bind fun g => match Vatsld.groupNamed p g.1.2 with
    | none => (.error (7, g.1.1) : Except Fault (Option Nat × Toks))
    | some k => .ok (some k, g.2)) = (knownIn (p.groups.map (·.name)) ts).bind fun z => .ok (some z.1.2, z.2) := by
  unfold knownIn
  cases Vatsld.readName ts with
  | error f => rfl
  | ok w =>
    simp only [Except.bind, find_names, Vatsld.groupNamed]
    cases p.groups.findIdx? fun g => g.name == w.1.2 <;> rfl
def nameStep (p : Vatsld.Plan) (l : List Nat) (ts : Toks) : Except Fault (Nat × Toks) := (Vatsld.readName ts).bind fun w => match Vatsld.jobNamed p w.1.2 with
    | none => .error (7, w.1.1)
    | some i => if l.contains i then .error (6, w.1.1) else .ok (i, w.2)
theorem step_known (p : Vatsld.Plan) (l : List Nat) (ts : Toks) : nameStep p l ts = (knownIn (p.jobs.map (·.name)) ts).bind fun z => if l.contains z.1.2 then .error (6, z.1.1.1) else .ok (z.1.2, z.2) := by
  unfold nameStep knownIn
  cases Vatsld.readName ts with
  | error f => rfl
  | ok w =>
    simp only [Except.bind, find_names, Vatsld.jobNamed]
    cases p.jobs.findIdx? fun g => g.name == w.1.2 <;> rfl
theorem after_step (p : Vatsld.Plan) (k : Nat) (l : List Nat) (ts : Toks) : Vatsld.readAfter p (k + 1) l ts = (nameStep p l ts).bind fun z => if Vatsld.isSign 44 z.2 then Vatsld.readAfter p k (l ++ [z.1]) (z.2.drop 1) else .ok (l ++ [z.1], z.2) := by
  rw [Vatsld.readAfter]
  unfold nameStep
  cases Vatsld.readName ts with
  | error f => rfl
  | ok w =>
    simp only [Except.bind]
    cases Vatsld.jobNamed p w.1.2 with
    | none => rfl
    | some i =>
      dsimp only
      cases l.contains i <;> rfl
section
variable {σ : L2.St} {H : Hp} {tr tm : TE} {r m : Addr} {ts : Toks} {E : XK} {names : List (List Nat)}
/-- read_known_name(reader, members) -/
theorem evg_known {ok : ((Nat × List Nat) × Nat) → Hp → Prop} (hr : Val tr σ H (.ref r)) (hm : Val tm σ H (.ref m)) (hR : RS A H r ts) (hN : Named A H m names) (hl : names.length ≤ 1000) (kG : Gives A H r E (knownIn names ts) ok) :
    EvG (tCall (sp_read_known_name A) [] E (tCons tr (tCons tm tNil))) σ H (fun v H' => ∃ q p w i rest, v = .ref q ∧ But r H H' ∧ TokAt A H' q (p, .word w) w ∧ RS A H' r rest ∧ knownIn names ts = .ok (((p, w), i), rest)) := fun Q z => by
  refine hr _ (hm _ ?_)
  show sp_read_known_name A _ H Q E
  refine ⟨r, m, ts, names, rfl, hR, hN, hl, kG.1, fun a rest e H2 b r2 q hq => z _ H2 ⟨q, a.1.1, a.1.2, a.2, rest, rfl, b, hq, r2, e⟩⟩
end

def sp_read_in (A : Ad) : Sp := fun vs H Q E => ∃ (r pa : Addr) (p : Vatsld.Plan) (ts : Toks), vs = [.ref r, .ref pa] ∧ RS A H r ts ∧ PlanAt A H pa p ∧ p.groups.length ≤ 1000 ∧ GivesB A H r E (inPart p ts) (fun g H' => Q (optV g) H')
/-! ### read_in -/
abbrev s_read_in : Stmt := top 84
theorem sc_read_in : FnScope ["reader", "plan", "token"] ["reader", "plan"] (defScope s_read_in) := ⟨rfl, rfl, rfl, by decide +kernel, rfl, by decide +kernel, by decide +kernel⟩
theorem ok_read_in {f : Addr} {fd : FuncData} (F : Fun K "read_in" "read_in" s_read_in f fd) (T : Txt K mg A) (TF : TxF K mg A)
    (C_number_of : Cal P w K mg base CX0 1 "number_of" ["members", "name"] (sp_number_of A))
    (C_read_known_name : Cal P w K mg base (L2.CX P w) 9 "read_known_name" ["reader", "members"] (sp_read_known_name A))
    (C_Reader_take : CalM P w K mg base (L2.CX P w) 7 A.cReader "take" ["self"] (sp_Reader_take A))
    (C_Reader_stands : CalM P w K mg base (L2.CX P w) 7 A.cReader "stands" ["self", "written"] (sp_Reader_stands A)) : FnOk P w K mg base (L2.CX P w) 10 f fd ["reader", "plan"] (sp_read_in A) := by
  obtain ⟨f_number_of, fd_number_of, m_number_of, kp_number_of, b_number_of, G_number_of⟩ := C_number_of.ex
  obtain ⟨f_read_known_name, fd_read_known_name, m_read_known_name, kp_read_known_name, b_read_known_name, G_read_known_name⟩ := C_read_known_name.ex
  obtain ⟨f_Reader_take, fd_Reader_take, m_Reader_take, b_Reader_take, G_Reader_take⟩ := C_Reader_take.ex
  obtain ⟨f_Reader_stands, fd_Reader_stands, m_Reader_stands, b_Reader_stands, G_Reader_stands⟩ := C_Reader_stands.ex
  refine F.okX sc_read_in (fun vs H Q E h => by revert h; first | (rintro ⟨rfl, _⟩; rfl) | (rintro ⟨_, rfl, _⟩; rfl) | (rintro ⟨_, _, rfl, _⟩; rfl) | (rintro ⟨_, _, _, rfl, _⟩; rfl) | (rintro ⟨_, _, _, _, rfl, _⟩; rfl) | (rintro ⟨_, _, _, _, _, rfl, _⟩; rfl) | (rintro ⟨_, _, _, _, _, _, rfl, _⟩; rfl) | (rintro ⟨_, _, _, _, _, _, _, rfl, _⟩; rfl) | (rintro ⟨_, _, _, _, _, _, _, _, rfl, _⟩; rfl) | (rintro ⟨_, _, _, _, _, _, _, _, _, rfl, _⟩; rfl) | (rintro ⟨_, _, _, _, _, _, _, _, _, _, rfl, _⟩; rfl) | (rintro ⟨_, _, _, _, _, _, _, _, _, _, _, rfl, _⟩; rfl)) (fun cdv Ar outer s H vs Q E hr h => ⟨_, 
  (pss_cons (ps_if (pt_not (pt_val (pe_meth (pv 0) T.cReader m_Reader_stands G_Reader_stands (hr.mono (by decide)) b_Reader_stands .nil (passes_call (takes_of rfl rfl rfl rfl) (fun _ _ _ _ z => z)) (pa_cons pe_str pa_nil)))) (pss_one (ps_ret pe_non)) pss_nil)
      (pss_cons (ps_expr (pe_meth0 (pv 0) T.cReader m_Reader_take G_Reader_take (hr.mono (by decide)) b_Reader_take .nil (passes_call (takes_of rfl rfl rfl rfl) (fun _ _ _ _ z => z))))
      (pss_cons (ps_set (i := 2) sc_read_in.nd rfl (Or.inl rfl) (pe_call G_read_known_name (hr.mono (by decide)) rfl m_read_known_name kp_read_known_name b_read_known_name .nil (passes_call (takes_of rfl rfl rfl rfl) (fun _ _ _ _ z => z)) (pa_cons (pv 0) (pa_cons (pe_fld (pv 1) rfl) pa_nil))))
      (pss_one (ps_ret (pe_call G_number_of (hr.mono (by decide)) rfl m_number_of kp_number_of b_number_of .nil pass0 (pa_cons (pe_fld (pv 1) rfl) (pa_cons (pe_fld (pv 2) rfl) pa_nil)))))))), ?_⟩)
  obtain ⟨r, pa, p, ts, rfl, hR, hP, hlen, kG, kB⟩ := h
  have hB : ∀ q k rest, ts = (q, .bad k) :: rest → ThrownB A H r E (k, q) := fun q k rest e => kB none q k rest (by rw [e]; rfl)
  refine st_seqIfG (R := fun b H' => b = !Vatsld.isWord "in" ts ∧ Same H H') (ansg_not (ansg_test (evg_standsW (kw := "in") (by decide +kernel) ⟨_, _, _, rfl, rfl⟩ (val_var rfl) hR hB) fun v H1 h1 => ⟨_, h1.1, rfl, h1.2⟩)) (fun H1 h1 => ?_) fun H1 h1 => ?_
  · have e : Vatsld.isWord "in" ts = false := not_t h1.1.symm
    have : inPart p ts = .ok (none, ts) := if_neg (by rw [e]; exact Bool.false_ne_true)
    rw [this] at kG
    exact st_ret val_c ((kG.mono (h1.2.but r)).out (hR.mono h1.2))
  have e : Vatsld.isWord "in" ts = true := not_f h1.1.symm
  have : inPart p ts = (knownIn (p.groups.map (·.name)) (ts.drop 1)).bind fun z => .ok (some z.1.2, z.2) := (if_pos e).trans (in_known p _)
  rw [this] at kG
  refine st_seqDropG (evg_take (val_var rfl) (hR.mono h1.2) (word_unstuck e)) fun v H2 h2 => ?_
  have b2 := (h1.2.but r).trans h2.1
  obtain ⟨dx, tl, pl, hob⟩ := hR.ins
  have hP2 := hP.but hob b2
  obtain ⟨dp, lg, lt, ep, hN⟩ := hP2.gnames
  have kG2 := kG.mono b2
  refine st_seqSetG (evg_known (names := p.groups.map (·.name)) (val_var rfl) (val_groups T (val_var rfl) ep) h2.2 hN (by rw [List.length_map]; exact hlen) (ok := fun _ _ => True) ⟨fun f ef => kG2.err ef, fun _ _ _ _ _ _ => trivial⟩) fun v H3 h3 => ?_
  obtain ⟨q, pq, w, i, rest, rfl, b3, ⟨dq, e4⟩, r3, ek⟩ := h3
  have kG3 := (kG2.next ek).mono b3
  obtain ⟨dx2, tl2, pl2, hob2⟩ := h2.2.ins
  have hP3 := hP2.but hob2 b3
  obtain ⟨dp3, lg3, lt3, ep3, hN3⟩ := hP3.gnames
  have hk := known_ok ek
  refine st_retS (v := optV ((p.groups.map (·.name)).findIdx? fun x => x == w)) (evs_call (eva_cons (evs_of (val_groups T (val_var rfl) ep3)) fun H4 s4 => eva_cons (evs_of (val_fld (val_var rfl) (s4 _ _ e4) T.cToken T.n_Token_written (tokF_written _ _ _))) fun _ _ => eva_nil) fun H4 s4 Q z => ?_) fun H4 s4 => ?_
  · exact ⟨lg3, _, w, rfl, hN3.mono s4, by rw [List.length_map]; exact hlen, fun H5 s5 => z H5 s5⟩
  · rw [hk]
    exact (kG3.mono (s4.but r)).out (r3.mono s4)

def sp_read_after_name (A : Ad) : Sp := fun vs H Q E => ∃ (r pa la : Addr) (p : Vatsld.Plan) (l : List Nat) (ts : Toks), vs = [.ref r, .ref pa, .ref la] ∧ RS A H r ts ∧ PlanAt A H pa p ∧ p.jobs.length ≤ 1000 ∧ H la = some (.lst (natsV l)) ∧
  Gives A H r E (nameStep p l ts) (fun i H' => Q (.int (i : Int)) H')
/-! ### read_after_name -/
abbrev s_read_after_name : Stmt := top 86
theorem sc_read_after_name : FnScope ["reader", "plan", "after", "token", "number"] ["reader", "plan", "after"] (defScope s_read_after_name) := ⟨rfl, rfl, rfl, by decide +kernel, rfl, by decide +kernel, by decide +kernel⟩
theorem ok_read_after_name {f : Addr} {fd : FuncData} (F : Fun K "read_after_name" "read_after_name" s_read_after_name f fd) (T : Txt K mg A) (TF : TxF K mg A)
    (C_Fault_init : CalF P w K mg base A.cFault (sp_Fault_init A))
    (C_number_of : Cal P w K mg base CX0 1 "number_of" ["members", "name"] (sp_number_of A))
    (C_read_known_name : Cal P w K mg base (L2.CX P w) 9 "read_known_name" ["reader", "members"] (sp_read_known_name A)) : FnOk P w K mg base (L2.CX P w) 10 f fd ["reader", "plan", "after"] (sp_read_after_name A) := by
  obtain ⟨f_Fault, fd_Fault, i_Fault, t_Fault, b_Fault, G_Fault⟩ := C_Fault_init.ex
  obtain ⟨f_number_of, fd_number_of, m_number_of, kp_number_of, b_number_of, G_number_of⟩ := C_number_of.ex
  obtain ⟨f_read_known_name, fd_read_known_name, m_read_known_name, kp_read_known_name, b_read_known_name, G_read_known_name⟩ := C_read_known_name.ex
  refine F.okX sc_read_after_name (fun vs H Q E h => by revert h; first | (rintro ⟨rfl, _⟩; rfl) | (rintro ⟨_, rfl, _⟩; rfl) | (rintro ⟨_, _, rfl, _⟩; rfl) | (rintro ⟨_, _, _, rfl, _⟩; rfl) | (rintro ⟨_, _, _, _, rfl, _⟩; rfl) | (rintro ⟨_, _, _, _, _, rfl, _⟩; rfl) | (rintro ⟨_, _, _, _, _, _, rfl, _⟩; rfl) | (rintro ⟨_, _, _, _, _, _, _, rfl, _⟩; rfl) | (rintro ⟨_, _, _, _, _, _, _, _, rfl, _⟩; rfl) | (rintro ⟨_, _, _, _, _, _, _, _, _, rfl, _⟩; rfl) | (rintro ⟨_, _, _, _, _, _, _, _, _, _, rfl, _⟩; rfl) | (rintro ⟨_, _, _, _, _, _, _, _, _, _, _, rfl, _⟩; rfl)) (fun cdv Ar outer s H vs Q E hr h => ⟨_, 
  (pss_cons (ps_set (i := 3) sc_read_after_name.nd rfl (Or.inl rfl) (pe_call G_read_known_name (hr.mono (by decide)) rfl m_read_known_name kp_read_known_name b_read_known_name .nil (passes_call (takes_of rfl rfl rfl rfl) (fun _ _ _ _ z => z)) (pa_cons (pv 0) (pa_cons (pe_fld (pv 1) rfl) pa_nil))))
      (pss_cons (ps_set (i := 4) sc_read_after_name.nd rfl (Or.inl rfl) (pe_call G_number_of (hr.mono (by decide)) rfl m_number_of kp_number_of b_number_of .nil pass0 (pa_cons (pe_fld (pv 1) rfl) (pa_cons (pe_fld (pv 3) rfl) pa_nil))))
      (pss_cons (ps_if (pt_cmpR op_in_seq (pv 4) (pv 2) (by rfl)) (pss_one (ps_raise rfl (takes_of rfl rfl rfl rfl) (pmk_fx TF.fx i_Fault t_Fault G_Fault (hr.mono (by decide)) b_Fault pass0 rfl TF.g (pa_cons (pe_num (by rfl) T.k_REPEATED) (pa_cons (pe_fld (pv 3) rfl) pa_nil))))) pss_nil)
      (pss_one (ps_ret (pv 4)))))), ?_⟩)
  obtain ⟨r, pa, la, p, l, ts, rfl, hR, hP, hlen, hla, kG⟩ := h
  rw [step_known] at kG
  obtain ⟨dx, tl, pl, hob⟩ := hR.ins
  obtain ⟨dp, lg, lt, ep, hN⟩ := hP.tnames
  refine st_seqSetG (evg_known (names := p.jobs.map (·.name)) (val_var rfl) (val_tests T (val_var rfl) ep) hR hN (by rw [List.length_map]; exact hlen) (ok := fun _ _ => True) ⟨fun f ef => kG.err ef, fun _ _ _ _ _ _ => trivial⟩) fun v H3 h3 => ?_
  obtain ⟨q, pq, w, i, rest, rfl, b3, ⟨dq, e4⟩, r3, ek⟩ := h3
  have kG3 := (kG.next ek).mono b3
  have hP3 := hP.but hob b3
  have hla3 := b3 _ _ (lst_notR hob hla) hla
  obtain ⟨dp3, lg3, lt3, ep3, hN3⟩ := hP3.tnames
  have hk := known_ok ek
  refine st_seqSetS (v := optV ((p.jobs.map (·.name)).findIdx? fun x => x == w)) (evs_call (eva_cons (evs_of (val_tests T (val_var rfl) ep3)) fun H4 s4 => eva_cons (evs_of (val_fld (val_var rfl) (s4 _ _ e4) T.cToken T.n_Token_written (tokF_written _ _ _))) fun _ _ => eva_nil) fun H4 s4 Q z => ?_) fun H4 s4 => ?_
  · exact ⟨lt3, _, w, rfl, hN3.mono s4, by rw [List.length_map]; exact hlen, fun H5 s5 => z H5 s5⟩
  rw [hk]
  have kG4 := kG3.mono (s4.but r)
  refine st_seqIfV (b := l.contains i) (val_test (val_in (neg := false) (SqL.of (s4 _ _ hla3)) (val_var rfl) (val_var rfl))) (fun hb => ?_) fun hb => ?_
  · rw [if_pos hb] at kG4
    exact st_fault (D := {nx := fun _ _ => True, rt := fun _ _ => True}) (eva_cons (evs_of val_c) fun H5 s5 => eva_cons (evs_of (val_fld (val_var rfl) (s5 _ _ (s4 _ _ e4)) T.cToken T.n_Token_place (tokF_place _ _ _))) fun _ _ => eva_nil) kG4.bad.thrown
  · rw [if_neg (by show ¬ l.contains i = true; rw [hb]; exact Bool.false_ne_true)] at kG4
    exact st_ret (val_var rfl) (kG4.out (r3.mono s4))
end
end Tp
namespace Tp
open PySem PySem.Spec PyProof.Rows L2
section
variable {P : Program} {w : World} {K : PySem.W.Frag} {mg : Str → Option Value} {base : Heap} {A : Ad}
open Vatsld (Toks Fault)
/-! ### the tests ahead, a group, a test -/
theorem GivesB.next {α β : Type} {H : Hp} {r : Addr} {E : XK} {x : Except Fault α} {g : α → Except Fault (β × Toks)} {ok : β → Hp → Prop} (h : GivesB A H r E (x.bind g) ok) {a : α} (e : x = .ok a) : GivesB A H r E (g a) ok := by
  rw [e] at h
  exact h
def contP (p : Vatsld.Plan) (k : Nat) (l : List Nat) (ts : Toks) : Except Fault (List Nat × Toks) := if Vatsld.isSign 44 ts then Vatsld.readAfter p k l (ts.drop 1) else .ok (l, ts)
theorem after_cont (p : Vatsld.Plan) (k : Nat) (l : List Nat) (ts : Toks) : Vatsld.readAfter p (k + 1) l ts = (nameStep p l ts).bind fun z => contP p k (l ++ [z.1]) z.2 := after_step p k l ts
def afterPart (p : Vatsld.Plan) (ts : Toks) : Except Fault (List Nat × Toks) := if Vatsld.isWord "after" ts then Vatsld.readAfter p ts.length [] (ts.drop 1) else .ok ([], ts)
theorem readName_len {ts : Toks} {p : Nat} {w : List Nat} {r : Toks} (e : Vatsld.readName ts = .ok ((p, w), r)) : r.length + 1 = ts.length := by
  cases ts with
  | nil => cases e
  | cons x l =>
    obtain ⟨q, y⟩ := x
    cases y with
    | word v =>
      simp only [Vatsld.readName] at e
      split at e
      · cases e
      · cases e
        rfl
    | num n => cases e
    | sign c => cases e
    | over => cases e
    | bad k => cases e
theorem step_len {p : Vatsld.Plan} {l : List Nat} {ts : Toks} {i : Nat} {r : Toks} (e : nameStep p l ts = .ok (i, r)) : r.length + 1 = ts.length := by
  unfold nameStep at e
  obtain ⟨⟨⟨q, w⟩, r'⟩, e1, e⟩ := bind_ok e
  split at e
  · cases e
  split at e
  · cases e
  · cases e
    exact readName_len e1
theorem natsV_snoc (l : List Nat) (i : Nat) : natsV l ++ [.int (i : Int)] = natsV (l ++ [i]) := by
  unfold natsV
  rw [List.map_append]
  rfl
/-- after.append(read_after_name(reader, plan, after)) -/
theorem after_one {σ : L2.St} {H H2 : Hp} {r pa la : Addr} {p : Vatsld.Plan} {k : Nat} {l : List Nat} {ts0 ts2 : Toks} {E : XK} {ok : List Nat → Hp → Prop} {D : Ends} (h0 : σ[0]? = some (some (.ref r))) (h1 : σ[1]? = some (some (.ref pa))) (h2 : σ[2]? = some (some (.ref la)))
    (hR0 : RS A H r ts0) (b : But r H H2) (hR : RS A H2 r ts2) (hP : PlanAt A H pa p) (hlen : p.jobs.length ≤ 1000) (n : H la = none) (hla : H2 la = some (.lst (natsV l))) (hl : l.length ≤ 6000) (kG : GivesB A H r E (Vatsld.readAfter p (k + 1) l ts2) ok)
    (z : ∀ i rest H3, nameStep p l ts2 = .ok (i, rest) → But r H H3 → RS A H3 r rest → H3 la = some (.lst (natsV (l ++ [i]))) → GivesB A H r E (contP p k (l ++ [i]) rest) ok → D.nx σ H3) :
    tDrop (tBM K "list" rAppend (tVar 2) (tCons (tCall (sp_read_after_name A) [] E (tCons (tVar 0) (tCons (tVar 1) (tCons (tVar 2) tNil)))) tNil)) D σ H2 := by
  rw [after_cont] at kG
  obtain ⟨dx, tl, pl, hob⟩ := hR0.ins
  refine st_appendG (R' := fun v H' => ∃ (i : Nat) (rest : Toks), v = .int (i : Int) ∧ nameStep p l ts2 = .ok (i, rest) ∧ But r H2 H' ∧ RS A H' r rest) (val_var h2) hla (evg_call (eva_cons (evs_of (val_var h0)) fun _ _ => eva_cons (evs_of (val_var h1)) fun _ _ => eva_cons (evs_of (val_var h2)) fun _ _ => eva_nil) fun H3 s3 Q zz => ?_) fun y H3 h3 => ?_
  · exact ⟨r, pa, la, p, l, ts2, rfl, hR.mono s3, (hP.but hob b).mono s3, hlen, s3 _ _ hla, fun f ef => (kG.1.err ef).mono (b.trans (s3.but r)), fun i rest ei H4 b4 r4 => zz _ H4 ⟨i, rest, rfl, ei, (s3.but r).trans b4, r4⟩⟩
  obtain ⟨i, rest, rfl, ei, b3, r3⟩ := h3
  obtain ⟨dx2, tl2, pl2, hob2⟩ := hR.ins
  refine ⟨natsV l, b3 _ _ (lst_notR hob2 hla) hla, by rw [natsV_len]; omega, z i rest _ ei ((b.trans b3).new n) (hR0.upd n (b.trans b3) r3) (by rw [upd_same, natsV_snoc]) (kG.next ei)⟩

def sp_read_after (A : Ad) : Sp := fun vs H Q E => ∃ (r pa : Addr) (p : Vatsld.Plan) (ts : Toks), vs = [.ref r, .ref pa] ∧ RS A H r ts ∧ PlanAt A H pa p ∧ p.jobs.length ≤ 1000 ∧
  GivesB A H r E (afterPart p ts) (fun a H' => ∀ la, H la = none → H' la = some (.lst (natsV a)) → Q (.ref la) H')
/-! ### read_after -/
abbrev s_read_after : Stmt := top 85
theorem sc_read_after : FnScope ["reader", "plan", "after"] ["reader", "plan"] (defScope s_read_after) := ⟨rfl, rfl, rfl, by decide +kernel, rfl, by decide +kernel, by decide +kernel⟩
theorem ok_read_after {f : Addr} {fd : FuncData} (F : Fun K "read_after" "read_after" s_read_after f fd) (T : Txt K mg A) (TF : TxF K mg A)
    (C_Reader_stands : CalM P w K mg base (L2.CX P w) 7 A.cReader "stands" ["self", "written"] (sp_Reader_stands A))
    (C_read_after_name : Cal P w K mg base (L2.CX P w) 10 "read_after_name" ["reader", "plan", "after"] (sp_read_after_name A))
    (C_Reader_take : CalM P w K mg base (L2.CX P w) 7 A.cReader "take" ["self"] (sp_Reader_take A)) : FnOk P w K mg base (L2.CX P w) 11 f fd ["reader", "plan"] (sp_read_after A) := by
  obtain ⟨f_Reader_stands, fd_Reader_stands, m_Reader_stands, b_Reader_stands, G_Reader_stands⟩ := C_Reader_stands.ex
  obtain ⟨f_read_after_name, fd_read_after_name, m_read_after_name, kp_read_after_name, b_read_after_name, G_read_after_name⟩ := C_read_after_name.ex
  obtain ⟨f_Reader_take, fd_Reader_take, m_Reader_take, b_Reader_take, G_Reader_take⟩ := C_Reader_take.ex
  refine F.okX sc_read_after (fun vs H Q E h => by revert h; first | (rintro ⟨rfl, _⟩; rfl) | (rintro ⟨_, rfl, _⟩; rfl) | (rintro ⟨_, _, rfl, _⟩; rfl) | (rintro ⟨_, _, _, rfl, _⟩; rfl) | (rintro ⟨_, _, _, _, rfl, _⟩; rfl) | (rintro ⟨_, _, _, _, _, rfl, _⟩; rfl) | (rintro ⟨_, _, _, _, _, _, rfl, _⟩; rfl) | (rintro ⟨_, _, _, _, _, _, _, rfl, _⟩; rfl) | (rintro ⟨_, _, _, _, _, _, _, _, rfl, _⟩; rfl) | (rintro ⟨_, _, _, _, _, _, _, _, _, rfl, _⟩; rfl) | (rintro ⟨_, _, _, _, _, _, _, _, _, _, rfl, _⟩; rfl) | (rintro ⟨_, _, _, _, _, _, _, _, _, _, _, rfl, _⟩; rfl)) (fun cdv Ar outer s H vs Q E hr h => ⟨_, 
  (pss_cons (ps_set (i := 2) sc_read_after.nd rfl (Or.inl rfl) (pe_lst pa_nil))
      (pss_cons (ps_if (pt_not (pt_val (pe_meth (pv 0) T.cReader m_Reader_stands G_Reader_stands (hr.mono (by decide)) b_Reader_stands .nil (passes_call (takes_of rfl rfl rfl rfl) (fun _ _ _ _ z => z)) (pa_cons pe_str pa_nil)))) (pss_one (ps_ret (pv 2))) pss_nil)
      (pss_cons (ps_expr (pe_meth0 (pv 0) T.cReader m_Reader_take G_Reader_take (hr.mono (by decide)) b_Reader_take .nil (passes_call (takes_of rfl rfl rfl rfl) (fun _ _ _ _ z => z))))
      (pss_cons (ps_expr (pe_bm PySem.F.plainAttrs_list PySem.F.slot_list_append PySem.F.type_list_append mt_append (pv 2) (pa_cons (pe_call G_read_after_name (hr.mono (by decide)) rfl m_read_after_name kp_read_after_name b_read_after_name .nil (passes_call (takes_of rfl rfl rfl rfl) (fun _ _ _ _ z => z)) (pa_cons (pv 0) (pa_cons (pv 1) (pa_cons (pv 2) pa_nil)))) pa_nil)))
      (pss_cons (ps_while (passes_of rfl) (pt_val (pe_meth (pv 0) T.cReader m_Reader_stands G_Reader_stands (hr.mono (by decide)) b_Reader_stands .nil (passes_call (takes_of rfl rfl rfl rfl) (fun _ _ _ _ z => z)) (pa_cons pe_str pa_nil))) (pss_cons (ps_expr (pe_meth0 (pv 0) T.cReader m_Reader_take G_Reader_take (hr.mono (by decide)) b_Reader_take .nil (passes_call (takes_of rfl rfl rfl rfl) (fun _ _ _ _ z => z))))
      (pss_one (ps_expr (pe_bm PySem.F.plainAttrs_list PySem.F.slot_list_append PySem.F.type_list_append mt_append (pv 2) (pa_cons (pe_call G_read_after_name (hr.mono (by decide)) rfl m_read_after_name kp_read_after_name b_read_after_name .nil (passes_call (takes_of rfl rfl rfl rfl) (fun _ _ _ _ z => z)) (pa_cons (pv 0) (pa_cons (pv 1) (pa_cons (pv 2) pa_nil)))) pa_nil))))))
      (pss_one (ps_ret (pv 2)))))))), ?_⟩)
  obtain ⟨r, pa, p, ts, rfl, hR, hP, hlen, kG⟩ := h
  obtain ⟨dx, tl, pl, hob⟩ := hR.ins
  refine st_seqSetN (evn_lst eva_nil (by simp)) fun la H1 n s1 e1 => ?_
  have hB : ∀ q k rest, ts = (q, .bad k) :: rest → ThrownB A H r E (k, q) := fun q k rest e => kG.2 [] q k rest (by rw [e]; rfl)
  refine st_seqIfG (R := fun b H' => b = !Vatsld.isWord "after" ts ∧ Same H1 H') (ansg_not (ansg_test (evg_standsW (kw := "after") (by decide +kernel) ⟨_, _, _, rfl, rfl⟩ (val_var rfl) (hR.mono s1) fun q k rest e => (hB q k rest e).mono (s1.but r)) fun v H2 h2 => ⟨_, h2.1, rfl, h2.2⟩)) (fun H2 h2 => ?_) fun H2 h2 => ?_
  · have e : Vatsld.isWord "after" ts = false := not_t h2.1.symm
    have : afterPart p ts = .ok ([], ts) := if_neg (by rw [e]; exact Bool.false_ne_true)
    rw [this] at kG
    exact st_ret (val_var rfl) ((kG.1.mono ((s1.trans h2.2).but r)).out (hR.mono (s1.trans h2.2)) la n (h2.2 _ _ e1))
  have e : Vatsld.isWord "after" ts = true := not_f h2.1.symm
  have s2 := s1.trans h2.2
  have this : afterPart p ts = Vatsld.readAfter p ts.length [] (ts.drop 1) := if_pos e
  rw [this] at kG
  have hlt := hR.short
  obtain ⟨m, hm⟩ : ∃ m, ts.length = m + 1 := by
    obtain ⟨_, x, rest, hx⟩ := hR.ok
    exact ⟨rest.length, by rw [hx]; rfl⟩
  rw [hm] at kG
  refine st_seqDropG (evg_take (val_var rfl) (hR.mono s2) (word_unstuck e)) fun v H3 h3 => ?_
  have b3 := (s2.but r).trans h3.1
  obtain ⟨dx2, tl2, pl2, hob2⟩ := (hR.mono s2).ins
  have hla : H3 la = some (.lst (natsV [])) := h3.1 _ _ (lst_notR hob2 (h2.2 _ _ e1)) (h2.2 _ _ e1)
  refine after_one (D := { nx := _, rt := _, bk := _, ct := _ }) rfl rfl rfl hR b3 h3.2 hP hlen n hla (by simp) kG fun i rest H4 ei b4 r4 hl4 kG4 => ?_
  refine st_seqWhileG (Pv := fun mm σ Hc => σ = [some (.ref r), some (.ref pa), some (.ref la)] ∧ ∃ l ts' k, ts'.length = mm ∧ ts'.length ≤ k ∧ l.length + ts'.length ≤ 6000 ∧ But r H Hc ∧ RS A Hc r ts' ∧ Hc la = some (.lst (natsV l)) ∧ GivesB A H r E (contP p k l ts') (fun a H' => ∀ la, H la = none → H' la = some (.lst (natsV a)) → Q (.ref la) H'))
    rest.length ⟨rfl, [i], rest, m, rfl, ?_, ?_, b4, r4, hl4, kG4⟩ ?_
  · have := step_len ei
    rw [List.length_drop] at this
    omega
  · have := step_len ei
    rw [List.length_drop] at this
    show 1 + _ ≤ _
    omega
  rintro mm σ Hc ⟨rfl, l, ts', k, rfl, hk, hl6, bc, rc, lc, kc⟩
  refine ⟨fun b H' => b = Vatsld.isSign 44 ts' ∧ Same Hc H', ansg_test (evg_standsS (c := 44) (by decide +kernel) (.inl rfl) (val_var rfl) rc fun q kk rr er => (kc.2 l q kk rr (by rw [er]; rfl)).mono bc) fun v H2 h2 => ⟨_, h2.1, rfl, h2.2⟩, fun H5 h5 => ?_, fun H5 h5 => ?_⟩
  · have e5 : Vatsld.isSign 44 ts' = true := h5.1.symm
    have hc : contP p k l ts' = Vatsld.readAfter p k l (ts'.drop 1) := if_pos e5
    rw [hc] at kc
    obtain ⟨k', rfl⟩ : ∃ k', k = k' + 1 := by
      obtain ⟨_, x, rr, hx⟩ := rc.ok
      rw [hx] at hk
      exact ⟨k - 1, by simp at hk; omega⟩
    refine st_seqDropG (evg_take (val_var rfl) (rc.mono h5.2) (sign_unstuck e5)) fun v H6 h6 => ?_
    obtain ⟨dx6, tl6, pl6, hob6⟩ := (rc.mono h5.2).ins
    have hla6 := h6.1 _ _ (lst_notR hob6 (h5.2 _ _ lc)) (h5.2 _ _ lc)
    refine after_one rfl rfl rfl hR ((bc.trans (h5.2.but r)).trans h6.1) h6.2 hP hlen n hla6 (by omega) kc fun i' rest' H7 ei7 b7 r7 hl7 kG7 => ?_
    have hs7 := step_len ei7
    rw [List.length_drop] at hs7
    refine ⟨rest'.length, by omega, rfl, l ++ [i'], rest', k', rfl, by omega, by rw [List.length_append]; show l.length + 1 + _ ≤ _; omega, b7, r7, hl7, kG7⟩
  · have e5 : Vatsld.isSign 44 ts' = false := h5.1.symm
    have hc : contP p k l ts' = .ok (l, ts') := if_neg (by rw [e5]; exact Bool.false_ne_true)
    rw [hc] at kc
    exact st_ret (val_var rfl) ((kc.1.mono (bc.trans (h5.2.but r))).out (rc.mono h5.2) la n (h5.2 _ _ lc))
end
end Tp
namespace Tp
open PySem PySem.Spec PyProof.Rows L2
section
variable {P : Program} {w : World} {K : PySem.W.Frag} {mg : Str → Option Value} {base : Heap} {A : Ad}
open Vatsld (Toks Fault)
/-! ### a group, a test -/
def newIn (names : List (List Nat)) (ts : Toks) : Except Fault (List Nat × Toks) := (Vatsld.readName ts).bind fun w => if (names.findIdx? fun x => x == w.1.2).isSome then .error (6, w.1.1) else .ok (w.1.2, w.2)
def costPart (ts : Toks) : Except Fault (Nat × Toks) := (Vatsld.wantWord "cost" ts).bind fun q => Vatsld.readNum 1 Vatsld.COST q
def chancePart (ts : Toks) : Except Fault (Nat × Toks) := (Vatsld.wantWord "chance" ts).bind fun q => Vatsld.readNum 0 100 q
theorem ebind_assoc {α β γ : Type} (x : Except Fault α) (f : α → Except Fault β) (g : β → Except Fault γ) : (x.bind f).bind g = x.bind fun a => (f a).bind g := by cases x <;> rfl
theorem bnd {α β : Type} {x : Except Fault α} {f g : α → Except Fault β} (h : ∀ a, f a = g a) : x.bind f = x.bind g := by rw [funext h]
theorem group_is (p : Vatsld.Plan) (ts : Toks) : Vatsld.readGroup p ts = if Vatsld.GROUPS ≤ p.groups.length then .error (5, Vatsld.here ts) else
    (newIn (p.groups.map (·.name)) (ts.drop 1)).bind fun w => (Vatsld.readNum 0 Vatsld.COST w.2).bind fun n => (Vatsld.wantSign 59 n.2).bind fun r => .ok ({ p with groups := p.groups ++ [{ name := w.1, setup := n.1 }] }, r) := by
  unfold Vatsld.readGroup newIn
  split
  · rfl
  rw [ebind_assoc]
  refine bnd fun w => ?_
  by_cases hx : (Vatsld.groupNamed p w.1.2).isSome = true
  · have hy : ((p.groups.map (·.name)).findIdx? fun x => x == w.1.2).isSome = true := by rw [find_names]; exact hx
    rw [if_pos hx, if_pos hy]
    rfl
  · have hy : ¬ ((p.groups.map (·.name)).findIdx? fun x => x == w.1.2).isSome = true := by rw [find_names]; exact hx
    rw [if_neg hx, if_neg hy]
    show (Vatsld.readNum 0 Vatsld.COST w.2).bind _ = (Vatsld.readNum 0 Vatsld.COST w.2).bind _
    refine bnd fun n => ?_
    cases Vatsld.wantSign 59 n.2 <;> rfl
theorem job_is (p : Vatsld.Plan) (ts : Toks) : Vatsld.readJob p ts = if Vatsld.JOBS ≤ p.jobs.length then .error (5, Vatsld.here ts) else
    (newIn (p.jobs.map (·.name)) (ts.drop 1)).bind fun w => (costPart w.2).bind fun c => (chancePart c.2).bind fun h => (inPart p h.2).bind fun g => (afterPart p g.2).bind fun a => (Vatsld.wantSign 59 a.2).bind fun r =>
      .ok ({ p with jobs := p.jobs ++ [{ name := w.1, cost := c.1, chance := h.1, group := g.1, after_ := a.1 }] }, r) := by
  unfold Vatsld.readJob newIn costPart chancePart
  split
  · rfl
  rw [ebind_assoc]
  refine bnd fun w => ?_
  by_cases hx : (Vatsld.jobNamed p w.1.2).isSome = true
  · have hy : ((p.jobs.map (·.name)).findIdx? fun x => x == w.1.2).isSome = true := by rw [find_names]; exact hx
    rw [if_pos hx, if_pos hy]
    rfl
  · have hy : ¬ ((p.jobs.map (·.name)).findIdx? fun x => x == w.1.2).isSome = true := by rw [find_names]; exact hx
    rw [if_neg hx, if_neg hy]
    show (Vatsld.wantWord "cost" w.2).bind _ = ((Vatsld.wantWord "cost" w.2).bind fun q => Vatsld.readNum 1 Vatsld.COST q).bind _
    rw [ebind_assoc]
    refine bnd fun q => bnd fun c => ?_
    rw [ebind_assoc]
    refine bnd fun q2 => bnd fun h => ?_
    change (inPart p h.2).bind _ = _
    refine bnd fun g => ?_
    change (afterPart p g.2).bind _ = _
    refine bnd fun a => ?_
    cases Vatsld.wantSign 59 a.2 <;> rfl
section
variable {σ : L2.St} {H : Hp} {tr tm te : TE} {r m : Addr} {ts : Toks} {E : XK} {names : List (List Nat)} {R R' : V → Hp → Prop}
theorem evg_new (hr : Val tr σ H (.ref r)) (hm : Val tm σ H (.ref m)) (hR : RS A H r ts) (hN : Named A H m names) (hl : names.length ≤ 1000) (kF : ∀ f, newIn names ts = .error f → ThrownB A H r E f) :
    EvG (tCall (sp_read_new_name A) [] E (tCons tr (tCons tm tNil))) σ H (fun v H' => ∃ nm rest, v = .str (strOf nm) ∧ But r H H' ∧ RS A H' r rest ∧ newIn names ts = .ok (nm, rest)) := fun Q z => by
  refine hr _ (hm _ ?_)
  show sp_read_new_name A _ H Q E
  exact ⟨r, m, ts, names, rfl, hR, hN, hl, kF, fun nm rest e H2 b r2 => z _ H2 ⟨nm, rest, rfl, b, r2, e⟩⟩
theorem evg_cost (hr : Val tr σ H (.ref r)) (hR : RS A H r ts) (kF : ∀ f, costPart ts = .error f → ThrownB A H r E f) :
    EvG (tCall (sp_read_cost A) [] E (tCons tr tNil)) σ H (fun v H' => ∃ (n : Nat) (rest : Toks), v = .int (n : Int) ∧ But r H H' ∧ RS A H' r rest ∧ costPart ts = .ok (n, rest)) := fun Q z => by
  refine hr _ ?_
  show sp_read_cost A _ H Q E
  exact ⟨r, ts, rfl, hR, kF, fun n rest e H2 b r2 => z _ H2 ⟨n, rest, rfl, b, r2, e⟩⟩
theorem evg_chance (hr : Val tr σ H (.ref r)) (hR : RS A H r ts) (kF : ∀ f, chancePart ts = .error f → ThrownB A H r E f) :
    EvG (tCall (sp_read_chance A) [] E (tCons tr tNil)) σ H (fun v H' => ∃ (n : Nat) (rest : Toks), v = .int (n : Int) ∧ But r H H' ∧ RS A H' r rest ∧ chancePart ts = .ok (n, rest)) := fun Q z => by
  refine hr _ ?_
  show sp_read_chance A _ H Q E
  exact ⟨r, ts, rfl, hR, kF, fun n rest e H2 b r2 => z _ H2 ⟨n, rest, rfl, b, r2, e⟩⟩
theorem evg_in {p : Vatsld.Plan} (hr : Val tr σ H (.ref r)) (hm : Val tm σ H (.ref m)) (hR : RS A H r ts) (hP : PlanAt A H m p) (hl : p.groups.length ≤ 1000) (kF : ∀ f, inPart p ts = .error f → ThrownB A H r E f) (kB : ∀ a q k rest, inPart p ts = .ok (a, (q, .bad k) :: rest) → ThrownB A H r E (k, q)) :
    EvG (tCall (sp_read_in A) [] E (tCons tr (tCons tm tNil))) σ H (fun v H' => ∃ (g : Option Nat) (rest : Toks), v = optV g ∧ But r H H' ∧ RS A H' r rest ∧ inPart p ts = .ok (g, rest)) := fun Q z => by
  refine hr _ (hm _ ?_)
  show sp_read_in A _ H Q E
  exact ⟨r, m, p, ts, rfl, hR, hP, hl, ⟨kF, fun n rest e H2 b r2 => z _ H2 ⟨n, rest, rfl, b, r2, e⟩⟩, kB⟩
theorem evg_after {p : Vatsld.Plan} (hr : Val tr σ H (.ref r)) (hm : Val tm σ H (.ref m)) (hR : RS A H r ts) (hP : PlanAt A H m p) (hl : p.jobs.length ≤ 1000) (kF : ∀ f, afterPart p ts = .error f → ThrownB A H r E f) (kB : ∀ a q k rest, afterPart p ts = .ok (a, (q, .bad k) :: rest) → ThrownB A H r E (k, q)) :
    EvG (tCall (sp_read_after A) [] E (tCons tr (tCons tm tNil))) σ H (fun v H' => ∃ (a : List Nat) (rest : Toks) (la : Addr), v = .ref la ∧ H la = none ∧ H' la = some (.lst (natsV a)) ∧ But r H H' ∧ RS A H' r rest ∧ afterPart p ts = .ok (a, rest)) := fun Q z => by
  refine hr _ (hm _ ?_)
  show sp_read_after A _ H Q E
  exact ⟨r, m, p, ts, rfl, hR, hP, hl, ⟨kF, fun a rest e H2 b r2 la n hla => z _ H2 ⟨a, rest, la, rfl, n, hla, b, r2, e⟩⟩, kB⟩
theorem evg_begin {tk : Str} {kw : String} {xs : List V} {most : Nat} (hs : tk = strOf (Vatsld.ascii kw)) (hk : ∃ c d r, Vatsld.ascii kw = c :: d :: r ∧ Vatsld.digit c = false) (hr : Val tr σ H (.ref r)) (hm : Val tm σ H (.ref m)) (hR : RS A H r ts) (hml : H m = some (.lst xs))
    (kF : Vatsld.isWord kw ts = false → ThrownB A H r E (Vatsld.faultAt ts)) (kT : Vatsld.isWord kw ts = true → xs.length = most → ThrownB A H r E (5, Vatsld.here ts)) :
    EvG (tCall (sp_begin_member A) [] E (tCons tr (tCons (tC (.str tk)) (tCons tm (tCons (tC (.int (most : Int))) tNil))))) σ H (fun v H' => Vatsld.isWord kw ts = true ∧ xs.length ≠ most ∧ But r H H' ∧ RS A H' r (ts.drop 1)) := fun Q z => by
  refine hr _ (val_c _ (hm _ (val_c _ ?_)))
  show sp_begin_member A _ H Q E
  exact ⟨r, m, ts, Vatsld.ascii kw, xs, Vatsld.isWord kw ts, most, by subst hs; rfl, hR, fun x rest w e hw => by rw [e]; exact wr_word hk hw, word_unstuck, hml, kF, kT, fun e ne H2 b r2 => z _ H2 ⟨e, ne, b, r2⟩⟩
theorem evg_intW (T : Txt K mg A) (h : EvG te σ H R) (hf : ∀ v H', R v H' → ∃ q p n w, v = .ref q ∧ TokAt A H' q (p, .num n) w ∧ Wr (.num n) w ∧ R' (.int (n : Int)) H') :
    EvG (tCB (fun xs H Q => ∃ a n, xs = [.str a] ∧ PySem.intText? a = some n ∧ a.length ≤ 640 ∧ Q (.int n) H) (tCons (tFld K te "written") tNil)) σ H R' := fun Q z => h _ fun v H' rv => by
  obtain ⟨q, p, n, w, rfl, ⟨dq, e⟩, ⟨h1, h2, h3, h4⟩, r'⟩ := hf v H' rv
  refine ⟨q, _, dq, _, _, rfl, e, T.cToken, T.n_Token_written, tokF_written _ _ _, strOf w, (n : Int), rfl, ?_, by rw [strOf_len]; omega, z _ H' r'⟩
  rw [int_digits h1 h2 (by omega), h4]
end

def sp_read_group (A : Ad) : Sp := fun vs H Q E => ∃ (r pa : Addr) (p : Vatsld.Plan) (ts : Toks), vs = [.ref r, .ref pa] ∧ RS A H r ts ∧ PlanAt A H pa p ∧ WF p ∧ Vatsld.isWord "group" ts = true ∧
  Gives A H r E (Vatsld.readGroup p ts) (fun p' H' => ∀ x g, p' = { p with groups := p.groups ++ [g] } → H x = none → GroupAt A H' x g → Q (.ref x) H')
/-! ### read_group -/
abbrev s_read_group : Stmt := top 77
theorem sc_read_group : FnScope ["reader", "plan", "name", "setup"] ["reader", "plan"] (defScope s_read_group) := ⟨rfl, rfl, rfl, by decide +kernel, rfl, by decide +kernel, by decide +kernel⟩
theorem ok_read_group {f : Addr} {fd : FuncData} (F : Fun K "read_group" "read_group" s_read_group f fd) (T : Txt K mg A) (TF : TxF K mg A)
    (C_Group_init : CalI P w K mg base CX0 1 A.cGroup ["self", "name", "setup"] (sp_Group_init A))
    (C_Reader_take_written : CalM P w K mg base (L2.CX P w) 8 A.cReader "take_written" ["self", "written"] (sp_Reader_take_written A))
    (C_Reader_take_number : CalM P w K mg base (L2.CX P w) 8 A.cReader "take_number" ["self"] (sp_Reader_take_number A))
    (C_read_new_name : Cal P w K mg base (L2.CX P w) 9 "read_new_name" ["reader", "members"] (sp_read_new_name A))
    (C_begin_member : Cal P w K mg base (L2.CX P w) 9 "begin_member" ["reader", "keyword", "members", "most"] (sp_begin_member A)) : FnOk P w K mg base (L2.CX P w) 10 f fd ["reader", "plan"] (sp_read_group A) := by
  obtain ⟨f_Group, fd_Group, M_Group, b_Group, G_Group⟩ := C_Group_init.ex
  obtain ⟨f_Reader_take_written, fd_Reader_take_written, m_Reader_take_written, b_Reader_take_written, G_Reader_take_written⟩ := C_Reader_take_written.ex
  obtain ⟨f_Reader_take_number, fd_Reader_take_number, m_Reader_take_number, b_Reader_take_number, G_Reader_take_number⟩ := C_Reader_take_number.ex
  obtain ⟨f_read_new_name, fd_read_new_name, m_read_new_name, kp_read_new_name, b_read_new_name, G_read_new_name⟩ := C_read_new_name.ex
  obtain ⟨f_begin_member, fd_begin_member, m_begin_member, kp_begin_member, b_begin_member, G_begin_member⟩ := C_begin_member.ex
  refine F.okX sc_read_group (fun vs H Q E h => by revert h; first | (rintro ⟨rfl, _⟩; rfl) | (rintro ⟨_, rfl, _⟩; rfl) | (rintro ⟨_, _, rfl, _⟩; rfl) | (rintro ⟨_, _, _, rfl, _⟩; rfl) | (rintro ⟨_, _, _, _, rfl, _⟩; rfl) | (rintro ⟨_, _, _, _, _, rfl, _⟩; rfl) | (rintro ⟨_, _, _, _, _, _, rfl, _⟩; rfl) | (rintro ⟨_, _, _, _, _, _, _, rfl, _⟩; rfl) | (rintro ⟨_, _, _, _, _, _, _, _, rfl, _⟩; rfl) | (rintro ⟨_, _, _, _, _, _, _, _, _, rfl, _⟩; rfl) | (rintro ⟨_, _, _, _, _, _, _, _, _, _, rfl, _⟩; rfl) | (rintro ⟨_, _, _, _, _, _, _, _, _, _, _, rfl, _⟩; rfl)) (fun cdv Ar outer s H vs Q E hr h => ⟨_, 
  (pss_cons (ps_expr (pe_call G_begin_member (hr.mono (by decide)) rfl m_begin_member kp_begin_member b_begin_member .nil (passes_call (takes_of rfl rfl rfl rfl) (fun _ _ _ _ z => z)) (pa_cons (pv 0) (pa_cons pe_str (pa_cons (pe_fld (pv 1) rfl) (pa_cons (pe_num (by rfl) T.k_MOST_GROUPS) pa_nil))))))
      (pss_cons (ps_set (i := 2) sc_read_group.nd rfl (Or.inl rfl) (pe_call G_read_new_name (hr.mono (by decide)) rfl m_read_new_name kp_read_new_name b_read_new_name .nil (passes_call (takes_of rfl rfl rfl rfl) (fun _ _ _ _ z => z)) (pa_cons (pv 0) (pa_cons (pe_fld (pv 1) rfl) pa_nil))))
      (pss_cons (ps_set (i := 3) sc_read_group.nd rfl (Or.inl rfl) (pe_callTy call_int_str (by rfl) T.b_int (by decide +kernel) (pa_cons (pe_fld (pe_meth0 (pv 0) T.cReader m_Reader_take_number G_Reader_take_number (hr.mono (by decide)) b_Reader_take_number .nil (passes_call (takes_of rfl rfl rfl rfl) (fun _ _ _ _ z => z))) rfl) pa_nil)))
      (pss_cons (ps_expr (pe_meth (pv 0) T.cReader m_Reader_take_written G_Reader_take_written (hr.mono (by decide)) b_Reader_take_written .nil (passes_call (takes_of rfl rfl rfl rfl) (fun _ _ _ _ z => z)) (pa_cons pe_str pa_nil)))
      (pss_one (ps_ret (pe_make M_Group G_Group (hr.mono (by decide)) rfl T.g_Group b_Group .nil pass0 (pa_cons (pv 2) (pa_cons (pv 3) pa_nil))))))))), ?_⟩)
  obtain ⟨r, pa, p, ts, rfl, hR, hP, hW, hw, kG⟩ := h
  rw [group_is] at kG
  obtain ⟨dx, tl, pl, hob⟩ := hR.ins
  obtain ⟨dp, lg, lt, gs, js, ep, elg, elen, _, _⟩ := hP.lens
  have hG : Vatsld.GROUPS = 3 := rfl
  have ng := hW.ng
  refine st_seqDropG (evg_begin (kw := "group") (most := 3) (by decide +kernel) ⟨_, _, _, rfl, rfl⟩ (val_var rfl) (val_groups T (val_var rfl) ep) hR elg (fun e => by rw [hw] at e; cases e) fun _ e => by
    rw [if_pos (by omega)] at kG
    exact kG.bad) fun v H1 h1 => ?_
  obtain ⟨_, hne, b1, r1⟩ := h1
  rw [if_neg (by omega)] at kG
  have hP1 := hP.but hob b1
  obtain ⟨dp1, lg1, lt1, ep1, hN1⟩ := hP1.gnames
  refine st_seqSetG (evg_new (names := p.groups.map (·.name)) (val_var rfl) (val_groups T (val_var rfl) ep1) r1 hN1 (by rw [List.length_map]; omega) fun f ef => (kG.err ef).mono b1) fun v H2 h2 => ?_
  obtain ⟨nm, rest, rfl, b2, r2, e2⟩ := h2
  have kG := kG.next e2
  have b2 := b1.trans b2
  refine st_seqSetG (R := fun v H' => ∃ (n : Nat) (rest' : Toks), v = .int (n : Int) ∧ But r H H' ∧ RS A H' r rest' ∧ Vatsld.readNum 0 Vatsld.COST rest = .ok (n, rest')) (evg_intW T (evg_number (val_var rfl) r2 fun e => (kG.err (readNum_not e)).mono b2) fun v H3 h3 => ?_) fun v H3 h3 => ?_
  · obtain ⟨q, p3, n, w, rest3, rfl, e3, hn3, hw3, b3, hq3, r3⟩ := h3
    refine ⟨q, p3, n, w, rfl, hq3, hw3, n, rest3, rfl, b2.trans b3, r3, ?_⟩
    rw [e3]
    have : Vatsld.COST = 1000 := rfl
    exact if_neg (by omega)
  obtain ⟨n, rest3, rfl, b3, r3, e3⟩ := h3
  have kG := kG.next e3
  refine st_seqDropG (evg_wantS (c := 59) (by decide +kernel) (.inr rfl) (val_var rfl) r3 fun e => (kG.err (wantS_f e)).mono b3) fun v H4 ⟨e4, b4, r4⟩ => ?_
  have b4 := b3.trans b4
  have kG := (kG.next (wantS_t e4)).mono b4
  refine st_retP (evp_make (fs := grF { name := nm, setup := n }) (eva_cons (evs_of (val_var rfl)) fun _ _ => eva_cons (evs_of (val_var rfl)) fun _ _ => eva_nil) fun x dx H5 _ Q z => ?_) fun x H5 n5 s5 h5 => ?_
  · exact ⟨x, dx, { name := nm, setup := n }, rfl, upd_same, fun H6 h1 h2 => z H6 h1 h2⟩
  · refine (kG.mono (s5.but r)).out (r4.mono s5) x _ rfl (b4.free n5 fun z => ?_) h5
    obtain ⟨dx4, tl4, pl4, hob4⟩ := r4.ins
    rw [z, hob4] at n5
    cases n5

def sp_read_test (A : Ad) : Sp := fun vs H Q E => ∃ (r pa : Addr) (p : Vatsld.Plan) (ts : Toks), vs = [.ref r, .ref pa] ∧ RS A H r ts ∧ PlanAt A H pa p ∧ WF p ∧
  Gives A H r E (if Vatsld.isWord "test" ts then Vatsld.readJob p ts else .error (Vatsld.faultAt ts)) (fun p' H' => ∀ x j dq la, p' = { p with jobs := p.jobs ++ [j] } → H x = none → H la = none → H' x = some (.ins A.cTest dq (teF j la)) → H' la = some (.lst (natsV j.after_)) → Q (.ref x) H')
/-! ### read_test -/
abbrev s_read_test : Stmt := top 78
theorem sc_read_test : FnScope ["reader", "plan", "name", "cost", "chance", "group", "after"] ["reader", "plan"] (defScope s_read_test) := ⟨rfl, rfl, rfl, by decide +kernel, rfl, by decide +kernel, by decide +kernel⟩
theorem ok_read_test {f : Addr} {fd : FuncData} (F : Fun K "read_test" "read_test" s_read_test f fd) (T : Txt K mg A) (TF : TxF K mg A)
    (C_Test_init : CalI P w K mg base CX0 1 A.cTest ["self", "name", "cost", "chance", "group", "after"] (sp_Test_init A))
    (C_Reader_take_written : CalM P w K mg base (L2.CX P w) 8 A.cReader "take_written" ["self", "written"] (sp_Reader_take_written A))
    (C_read_after : Cal P w K mg base (L2.CX P w) 11 "read_after" ["reader", "plan"] (sp_read_after A))
    (C_read_in : Cal P w K mg base (L2.CX P w) 10 "read_in" ["reader", "plan"] (sp_read_in A))
    (C_read_chance : Cal P w K mg base (L2.CX P w) 9 "read_chance" ["reader"] (sp_read_chance A))
    (C_read_cost : Cal P w K mg base (L2.CX P w) 9 "read_cost" ["reader"] (sp_read_cost A))
    (C_read_new_name : Cal P w K mg base (L2.CX P w) 9 "read_new_name" ["reader", "members"] (sp_read_new_name A))
    (C_begin_member : Cal P w K mg base (L2.CX P w) 9 "begin_member" ["reader", "keyword", "members", "most"] (sp_begin_member A)) : FnOk P w K mg base (L2.CX P w) 12 f fd ["reader", "plan"] (sp_read_test A) := by
  obtain ⟨f_Test, fd_Test, M_Test, b_Test, G_Test⟩ := C_Test_init.ex
  obtain ⟨f_Reader_take_written, fd_Reader_take_written, m_Reader_take_written, b_Reader_take_written, G_Reader_take_written⟩ := C_Reader_take_written.ex
  obtain ⟨f_read_after, fd_read_after, m_read_after, kp_read_after, b_read_after, G_read_after⟩ := C_read_after.ex
  obtain ⟨f_read_in, fd_read_in, m_read_in, kp_read_in, b_read_in, G_read_in⟩ := C_read_in.ex
  obtain ⟨f_read_chance, fd_read_chance, m_read_chance, kp_read_chance, b_read_chance, G_read_chance⟩ := C_read_chance.ex
  obtain ⟨f_read_cost, fd_read_cost, m_read_cost, kp_read_cost, b_read_cost, G_read_cost⟩ := C_read_cost.ex
  obtain ⟨f_read_new_name, fd_read_new_name, m_read_new_name, kp_read_new_name, b_read_new_name, G_read_new_name⟩ := C_read_new_name.ex
  obtain ⟨f_begin_member, fd_begin_member, m_begin_member, kp_begin_member, b_begin_member, G_begin_member⟩ := C_begin_member.ex
  refine F.okX sc_read_test (fun vs H Q E h => by revert h; first | (rintro ⟨rfl, _⟩; rfl) | (rintro ⟨_, rfl, _⟩; rfl) | (rintro ⟨_, _, rfl, _⟩; rfl) | (rintro ⟨_, _, _, rfl, _⟩; rfl) | (rintro ⟨_, _, _, _, rfl, _⟩; rfl) | (rintro ⟨_, _, _, _, _, rfl, _⟩; rfl) | (rintro ⟨_, _, _, _, _, _, rfl, _⟩; rfl) | (rintro ⟨_, _, _, _, _, _, _, rfl, _⟩; rfl) | (rintro ⟨_, _, _, _, _, _, _, _, rfl, _⟩; rfl) | (rintro ⟨_, _, _, _, _, _, _, _, _, rfl, _⟩; rfl) | (rintro ⟨_, _, _, _, _, _, _, _, _, _, rfl, _⟩; rfl) | (rintro ⟨_, _, _, _, _, _, _, _, _, _, _, rfl, _⟩; rfl)) (fun cdv Ar outer s H vs Q E hr h => ⟨_, 
  (pss_cons (ps_expr (pe_call G_begin_member (hr.mono (by decide)) rfl m_begin_member kp_begin_member b_begin_member .nil (passes_call (takes_of rfl rfl rfl rfl) (fun _ _ _ _ z => z)) (pa_cons (pv 0) (pa_cons pe_str (pa_cons (pe_fld (pv 1) rfl) (pa_cons (pe_num (by rfl) T.k_MOST_TESTS) pa_nil))))))
      (pss_cons (ps_set (i := 2) sc_read_test.nd rfl (Or.inl rfl) (pe_call G_read_new_name (hr.mono (by decide)) rfl m_read_new_name kp_read_new_name b_read_new_name .nil (passes_call (takes_of rfl rfl rfl rfl) (fun _ _ _ _ z => z)) (pa_cons (pv 0) (pa_cons (pe_fld (pv 1) rfl) pa_nil))))
      (pss_cons (ps_set (i := 3) sc_read_test.nd rfl (Or.inl rfl) (pe_call G_read_cost (hr.mono (by decide)) rfl m_read_cost kp_read_cost b_read_cost .nil (passes_call (takes_of rfl rfl rfl rfl) (fun _ _ _ _ z => z)) (pa_cons (pv 0) pa_nil)))
      (pss_cons (ps_set (i := 4) sc_read_test.nd rfl (Or.inl rfl) (pe_call G_read_chance (hr.mono (by decide)) rfl m_read_chance kp_read_chance b_read_chance .nil (passes_call (takes_of rfl rfl rfl rfl) (fun _ _ _ _ z => z)) (pa_cons (pv 0) pa_nil)))
      (pss_cons (ps_set (i := 5) sc_read_test.nd rfl (Or.inl rfl) (pe_call G_read_in (hr.mono (by decide)) rfl m_read_in kp_read_in b_read_in .nil (passes_call (takes_of rfl rfl rfl rfl) (fun _ _ _ _ z => z)) (pa_cons (pv 0) (pa_cons (pv 1) pa_nil))))
      (pss_cons (ps_set (i := 6) sc_read_test.nd rfl (Or.inl rfl) (pe_call G_read_after (hr.mono (by decide)) rfl m_read_after kp_read_after b_read_after .nil (passes_call (takes_of rfl rfl rfl rfl) (fun _ _ _ _ z => z)) (pa_cons (pv 0) (pa_cons (pv 1) pa_nil))))
      (pss_cons (ps_expr (pe_meth (pv 0) T.cReader m_Reader_take_written G_Reader_take_written (hr.mono (by decide)) b_Reader_take_written .nil (passes_call (takes_of rfl rfl rfl rfl) (fun _ _ _ _ z => z)) (pa_cons pe_str pa_nil)))
      (pss_one (ps_ret (pe_make M_Test G_Test (hr.mono (by decide)) rfl T.g_Test b_Test .nil pass0 (pa_cons (pv 2) (pa_cons (pv 3) (pa_cons (pv 4) (pa_cons (pv 5) (pa_cons (pv 6) pa_nil))))))))))))))), ?_⟩)
  obtain ⟨r, pa, p, ts, rfl, hR, hP, hW, kG⟩ := h
  obtain ⟨dx, tl, pl, hob⟩ := hR.ins
  obtain ⟨dp, lg, lt, gs, js, ep, _, _, elt, elen⟩ := hP.lens
  have hG : Vatsld.JOBS = 7 := rfl
  have nj := hW.nj
  have ng := hW.ng
  refine st_seqDropG (evg_begin (kw := "test") (most := 7) (by decide +kernel) ⟨_, _, _, rfl, rfl⟩ (val_var rfl) (val_tests T (val_var rfl) ep) hR elt (fun e => by
    rw [if_neg (by rw [e]; exact Bool.false_ne_true)] at kG
    exact kG.bad) fun ew e => by
    rw [if_pos ew, job_is, if_pos (by omega)] at kG
    exact kG.bad) fun v H1 h1 => ?_
  obtain ⟨ew, hne, b1, r1⟩ := h1
  rw [if_pos ew, job_is, if_neg (by omega)] at kG
  have hP1 := hP.but hob b1
  obtain ⟨dp1, lg1, lt1, ep1, hN1⟩ := hP1.tnames
  refine st_seqSetG (evg_new (names := p.jobs.map (·.name)) (val_var rfl) (val_tests T (val_var rfl) ep1) r1 hN1 (by rw [List.length_map]; omega) fun f ef => (kG.err ef).mono b1) fun v H2 h2 => ?_
  obtain ⟨nm, rest2, rfl, b2, r2, e2⟩ := h2
  have kG := kG.next e2
  have b2 := b1.trans b2
  refine st_seqSetG (evg_cost (val_var rfl) r2 fun f ef => (kG.err ef).mono b2) fun v H3 h3 => ?_
  obtain ⟨c, rest3, rfl, b3, r3, e3⟩ := h3
  have kG := kG.next e3
  have b3 := b2.trans b3
  refine st_seqSetG (evg_chance (val_var rfl) r3 fun f ef => (kG.err ef).mono b3) fun v H4 h4 => ?_
  obtain ⟨ch, rest4, rfl, b4, r4, e4⟩ := h4
  have kG := kG.next e4
  have b4 := b3.trans b4
  refine st_seqSetG (evg_in (p := p) (val_var rfl) (val_var rfl) r4 (hP.but hob b4) (by omega) (fun f ef => (kG.err ef).mono b4) fun a q k rest e => ((kG.next e).1 (k, q) rfl).mono b4) fun v H5 h5 => ?_
  obtain ⟨g, rest5, rfl, b5, r5, e5⟩ := h5
  have kG := kG.next e5
  have b5 := b4.trans b5
  refine st_seqSetG (evg_after (p := p) (val_var rfl) (val_var rfl) r5 (hP.but hob b5) (by omega) (fun f ef => (kG.err ef).mono b5) fun a q k rest e => ((kG.next e).1 (k, q) rfl).mono b5) fun v H6 h6 => ?_
  obtain ⟨a, rest6, la, rfl, n6, l6, b6, r6, e6⟩ := h6
  have kG := kG.next e6
  have nr5 : ∀ q, H5 q = none → q ≠ r := fun q n z => by
    obtain ⟨dx5, tl5, pl5, hob5⟩ := r5.ins
    rw [z, hob5] at n
    cases n
  have nla := b5.free n6 (nr5 _ n6)
  have b6 := b5.trans b6
  obtain ⟨dx6, tl6, pl6, hob6⟩ := r6.ins
  refine st_seqDropG (evg_wantS (c := 59) (by decide +kernel) (.inr rfl) (val_var rfl) r6 fun e => (kG.err (wantS_f e)).mono b6) fun v H7 ⟨e7, b7, r7⟩ => ?_
  have l7 := b7 _ _ (lst_notR hob6 l6) l6
  have b7 := b6.trans b7
  have kG := (kG.next (wantS_t e7)).mono b7
  refine st_retP (evp_make (fs := teF { name := nm, cost := c, chance := ch, group := g, after_ := a } la) (eva_cons (evs_of (val_var rfl)) fun _ _ => eva_cons (evs_of (val_var rfl)) fun _ _ => eva_cons (evs_of (val_var rfl)) fun _ _ => eva_cons (evs_of (val_var rfl)) fun _ _ => eva_cons (evs_of (val_var rfl)) fun _ _ => eva_nil) fun x dx H8 _ Q z => ?_) fun x H8 n8 s8 h8 => ?_
  · exact ⟨x, dx, la, { name := nm, cost := c, chance := ch, group := g, after_ := a }, rfl, upd_same, fun H9 h1 h2 => z H9 h1 h2⟩
  · obtain ⟨dq, h8⟩ := h8
    refine (kG.mono (s8.but r)).out (r7.mono s8) x _ dq la rfl (b7.free n8 fun z => ?_) nla h8 (s8 _ _ l7)
    obtain ⟨dx7, tl7, pl7, hob7⟩ := r7.ins
    rw [z, hob7] at n8
    cases n8
end
end Tp
namespace Tp
open PySem PySem.Spec PyProof.Rows L2
section
variable {P : Program} {w : World} {K : PySem.W.Frag} {mg : Str → Option Value} {base : Heap} {A : Ad}
open Vatsld (Toks Fault)
/-! ### the whole text -/
/-- a plan whose lists are all N -/
def TestN (A : Ad) (N : Addr → Prop) (H : Hp) (a : Addr) (j : Vatsld.Job) : Prop := ∃ dx la, H a = some (.ins A.cTest dx (teF j la)) ∧ H la = some (.lst (natsV j.after_)) ∧ N la
def PlanAtN (A : Ad) (N : Addr → Prop) (H : Hp) (a : Addr) (p : Vatsld.Plan) : Prop := ∃ dx lg lt gs ts, H a = some (.ins A.cPlan dx (plF lg lt)) ∧ H lg = some (.lst gs) ∧ H lt = some (.lst ts) ∧ N lg ∧ N lt ∧
  Each (GroupAt A H) gs p.groups ∧ Each (TestN A N H) ts p.jobs
theorem PlanAtN.at {N : Addr → Prop} {H : Hp} {a : Addr} {p : Vatsld.Plan} (h : PlanAtN A N H a p) : PlanAt A H a p :=
  let ⟨dx, lg, lt, gs, ts, e1, e2, e3, _, _, e4, e5⟩ := h
  ⟨dx, lg, lt, gs, ts, e1, e2, e3, e4, e5.mono fun _ _ ⟨dq, la, f1, f2, _⟩ => ⟨dq, la, f1, f2⟩⟩
theorem PlanAtN.imp {N N' : Addr → Prop} {H : Hp} {a : Addr} {p : Vatsld.Plan} (h : PlanAtN A N H a p) (m : ∀ x, N x → N' x) : PlanAtN A N' H a p :=
  let ⟨dx, lg, lt, gs, ts, e1, e2, e3, n1, n2, e4, e5⟩ := h
  ⟨dx, lg, lt, gs, ts, e1, e2, e3, m _ n1, m _ n2, e4, e5.mono fun _ _ ⟨dq, la, f1, f2, f3⟩ => ⟨dq, la, f1, f2, m _ f3⟩⟩
theorem PlanAtN.mono {N : Addr → Prop} {H H' : Hp} {a : Addr} {p : Vatsld.Plan} (h : PlanAtN A N H a p) (s : Same H H') : PlanAtN A N H' a p :=
  let ⟨dx, lg, lt, gs, ts, e1, e2, e3, n1, n2, e4, e5⟩ := h
  ⟨dx, lg, lt, gs, ts, s _ _ e1, s _ _ e2, s _ _ e3, n1, n2, e4.mono fun _ _ z => z.mono s, e5.mono fun _ _ ⟨dq, la, f1, f2, f3⟩ => ⟨dq, la, s _ _ f1, s _ _ f2, f3⟩⟩
/-- a plan that is being filled -/
def TestB (A : Ad) (N : Addr → Prop) (H : Hp) (lg lt a : Addr) (j : Vatsld.Job) : Prop := ∃ dx la, H a = some (.ins A.cTest dx (teF j la)) ∧ H la = some (.lst (natsV j.after_)) ∧ la ≠ lg ∧ la ≠ lt ∧ N la
structure PlanB (A : Ad) (N : Addr → Prop) (H : Hp) (pa dx lg lt : Addr) (gs js : List V) (p : Vatsld.Plan) : Prop where
  ob : H pa = some (.ins A.cPlan dx (plF lg lt))
  eg : H lg = some (.lst gs)
  et : H lt = some (.lst js)
  ne : lg ≠ lt
  ng : N lg
  nt : N lt
  hg : Each (GroupAt A H) gs p.groups
  ht : Each (TestB A N H lg lt) js p.jobs
section
variable {N : Addr → Prop}
theorem PlanB.atN {H : Hp} {pa dx lg lt : Addr} {gs js : List V} {p : Vatsld.Plan} (h : PlanB A N H pa dx lg lt gs js p) : PlanAtN A N H pa p := ⟨dx, lg, lt, gs, js, h.ob, h.eg, h.et, h.ng, h.nt, h.hg, h.ht.mono fun _ _ ⟨dq, la, e1, e2, _, _, n⟩ => ⟨dq, la, e1, e2, n⟩⟩
theorem PlanB.at {H : Hp} {pa dx lg lt : Addr} {gs js : List V} {p : Vatsld.Plan} (h : PlanB A N H pa dx lg lt gs js p) : PlanAt A H pa p := h.atN.at
theorem PlanB.but {H H' : Hp} {r C dr tl pa dx lg lt : Addr} {pl : Nat} {gs js : List V} {p : Vatsld.Plan} (hr : H r = some (.ins C dr (rdF tl pl))) (b : But r H H') (h : PlanB A N H pa dx lg lt gs js p) : PlanB A N H' pa dx lg lt gs js p :=
  ⟨b _ _ (groups_notR hr h.ob (plF_groups lg lt)) h.ob, b _ _ (lst_notR hr h.eg) h.eg, b _ _ (lst_notR hr h.et) h.et, h.ne, h.ng, h.nt, h.hg.mono fun _ _ z => z.but hr b,
    h.ht.mono fun a j ⟨dq, la, e1, e2, n1, n2, n3⟩ => ⟨dq, la, b _ _ (name_notR hr e1 (teF_name j la)) e1, b _ _ (lst_notR hr e2) e2, n1, n2, n3⟩⟩
theorem ins_ne {H : Hp} {a q C dx : Addr} {fs : List (Str × V)} {xs : List V} (h : H a = some (.ins C dx fs)) (e : H q = some (.lst xs)) : a ≠ q := fun z => by
  rw [z, e] at h
  cases h
theorem PlanB.addG {H : Hp} {pa dx lg lt x : Addr} {gs js : List V} {p : Vatsld.Plan} {g : Vatsld.Group} (h : PlanB A N H pa dx lg lt gs js p) (hx : GroupAt A H x g) : PlanB A N (upd H lg (.lst (gs ++ [.ref x]))) pa dx lg lt (gs ++ [.ref x]) js { p with groups := p.groups ++ [g] } := by
  have hG : ∀ a g, GroupAt A H a g → GroupAt A (upd H lg (.lst (gs ++ [.ref x]))) a g := fun a g ⟨dq, e⟩ => ⟨dq, by rw [upd_ne (ins_ne e h.eg)]; exact e⟩
  refine ⟨by rw [upd_ne (ins_ne h.ob h.eg)]; exact h.ob, upd_same, by rw [upd_ne (Ne.symm h.ne)]; exact h.et, h.ne, h.ng, h.nt, (h.hg.mono hG).more (hG _ _ hx), h.ht.mono fun a j ⟨dq, la, e1, e2, n1, n2, n3⟩ => ⟨dq, la, by rw [upd_ne (ins_ne e1 h.eg)]; exact e1, by rw [upd_ne n1]; exact e2, n1, n2, n3⟩⟩
theorem PlanB.addT {H : Hp} {pa dx lg lt x : Addr} {gs js : List V} {p : Vatsld.Plan} {j : Vatsld.Job} (h : PlanB A N H pa dx lg lt gs js p) (hx : TestB A N H lg lt x j) : PlanB A N (upd H lt (.lst (js ++ [.ref x]))) pa dx lg lt gs (js ++ [.ref x]) { p with jobs := p.jobs ++ [j] } := by
  have hT : ∀ a j, TestB A N H lg lt a j → TestB A N (upd H lt (.lst (js ++ [.ref x]))) lg lt a j := fun a j ⟨dq, la, e1, e2, n1, n2, n3⟩ => ⟨dq, la, by rw [upd_ne (ins_ne e1 h.et)]; exact e1, by rw [upd_ne n2]; exact e2, n1, n2, n3⟩
  exact ⟨by rw [upd_ne (ins_ne h.ob h.et)]; exact h.ob, by rw [upd_ne h.ne]; exact h.eg, upd_same, h.ne, h.ng, h.nt, h.hg.mono fun a g ⟨dq, e⟩ => ⟨dq, by rw [upd_ne (ins_ne e h.et)]; exact e⟩, (h.ht.mono hT).more (hT _ _ hx)⟩
end
theorem thrown_but {H Hc : Hp} {r : Addr} {E : XK} {f : Fault} (h : Thrown A H E f) (n : H r = none) (s : Same H Hc) : ThrownB A Hc r E f := fun d H' b e => h d H' (fun q o eq => b _ _ (ne_of_none eq n) (s _ _ eq)) e
theorem items_over {n : Nat} {p : Vatsld.Plan} {ts : Toks} (h : Vatsld.isOver ts = true) : Vatsld.readItems n p ts = .ok p := by
  cases n <;> rw [Vatsld.readItems, if_pos h]
theorem items_group {n : Nat} {p : Vatsld.Plan} {ts : Toks} (h : Vatsld.isOver ts = false) (h1 : Vatsld.isWord "group" ts = true) : Vatsld.readItems (n + 1) p ts = (Vatsld.readGroup p ts).bind fun z => Vatsld.readItems n z.1 z.2 := by
  rw [Vatsld.readItems, if_neg (by rw [h]; exact Bool.false_ne_true), if_pos h1]
theorem items_test {n : Nat} {p : Vatsld.Plan} {ts : Toks} (h : Vatsld.isOver ts = false) (h1 : Vatsld.isWord "group" ts = false) : Vatsld.readItems (n + 1) p ts = (if Vatsld.isWord "test" ts then Vatsld.readJob p ts else .error (Vatsld.faultAt ts)).bind fun z => Vatsld.readItems n z.1 z.2 := by
  rw [Vatsld.readItems, if_neg (by rw [h]; exact Bool.false_ne_true), if_neg (by rw [h1]; exact Bool.false_ne_true)]
  cases Vatsld.isWord "test" ts <;> rfl
theorem evp_plan {σ : L2.St} {H : Hp} {E : XK} : EvP (tMake A.cPlan (sp_Plan_init A) [] E tNil) σ H (fun x H' => ∃ dx lg lt, H' x = some (.ins A.cPlan dx (plF lg lt)) ∧ H' lg = some (.lst []) ∧ H' lt = some (.lst []) ∧ lg ≠ lt ∧ H lg = none ∧ H lt = none) := fun Q z => by
  show ∀ x dx, H x = none → H dx = none → dx ≠ x → sp_Plan_init A (.ref x :: ([] ++ [])) _ _ E
  intro x dx hx hdx hne
  have sm : Same H (upd (upd H dx (.own x)) x (.ins A.cPlan dx [])) := (Same.new hdx).mut hx
  refine ⟨x, dx, rfl, upd_same, fun lg lt H' n1 n2 ne k e e1 e2 => ⟨rfl, z x H' hx (fun b o eb => k b o (ne_of_none eb hx) (sm _ _ eb)) ⟨dx, lg, lt, e, e1, e2, ne, sm.free n1, sm.free n2⟩⟩⟩
def overT : Vatsld.Tok → Bool
  | .over => true
  | _ => false
theorem isOver_cons (x : Nat × Vatsld.Tok) (rest : Toks) : Vatsld.isOver (x :: rest) = overT x.2 := by
  obtain ⟨p, k⟩ := x
  cases k <;> rfl

def sp_read_plan (A : Ad) : Sp := fun vs H Q E => ∃ (tl : Addr) (t : List Nat), vs = [.ref tl] ∧ H tl = some (.lst (natsV t)) ∧ t.length ≤ 5000 ∧ (∀ f, Vatsld.readPlan t = .error f → Thrown A H E f) ∧
  ∀ p, Vatsld.readPlan t = .ok p → ∀ pa H', H pa = none → Same H H' → PlanAtN A (fun a => H a = none) H' pa p → Q (.ref pa) H'
theorem tokens_tk (t : List Nat) : Vatsld.tokens t = tk t 0 := rfl
/-! ### read_plan -/
abbrev s_read_plan : Stmt := top 76
theorem sc_read_plan : FnScope ["text", "reader", "plan"] ["text"] (defScope s_read_plan) := ⟨rfl, rfl, rfl, by decide +kernel, rfl, by decide +kernel, by decide +kernel⟩
theorem ok_read_plan {f : Addr} {fd : FuncData} (F : Fun K "read_plan" "read_plan" s_read_plan f fd) (T : Txt K mg A) (TF : TxF K mg A)
    (C_Reader_ahead : CalM P w K mg base (L2.CX P w) 6 A.cReader "ahead" ["self"] (sp_Reader_ahead A))
    (C_Reader_stands : CalM P w K mg base (L2.CX P w) 7 A.cReader "stands" ["self", "written"] (sp_Reader_stands A))
    (C_read_group : Cal P w K mg base (L2.CX P w) 10 "read_group" ["reader", "plan"] (sp_read_group A))
    (C_read_test : Cal P w K mg base (L2.CX P w) 12 "read_test" ["reader", "plan"] (sp_read_test A))
    (C_Plan_init : CalI P w K mg base CX0 1 A.cPlan ["self"] (sp_Plan_init A))
    (C_Reader_init : CalI P w K mg base CX0 1 A.cReader ["self", "text"] (sp_Reader_init A)) : FnOk P w K mg base (L2.CX P w) 13 f fd ["text"] (sp_read_plan A) := by
  obtain ⟨f_Reader_ahead, fd_Reader_ahead, m_Reader_ahead, b_Reader_ahead, G_Reader_ahead⟩ := C_Reader_ahead.ex
  obtain ⟨f_Reader_stands, fd_Reader_stands, m_Reader_stands, b_Reader_stands, G_Reader_stands⟩ := C_Reader_stands.ex
  obtain ⟨f_read_group, fd_read_group, m_read_group, kp_read_group, b_read_group, G_read_group⟩ := C_read_group.ex
  obtain ⟨f_read_test, fd_read_test, m_read_test, kp_read_test, b_read_test, G_read_test⟩ := C_read_test.ex
  obtain ⟨f_Plan, fd_Plan, M_Plan, b_Plan, G_Plan⟩ := C_Plan_init.ex
  obtain ⟨f_Reader, fd_Reader, M_Reader, b_Reader, G_Reader⟩ := C_Reader_init.ex
  refine F.okX sc_read_plan (fun vs H Q E h => by revert h; first | (rintro ⟨rfl, _⟩; rfl) | (rintro ⟨_, rfl, _⟩; rfl) | (rintro ⟨_, _, rfl, _⟩; rfl) | (rintro ⟨_, _, _, rfl, _⟩; rfl) | (rintro ⟨_, _, _, _, rfl, _⟩; rfl) | (rintro ⟨_, _, _, _, _, rfl, _⟩; rfl) | (rintro ⟨_, _, _, _, _, _, rfl, _⟩; rfl) | (rintro ⟨_, _, _, _, _, _, _, rfl, _⟩; rfl) | (rintro ⟨_, _, _, _, _, _, _, _, rfl, _⟩; rfl) | (rintro ⟨_, _, _, _, _, _, _, _, _, rfl, _⟩; rfl) | (rintro ⟨_, _, _, _, _, _, _, _, _, _, rfl, _⟩; rfl) | (rintro ⟨_, _, _, _, _, _, _, _, _, _, _, rfl, _⟩; rfl)) (fun cdv Ar outer s H vs Q E hr h => ⟨_, 
  (pss_cons (ps_set (i := 1) sc_read_plan.nd rfl (Or.inl rfl) (pe_make M_Reader G_Reader (hr.mono (by decide)) rfl T.g_Reader b_Reader .nil pass0 (pa_cons (pv 0) pa_nil)))
      (pss_cons (ps_set (i := 2) sc_read_plan.nd rfl (Or.inl rfl) (pe_make0 M_Plan G_Plan (hr.mono (by decide)) rfl T.g_Plan b_Plan .nil pass0))
      (pss_cons (ps_while (passes_of rfl) (pt_cmpR op_ne (pe_fld (pe_meth0 (pv 1) T.cReader m_Reader_ahead G_Reader_ahead (hr.mono (by decide)) b_Reader_ahead .nil (passes_call (takes_of rfl rfl rfl rfl) (fun _ _ _ _ z => z))) rfl) (pe_txt (by rfl) T.k_END) (nomark _)) (pss_one (ps_if (pt_val (pe_meth (pv 1) T.cReader m_Reader_stands G_Reader_stands (hr.mono (by decide)) b_Reader_stands .nil (passes_call (takes_of rfl rfl rfl rfl) (fun _ _ _ _ z => z)) (pa_cons pe_str pa_nil))) (pss_one (ps_expr (pe_bm PySem.F.plainAttrs_list PySem.F.slot_list_append PySem.F.type_list_append mt_append (pe_fld (pv 2) rfl) (pa_cons (pe_call G_read_group (hr.mono (by decide)) rfl m_read_group kp_read_group b_read_group .nil (passes_call (takes_of rfl rfl rfl rfl) (fun _ _ _ _ z => z)) (pa_cons (pv 1) (pa_cons (pv 2) pa_nil))) pa_nil)))) (pss_one (ps_expr (pe_bm PySem.F.plainAttrs_list PySem.F.slot_list_append PySem.F.type_list_append mt_append (pe_fld (pv 2) rfl) (pa_cons (pe_call G_read_test (hr.mono (by decide)) rfl m_read_test kp_read_test b_read_test .nil (passes_call (takes_of rfl rfl rfl rfl) (fun _ _ _ _ z => z)) (pa_cons (pv 1) (pa_cons (pv 2) pa_nil))) pa_nil)))))))
      (pss_one (ps_ret (pv 2)))))), ?_⟩)
  obtain ⟨tl, t, rfl, htl, hlen, kF, kQ⟩ := h
  refine st_seqSetP (evp_make (fs := rdF tl 0) (eva_cons (evs_of (val_var rfl)) fun _ _ => eva_nil) fun x dx H1 _ Q z => ⟨x, dx, tl, rfl, upd_same, fun H2 h1 h2 => z H2 h1 h2⟩) fun r H1 nr s1 h1 => ?_
  obtain ⟨dr, er⟩ := h1
  have hR1 : RS A H1 r (tk t 0) := ⟨dr, tl, t, 0, ⟨er, s1 _ _ htl, hlen, Nat.zero_le _⟩, rfl⟩
  refine st_seqSetP evp_plan fun pa H2 npa s2 h2 => ?_
  obtain ⟨dx, lg, lt, eob, eg, et, hne, nlg, nlt⟩ := h2
  refine st_seqWhileG (Pv := fun m σ Hc => σ = [some (.ref tl), some (.ref r), some (.ref pa)] ∧ ∃ p ts gs js, But r H1 Hc ∧ RS A Hc r ts ∧ PlanB A (fun a => H a = none) Hc pa dx lg lt gs js p ∧ WF p ∧ 11 ≤ m + p.groups.length + p.jobs.length ∧
      (∀ f, Vatsld.readItems m p ts = .error f → Thrown A H E f) ∧ (∀ p', Vatsld.readItems m p ts = .ok p' → ∀ H', Same H H' → PlanAtN A (fun a => H a = none) H' pa p' → Q (.ref pa) H'))
    11 ⟨rfl, Vatsld.emptyPlan, tk t 0, [], [], s2.but r, hR1.mono s2, ⟨eob, eg, et, hne, s1.free nlg, s1.free nlt, Each.nil, Each.nil⟩, wf_empty, by show 11 ≤ 11 + 0 + 0; omega, kF, fun p' e H' s => kQ p' e pa H' (s1.free npa) s⟩ ?_
  rintro m σ Hc ⟨rfl, p, ts, gs, js, b, hR, hP, hW, hm, gF, gQ⟩
  have sc : Same H Hc := fun q o e => b _ _ (ne_of_none e nr) (s1 _ _ e)
  obtain ⟨dxr, tlr, tr, plr, hRd, htk⟩ := id hR
  have hob := hRd.ob
  have ng := hW.ng
  have nj := hW.nj
  obtain ⟨n, rfl⟩ : ∃ n, m = n + 1 := ⟨m - 1, by omega⟩
  have hB : ∀ q k rest, ts = (q, .bad k) :: rest → ThrownB A Hc r E (k, q) := fun q k rest e => thrown_but (gF (k, q) (by rw [e]; rfl)) nr sc
  refine ⟨fun b' H' => b' = !Vatsld.isOver ts ∧ Same Hc H', ansg_test (R' := fun v H' => v = .bl (!Vatsld.isOver ts) ∧ Same Hc H') (evg_op (R := fun v H' => ∃ x rest w, v = .str (kindS x.2) ∧ ts = x :: rest ∧ Wr x.2 w ∧ Same Hc H') (evg_fld (R := fun v H' => ∃ q x rest w, v = .ref q ∧ ts = x :: rest ∧ Wr x.2 w ∧ TokAt A H' q x w ∧ Same Hc H') (evg_meth (val_var rfl) hob (rdF_m (by decide +kernel) (by decide +kernel)) eva_nil fun H3 s3 QQ z => ?_) fun v H3 h3 => ?_) fun v H3 h3 => ?_) fun v H3 h3 => ⟨_, h3.1, rfl, h3.2⟩, fun H3 h3 => ?_, fun H3 h3 => ?_⟩
  · exact ⟨r, dxr, tlr, tr, plr, rfl, hRd.mono s3, fun q k rest e => ((hB q k rest (htk ▸ e)).thrown).mono s3, fun x rest w e1 e2 _ _ q H4 n4 s4 h4 => z _ H4 ⟨q, x, rest, w, rfl, htk ▸ e1, e2, h4, s3.trans s4⟩⟩
  · obtain ⟨q, x, rest, w, rfl, e1, e2, ⟨dq, e3⟩, s3⟩ := h3
    exact ⟨q, _, dq, _, _, rfl, e3, T.cToken, T.n_Token_kind, tokF_kind _ _ _, x, rest, w, rfl, e1, e2, s3⟩
  · obtain ⟨x, rest, w, rfl, e1, e2, s3⟩ := h3
    refine ⟨_, val_c, fun QQ z => ⟨rfl, ?_⟩⟩
    have : (!decide (V.str (kindS x.2) = .str ("end" : Str))) = !Vatsld.isOver ts := by
      rw [kind_end e2, e1, isOver_cons]
      cases x.2 <;> rfl
    rw [this]
    exact z _ H3 ⟨rfl, s3⟩
  · have eo : Vatsld.isOver ts = false := not_t h3.1.symm
    have sH3 := sc.trans h3.2
    have hR3 := hR.mono h3.2
    have b3 := b.trans (h3.2.but r)
    have hP3 := hP.but hob (h3.2.but r)
    have hob3 := h3.2 _ _ hob
    refine st_ifG (R := fun b' H' => b' = Vatsld.isWord "group" ts ∧ Same H3 H') (ansg_test (evg_standsW (kw := "group") (by decide +kernel) ⟨_, _, _, rfl, rfl⟩ (val_var rfl) hR3 fun q k rest e => (hB q k rest e).mono (h3.2.but r)) fun v H4 h4 => ⟨_, h4.1, rfl, h4.2⟩) (fun H4 h4 => ?_) fun H4 h4 => ?_
    · have ew : Vatsld.isWord "group" ts = true := h4.1.symm
      rw [items_group eo ew] at gF gQ
      have sH4 := sH3.trans h4.2
      have b4 := b3.trans (h4.2.but r)
      have hP4 := hP3.but hob3 (h4.2.but r)
      have hob4 := h4.2 _ _ hob3
      refine st_appendG (R' := fun v H' => ∃ x g rest, v = .ref x ∧ Vatsld.readGroup p ts = .ok ({ p with groups := p.groups ++ [g] }, rest) ∧ GroupAt A H' x g ∧ But r H4 H' ∧ RS A H' r rest) (val_groups T (val_var rfl) hP4.ob) hP4.eg (evg_call (eva_cons (evs_of (val_var rfl)) fun _ _ => eva_cons (evs_of (val_var rfl)) fun _ _ => eva_nil) fun H5 s5 QQ z => ?_) fun y H5 h5 => ?_
      · refine ⟨r, pa, p, ts, rfl, (hR3.mono h4.2).mono s5, (hP4.but hob4 (s5.but r)).at, hW, ew, fun f ef => ?_, fun p' rest e H6 b6 r6 x g ep _ ga => z _ H6 ⟨x, g, rest, rfl, by rw [e, ep], ga, (s5.but r).trans b6, r6⟩⟩
        exact thrown_but (gF f (by rw [ef]; rfl)) nr (sH4.trans s5)
      · obtain ⟨x, g, rest, rfl, e5, ga, b5, r5⟩ := h5
        have hP5 := hP4.but hob4 b5
        have hok := readGroup_ok hW hR.ok.1 e5
        refine ⟨gs, hP5.eg, by rw [hP5.hg.1]; omega, n, by omega, rfl, { p with groups := p.groups ++ [g] }, rest, gs ++ [.ref x], js, (b4.trans b5).new nlg, hR1.upd nlg (b4.trans b5) r5, hP5.addG ga, hok.1, ?_, ?_, ?_⟩
        · have := hok.2.2.1
          have h2 : ({ p with groups := p.groups ++ [g] } : Vatsld.Plan).jobs = p.jobs := rfl
          rw [this, h2]
          omega
        · intro f ef
          exact gF f (by rw [e5]; exact ef)
        · intro p' ep
          exact gQ p' (by rw [e5]; exact ep)
    · have ew : Vatsld.isWord "group" ts = false := h4.1.symm
      rw [items_test eo ew] at gF gQ
      have sH4 := sH3.trans h4.2
      have b4 := b3.trans (h4.2.but r)
      have hP4 := hP3.but hob3 (h4.2.but r)
      have hob4 := h4.2 _ _ hob3
      refine st_appendG (R' := fun v H' => ∃ x j dq la rest, v = .ref x ∧ (if Vatsld.isWord "test" ts then Vatsld.readJob p ts else .error (Vatsld.faultAt ts)) = .ok ({ p with jobs := p.jobs ++ [j] }, rest) ∧ H' x = some (.ins A.cTest dq (teF j la)) ∧ H' la = some (.lst (natsV j.after_)) ∧ H4 la = none ∧ But r H4 H' ∧ RS A H' r rest) (val_tests T (val_var rfl) hP4.ob) hP4.et (evg_call (eva_cons (evs_of (val_var rfl)) fun _ _ => eva_cons (evs_of (val_var rfl)) fun _ _ => eva_nil) fun H5 s5 QQ z => ?_) fun y H5 h5 => ?_
      · refine ⟨r, pa, p, ts, rfl, (hR3.mono h4.2).mono s5, (hP4.but hob4 (s5.but r)).at, hW, fun f ef => ?_, fun p' rest e H6 b6 r6 x j dq la ep _ nla h1 h2 => z _ H6 ⟨x, j, dq, la, rest, rfl, by rw [e, ep], h1, h2, s5.free nla, (s5.but r).trans b6, r6⟩⟩
        exact thrown_but (gF f (by rw [ef]; rfl)) nr (sH4.trans s5)
      · obtain ⟨x, j, dq, la, rest, rfl, e5, hx, hla, nla, b5, r5⟩ := h5
        have hP5 := hP4.but hob4 b5
        have ewt : Vatsld.isWord "test" ts = true := by
          cases e : Vatsld.isWord "test" ts with
          | true => rfl
          | false => rw [e, if_neg Bool.false_ne_true] at e5; cases e5
        have e6 := e5
        rw [if_pos ewt] at e6
        have hok := readJob_ok hW hR.ok.1 e6
        have tb : TestB A (fun a => H a = none) H5 lg lt x j := ⟨dq, la, hx, hla, (fun z => by rw [z, hP4.eg] at nla; cases nla), (fun z => by rw [z, hP4.et] at nla; cases nla), sH4.free nla⟩
        refine ⟨js, hP5.et, by rw [hP5.ht.1]; omega, n, by omega, rfl, { p with jobs := p.jobs ++ [j] }, rest, gs, js ++ [.ref x], (b4.trans b5).new nlt, hR1.upd nlt (b4.trans b5) r5, hP5.addT tb, hok.1, ?_, ?_, ?_⟩
        · have := hok.2.2.1
          have h2 : ({ p with jobs := p.jobs ++ [j] } : Vatsld.Plan).groups = p.groups := rfl
          rw [this, h2]
          omega
        · intro f ef
          exact gF f (by rw [e5]; exact ef)
        · intro p' ep
          exact gQ p' (by rw [e5]; exact ep)
  · have eo : Vatsld.isOver ts = true := not_f h3.1.symm
    exact st_ret (val_var rfl) (gQ p (items_over eo) H3 (sc.trans h3.2) (hP.but hob (h3.2.but r)).atN)
end
end Tp
namespace Tp
open PySem PySem.Spec PyProof.Rows L2
section
variable {P : Program} {w : World} {K : PySem.W.Frag} {mg : Str → Option Value} {base : Heap} {A : Ad}
open Vatsld (Toks Fault)
/-! ### texts put together -/
theorem str_app (a b : List Nat) : strOf a ++ strOf b = strOf (a ++ b) := by
  apply str_ext
  rw [strOf_list]
  show (strOf a ++ strOf b).cps.toList = a ++ b
  have : (strOf a ++ strOf b).cps = (strOf a).cps ++ (strOf b).cps := rfl
  rw [this, Array.toList_append, strOf_list, strOf_list]
theorem str_dec (n : Nat) : (Str.ofString (toString (n : Int)) : Str) = strOf (Vatsld.decimal n) := by
  rw [Str.ofString_eq_toList]
  unfold strOf Vatsld.decimal
  have h : toString (n : Int) = String.ofList (Nat.toDigits 10 n) := rfl
  rw [h, String.toList_ofList]
theorem dec_len {n : Nat} (h : n ≤ 1000) : (Vatsld.decimal n).length ≤ 4 := by
  have key : ∀ m, m < 1001 → (Vatsld.decimal m).length ≤ 4 := by decide +kernel
  exact key n (by omega)
section
variable {σ : L2.St} {H : Hp} {te tl to : TE} {x y v : V} {a p q : Addr} {z : Str}
theorem val_fmtS {w : List Nat} (h : Val te σ H (.str (strOf w))) (hl : w.length ≤ 100000) : Val (tFmt te) σ H (.str (strOf w)) := fun Q z => h _ (.inl ⟨_, rfl, by rw [strOf_len, sizeLine_eq]; omega, z⟩)
theorem val_fmtI {n : Nat} (h : Val te σ H (.int (n : Int))) (hn : n ≤ 1000) : Val (tFmt te) σ H (.str (strOf (Vatsld.decimal n))) := fun Q z => h _ (.inr ⟨(n : Int), rfl, by
  have h1 : (n : Int).natAbs = n := rfl
  rw [h1]
  have key : ∀ m, m < 1001 → m.log2 < 1920 := by decide +kernel
  exact key n (by omega), by rw [str_dec]; exact z⟩)
def JV (σ : L2.St) (H : Hp) : List TE → List (List Nat) → Prop
  | [], [] => True
  | t :: ts, w :: ws => Val t σ H (.str (strOf w)) ∧ JV σ H ts ws
  | _, _ => False
theorem js_run {ts : List TE} : ∀ {ws : List (List Nat)} {acc : List Nat} {Q : Str → Hp → Prop}, JV σ H ts ws → (acc ++ ws.flatten).length ≤ 100000 → Q (strOf (acc ++ ws.flatten)) H → tJs ts (strOf acc) σ H Q := by
  induction ts with
  | nil =>
    intro ws acc Q h hl z
    cases ws with
    | nil =>
      show Q (strOf acc) H
      simpa using z
    | cons w ws => exact h.elim
  | cons t ts ih =>
    intro ws acc Q h hl z
    cases ws with
    | nil => exact h.elim
    | cons w ws =>
      obtain ⟨h1, h2⟩ := h
      have e : acc ++ (w :: ws).flatten = (acc ++ w) ++ ws.flatten := by simp
      rw [e] at hl z
      refine h1 _ ⟨strOf w, rfl, ?_, ?_⟩
      · rw [str_app, strOf_len, sizeLine_eq]
        have : (acc ++ w ++ ws.flatten).length = (acc ++ w).length + ws.flatten.length := List.length_append
        omega
      · rw [str_app]
        exact ih h2 hl z
theorem str_empty : (Str.empty : Str) = strOf [] := rfl
theorem val_joined {ts : List TE} {ws : List (List Nat)} (h : JV σ H ts ws) (hl : ws.flatten.length ≤ 100000) : Val (fun σ H Q => tJs ts Str.empty σ H fun out H1 => Q (.str out) H1) σ H (.str (strOf ws.flatten)) := fun Q z => by
  show tJs ts Str.empty σ H _
  rw [str_empty]
  exact js_run (acc := []) h (by simpa using hl) z
/-- sep.join(xs), xs new -/
theorem evs_join {sep : Str} {ys : List Str} (ha : Val to σ H (.str sep)) (hb : EvN te σ H (.lst (ys.map V.str))) (hl : (ys.map (·.length)).sum + ys.length * sep.length ≤ 16777216) :
    Evs (tM1 (fun x xs H Q => ∃ a p, ∃ ys : List Str, x = .str a ∧ xs = [.ref p] ∧ (SqL K H p (ys.map V.str) ∨ SqT K H p (ys.map V.str)) ∧ (ys.map (·.length)).sum + ys.length * a.length ≤ 16777216 ∧ Q (.str (Txt.join a ys)) H) to te) σ H (.str (Txt.join sep ys)) := fun Q z =>
  ha _ ⟨⟨_, rfl⟩, hb _ fun q H' _ s e => ⟨sep, q, ys, rfl, rfl, .inl (SqL.of e), hl, z H' s⟩⟩
theorem evs_joinV {sep : Str} {ys : List Str} (ha : Val to σ H (.str sep)) (hb : Val te σ H (.ref q)) (hq : H q = some (.lst (ys.map V.str))) (hl : (ys.map (·.length)).sum + ys.length * sep.length ≤ 16777216) :
    Evs (tM1 (fun x xs H Q => ∃ a p, ∃ ys : List Str, x = .str a ∧ xs = [.ref p] ∧ (SqL K H p (ys.map V.str) ∨ SqT K H p (ys.map V.str)) ∧ (ys.map (·.length)).sum + ys.length * a.length ≤ 16777216 ∧ Q (.str (Txt.join a ys)) H) to te) σ H (.str (Txt.join sep ys)) := fun Q z =>
  ha _ ⟨⟨_, rfl⟩, hb _ ⟨sep, q, ys, rfl, rfl, .inl (SqL.of hq), hl, z H (Same.refl H)⟩⟩
/-- a comprehension, item by item -/
theorem lc_turnI {Da : Addr} {j : Nat} {H0 H1 : Hp} {acc : List V} {x y : V} (hn : H0 Da = none) (s1 : Same H0 H1) (e1 : H1 Da = some (.lst acc)) (hl : acc.length < sizeLine) (he : ∀ H2, Same H1 H2 → Evs te (inC σ j x) H2 y) (R : Hp → Prop)
    (hR : ∀ H', Same H0 H' → H' Da = some (.lst (acc ++ [y])) → R H') :
    gName j x (wipe σ [j]) H1 fun σ2 H2 => wipe σ2 [j] = wipe σ [j] ∧ tYes σ2 H2 fun b H3 => if b = true then te σ2 H3 fun y H4 => ∃ acc, H4 Da = some (.lst acc) ∧ acc.length < sizeLine ∧ R (upd H4 Da (.lst (acc ++ [y]))) else R H3 :=
  ⟨inC_wipe, ans_yes _ fun H2 s2 => iteT (he H2 s2 _ fun H3 s3 => ⟨acc, s3 _ _ (s2 _ _ e1), hl, hR _ (((s1.trans s2).trans s3).mut hn) upd_same⟩)⟩
theorem take_snoc {α : Type} {ys : List α} {i : Nat} {y : α} (h : ys[i]? = some y) : ys.take (i + 1) = ys.take i ++ [y] := take_one h
theorem lc_listI {xs ys : List V} {j : Nat} (ha : Evs tl σ H (.ref a)) (hS : SqL K H a xs) (hly : ys.length = xs.length) (hlen : xs.length < 1000000) (he : ∀ (i : Nat) (x y : V) (H' : Hp), xs[i]? = some x → ys[i]? = some y → Same H H' → Evs te (inC σ j x) H' y) :
    EvN (tLc (iList K tl) (gName j) tYes te [j]) σ H (.lst ys) := fun Q z =>
  ha _ fun H0 s0 => ⟨a, rfl, ⟨_, s0.seq hS⟩, fun Da hD =>
    have hD' : H Da = none := s0.free hD
    lc_list (K := K) (a := a) (xs := xs) (fun i H' => Same H H' ∧ H' Da = some (.lst (ys.take i))) ⟨s0.mut hD', upd_same⟩ (fun i H' _ h => h.1.seq hS)
      (fun i x H' hx h => by
        have hi : i < xs.length := (List.getElem?_eq_some_iff.mp hx).1
        obtain ⟨y, hy⟩ : ∃ y, ys[i]? = some y := ⟨_, List.getElem?_eq_getElem (by omega)⟩
        exact lc_turnI hD' h.1 h.2 (small_line (by rw [List.length_take]; omega)) (fun H2 s2 => he i x y H2 hx hy (h.1.trans s2)) _ fun H2 s2 e2 => ⟨s2, by rw [take_snoc hy]; exact e2⟩)
      (fun H' h => z Da H' hD' h.1 (by have := h.2; rw [← hly, List.take_length] at this; exact this))⟩
theorem lc_strI {w : List Nat} {ys : List V} {j : Nat} (ha : Evs tl σ H (.str (strOf w))) (hly : ys.length = w.length) (hlen : w.length < 1000000) (he : ∀ (i c : Nat) (y : V) (H' : Hp), w[i]? = some c → ys[i]? = some y → Same H H' → Evs te (inC σ j (.str (strOf [c]))) H' y) :
    EvN (tLc (iStr tl) (gName j) tYes te [j]) σ H (.lst ys) := fun Q z =>
  ha _ fun H0 s0 => ⟨_, rfl, fun Da hD => by
    have hD' : H Da = none := s0.free hD
    have hsz : (strOf w).cps.size = w.length := strOf_len w
    refine ⟨fun i m H' => m = w.length - i ∧ i ≤ w.length ∧ Same H H' ∧ H' Da = some (.lst (ys.take i)), ⟨w.length, by simp, Nat.zero_le _, s0.mut hD', upd_same⟩, ?_⟩
    rintro i m H' ⟨rfl, hi, s1, e1⟩
    by_cases hlt : i < w.length
    · refine .inr ⟨by show i < (strOf w).cps.size; omega, fun H2 => ∃ m', m' < w.length - i ∧ m' = w.length - (i + 1) ∧ i + 1 ≤ w.length ∧ Same H H2 ∧ H2 Da = some (.lst (ys.take (i + 1))), fun H2 h => h, ?_⟩
      rintro x H2 ⟨rfl, c, hc, rfl⟩
      have hc' : w[i]? = some c := by
        have : (strOf w).cps[i]? = w[i]? := by
          show w.toArray[i]? = w[i]?
          simp
        rw [← this]
        exact hc
      obtain ⟨y, hy⟩ : ∃ y, ys[i]? = some y := ⟨_, List.getElem?_eq_getElem (by omega)⟩
      exact lc_turnI hD' s1 e1 (small_line (by rw [List.length_take]; omega)) (fun H3 s3 => he i c y H3 hc' hy (s1.trans s3)) _ fun H3 s3 e3 => ⟨_, by omega, rfl, hlt, s3, by rw [take_snoc hy]; exact e3⟩
    · have e : i = w.length := by omega
      subst e
      refine .inl ⟨by show (strOf w).cps.size ≤ _; omega, z Da H' hD' s1 ?_⟩
      rw [← hly, List.take_length] at e1
      exact e1⟩
theorem val_ord1 {c : Nat} (h : Val te σ H (.str (strOf [c]))) : Val (tCB (fun xs H Q => ∃ x, xs = [.str x] ∧ x.length = 1 ∧ Q (.int (x.cps.getD 0 0 : Nat)) H) (tCons te tNil)) σ H (.int (c : Int)) := fun Q z => h _ ⟨_, rfl, rfl, z⟩
/-- xs.extend([..]) -/
theorem st_seqExtendN {D : Ends} {u : TS} {xs ys : List V} (ha : Val tl σ H (.ref q)) (hq : H q = some (.lst xs)) (he : EvN te σ H (.lst ys)) (hl : xs.length + ys.length < 1000000) (k : ∀ H', Same H H' → u D σ (upd H' q (.lst (xs ++ ys)))) :
    tSeq (tDrop (tBM K "list" rExtend tl (tCons te tNil))) u D σ H :=
  ha _ ⟨.inl ⟨rfl, _, SqL.of hq⟩, he _ fun b H' _ s e => ⟨q, b, xs, ys, rfl, rfl, s _ _ hq, e, by rw [sizeLine_eq]; omega, k H' s⟩⟩
end
theorem joinL_comma : ∀ l : List (List Nat), TL.joinL (Vatsld.ascii ", ") l = Vatsld.comma l
  | [] => rfl
  | [p] => by simp [TL.joinL, Vatsld.comma]
  | p :: q :: r => by
    have ih := joinL_comma (q :: r)
    show p ++ (Vatsld.ascii ", " ++ TL.joinL (Vatsld.ascii ", ") (q :: r)) = _
    rw [ih]
    simp [Vatsld.comma]
theorem join_comma (ws : List (List Nat)) : Txt.join (", " : Str) (ws.map strOf) = strOf (Vatsld.comma ws) := by
  have h : (", " : Str) = strOf (Vatsld.ascii ", ") := by decide +kernel
  apply str_ext
  rw [h, join_list, strOf_list, strOf_list, List.map_map]
  have : (fun y : Str => y.cps.toList) ∘ strOf = id := funext fun w => strOf_list w
  rw [this, List.map_id, joinL_comma]
theorem join_empty (ws : List (List Nat)) : Txt.join ("" : Str) (ws.map strOf) = strOf ws.flatten := by
  have h : ("" : Str) = strOf [] := by decide +kernel
  apply str_ext
  rw [h, join_list, strOf_list, strOf_list, List.map_map]
  have : (fun y : Str => y.cps.toList) ∘ strOf = id := funext fun w => strOf_list w
  rw [this, List.map_id, joinL_nil]
theorem sum_lens (ws : List (List Nat)) {n : Nat} (h : ∀ w ∈ ws, w.length ≤ n) : ((ws.map strOf).map (·.length)).sum ≤ ws.length * n := by
  induction ws with
  | nil => simp
  | cons w ws ih =>
    have h1 := h w List.mem_cons_self
    have h2 := ih fun x hx => h x (List.mem_cons_of_mem _ hx)
    rw [List.map_cons, List.map_cons, List.sum_cons, strOf_len, List.length_cons, Nat.succ_mul]
    omega
theorem flat_lens (ws : List (List Nat)) {n : Nat} (h : ∀ w ∈ ws, w.length ≤ n) : ws.flatten.length ≤ ws.length * n := by
  induction ws with
  | nil => simp
  | cons w ws ih =>
    have h1 := h w List.mem_cons_self
    have h2 := ih fun x hx => h x (List.mem_cons_of_mem _ hx)
    rw [List.flatten_cons, List.length_append, List.length_cons, Nat.succ_mul]
    omega
theorem comma_len (ws : List (List Nat)) {n : Nat} (h : ∀ w ∈ ws, w.length ≤ n) : (Vatsld.comma ws).length ≤ ws.length * (n + 2) := by
  cases ws with
  | nil => simp [Vatsld.comma]
  | cons w ws =>
    have h1 := h w List.mem_cons_self
    have h2 : (ws.flatMap fun t => Vatsld.ascii ", " ++ t).length ≤ ws.length * (n + 2) := by
      rw [List.flatMap_def]
      refine Nat.le_trans (flat_lens _ (n := n + 2) ?_) (by rw [List.length_map]; exact Nat.le_refl _)
      intro x hx
      obtain ⟨t, ht, rfl⟩ := List.mem_map.mp hx
      have := h t (List.mem_cons_of_mem _ ht)
      rw [List.length_append]
      show 2 + t.length ≤ _
      omega
    have h3 : (Vatsld.comma (w :: ws)).length = w.length + (ws.flatMap fun t => Vatsld.ascii ", " ++ t).length := List.length_append
    rw [h3, List.length_cons, Nat.succ_mul]
    omega
end
end Tp
namespace Tp
open PySem PySem.Spec PyProof.Rows L2
section
variable {P : Program} {w : World} {K : PySem.W.Frag} {mg : Str → Option Value} {base : Heap} {A : Ad}
open Vatsld (Toks Fault)
/-! ### the one form -/
def groupText (g : Vatsld.Group) : List Nat := Vatsld.ascii "group " ++ (g.name ++ (32 :: (Vatsld.decimal g.setup ++ Vatsld.ascii ";\n")))
def inText (p : Vatsld.Plan) (j : Vatsld.Job) : List Nat := match j.group with
  | none => []
  | some g => Vatsld.ascii " in " ++ ((p.groups[g]?).map fun x => x.name).getD []
def afterText (p : Vatsld.Plan) (j : Vatsld.Job) : List Nat := if j.after_.isEmpty then [] else Vatsld.ascii " after " ++ Vatsld.comma (j.after_.map fun i => (Vatsld.jobAt p i).name)
theorem inText_len {p : Vatsld.Plan} {j : Vatsld.Job} (h : WF p) : (inText p j).length ≤ 100 := by
  unfold inText
  split
  · simp
  · rename_i g _
    rw [List.length_append]
    have h4 : (Vatsld.ascii " in ").length = 4 := by decide +kernel
    cases hg : p.groups[g]? with
    | none => simp [h4]
    | some x =>
      have := h.gname x (List.mem_of_getElem? hg)
      simp only [Option.map_some, Option.getD_some]
      omega
theorem nodup_len {n : Nat} : ∀ {l : List Nat}, l.Nodup → (∀ k ∈ l, k < n) → l.length ≤ n := by
  induction n with
  | zero =>
    intro l _ h
    cases l with
    | nil => simp
    | cons a r => exact absurd (h a List.mem_cons_self) (Nat.not_lt_zero _)
  | succ n ih =>
    intro l hn h
    have h1 : (l.erase n).length ≤ n := by
      refine ih (hn.erase n) fun k hk => ?_
      have h2 := h k (List.mem_of_mem_erase hk)
      have h3 : k ≠ n := fun z => by
        rw [z] at hk
        exact (List.Nodup.not_mem_erase hn) hk
      omega
    have := List.length_erase (a := n) (l := l)
    split at this <;> omega
theorem aft_len {p : Vatsld.Plan} {j : Vatsld.Job} (h : WF p) (hj : j ∈ p.jobs) : j.after_.length ≤ 7 ∧ ∀ k ∈ j.after_, k < p.jobs.length := by
  obtain ⟨i, hi⟩ := List.getElem?_of_mem hj
  have hl : i < p.jobs.length := (List.getElem?_eq_some_iff.mp hi).1
  have h1 := h.jaft i j hi
  have h2 := h.janod j hj
  have nj := h.nj
  have := nodup_len h2 h1
  exact ⟨by omega, fun k hk => by have := h1 k hk; omega⟩
theorem afterText_len {p : Vatsld.Plan} {j : Vatsld.Job} (h : WF p) (hj : j ∈ p.jobs) : (afterText p j).length ≤ 200 := by
  unfold afterText
  split
  · simp
  · rw [List.length_append]
    have h4 : (Vatsld.ascii " after ").length = 7 := by decide +kernel
    obtain ⟨h1, h2⟩ := aft_len h hj
    have := comma_len (j.after_.map fun i => (Vatsld.jobAt p i).name) (n := 12) (fun w hw => by
      obtain ⟨i, hi, rfl⟩ := List.mem_map.mp hw
      exact h.jname _ (job_mem (h2 i hi)))
    rw [List.length_map] at this
    omega
def sp_group_line (A : Ad) : Sp := fun vs H Q _ => ∃ (ga : Addr) (g : Vatsld.Group), vs = [.ref ga] ∧ GroupAt A H ga g ∧ g.name.length ≤ 12 ∧ g.setup ≤ 1000 ∧ ∀ H', Same H H' → Q (.str (strOf (groupText g))) H'
/-! ### group_line -/
abbrev s_group_line : Stmt := top 89
theorem sc_group_line : FnScope ["group", "name", "setup"] ["group"] (defScope s_group_line) := ⟨rfl, rfl, rfl, by decide +kernel, rfl, by decide +kernel, by decide +kernel⟩
theorem ok_group_line {f : Addr} {fd : FuncData} (F : Fun K "group_line" "group_line" s_group_line f fd) (T : Txt K mg A) : FnOk P w K mg base CX0 1 f fd ["group"] (sp_group_line A) := by
  refine F.ok sc_group_line (fun vs H Q E h => by revert h; first | (rintro ⟨rfl, _⟩; rfl) | (rintro ⟨_, rfl, _⟩; rfl) | (rintro ⟨_, _, rfl, _⟩; rfl) | (rintro ⟨_, _, _, rfl, _⟩; rfl) | (rintro ⟨_, _, _, _, rfl, _⟩; rfl) | (rintro ⟨_, _, _, _, _, rfl, _⟩; rfl) | (rintro ⟨_, _, _, _, _, _, rfl, _⟩; rfl) | (rintro ⟨_, _, _, _, _, _, _, rfl, _⟩; rfl) | (rintro ⟨_, _, _, _, _, _, _, _, rfl, _⟩; rfl) | (rintro ⟨_, _, _, _, _, _, _, _, _, rfl, _⟩; rfl) | (rintro ⟨_, _, _, _, _, _, _, _, _, _, rfl, _⟩; rfl) | (rintro ⟨_, _, _, _, _, _, _, _, _, _, _, rfl, _⟩; rfl)) (fun cdv Ar outer s H vs Q E hr h => ⟨_, 
  (pss_cons (ps_set (i := 1) sc_group_line.nd rfl (Or.inl rfl) (pe_fld (pv 0) rfl))
      (pss_cons (ps_set (i := 2) sc_group_line.nd rfl (Or.inl rfl) (pe_fld (pv 0) rfl))
      (pss_one (ps_ret (pe_joined (PJ.cons pe_str (PJ.cons (pe_fmt (pv 1)) (PJ.cons pe_str (PJ.cons (pe_fmt (pv 2)) (PJ.cons pe_str PJ.nil)))))))))), ?_⟩)
  obtain ⟨ga, g, rfl, ⟨dq, e⟩, hn, hs, k⟩ := h
  refine st_seqSet (val_gname T (val_var rfl) e) ?_
  refine st_seqSet (val_setup T (val_var rfl) e) ?_
  have hd := dec_len hs
  have e1 : ("group " : Str) = strOf (Vatsld.ascii "group ") := by decide +kernel
  have e2 : (" " : Str) = strOf [32] := by decide +kernel
  have e3 : (";\n" : Str) = strOf (Vatsld.ascii ";\n") := by decide +kernel
  have ht : groupText g = [Vatsld.ascii "group ", g.name, [32], Vatsld.decimal g.setup, Vatsld.ascii ";\n"].flatten := by simp [groupText]
  refine st_ret (v := .str (strOf (groupText g))) ?_ (k H (Same.refl H))
  rw [ht]
  refine val_joined ⟨val_eq val_c (by rw [e1]), val_fmtS (val_var rfl) (by omega), val_eq val_c (by rw [e2]), val_fmtI (val_var rfl) hs, val_eq val_c (by rw [e3]), trivial⟩ ?_
  have h6 : (Vatsld.ascii "group ").length = 6 := by decide +kernel
  have h2 : (Vatsld.ascii ";\n").length = 2 := by decide +kernel
  simp
  omega
def sp_in_part (A : Ad) : Sp := fun vs H Q _ => ∃ (pa ta : Addr) (p : Vatsld.Plan) (j : Vatsld.Job), vs = [.ref pa, .ref ta] ∧ PlanAt A H pa p ∧ TestAt A H ta j ∧ WF p ∧ j ∈ p.jobs ∧ ∀ H', Same H H' → Q (.str (strOf (inText p j))) H'
/-! ### in_part -/
abbrev s_in_part : Stmt := top 91
theorem sc_in_part : FnScope ["plan", "test", "name"] ["plan", "test"] (defScope s_in_part) := ⟨rfl, rfl, rfl, by decide +kernel, rfl, by decide +kernel, by decide +kernel⟩
theorem ok_in_part {f : Addr} {fd : FuncData} (F : Fun K "in_part" "in_part" s_in_part f fd) (T : Txt K mg A) : FnOk P w K mg base CX0 1 f fd ["plan", "test"] (sp_in_part A) := by
  refine F.ok sc_in_part (fun vs H Q E h => by revert h; first | (rintro ⟨rfl, _⟩; rfl) | (rintro ⟨_, rfl, _⟩; rfl) | (rintro ⟨_, _, rfl, _⟩; rfl) | (rintro ⟨_, _, _, rfl, _⟩; rfl) | (rintro ⟨_, _, _, _, rfl, _⟩; rfl) | (rintro ⟨_, _, _, _, _, rfl, _⟩; rfl) | (rintro ⟨_, _, _, _, _, _, rfl, _⟩; rfl) | (rintro ⟨_, _, _, _, _, _, _, rfl, _⟩; rfl) | (rintro ⟨_, _, _, _, _, _, _, _, rfl, _⟩; rfl) | (rintro ⟨_, _, _, _, _, _, _, _, _, rfl, _⟩; rfl) | (rintro ⟨_, _, _, _, _, _, _, _, _, _, rfl, _⟩; rfl) | (rintro ⟨_, _, _, _, _, _, _, _, _, _, _, rfl, _⟩; rfl)) (fun cdv Ar outer s H vs Q E hr h => ⟨_, 
  (pss_cons (ps_if (pt_cmpR op_isN1 (pe_fld (pv 1) rfl) pe_non (nomark _)) (pss_one (ps_ret pe_str)) pss_nil)
      (pss_cons (ps_set (i := 2) sc_in_part.nd rfl (Or.inl rfl) (pe_fld (pe_ix ix_list (pe_fld (pv 0) rfl) (pe_fld (pv 1) rfl) (fun _ _ => rfl)) rfl))
      (pss_one (ps_ret (pe_joined (PJ.cons pe_str (PJ.cons (pe_fmt (pv 2)) PJ.nil))))))), ?_⟩)
  obtain ⟨pa, ta, p, j, rfl, hP, ⟨dq, la, e, e2⟩, hW, hj, k⟩ := h
  refine st_seqIfV (ans_isN (val_group T (val_var rfl) e) (opt_is_none _)) (fun hb => ?_) fun hb => ?_
  · refine st_ret val_c ?_
    have : inText p j = [] := by
      unfold inText
      cases hg : j.group with
      | none => rfl
      | some g => rw [hg] at hb; cases hb
    rw [this] at k
    exact k H (Same.refl H)
  · cases hg : j.group with
    | none => rw [hg] at hb; cases hb
    | some g =>
      have hlt := hW.jgrp j hj g hg
      obtain ⟨gr, hgr⟩ : ∃ gr, p.groups[g]? = some gr := ⟨_, List.getElem?_eq_getElem hlt⟩
      obtain ⟨dx, lg, lt, gs, q, dg, f1, f2, f3, f4⟩ := hP.grp hgr
      have hgv : Val (tFld K (tVar 1) "group") ([some (.ref pa), some (.ref ta), none] : L2.St) H (.int (g : Int)) := by
        have := val_group (σ := [some (.ref pa), some (.ref ta), none]) T (val_var rfl) e (ta := tVar 1)
        rw [hg] at this
        exact this
      refine st_seqSet (val_gname T (val_ixL (SqL.of f2) f3 (val_groups T (val_var rfl) f1) hgv) f4) ?_
      have e1 : (" in " : Str) = strOf (Vatsld.ascii " in ") := by decide +kernel
      have ht : inText p j = [Vatsld.ascii " in ", gr.name].flatten := by
        unfold inText
        rw [hg]
        simp [hgr]
      refine st_ret (v := .str (strOf (inText p j))) ?_ (k H (Same.refl H))
      have hl := inText_len (j := j) hW
      rw [ht] at hl ⊢
      have hn := hW.gname gr (List.mem_of_getElem? hgr)
      exact val_joined ⟨val_eq val_c (by rw [e1]), val_fmtS (val_var rfl) (by omega), trivial⟩ (by omega)
theorem ans_is' {t : TT} {σ : L2.St} {H : Hp} {b b' : Bool} (h : Ans t σ H b) (e : b = b') : Ans t σ H b' := e ▸ h
def sp_after_part (A : Ad) : Sp := fun vs H Q _ => ∃ (pa ta : Addr) (p : Vatsld.Plan) (j : Vatsld.Job), vs = [.ref pa, .ref ta] ∧ PlanAt A H pa p ∧ TestAt A H ta j ∧ WF p ∧ j ∈ p.jobs ∧ ∀ H', Same H H' → Q (.str (strOf (afterText p j))) H'
/-! ### after_part -/
abbrev s_after_part : Stmt := top 92
theorem sc_after_part : FnScope ["plan", "test", "names", "number"] ["plan", "test"] (defScope s_after_part) := ⟨rfl, rfl, rfl, by decide +kernel, rfl, by decide +kernel, by decide +kernel⟩
theorem ok_after_part {f : Addr} {fd : FuncData} (F : Fun K "after_part" "after_part" s_after_part f fd) (T : Txt K mg A) : FnOk P w K mg base CX0 1 f fd ["plan", "test"] (sp_after_part A) := by
  refine F.ok sc_after_part (fun vs H Q E h => by revert h; first | (rintro ⟨rfl, _⟩; rfl) | (rintro ⟨_, rfl, _⟩; rfl) | (rintro ⟨_, _, rfl, _⟩; rfl) | (rintro ⟨_, _, _, rfl, _⟩; rfl) | (rintro ⟨_, _, _, _, rfl, _⟩; rfl) | (rintro ⟨_, _, _, _, _, rfl, _⟩; rfl) | (rintro ⟨_, _, _, _, _, _, rfl, _⟩; rfl) | (rintro ⟨_, _, _, _, _, _, _, rfl, _⟩; rfl) | (rintro ⟨_, _, _, _, _, _, _, _, rfl, _⟩; rfl) | (rintro ⟨_, _, _, _, _, _, _, _, _, rfl, _⟩; rfl) | (rintro ⟨_, _, _, _, _, _, _, _, _, _, rfl, _⟩; rfl) | (rintro ⟨_, _, _, _, _, _, _, _, _, _, _, rfl, _⟩; rfl)) (fun cdv Ar outer s H vs Q E hr h => ⟨_, 
  (pss_cons (ps_if (pt_not (pt_truK (K := K) rfl (pe_fld (pv 1) rfl) (by intro _; rfl))) (pss_one (ps_ret pe_str)) pss_nil)
      (pss_cons (ps_set (i := 2) sc_after_part.nd rfl (Or.inl rfl) (pe_join pe_str (pe_lc (own := [("number", 3)]) (g := gName 3) (tt := tYes) (by rfl) sc_after_part.nd (pi_list (pe_fld (pv 1) rfl)) (blkOk_by (N := ["plan", "test", "names", "number"]) (sc := defScope s_after_part) (by decide +kernel)) (fun _ _ _ _ _ => pg_name (i := 3) sc_after_part.nd rfl (Or.inl rfl)) (fun _ _ _ _ _ => pts_nil) (fun _ _ _ _ _ => (pe_fldK (K := K) rfl (pe_ix (r := rIxL K) ix_list (pe_fldK (K := K) rfl (pv 0) rfl) (pv 3) (fun _ _ => rfl)) rfl)))))
      (pss_one (ps_ret (pe_joined (PJ.cons pe_str (PJ.cons (pe_fmt (pv 2)) PJ.nil))))))), ?_⟩)
  obtain ⟨pa, ta, p, j, rfl, hP, ⟨dq, la, e, e2⟩, hW, hj, k⟩ := h
  obtain ⟨hl7, hlt⟩ := aft_len hW hj
  refine st_seqIfV (b := j.after_.isEmpty) (ans_is' (ans_not (ans_tr (b := !j.after_.isEmpty) (val_after T (val_var rfl) e) (.inl ⟨_, SqL.of e2, by unfold natsV; rw [List.isEmpty_map]⟩))) (by cases j.after_.isEmpty <;> rfl)) (fun hb => ?_) fun hb => ?_
  · refine st_ret val_c ?_
    have : afterText p j = [] := if_pos hb
    rw [this] at k
    exact k H (Same.refl H)
  · have hne : afterText p j = Vatsld.ascii " after " ++ Vatsld.comma (j.after_.map fun i => (Vatsld.jobAt p i).name) := if_neg (by rw [hb]; exact Bool.false_ne_true)
    have hnm : ∀ w ∈ j.after_.map (fun i => (Vatsld.jobAt p i).name), w.length ≤ 12 := fun w hw => by
      obtain ⟨i, hi, rfl⟩ := List.mem_map.mp hw
      exact hW.jname _ (job_mem (hlt i hi))
    refine st_seqSetS (v := .str (strOf (Vatsld.comma (j.after_.map fun i => (Vatsld.jobAt p i).name)))) ?_ fun H1 s1 => ?_
    · rw [← join_comma]
      refine evs_join (ys := (j.after_.map fun i => (Vatsld.jobAt p i).name).map strOf) val_c (lc_listI (evs_of (val_after T (val_var rfl) e)) (SqL.of e2) (by rw [natsV_len]; simp) (by rw [natsV_len]; omega) fun m x y H' hx hy s => ?_) ?_
      · obtain ⟨n, hn, rfl⟩ := natsV_mem hx
        have hy' : y = .str (strOf (Vatsld.jobAt p n).name) := by
          rw [List.getElem?_map, List.getElem?_map, List.getElem?_map, hn] at hy
          simpa using hy.symm
        subst hy'
        obtain ⟨dx, lg, lt, ts, q, dt, la', f1, f2, f3, f4, f5⟩ := hP.test (hlt n (List.mem_of_getElem? hn))
        exact evs_of (val_tname T (val_ixL (SqL.of (s _ _ f2)) f3 (val_tests T (val_var rfl) (s _ _ f1)) (val_var rfl)) (s _ _ f4))
      · have h1 := sum_lens _ hnm
        have h2 : (", " : Str).length = 2 := by decide +kernel
        rw [List.length_map, List.length_map, h2]
        rw [List.length_map] at h1
        omega
    · have e1 : (" after " : Str) = strOf (Vatsld.ascii " after ") := by decide +kernel
      have hl := afterText_len hW hj
      have ht : afterText p j = [Vatsld.ascii " after ", Vatsld.comma (j.after_.map fun i => (Vatsld.jobAt p i).name)].flatten := by rw [hne]; simp
      refine st_ret (v := .str (strOf (afterText p j))) ?_ (k H1 s1)
      have hc := comma_len _ hnm
      rw [List.length_map] at hc
      rw [ht] at hl ⊢
      exact val_joined ⟨val_eq val_c (by rw [e1]), val_fmtS (val_var rfl) (by omega), trivial⟩ (by omega)
def sp_test_line (A : Ad) : Sp := fun vs H Q _ => ∃ (pa ta : Addr) (p : Vatsld.Plan) (j : Vatsld.Job), vs = [.ref pa, .ref ta] ∧ PlanAt A H pa p ∧ TestAt A H ta j ∧ WF p ∧ j ∈ p.jobs ∧ ∀ H', Same H H' → Q (.str (strOf (Vatsld.jobText p j))) H'
theorem job_text (p : Vatsld.Plan) (j : Vatsld.Job) : Vatsld.jobText p j = [Vatsld.ascii "test ", j.name, Vatsld.ascii " cost ", Vatsld.decimal j.cost, Vatsld.ascii " chance ", Vatsld.decimal j.chance, inText p j, afterText p j, Vatsld.ascii ";\n"].flatten := by
  have h : Vatsld.jobText p j = Vatsld.ascii "test " ++ (j.name ++ (Vatsld.ascii " cost " ++ (Vatsld.decimal j.cost ++ (Vatsld.ascii " chance " ++ (Vatsld.decimal j.chance ++ (inText p j ++ (afterText p j ++ Vatsld.ascii ";\n"))))))) := rfl
  rw [h]
  simp
theorem jobText_len {p : Vatsld.Plan} {j : Vatsld.Job} (h : WF p) (hj : j ∈ p.jobs) : (Vatsld.jobText p j).length ≤ 1000 := by
  rw [job_text]
  have h1 := inText_len (j := j) h
  have h2 := afterText_len h hj
  have h3 := h.jname j hj
  have h4 := dec_len (h.jcost j hj)
  have h5 := dec_len (n := j.chance) (by have := h.jch j hj; omega)
  have c1 : (Vatsld.ascii "test ").length = 5 := by decide +kernel
  have c2 : (Vatsld.ascii " cost ").length = 6 := by decide +kernel
  have c3 : (Vatsld.ascii " chance ").length = 8 := by decide +kernel
  have c4 : (Vatsld.ascii ";\n").length = 2 := by decide +kernel
  simp
  omega
/-! ### test_line -/
abbrev s_test_line : Stmt := top 90
theorem sc_test_line : FnScope ["plan", "test", "name", "cost", "chance", "group", "after"] ["plan", "test"] (defScope s_test_line) := ⟨rfl, rfl, rfl, by decide +kernel, rfl, by decide +kernel, by decide +kernel⟩
theorem ok_test_line {f : Addr} {fd : FuncData} (F : Fun K "test_line" "test_line" s_test_line f fd) (T : Txt K mg A)
    (C_after_part : Cal P w K mg base CX0 1 "after_part" ["plan", "test"] (sp_after_part A))
    (C_in_part : Cal P w K mg base CX0 1 "in_part" ["plan", "test"] (sp_in_part A)) : FnOk P w K mg base CX0 2 f fd ["plan", "test"] (sp_test_line A) := by
  obtain ⟨f_after_part, fd_after_part, m_after_part, kp_after_part, b_after_part, G_after_part⟩ := C_after_part.ex
  obtain ⟨f_in_part, fd_in_part, m_in_part, kp_in_part, b_in_part, G_in_part⟩ := C_in_part.ex
  refine F.ok sc_test_line (fun vs H Q E h => by revert h; first | (rintro ⟨rfl, _⟩; rfl) | (rintro ⟨_, rfl, _⟩; rfl) | (rintro ⟨_, _, rfl, _⟩; rfl) | (rintro ⟨_, _, _, rfl, _⟩; rfl) | (rintro ⟨_, _, _, _, rfl, _⟩; rfl) | (rintro ⟨_, _, _, _, _, rfl, _⟩; rfl) | (rintro ⟨_, _, _, _, _, _, rfl, _⟩; rfl) | (rintro ⟨_, _, _, _, _, _, _, rfl, _⟩; rfl) | (rintro ⟨_, _, _, _, _, _, _, _, rfl, _⟩; rfl) | (rintro ⟨_, _, _, _, _, _, _, _, _, rfl, _⟩; rfl) | (rintro ⟨_, _, _, _, _, _, _, _, _, _, rfl, _⟩; rfl) | (rintro ⟨_, _, _, _, _, _, _, _, _, _, _, rfl, _⟩; rfl)) (fun cdv Ar outer s H vs Q E hr h => ⟨_, 
  (pss_cons (ps_set (i := 2) sc_test_line.nd rfl (Or.inl rfl) (pe_fld (pv 1) rfl))
      (pss_cons (ps_set (i := 3) sc_test_line.nd rfl (Or.inl rfl) (pe_fld (pv 1) rfl))
      (pss_cons (ps_set (i := 4) sc_test_line.nd rfl (Or.inl rfl) (pe_fld (pv 1) rfl))
      (pss_cons (ps_set (i := 5) sc_test_line.nd rfl (Or.inl rfl) (pe_call G_in_part (hr.mono (by decide)) rfl m_in_part kp_in_part b_in_part .nil pass0 (pa_cons (pv 0) (pa_cons (pv 1) pa_nil))))
      (pss_cons (ps_set (i := 6) sc_test_line.nd rfl (Or.inl rfl) (pe_call G_after_part (hr.mono (by decide)) rfl m_after_part kp_after_part b_after_part .nil pass0 (pa_cons (pv 0) (pa_cons (pv 1) pa_nil))))
      (pss_one (ps_ret (pe_joined (PJ.cons pe_str (PJ.cons (pe_fmt (pv 2)) (PJ.cons pe_str (PJ.cons (pe_fmt (pv 3)) (PJ.cons pe_str (PJ.cons (pe_fmt (pv 4)) (PJ.cons (pe_fmt (pv 5)) (PJ.cons (pe_fmt (pv 6)) (PJ.cons pe_str PJ.nil))))))))))))))))), ?_⟩)
  obtain ⟨pa, ta, p, j, rfl, hP, hT, hW, hj, k⟩ := h
  obtain ⟨dq, la, e, e2⟩ := id hT
  refine st_seqSet (val_tname T (val_var rfl) e) ?_
  refine st_seqSet (val_cost T (val_var rfl) e) ?_
  refine st_seqSet (val_chance T (val_var rfl) e) ?_
  refine st_seqSetS (v := .str (strOf (inText p j))) (evs_call (eva_cons (evs_of (val_var rfl)) fun _ _ => eva_cons (evs_of (val_var rfl)) fun _ _ => eva_nil) fun H1 s1 Q z => ⟨pa, ta, p, j, rfl, hP.mono s1, hT.mono s1, hW, hj, z⟩) fun H1 s1 => ?_
  refine st_seqSetS (v := .str (strOf (afterText p j))) (evs_call (eva_cons (evs_of (val_var rfl)) fun _ _ => eva_cons (evs_of (val_var rfl)) fun _ _ => eva_nil) fun H2 s2 Q z => ⟨pa, ta, p, j, rfl, hP.mono (s1.trans s2), hT.mono (s1.trans s2), hW, hj, z⟩) fun H2 s2 => ?_
  have e1 : ("test " : Str) = strOf (Vatsld.ascii "test ") := by decide +kernel
  have e2 : (" cost " : Str) = strOf (Vatsld.ascii " cost ") := by decide +kernel
  have e3 : (" chance " : Str) = strOf (Vatsld.ascii " chance ") := by decide +kernel
  have e4 : (";\n" : Str) = strOf (Vatsld.ascii ";\n") := by decide +kernel
  refine st_ret (v := .str (strOf (Vatsld.jobText p j))) ?_ (k H2 (s1.trans s2))
  have hl := jobText_len hW hj
  have h1 := inText_len (j := j) hW
  have h2 := afterText_len hW hj
  have h3 := hW.jname j hj
  have h5 := hW.jch j hj
  rw [job_text] at hl ⊢
  exact val_joined ⟨val_eq val_c (by rw [e1]), val_fmtS (val_var rfl) (by omega), val_eq val_c (by rw [e2]), val_fmtI (val_var rfl) (hW.jcost j hj), val_eq val_c (by rw [e3]), val_fmtI (val_var rfl) (by omega), val_fmtS (val_var rfl) (by omega), val_fmtS (val_var rfl) (by omega), val_eq val_c (by rw [e4]), trivial⟩ (by omega)
def sp_written_plan (A : Ad) : Sp := fun vs H Q _ => ∃ (pa : Addr) (p : Vatsld.Plan), vs = [.ref pa] ∧ PlanAt A H pa p ∧ WF p ∧ ∀ la H', H la = none → Same H H' → H' la = some (.lst (natsV (Vatsld.writePlan p))) → Q (.ref la) H'
theorem write_is (p : Vatsld.Plan) : Vatsld.writePlan p = (p.groups.map groupText ++ p.jobs.map (Vatsld.jobText p)).flatten := by
  unfold Vatsld.writePlan
  rw [List.flatten_append, List.flatMap_def, List.flatMap_def]
  rfl
theorem groupText_len {p : Vatsld.Plan} {g : Vatsld.Group} (h : WF p) (hg : g ∈ p.groups) : (groupText g).length ≤ 1000 := by
  unfold groupText
  have h3 := h.gname g hg
  have h4 := dec_len (h.gset g hg)
  have c1 : (Vatsld.ascii "group ").length = 6 := by decide +kernel
  have c4 : (Vatsld.ascii ";\n").length = 2 := by decide +kernel
  simp
  omega
theorem write_lens {p : Vatsld.Plan} (h : WF p) : ∀ w ∈ p.groups.map groupText ++ p.jobs.map (Vatsld.jobText p), w.length ≤ 1000 := fun w hw => by
  rcases List.mem_append.mp hw with z | z
  · obtain ⟨g, hg, rfl⟩ := List.mem_map.mp z
    exact groupText_len h hg
  · obtain ⟨j, hj, rfl⟩ := List.mem_map.mp z
    exact jobText_len h hj
theorem write_len {p : Vatsld.Plan} (h : WF p) : (Vatsld.writePlan p).length ≤ 10000 := by
  rw [write_is]
  have h1 := flat_lens _ (write_lens h)
  have h2 := h.ng
  have h3 := h.nj
  rw [List.length_append, List.length_map, List.length_map] at h1
  omega
/-! ### written_plan -/
abbrev s_written_plan : Stmt := top 88
theorem sc_written_plan : FnScope ["plan", "lines", "group", "character", "test"] ["plan"] (defScope s_written_plan) := ⟨rfl, rfl, rfl, by decide +kernel, rfl, by decide +kernel, by decide +kernel⟩
theorem ok_written_plan {f : Addr} {fd : FuncData} (F : Fun K "written_plan" "written_plan" s_written_plan f fd) (T : Txt K mg A)
    (C_test_line : Cal P w K mg base CX0 2 "test_line" ["plan", "test"] (sp_test_line A))
    (C_group_line : Cal P w K mg base CX0 1 "group_line" ["group"] (sp_group_line A)) : FnOk P w K mg base CX0 3 f fd ["plan"] (sp_written_plan A) := by
  obtain ⟨f_test_line, fd_test_line, m_test_line, kp_test_line, b_test_line, G_test_line⟩ := C_test_line.ex
  obtain ⟨f_group_line, fd_group_line, m_group_line, kp_group_line, b_group_line, G_group_line⟩ := C_group_line.ex
  refine F.ok sc_written_plan (fun vs H Q E h => by revert h; first | (rintro ⟨rfl, _⟩; rfl) | (rintro ⟨_, rfl, _⟩; rfl) | (rintro ⟨_, _, rfl, _⟩; rfl) | (rintro ⟨_, _, _, rfl, _⟩; rfl) | (rintro ⟨_, _, _, _, rfl, _⟩; rfl) | (rintro ⟨_, _, _, _, _, rfl, _⟩; rfl) | (rintro ⟨_, _, _, _, _, _, rfl, _⟩; rfl) | (rintro ⟨_, _, _, _, _, _, _, rfl, _⟩; rfl) | (rintro ⟨_, _, _, _, _, _, _, _, rfl, _⟩; rfl) | (rintro ⟨_, _, _, _, _, _, _, _, _, rfl, _⟩; rfl) | (rintro ⟨_, _, _, _, _, _, _, _, _, _, rfl, _⟩; rfl) | (rintro ⟨_, _, _, _, _, _, _, _, _, _, _, rfl, _⟩; rfl)) (fun cdv Ar outer s H vs Q E hr h => ⟨_, 
  (pss_cons (ps_setLc (i := 1) (own := [("group", 2)]) (g := gName 2) (tt := tYes) (by rfl) sc_written_plan.nd rfl rfl (sw_true rfl rfl rfl (by decide +kernel)) (pi_list (pe_fld (pv 0) rfl)) (blkOk_by (N := ["plan", "lines", "group", "character", "test"]) (sc := defScope s_written_plan) (by decide +kernel)) (fun _ _ _ _ _ => pg_name (i := 2) sc_written_plan.nd rfl (Or.inl rfl)) (fun _ _ _ _ _ => pts_nil) (fun _ _ _ _ _ => (pe_call G_group_line (hr.mono (by decide)) rfl m_group_line kp_group_line b_group_line .nil pass0 (pa_cons (pv 2) pa_nil))))
      (pss_cons (ps_expr (pe_bm PySem.F.plainAttrs_list PySem.F.slot_list_extend PySem.F.type_list_extend mt_extend (pv 1) (pa_cons (pe_lc (own := [("test", 4)]) (g := gName 4) (tt := tYes) (by rfl) sc_written_plan.nd (pi_list (pe_fld (pv 0) rfl)) (blkOk_by (N := ["plan", "lines", "group", "character", "test"]) (sc := defScope s_written_plan) (by decide +kernel)) (fun _ _ _ _ _ => pg_name (i := 4) sc_written_plan.nd rfl (Or.inl rfl)) (fun _ _ _ _ _ => pts_nil) (fun _ _ _ _ _ => (pe_call G_test_line (hr.mono (by decide)) rfl m_test_line kp_test_line b_test_line .nil pass0 (pa_cons (pv 0) (pa_cons (pv 4) pa_nil))))) pa_nil)))
      (pss_one (ps_ret (pe_lc (own := [("character", 3)]) (g := gName 3) (tt := tYes) (by rfl) sc_written_plan.nd (pi_str (pe_join pe_str (pv 1))) (blkOk_by (N := ["plan", "lines", "group", "character", "test"]) (sc := defScope s_written_plan) (by decide +kernel)) (fun _ _ _ _ _ => pg_name (i := 3) sc_written_plan.nd rfl (Or.inl rfl)) (fun _ _ _ _ _ => pts_nil) (fun _ _ _ _ _ => (pe_callB call_ord (by rfl) T.b_ord (by decide +kernel) (pa_cons (pv 3) pa_nil)))))))), ?_⟩)
  obtain ⟨pa, p, rfl, hP, hW, k⟩ := h
  obtain ⟨dx, lg, lt, gs, js, ep, eg, et, hg, ht⟩ := id hP
  have h2 := hW.ng
  have h3 := hW.nj
  have hgl := hg.1
  have htl := ht.1
  refine st_seqSetN (o := .lst ((p.groups.map groupText).map fun w => .str (strOf w))) (lc_listI (evs_of (val_groups T (val_var rfl) ep)) (SqL.of eg) (by simp [hgl]) (by omega) fun m x y H' hx hy s => ?_) fun q H1 nq s1 e1 => ?_
  · have hi : m < p.groups.length := by
      have := (List.getElem?_eq_some_iff.mp hx).1
      omega
    obtain ⟨g, hgm⟩ : ∃ g, p.groups[m]? = some g := ⟨_, List.getElem?_eq_getElem hi⟩
    obtain ⟨r, f1, f2⟩ := hg.2 m g hgm
    rw [hx] at f1
    cases f1
    rw [List.getElem?_map, List.getElem?_map, hgm] at hy
    cases hy
    have hmem := List.mem_of_getElem? hgm
    exact evs_call (eva_cons (evs_of (val_var rfl)) fun _ _ => eva_nil) fun H2 s2 Q z => ⟨r, g, rfl, f2.mono (s.trans s2), hW.gname g hmem, hW.gset g hmem, z⟩
  refine st_seqExtendN (ys := (p.jobs.map (Vatsld.jobText p)).map fun w => .str (strOf w)) (val_var rfl) e1 (lc_listI (evs_of (val_tests T (val_var rfl) (s1 _ _ ep))) (SqL.of (s1 _ _ et)) (by simp [htl]) (by omega) fun m x y H' hx hy s => ?_) (by simp; omega) fun H2 s2 => ?_
  · have hi : m < p.jobs.length := by
      have := (List.getElem?_eq_some_iff.mp hx).1
      omega
    obtain ⟨j, hjm⟩ : ∃ g, p.jobs[m]? = some g := ⟨_, List.getElem?_eq_getElem hi⟩
    obtain ⟨r, f1, f2⟩ := ht.2 m j hjm
    rw [hx] at f1
    cases f1
    rw [List.getElem?_map, List.getElem?_map, hjm] at hy
    cases hy
    exact evs_call (eva_cons (evs_of (val_var rfl)) fun _ _ => eva_cons (evs_of (val_var rfl)) fun _ _ => eva_nil) fun H2 s2 Q z => ⟨pa, r, p, j, rfl, hP.mono (s1.trans (s.trans s2)), TestAt.mono (s1.trans (s.trans s2)) f2, hW, List.mem_of_getElem? hjm, z⟩
  have sH : Same H (upd H2 q (.lst ((p.groups.map groupText).map (fun w => V.str (strOf w)) ++ (p.jobs.map (Vatsld.jobText p)).map fun w => V.str (strOf w)))) := (s1.trans s2).mut nq
  have hws := write_lens hW
  have hwl := write_len hW
  refine st_retN' (o := .lst (natsV (Vatsld.writePlan p))) (lc_strI (w := Vatsld.writePlan p) (evs_is (evs_joinV (ys := (p.groups.map groupText ++ p.jobs.map (Vatsld.jobText p)).map strOf) val_c (val_var rfl) (by rw [upd_same, ← List.map_append, List.map_map]; rfl) ?_) (by rw [join_empty, write_is])) (natsV_len _) (by omega) fun m c y H' hx hy s => ?_) fun la H3 n3 s3 e3 => ?_
  · have h1 := sum_lens _ hws
    have h0 : ("" : Str).length = 0 := by decide +kernel
    rw [h0]
    rw [List.length_append, List.length_map, List.length_map] at h1
    omega
  · rw [natsV_get hx] at hy
    cases hy
    exact evs_of (val_ord1 (val_var rfl))
  · exact k la H3 (sH.free n3) (sH.trans s3) e3
end
end Tp
namespace Tp
open PySem PySem.Spec PyProof.Rows L2
section
variable {P : Program} {w : World} {K : PySem.W.Frag} {mg : Str → Option Value} {base : Heap} {A : Ad}
open Vatsld (Toks Fault)
/-! ### orders, once more -/
theorem bestOf_mem {p : Vatsld.Plan} (h : WF p) : ∀ (k : Nat) (last : Option Nat) (done : List Nat), (left p.jobs.length done).length = k → ∀ x ∈ (bestOf p last done).order, x < p.jobs.length
  | 0, last, done, e, x, hx => by
    rw [bestOf_none (List.length_eq_zero_iff.mp e)] at hx
    cases hx
  | k + 1, last, done, e, x, hx => by
    have hne : left p.jobs.length done ≠ [] := fun z => by rw [z] at e; cases e
    obtain ⟨i, hi, hb⟩ := bestOf_next h (last := last) hne
    have hil := ready_left hi
    rw [hb] at hx
    have hx : x ∈ i :: (bestOf p (Vatsld.groupAfter p last i) (done ++ [i])).order := hx
    rcases List.mem_cons.mp hx with z | z
    · rw [z]
      exact (mem_left.mp hil).1
    · refine bestOf_mem h k _ _ ?_ x z
      have := left_len_more hil
      omega
theorem bestOrder_mem {p : Vatsld.Plan} (h : WF p) : (∀ x ∈ (Vatsld.bestOrder p).order, x < p.jobs.length) ∧ (Vatsld.bestOrder p).order.length ≤ 7 := by
  rw [bestOrder_is]
  refine ⟨bestOf_mem h _ _ _ rfl, ?_⟩
  rw [bestOf_len h _ _ _ rfl]
  have := left_le p.jobs.length []
  have := h.nj
  omega
theorem ruleOf_mem {p : Vatsld.Plan} (h : WF p) : ∀ (k : Nat) (done : List Nat), (left p.jobs.length done).length = k → (∀ x ∈ ruleOf p done, x < p.jobs.length) ∧ (ruleOf p done).length ≤ k
  | 0, done, e => by
    rw [ruleOf_none (List.length_eq_zero_iff.mp e)]
    exact ⟨(fun x hx => by cases hx), Nat.le_refl _⟩
  | k + 1, done, e => by
    have hne : left p.jobs.length done ≠ [] := fun z => by rw [z] at e; cases e
    obtain ⟨i, hi, hf⟩ := firstBy_some (p := p) (ready_some h hne)
    have hil := ready_left hi
    rw [ruleOf_next hf hil]
    have hk := left_len_more hil
    obtain ⟨h1, h2⟩ := ruleOf_mem h k (done ++ [i]) (by omega)
    refine ⟨fun x hx => ?_, by rw [List.length_cons]; omega⟩
    rcases List.mem_cons.mp hx with z | z
    · rw [z]
      exact (mem_left.mp hil).1
    · exact h1 x z
theorem simpleOrder_mem {p : Vatsld.Plan} (h : WF p) : (∀ x ∈ Vatsld.simpleOrder p, x < p.jobs.length) ∧ (Vatsld.simpleOrder p).length ≤ 7 := by
  rw [simpleOrder_is]
  obtain ⟨h1, h2⟩ := ruleOf_mem h _ [] rfl
  refine ⟨h1, ?_⟩
  have := left_le p.jobs.length []
  have := h.nj
  omega

/-! ### the object, the list of calls -/
def hoF (pa : Addr) : List (Str × V) := [("plan", .ref pa)]
def crF (ca : Addr) (pl : Nat) : List (Str × V) := [("calls", .ref ca), ("place", .int (pl : Int))]
theorem hoF_plan (pa : Addr) : (hoF pa).lookup ("plan" : Str) = some (.ref pa) := lk_here
theorem crF_calls (ca : Addr) (pl : Nat) : (crF ca pl).lookup ("calls" : Str) = some (.ref ca) := lk_here
theorem crF_place (ca : Addr) (pl : Nat) : (crF ca pl).lookup ("place" : Str) = some (.int (pl : Int)) := (lk_past (by decide +kernel)).trans lk_here
theorem crF_m {ca : Addr} {pl : Nat} {m : Str} (h1 : (m == ("calls" : Str)) = false) (h2 : (m == ("place" : Str)) = false) : (crF ca pl).lookup m = none := (lk_past h1).trans ((lk_past h2).trans rfl)
theorem crF_put (ca : Addr) (pl q : Nat) : putF "place" (.int (q : Int)) (crF ca pl) = crF ca q := (put_past (by decide +kernel)).trans (congrArg _ put_here)
theorem hoF_put (pa q : Addr) : putF "plan" (.ref q) (hoF pa) = hoF q := put_here
def HoAt (A : Ad) (H : Hp) (ha pa : Addr) : Prop := ∃ dx, H ha = some (.ins A.cHolder dx (hoF pa))
def CRAt (A : Ad) (H : Hp) (r ca : Addr) (pl : Nat) : Prop := ∃ dx, H r = some (.ins A.cCallReader dx (crF ca pl))
def Keep (r : Addr) (H H' : Hp) : Prop := ∀ b o, b ≠ r → H b = some o → H' b = some o
theorem sq_keep {H H' : Hp} {r ca C dx : Addr} {fs : List (Str × V)} {xs : List V} (h : SqL K H ca xs) (hr : H r = some (.ins C dx fs)) (k : Keep r H H') : SqL K H' ca xs := by
  rcases h with (h | ⟨o, h⟩) | h
  · exact .inl (.inl (k _ _ (fun z => by rw [z, hr] at h; cases h) h))
  · exact .inl (.inr ⟨o, k _ _ (fun z => by rw [z, hr] at h; cases h) h⟩)
  · exact .inr h
theorem _root_.L2.Same.keep {H H' : Hp} (s : Same H H') (r : Addr) : Keep r H H' := fun b o _ e => s b o e
theorem CRAt.mono {H H' : Hp} {r ca : Addr} {pl : Nat} (h : CRAt A H r ca pl) (s : Same H H') : CRAt A H' r ca pl := let ⟨dx, e⟩ := h; ⟨dx, s _ _ e⟩
theorem HoAt.mono {H H' : Hp} {r ca : Addr} (h : HoAt A H r ca) (s : Same H H') : HoAt A H' r ca := let ⟨dx, e⟩ := h; ⟨dx, s _ _ e⟩
def sp_Holder_init (A : Ad) : Sp := fun vs H Q _ => ∃ (x dx : Addr), vs = [.ref x] ∧ H x = some (.ins A.cHolder dx []) ∧
  ∀ pa H', (∀ b o, b ≠ x → H b = some o → H' b = some o) → H' x = some (.ins A.cHolder dx (hoF pa)) → PlanAt A H' pa Vatsld.emptyPlan → Q .non H'
theorem plan_ne {H : Hp} {pa ha C dx : Addr} {p : Vatsld.Plan} {fs : List (Str × V)} (h : PlanAt A H pa p) (e : H ha = some (.ins C dx fs)) (hn : fs.lookup ("groups" : Str) = none) : pa ≠ ha := fun z => by
  obtain ⟨dp, lg, lt, gs, js, e1, _⟩ := h
  rw [z, e] at e1
  injection e1 with e1
  injection e1 with _ _ e1
  rw [e1, plF_groups] at hn
  cases hn
theorem plan_keep {H H' : Hp} {r pa C dx : Addr} {p : Vatsld.Plan} {fs : List (Str × V)} (h : PlanAt A H pa p) (hr : H r = some (.ins C dx fs)) (n1 : fs.lookup ("groups" : Str) = none) (n2 : fs.lookup ("name" : Str) = none) (k : Keep r H H') : PlanAt A H' pa p := by
  have ins : ∀ {q C' dx' fs' f v}, H q = some (.ins C' dx' fs') → fs'.lookup f = some v → fs.lookup f = none → H' q = some (.ins C' dx' fs') := fun {q C' dx' fs' f v} e l n => k _ _ (fun z => by
    rw [z, hr] at e
    injection e with e
    injection e with _ _ e
    rw [← e, n] at l
    cases l) e
  have lst : ∀ {q xs}, H q = some (.lst xs) → H' q = some (.lst xs) := fun {q xs} e => k _ _ (fun z => by rw [z, hr] at e; cases e) e
  obtain ⟨dp, lg, lt, gs, js, e1, e2, e3, e4, e5⟩ := h
  exact ⟨dp, lg, lt, gs, js, ins e1 (plF_groups lg lt) n1, lst e2, lst e3, e4.mono fun a g ⟨dq, e⟩ => ⟨dq, ins e (grF_name g) n2⟩, e5.mono fun a j ⟨dq, la, e, e'⟩ => ⟨dq, la, ins e (teF_name j la) n2, lst e'⟩⟩
theorem plan_keepN {N : Addr → Prop} {H H' : Hp} {r pa C dx : Addr} {p : Vatsld.Plan} {fs : List (Str × V)} (h : PlanAtN A N H pa p) (hr : H r = some (.ins C dx fs)) (n1 : fs.lookup ("groups" : Str) = none) (n2 : fs.lookup ("name" : Str) = none) (k : Keep r H H') : PlanAtN A N H' pa p := by
  have ins : ∀ {q C' dx' fs' f v}, H q = some (.ins C' dx' fs') → fs'.lookup f = some v → fs.lookup f = none → H' q = some (.ins C' dx' fs') := fun {q C' dx' fs' f v} e l n => k _ _ (fun z => by
    rw [z, hr] at e
    injection e with e
    injection e with _ _ e
    rw [← e, n] at l
    cases l) e
  have lst : ∀ {q xs}, H q = some (.lst xs) → H' q = some (.lst xs) := fun {q xs} e => k _ _ (fun z => by rw [z, hr] at e; cases e) e
  obtain ⟨dp, lg, lt, gs, js, e1, e2, e3, m1, m2, e4, e5⟩ := h
  exact ⟨dp, lg, lt, gs, js, ins e1 (plF_groups lg lt) n1, lst e2, lst e3, m1, m2, e4.mono fun a g ⟨dq, e⟩ => ⟨dq, ins e (grF_name g) n2⟩, e5.mono fun a j ⟨dq, la, e, e', m⟩ => ⟨dq, la, ins e (teF_name j la) n2, lst e', m⟩⟩
/-- a list that is none of the plan's -/
theorem PlanAt.away {H : Hp} {pa q : Addr} {p : Vatsld.Plan} (h : PlanAt A H pa p) (n : H q = none) : PlanAtN A (fun a => a ≠ q) H pa p := by
  obtain ⟨dp, lg, lt, gs, js, e1, e2, e3, e4, e5⟩ := h
  exact ⟨dp, lg, lt, gs, js, e1, e2, e3, ne_of_none e2 n, ne_of_none e3 n, e4, e5.mono fun a j ⟨dq, la, e, e'⟩ => ⟨dq, la, e, e', ne_of_none e' n⟩⟩
theorem PlanAtN.upd {H : Hp} {pa q : Addr} {p : Vatsld.Plan} {xs ys : List V} (h : PlanAtN A (fun a => a ≠ q) H pa p) (e : H q = some (.lst xs)) : PlanAtN A (fun a => a ≠ q) (upd H q (.lst ys)) pa p := by
  obtain ⟨dp, lg, lt, gs, js, e1, e2, e3, n1, n2, e4, e5⟩ := h
  exact ⟨dp, lg, lt, gs, js, by rw [upd_ne (ins_ne e1 e)]; exact e1, by rw [upd_ne n1]; exact e2, by rw [upd_ne n2]; exact e3, n1, n2, e4.mono fun a g ⟨dq, f⟩ => ⟨dq, by rw [upd_ne (ins_ne f e)]; exact f⟩, e5.mono fun a j ⟨dq, la, f, f', m⟩ => ⟨dq, la, by rw [upd_ne (ins_ne f e)]; exact f, by rw [upd_ne m]; exact f', m⟩⟩
/-- the list of calls, whatever is appended to the answers at q -/
def SqQ (K : PySem.W.Frag) (H : Hp) (q ca : Addr) (xs : List V) : Prop := (ca ≠ q ∧ SqL K H ca xs) ∨ ∀ H', SqL K H' ca xs
section
variable {H H' : Hp} {q ca : Addr} {xs : List V}
theorem SqQ.sq (h : SqQ K H q ca xs) : SqL K H ca xs := h.elim (fun h => h.2) fun h => h H
theorem SqQ.mono (h : SqQ K H q ca xs) (s : Same H H') : SqQ K H' q ca xs := h.elim (fun h => .inl ⟨h.1, s.seq h.2⟩) .inr
theorem SqQ.keep {r C dx : Addr} {fs : List (Str × V)} (h : SqQ K H q ca xs) (hr : H r = some (.ins C dx fs)) (k : Keep r H H') : SqQ K H' q ca xs := h.elim (fun h => .inl ⟨h.1, sq_keep h.2 hr k⟩) .inr
theorem SqQ.upd {o : HO} (h : SqQ K H q ca xs) : SqQ K (upd H q o) q ca xs := h.elim (fun ⟨n, h⟩ => .inl ⟨n, by
  rcases h with (h | ⟨o, h⟩) | h
  · exact .inl (.inl (by rw [upd_ne n]; exact h))
  · exact .inl (.inr ⟨o, by rw [upd_ne n]; exact h⟩)
  · exact .inr h⟩) .inr
theorem SqQ.of (h : SqL K H ca xs) (n : H q = none) : SqQ K H q ca xs := by
  rcases h with (h | ⟨o, h⟩) | h
  · exact .inl ⟨ne_of_none h n, .inl (.inl h)⟩
  · exact .inl ⟨ne_of_none h n, .inl (.inr ⟨o, h⟩)⟩
  · exact .inr fun H' => .inr h
end
theorem hoF_no {pa : Addr} {m : Str} (h : (m == ("plan" : Str)) = false) : (hoF pa).lookup m = none := (lk_past h).trans rfl
/-! ### Holder.__init__ -/
abbrev s_Holder_init : Stmt := inClass (top 102) 0
theorem sc_Holder_init : FnScope ["self"] ["self"] (defScope s_Holder_init) := ⟨rfl, rfl, rfl, by decide +kernel, rfl, by decide +kernel, by decide +kernel⟩
theorem ok_Holder_init {f : Addr} {fd : FuncData} (F : Fun K "__init__" "Holder.__init__" s_Holder_init f fd) (T : Txt K mg A)
    (C_Plan_init : CalI P w K mg base CX0 1 A.cPlan ["self"] (sp_Plan_init A)) : FnOk P w K mg base CX0 3 f fd ["self"] (sp_Holder_init A) := by
  obtain ⟨f_Plan, fd_Plan, M_Plan, b_Plan, G_Plan⟩ := C_Plan_init.ex
  refine F.ok sc_Holder_init (fun vs H Q E h => by revert h; first | (rintro ⟨rfl, _⟩; rfl) | (rintro ⟨_, rfl, _⟩; rfl) | (rintro ⟨_, _, rfl, _⟩; rfl) | (rintro ⟨_, _, _, rfl, _⟩; rfl) | (rintro ⟨_, _, _, _, rfl, _⟩; rfl) | (rintro ⟨_, _, _, _, _, rfl, _⟩; rfl) | (rintro ⟨_, _, _, _, _, _, rfl, _⟩; rfl) | (rintro ⟨_, _, _, _, _, _, _, rfl, _⟩; rfl) | (rintro ⟨_, _, _, _, _, _, _, _, rfl, _⟩; rfl) | (rintro ⟨_, _, _, _, _, _, _, _, _, rfl, _⟩; rfl) | (rintro ⟨_, _, _, _, _, _, _, _, _, _, rfl, _⟩; rfl) | (rintro ⟨_, _, _, _, _, _, _, _, _, _, _, rfl, _⟩; rfl)) (fun cdv Ar outer s H vs Q E hr h => ⟨_, 
  (pss_one (ps_fld (pv 0) (pe_make0 M_Plan G_Plan (hr.mono (by decide)) rfl T.g_Plan b_Plan .nil pass0) rfl)), ?_⟩)
  obtain ⟨x, dx, rfl, hx, z⟩ := h
  refine (evp_plan : EvP _ _ _ _) _ fun pa H1 n1 s1 h1 => ?_
  obtain ⟨dp, lg, lt, e1, e2, e3, _, n2, n3⟩ := h1
  have nex : pa ≠ x := fun e => by rw [e, hx] at n1; cases n1
  refine ⟨_, rfl, x, A.cHolder, dx, [], rfl, s1 _ _ hx, T.cHolder, T.n_Holder_plan, by simp, ?_⟩
  refine z pa _ (fun b o hb e => ?_) upd_same ⟨dp, lg, lt, [], [], ?_, ?_, ?_, Each.nil, Each.nil⟩
  · rw [upd_ne hb]
    exact s1 _ _ e
  · rw [upd_ne nex]
    exact e1
  · rw [upd_ne fun e => by rw [e, hx] at n2; cases n2]
    exact e2
  · rw [upd_ne fun e => by rw [e, hx] at n3; cases n3]
    exact e3
def sp_CallReader_init (A : Ad) : Sp := fun vs H Q _ => ∃ (x dx ca : Addr), vs = [.ref x, .ref ca] ∧ H x = some (.ins A.cCallReader dx []) ∧
  ∀ H', (∀ b o, b ≠ x → H b = some o → H' b = some o) → H' x = some (.ins A.cCallReader dx (crF ca 0)) → Q .non H'
/-! ### CallReader.__init__ -/
abbrev s_CallReader_init : Stmt := inClass (top 103) 0
theorem sc_CallReader_init : FnScope ["self", "calls"] ["self", "calls"] (defScope s_CallReader_init) := ⟨rfl, rfl, rfl, by decide +kernel, rfl, by decide +kernel, by decide +kernel⟩
theorem ok_CallReader_init {f : Addr} {fd : FuncData} (F : Fun K "__init__" "CallReader.__init__" s_CallReader_init f fd) (T : Txt K mg A) : FnOk P w K mg base CX0 1 f fd ["self", "calls"] (sp_CallReader_init A) := by
  refine F.ok sc_CallReader_init (fun vs H Q E h => by revert h; first | (rintro ⟨rfl, _⟩; rfl) | (rintro ⟨_, rfl, _⟩; rfl) | (rintro ⟨_, _, rfl, _⟩; rfl) | (rintro ⟨_, _, _, rfl, _⟩; rfl) | (rintro ⟨_, _, _, _, rfl, _⟩; rfl) | (rintro ⟨_, _, _, _, _, rfl, _⟩; rfl) | (rintro ⟨_, _, _, _, _, _, rfl, _⟩; rfl) | (rintro ⟨_, _, _, _, _, _, _, rfl, _⟩; rfl) | (rintro ⟨_, _, _, _, _, _, _, _, rfl, _⟩; rfl) | (rintro ⟨_, _, _, _, _, _, _, _, _, rfl, _⟩; rfl) | (rintro ⟨_, _, _, _, _, _, _, _, _, _, rfl, _⟩; rfl) | (rintro ⟨_, _, _, _, _, _, _, _, _, _, _, rfl, _⟩; rfl)) (fun cdv Ar outer s H vs Q E hr h => ⟨_, 
  (pss_cons (ps_fld (pv 0) (pv 1) rfl)
      (pss_one (ps_fld (pv 0) pe_int rfl))), ?_⟩)
  obtain ⟨x, dx, ca, rfl, hx, z⟩ := h
  refine st_seqFld (val_var rfl) (val_var rfl) hx T.cCallReader T.n_CallReader_calls (by simp) ?_
  refine st_fld val_c (val_var rfl) upd_same T.cCallReader T.n_CallReader_place (by show 1 < 1000; decide) ?_
  refine z _ (fun b o hb e => ?_) ?_
  · rw [upd_ne hb, upd_ne hb]
    exact e
  · exact upd_same.trans (congrArg (fun q => some (HO.ins A.cCallReader dx q)) (put2 (by decide +kernel)))
def sp_CallReader_more (K : PySem.W.Frag) (A : Ad) : Sp := fun vs H Q _ => ∃ (r ca : Addr) (pl : Nat) (l : List Int), vs = [.ref r] ∧ CRAt A H r ca pl ∧ SqL K H ca (l.map V.int) ∧ Q (.bl (decide (pl < l.length))) H
/-! ### CallReader.more -/
abbrev s_CallReader_more : Stmt := inClass (top 103) 1
theorem sc_CallReader_more : FnScope ["self"] ["self"] (defScope s_CallReader_more) := ⟨rfl, rfl, rfl, by decide +kernel, rfl, by decide +kernel, by decide +kernel⟩
theorem ok_CallReader_more {f : Addr} {fd : FuncData} (F : Fun K "more" "CallReader.more" s_CallReader_more f fd) (T : Txt K mg A) : FnOk P w K mg base CX0 1 f fd ["self"] (sp_CallReader_more K A) := by
  refine F.ok sc_CallReader_more (fun vs H Q E h => by revert h; first | (rintro ⟨rfl, _⟩; rfl) | (rintro ⟨_, rfl, _⟩; rfl) | (rintro ⟨_, _, rfl, _⟩; rfl) | (rintro ⟨_, _, _, rfl, _⟩; rfl) | (rintro ⟨_, _, _, _, rfl, _⟩; rfl) | (rintro ⟨_, _, _, _, _, rfl, _⟩; rfl) | (rintro ⟨_, _, _, _, _, _, rfl, _⟩; rfl) | (rintro ⟨_, _, _, _, _, _, _, rfl, _⟩; rfl) | (rintro ⟨_, _, _, _, _, _, _, _, rfl, _⟩; rfl) | (rintro ⟨_, _, _, _, _, _, _, _, _, rfl, _⟩; rfl) | (rintro ⟨_, _, _, _, _, _, _, _, _, _, rfl, _⟩; rfl) | (rintro ⟨_, _, _, _, _, _, _, _, _, _, _, rfl, _⟩; rfl)) (fun cdv Ar outer s H vs Q E hr h => ⟨_, 
  (pss_one (ps_ret (pe_cmpR op_lt (pe_fld (pv 0) rfl) (pe_callB call_len_seq (by rfl) T.b_len (by decide +kernel) (pa_cons (pe_fld (pv 0) rfl) pa_nil)) (nomark _)))), ?_⟩)
  obtain ⟨r, ca, pl, l, rfl, ⟨dx, e⟩, hs, k⟩ := h
  refine st_ret (v := .bl (decide (pl < l.length))) (val_eq (val_I0 (g := fun i j => .bl (decide (i < j))) (val_fld (val_var rfl) e T.cCallReader T.n_CallReader_place (crF_place _ _)) (val_len hs (List.length_map _) (val_fld (val_var rfl) e T.cCallReader T.n_CallReader_calls (crF_calls _ _)))) ?_) k
  congr 1
  rw [Bool.eq_iff_iff, decide_eq_true_iff, decide_eq_true_iff]
  omega
def sp_CallReader_take_one (K : PySem.W.Frag) (A : Ad) : Sp := fun vs H Q _ => ∃ (r ca : Addr) (pl : Nat) (l : List Int) (n : Int), vs = [.ref r] ∧ CRAt A H r ca pl ∧ SqL K H ca (l.map V.int) ∧ l[pl]? = some n ∧
  ∀ H', Keep r H H' → CRAt A H' r ca (pl + 1) → Q (.int n) H'
theorem ints_get {l : List Int} {i : Nat} {n : Int} (h : l[i]? = some n) : (l.map V.int)[i]? = some (.int n) := by
  rw [List.getElem?_map, h]
  rfl
/-! ### CallReader.take_one -/
abbrev s_CallReader_take_one : Stmt := inClass (top 103) 2
theorem sc_CallReader_take_one : FnScope ["self", "number"] ["self"] (defScope s_CallReader_take_one) := ⟨rfl, rfl, rfl, by decide +kernel, rfl, by decide +kernel, by decide +kernel⟩
theorem ok_CallReader_take_one {f : Addr} {fd : FuncData} (F : Fun K "take_one" "CallReader.take_one" s_CallReader_take_one f fd) (T : Txt K mg A) : FnOk P w K mg base CX0 1 f fd ["self"] (sp_CallReader_take_one K A) := by
  refine F.ok sc_CallReader_take_one (fun vs H Q E h => by revert h; first | (rintro ⟨rfl, _⟩; rfl) | (rintro ⟨_, rfl, _⟩; rfl) | (rintro ⟨_, _, rfl, _⟩; rfl) | (rintro ⟨_, _, _, rfl, _⟩; rfl) | (rintro ⟨_, _, _, _, rfl, _⟩; rfl) | (rintro ⟨_, _, _, _, _, rfl, _⟩; rfl) | (rintro ⟨_, _, _, _, _, _, rfl, _⟩; rfl) | (rintro ⟨_, _, _, _, _, _, _, rfl, _⟩; rfl) | (rintro ⟨_, _, _, _, _, _, _, _, rfl, _⟩; rfl) | (rintro ⟨_, _, _, _, _, _, _, _, _, rfl, _⟩; rfl) | (rintro ⟨_, _, _, _, _, _, _, _, _, _, rfl, _⟩; rfl) | (rintro ⟨_, _, _, _, _, _, _, _, _, _, _, rfl, _⟩; rfl)) (fun cdv Ar outer s H vs Q E hr h => ⟨_, 
  (pss_cons (ps_set (i := 1) sc_CallReader_take_one.nd rfl (Or.inl rfl) (pe_ix ix_list (pe_fld (pv 0) rfl) (pe_fld (pv 0) rfl) (fun _ _ => rfl)))
      (pss_cons (ps_fldaug (pv 0) pe_int in_add)
      (pss_one (ps_ret (pv 1))))), ?_⟩)
  obtain ⟨r, ca, pl, l, n, rfl, ⟨dx, e⟩, hs, hn, k⟩ := h
  refine st_seqSet (val_ixL hs (ints_get hn) (val_fld (val_var rfl) e T.cCallReader T.n_CallReader_calls (crF_calls _ _)) (val_fld (val_var rfl) e T.cCallReader T.n_CallReader_place (crF_place _ _))) ?_
  refine L2.st_aug (z := .int ((pl + 1 : Nat) : Int)) (D := { nx := _, rt := _, bk := _, ct := _ }) (val_var rfl) e T.cCallReader T.n_CallReader_place (crF_place _ _) val_c (fun Q z => ⟨_, _, rfl, rfl, z⟩) (by show 2 < 1000; decide) ?_
  refine st_ret (val_var rfl) (k _ (fun b o hb e => by rw [upd_ne hb]; exact e) ⟨dx, ?_⟩)
  rw [upd_same, crF_put]
def sp_CallReader_take_row (K : PySem.W.Frag) (A : Ad) : Sp := fun vs H Q _ => ∃ (r ca : Addr) (pl : Nat) (l row t : List Int), vs = [.ref r] ∧ CRAt A H r ca pl ∧ SqL K H ca (l.map V.int) ∧ PyFlat.row (l.drop pl) = some (row, t) ∧ l.length ≤ 17000 ∧
  ∀ q H', H q = none → Keep r H H' → CRAt A H' r ca (l.length - t.length) → H' q = some (.lst (row.map V.int)) → Q (.ref q) H'
theorem row_is {l : List Int} {pl : Nat} {row t : List Int} (h : PyFlat.row (l.drop pl) = some (row, t)) : ∃ n : Nat, l[pl]? = some (n : Int) ∧ pl + 1 + n ≤ l.length ∧ row = (l.drop (pl + 1)).take n ∧ l.length - t.length = pl + 1 + n ∧ t = l.drop (pl + 1 + n) := by
  cases e : l.drop pl with
  | nil => rw [e] at h; cases h
  | cons m r =>
    rw [e] at h
    have hl : pl < l.length := by
      have := congrArg List.length e
      rw [List.length_drop, List.length_cons] at this
      omega
    have hm : l[pl]? = some m := by
      have := List.getElem?_drop (xs := l) (i := pl) (j := 0)
      rw [e] at this
      simpa using this.symm
    have hr : r = l.drop (pl + 1) := by
      have : (l.drop pl).drop 1 = r := by rw [e]; rfl
      rw [← this, List.drop_drop]
    have hrl : r.length = l.length - (pl + 1) := by rw [hr, List.length_drop]
    simp only [PyFlat.row] at h
    split at h
    · rename_i hc
      cases h
      obtain ⟨n, rfl⟩ := Int.eq_ofNat_of_zero_le hc.1
      have h2 : n ≤ r.length := hc.2
      refine ⟨n, hm, by omega, by rw [← hr]; rfl, ?_, ?_⟩
      · show l.length - (r.drop n).length = _
        rw [List.length_drop]
        omega
      · show r.drop n = _
        rw [hr, List.drop_drop]
    · cases h
/-! ### CallReader.take_row -/
abbrev s_CallReader_take_row : Stmt := inClass (top 103) 3
theorem sc_CallReader_take_row : FnScope ["self", "start"] ["self"] (defScope s_CallReader_take_row) := ⟨rfl, rfl, rfl, by decide +kernel, rfl, by decide +kernel, by decide +kernel⟩
theorem ok_CallReader_take_row {f : Addr} {fd : FuncData} (F : Fun K "take_row" "CallReader.take_row" s_CallReader_take_row f fd) (T : Txt K mg A) : FnOk P w K mg base CX0 1 f fd ["self"] (sp_CallReader_take_row K A) := by
  refine F.ok sc_CallReader_take_row (fun vs H Q E h => by revert h; first | (rintro ⟨rfl, _⟩; rfl) | (rintro ⟨_, rfl, _⟩; rfl) | (rintro ⟨_, _, rfl, _⟩; rfl) | (rintro ⟨_, _, _, rfl, _⟩; rfl) | (rintro ⟨_, _, _, _, rfl, _⟩; rfl) | (rintro ⟨_, _, _, _, _, rfl, _⟩; rfl) | (rintro ⟨_, _, _, _, _, _, rfl, _⟩; rfl) | (rintro ⟨_, _, _, _, _, _, _, rfl, _⟩; rfl) | (rintro ⟨_, _, _, _, _, _, _, _, rfl, _⟩; rfl) | (rintro ⟨_, _, _, _, _, _, _, _, _, rfl, _⟩; rfl) | (rintro ⟨_, _, _, _, _, _, _, _, _, _, rfl, _⟩; rfl) | (rintro ⟨_, _, _, _, _, _, _, _, _, _, _, rfl, _⟩; rfl)) (fun cdv Ar outer s H vs Q E hr h => ⟨_, 
  (pss_cons (ps_set (i := 1) sc_CallReader_take_row.nd rfl (Or.inl rfl) (pe_op op_add (pe_fld (pv 0) rfl) pe_int))
      (pss_cons (ps_fld (pv 0) (pe_op op_add (pv 1) (pe_ix ix_list (pe_fld (pv 0) rfl) (pe_fld (pv 0) rfl) (fun _ _ => rfl))) rfl)
      (pss_one (ps_ret (pe_slice sl_list (pe_fld (pv 0) rfl) (po_some (pv 1)) (po_some (pe_fld (pv 0) rfl))))))), ?_⟩)
  obtain ⟨r, ca, pl, l, row, t, rfl, ⟨dx, e⟩, hs, hrow, hlen, k⟩ := h
  obtain ⟨n, hn, hle, rfl, hend, _⟩ := row_is hrow
  refine st_seqSet (v := .int ((pl + 1 : Nat) : Int)) (val_eq (val_I0 (g := fun i j => .int (i + j)) (val_fld (val_var rfl) e T.cCallReader T.n_CallReader_place (crF_place _ _)) val_c) (by rw [Int.natCast_add]; rfl)) ?_
  refine st_seqFld (y := .int ((pl + 1 + n : Nat) : Int)) (val_eq (val_I0 (g := fun i j => .int (i + j)) (val_var rfl) (val_ixL hs (ints_get hn) (val_fld (val_var rfl) e T.cCallReader T.n_CallReader_calls (crF_calls _ _)) (val_fld (val_var rfl) e T.cCallReader T.n_CallReader_place (crF_place _ _)))) (by rw [← Int.natCast_add])) (val_var rfl) e T.cCallReader T.n_CallReader_place (by show 2 < 1000; decide) ?_
  rw [crF_put]
  have kp : Keep r H (upd H r (.ins A.cCallReader dx (crF ca (pl + 1 + n)))) := fun b o hb eb => by rw [upd_ne hb]; exact eb
  have e' : (upd H r (.ins A.cCallReader dx (crF ca (pl + 1 + n)))) r = some (.ins A.cCallReader dx (crF ca (pl + 1 + n))) := upd_same
  refine st_retN' (evn_slice (i := pl + 1) (j := pl + 1 + n) (sq_keep hs e kp) (val_fld (val_var rfl) e' T.cCallReader T.n_CallReader_calls (crF_calls _ _)) (val_var rfl) (val_fld (val_var rfl) e' T.cCallReader T.n_CallReader_place (crF_place _ _)) (by rw [List.length_map]; exact hle) (by omega)) fun q H1 nq s1 hq => ?_
  have hqr : q ≠ r := fun z => by rw [z, e'] at nq; cases nq
  refine k q H1 (by rw [upd_ne hqr] at nq; exact nq) (fun b o hb eb => s1 _ _ (kp b o hb eb)) ⟨dx, by rw [hend]; exact s1 _ _ e'⟩ ?_
  rw [hq]
  have hsub : pl + 1 + n - (pl + 1) = n := by omega
  rw [hsub, List.map_take, List.map_drop]
end
end Tp
/-! Ways, choices, what they cost: as the program goes through them. -/
namespace Tp
open PySem PySem.Spec PyProof.Rows L2
open Vatsld (Plan Group Job jobAt)

theorem foldl_sum (l : List Nat) : ∀ a, l.foldl (fun a b => a + b) a = a + l.sum := by
  induction l with
  | nil => intro a; rfl
  | cons x r ih =>
    intro a
    rw [List.foldl_cons, ih, List.sum_cons, Nat.add_assoc]

/-! ### setups -/
def overG (gs : List Group) (k : Nat) (c : Nat → Bool) : Nat := (((gs.zipIdx k).filter fun g => c g.2).map fun g => g.1.setup).sum
theorem overG_cons (x : Group) (gs : List Group) (k : Nat) (c : Nat → Bool) : overG (x :: gs) k c = (if c k then x.setup else 0) + overG gs (k + 1) c := by
  unfold overG
  rw [List.zipIdx_cons, List.filter_cons]
  by_cases h : c k = true
  · rw [if_pos h, if_pos h, List.map_cons, List.sum_cons]
  · rw [if_neg h, if_neg h, Nat.zero_add]
theorem overG_more : ∀ (gs : List Group) (k : Nat) (R : List Nat) (g : Nat), R.contains g = false →
    overG gs k (R ++ [g]).contains = overG gs k R.contains + (if k ≤ g then (gs[g - k]?).elim 0 (fun x => x.setup) else 0)
  | [], k, R, g, h => by
    unfold overG
    simp
  | x :: gs, k, R, g, h => by
    rw [overG_cons, overG_cons, overG_more gs (k + 1) R g h]
    have hk : (R ++ [g]).contains k = (R.contains k || decide (k = g)) := by
      rw [Bool.eq_iff_iff]
      simp
    rw [hk]
    by_cases e : k = g
    · subst e
      have z : ¬ k + 1 ≤ k := by omega
      rw [h, if_neg z]
      simp
      omega
    · have e2 : decide (k = g) = false := decide_eq_false e
      rw [e2, Bool.or_false]
      by_cases hlt : k ≤ g
      · have hlt2 : k + 1 ≤ g := by omega
        have e3 : g - k = (g - (k + 1)) + 1 := by omega
        rw [if_pos hlt, if_pos hlt2, e3, List.getElem?_cons_succ]
        omega
      · have hlt2 : ¬ k + 1 ≤ g := by omega
        rw [if_neg hlt, if_neg hlt2]
        omega
theorem overG_congr {gs : List Group} {k : Nat} {c d : Nat → Bool} (h : ∀ i, c i = d i) : overG gs k c = overG gs k d := by
  have : c = d := funext h
  rw [this]
/-- what the program has when it has gone through some tests -/
def togCost (p : Plan) (l : List Nat) (R : List Nat) : Nat := (l.map fun i => (jobAt p i).cost).sum + overG p.groups 0 R.contains
structure Tog (p : Plan) (l R : List Nat) : Prop where
  has : ∀ k, R.contains k = l.any fun i => (jobAt p i).group == some k
  len : R.length ≤ l.length
theorem tog_cost {p : Plan} {l R : List Nat} (h : Tog p l R) : togCost p l R = Vatsld.costOf p l := by
  unfold togCost Vatsld.costOf
  rw [foldl_sum, foldl_sum, Nat.zero_add, Nat.zero_add]
  congr 1
  exact overG_congr h.has
theorem tog_nil (p : Plan) : Tog p [] [] := ⟨fun _ => rfl, Nat.le_refl _⟩
theorem tog_nil_cost (p : Plan) : togCost p [] [] = 0 := by
  unfold togCost overG
  have : (p.groups.zipIdx 0).filter (fun g => ([] : List Nat).contains g.2) = [] := List.filter_eq_nil_iff.mpr (by simp)
  rw [this]
  rfl
/-- a test whose setup costs nothing more -/
theorem tog_same {p : Plan} {l R : List Nat} {i : Nat} (h : Tog p l R) (hg : ∀ g, (jobAt p i).group = some g → R.contains g = true) : Tog p (l ++ [i]) R ∧ togCost p (l ++ [i]) R = togCost p l R + (jobAt p i).cost := by
  refine ⟨⟨fun k => ?_, by rw [List.length_append]; have := h.len; simp; omega⟩, ?_⟩
  · rw [List.any_append, ← h.has]
    cases e : (jobAt p i).group with
    | none => simp [e]
    | some g =>
      by_cases hk : k = g
      · subst hk
        rw [hg k e]
        simp
      · have : (some g == some k) = false := by simpa using fun z => hk z.symm
        simp [e, this]
  · unfold togCost
    rw [List.map_append, List.sum_append]
    simp
    omega
theorem tog_new {p : Plan} {l R : List Nat} {i g : Nat} {gr : Group} (h : Tog p l R) (hg : (jobAt p i).group = some g) (hn : R.contains g = false) (hgr : p.groups[g]? = some gr) : Tog p (l ++ [i]) (R ++ [g]) ∧ togCost p (l ++ [i]) (R ++ [g]) = togCost p l R + (jobAt p i).cost + gr.setup := by
  refine ⟨⟨fun k => ?_, by rw [List.length_append, List.length_append]; have := h.len; simp; omega⟩, ?_⟩
  · rw [List.any_append, ← h.has, Bool.eq_iff_iff]
    simp [hg]
    constructor
    · rintro (z | z)
      · exact .inl z
      · exact .inr z.symm
    · rintro (z | z)
      · exact .inl z
      · exact .inr z.symm
  · unfold togCost
    rw [overG_more _ _ _ _ hn, List.map_append, List.sum_append]
    simp [hgr]
    omega
theorem costOf_small {p : Plan} (wf : WF p) {l : List Nat} (hl : ∀ x ∈ l, x < p.jobs.length) : Vatsld.costOf p l ≤ 1000 * l.length + 3000 := by
  unfold Vatsld.costOf
  rw [foldl_sum, foldl_sum, Nat.zero_add, Nat.zero_add]
  have h1 : (l.map fun i => (jobAt p i).cost).sum ≤ 1000 * l.length := by
    induction l with
    | nil => simp
    | cons x r ih =>
      have := wf.jcost _ (job_mem (hl x List.mem_cons_self))
      have := ih fun y hy => hl y (List.mem_cons_of_mem _ hy)
      simp only [List.map_cons, List.sum_cons, List.length_cons]
      omega
  have key : ∀ (gs : List Group) (k : Nat) (c : Nat → Bool), (∀ g ∈ gs, g.setup ≤ 1000) → overG gs k c ≤ 1000 * gs.length := by
    intro gs
    induction gs with
    | nil => intro k c _; unfold overG; simp
    | cons x r ih =>
      intro k c h
      rw [overG_cons]
      have := ih (k + 1) c fun g hg => h g (List.mem_cons_of_mem _ hg)
      have := h x List.mem_cons_self
      simp only [List.length_cons]
      split <;> omega
  have h2 := key p.groups 0 (fun k => l.any fun i => (jobAt p i).group == some k) wf.gset
  have h3 := wf.ng
  have h4 : (((p.groups.zipIdx.filter fun g => l.any fun i => (jobAt p i).group == some g.2).map fun g => g.1.setup).sum) ≤ 1000 * p.groups.length := h2
  omega

/-! ### ways, choices: put together from the front -/
theorem ways_back (m : Nat) : ∀ n, Vatsld.waysFor m (n + 1) = (Vatsld.waysFor m n).flatMap fun w => (List.range m).map fun a => w ++ [a]
  | 0 => by
    show (List.range m).flatMap (fun a => ([[]] : List (List Nat)).map fun l => a :: l) = ([[]] : List (List Nat)).flatMap fun w => (List.range m).map fun a => w ++ [a]
    simp [List.flatMap_cons, List.flatMap_nil]
    induction List.range m with
    | nil => rfl
    | cons x r ih => simp [ih]
  | n + 1 => by
    have ih := ways_back m n
    have e1 : Vatsld.waysFor m (n + 1 + 1) = (List.range m).flatMap fun a => (Vatsld.waysFor m (n + 1)).map fun l => a :: l := rfl
    have e2 : Vatsld.waysFor m (n + 1) = (List.range m).flatMap fun a => (Vatsld.waysFor m n).map fun l => a :: l := rfl
    have e3 : (Vatsld.waysFor m (n + 1)).flatMap (fun w => (List.range m).map fun a => w ++ [a]) = (List.range m).flatMap fun a => ((Vatsld.waysFor m n).map fun l => a :: l).flatMap fun w => (List.range m).map fun a => w ++ [a] := by
      rw [e2, List.flatMap_assoc]
    rw [e3, e1, ih]
    refine congrArg (fun f => List.flatMap f (List.range m)) (funext fun a => ?_)
    rw [List.map_flatMap, List.flatMap_map]
    refine congrArg (fun f => List.flatMap f _) (funext fun w => ?_)
    rw [List.map_map]
    rfl
theorem ways_ok {m : Nat} : ∀ {n : Nat} {w : List Nat}, w ∈ Vatsld.waysFor m n → w.length = n ∧ ∀ a ∈ w, a < m
  | 0, w, h => by
    have : w = [] := by simpa [Vatsld.waysFor] using h
    subst this
    exact ⟨rfl, fun a ha => by cases ha⟩
  | n + 1, w, h => by
    have h : w ∈ (List.range m).flatMap fun a => (Vatsld.waysFor m n).map fun l => a :: l := h
    obtain ⟨a, ha, hw⟩ := List.mem_flatMap.mp h
    obtain ⟨l, hl, rfl⟩ := List.mem_map.mp hw
    obtain ⟨h1, h2⟩ := ways_ok hl
    refine ⟨by rw [List.length_cons, h1], fun b hb => ?_⟩
    rcases List.mem_cons.mp hb with z | z
    · rw [z]
      exact List.mem_range.mp ha
    · exact h2 b z
theorem ways_len (m : Nat) : ∀ n, (Vatsld.waysFor m n).length = m ^ n
  | 0 => rfl
  | n + 1 => by
    rw [ways_back, List.length_flatMap]
    have : ((Vatsld.waysFor m n).map fun w => ((List.range m).map fun a => w ++ [a]).length) = List.replicate (Vatsld.waysFor m n).length m := by
      rw [List.eq_replicate_iff]
      refine ⟨List.length_map _, fun x hx => ?_⟩
      obtain ⟨w, _, rfl⟩ := List.mem_map.mp hx
      rw [List.length_map, List.length_range]
    rw [this, List.sum_replicate_nat, ways_len m n, Nat.pow_succ]
theorem ways_some {m : Nat} (hm : 1 ≤ m) (n : Nat) : 0 < (Vatsld.waysFor m n).length := by
  rw [ways_len]
  exact Nat.pow_pos hm
theorem subs_back (k : Nat) : ∀ l : List Nat, Vatsld.subsets (l ++ [k]) = (Vatsld.subsets l).flatMap fun p => [p ++ [k], p]
  | [] => rfl
  | a :: l => by
    have e1 : Vatsld.subsets (a :: l ++ [k]) = (Vatsld.subsets (l ++ [k])).map (fun q => a :: q) ++ Vatsld.subsets (l ++ [k]) := rfl
    have e2 : Vatsld.subsets (a :: l) = (Vatsld.subsets l).map (fun q => a :: q) ++ Vatsld.subsets l := rfl
    rw [e1, e2, subs_back k l, List.flatMap_append, List.map_flatMap, List.flatMap_map]
    rfl
theorem subs_sub : ∀ {l s : List Nat}, s ∈ Vatsld.subsets l → s.Sublist l
  | [], s, h => by
    have : s = [] := by simpa [Vatsld.subsets] using h
    rw [this]
    exact List.Sublist.refl _
  | a :: l, s, h => by
    have h : s ∈ (Vatsld.subsets l).map (fun q => a :: q) ++ Vatsld.subsets l := h
    rcases List.mem_append.mp h with z | z
    · obtain ⟨q, hq, rfl⟩ := List.mem_map.mp z
      exact (subs_sub hq).cons₂ a
    · exact (subs_sub z).cons a
theorem subs_len : ∀ l : List Nat, (Vatsld.subsets l).length = 2 ^ l.length
  | [] => rfl
  | a :: l => by
    have e : Vatsld.subsets (a :: l) = (Vatsld.subsets l).map (fun q => a :: q) ++ Vatsld.subsets l := rfl
    rw [e, List.length_append, List.length_map, subs_len l, List.length_cons, Nat.pow_succ]
    omega
theorem subs_nil : ∀ l : List Nat, [] ∈ Vatsld.subsets l
  | [] => List.mem_singleton.mpr rfl
  | a :: l => List.mem_append.mpr (.inr (subs_nil l))
theorem subs_ok {n : Nat} {s : List Nat} (h : s ∈ Vatsld.subsets (List.range n)) : (∀ x ∈ s, x < n) ∧ s.length ≤ n := by
  have hs := subs_sub h
  refine ⟨fun x hx => List.mem_range.mp (hs.subset hx), ?_⟩
  have := hs.length_le
  rwa [List.length_range] at this

/-! ### the first of the best -/
/-- the first item with the least key -/
def firstMin (key : List Nat → List Int) : List (List Nat) → List Nat
  | [] => []
  | x :: xs => xs.foldl (fun a y => if HT.lexLt (key y) (key a) then y else a) x
theorem firstMin_at (key : List Nat → List Int) (ws : List (List Nat)) (h : 0 < ws.length) :
    argBest (fun a b => HT.lexLt (key (ws.getD a [])) (key (ws.getD b []))) (ws.length - 1) < ws.length ∧ ws.getD (argBest (fun a b => HT.lexLt (key (ws.getD a [])) (key (ws.getD b []))) (ws.length - 1)) [] = firstMin key ws := by
  cases ws with
  | nil => cases h
  | cons x xs =>
    have e := PySem.W.argBest_fold (fun a b => HT.lexLt (key a) (key b)) [] x xs xs.length (Nat.le_refl _)
    rw [List.take_length] at e
    have hl : (x :: xs).length - 1 = xs.length := rfl
    rw [hl]
    exact ⟨Nat.lt_succ_of_le e.1, e.2⟩
theorem firstMin_mem (key : List Nat → List Int) {ws : List (List Nat)} (h : 0 < ws.length) : firstMin key ws ∈ ws := by
  obtain ⟨h1, h2⟩ := firstMin_at key ws h
  rw [← h2]
  rw [List.getD_eq_getElem?_getD, List.getElem?_eq_getElem h1]
  exact List.getElem_mem h1
theorem pick_fold {β : Type} (mk : List Nat → β) (bt : β → β → Bool) (key : List Nat → List Int) (hk : ∀ a b, bt (mk a) (mk b) = HT.lexLt (key a) (key b)) :
    ∀ (xs : List (List Nat)) (x : List Nat), (xs.map mk).foldl (fun z y => match z with | none => some y | some w => if bt y w then some y else some w) (some (mk x)) = some (mk (xs.foldl (fun a y => if HT.lexLt (key y) (key a) then y else a) x))
  | [], x => rfl
  | y :: xs, x => by
    rw [List.map_cons, List.foldl_cons, List.foldl_cons, ← pick_fold mk bt key hk xs]
    congr 1
    show (if bt (mk y) (mk x) = true then some (mk y) else some (mk x)) = some (mk (if HT.lexLt (key y) (key x) = true then y else x))
    rw [hk]
    split <;> rfl
theorem pick_all {β : Type} (mk : List Nat → β) (bt : β → β → Bool) (key : List Nat → List Int) (hk : ∀ a b, bt (mk a) (mk b) = HT.lexLt (key a) (key b)) {ws : List (List Nat)} (h : 0 < ws.length) :
    (ws.map mk).foldl (fun z y => match z with | none => some y | some w => if bt y w then some y else some w) none = some (mk (firstMin key ws)) := by
  cases ws with
  | nil => cases h
  | cons x xs =>
    rw [List.map_cons, List.foldl_cons]
    exact pick_fold mk bt key hk xs x
theorem lex1 (a b : Int) : HT.lexLt [a] [b] = decide (a < b) := by
  rw [HT.lexLt_cons, HT.lexLt_nil_nil]
  by_cases hab : a = b
  · subst hab
    simp
  · rw [if_neg hab]
theorem lex2 (a b c d : Nat) : HT.lexLt [(a : Int), (b : Int)] [(c : Int), (d : Int)] = (decide (a < c) || (a == c && decide (b < d))) := by
  rw [HT.lexLt_cons, lex1, Bool.eq_iff_iff]
  by_cases h : (a : Int) = (c : Int)
  · rw [if_pos h]
    have h2 : a = c := by omega
    subst h2
    simp
  · rw [if_neg h]
    have h2 : a ≠ c := by omega
    simp [h2]
abbrev wayKey (p : Plan) (m : Nat) (w : List Nat) : List Int := [((Vatsld.timeOf p m w : Nat) : Int)]
theorem machines_is (p : Plan) {m : Nat} (hm : 1 ≤ m) : Vatsld.machinesFor p m = some { cost := Vatsld.timeOf p m (firstMin (wayKey p m) (Vatsld.waysFor m p.jobs.length)), order := firstMin (wayKey p m) (Vatsld.waysFor m p.jobs.length) } := by
  have h := pick_all (fun w => ({ cost := Vatsld.timeOf p m w, order := w } : Vatsld.Found)) (fun x y => decide (x.cost < y.cost)) (wayKey p m) (fun a b => by
    show decide (Vatsld.timeOf p m a < Vatsld.timeOf p m b) = _
    rw [lex1, Bool.eq_iff_iff, decide_eq_true_iff, decide_eq_true_iff]
    omega) (ways_some hm p.jobs.length)
  unfold Vatsld.machinesFor Vatsld.least
  rw [← h]
  congr 1
  funext z y
  cases z with
  | none => rfl
  | some w =>
    show (if y.cost < w.cost then some y else some w) = if decide (y.cost < w.cost) = true then some y else some w
    by_cases hc : y.cost < w.cost
    · rw [if_pos hc, if_pos (decide_eq_true hc)]
    · rw [if_neg hc, if_neg (by rw [decide_eq_false hc]; exact Bool.false_ne_true)]
abbrev choKey (p : Plan) (l : List Nat) : List Int := [((Vatsld.missOf p l : Nat) : Int), ((Vatsld.costOf p l : Nat) : Int)]
/-- the choices, within a budget -/
def choices (p : Plan) : List (List Nat) := (Vatsld.subsets (List.range p.jobs.length)).filter (Vatsld.isClosed p)
def within (p : Plan) (b : Nat) : List (List Nat) := (choices p).filter fun l => decide (Vatsld.costOf p l ≤ b)
theorem within_some (p : Plan) (b : Nat) : 0 < (within p b).length := by
  have : [] ∈ within p b := by
    unfold within choices
    rw [List.mem_filter, List.mem_filter]
    refine ⟨⟨subs_nil _, rfl⟩, decide_eq_true ?_⟩
    have h := tog_cost (tog_nil p)
    rw [tog_nil_cost] at h
    omega
  exact List.length_pos_of_mem this
theorem budget_is (p : Plan) (b : Nat) : Vatsld.budgetFor p b = some { miss := Vatsld.missOf p (firstMin (choKey p) (within p b)), cost := Vatsld.costOf p (firstMin (choKey p) (within p b)), jobs := firstMin (choKey p) (within p b) } := by
  have h := pick_all (fun l => ({ miss := Vatsld.missOf p l, cost := Vatsld.costOf p l, jobs := l } : Vatsld.Choice)) Vatsld.better (choKey p) (fun a c => by rw [lex2]; rfl) (within_some p b)
  unfold Vatsld.budgetFor
  rw [← h]
  have e : (Vatsld.subsets (List.range p.jobs.length)).filterMap (fun l => if Vatsld.isClosed p l && decide (Vatsld.costOf p l ≤ b) then some ({ miss := Vatsld.missOf p l, cost := Vatsld.costOf p l, jobs := l } : Vatsld.Choice) else none) = (within p b).map fun l => { miss := Vatsld.missOf p l, cost := Vatsld.costOf p l, jobs := l } := by
    unfold within choices
    rw [List.filter_filter]
    induction Vatsld.subsets (List.range p.jobs.length) with
    | nil => rfl
    | cons x r ih =>
      rw [List.filterMap_cons, List.filter_cons, ih, Bool.and_comm]
      cases hc : (decide (Vatsld.costOf p x ≤ b) && Vatsld.isClosed p x) with
      | true => rfl
      | false => rfl
  rw [e]
  congr 1
  funext z y
  cases z <;> rfl
theorem within_ok {p : Plan} {b : Nat} {l : List Nat} (h : l ∈ within p b) : (∀ x ∈ l, x < p.jobs.length) ∧ l.length ≤ p.jobs.length := by
  unfold within choices at h
  exact subs_ok (List.mem_filter.mp (List.mem_filter.mp h).1).1
theorem choices_ok {p : Plan} {l : List Nat} (h : l ∈ choices p) : (∀ x ∈ l, x < p.jobs.length) ∧ l.length ≤ p.jobs.length := by
  unfold choices at h
  exact subs_ok (List.mem_filter.mp h).1
/-! ### misses -/
def missUpto (p : Plan) (l : List Nat) (i : Nat) : Nat := ((List.range i).map fun i => if l.contains i then 100 - (jobAt p i).chance else 100).foldl (fun a b => a * b) 1
theorem miss_all (p : Plan) (l : List Nat) : missUpto p l p.jobs.length = Vatsld.missOf p l := rfl
theorem miss_more (p : Plan) (l : List Nat) (i : Nat) : missUpto p l (i + 1) = missUpto p l i * (if l.contains i then 100 - (jobAt p i).chance else 100) := by
  unfold missUpto
  rw [List.range_succ, List.map_append, List.foldl_append]
  rfl
/-! ### times -/
theorem busy_is (p : Plan) (way : List Nat) (k : Nat) : Vatsld.busy p way k = Vatsld.costOf p ((List.range p.jobs.length).filter fun i => way.getD i 0 == k) := rfl
theorem max_is (l : List Nat) (m : Nat) (hm : m ∈ l) (hle : ∀ y ∈ l, y ≤ m) : l.foldl Nat.max 0 = m := by
  have key : ∀ (l : List Nat) (a : Nat), a ≤ l.foldl Nat.max a ∧ (∀ y ∈ l, y ≤ l.foldl Nat.max a) ∧ (l.foldl Nat.max a = a ∨ l.foldl Nat.max a ∈ l) := by
    intro l
    induction l with
    | nil => intro a; exact ⟨Nat.le_refl _, (fun y hy => by cases hy), .inl rfl⟩
    | cons x r ih =>
      intro a
      obtain ⟨h1, h2, h3⟩ := ih (Nat.max a x)
      rw [List.foldl_cons]
      have ha : a ≤ Nat.max a x := Nat.le_max_left a x
      have hx : x ≤ Nat.max a x := Nat.le_max_right a x
      refine ⟨Nat.le_trans ha h1, fun y hy => ?_, ?_⟩
      · rcases List.mem_cons.mp hy with z | z
        · rw [z]
          exact Nat.le_trans hx h1
        · exact h2 y z
      · rcases h3 with z | z
        · rw [z]
          rcases Nat.le_total a x with w | w
          · have e : Nat.max a x = x := Nat.max_eq_right w
            rw [e]
            exact .inr List.mem_cons_self
          · have e : Nat.max a x = a := Nat.max_eq_left w
            rw [e]
            exact .inl rfl
        · exact .inr (List.mem_cons_of_mem _ z)
  obtain ⟨_, h2, h3⟩ := key l 0
  refine Nat.le_antisymm ?_ (h2 m hm)
  rcases h3 with z | z
  · rw [z]
    exact Nat.zero_le _
  · exact hle _ z
end Tp
/-! len(set(xs)) of a list of ints, however long, whose different ones are few. -/
namespace Tp
open PySem PySem.Spec PyProof.Rows L2

/-- what of ns is met first, up to i -/
def metIn (ns : List Int) (i : Nat) : List Int := firstMet (fun j => ns.getD j 0) i
theorem metIn_zero (ns : List Int) : metIn ns 0 = [] := rfl
theorem metIn_succ (ns : List Int) (i : Nat) : metIn ns (i + 1) = step_dedup (metIn ns i) (ns.getD i 0) := firstMet_succ _ _
theorem metIn_mem {ns : List Int} {i : Nat} (hi : i ≤ ns.length) (k : Int) : k ∈ metIn ns i ↔ k ∈ ns.take i := by
  induction i with
  | zero => simp [metIn_zero]
  | succ i ih =>
    rw [metIn_succ]
    have ih := ih (by omega)
    have hg : ns.getD i 0 = ns[i] := by simp [List.getD_eq_getElem?_getD, List.getElem?_eq_getElem (show i < ns.length by omega)]
    have ht : ns.take (i + 1) = ns.take i ++ [ns[i]] := by rw [List.take_succ_eq_append_getElem]
    rw [ht, List.mem_append, hg, ← ih]
    unfold step_dedup
    split
    · rename_i h
      constructor
      · exact .inl
      · rintro (z | z)
        · exact z
        · rw [List.mem_singleton] at z
          subst z
          simpa using h
    · rw [List.mem_append]
theorem metIn_nodup (ns : List Int) (i : Nat) : (metIn ns i).Nodup := by
  induction i with
  | zero => simp [metIn_zero]
  | succ i ih =>
    rw [metIn_succ]
    unfold step_dedup
    split
    · exact ih
    · rename_i h
      rw [List.nodup_append]
      refine ⟨ih, by simp, fun a ha b hb => ?_⟩
      rw [List.mem_singleton] at hb
      subst hb
      rintro rfl
      exact h (by simpa using ha)
theorem few_ints : ∀ {n : Nat} (l : List Int), l.Nodup → (∀ z ∈ l, 0 ≤ z ∧ z < (n : Int)) → l.length ≤ n
  | 0, l, _, h => by
    cases l with
    | nil => exact Nat.le_refl _
    | cons z r =>
      have := h z List.mem_cons_self
      omega
  | n + 1, l, hd, h => by
    have h1 := few_ints (n := n) (l.erase (n : Int)) (hd.erase _) fun z hz => by
      obtain ⟨hne, hz2⟩ := (List.Nodup.mem_erase_iff hd).mp hz
      have := h z hz2
      omega
    have h2 := List.length_erase (a := (n : Int)) (l := l)
    split at h2 <;> omega
/-- few values: few of them met -/
theorem metIn_few {ns : List Int} {n i : Nat} (h : ∀ z ∈ ns, 0 ≤ z ∧ z < (n : Int)) (hi : i ≤ ns.length) : (metIn ns i).length ≤ n := by
  have hd := metIn_nodup ns i
  exact few_ints _ hd fun z hz => h z (List.mem_of_mem_take ((metIn_mem hi z).mp hz))
/-- all different: as many are met as there are -/
theorem metIn_all (ns : List Int) : ∀ i, i ≤ ns.length → (metIn ns i).length = i ∨ (metIn ns i).length < i
  | 0, _ => .inl rfl
  | i + 1, hi => by
    rw [metIn_succ, step_length]
    rcases metIn_all ns i (by omega) with h | h
    · split <;> omega
    · split <;> omega
theorem metIn_len {ns : List Int} : ∀ {i : Nat}, i ≤ ns.length → ((metIn ns i).length = i ↔ (ns.take i).Nodup)
  | 0, _ => by simp [metIn_zero]
  | i + 1, hi => by
    have ih := metIn_len (ns := ns) (i := i) (by omega)
    have hg : ns.getD i 0 = ns[i] := by simp [List.getD_eq_getElem?_getD, List.getElem?_eq_getElem (show i < ns.length by omega)]
    have ht : ns.take (i + 1) = ns.take i ++ [ns[i]] := by rw [List.take_succ_eq_append_getElem]
    have hle := metIn_all ns i (by omega)
    rw [metIn_succ, step_length, ht, List.nodup_append, hg, ← ih]
    have hm := metIn_mem (ns := ns) (i := i) (by omega) ns[i]
    by_cases hin : ns[i] ∈ ns.take i
    · have e : (metIn ns i).any (· == ns[i]) = true := by
        have := hm.mpr hin
        simpa using this
      rw [if_pos e]
      constructor
      · intro z
        omega
      · rintro ⟨_, _, z⟩
        exact absurd rfl (z _ hin _ (by simp))
    · have e : ¬ (metIn ns i).any (· == ns[i]) = true := by
        intro z
        exact hin (hm.mp (by simpa using z))
      rw [if_neg e]
      constructor
      · intro z
        refine ⟨by omega, by simp, fun a ha b hb => ?_⟩
        rw [List.mem_singleton] at hb
        subst hb
        rintro rfl
        exact hin ha
      · rintro ⟨z, _⟩
        omega
theorem metIn_whole {ns : List Int} : (metIn ns ns.length).length = ns.length ↔ ns.Nodup := by
  have := metIn_len (ns := ns) (Nat.le_refl _)
  rwa [List.take_length] at this
/-! ### set(xs) -/
section
variable {prog : Program} {w : World} {A : Around}
abbrev MetAt (prog : Program) (w : World) (h : Heap) (S : Addr) (ns : List Int) (i : Nat) : Prop := h.SetOf (PySem.intKind prog w) S (fun k => (metIn ns i).any (· == k)) (metIn ns i).length
theorem MetAt.at {h h' : Heap} {S : Addr} {ns : List Int} {i : Nat} (x : MetAt prog w h S ns i) (k : ∀ o, h.get? S = some o → h'.get? S = some o) : MetAt prog w h' S ns i :=
  let ⟨o, es, ep, t, ho, r⟩ := x
  ⟨o, es, ep, t, k o ho, r⟩
theorem MetAt.more {h' : Heap} {S : Addr} {ns : List Int} {i : Nat} (x : h'.SetOf (PySem.intKind prog w) S (fun k => (metIn ns i).any (· == k) || decide (k = ns.getD i 0)) (if (metIn ns i).any (· == ns.getD i 0) then (metIn ns i).length else (metIn ns i).length + 1)) : MetAt prog w h' S ns (i + 1) :=
  SetOf_congr x (fun k => by rw [metIn_succ, step_any]) (by rw [metIn_succ, step_length])
/-- the loop of set.update over a list -/
theorem update_turns {R : Result → Shared → Prop} {S I l : Addr} {items : Array Value} {ns : List Int} (hh : A.in1.handled = none) (hlen : items.size = ns.length) (hval : ∀ (i : Nat) (v : Value), items[i]? = some v → ∃ t, v = .int (ns.getD i 0) t)
    (hroom : ∀ i, i ≤ ns.length → (metIn ns i).length + 1 < scanBound) (SI : S ≠ I) (Sl : S ≠ l) (lI : l ≠ I) :
    ∀ (r i : Nat) (s : Shared), ns.length - i = r → i ≤ ns.length → s.heap.IsListIter I l i → s.heap.IsList l items → MetAt prog w s.heap S ns i →
      (∀ h' tk, MetAt prog w h' S ns ns.length → (∀ b o, b ≠ S → b ≠ I → s.heap.get? b = some o → h'.get? b = some o) → R (.ok (.ret .none)) { s with heap := h', toks := tk }) →
      codeAny (model prog w) A (.builtin "set.update.loop" ⟨[.ref S, .ref I], []⟩) R s := by
  intro r
  induction r with
  | zero =>
    intro i s hr hi hit hl hS hR
    obtain rfl : i = ns.length := by omega
    apply codeAny_builtin PyProof.Rows.F.entry_set_update_loop
    rw [Around.under_plainId PyProof.Rows.F.plain_set_update_loop]
    show wpAny _ A.in1 (pyNext (.ref I) >>= _) _ _ s
    apply wpAny_bind
    refine wpAny_pyNext_list_end hh hit hl (by simp [← hlen]) fun h' hx => ?_
    show wpAny _ A.in1 (ret Value.none) _ _ _
    apply wpAny_pure
    exact hR h' s.toks (hS.at fun o e => hx S o SI e) fun b o h1 h2 e => hx b o h2 e
  | succ r ih =>
    intro i s hr hi hit hl hS hR
    have hlt : i < ns.length := by omega
    obtain ⟨v, hv⟩ : ∃ v, items[i]? = some v := ⟨_, Array.getElem?_eq_getElem (by omega)⟩
    obtain ⟨t, rfl⟩ := hval i v hv
    apply codeAny_builtin PyProof.Rows.F.entry_set_update_loop
    rw [Around.under_plainId PyProof.Rows.F.plain_set_update_loop]
    show wpAny _ A.in1 (pyNext (.ref I) >>= _) _ _ s
    apply wpAny_bind
    refine wpAny_pyNext_list_item hit hl hv fun h1 hit1 hsb => ?_
    have k1 : ∀ b o, b ≠ I → s.heap.get? b = some o → h1.get? b = some o := fun b o hb e => (hsb.2 b hb).trans e
    have hS1 : MetAt prog w h1 S ns i := hS.at fun o e => k1 S o SI e
    obtain ⟨ol, hol, rl⟩ := id hl
    show wpAny _ A.in1 (holding [Value.int (ns.getD i 0) t] (setAdd S (.int (ns.getD i 0) t)) >>= _) _ _ _
    apply wpAny_bind
    apply wpAny_holding
    unfold setAdd
    apply wpAny_holding
    apply wpAny_bind
    apply (PySem.intKind prog w).pyHash (k := ns.getD i 0) (intKind_is _ _ _ _)
    refine wpAny_setAddHashed_of (knd := PySem.intKind prog w) (s := { s with heap := h1, toks := s.toks + 1 }) (intKind_is _ _ _ _) rfl hS1 (hroom i hi) fun h2 hsb2 hS2 => ?_
    have k2 : ∀ b o, b ≠ S → h1.get? b = some o → h2.get? b = some o := fun b o hb e => (hsb2.2 b hb).trans e
    obtain ⟨oI, hoI, rI⟩ := id hit1
    refine wpAny_pure ⟨plainId_quiet PyProof.Rows.F.plain_set_update_loop _, ih (i + 1) _ (by omega) hlt ⟨oI, k2 _ _ (Ne.symm SI) hoI, rI⟩ ⟨ol, k2 _ _ (Ne.symm Sl) (k1 _ _ lI hol), rl⟩ (MetAt.more hS2) fun h' tk a b => ?_⟩
    exact hR h' tk a fun q o n1 n2 e => b q o n1 n2 (k2 _ _ n1 (k1 _ _ n2 e))
abbrev setObj0 (led : Bool) : Obj := { cls := .type "set", dict := none, data := .set #[] 0 (.fresh 0 0 led) }
/-- set(l) -/
theorem call_setI {E : Value → Shared → Prop} {s : Shared} {l : Addr} {items : Array Value} {ns : List Int} {Q : Value → Shared → Prop} (hh : A.handled = none) (hl : s.heap.IsList l items) (hi : IntsAre items.toList ns) (hroom : ∀ i, i ≤ ns.length → (metIn ns i).length + 1 < scanBound)
    (h : ∀ (h' : Heap) (tk : Nat), MetAt prog w h' s.heap.objs.size ns ns.length → (∀ b o, b < s.heap.objs.size → s.heap.get? b = some o → h'.get? b = some o) → Q (.ref s.heap.objs.size) { s with heap := h', toks := tk }) :
    wpAny (model prog w) A (call (.type "set") [.ref l]) Q E s := by
  have hlen : items.size = ns.length := by
    have q := IntsAre.length hi
    rwa [Array.length_toList] at q
  obtain ⟨c, tl, hm⟩ := PySem.F.called_set.mro
  have cs1 := PySem.F.called_set.made
  have cs2 := PySem.F.called_set.sub
  apply wpAny_call
  apply codeAny_of_tree
  show wpAny _ _ (callAny (.type "set") _) _ _ _
  apply wpAny_pure
  refine ⟨Code.quiet_builtin _ (by decide +kernel), ?_⟩
  apply codeAny_builtin PySem.F.entry_type_call
  rw [Around.under_plain (weight_type_call_type "set" [.ref l] []) rfl]
  have cs3 := PySem.F.called_set.notType
  have cs4 := PySem.F.called_set.canCreate
  have cs5 := PySem.F.typeCall_set_1 (.ref l)
  repeat any_goals (first | assumption | wp_step)
  refine codeAny_mono (code_set_new_1 (.ref l) (E := E) (Q₁ := fun ob s1 => ∃ led : Bool, ob = .ref s.heap.objs.size ∧ s1 = { s with heap := s.heap.push (setObj0 led) }) fun led => ⟨led, rfl, rfl⟩) fun r s1 hr => ?_
  cases r with
  | error e => exact hr
  | ok fl =>
    cases fl with
    | next => exact hr.elim
    | brk => exact hr.elim
    | cont => exact hr.elim
    | ret ob =>
      obtain ⟨led, rfl, rfl⟩ := hr
      have hS : (s.heap.push (setObj0 led)).get? s.heap.objs.size = some (setObj0 led) := Heap.get?_push_size _ rfl
      have hT : Shared.TypeIs { s with heap := s.heap.push (setObj0 led) } (.ref s.heap.objs.size) "set" := ⟨_, hS, rfl⟩
      have ci1 := PySem.F.called_set.init.lookup
      have ci2 := PySem.F.called_set.init.bind (.ref s.heap.objs.size)
      repeat any_goals (first | assumption | wp_step)
      refine codeAny_mono (codeAny_call_builtin (R := wants (fun r s2 => r = .none ∧ ∃ h' tk, s2 = { s with heap := h', toks := tk } ∧ MetAt prog w h' s.heap.objs.size ns ns.length ∧ (∀ b o, b < s.heap.objs.size → s.heap.get? b = some o → h'.get? b = some o)) E) PySem.F.called_set.init.plain PySem.F.entry_set_init (check_set_init_1 hT ?_)) fun r2 s2 hr2 => ?_
      · obtain ⟨ol, hol, hcl, nl, hdl⟩ := hl
        obtain ⟨ocls, odict, odata, oslots⟩ := ol
        simp only at hcl hdl
        subst hcl
        subst hdl
        have hol' : (s.heap.push (setObj0 led)).get? l = some { cls := .type "list", dict := odict, data := .seq items nl, slots := oslots } := Heap.get?_push_of_some _ hol
        have ss1 := PySem.F.sub_list_set
        have ss2 := PySem.F.sub_list_frozenset
        have ss3 : (Value.type "list" == Value.type "dict") = false := by decide
        have hl1 : (s.heap.push (setObj0 led)).IsList l items := ⟨_, hol', rfl, nl, rfl⟩
        unfold Builtin.«set.__init__» noKeywords Builtin.Frozenset.updateFrom
        generalize hPI : pyIter = PI
        wp_walk
        subst hPI
        apply wpAny_pyIter_list hl1
        apply wpAny_bind
        apply wpAny_runValue
        have hlS : l < s.heap.objs.size := Heap.lt_size hol
        have szI : (s.heap.push (setObj0 led)).objs.size = s.heap.objs.size + 1 := Heap.size_push ..
        have hS2 : ((s.heap.push (setObj0 led)).push { cls := .type "list_iterator", data := .fields #[.ref l, .int 0 0] }).get? s.heap.objs.size = some (setObj0 led) := Heap.get?_push_of_some _ hS
        refine update_turns (by simp [hh]) hlen (fun i v hv => IntsAre.int_at hi i v (by rw [Array.getElem?_toList]; exact hv)) hroom (by rw [szI]; exact Nat.ne_of_lt (Nat.lt_succ_self _)) (Nat.ne_of_gt hlS) (by rw [szI]; exact Nat.ne_of_lt (Nat.lt_succ_of_lt hlS)) _ 0 _ rfl (Nat.zero_le _)
          ⟨_, Heap.get?_push_size _ rfl, rfl, rfl⟩ (hl1.push _) (SetOf_congr ((setObjOf_fresh (knd := PySem.intKind prog w) led).setOf hS2 (by unfold scanBound; omega)) (fun _ => rfl) rfl) fun h' tk a b => ?_
        show wpAny _ _ _ _ _ _
        apply wpAny_pure
        show wpAny _ _ (ret Value.none) _ _ _
        apply wpAny_pure
        refine ⟨rfl, h', tk, rfl, a, fun q o hq e => b q o (Nat.ne_of_lt hq) (by rw [szI]; exact Nat.ne_of_lt (Nat.lt_succ_of_lt hq)) (Heap.get?_push_of_some _ (Heap.get?_push_of_some _ e))⟩
      · cases r2 with
        | error e => exact hr2
        | ok fl2 =>
          cases fl2 with
          | next => exact hr2.elim
          | brk => exact hr2.elim
          | cont => exact hr2.elim
          | ret r =>
            obtain ⟨rfl, h', tk, rfl, a, b⟩ := hr2
            repeat any_goals (first | assumption | wp_step)
            exact h _ _ a b
end
/-- len(set(e)), e a list of ints with few different ones -/
def tLenSetI (K : PySem.W.Frag) (ta : TE) : TE := fun σ H Q => ta σ H fun x H1 => ∃ (l : Addr) (ns : List Int), x = .ref l ∧ SqL K H1 l (ns.map V.int) ∧ (∀ i, i ≤ ns.length → (metIn ns i).length + 1 < scanBound) ∧ Q (.int (metIn ns ns.length).length) H1
theorem pe_lenSetI {X : Cx} {e : Expr} {ta : TE} {p p2 q pos : Pos} (hc : X.calm = true) (hg : Gl X "len") (hm : X.mg "len" = none) (hg2 : Gl X "set") (hm2 : X.mg "set" = none) (ha : PE X e ta) (na : starEach [e] X.env = (false, eval e X.env) :: starEach [] X.env := by rfl) :
    PE X (.Call (.Name "len" p) [.Call (.Name "set" p2) [e] [] q] [] pos) (tLenSetI X.K ta) := by
  refine ⟨fun pins s σ H Q I h => ?_⟩
  refine Call_ (ld_blt (x := "len") I hg hm boot_len ?_)
  refine PyProof.Rows.callWith_builtin1 (PyProof.Rows.args_cons ?_ rfl) rfl rfl
  refine Call_ (ld_blt (x := "set") I hg2 hm2 boot_set ?_)
  refine PyProof.Rows.callWith_type1 (PyProof.Rows.args_cons (thn (ha.run pins s σ H _ I h) fun v s1 ⟨x, H1, I1, r1, q1⟩ => PyProof.Rows.args_nil ?_) na) na rfl
  obtain ⟨l, ns, rfl, hq, hroom, q1⟩ := q1
  cases r1
  obtain ⟨its, r, pl, hz⟩ := I1.list hq
  refine call_setI (I1.ok.hd hc) pl.isList (by simpa using r.ints) hroom fun h' tk hS hk => ?_
  apply PyProof.Rows.args_nil
  obtain ⟨o, es, ep, t, ho, hex, hd, _, _, _, hf, hn⟩ := hS
  have I2 : Inv X pins σ H1 { s1 with heap := h', toks := tk } := I1.kept fun b o e => hk b o (Heap.lt_size e) e
  have hsmall := hroom ns.length (Nat.le_refl _)
  exact call_len_set ho hex hd hf (by rw [hn]; unfold scanBound at hsmall; omega) ⟨.int (metIn ns ns.length).length, H1, I2.tok _, ⟨_, by rw [hn]⟩, q1⟩
end Tp
/-! A lambda of one parameter, run; min(xs, key=lambda ..). -/
namespace Tp
open PySem PySem.Spec PyProof.Rows L2 LamX

/-- names of a lambda: one parameter a, captured ones, globals -/
structure LamP (sc scope : Scope) (a : Str) : Prop where
  kind : scope.kind = .function
  co : scope.isCoroutine = false
  gen : scope.isGenerator = false
  par : scope.names.lookup a = some .local
  loc : ∀ y ∈ scope.names, y.2 = .local → y.1 = a
  noc : ∀ y ∈ scope.names, y.2 ≠ .cell
  free : ∀ y ∈ scope.names, y.2 = .free → sc.names.lookup y.1 = some .cell ∨ sc.names.lookup y.1 = some .free
def lamPB (sc scope : Scope) (a : Str) : Bool :=
  decide (scope.kind = .function) && !scope.isCoroutine && !scope.isGenerator && decide (scope.names.lookup a = some .local) && scope.names.all fun y => (!decide (y.2 = .local) || decide (y.1 = a)) && !decide (y.2 = .cell) && (!decide (y.2 = .free) || decide (sc.names.lookup y.1 = some .cell) || decide (sc.names.lookup y.1 = some .free))
theorem lamP_by {sc scope : Scope} {a : Str} (h : lamPB sc scope a = true) : LamP sc scope a := by
  unfold lamPB at h
  simp only [Bool.and_eq_true, Bool.or_eq_true, Bool.not_eq_true', decide_eq_true_eq, decide_eq_false_iff_not, List.all_eq_true] at h
  obtain ⟨⟨⟨⟨h1, h2⟩, h3⟩, h5⟩, h4⟩ := h
  refine ⟨h1, h2, h3, h5, fun y hy e => ?_, fun y hy => (h4 y hy).1.2, fun y hy e => ?_⟩
  · exact (h4 y hy).1.1.resolve_left fun z => z e
  · rcases (h4 y hy).2 with (z | z) | z
    · exact absurd e z
    · exact .inl z
    · exact .inr z
theorem LamP.has {X : Cx} {scope : Scope} {a : Str} (L : LamP X.env.scope scope a) (ok : X.Ok) : ∀ y ∈ scope.names, y.2 = .free → ∃ c, X.env.cells.lookup y.1 = some c := fun y hy e => by
  rcases L.free y hy e with k | k
  · exact ok.has _ (.inl k)
  · exact ok.has _ (.inr k)
/-- the lambda's body, its frame laid at s -/
def lamC (X : Cx) (A : Around) (s : Shared) (H : Hp) (scope : Scope) (f c' : Addr) : Cx where
  prog := X.prog
  w := X.w
  K := X.K
  mg := X.mg
  base := X.base
  A := A.deeper (lamEnv X scope s.heap.objs.size f c')
  N := X.N
  s_0 := s
  H_0 := H
  env := lamEnv X scope s.heap.objs.size f c'
  outer := X.stack
  stack := lamEnv X scope s.heap.objs.size f c' :: X.stack
  ex := []
  fn := fun _ => false
  calm := true
  pn := []
  xe := fun _ _ => False
section
variable {X : Cx} {pins : List (Addr × Obj)} {σ : L2.St} {H : Hp} {s : Shared} {scope : Scope} {a : Str} {j : Nat} {x : V} {v : Value} {f c' : Addr} {A : Around}
theorem lamC_start {h₁ : Heap} {tk : Nat} (I : Inv X pins σ H s) (L : LamP X.env.scope scope a) (e0 : Env0 X.prog X.w X.K X.mg X.base A X.stack s H) (hd : A.handled = none) (nd : X.N.Nodup) (hNa : X.N[j]? = some a) (rx : RelV x v)
    (hns : h₁.Ns s.heap.objs.size fun y => ([(a, v)] : List (Str × Value)).reverse.lookup y) (kp : ∀ b o, s.heap.get? b = some o → h₁.get? b = some o) :
    Inv (lamC X A s H scope f c') [] (σ.set j (some x)) H { s with heap := h₁, toks := tk } := by
  have hfree := L.has I.ok
  have cm : ∀ {y c}, (cloFrom X.env.cells scope.names []).lookup y = some c → X.env.cells.lookup y = some c := fun {y c} e => by
    rcases cloFrom_mem (PySem.mem_of_lookup e) with hm | ⟨h1, h2⟩
    · cases hm
    · obtain ⟨c1, hc⟩ := hfree _ h1 rfl
      have hc : X.env.cells.lookup y = some c1 := hc
      rw [hc]
      have : c = (X.env.cells.lookup y).getD 0 := h2
      rw [hc] at this
      rw [this] <;> rfl
  have look : ∀ {y}, scope.names.lookup y = some .free → ∃ c, (cloFrom X.env.cells scope.names []).lookup y = some c := fun {y} hl =>
    mem_lookup (cloFrom_has (cells := X.env.cells) (acc := []) (PySem.mem_of_lookup hl))
  have cellK : ∀ {c : Addr} {u : Option Value}, s.heap.IsCell c u → h₁.IsCell c u := fun {c u} ⟨o, ho, hd⟩ => ⟨o, kp _ _ ho, hd⟩
  have noA : ∀ b : Addr, b ∉ (lamC X A s H scope f c').ex := fun b z => absurd (show b ∈ ([] : List Addr) from z) (by simp)
  have nocell : ∀ {y}, scope.names.lookup y ≠ some .cell := fun {y} k => L.noc _ (PySem.mem_of_lookup k) rfl
  refine ⟨⟨e0.mod, L.kind, rfl, rfl, Nat.le_refl _, fun y z c e1 e2 => I.ok.inj y z c (cm e1) (cm e2), fun y hy => ?_, fun y c z _ => ?_, fun _ => hd, Around.frames_deeper e0.frames, .inr ⟨rfl, rfl⟩, fun b z => absurd z (noA b), e0.bs, e0.bsz, fun b _ _ => noA b,
      fun b z => absurd z (noA b), e0.funs, e0.frf⟩,
    rfl, e0.bare, Un.kept kp, ⟨_, hns, fun i y u e1 e2 e3 => ?_⟩, fun y c e => ?_, e0.hok.fresh (Nat.le_refl _), fun y c e => I.freeC y c (cm e), fun q hq => absurd (show q ∈ ([] : List (Addr × Obj)) ++ [] from hq) (by simp), e0.hok.kept kp, by rw [List.length_set]; exact I.len⟩
  · have hy : scope.names.lookup y = some .cell ∨ scope.names.lookup y = some .free := hy
    rcases hy with hy | hy
    · exact absurd hy nocell
    · exact look hy
  · have z : false = true := z
    cases z
  · have e3 : Vis scope y := e3
    have e1 : X.N[i]? = some y := e1
    rcases e3 with k | k | k
    · have hya : y = a := L.loc _ (PySem.mem_of_lookup k) rfl
      subst hya
      have hij : i = j := nodup_ix nd e1 hNa
      subst hij
      have hlt : i < σ.length := by rw [I.len]; exact (List.getElem?_eq_some_iff.mp e1).1
      rw [List.getElem?_set_self hlt] at e2
      cases e2
      refine ⟨v, rx, .inl ⟨k, ?_⟩⟩
      show List.lookup y [(y, v)] = some v
      simp [List.lookup]
    · exact absurd k nocell
    · have hij : j ≠ i := fun z => by
        subst z
        rw [hNa] at e1
        cases e1
        rw [L.par] at k
        cases k
      rw [List.getElem?_set_ne hij] at e2
      obtain ⟨m, hn, hl⟩ := I.loc
      have hsc := L.free _ (PySem.mem_of_lookup k) rfl
      have hvis : Vis X.env.scope y := hsc.elim (fun k => .inr (.inl k)) (fun k => .inr (.inr k))
      obtain ⟨w', r, q⟩ := hl i y u e1 e2 hvis
      obtain ⟨c2, h2⟩ := look k
      refine ⟨w', r, .inr ⟨.inr k, c2, h2, ?_⟩⟩
      have c1 := cm h2
      rcases q with ⟨k', _⟩ | ⟨_, c3, e', z⟩
      · have k' : X.env.scope.names.lookup y = some .local := k'
        rcases hsc with k2 | k2 <;> rw [show X.env.scope.names.lookup y = _ from k2] at k' <;> cases k'
      · rw [c1] at e'
        cases e'
        exact cellK z
  · obtain ⟨w', z⟩ := I.cell y c (cm e)
    exact ⟨w', cellK z⟩
/-- the lambda called -/
theorem lam_run {params : Arguments} {body : Expr} {pm ctv : Value} {k : Nat} {tb : TE} {Q : VK} (I : Inv X pins σ H s) (L : LamP X.env.scope scope a) (nd : X.N.Nodup) (hNa : X.N[j]? = some a) (rx : RelV x v)
    (hf : s.heap.get? f = some (PySem.W.kla_obj "<lambda>" (X.env.qual ++ "<lambda>") params body scope (cloFrom X.env.cells scope.names []) pm c' ctv)) (hc : H c' = some (CodeO c' (X.env.qual ++ "<lambda>")))
    (hbind : bindArgs (PySem.W.kla_fn "<lambda>" (X.env.qual ++ "<lambda>") params body scope (cloFrom X.env.cells scope.names []) pm (.ref c') ctv) ⟨[v], []⟩ = pure [(a, v)])
    (hr : Room (k + 1) X.A.in1) (hbody : ∀ (A : Around) (s : Shared) (H : Hp), Room k (A.deeper (lamEnv X scope s.heap.objs.size f c')) → PE (lamC X A s H scope f c') body tb) (h : tb (σ.set j (some x)) H Q) :
    wpAny (model X.prog X.w) X.A.in1 (call (.ref f) [v]) (CE X.stack X.prog X.w H s Q) (fun _ _ => False) s := by
  obtain ⟨⟨oc, vs, t, hoc, hdc, hvc⟩, _, _⟩ := I.hok c' _ hc
  have e0 := I.env0.in1
  have rc : codeAny (model X.prog X.w) X.A.in1 (.call (.ref f) ⟨[v], []⟩) (fun r s' => match r with | .ok (.ret u) => CE X.stack X.prog X.w H s Q u s' | _ => False) s := by
    refine PySem.W.kla_callFunE hr.depth hf rfl L.co L.gen rfl ⟨c', oc, vs, t, rfl, hoc, hdc, hvc⟩ ?_
    rw [hbind]
    refine wpAny_pure (wpAny_newFunctionEnv (fun y hy => L.noc y hy) (fun y hy => ?_) (fun h₁ hns hsb => ⟨I.nolimit.fresh _ hsb, ?_⟩) L.kind)
    · rw [List.mem_singleton] at hy
      rw [hy]
      exact L.par
    · show codeAny _ _ (.expr body (lamEnv X scope s.heap.objs.size f c')) _ _
      have kp : ∀ b o, s.heap.get? b = some o → h₁.get? b = some o := fun b o e => hsb.extBut b o (Nat.ne_of_lt (Heap.lt_size e)) (Heap.get?_push_of_some _ e)
      have J : Inv (lamC X X.A.in1 s H scope f c') [] (σ.set j (some x)) H { s with heap := h₁, toks := s.toks + ([(a, v)] : List (Str × Value)).length } := lamC_start I L e0 hr.hd nd hNa rx hns kp
      refine PySem.W.kla_codeExpr (wpAny_mono ((hbody _ s H (hr.deeper _)).run [] _ _ H Q J h) (fun u s' hq => ?_) fun e s' hq => ?_)
      · obtain ⟨w', H', J', rv, q⟩ := hq
        exact ⟨w', H', J'.os, J'.bare, J'.base, J'.hok, rv, q⟩
      · exact (show False from hq).elim
  refine wpAny_call (codeAny_mono rc fun r s' hq => ?_)
  cases r with
  | error e => exact (show False from hq).elim
  | ok fl =>
    cases fl with
    | ret u => exact hq
    | next => exact False.elim hq
    | brk => exact False.elim hq
    | cont => exact False.elim hq
end

/-! ### min by a key -/
/-- a key: an int, or a tuple of ints -/
def KeyV (tu : Bool) (γ : Hp) (k : V) (ns : List Int) : Prop := match tu with
  | false => ∃ z, ns = [z] ∧ k = .int z
  | true => ∃ p, k = .ref p ∧ γ p = some (.tup (ns.map V.int))
theorem KeyV.mono {tu : Bool} {γ γ' : Hp} {k : V} {ns : List Int} (h : KeyV tu γ k ns) (m : ∀ p ys, γ p = some (.tup ys) → γ' p = some (.tup ys)) : KeyV tu γ' k ns := by
  cases tu with
  | false => exact h
  | true => exact let ⟨p, e, q⟩ := h; ⟨p, e, m _ _ q⟩
/-- an object of our own, untracked -/
structure Own (X : Cx) (pins : List (Addr × Obj)) (b : Addr) : Prop where
  l : b ≠ X.env.locals
  z : X.s_0.heap.objs.size ≤ b
  c : ∀ x c, X.env.cells.lookup x = some c → c ≠ b
  p : ∀ q ∈ X.pn ++ pins, q.1 ≠ b
  r : b ∉ frs X.stack
section
variable {X : Cx} {pins : List (Addr × Obj)} {σ : L2.St} {H2 γ : Hp} {s : Shared} {f I S l b : Addr} {fo : Obj} {xs : List V} {kk : Nat → List Int} {tb : TE} {j : Nat} {Q : VK}
theorem Own.of (J : Inv X pins σ γ s) (h : s.heap.objs.size ≤ b) : Own X pins b := by
  have gt : ∀ {q : Addr}, q < s.heap.objs.size → q ≠ b := fun e z => absurd (Nat.lt_of_lt_of_le (z ▸ e) h) (Nat.lt_irrefl _)
  refine ⟨Ne.symm (gt J.lt), Nat.le_trans J.sz h, fun x c e => ?_, fun q hq => gt (Heap.lt_size (J.pin q hq).1), fun z => ?_⟩
  · obtain ⟨v, o, ho, _⟩ := J.cell x c e
    exact gt (Heap.lt_size ho)
  · rcases List.mem_cons.mp (J.stkSub _ z) with e | e
    · exact gt J.lt e.symm
    · exact J.nofs h e
theorem Own.turn {t' : Nat} {h' : Heap} (O : Own X pins b) (J : Inv X pins σ γ s) (n : γ b = none) (k : ∀ q o, q ≠ b → s.heap.get? q = some o → h'.get? q = some o) : Inv X pins σ γ { s with heap := h', toks := t' } :=
  J.turned k n O.l (.inr O.z) O.c O.p
theorem Own.kept {s' : Shared} {γ' : Hp} {o : Obj} (O : Own X pins b) (u : Un (frs X.stack) [] γ γ' s.heap s'.heap) (n : γ b = none) (e : s.heap.get? b = some o) : s'.heap.get? b = some o ∧ γ' b = none :=
  ⟨u.keep b o e n O.r (by simp), u.free b o e n (by simp)⟩
/-- two keys compared -/
theorem key_lt {tu : Bool} {A : Around} {E : Value → Shared → Prop} {R : Value → Shared → Prop} {u v : Value} {x y : V} {ns ms : List Int} {P : Program} {w : World} (hok : HOk P w γ s.heap) (rx : RelV x u) (ry : RelV y v) (hx : KeyV tu γ x ns) (hy : KeyV tu γ y ms) (hu : A.units < cLine)
    (h : R (.bool (HT.lexLt ns ms)) s) : wpAny (model P w) A (richCompare .Lt u v) R E s := by
  have tupAt : ∀ {p : Addr} {ks : List Int}, γ p = some (.tup (ks.map V.int)) → ∃ its : Array Value, IsTup s.heap p its ∧ IntsAre its.toList ks := fun {p ks} e => by
    obtain ⟨_, its, r, t⟩ := hok p _ e
    exact ⟨its.toArray, t, by simpa using r.ints⟩
  cases tu with
  | false =>
    obtain ⟨a, rfl, rfl⟩ := hx
    obtain ⟨b, rfl, rfl⟩ := hy
    obtain ⟨t, rfl⟩ := rx
    obtain ⟨t', rfl⟩ := ry
    refine HT.rcLt_int A s a t b t' P w E R ?_
    have : HT.lexLt [a] [b] = decide (a < b) := by
      rw [HT.lexLt_cons, HT.lexLt_nil_nil]
      by_cases hab : a = b
      · subst hab
        simp
      · rw [if_neg hab]
    rw [← this]
    exact h
  | true =>
    obtain ⟨p, rfl, ep⟩ := hx
    obtain ⟨q, rfl, eq⟩ := hy
    cases rx
    cases ry
    obtain ⟨i1, t1, r1⟩ := tupAt ep
    obtain ⟨i2, t2, r2⟩ := tupAt eq
    exact HT.lt_tupInts t1 t2 r1 r2 hu h
/-- what stands while min walks: the ghost heap γ, the key f, the iterator I over l, min's own list at S -/
structure MinS (X : Cx) (pins : List (Addr × Obj)) (σ : L2.St) (H2 γ : Hp) (s : Shared) (f I S : Addr) (fo : Obj) : Prop where
  inv : Inv X pins σ γ s
  same : Same H2 γ
  fo : s.heap.get? f = some fo
  nf : γ f = none
  nI : γ I = none
  nS : γ S = none
/-- how the key answers -/
def Keys (X : Cx) (pins : List (Addr × Obj)) (σ : L2.St) (H2 : Hp) (f : Addr) (fo : Obj) (xs : List V) (tu : Bool) (kk : Nat → List Int) : Prop :=
  ∀ (i : Nat) (x : V) (v : Value) (γ : Hp) (s : Shared), xs[i]? = some x → RelV x v → Inv X pins σ γ s → Same H2 γ → s.heap.get? f = some fo →
    wpAny (model X.prog X.w) X.A.in1 (call (.ref f) [v]) (CE X.stack X.prog X.w γ s fun k γ' => Same γ γ' ∧ KeyV tu γ' k (kk i)) (fun _ _ => False) s
/-- min's wish at its end -/
def minR (X : Cx) (pins : List (Addr × Obj)) (σ : L2.St) (Q : VK) : Result → Shared → Prop := fun r s' => match r with
  | .ok (.ret v) => EP X pins σ Q v s'
  | _ => False
abbrev sObj (vs : Array Value) (n : Nat) : Obj := { cls := .type "list", dict := none, data := .seq vs n, slots := #[] }
theorem CE.back {u : Value} {s' : Shared} {R : VK} (J : Inv X pins σ γ s) (h : CE X.stack X.prog X.w γ s R u s') : ∃ k γ', Inv X pins σ γ' s' ∧ Un (frs X.stack) [] γ γ' s.heap s'.heap ∧ RelV k u ∧ R k γ' := by
  obtain ⟨k, γ', os, bare, un, hok, rk, q⟩ := h
  exact ⟨k, γ', J.call' (ch := []) os un hok bare fun b z => absurd z (by simp), un, rk, q⟩
section
variable {tu : Bool}
abbrev btOf (kk : Nat → List Int) : Nat → Nat → Bool := fun a b => HT.lexLt (kk a) (kk b)
theorem min_turns (hh : X.A.in1.handled = none) (hu : X.A.in1.units < cLine) (hSq : SqL X.K H2 l xs) (KF : Keys X pins σ H2 f fo xs tu kk) (OI : Own X pins I) (OS : Own X pins S) (Of : f ∉ frs X.stack) (IS : I ≠ S) (If : f ≠ I) (Sf : f ≠ S) (kw : List (Str × Value))
    (hQ : ∀ x γ, xs[argBest (btOf kk) (xs.length - 1)]? = some x → Same H2 γ → Q x γ) :
    ∀ (r d : Nat) (γ : Hp) (s : Shared) (vb kb : Value) (xb kx : V) (c : Nat), xs.length - (d + 1) = r → d + 1 ≤ xs.length → MinS X pins σ H2 γ s f I S fo → s.heap.IsListIter I l (d + 1) → s.heap.get? S = some (sObj #[vb, kb] c) →
      xs[argBest (btOf kk) d]? = some xb → RelV xb vb → RelV kx kb → KeyV tu γ kx (kk (argBest (btOf kk) d)) → codeAny (model X.prog X.w) X.A (.builtin "min.loop" ⟨[.ref I, .ref f, .ref S], kw⟩) (minR X pins σ Q) s := by
  have nm : (toString "min" ++ toString ".loop" : String) = "min.loop" := by decide
  intro r
  induction r with
  | zero =>
    intro d γ s vb kb xb kx c hr hd M hit hS hxb rb rk hk
    have hend : d + 1 = xs.length := by omega
    obtain ⟨its, rv, hl, _⟩ := M.inv.list (M.same.seq hSq)
    apply codeAny_builtin PySem.F.entry_min_loop
    rw [Around.under_plainId PySem.F.plain_min_loop]
    show wpAny _ X.A.in1 (seqItems? (.ref S) >>= _) _ _ s
    apply wpAny_bind
    apply wpAny_seqItems hS rfl
    show wpAny _ X.A.in1 (tryCatch (pyNext (.ref I)) _ >>= _) _ _ s
    apply wpAny_bind
    apply wpAny_tryCatch
    refine wpAny_pyNext_list_end hh hit hl.isList (by rw [hend]; simpa using rv.none_of (List.getElem?_eq_none (Nat.le_refl _))) fun h' hx => ?_
    have J1 : Inv X pins σ γ { s with heap := h', toks := s.toks } := OI.turn M.inv M.nI fun q o hq e => hx q o hq e
    have hS' := hx S _ (Ne.symm IS) hS
    show wpAny _ X.A.in1 (updateSeq S (fun _ => #[]) >>= _) _ _ _
    apply wpAny_bind
    refine wpAny_updateSeq hS' rfl (wpAny_bind (wpAny_letGo (wpAny_pure ?_)))
    have J2 := OS.turn (t' := s.toks) (h' := h'.update S (Obj.mapSeq fun _ => #[])) J1 M.nS fun q o hq e => (Heap.get?_update_other _ _ (Ne.symm hq)).trans e
    have hd0 : xs.length - 1 = d := by omega
    exact ⟨xb, γ, J2, rb, hQ xb γ (by rw [hd0]; exact hxb) M.same⟩
  | succ r ih =>
    intro d γ s vb kb xb kx c hr hd M hit hS hxb rb rk hk
    have hlt : d + 1 < xs.length := by omega
    obtain ⟨its, rv, hl, _⟩ := M.inv.list (M.same.seq hSq)
    obtain ⟨x, hx⟩ : ∃ x, xs[d + 1]? = some x := ⟨_, List.getElem?_eq_getElem hlt⟩
    obtain ⟨v, hv, rx⟩ := rv.get hx
    apply codeAny_builtin PySem.F.entry_min_loop
    rw [Around.under_plainId PySem.F.plain_min_loop]
    show wpAny _ X.A.in1 (seqItems? (.ref S) >>= _) _ _ s
    apply wpAny_bind
    apply wpAny_seqItems hS rfl
    show wpAny _ X.A.in1 (tryCatch (pyNext (.ref I)) _ >>= _) _ _ s
    apply wpAny_bind
    apply wpAny_tryCatch
    refine wpAny_pyNext_list_item hit hl.isList (x := v) (by simpa using hv) fun h' hit' hsb => ?_
    have hx1 : ∀ q o, q ≠ I → s.heap.get? q = some o → h'.get? q = some o := fun q o hq e => (hsb.2 q hq).trans e
    have J1 : Inv X pins σ γ { s with heap := h', toks := s.toks } := OI.turn M.inv M.nI hx1
    have hS1 := hx1 S _ (Ne.symm IS) hS
    have hf1 := hx1 f _ If M.fo
    obtain ⟨oI, hoI, hcI, hdI⟩ := id hit'
    show wpAny _ X.A.in1 (tryCatch (holding [v] (call (.ref f) [v])) _ >>= _) _ _ _
    apply wpAny_bind
    apply wpAny_tryCatch
    apply wpAny_holding
    refine wpAny_mono (KF (d + 1) x v γ _ hx rx J1 M.same hf1) (fun k1 s2 hce => ?_) fun _ _ z => z.elim
    obtain ⟨ky, γ2, J2, un, ry, sm, hky⟩ := CE.back J1 hce
    obtain ⟨hS2, nS2⟩ := OS.kept un M.nS hS1
    obtain ⟨hI2, nI2⟩ := OI.kept un M.nI hoI
    have hf2 : s2.heap.get? f = some fo := un.keep f fo hf1 M.nf Of (by simp)
    have nf2 : γ2 f = none := un.free f fo hf1 M.nf (by simp)
    have M2 : MinS X pins σ H2 γ2 s2 f I S fo := ⟨J2, M.same.trans sm, hf2, nf2, nI2, nS2⟩
    have hit2 : s2.heap.IsListIter I l (d + 1 + 1) := ⟨oI, hI2, hcI, hdI⟩
    have hk2 := hk.mono (γ' := γ2) fun p ys e => un.tups p ys e
    show wpAny _ X.A.in1 (tryCatch (holding [v, k1] (richCompare .Lt k1 kb >>= _)) _ >>= _) _ _ _
    apply wpAny_bind
    apply wpAny_tryCatch
    apply wpAny_holding
    apply wpAny_bind
    refine key_lt J2.hok ry rk hky hk2 hu ?_
    apply wpAny_bind
    apply wpAny_holding
    apply wpAny_truthy_bool
    apply wpAny_bind
    apply wpAny_letGo
    apply wpAny_pure
    cases hb : HT.lexLt (kk (d + 1)) (kk (argBest (btOf kk) d)) with
    | true =>
      have hab : argBest (btOf kk) (d + 1) = d + 1 := if_pos hb
      simp only [if_true]
      apply wpAny_bind
      refine wpAny_updateSeq hS2 rfl (wpAny_bind (wpAny_letGo ?_))
      rw [nm]
      have J3 : Inv X pins σ γ2 { s2 with heap := s2.heap.update S (Obj.mapSeq fun _ => #[v, k1]), toks := s2.toks } := OS.turn J2 nS2 fun q o hq e => (Heap.get?_update_other _ _ (Ne.symm hq)).trans e
      refine wpAny_pure ⟨plainId_quiet PySem.F.plain_min_loop _, ih (d + 1) γ2 _ v k1 x ky _ (by omega) hlt ⟨J3, M2.same, (Heap.get?_update_other _ _ (Ne.symm Sf)).trans hf2, nf2, nI2, nS2⟩ ⟨oI, (Heap.get?_update_other _ _ (Ne.symm IS)).trans hI2, hcI, hdI⟩ (Heap.get?_update_self _ hS2 rfl) (by rw [hab]; exact hx) rx ry (by rw [hab]; exact hky)⟩
    | false =>
      have hab : argBest (btOf kk) (d + 1) = argBest (btOf kk) d := if_neg (by rw [show btOf kk (d + 1) (argBest (btOf kk) d) = false from hb]; exact Bool.false_ne_true)
      simp only [Bool.false_eq_true, if_false]
      apply wpAny_bind
      apply wpAny_letGo
      rw [nm]
      exact wpAny_pure ⟨plainId_quiet PySem.F.plain_min_loop _, ih (d + 1) γ2 s2 vb kb xb kx c (by omega) hlt M2 hit2 hS2 (by rw [hab]; exact hxb) rb rk (by rw [hab]; exact hk2)⟩
/-- the first item -/
theorem min_first (hh : X.A.in1.handled = none) (hu : X.A.in1.units < cLine) (hSq : SqL X.K H2 l xs) (hn : 0 < xs.length) (KF : Keys X pins σ H2 f fo xs tu kk) (OI : Own X pins I) (OS : Own X pins S) (Of : f ∉ frs X.stack) (IS : I ≠ S) (If : f ≠ I) (Sf : f ≠ S) (kw : List (Str × Value))
    (hQ : ∀ x γ, xs[argBest (btOf kk) (xs.length - 1)]? = some x → Same H2 γ → Q x γ) {c : Nat} (M : MinS X pins σ H2 γ s f I S fo) (hit : s.heap.IsListIter I l 0) (hS : s.heap.get? S = some (sObj #[] c)) :
    codeAny (model X.prog X.w) X.A (.builtin "min.loop" ⟨[.ref I, .ref f, .ref S], kw⟩) (minR X pins σ Q) s := by
  have nm : (toString "min" ++ toString ".loop" : String) = "min.loop" := by decide
  obtain ⟨its, rv, hl, _⟩ := M.inv.list (M.same.seq hSq)
  obtain ⟨x, hx⟩ : ∃ x, xs[0]? = some x := ⟨_, List.getElem?_eq_getElem hn⟩
  obtain ⟨v, hv, rx⟩ := rv.get hx
  apply codeAny_builtin PySem.F.entry_min_loop
  rw [Around.under_plainId PySem.F.plain_min_loop]
  show wpAny _ X.A.in1 (seqItems? (.ref S) >>= _) _ _ s
  apply wpAny_bind
  apply wpAny_seqItems hS rfl
  show wpAny _ X.A.in1 (tryCatch (pyNext (.ref I)) _ >>= _) _ _ s
  apply wpAny_bind
  apply wpAny_tryCatch
  refine wpAny_pyNext_list_item hit hl.isList (x := v) (by simpa using hv) fun h' hit' hsb => ?_
  have hx1 : ∀ q o, q ≠ I → s.heap.get? q = some o → h'.get? q = some o := fun q o hq e => (hsb.2 q hq).trans e
  have J1 : Inv X pins σ γ { s with heap := h', toks := s.toks } := OI.turn M.inv M.nI hx1
  have hS1 := hx1 S _ (Ne.symm IS) hS
  have hf1 := hx1 f _ If M.fo
  obtain ⟨oI, hoI, hcI, hdI⟩ := id hit'
  show wpAny _ X.A.in1 (tryCatch (holding [v] (call (.ref f) [v])) _ >>= _) _ _ _
  apply wpAny_bind
  apply wpAny_tryCatch
  apply wpAny_holding
  refine wpAny_mono (KF 0 x v γ _ hx rx J1 M.same hf1) (fun k1 s2 hce => ?_) fun _ _ z => z.elim
  obtain ⟨ky, γ2, J2, un, ry, sm, hky⟩ := CE.back J1 hce
  obtain ⟨hS2, nS2⟩ := OS.kept un M.nS hS1
  obtain ⟨hI2, nI2⟩ := OI.kept un M.nI hoI
  have hf2 : s2.heap.get? f = some fo := un.keep f fo hf1 M.nf Of (by simp)
  have nf2 : γ2 f = none := un.free f fo hf1 M.nf (by simp)
  show wpAny _ X.A.in1 (updateSeq S (fun _ => #[v, k1]) >>= _) _ _ _
  apply wpAny_bind
  refine wpAny_updateSeq hS2 rfl ?_
  rw [nm]
  have J3 : Inv X pins σ γ2 { s2 with heap := s2.heap.update S (Obj.mapSeq fun _ => #[v, k1]), toks := s2.toks } := OS.turn J2 nS2 fun q o hq e => (Heap.get?_update_other _ _ (Ne.symm hq)).trans e
  refine wpAny_pure ⟨plainId_quiet PySem.F.plain_min_loop _, min_turns hh hu hSq KF OI OS Of IS If Sf kw hQ _ 0 γ2 _ v k1 x ky _ rfl hn ⟨J3, M.same.trans sm, (Heap.get?_update_other _ _ (Ne.symm Sf)).trans hf2, nf2, nI2, nS2⟩ ⟨oI, (Heap.get?_update_other _ _ (Ne.symm IS)).trans hI2, hcI, hdI⟩ (Heap.get?_update_self _ hS2 rfl) hx rx ry hky⟩
/-- min(l, key=f) -/
theorem min_call (hr : Room 1 X.A.in1) (hSq : SqL X.K H2 l xs) (hn : 0 < xs.length) (KF : Keys X pins σ H2 f fo xs tu kk) (J : Inv X pins σ H2 s) (hf : s.heap.get? f = some fo) (nf : H2 f = none) (Of : f ∉ frs X.stack)
    (hQ : ∀ x γ, xs[argBest (btOf kk) (xs.length - 1)]? = some x → Same H2 γ → Q x γ) :
    wpAny (model X.prog X.w) X.A (call (.builtin "min") [.ref l] [(Str.ofString "key", .ref f)]) (EP X pins σ Q) X.xe s := by
  have nm : (toString "min" ++ toString ".loop" : String) = "min.loop" := by decide
  obtain ⟨its, rv, hl, _⟩ := J.list hSq
  apply PyProof.Rows.kmk_tree PySem.F.kind_min PySem.F.plain_min PySem.F.entry_min (PyProof.Rows.kmk_min_key _ _)
  show wpAny _ X.A.in1 (Builtin.Builtins.bindParams "min" ["key", "default"] 0 ⟨[], [(Str.ofString "key", .ref f)]⟩ >>= _) _ _ s
  apply wpAny_bind
  refine wpAny_of_eq (show Builtin.Builtins.bindParams "min" ["key", "default"] 0 ⟨[], [(Str.ofString "key", .ref f)]⟩ = pure [some (.ref f), none] from rfl) ?_
  apply wpAny_bind
  apply wpAny_pure
  apply wpAny_bind
  apply wpAny_pyIter_list hl.isList
  apply wpAny_bind
  refine wpAny_newList ?_ (Nat.zero_le _)
  rw [nm]
  have lf := Heap.lt_size hf
  obtain ⟨h1, hh1⟩ : ∃ h1 : Heap, h1 = s.heap.push { cls := .type "list_iterator", data := .fields #[.ref l, .int 0 0] } := ⟨_, rfl⟩
  obtain ⟨h2, hh2⟩ : ∃ h2 : Heap, h2 = h1.push (sObj #[] 0) := ⟨_, rfl⟩
  have sz1 : h1.objs.size = s.heap.objs.size + 1 := by rw [hh1, Heap.size_push]
  have k2 : ∀ q o, s.heap.get? q = some o → h2.get? q = some o := fun q o e => by
    rw [hh2]
    refine Heap.get?_push_of_some _ ?_
    rw [hh1]
    exact Heap.get?_push_of_some _ e
  have J2 : Inv X pins σ H2 { s with heap := h2, toks := s.toks } := J.kept k2
  have OI : Own X pins s.heap.objs.size := Own.of J (Nat.le_refl _)
  have OS : Own X pins h1.objs.size := Own.of J (by rw [sz1]; exact Nat.le_succ _)
  have M : MinS X pins σ H2 H2 { s with heap := h2, toks := s.toks } f s.heap.objs.size h1.objs.size fo := ⟨J2, Same.refl _, k2 _ _ hf, nf, J.hok.fresh (Nat.le_refl _), J.hok.fresh (by rw [sz1]; exact Nat.le_succ _)⟩
  have hit : h2.IsListIter s.heap.objs.size l 0 := by
    have e1 : h1.get? s.heap.objs.size = some { cls := .type "list_iterator", data := .fields #[.ref l, .int 0 0] } := by
      rw [hh1]
      exact Heap.get?_push_size _ rfl
    rw [hh2]
    exact ⟨_, Heap.get?_push_of_some _ e1, rfl, rfl⟩
  have hSS : h2.get? h1.objs.size = some (sObj #[] 0) := by
    rw [hh2]
    exact Heap.get?_push_size _ rfl
  have run := min_first hr.hd hr.units0 hSq hn KF OI OS Of (by rw [sz1]; exact Nat.ne_of_lt (Nat.lt_succ_self _)) (Nat.ne_of_lt lf) (by rw [sz1]; exact Nat.ne_of_lt (Nat.lt_succ_of_lt lf)) [] hQ M hit hSS
  subst hh2
  subst hh1
  refine wpAny_pure ⟨plainId_quiet PySem.F.plain_min_loop _, codeAny_mono run fun r s' h => ?_⟩
  cases r with
  | error e => exact (show False from h).elim
  | ok fl =>
    cases fl with
    | ret u => exact h
    | next => exact False.elim h
    | brk => exact False.elim h
    | cont => exact False.elim h
/-- what min wants of the value that it walks -/
def minQ (T : List (Addr × Str)) (K : PySem.W.Frag) (tu : Bool) (j : Nat) (tb : TE) (σ : L2.St) (Q : VK) (v : V) (H1 : Hp) : Prop := Tabs T H1 ∧ ∀ H2, ExtN H1 H2 → Tabs T H2 → ∃ (l : Addr) (xs : List V) (kk : Nat → List Int), v = .ref l ∧ SqL K H2 l xs ∧ 0 < xs.length ∧
  (∀ (i : Nat) (x : V) (H' : Hp), xs[i]? = some x → Same H2 H' → ∀ Q' : VK, (∀ k H'', Same H' H'' → KeyV tu H'' k (kk i) → Q' k H'') → tb (σ.set j (some x)) H' Q') ∧
  ∀ x H', xs[argBest (btOf kk) (xs.length - 1)]? = some x → Same H2 H' → Q x H'
/-- e walked by a lambda of one parameter at slot j -/
def tMinLam (T : List (Addr × Str)) (K : PySem.W.Frag) (tu : Bool) (j : Nat) (te tb : TE) : TE := fun σ H Q => te σ H (minQ T K tu j tb σ Q)
end
/-- min(e, key=lambda a: body) -/
theorem pe_minLam {tu : Bool} {T : List (Addr × Str)} {c P : Addr} {k : Nat} {params : Arguments} {body e : Expr} {scope : Scope} {te : TE} {a : Str} {p lpos kpos pos : Pos} (hg : Gl X "min") (hm : X.mg "min" = none) (he : PE X e te)
    (TB : TabB X.base X.mg c P) (hcode : X.env.code = .ref c) (hmT : (P, X.env.qual ++ "<lambda>") ∈ T) (huT : ∀ p ∈ T, p.1 = P → p.2 = X.env.qual ++ "<lambda>") (hr : Room (k + 2) X.A) (L : LamP X.env.scope scope a) (nd : X.N.Nodup) (hNa : X.N[j]? = some a) (hdef : defaultsOf params X.env = ([], []))
    (hbind : ∀ (q : Str) (cl : List (Str × Addr)) (pm cv ctv v : Value), bindArgs (PySem.W.kla_fn "<lambda>" q params body scope cl pm cv ctv) ⟨[v], []⟩ = pure [(a, v)])
    (hbody : ∀ (A : Around) (s : Shared) (H : Hp) (f c' : Addr), Room k (A.deeper (lamEnv X scope s.heap.objs.size f c')) → PE (lamC X A s H scope f c') body tb)
    (hlist : starEach [e] X.env = (false, eval e X.env) :: starEach [] X.env := by rfl)
    (hl2 : backTo pos (starEach [e] X.env) = (false, eval e X.env) :: backTo pos (starEach [] X.env) := by rfl)
    (hpl : (backTo pos (starEach [e] X.env)).any (·.1) = false := by rfl) :
    PE X (.Call (.Name "min" p) [e] [⟨some "key", .Lambda params body scope lpos, kpos⟩] pos) (tMinLam T X.K tu j te tb) := by
  refine ⟨fun pins s σ H Q I h => ?_⟩
  refine wpAny_Call_Name_kw (ld_blt I hg hm (by rfl) ?_ (by decide) (by decide))
  refine PyProof.Rows.callWith_kw (thn ((pa_cons he pa_nil hlist).run pos pins s σ H (fun vs H1 => match vs with | [v] => minQ T X.K tu j tb σ Q v H1 | _ => False) I h) fun us s1 ⟨vs, H1, I1, r1, q1⟩ => ?_) hl2 hpl (by rfl) (by rfl)
  obtain ⟨v, rfl, hT, q2⟩ : ∃ v, vs = [v] ∧ minQ T X.K tu j tb σ Q v H1 := by
    match vs, q1 with
    | [v], q1 => exact ⟨v, rfl, q1⟩
  have hkw : (backToKw pos (keywordEach [⟨some "key", .Lambda params body scope lpos, kpos⟩] X.env)).filterMap (·.1) = [Str.ofString "key"] := rfl
  rw [hkw]
  show wpAny _ _ (evalAll ((do let v ← eval (.Lambda params body scope lpos) X.env; standAt pos; pure v) :: [])) _ _ s1
  refine wpAny_evalAll_cons (wpAny_bind (lam_make2 I1 TB hcode hmT huT hT hdef (L.has I1.ok) fun f c' pm ctv H2 s2 I2 eN T2 hf nf Of hco => wpAny_bind (wpAny_standAt (wpAny_pure ?_))))
  refine wpAny_evalAll_nil ?_
  obtain ⟨l, xs, kk, rfl, hSq, hn, hbod, hQ⟩ := q2 H2 eN T2
  rw [Vals.ref1 r1]
  show wpAny _ _ (call (.builtin "min") [.ref l] [(Str.ofString "key", .ref f)]) _ _ s2
  refine min_call (tu := tu) (kk := kk) (hr.in1.mono (Nat.le_add_left 1 k)) hSq hn (fun i x v γ s3 hx rx I3 sm hf3 => ?_) I2 hf nf Of fun x γ hx sm => hQ x γ hx sm
  exact lam_run I3 L nd hNa rx hf3 (sm _ _ hco) (hbind _ _ _ _ _ _) hr.in1 (fun A s H hr2 => hbody A s H f c' hr2) (hbod i x γ hx sm _ fun k' H'' sm' hk => ⟨sm', hk⟩)
end
end Tp
namespace Tp
open PySem PySem.Spec PyProof.Rows L2
section
variable {P : Program} {w : World} {K : PySem.W.Frag} {mg : Str → Option Value} {base : Heap} {A : Ad}
open Vatsld (jobAt)
/-! ### costs together, misses -/
theorem val_notIn {σ : L2.St} {H : Hp} {ta tb : TE} {p : Addr} {l : List Nat} {i : Nat} (h : SqL K H p (natsV l)) (ha : Val ta σ H (.int (i : Int))) (hb : Val tb σ H (.ref p)) : Val (tOp (rIn K true) ta tb) σ H (.bl (!l.contains i)) := val_in (neg := true) h ha hb
section
variable {σ : L2.St} {H : Hp} {D : Ends} {te : TE} {i : Nat} {a b : Int} {u : TS}
/-- x += e, x *= e, x a local int -/
theorem st_plus (hx : σ[i]? = some (some (.int a))) (h : Evs te σ H (.int b)) (k : ∀ H', Same H H' → D.nx (σ.set i (some (.int (a + b)))) H') : tAug i te (fun x y H Q => ∃ i j, x = .int i ∧ y = .int j ∧ Q (.int (i + j)) H) D σ H := ⟨_, hx, h _ fun H' s => ⟨a, b, rfl, rfl, k H' s⟩⟩
theorem st_seqPlus (hx : σ[i]? = some (some (.int a))) (h : Evs te σ H (.int b)) (k : ∀ H', Same H H' → u D (σ.set i (some (.int (a + b)))) H') : tSeq (tAug i te (fun x y H Q => ∃ i j, x = .int i ∧ y = .int j ∧ Q (.int (i + j)) H)) u D σ H := st_plus (D := { D with nx := u D }) hx h k
theorem st_times (hx : σ[i]? = some (some (.int a))) (h : Evs te σ H (.int b)) (hc : CMul a b) (k : ∀ H', Same H H' → D.nx (σ.set i (some (.int (a * b)))) H') : tAug i te (fun x y H Q => ∃ i j, x = .int i ∧ y = .int j ∧ CMul i j ∧ Q (.int (i * j)) H) D σ H := ⟨_, hx, h _ fun H' s => ⟨a, b, rfl, rfl, hc, k H' s⟩⟩
end
def sp_cost_together (A : Ad) : Sp := fun vs H Q _ => ∃ (a r : Addr) (p : Vatsld.Plan) (l : List Nat), vs = [.ref a, .ref r] ∧ PlanAt A H a p ∧ WF p ∧ H r = some (.lst (natsV l)) ∧ (∀ x ∈ l, x < p.jobs.length) ∧ l.length ≤ 10000 ∧
  ∀ H', Same H H' → Q (.int (Vatsld.costOf p l : Int)) H'
/-! ### cost_together -/
abbrev s_cost_together : Stmt := top 7
theorem sc_cost_together : FnScope ["plan", "numbers", "cost", "ready", "number", "test"] ["plan", "numbers"] (defScope s_cost_together) := ⟨rfl, rfl, rfl, by decide +kernel, rfl, by decide +kernel, by decide +kernel⟩
theorem ok_cost_together {f : Addr} {fd : FuncData} (F : Fun K "cost_together" "cost_together" s_cost_together f fd) (T : Txt K mg A) : FnOk P w K mg base CX0 1 f fd ["plan", "numbers"] (sp_cost_together A) := by
  refine F.ok sc_cost_together (fun vs H Q E h => by revert h; first | (rintro ⟨rfl, _⟩; rfl) | (rintro ⟨_, rfl, _⟩; rfl) | (rintro ⟨_, _, rfl, _⟩; rfl) | (rintro ⟨_, _, _, rfl, _⟩; rfl) | (rintro ⟨_, _, _, _, rfl, _⟩; rfl) | (rintro ⟨_, _, _, _, _, rfl, _⟩; rfl) | (rintro ⟨_, _, _, _, _, _, rfl, _⟩; rfl) | (rintro ⟨_, _, _, _, _, _, _, rfl, _⟩; rfl) | (rintro ⟨_, _, _, _, _, _, _, _, rfl, _⟩; rfl) | (rintro ⟨_, _, _, _, _, _, _, _, _, rfl, _⟩; rfl) | (rintro ⟨_, _, _, _, _, _, _, _, _, _, rfl, _⟩; rfl) | (rintro ⟨_, _, _, _, _, _, _, _, _, _, _, rfl, _⟩; rfl)) (fun cdv Ar outer s H vs Q E hr h => ⟨_, 
  (pss_cons (ps_set (i := 2) sc_cost_together.nd rfl (Or.inl rfl) pe_int)
      (pss_cons (ps_set (i := 3) sc_cost_together.nd rfl (Or.inl rfl) (pe_lst pa_nil))
      (pss_cons (ps_for PassesOwn.never rfl (pi_list (pv 1)) (pg_name (i := 4) sc_cost_together.nd rfl (Or.inl rfl)) (pss_cons (ps_set (i := 5) sc_cost_together.nd rfl (Or.inl rfl) (pe_ix ix_list (pe_fld (pv 0) rfl) (pv 4) (fun _ _ => rfl)))
      (pss_cons (ps_aug (i := 2) sc_cost_together.nd rfl (Or.inl rfl) (pe_fld (pv 5) rfl) ip_add)
      (pss_one (ps_if (PW.pt (pw_and (pt_cmpR op_notN1 (pe_fld (pv 5) rfl) pe_non (nomark _)) (pw_and1 (pt_cmpR op_notIn_seq (pe_fld (pv 5) rfl) (pv 3) (by rfl))))) (pss_cons (ps_aug (i := 2) sc_cost_together.nd rfl (Or.inl rfl) (pe_fld (pe_ix ix_list (pe_fld (pv 0) rfl) (pe_fld (pv 5) rfl) (fun _ _ => rfl)) rfl) ip_add)
      (pss_one (ps_expr (pe_bm PySem.F.plainAttrs_list PySem.F.slot_list_append PySem.F.type_list_append mt_append (pv 3) (pa_cons (pe_fld (pv 5) rfl) pa_nil))))) pss_nil)))))
      (pss_one (ps_ret (pv 2)))))), ?_⟩)
  obtain ⟨a, r, p, l, rfl, hp, wf, hr', hl, hlen, k⟩ := h
  refine st_seqSet val_c ?_
  refine st_seqSetN (o := .lst []) (evn_lst eva_nil (by decide)) fun q H1 n1 s1 f1 => ?_
  refine st_seqForL (val_var rfl) (SqL.of (s1 _ _ hr')) (fun i σ H' => ∃ (R : List Nat) (v w : Option V), σ = [some (.ref a), some (.ref r), some (.int ((togCost p (l.take i) R : Nat) : Int)), some (.ref q), v, w] ∧ Same H H' ∧ H' q = some (.lst (natsV R)) ∧ Tog p (l.take i) R)
    ⟨[], none, none, by rw [List.take_zero, tog_nil_cost]; rfl, s1, f1, by rw [List.take_zero]; exact tog_nil p⟩ (fun i σ H' _ z => let ⟨_, _, _, _, s, _⟩ := z; SqL.of (s _ _ hr')) ?_ ?_
  · rintro i x σ H' hx ⟨R, v, w, rfl, s2, f2, tg⟩
    obtain ⟨m, hm, rfl⟩ := natsV_mem hx
    have hm2 := hl m (List.mem_of_getElem? hm)
    have hp' := hp.mono s2
    obtain ⟨dx, lg, lt, ts, tq, dq, la, e1, e2, e3, e4, e5⟩ := hp'.test hm2
    have hR : R.length ≤ 10000 := by
      have h1 := tg.len
      have h2 := List.length_take_le i l
      have h3 : (l.take i).length ≤ l.length := by rw [List.length_take]; omega
      omega
    refine st_seqSet (val_ixL (SqL.of e2) e3 (val_tests T (val_var rfl) e1) (val_var rfl)) ?_
    have vg : ∀ {σ : L2.St} {H9 : Hp}, Same H' H9 → σ[5]? = some (some (.ref tq)) → Val (tFld K (tVar 5) "group") σ H9 (optV (jobAt p m).group) := fun s h => val_group T (val_var h) (s _ _ e4)
    refine st_seqPlus rfl (evs_of (val_cost T (val_var rfl) e4)) fun H3 s3 => ?_
    have hi3 : Same H H3 := s2.trans s3
    have e0 : ((togCost p (l.take i) R : Nat) : Int) + ((jobAt p m).cost : Int) = ((togCost p (l.take i) R + (jobAt p m).cost : Nat) : Int) := by omega
    rw [e0]
    have ht := take_one hm
    have vq : ∀ {σ : L2.St} {H9 : Hp}, Same H3 H9 → σ[5]? = some (some (.ref tq)) → Val (tFld K (tVar 5) "group") σ H9 (optV (jobAt p m).group) := fun s h => vg (s3.trans s) h
    cases hg : (jobAt p m).group with
    | none =>
      obtain ⟨t1, t2⟩ := tog_same tg fun g e => by rw [hg] at e; cases e
      refine st_if (b := false) (ans_and0 (ans_notN (x := optV (jobAt p m).group) (vq (Same.refl H3) rfl) (by rw [hg]; rfl))) (fun h => by cases h) fun _ => ?_
      exact st_next ⟨R, some (.int (m : Int)), some (.ref tq), by rw [ht, t2] <;> rfl, hi3, s3 _ _ f2, by rw [ht]; exact t1⟩
    | some g =>
      obtain ⟨gr, hgr⟩ : ∃ gr, p.groups[g]? = some gr := ⟨_, List.getElem?_eq_getElem (wf.jgrp _ (job_mem hm2) g hg)⟩
      obtain ⟨dx', lg', lt', gs, gq, dgq, g1, g2, g3, g4⟩ := (hp.mono hi3).grp hgr
      have hv : optV (jobAt p m).group = .int (g : Int) := by rw [hg]; rfl
      refine st_if (b := true && !R.contains g) (ans_and3 (ans_notN (x := optV (jobAt p m).group) (vq (Same.refl H3) rfl) (by rw [hg]; rfl)) fun _ => val_test (val_notIn (SqL.of (s3 _ _ f2)) (val_eq (vq (Same.refl H3) rfl) hv) (val_var rfl))) (fun hb => ?_) fun hb => ?_
      · have hn : R.contains g = false := not_t hb
        obtain ⟨t1, t2⟩ := tog_new tg hg hn hgr
        refine st_seqPlus rfl (evs_of (val_setup T (val_ixL (SqL.of g2) g3 (val_groups T (val_var rfl) g1) (val_eq (vq (Same.refl H3) rfl) hv)) g4)) fun H4 s4 => ?_
        refine st_append (y := .int (g : Int)) (val_var rfl) (s4 _ _ (s3 _ _ f2)) (evs_of (val_eq (vq s4 rfl) hv)) (by rw [natsV_len]; omega) fun H5 s5 => ?_
        refine ⟨R ++ [g], some (.int (m : Int)), some (.ref tq), ?_, (hi3.trans (s4.trans s5)).mut n1, ?_, by rw [ht]; exact t1⟩
        · rw [ht, t2]
          have e1 : ((togCost p (l.take i) R + (jobAt p m).cost : Nat) : Int) + (gr.setup : Int) = ((togCost p (l.take i) R + (jobAt p m).cost + gr.setup : Nat) : Int) := by omega
          rw [← e1]
          rfl
        · rw [upd_same]
          unfold natsV
          rw [List.map_append]
          rfl
      · have hn : R.contains g = true := by
          cases hc : R.contains g with
          | true => rfl
          | false => rw [hc] at hb; cases hb
        obtain ⟨t1, t2⟩ := tog_same tg fun g' e => by rw [hg] at e; cases e; exact hn
        exact st_next ⟨R, some (.int (m : Int)), some (.ref tq), by rw [ht, t2] <;> rfl, hi3, s3 _ _ f2, by rw [ht]; exact t1⟩
  · rintro σ H' ⟨R, v, w, rfl, s2, f2, tg⟩
    rw [natsV_len, List.take_length] at tg ⊢
    rw [tog_cost tg]
    exact st_ret (val_var rfl) (k H' s2)
end
end Tp
namespace Tp
open PySem PySem.Spec PyProof.Rows L2
section
variable {P : Program} {w : World} {K : PySem.W.Frag} {mg : Str → Option Value} {base : Heap} {A : Ad}
open Vatsld (jobAt)
def sp_miss_of (A : Ad) : Sp := fun vs H Q _ => ∃ (a r : Addr) (p : Vatsld.Plan) (l : List Nat), vs = [.ref a, .ref r] ∧ PlanAt A H a p ∧ WF p ∧ H r = some (.lst (natsV l)) ∧
  ∀ H', Same H H' → Q (.int (Vatsld.missOf p l : Int)) H'
/-! ### miss_of -/
abbrev s_miss_of : Stmt := top 11
theorem sc_miss_of : FnScope ["plan", "chosen", "miss", "number", "test"] ["plan", "chosen"] (defScope s_miss_of) := ⟨rfl, rfl, rfl, by decide +kernel, rfl, by decide +kernel, by decide +kernel⟩
theorem ok_miss_of {f : Addr} {fd : FuncData} (F : Fun K "miss_of" "miss_of" s_miss_of f fd) (T : Txt K mg A) : FnOk P w K mg base CX0 1 f fd ["plan", "chosen"] (sp_miss_of A) := by
  refine F.ok sc_miss_of (fun vs H Q E h => by revert h; first | (rintro ⟨rfl, _⟩; rfl) | (rintro ⟨_, rfl, _⟩; rfl) | (rintro ⟨_, _, rfl, _⟩; rfl) | (rintro ⟨_, _, _, rfl, _⟩; rfl) | (rintro ⟨_, _, _, _, rfl, _⟩; rfl) | (rintro ⟨_, _, _, _, _, rfl, _⟩; rfl) | (rintro ⟨_, _, _, _, _, _, rfl, _⟩; rfl) | (rintro ⟨_, _, _, _, _, _, _, rfl, _⟩; rfl) | (rintro ⟨_, _, _, _, _, _, _, _, rfl, _⟩; rfl) | (rintro ⟨_, _, _, _, _, _, _, _, _, rfl, _⟩; rfl) | (rintro ⟨_, _, _, _, _, _, _, _, _, _, rfl, _⟩; rfl) | (rintro ⟨_, _, _, _, _, _, _, _, _, _, _, rfl, _⟩; rfl)) (fun cdv Ar outer s H vs Q E hr h => ⟨_, 
  (pss_cons (ps_set (i := 2) sc_miss_of.nd rfl (Or.inl rfl) pe_int)
      (pss_cons (ps_for PassesOwn.never rfl (pi_enum (by rfl) T.b_enumerate (pa_cons (pe_fld (pv 0) rfl) pa_nil)) (pg_tup rfl (pgs_cons (pg_name (i := 3) sc_miss_of.nd rfl (Or.inl rfl)) (pgs_cons (pg_name (i := 4) sc_miss_of.nd rfl (Or.inl rfl)) pgs_nil))) (pss_one (ps_if (pt_cmpR op_in_seq (pv 3) (pv 1) (by rfl)) (pss_one (ps_aug (i := 2) sc_miss_of.nd rfl (Or.inl rfl) (pe_op op_sub (pe_num (by rfl) T.k_HUNDRED) (pe_fld (pv 4) rfl)) ip_mul)) (pss_one (ps_aug (i := 2) sc_miss_of.nd rfl (Or.inl rfl) (pe_num (by rfl) T.k_HUNDRED) ip_mul)))))
      (pss_one (ps_ret (pv 2))))), ?_⟩)
  obtain ⟨a, r, p, l, rfl, hp, wf, hr', k⟩ := h
  obtain ⟨dx, lg, lt, gs, ts, e1, e2, e3, e4, e5⟩ := hp.lens
  refine st_seqSet val_c ?_
  refine (?_ : tSeq (tFor (iEnum K _) _ _) _ _ _ _)
  refine (val_tests T (val_var rfl) e1) _ ⟨lt, ts, rfl, SqL.of e4, for_gen (n := ts.length) (fun i σ H' => (∃ v w, σ = [some (.ref a), some (.ref r), some (.int ((missUpto p l i : Nat) : Int)), v, w]) ∧ Same H H') ⟨⟨none, none, rfl⟩, Same.refl _⟩ ?_ ?_ ?_ ?_⟩
  · rintro i σ H' hi ⟨_, s1⟩
    exact ⟨ts, ts[i], SqL.of (s1 _ _ e4), List.getElem?_eq_getElem hi⟩
  · rintro σ H' ⟨_, s1⟩
    exact ⟨ts, SqL.of (s1 _ _ e4), Nat.le_refl _⟩
  · rintro i σ H' x H2 hi ⟨⟨v, w, rfl⟩, s1⟩ ⟨t, y, rfl, ht, rfl, hy⟩
    have hyi := hy ts (SqL.of (s1 _ _ e4))
    have hi2 : i < p.jobs.length := by omega
    obtain ⟨dx2, lg2, lt2, ts2, q, dq, la, f1, f2, f3, f4, f5⟩ := hp.test hi2
    rw [e1] at f1
    cases f1
    rw [e4] at f2
    cases f2
    rw [f3] at hyi
    cases hyi
    have s2 : Same H (upd H' t (.tup [.int (i : Int), .ref q])) := s1.trans (Same.new ht)
    refine g_pair (SqT.of upd_same) ?_
    have hch := wf.jch _ (job_mem hi2)
    refine st_if (val_test (val_in (neg := false) (SqL.of (s2 _ _ hr')) (val_var rfl) (val_var rfl))) (fun hb => ?_) fun hb => ?_
    · have hb' : l.contains i = true := hb
      refine st_times (a := ((missUpto p l i : Nat) : Int)) (b := 100 - ((jobAt p i).chance : Int)) rfl (evs_sub (evs_of val_c) fun H3 s3 => evs_of (val_chance T (val_var rfl) (s3 _ _ (s2 _ _ f4)))) (mul_r (by omega) (by omega)) fun H3 s3 => ⟨⟨some (.int (i : Int)), some (.ref q), ?_⟩, s2.trans s3⟩
      have e0 : ((100 - (jobAt p i).chance : Nat) : Int) = 100 - ((jobAt p i).chance : Int) := by omega
      rw [miss_more, if_pos hb', Int.natCast_mul, e0]
      rfl
    · have hb' : l.contains i = false := hb
      refine st_times (a := ((missUpto p l i : Nat) : Int)) (b := 100) rfl (evs_of val_c) (mul_r (by omega) (by omega)) fun H3 s3 => ⟨⟨some (.int (i : Int)), some (.ref q), ?_⟩, s2.trans s3⟩
      rw [miss_more, if_neg (by rw [hb']; exact Bool.false_ne_true), Int.natCast_mul]
      rfl
  · rintro σ H' ⟨⟨v, w, rfl⟩, s1⟩
    rw [e5, miss_all]
    exact st_ret (val_var rfl) (k H' s1)
def sp_is_choice (A : Ad) : Sp := fun vs H Q _ => ∃ (a r : Addr) (p : Vatsld.Plan) (l : List Nat), vs = [.ref a, .ref r] ∧ PlanAt A H a p ∧ WF p ∧ H r = some (.lst (natsV l)) ∧ (∀ x ∈ l, x < p.jobs.length) ∧ l.length ≤ 10000 ∧
  ∀ H', Same H H' → Q (.bl (Vatsld.isClosed p l)) H'
/-! ### is_choice -/
abbrev s_is_choice : Stmt := top 10
theorem sc_is_choice : FnScope ["plan", "chosen", "number"] ["plan", "chosen"] (defScope s_is_choice) := ⟨rfl, rfl, rfl, by decide +kernel, rfl, by decide +kernel, by decide +kernel⟩
theorem ok_is_choice {f : Addr} {fd : FuncData} (F : Fun K "is_choice" "is_choice" s_is_choice f fd) (T : Txt K mg A)
    (C_may_follow : Cal P w K mg base CX0 1 "may_follow" ["plan", "number", "others"] (sp_may_follow A)) : FnOk P w K mg base CX0 2 f fd ["plan", "chosen"] (sp_is_choice A) := by
  obtain ⟨f_may_follow, fd_may_follow, m_may_follow, kp_may_follow, b_may_follow, G_may_follow⟩ := C_may_follow.ex
  refine F.ok sc_is_choice (fun vs H Q E h => by revert h; first | (rintro ⟨rfl, _⟩; rfl) | (rintro ⟨_, rfl, _⟩; rfl) | (rintro ⟨_, _, rfl, _⟩; rfl) | (rintro ⟨_, _, _, rfl, _⟩; rfl) | (rintro ⟨_, _, _, _, rfl, _⟩; rfl) | (rintro ⟨_, _, _, _, _, rfl, _⟩; rfl) | (rintro ⟨_, _, _, _, _, _, rfl, _⟩; rfl) | (rintro ⟨_, _, _, _, _, _, _, rfl, _⟩; rfl) | (rintro ⟨_, _, _, _, _, _, _, _, rfl, _⟩; rfl) | (rintro ⟨_, _, _, _, _, _, _, _, _, rfl, _⟩; rfl) | (rintro ⟨_, _, _, _, _, _, _, _, _, _, rfl, _⟩; rfl) | (rintro ⟨_, _, _, _, _, _, _, _, _, _, _, rfl, _⟩; rfl)) (fun cdv Ar outer s H vs Q E hr h => ⟨_, 
  (pss_one (ps_ret (pe_callB (cr_all rfl) (by rfl) T.b_all (by decide +kernel) (pa_cons (pe_lc (own := [("number", 2)]) (g := gName 2) (tt := tYes) (by rfl) sc_is_choice.nd (pi_list (pv 1)) (blkOk_by (N := ["plan", "chosen", "number"]) (sc := defScope s_is_choice) (by decide +kernel)) (fun _ _ _ _ _ => pg_name (i := 2) sc_is_choice.nd rfl (Or.inl rfl)) (fun _ _ _ _ _ => pts_nil) (fun _ _ _ _ _ => (pe_call G_may_follow (hr.mono (by decide)) rfl m_may_follow kp_may_follow b_may_follow .nil pass0 (pa_cons (pv 0) (pa_cons (pv 2) (pa_cons (pv 1) pa_nil)))))) pa_nil)))), ?_⟩)
  obtain ⟨a, r, p, l, rfl, hp, wf, hr', hl, hlen, k⟩ := h
  refine st_retS (evs_is (evs_all (bs := l.map fun i => (jobAt p i).after_.all l.contains) (evn_is (lc_listS (qq := fun _ => true) (f := fun x => match x with | .int j => .bl ((jobAt p j.toNat).after_.all l.contains) | _ => .non)
    (evs_of (val_var rfl)) (SqL.of hr') (small_line (by rw [natsV_len]; omega)) (fun _ _ _ _ _ => ans_yes) fun m x H' hx _ s => ?_) ?_)) ?_) k
  · obtain ⟨n, hn, rfl⟩ := natsV_mem hx
    refine evs_call (eva_cons (evs_of (val_var rfl)) fun _ _ => eva_cons (evs_of (val_var rfl)) fun _ _ => eva_cons (evs_of (val_var rfl)) fun _ _ => eva_nil) fun H3 s3 Q z => ?_
    exact ⟨a, r, p, n, l, rfl, hp.mono (s.trans s3), wf, hl n (List.mem_of_getElem? hn), s3 _ _ (s _ _ hr'), z⟩
  · rw [List.filter_eq_self.mpr (by simp)]
    unfold natsV
    rw [List.map_map, List.map_map]
    rfl
  · rw [List.all_map]
    rfl
theorem call_lenK {X : Cx} (hK : X.K = K) : CallR X (.builtin "len") (fun xs H Q => ∃ p ys, xs = [.ref p] ∧ (SqL K H p ys ∨ SqT K H p ys) ∧ Q (.int ys.length) H) := hK ▸ call_len_seq
def sp_are_tests (A : Ad) : Sp := fun vs H Q _ => ∃ (a r : Addr) (p : Vatsld.Plan) (row : List Int), vs = [.ref a, .ref r] ∧ PlanAt A H a p ∧ WF p ∧ H r = some (.lst (row.map V.int)) ∧ row.length ≤ 100000 ∧
  ∀ H', Same H H' → Q (.bl (Vatsld.isRow p.jobs.length row && Vatsld.unlike row)) H'
theorem val_lenSetI {σ : L2.St} {H : Hp} {ta : TE} {p : Addr} {ns : List Int} (ha : Val ta σ H (.ref p)) (h : SqL K H p (ns.map V.int)) (hroom : ∀ i, i ≤ ns.length → (metIn ns i).length + 1 < scanBound) : Val (tLenSetI K ta) σ H (.int (metIn ns ns.length).length) := fun Q z => ha _ ⟨p, ns, rfl, h, hroom, z⟩
theorem val_eqq {σ : L2.St} {H : Hp} {ta tb : TE} {x y : V} (ha : Val ta σ H x) (hb : Val tb σ H y) (hs : scal x y = true) : Val (tOp rEq ta tb) σ H (.bl (decide (x = y))) := val_op ha hb fun Q z => by first | exact ⟨hs, z⟩ | exact ⟨_, _, rfl, rfl, z⟩
theorem unlike_nodup (l : List Int) : Vatsld.unlike l = decide l.Nodup := by
  induction l with
  | nil => rfl
  | cons a r ih =>
    show (!r.contains a && Vatsld.unlike r) = _
    rw [ih, Bool.eq_iff_iff]
    simp [List.nodup_cons]
/-! ### are_tests -/
abbrev s_are_tests : Stmt := top 9
theorem sc_are_tests : FnScope ["plan", "numbers", "number"] ["plan", "numbers"] (defScope s_are_tests) := ⟨rfl, rfl, rfl, by decide +kernel, rfl, by decide +kernel, by decide +kernel⟩
theorem ok_are_tests {f : Addr} {fd : FuncData} (F : Fun K "are_tests" "are_tests" s_are_tests f fd) (T : Txt K mg A) : FnOk P w K mg base CX0 1 f fd ["plan", "numbers"] (sp_are_tests A) := by
  refine F.ok sc_are_tests (fun vs H Q E h => by revert h; first | (rintro ⟨rfl, _⟩; rfl) | (rintro ⟨_, rfl, _⟩; rfl) | (rintro ⟨_, _, rfl, _⟩; rfl) | (rintro ⟨_, _, _, rfl, _⟩; rfl) | (rintro ⟨_, _, _, _, rfl, _⟩; rfl) | (rintro ⟨_, _, _, _, _, rfl, _⟩; rfl) | (rintro ⟨_, _, _, _, _, _, rfl, _⟩; rfl) | (rintro ⟨_, _, _, _, _, _, _, rfl, _⟩; rfl) | (rintro ⟨_, _, _, _, _, _, _, _, rfl, _⟩; rfl) | (rintro ⟨_, _, _, _, _, _, _, _, _, rfl, _⟩; rfl) | (rintro ⟨_, _, _, _, _, _, _, _, _, _, rfl, _⟩; rfl) | (rintro ⟨_, _, _, _, _, _, _, _, _, _, _, rfl, _⟩; rfl)) (fun cdv Ar outer s H vs Q E hr h => ⟨_, 
  (pss_cons (ps_if (pt_not (pt_val (pe_callB (cr_all rfl) (by rfl) T.b_all (by decide +kernel) (pa_cons (pe_lc (own := [("number", 2)]) (g := gName 2) (tt := tYes) (by rfl) sc_are_tests.nd (pi_list (pv 1)) (blkOk_by (N := ["plan", "numbers", "number"]) (sc := defScope s_are_tests) (by decide +kernel)) (fun _ _ _ _ _ => pg_name (i := 2) sc_are_tests.nd rfl (Or.inl rfl)) (fun _ _ _ _ _ => pts_nil) (fun _ _ _ _ _ => (pe_chain op_le op_lt pe_int (pv 2) (pe_callB (call_lenK (K := K) rfl) (by rfl) T.b_len (by decide +kernel) (pa_cons (pe_fldK (K := K) rfl (pv 0) rfl) pa_nil))))) pa_nil)))) (pss_one (ps_ret pe_bl)) pss_nil)
      (pss_one (ps_ret (pe_cmpR op_eq (pe_lenSetI rfl (by rfl) T.b_len (by rfl) T.b_set (pv 1)) (pe_callB call_len_seq (by rfl) T.b_len (by decide +kernel) (pa_cons (pv 1) pa_nil)) (nomark _))))), ?_⟩)
  obtain ⟨a, r, p, row, rfl, hp, wf, hr', hlen, k⟩ := h
  obtain ⟨dx, lg, lt, gs, ts, e1, e2, e3, e4, e5⟩ := hp.lens
  have hnj := wf.nj
  have hrl : (row.map V.int).length = row.length := List.length_map _
  refine st_seqIf (b := !Vatsld.isRow p.jobs.length row) (ans_notS (ans_test (evs_is (evs_all (bs := row.map fun n => decide (0 ≤ n) && decide (n < (p.jobs.length : Int))) (evn_is (lc_listS (qq := fun _ => true) (f := fun x => match x with | .int j => .bl (decide (0 ≤ j) && decide (j < (p.jobs.length : Int))) | _ => .non)
    (evs_of (val_var rfl)) (SqL.of hr') (small_line (by omega)) (fun _ _ _ _ _ => ans_yes) fun m x H' hx _ s => ?_) ?_)) ?_))) (fun hb H' s => ?_) fun hb H' s => ?_
  · obtain ⟨n, rfl⟩ : ∃ n, x = .int n := by
      rw [List.getElem?_map] at hx
      cases hn : row[m]? with
      | none => rw [hn] at hx; cases hx
      | some n => rw [hn] at hx; cases hx; exact ⟨n, rfl⟩
    exact evs_of (val_chain val_c (val_var rfl) (fun Q z => ⟨_, _, rfl, rfl, z⟩) fun _ => ⟨_, val_len (SqL.of (s _ _ e4)) e5 (val_tests T (val_var rfl) (s _ _ e1)), fun Q z => ⟨_, _, rfl, rfl, z⟩⟩)
  · rw [List.filter_eq_self.mpr (by simp), List.map_map, List.map_map]
    rfl
  · rw [List.all_map]
    rfl
  · rw [not_t hb, Bool.false_and] at k
    exact st_ret val_c (k H' s)
  · have hb' := not_f hb
    rw [hb', Bool.true_and, unlike_nodup] at k
    have hrow : ∀ z ∈ row, 0 ≤ z ∧ z < (p.jobs.length : Int) := fun z hz => by
      have := List.all_eq_true.mp hb' z hz
      simpa using this
    have hroom : ∀ i, i ≤ row.length → (metIn row i).length + 1 < scanBound := fun i hi => by
      have := metIn_few hrow hi
      unfold scanBound
      omega
    refine st_ret (v := .bl (decide row.Nodup)) (val_eq (val_eqq (val_lenSetI (val_var rfl) (SqL.of (s _ _ hr')) hroom) (val_len (SqL.of (s _ _ hr')) hrl (val_var rfl)) rfl) ?_) (k H' s)
    congr 1
    rw [Bool.eq_iff_iff, decide_eq_true_iff, decide_eq_true_iff, ← metIn_whole]
    constructor
    · intro z
      injection z with z
      omega
    · intro z
      rw [z]
end
end Tp
namespace Tp
open PySem PySem.Spec PyProof.Rows L2
section
variable {P : Program} {w : World} {K : PySem.W.Frag} {mg : Str → Option Value} {base : Heap} {A : Ad}
open Vatsld (jobAt)
/-! ### lists of lists -/
abbrev NL (H : Hp) : Addr → List Nat → Prop := fun q l => H q = some (.lst (natsV l))
def ListsAt (H : Hp) (q : Addr) (ls : List (List Nat)) : Prop := ∃ xs, H q = some (.lst xs) ∧ Each (NL H) xs ls
theorem NL.each {H H' : Hp} {xs : List V} {ls : List (List Nat)} (h : Each (NL H) xs ls) (s : Same H H') : Each (NL H') xs ls := h.mono fun _ _ e => s _ _ e
theorem ListsAt.mono {H H' : Hp} {q : Addr} {ls : List (List Nat)} (h : ListsAt H q ls) (s : Same H H') : ListsAt H' q ls := let ⟨xs, e, h⟩ := h; ⟨xs, s _ _ e, NL.each h s⟩
theorem each_cons {α : Type} {At : Addr → α → Prop} {v : V} {vs : List V} {x : α} {xs : List α} : Each At (v :: vs) (x :: xs) ↔ (∃ q, v = .ref q ∧ At q x) ∧ Each At vs xs := by
  constructor
  · rintro ⟨hl, h⟩
    refine ⟨?_, by simpa using hl, fun i y e => h (i + 1) y (by simpa using e)⟩
    obtain ⟨q, e, a⟩ := h 0 x rfl
    exact ⟨q, by simpa using e, a⟩
  · rintro ⟨⟨q, rfl, a⟩, hl, h⟩
    refine ⟨by simp [hl], fun i y e => ?_⟩
    cases i with
    | zero =>
      simp at e
      subst e
      exact ⟨q, rfl, a⟩
    | succ i => exact h i y (by simpa using e)
theorem each_none {α : Type} {At : Addr → α → Prop} {v : V} {vs : List V} (h : Each At (v :: vs) []) : False := by
  have := h.1
  simp at this
theorem each_app {α : Type} {At : Addr → α → Prop} : ∀ {vs : List V} {xs : List α} {ws : List V} {ys : List α}, Each At vs xs → Each At ws ys → Each At (vs ++ ws) (xs ++ ys)
  | [], [], ws, ys, _, h2 => h2
  | [], x :: xs, ws, ys, h1, _ => by have := h1.1; simp at this
  | v :: vs, [], ws, ys, h1, _ => (each_none h1).elim
  | v :: vs, x :: xs, ws, ys, h1, h2 => by
    obtain ⟨a, b⟩ := each_cons.mp h1
    exact each_cons.mpr ⟨a, each_app b h2⟩
theorem each_filter {α : Type} {At : Addr → α → Prop} {qq : V → Bool} {c : α → Bool} : ∀ {vs : List V} {xs : List α}, Each At vs xs → (∀ q x, At q x → qq (.ref q) = c x) → Each At (vs.filter qq) (xs.filter c)
  | [], [], h, _ => h
  | [], x :: xs, h, _ => by have := h.1; simp at this
  | v :: vs, [], h, _ => (each_none h).elim
  | v :: vs, x :: xs, h, hq => by
    obtain ⟨⟨q, rfl, a⟩, b⟩ := each_cons.mp h
    have ih := each_filter b hq
    rw [List.filter_cons, List.filter_cons, hq q x a]
    cases hc : c x with
    | true => exact each_cons.mpr ⟨⟨q, rfl, a⟩, ih⟩
    | false => exact ih
theorem evn_catL {σ : L2.St} {H : Hp} {ta tb : TE} {xs ys : List V} {q : Addr} (ha : Val ta σ H (.ref q)) (hq : H q = some (.lst xs)) (hb : EvN tb σ H (.lst ys)) (hl : xs.length + ys.length < 1000000) : EvN (tOp rCat ta tb) σ H (.lst (xs ++ ys)) := fun Q z =>
  ha _ (hb _ fun b H2 n2 s2 e2 => ⟨q, b, xs, ys, rfl, rfl, s2 _ _ hq, e2, by rw [sizeLine_eq]; omega, fun p hp => z p _ (s2.free hp) (s2.trans (Same.new hp)) upd_same⟩)
theorem natsV_app (a b : List Nat) : natsV (a ++ b) = natsV a ++ natsV b := List.map_append
/-- [[]] -/
theorem evp_nest {σ : L2.St} {H : Hp} : EvP (tLst (tCons (tLst tNil) tNil)) σ H (fun q H' => ListsAt H' q [[]]) := fun Q z => by
  refine ⟨by rw [sizeLine_eq]; simp, fun e0 ne0 => ⟨by rw [sizeLine_eq]; simp, fun q0 nq0 => ?_⟩⟩
  have e0q : e0 ≠ q0 := fun z => by rw [← z, upd_same] at nq0; cases nq0
  refine z q0 _ ((Same.new ne0).free nq0) ((Same.new ne0).trans (Same.new nq0)) ⟨[.ref e0], upd_same, each_cons.mpr ⟨⟨e0, rfl, ?_⟩, Each.nil⟩⟩
  show upd _ _ _ _ = _
  rw [upd_ne e0q, upd_same]
  rfl
def sp_all_parts (A : Ad) : Sp := fun vs H Q _ => ∃ (n : Nat), vs = [.int (n : Int)] ∧ n ≤ 7 ∧ ∀ q H', H q = none → Same H H' → ListsAt H' q (Vatsld.subsets (List.range n)) → Q (.ref q) H'
/-! ### all_parts -/
abbrev s_all_parts : Stmt := top 14
theorem sc_all_parts : FnScope ["count", "parts", "number", "longer", "part"] ["count"] (defScope s_all_parts) := ⟨rfl, rfl, rfl, by decide +kernel, rfl, by decide +kernel, by decide +kernel⟩
theorem ok_all_parts {f : Addr} {fd : FuncData} (F : Fun K "all_parts" "all_parts" s_all_parts f fd) (T : Txt K mg A) : FnOk P w K mg base CX0 1 f fd ["count"] (sp_all_parts A) := by
  refine F.ok sc_all_parts (fun vs H Q E h => by revert h; first | (rintro ⟨rfl, _⟩; rfl) | (rintro ⟨_, rfl, _⟩; rfl) | (rintro ⟨_, _, rfl, _⟩; rfl) | (rintro ⟨_, _, _, rfl, _⟩; rfl) | (rintro ⟨_, _, _, _, rfl, _⟩; rfl) | (rintro ⟨_, _, _, _, _, rfl, _⟩; rfl) | (rintro ⟨_, _, _, _, _, _, rfl, _⟩; rfl) | (rintro ⟨_, _, _, _, _, _, _, rfl, _⟩; rfl) | (rintro ⟨_, _, _, _, _, _, _, _, rfl, _⟩; rfl) | (rintro ⟨_, _, _, _, _, _, _, _, _, rfl, _⟩; rfl) | (rintro ⟨_, _, _, _, _, _, _, _, _, _, rfl, _⟩; rfl) | (rintro ⟨_, _, _, _, _, _, _, _, _, _, _, rfl, _⟩; rfl)) (fun cdv Ar outer s H vs Q E hr h => ⟨_, 
  (pss_cons (ps_set (i := 1) sc_all_parts.nd rfl (Or.inl rfl) (pe_lst (pa_cons (pe_lst pa_nil) pa_nil)))
      (pss_cons (ps_for PassesOwn.never rfl (pi_range1 rfl T.b_range (pa_cons (pv 0) pa_nil)) (pg_name (i := 2) sc_all_parts.nd rfl (Or.inl rfl)) (pss_cons (ps_set (i := 3) sc_all_parts.nd rfl (Or.inl rfl) (pe_lst pa_nil))
      (pss_cons (ps_for PassesOwn.never rfl (pi_list (pv 1)) (pg_name (i := 4) sc_all_parts.nd rfl (Or.inl rfl)) (pss_cons (ps_expr (pe_bm PySem.F.plainAttrs_list PySem.F.slot_list_append PySem.F.type_list_append mt_append (pv 3) (pa_cons (pe_op op_cat (pv 4) (pe_lst (pa_cons (pv 2) pa_nil))) pa_nil)))
      (pss_one (ps_expr (pe_bm PySem.F.plainAttrs_list PySem.F.slot_list_append PySem.F.type_list_append mt_append (pv 3) (pa_cons (pv 4) pa_nil))))))
      (pss_one (ps_set (i := 1) sc_all_parts.nd rfl (Or.inl rfl) (pv 3))))))
      (pss_one (ps_ret (pv 1))))), ?_⟩)
  obtain ⟨n, rfl, hn, k⟩ := h
  refine st_seqSetP evp_nest fun q0 H0 nq0 s00 h0 => ?_
  refine st_seqForR (j := (n : Int)) (fun R z => ⟨_, rfl, z⟩) (by omega) (by omega) (fun i σ H' => ∃ (q : Addr) (v2 v3 v4 : Option V), σ = [some (.int (n : Int)), some (.ref q), v2, v3, v4] ∧ H q = none ∧ Same H H' ∧ ListsAt H' q (Vatsld.subsets (List.range i)))
    ⟨q0, none, none, none, rfl, nq0, s00, h0⟩ ?_ ?_
  · rintro i σ H1 hi ⟨q, v2, v3, v4, rfl, nq, s1, xs, eq, hE⟩
    refine st_seqSetN (o := .lst []) (evn_lst eva_nil (by decide)) fun lq H2 nlq s2 f2 => ?_
    have hi7 : i < 7 := by omega
    have hlen : (Vatsld.subsets (List.range i)).length ≤ 128 := by
      rw [subs_len, List.length_range]
      have : 2 ^ i ≤ 2 ^ 7 := Nat.pow_le_pow_right (by omega) (by omega)
      simpa using this
    refine st_seqForL (val_var rfl) (SqL.of (s2 _ _ eq)) (fun j σ H' => ∃ (v4 : Option V) (ys : List V), σ = [some (.int (n : Int)), some (.ref q), some (.int (i : Int)), some (.ref lq), v4] ∧ Same H1 H' ∧ H' lq = some (.lst ys) ∧
      Each (fun a l => a ≠ lq ∧ H' a = some (.lst (natsV l))) ys (((Vatsld.subsets (List.range i)).take j).flatMap fun p => [p ++ [i], p])) ⟨v4, [], rfl, s2, f2, Each.nil⟩ (fun j σ H' _ z => let ⟨_, _, _, s, _⟩ := z; SqL.of (s _ _ eq)) ?_ ?_
    · rintro j x σ H' hx ⟨v4, ys, rfl, s3, f3, hY⟩
      have hj := (List.getElem?_eq_some_iff.mp hx).1
      rw [hE.1] at hj
      obtain ⟨pp, hpp⟩ : ∃ pp, (Vatsld.subsets (List.range i))[j]? = some pp := ⟨_, List.getElem?_eq_getElem hj⟩
      obtain ⟨pq, e1, e2⟩ := hE.2 j pp hpp
      rw [e1] at hx
      cases hx
      have e2 : H1 pq = some (.lst (natsV pp)) := e2
      have hpl := (subs_ok (List.mem_of_getElem? hpp)).2
      have hyl : ys.length = 2 * j := by
        rw [hY.1]
        have hz : ∀ (L : List (List Nat)), (L.flatMap fun p => [p ++ [i], p]).length = 2 * L.length := by
          intro L
          induction L with
          | nil => rfl
          | cons a r ih => rw [List.flatMap_cons, List.length_append, ih, List.length_cons]; simp; omega
        rw [hz, List.length_take]
        omega
      have npq : pq ≠ lq := fun z => by rw [z, nlq] at e2; cases e2
      refine st_seqAppendN (o := .lst (natsV (pp ++ [i]))) (val_var rfl) f3 (evn_is (evn_catL (q := pq) (xs := natsV pp) (ys := [.int (i : Int)]) (val_var rfl) (s3 _ _ e2) (evn_lst (eva_cons (evs_of (val_var rfl)) fun _ _ => eva_nil) (by simp)) (by rw [natsV_len]; simp; omega)) (by rw [natsV_app]; rfl)) (by omega) fun r H4 nr s4 e4 ner => ?_
      refine st_append (y := .ref pq) (val_var rfl) upd_same (evs_of (val_var rfl)) (by rw [List.length_append]; simp; omega) fun H5 s5 => ?_
      have st : ∀ a l, a ≠ lq → H4 a = some (.lst (natsV l)) → (upd H5 lq (.lst (ys ++ [.ref r] ++ [.ref pq]))) a = some (.lst (natsV l)) := fun a l ha e => by
        rw [upd_ne ha]
        exact s5 _ _ (by rw [upd_ne ha]; exact e)
      refine ⟨some (.ref pq), ys ++ [.ref r] ++ [.ref pq], rfl, ((s3.trans s4).mut nlq).trans s5 |>.mut nlq, upd_same, ?_⟩
      have e9 : ((Vatsld.subsets (List.range i)).take (j + 1)).flatMap (fun p => [p ++ [i], p]) = ((Vatsld.subsets (List.range i)).take j).flatMap (fun p => [p ++ [i], p]) ++ [pp ++ [i]] ++ [pp] := by
        rw [take_one hpp, List.flatMap_append]
        simp
      rw [e9]
      exact ((hY.mono fun a l z => ⟨z.1, st a l z.1 (s4 _ _ z.2)⟩).more ⟨ner, st r _ ner e4⟩).more ⟨npq, st pq _ npq (s4 _ _ (s3 _ _ e2))⟩
    · rintro σ H' ⟨v4, ys, rfl, s3, f3, hY⟩
      refine st_set (val_var rfl) ⟨lq, some (.int (i : Int)), some (.ref lq), v4, rfl, s1.free nlq, s1.trans s3, ys, f3, ?_⟩
      rw [hE.1, List.take_length] at hY
      rw [List.range_succ, subs_back]
      exact hY.mono fun a l z => z.2
  · rintro σ H' ⟨q, v2, v3, v4, rfl, nq, s1, hL⟩
    exact st_ret (val_var rfl) (k q H' nq s1 hL)
/-- the numbers of a list in the heap -/
def natsIn (H : Hp) (v : V) : List Nat := match v with
  | .ref q => (match H q with
    | some (.lst vs) => vs.map fun x => match x with | .int j => j.toNat | _ => 0
    | _ => [])
  | _ => []
theorem natsIn_is {H : Hp} {q : Addr} {l : List Nat} (h : H q = some (.lst (natsV l))) : natsIn H (.ref q) = l := by
  unfold natsIn
  simp only [h]
  unfold natsV
  rw [List.map_map]
  have : (fun x : V => match x with | .int j => j.toNat | _ => 0) ∘ (fun (n : Nat) => V.int (n : Int)) = id := by
    funext n
    simp
  rw [this, List.map_id]
/-- [.. for x in f(..)] -/
theorem lc_call {σ : L2.St} {H : Hp} {sp : Sp} {E : XK} {ta : TA} {vs : List V} {g : TG} {tt : TT} {te : TE} {ws : List Nat} {D : Ends} (h : EvA ta σ H vs) (hs : ∀ H', Same H H' → sp vs H' (fun v H1 => tLc (iList K (tC v)) g tt te ws σ H1 D.rt) E) : tRet (tLc (iList K (tCall sp [] E ta)) g tt te ws) D σ H := h _ fun H1 s1 => by
  show sp (vs ++ []) H1 _ E
  rw [List.append_nil]
  exact hs H1 s1
def sp_all_choices (A : Ad) : Sp := fun vs H Q _ => ∃ (a : Addr) (p : Vatsld.Plan), vs = [.ref a] ∧ PlanAt A H a p ∧ WF p ∧ ∀ q H', H q = none → Same H H' → ListsAt H' q (choices p) → Q (.ref q) H'
theorem pow128 {n : Nat} (h : n ≤ 7) : 2 ^ n ≤ 128 := by
  have : 2 ^ n ≤ 2 ^ 7 := Nat.pow_le_pow_right (by omega) h
  simpa using this
/-! ### all_choices -/
abbrev s_all_choices : Stmt := top 13
theorem sc_all_choices : FnScope ["plan", "chosen"] ["plan"] (defScope s_all_choices) := ⟨rfl, rfl, rfl, by decide +kernel, rfl, by decide +kernel, by decide +kernel⟩
theorem ok_all_choices {f : Addr} {fd : FuncData} (F : Fun K "all_choices" "all_choices" s_all_choices f fd) (T : Txt K mg A)
    (C_is_choice : Cal P w K mg base CX0 2 "is_choice" ["plan", "chosen"] (sp_is_choice A))
    (C_all_parts : Cal P w K mg base CX0 1 "all_parts" ["count"] (sp_all_parts A)) : FnOk P w K mg base CX0 3 f fd ["plan"] (sp_all_choices A) := by
  obtain ⟨f_is_choice, fd_is_choice, m_is_choice, kp_is_choice, b_is_choice, G_is_choice⟩ := C_is_choice.ex
  obtain ⟨f_all_parts, fd_all_parts, m_all_parts, kp_all_parts, b_all_parts, G_all_parts⟩ := C_all_parts.ex
  refine F.ok sc_all_choices (fun vs H Q E h => by revert h; first | (rintro ⟨rfl, _⟩; rfl) | (rintro ⟨_, rfl, _⟩; rfl) | (rintro ⟨_, _, rfl, _⟩; rfl) | (rintro ⟨_, _, _, rfl, _⟩; rfl) | (rintro ⟨_, _, _, _, rfl, _⟩; rfl) | (rintro ⟨_, _, _, _, _, rfl, _⟩; rfl) | (rintro ⟨_, _, _, _, _, _, rfl, _⟩; rfl) | (rintro ⟨_, _, _, _, _, _, _, rfl, _⟩; rfl) | (rintro ⟨_, _, _, _, _, _, _, _, rfl, _⟩; rfl) | (rintro ⟨_, _, _, _, _, _, _, _, _, rfl, _⟩; rfl) | (rintro ⟨_, _, _, _, _, _, _, _, _, _, rfl, _⟩; rfl) | (rintro ⟨_, _, _, _, _, _, _, _, _, _, _, rfl, _⟩; rfl)) (fun cdv Ar outer s H vs Q E hr h => ⟨_, 
  (pss_one (ps_ret (pe_lc (own := [("chosen", 1)]) (g := gName 1) (by rfl) sc_all_choices.nd (pi_list (pe_call G_all_parts (hr.mono (by decide)) rfl m_all_parts kp_all_parts b_all_parts .nil pass0 (pa_cons (pe_callB call_len_seq (by rfl) T.b_len (by decide +kernel) (pa_cons (pe_fld (pv 0) rfl) pa_nil)) pa_nil))) (blkOk_by (N := ["plan", "chosen"]) (sc := defScope s_all_choices) (by decide +kernel)) (fun _ _ _ _ _ => pg_name (i := 1) sc_all_choices.nd rfl (Or.inl rfl)) (fun _ _ _ _ _ => (pts_one (pt_val (pe_call G_is_choice (hr.mono (by decide)) rfl m_is_choice kp_is_choice b_is_choice .nil pass0 (pa_cons (pv 0) (pa_cons (pv 1) pa_nil)))))) (fun _ _ _ _ _ => (pv 1))))), ?_⟩)
  obtain ⟨a, p, rfl, hp, wf, k⟩ := h
  obtain ⟨dx, lg, lt, gs, ts, e1, e2, e3, e4, e5⟩ := hp.lens
  have hnj := wf.nj
  refine lc_call (vs := [.int (p.jobs.length : Int)]) (eva_cons (evs_of (val_len (SqL.of e4) e5 (val_tests T (val_var rfl) e1))) fun _ _ => eva_nil) fun H0 s0 => ?_
  refine ⟨p.jobs.length, rfl, hnj, fun q H1 nq s01 hL => ?_⟩
  have s1 := s0.trans s01
  obtain ⟨xs, eq, hE⟩ := hL
  have hlen : xs.length ≤ 128 := by
    rw [hE.1, subs_len, List.length_range]
    exact pow128 hnj
  refine lc_listS (K := K) (tl := tC (.ref q)) (f := fun x => x) (qq := fun x => Vatsld.isClosed p (natsIn H1 x)) (evs_of val_c) (SqL.of eq) (small_line (by omega)) (fun i x H' hx s => ?_) (fun i x H' hx _ s => evs_of (val_var rfl)) _ fun r H2 nr s2 e2 => ?_
  · have hi := (List.getElem?_eq_some_iff.mp hx).1
    obtain ⟨l, hl⟩ : ∃ l, (Vatsld.subsets (List.range p.jobs.length))[i]? = some l := ⟨_, List.getElem?_eq_getElem (by rw [← hE.1]; exact hi)⟩
    obtain ⟨lq, f1, f2⟩ := hE.2 i l hl
    rw [f1] at hx
    cases hx
    have f2 : H1 lq = some (.lst (natsV l)) := f2
    have hok := subs_ok (List.mem_of_getElem? hl)
    rw [natsIn_is f2]
    refine ans_test (evs_call (eva_cons (evs_of (val_var rfl)) fun _ _ => eva_cons (evs_of (val_var rfl)) fun _ _ => eva_nil) fun H3 s3 Q z => ?_)
    exact ⟨a, lq, p, l, rfl, hp.mono (s1.trans (s.trans s3)), wf, s3 _ _ (s _ _ f2), hok.1, by omega, z⟩
  · refine k r H2 (s1.free nr) (s1.trans s2) ⟨_, e2, ?_⟩
    rw [List.map_id']
    exact NL.each (each_filter hE fun q' l h' => by rw [natsIn_is h']) s2
end
end Tp
namespace Tp
open PySem PySem.Spec PyProof.Rows L2
section
variable {P : Program} {w : World} {K : PySem.W.Frag} {mg : Str → Option Value} {base : Heap} {A : Ad}
open Vatsld (jobAt)
/-! ### ways, times -/
theorem lc_gen {σ : L2.St} {J : It} {g : TG} {tt : TT} {te : TE} {vs : List Nat} {H1 : Hp} {Da : Addr} {Qd : Hp → Prop} {n : Nat} (Pv : Nat → Hp → Prop) (h0 : Pv 0 (upd H1 Da (.lst []))) (hgo : ∀ i H, i < n → Pv i H → J.go i H) (hstop : ∀ H, Pv n H → J.stop n H)
    (hs : ∀ i H x H', i < n → Pv i H → J.yld i H x H' → g x (wipe σ vs) H' fun σ2 H2 => wipe σ2 vs = wipe σ vs ∧ tt σ2 H2 fun b H3 => if b = true then te σ2 H3 fun y H4 => ∃ acc, H4 Da = some (.lst acc) ∧ acc.length < sizeLine ∧ Pv (i + 1) (upd H4 Da (.lst (acc ++ [y]))) else Pv (i + 1) H3) (hd : ∀ H, Pv n H → Qd H) :
    ∃ W : Nat → Nat → Hp → Prop, (∃ m, W 0 m (upd H1 Da (.lst []))) ∧ ∀ i m H, W i m H →
      (J.stop i H ∧ Qd H) ∨ (J.go i H ∧ ∃ Nx : Hp → Prop, (∀ H', Nx H' → ∃ m', m' < m ∧ W (i + 1) m' H') ∧ ∀ x H', J.yld i H x H' → g x (wipe σ vs) H' fun σ2 H2 => wipe σ2 vs = wipe σ vs ∧ tt σ2 H2 fun b H3 =>
        if b = true then te σ2 H3 fun y H4 => ∃ acc, H4 Da = some (.lst acc) ∧ acc.length < sizeLine ∧ Nx (upd H4 Da (.lst (acc ++ [y]))) else Nx H3) := by
  refine ⟨fun i m H => m = n - i ∧ i ≤ n ∧ Pv i H, ⟨n, by simp, Nat.zero_le _, h0⟩, ?_⟩
  rintro i m H ⟨rfl, hi, pv⟩
  by_cases hlt : i < n
  · exact .inr ⟨hgo i H hlt pv, Pv (i + 1), fun H' p' => ⟨n - (i + 1), by omega, rfl, hlt, p'⟩, fun x H' y => hs i H x H' hlt pv y⟩
  · have e : i = n := by omega
    subst e
    exact .inl ⟨hstop H pv, hd H pv⟩
/-- [new list for x in range(n)] -/
theorem lc_rangeE {σ : L2.St} {H : Hp} {te : TE} {j n : Nat} {tn : TA} {ls : Nat → List Nat} (hn : ∀ R : List V → Hp → Prop, (∀ H', Same H H' → R [.int (n : Int)] H') → tn σ H R) (hlen : n < 1000000)
    (he : ∀ (i : Nat) (H' : Hp), i < n → Same H H' → EvN te (inC σ j (.int (i : Int))) H' (.lst (natsV (ls i)))) :
    EvP (tLc (iRng1 tn) (gName j) tYes te [j]) σ H (fun p H' => ∃ zs, H' p = some (.lst zs) ∧ Each (fun q l => q ≠ p ∧ H q = none ∧ H' q = some (.lst (natsV l))) zs ((List.range n).map ls)) := fun Q z =>
  hn _ fun H0 s0 => ⟨(n : Int), rfl, by omega, by omega, fun Da hD =>
    have hD' : H Da = none := s0.free hD
    lc_range (lo := 0) (n := n) (fun i H' => Same H H' ∧ ∃ zs, H' Da = some (.lst zs) ∧ Each (fun q l => q ≠ Da ∧ H q = none ∧ H' q = some (.lst (natsV l))) zs ((List.range i).map ls)) ⟨s0.mut hD', [], upd_same, Each.nil⟩
      (fun i H' hi h => by
        have e0 : ((0 : Int) + (i : Int)) = (i : Int) := by omega
        rw [e0]
        obtain ⟨s, zs, e, hE⟩ := h
        have hzl : zs.length = i := by rw [hE.1, List.length_map, List.length_range]
        refine ⟨inC_wipe, iteT (B := True) (he i H' hi s _ fun r H4 nr s4 e4 => ⟨zs, s4 _ _ e, by rw [sizeLine_eq]; omega, (s.trans s4).mut hD', zs ++ [.ref r], upd_same, ?_⟩)⟩
        have nr2 : r ≠ Da := fun w => by rw [w, e] at nr; cases nr
        rw [List.range_succ, List.map_append]
        exact (hE.mono fun q l w => ⟨w.1, w.2.1, by rw [upd_ne w.1]; exact s4 _ _ w.2.2⟩).more ⟨nr2, s.free nr, by rw [upd_ne nr2]; exact e4⟩)
      (fun H' h => z Da H' hD' h.1 h.2)⟩
theorem st_extendP {σ : L2.St} {H : Hp} {tl te : TE} {q : Addr} {xs : List V} {D : Ends} {R : List V → Hp → Prop} {m : Nat} (ha : Val tl σ H (.ref q)) (hq : H q = some (.lst xs)) (h : EvP te σ H (fun p H' => ∃ zs, H' p = some (.lst zs) ∧ zs.length ≤ m ∧ R zs H')) (hl : xs.length + m < 1000000)
    (k : ∀ zs H', Same H H' → R zs H' → D.nx σ (upd H' q (.lst (xs ++ zs)))) : tDrop (tBM K "list" rExtend tl (tCons te tNil)) D σ H :=
  ha _ ⟨.inl ⟨rfl, _, SqL.of hq⟩, h _ fun a H' _ s ⟨zs, e, hz, r⟩ => ⟨q, a, xs, zs, rfl, rfl, s _ _ hq, e, by rw [sizeLine_eq]; omega, k zs H' s r⟩⟩
def sp_all_ways (A : Ad) : Sp := fun vs H Q _ => ∃ (m n : Nat), vs = [.int (m : Int), .int (n : Int)] ∧ m ≤ 3 ∧ n ≤ 7 ∧ ∀ q H', H q = none → Same H H' → ListsAt H' q (Vatsld.waysFor m n) → Q (.ref q) H'
theorem pow2187 {m n : Nat} (hm : m ≤ 3) (h : n ≤ 7) : m ^ n ≤ 2187 := by
  have h1 : m ^ n ≤ 3 ^ n := Nat.pow_le_pow_left hm n
  have h2 : 3 ^ n ≤ 3 ^ 7 := Nat.pow_le_pow_right (by omega) h
  have h3 : (3 : Nat) ^ 7 = 2187 := by decide
  omega
theorem flat_len {α β : Type} {f : α → List β} {m : Nat} (h : ∀ a, (f a).length = m) : ∀ L : List α, (L.flatMap f).length = L.length * m
  | [] => by simp
  | a :: L => by rw [List.flatMap_cons, List.length_append, h, flat_len h L, List.length_cons, Nat.succ_mul, Nat.add_comm]
/-! ### all_ways -/
abbrev s_all_ways : Stmt := top 30
theorem sc_all_ways : FnScope ["many", "count", "ways", "number", "longer", "way", "machine"] ["many", "count"] (defScope s_all_ways) := ⟨rfl, rfl, rfl, by decide +kernel, rfl, by decide +kernel, by decide +kernel⟩
theorem ok_all_ways {f : Addr} {fd : FuncData} (F : Fun K "all_ways" "all_ways" s_all_ways f fd) (T : Txt K mg A) : FnOk P w K mg base CX0 1 f fd ["many", "count"] (sp_all_ways A) := by
  refine F.ok sc_all_ways (fun vs H Q E h => by revert h; first | (rintro ⟨rfl, _⟩; rfl) | (rintro ⟨_, rfl, _⟩; rfl) | (rintro ⟨_, _, rfl, _⟩; rfl) | (rintro ⟨_, _, _, rfl, _⟩; rfl) | (rintro ⟨_, _, _, _, rfl, _⟩; rfl) | (rintro ⟨_, _, _, _, _, rfl, _⟩; rfl) | (rintro ⟨_, _, _, _, _, _, rfl, _⟩; rfl) | (rintro ⟨_, _, _, _, _, _, _, rfl, _⟩; rfl) | (rintro ⟨_, _, _, _, _, _, _, _, rfl, _⟩; rfl) | (rintro ⟨_, _, _, _, _, _, _, _, _, rfl, _⟩; rfl) | (rintro ⟨_, _, _, _, _, _, _, _, _, _, rfl, _⟩; rfl) | (rintro ⟨_, _, _, _, _, _, _, _, _, _, _, rfl, _⟩; rfl)) (fun cdv Ar outer s H vs Q E hr h => ⟨_, 
  (pss_cons (ps_set (i := 2) sc_all_ways.nd rfl (Or.inl rfl) (pe_lst (pa_cons (pe_lst pa_nil) pa_nil)))
      (pss_cons (ps_for PassesOwn.never rfl (pi_range1 rfl T.b_range (pa_cons (pv 1) pa_nil)) (pg_name (i := 3) sc_all_ways.nd rfl (Or.inl rfl)) (pss_cons (ps_set (i := 4) sc_all_ways.nd rfl (Or.inl rfl) (pe_lst pa_nil))
      (pss_cons (ps_for PassesOwn.never rfl (pi_list (pv 2)) (pg_name (i := 5) sc_all_ways.nd rfl (Or.inr rfl)) (pss_one (ps_expr (pe_bm PySem.F.plainAttrs_list PySem.F.slot_list_extend PySem.F.type_list_extend mt_extend (pv 4) (pa_cons (pe_lc (own := [("machine", 6)]) (g := gName 6) (tt := tYes) (by rfl) sc_all_ways.nd (pi_range1 rfl T.b_range (pa_cons (pv 0) pa_nil)) (blkOk_by (N := ["many", "count", "ways", "number", "longer", "way", "machine"]) (sc := defScope s_all_ways) (by decide +kernel)) (fun _ _ _ _ _ => pg_name (i := 6) sc_all_ways.nd rfl (Or.inl rfl)) (fun _ _ _ _ _ => pts_nil) (fun _ _ _ _ _ => (pe_op op_cat (pv 5) (pe_lst (pa_cons (pv 6) pa_nil))))) pa_nil)))))
      (pss_one (ps_set (i := 2) sc_all_ways.nd rfl (Or.inl rfl) (pv 4))))))
      (pss_one (ps_ret (pv 2))))), ?_⟩)
  obtain ⟨m, n, rfl, hm, hn, k⟩ := h
  refine st_seqSetP evp_nest fun q0 H0 nq0 s00 h0 => ?_
  refine st_seqForR (j := (n : Int)) (fun R z => ⟨_, rfl, z⟩) (by omega) (by omega) (fun i σ H' => ∃ (q : Addr) (v3 v4 v5 v6 : Option V), σ = [some (.int (m : Int)), some (.int (n : Int)), some (.ref q), v3, v4, v5, v6] ∧ H q = none ∧ Same H H' ∧ ListsAt H' q (Vatsld.waysFor m i))
    ⟨q0, none, none, none, none, rfl, nq0, s00, h0⟩ ?_ ?_
  · rintro i σ H1 hi ⟨q, v3, v4, v5, v6, rfl, nq, s1, xs, eq, hE⟩
    refine st_seqSetN (o := .lst []) (evn_lst eva_nil (by decide)) fun lq H2 nlq s2 f2 => ?_
    have hwl : (Vatsld.waysFor m i).length ≤ 2187 := by
      rw [ways_len]
      exact pow2187 hm (by omega)
    refine st_seqForL (val_var rfl) (SqL.of (s2 _ _ eq)) (fun j σ H' => ∃ (v5 v6 : Option V) (ys : List V), σ = [some (.int (m : Int)), some (.int (n : Int)), some (.ref q), some (.int (i : Int)), some (.ref lq), v5, v6] ∧ Same H1 H' ∧ H' lq = some (.lst ys) ∧
      Each (fun a l => a ≠ lq ∧ H' a = some (.lst (natsV l))) ys (((Vatsld.waysFor m i).take j).flatMap fun w => (List.range m).map fun a => w ++ [a])) ⟨v5, v6, [], rfl, s2, f2, Each.nil⟩ (fun j σ H' _ z => let ⟨_, _, _, _, s, _⟩ := z; SqL.of (s _ _ eq)) ?_ ?_
    · rintro j x σ H' hx ⟨v5, v6, ys, rfl, s3, f3, hY⟩
      have hj := (List.getElem?_eq_some_iff.mp hx).1
      rw [hE.1] at hj
      obtain ⟨ww, hww⟩ : ∃ ww, (Vatsld.waysFor m i)[j]? = some ww := ⟨_, List.getElem?_eq_getElem hj⟩
      obtain ⟨wq, e1, e2⟩ := hE.2 j ww hww
      rw [e1] at hx
      cases hx
      have e2 : H1 wq = some (.lst (natsV ww)) := e2
      have hwo := (ways_ok (List.mem_of_getElem? hww)).1
      have hyl : ys.length ≤ 10000 := by
        rw [hY.1, flat_len (m := m) (fun w => by rw [List.length_map, List.length_range]), List.length_take]
        have : min j (Vatsld.waysFor m i).length * m ≤ 2187 * 3 := Nat.mul_le_mul (by omega) hm
        omega
      refine st_extendP (m := m) (R := fun zs H9 => Each (fun a l => a ≠ lq ∧ H9 a = some (.lst (natsV l))) zs ((List.range m).map fun a => ww ++ [a])) (val_var rfl) f3 (fun Q' z => (lc_rangeE (n := m) (ls := fun a => ww ++ [a]) (fun R z => (evs_of (val_var rfl)) _ fun H9 s9 => z H9 s9) (by omega) fun b H9 hb s9 => ?_) _ fun p H9 np s9 h9 => ?_) (by omega) fun zs H9 s9 hZ => ?_
      · refine evn_is (evn_catL (q := wq) (xs := natsV ww) (ys := [.int (b : Int)]) (val_var rfl) (s9 _ _ (s3 _ _ e2)) (evn_lst (eva_cons (evs_of (val_var rfl)) fun _ _ => eva_nil) (by simp)) (by rw [natsV_len]; simp; omega)) (by rw [natsV_app]; rfl)
      · obtain ⟨zs, ez, hz⟩ := h9
        refine z p H9 np s9 ⟨zs, ez, by rw [hz.1, List.length_map, List.length_range]; exact Nat.le_refl _, hz.mono fun a l w => ⟨(fun e => by have h := w.2.1; rw [e, f3] at h; cases h), w.2.2⟩⟩
      · refine ⟨some (.ref wq), v6, ys ++ zs, rfl, (s3.trans s9).mut nlq, upd_same, ?_⟩
        rw [take_one hww, List.flatMap_append]
        have e9 : [ww].flatMap (fun w => (List.range m).map fun a => w ++ [a]) = (List.range m).map fun a => ww ++ [a] := by simp
        rw [e9]
        exact each_app (hY.mono fun a l w => ⟨w.1, by rw [upd_ne w.1]; exact s9 _ _ w.2⟩) (hZ.mono fun a l w => ⟨w.1, by rw [upd_ne w.1]; exact w.2⟩)
    · rintro σ H' ⟨v5, v6, ys, rfl, s3, f3, hY⟩
      refine st_set (val_var rfl) ⟨lq, some (.int (i : Int)), some (.ref lq), v5, v6, rfl, s1.free nlq, s1.trans s3, ys, f3, ?_⟩
      rw [hE.1, List.take_length] at hY
      rw [ways_back]
      exact hY.mono fun a l z => z.2
  · rintro σ H' ⟨q, v3, v4, v5, v6, rfl, nq, s1, hL⟩
    exact st_ret (val_var rfl) (k q H' nq s1 hL)
end
end Tp
namespace Tp
open PySem PySem.Spec PyProof.Rows L2
section
variable {P : Program} {w : World} {K : PySem.W.Frag} {mg : Str → Option Value} {base : Heap} {A : Ad}
open Vatsld (jobAt)
def sp_is_way (A : Ad) : Sp := fun vs H Q _ => ∃ (a r : Addr) (p : Vatsld.Plan) (m : Nat) (row : List Int), vs = [.ref a, .int (m : Int), .ref r] ∧ PlanAt A H a p ∧ WF p ∧ H r = some (.lst (row.map V.int)) ∧ row.length ≤ 100000 ∧
  ∀ H', Same H H' → Q (.bl (decide (row.length = p.jobs.length) && Vatsld.isRow m row)) H'
/-! ### is_way -/
abbrev s_is_way : Stmt := top 26
theorem sc_is_way : FnScope ["plan", "many", "way", "machine"] ["plan", "many", "way"] (defScope s_is_way) := ⟨rfl, rfl, rfl, by decide +kernel, rfl, by decide +kernel, by decide +kernel⟩
theorem ok_is_way {f : Addr} {fd : FuncData} (F : Fun K "is_way" "is_way" s_is_way f fd) (T : Txt K mg A) : FnOk P w K mg base CX0 1 f fd ["plan", "many", "way"] (sp_is_way A) := by
  refine F.ok sc_is_way (fun vs H Q E h => by revert h; first | (rintro ⟨rfl, _⟩; rfl) | (rintro ⟨_, rfl, _⟩; rfl) | (rintro ⟨_, _, rfl, _⟩; rfl) | (rintro ⟨_, _, _, rfl, _⟩; rfl) | (rintro ⟨_, _, _, _, rfl, _⟩; rfl) | (rintro ⟨_, _, _, _, _, rfl, _⟩; rfl) | (rintro ⟨_, _, _, _, _, _, rfl, _⟩; rfl) | (rintro ⟨_, _, _, _, _, _, _, rfl, _⟩; rfl) | (rintro ⟨_, _, _, _, _, _, _, _, rfl, _⟩; rfl) | (rintro ⟨_, _, _, _, _, _, _, _, _, rfl, _⟩; rfl) | (rintro ⟨_, _, _, _, _, _, _, _, _, _, rfl, _⟩; rfl) | (rintro ⟨_, _, _, _, _, _, _, _, _, _, _, rfl, _⟩; rfl)) (fun cdv Ar outer s H vs Q E hr h => ⟨_, 
  (pss_cons (ps_if (pt_cmpR op_ne (pe_callB call_len_seq (by rfl) T.b_len (by decide +kernel) (pa_cons (pv 2) pa_nil)) (pe_callB call_len_seq (by rfl) T.b_len (by decide +kernel) (pa_cons (pe_fld (pv 0) rfl) pa_nil)) (nomark _)) (pss_one (ps_ret pe_bl)) pss_nil)
      (pss_one (ps_ret (pe_callB (cr_all rfl) (by rfl) T.b_all (by decide +kernel) (pa_cons (pe_lc (own := [("machine", 3)]) (g := gName 3) (tt := tYes) (by rfl) sc_is_way.nd (pi_list (pv 2)) (blkOk_by (N := ["plan", "many", "way", "machine"]) (sc := defScope s_is_way) (by decide +kernel)) (fun _ _ _ _ _ => pg_name (i := 3) sc_is_way.nd rfl (Or.inl rfl)) (fun _ _ _ _ _ => pts_nil) (fun _ _ _ _ _ => (pe_chain op_le op_lt pe_int (pv 3) (pv 1)))) pa_nil))))), ?_⟩)
  obtain ⟨a, r, p, m, row, rfl, hp, wf, hr', hlen, k⟩ := h
  obtain ⟨dx, lg, lt, gs, ts, e1, e2, e3, e4, e5⟩ := hp.lens
  have hrl : (row.map V.int).length = row.length := List.length_map _
  refine st_seqIfV (b := !decide (V.int (row.length : Int) = V.int (p.jobs.length : Int))) (ans_neV (val_len (SqL.of hr') hrl (val_var rfl)) (val_len (SqL.of e4) e5 (val_tests T (val_var rfl) e1)) rfl) (fun hb => ?_) fun hb => ?_
  · have hb' := of_decide_eq_false (not_t hb)
    have hne : ¬ row.length = p.jobs.length := fun z => hb' (by rw [z])
    rw [decide_eq_false hne, Bool.false_and] at k
    exact st_ret val_c (k H (Same.refl H))
  · have hb' := of_decide_eq_true (not_f hb)
    have he : row.length = p.jobs.length := by
      injection hb' with z
      omega
    rw [decide_eq_true he, Bool.true_and] at k
    refine st_retS (evs_is (evs_all (bs := row.map fun n => decide (0 ≤ n) && decide (n < (m : Int))) (evn_is (lc_listS (qq := fun _ => true) (f := fun x => match x with | .int j => .bl (decide (0 ≤ j) && decide (j < (m : Int))) | _ => .non)
      (evs_of (val_var rfl)) (SqL.of hr') (small_line (by omega)) (fun _ _ _ _ _ => ans_yes) fun i x H' hx _ s => ?_) ?_)) ?_) k
    · obtain ⟨n, rfl⟩ : ∃ n, x = .int n := by
        rw [List.getElem?_map] at hx
        cases hn : row[i]? with
        | none => rw [hn] at hx; cases hx
        | some n => rw [hn] at hx; cases hx; exact ⟨n, rfl⟩
      exact evs_of (val_chain val_c (val_var rfl) (fun Q z => ⟨_, _, rfl, rfl, z⟩) fun _ => ⟨_, val_var rfl, fun Q z => ⟨_, _, rfl, rfl, z⟩⟩)
    · rw [List.filter_eq_self.mpr (by simp), List.map_map, List.map_map]
      rfl
    · rw [List.all_map]
      rfl
def sp_time_of_one (A : Ad) : Sp := fun vs H Q _ => ∃ (a r : Addr) (p : Vatsld.Plan) (wl : List Nat) (mc : Nat), vs = [.ref a, .ref r, .int (mc : Int)] ∧ PlanAt A H a p ∧ WF p ∧ H r = some (.lst (natsV wl)) ∧ wl.length = p.jobs.length ∧
  ∀ H', Same H H' → Q (.int (Vatsld.busy p wl mc : Int)) H'
theorem filter_more {n : Nat} (c : Nat → Bool) : (List.range (n + 1)).filter c = (List.range n).filter c ++ (if c n = true then [n] else []) := by
  rw [List.range_succ, List.filter_append]
  congr 1
  cases h : c n <;> simp [List.filter_cons, h]
/-- f(x, [..]) -/
theorem ret_call2N {σ : L2.St} {H : Hp} {ta tb : TE} {sp : Sp} {E : XK} {D : Ends} {x : V} {o : HO} (h1 : Val ta σ H x) (h2 : EvN tb σ H o) (hs : ∀ q H', H q = none → Same H H' → H' q = some o → sp [x, .ref q] H' D.rt E) : tRet (tCall sp [] E (tCons ta (tCons tb tNil))) D σ H :=
  h1 _ (h2 _ fun q H2 n s2 e => hs q H2 n s2 e)
/-! ### time_of_one -/
abbrev s_time_of_one : Stmt := top 28
theorem sc_time_of_one : FnScope ["plan", "way", "machine", "number", "given"] ["plan", "way", "machine"] (defScope s_time_of_one) := ⟨rfl, rfl, rfl, by decide +kernel, rfl, by decide +kernel, by decide +kernel⟩
theorem ok_time_of_one {f : Addr} {fd : FuncData} (F : Fun K "time_of_one" "time_of_one" s_time_of_one f fd) (T : Txt K mg A)
    (C_cost_together : Cal P w K mg base CX0 1 "cost_together" ["plan", "numbers"] (sp_cost_together A)) : FnOk P w K mg base CX0 2 f fd ["plan", "way", "machine"] (sp_time_of_one A) := by
  obtain ⟨f_cost_together, fd_cost_together, m_cost_together, kp_cost_together, b_cost_together, G_cost_together⟩ := C_cost_together.ex
  refine F.ok sc_time_of_one (fun vs H Q E h => by revert h; first | (rintro ⟨rfl, _⟩; rfl) | (rintro ⟨_, rfl, _⟩; rfl) | (rintro ⟨_, _, rfl, _⟩; rfl) | (rintro ⟨_, _, _, rfl, _⟩; rfl) | (rintro ⟨_, _, _, _, rfl, _⟩; rfl) | (rintro ⟨_, _, _, _, _, rfl, _⟩; rfl) | (rintro ⟨_, _, _, _, _, _, rfl, _⟩; rfl) | (rintro ⟨_, _, _, _, _, _, _, rfl, _⟩; rfl) | (rintro ⟨_, _, _, _, _, _, _, _, rfl, _⟩; rfl) | (rintro ⟨_, _, _, _, _, _, _, _, _, rfl, _⟩; rfl) | (rintro ⟨_, _, _, _, _, _, _, _, _, _, rfl, _⟩; rfl) | (rintro ⟨_, _, _, _, _, _, _, _, _, _, _, rfl, _⟩; rfl)) (fun cdv Ar outer s H vs Q E hr h => ⟨_, 
  (pss_one (ps_ret (pe_call G_cost_together (hr.mono (by decide)) rfl m_cost_together kp_cost_together b_cost_together .nil pass0 (pa_cons (pv 0) (pa_cons (pe_lc (own := [("number", 3), ("given", 4)]) (g := gTup K 2 (gCons (gName 3) (gCons (gName 4) gNil))) (by rfl) sc_time_of_one.nd (pi_enum (by rfl) T.b_enumerate (pa_cons (pv 1) pa_nil)) (blkOk_by (N := ["plan", "way", "machine", "number", "given"]) (sc := defScope s_time_of_one) (by decide +kernel)) (fun _ _ _ _ _ => pg_tup rfl (pgs_cons (pg_name (i := 3) sc_time_of_one.nd rfl (Or.inl rfl)) (pgs_cons (pg_name (i := 4) sc_time_of_one.nd rfl (Or.inl rfl)) pgs_nil))) (fun _ _ _ _ _ => (pts_one (pt_cmpR op_eq (pv 4) (pv 2) (nomark _)))) (fun _ _ _ _ _ => (pv 3))) pa_nil))))), ?_⟩)
  obtain ⟨a, r, p, wl, mc, rfl, hp, wf, hr', hwl, k⟩ := h
  have hnj := wf.nj
  refine ret_call2N (x := .ref a) (o := .lst (natsV ((List.range wl.length).filter fun i => wl.getD i 0 == mc))) (val_var rfl) (fun Q z => ?_) fun q H' nq s e => ?_
  · refine ⟨_, rfl, r, natsV wl, rfl, SqL.of hr', fun Da hD => lc_gen (n := wl.length) (fun i H' => Same H H' ∧ H' Da = some (.lst (natsV ((List.range i).filter fun i => wl.getD i 0 == mc)))) ⟨Same.new hD, upd_same⟩ (fun i H' hi h => ?_) (fun H' h => ?_) (fun i H' x H2 hi h hy => ?_) fun H' h => z Da H' hD h.1 h.2⟩
    · exact ⟨natsV wl, .int (wl[i] : Int), SqL.of (h.1 _ _ hr'), natsV_get (List.getElem?_eq_getElem hi)⟩
    · exact ⟨natsV wl, SqL.of (h.1 _ _ hr'), by rw [natsV_len]; exact Nat.le_refl _⟩
    · obtain ⟨t, y, rfl, ht, rfl, hy⟩ := hy
      have hyi := hy (natsV wl) (SqL.of (h.1 _ _ hr'))
      obtain ⟨g, hg, rfl⟩ := natsV_mem hyi
      obtain ⟨s1, e1⟩ := h
      have s2 : Same H' (upd H' t (.tup [.int (i : Int), .int (g : Int)])) := Same.new ht
      refine g_pair (SqT.of upd_same) ⟨rfl, ?_⟩
      have hgd : wl.getD i 0 = g := by rw [List.getD_eq_getElem?_getD, hg]; rfl
      refine (ans_is (b' := wl.getD i 0 == mc) (ans_of (ans_eqV (val_var rfl) (val_var rfl) rfl)) ?_) _ fun H3 s3 => ?_
      · rw [hgd, Bool.eq_iff_iff, decide_eq_true_iff, beq_iff_eq]
        constructor
        · intro z
          injection z with z
          omega
        · intro z
          rw [z]
      · have sH : Same H H3 := s1.trans (s2.trans s3)
        have e3 := s3 _ _ (s2 _ _ e1)
        cases hc : (wl.getD i 0 == mc) with
        | true =>
          refine iteT (B := True) (val_var rfl _ ⟨_, e3, ?_, sH.mut hD, ?_⟩)
          · rw [natsV_len, sizeLine_eq]
            have := List.length_filter_le (fun i => wl.getD i 0 == mc) (List.range i)
            rw [List.length_range] at this
            omega
          · rw [upd_same, filter_more, hc, if_pos rfl, natsV_app]
            rfl
        | false =>
          refine iteF (A := True) ⟨sH, ?_⟩
          rw [filter_more, hc, if_neg Bool.false_ne_true, List.append_nil]
          exact e3
  · refine ⟨a, q, p, _, rfl, hp.mono s, wf, e, fun x hx => ?_, ?_, fun H9 s9 => ?_⟩
    · have := List.mem_range.mp (List.mem_filter.mp hx).1
      omega
    · have := List.length_filter_le (fun i => wl.getD i 0 == mc) (List.range wl.length)
      rw [List.length_range] at this
      omega
    · have := k H9 (s.trans s9)
      rw [busy_is, ← hwl] at this
      exact this
def sp_time_of_all (A : Ad) : Sp := fun vs H Q _ => ∃ (a r : Addr) (p : Vatsld.Plan) (wl : List Nat) (m : Nat), vs = [.ref a, .int (m : Int), .ref r] ∧ PlanAt A H a p ∧ WF p ∧ H r = some (.lst (natsV wl)) ∧ wl.length = p.jobs.length ∧ 1 ≤ m ∧ m ≤ 3 ∧
  ∀ H', Same H H' → Q (.int (Vatsld.timeOf p m wl : Int)) H'
theorem evs_max {σ : L2.St} {H : Hp} {te : TE} {ns : List Nat} (h : EvN te σ H (.lst (natsV ns))) (hne : 0 < ns.length) : Evs (tCB (rMax K) (tCons te tNil)) σ H (.int ((ns.foldl Nat.max 0 : Nat) : Int)) := fun Q z =>
  h _ fun p H' _ s e => by
    refine ⟨p, ns.map fun (n : Nat) => (n : Int), rfl, SqL.of (by rw [List.map_map]; exact e), by rw [List.length_map]; exact hne, fun m hm hle => ?_⟩
    obtain ⟨n, hn, rfl⟩ := List.mem_map.mp hm
    have := max_is ns n hn fun y hy => by
      have := hle _ (List.mem_map.mpr ⟨y, hy, rfl⟩)
      omega
    rw [← this]
    exact z H' s
/-! ### time_of_all -/
abbrev s_time_of_all : Stmt := top 27
theorem sc_time_of_all : FnScope ["plan", "many", "way", "machine"] ["plan", "many", "way"] (defScope s_time_of_all) := ⟨rfl, rfl, rfl, by decide +kernel, rfl, by decide +kernel, by decide +kernel⟩
theorem ok_time_of_all {f : Addr} {fd : FuncData} (F : Fun K "time_of_all" "time_of_all" s_time_of_all f fd) (T : Txt K mg A)
    (C_time_of_one : Cal P w K mg base CX0 2 "time_of_one" ["plan", "way", "machine"] (sp_time_of_one A)) : FnOk P w K mg base CX0 3 f fd ["plan", "many", "way"] (sp_time_of_all A) := by
  obtain ⟨f_time_of_one, fd_time_of_one, m_time_of_one, kp_time_of_one, b_time_of_one, G_time_of_one⟩ := C_time_of_one.ex
  refine F.ok sc_time_of_all (fun vs H Q E h => by revert h; first | (rintro ⟨rfl, _⟩; rfl) | (rintro ⟨_, rfl, _⟩; rfl) | (rintro ⟨_, _, rfl, _⟩; rfl) | (rintro ⟨_, _, _, rfl, _⟩; rfl) | (rintro ⟨_, _, _, _, rfl, _⟩; rfl) | (rintro ⟨_, _, _, _, _, rfl, _⟩; rfl) | (rintro ⟨_, _, _, _, _, _, rfl, _⟩; rfl) | (rintro ⟨_, _, _, _, _, _, _, rfl, _⟩; rfl) | (rintro ⟨_, _, _, _, _, _, _, _, rfl, _⟩; rfl) | (rintro ⟨_, _, _, _, _, _, _, _, _, rfl, _⟩; rfl) | (rintro ⟨_, _, _, _, _, _, _, _, _, _, rfl, _⟩; rfl) | (rintro ⟨_, _, _, _, _, _, _, _, _, _, _, rfl, _⟩; rfl)) (fun cdv Ar outer s H vs Q E hr h => ⟨_, 
  (pss_one (ps_ret (pe_callB (cr_max rfl) (by rfl) T.b_max (by decide +kernel) (pa_cons (pe_lc (own := [("machine", 3)]) (g := gName 3) (tt := tYes) (by rfl) sc_time_of_all.nd (pi_range1 rfl T.b_range (pa_cons (pv 1) pa_nil)) (blkOk_by (N := ["plan", "many", "way", "machine"]) (sc := defScope s_time_of_all) (by decide +kernel)) (fun _ _ _ _ _ => pg_name (i := 3) sc_time_of_all.nd rfl (Or.inl rfl)) (fun _ _ _ _ _ => pts_nil) (fun _ _ _ _ _ => (pe_call G_time_of_one (hr.mono (by decide)) rfl m_time_of_one kp_time_of_one b_time_of_one .nil pass0 (pa_cons (pv 0) (pa_cons (pv 2) (pa_cons (pv 3) pa_nil)))))) pa_nil)))), ?_⟩)
  obtain ⟨a, r, p, wl, m, rfl, hp, wf, hr', hwl, hm1, hm3, k⟩ := h
  refine st_retS (evs_max (ns := (List.range m).map (Vatsld.busy p wl)) (evn_is (lc_rangeS (n := m) (qq := fun _ => true) (f := fun x => match x with | .int j => .int (Vatsld.busy p wl j.toNat : Int) | _ => .non)
    (fun R z => (evs_of (val_var rfl)) _ fun H' s => z H' s) (by omega) (fun _ _ _ _ => ans_yes) fun i H' hi _ s => ?_) ?_) (by rw [List.length_map, List.length_range]; omega)) k
  · refine evs_call (eva_cons (evs_of (val_var rfl)) fun _ _ => eva_cons (evs_of (val_var rfl)) fun _ _ => eva_cons (evs_of (val_var rfl)) fun _ _ => eva_nil) fun H3 s3 Q z => ?_
    exact ⟨a, r, p, wl, i, rfl, hp.mono (s.trans s3), wf, s3 _ _ (s _ _ hr'), hwl, z⟩
  · rw [List.filter_eq_self.mpr (by simp)]
    unfold natsV
    rw [List.map_map, List.map_map]
    rfl
end
end Tp
namespace Tp
open PySem PySem.Spec PyProof.Rows L2
section
variable {P : Program} {w : World} {K : PySem.W.Frag} {mg : Str → Option Value} {base : Heap} {A : Ad}
open Vatsld (jobAt)
open LamX (Tabs TabS TabB ExtN)
/-! ### defs whose code object is told -/
structure FunC (K : PySem.W.Frag) (x qual : Str) (st : Stmt) (f : Addr) (fd : FuncData) (c : Addr) : Prop where
  ex : ∃ (oc : Value) (od : Option Addr) (kV doc pm : Value) (an : Option Addr) (ct : Value) (osl : Array (Option Value)),
    fd = PySem.W.fnOf x qual (defArgs st) (defBody st) (defScope st) .none kV doc pm an (.ref c) ct ∧ K.lookup f = some ⟨oc, od, .func fd, osl⟩ ∧ PySem.W.codeIn K (.ref c) qual = true
  kp : PySem.W.keepIn K (.ref f) = true
theorem FunC.fn {x qual : Str} {st : Stmt} {f c : Addr} {fd : FuncData} (F : FunC K x qual st f fd c) : Fun K x qual st f fd :=
  let ⟨oc, od, kV, doc, pm, an, ct, osl, h⟩ := F.ex
  ⟨⟨oc, od, kV, doc, pm, an, .ref c, ct, osl, h⟩, F.kp⟩
theorem FunC.ok {x qual : Str} {st : Stmt} {f c : Addr} {fd : FuncData} {N ps : List Str} {k : Nat} {sp : Sp} (F : FunC K x qual st f fd c) (S : FnScope N ps (defScope st)) (len : ∀ vs H Q E, sp vs H Q E → vs.length = ps.length)
    (hbody : ∀ (A : Around) (outer : List Env) (s : Shared) (H : Hp) (vs : List V) (Q : VK) (E : XK), Room k (A.deeper (envOfC qual (defScope st) s.heap.objs.size f (.ref c))) → sp vs H Q E →
      ∃ t, PSs (cxOf CX0 P w K mg base N qual (defScope st) f (.ref c) A outer s H E).nox (defBody st) t ∧ t { nx := fun _ H' => Q .non H', rt := Q } (start N vs) H) : FnOk P w K mg base CX0 (k + 1) f fd ps sp := by
  obtain ⟨oc, od, kV, doc, pm, an, ct, osl, rfl, lk, hcd⟩ := F.ex
  refine fn_of lk hcd S len fun A outer s H vs Q E hr hsp => ?_
  obtain ⟨t, h, q⟩ := hbody A outer s H vs Q E hr hsp
  exact ⟨t, h.nox, q⟩
/-! ### the tables -/
def lamName (x : Str) : Str := x ++ ".<locals>." ++ "<lambda>"
def tabsOf (A : Ad) : List (Addr × Str) := [(A.pChoice, lamName "best_choice"), (A.pWay, lamName "best_way")]
theorem tab_mem_best_choice (A : Ad) : (A.pChoice, lamName "best_choice") ∈ tabsOf A := List.mem_cons_self
theorem tab_mem_best_way (A : Ad) : (A.pWay, lamName "best_way") ∈ tabsOf A := List.mem_cons_of_mem _ List.mem_cons_self
theorem tab_only_best_choice (hne : A.pChoice ≠ A.pWay) : ∀ p ∈ tabsOf A, p.1 = A.pChoice → p.2 = lamName "best_choice" := fun p hp e => by
  rcases List.mem_cons.mp hp with z | z
  · rw [z]
  · rw [List.mem_singleton] at z
    rw [z] at e
    exact absurd e.symm hne
theorem tab_only_best_way (hne : A.pChoice ≠ A.pWay) : ∀ p ∈ tabsOf A, p.1 = A.pWay → p.2 = lamName "best_way" := fun p hp e => by
  rcases List.mem_cons.mp hp with z | z
  · rw [z] at e
    exact absurd e hne
  · rw [List.mem_singleton] at z
    rw [z]
theorem PlanAt.ext {H H' : Hp} {a : Addr} {p : Vatsld.Plan} (e : ExtN H H') (h : PlanAt A H a p) : PlanAt A H' a p :=
  let ⟨dx, lg, lt, gs, ts, e1, e2, e3, e4, e5⟩ := h
  ⟨dx, lg, lt, gs, ts, e _ _ e1 (by intro _ z; cases z), e _ _ e2 (by intro _ z; cases z), e _ _ e3 (by intro _ z; cases z), e4.mono fun _ _ ⟨d, z⟩ => ⟨d, e _ _ z (by intro _ z; cases z)⟩, e5.mono fun _ _ ⟨d, la, z, z2⟩ => ⟨d, la, e _ _ z (by intro _ z; cases z), e _ _ z2 (by intro _ z; cases z)⟩⟩
theorem extN_lst {H H' : Hp} {a : Addr} {xs : List V} (e : ExtN H H') (h : H a = some (.lst xs)) : H' a = some (.lst xs) := e _ _ h (by intro _ z; cases z)
theorem _root_.L2.Same.extN {H H' : Hp} (s : Same H H') : ExtN H H' := fun b o e _ => s b o e
theorem extN_free {H H' : Hp} {q : Addr} (e : ExtN H H') (hT : ∀ ps, H q ≠ some (.tbl ps)) (n : H' q = none) : H q = none := by
  cases h : H q with
  | none => rfl
  | some o => rw [e q o h fun ps z => hT ps (by rw [h, z])] at n; cases n
theorem ret_minCall {σ : L2.St} {H : Hp} {sp : Sp} {E : XK} {ta : TA} {vs : List V} {tu : Bool} {T : List (Addr × Str)} {j : Nat} {tb : TE} {D : Ends} (h : EvA ta σ H vs) (hs : ∀ H', Same H H' → sp vs H' (minQ T K tu j tb σ D.rt) E) : tRet (tMinLam T K tu j (tCall sp [] E ta) tb) D σ H := h _ fun H1 s1 => by
  show sp (vs ++ []) H1 _ E
  rw [List.append_nil]
  exact hs H1 s1
def sp_best_way (A : Ad) : Sp := fun vs H Q _ => ∃ (a : Addr) (p : Vatsld.Plan) (m : Nat), vs = [.ref a, .int (m : Int)] ∧ PlanAt A H a p ∧ WF p ∧ 1 ≤ m ∧ m ≤ 3 ∧ Tabs (tabsOf A) H ∧
  ∀ q H', ExtN H H' → Tabs (tabsOf A) H' → H' q = some (.lst (natsV (firstMin (wayKey p m) (Vatsld.waysFor m p.jobs.length)))) → Q (.ref q) H'
/-- the item that min gives, of a list of lists -/
theorem min_item {H : Hp} {xs : List V} {ls : List (List Nat)} {key : List Nat → List Int} {x : V} (hE : Each (NL H) xs ls) (hn : 0 < xs.length) (hx : xs[argBest (btOf fun i => key (ls.getD i [])) (xs.length - 1)]? = some x) : ∃ q, x = .ref q ∧ H q = some (.lst (natsV (firstMin key ls))) := by
  have hl := hE.1
  obtain ⟨h1, h2⟩ := firstMin_at key ls (by omega)
  rw [hl] at hx
  obtain ⟨l, hl'⟩ : ∃ l, ls[argBest (btOf fun i => key (ls.getD i [])) (ls.length - 1)]? = some l := ⟨_, List.getElem?_eq_getElem h1⟩
  obtain ⟨q, e1, e2⟩ := hE.2 _ l hl'
  rw [hx] at e1
  cases e1
  refine ⟨q, rfl, ?_⟩
  have h3 : l = firstMin key ls := by
    rw [← h2, List.getD_eq_getElem?_getD]
    show l = (ls[argBest (btOf fun i => key (ls.getD i [])) (ls.length - 1)]?).getD []
    rw [hl']
    rfl
  rw [← h3]
  exact e2
theorem each_at {H : Hp} {xs : List V} {ls : List (List Nat)} {i : Nat} {x : V} (hE : Each (NL H) xs ls) (hx : xs[i]? = some x) : ∃ (q : Addr) (l : List Nat), x = .ref q ∧ ls[i]? = some l ∧ H q = some (.lst (natsV l)) ∧ l ∈ ls := by
  have hi := (List.getElem?_eq_some_iff.mp hx).1
  obtain ⟨l, hl⟩ : ∃ l, ls[i]? = some l := ⟨_, List.getElem?_eq_getElem (by rw [← hE.1]; exact hi)⟩
  obtain ⟨q, e1, e2⟩ := hE.2 i l hl
  rw [hx] at e1
  cases e1
  exact ⟨q, l, rfl, hl, e2, List.mem_of_getElem? hl⟩
theorem ret_minVar {σ : L2.St} {H : Hp} {te tb : TE} {tu : Bool} {T : List (Addr × Str)} {j : Nat} {D : Ends} {v : V} (h : Val te σ H v) (hq : minQ T K tu j tb σ D.rt v H) : tRet (tMinLam T K tu j te tb) D σ H := h _ hq
theorem set_lcCall {σ : L2.St} {H : Hp} {sp : Sp} {E : XK} {ta : TA} {vs : List V} {g : TG} {tt : TT} {te : TE} {ws : List Nat} {D : Ends} {i : Nat} {u : TS} (h : EvA ta σ H vs) (hs : ∀ H', Same H H' → sp vs H' (fun v H1 => tLc (iList K (tC v)) g tt te ws σ H1 fun y H2 => u D (σ.set i (some y)) H2) E) : tSeq (tAsg (tLc (iList K (tCall sp [] E ta)) g tt te ws) (gName i)) u D σ H := h _ fun H1 s1 => by
  show sp (vs ++ []) H1 _ E
  rw [List.append_nil]
  exact hs H1 s1
/-! ### best_way -/
abbrev s_best_way : Stmt := top 29
theorem sc_best_way : FnScope ["plan", "many", "way"] ["plan", "many"] (defScope s_best_way) := ⟨rfl, rfl, rfl, by decide +kernel, rfl, by decide +kernel, by decide +kernel⟩
theorem ok_best_way {f c : Addr} {fd : FuncData} (F : FunC K "best_way" "best_way" s_best_way f fd c) (T : Txt K mg A)
    (C_time_of_all : Cal P w K mg base CX0 3 "time_of_all" ["plan", "many", "way"] (sp_time_of_all A))
    (C_all_ways : Cal P w K mg base CX0 1 "all_ways" ["many", "count"] (sp_all_ways A))
    (TB : LamX.TabB base mg c A.pWay) (hne : A.pChoice ≠ A.pWay) : FnOk P w K mg base CX0 6 f fd ["plan", "many"] (sp_best_way A) := by
  obtain ⟨f_time_of_all, fd_time_of_all, m_time_of_all, kp_time_of_all, b_time_of_all, G_time_of_all⟩ := C_time_of_all.ex
  obtain ⟨f_all_ways, fd_all_ways, m_all_ways, kp_all_ways, b_all_ways, G_all_ways⟩ := C_all_ways.ex
  have hmT := tab_mem_best_way A
  have huT := tab_only_best_way hne
  refine F.ok sc_best_way (fun vs H Q E h => by revert h; first | (rintro ⟨rfl, _⟩; rfl) | (rintro ⟨_, rfl, _⟩; rfl) | (rintro ⟨_, _, rfl, _⟩; rfl) | (rintro ⟨_, _, _, rfl, _⟩; rfl) | (rintro ⟨_, _, _, _, rfl, _⟩; rfl) | (rintro ⟨_, _, _, _, _, rfl, _⟩; rfl) | (rintro ⟨_, _, _, _, _, _, rfl, _⟩; rfl) | (rintro ⟨_, _, _, _, _, _, _, rfl, _⟩; rfl) | (rintro ⟨_, _, _, _, _, _, _, _, rfl, _⟩; rfl) | (rintro ⟨_, _, _, _, _, _, _, _, _, rfl, _⟩; rfl) | (rintro ⟨_, _, _, _, _, _, _, _, _, _, rfl, _⟩; rfl) | (rintro ⟨_, _, _, _, _, _, _, _, _, _, _, rfl, _⟩; rfl)) (fun Ar outer s H vs Q E hr h => ⟨_, 
  (pss_one (ps_ret (pe_minLam (tu := false) (T := tabsOf A) (a := "way") (k := 3) (j := 2) (by rfl) T.b_min (pe_call G_all_ways (hr.mono (by decide)) rfl m_all_ways kp_all_ways b_all_ways .nil pass0 (pa_cons (pv 1) (pa_cons (pe_callB call_len_seq (by rfl) T.b_len (by decide +kernel) (pa_cons (pe_fld (pv 0) rfl) pa_nil)) pa_nil))) TB rfl hmT huT (hr.mono (by decide)) (lamP_by (sc := defScope s_best_way) (by decide +kernel)) sc_best_way.nd rfl rfl (fun _ _ _ _ _ _ => rfl) (fun A s H f c hr => (pe_call G_time_of_all (hr.mono (by decide)) rfl m_time_of_all kp_time_of_all b_time_of_all .nil pass0 (pa_cons (pv 0) (pa_cons (pv 1) (pa_cons (pv 2) pa_nil)))))))), ?_⟩)
  obtain ⟨a, p, m, rfl, hp, wf, hm1, hm3, hT, k⟩ := h
  obtain ⟨dx, lg, lt, gs, ts, e1, e2, e3, e4, e5⟩ := hp.lens
  refine ret_minCall (vs := [.int (m : Int), .int (p.jobs.length : Int)]) (eva_cons (evs_of (val_var rfl)) fun H0 s0 => eva_cons (evs_of (val_len (SqL.of (s0 _ _ e4)) e5 (val_tests T (val_var rfl) (s0 _ _ e1)))) fun _ _ => eva_nil) fun H0 s0 => ?_
  refine ⟨m, p.jobs.length, rfl, hm3, wf.nj, fun q H1 nq s01 hL => ?_⟩
  have s1 := s0.trans s01
  obtain ⟨xs, eq, hE⟩ := hL
  have hpos : 0 < xs.length := by
    rw [hE.1]
    exact ways_some hm1 _
  refine ⟨hT.ext s1, fun H2 eN T2 => ⟨q, xs, fun i => wayKey p m ((Vatsld.waysFor m p.jobs.length).getD i []), rfl, SqL.of (extN_lst eN eq), hpos, fun i x H' hx s Q' z => ?_, fun x H' hx s => ?_⟩⟩
  · obtain ⟨lq, l, rfl, hl, f2, hmem⟩ := each_at hE hx
    have f3 := s _ _ (extN_lst eN f2)
    have hgd : (Vatsld.waysFor m p.jobs.length).getD i [] = l := by rw [List.getD_eq_getElem?_getD, hl]; rfl
    refine evs_call (v := .int ((Vatsld.timeOf p m l : Nat) : Int)) (eva_cons (evs_of (val_var rfl)) fun _ _ => eva_cons (evs_of (val_var rfl)) fun _ _ => eva_cons (evs_of (val_var rfl)) fun _ _ => eva_nil) (fun H3 s3 Q z => ?_) Q' fun H'' s'' => z _ H'' s'' ⟨_, by dsimp only; rw [hgd], rfl⟩
    exact ⟨a, lq, p, l, m, rfl, ((hp.mono s1).ext eN).mono (s.trans s3), wf, s3 _ _ f3, (ways_ok hmem).1, hm1, hm3, z⟩
  · obtain ⟨lq, rfl, e⟩ := min_item hE hpos hx
    exact k lq H' ((s1.extN.trans eN).trans s.extN) (T2.ext s) (s _ _ (extN_lst eN e))
def sp_best_choice (A : Ad) : Sp := fun vs H Q _ => ∃ (a : Addr) (p : Vatsld.Plan) (b : Nat), vs = [.ref a, .int (b : Int)] ∧ PlanAt A H a p ∧ WF p ∧ Tabs (tabsOf A) H ∧
  ∀ q H', ExtN H H' → Tabs (tabsOf A) H' → H' q = some (.lst (natsV (firstMin (choKey p) (within p b)))) → Q (.ref q) H'
/-! ### best_choice -/
abbrev s_best_choice : Stmt := top 12
theorem sc_best_choice : FnScope ["plan", "most", "possible", "chosen"] ["plan", "most"] (defScope s_best_choice) := ⟨rfl, rfl, rfl, by decide +kernel, rfl, by decide +kernel, by decide +kernel⟩
theorem ok_best_choice {f c : Addr} {fd : FuncData} (F : FunC K "best_choice" "best_choice" s_best_choice f fd c) (T : Txt K mg A)
    (C_cost_together : Cal P w K mg base CX0 1 "cost_together" ["plan", "numbers"] (sp_cost_together A))
    (C_miss_of : Cal P w K mg base CX0 1 "miss_of" ["plan", "chosen"] (sp_miss_of A))
    (C_all_choices : Cal P w K mg base CX0 3 "all_choices" ["plan"] (sp_all_choices A))
    (TB : LamX.TabB base mg c A.pChoice) (hne : A.pChoice ≠ A.pWay) : FnOk P w K mg base CX0 4 f fd ["plan", "most"] (sp_best_choice A) := by
  obtain ⟨f_cost_together, fd_cost_together, m_cost_together, kp_cost_together, b_cost_together, G_cost_together⟩ := C_cost_together.ex
  obtain ⟨f_miss_of, fd_miss_of, m_miss_of, kp_miss_of, b_miss_of, G_miss_of⟩ := C_miss_of.ex
  obtain ⟨f_all_choices, fd_all_choices, m_all_choices, kp_all_choices, b_all_choices, G_all_choices⟩ := C_all_choices.ex
  have hmT := tab_mem_best_choice A
  have huT := tab_only_best_choice hne
  refine F.ok sc_best_choice (fun vs H Q E h => by revert h; first | (rintro ⟨rfl, _⟩; rfl) | (rintro ⟨_, rfl, _⟩; rfl) | (rintro ⟨_, _, rfl, _⟩; rfl) | (rintro ⟨_, _, _, rfl, _⟩; rfl) | (rintro ⟨_, _, _, _, rfl, _⟩; rfl) | (rintro ⟨_, _, _, _, _, rfl, _⟩; rfl) | (rintro ⟨_, _, _, _, _, _, rfl, _⟩; rfl) | (rintro ⟨_, _, _, _, _, _, _, rfl, _⟩; rfl) | (rintro ⟨_, _, _, _, _, _, _, _, rfl, _⟩; rfl) | (rintro ⟨_, _, _, _, _, _, _, _, _, rfl, _⟩; rfl) | (rintro ⟨_, _, _, _, _, _, _, _, _, _, rfl, _⟩; rfl) | (rintro ⟨_, _, _, _, _, _, _, _, _, _, _, rfl, _⟩; rfl)) (fun Ar outer s H vs Q E hr h => ⟨_, 
  (pss_cons (ps_setLc (i := 2) (own := [("chosen", 3)]) (g := gName 3) (by rfl) sc_best_choice.nd rfl rfl (sw_true rfl rfl rfl (by decide +kernel)) (pi_list (pe_call G_all_choices (hr.mono (by decide)) rfl m_all_choices kp_all_choices b_all_choices .nil pass0 (pa_cons (pv 0) pa_nil))) (blkOk_by (N := ["plan", "most", "possible", "chosen"]) (sc := defScope s_best_choice) (by decide +kernel)) (fun _ _ _ _ _ => pg_name (i := 3) sc_best_choice.nd rfl (Or.inl rfl)) (fun _ _ _ _ _ => (pts_one (pt_cmpR op_le (pe_call G_cost_together (hr.mono (by decide)) rfl m_cost_together kp_cost_together b_cost_together .nil pass0 (pa_cons (pv 0) (pa_cons (pv 3) pa_nil))) (pv 1) (nomark _)))) (fun _ _ _ _ _ => (pv 3)))
      (pss_one (ps_ret (pe_minLam (tu := true) (T := tabsOf A) (a := "chosen") (k := 1) (j := 3) (by rfl) T.b_min (pv 2) TB rfl hmT huT (hr.mono (by decide)) (lamP_by (sc := defScope s_best_choice) (by decide +kernel)) sc_best_choice.nd rfl rfl (fun _ _ _ _ _ _ => rfl) (fun A s H f c hr => (pe_tup (pa_cons (pe_call G_miss_of (hr.mono (by decide)) rfl m_miss_of kp_miss_of b_miss_of .nil pass0 (pa_cons (pv 0) (pa_cons (pv 3) pa_nil))) (pa_cons (pe_call G_cost_together (hr.mono (by decide)) rfl m_cost_together kp_cost_together b_cost_together .nil pass0 (pa_cons (pv 0) (pa_cons (pv 3) pa_nil))) pa_nil)))))))), ?_⟩)
  obtain ⟨a, p, b, rfl, hp, wf, hT, k⟩ := h
  refine set_lcCall (vs := [.ref a]) (eva_cons (evs_of (val_var rfl)) fun _ _ => eva_nil) fun H0 s0 => ?_
  refine ⟨a, p, rfl, hp.mono s0, wf, fun q H1 nq s01 hL => ?_⟩
  have s1 := s0.trans s01
  obtain ⟨xs, eq, hE⟩ := hL
  have hnj := wf.nj
  have hlen : xs.length ≤ 128 := by
    have h1 : (choices p).length ≤ (Vatsld.subsets (List.range p.jobs.length)).length := List.length_filter_le _ _
    rw [subs_len, List.length_range] at h1
    have h2 := pow128 hnj
    rw [hE.1]
    omega
  refine lc_listS (K := K) (tl := tC (.ref q)) (f := fun x => x) (qq := fun x => decide (Vatsld.costOf p (natsIn H1 x) ≤ b)) (evs_of val_c) (SqL.of eq) (small_line (by omega)) (fun i x H' hx s => ?_) (fun i x H' hx _ s => evs_of (val_var rfl)) _ fun r H2 nr s2 e2 => ?_
  · obtain ⟨lq, l, rfl, hl, f2, hmem⟩ := each_at hE hx
    have hok := choices_ok hmem
    rw [natsIn_is f2]
    refine ans_is (b := decide (((Vatsld.costOf p l : Nat) : Int) ≤ (b : Int))) (ans_test (evs_op (evs_call (v := .int ((Vatsld.costOf p l : Nat) : Int)) (eva_cons (evs_of (val_var rfl)) fun _ _ => eva_cons (evs_of (val_var rfl)) fun _ _ => eva_nil) fun H3 s3 Q z => ?_) (fun _ _ => evs_of (val_var rfl)) fun H3 s3 Q z => ⟨_, _, rfl, rfl, z H3 (Same.refl H3)⟩)) ?_
    · exact ⟨a, lq, p, l, rfl, hp.mono (s1.trans (s.trans s3)), wf, s3 _ _ (s _ _ f2), hok.1, by omega, z⟩
    · rw [Bool.eq_iff_iff, decide_eq_true_iff, decide_eq_true_iff]
      omega
  rw [List.map_id'] at e2
  have hE2 : Each (NL H2) (xs.filter fun x => decide (Vatsld.costOf p (natsIn H1 x) ≤ b)) (within p b) := NL.each (each_filter hE fun q' l h' => by rw [natsIn_is h']) s2
  have hpos : 0 < (xs.filter fun x => decide (Vatsld.costOf p (natsIn H1 x) ≤ b)).length := by
    rw [hE2.1]
    exact within_some p b
  have s12 := s1.trans s2
  refine ret_minVar (val_var rfl) ⟨hT.ext s12, fun H3 eN T3 => ⟨r, _, fun i => choKey p ((within p b).getD i []), rfl, SqL.of (extN_lst eN e2), hpos, fun i x H' hx s Q' z => ?_, fun x H' hx s => ?_⟩⟩
  · obtain ⟨lq, l, rfl, hl, f2, hmem⟩ := each_at hE2 hx
    have f3 := s _ _ (extN_lst eN f2)
    have hok := within_ok hmem
    have hP := ((hp.mono s12).ext eN).mono s
    have hgd : (within p b).getD i [] = l := by rw [List.getD_eq_getElem?_getD, hl]; rfl
    refine evn_tup (vs := [.int ((Vatsld.missOf p l : Nat) : Int), .int ((Vatsld.costOf p l : Nat) : Int)]) (eva_cons (evs_call (eva_cons (evs_of (val_var rfl)) fun _ _ => eva_cons (evs_of (val_var rfl)) fun _ _ => eva_nil) fun H4 s4 Q z => ?_) fun H4 s4 => eva_cons (evs_call (eva_cons (evs_of (val_var rfl)) fun _ _ => eva_cons (evs_of (val_var rfl)) fun _ _ => eva_nil) fun H5 s5 Q z => ?_) fun _ _ => eva_nil) (by simp) Q' fun t H'' nt s'' e'' => z _ H'' s'' ⟨t, rfl, by dsimp only; rw [hgd]; exact e''⟩
    · exact ⟨a, lq, p, l, rfl, hP.mono s4, wf, s4 _ _ f3, z⟩
    · exact ⟨a, lq, p, l, rfl, hP.mono (s4.trans s5), wf, s5 _ _ (s4 _ _ f3), hok.1, by omega, z⟩
  · obtain ⟨lq, rfl, e⟩ := min_item hE2 hpos hx
    exact k lq H' ((s12.extN.trans eN).trans s.extN) (T3.ext s) (s _ _ (extN_lst eN e))
end
end Tp
namespace Tp
open PySem PySem.Spec PyProof.Rows L2
section
variable {P : Program} {w : World} {K : PySem.W.Frag} {mg : Str → Option Value} {base : Heap} {A : Ad}
open Vatsld (Toks Fault)
/-! ### what a call promises -/
theorem tabs_but {T : List (Addr × Str)} {H H' : Hp} {r : Addr} {o : HO} (h : LamX.Tabs T H) (hr : H r = some o) (n1 : ∀ ps, o ≠ .tbl ps) (n2 : ∀ φ, o ≠ .ext φ) (k : ∀ b u, b ≠ r → H b = some u → H' b = some u) : LamX.Tabs T H' := fun p hp => by
  obtain ⟨ps, h1, h2, h3⟩ := h p hp
  refine ⟨ps, k _ _ (fun z => ?_) h1, h2, fun pos cv hc => ?_⟩
  · rw [z, hr] at h1
    exact n1 ps (Option.some.inj h1)
  · obtain ⟨c, e1, e2⟩ := h3 pos cv hc
    refine ⟨c, e1, k _ _ (fun z => ?_) e2⟩
    rw [z, hr] at e2
    exact n2 _ (Option.some.inj e2)
structure St (K : PySem.W.Frag) (A : Ad) (H : Hp) (ha ra ca qa : Addr) (pl : Nat) (l : List Int) (s : Vatsld.Plan) : Prop where
  hoN : ∃ pa, HoAt A H ha pa ∧ PlanAtN A (fun a => a ≠ qa) H pa s
  cr : CRAt A H ra ca pl
  sqQ : SqQ K H qa ca (l.map V.int)
  qs : ∃ xs, H qa = some (.lst xs)
  wf : WF s
  len : l.length ≤ 17000
  le : pl ≤ l.length
  tabs : LamX.Tabs (tabsOf A) H
theorem St.ho {H : Hp} {ha ra ca qa : Addr} {pl : Nat} {l : List Int} {st : Vatsld.Plan} (h : St K A H ha ra ca qa pl l st) : ∃ pa, HoAt A H ha pa ∧ PlanAt A H pa st := let ⟨pa, h1, h2⟩ := h.hoN; ⟨pa, h1, h2.at⟩
theorem St.sq {H : Hp} {ha ra ca qa : Addr} {pl : Nat} {l : List Int} {st : Vatsld.Plan} (h : St K A H ha ra ca qa pl l st) : SqL K H ca (l.map V.int) := h.sqQ.sq
def Keep2 (a b : Addr) (H H' : Hp) : Prop := ∀ x o, x ≠ a → x ≠ b → (∀ ps, o ≠ .tbl ps) → H x = some o → H' x = some o
theorem _root_.L2.Same.keep2 {H H' : Hp} (s : Same H H') (a b : Addr) : Keep2 a b H H' := fun x o _ _ _ e => s x o e
theorem keep2_ext {H H' : Hp} (s : LamX.ExtN H H') (a b : Addr) : Keep2 a b H H' := fun x o _ _ n e => s x o e n
theorem St.mono {H H' : Hp} {ha ra ca qa : Addr} {pl : Nat} {l : List Int} {st : Vatsld.Plan} (h : St K A H ha ra ca qa pl l st) (s : Same H H') : St K A H' ha ra ca qa pl l st :=
  ⟨let ⟨pa, h1, h2⟩ := h.hoN; ⟨pa, h1.mono s, h2.mono s⟩, h.cr.mono s, h.sqQ.mono s, let ⟨xs, e⟩ := h.qs; ⟨xs, s _ _ e⟩, h.wf, h.len, h.le, h.tabs.ext s⟩
theorem ho_ne {H : Hp} {ha ra pa ca : Addr} {pl : Nat} (h1 : HoAt A H ha pa) (h2 : CRAt A H ra ca pl) : ha ≠ ra := fun z => by
  obtain ⟨d1, e1⟩ := h1
  obtain ⟨d2, e2⟩ := h2
  rw [z, e2] at e1
  injection e1 with e1
  injection e1 with _ _ e1
  have := hoF_plan pa
  rw [← e1, crF_m (by decide +kernel) (by decide +kernel)] at this
  cases this
/-- behind what the reader of the calls takes -/
theorem St.took {H H' : Hp} {ha ra ca qa : Addr} {pl pl' : Nat} {l : List Int} {st : Vatsld.Plan} (h : St K A H ha ra ca qa pl l st) (k : Keep ra H H') (c : CRAt A H' ra ca pl') (hl : pl' ≤ l.length) : St K A H' ha ra ca qa pl' l st := by
  obtain ⟨pa, h1, h2⟩ := h.hoN
  obtain ⟨dr, er⟩ := h.cr
  obtain ⟨xs, eq⟩ := h.qs
  have hne := ho_ne h1 h.cr
  obtain ⟨dh, eh⟩ := h1
  exact ⟨⟨pa, ⟨dh, k _ _ hne eh⟩, plan_keepN h2 er (crF_m (by decide +kernel) (by decide +kernel)) (crF_m (by decide +kernel) (by decide +kernel)) k⟩, c, h.sqQ.keep er k, ⟨xs, k _ _ (fun z => by rw [z, er] at eq; cases eq) eq⟩, h.wf, h.len, hl, tabs_but h.tabs er (by intro _ z; cases z) (by intro _ z; cases z) k⟩
theorem Keep.two {H H' : Hp} {a b : Addr} (k : Keep b H H') : Keep2 a b H H' := fun x o _ n _ e => k x o n e
theorem Keep2.trans {H H1 H2 : Hp} {a b : Addr} (k : Keep2 a b H H1) (j : Keep2 a b H1 H2) : Keep2 a b H H2 := fun x o n1 n2 n3 e => j x o n1 n2 n3 (k x o n1 n2 n3 e)
theorem St.neq {H : Hp} {ha ra ca qa q : Addr} {pl : Nat} {l : List Int} {st : Vatsld.Plan} (h : St K A H ha ra ca qa pl l st) (n : H q = none) : q ≠ qa := fun z => by
  obtain ⟨xs, e⟩ := h.qs
  rw [z, e] at n
  cases n
theorem St.fresh {H : Hp} {ha ra ca qa q : Addr} {pl : Nat} {l : List Int} {st : Vatsld.Plan} (h : St K A H ha ra ca qa pl l st) (n : H q = none) : q ≠ ha ∧ q ≠ ra := by
  obtain ⟨pa, ⟨dh, eh⟩, _⟩ := h.ho
  obtain ⟨dr, er⟩ := h.cr
  exact ⟨(fun z => by rw [z, eh] at n; cases n), (fun z => by rw [z, er] at n; cases n)⟩
def sp_call (K : PySem.W.Frag) (A : Ad) (k : Int) : Sp := fun vs H Q _ => ∃ (ha ra ca qa : Addr) (pl : Nat) (l : List Int) (st : Vatsld.Plan) (c : List (List Int)) (t : List Int), vs = [.ref ha, .ref ra] ∧ St K A H ha ra ca qa pl l st ∧
  PyFlat.call PyVatsld.shape (k :: l.drop pl) = some (c, t) ∧
  ∀ la H', la ≠ qa → Keep2 ha ra H H' → St K A H' ha ra ca qa (l.length - t.length) l (VatsldNeutral.step st c).1 → H' la = some (.lst ((VatsldNeutral.step st c).2.map V.int)) → (VatsldNeutral.step st c).2.length ≤ 15000 → Q (.ref la) H'
theorem call_none {k : Int} {r : List Int} {c : List (List Int)} {t : List Int} (hk : PyVatsld.shape k = some (0, 0)) (h : PyFlat.call PyVatsld.shape (k :: r) = some (c, t)) : c = [[k]] ∧ t = r := by
  simp only [PyFlat.call, hk, PyFlat.rows] at h
  split at h
  · cases h
  · cases h
    exact ⟨rfl, rfl⟩
theorem call_row {k : Int} {r : List Int} {c : List (List Int)} {t : List Int} (hk : PyVatsld.shape k = some (0, 1)) (h : PyFlat.call PyVatsld.shape (k :: r) = some (c, t)) : ∃ row, PyFlat.row r = some (row, t) ∧ c = [[k], row] := by
  simp only [PyFlat.call, hk, PyFlat.rows] at h
  split at h
  · cases h
  · rw [List.drop_zero] at h
    cases e : PyFlat.row r with
    | none => rw [e] at h; cases h
    | some x =>
      rw [e] at h
      cases h
      exact ⟨_, rfl, rfl⟩
theorem evn_cat {σ : L2.St} {H : Hp} {ta tb : TE} {xs ys : List V} {q : Addr} (ha : EvN ta σ H (.lst xs)) (hb : ∀ H', Same H H' → EvN tb σ H' (.lst ys)) (hl : xs.length + ys.length < 1000000) : EvN (tOp rCat ta tb) σ H (.lst (xs ++ ys)) := fun Q z =>
  ha _ fun a H1 n1 s1 e1 => hb H1 s1 _ fun b H2 n2 s2 e2 => ⟨a, b, xs, ys, rfl, rfl, s2 _ _ e1, e2, by rw [sizeLine_eq]; omega, fun p hp => z p _ ((s1.trans s2).free hp) ((s1.trans s2).trans (Same.new hp)) upd_same⟩
theorem evn_catV {σ : L2.St} {H : Hp} {ta tb : TE} {xs ys : List V} {q : Addr} (ha : EvN ta σ H (.lst xs)) (hb : ∀ H', Same H H' → Val tb σ H' (.ref q)) (hq : H q = some (.lst ys)) (hl : xs.length + ys.length < 1000000) : EvN (tOp rCat ta tb) σ H (.lst (xs ++ ys)) := fun Q z =>
  ha _ fun a H1 n1 s1 e1 => hb H1 s1 _ ⟨a, q, xs, ys, rfl, rfl, e1, s1 _ _ hq, by rw [sizeLine_eq]; omega, fun p hp => z p _ (s1.free hp) (s1.trans (Same.new hp)) upd_same⟩
/-- f(g(..), h(..)): the last a new object, told where it lies -/
theorem nats_ints (l : List Nat) : natsV l = (Vatsld.toInts l).map V.int := natsV_ints l
theorem drop_len {l : List Int} {pl : Nat} (h : pl ≤ l.length) : l.length - (l.drop pl).length = pl := by
  rw [List.length_drop]
  omega

abbrev sp_answer_written (K : PySem.W.Frag) (A : Ad) : Sp := sp_call K A 1
abbrev sp_answer_expected (K : PySem.W.Frag) (A : Ad) : Sp := sp_call K A 2
abbrev sp_answer_best (K : PySem.W.Frag) (A : Ad) : Sp := sp_call K A 3
abbrev sp_answer_rule (K : PySem.W.Frag) (A : Ad) : Sp := sp_call K A 4
abbrev sp_answer_load (K : PySem.W.Frag) (A : Ad) : Sp := sp_call K A 0
/-! ### answer_written -/
abbrev s_answer_written : Stmt := top 105
theorem sc_answer_written : FnScope ["holder", "reader"] ["holder", "reader"] (defScope s_answer_written) := ⟨rfl, rfl, rfl, by decide +kernel, rfl, by decide +kernel, by decide +kernel⟩
theorem ok_answer_written {f : Addr} {fd : FuncData} (F : Fun K "answer_written" "answer_written" s_answer_written f fd) (T : Txt K mg A)
    (C_written_plan : Cal P w K mg base CX0 3 "written_plan" ["plan"] (sp_written_plan A)) : FnOk P w K mg base CX0 4 f fd ["holder", "reader"] (sp_answer_written K A) := by
  obtain ⟨f_written_plan, fd_written_plan, m_written_plan, kp_written_plan, b_written_plan, G_written_plan⟩ := C_written_plan.ex
  refine F.ok sc_answer_written (fun vs H Q E h => by revert h; first | (rintro ⟨rfl, _⟩; rfl) | (rintro ⟨_, rfl, _⟩; rfl) | (rintro ⟨_, _, rfl, _⟩; rfl) | (rintro ⟨_, _, _, rfl, _⟩; rfl) | (rintro ⟨_, _, _, _, rfl, _⟩; rfl) | (rintro ⟨_, _, _, _, _, rfl, _⟩; rfl) | (rintro ⟨_, _, _, _, _, _, rfl, _⟩; rfl) | (rintro ⟨_, _, _, _, _, _, _, rfl, _⟩; rfl) | (rintro ⟨_, _, _, _, _, _, _, _, rfl, _⟩; rfl) | (rintro ⟨_, _, _, _, _, _, _, _, _, rfl, _⟩; rfl) | (rintro ⟨_, _, _, _, _, _, _, _, _, _, rfl, _⟩; rfl) | (rintro ⟨_, _, _, _, _, _, _, _, _, _, _, rfl, _⟩; rfl)) (fun cdv Ar outer s H vs Q E hr h => ⟨_, 
  (pss_one (ps_ret (pe_op op_cat (pe_lst (pa_cons pe_int pa_nil)) (pe_call G_written_plan (hr.mono (by decide)) rfl m_written_plan kp_written_plan b_written_plan .nil pass0 (pa_cons (pe_fld (pv 0) rfl) pa_nil))))), ?_⟩)
  obtain ⟨ha, ra, ca, qa, pl, l, st, c, t, rfl, hS, hc, k⟩ := h
  obtain ⟨rfl, rfl⟩ := call_none rfl hc
  obtain ⟨pa, ⟨dh, eh⟩, hP⟩ := hS.ho
  have hwl := write_len hS.wf
  refine st_retN' (o := .lst ((0 :: Vatsld.toInts (Vatsld.writePlan st)).map V.int)) (evn_is (evn_cat (q := ha) (xs := [.int 0]) (ys := natsV (Vatsld.writePlan st)) (evn_lst (eva_cons (evs_of val_c) fun _ _ => eva_nil) (by simp)) (fun H1 s1 => evn_call (eva_cons (evs_of (val_fld (val_var rfl) (s1 _ _ eh) T.cHolder T.n_Holder_plan (hoF_plan _))) fun _ _ => eva_nil) fun H2 s2 Q z => ?_) (by rw [natsV_len]; show 1 + _ < _; omega)) (by rw [nats_ints]; rfl)) fun q H1 nq s1 e1 => ?_
  · exact ⟨pa, st, rfl, hP.mono (s1.trans s2), hS.wf, fun la H3 n3 s3 e3 => z la H3 n3 s3 e3⟩
  · refine k q H1 (hS.neq nq) (s1.keep2 _ _) ?_ e1 ?_
    · rw [drop_len hS.le]
      exact hS.mono s1
    · show (0 :: Vatsld.toInts (Vatsld.writePlan st)).length ≤ _
      unfold Vatsld.toInts
      rw [List.length_cons, List.length_map]
      omega
def sp_answer_order (A : Ad) : Sp := fun vs H Q _ => ∃ (a r : Addr) (p : Vatsld.Plan) (l : List Nat), vs = [.ref a, .ref r] ∧ PlanAt A H a p ∧ WF p ∧ H r = some (.lst (natsV l)) ∧ (∀ x ∈ l, x < p.jobs.length) ∧ l.length ≤ 1000 ∧
  ∀ la H', H la = none → Same H H' → H' la = some (.lst ((0 :: (Vatsld.expectedOf p l : Int) :: Vatsld.toInts l).map V.int)) → Q (.ref la) H'
/-! ### answer_order -/
abbrev s_answer_order : Stmt := top 109
theorem sc_answer_order : FnScope ["plan", "order"] ["plan", "order"] (defScope s_answer_order) := ⟨rfl, rfl, rfl, by decide +kernel, rfl, by decide +kernel, by decide +kernel⟩
theorem ok_answer_order {f : Addr} {fd : FuncData} (F : Fun K "answer_order" "answer_order" s_answer_order f fd) (T : Txt K mg A)
    (C_expected_cost : Cal P w K mg base CX0 3 "expected_cost" ["plan", "order"] (sp_expected_cost A)) : FnOk P w K mg base CX0 4 f fd ["plan", "order"] (sp_answer_order A) := by
  obtain ⟨f_expected_cost, fd_expected_cost, m_expected_cost, kp_expected_cost, b_expected_cost, G_expected_cost⟩ := C_expected_cost.ex
  refine F.ok sc_answer_order (fun vs H Q E h => by revert h; first | (rintro ⟨rfl, _⟩; rfl) | (rintro ⟨_, rfl, _⟩; rfl) | (rintro ⟨_, _, rfl, _⟩; rfl) | (rintro ⟨_, _, _, rfl, _⟩; rfl) | (rintro ⟨_, _, _, _, rfl, _⟩; rfl) | (rintro ⟨_, _, _, _, _, rfl, _⟩; rfl) | (rintro ⟨_, _, _, _, _, _, rfl, _⟩; rfl) | (rintro ⟨_, _, _, _, _, _, _, rfl, _⟩; rfl) | (rintro ⟨_, _, _, _, _, _, _, _, rfl, _⟩; rfl) | (rintro ⟨_, _, _, _, _, _, _, _, _, rfl, _⟩; rfl) | (rintro ⟨_, _, _, _, _, _, _, _, _, _, rfl, _⟩; rfl) | (rintro ⟨_, _, _, _, _, _, _, _, _, _, _, rfl, _⟩; rfl)) (fun cdv Ar outer s H vs Q E hr h => ⟨_, 
  (pss_one (ps_ret (pe_op op_cat (pe_lst (pa_cons pe_int (pa_cons (pe_call G_expected_cost (hr.mono (by decide)) rfl m_expected_cost kp_expected_cost b_expected_cost .nil pass0 (pa_cons (pv 0) (pa_cons (pv 1) pa_nil))) pa_nil))) (pv 1)))), ?_⟩)
  obtain ⟨a, r, p, l, rfl, hP, hW, hr', hm, hl, k⟩ := h
  refine st_retN' (o := .lst ((0 :: (Vatsld.expectedOf p l : Int) :: Vatsld.toInts l).map V.int)) (evn_is (evn_catV (q := r) (xs := [.int 0, .int (Vatsld.expectedOf p l : Int)]) (ys := natsV l) (evn_lst (eva_cons (evs_of val_c) fun H1 s1 => eva_cons (evs_call (eva_cons (evs_of (val_var rfl)) fun _ _ => eva_cons (evs_of (val_var rfl)) fun _ _ => eva_nil) fun H2 s2 Q z => ?_) fun _ _ => eva_nil) (by simp)) (fun H1 s1 => val_var rfl) hr' (by rw [natsV_len]; show 2 + _ < _; omega)) (by rw [nats_ints]; rfl)) fun q H1 nq s1 e1 => k q H1 nq s1 e1
  exact ⟨a, r, p, l, rfl, hP.mono (s1.trans s2), hW, (s1.trans s2) _ _ hr', hm, hl, z⟩
theorem order_row (n : Nat) (c : Int) {l : List Nat} (h : l.length ≤ 7) : (0 :: c :: Vatsld.toInts l).length ≤ 15000 := by
  unfold Vatsld.toInts
  rw [List.length_cons, List.length_cons, List.length_map]
  omega
/-- f(x, g(..)), g's answer a new list, the whole by its promise -/
theorem st_retCall2N {σ : L2.St} {H : Hp} {ta tb : TE} {sp : Sp} {E : XK} {D : Ends} {x : V} {o : HO} (h1 : Val ta σ H x) (h2 : EvN tb σ H o) (hs : ∀ q H', H q = none → Same H H' → H' q = some o → sp [x, .ref q] H' D.rt E) : tRet (tCall sp [] E (tCons ta (tCons tb tNil))) D σ H :=
  h1 _ (h2 _ fun q H2 n s2 e => hs q H2 n s2 e)
/-! ### answer_best -/
abbrev s_answer_best : Stmt := top 107
theorem sc_answer_best : FnScope ["holder", "reader"] ["holder", "reader"] (defScope s_answer_best) := ⟨rfl, rfl, rfl, by decide +kernel, rfl, by decide +kernel, by decide +kernel⟩
theorem ok_answer_best {f : Addr} {fd : FuncData} (F : Fun K "answer_best" "answer_best" s_answer_best f fd) (T : Txt K mg A)
    (C_answer_order : Cal P w K mg base CX0 4 "answer_order" ["plan", "order"] (sp_answer_order A))
    (C_best_order : Cal P w K mg base CX0 5 "best_order" ["plan"] (sp_best_order A)) : FnOk P w K mg base CX0 6 f fd ["holder", "reader"] (sp_answer_best K A) := by
  obtain ⟨f_answer_order, fd_answer_order, m_answer_order, kp_answer_order, b_answer_order, G_answer_order⟩ := C_answer_order.ex
  obtain ⟨f_best_order, fd_best_order, m_best_order, kp_best_order, b_best_order, G_best_order⟩ := C_best_order.ex
  refine F.ok sc_answer_best (fun vs H Q E h => by revert h; first | (rintro ⟨rfl, _⟩; rfl) | (rintro ⟨_, rfl, _⟩; rfl) | (rintro ⟨_, _, rfl, _⟩; rfl) | (rintro ⟨_, _, _, rfl, _⟩; rfl) | (rintro ⟨_, _, _, _, rfl, _⟩; rfl) | (rintro ⟨_, _, _, _, _, rfl, _⟩; rfl) | (rintro ⟨_, _, _, _, _, _, rfl, _⟩; rfl) | (rintro ⟨_, _, _, _, _, _, _, rfl, _⟩; rfl) | (rintro ⟨_, _, _, _, _, _, _, _, rfl, _⟩; rfl) | (rintro ⟨_, _, _, _, _, _, _, _, _, rfl, _⟩; rfl) | (rintro ⟨_, _, _, _, _, _, _, _, _, _, rfl, _⟩; rfl) | (rintro ⟨_, _, _, _, _, _, _, _, _, _, _, rfl, _⟩; rfl)) (fun cdv Ar outer s H vs Q E hr h => ⟨_, 
  (pss_one (ps_ret (pe_call G_answer_order (hr.mono (by decide)) rfl m_answer_order kp_answer_order b_answer_order .nil pass0 (pa_cons (pe_fld (pv 0) rfl) (pa_cons (pe_call G_best_order (hr.mono (by decide)) rfl m_best_order kp_best_order b_best_order .nil pass0 (pa_cons (pe_fld (pv 0) rfl) pa_nil)) pa_nil))))), ?_⟩)
  obtain ⟨ha, ra, ca, qa, pl, l, st, c, t, rfl, hS, hc, k⟩ := h
  obtain ⟨rfl, rfl⟩ := call_none rfl hc
  obtain ⟨pa, ⟨dh, eh⟩, hP⟩ := hS.ho
  obtain ⟨hm, hl⟩ := bestOrder_mem hS.wf
  refine st_retCall2N (o := .lst (natsV (Vatsld.bestOrder st).order)) (val_fld (val_var rfl) eh T.cHolder T.n_Holder_plan (hoF_plan _)) (evn_call (eva_cons (evs_of (val_fld (val_var rfl) eh T.cHolder T.n_Holder_plan (hoF_plan _))) fun _ _ => eva_nil) fun H1 s1 Q z => ?_) fun q H1 nq s1 e1 => ?_
  · exact ⟨pa, st, rfl, hP.mono s1, hS.wf, fun q H2 n2 s2 e2 => z q H2 n2 s2 e2⟩
  · refine ⟨pa, q, st, _, rfl, hP.mono s1, hS.wf, e1, hm, by omega, fun la H2 n2 s2 e2 => ?_⟩
    have s := s1.trans s2
    refine k la H2 (hS.neq (s1.free n2)) (s.keep2 _ _) ?_ ?_ ?_
    · rw [drop_len hS.le]
      exact hS.mono s
    · rw [bestOrder_cost hS.wf] at e2
      exact e2
    · exact order_row 0 _ hl
/-! ### answer_rule -/
abbrev s_answer_rule : Stmt := top 108
theorem sc_answer_rule : FnScope ["holder", "reader"] ["holder", "reader"] (defScope s_answer_rule) := ⟨rfl, rfl, rfl, by decide +kernel, rfl, by decide +kernel, by decide +kernel⟩
theorem ok_answer_rule {f : Addr} {fd : FuncData} (F : Fun K "answer_rule" "answer_rule" s_answer_rule f fd) (T : Txt K mg A)
    (C_answer_order : Cal P w K mg base CX0 4 "answer_order" ["plan", "order"] (sp_answer_order A))
    (C_rule_order : Cal P w K mg base CX0 3 "rule_order" ["plan"] (sp_rule_order A)) : FnOk P w K mg base CX0 5 f fd ["holder", "reader"] (sp_answer_rule K A) := by
  obtain ⟨f_answer_order, fd_answer_order, m_answer_order, kp_answer_order, b_answer_order, G_answer_order⟩ := C_answer_order.ex
  obtain ⟨f_rule_order, fd_rule_order, m_rule_order, kp_rule_order, b_rule_order, G_rule_order⟩ := C_rule_order.ex
  refine F.ok sc_answer_rule (fun vs H Q E h => by revert h; first | (rintro ⟨rfl, _⟩; rfl) | (rintro ⟨_, rfl, _⟩; rfl) | (rintro ⟨_, _, rfl, _⟩; rfl) | (rintro ⟨_, _, _, rfl, _⟩; rfl) | (rintro ⟨_, _, _, _, rfl, _⟩; rfl) | (rintro ⟨_, _, _, _, _, rfl, _⟩; rfl) | (rintro ⟨_, _, _, _, _, _, rfl, _⟩; rfl) | (rintro ⟨_, _, _, _, _, _, _, rfl, _⟩; rfl) | (rintro ⟨_, _, _, _, _, _, _, _, rfl, _⟩; rfl) | (rintro ⟨_, _, _, _, _, _, _, _, _, rfl, _⟩; rfl) | (rintro ⟨_, _, _, _, _, _, _, _, _, _, rfl, _⟩; rfl) | (rintro ⟨_, _, _, _, _, _, _, _, _, _, _, rfl, _⟩; rfl)) (fun cdv Ar outer s H vs Q E hr h => ⟨_, 
  (pss_one (ps_ret (pe_call G_answer_order (hr.mono (by decide)) rfl m_answer_order kp_answer_order b_answer_order .nil pass0 (pa_cons (pe_fld (pv 0) rfl) (pa_cons (pe_call G_rule_order (hr.mono (by decide)) rfl m_rule_order kp_rule_order b_rule_order .nil pass0 (pa_cons (pe_fld (pv 0) rfl) pa_nil)) pa_nil))))), ?_⟩)
  obtain ⟨ha, ra, ca, qa, pl, l, st, c, t, rfl, hS, hc, k⟩ := h
  obtain ⟨rfl, rfl⟩ := call_none rfl hc
  obtain ⟨pa, ⟨dh, eh⟩, hP⟩ := hS.ho
  obtain ⟨hm, hl⟩ := simpleOrder_mem hS.wf
  refine st_retCall2N (o := .lst (natsV (Vatsld.simpleOrder st))) (val_fld (val_var rfl) eh T.cHolder T.n_Holder_plan (hoF_plan _)) (evn_call (eva_cons (evs_of (val_fld (val_var rfl) eh T.cHolder T.n_Holder_plan (hoF_plan _))) fun _ _ => eva_nil) fun H1 s1 Q z => ?_) fun q H1 nq s1 e1 => ?_
  · exact ⟨pa, st, rfl, hP.mono s1, hS.wf, fun q H2 n2 s2 e2 => z q H2 n2 s2 e2⟩
  · refine ⟨pa, q, st, _, rfl, hP.mono s1, hS.wf, e1, hm, by omega, fun la H2 n2 s2 e2 => ?_⟩
    have s := s1.trans s2
    refine k la H2 (hS.neq (s1.free n2)) (s.keep2 _ _) ?_ e2 (order_row 0 _ hl)
    rw [drop_len hS.le]
    exact hS.mono s
/-- order = reader.take_row() -/
theorem evg_row {σ : L2.St} {H : Hp} {ta : TE} {ha ra ca qa : Addr} {pl : Nat} {l row t : List Int} {st : Vatsld.Plan} (hr : Val ta σ H (.ref ra)) (hS : St K A H ha ra ca qa pl l st) (hrow : PyFlat.row (l.drop pl) = some (row, t)) :
    EvG (tMeth A.cCallReader "take_row" (sp_CallReader_take_row K A) [] E0 ta tNil) σ H (fun v H' => ∃ q, v = .ref q ∧ H q = none ∧ Keep2 ha ra H H' ∧ St K A H' ha ra ca qa (l.length - t.length) l st ∧ H' q = some (.lst (row.map V.int))) := by
  obtain ⟨dr, er⟩ := id hS.cr
  refine evg_meth hr er (crF_m (by decide +kernel) (by decide +kernel)) eva_nil fun H1 s1 Q z => ?_
  have hS1 := hS.mono s1
  refine ⟨ra, ca, pl, l, row, t, rfl, hS1.cr, hS1.sq, hrow, hS.len, fun q H2 n2 k2 c2 e2 => z _ H2 ⟨q, rfl, s1.free n2, (s1.keep2 _ _).trans k2.two, hS1.took k2 c2 (by omega), e2⟩⟩
theorem row_len {l row t : List Int} {pl : Nat} (h : PyFlat.row (l.drop pl) = some (row, t)) : row.length ≤ l.length := by
  obtain ⟨n, _, h2, h3, _⟩ := row_is h
  rw [h3, List.length_take]
  omega
theorem order_lens {p : Vatsld.Plan} {o : List Int} (h : (Vatsld.isRow p.jobs.length o && Vatsld.isOrder p (Vatsld.toNats o)) = true) : o.length = p.jobs.length := by
  rw [Bool.and_eq_true] at h
  have h2 := h.2
  unfold Vatsld.isOrder at h2
  rw [Bool.and_eq_true, Bool.and_eq_true] at h2
  have := of_decide_eq_true h2.1.1
  rw [len_toNats] at this
  exact this
/-! ### answer_expected -/
abbrev s_answer_expected : Stmt := top 106
theorem sc_answer_expected : FnScope ["holder", "reader", "order"] ["holder", "reader"] (defScope s_answer_expected) := ⟨rfl, rfl, rfl, by decide +kernel, rfl, by decide +kernel, by decide +kernel⟩
theorem ok_answer_expected {f : Addr} {fd : FuncData} (F : Fun K "answer_expected" "answer_expected" s_answer_expected f fd) (T : Txt K mg A)
    (C_expected_cost : Cal P w K mg base CX0 3 "expected_cost" ["plan", "order"] (sp_expected_cost A))
    (C_is_order : Cal P w K mg base CX0 2 "is_order" ["plan", "order"] (sp_is_order A))
    (C_CallReader_take_row : CalM P w K mg base CX0 1 A.cCallReader "take_row" ["self"] (sp_CallReader_take_row K A)) : FnOk P w K mg base CX0 4 f fd ["holder", "reader"] (sp_answer_expected K A) := by
  obtain ⟨f_expected_cost, fd_expected_cost, m_expected_cost, kp_expected_cost, b_expected_cost, G_expected_cost⟩ := C_expected_cost.ex
  obtain ⟨f_is_order, fd_is_order, m_is_order, kp_is_order, b_is_order, G_is_order⟩ := C_is_order.ex
  obtain ⟨f_CallReader_take_row, fd_CallReader_take_row, m_CallReader_take_row, b_CallReader_take_row, G_CallReader_take_row⟩ := C_CallReader_take_row.ex
  refine F.ok sc_answer_expected (fun vs H Q E h => by revert h; first | (rintro ⟨rfl, _⟩; rfl) | (rintro ⟨_, rfl, _⟩; rfl) | (rintro ⟨_, _, rfl, _⟩; rfl) | (rintro ⟨_, _, _, rfl, _⟩; rfl) | (rintro ⟨_, _, _, _, rfl, _⟩; rfl) | (rintro ⟨_, _, _, _, _, rfl, _⟩; rfl) | (rintro ⟨_, _, _, _, _, _, rfl, _⟩; rfl) | (rintro ⟨_, _, _, _, _, _, _, rfl, _⟩; rfl) | (rintro ⟨_, _, _, _, _, _, _, _, rfl, _⟩; rfl) | (rintro ⟨_, _, _, _, _, _, _, _, _, rfl, _⟩; rfl) | (rintro ⟨_, _, _, _, _, _, _, _, _, _, rfl, _⟩; rfl) | (rintro ⟨_, _, _, _, _, _, _, _, _, _, _, rfl, _⟩; rfl)) (fun cdv Ar outer s H vs Q E hr h => ⟨_, 
  (pss_cons (ps_set (i := 2) sc_answer_expected.nd rfl (Or.inl rfl) (pe_meth0 (pv 1) T.cCallReader m_CallReader_take_row G_CallReader_take_row (hr.mono (by decide)) b_CallReader_take_row .nil pass0))
      (pss_cons (ps_if (pt_not (pt_val (pe_call G_is_order (hr.mono (by decide)) rfl m_is_order kp_is_order b_is_order .nil pass0 (pa_cons (pe_fld (pv 0) rfl) (pa_cons (pv 2) pa_nil))))) (pss_one (ps_ret (pe_lst (pa_cons (pe_num (by rfl) T.k_BAD_LIST) pa_nil)))) pss_nil)
      (pss_one (ps_ret (pe_lst (pa_cons pe_int (pa_cons (pe_call G_expected_cost (hr.mono (by decide)) rfl m_expected_cost kp_expected_cost b_expected_cost .nil pass0 (pa_cons (pe_fld (pv 0) rfl) (pa_cons (pv 2) pa_nil))) pa_nil))))))), ?_⟩)
  obtain ⟨ha, ra, ca, qa, pl, l, st, c, t, rfl, hS, hc, k⟩ := h
  obtain ⟨row, hrow, rfl⟩ := call_row rfl hc
  refine st_seqSetG (evg_row (val_var rfl) hS hrow) fun v H1 h1 => ?_
  obtain ⟨q, rfl, nq, k1, hS1, e1⟩ := h1
  obtain ⟨pa, ⟨dh, eh⟩, hP⟩ := hS1.ho
  have hrl := row_len hrow
  have hl17 := hS.len
  have hstep : VatsldNeutral.step st [[2], row] = (st, if Vatsld.isRow st.jobs.length row && Vatsld.isOrder st (Vatsld.toNats row) then [0, (Vatsld.expectedOf st (Vatsld.toNats row) : Int)] else [-12]) := rfl
  have fin : ∀ la H', H1 la = none → Same H1 H' → H' la = some (.lst ((VatsldNeutral.step st [[2], row]).2.map V.int)) → Q (.ref la) H' := fun la H' n s e => by
    refine k la H' (hS1.neq n) (k1.trans (s.keep2 _ _)) (hS1.mono s) e ?_
    rw [hstep]
    dsimp only
    split <;> simp
  refine st_seqIf (b := !(Vatsld.isRow st.jobs.length row && Vatsld.isOrder st (Vatsld.toNats row))) (ans_notS (ans_test (evs_call (eva_cons (evs_of (val_fld (val_var rfl) eh T.cHolder T.n_Holder_plan (hoF_plan _))) fun _ _ => eva_cons (evs_of (val_var rfl)) fun _ _ => eva_nil) fun H2 s2 Q z => ?_))) (fun hb H2 s2 => ?_) fun hb H2 s2 => ?_
  · exact ⟨pa, q, st, row, rfl, hP.mono s2, hS.wf, s2 _ _ e1, by omega, z⟩
  · refine st_retN' (o := .lst [.int (-12)]) (evn_lst (eva_cons (evs_of val_c) fun _ _ => eva_nil) (by simp)) fun la H3 n3 s3 e3 => fin la H3 (s2.free n3) (s2.trans s3) ?_
    rw [hstep, if_neg (by rw [not_t hb]; exact Bool.false_ne_true)]
    exact e3
  · have hb' := not_f hb
    have hlen := order_lens hb'
    have nj := hS.wf.nj
    rw [Bool.and_eq_true] at hb'
    refine st_retN' (o := .lst [.int 0, .int (Vatsld.expectedOf st (Vatsld.toNats row) : Int)]) (evn_lst (eva_cons (evs_of val_c) fun H3 s3 => eva_cons (evs_call (eva_cons (evs_of (val_fld (val_var rfl) (s3 _ _ (s2 _ _ eh)) T.cHolder T.n_Holder_plan (hoF_plan _))) fun _ _ => eva_cons (evs_of (val_var rfl)) fun _ _ => eva_nil) fun H4 s4 Q z => ?_) fun _ _ => eva_nil) (by simp)) fun la H3 n3 s3 e3 => fin la H3 (s2.free n3) (s2.trans s3) ?_
    · have s := s2.trans (s3.trans s4)
      exact ⟨pa, q, st, Vatsld.toNats row, rfl, hP.mono s, hS.wf, by rw [s _ _ e1, natsV_ints, ints_toNats hb'.1], row_lt hb'.1, by rw [len_toNats]; omega, z⟩
    · rw [hstep, if_pos (by rw [Bool.and_eq_true]; exact hb')]
      exact e3
end
end Tp
namespace Tp
open PySem PySem.Spec PyProof.Rows L2
section
variable {P : Program} {w : World} {K : PySem.W.Frag} {mg : Str → Option Value} {base : Heap} {A : Ad}
open Vatsld (Toks Fault)
/-! ### load -/
theorem val_xf {σ : L2.St} {H : Hp} {te : TE} {a dd C : Addr} {fs : List (Str × V)} {f : Str} {v : V} (h : Val te σ H (.ref a)) (e : H dd = some (.xd fs)) (l : fs.lookup f = some v) : Val (tXf a (.ref C) (some dd) C f te) σ H v := fun Q z => h _ ⟨rfl, rfl, dd, fs, v, rfl, e, l, z⟩
theorem ftF_kind (f : Fault) : (ftF f).lookup ("kind" : Str) = some (.int (f.1 : Int)) := (lk_past (by decide +kernel)).trans lk_here
theorem ftF_place (f : Fault) : (ftF f).lookup ("place" : Str) = some (.int (f.2 : Int)) := lk_here
theorem bytes_nat {row : List Int} (h : Vatsld.noBytes row = false) : Vatsld.toInts (Vatsld.toNats row) = row := by
  unfold Vatsld.noBytes at h
  unfold Vatsld.toInts Vatsld.toNats
  rw [List.map_map]
  have : ∀ n ∈ row, ((fun (n : Nat) => (n : Int)) ∘ Int.toNat) n = id n := fun n hn => by
    have := (List.any_eq_false.mp h) n hn
    simp at this
    show ((n.toNat : Nat) : Int) = n
    omega
  rw [List.map_congr_left this, List.map_id]
theorem bytes_all (row : List Int) : (row.map fun n => decide (0 ≤ n) && decide (n ≤ 255)).all id = !Vatsld.noBytes row := by
  unfold Vatsld.noBytes
  induction row with
  | nil => rfl
  | cons n r ih =>
    rw [List.map_cons, List.all_cons, ih, List.any_cons, Bool.not_or]
    congr 1
    rw [Bool.eq_iff_iff]
    simp
theorem st_asgCallS {sp : Sp} {E : L2.St → XK} {i : Nat} {σ : L2.St} {H : Hp} {te : TE} {x : V} {D : Ends} (hv : Val te σ H x) (h : sp [x] H (fun v H2 => D.nx (σ.set i (some v)) H2) (E σ)) : tAsg (tCallS sp E (tCons te tNil)) (gName i) D σ H := hv _ h
theorem St.put {H : Hp} {ha ra ca qa pa dh : Addr} {pl : Nat} {l : List Int} {st p : Vatsld.Plan} (h : St K A H ha ra ca qa pl l st) (eh : ∃ pb, H ha = some (.ins A.cHolder dh (hoF pb))) (hP : PlanAtN A (fun a => a ≠ qa) H pa p) (hW : WF p) : St K A (upd H ha (.ins A.cHolder dh (hoF pa))) ha ra ca qa pl l p := by
  obtain ⟨pb, eh⟩ := eh
  have kp : Keep ha H (upd H ha (.ins A.cHolder dh (hoF pa))) := fun b o hb e => by rw [upd_ne hb]; exact e
  obtain ⟨dr, er⟩ := id h.cr
  obtain ⟨xs, eq⟩ := h.qs
  have hne := ho_ne (ha := ha) (pa := pb) ⟨dh, eh⟩ h.cr
  exact ⟨⟨pa, ⟨dh, upd_same⟩, plan_keepN hP eh (hoF_no (by decide +kernel)) (hoF_no (by decide +kernel)) kp⟩, ⟨dr, by rw [upd_ne (Ne.symm hne)]; exact er⟩, h.sqQ.keep eh kp, ⟨xs, kp _ _ (fun z => by rw [z, eh] at eq; cases eq) eq⟩, hW, h.len, h.le, tabs_but h.tabs eh (by intro _ z; cases z) (by intro _ z; cases z) kp⟩
/-! ### answer_load -/
abbrev s_answer_load : Stmt := top 104
theorem sc_answer_load : FnScope ["holder", "reader", "text", "plan", "fault", "byte"] ["holder", "reader"] (defScope s_answer_load) := ⟨rfl, rfl, rfl, by decide +kernel, rfl, by decide +kernel, by decide +kernel⟩
theorem ok_answer_load {f : Addr} {fd : FuncData} (F : Fun K "answer_load" "answer_load" s_answer_load f fd) (T : Txt K mg A) (TF : TxF K mg A)
    (C_read_plan : Cal P w K mg base (L2.CX P w) 13 "read_plan" ["text"] (sp_read_plan A))
    (C_CallReader_take_row : CalM P w K mg base CX0 1 A.cCallReader "take_row" ["self"] (sp_CallReader_take_row K A)) : FnOk P w K mg base CX0 14 f fd ["holder", "reader"] (sp_answer_load K A) := by
  obtain ⟨f_read_plan, fd_read_plan, m_read_plan, kp_read_plan, b_read_plan, G_read_plan⟩ := C_read_plan.ex
  obtain ⟨f_CallReader_take_row, fd_CallReader_take_row, m_CallReader_take_row, b_CallReader_take_row, G_CallReader_take_row⟩ := C_CallReader_take_row.ex
  refine F.ok sc_answer_load (fun vs H Q E h => by revert h; first | (rintro ⟨rfl, _⟩; rfl) | (rintro ⟨_, rfl, _⟩; rfl) | (rintro ⟨_, _, rfl, _⟩; rfl) | (rintro ⟨_, _, _, rfl, _⟩; rfl) | (rintro ⟨_, _, _, _, rfl, _⟩; rfl) | (rintro ⟨_, _, _, _, _, rfl, _⟩; rfl) | (rintro ⟨_, _, _, _, _, _, rfl, _⟩; rfl) | (rintro ⟨_, _, _, _, _, _, _, rfl, _⟩; rfl) | (rintro ⟨_, _, _, _, _, _, _, _, rfl, _⟩; rfl) | (rintro ⟨_, _, _, _, _, _, _, _, _, rfl, _⟩; rfl) | (rintro ⟨_, _, _, _, _, _, _, _, _, _, rfl, _⟩; rfl) | (rintro ⟨_, _, _, _, _, _, _, _, _, _, _, rfl, _⟩; rfl)) (fun cdv Ar outer s H vs Q E hr h => ⟨_, 
  (pss_cons (ps_set (i := 2) sc_answer_load.nd rfl (Or.inl rfl) (pe_meth0 (pv 1) T.cCallReader m_CallReader_take_row G_CallReader_take_row (hr.mono (by decide)) b_CallReader_take_row .nil pass0))
      (pss_cons (ps_if (pt_not (pt_val (pe_callB (cr_all rfl) (by rfl) T.b_all (by decide +kernel) (pa_cons (pe_lc (own := [("byte", 5)]) (g := gName 5) (tt := tYes) (by rfl) sc_answer_load.nd (pi_list (pv 2)) (blkOk_by (N := ["holder", "reader", "text", "plan", "fault", "byte"]) (sc := defScope s_answer_load) (by decide +kernel)) (fun _ _ _ _ _ => pg_name (i := 5) sc_answer_load.nd rfl (Or.inl rfl)) (fun _ _ _ _ _ => pts_nil) (fun _ _ _ _ _ => (pe_chain op_le op_le pe_int (pv 5) (pe_num (by rfl) T.k_GREATEST_BYTE)))) pa_nil)))) (pss_one (ps_ret (pe_lst (pa_cons (pe_num (by rfl) T.k_NO_BYTE) pa_nil)))) pss_nil)
      (pss_cons (ps_if (pt_cmpR op_gt (pe_callB call_len_seq (by rfl) T.b_len (by decide +kernel) (pa_cons (pv 2) pa_nil)) (pe_num (by rfl) T.k_LONGEST_TEXT) (nomark _)) (pss_one (ps_ret (pe_lst (pa_cons (pe_num (by rfl) T.k_TOO_LONG) pa_nil)))) pss_nil)
      (pss_cons (ps_try_as (i := 4) (Wout := fun _ _ _ _ => False) rfl rfl sc_answer_load.nd rfl rfl ⟨rfl, by decide, Or.inl TF.g⟩ takes0
      (fun W pn xe tk _ => (pss_one (ps_set (i := 3) sc_answer_load.nd rfl (Or.inl rfl) (pe_callS G_read_plan (hr.mono (by decide)) rfl m_read_plan kp_read_plan b_read_plan (fun σ => passAt tk σ) (pa_cons (pv 2) pa_nil)))))
      (fun a oe cls d pn hz hf => (pss_one (ps_ret (pe_lst (pa_cons pe_int (pa_cons (pe_xf TF.xf TF.nk hz hf (pv 4)) (pa_cons (pe_xf TF.xf TF.np hz hf (pv 4)) pa_nil))))))))
      (pss_cons (ps_fld (pv 0) (pv 3) rfl)
      (pss_one (ps_ret (pe_lst (pa_cons pe_int (pa_cons (pe_callB call_len_seq (by rfl) T.b_len (by decide +kernel) (pa_cons (pe_fld (pv 3) rfl) pa_nil)) (pa_cons (pe_callB call_len_seq (by rfl) T.b_len (by decide +kernel) (pa_cons (pe_fld (pv 3) rfl) pa_nil)) pa_nil))))))))))), ?_⟩)
  obtain ⟨ha, ra, ca, qa, pl, l, st, c, t, rfl, hS, hc, k⟩ := h
  obtain ⟨row, hrow, rfl⟩ := call_row rfl hc
  refine st_seqSetG (evg_row (val_var rfl) hS hrow) fun v H1 h1 => ?_
  obtain ⟨q, rfl, nq, k1, hS1, e1⟩ := h1
  have hrl := row_len hrow
  have hl17 := hS.len
  have hstep : VatsldNeutral.step st [[0], row] = if Vatsld.noBytes row then (st, [-1]) else if Vatsld.TEXT < row.length then (st, [-2]) else (match Vatsld.readPlan (Vatsld.toNats row) with
    | .error f => (st, Vatsld.toInts [1, f.1, f.2])
    | .ok p => (p, 0 :: Vatsld.toInts [p.groups.length, p.jobs.length])) := rfl
  have fin : ∀ st' ans, VatsldNeutral.step st [[0], row] = (st', ans) → ans.length ≤ 15000 → ∀ la H', H1 la = none → Keep2 ha ra H1 H' → St K A H' ha ra ca qa (l.length - t.length) l st' → H' la = some (.lst (ans.map V.int)) → Q (.ref la) H' := fun st' ans es hl la H' n k2 hS' e => by
    rw [es] at k
    exact k la H' (hS1.neq n) (k1.trans k2) hS' e hl
  have hrow1 : (row.map V.int).length = row.length := List.length_map _
  refine st_seqIf (b := Vatsld.noBytes row) (ans_is (ans_notS (ans_test (evs_all (bs := row.map fun n => decide (0 ≤ n) && decide (n ≤ 255)) (lc_listI (evs_of (val_var rfl)) (SqL.of e1) (by simp) (by omega) fun m x y H' hx hy s => ?_)))) (by rw [bytes_all, Bool.not_not])) (fun hb H2 s2 => ?_) fun hb H2 s2 => ?_
  · rw [List.getElem?_map] at hx
    cases hn : row[m]? with
    | none => rw [hn] at hx; cases hx
    | some n =>
      rw [hn] at hx
      cases hx
      rw [List.getElem?_map, List.getElem?_map, hn] at hy
      cases hy
      exact evs_of (val_chain val_c (val_var rfl) (fun Q z => ⟨_, _, rfl, rfl, z⟩) fun _ => ⟨_, val_c, fun Q z => ⟨_, _, rfl, rfl, z⟩⟩)
  · refine st_retN' (o := .lst [.int (-1)]) (evn_lst (eva_cons (evs_of val_c) fun _ _ => eva_nil) (by simp)) fun la H3 n3 s3 e3 => fin st [-1] (by rw [hstep, if_pos hb]) (by simp) la H3 (s2.free n3) ((s2.trans s3).keep2 _ _) (hS1.mono (s2.trans s3)) e3
  rw [if_neg (by rw [hb]; exact Bool.false_ne_true)] at hstep
  have e2 := s2 _ _ e1
  have hT : Vatsld.TEXT = 4096 := rfl
  refine st_seqIfV (b := decide (4096 < row.length)) (ans_gt' (val_len (SqL.of e2) hrow1 (val_var rfl)) val_c (by rw [Bool.eq_iff_iff, decide_eq_true_iff, decide_eq_true_iff]; omega)) (fun hb2 => ?_) fun hb2 => ?_
  · have hlt := of_decide_eq_true hb2
    refine st_retN' (o := .lst [.int (-2)]) (evn_lst (eva_cons (evs_of val_c) fun _ _ => eva_nil) (by simp)) fun la H3 n3 s3 e3 => fin st [-2] (by rw [hstep, if_pos (by omega)]) (by simp) la H3 (s2.free n3) ((s2.trans s3).keep2 _ _) (hS1.mono (s2.trans s3)) e3
  have hlt := of_decide_eq_false hb2
  rw [if_neg (by omega)] at hstep
  refine st_asgCallS (val_var rfl) ?_
  refine ⟨q, Vatsld.toNats row, rfl, by rw [e2, natsV_ints, bytes_nat hb], by rw [len_toNats]; omega, fun f ef => fun d H3 s3 e3 => ?_, fun p ep pa H3 n3 s3 hP => ?_⟩
  · rw [ef] at hstep
    refine ⟨true, TF.te, fun _ a na => ?_, fun z => by cases z⟩
    refine st_retN' (o := .lst ((Vatsld.toInts [1, f.1, f.2]).map V.int)) (evn_lst (vs := (Vatsld.toInts [1, f.1, f.2]).map V.int) (eva_cons (evs_of val_c) fun H4 s4 => eva_cons (evs_of (val_xf (val_var rfl) (s4 _ _ e3) (ftF_kind f))) fun H5 s5 => eva_cons (evs_of (val_xf (val_var rfl) (s5 _ _ (s4 _ _ e3)) (ftF_place f))) fun _ _ => eva_nil) (by simp [Vatsld.toInts])) fun la H4 n4 s4 e4 => ?_
    have s := s2.trans (s3.trans s4)
    exact fin st _ hstep (by simp [Vatsld.toInts]) la H4 ((s2.trans s3).free n4) (s.keep2 _ _) (hS1.mono s) e4
  · rw [ep] at hstep
    have s := s2.trans s3
    have hS3 := hS1.mono s
    obtain ⟨pb, ⟨dh, eh⟩, _⟩ := hS3.ho
    have hW := readPlan_ok ep
    refine st_seqFld (val_var rfl) (val_var rfl) eh T.cHolder T.n_Holder_plan (by show 1 < 1000; decide) ?_
    rw [hoF_put]
    obtain ⟨xsq, eqq⟩ := (hS1.mono s2).qs
    have hPq := hP.imp (N' := fun a => a ≠ qa) fun x nx z => by rw [z, eqq] at nx; cases nx
    have hS4 := hS3.put ⟨pb, eh⟩ hPq hW
    have hP4 : PlanAt A (upd H3 ha (.ins A.cHolder dh (hoF pa))) pa p := plan_keep hP.at eh (hoF_no (by decide +kernel)) (hoF_no (by decide +kernel)) fun b o hb e => by rw [upd_ne hb]; exact e
    obtain ⟨dp, lg, lt, gs, js, f1, f2, f3, f4, f5⟩ := hP4.lens
    refine st_retN' (o := .lst ((0 :: Vatsld.toInts [p.groups.length, p.jobs.length]).map V.int)) (evn_lst (vs := (0 :: Vatsld.toInts [p.groups.length, p.jobs.length]).map V.int) (eva_cons (evs_of val_c) fun H5 s5 => eva_cons (evs_of (val_len (SqL.of (s5 _ _ f2)) f3 (val_groups T (val_var rfl) (s5 _ _ f1)))) fun H6 s6 => eva_cons (evs_of (val_len (SqL.of (s6 _ _ (s5 _ _ f4))) f5 (val_tests T (val_var rfl) (s6 _ _ (s5 _ _ f1))))) fun _ _ => eva_nil) (by simp [Vatsld.toInts])) fun la H5 n5 s5 e5 => ?_
    have hla : H3 la = none := by
      have := n5
      have hne : la ≠ ha := fun z => by rw [z, upd_same] at this; cases this
      rw [upd_ne hne] at this
      exact this
    exact fin p _ hstep (by simp [Vatsld.toInts]) la H5 (s.free hla) (fun x o n1 n2 _ e => s5 _ _ (by rw [upd_ne n1]; exact s _ _ e)) (hS4.mono s5) e5
end
end Tp
namespace Tp
open PySem PySem.Spec PyProof.Rows L2
section
variable {P : Program} {w : World} {K : PySem.W.Frag} {mg : Str → Option Value} {base : Heap} {A : Ad}
open Vatsld (jobAt)
open LamX (Tabs ExtN)
/-! ### calls with a whole number ahead -/
theorem call_num {k : Int} {r : List Int} {c : List (List Int)} {t : List Int} (hk : PyVatsld.shape k = some (1, 0)) (h : PyFlat.call PyVatsld.shape (k :: r) = some (c, t)) : ∃ n, r = n :: t ∧ c = [[k, n]] := by
  simp only [PyFlat.call, hk, PyFlat.rows] at h
  cases r with
  | nil =>
    rw [if_pos (by simp)] at h
    cases h
  | cons n r =>
    rw [if_neg (by simp)] at h
    cases h
    exact ⟨n, rfl, rfl⟩
theorem call_numrow {k : Int} {r : List Int} {c : List (List Int)} {t : List Int} (hk : PyVatsld.shape k = some (1, 1)) (h : PyFlat.call PyVatsld.shape (k :: r) = some (c, t)) : ∃ n r' row, r = n :: r' ∧ PyFlat.row r' = some (row, t) ∧ c = [[k, n], row] := by
  simp only [PyFlat.call, hk, PyFlat.rows] at h
  cases r with
  | nil =>
    rw [if_pos (by simp)] at h
    cases h
  | cons n r =>
    rw [if_neg (by simp)] at h
    have e1 : (n :: r).drop 1 = r := rfl
    rw [e1] at h
    cases e : PyFlat.row r with
    | none => rw [e] at h; cases h
    | some x =>
      rw [e] at h
      cases h
      exact ⟨n, r, _, rfl, e, rfl⟩
theorem drop_next {l : List Int} {pl : Nat} {n : Int} {r : List Int} (h : l.drop pl = n :: r) : l[pl]? = some n ∧ r = l.drop (pl + 1) ∧ pl + 1 ≤ l.length := by
  have hl : pl < l.length := by
    have := congrArg List.length h
    rw [List.length_drop, List.length_cons] at this
    omega
  refine ⟨?_, ?_, by omega⟩
  · have := List.getElem?_drop (xs := l) (i := pl) (j := 0)
    rw [h] at this
    simpa using this.symm
  · have : (l.drop pl).drop 1 = r := by rw [h]; rfl
    rw [← this, List.drop_drop]
/-- many = reader.take_one() -/
theorem evg_one {σ : L2.St} {H : Hp} {ta : TE} {ha ra ca qa : Addr} {pl : Nat} {l r : List Int} {n : Int} {st : Vatsld.Plan} (hr : Val ta σ H (.ref ra)) (hS : St K A H ha ra ca qa pl l st) (hn : l.drop pl = n :: r) :
    EvG (tMeth A.cCallReader "take_one" (sp_CallReader_take_one K A) [] E0 ta tNil) σ H (fun v H' => v = .int n ∧ Keep2 ha ra H H' ∧ St K A H' ha ra ca qa (pl + 1) l st ∧ r = l.drop (pl + 1)) := by
  obtain ⟨dr, er⟩ := id hS.cr
  obtain ⟨h1, h2, h3⟩ := drop_next hn
  refine evg_meth hr er (crF_m (by decide +kernel) (by decide +kernel)) eva_nil fun H1 s1 Q z => ?_
  have hS1 := hS.mono s1
  exact ⟨ra, ca, pl, l, n, rfl, hS1.cr, hS1.sq, h1, fun H2 k2 c2 => z _ H2 ⟨rfl, (s1.keep2 _ _).trans k2.two, hS1.took k2 c2 h3, h2⟩⟩
/-- behind a lambda made -/
theorem St.ext {H H' : Hp} {ha ra ca qa : Addr} {pl : Nat} {l : List Int} {st : Vatsld.Plan} (h : St K A H ha ra ca qa pl l st) (e : ExtN H H') (T' : Tabs (tabsOf A) H') : St K A H' ha ra ca qa pl l st := by
  obtain ⟨pa, ⟨dh, eh⟩, dx, lg, lt, gs, ts, e1, e2, e3, m1, m2, e4, e5⟩ := h.hoN
  obtain ⟨dr, er⟩ := h.cr
  obtain ⟨xs, eq⟩ := h.qs
  refine ⟨⟨pa, ⟨dh, e _ _ eh (by intro _ z; cases z)⟩, dx, lg, lt, gs, ts, e _ _ e1 (by intro _ z; cases z), extN_lst e e2, extN_lst e e3, m1, m2, e4.mono fun _ _ ⟨d, z⟩ => ⟨d, e _ _ z (by intro _ z; cases z)⟩, e5.mono fun _ _ ⟨d, la, z, z2, m⟩ => ⟨d, la, e _ _ z (by intro _ z; cases z), extN_lst e z2, m⟩⟩,
    ⟨dr, e _ _ er (by intro _ z; cases z)⟩, h.sqQ.elim (fun ⟨n, z⟩ => .inl ⟨n, ?_⟩) .inr, ⟨xs, extN_lst e eq⟩, h.wf, h.len, h.le, T'⟩
  rcases z with (z | ⟨o, z⟩) | z
  · exact .inl (.inl (extN_lst e z))
  · exact .inl (.inr ⟨o, e _ _ z (by intro _ z; cases z)⟩)
  · exact .inr z
def sp_answer_chosen (A : Ad) : Sp := fun vs H Q _ => ∃ (a r : Addr) (p : Vatsld.Plan) (l : List Nat), vs = [.ref a, .ref r] ∧ PlanAt A H a p ∧ WF p ∧ H r = some (.lst (natsV l)) ∧ (∀ x ∈ l, x < p.jobs.length) ∧ l.length ≤ 10000 ∧
  ∀ la H', H la = none → Same H H' → H' la = some (.lst ([0, (Vatsld.missOf p l : Int), (Vatsld.costOf p l : Int)].map V.int)) → Q (.ref la) H'
/-! ### answer_chosen -/
abbrev s_answer_chosen : Stmt := top 114
theorem sc_answer_chosen : FnScope ["plan", "chosen"] ["plan", "chosen"] (defScope s_answer_chosen) := ⟨rfl, rfl, rfl, by decide +kernel, rfl, by decide +kernel, by decide +kernel⟩
theorem ok_answer_chosen {f : Addr} {fd : FuncData} (F : Fun K "answer_chosen" "answer_chosen" s_answer_chosen f fd) (T : Txt K mg A)
    (C_cost_together : Cal P w K mg base CX0 1 "cost_together" ["plan", "numbers"] (sp_cost_together A))
    (C_miss_of : Cal P w K mg base CX0 1 "miss_of" ["plan", "chosen"] (sp_miss_of A)) : FnOk P w K mg base CX0 2 f fd ["plan", "chosen"] (sp_answer_chosen A) := by
  obtain ⟨f_cost_together, fd_cost_together, m_cost_together, kp_cost_together, b_cost_together, G_cost_together⟩ := C_cost_together.ex
  obtain ⟨f_miss_of, fd_miss_of, m_miss_of, kp_miss_of, b_miss_of, G_miss_of⟩ := C_miss_of.ex
  refine F.ok sc_answer_chosen (fun vs H Q E h => by revert h; first | (rintro ⟨rfl, _⟩; rfl) | (rintro ⟨_, rfl, _⟩; rfl) | (rintro ⟨_, _, rfl, _⟩; rfl) | (rintro ⟨_, _, _, rfl, _⟩; rfl) | (rintro ⟨_, _, _, _, rfl, _⟩; rfl) | (rintro ⟨_, _, _, _, _, rfl, _⟩; rfl) | (rintro ⟨_, _, _, _, _, _, rfl, _⟩; rfl) | (rintro ⟨_, _, _, _, _, _, _, rfl, _⟩; rfl) | (rintro ⟨_, _, _, _, _, _, _, _, rfl, _⟩; rfl) | (rintro ⟨_, _, _, _, _, _, _, _, _, rfl, _⟩; rfl) | (rintro ⟨_, _, _, _, _, _, _, _, _, _, rfl, _⟩; rfl) | (rintro ⟨_, _, _, _, _, _, _, _, _, _, _, rfl, _⟩; rfl)) (fun cdv Ar outer s H vs Q E hr h => ⟨_, 
  (pss_one (ps_ret (pe_lst (pa_cons pe_int (pa_cons (pe_call G_miss_of (hr.mono (by decide)) rfl m_miss_of kp_miss_of b_miss_of .nil pass0 (pa_cons (pv 0) (pa_cons (pv 1) pa_nil))) (pa_cons (pe_call G_cost_together (hr.mono (by decide)) rfl m_cost_together kp_cost_together b_cost_together .nil pass0 (pa_cons (pv 0) (pa_cons (pv 1) pa_nil))) pa_nil)))))), ?_⟩)
  obtain ⟨a, r, p, l, rfl, hp, wf, hr', hl, hlen, k⟩ := h
  refine st_retN' (o := .lst ([0, (Vatsld.missOf p l : Int), (Vatsld.costOf p l : Int)].map V.int)) (evn_lst (eva_cons (evs_of val_c) fun H1 s1 => eva_cons (evs_call (eva_cons (evs_of (val_var rfl)) fun _ _ => eva_cons (evs_of (val_var rfl)) fun _ _ => eva_nil) fun H2 s2 Q z => ?_) fun H2 s2 => eva_cons (evs_call (eva_cons (evs_of (val_var rfl)) fun _ _ => eva_cons (evs_of (val_var rfl)) fun _ _ => eva_nil) fun H3 s3 Q z => ?_) fun _ _ => eva_nil) (by simp)) fun q H1 nq s1 e1 => k q H1 nq s1 e1
  · have s := s1.trans s2
    exact ⟨a, r, p, l, rfl, hp.mono s, wf, s _ _ hr', z⟩
  · have s := (s1.trans s2).trans s3
    exact ⟨a, r, p, l, rfl, hp.mono s, wf, s _ _ hr', hl, hlen, z⟩
abbrev sp_answer_machines (K : PySem.W.Frag) (A : Ad) : Sp := sp_call K A 5
abbrev sp_answer_time (K : PySem.W.Frag) (A : Ad) : Sp := sp_call K A 6
abbrev sp_answer_budget (K : PySem.W.Frag) (A : Ad) : Sp := sp_call K A 7
abbrev sp_answer_choice (K : PySem.W.Frag) (A : Ad) : Sp := sp_call K A 8
abbrev sp_answer_size (K : PySem.W.Frag) (A : Ad) : Sp := sp_call K A 9
theorem evn_range {σ : L2.St} {H : Hp} {te : TE} {n : Nat} (hv : Val te σ H (.int (n : Int))) (hn : n < 1000000) : EvN (tLstRg (tRg1 te)) σ H (.lst (natsV (List.range n))) := fun Q z =>
  hv _ ⟨(n : Int), rfl, RgOk.of_le (by omega) (by omega) (by omega) (by omega), fun q hq => by rw [rg_nats]; exact z q _ hq (Same.new hq) upd_same⟩
/-! ### answer_size -/
abbrev s_answer_size : Stmt := top 115
theorem sc_answer_size : FnScope ["holder", "reader", "plan", "count"] ["holder", "reader"] (defScope s_answer_size) := ⟨rfl, rfl, rfl, by decide +kernel, rfl, by decide +kernel, by decide +kernel⟩
theorem ok_answer_size {f : Addr} {fd : FuncData} (F : Fun K "answer_size" "answer_size" s_answer_size f fd) (T : Txt K mg A)
    (C_miss_of : Cal P w K mg base CX0 1 "miss_of" ["plan", "chosen"] (sp_miss_of A)) : FnOk P w K mg base CX0 2 f fd ["holder", "reader"] (sp_answer_size K A) := by
  obtain ⟨f_miss_of, fd_miss_of, m_miss_of, kp_miss_of, b_miss_of, G_miss_of⟩ := C_miss_of.ex
  refine F.ok sc_answer_size (fun vs H Q E h => by revert h; first | (rintro ⟨rfl, _⟩; rfl) | (rintro ⟨_, rfl, _⟩; rfl) | (rintro ⟨_, _, rfl, _⟩; rfl) | (rintro ⟨_, _, _, rfl, _⟩; rfl) | (rintro ⟨_, _, _, _, rfl, _⟩; rfl) | (rintro ⟨_, _, _, _, _, rfl, _⟩; rfl) | (rintro ⟨_, _, _, _, _, _, rfl, _⟩; rfl) | (rintro ⟨_, _, _, _, _, _, _, rfl, _⟩; rfl) | (rintro ⟨_, _, _, _, _, _, _, _, rfl, _⟩; rfl) | (rintro ⟨_, _, _, _, _, _, _, _, _, rfl, _⟩; rfl) | (rintro ⟨_, _, _, _, _, _, _, _, _, _, rfl, _⟩; rfl) | (rintro ⟨_, _, _, _, _, _, _, _, _, _, _, rfl, _⟩; rfl)) (fun cdv Ar outer s H vs Q E hr h => ⟨_, 
  (pss_cons (ps_set (i := 2) sc_answer_size.nd rfl (Or.inl rfl) (pe_fld (pv 0) rfl))
      (pss_cons (ps_set (i := 3) sc_answer_size.nd rfl (Or.inl rfl) (pe_callB call_len_seq (by rfl) T.b_len (by decide +kernel) (pa_cons (pe_fld (pv 2) rfl) pa_nil)))
      (pss_one (ps_ret (pe_lst (pa_cons pe_int (pa_cons (pe_callB call_len_seq (by rfl) T.b_len (by decide +kernel) (pa_cons (pe_fld (pv 2) rfl) pa_nil)) (pa_cons (pv 3) (pa_cons (pe_call G_miss_of (hr.mono (by decide)) rfl m_miss_of kp_miss_of b_miss_of .nil pass0 (pa_cons (pv 2) (pa_cons (pe_listRg (by rfl) (by rfl) T.b_list (prg_1 (by rfl) T.b_range (pv 3))) pa_nil))) pa_nil))))))))), ?_⟩)
  obtain ⟨ha, ra, ca, qa, pl, l, st, c, t, rfl, hS, hc, k⟩ := h
  obtain ⟨rfl, rfl⟩ := call_none rfl hc
  obtain ⟨pa, ⟨dh, eh⟩, hP⟩ := hS.ho
  obtain ⟨dp, lg, lt, gs, js, f1, f2, f3, f4, f5⟩ := hP.lens
  have hnj := hS.wf.nj
  refine st_seqSet (val_fld (val_var rfl) eh T.cHolder T.n_Holder_plan (hoF_plan _)) ?_
  refine st_seqSet (val_len (SqL.of f4) f5 (val_tests T (val_var rfl) f1)) ?_
  refine st_retN' (o := .lst ((0 :: Vatsld.toInts [st.groups.length, st.jobs.length, Vatsld.missOf st (List.range st.jobs.length)]).map V.int)) (evn_lst (vs := (0 :: Vatsld.toInts [st.groups.length, st.jobs.length, Vatsld.missOf st (List.range st.jobs.length)]).map V.int) (eva_cons (evs_of val_c) fun H1 s1 => eva_cons (evs_of (val_len (SqL.of (s1 _ _ f2)) f3 (val_groups T (val_var rfl) (s1 _ _ f1)))) fun H2 s2 => eva_cons (evs_of (val_var rfl)) fun H3 s3 => eva_cons (evs_call2N (o := .lst (natsV (List.range st.jobs.length))) (evs_of (val_var rfl)) (fun H4 s4 => evn_range (val_var rfl) (by omega)) fun q H4 s4 e4 Q z => ?_) fun _ _ => eva_nil) (by simp [Vatsld.toInts])) fun q H1 nq s1 e1 => ?_
  · have s := (s1.trans s2).trans (s3.trans s4)
    exact ⟨pa, q, st, _, rfl, hP.mono s, hS.wf, e4, z⟩
  · refine k q H1 (hS.neq nq) (s1.keep2 _ _) ?_ e1 (by show (0 :: Vatsld.toInts [_, _, _]).length ≤ _; simp [Vatsld.toInts])
    rw [drop_len hS.le]
    exact hS.mono s1
theorem cho_row {a b : Int} {l : List Nat} (h : l.length ≤ 7) : (0 :: a :: b :: Vatsld.toInts (l.length :: l)).length ≤ 15000 := by
  unfold Vatsld.toInts
  simp
  omega
/-! ### answer_choice -/
abbrev s_answer_choice : Stmt := top 113
theorem sc_answer_choice : FnScope ["holder", "reader", "chosen"] ["holder", "reader"] (defScope s_answer_choice) := ⟨rfl, rfl, rfl, by decide +kernel, rfl, by decide +kernel, by decide +kernel⟩
theorem ok_answer_choice {f : Addr} {fd : FuncData} (F : Fun K "answer_choice" "answer_choice" s_answer_choice f fd) (T : Txt K mg A)
    (C_answer_chosen : Cal P w K mg base CX0 2 "answer_chosen" ["plan", "chosen"] (sp_answer_chosen A))
    (C_is_choice : Cal P w K mg base CX0 2 "is_choice" ["plan", "chosen"] (sp_is_choice A))
    (C_are_tests : Cal P w K mg base CX0 1 "are_tests" ["plan", "numbers"] (sp_are_tests A))
    (C_CallReader_take_row : CalM P w K mg base CX0 1 A.cCallReader "take_row" ["self"] (sp_CallReader_take_row K A)) : FnOk P w K mg base CX0 3 f fd ["holder", "reader"] (sp_answer_choice K A) := by
  obtain ⟨f_answer_chosen, fd_answer_chosen, m_answer_chosen, kp_answer_chosen, b_answer_chosen, G_answer_chosen⟩ := C_answer_chosen.ex
  obtain ⟨f_is_choice, fd_is_choice, m_is_choice, kp_is_choice, b_is_choice, G_is_choice⟩ := C_is_choice.ex
  obtain ⟨f_are_tests, fd_are_tests, m_are_tests, kp_are_tests, b_are_tests, G_are_tests⟩ := C_are_tests.ex
  obtain ⟨f_CallReader_take_row, fd_CallReader_take_row, m_CallReader_take_row, b_CallReader_take_row, G_CallReader_take_row⟩ := C_CallReader_take_row.ex
  refine F.ok sc_answer_choice (fun vs H Q E h => by revert h; first | (rintro ⟨rfl, _⟩; rfl) | (rintro ⟨_, rfl, _⟩; rfl) | (rintro ⟨_, _, rfl, _⟩; rfl) | (rintro ⟨_, _, _, rfl, _⟩; rfl) | (rintro ⟨_, _, _, _, rfl, _⟩; rfl) | (rintro ⟨_, _, _, _, _, rfl, _⟩; rfl) | (rintro ⟨_, _, _, _, _, _, rfl, _⟩; rfl) | (rintro ⟨_, _, _, _, _, _, _, rfl, _⟩; rfl) | (rintro ⟨_, _, _, _, _, _, _, _, rfl, _⟩; rfl) | (rintro ⟨_, _, _, _, _, _, _, _, _, rfl, _⟩; rfl) | (rintro ⟨_, _, _, _, _, _, _, _, _, _, rfl, _⟩; rfl) | (rintro ⟨_, _, _, _, _, _, _, _, _, _, _, rfl, _⟩; rfl)) (fun cdv Ar outer s H vs Q E hr h => ⟨_, 
  (pss_cons (ps_set (i := 2) sc_answer_choice.nd rfl (Or.inl rfl) (pe_meth0 (pv 1) T.cCallReader m_CallReader_take_row G_CallReader_take_row (hr.mono (by decide)) b_CallReader_take_row .nil pass0))
      (pss_cons (ps_if (pt_not (pt_val (pe_call G_are_tests (hr.mono (by decide)) rfl m_are_tests kp_are_tests b_are_tests .nil pass0 (pa_cons (pe_fld (pv 0) rfl) (pa_cons (pv 2) pa_nil))))) (pss_one (ps_ret (pe_lst (pa_cons (pe_num (by rfl) T.k_BAD_LIST) pa_nil)))) pss_nil)
      (pss_cons (ps_if (pt_not (pt_val (pe_call G_is_choice (hr.mono (by decide)) rfl m_is_choice kp_is_choice b_is_choice .nil pass0 (pa_cons (pe_fld (pv 0) rfl) (pa_cons (pv 2) pa_nil))))) (pss_one (ps_ret (pe_lst (pa_cons pe_int pa_nil)))) pss_nil)
      (pss_one (ps_ret (pe_call G_answer_chosen (hr.mono (by decide)) rfl m_answer_chosen kp_answer_chosen b_answer_chosen .nil pass0 (pa_cons (pe_fld (pv 0) rfl) (pa_cons (pv 2) pa_nil)))))))), ?_⟩)
  obtain ⟨ha, ra, ca, qa, pl, l, st, c, t, rfl, hS, hc, k⟩ := h
  obtain ⟨row, hrow, rfl⟩ := call_row rfl hc
  refine st_seqSetG (evg_row (val_var rfl) hS hrow) fun v H1 h1 => ?_
  obtain ⟨q, rfl, nq, k1, hS1, e1⟩ := h1
  obtain ⟨pa, ⟨dh, eh⟩, hP⟩ := hS1.ho
  have hrl := row_len hrow
  have hl17 := hS.len
  have hnj := hS.wf.nj
  have hstep : VatsldNeutral.step st [[8], row] = (st, if !(Vatsld.isRow st.jobs.length row && Vatsld.unlike row) then [-12] else if Vatsld.isClosed st (Vatsld.toNats row) then [0, (Vatsld.missOf st (Vatsld.toNats row) : Int), (Vatsld.costOf st (Vatsld.toNats row) : Int)] else [1]) := rfl
  have fin : ∀ la H', H1 la = none → Same H1 H' → H' la = some (.lst ((VatsldNeutral.step st [[8], row]).2.map V.int)) → Q (.ref la) H' := fun la H' n s e => by
    refine k la H' (hS1.neq n) (k1.trans (s.keep2 _ _)) (hS1.mono s) e ?_
    rw [hstep]
    dsimp only
    split
    · simp
    · split <;> simp
  refine st_seqIf (b := !(Vatsld.isRow st.jobs.length row && Vatsld.unlike row)) (ans_notS (ans_test (evs_call (eva_cons (evs_of (val_fld (val_var rfl) eh T.cHolder T.n_Holder_plan (hoF_plan _))) fun _ _ => eva_cons (evs_of (val_var rfl)) fun _ _ => eva_nil) fun H2 s2 Q z => ?_))) (fun hb H2 s2 => ?_) fun hb H2 s2 => ?_
  · exact ⟨pa, q, st, row, rfl, hP.mono s2, hS.wf, s2 _ _ e1, by omega, z⟩
  · refine st_retN' (o := .lst [.int (-12)]) (evn_lst (eva_cons (evs_of val_c) fun _ _ => eva_nil) (by simp)) fun la H3 n3 s3 e3 => fin la H3 (s2.free n3) (s2.trans s3) ?_
    rw [hstep, if_pos hb]
    exact e3
  rw [if_neg (by rw [hb]; exact Bool.false_ne_true)] at hstep
  have hb' := not_f hb
  rw [Bool.and_eq_true] at hb'
  have hrow' := ints_toNats hb'.1
  have hlt := row_lt hb'.1
  have hlen : (Vatsld.toNats row).length ≤ 7 := by
    rw [len_toNats]
    have hnd : row.Nodup := by
      have := hb'.2
      rw [unlike_nodup] at this
      exact of_decide_eq_true this
    have := few_ints row hnd fun z hz => by
      have := List.all_eq_true.mp hb'.1 z hz
      simpa using this
    omega
  have hq : ∀ H9, Same H2 H9 → H9 q = some (.lst (natsV (Vatsld.toNats row))) := fun H9 s9 => by
    rw [natsV_ints, hrow']
    exact s9 _ _ (s2 _ _ e1)
  refine st_seqIf (b := !Vatsld.isClosed st (Vatsld.toNats row)) (ans_notS (ans_test (evs_call (eva_cons (evs_of (val_fld (val_var rfl) (s2 _ _ eh) T.cHolder T.n_Holder_plan (hoF_plan _))) fun _ _ => eva_cons (evs_of (val_var rfl)) fun _ _ => eva_nil) fun H3 s3 Q z => ?_))) (fun hb2 H3 s3 => ?_) fun hb2 H3 s3 => ?_
  · exact ⟨pa, q, st, Vatsld.toNats row, rfl, hP.mono (s2.trans s3), hS.wf, hq _ s3, hlt, by omega, z⟩
  · refine st_retN' (o := .lst [.int 1]) (evn_lst (eva_cons (evs_of val_c) fun _ _ => eva_nil) (by simp)) fun la H4 n4 s4 e4 => fin la H4 ((s2.trans s3).free n4) ((s2.trans s3).trans s4) ?_
    rw [hstep, if_neg (by rw [not_t hb2]; exact Bool.false_ne_true)]
    exact e4
  · refine st_retCall (eva_cons (evs_of (val_fld (val_var rfl) (s3 _ _ (s2 _ _ eh)) T.cHolder T.n_Holder_plan (hoF_plan _))) fun _ _ => eva_cons (evs_of (val_var rfl)) fun _ _ => eva_nil) fun H4 s4 => ?_
    have s := (s2.trans s3).trans s4
    refine ⟨pa, q, st, Vatsld.toNats row, rfl, hP.mono s, hS.wf, hq _ (s3.trans s4), hlt, by omega, fun la H5 n5 s5 e5 => fin la H5 (s.free n5) (s.trans s5) ?_⟩
    rw [hstep, if_pos (not_f hb2)]
    exact e5
end
end Tp
namespace Tp
open PySem PySem.Spec PyProof.Rows L2
section
variable {P : Program} {w : World} {K : PySem.W.Frag} {mg : Str → Option Value} {base : Heap} {A : Ad}
open Vatsld (jobAt)
open LamX (Tabs ExtN)
theorem ans_between {σ : L2.St} {H : Hp} {ta tb tc : TE} {lo m hi : Int} (ha : Val ta σ H (.int lo)) (hb : Val tb σ H (.int m)) (hc : Val tc σ H (.int hi)) : Ans' (tNot (tTest (tChain (rI0 fun i j => .bl (decide (i ≤ j))) (rI0 fun i j => .bl (decide (i ≤ j))) ta tb tc))) σ H (!(decide (lo ≤ m) && decide (m ≤ hi))) :=
  ans_notS (ans_test (evs_of (val_chain ha hb (fun Q z => ⟨_, _, rfl, rfl, z⟩) fun _ => ⟨_, hc, fun Q z => ⟨_, _, rfl, rfl, z⟩⟩)))
/-! ### answer_machines -/
abbrev s_answer_machines : Stmt := top 110
theorem sc_answer_machines : FnScope ["holder", "reader", "many", "way"] ["holder", "reader"] (defScope s_answer_machines) := ⟨rfl, rfl, rfl, by decide +kernel, rfl, by decide +kernel, by decide +kernel⟩
theorem ok_answer_machines {f : Addr} {fd : FuncData} (F : Fun K "answer_machines" "answer_machines" s_answer_machines f fd) (T : Txt K mg A)
    (C_time_of_all : Cal P w K mg base CX0 3 "time_of_all" ["plan", "many", "way"] (sp_time_of_all A))
    (C_best_way : Cal P w K mg base CX0 6 "best_way" ["plan", "many"] (sp_best_way A))
    (C_CallReader_take_one : CalM P w K mg base CX0 1 A.cCallReader "take_one" ["self"] (sp_CallReader_take_one K A)) : FnOk P w K mg base CX0 7 f fd ["holder", "reader"] (sp_answer_machines K A) := by
  obtain ⟨f_time_of_all, fd_time_of_all, m_time_of_all, kp_time_of_all, b_time_of_all, G_time_of_all⟩ := C_time_of_all.ex
  obtain ⟨f_best_way, fd_best_way, m_best_way, kp_best_way, b_best_way, G_best_way⟩ := C_best_way.ex
  obtain ⟨f_CallReader_take_one, fd_CallReader_take_one, m_CallReader_take_one, b_CallReader_take_one, G_CallReader_take_one⟩ := C_CallReader_take_one.ex
  refine F.ok sc_answer_machines (fun vs H Q E h => by revert h; first | (rintro ⟨rfl, _⟩; rfl) | (rintro ⟨_, rfl, _⟩; rfl) | (rintro ⟨_, _, rfl, _⟩; rfl) | (rintro ⟨_, _, _, rfl, _⟩; rfl) | (rintro ⟨_, _, _, _, rfl, _⟩; rfl) | (rintro ⟨_, _, _, _, _, rfl, _⟩; rfl) | (rintro ⟨_, _, _, _, _, _, rfl, _⟩; rfl) | (rintro ⟨_, _, _, _, _, _, _, rfl, _⟩; rfl) | (rintro ⟨_, _, _, _, _, _, _, _, rfl, _⟩; rfl) | (rintro ⟨_, _, _, _, _, _, _, _, _, rfl, _⟩; rfl) | (rintro ⟨_, _, _, _, _, _, _, _, _, _, rfl, _⟩; rfl) | (rintro ⟨_, _, _, _, _, _, _, _, _, _, _, rfl, _⟩; rfl)) (fun cdv Ar outer s H vs Q E hr h => ⟨_, 
  (pss_cons (ps_set (i := 2) sc_answer_machines.nd rfl (Or.inl rfl) (pe_meth0 (pv 1) T.cCallReader m_CallReader_take_one G_CallReader_take_one (hr.mono (by decide)) b_CallReader_take_one .nil pass0))
      (pss_cons (ps_if (pt_not (pt_chain op_le op_le pe_int (pv 2) (pe_num (by rfl) T.k_MOST_MACHINES))) (pss_one (ps_ret (pe_lst (pa_cons (pe_num (by rfl) T.k_BAD_NUMBER) pa_nil)))) pss_nil)
      (pss_cons (ps_set (i := 3) sc_answer_machines.nd rfl (Or.inl rfl) (pe_call G_best_way (hr.mono (by decide)) rfl m_best_way kp_best_way b_best_way .nil pass0 (pa_cons (pe_fld (pv 0) rfl) (pa_cons (pv 2) pa_nil))))
      (pss_one (ps_ret (pe_op op_cat (pe_lst (pa_cons pe_int (pa_cons (pe_call G_time_of_all (hr.mono (by decide)) rfl m_time_of_all kp_time_of_all b_time_of_all .nil pass0 (pa_cons (pe_fld (pv 0) rfl) (pa_cons (pv 2) (pa_cons (pv 3) pa_nil)))) pa_nil))) (pv 3))))))), ?_⟩)
  obtain ⟨ha, ra, ca, qa, pl, l, st, c, t, rfl, hS, hc, k⟩ := h
  obtain ⟨m, hd, rfl⟩ := call_num rfl hc
  refine st_seqSetG (evg_one (val_var rfl) hS hd) fun v H1 h1 => ?_
  obtain ⟨rfl, k1, hS1, rfl⟩ := h1
  obtain ⟨pa, ⟨dh, eh⟩, hP⟩ := hS1.ho
  have hnj := hS.wf.nj
  have hstep : VatsldNeutral.step st [[5, m]] = (st, if Vatsld.isMachines m then Vatsld.machinesRow st m.toNat else [-7]) := rfl
  have hpl : l.length - (l.drop (pl + 1)).length = pl + 1 := drop_len hS1.le
  rw [hpl] at k
  refine st_seqIf (ans_between val_c (val_var rfl) val_c) (fun hb H2 s2 => ?_) fun hb H2 s2 => ?_
  · refine st_retN' (o := .lst [.int (-7)]) (evn_lst (eva_cons (evs_of val_c) fun _ _ => eva_nil) (by simp)) fun la H3 n3 s3 e3 => ?_
    have s := s2.trans s3
    have hm : Vatsld.isMachines m = false := not_t hb
    rw [hstep, if_neg (by rw [hm]; exact Bool.false_ne_true)] at k
    exact k la H3 (hS1.neq (s2.free n3)) (k1.trans (s.keep2 _ _)) (hS1.mono s) e3 (by simp)
  have hm : Vatsld.isMachines m = true := not_f hb
  have hm' := hm
  unfold Vatsld.isMachines Vatsld.MACHINES at hm'
  rw [Bool.and_eq_true, decide_eq_true_iff, decide_eq_true_iff] at hm'
  obtain ⟨n, rfl⟩ : ∃ n : Nat, m = (n : Int) := ⟨m.toNat, by omega⟩
  have hn1 : 1 ≤ n := by omega
  have hn3 : n ≤ 3 := by omega
  have hS2 := hS1.mono s2
  have eh2 := s2 _ _ eh
  refine st_seqCall (eva_cons (evs_of (val_fld (val_var rfl) eh2 T.cHolder T.n_Holder_plan (hoF_plan _))) fun _ _ => eva_cons (evs_of (val_var rfl)) fun _ _ => eva_nil) fun H3 s3 => ?_
  have hS3 := hS2.mono s3
  refine ⟨pa, st, n, rfl, hP.mono (s2.trans s3), hS.wf, hn1, hn3, hS3.tabs, fun q H4 eN T4 e4 => ?_⟩
  have hS4 := hS3.ext eN T4
  have s23 := s2.trans s3
  have hP4 := (hP.mono s23).ext eN
  have eh4 : H4 ha = some (.ins A.cHolder dh (hoF pa)) := eN _ _ (s3 _ _ eh2) (by intro _ z; cases z)
  have hw := ways_ok (firstMin_mem (wayKey st n) (ways_some hn1 st.jobs.length))
  obtain ⟨w, hwd⟩ : ∃ w, w = firstMin (wayKey st n) (Vatsld.waysFor n st.jobs.length) := ⟨_, rfl⟩
  rw [← hwd] at e4 hw
  refine st_retN' (o := .lst ((0 :: (Vatsld.timeOf st n w : Int) :: Vatsld.toInts w).map V.int)) (evn_is (evn_catV (q := q) (xs := [.int 0, .int (Vatsld.timeOf st n w : Int)]) (ys := natsV w) (evn_lst (eva_cons (evs_of val_c) fun H5 s5 => eva_cons (evs_call (eva_cons (evs_of (val_fld (val_var rfl) (s5 _ _ eh4) T.cHolder T.n_Holder_plan (hoF_plan _))) fun _ _ => eva_cons (evs_of (val_var rfl)) fun _ _ => eva_cons (evs_of (val_var rfl)) fun _ _ => eva_nil) fun H6 s6 Q z => ?_) fun _ _ => eva_nil) (by simp)) (fun H5 s5 => val_var rfl) e4 (by rw [natsV_len, hw.1]; show 2 + _ < _; omega)) (by rw [nats_ints]; rfl)) fun la H5 nla s5 e5 => ?_
  · have s := s5.trans s6
    exact ⟨pa, q, st, w, n, rfl, hP4.mono s, hS.wf, s _ _ e4, hw.1, hn1, hn3, z⟩
  · rw [hstep, if_pos hm] at k
    have hrow : Vatsld.machinesRow st (n : Int).toNat = 0 :: (Vatsld.timeOf st n w : Int) :: Vatsld.toInts w := by
      unfold Vatsld.machinesRow
      rw [Int.toNat_natCast, machines_is st hn1, ← hwd]
    dsimp only at k
    rw [hrow] at k
    refine k la H5 (hS4.neq nla) ((k1.trans (s23.keep2 _ _)).trans ((keep2_ext eN _ _).trans (s5.keep2 _ _))) (hS4.mono s5) e5 (order_row 0 _ (by rw [hw.1]; exact hnj))
/-! ### answer_time -/
abbrev s_answer_time : Stmt := top 111
theorem sc_answer_time : FnScope ["holder", "reader", "many", "way"] ["holder", "reader"] (defScope s_answer_time) := ⟨rfl, rfl, rfl, by decide +kernel, rfl, by decide +kernel, by decide +kernel⟩
theorem ok_answer_time {f : Addr} {fd : FuncData} (F : Fun K "answer_time" "answer_time" s_answer_time f fd) (T : Txt K mg A)
    (C_time_of_all : Cal P w K mg base CX0 3 "time_of_all" ["plan", "many", "way"] (sp_time_of_all A))
    (C_is_way : Cal P w K mg base CX0 1 "is_way" ["plan", "many", "way"] (sp_is_way A))
    (C_CallReader_take_row : CalM P w K mg base CX0 1 A.cCallReader "take_row" ["self"] (sp_CallReader_take_row K A))
    (C_CallReader_take_one : CalM P w K mg base CX0 1 A.cCallReader "take_one" ["self"] (sp_CallReader_take_one K A)) : FnOk P w K mg base CX0 4 f fd ["holder", "reader"] (sp_answer_time K A) := by
  obtain ⟨f_time_of_all, fd_time_of_all, m_time_of_all, kp_time_of_all, b_time_of_all, G_time_of_all⟩ := C_time_of_all.ex
  obtain ⟨f_is_way, fd_is_way, m_is_way, kp_is_way, b_is_way, G_is_way⟩ := C_is_way.ex
  obtain ⟨f_CallReader_take_row, fd_CallReader_take_row, m_CallReader_take_row, b_CallReader_take_row, G_CallReader_take_row⟩ := C_CallReader_take_row.ex
  obtain ⟨f_CallReader_take_one, fd_CallReader_take_one, m_CallReader_take_one, b_CallReader_take_one, G_CallReader_take_one⟩ := C_CallReader_take_one.ex
  refine F.ok sc_answer_time (fun vs H Q E h => by revert h; first | (rintro ⟨rfl, _⟩; rfl) | (rintro ⟨_, rfl, _⟩; rfl) | (rintro ⟨_, _, rfl, _⟩; rfl) | (rintro ⟨_, _, _, rfl, _⟩; rfl) | (rintro ⟨_, _, _, _, rfl, _⟩; rfl) | (rintro ⟨_, _, _, _, _, rfl, _⟩; rfl) | (rintro ⟨_, _, _, _, _, _, rfl, _⟩; rfl) | (rintro ⟨_, _, _, _, _, _, _, rfl, _⟩; rfl) | (rintro ⟨_, _, _, _, _, _, _, _, rfl, _⟩; rfl) | (rintro ⟨_, _, _, _, _, _, _, _, _, rfl, _⟩; rfl) | (rintro ⟨_, _, _, _, _, _, _, _, _, _, rfl, _⟩; rfl) | (rintro ⟨_, _, _, _, _, _, _, _, _, _, _, rfl, _⟩; rfl)) (fun cdv Ar outer s H vs Q E hr h => ⟨_, 
  (pss_cons (ps_set (i := 2) sc_answer_time.nd rfl (Or.inl rfl) (pe_meth0 (pv 1) T.cCallReader m_CallReader_take_one G_CallReader_take_one (hr.mono (by decide)) b_CallReader_take_one .nil pass0))
      (pss_cons (ps_set (i := 3) sc_answer_time.nd rfl (Or.inl rfl) (pe_meth0 (pv 1) T.cCallReader m_CallReader_take_row G_CallReader_take_row (hr.mono (by decide)) b_CallReader_take_row .nil pass0))
      (pss_cons (ps_if (pt_not (pt_chain op_le op_le pe_int (pv 2) (pe_num (by rfl) T.k_MOST_MACHINES))) (pss_one (ps_ret (pe_lst (pa_cons (pe_num (by rfl) T.k_BAD_NUMBER) pa_nil)))) pss_nil)
      (pss_cons (ps_if (pt_not (pt_val (pe_call G_is_way (hr.mono (by decide)) rfl m_is_way kp_is_way b_is_way .nil pass0 (pa_cons (pe_fld (pv 0) rfl) (pa_cons (pv 2) (pa_cons (pv 3) pa_nil)))))) (pss_one (ps_ret (pe_lst (pa_cons (pe_num (by rfl) T.k_BAD_LIST) pa_nil)))) pss_nil)
      (pss_one (ps_ret (pe_lst (pa_cons pe_int (pa_cons (pe_call G_time_of_all (hr.mono (by decide)) rfl m_time_of_all kp_time_of_all b_time_of_all .nil pass0 (pa_cons (pe_fld (pv 0) rfl) (pa_cons (pv 2) (pa_cons (pv 3) pa_nil)))) pa_nil))))))))), ?_⟩)
  obtain ⟨ha, ra, ca, qa, pl, l, st, c, t, rfl, hS, hc, k⟩ := h
  obtain ⟨m, r', row, hd, hrow, rfl⟩ := call_numrow rfl hc
  refine st_seqSetG (evg_one (val_var rfl) hS hd) fun v H1 h1 => ?_
  obtain ⟨rfl, k1, hS1, rfl⟩ := h1
  refine st_seqSetG (evg_row (val_var rfl) hS1 hrow) fun v H2 h2 => ?_
  obtain ⟨q, rfl, nq, k2, hS2, e2⟩ := h2
  obtain ⟨pa, ⟨dh, eh⟩, hP⟩ := hS2.ho
  have hnj := hS.wf.nj
  have hrl := row_len hrow
  have hl17 := hS.len
  have hstep : VatsldNeutral.step st [[6, m], row] = (st, if !Vatsld.isMachines m then [-7] else if row.length = st.jobs.length && Vatsld.isRow m.toNat row then [0, (Vatsld.timeOf st m.toNat (Vatsld.toNats row) : Int)] else [-12]) := rfl
  have fin : ∀ la H', H2 la = none → Same H2 H' → H' la = some (.lst ((VatsldNeutral.step st [[6, m], row]).2.map V.int)) → Q (.ref la) H' := fun la H' n s e => by
    refine k la H' (hS2.neq n) ((k1.trans k2).trans (s.keep2 _ _)) (hS2.mono s) e ?_
    rw [hstep]
    dsimp only
    split
    · simp
    · split <;> simp
  refine st_seqIf (ans_between val_c (val_var rfl) val_c) (fun hb H3 s3 => ?_) fun hb H3 s3 => ?_
  · refine st_retN' (o := .lst [.int (-7)]) (evn_lst (eva_cons (evs_of val_c) fun _ _ => eva_nil) (by simp)) fun la H4 n4 s4 e4 => fin la H4 (s3.free n4) (s3.trans s4) ?_
    have hm : Vatsld.isMachines m = false := not_t hb
    rw [hstep, hm]
    exact e4
  have hm : Vatsld.isMachines m = true := not_f hb
  have hm' := hm
  unfold Vatsld.isMachines Vatsld.MACHINES at hm'
  rw [Bool.and_eq_true, decide_eq_true_iff, decide_eq_true_iff] at hm'
  obtain ⟨n, rfl⟩ : ∃ n : Nat, m = (n : Int) := ⟨m.toNat, by omega⟩
  have hn1 : 1 ≤ n := by omega
  have hn3 : n ≤ 3 := by omega
  rw [hm, Int.toNat_natCast] at hstep
  refine st_seqIf (b := !(decide (row.length = st.jobs.length) && Vatsld.isRow n row)) (ans_notS (ans_test (evs_call (eva_cons (evs_of (val_fld (val_var rfl) (s3 _ _ eh) T.cHolder T.n_Holder_plan (hoF_plan _))) fun _ _ => eva_cons (evs_of (val_var rfl)) fun _ _ => eva_cons (evs_of (val_var rfl)) fun _ _ => eva_nil) fun H4 s4 Q z => ?_))) (fun hb2 H4 s4 => ?_) fun hb2 H4 s4 => ?_
  · have s := s3.trans s4
    exact ⟨pa, q, st, n, row, rfl, hP.mono s, hS.wf, s _ _ e2, by omega, z⟩
  · refine st_retN' (o := .lst [.int (-12)]) (evn_lst (eva_cons (evs_of val_c) fun _ _ => eva_nil) (by simp)) fun la H5 n5 s5 e5 => fin la H5 ((s3.trans s4).free n5) ((s3.trans s4).trans s5) ?_
    rw [hstep]
    show H5 la = some (.lst ((if (decide (row.length = st.jobs.length) && Vatsld.isRow n row) = true then _ else [-12]).map V.int))
    rw [if_neg (by rw [not_t hb2]; exact Bool.false_ne_true)]
    exact e5
  · have hb3 := not_f hb2
    have hb4 := hb3
    rw [Bool.and_eq_true, decide_eq_true_iff] at hb4
    have s34 := s3.trans s4
    refine st_retN' (o := .lst [.int 0, .int (Vatsld.timeOf st n (Vatsld.toNats row) : Int)]) (evn_lst (eva_cons (evs_of val_c) fun H5 s5 => eva_cons (evs_call (eva_cons (evs_of (val_fld (val_var rfl) (s5 _ _ (s34 _ _ eh)) T.cHolder T.n_Holder_plan (hoF_plan _))) fun _ _ => eva_cons (evs_of (val_var rfl)) fun _ _ => eva_cons (evs_of (val_var rfl)) fun _ _ => eva_nil) fun H6 s6 Q z => ?_) fun _ _ => eva_nil) (by simp)) fun la H5 n5 s5 e5 => fin la H5 (s34.free n5) (s34.trans s5) ?_
    · have s := s34.trans (s5.trans s6)
      exact ⟨pa, q, st, Vatsld.toNats row, n, rfl, hP.mono s, hS.wf, by rw [s _ _ e2, natsV_ints, ints_toNats hb4.2], by rw [len_toNats]; exact hb4.1, hn1, hn3, z⟩
    · rw [hstep]
      show H5 la = some (.lst ((if (decide (row.length = st.jobs.length) && Vatsld.isRow n row) = true then [0, (Vatsld.timeOf st n (Vatsld.toNats row) : Int)] else [-12]).map V.int))
      rw [if_pos hb3]
      exact e5
theorem ans_within {σ : L2.St} {H : Hp} {ta tb tc : TE} {m : Int} (ha : Val ta σ H (.int 0)) (hb : Val tb σ H (.int m)) (hc : Val tc σ H (.int 100000)) : Ans' (tNot (tTest (tChain (rI0 fun i j => .bl (decide (i ≤ j))) (rI0 fun i j => .bl (decide (i ≤ j))) ta tb tc))) σ H (decide (m < 0 ∨ 100000 < m)) :=
  ans_is (ans_between ha hb hc) (by rw [Bool.eq_iff_iff, decide_eq_true_iff]; simp <;> omega)
/-! ### answer_budget -/
abbrev s_answer_budget : Stmt := top 112
theorem sc_answer_budget : FnScope ["holder", "reader", "most", "chosen"] ["holder", "reader"] (defScope s_answer_budget) := ⟨rfl, rfl, rfl, by decide +kernel, rfl, by decide +kernel, by decide +kernel⟩
theorem ok_answer_budget {f : Addr} {fd : FuncData} (F : Fun K "answer_budget" "answer_budget" s_answer_budget f fd) (T : Txt K mg A)
    (C_answer_chosen : Cal P w K mg base CX0 2 "answer_chosen" ["plan", "chosen"] (sp_answer_chosen A))
    (C_best_choice : Cal P w K mg base CX0 4 "best_choice" ["plan", "most"] (sp_best_choice A))
    (C_CallReader_take_one : CalM P w K mg base CX0 1 A.cCallReader "take_one" ["self"] (sp_CallReader_take_one K A)) : FnOk P w K mg base CX0 5 f fd ["holder", "reader"] (sp_answer_budget K A) := by
  obtain ⟨f_answer_chosen, fd_answer_chosen, m_answer_chosen, kp_answer_chosen, b_answer_chosen, G_answer_chosen⟩ := C_answer_chosen.ex
  obtain ⟨f_best_choice, fd_best_choice, m_best_choice, kp_best_choice, b_best_choice, G_best_choice⟩ := C_best_choice.ex
  obtain ⟨f_CallReader_take_one, fd_CallReader_take_one, m_CallReader_take_one, b_CallReader_take_one, G_CallReader_take_one⟩ := C_CallReader_take_one.ex
  refine F.ok sc_answer_budget (fun vs H Q E h => by revert h; first | (rintro ⟨rfl, _⟩; rfl) | (rintro ⟨_, rfl, _⟩; rfl) | (rintro ⟨_, _, rfl, _⟩; rfl) | (rintro ⟨_, _, _, rfl, _⟩; rfl) | (rintro ⟨_, _, _, _, rfl, _⟩; rfl) | (rintro ⟨_, _, _, _, _, rfl, _⟩; rfl) | (rintro ⟨_, _, _, _, _, _, rfl, _⟩; rfl) | (rintro ⟨_, _, _, _, _, _, _, rfl, _⟩; rfl) | (rintro ⟨_, _, _, _, _, _, _, _, rfl, _⟩; rfl) | (rintro ⟨_, _, _, _, _, _, _, _, _, rfl, _⟩; rfl) | (rintro ⟨_, _, _, _, _, _, _, _, _, _, rfl, _⟩; rfl) | (rintro ⟨_, _, _, _, _, _, _, _, _, _, _, rfl, _⟩; rfl)) (fun cdv Ar outer s H vs Q E hr h => ⟨_, 
  (pss_cons (ps_set (i := 2) sc_answer_budget.nd rfl (Or.inl rfl) (pe_meth0 (pv 1) T.cCallReader m_CallReader_take_one G_CallReader_take_one (hr.mono (by decide)) b_CallReader_take_one .nil pass0))
      (pss_cons (ps_if (pt_not (pt_chain op_le op_le pe_int (pv 2) (pe_num (by rfl) T.k_GREATEST_BUDGET))) (pss_one (ps_ret (pe_lst (pa_cons (pe_num (by rfl) T.k_BAD_NUMBER) pa_nil)))) pss_nil)
      (pss_cons (ps_set (i := 3) sc_answer_budget.nd rfl (Or.inl rfl) (pe_call G_best_choice (hr.mono (by decide)) rfl m_best_choice kp_best_choice b_best_choice .nil pass0 (pa_cons (pe_fld (pv 0) rfl) (pa_cons (pv 2) pa_nil))))
      (pss_one (ps_ret (pe_op op_cat (pe_op op_cat (pe_call G_answer_chosen (hr.mono (by decide)) rfl m_answer_chosen kp_answer_chosen b_answer_chosen .nil pass0 (pa_cons (pe_fld (pv 0) rfl) (pa_cons (pv 3) pa_nil))) (pe_lst (pa_cons (pe_callB call_len_seq (by rfl) T.b_len (by decide +kernel) (pa_cons (pv 3) pa_nil)) pa_nil))) (pv 3))))))), ?_⟩)
  obtain ⟨ha, ra, ca, qa, pl, l, st, c, t, rfl, hS, hc, k⟩ := h
  obtain ⟨m, hd, rfl⟩ := call_num rfl hc
  refine st_seqSetG (evg_one (val_var rfl) hS hd) fun v H1 h1 => ?_
  obtain ⟨rfl, k1, hS1, rfl⟩ := h1
  obtain ⟨pa, ⟨dh, eh⟩, hP⟩ := hS1.ho
  have hnj := hS.wf.nj
  have hstep : VatsldNeutral.step st [[7, m]] = (st, if m < 0 ∨ 100000 < m then [-7] else (match Vatsld.budgetFor st m.toNat with
    | none => []
    | some x => 0 :: Vatsld.choiceRow x)) := rfl
  have hpl : l.length - (l.drop (pl + 1)).length = pl + 1 := drop_len hS1.le
  rw [hpl] at k
  refine st_seqIf (ans_within val_c (val_var rfl) val_c) (fun hb H2 s2 => ?_) fun hb H2 s2 => ?_
  · refine st_retN' (o := .lst [.int (-7)]) (evn_lst (eva_cons (evs_of val_c) fun _ _ => eva_nil) (by simp)) fun la H3 n3 s3 e3 => ?_
    have s := s2.trans s3
    rw [hstep, if_pos (of_decide_eq_true hb)] at k
    exact k la H3 (hS1.neq (s2.free n3)) (k1.trans (s.keep2 _ _)) (hS1.mono s) e3 (by simp)
  have hm := of_decide_eq_false hb
  obtain ⟨b, rfl⟩ : ∃ b : Nat, m = (b : Int) := ⟨m.toNat, by omega⟩
  have hS2 := hS1.mono s2
  have eh2 := s2 _ _ eh
  refine st_seqCall (eva_cons (evs_of (val_fld (val_var rfl) eh2 T.cHolder T.n_Holder_plan (hoF_plan _))) fun _ _ => eva_cons (evs_of (val_var rfl)) fun _ _ => eva_nil) fun H3 s3 => ?_
  have hS3 := hS2.mono s3
  refine ⟨pa, st, b, rfl, hP.mono (s2.trans s3), hS.wf, hS3.tabs, fun q H4 eN T4 e4 => ?_⟩
  have hS4 := hS3.ext eN T4
  have s23 := s2.trans s3
  have hP4 := (hP.mono s23).ext eN
  have eh4 : H4 ha = some (.ins A.cHolder dh (hoF pa)) := eN _ _ (s3 _ _ eh2) (by intro _ z; cases z)
  have hw := within_ok (firstMin_mem (choKey st) (within_some st b))
  obtain ⟨w, hwd⟩ : ∃ w, w = firstMin (choKey st) (within st b) := ⟨_, rfl⟩
  rw [← hwd] at e4 hw
  refine st_retN' (o := .lst ((0 :: (Vatsld.missOf st w : Int) :: (Vatsld.costOf st w : Int) :: Vatsld.toInts (w.length :: w)).map V.int)) (evn_is (evn_catV (q := q) (xs := [.int 0, .int (Vatsld.missOf st w : Int), .int (Vatsld.costOf st w : Int)] ++ [.int (w.length : Int)]) (ys := natsV w)
    (evn_cat (q := q) (evn_call (eva_cons (evs_of (val_fld (val_var rfl) eh4 T.cHolder T.n_Holder_plan (hoF_plan _))) fun _ _ => eva_cons (evs_of (val_var rfl)) fun _ _ => eva_nil) fun H5 s5 Q z => ?_) (fun H5 s5 => evn_lst (eva_cons (evs_of (val_len (SqL.of (s5 _ _ e4)) (natsV_len w) (val_var rfl))) fun _ _ => eva_nil) (by simp)) (by simp)) (fun H5 s5 => val_var rfl) e4 (by rw [natsV_len]; simp; omega)) (by rw [nats_ints]; rfl)) fun la H5 nla s5 e5 => ?_
  · exact ⟨pa, q, st, w, rfl, hP4.mono s5, hS.wf, s5 _ _ e4, hw.1, by omega, z⟩
  · rw [hstep, if_neg hm] at k
    have hrow : (match Vatsld.budgetFor st (b : Int).toNat with
      | none => []
      | some x => 0 :: Vatsld.choiceRow x) = 0 :: (Vatsld.missOf st w : Int) :: (Vatsld.costOf st w : Int) :: Vatsld.toInts (w.length :: w) := by
      rw [Int.toNat_natCast, budget_is st b, ← hwd]
      rfl
    dsimp only at k
    rw [hrow] at k
    exact k la H5 (hS4.neq nla) ((k1.trans (s23.keep2 _ _)).trans ((keep2_ext eN _ _).trans (s5.keep2 _ _))) (hS4.mono s5) e5 (cho_row (by omega))
end
end Tp
namespace Tp
open PySem PySem.Spec PyProof.Rows L2
section
variable {P : Program} {w : World} {K : PySem.W.Frag} {mg : Str → Option Value} {base : Heap} {A : Ad}
open Vatsld (Toks Fault)
/-! ### the whole list of calls -/
theorem whole_id (c : List (List Int)) : PyVatsld.whole c = c := by
  unfold PyVatsld.whole
  split <;> rfl
def playedAll (st : Vatsld.Plan) (cs : List (List (List Int))) : List Int := PyFlat.told (PyFlat.played VatsldNeutral.step st cs)
theorem played_nil (st : Vatsld.Plan) : playedAll st [] = [] := rfl
theorem played_cons (st : Vatsld.Plan) (c : List (List Int)) (cs : List (List (List Int))) : playedAll st (c :: cs) = (((VatsldNeutral.step st c).2.length : Nat) : Int) :: ((VatsldNeutral.step st c).2 ++ playedAll (VatsldNeutral.step st c).1 cs) := by
  unfold playedAll PyFlat.told
  rw [PyFlat.played, List.flatMap_cons]
  rfl
theorem answers_is {l : List Int} {cs : List (List (List Int))} (h : PyFlat.calls PyVatsld.shape l.length l = some cs) : PyVatsld.answers l = playedAll Vatsld.emptyPlan cs := by
  unfold PyVatsld.answers PyVatsld.calls
  rw [h]
  have : cs.map PyVatsld.whole = cs := by
    rw [show PyVatsld.whole = id from funext whole_id, List.map_id]
  show PyFlat.told (PyFlat.played VatsldNeutral.step VatsldNeutral.start (cs.map PyVatsld.whole)) = _
  rw [this]
  rfl
theorem asked_calls {l : List Int} (h : PyVatsld.answers_asked l = true) : ∃ cs, PyFlat.calls PyVatsld.shape l.length l = some cs ∧ cs.length ≤ 60 := by
  unfold PyVatsld.answers_asked at h
  cases e : PyFlat.calls PyVatsld.shape l.length l with
  | none => rw [e] at h; cases h
  | some cs =>
    rw [e] at h
    have h : (!cs.isEmpty && PyFlat.atMost 60 cs && PyInside.calls PyVatsld.bound cs && VatsldNeutral.asked (cs.map PyVatsld.whole) && PyFlat.short 10000000 (PyVatsld.answers l)) = true := h
    rw [Bool.and_eq_true, Bool.and_eq_true, Bool.and_eq_true, Bool.and_eq_true] at h
    exact ⟨cs, rfl, of_decide_eq_true h.1.1.1.2⟩
theorem shape_ten {p : Int} {x : Nat × Nat} (h : PyVatsld.shape p = some x) : ∃ k : Nat, k < 10 ∧ p = (k : Int) := by
  unfold PyVatsld.shape at h
  by_cases h0 : p = 0
  · exact ⟨0, by omega, h0⟩
  rw [if_neg h0] at h
  by_cases h1 : p = 1
  · exact ⟨1, by omega, h1⟩
  rw [if_neg h1] at h
  by_cases h2 : p = 2
  · exact ⟨2, by omega, h2⟩
  rw [if_neg h2] at h
  by_cases h3 : p = 3
  · exact ⟨3, by omega, h3⟩
  rw [if_neg h3] at h
  by_cases h4 : p = 4
  · exact ⟨4, by omega, h4⟩
  rw [if_neg h4] at h
  by_cases h5 : p = 5
  · exact ⟨5, by omega, h5⟩
  rw [if_neg h5] at h
  by_cases h6 : p = 6
  · exact ⟨6, by omega, h6⟩
  rw [if_neg h6] at h
  by_cases h7 : p = 7
  · exact ⟨7, by omega, h7⟩
  rw [if_neg h7] at h
  by_cases h8 : p = 8
  · exact ⟨8, by omega, h8⟩
  rw [if_neg h8] at h
  by_cases h9 : p = 9
  · exact ⟨9, by omega, h9⟩
  rw [if_neg h9] at h
  cases h
theorem calls_step {f : Nat} {p : Int} {r : List Int} {cs : List (List (List Int))} (h : PyFlat.calls PyVatsld.shape f (p :: r) = some cs) :
    ∃ f' c t cs', f = f' + 1 ∧ PyFlat.call PyVatsld.shape (p :: r) = some (c, t) ∧ PyFlat.calls PyVatsld.shape f' t = some cs' ∧ cs = c :: cs' ∧ ∃ k : Nat, k < 10 ∧ p = (k : Int) := by
  cases f with
  | zero => cases h
  | succ f' =>
    simp only [PyFlat.calls] at h
    cases e : PyFlat.call PyVatsld.shape (p :: r) with
    | none => rw [e] at h; cases h
    | some x =>
      rw [e] at h
      dsimp only at h
      cases e2 : PyFlat.calls PyVatsld.shape f' x.2 with
      | none => rw [e2] at h; cases h
      | some cs' =>
        rw [e2] at h
        cases h
        refine ⟨f', x.1, x.2, cs', rfl, rfl, e2, rfl, ?_⟩
        simp only [PyFlat.call] at e
        cases es : PyVatsld.shape p with
        | none => rw [es] at e; cases e
        | some y => exact shape_ten es
theorem rows_tail : ∀ {k : Nat} {r : List Int} {xs : List (List Int)} {t : List Int}, PyFlat.rows k r = some (xs, t) → ∃ j, t = r.drop j
  | 0, r, xs, t, h => by
    cases h
    exact ⟨0, rfl⟩
  | k + 1, r, xs, t, h => by
    simp only [PyFlat.rows] at h
    cases e : PyFlat.row r with
    | none => rw [e] at h; cases h
    | some x =>
      rw [e] at h
      dsimp only at h
      cases e2 : PyFlat.rows k x.2 with
      | none => rw [e2] at h; cases h
      | some y =>
        rw [e2] at h
        cases h
        obtain ⟨j, hj⟩ := rows_tail e2
        have : ∃ i, x.2 = r.drop i := by
          cases r with
          | nil => cases e
          | cons n r' =>
            simp only [PyFlat.row] at e
            split at e
            · cases e
              exact ⟨1 + n.toNat, by rw [← List.drop_drop]; rfl⟩
            · cases e
        obtain ⟨i, hi⟩ := this
        exact ⟨i + j, by rw [hj, hi, List.drop_drop]⟩
theorem call_tail {p : Int} {r : List Int} {c : List (List Int)} {t : List Int} (h : PyFlat.call PyVatsld.shape (p :: r) = some (c, t)) : ∃ j, t = r.drop j := by
  simp only [PyFlat.call] at h
  cases es : PyVatsld.shape p with
  | none => rw [es] at h; cases h
  | some y =>
    rw [es] at h
    dsimp only at h
    split at h
    · cases h
    · cases e : PyFlat.rows y.2 (r.drop y.1) with
      | none => rw [e] at h; cases h
      | some z =>
        rw [e] at h
        cases h
        obtain ⟨j, hj⟩ := rows_tail e
        exact ⟨y.1 + j, by rw [hj, List.drop_drop]⟩
/-- the rest of a list, by its length -/
theorem tail_drop {l r : List Int} {j : Nat} (h : r = l.drop j) : r = l.drop (l.length - r.length) := by
  have hl := congrArg List.length h
  rw [List.length_drop] at hl
  by_cases hj : j ≤ l.length
  · rw [hl, show l.length - (l.length - j) = j by omega]
    exact h
  · have : r = [] := List.length_eq_zero_iff.mp (by omega)
    subst this
    rw [List.length_nil, Nat.sub_zero, List.drop_length]
section
variable {σ : L2.St} {H : Hp} {ta tb tl te : TE} {x : V} {R R' : V → Hp → Prop} {q : Addr} {xs ys : List V} {D : Ends}
theorem evg_op2 {r : R2} (ha : Val ta σ H x) (hb : EvG tb σ H R) (hr : ∀ y H', R y H' → ∀ Q : VK, (∀ v H2, R' v H2 → Q v H2) → r x y H' Q) : EvG (tOp r ta tb) σ H R' := fun Q z => ha _ (hb _ fun y H' ry => hr y H' ry Q z)
theorem st_extendV {a : Addr} (ha : Val tl σ H (.ref q)) (hq : H q = some (.lst xs)) (hv : Val te σ H (.ref a)) (hy : H a = some (.lst ys)) (hl : xs.length + ys.length < 1000000) (k : D.nx σ (upd H q (.lst (xs ++ ys)))) : tDrop (tBM K "list" rExtend tl (tCons te tNil)) D σ H :=
  ha _ ⟨.inl ⟨rfl, _, SqL.of hq⟩, hv _ ⟨q, a, xs, ys, rfl, rfl, hq, hy, by rw [sizeLine_eq]; omega, k⟩⟩
end
theorem St.at_q {H : Hp} {ha ra ca qa : Addr} {pl : Nat} {l : List Int} {st : Vatsld.Plan} {ys : List V} (h : St K A H ha ra ca qa pl l st) : St K A (upd H qa (.lst ys)) ha ra ca qa pl l st := by
  obtain ⟨pa, ⟨dh, eh⟩, h2⟩ := h.hoN
  obtain ⟨dr, er⟩ := h.cr
  obtain ⟨xs, eq⟩ := h.qs
  exact ⟨⟨pa, ⟨dh, by rw [upd_ne (ins_ne eh eq)]; exact eh⟩, h2.upd eq⟩, ⟨dr, by rw [upd_ne (ins_ne er eq)]; exact er⟩, h.sqQ.upd, ⟨_, upd_same⟩, h.wf, h.len, h.le, tabs_but h.tabs eq (by intro _ z; cases z) (by intro _ z; cases z) fun b u hb e => by rw [upd_ne hb]; exact e⟩
def callsOf (K : PySem.W.Frag) (A : Ad) (fs : List Addr) (f : Addr) : Option Sp := (fs.findIdx? fun g => g == f).map fun k => sp_call K A (k : Int)
theorem callsOf_at {fs : List Addr} (nd : fs.Nodup) {k : Nat} {f : Addr} (h : fs[k]? = some f) : callsOf K A fs f = some (sp_call K A (k : Int)) := by
  have : fs.findIdx? (fun g => g == f) = some k := by
    obtain ⟨hk, e⟩ := List.getElem?_eq_some_iff.mp h
    rw [List.findIdx?_eq_some_iff_getElem]
    refine ⟨hk, by rw [e]; exact beq_self_eq_true _, fun j hj => ?_⟩
    have hne : fs[j]'(by omega) ≠ fs[k] := fun z => by
      have := (List.getElem_inj nd).mp z
      omega
    rw [e] at hne
    simpa using hne
  unfold callsOf
  rw [this]
  rfl
theorem callsOf_held {P : Program} {w : World} {mg : Str → Option Value} {base : Heap} {M : Nat} {fs : List Addr} (HC : ∀ (k : Nat) (f : Addr), fs[k]? = some f → Held P w K mg base M f (sp_call K A (k : Int))) : ∀ f sp, callsOf K A fs f = some sp → Held P w K mg base M f sp := fun f sp h => by
  unfold callsOf at h
  cases e : fs.findIdx? (fun g => g == f) with
  | none => rw [e] at h; cases h
  | some k =>
    rw [e] at h
    cases h
    rw [List.findIdx?_eq_some_iff_getElem] at e
    obtain ⟨hk, e, _⟩ := e
    exact HC k f (by rw [List.getElem?_eq_getElem hk]; rw [eq_of_beq e])
def sp_answers (K : PySem.W.Frag) (A : Ad) : Sp := fun vs H Q _ => ∃ (ca : Addr) (l : List Int), vs = [.ref ca] ∧ SqL K H ca (l.map V.int) ∧ l.length ≤ 17000 ∧ PyVatsld.answers_asked l = true ∧ LamX.Tabs (tabsOf A) H ∧
  ∀ q H', H' q = some (.lst ((PyVatsld.answers l).map V.int)) → Q (.ref q) H'
/-! ### answers -/
abbrev s_answers : Stmt := top 117
theorem sc_answers : FnScope ["calls", "holder", "reader", "answered", "answer_call", "answer"] ["calls"] (defScope s_answers) := ⟨rfl, rfl, rfl, by decide +kernel, rfl, by decide +kernel, by decide +kernel⟩
theorem ok_answers {f : Addr} {fd : FuncData} (F : Fun K "answers" "answers" s_answers f fd) (T : Txt K mg A)
    (C_CallReader_more : CalM P w K mg base CX0 1 A.cCallReader "more" ["self"] (sp_CallReader_more K A))
    (C_CallReader_take_one : CalM P w K mg base CX0 1 A.cCallReader "take_one" ["self"] (sp_CallReader_take_one K A))
    (C_CallReader_init : CalI P w K mg base CX0 1 A.cCallReader ["self", "calls"] (sp_CallReader_init A))
    (C_Holder_init : CalI P w K mg base CX0 3 A.cHolder ["self"] (sp_Holder_init A))
    (kC : mg "CALLS" = some (.ref A.tCalls)) (fs : List Addr) (tC : ∀ H, SqT K H A.tCalls (fs.map V.ref)) (nd : fs.Nodup) (h10 : fs.length = 10)
    (HC : ∀ (k : Nat) (f : Addr), fs[k]? = some f → Held P w K mg base 14 f (sp_call K A (k : Int))) : FnOk P w K mg base CX0 15 f fd ["calls"] (sp_answers K A) := by
  obtain ⟨f_CallReader_more, fd_CallReader_more, m_CallReader_more, b_CallReader_more, G_CallReader_more⟩ := C_CallReader_more.ex
  obtain ⟨f_CallReader_take_one, fd_CallReader_take_one, m_CallReader_take_one, b_CallReader_take_one, G_CallReader_take_one⟩ := C_CallReader_take_one.ex
  obtain ⟨f_CallReader, fd_CallReader, M_CallReader, b_CallReader, G_CallReader⟩ := C_CallReader_init.ex
  obtain ⟨f_Holder, fd_Holder, M_Holder, b_Holder, G_Holder⟩ := C_Holder_init.ex
  refine F.ok sc_answers (fun vs H Q E h => by revert h; first | (rintro ⟨rfl, _⟩; rfl) | (rintro ⟨_, rfl, _⟩; rfl) | (rintro ⟨_, _, rfl, _⟩; rfl) | (rintro ⟨_, _, _, rfl, _⟩; rfl) | (rintro ⟨_, _, _, _, rfl, _⟩; rfl) | (rintro ⟨_, _, _, _, _, rfl, _⟩; rfl) | (rintro ⟨_, _, _, _, _, _, rfl, _⟩; rfl) | (rintro ⟨_, _, _, _, _, _, _, rfl, _⟩; rfl) | (rintro ⟨_, _, _, _, _, _, _, _, rfl, _⟩; rfl) | (rintro ⟨_, _, _, _, _, _, _, _, _, rfl, _⟩; rfl) | (rintro ⟨_, _, _, _, _, _, _, _, _, _, rfl, _⟩; rfl) | (rintro ⟨_, _, _, _, _, _, _, _, _, _, _, rfl, _⟩; rfl)) (fun cdv Ar outer s H vs Q E hr h => ⟨_, 
  (pss_cons (ps_set (i := 1) sc_answers.nd rfl (Or.inl rfl) (pe_make0 M_Holder G_Holder (hr.mono (by decide)) rfl T.g_Holder b_Holder .nil pass0))
      (pss_cons (ps_set (i := 2) sc_answers.nd rfl (Or.inl rfl) (pe_make M_CallReader G_CallReader (hr.mono (by decide)) rfl T.g_CallReader b_CallReader .nil pass0 (pa_cons (pv 0) pa_nil)))
      (pss_cons (ps_set (i := 3) sc_answers.nd rfl (Or.inl rfl) (pe_lst pa_nil))
      (pss_cons (ps_while PassesOwn.never (pt_val (pe_meth0 (pv 2) T.cCallReader m_CallReader_more G_CallReader_more (hr.mono (by decide)) b_CallReader_more .nil pass0)) (pss_cons (ps_set (i := 4) sc_answers.nd rfl (Or.inl rfl) (pe_ix ix_tup (pe_gref (by rfl) kC) (pe_meth0 (pv 2) T.cCallReader m_CallReader_take_one G_CallReader_take_one (hr.mono (by decide)) b_CallReader_take_one .nil pass0) (fun _ _ => rfl)))
      (pss_cons (ps_set (i := 5) sc_answers.nd rfl (Or.inl rfl) (pe_callA (i := 4) (callsOf_held HC) (hr.mono (by decide)) rfl (Or.inl rfl) (pa_cons (pv 1) (pa_cons (pv 2) pa_nil))))
      (pss_cons (ps_expr (pe_bm PySem.F.plainAttrs_list PySem.F.slot_list_append PySem.F.type_list_append mt_append (pv 3) (pa_cons (pe_callB call_len_seq (by rfl) T.b_len (by decide +kernel) (pa_cons (pv 5) pa_nil)) pa_nil)))
      (pss_one (ps_expr (pe_bm PySem.F.plainAttrs_list PySem.F.slot_list_extend PySem.F.type_list_extend mt_extend (pv 3) (pa_cons (pv 5) pa_nil))))))))
      (pss_one (ps_ret (pv 3))))))), ?_⟩)
  obtain ⟨ca, l, rfl, hsq, hlen, hask, hT, k⟩ := h
  obtain ⟨cs, hcs, h60⟩ := asked_calls hask
  have hall := answers_is hcs
  refine st_seqSetP (R := fun ha H' => ∃ dx pa, H' ha = some (.ins A.cHolder dx (hoF pa)) ∧ PlanAt A H' pa Vatsld.emptyPlan) (fun Q z x dx hx hdx hne => ?_) fun ha H1 nha s1 h1 => ?_
  · have sm : Same H (upd (upd H dx (.own x)) x (.ins A.cHolder dx [])) := (Same.new hdx).mut hx
    exact ⟨x, dx, rfl, upd_same, fun pa H' kk e hP => ⟨rfl, z x H' hx (fun b o eb => kk b o (ne_of_none eb hx) (sm _ _ eb)) ⟨dx, pa, e, hP⟩⟩⟩
  obtain ⟨dh, pa, eh, hP⟩ := h1
  refine st_seqSetP (evp_make (fs := crF ca 0) (eva_cons (evs_of (val_var rfl)) fun _ _ => eva_nil) fun x dx H2 _ Q z => ⟨x, dx, ca, rfl, upd_same, fun H3 h1 h2 => z H3 h1 h2⟩) fun ra H2 nra s2 h2 => ?_
  obtain ⟨dr, er⟩ := h2
  refine st_seqSetN (evn_lst eva_nil (by simp)) fun qa H3 nqa s3 e3 => ?_
  have hS : St K A H3 ha ra ca qa 0 l Vatsld.emptyPlan := by
    refine ⟨⟨pa, ⟨dh, s3 _ _ (s2 _ _ eh)⟩, ((hP.mono s2).away nqa).mono s3⟩, ⟨dr, s3 _ _ er⟩, ?_, ⟨_, e3⟩, wf_empty, hlen, Nat.zero_le _, ((hT.ext s1).ext s2).ext s3⟩
    exact (SqQ.of (s2.seq (s1.seq hsq)) nqa).mono s3
  refine st_seqWhileG (Pv := fun m σ Hc => ∃ v4 v5 pl st acc cs f, σ = [some (.ref ca), some (.ref ha), some (.ref ra), some (.ref qa), v4, v5] ∧ cs.length = m ∧ St K A Hc ha ra ca qa pl l st ∧ Hc qa = some (.lst (acc.map V.int)) ∧ PyFlat.calls PyVatsld.shape f (l.drop pl) = some cs ∧
      acc ++ playedAll st cs = PyVatsld.answers l ∧ acc.length + 15001 * cs.length ≤ 15001 * 60)
    cs.length ⟨none, none, 0, Vatsld.emptyPlan, [], cs, l.length, rfl, rfl, hS, e3, hcs, by rw [hall]; rfl, by simp; omega⟩ ?_
  rintro m σ Hc ⟨v4, v5, pl, st, acc, cs, f, rfl, rfl, hS, eq, hcs, hacc, h60⟩
  obtain ⟨dr, er⟩ := id hS.cr
  refine ⟨fun b H' => b = decide (pl < l.length) ∧ Same Hc H', ansg_B (R' := fun v H' => v = .bl (decide (pl < l.length)) ∧ Same Hc H') (evg_meth (val_var rfl) er (crF_m (by decide +kernel) (by decide +kernel)) eva_nil fun H4 s4 Q z => ?_) fun v H4 h4 => ⟨_, h4.1, rfl, h4.2⟩, fun H4 h4 => ?_, fun H4 h4 => ?_⟩
  · exact ⟨ra, ca, pl, l, rfl, (hS.mono s4).cr, (hS.mono s4).sq, z _ H4 ⟨rfl, s4⟩⟩
  · have hlt : pl < l.length := of_decide_eq_true h4.1.symm
    have hS4 := hS.mono h4.2
    obtain ⟨dr4, er4⟩ := id hS4.cr
    obtain ⟨n, hn⟩ : ∃ n, l[pl]? = some n := ⟨_, List.getElem?_eq_getElem hlt⟩
    have hd : l.drop pl = n :: l.drop (pl + 1) := by
      rw [List.drop_eq_getElem_cons hlt]
      rw [List.getElem?_eq_getElem hlt] at hn
      cases hn
      rfl
    rw [hd] at hcs
    obtain ⟨f', c, t, cs', rfl, hcall, hcs', rfl, kk, hk10, rfl⟩ := calls_step hcs
    obtain ⟨fa, hfa⟩ : ∃ fa, fs[kk]? = some fa := ⟨_, List.getElem?_eq_getElem (by omega)⟩
    obtain ⟨j, hj⟩ := call_tail hcall
    have ht : t = l.drop (l.length - t.length) := tail_drop (j := pl + 1 + j) (by rw [hj, List.drop_drop])
    refine st_seqSetG (R := fun v H' => v = .ref fa ∧ Keep ra H4 H' ∧ CRAt A H' ra ca (pl + 1)) (evg_op2 (x := .ref A.tCalls) val_c (evg_meth (R := fun v H' => v = .int ((kk : Nat) : Int) ∧ Keep ra H4 H' ∧ CRAt A H' ra ca (pl + 1)) (val_var rfl) er4 (crF_m (by decide +kernel) (by decide +kernel)) eva_nil fun H5 s5 Q z => ?_) fun y H5 h5 Q z => ?_) fun v H5 h5 => ?_
    · exact ⟨ra, ca, pl, l, _, rfl, (hS4.mono s5).cr, (hS4.mono s5).sq, hn, fun H6 k6 c6 => z _ H6 ⟨rfl, fun b o hb e => k6 b o hb (s5 _ _ e), c6⟩⟩
    · obtain ⟨rfl, k5, c5⟩ := h5
      exact ⟨A.tCalls, fs.map V.ref, _, .ref fa, rfl, rfl, tC H5, atI_nat (by rw [List.getElem?_map, hfa]; rfl), z _ H5 ⟨rfl, k5, c5⟩⟩
    obtain ⟨rfl, k5, c5⟩ := h5
    have hS5 := hS4.took k5 c5 (by omega)
    have eq5 := k5 _ _ (fun z => by rw [← z, h4.2 _ _ eq] at er4; cases er4) (h4.2 _ _ eq)
    refine ⟨fa, _, rfl, callsOf_at nd hfa, _, rfl, _, rfl, ?_⟩
    refine ⟨ha, ra, ca, qa, pl + 1, l, st, c, t, rfl, hS5, hcall, fun la H6 nla k6 hS6 e6 hl6 => ?_⟩
    have eq6 : H6 qa = some (.lst (acc.map V.int)) := by
      obtain ⟨pa5, ⟨dh5, eh5⟩, _⟩ := hS5.ho
      obtain ⟨dr5, er5⟩ := id hS5.cr
      exact k6 _ _ (fun z => by rw [z, eh5] at eq5; cases eq5) (fun z => by rw [z, er5] at eq5; cases eq5) (by intro _ z; cases z) eq5
    have hla : la ≠ qa := nla
    have hcl : (c :: cs').length = cs'.length + 1 := rfl
    refine st_seqAppend (val_var rfl) eq6 (evs_of (val_len (SqL.of e6) (List.length_map _) (val_var rfl))) (by rw [List.length_map]; omega) fun H7 s7 => ?_
    have e7 : (upd H7 qa (.lst (acc.map V.int ++ [.int (((VatsldNeutral.step st c).2.length : Nat) : Int)]))) la = some (.lst ((VatsldNeutral.step st c).2.map V.int)) := by
      rw [upd_ne hla]
      exact s7 _ _ e6
    refine st_extendV (val_var rfl) upd_same (val_var rfl) e7 (by rw [List.length_append, List.length_map, List.length_map]; show acc.length + 1 + _ < _; omega) ?_
    refine ⟨cs'.length, by omega, _, _, l.length - t.length, (VatsldNeutral.step st c).1, acc ++ ((((VatsldNeutral.step st c).2.length : Nat) : Int) :: (VatsldNeutral.step st c).2), cs', f', rfl, rfl, ?_, ?_, by rw [← ht]; exact hcs', ?_, ?_⟩
    · exact (hS6.mono s7).at_q.at_q
    · rw [upd_same, List.map_append, List.map_cons, List.append_assoc]
      rfl
    · rw [← hacc, played_cons, List.append_assoc]
      rfl
    · rw [List.length_append, List.length_cons]
      rw [hcl] at h60
      omega
  · have hge : ¬ pl < l.length := of_decide_eq_false h4.1.symm
    have hd : l.drop pl = [] := List.drop_eq_nil_of_le (by omega)
    rw [hd] at hcs
    have hc0 : cs = [] := by
      cases f <;> (simp only [PyFlat.calls] at hcs; cases hcs; rfl)
    rw [hc0, played_nil, List.append_nil] at hacc
    exact st_ret (val_var rfl) (k qa H4 (by rw [← hacc]; exact h4.2 _ _ eq))
end
end Tp
/-! The end of a Spec row with tables of code objects. -/
namespace Tp
open PySem PySem.Spec PyProof.Rows L2
open LamX (TabB)
open PySem.W (WData Codec OpenSpec WellAll ReadsW)
abbrev tab0 : Obj := { cls := .none, data := .fields #[] }
theorem spec_tabs {P : Program} {w : World} {K : PySem.W.Frag} {mg mb : Str → Option Value} {CX : CXT} {k : Nat} {fa : Addr} {fd : FuncData} {ps : List Str} {sp : Sp} {s1 : Shared} {vals : List Value} {ds : List WData} {R : PySem.W.WRecords} {cl : Str → Option Addr} {d0 : WData} {cs : List (Addr × Addr)}
    (KX : K.In s1.heap) (gG : s1.heap.Ns mainGlobals mg) (gB : s1.heap.Ns builtinsNs mb) (gBB : ∀ x : Str, x ≠ "__name__" → mb x = bootBuiltins x) (gL : s1.heap.NoLimit) (gen0 : s1.gens = #[])
    (hT : ∀ p ∈ cs, s1.heap.get? p.2 = some tab0) (nT : ∀ p ∈ cs, K.lookup p.2 = none) (C : ∀ p ∈ cs, PySem.W.CodeHd s1.heap p.1 p.2)
    (hbm : ∃ (bm : Addr) (ob : Obj), mg "__builtins__" = some (.ref bm) ∧ bm ≠ builtinsNs ∧ s1.heap.get? bm = some ob ∧ ob.cls = .type "module" ∧ ob.dict = some builtinsNs ∧ ob.data = .plain)
    (hwl : WellAll w.params s1.heap vals ds) (hpl : plWs ds = true) (hwt : ∀ d ∈ ds, d.weight ≤ 1048576) (hr : Room k callerA)
    (F : ∀ base : Heap, K.In base → base.Ns mainGlobals mg → (∀ p ∈ cs, TabB base mg p.1 p.2) → FnOk P w K mg base CX k fa fd ps sp) (hbind : ∀ (s : Shared) (us : List Value), us.length = ps.length → BindsTo s fd ⟨us, []⟩ (ps.zip us)) (hlen : ds.length = ps.length)
    (hsp : ∀ (H0 H : Hp) (xs : List V), Same H0 H → (∀ p ∈ cs, H p.2 = some (.tbl #[])) → DwAll K H0 xs ds → sp xs H (fun v H' => Dw K H' v d0) fun _ _ _ => False)
    (hCX : ∀ H e s', CX [] H s1 (fun _ _ _ => False) e s' → False) :
    codeAny (model P w) callerA (.call (.ref fa) ⟨vals, []⟩) (fun r s' => ∃ u as, r = .ok (.ret u) ∧ ReadsW R cl s'.heap u d0 as ∧ OldK s1.heap s'.heap ∧ s'.os = s1.os ∧ AllBare s'.gens) s1 := by
  obtain ⟨A, ho, ar⟩ := area_all ds vals hwl hpl hwt
  obtain ⟨Ts, hTs⟩ : ∃ Ts, Ts = cs.map (·.2) := ⟨_, rfl⟩
  have inT : ∀ p ∈ cs, p.2 ∈ Ts := fun p hp => hTs ▸ List.mem_map.mpr ⟨p, hp, rfl⟩
  have ofT : ∀ b ∈ Ts, ∃ p ∈ cs, p.2 = b := fun b hb => List.mem_map.mp (hTs ▸ hb)
  have atT : ∀ b ∈ Ts, s1.heap.get? b = some tab0 := fun b hb => by
    obtain ⟨p, hp, rfl⟩ := ofT b hb
    exact hT p hp
  have seqs : ∀ {b : Addr} {u : HO}, argH K s1.heap A b = some u → K.lookup b = none ∧ ∃ (o : Obj) (vs : Array Value) (n : Nat) (u' : HO), s1.heap.get? b = some o ∧ o.data = .seq vs n ∧ u = .frz o u' := fun q => by
    obtain ⟨hk, vs, _, _, ⟨e, e2⟩ | ⟨e, e2⟩⟩ := argH_is ar q
    · exact ⟨hk, _, _, _, _, e, rfl, e2⟩
    · exact ⟨hk, _, _, _, _, e, rfl, e2⟩
  have notArg : ∀ b ∈ Ts, argH K s1.heap A b = none := fun b hb => by
    cases q : argH K s1.heap A b with
    | none => rfl
    | some u =>
      obtain ⟨_, o, vs, n, _, e, ed, _⟩ := seqs q
      rw [atT b hb] at e
      cases e
      cases ed
  obtain ⟨H, hH⟩ : ∃ H : Hp, H = fun b => if b ∈ Ts then some (.tbl #[]) else argH K s1.heap A b := ⟨_, rfl⟩
  have onT : ∀ b ∈ Ts, H b = some (.tbl #[]) := fun b hb => by rw [hH]; exact if_pos hb
  have offT : ∀ b, b ∉ Ts → H b = argH K s1.heap A b := fun b hb => by rw [hH]; exact if_neg hb
  have same : Same (argH K s1.heap A) H := fun b u e => by
    rw [offT b fun hb => by rw [notArg b hb] at e; cases e]
    exact e
  have hok : HOk P w H s1.heap := fun b u e => by
    by_cases hb : b ∈ Ts
    · rw [onT b hb] at e
      cases e
      exact atT b hb
    · rw [offT b hb] at e
      exact (argH_ok ar b u e).stay (fun _ _ _ z => z) (fun d z => same _ _ z) fun d xs z => same _ _ z
  have none_of : ∀ {b : Addr} {o : Obj}, s1.heap.get? b = some o → (∀ vs n, o.data ≠ .seq vs n) → o.data ≠ .fields #[] → H b = none := fun {b o} e n1 n2 => by
    by_cases hb : b ∈ Ts
    · rw [atT b hb] at e
      cases e
      exact (n2 rfl).elim
    · rw [offT b hb]
      cases q : argH K s1.heap A b with
      | none => rfl
      | some u =>
        obtain ⟨_, o', vs, n, _, e', ed, _⟩ := seqs q
        rw [e] at e'
        cases e'
        exact (n1 vs n ed).elim
  have none_K : ∀ b o, K.lookup b = some o → H b = none := fun b o e => by
    by_cases hb : b ∈ Ts
    · obtain ⟨p, hp, rfl⟩ := ofT b hb
      rw [nT p hp] at e
      cases e
    · rw [offT b hb]
      cases q : argH K s1.heap A b with
      | none => rfl
      | some u =>
        rw [(seqs q).1] at e
        cases e
  have baseNs : ∀ {b : Addr} {m : Str → Option Value}, s1.heap.Ns b m → (hidT s1.heap H).Ns b m := fun {b m} ⟨o, es, ep, e, d, r⟩ => ⟨o, es, ep, hidT_get e (none_of e (fun vs n z => by rw [d] at z; cases z) fun z => by rw [d] at z; cases z), d, r⟩
  have baseK : K.In (hidT s1.heap H) := fun b o e => hidT_get (KX b o e) (none_K b o e)
  have theMod : L2.Mod K mg (hidT s1.heap H) := ⟨baseK, baseNs gG, ⟨mb, baseNs gB, gBB⟩, let ⟨mc, l1, l2⟩ := gL; ⟨mc, baseNs l1, l2⟩⟩
  have TB : ∀ p ∈ cs, TabB (hidT s1.heap H) mg p.1 p.2 := fun p hp => by
    have here := hT p hp
    refine ⟨?_, ?_, fun z => ?_⟩
    · obtain ⟨o, us, file, tf, flags, tg, inF, text, tt, e1, r1, r2, r3, rest⟩ := C p hp
      refine ⟨o, us, file, tf, flags, tg, inF, text, tt, hidT_get e1 (none_of e1 (fun vs n z => ?_) fun z => ?_), r1, r2, r3, rest⟩
      · rw [r2] at z
        cases z
      · rw [r2] at z
        cases z
        simp at r3
    · obtain ⟨bm, ob, b1, b2, b3, b4, b5, b6⟩ := hbm
      refine ⟨bm, ob, b1, b2, fun z => ?_, fun z => ?_, hidT_get b3 (none_of b3 (fun vs n z => by rw [b6] at z; cases z) fun z => by rw [b6] at z; cases z), b4, b5, b6⟩
      · obtain ⟨o, es, ep, e, d, _⟩ := gG
        rw [z, e] at b3
        cases b3
        rw [d] at b6
        cases b6
      · rw [z, here] at b3
        cases b3
        cases b6
    · obtain ⟨o, es, ep, e, d, _⟩ := gG
      rw [z, here] at e
      cases e
      cases d
  have e0 : Env0 P w K mg (hidT s1.heap H) callerA [] s1 H := ⟨rfl, theMod, fun b o e => of_hidT e, Nat.le_of_eq (hidT_size _ _), trivial, (fun b hb => by cases hb), hok, .of_eq gen0⟩
  have lens : vals.length = ps.length := by
    rw [wellAll_len hwl]
    exact hlen
  refine codeAny_mono ((F _ baseK (baseNs gG) TB).run callerA [] s1 H ⟨vals, []⟩ vals (vals.map toV) _ _ hr e0 (hbind s1 vals lens) (vals_toV ho) (hsp _ H _ same (fun p hp => onT _ (inT p hp)) (dw_all KX ar ds vals hwl hpl ho))) fun r s' x => ?_
  cases r with
  | error e => exact (hCX H e s' x).elim
  | ok fl =>
    cases fl with
    | next => cases x
    | brk => cases x
    | cont => cases x
    | ret u =>
      obtain ⟨v, H', os, bare, un, hok', rv, q⟩ := x
      have kept : ∀ b o, b ∉ Ts → s1.heap.get? b = some o → s'.heap.get? b = some o := fun b o hb e => by
        cases qb : argH K s1.heap A b with
        | none => exact un.keep b o e (by rw [offT b hb]; exact qb) (fun z => by cases z) (by simp)
        | some u2 =>
          obtain ⟨_, o', vs, n, u3, e', _, rfl⟩ := seqs qb
          rw [e] at e'
          cases e'
          exact (hok' b _ (un.frzs b o u3 (by rw [offT b hb]; exact qb))).1
      have grown : ∀ b ∈ Ts, ∃ more : Array Value, s'.heap.get? b = some { cls := .none, data := .fields more } := fun b hb => by
        obtain ⟨more, z⟩ := un.tbls b #[] (onT b hb)
        exact ⟨_, hok' b _ z⟩
      have KX' : K.In s'.heap := fun b o e => kept b o (fun hb => by
        have z := none_K b o e
        rw [onT b hb] at z
        cases z) (KX b o e)
      obtain ⟨as, rd⟩ := Dw.reads (R := R) (cl := cl) hok' KX' d0 v u q rv
      refine ⟨u, as, rfl, rd, ⟨fun b o e => ?_, fun b o e => ?_⟩, os, bare⟩
      · by_cases hb : b ∈ Ts
        · obtain ⟨more, hm⟩ := grown b hb
          obtain ⟨p, hp, rfl⟩ := ofT b hb
          rw [hT p hp] at e
          cases e
          exact .inr (.inl ⟨((C p hp).tab (hT p hp)).isCodeTable, rfl, #[], more, rfl, by rw [Array.empty_append]; exact hm⟩)
        · exact .inl (kept b o hb e)
      · by_cases hb : b ∈ Ts
        · obtain ⟨more, hm⟩ := grown b hb
          exact ⟨_, hm⟩
        · exact ⟨o, kept b o hb e⟩
/-- the goal that k_headS leaves, for a def whose promise wants empty tables -/
theorem walk_tabs {r : OpenSpec} {k : Nat} {q : Program} {loose : List Str} {XP : (Str → Option Value) → Heap → Prop} {YP : World → Heap → Prop} {d : DefRec} {K : Params → PySem.W.Frag} {CX : CXT} {ps : List Str}
    (hwell : r.wellSaid = true) (hlen : r.args.length = ps.length) (hr : Room k callerA) (hY : ∀ (w : World) (h : Heap), YP w h → (K w.params).In h)
    (F : ∀ (w : World) (mean : ExcName → Option Value) (mg mb : Str → Option Value) (fa : Addr) (h : Heap), YP w h → (K w.params).In h → Top q (PySem.W.looseW q loose) mean mg mb h → mg d.name = some (.ref fa) →
      ∃ (fd : FuncData) (cs : List (Addr × Addr)) (sp : Sp), (∀ p ∈ cs, h.get? p.2 = some tab0) ∧ (∀ p ∈ cs, (K w.params).lookup p.2 = none) ∧ (∀ p ∈ cs, PySem.W.CodeHd h p.1 p.2) ∧ (∀ (s : Shared) (us : List Value), us.length = ps.length → BindsTo s fd ⟨us, []⟩ (ps.zip us)) ∧
        (∀ base : Heap, (K w.params).In base → base.Ns mainGlobals mg → (∀ p ∈ cs, TabB base mg p.1 p.2) → FnOk r.prog w (K w.params) mg base CX k fa fd ps sp) ∧
        ∀ (H0 H : Hp) (xs : List V) (a : Codec.denoteAll r.args), Same H0 H → (∀ p ∈ cs, H p.2 = some (.tbl #[])) → Codec.withinAll r.args a = true → Codec.app r.args r.asked a = true → DwAll (K w.params) H0 xs (Codec.encAll r.args a) →
          sp xs H (fun v H' => Dw (K w.params) H' v (r.ret.enc (Codec.app r.args r.f a))) fun _ _ _ => False)
    (hCX : ∀ (H : Hp) (s : Shared) (e : Value) (s' : Shared), CX [] H s (fun _ _ _ => False) e s' → False) :
    PySem.W.WalkOS q loose XP YP r d [] (fun f vs => PySem.call f vs) := by
  intro w s0 s1 mg mb G Y fa o pm cd doc dV kV ho hd hcd hD hmg hg args vals as hpre hlay hrd hwl hlo
  obtain ⟨a, e1, e2⟩ := PySem.W.os_pre_some hpre
  obtain ⟨rfl, hwi⟩ := Codec.encAll_of_decAll r.args args a e1
  have KX := hY w _ Y
  obtain ⟨fd, cs, sp, hT, nT, C, hb, hF, hsp⟩ := F w _ mg mb fa _ Y KX G.T hmg
  have run := spec_tabs (R := []) (cl := classAt s0.heap) (d0 := r.ret.enc (Codec.app r.args r.f a)) (CX := CX) KX G.T.g G.T.b G.T.builtins G.T.nolimit hg hT nT C G.T.bmain hwl (pl_encAll _ _) (layable_weight hlay) hr hF hb (by rw [encAll_len]; exact hlen) (fun H0 H xs sm ht hx => hsp H0 H xs a sm ht hwi e2 hx) fun H e s' => hCX H s1 e s'
  refine PySem.W.enter_call (codeAny_mono run fun r' s' hq => ?_)
  obtain ⟨u, as', rfl, h1, h2, h3, h4⟩ := hq
  exact ⟨.inl ⟨u, _, as', rfl, (fun _ => rfl), h1, (OpenSpec.post_iff hwell hwi _ _).mpr rfl, fun z => by cases z⟩, h2, h3, h4⟩
end Tp
namespace Tp
open PySem PySem.Spec PyProof.Rows L2
open LamX (TabB)
section
variable {P : Program} {w : World} {K : PySem.W.Frag} {h : Heap} {mg : Str → Option Value} {C f : Addr} {x : Str}
def DefAt (K : PySem.W.Frag) (mg : Str → Option Value) (x : Str) (st : Stmt) : Prop := ∃ f fd, mg x = some (.ref f) ∧ Fun K x x st f fd
def MethAt (K : PySem.W.Frag) (C : Addr) (m qual : Str) (st : Stmt) : Prop := ∃ f fd, Meth K C m f ∧ Fun K m qual st f fd
def InitAt (K : PySem.W.Frag) (C : Addr) (qual : Str) (st : Stmt) : Prop := ∃ f fd, Mk K C f ∧ Fun K "__init__" qual st f fd
def FaultAt (K : PySem.W.Frag) (C : Addr) (qual : Str) (st : Stmt) : Prop := ∃ f fd, PySem.W.findIn K (.ref C) "__init__" = some (some (.ref f)) ∧ PySem.W.typeIn K (.ref f) = some (.type "function") ∧ Fun K "__init__" qual st f fd
theorem def_at {oc : Value} {od an : Option Addr} {osl : Array (Option Value)} {kV doc pm cdv ct : Value} {st : Stmt} (X : K.In h) (G : h.Ns mainGlobals mg) (a : PySem.W.nsIn K mainGlobals x = some (some (.ref f)))
    (l : K.lookup f = some ⟨oc, od, .func (PySem.W.fnOf x x (defArgs st) (defBody st) (defScope st) .none kV doc pm an cdv ct), osl⟩) (c : PySem.W.codeIn K cdv x = true) (k : PySem.W.keepIn K (.ref f) = true) : DefAt K mg x st :=
  ⟨f, _, PySem.W.mg_of X G a, fun_mk l c k⟩
def DefAtC (K : PySem.W.Frag) (mg : Str → Option Value) (x : Str) (st : Stmt) (c : Addr) : Prop := ∃ f fd, mg x = some (.ref f) ∧ FunC K x x st f fd c
theorem def_atC {oc : Value} {od an : Option Addr} {osl : Array (Option Value)} {kV doc pm ct : Value} {st : Stmt} {c : Addr} (X : K.In h) (G : h.Ns mainGlobals mg) (a : PySem.W.nsIn K mainGlobals x = some (some (.ref f)))
    (l : K.lookup f = some ⟨oc, od, .func (PySem.W.fnOf x x (defArgs st) (defBody st) (defScope st) .none kV doc pm an (.ref c) ct), osl⟩) (k : PySem.W.keepIn K (.ref f) = true) (cc : PySem.W.codeIn K (.ref c) x = true) : DefAtC K mg x st c :=
  ⟨f, _, PySem.W.mg_of X G a, ⟨⟨oc, od, kV, doc, pm, an, ct, osl, rfl, l, cc⟩, k⟩⟩
theorem tab_in {oc : Value} {od an : Option Addr} {osl o3 : Array (Option Value)} {kV doc pm ct o1 : Value} {o2 : Option Addr} {st : Stmt} {c P : Addr} {vs : Array Value} (a : PySem.W.nsIn K mainGlobals x = some (some (.ref f)))
    (l : K.lookup f = some ⟨oc, od, .func (PySem.W.fnOf x x (defArgs st) (defBody st) (defScope st) .none kV doc pm an (.ref c) ct), osl⟩) (lc : K.lookup c = some ⟨o1, o2, .fields vs, o3⟩) (hv : (vs[11]? : Option Value) = some (.ref P)) : PySem.W.tabIn K x = some (c, P) := by
  unfold PySem.W.tabIn
  simp only [a, l, lc, hv]
theorem no_tab {P : Addr} (X : K.In h) (n : PySem.W.noTabs K = true) (e : h.get? P = some tab0) : K.lookup P = none := by
  cases q : K.lookup P with
  | none => rfl
  | some o =>
    have e2 := X P o q
    rw [e] at e2
    cases e2
    have e3 := List.all_eq_true.mp n (P, tab0) (PySem.W.mem_of_lookupK q)
    exact absurd (show false = true from e3) Bool.false_ne_true
theorem held_of {k j : Nat} {w : World} {base : Heap} {P : Program} {f' : Addr} {fd : FuncData} {ps : List Str} {sp : Sp} (G : FnOk P w K mg base CX0 j f' fd ps sp) (h : j ≤ k) (kp : PySem.W.keepIn K (.ref f') = true) (b : Binds K fd ps []) : Held P w K mg base k f' sp := ⟨fd, ps, G.mono h, kp, b⟩
theorem meth_at {oc : Value} {od an : Option Addr} {osl : Array (Option Value)} {kV doc pm cdv ct : Value} {st : Stmt} {m qual : Str} (a : PySem.W.findIn K (.ref C) m = some (some (.ref f))) (i : PySem.W.isFn K (.ref f) = true)
    (l : K.lookup f = some ⟨oc, od, .func (PySem.W.fnOf m qual (defArgs st) (defBody st) (defScope st) .none kV doc pm an cdv ct), osl⟩) (c : PySem.W.codeIn K cdv qual = true) (k : PySem.W.keepIn K (.ref f) = true) : MethAt K C m qual st :=
  ⟨f, _, ⟨a, i, k⟩, fun_mk l c k⟩
theorem init_at {oc : Value} {od an : Option Addr} {osl : Array (Option Value)} {kV doc pm cdv ct : Value} {st : Stmt} {qual : Str} (mk : PySem.W.makesIn K C = true) (a : PySem.W.findIn K (.ref C) "__init__" = some (some (.ref f))) (i : PySem.W.isFn K (.ref f) = true) (kc : PySem.W.keepIn K (.ref C) = true)
    (l : K.lookup f = some ⟨oc, od, .func (PySem.W.fnOf "__init__" qual (defArgs st) (defBody st) (defScope st) .none kV doc pm an cdv ct), osl⟩) (c : PySem.W.codeIn K cdv qual = true) (k : PySem.W.keepIn K (.ref f) = true) : InitAt K C qual st :=
  ⟨f, _, ⟨mk, a, i, kc⟩, fun_mk l c k⟩
theorem fault_at {oc : Value} {od an : Option Addr} {osl : Array (Option Value)} {kV doc pm cdv ct : Value} {st : Stmt} {qual : Str} (a : PySem.W.findIn K (.ref C) "__init__" = some (some (.ref f))) (t : PySem.W.typeIn K (.ref f) = some (.type "function"))
    (l : K.lookup f = some ⟨oc, od, .func (PySem.W.fnOf "__init__" qual (defArgs st) (defBody st) (defScope st) .none kV doc pm an cdv ct), osl⟩) (c : PySem.W.codeIn K cdv qual = true) (k : PySem.W.keepIn K (.ref f) = true) : FaultAt K C qual st :=
  ⟨f, _, a, t, fun_mk l c k⟩
/-- an error of the class is what its except names -/
theorem self_named (h1 : PySem.W.subIn K (.ref C) (.type "BaseException") = some true) (h2 : PySem.W.isClsIn K C = true) (h3 : PySem.W.typeIn K (.ref C) = some (.type "type")) (h4 : PySem.W.subIn K (.ref C) (.ref C) = some true) : PySem.W.exmOne K (.ref C) (.ref C) = some true := by
  have h2' : (PySem.W.clsIn K C).isSome = true := h2
  have e1 : (PySem.W.subIn K (.ref C) (.type "BaseException") == some true) = true := by rw [h1] <;> rfl
  have e2 : ((PySem.W.clsIn K C).isSome && PySem.W.typeIn K (.ref C) == some (.type "type")) = true := by rw [h2', h3] <;> rfl
  unfold PySem.W.exmOne
  rw [if_pos e1]
  refine (if_pos e2).trans ?_

  exact h4
/-- a tuple that the top has written -/
theorem seq_at {a : Addr} {d : Option Addr} {its : Array Value} {n : Nat} {sl : Array (Option Value)} {xs : List V} (l : K.lookup a = some ⟨.type "tuple", d, .seq its n, sl⟩) (hs : its.size ≤ 1000) (r : Vals xs its.toList) : ∀ H, SqT K H a xs := fun H =>
  .inr ⟨_, its, n, l, rfl, rfl, by rw [sizeLine_eq]; omega, r⟩
end
theorem all_ok {P : Program} {w : World} {K : PySem.W.Frag} {mg : Str → Option Value} {A : Ad} (T : Txt K mg A) (TF : TxF K mg A)
    (d_Fault_init : FaultAt K A.cFault "Fault.__init__" s_Fault_init)
    (d_Token_init : InitAt K A.cToken "Token.__init__" s_Token_init)
    (d_is_digit : DefAt K mg "is_digit" s_is_digit)
    (d_is_number : DefAt K mg "is_number" s_is_number)
    (d_is_letter : DefAt K mg "is_letter" s_is_letter)
    (d_character : DefAt K mg "character" s_character)
    (d_characters : DefAt K mg "characters" s_characters)
    (d_number_at : DefAt K mg "number_at" s_number_at)
    (d_is_word_byte : DefAt K mg "is_word_byte" s_is_word_byte)
    (d_word_at : DefAt K mg "word_at" s_word_at)
    (d_remark_end : DefAt K mg "remark_end" s_remark_end)
    (d_skip_gaps : DefAt K mg "skip_gaps" s_skip_gaps)
    (d_token_from : DefAt K mg "token_from" s_token_from)
    (d_Reader_ahead : MethAt K A.cReader "ahead" "Reader.ahead" s_Reader_ahead)
    (d_Reader_stands : MethAt K A.cReader "stands" "Reader.stands" s_Reader_stands)
    (d_Group_init : InitAt K A.cGroup "Group.__init__" s_Group_init)
    (d_Reader_take : MethAt K A.cReader "take" "Reader.take" s_Reader_take)
    (d_Reader_take_written : MethAt K A.cReader "take_written" "Reader.take_written" s_Reader_take_written)
    (d_Reader_take_number : MethAt K A.cReader "take_number" "Reader.take_number" s_Reader_take_number)
    (d_number_of : DefAt K mg "number_of" s_number_of)
    (d_Reader_take_name : MethAt K A.cReader "take_name" "Reader.take_name" s_Reader_take_name)
    (d_read_new_name : DefAt K mg "read_new_name" s_read_new_name)
    (d_begin_member : DefAt K mg "begin_member" s_begin_member)
    (d_read_group : DefAt K mg "read_group" s_read_group)
    (d_Test_init : InitAt K A.cTest "Test.__init__" s_Test_init)
    (d_read_known_name : DefAt K mg "read_known_name" s_read_known_name)
    (d_read_after_name : DefAt K mg "read_after_name" s_read_after_name)
    (d_read_after : DefAt K mg "read_after" s_read_after)
    (d_read_in : DefAt K mg "read_in" s_read_in)
    (d_read_chance : DefAt K mg "read_chance" s_read_chance)
    (d_read_cost : DefAt K mg "read_cost" s_read_cost)
    (d_read_test : DefAt K mg "read_test" s_read_test)
    (d_Plan_init : InitAt K A.cPlan "Plan.__init__" s_Plan_init)
    (d_Reader_init : InitAt K A.cReader "Reader.__init__" s_Reader_init)
    (d_read_plan : DefAt K mg "read_plan" s_read_plan)
    (d_CallReader_take_row : MethAt K A.cCallReader "take_row" "CallReader.take_row" s_CallReader_take_row)
    (d_answer_load : DefAt K mg "answer_load" s_answer_load)
    (d_after_part : DefAt K mg "after_part" s_after_part)
    (d_in_part : DefAt K mg "in_part" s_in_part)
    (d_test_line : DefAt K mg "test_line" s_test_line)
    (d_group_line : DefAt K mg "group_line" s_group_line)
    (d_written_plan : DefAt K mg "written_plan" s_written_plan)
    (d_answer_written : DefAt K mg "answer_written" s_answer_written)
    (d_cost_with_setup : DefAt K mg "cost_with_setup" s_cost_with_setup)
    (d_cost_from : DefAt K mg "cost_from" s_cost_from)
    (d_ready_behind : DefAt K mg "ready_behind" s_ready_behind)
    (d_expected_cost : DefAt K mg "expected_cost" s_expected_cost)
    (d_may_follow : DefAt K mg "may_follow" s_may_follow)
    (d_is_order : DefAt K mg "is_order" s_is_order)
    (d_answer_expected : DefAt K mg "answer_expected" s_answer_expected)
    (d_answer_order : DefAt K mg "answer_order" s_answer_order)
    (d_mask_of : DefAt K mg "mask_of" s_mask_of)
    (d_may_run_next : DefAt K mg "may_run_next" s_may_run_next)
    (d_scale_of : DefAt K mg "scale_of" s_scale_of)
    (d_best_step : DefAt K mg "best_step" s_best_step)
    (d_best_table : DefAt K mg "best_table" s_best_table)
    (d_best_order : DefAt K mg "best_order" s_best_order)
    (d_answer_best : DefAt K mg "answer_best" s_answer_best)
    (d_comes_before : DefAt K mg "comes_before" s_comes_before)
    (d_first_by_rule : DefAt K mg "first_by_rule" s_first_by_rule)
    (d_rule_order : DefAt K mg "rule_order" s_rule_order)
    (d_answer_rule : DefAt K mg "answer_rule" s_answer_rule)
    (d_cost_together : DefAt K mg "cost_together" s_cost_together)
    (d_time_of_one : DefAt K mg "time_of_one" s_time_of_one)
    (d_time_of_all : DefAt K mg "time_of_all" s_time_of_all)
    (d_all_ways : DefAt K mg "all_ways" s_all_ways)
    {c_best_way : Addr} (d_best_way : DefAtC K mg "best_way" s_best_way c_best_way)
    (d_CallReader_take_one : MethAt K A.cCallReader "take_one" "CallReader.take_one" s_CallReader_take_one)
    (d_answer_machines : DefAt K mg "answer_machines" s_answer_machines)
    (d_is_way : DefAt K mg "is_way" s_is_way)
    (d_answer_time : DefAt K mg "answer_time" s_answer_time)
    (d_miss_of : DefAt K mg "miss_of" s_miss_of)
    (d_answer_chosen : DefAt K mg "answer_chosen" s_answer_chosen)
    (d_is_choice : DefAt K mg "is_choice" s_is_choice)
    (d_all_parts : DefAt K mg "all_parts" s_all_parts)
    (d_all_choices : DefAt K mg "all_choices" s_all_choices)
    {c_best_choice : Addr} (d_best_choice : DefAtC K mg "best_choice" s_best_choice c_best_choice)
    (d_answer_budget : DefAt K mg "answer_budget" s_answer_budget)
    (d_are_tests : DefAt K mg "are_tests" s_are_tests)
    (d_answer_choice : DefAt K mg "answer_choice" s_answer_choice)
    (d_answer_size : DefAt K mg "answer_size" s_answer_size)
    (d_CallReader_more : MethAt K A.cCallReader "more" "CallReader.more" s_CallReader_more)
    (d_CallReader_init : InitAt K A.cCallReader "CallReader.__init__" s_CallReader_init)
    (d_Holder_init : InitAt K A.cHolder "Holder.__init__" s_Holder_init)
    (d_answers : DefAt K mg "answers" s_answers)
    (hne : A.pChoice ≠ A.pWay) (kC : mg "CALLS" = some (.ref A.tCalls))
    (hC : ∀ f_answer_load f_answer_written f_answer_expected f_answer_best f_answer_rule f_answer_machines f_answer_time f_answer_budget f_answer_choice f_answer_size : Addr, mg "answer_load" = some (.ref f_answer_load) → mg "answer_written" = some (.ref f_answer_written) → mg "answer_expected" = some (.ref f_answer_expected) → mg "answer_best" = some (.ref f_answer_best) → mg "answer_rule" = some (.ref f_answer_rule) → mg "answer_machines" = some (.ref f_answer_machines) → mg "answer_time" = some (.ref f_answer_time) → mg "answer_budget" = some (.ref f_answer_budget) → mg "answer_choice" = some (.ref f_answer_choice) → mg "answer_size" = some (.ref f_answer_size) → (∀ H, SqT K H A.tCalls ([f_answer_load, f_answer_written, f_answer_expected, f_answer_best, f_answer_rule, f_answer_machines, f_answer_time, f_answer_budget, f_answer_choice, f_answer_size].map V.ref)) ∧ [f_answer_load, f_answer_written, f_answer_expected, f_answer_best, f_answer_rule, f_answer_machines, f_answer_time, f_answer_budget, f_answer_choice, f_answer_size].Nodup) : ∃ f fd, mg "answers" = some (.ref f) ∧ (∀ (s : Shared) (us : List Value), us.length = (["calls"] : List Str).length → BindsTo s fd ⟨us, []⟩ ((["calls"] : List Str).zip us)) ∧ ∀ base : Heap, TabB base mg c_best_choice A.pChoice → TabB base mg c_best_way A.pWay → FnOk P w K mg base CX0 15 f fd ["calls"] (sp_answers K A) := by
  obtain ⟨f_Fault_init, fd_Fault_init, i_Fault_init, t_Fault_init, F_Fault_init⟩ := d_Fault_init
  obtain ⟨f_Token_init, fd_Token_init, m_Token_init, F_Token_init⟩ := d_Token_init
  obtain ⟨f_is_digit, fd_is_digit, m_is_digit, F_is_digit⟩ := d_is_digit
  obtain ⟨f_is_number, fd_is_number, m_is_number, F_is_number⟩ := d_is_number
  obtain ⟨f_is_letter, fd_is_letter, m_is_letter, F_is_letter⟩ := d_is_letter
  obtain ⟨f_character, fd_character, m_character, F_character⟩ := d_character
  obtain ⟨f_characters, fd_characters, m_characters, F_characters⟩ := d_characters
  obtain ⟨f_number_at, fd_number_at, m_number_at, F_number_at⟩ := d_number_at
  obtain ⟨f_is_word_byte, fd_is_word_byte, m_is_word_byte, F_is_word_byte⟩ := d_is_word_byte
  obtain ⟨f_word_at, fd_word_at, m_word_at, F_word_at⟩ := d_word_at
  obtain ⟨f_remark_end, fd_remark_end, m_remark_end, F_remark_end⟩ := d_remark_end
  obtain ⟨f_skip_gaps, fd_skip_gaps, m_skip_gaps, F_skip_gaps⟩ := d_skip_gaps
  obtain ⟨f_token_from, fd_token_from, m_token_from, F_token_from⟩ := d_token_from
  obtain ⟨f_Reader_ahead, fd_Reader_ahead, m_Reader_ahead, F_Reader_ahead⟩ := d_Reader_ahead
  obtain ⟨f_Reader_stands, fd_Reader_stands, m_Reader_stands, F_Reader_stands⟩ := d_Reader_stands
  obtain ⟨f_Group_init, fd_Group_init, m_Group_init, F_Group_init⟩ := d_Group_init
  obtain ⟨f_Reader_take, fd_Reader_take, m_Reader_take, F_Reader_take⟩ := d_Reader_take
  obtain ⟨f_Reader_take_written, fd_Reader_take_written, m_Reader_take_written, F_Reader_take_written⟩ := d_Reader_take_written
  obtain ⟨f_Reader_take_number, fd_Reader_take_number, m_Reader_take_number, F_Reader_take_number⟩ := d_Reader_take_number
  obtain ⟨f_number_of, fd_number_of, m_number_of, F_number_of⟩ := d_number_of
  obtain ⟨f_Reader_take_name, fd_Reader_take_name, m_Reader_take_name, F_Reader_take_name⟩ := d_Reader_take_name
  obtain ⟨f_read_new_name, fd_read_new_name, m_read_new_name, F_read_new_name⟩ := d_read_new_name
  obtain ⟨f_begin_member, fd_begin_member, m_begin_member, F_begin_member⟩ := d_begin_member
  obtain ⟨f_read_group, fd_read_group, m_read_group, F_read_group⟩ := d_read_group
  obtain ⟨f_Test_init, fd_Test_init, m_Test_init, F_Test_init⟩ := d_Test_init
  obtain ⟨f_read_known_name, fd_read_known_name, m_read_known_name, F_read_known_name⟩ := d_read_known_name
  obtain ⟨f_read_after_name, fd_read_after_name, m_read_after_name, F_read_after_name⟩ := d_read_after_name
  obtain ⟨f_read_after, fd_read_after, m_read_after, F_read_after⟩ := d_read_after
  obtain ⟨f_read_in, fd_read_in, m_read_in, F_read_in⟩ := d_read_in
  obtain ⟨f_read_chance, fd_read_chance, m_read_chance, F_read_chance⟩ := d_read_chance
  obtain ⟨f_read_cost, fd_read_cost, m_read_cost, F_read_cost⟩ := d_read_cost
  obtain ⟨f_read_test, fd_read_test, m_read_test, F_read_test⟩ := d_read_test
  obtain ⟨f_Plan_init, fd_Plan_init, m_Plan_init, F_Plan_init⟩ := d_Plan_init
  obtain ⟨f_Reader_init, fd_Reader_init, m_Reader_init, F_Reader_init⟩ := d_Reader_init
  obtain ⟨f_read_plan, fd_read_plan, m_read_plan, F_read_plan⟩ := d_read_plan
  obtain ⟨f_CallReader_take_row, fd_CallReader_take_row, m_CallReader_take_row, F_CallReader_take_row⟩ := d_CallReader_take_row
  obtain ⟨f_answer_load, fd_answer_load, m_answer_load, F_answer_load⟩ := d_answer_load
  obtain ⟨f_after_part, fd_after_part, m_after_part, F_after_part⟩ := d_after_part
  obtain ⟨f_in_part, fd_in_part, m_in_part, F_in_part⟩ := d_in_part
  obtain ⟨f_test_line, fd_test_line, m_test_line, F_test_line⟩ := d_test_line
  obtain ⟨f_group_line, fd_group_line, m_group_line, F_group_line⟩ := d_group_line
  obtain ⟨f_written_plan, fd_written_plan, m_written_plan, F_written_plan⟩ := d_written_plan
  obtain ⟨f_answer_written, fd_answer_written, m_answer_written, F_answer_written⟩ := d_answer_written
  obtain ⟨f_cost_with_setup, fd_cost_with_setup, m_cost_with_setup, F_cost_with_setup⟩ := d_cost_with_setup
  obtain ⟨f_cost_from, fd_cost_from, m_cost_from, F_cost_from⟩ := d_cost_from
  obtain ⟨f_ready_behind, fd_ready_behind, m_ready_behind, F_ready_behind⟩ := d_ready_behind
  obtain ⟨f_expected_cost, fd_expected_cost, m_expected_cost, F_expected_cost⟩ := d_expected_cost
  obtain ⟨f_may_follow, fd_may_follow, m_may_follow, F_may_follow⟩ := d_may_follow
  obtain ⟨f_is_order, fd_is_order, m_is_order, F_is_order⟩ := d_is_order
  obtain ⟨f_answer_expected, fd_answer_expected, m_answer_expected, F_answer_expected⟩ := d_answer_expected
  obtain ⟨f_answer_order, fd_answer_order, m_answer_order, F_answer_order⟩ := d_answer_order
  obtain ⟨f_mask_of, fd_mask_of, m_mask_of, F_mask_of⟩ := d_mask_of
  obtain ⟨f_may_run_next, fd_may_run_next, m_may_run_next, F_may_run_next⟩ := d_may_run_next
  obtain ⟨f_scale_of, fd_scale_of, m_scale_of, F_scale_of⟩ := d_scale_of
  obtain ⟨f_best_step, fd_best_step, m_best_step, F_best_step⟩ := d_best_step
  obtain ⟨f_best_table, fd_best_table, m_best_table, F_best_table⟩ := d_best_table
  obtain ⟨f_best_order, fd_best_order, m_best_order, F_best_order⟩ := d_best_order
  obtain ⟨f_answer_best, fd_answer_best, m_answer_best, F_answer_best⟩ := d_answer_best
  obtain ⟨f_comes_before, fd_comes_before, m_comes_before, F_comes_before⟩ := d_comes_before
  obtain ⟨f_first_by_rule, fd_first_by_rule, m_first_by_rule, F_first_by_rule⟩ := d_first_by_rule
  obtain ⟨f_rule_order, fd_rule_order, m_rule_order, F_rule_order⟩ := d_rule_order
  obtain ⟨f_answer_rule, fd_answer_rule, m_answer_rule, F_answer_rule⟩ := d_answer_rule
  obtain ⟨f_cost_together, fd_cost_together, m_cost_together, F_cost_together⟩ := d_cost_together
  obtain ⟨f_time_of_one, fd_time_of_one, m_time_of_one, F_time_of_one⟩ := d_time_of_one
  obtain ⟨f_time_of_all, fd_time_of_all, m_time_of_all, F_time_of_all⟩ := d_time_of_all
  obtain ⟨f_all_ways, fd_all_ways, m_all_ways, F_all_ways⟩ := d_all_ways
  obtain ⟨f_best_way, fd_best_way, m_best_way, F_best_way⟩ := d_best_way
  obtain ⟨f_CallReader_take_one, fd_CallReader_take_one, m_CallReader_take_one, F_CallReader_take_one⟩ := d_CallReader_take_one
  obtain ⟨f_answer_machines, fd_answer_machines, m_answer_machines, F_answer_machines⟩ := d_answer_machines
  obtain ⟨f_is_way, fd_is_way, m_is_way, F_is_way⟩ := d_is_way
  obtain ⟨f_answer_time, fd_answer_time, m_answer_time, F_answer_time⟩ := d_answer_time
  obtain ⟨f_miss_of, fd_miss_of, m_miss_of, F_miss_of⟩ := d_miss_of
  obtain ⟨f_answer_chosen, fd_answer_chosen, m_answer_chosen, F_answer_chosen⟩ := d_answer_chosen
  obtain ⟨f_is_choice, fd_is_choice, m_is_choice, F_is_choice⟩ := d_is_choice
  obtain ⟨f_all_parts, fd_all_parts, m_all_parts, F_all_parts⟩ := d_all_parts
  obtain ⟨f_all_choices, fd_all_choices, m_all_choices, F_all_choices⟩ := d_all_choices
  obtain ⟨f_best_choice, fd_best_choice, m_best_choice, F_best_choice⟩ := d_best_choice
  obtain ⟨f_answer_budget, fd_answer_budget, m_answer_budget, F_answer_budget⟩ := d_answer_budget
  obtain ⟨f_are_tests, fd_are_tests, m_are_tests, F_are_tests⟩ := d_are_tests
  obtain ⟨f_answer_choice, fd_answer_choice, m_answer_choice, F_answer_choice⟩ := d_answer_choice
  obtain ⟨f_answer_size, fd_answer_size, m_answer_size, F_answer_size⟩ := d_answer_size
  obtain ⟨f_CallReader_more, fd_CallReader_more, m_CallReader_more, F_CallReader_more⟩ := d_CallReader_more
  obtain ⟨f_CallReader_init, fd_CallReader_init, m_CallReader_init, F_CallReader_init⟩ := d_CallReader_init
  obtain ⟨f_Holder_init, fd_Holder_init, m_Holder_init, F_Holder_init⟩ := d_Holder_init
  obtain ⟨f_answers, fd_answers, m_answers, F_answers⟩ := d_answers
  obtain ⟨tC, nd⟩ := hC _ _ _ _ _ _ _ _ _ _ m_answer_load m_answer_written m_answer_expected m_answer_best m_answer_rule m_answer_machines m_answer_time m_answer_budget m_answer_choice m_answer_size
  refine ⟨f_answers, fd_answers, m_answers, ?_, fun base TB_best_choice TB_best_way => ?_⟩
  · obtain ⟨oc, od, kV, doc, pm, an, cdv, ct, osl, e, _⟩ := F_answers.ex
    rw [e]
    exact fun s us hl => .of_eq (match us, hl with | [_], _ => rfl)
  have b_Fault_init : Binds K fd_Fault_init ["self", "kind", "place"] [] := F_Fault_init.binds (fun _ _ _ _ _ _ us hl => match us, hl with | [_, _, _], _ => rfl)
  have O_Fault_init := ok_Fault_init (P := P) (w := w) (base := base) F_Fault_init T TF 
  have C_Fault_init : CalF P w K mg base A.cFault (sp_Fault_init A) := ⟨f_Fault_init, fd_Fault_init, i_Fault_init, t_Fault_init, b_Fault_init, O_Fault_init⟩
  have b_Token_init : Binds K fd_Token_init ["self", "kind", "written", "place"] [] := F_Token_init.binds (fun _ _ _ _ _ _ us hl => match us, hl with | [_, _, _, _], _ => rfl)
  have O_Token_init := ok_Token_init (P := P) (w := w) (base := base) F_Token_init T 
  have C_Token_init : CalI P w K mg base CX0 1 A.cToken ["self", "kind", "written", "place"] (sp_Token_init A) := ⟨f_Token_init, fd_Token_init, m_Token_init, b_Token_init, O_Token_init⟩
  have b_is_digit : Binds K fd_is_digit ["byte"] [] := F_is_digit.binds (fun _ _ _ _ _ _ us hl => match us, hl with | [_], _ => rfl)
  have O_is_digit := ok_is_digit (P := P) (w := w) (base := base) F_is_digit T 
  have C_is_digit : Cal P w K mg base CX0 1 "is_digit" ["byte"] (sp_is_digit A) := ⟨f_is_digit, fd_is_digit, m_is_digit, F_is_digit.kp, b_is_digit, O_is_digit⟩
  have b_is_number : Binds K fd_is_number ["digits"] [] := F_is_number.binds (fun _ _ _ _ _ _ us hl => match us, hl with | [_], _ => rfl)
  have O_is_number := ok_is_number (P := P) (w := w) (base := base) F_is_number T 
  have C_is_number : Cal P w K mg base CX0 1 "is_number" ["digits"] (sp_is_number A) := ⟨f_is_number, fd_is_number, m_is_number, F_is_number.kp, b_is_number, O_is_number⟩
  have b_is_letter : Binds K fd_is_letter ["byte"] [] := F_is_letter.binds (fun _ _ _ _ _ _ us hl => match us, hl with | [_], _ => rfl)
  have O_is_letter := ok_is_letter (P := P) (w := w) (base := base) F_is_letter T 
  have C_is_letter : Cal P w K mg base CX0 1 "is_letter" ["byte"] (sp_is_letter A) := ⟨f_is_letter, fd_is_letter, m_is_letter, F_is_letter.kp, b_is_letter, O_is_letter⟩
  have b_character : Binds K fd_character ["byte"] [] := F_character.binds (fun _ _ _ _ _ _ us hl => match us, hl with | [_], _ => rfl)
  have O_character := ok_character (P := P) (w := w) (base := base) F_character T C_is_digit C_is_letter
  have C_character : Cal P w K mg base CX0 2 "character" ["byte"] (sp_character A) := ⟨f_character, fd_character, m_character, F_character.kp, b_character, O_character⟩
  have b_characters : Binds K fd_characters ["word_bytes"] [] := F_characters.binds (fun _ _ _ _ _ _ us hl => match us, hl with | [_], _ => rfl)
  have O_characters := ok_characters (P := P) (w := w) (base := base) F_characters T C_character
  have C_characters : Cal P w K mg base CX0 3 "characters" ["word_bytes"] (sp_characters A) := ⟨f_characters, fd_characters, m_characters, F_characters.kp, b_characters, O_characters⟩
  have b_number_at : Binds K fd_number_at ["text", "place"] [] := F_number_at.binds (fun _ _ _ _ _ _ us hl => match us, hl with | [_, _], _ => rfl)
  have O_number_at := ok_number_at (P := P) (w := w) (base := base) F_number_at T TF C_Token_init C_is_number C_Fault_init C_characters C_is_digit
  have C_number_at : Cal P w K mg base (L2.CX P w) 4 "number_at" ["text", "place"] (sp_number_at A) := ⟨f_number_at, fd_number_at, m_number_at, F_number_at.kp, b_number_at, O_number_at⟩
  have b_is_word_byte : Binds K fd_is_word_byte ["byte"] [] := F_is_word_byte.binds (fun _ _ _ _ _ _ us hl => match us, hl with | [_], _ => rfl)
  have O_is_word_byte := ok_is_word_byte (P := P) (w := w) (base := base) F_is_word_byte T C_is_digit C_is_letter
  have C_is_word_byte : Cal P w K mg base CX0 2 "is_word_byte" ["byte"] (sp_is_word_byte A) := ⟨f_is_word_byte, fd_is_word_byte, m_is_word_byte, F_is_word_byte.kp, b_is_word_byte, O_is_word_byte⟩
  have b_word_at : Binds K fd_word_at ["text", "place"] [] := F_word_at.binds (fun _ _ _ _ _ _ us hl => match us, hl with | [_, _], _ => rfl)
  have O_word_at := ok_word_at (P := P) (w := w) (base := base) F_word_at T TF C_Token_init C_characters C_Fault_init C_is_word_byte
  have C_word_at : Cal P w K mg base (L2.CX P w) 4 "word_at" ["text", "place"] (sp_word_at A) := ⟨f_word_at, fd_word_at, m_word_at, F_word_at.kp, b_word_at, O_word_at⟩
  have b_remark_end : Binds K fd_remark_end ["text", "place"] [] := F_remark_end.binds (fun _ _ _ _ _ _ us hl => match us, hl with | [_, _], _ => rfl)
  have O_remark_end := ok_remark_end (P := P) (w := w) (base := base) F_remark_end T 
  have C_remark_end : Cal P w K mg base CX0 1 "remark_end" ["text", "place"] (sp_remark_end A) := ⟨f_remark_end, fd_remark_end, m_remark_end, F_remark_end.kp, b_remark_end, O_remark_end⟩
  have b_skip_gaps : Binds K fd_skip_gaps ["text", "place"] [] := F_skip_gaps.binds (fun _ _ _ _ _ _ us hl => match us, hl with | [_, _], _ => rfl)
  have O_skip_gaps := ok_skip_gaps (P := P) (w := w) (base := base) F_skip_gaps T C_remark_end
  have C_skip_gaps : Cal P w K mg base CX0 2 "skip_gaps" ["text", "place"] (sp_skip_gaps A) := ⟨f_skip_gaps, fd_skip_gaps, m_skip_gaps, F_skip_gaps.kp, b_skip_gaps, O_skip_gaps⟩
  have b_token_from : Binds K fd_token_from ["text", "place"] [] := F_token_from.binds (fun _ _ _ _ _ _ us hl => match us, hl with | [_, _], _ => rfl)
  have O_token_from := ok_token_from (P := P) (w := w) (base := base) F_token_from T TF C_Fault_init C_Token_init C_is_digit C_number_at C_is_letter C_word_at C_skip_gaps
  have C_token_from : Cal P w K mg base (L2.CX P w) 5 "token_from" ["text", "place"] (sp_token_from A) := ⟨f_token_from, fd_token_from, m_token_from, F_token_from.kp, b_token_from, O_token_from⟩
  have b_Reader_ahead : Binds K fd_Reader_ahead ["self"] [] := F_Reader_ahead.binds (fun _ _ _ _ _ _ us hl => match us, hl with | [_], _ => rfl)
  have O_Reader_ahead := ok_Reader_ahead (P := P) (w := w) (base := base) F_Reader_ahead T TF C_token_from
  have C_Reader_ahead : CalM P w K mg base (L2.CX P w) 6 A.cReader "ahead" ["self"] (sp_Reader_ahead A) := ⟨f_Reader_ahead, fd_Reader_ahead, m_Reader_ahead, b_Reader_ahead, O_Reader_ahead⟩
  have b_Reader_stands : Binds K fd_Reader_stands ["self", "written"] [] := F_Reader_stands.binds (fun _ _ _ _ _ _ us hl => match us, hl with | [_, _], _ => rfl)
  have O_Reader_stands := ok_Reader_stands (P := P) (w := w) (base := base) F_Reader_stands T TF C_Reader_ahead
  have C_Reader_stands : CalM P w K mg base (L2.CX P w) 7 A.cReader "stands" ["self", "written"] (sp_Reader_stands A) := ⟨f_Reader_stands, fd_Reader_stands, m_Reader_stands, b_Reader_stands, O_Reader_stands⟩
  have b_Group_init : Binds K fd_Group_init ["self", "name", "setup"] [] := F_Group_init.binds (fun _ _ _ _ _ _ us hl => match us, hl with | [_, _, _], _ => rfl)
  have O_Group_init := ok_Group_init (P := P) (w := w) (base := base) F_Group_init T 
  have C_Group_init : CalI P w K mg base CX0 1 A.cGroup ["self", "name", "setup"] (sp_Group_init A) := ⟨f_Group_init, fd_Group_init, m_Group_init, b_Group_init, O_Group_init⟩
  have b_Reader_take : Binds K fd_Reader_take ["self"] [] := F_Reader_take.binds (fun _ _ _ _ _ _ us hl => match us, hl with | [_], _ => rfl)
  have O_Reader_take := ok_Reader_take (P := P) (w := w) (base := base) F_Reader_take T TF C_Fault_init C_Reader_ahead
  have C_Reader_take : CalM P w K mg base (L2.CX P w) 7 A.cReader "take" ["self"] (sp_Reader_take A) := ⟨f_Reader_take, fd_Reader_take, m_Reader_take, b_Reader_take, O_Reader_take⟩
  have b_Reader_take_written : Binds K fd_Reader_take_written ["self", "written"] [] := F_Reader_take_written.binds (fun _ _ _ _ _ _ us hl => match us, hl with | [_, _], _ => rfl)
  have O_Reader_take_written := ok_Reader_take_written (P := P) (w := w) (base := base) F_Reader_take_written T TF C_Fault_init C_Reader_take
  have C_Reader_take_written : CalM P w K mg base (L2.CX P w) 8 A.cReader "take_written" ["self", "written"] (sp_Reader_take_written A) := ⟨f_Reader_take_written, fd_Reader_take_written, m_Reader_take_written, b_Reader_take_written, O_Reader_take_written⟩
  have b_Reader_take_number : Binds K fd_Reader_take_number ["self"] [] := F_Reader_take_number.binds (fun _ _ _ _ _ _ us hl => match us, hl with | [_], _ => rfl)
  have O_Reader_take_number := ok_Reader_take_number (P := P) (w := w) (base := base) F_Reader_take_number T TF C_Fault_init C_Reader_take
  have C_Reader_take_number : CalM P w K mg base (L2.CX P w) 8 A.cReader "take_number" ["self"] (sp_Reader_take_number A) := ⟨f_Reader_take_number, fd_Reader_take_number, m_Reader_take_number, b_Reader_take_number, O_Reader_take_number⟩
  have b_number_of : Binds K fd_number_of ["members", "name"] [] := F_number_of.binds (fun _ _ _ _ _ _ us hl => match us, hl with | [_, _], _ => rfl)
  have O_number_of := ok_number_of (P := P) (w := w) (base := base) F_number_of T 
  have C_number_of : Cal P w K mg base CX0 1 "number_of" ["members", "name"] (sp_number_of A) := ⟨f_number_of, fd_number_of, m_number_of, F_number_of.kp, b_number_of, O_number_of⟩
  have b_Reader_take_name : Binds K fd_Reader_take_name ["self"] [] := F_Reader_take_name.binds (fun _ _ _ _ _ _ us hl => match us, hl with | [_], _ => rfl)
  have O_Reader_take_name := ok_Reader_take_name (P := P) (w := w) (base := base) F_Reader_take_name T TF C_Fault_init C_Reader_take
  have C_Reader_take_name : CalM P w K mg base (L2.CX P w) 8 A.cReader "take_name" ["self"] (sp_Reader_take_name A) := ⟨f_Reader_take_name, fd_Reader_take_name, m_Reader_take_name, b_Reader_take_name, O_Reader_take_name⟩
  have b_read_new_name : Binds K fd_read_new_name ["reader", "members"] [] := F_read_new_name.binds (fun _ _ _ _ _ _ us hl => match us, hl with | [_, _], _ => rfl)
  have O_read_new_name := ok_read_new_name (P := P) (w := w) (base := base) F_read_new_name T TF C_number_of C_Fault_init C_Reader_take_name
  have C_read_new_name : Cal P w K mg base (L2.CX P w) 9 "read_new_name" ["reader", "members"] (sp_read_new_name A) := ⟨f_read_new_name, fd_read_new_name, m_read_new_name, F_read_new_name.kp, b_read_new_name, O_read_new_name⟩
  have b_begin_member : Binds K fd_begin_member ["reader", "keyword", "members", "most"] [] := F_begin_member.binds (fun _ _ _ _ _ _ us hl => match us, hl with | [_, _, _, _], _ => rfl)
  have O_begin_member := ok_begin_member (P := P) (w := w) (base := base) F_begin_member T TF C_Fault_init C_Reader_take_written
  have C_begin_member : Cal P w K mg base (L2.CX P w) 9 "begin_member" ["reader", "keyword", "members", "most"] (sp_begin_member A) := ⟨f_begin_member, fd_begin_member, m_begin_member, F_begin_member.kp, b_begin_member, O_begin_member⟩
  have b_read_group : Binds K fd_read_group ["reader", "plan"] [] := F_read_group.binds (fun _ _ _ _ _ _ us hl => match us, hl with | [_, _], _ => rfl)
  have O_read_group := ok_read_group (P := P) (w := w) (base := base) F_read_group T TF C_Group_init C_Reader_take_written C_Reader_take_number C_read_new_name C_begin_member
  have C_read_group : Cal P w K mg base (L2.CX P w) 10 "read_group" ["reader", "plan"] (sp_read_group A) := ⟨f_read_group, fd_read_group, m_read_group, F_read_group.kp, b_read_group, O_read_group⟩
  have b_Test_init : Binds K fd_Test_init ["self", "name", "cost", "chance", "group", "after"] [] := F_Test_init.binds (fun _ _ _ _ _ _ us hl => match us, hl with | [_, _, _, _, _, _], _ => rfl)
  have O_Test_init := ok_Test_init (P := P) (w := w) (base := base) F_Test_init T 
  have C_Test_init : CalI P w K mg base CX0 1 A.cTest ["self", "name", "cost", "chance", "group", "after"] (sp_Test_init A) := ⟨f_Test_init, fd_Test_init, m_Test_init, b_Test_init, O_Test_init⟩
  have b_read_known_name : Binds K fd_read_known_name ["reader", "members"] [] := F_read_known_name.binds (fun _ _ _ _ _ _ us hl => match us, hl with | [_, _], _ => rfl)
  have O_read_known_name := ok_read_known_name (P := P) (w := w) (base := base) F_read_known_name T TF C_number_of C_Fault_init C_Reader_take_name
  have C_read_known_name : Cal P w K mg base (L2.CX P w) 9 "read_known_name" ["reader", "members"] (sp_read_known_name A) := ⟨f_read_known_name, fd_read_known_name, m_read_known_name, F_read_known_name.kp, b_read_known_name, O_read_known_name⟩
  have b_read_after_name : Binds K fd_read_after_name ["reader", "plan", "after"] [] := F_read_after_name.binds (fun _ _ _ _ _ _ us hl => match us, hl with | [_, _, _], _ => rfl)
  have O_read_after_name := ok_read_after_name (P := P) (w := w) (base := base) F_read_after_name T TF C_Fault_init C_number_of C_read_known_name
  have C_read_after_name : Cal P w K mg base (L2.CX P w) 10 "read_after_name" ["reader", "plan", "after"] (sp_read_after_name A) := ⟨f_read_after_name, fd_read_after_name, m_read_after_name, F_read_after_name.kp, b_read_after_name, O_read_after_name⟩
  have b_read_after : Binds K fd_read_after ["reader", "plan"] [] := F_read_after.binds (fun _ _ _ _ _ _ us hl => match us, hl with | [_, _], _ => rfl)
  have O_read_after := ok_read_after (P := P) (w := w) (base := base) F_read_after T TF C_Reader_stands C_read_after_name C_Reader_take
  have C_read_after : Cal P w K mg base (L2.CX P w) 11 "read_after" ["reader", "plan"] (sp_read_after A) := ⟨f_read_after, fd_read_after, m_read_after, F_read_after.kp, b_read_after, O_read_after⟩
  have b_read_in : Binds K fd_read_in ["reader", "plan"] [] := F_read_in.binds (fun _ _ _ _ _ _ us hl => match us, hl with | [_, _], _ => rfl)
  have O_read_in := ok_read_in (P := P) (w := w) (base := base) F_read_in T TF C_number_of C_read_known_name C_Reader_take C_Reader_stands
  have C_read_in : Cal P w K mg base (L2.CX P w) 10 "read_in" ["reader", "plan"] (sp_read_in A) := ⟨f_read_in, fd_read_in, m_read_in, F_read_in.kp, b_read_in, O_read_in⟩
  have b_read_chance : Binds K fd_read_chance ["reader"] [] := F_read_chance.binds (fun _ _ _ _ _ _ us hl => match us, hl with | [_], _ => rfl)
  have O_read_chance := ok_read_chance (P := P) (w := w) (base := base) F_read_chance T TF C_Fault_init C_Reader_take_number C_Reader_take_written
  have C_read_chance : Cal P w K mg base (L2.CX P w) 9 "read_chance" ["reader"] (sp_read_chance A) := ⟨f_read_chance, fd_read_chance, m_read_chance, F_read_chance.kp, b_read_chance, O_read_chance⟩
  have b_read_cost : Binds K fd_read_cost ["reader"] [] := F_read_cost.binds (fun _ _ _ _ _ _ us hl => match us, hl with | [_], _ => rfl)
  have O_read_cost := ok_read_cost (P := P) (w := w) (base := base) F_read_cost T TF C_Fault_init C_Reader_take_number C_Reader_take_written
  have C_read_cost : Cal P w K mg base (L2.CX P w) 9 "read_cost" ["reader"] (sp_read_cost A) := ⟨f_read_cost, fd_read_cost, m_read_cost, F_read_cost.kp, b_read_cost, O_read_cost⟩
  have b_read_test : Binds K fd_read_test ["reader", "plan"] [] := F_read_test.binds (fun _ _ _ _ _ _ us hl => match us, hl with | [_, _], _ => rfl)
  have O_read_test := ok_read_test (P := P) (w := w) (base := base) F_read_test T TF C_Test_init C_Reader_take_written C_read_after C_read_in C_read_chance C_read_cost C_read_new_name C_begin_member
  have C_read_test : Cal P w K mg base (L2.CX P w) 12 "read_test" ["reader", "plan"] (sp_read_test A) := ⟨f_read_test, fd_read_test, m_read_test, F_read_test.kp, b_read_test, O_read_test⟩
  have b_Plan_init : Binds K fd_Plan_init ["self"] [] := F_Plan_init.binds (fun _ _ _ _ _ _ us hl => match us, hl with | [_], _ => rfl)
  have O_Plan_init := ok_Plan_init (P := P) (w := w) (base := base) F_Plan_init T 
  have C_Plan_init : CalI P w K mg base CX0 1 A.cPlan ["self"] (sp_Plan_init A) := ⟨f_Plan_init, fd_Plan_init, m_Plan_init, b_Plan_init, O_Plan_init⟩
  have b_Reader_init : Binds K fd_Reader_init ["self", "text"] [] := F_Reader_init.binds (fun _ _ _ _ _ _ us hl => match us, hl with | [_, _], _ => rfl)
  have O_Reader_init := ok_Reader_init (P := P) (w := w) (base := base) F_Reader_init T 
  have C_Reader_init : CalI P w K mg base CX0 1 A.cReader ["self", "text"] (sp_Reader_init A) := ⟨f_Reader_init, fd_Reader_init, m_Reader_init, b_Reader_init, O_Reader_init⟩
  have b_read_plan : Binds K fd_read_plan ["text"] [] := F_read_plan.binds (fun _ _ _ _ _ _ us hl => match us, hl with | [_], _ => rfl)
  have O_read_plan := ok_read_plan (P := P) (w := w) (base := base) F_read_plan T TF C_Reader_ahead C_Reader_stands C_read_group C_read_test C_Plan_init C_Reader_init
  have C_read_plan : Cal P w K mg base (L2.CX P w) 13 "read_plan" ["text"] (sp_read_plan A) := ⟨f_read_plan, fd_read_plan, m_read_plan, F_read_plan.kp, b_read_plan, O_read_plan⟩
  have b_CallReader_take_row : Binds K fd_CallReader_take_row ["self"] [] := F_CallReader_take_row.binds (fun _ _ _ _ _ _ us hl => match us, hl with | [_], _ => rfl)
  have O_CallReader_take_row := ok_CallReader_take_row (P := P) (w := w) (base := base) F_CallReader_take_row T 
  have C_CallReader_take_row : CalM P w K mg base CX0 1 A.cCallReader "take_row" ["self"] (sp_CallReader_take_row K A) := ⟨f_CallReader_take_row, fd_CallReader_take_row, m_CallReader_take_row, b_CallReader_take_row, O_CallReader_take_row⟩
  have b_answer_load : Binds K fd_answer_load ["holder", "reader"] [] := F_answer_load.binds (fun _ _ _ _ _ _ us hl => match us, hl with | [_, _], _ => rfl)
  have O_answer_load := ok_answer_load (P := P) (w := w) (base := base) F_answer_load T TF C_read_plan C_CallReader_take_row
  have C_answer_load : Cal P w K mg base CX0 14 "answer_load" ["holder", "reader"] (sp_answer_load K A) := ⟨f_answer_load, fd_answer_load, m_answer_load, F_answer_load.kp, b_answer_load, O_answer_load⟩
  have b_after_part : Binds K fd_after_part ["plan", "test"] [] := F_after_part.binds (fun _ _ _ _ _ _ us hl => match us, hl with | [_, _], _ => rfl)
  have O_after_part := ok_after_part (P := P) (w := w) (base := base) F_after_part T 
  have C_after_part : Cal P w K mg base CX0 1 "after_part" ["plan", "test"] (sp_after_part A) := ⟨f_after_part, fd_after_part, m_after_part, F_after_part.kp, b_after_part, O_after_part⟩
  have b_in_part : Binds K fd_in_part ["plan", "test"] [] := F_in_part.binds (fun _ _ _ _ _ _ us hl => match us, hl with | [_, _], _ => rfl)
  have O_in_part := ok_in_part (P := P) (w := w) (base := base) F_in_part T 
  have C_in_part : Cal P w K mg base CX0 1 "in_part" ["plan", "test"] (sp_in_part A) := ⟨f_in_part, fd_in_part, m_in_part, F_in_part.kp, b_in_part, O_in_part⟩
  have b_test_line : Binds K fd_test_line ["plan", "test"] [] := F_test_line.binds (fun _ _ _ _ _ _ us hl => match us, hl with | [_, _], _ => rfl)
  have O_test_line := ok_test_line (P := P) (w := w) (base := base) F_test_line T C_after_part C_in_part
  have C_test_line : Cal P w K mg base CX0 2 "test_line" ["plan", "test"] (sp_test_line A) := ⟨f_test_line, fd_test_line, m_test_line, F_test_line.kp, b_test_line, O_test_line⟩
  have b_group_line : Binds K fd_group_line ["group"] [] := F_group_line.binds (fun _ _ _ _ _ _ us hl => match us, hl with | [_], _ => rfl)
  have O_group_line := ok_group_line (P := P) (w := w) (base := base) F_group_line T 
  have C_group_line : Cal P w K mg base CX0 1 "group_line" ["group"] (sp_group_line A) := ⟨f_group_line, fd_group_line, m_group_line, F_group_line.kp, b_group_line, O_group_line⟩
  have b_written_plan : Binds K fd_written_plan ["plan"] [] := F_written_plan.binds (fun _ _ _ _ _ _ us hl => match us, hl with | [_], _ => rfl)
  have O_written_plan := ok_written_plan (P := P) (w := w) (base := base) F_written_plan T C_test_line C_group_line
  have C_written_plan : Cal P w K mg base CX0 3 "written_plan" ["plan"] (sp_written_plan A) := ⟨f_written_plan, fd_written_plan, m_written_plan, F_written_plan.kp, b_written_plan, O_written_plan⟩
  have b_answer_written : Binds K fd_answer_written ["holder", "reader"] [] := F_answer_written.binds (fun _ _ _ _ _ _ us hl => match us, hl with | [_, _], _ => rfl)
  have O_answer_written := ok_answer_written (P := P) (w := w) (base := base) F_answer_written T C_written_plan
  have C_answer_written : Cal P w K mg base CX0 4 "answer_written" ["holder", "reader"] (sp_answer_written K A) := ⟨f_answer_written, fd_answer_written, m_answer_written, F_answer_written.kp, b_answer_written, O_answer_written⟩
  have b_cost_with_setup : Binds K fd_cost_with_setup ["plan", "number", "ready"] [] := F_cost_with_setup.binds (fun _ _ _ _ _ _ us hl => match us, hl with | [_, _, _], _ => rfl)
  have O_cost_with_setup := ok_cost_with_setup (P := P) (w := w) (base := base) F_cost_with_setup T 
  have C_cost_with_setup : Cal P w K mg base CX0 1 "cost_with_setup" ["plan", "number", "ready"] (sp_cost_with_setup A) := ⟨f_cost_with_setup, fd_cost_with_setup, m_cost_with_setup, F_cost_with_setup.kp, b_cost_with_setup, O_cost_with_setup⟩
  have b_cost_from : Binds K fd_cost_from ["plan", "number", "ready", "scale", "rest"] [] := F_cost_from.binds (fun _ _ _ _ _ _ us hl => match us, hl with | [_, _, _, _, _], _ => rfl)
  have O_cost_from := ok_cost_from (P := P) (w := w) (base := base) F_cost_from T C_cost_with_setup
  have C_cost_from : Cal P w K mg base CX0 2 "cost_from" ["plan", "number", "ready", "scale", "rest"] (sp_cost_from A) := ⟨f_cost_from, fd_cost_from, m_cost_from, F_cost_from.kp, b_cost_from, O_cost_from⟩
  have b_ready_behind : Binds K fd_ready_behind ["plan", "number", "ready"] [] := F_ready_behind.binds (fun _ _ _ _ _ _ us hl => match us, hl with | [_, _, _], _ => rfl)
  have O_ready_behind := ok_ready_behind (P := P) (w := w) (base := base) F_ready_behind T 
  have C_ready_behind : Cal P w K mg base CX0 1 "ready_behind" ["plan", "number", "ready"] (sp_ready_behind A) := ⟨f_ready_behind, fd_ready_behind, m_ready_behind, F_ready_behind.kp, b_ready_behind, O_ready_behind⟩
  have b_expected_cost : Binds K fd_expected_cost ["plan", "order"] [] := F_expected_cost.binds (fun _ _ _ _ _ _ us hl => match us, hl with | [_, _], _ => rfl)
  have O_expected_cost := ok_expected_cost (P := P) (w := w) (base := base) F_expected_cost T C_cost_from C_ready_behind
  have C_expected_cost : Cal P w K mg base CX0 3 "expected_cost" ["plan", "order"] (sp_expected_cost A) := ⟨f_expected_cost, fd_expected_cost, m_expected_cost, F_expected_cost.kp, b_expected_cost, O_expected_cost⟩
  have b_may_follow : Binds K fd_may_follow ["plan", "number", "others"] [] := F_may_follow.binds (fun _ _ _ _ _ _ us hl => match us, hl with | [_, _, _], _ => rfl)
  have O_may_follow := ok_may_follow (P := P) (w := w) (base := base) F_may_follow T 
  have C_may_follow : Cal P w K mg base CX0 1 "may_follow" ["plan", "number", "others"] (sp_may_follow A) := ⟨f_may_follow, fd_may_follow, m_may_follow, F_may_follow.kp, b_may_follow, O_may_follow⟩
  have b_is_order : Binds K fd_is_order ["plan", "order"] [] := F_is_order.binds (fun _ _ _ _ _ _ us hl => match us, hl with | [_, _], _ => rfl)
  have O_is_order := ok_is_order (P := P) (w := w) (base := base) F_is_order T C_may_follow
  have C_is_order : Cal P w K mg base CX0 2 "is_order" ["plan", "order"] (sp_is_order A) := ⟨f_is_order, fd_is_order, m_is_order, F_is_order.kp, b_is_order, O_is_order⟩
  have b_answer_expected : Binds K fd_answer_expected ["holder", "reader"] [] := F_answer_expected.binds (fun _ _ _ _ _ _ us hl => match us, hl with | [_, _], _ => rfl)
  have O_answer_expected := ok_answer_expected (P := P) (w := w) (base := base) F_answer_expected T C_expected_cost C_is_order C_CallReader_take_row
  have C_answer_expected : Cal P w K mg base CX0 4 "answer_expected" ["holder", "reader"] (sp_answer_expected K A) := ⟨f_answer_expected, fd_answer_expected, m_answer_expected, F_answer_expected.kp, b_answer_expected, O_answer_expected⟩
  have b_answer_order : Binds K fd_answer_order ["plan", "order"] [] := F_answer_order.binds (fun _ _ _ _ _ _ us hl => match us, hl with | [_, _], _ => rfl)
  have O_answer_order := ok_answer_order (P := P) (w := w) (base := base) F_answer_order T C_expected_cost
  have C_answer_order : Cal P w K mg base CX0 4 "answer_order" ["plan", "order"] (sp_answer_order A) := ⟨f_answer_order, fd_answer_order, m_answer_order, F_answer_order.kp, b_answer_order, O_answer_order⟩
  have b_mask_of : Binds K fd_mask_of ["numbers"] [] := F_mask_of.binds (fun _ _ _ _ _ _ us hl => match us, hl with | [_], _ => rfl)
  have O_mask_of := ok_mask_of (P := P) (w := w) (base := base) F_mask_of T 
  have C_mask_of : Cal P w K mg base CX0 1 "mask_of" ["numbers"] (sp_mask_of A) := ⟨f_mask_of, fd_mask_of, m_mask_of, F_mask_of.kp, b_mask_of, O_mask_of⟩
  have b_may_run_next : Binds K fd_may_run_next ["plan", "ran"] [] := F_may_run_next.binds (fun _ _ _ _ _ _ us hl => match us, hl with | [_, _], _ => rfl)
  have O_may_run_next := ok_may_run_next (P := P) (w := w) (base := base) F_may_run_next T C_may_follow
  have C_may_run_next : Cal P w K mg base CX0 2 "may_run_next" ["plan", "ran"] (sp_may_run_next A) := ⟨f_may_run_next, fd_may_run_next, m_may_run_next, F_may_run_next.kp, b_may_run_next, O_may_run_next⟩
  have b_scale_of : Binds K fd_scale_of ["count"] [] := F_scale_of.binds (fun _ _ _ _ _ _ us hl => match us, hl with | [_], _ => rfl)
  have O_scale_of := ok_scale_of (P := P) (w := w) (base := base) F_scale_of T 
  have C_scale_of : Cal P w K mg base CX0 1 "scale_of" ["count"] (sp_scale_of A) := ⟨f_scale_of, fd_scale_of, m_scale_of, F_scale_of.kp, b_scale_of, O_scale_of⟩
  have b_best_step : Binds K fd_best_step ["plan", "table", "ran", "ready"] [] := F_best_step.binds (fun _ _ _ _ _ _ us hl => match us, hl with | [_, _, _, _], _ => rfl)
  have O_best_step := ok_best_step (P := P) (w := w) (base := base) F_best_step T C_may_run_next C_cost_from C_ready_behind C_mask_of C_scale_of
  have C_best_step : Cal P w K mg base CX0 3 "best_step" ["plan", "table", "ran", "ready"] (sp_best_step P w A) := ⟨f_best_step, fd_best_step, m_best_step, F_best_step.kp, b_best_step, O_best_step⟩
  have b_best_table : Binds K fd_best_table ["plan"] [] := F_best_table.binds (fun _ _ _ _ _ _ us hl => match us, hl with | [_], _ => rfl)
  have O_best_table := ok_best_table (P := P) (w := w) (base := base) F_best_table T C_best_step
  have C_best_table : Cal P w K mg base CX0 4 "best_table" ["plan"] (sp_best_table P w A) := ⟨f_best_table, fd_best_table, m_best_table, F_best_table.kp, b_best_table, O_best_table⟩
  have b_best_order : Binds K fd_best_order ["plan"] [] := F_best_order.binds (fun _ _ _ _ _ _ us hl => match us, hl with | [_], _ => rfl)
  have O_best_order := ok_best_order (P := P) (w := w) (base := base) F_best_order T C_ready_behind C_mask_of C_best_table
  have C_best_order : Cal P w K mg base CX0 5 "best_order" ["plan"] (sp_best_order A) := ⟨f_best_order, fd_best_order, m_best_order, F_best_order.kp, b_best_order, O_best_order⟩
  have b_answer_best : Binds K fd_answer_best ["holder", "reader"] [] := F_answer_best.binds (fun _ _ _ _ _ _ us hl => match us, hl with | [_, _], _ => rfl)
  have O_answer_best := ok_answer_best (P := P) (w := w) (base := base) F_answer_best T C_answer_order C_best_order
  have C_answer_best : Cal P w K mg base CX0 6 "answer_best" ["holder", "reader"] (sp_answer_best K A) := ⟨f_answer_best, fd_answer_best, m_answer_best, F_answer_best.kp, b_answer_best, O_answer_best⟩
  have b_comes_before : Binds K fd_comes_before ["test", "other"] [] := F_comes_before.binds (fun _ _ _ _ _ _ us hl => match us, hl with | [_, _], _ => rfl)
  have O_comes_before := ok_comes_before (P := P) (w := w) (base := base) F_comes_before T 
  have C_comes_before : Cal P w K mg base CX0 1 "comes_before" ["test", "other"] (sp_comes_before A) := ⟨f_comes_before, fd_comes_before, m_comes_before, F_comes_before.kp, b_comes_before, O_comes_before⟩
  have b_first_by_rule : Binds K fd_first_by_rule ["plan", "numbers"] [] := F_first_by_rule.binds (fun _ _ _ _ _ _ us hl => match us, hl with | [_, _], _ => rfl)
  have O_first_by_rule := ok_first_by_rule (P := P) (w := w) (base := base) F_first_by_rule T C_comes_before
  have C_first_by_rule : Cal P w K mg base CX0 2 "first_by_rule" ["plan", "numbers"] (sp_first_by_rule A) := ⟨f_first_by_rule, fd_first_by_rule, m_first_by_rule, F_first_by_rule.kp, b_first_by_rule, O_first_by_rule⟩
  have b_rule_order : Binds K fd_rule_order ["plan"] [] := F_rule_order.binds (fun _ _ _ _ _ _ us hl => match us, hl with | [_], _ => rfl)
  have O_rule_order := ok_rule_order (P := P) (w := w) (base := base) F_rule_order T C_first_by_rule C_may_run_next
  have C_rule_order : Cal P w K mg base CX0 3 "rule_order" ["plan"] (sp_rule_order A) := ⟨f_rule_order, fd_rule_order, m_rule_order, F_rule_order.kp, b_rule_order, O_rule_order⟩
  have b_answer_rule : Binds K fd_answer_rule ["holder", "reader"] [] := F_answer_rule.binds (fun _ _ _ _ _ _ us hl => match us, hl with | [_, _], _ => rfl)
  have O_answer_rule := ok_answer_rule (P := P) (w := w) (base := base) F_answer_rule T C_answer_order C_rule_order
  have C_answer_rule : Cal P w K mg base CX0 5 "answer_rule" ["holder", "reader"] (sp_answer_rule K A) := ⟨f_answer_rule, fd_answer_rule, m_answer_rule, F_answer_rule.kp, b_answer_rule, O_answer_rule⟩
  have b_cost_together : Binds K fd_cost_together ["plan", "numbers"] [] := F_cost_together.binds (fun _ _ _ _ _ _ us hl => match us, hl with | [_, _], _ => rfl)
  have O_cost_together := ok_cost_together (P := P) (w := w) (base := base) F_cost_together T 
  have C_cost_together : Cal P w K mg base CX0 1 "cost_together" ["plan", "numbers"] (sp_cost_together A) := ⟨f_cost_together, fd_cost_together, m_cost_together, F_cost_together.kp, b_cost_together, O_cost_together⟩
  have b_time_of_one : Binds K fd_time_of_one ["plan", "way", "machine"] [] := F_time_of_one.binds (fun _ _ _ _ _ _ us hl => match us, hl with | [_, _, _], _ => rfl)
  have O_time_of_one := ok_time_of_one (P := P) (w := w) (base := base) F_time_of_one T C_cost_together
  have C_time_of_one : Cal P w K mg base CX0 2 "time_of_one" ["plan", "way", "machine"] (sp_time_of_one A) := ⟨f_time_of_one, fd_time_of_one, m_time_of_one, F_time_of_one.kp, b_time_of_one, O_time_of_one⟩
  have b_time_of_all : Binds K fd_time_of_all ["plan", "many", "way"] [] := F_time_of_all.binds (fun _ _ _ _ _ _ us hl => match us, hl with | [_, _, _], _ => rfl)
  have O_time_of_all := ok_time_of_all (P := P) (w := w) (base := base) F_time_of_all T C_time_of_one
  have C_time_of_all : Cal P w K mg base CX0 3 "time_of_all" ["plan", "many", "way"] (sp_time_of_all A) := ⟨f_time_of_all, fd_time_of_all, m_time_of_all, F_time_of_all.kp, b_time_of_all, O_time_of_all⟩
  have b_all_ways : Binds K fd_all_ways ["many", "count"] [] := F_all_ways.binds (fun _ _ _ _ _ _ us hl => match us, hl with | [_, _], _ => rfl)
  have O_all_ways := ok_all_ways (P := P) (w := w) (base := base) F_all_ways T 
  have C_all_ways : Cal P w K mg base CX0 1 "all_ways" ["many", "count"] (sp_all_ways A) := ⟨f_all_ways, fd_all_ways, m_all_ways, F_all_ways.kp, b_all_ways, O_all_ways⟩
  have b_best_way : Binds K fd_best_way ["plan", "many"] [] := F_best_way.fn.binds (fun _ _ _ _ _ _ us hl => match us, hl with | [_, _], _ => rfl)
  have O_best_way := ok_best_way (P := P) (w := w) (base := base) F_best_way T C_time_of_all C_all_ways TB_best_way hne
  have C_best_way : Cal P w K mg base CX0 6 "best_way" ["plan", "many"] (sp_best_way A) := ⟨f_best_way, fd_best_way, m_best_way, F_best_way.kp, b_best_way, O_best_way⟩
  have b_CallReader_take_one : Binds K fd_CallReader_take_one ["self"] [] := F_CallReader_take_one.binds (fun _ _ _ _ _ _ us hl => match us, hl with | [_], _ => rfl)
  have O_CallReader_take_one := ok_CallReader_take_one (P := P) (w := w) (base := base) F_CallReader_take_one T 
  have C_CallReader_take_one : CalM P w K mg base CX0 1 A.cCallReader "take_one" ["self"] (sp_CallReader_take_one K A) := ⟨f_CallReader_take_one, fd_CallReader_take_one, m_CallReader_take_one, b_CallReader_take_one, O_CallReader_take_one⟩
  have b_answer_machines : Binds K fd_answer_machines ["holder", "reader"] [] := F_answer_machines.binds (fun _ _ _ _ _ _ us hl => match us, hl with | [_, _], _ => rfl)
  have O_answer_machines := ok_answer_machines (P := P) (w := w) (base := base) F_answer_machines T C_time_of_all C_best_way C_CallReader_take_one
  have C_answer_machines : Cal P w K mg base CX0 7 "answer_machines" ["holder", "reader"] (sp_answer_machines K A) := ⟨f_answer_machines, fd_answer_machines, m_answer_machines, F_answer_machines.kp, b_answer_machines, O_answer_machines⟩
  have b_is_way : Binds K fd_is_way ["plan", "many", "way"] [] := F_is_way.binds (fun _ _ _ _ _ _ us hl => match us, hl with | [_, _, _], _ => rfl)
  have O_is_way := ok_is_way (P := P) (w := w) (base := base) F_is_way T 
  have C_is_way : Cal P w K mg base CX0 1 "is_way" ["plan", "many", "way"] (sp_is_way A) := ⟨f_is_way, fd_is_way, m_is_way, F_is_way.kp, b_is_way, O_is_way⟩
  have b_answer_time : Binds K fd_answer_time ["holder", "reader"] [] := F_answer_time.binds (fun _ _ _ _ _ _ us hl => match us, hl with | [_, _], _ => rfl)
  have O_answer_time := ok_answer_time (P := P) (w := w) (base := base) F_answer_time T C_time_of_all C_is_way C_CallReader_take_row C_CallReader_take_one
  have C_answer_time : Cal P w K mg base CX0 4 "answer_time" ["holder", "reader"] (sp_answer_time K A) := ⟨f_answer_time, fd_answer_time, m_answer_time, F_answer_time.kp, b_answer_time, O_answer_time⟩
  have b_miss_of : Binds K fd_miss_of ["plan", "chosen"] [] := F_miss_of.binds (fun _ _ _ _ _ _ us hl => match us, hl with | [_, _], _ => rfl)
  have O_miss_of := ok_miss_of (P := P) (w := w) (base := base) F_miss_of T 
  have C_miss_of : Cal P w K mg base CX0 1 "miss_of" ["plan", "chosen"] (sp_miss_of A) := ⟨f_miss_of, fd_miss_of, m_miss_of, F_miss_of.kp, b_miss_of, O_miss_of⟩
  have b_answer_chosen : Binds K fd_answer_chosen ["plan", "chosen"] [] := F_answer_chosen.binds (fun _ _ _ _ _ _ us hl => match us, hl with | [_, _], _ => rfl)
  have O_answer_chosen := ok_answer_chosen (P := P) (w := w) (base := base) F_answer_chosen T C_cost_together C_miss_of
  have C_answer_chosen : Cal P w K mg base CX0 2 "answer_chosen" ["plan", "chosen"] (sp_answer_chosen A) := ⟨f_answer_chosen, fd_answer_chosen, m_answer_chosen, F_answer_chosen.kp, b_answer_chosen, O_answer_chosen⟩
  have b_is_choice : Binds K fd_is_choice ["plan", "chosen"] [] := F_is_choice.binds (fun _ _ _ _ _ _ us hl => match us, hl with | [_, _], _ => rfl)
  have O_is_choice := ok_is_choice (P := P) (w := w) (base := base) F_is_choice T C_may_follow
  have C_is_choice : Cal P w K mg base CX0 2 "is_choice" ["plan", "chosen"] (sp_is_choice A) := ⟨f_is_choice, fd_is_choice, m_is_choice, F_is_choice.kp, b_is_choice, O_is_choice⟩
  have b_all_parts : Binds K fd_all_parts ["count"] [] := F_all_parts.binds (fun _ _ _ _ _ _ us hl => match us, hl with | [_], _ => rfl)
  have O_all_parts := ok_all_parts (P := P) (w := w) (base := base) F_all_parts T 
  have C_all_parts : Cal P w K mg base CX0 1 "all_parts" ["count"] (sp_all_parts A) := ⟨f_all_parts, fd_all_parts, m_all_parts, F_all_parts.kp, b_all_parts, O_all_parts⟩
  have b_all_choices : Binds K fd_all_choices ["plan"] [] := F_all_choices.binds (fun _ _ _ _ _ _ us hl => match us, hl with | [_], _ => rfl)
  have O_all_choices := ok_all_choices (P := P) (w := w) (base := base) F_all_choices T C_is_choice C_all_parts
  have C_all_choices : Cal P w K mg base CX0 3 "all_choices" ["plan"] (sp_all_choices A) := ⟨f_all_choices, fd_all_choices, m_all_choices, F_all_choices.kp, b_all_choices, O_all_choices⟩
  have b_best_choice : Binds K fd_best_choice ["plan", "most"] [] := F_best_choice.fn.binds (fun _ _ _ _ _ _ us hl => match us, hl with | [_, _], _ => rfl)
  have O_best_choice := ok_best_choice (P := P) (w := w) (base := base) F_best_choice T C_cost_together C_miss_of C_all_choices TB_best_choice hne
  have C_best_choice : Cal P w K mg base CX0 4 "best_choice" ["plan", "most"] (sp_best_choice A) := ⟨f_best_choice, fd_best_choice, m_best_choice, F_best_choice.kp, b_best_choice, O_best_choice⟩
  have b_answer_budget : Binds K fd_answer_budget ["holder", "reader"] [] := F_answer_budget.binds (fun _ _ _ _ _ _ us hl => match us, hl with | [_, _], _ => rfl)
  have O_answer_budget := ok_answer_budget (P := P) (w := w) (base := base) F_answer_budget T C_answer_chosen C_best_choice C_CallReader_take_one
  have C_answer_budget : Cal P w K mg base CX0 5 "answer_budget" ["holder", "reader"] (sp_answer_budget K A) := ⟨f_answer_budget, fd_answer_budget, m_answer_budget, F_answer_budget.kp, b_answer_budget, O_answer_budget⟩
  have b_are_tests : Binds K fd_are_tests ["plan", "numbers"] [] := F_are_tests.binds (fun _ _ _ _ _ _ us hl => match us, hl with | [_, _], _ => rfl)
  have O_are_tests := ok_are_tests (P := P) (w := w) (base := base) F_are_tests T 
  have C_are_tests : Cal P w K mg base CX0 1 "are_tests" ["plan", "numbers"] (sp_are_tests A) := ⟨f_are_tests, fd_are_tests, m_are_tests, F_are_tests.kp, b_are_tests, O_are_tests⟩
  have b_answer_choice : Binds K fd_answer_choice ["holder", "reader"] [] := F_answer_choice.binds (fun _ _ _ _ _ _ us hl => match us, hl with | [_, _], _ => rfl)
  have O_answer_choice := ok_answer_choice (P := P) (w := w) (base := base) F_answer_choice T C_answer_chosen C_is_choice C_are_tests C_CallReader_take_row
  have C_answer_choice : Cal P w K mg base CX0 3 "answer_choice" ["holder", "reader"] (sp_answer_choice K A) := ⟨f_answer_choice, fd_answer_choice, m_answer_choice, F_answer_choice.kp, b_answer_choice, O_answer_choice⟩
  have b_answer_size : Binds K fd_answer_size ["holder", "reader"] [] := F_answer_size.binds (fun _ _ _ _ _ _ us hl => match us, hl with | [_, _], _ => rfl)
  have O_answer_size := ok_answer_size (P := P) (w := w) (base := base) F_answer_size T C_miss_of
  have C_answer_size : Cal P w K mg base CX0 2 "answer_size" ["holder", "reader"] (sp_answer_size K A) := ⟨f_answer_size, fd_answer_size, m_answer_size, F_answer_size.kp, b_answer_size, O_answer_size⟩
  have b_CallReader_more : Binds K fd_CallReader_more ["self"] [] := F_CallReader_more.binds (fun _ _ _ _ _ _ us hl => match us, hl with | [_], _ => rfl)
  have O_CallReader_more := ok_CallReader_more (P := P) (w := w) (base := base) F_CallReader_more T 
  have C_CallReader_more : CalM P w K mg base CX0 1 A.cCallReader "more" ["self"] (sp_CallReader_more K A) := ⟨f_CallReader_more, fd_CallReader_more, m_CallReader_more, b_CallReader_more, O_CallReader_more⟩
  have b_CallReader_init : Binds K fd_CallReader_init ["self", "calls"] [] := F_CallReader_init.binds (fun _ _ _ _ _ _ us hl => match us, hl with | [_, _], _ => rfl)
  have O_CallReader_init := ok_CallReader_init (P := P) (w := w) (base := base) F_CallReader_init T 
  have C_CallReader_init : CalI P w K mg base CX0 1 A.cCallReader ["self", "calls"] (sp_CallReader_init A) := ⟨f_CallReader_init, fd_CallReader_init, m_CallReader_init, b_CallReader_init, O_CallReader_init⟩
  have b_Holder_init : Binds K fd_Holder_init ["self"] [] := F_Holder_init.binds (fun _ _ _ _ _ _ us hl => match us, hl with | [_], _ => rfl)
  have O_Holder_init := ok_Holder_init (P := P) (w := w) (base := base) F_Holder_init T C_Plan_init
  have C_Holder_init : CalI P w K mg base CX0 3 A.cHolder ["self"] (sp_Holder_init A) := ⟨f_Holder_init, fd_Holder_init, m_Holder_init, b_Holder_init, O_Holder_init⟩
  have b_answers : Binds K fd_answers ["calls"] [] := F_answers.binds (fun _ _ _ _ _ _ us hl => match us, hl with | [_], _ => rfl)
  have HC : ∀ (k : Nat) (f : Addr), [f_answer_load, f_answer_written, f_answer_expected, f_answer_best, f_answer_rule, f_answer_machines, f_answer_time, f_answer_budget, f_answer_choice, f_answer_size][k]? = some f → Held P w K mg base 14 f (sp_call K A (k : Int)) := fun k f h => by
    match k, h with
    | 0, h => cases h; exact held_of O_answer_load (by decide) F_answer_load.kp b_answer_load
    | 1, h => cases h; exact held_of O_answer_written (by decide) F_answer_written.kp b_answer_written
    | 2, h => cases h; exact held_of O_answer_expected (by decide) F_answer_expected.kp b_answer_expected
    | 3, h => cases h; exact held_of O_answer_best (by decide) F_answer_best.kp b_answer_best
    | 4, h => cases h; exact held_of O_answer_rule (by decide) F_answer_rule.kp b_answer_rule
    | 5, h => cases h; exact held_of O_answer_machines (by decide) F_answer_machines.kp b_answer_machines
    | 6, h => cases h; exact held_of O_answer_time (by decide) F_answer_time.kp b_answer_time
    | 7, h => cases h; exact held_of O_answer_budget (by decide) F_answer_budget.kp b_answer_budget
    | 8, h => cases h; exact held_of O_answer_choice (by decide) F_answer_choice.kp b_answer_choice
    | 9, h => cases h; exact held_of O_answer_size (by decide) F_answer_size.kp b_answer_size
  exact ok_answers (P := P) (w := w) (base := base) F_answers T C_CallReader_more C_CallReader_take_one C_CallReader_init C_Holder_init kC [f_answer_load, f_answer_written, f_answer_expected, f_answer_best, f_answer_rule, f_answer_machines, f_answer_time, f_answer_budget, f_answer_choice, f_answer_size] tC nd rfl HC
open PySem.W (Codec) in
theorem close {P : Program} {w : World} {K : PySem.W.Frag} {mg : Str → Option Value} {h : Heap} {A : Ad} {c1 c2 fa : Addr} {lv : Nat} (X : K.In h) (n : PySem.W.noTabs K = true) (h1 : PySem.W.CodeHd h c1 A.pChoice ∧ h.get? A.pChoice = some tab0) (h2 : PySem.W.CodeHd h c2 A.pWay ∧ h.get? A.pWay = some tab0) (hmg : mg "answers" = some (.ref fa))
    (all : ∃ f fd, mg "answers" = some (.ref f) ∧ (∀ (s : Shared) (us : List Value), us.length = (["calls"] : List Str).length → BindsTo s fd ⟨us, []⟩ ((["calls"] : List Str).zip us)) ∧ ∀ base : Heap, TabB base mg c1 A.pChoice → TabB base mg c2 A.pWay → FnOk P w K mg base CX0 lv f fd ["calls"] (sp_answers K A)) :
    ∃ (fd : FuncData) (cs : List (Addr × Addr)) (sp : Sp), (∀ p ∈ cs, h.get? p.2 = some tab0) ∧ (∀ p ∈ cs, K.lookup p.2 = none) ∧ (∀ p ∈ cs, PySem.W.CodeHd h p.1 p.2) ∧ (∀ (s : Shared) (us : List Value), us.length = (["calls"] : List Str).length → BindsTo s fd ⟨us, []⟩ ((["calls"] : List Str).zip us)) ∧
      (∀ base : Heap, K.In base → base.Ns mainGlobals mg → (∀ p ∈ cs, TabB base mg p.1 p.2) → FnOk P w K mg base CX0 lv fa fd ["calls"] sp) ∧
      ∀ (H0 H : Hp) (xs : List V) (a : Codec.denoteAll PySem.Challenge.rw_testplans_s01_answers.args), Same H0 H → (∀ p ∈ cs, H p.2 = some (.tbl #[])) → Codec.withinAll PySem.Challenge.rw_testplans_s01_answers.args a = true → Codec.app PySem.Challenge.rw_testplans_s01_answers.args PySem.Challenge.rw_testplans_s01_answers.asked a = true → DwAll K H0 xs (Codec.encAll PySem.Challenge.rw_testplans_s01_answers.args a) →
        sp xs H (fun v H' => Dw K H' v (PySem.Challenge.rw_testplans_s01_answers.ret.enc (Codec.app PySem.Challenge.rw_testplans_s01_answers.args PySem.Challenge.rw_testplans_s01_answers.f a))) fun _ _ _ => False := by
  obtain ⟨f, fd, hm, hb, hF⟩ := all
  rw [hm] at hmg
  cases hmg
  have two : ∀ {Q : Addr × Addr → Prop}, Q (c1, A.pChoice) → Q (c2, A.pWay) → ∀ p ∈ [(c1, A.pChoice), (c2, A.pWay)], Q p := fun q1 q2 p hp => by
    rcases List.mem_cons.mp hp with z | z
    · rw [z]
      exact q1
    · rw [List.mem_singleton] at z
      rw [z]
      exact q2
  refine ⟨fd, [(c1, A.pChoice), (c2, A.pWay)], sp_answers K A, two h1.2 h2.2, two (no_tab X n h1.2) (no_tab X n h2.2), two h1.1 h2.1, hb, fun base kb gb tb => hF base (tb _ (.head _)) (tb _ (.tail _ (.head _))), fun H0 H xs a sm ht hwi hask hx => ?_⟩
  have t1 := ht _ (.head _)
  have t2 := ht _ (.tail _ (.head _))
  cases hx with
  | cons g1 g2 =>
    cases g2
    cases g1 with
    | lst hs ha =>
      have e := L2.ints_dw a.1 _ ha
      subst e
      have hlen : a.1.length ≤ 17000 := by
        have w1 : ((PySem.W.Codec.inLen 0 17000 a.1 && a.1.all _) && true) = true := hwi
        rw [Bool.and_true, Bool.and_eq_true] at w1
        have w2 : (decide (0 ≤ a.1.length) && decide (a.1.length ≤ 17000)) = true := w1.1
        rw [Bool.and_eq_true] at w2
        exact of_decide_eq_true w2.2
      refine ⟨_, a.1, rfl, sm.seq hs, hlen, hask, fun p hp => ?_, fun q H' e => .lst (L2.SqL.of e) (L2.dw_ints _)⟩
      rcases List.mem_cons.mp hp with z | z
      · rw [z]
        exact LamX.TabS.nil t1
      · rw [List.mem_singleton] at z
        rw [z]
        exact LamX.TabS.nil t2
/-! the facts -/
section
variable {K : PySem.W.Frag} {h : Heap} {mg : Str → Option Value} {C a : Addr} {x : Str}
theorem ns_at {v : Value} (x : Str) (_ : K.In h) (e : PySem.W.nsIn K mainGlobals x = some (some v)) : PySem.W.nsIn K mainGlobals x = some (some v) := e
theorem look_at {ob : Obj} (_ : PySem.W.nsIn K mainGlobals x = some (some (.ref a))) (e : K.lookup a = some ob) : K.lookup a = some ob := e
theorem both {A : Ad} {c1 c2 : Addr} (T : Txt K mg A) (F : TxF K mg A) (kC : mg "CALLS" = some (.ref A.tCalls)) (t1 : PySem.W.tabIn K "best_choice" = some (c1, A.pChoice)) (t2 : PySem.W.tabIn K "best_way" = some (c2, A.pWay)) : Txt K mg A ∧ TxF K mg A ∧ mg "CALLS" = some (.ref A.tCalls) := ⟨T, F, kC⟩
theorem fn_at {oc : Value} {od an : Option Addr} {osl : Array (Option Value)} {kV doc pm ct : Value} {st : Stmt} {f c : Addr} (_ : PySem.W.nsIn K mainGlobals x = some (some (.ref f))) (l : K.lookup f = some ⟨oc, od, .func (PySem.W.fnOf x x (defArgs st) (defBody st) (defScope st) .none kV doc pm an (.ref c) ct), osl⟩) :
    K.lookup f = some ⟨oc, od, .func (PySem.W.fnOf x x (defArgs st) (defBody st) (defScope st) .none kV doc pm an (.ref c) ct), osl⟩ := l
theorem code_at {oc o1 : Value} {od an o2 : Option Addr} {osl o3 : Array (Option Value)} {kV doc pm ct : Value} {st : Stmt} {f c : Addr} {vs : Array Value} (_ : K.lookup f = some ⟨oc, od, .func (PySem.W.fnOf x x (defArgs st) (defBody st) (defScope st) .none kV doc pm an (.ref c) ct), osl⟩) (e : K.lookup c = some ⟨o1, o2, .fields vs, o3⟩) : K.lookup c = some ⟨o1, o2, .fields vs, o3⟩ := e
theorem obj_at {nm q : Str} {N : Addr} {bs : List Value} {sn : List Str} {sub : List Value} {ab : Bool} {col : Option Bool} {dd : Option Addr} {k0 k1 k2 k3 k5 : Option Value} (_ : PySem.W.nsIn K mainGlobals x = some (some (.ref C))) (e : K.lookup C = some (excClassObj nm q C N bs ESX.exTail true sn sub ab col dd k0 k1 k2 k3 k5 "Exception.__new__")) : K.lookup C = some (excClassObj nm q C N bs ESX.exTail true sn sub ab col dd k0 k1 k2 k3 k5 "Exception.__new__") := e
theorem be_at (_ : PySem.W.nsIn K mainGlobals x = some (some (.ref C))) (e : PySem.W.subIn K (.ref C) (.type "BaseException") = some true) : PySem.W.subIn K (.ref C) (.type "BaseException") = some true := e
theorem ty_at (_ : PySem.W.nsIn K mainGlobals x = some (some (.ref C))) (e : PySem.W.typeIn K (.ref C) = some (.type "type")) : PySem.W.typeIn K (.ref C) = some (.type "type") := e
theorem kp_at (_ : PySem.W.nsIn K mainGlobals x = some (some (.ref C))) (e : PySem.W.keepIn K (.ref C) = true) : PySem.W.keepIn K (.ref C) = true := e
theorem hd_at (_ : PySem.W.nsIn K mainGlobals x = some (some (.ref C))) (e : PySem.W.hasDictIn K C = true) : PySem.W.hasDictIn K C = true := e
theorem ci_at (_ : PySem.W.nsIn K mainGlobals x = some (some (.ref C))) (e : PySem.W.isClsIn K C = true) : PySem.W.isClsIn K C = true := e
theorem ss_at (_ : PySem.W.nsIn K mainGlobals x = some (some (.ref C))) (e : PySem.W.subIn K (.ref C) (.ref C) = some true) : PySem.W.subIn K (.ref C) (.ref C) = some true := e
theorem fi_at (_ : K.In h) (e : PySem.W.findCls K (.type "Exception") (.type "type") "__init__" = some (.val (.builtin "Exception.__init__"))) : PySem.W.findCls K (.type "Exception") (.type "type") "__init__" = some (.val (.builtin "Exception.__init__")) := e
theorem find_at {v : Option Value} (m : Str) (_ : PySem.W.nsIn K mainGlobals x = some (some (.ref C))) (e : PySem.W.findIn K (.ref C) m = some v) : PySem.W.findIn K (.ref C) m = some v := e
theorem mk_at (_ : PySem.W.nsIn K mainGlobals x = some (some (.ref C))) (e : PySem.W.makesIn K C = true) : PySem.W.makesIn K C = true := e
theorem cls_at (_ : PySem.W.nsIn K mainGlobals x = some (some (.ref C))) (pg : PySem.W.plainGet K C Str.empty = true) (hd : PySem.W.hasDictIn K C = true) (po : PySem.W.plainOver K C = true) (sa : PySem.W.findIn K (.ref C) "__setattr__" = some (some (.builtin "object.__setattr__"))) : Cls K C := ⟨pg, hd, po, sa⟩
theorem attr_at (f : Str) (_ : PySem.W.nsIn K mainGlobals x = some (some (.ref C))) (e : PySem.W.findIn K (.ref C) f = some none) : NoAttr K C f := e
theorem num_at {i : Int} {t : Tok} (X : K.In h) (G : h.Ns mainGlobals mg) (e : PySem.W.nsIn K mainGlobals x = some (some (.int i t))) : ∃ t, mg x = some (Value.int i t) := ⟨t, PySem.W.mg_of X G e⟩
theorem txt_at {s : Str} {t : Tok} (X : K.In h) (G : h.Ns mainGlobals mg) (e : PySem.W.nsIn K mainGlobals x = some (some (.str s t))) : ∃ t, mg x = some (Value.str s t) := ⟨t, PySem.W.mg_of X G e⟩
end
end Tp
open PySem PySem.W PyProof.Rows
theorem PySem.Challenge.cw_testplans_s01_answers_holds : PySem.Challenge.rw_testplans_s01_answers.Holds := by
  w_on; k_headS; (case hw => exact ⟨[.list [.int 1]], by decide +kernel, by decide +kernel⟩)
  k_fillS
  refine Tp.walk_tabs (r := PySem.Challenge.rw_testplans_s01_answers) (k := 15) (CX := L2.CX0) (ps := ["calls"]) (by decide +kernel) rfl ⟨rfl, by decide, by decide⟩ (fun w h Y => PySem.W.kIn_of Y) ?F (fun _ _ _ _ z => z)
  case F =>
    intro w mean mg mb fa h Y KX TT0 hmg
    have G := TT0.g
    have a_Group := Tp.ns_at (v := .ref _) "Group" KX (by k_is)
    have a_Test := Tp.ns_at (v := .ref _) "Test" KX (by k_is)
    have a_Plan := Tp.ns_at (v := .ref _) "Plan" KX (by k_is)
    have a_Fault := Tp.ns_at (v := .ref _) "Fault" KX (by k_is)
    have a_Token := Tp.ns_at (v := .ref _) "Token" KX (by k_is)
    have a_Reader := Tp.ns_at (v := .ref _) "Reader" KX (by k_is)
    have a_Holder := Tp.ns_at (v := .ref _) "Holder" KX (by k_is)
    have a_CallReader := Tp.ns_at (v := .ref _) "CallReader" KX (by k_is)
    have y_cGroup := Tp.cls_at a_Group (by k_is) (by k_is) (by k_is) (by k_is)
    have y_cTest := Tp.cls_at a_Test (by k_is) (by k_is) (by k_is) (by k_is)
    have y_cPlan := Tp.cls_at a_Plan (by k_is) (by k_is) (by k_is) (by k_is)
    have y_n_g_name := Tp.attr_at "name" a_Group (by k_is)
    have y_n_g_setup := Tp.attr_at "setup" a_Group (by k_is)
    have y_n_t_name := Tp.attr_at "name" a_Test (by k_is)
    have y_n_t_cost := Tp.attr_at "cost" a_Test (by k_is)
    have y_n_t_chance := Tp.attr_at "chance" a_Test (by k_is)
    have y_n_t_group := Tp.attr_at "group" a_Test (by k_is)
    have y_n_t_after := Tp.attr_at "after" a_Test (by k_is)
    have y_n_p_groups := Tp.attr_at "groups" a_Plan (by k_is)
    have y_n_p_tests := Tp.attr_at "tests" a_Plan (by k_is)
    have y_k_STRANGE_BYTE := Tp.num_at (x := "STRANGE_BYTE") KX G (by k_is)
    have y_k_BAD_TOKEN := Tp.num_at (x := "BAD_TOKEN") KX G (by k_is)
    have y_k_MISPLACED := Tp.num_at (x := "MISPLACED") KX G (by k_is)
    have y_k_UNENDED := Tp.num_at (x := "UNENDED") KX G (by k_is)
    have y_k_TOO_MANY := Tp.num_at (x := "TOO_MANY") KX G (by k_is)
    have y_k_REPEATED := Tp.num_at (x := "REPEATED") KX G (by k_is)
    have y_k_UNKNOWN := Tp.num_at (x := "UNKNOWN") KX G (by k_is)
    have y_k_OUT_OF_RANGE := Tp.num_at (x := "OUT_OF_RANGE") KX G (by k_is)
    have y_k_HUNDRED := Tp.num_at (x := "HUNDRED") KX G (by k_is)
    have y_k_WORD := Tp.txt_at (x := "WORD") KX G (by k_is)
    have y_k_NUMBER := Tp.txt_at (x := "NUMBER") KX G (by k_is)
    have y_k_SIGN := Tp.txt_at (x := "SIGN") KX G (by k_is)
    have y_k_END := Tp.txt_at (x := "END") KX G (by k_is)
    have y_k_LETTERS := Tp.txt_at (x := "LETTERS") KX G (by k_is)
    have y_k_DIGITS := Tp.txt_at (x := "DIGITS") KX G (by k_is)
    have y_k_LINE_FEED := Tp.num_at (x := "LINE_FEED") KX G (by k_is)
    have y_k_LONGEST_WORD := Tp.num_at (x := "LONGEST_WORD") KX G (by k_is)
    have y_k_LONGEST_NUMBER := Tp.num_at (x := "LONGEST_NUMBER") KX G (by k_is)
    have y_k_GREATEST_NUMBER := Tp.num_at (x := "GREATEST_NUMBER") KX G (by k_is)
    have y_k_MOST_GROUPS := Tp.num_at (x := "MOST_GROUPS") KX G (by k_is)
    have y_k_MOST_TESTS := Tp.num_at (x := "MOST_TESTS") KX G (by k_is)
    have y_k_MOST_CHANCE := Tp.num_at (x := "MOST_CHANCE") KX G (by k_is)
    have y_k_LONGEST_TEXT := Tp.num_at (x := "LONGEST_TEXT") KX G (by k_is)
    have y_k_GREATEST_BYTE := Tp.num_at (x := "GREATEST_BYTE") KX G (by k_is)
    have y_k_NO_BYTE := Tp.num_at (x := "NO_BYTE") KX G (by k_is)
    have y_k_TOO_LONG := Tp.num_at (x := "TOO_LONG") KX G (by k_is)
    have y_k_BAD_NUMBER := Tp.num_at (x := "BAD_NUMBER") KX G (by k_is)
    have y_k_BAD_LIST := Tp.num_at (x := "BAD_LIST") KX G (by k_is)
    have y_k_MOST_MACHINES := Tp.num_at (x := "MOST_MACHINES") KX G (by k_is)
    have y_k_GREATEST_BUDGET := Tp.num_at (x := "GREATEST_BUDGET") KX G (by k_is)
    have y_cToken := Tp.cls_at a_Token (by k_is) (by k_is) (by k_is) (by k_is)
    have y_n_Token_kind := Tp.attr_at "kind" a_Token (by k_is)
    have y_n_Token_written := Tp.attr_at "written" a_Token (by k_is)
    have y_n_Token_place := Tp.attr_at "place" a_Token (by k_is)
    have y_cReader := Tp.cls_at a_Reader (by k_is) (by k_is) (by k_is) (by k_is)
    have y_n_Reader_text := Tp.attr_at "text" a_Reader (by k_is)
    have y_n_Reader_place := Tp.attr_at "place" a_Reader (by k_is)
    have y_cHolder := Tp.cls_at a_Holder (by k_is) (by k_is) (by k_is) (by k_is)
    have y_n_Holder_plan := Tp.attr_at "plan" a_Holder (by k_is)
    have y_cCallReader := Tp.cls_at a_CallReader (by k_is) (by k_is) (by k_is) (by k_is)
    have y_n_CallReader_calls := Tp.attr_at "calls" a_CallReader (by k_is)
    have y_n_CallReader_place := Tp.attr_at "place" a_CallReader (by k_is)
    have y_g_Group := PySem.W.mg_of KX G a_Group
    have y_g_Test := PySem.W.mg_of KX G a_Test
    have y_g_Plan := PySem.W.mg_of KX G a_Plan
    have y_g_Token := PySem.W.mg_of KX G a_Token
    have y_g_Reader := PySem.W.mg_of KX G a_Reader
    have y_g_Holder := PySem.W.mg_of KX G a_Holder
    have y_g_CallReader := PySem.W.mg_of KX G a_CallReader
    have a_GAPS := Tp.ns_at (v := .ref _) "GAPS" KX (by k_is)
    have y_k_GAPS := PySem.W.mg_of KX G a_GAPS
    have l_GAPS := Tp.look_at a_GAPS (by k_is)
    have y_t_GAPS := Tp.seq_at (xs := [.int 9, .int 10, .int 13, .int 32]) l_GAPS (by decide +kernel) (by repeat (first | exact .nil | refine .cons ⟨_, rfl⟩ ?_))
    have a_KEYWORDS := Tp.ns_at (v := .ref _) "KEYWORDS" KX (by k_is)
    have y_k_KEYWORDS := PySem.W.mg_of KX G a_KEYWORDS
    have l_KEYWORDS := Tp.look_at a_KEYWORDS (by k_is)
    have y_t_KEYWORDS := Tp.seq_at (xs := [.str "group", .str "test", .str "cost", .str "chance", .str "in", .str "after"]) l_KEYWORDS (by decide +kernel) (by repeat (first | exact .nil | refine .cons ⟨_, rfl⟩ ?_))
    have y_b_len := PySem.W.mg_none_of (n := "len") KX G (by k_is)
    have y_b_range := PySem.W.mg_none_of (n := "range") KX G (by k_is)
    have y_b_all := PySem.W.mg_none_of (n := "all") KX G (by k_is)
    have y_b_sum := PySem.W.mg_none_of (n := "sum") KX G (by k_is)
    have y_b_sorted := PySem.W.mg_none_of (n := "sorted") KX G (by k_is)
    have y_b_list := PySem.W.mg_none_of (n := "list") KX G (by k_is)
    have y_b_int := PySem.W.mg_none_of (n := "int") KX G (by k_is)
    have y_b_ord := PySem.W.mg_none_of (n := "ord") KX G (by k_is)
    have y_b_enumerate := PySem.W.mg_none_of (n := "enumerate") KX G (by k_is)
    have y_b_reversed := PySem.W.mg_none_of (n := "reversed") KX G (by k_is)
    have y_b_min := PySem.W.mg_none_of (n := "min") KX G (by k_is)
    have y_b_max := PySem.W.mg_none_of (n := "max") KX G (by k_is)
    have y_b_set := PySem.W.mg_none_of (n := "set") KX G (by k_is)
    have w_obj := Tp.obj_at a_Fault (by k_is)
    have w_sa := Tp.find_at "__setattr__" a_Fault (by k_is)
    have w_nk := Tp.find_at "kind" a_Fault (by k_is)
    have w_np := Tp.find_at "place" a_Fault (by k_is)
    have w_ga := Tp.find_at "__getattribute__" a_Fault (by k_is)
    have w_gg := Tp.find_at "__getattr__" a_Fault (by k_is)
    have w_be := Tp.be_at a_Fault (by k_is)
    have w_ty := Tp.ty_at a_Fault (by k_is)
    have w_kp := Tp.kp_at a_Fault (by k_is)
    have w_hd := Tp.hd_at a_Fault (by k_is)
    have w_ci := Tp.ci_at a_Fault (by k_is)
    have w_ss := Tp.ss_at a_Fault (by first | rfl | k_is)
    have w_g := PySem.W.mg_of KX G a_Fault
    have w_b := PySem.W.mg_none_of (n := "Exception") KX G (by k_is)
    have w_fi := Tp.fi_at KX (by k_is)
    have a_best_choice := Tp.ns_at (v := .ref _) "best_choice" KX (by k_is)
    have l_best_choice := Tp.fn_at (x := "best_choice") (st := Tp.s_best_choice) a_best_choice (by k_is)
    have lc_best_choice := Tp.code_at l_best_choice (by k_is)
    have t_best_choice := Tp.tab_in (st := Tp.s_best_choice) (P := _) a_best_choice l_best_choice lc_best_choice rfl
    have h_best_choice := PySem.W.tab_of (x := "best_choice") TT0 KX rfl t_best_choice
    have a_best_way := Tp.ns_at (v := .ref _) "best_way" KX (by k_is)
    have l_best_way := Tp.fn_at (x := "best_way") (st := Tp.s_best_way) a_best_way (by k_is)
    have lc_best_way := Tp.code_at l_best_way (by k_is)
    have t_best_way := Tp.tab_in (st := Tp.s_best_way) (P := _) a_best_way l_best_way lc_best_way rfl
    have h_best_way := PySem.W.tab_of (x := "best_way") TT0 KX rfl t_best_way
    have a_CALLS := Tp.ns_at (v := .ref _) "CALLS" KX (by k_is)
    have y_CALLS := PySem.W.mg_of KX G a_CALLS
    have l_CALLS := Tp.look_at a_CALLS (by k_is)
    have TT := Tp.both (A := ⟨_, _, _, _, _, _, _, _, _, _, _, _, _⟩) { cGroup := y_cGroup, cTest := y_cTest, cPlan := y_cPlan, n_g_name := y_n_g_name, n_g_setup := y_n_g_setup, n_t_name := y_n_t_name, n_t_cost := y_n_t_cost, n_t_chance := y_n_t_chance, n_t_group := y_n_t_group, n_t_after := y_n_t_after, n_p_groups := y_n_p_groups, n_p_tests := y_n_p_tests, k_STRANGE_BYTE := y_k_STRANGE_BYTE, k_BAD_TOKEN := y_k_BAD_TOKEN, k_MISPLACED := y_k_MISPLACED, k_UNENDED := y_k_UNENDED, k_TOO_MANY := y_k_TOO_MANY, k_REPEATED := y_k_REPEATED, k_UNKNOWN := y_k_UNKNOWN, k_OUT_OF_RANGE := y_k_OUT_OF_RANGE, k_HUNDRED := y_k_HUNDRED, k_WORD := y_k_WORD, k_NUMBER := y_k_NUMBER, k_SIGN := y_k_SIGN, k_END := y_k_END, k_LETTERS := y_k_LETTERS, k_DIGITS := y_k_DIGITS, k_LINE_FEED := y_k_LINE_FEED, k_LONGEST_WORD := y_k_LONGEST_WORD, k_LONGEST_NUMBER := y_k_LONGEST_NUMBER, k_GREATEST_NUMBER := y_k_GREATEST_NUMBER, k_MOST_GROUPS := y_k_MOST_GROUPS, k_MOST_TESTS := y_k_MOST_TESTS, k_MOST_CHANCE := y_k_MOST_CHANCE, k_LONGEST_TEXT := y_k_LONGEST_TEXT, k_GREATEST_BYTE := y_k_GREATEST_BYTE, k_NO_BYTE := y_k_NO_BYTE, k_TOO_LONG := y_k_TOO_LONG, k_BAD_NUMBER := y_k_BAD_NUMBER, k_BAD_LIST := y_k_BAD_LIST, k_MOST_MACHINES := y_k_MOST_MACHINES, k_GREATEST_BUDGET := y_k_GREATEST_BUDGET, cToken := y_cToken, n_Token_kind := y_n_Token_kind, n_Token_written := y_n_Token_written, n_Token_place := y_n_Token_place, cReader := y_cReader, n_Reader_text := y_n_Reader_text, n_Reader_place := y_n_Reader_place, cHolder := y_cHolder, n_Holder_plan := y_n_Holder_plan, cCallReader := y_cCallReader, n_CallReader_calls := y_n_CallReader_calls, n_CallReader_place := y_n_CallReader_place, g_Group := y_g_Group, g_Test := y_g_Test, g_Plan := y_g_Plan, g_Token := y_g_Token, g_Reader := y_g_Reader, g_Holder := y_g_Holder, g_CallReader := y_g_CallReader, k_GAPS := y_k_GAPS, t_GAPS := y_t_GAPS, k_KEYWORDS := y_k_KEYWORDS, t_KEYWORDS := y_t_KEYWORDS, b_len := y_b_len, b_range := y_b_range, b_all := y_b_all, b_sum := y_b_sum, b_sorted := y_b_sorted, b_list := y_b_list, b_int := y_b_int, b_ord := y_b_ord, b_enumerate := y_b_enumerate, b_reversed := y_b_reversed, b_min := y_b_min, b_max := y_b_max, b_set := y_b_set } { fx := ⟨⟨_, _, _, _, _, _, _, _, _, _, _, _, _, _, w_obj⟩, w_sa, w_be, w_ty, w_kp⟩, g := w_g, b := w_b, fi := w_fi, nk := w_nk, np := w_np, xf := ⟨w_ga, w_gg, w_be, w_hd⟩, te := Tp.self_named w_be w_ci w_ty w_ss } y_CALLS t_best_choice t_best_way
    have d_Fault_init := Tp.fault_at (C := _) (qual := "Fault.__init__") (st := Tp.s_Fault_init) (Tp.find_at "__init__" a_Fault (by k_is)) (by k_is) (by k_is) (by k_is) (by k_is)
    have d_Token_init := Tp.init_at (qual := "Token.__init__") (st := Tp.s_Token_init) (Tp.mk_at a_Token (by k_is)) (by k_is) (by k_is) (by k_is) (by k_is) (by k_is) (by k_is)
    have d_is_digit := Tp.def_at (x := "is_digit") (st := Tp.s_is_digit) KX G (by k_is) (by k_is) (by k_is) (by k_is)
    have d_is_number := Tp.def_at (x := "is_number") (st := Tp.s_is_number) KX G (by k_is) (by k_is) (by k_is) (by k_is)
    have d_is_letter := Tp.def_at (x := "is_letter") (st := Tp.s_is_letter) KX G (by k_is) (by k_is) (by k_is) (by k_is)
    have d_character := Tp.def_at (x := "character") (st := Tp.s_character) KX G (by k_is) (by k_is) (by k_is) (by k_is)
    have d_characters := Tp.def_at (x := "characters") (st := Tp.s_characters) KX G (by k_is) (by k_is) (by k_is) (by k_is)
    have d_number_at := Tp.def_at (x := "number_at") (st := Tp.s_number_at) KX G (by k_is) (by k_is) (by k_is) (by k_is)
    have d_is_word_byte := Tp.def_at (x := "is_word_byte") (st := Tp.s_is_word_byte) KX G (by k_is) (by k_is) (by k_is) (by k_is)
    have d_word_at := Tp.def_at (x := "word_at") (st := Tp.s_word_at) KX G (by k_is) (by k_is) (by k_is) (by k_is)
    have d_remark_end := Tp.def_at (x := "remark_end") (st := Tp.s_remark_end) KX G (by k_is) (by k_is) (by k_is) (by k_is)
    have d_skip_gaps := Tp.def_at (x := "skip_gaps") (st := Tp.s_skip_gaps) KX G (by k_is) (by k_is) (by k_is) (by k_is)
    have d_token_from := Tp.def_at (x := "token_from") (st := Tp.s_token_from) KX G (by k_is) (by k_is) (by k_is) (by k_is)
    have d_Reader_ahead := Tp.meth_at (m := "ahead") (qual := "Reader.ahead") (st := Tp.s_Reader_ahead) (Tp.find_at "ahead" a_Reader (by k_is)) (by k_is) (by k_is) (by k_is) (by k_is)
    have d_Reader_stands := Tp.meth_at (m := "stands") (qual := "Reader.stands") (st := Tp.s_Reader_stands) (Tp.find_at "stands" a_Reader (by k_is)) (by k_is) (by k_is) (by k_is) (by k_is)
    have d_Group_init := Tp.init_at (qual := "Group.__init__") (st := Tp.s_Group_init) (Tp.mk_at a_Group (by k_is)) (by k_is) (by k_is) (by k_is) (by k_is) (by k_is) (by k_is)
    have d_Reader_take := Tp.meth_at (m := "take") (qual := "Reader.take") (st := Tp.s_Reader_take) (Tp.find_at "take" a_Reader (by k_is)) (by k_is) (by k_is) (by k_is) (by k_is)
    have d_Reader_take_written := Tp.meth_at (m := "take_written") (qual := "Reader.take_written") (st := Tp.s_Reader_take_written) (Tp.find_at "take_written" a_Reader (by k_is)) (by k_is) (by k_is) (by k_is) (by k_is)
    have d_Reader_take_number := Tp.meth_at (m := "take_number") (qual := "Reader.take_number") (st := Tp.s_Reader_take_number) (Tp.find_at "take_number" a_Reader (by k_is)) (by k_is) (by k_is) (by k_is) (by k_is)
    have d_number_of := Tp.def_at (x := "number_of") (st := Tp.s_number_of) KX G (by k_is) (by k_is) (by k_is) (by k_is)
    have d_Reader_take_name := Tp.meth_at (m := "take_name") (qual := "Reader.take_name") (st := Tp.s_Reader_take_name) (Tp.find_at "take_name" a_Reader (by k_is)) (by k_is) (by k_is) (by k_is) (by k_is)
    have d_read_new_name := Tp.def_at (x := "read_new_name") (st := Tp.s_read_new_name) KX G (by k_is) (by k_is) (by k_is) (by k_is)
    have d_begin_member := Tp.def_at (x := "begin_member") (st := Tp.s_begin_member) KX G (by k_is) (by k_is) (by k_is) (by k_is)
    have d_read_group := Tp.def_at (x := "read_group") (st := Tp.s_read_group) KX G (by k_is) (by k_is) (by k_is) (by k_is)
    have d_Test_init := Tp.init_at (qual := "Test.__init__") (st := Tp.s_Test_init) (Tp.mk_at a_Test (by k_is)) (by k_is) (by k_is) (by k_is) (by k_is) (by k_is) (by k_is)
    have d_read_known_name := Tp.def_at (x := "read_known_name") (st := Tp.s_read_known_name) KX G (by k_is) (by k_is) (by k_is) (by k_is)
    have d_read_after_name := Tp.def_at (x := "read_after_name") (st := Tp.s_read_after_name) KX G (by k_is) (by k_is) (by k_is) (by k_is)
    have d_read_after := Tp.def_at (x := "read_after") (st := Tp.s_read_after) KX G (by k_is) (by k_is) (by k_is) (by k_is)
    have d_read_in := Tp.def_at (x := "read_in") (st := Tp.s_read_in) KX G (by k_is) (by k_is) (by k_is) (by k_is)
    have d_read_chance := Tp.def_at (x := "read_chance") (st := Tp.s_read_chance) KX G (by k_is) (by k_is) (by k_is) (by k_is)
    have d_read_cost := Tp.def_at (x := "read_cost") (st := Tp.s_read_cost) KX G (by k_is) (by k_is) (by k_is) (by k_is)
    have d_read_test := Tp.def_at (x := "read_test") (st := Tp.s_read_test) KX G (by k_is) (by k_is) (by k_is) (by k_is)
    have d_Plan_init := Tp.init_at (qual := "Plan.__init__") (st := Tp.s_Plan_init) (Tp.mk_at a_Plan (by k_is)) (by k_is) (by k_is) (by k_is) (by k_is) (by k_is) (by k_is)
    have d_Reader_init := Tp.init_at (qual := "Reader.__init__") (st := Tp.s_Reader_init) (Tp.mk_at a_Reader (by k_is)) (by k_is) (by k_is) (by k_is) (by k_is) (by k_is) (by k_is)
    have d_read_plan := Tp.def_at (x := "read_plan") (st := Tp.s_read_plan) KX G (by k_is) (by k_is) (by k_is) (by k_is)
    have d_CallReader_take_row := Tp.meth_at (m := "take_row") (qual := "CallReader.take_row") (st := Tp.s_CallReader_take_row) (Tp.find_at "take_row" a_CallReader (by k_is)) (by k_is) (by k_is) (by k_is) (by k_is)
    have d_answer_load := Tp.def_at (x := "answer_load") (st := Tp.s_answer_load) KX G (by k_is) (by k_is) (by k_is) (by k_is)
    have d_after_part := Tp.def_at (x := "after_part") (st := Tp.s_after_part) KX G (by k_is) (by k_is) (by k_is) (by k_is)
    have d_in_part := Tp.def_at (x := "in_part") (st := Tp.s_in_part) KX G (by k_is) (by k_is) (by k_is) (by k_is)
    have d_test_line := Tp.def_at (x := "test_line") (st := Tp.s_test_line) KX G (by k_is) (by k_is) (by k_is) (by k_is)
    have d_group_line := Tp.def_at (x := "group_line") (st := Tp.s_group_line) KX G (by k_is) (by k_is) (by k_is) (by k_is)
    have d_written_plan := Tp.def_at (x := "written_plan") (st := Tp.s_written_plan) KX G (by k_is) (by k_is) (by k_is) (by k_is)
    have d_answer_written := Tp.def_at (x := "answer_written") (st := Tp.s_answer_written) KX G (by k_is) (by k_is) (by k_is) (by k_is)
    have d_cost_with_setup := Tp.def_at (x := "cost_with_setup") (st := Tp.s_cost_with_setup) KX G (by k_is) (by k_is) (by k_is) (by k_is)
    have d_cost_from := Tp.def_at (x := "cost_from") (st := Tp.s_cost_from) KX G (by k_is) (by k_is) (by k_is) (by k_is)
    have d_ready_behind := Tp.def_at (x := "ready_behind") (st := Tp.s_ready_behind) KX G (by k_is) (by k_is) (by k_is) (by k_is)
    have d_expected_cost := Tp.def_at (x := "expected_cost") (st := Tp.s_expected_cost) KX G (by k_is) (by k_is) (by k_is) (by k_is)
    have d_may_follow := Tp.def_at (x := "may_follow") (st := Tp.s_may_follow) KX G (by k_is) (by k_is) (by k_is) (by k_is)
    have d_is_order := Tp.def_at (x := "is_order") (st := Tp.s_is_order) KX G (by k_is) (by k_is) (by k_is) (by k_is)
    have d_answer_expected := Tp.def_at (x := "answer_expected") (st := Tp.s_answer_expected) KX G (by k_is) (by k_is) (by k_is) (by k_is)
    have d_answer_order := Tp.def_at (x := "answer_order") (st := Tp.s_answer_order) KX G (by k_is) (by k_is) (by k_is) (by k_is)
    have d_mask_of := Tp.def_at (x := "mask_of") (st := Tp.s_mask_of) KX G (by k_is) (by k_is) (by k_is) (by k_is)
    have d_may_run_next := Tp.def_at (x := "may_run_next") (st := Tp.s_may_run_next) KX G (by k_is) (by k_is) (by k_is) (by k_is)
    have d_scale_of := Tp.def_at (x := "scale_of") (st := Tp.s_scale_of) KX G (by k_is) (by k_is) (by k_is) (by k_is)
    have d_best_step := Tp.def_at (x := "best_step") (st := Tp.s_best_step) KX G (by k_is) (by k_is) (by k_is) (by k_is)
    have d_best_table := Tp.def_at (x := "best_table") (st := Tp.s_best_table) KX G (by k_is) (by k_is) (by k_is) (by k_is)
    have d_best_order := Tp.def_at (x := "best_order") (st := Tp.s_best_order) KX G (by k_is) (by k_is) (by k_is) (by k_is)
    have d_answer_best := Tp.def_at (x := "answer_best") (st := Tp.s_answer_best) KX G (by k_is) (by k_is) (by k_is) (by k_is)
    have d_comes_before := Tp.def_at (x := "comes_before") (st := Tp.s_comes_before) KX G (by k_is) (by k_is) (by k_is) (by k_is)
    have d_first_by_rule := Tp.def_at (x := "first_by_rule") (st := Tp.s_first_by_rule) KX G (by k_is) (by k_is) (by k_is) (by k_is)
    have d_rule_order := Tp.def_at (x := "rule_order") (st := Tp.s_rule_order) KX G (by k_is) (by k_is) (by k_is) (by k_is)
    have d_answer_rule := Tp.def_at (x := "answer_rule") (st := Tp.s_answer_rule) KX G (by k_is) (by k_is) (by k_is) (by k_is)
    have d_cost_together := Tp.def_at (x := "cost_together") (st := Tp.s_cost_together) KX G (by k_is) (by k_is) (by k_is) (by k_is)
    have d_time_of_one := Tp.def_at (x := "time_of_one") (st := Tp.s_time_of_one) KX G (by k_is) (by k_is) (by k_is) (by k_is)
    have d_time_of_all := Tp.def_at (x := "time_of_all") (st := Tp.s_time_of_all) KX G (by k_is) (by k_is) (by k_is) (by k_is)
    have d_all_ways := Tp.def_at (x := "all_ways") (st := Tp.s_all_ways) KX G (by k_is) (by k_is) (by k_is) (by k_is)
    have d_best_way := Tp.def_atC (x := "best_way") (st := Tp.s_best_way) KX G a_best_way l_best_way (by k_is) (by k_is)
    have d_CallReader_take_one := Tp.meth_at (m := "take_one") (qual := "CallReader.take_one") (st := Tp.s_CallReader_take_one) (Tp.find_at "take_one" a_CallReader (by k_is)) (by k_is) (by k_is) (by k_is) (by k_is)
    have d_answer_machines := Tp.def_at (x := "answer_machines") (st := Tp.s_answer_machines) KX G (by k_is) (by k_is) (by k_is) (by k_is)
    have d_is_way := Tp.def_at (x := "is_way") (st := Tp.s_is_way) KX G (by k_is) (by k_is) (by k_is) (by k_is)
    have d_answer_time := Tp.def_at (x := "answer_time") (st := Tp.s_answer_time) KX G (by k_is) (by k_is) (by k_is) (by k_is)
    have d_miss_of := Tp.def_at (x := "miss_of") (st := Tp.s_miss_of) KX G (by k_is) (by k_is) (by k_is) (by k_is)
    have d_answer_chosen := Tp.def_at (x := "answer_chosen") (st := Tp.s_answer_chosen) KX G (by k_is) (by k_is) (by k_is) (by k_is)
    have d_is_choice := Tp.def_at (x := "is_choice") (st := Tp.s_is_choice) KX G (by k_is) (by k_is) (by k_is) (by k_is)
    have d_all_parts := Tp.def_at (x := "all_parts") (st := Tp.s_all_parts) KX G (by k_is) (by k_is) (by k_is) (by k_is)
    have d_all_choices := Tp.def_at (x := "all_choices") (st := Tp.s_all_choices) KX G (by k_is) (by k_is) (by k_is) (by k_is)
    have d_best_choice := Tp.def_atC (x := "best_choice") (st := Tp.s_best_choice) KX G a_best_choice l_best_choice (by k_is) (by k_is)
    have d_answer_budget := Tp.def_at (x := "answer_budget") (st := Tp.s_answer_budget) KX G (by k_is) (by k_is) (by k_is) (by k_is)
    have d_are_tests := Tp.def_at (x := "are_tests") (st := Tp.s_are_tests) KX G (by k_is) (by k_is) (by k_is) (by k_is)
    have d_answer_choice := Tp.def_at (x := "answer_choice") (st := Tp.s_answer_choice) KX G (by k_is) (by k_is) (by k_is) (by k_is)
    have d_answer_size := Tp.def_at (x := "answer_size") (st := Tp.s_answer_size) KX G (by k_is) (by k_is) (by k_is) (by k_is)
    have d_CallReader_more := Tp.meth_at (m := "more") (qual := "CallReader.more") (st := Tp.s_CallReader_more) (Tp.find_at "more" a_CallReader (by k_is)) (by k_is) (by k_is) (by k_is) (by k_is)
    have d_CallReader_init := Tp.init_at (qual := "CallReader.__init__") (st := Tp.s_CallReader_init) (Tp.mk_at a_CallReader (by k_is)) (by k_is) (by k_is) (by k_is) (by k_is) (by k_is) (by k_is)
    have d_Holder_init := Tp.init_at (qual := "Holder.__init__") (st := Tp.s_Holder_init) (Tp.mk_at a_Holder (by k_is)) (by k_is) (by k_is) (by k_is) (by k_is) (by k_is) (by k_is)
    have d_answers := Tp.def_at (x := "answers") (st := Tp.s_answers) KX G (by k_is) (by k_is) (by k_is) (by k_is)
    have m_answer_load := PySem.W.mg_of (n := "answer_load") KX G (v := .ref _) (by k_is)
    have m_answer_written := PySem.W.mg_of (n := "answer_written") KX G (v := .ref _) (by k_is)
    have m_answer_expected := PySem.W.mg_of (n := "answer_expected") KX G (v := .ref _) (by k_is)
    have m_answer_best := PySem.W.mg_of (n := "answer_best") KX G (v := .ref _) (by k_is)
    have m_answer_rule := PySem.W.mg_of (n := "answer_rule") KX G (v := .ref _) (by k_is)
    have m_answer_machines := PySem.W.mg_of (n := "answer_machines") KX G (v := .ref _) (by k_is)
    have m_answer_time := PySem.W.mg_of (n := "answer_time") KX G (v := .ref _) (by k_is)
    have m_answer_budget := PySem.W.mg_of (n := "answer_budget") KX G (v := .ref _) (by k_is)
    have m_answer_choice := PySem.W.mg_of (n := "answer_choice") KX G (v := .ref _) (by k_is)
    have m_answer_size := PySem.W.mg_of (n := "answer_size") KX G (v := .ref _) (by k_is)
    refine (fun all => ?_) (Tp.all_ok (P := PySem.Challenge.rw_testplans_s01_answers.prog) (w := w) TT.1 TT.2.1 d_Fault_init d_Token_init d_is_digit d_is_number d_is_letter d_character d_characters d_number_at d_is_word_byte d_word_at d_remark_end d_skip_gaps d_token_from d_Reader_ahead d_Reader_stands d_Group_init d_Reader_take d_Reader_take_written d_Reader_take_number d_number_of d_Reader_take_name d_read_new_name d_begin_member d_read_group d_Test_init d_read_known_name d_read_after_name d_read_after d_read_in d_read_chance d_read_cost d_read_test d_Plan_init d_Reader_init d_read_plan d_CallReader_take_row d_answer_load d_after_part d_in_part d_test_line d_group_line d_written_plan d_answer_written d_cost_with_setup d_cost_from d_ready_behind d_expected_cost d_may_follow d_is_order d_answer_expected d_answer_order d_mask_of d_may_run_next d_scale_of d_best_step d_best_table d_best_order d_answer_best d_comes_before d_first_by_rule d_rule_order d_answer_rule d_cost_together d_time_of_one d_time_of_all d_all_ways d_best_way d_CallReader_take_one d_answer_machines d_is_way d_answer_time d_miss_of d_answer_chosen d_is_choice d_all_parts d_all_choices d_best_choice d_answer_budget d_are_tests d_answer_choice d_answer_size d_CallReader_more d_CallReader_init d_Holder_init d_answers (by decide) TT.2.2 ?hC)
    case hC =>
      intro f0 f1 f2 f3 f4 f5 f6 f7 f8 f9 e0 e1 e2 e3 e4 e5 e6 e7 e8 e9
      rw [m_answer_load] at e0; cases e0
      rw [m_answer_written] at e1; cases e1
      rw [m_answer_expected] at e2; cases e2
      rw [m_answer_best] at e3; cases e3
      rw [m_answer_rule] at e4; cases e4
      rw [m_answer_machines] at e5; cases e5
      rw [m_answer_time] at e6; cases e6
      rw [m_answer_budget] at e7; cases e7
      rw [m_answer_choice] at e8; cases e8
      rw [m_answer_size] at e9; cases e9
      exact ⟨Tp.seq_at (xs := [_, _, _, _, _, _, _, _, _, _].map L2.V.ref) l_CALLS (by decide +kernel) (by repeat (first | exact .nil | refine .cons rfl ?_)), by decide⟩
    exact Tp.close KX (by kernel_rfl) h_best_choice h_best_way hmg all
