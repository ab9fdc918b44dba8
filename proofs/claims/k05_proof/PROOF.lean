import PyProof.Rows.All
import Wide.All
import OpenK.AllK
import Wide.FinOn
import HandS.ForMost
import HandS.ForExc
import HandS.More
import HandS.Evl
import HandS.Defaults
import HandS.IsInst
import HandS.OwnEq
import HandS.SortInts
import HandS.Deep
import HandS.Dict
import HandS.Iter
import HandS.Strs
import HandS.SetFor
import KE.GoesMore
import HandS.TupSets
import HandS.ExcIs
import HandS.ExcField
import KE.KExcInit
import HandS.ExcOwn
import HandS.TryOnly
import KE.KStateDown
import Lean
import HandS.Head0
import HandS.Head1
import HandS.Head2
import HandS.HeadEnd
import HandS.HeadHook1
import HandS.HeadHook2
import HandS.HeadWalk
import HandS.Struct
import KE.KMathG
import Flt.RightSqrt
import HandS.Conv
import HandS.Zip
import HandS.Style
import PySem.Challenge.RW_silentlinks_k05_echoes_spans
set_option Elab.async false
set_option linter.all false
set_option maxRecDepth 100000
set_option maxHeartbeats 0
/-! AL: my layer over the hand layer. Data without addresses, a frame of data and owned objects, judgements on syntax (EC, TC, AC, SC). -/
namespace AL
open PySem PySem.Spec PyProof.Rows L2 Evl

/-! ### data -/
inductive D where
  | non | bl (b : Bool) | int (i : Int) | str (s : Str) | lst (ds : List D) | tup (ds : List D) | ktup (ds : List D) | klst (ds : List D) | obj (C : Addr) (fs : List (Str × D))
  /-- a caught error, its dict, its fields -/
  | exc (a : Addr) (d : Option Addr) (fs : List (Str × D))

mutual
inductive Rep (K : PySem.W.Frag) (B : Hp) : V → D → Prop
  | non : Rep K B .non .non
  | bl (b : Bool) : Rep K B (.bl b) (.bl b)
  | int (i : Int) : Rep K B (.int i) (.int i)
  | str (x : Str) : Rep K B (.str x) (.str x)
  | lst {a : Addr} {xs : List V} {ds : List D} : B a = some (.lst xs) → Reps K B xs ds → Rep K B (.ref a) (.lst ds)
  | tup {a : Addr} {xs : List V} {ds : List D} : B a = some (.tup xs) → Reps K B xs ds → Rep K B (.ref a) (.tup ds)
  /-- a tuple of the written part -/
  | ktup {a : Addr} {xs : List V} {ds : List D} : SqT K B a xs → Reps K B xs ds → Rep K B (.ref a) (.ktup ds)
  /-- a list of the written part, or the script -/
  | klst {a : Addr} {xs : List V} {ds : List D} : SqL K B a xs → Reps K B xs ds → Rep K B (.ref a) (.klst ds)
  | obj {a C dx : Addr} {fs : List (Str × V)} {gs : List (Str × D)} : B a = some (.ins C dx fs) → RepF K B fs gs → Rep K B (.ref a) (.obj C gs)
  | exc0 {a : Addr} : Rep K B (.ref a) (.exc a none [])
  | exc {a dx : Addr} {fs : List (Str × V)} {gs : List (Str × D)} : B dx = some (.xd fs) → RepF K B fs gs → Rep K B (.ref a) (.exc a (some dx) gs)
inductive Reps (K : PySem.W.Frag) (B : Hp) : List V → List D → Prop
  | nil : Reps K B [] []
  | cons {v : V} {vs : List V} {d : D} {ds : List D} : Rep K B v d → Reps K B vs ds → Reps K B (v :: vs) (d :: ds)
inductive RepF (K : PySem.W.Frag) (B : Hp) : List (Str × V) → List (Str × D) → Prop
  | nil : RepF K B [] []
  | cons {f : Str} {v : V} {vs : List (Str × V)} {d : D} {ds : List (Str × D)} : Rep K B v d → RepF K B vs ds → RepF K B ((f, v) :: vs) ((f, d) :: ds)
end
section
variable {K : PySem.W.Frag} {B B' : Hp}
mutual
theorem Rep.mono (e : Ex B B') : ∀ (d : D) (v : V), Rep K B v d → Rep K B' v d
  | .non, _, .non => .non
  | .bl b, _, .bl _ => .bl b
  | .int i, _, .int _ => .int i
  | .str x, _, .str _ => .str x
  | .lst ds, _, .lst h r => .lst (e _ _ h) (Reps.mono e ds _ r)
  | .tup ds, _, .tup h r => .tup (e _ _ h) (Reps.mono e ds _ r)
  | .ktup ds, _, .ktup h r => .ktup (ex_t e h) (Reps.mono e ds _ r)
  | .klst ds, _, .klst h r => .klst (ex_l e h) (Reps.mono e ds _ r)
  | .obj C gs, _, .obj h r => .obj (e _ _ h) (RepF.mono e gs _ r)
  | .exc _ none _, _, .exc0 => .exc0
  | .exc _ (some _) gs, _, .exc h r => .exc (e _ _ h) (RepF.mono e gs _ r)
theorem Reps.mono (e : Ex B B') : ∀ (ds : List D) (vs : List V), Reps K B vs ds → Reps K B' vs ds
  | [], _, .nil => .nil
  | d :: ds, _, .cons r rs => .cons (Rep.mono e d _ r) (Reps.mono e ds _ rs)
theorem RepF.mono (e : Ex B B') : ∀ (ds : List (Str × D)) (vs : List (Str × V)), RepF K B vs ds → RepF K B' vs ds
  | [], _, .nil => .nil
  | (f, d) :: ds, _, .cons r rs => .cons (Rep.mono e d _ r) (RepF.mono e ds _ rs)
end
theorem Rep.up {d : D} {v : V} (r : Rep K B v d) (e : Ex B B') : Rep K B' v d := Rep.mono e d v r
theorem Reps.up {ds : List D} {vs : List V} (r : Reps K B vs ds) (e : Ex B B') : Reps K B' vs ds := Reps.mono e ds vs r
theorem RepF.up {ds : List (Str × D)} {vs : List (Str × V)} (r : RepF K B vs ds) (e : Ex B B') : RepF K B' vs ds := RepF.mono e ds vs r
theorem Reps.length {ds : List D} : ∀ {vs : List V}, Reps K B vs ds → vs.length = ds.length := by
  induction ds with
  | nil => intro vs r; cases r; rfl
  | cons d ds ih => intro vs r; cases r with | cons _ rs => simp [ih rs]
theorem Reps.get {ds : List D} : ∀ {vs : List V} {i : Nat} {v : V}, Reps K B vs ds → vs[i]? = some v → ∃ d, ds[i]? = some d ∧ Rep K B v d := by
  induction ds with
  | nil => intro vs i v r e; cases r; simp at e
  | cons d ds ih =>
    intro vs i v r e
    cases r with
    | cons r rs =>
      cases i with
      | zero => simp at e; subst e; exact ⟨d, rfl, r⟩
      | succ i => obtain ⟨d', h1, h2⟩ := ih rs (by simpa using e); exact ⟨d', by simpa using h1, h2⟩
theorem Reps.get' {ds : List D} : ∀ {vs : List V} {i : Nat} {d : D}, Reps K B vs ds → ds[i]? = some d → ∃ v, vs[i]? = some v ∧ Rep K B v d := by
  induction ds with
  | nil => intro vs i d r e; simp at e
  | cons d ds ih =>
    intro vs i d' r e
    cases r with
    | cons r rs =>
      cases i with
      | zero => simp at e; subst e; exact ⟨_, rfl, r⟩
      | succ i => obtain ⟨d', h1, h2⟩ := ih rs (by simpa using e); exact ⟨d', by simpa using h1, h2⟩
theorem Reps.app {ds es : List D} : ∀ {vs ws : List V}, Reps K B vs ds → Reps K B ws es → Reps K B (vs ++ ws) (ds ++ es) := by
  induction ds with
  | nil => intro vs ws r s; cases r; exact s
  | cons d ds ih => intro vs ws r s; cases r with | cons r rs => exact .cons r (ih rs s)
theorem Reps.take {ds : List D} : ∀ (n : Nat) {vs : List V}, Reps K B vs ds → Reps K B (vs.take n) (ds.take n) := by
  induction ds with
  | nil => intro n vs r; cases r; simp; exact .nil
  | cons d ds ih => intro n vs r; cases r with | cons r rs => cases n with | zero => exact .nil | succ n => exact .cons r (ih n rs)
theorem Reps.drop {ds : List D} : ∀ (n : Nat) {vs : List V}, Reps K B vs ds → Reps K B (vs.drop n) (ds.drop n) := by
  induction ds with
  | nil => intro n vs r; cases r; simp; exact .nil
  | cons d ds ih => intro n vs r; cases r with | cons r rs => cases n with | zero => exact .cons r rs | succ n => exact ih n rs
theorem Reps.rev {ds : List D} : ∀ {vs : List V}, Reps K B vs ds → Reps K B vs.reverse ds.reverse := by
  induction ds with
  | nil => intro vs r; cases r; exact .nil
  | cons d ds ih =>
    intro vs r
    cases r with
    | cons r rs => rw [List.reverse_cons, List.reverse_cons]; exact (ih rs).app (.cons r .nil)
theorem Reps.set {ds : List D} : ∀ {vs : List V} (i : Nat) {v : V} {d : D}, Reps K B vs ds → Rep K B v d → Reps K B (vs.set i v) (ds.set i d) := by
  induction ds with
  | nil => intro vs i v d r q; cases r; exact .nil
  | cons e ds ih => intro vs i v d r q; cases r with | cons r rs => cases i with | zero => exact .cons q rs | succ i => exact .cons r (ih i rs q)
theorem RepF.lookup {fs : List (Str × D)} : ∀ {vs : List (Str × V)} {f : Str} {d : D}, RepF K B vs fs → fs.lookup f = some d → ∃ v, vs.lookup f = some v ∧ Rep K B v d := by
  induction fs with
  | nil => intro vs f d r e; simp at e
  | cons p fs ih =>
    intro vs f d r e
    obtain ⟨g, d0⟩ := p
    cases r with
    | cons r rs =>
      by_cases h : f = g
      · subst h; simp at e; subst e; exact ⟨_, by simp, r⟩
      · have hb : (f == g) = false := by simpa using h
        simp only [List.lookup, hb] at e ⊢
        exact ih rs e
theorem RepF.none {fs : List (Str × D)} : ∀ {vs : List (Str × V)} {f : Str}, RepF K B vs fs → fs.lookup f = none → vs.lookup f = none := by
  induction fs with
  | nil => intro vs f r e; cases r; rfl
  | cons p fs ih =>
    intro vs f r e
    obtain ⟨g, d0⟩ := p
    cases r with
    | cons r rs =>
      by_cases h : f = g
      · subst h; simp at e
      · have hb : (f == g) = false := by simpa using h
        simp only [List.lookup, hb] at e ⊢
        exact ih rs e
theorem RepF.len {fs : List (Str × D)} : ∀ {vs : List (Str × V)}, RepF K B vs fs → vs.length = fs.length := by
  induction fs with
  | nil => intro vs r; cases r; rfl
  | cons p fs ih => intro vs r; cases r with | cons _ rs => simp [ih rs]
end
/-- an attribute stored -/
def putD (f : Str) (d : D) : List (Str × D) → List (Str × D)
  | [] => [(f, d)]
  | (g, e) :: r => if g = f then (g, d) :: r else (g, e) :: putD f d r

/-! ### owned objects, the frame -/
inductive OO where
  | l (ds : List D) | k (kvs : List (Key × D)) | t (kvs : List (List Key × D)) | ob (C : Addr) (fs : List (Str × D)) | ll (rows : List (Addr × List D))
inductive Sl where
  | im (d : D) | ow (a : Addr) (o : OO)
abbrev En := List (Option Sl)
def RepK (K : PySem.W.Frag) (B : Hp) {κ : Type} : List (κ × V) → List (κ × D) → Prop := Paired fun p q => p.1 = q.1 ∧ Rep K B p.2 q.2
def RepO (K : PySem.W.Frag) (B : Hp) : HO → OO → Prop
  | .lst vs, .l ds => Reps K B vs ds
  | .dK kvs, .k kds => RepK K B kvs kds
  | .dT kvs, .t kds => RepK K B kvs kds
  | .ins C _ vs, .ob C' gs => C = C' ∧ RepF K B vs gs
  | _, _ => False
theorem RepO.up {K : PySem.W.Frag} {B B' : Hp} {u : HO} {o : OO} (r : RepO K B u o) (e : Ex B B') : RepO K B' u o := by
  cases u <;> cases o <;> first
    | exact False.elim r
    | exact Reps.up r e
    | exact Paired.mapP r fun p q z => ⟨z.1, z.2.up e⟩
    | exact ⟨r.1, r.2.up e⟩
/-- what is always known -/
def kn : HO → Bool
  | .tup _ => true
  | .xd _ => true
  | _ => false
structure St3 (B G H : Hp) : Prop where
  ex : Ex B H
  eg : Ex G H
  dj : ∀ a o, G a = some o → B a = none
  tp : ∀ a w, H a = some w → kn w = true → B a = some w
structure Ok (K : PySem.W.Frag) (B G H : Hp) (σ : L2.St) (ρ : En) : Prop where
  s : St3 B G H
  len : σ.length = ρ.length
  im : ∀ (i : Nat) (d : D), ρ[i]? = some (some (Sl.im d)) → ∃ v : V, σ[i]? = some (some v) ∧ Rep K B v d
  ow : ∀ (i : Nat) (a : Addr) (o : OO), ρ[i]? = some (some (Sl.ow a o)) → σ[i]? = some (some (V.ref a)) ∧ B a = none ∧ G a = none ∧ ∃ u, H a = some u ∧ RepO K B u o
  ne : ∀ (i j : Nat) (a : Addr) (o o' : OO), ρ[i]? = some (some (Sl.ow a o)) → ρ[j]? = some (some (Sl.ow a o')) → i = j
theorem getq_set {α : Type} {l : List α} {i j : Nat} {x : α} : (l.set i x)[j]? = if i = j ∧ j < l.length then some x else if i = j then none else l[j]? := by
  by_cases h : i = j
  · subst h
    by_cases h2 : i < l.length
    · simp [h2]
    · simp [h2]
  · simp [h]
section
variable {K : PySem.W.Frag} {B B' G H H' : Hp} {σ : L2.St} {ρ : En} {i : Nat} {a : Addr} {o o' : OO} {u u' : HO} {v : V} {d : D}
theorem Ok.set_im (h : Ok K B G H σ ρ) (r : Rep K B v d) : Ok K B G H (σ.set i (some v)) (ρ.set i (some (.im d))) where
  s := h.s
  len := by simp [h.len]
  im := fun j e he => by
    rw [getq_set] at he ⊢
    by_cases hij : i = j
    · by_cases hl : j < ρ.length
      · rw [if_pos ⟨hij, hl⟩] at he
        simp at he; subst he
        rw [if_pos ⟨hij, by rw [h.len]; exact hl⟩]
        exact ⟨v, rfl, r⟩
      · rw [if_neg (fun z => hl z.2), if_pos hij] at he; cases he
    · rw [if_neg (fun z => hij z.1), if_neg hij] at he ⊢
      exact h.im j e he
  ow := fun j b p he => by
    rw [getq_set] at he
    rw [getq_set]
    by_cases hij : i = j
    · by_cases hl : j < ρ.length
      · rw [if_pos ⟨hij, hl⟩] at he; cases he
      · rw [if_neg (fun z => hl z.2), if_pos hij] at he; cases he
    · rw [if_neg (fun z => hij z.1), if_neg hij] at he ⊢
      exact h.ow j b p he
  ne := fun j k b p q h1 h2 => by
    rw [getq_set] at h1 h2
    split at h1
    · cases h1
    · split at h1
      · cases h1
      · split at h2
        · cases h2
        · split at h2
          · cases h2
          · exact h.ne j k b p q h1 h2
theorem Ok.set_ow (h : Ok K B G H σ ρ) (hb : B a = none) (hg : G a = none) (hu : H a = some u) (r : RepO K B u o) (fr : ∀ (j : Nat) (p : OO), ρ[j]? = some (some (Sl.ow a p)) → j = i) : Ok K B G H (σ.set i (some (.ref a))) (ρ.set i (some (.ow a o))) where
  s := h.s
  len := by simp [h.len]
  im := fun j e he => by
    rw [getq_set] at he ⊢
    by_cases hij : i = j
    · by_cases hl : j < ρ.length
      · rw [if_pos ⟨hij, hl⟩] at he; cases he
      · rw [if_neg (fun z => hl z.2), if_pos hij] at he; cases he
    · rw [if_neg (fun z => hij z.1), if_neg hij] at he ⊢
      exact h.im j e he
  ow := fun j b p he => by
    rw [getq_set] at he ⊢
    by_cases hij : i = j
    · by_cases hl : j < ρ.length
      · rw [if_pos ⟨hij, hl⟩] at he
        simp at he; obtain ⟨rfl, rfl⟩ := he
        rw [if_pos ⟨hij, by rw [h.len]; exact hl⟩]
        exact ⟨rfl, hb, hg, u, hu, r⟩
      · rw [if_neg (fun z => hl z.2), if_pos hij] at he; cases he
    · rw [if_neg (fun z => hij z.1), if_neg hij] at he ⊢
      exact h.ow j b p he
  ne := fun j k b p q h1 h2 => by
    rw [getq_set] at h1 h2
    by_cases hij : i = j
    · by_cases hik : i = k
      · omega
      · split at h1
        · simp at h1; obtain ⟨rfl, rfl⟩ := h1
          rw [if_neg (fun z => hik z.1), if_neg hik] at h2
          have := fr k q h2; omega
        · first | cases h1 | (rw [if_pos hij] at h1; cases h1)
    · rw [if_neg (fun z => hij z.1), if_neg hij] at h1
      by_cases hik : i = k
      · split at h2
        · simp at h2; obtain ⟨rfl, rfl⟩ := h2
          have := fr j p h1; omega
        · first | cases h2 | (rw [if_pos hik] at h2; cases h2)
      · rw [if_neg (fun z => hik z.1), if_neg hik] at h2
        exact h.ne j k b p q h1 h2
/-- the content of the owned object in slot i changes -/
theorem Ok.upd_ow (h : Ok K B G H σ ρ) (hi : ρ[i]? = some (some (.ow a o))) (r : RepO K B u' o') : Ok K B G (upd H a u') σ (ρ.set i (some (.ow a o'))) := by
  obtain ⟨hs, hb, hg, u, hu, _⟩ := h.ow i a o hi
  have hl : i < ρ.length := (List.getElem?_eq_some_iff.mp hi).1
  have nb : ∀ b w, H b = some w → b ≠ a → upd H a u' b = some w := fun b w e n => by rw [upd_ne n]; exact e
  refine ⟨⟨Ex.mut h.s.ex hb, Ex.mut h.s.eg hg, h.s.dj, fun b w hx hk => by
    by_cases z : b = a
    · subst z; rw [upd_same] at hx; cases hx; cases u' <;> first | (cases hk; done) | (cases o' <;> exact False.elim r)
    · rw [upd_ne z] at hx; exact h.s.tp b w hx hk⟩, by simp [h.len], fun j e he => ?_, fun j b p he => ?_, fun j k b p q h1 h2 => ?_⟩
  · rw [getq_set] at he
    by_cases hij : i = j
    · rw [if_pos ⟨hij, hij ▸ hl⟩] at he; cases he
    · rw [if_neg (fun z => hij z.1), if_neg hij] at he
      exact h.im j e he
  · rw [getq_set] at he
    by_cases hij : i = j
    · rw [if_pos ⟨hij, hij ▸ hl⟩] at he
      simp at he; obtain ⟨rfl, rfl⟩ := he
      subst hij
      exact ⟨hs, hb, hg, u', upd_same, r⟩
    · rw [if_neg (fun z => hij z.1), if_neg hij] at he
      obtain ⟨q1, q2, q3, w, q4, q5⟩ := h.ow j b p he
      refine ⟨q1, q2, q3, w, nb b w q4 (fun z => ?_), q5⟩
      subst z
      exact hij (h.ne i j b o p hi he)
  · rw [getq_set] at h1 h2
    by_cases hij : i = j
    · by_cases hik : i = k
      · omega
      · rw [if_pos ⟨hij, hij ▸ hl⟩] at h1
        simp at h1; obtain ⟨rfl, rfl⟩ := h1
        rw [if_neg (fun z => hik z.1), if_neg hik] at h2
        exact absurd (h.ne i k a o q hi h2) hik
    · rw [if_neg (fun z => hij z.1), if_neg hij] at h1
      by_cases hik : i = k
      · rw [if_pos ⟨hik, hik ▸ hl⟩] at h2
        simp at h2; obtain ⟨rfl, rfl⟩ := h2
        exact absurd (h.ne i j a o p hi h1) hij
      · rw [if_neg (fun z => hik z.1), if_neg hik] at h2
        exact h.ne j k b p q h1 h2
/-- a new object, known from now on -/
theorem Ok.grow (h : Ok K B G H σ ρ) {p : Addr} (hp : H p = none) : Ex B (upd B p u) ∧ Ok K (upd B p u) G (upd H p u) σ ρ := by
  have hb : B p = none := fresh_back h.s.ex hp
  have hg : G p = none := fresh_back h.s.eg hp
  have e : Ex B (upd B p u) := Ex.new hb
  refine ⟨e, ⟨fun b w hw => ?_, Ex.mut h.s.eg hg, fun b w hw => ?_, fun b w hx hk => by
    by_cases z : b = p
    · subst z; rw [upd_same] at hx ⊢; exact hx
    · rw [upd_ne z] at hx ⊢; exact h.s.tp b w hx hk⟩, h.len, fun j d hd => ?_, fun j b q hq => ?_, h.ne⟩
  · by_cases z : b = p
    · subst z; rw [upd_same] at hw ⊢; exact hw
    · rw [upd_ne z] at hw ⊢; exact h.s.ex b w hw
  · rw [upd_ne (ne_of_none hw hg)]; exact h.s.dj b w hw
  · obtain ⟨v, h1, h2⟩ := h.im j d hd
    exact ⟨v, h1, h2.up e⟩
  · obtain ⟨q1, q2, q3, w, q4, q5⟩ := h.ow j b q hq
    have n : b ≠ p := ne_of_none q4 hp
    exact ⟨q1, by rw [upd_ne n]; exact q2, q3, w, by rw [upd_ne n]; exact q4, q5.up e⟩
/-- a new object, not known -/
theorem Ok.fresh (h : Ok K B G H σ ρ) {p : Addr} (hp : H p = none) (nt : kn u = false := by rfl) : Ok K B G (upd H p u) σ ρ ∧ B p = none ∧ G p = none ∧ ∀ (j : Nat) (q : OO), ρ[j]? ≠ some (some (Sl.ow p q)) := by
  have hb : B p = none := fresh_back h.s.ex hp
  have hg : G p = none := fresh_back h.s.eg hp
  refine ⟨⟨⟨Ex.mut h.s.ex hb, Ex.mut h.s.eg hg, h.s.dj, fun b w hx hk => by
    by_cases z : b = p
    · subst z; rw [upd_same] at hx; cases hx; rw [nt] at hk; cases hk
    · rw [upd_ne z] at hx; exact h.s.tp b w hx hk⟩, h.len, h.im, fun j b q hq => ?_, h.ne⟩, hb, hg, fun j q hq => ?_⟩
  · obtain ⟨q1, q2, q3, w, q4, q5⟩ := h.ow j b q hq
    exact ⟨q1, q2, q3, w, by rw [upd_ne (ne_of_none q4 hp)]; exact q4, q5⟩
  · obtain ⟨_, _, _, w, q4, _⟩ := h.ow j p q hq
    rw [hp] at q4; cases q4
/-- an object that nothing owns is known from now on -/
theorem Ok.know (h : Ok K B G H σ ρ) (hb : B a = none) (hg : G a = none) (hu : H a = some u) (hn : ∀ (j : Nat) (q : OO), ρ[j]? ≠ some (some (Sl.ow a q))) : Ex B (upd B a u) ∧ Ok K (upd B a u) G H σ ρ := by
  have e : Ex B (upd B a u) := Ex.new hb
  refine ⟨e, ⟨fun b w hw => ?_, h.s.eg, fun b w hw => ?_, fun b w hx hk => by
    by_cases z : b = a
    · subst z; rw [hu] at hx; rw [upd_same]; exact hx
    · rw [upd_ne z]; exact h.s.tp b w hx hk⟩, h.len, fun j d hd => ?_, fun j b q hq => ?_, h.ne⟩
  · by_cases z : b = a
    · subst z; rw [upd_same] at hw; rw [hu]; exact hw
    · rw [upd_ne z] at hw; exact h.s.ex b w hw
  · rw [upd_ne (ne_of_none hw hg)]; exact h.s.dj b w hw
  · obtain ⟨v, h1, h2⟩ := h.im j d hd
    exact ⟨v, h1, h2.up e⟩
  · obtain ⟨q1, q2, q3, w, q4, q5⟩ := h.ow j b q hq
    have n : b ≠ a := fun z => by subst z; exact hn j q hq
    exact ⟨q1, by rw [upd_ne n]; exact q2, q3, w, q4, q5.up e⟩
theorem Ok.drop (h : Ok K B G H σ ρ) {x : Option V} : Ok K B G H (σ.set i x) (ρ.set i none) := by
  refine ⟨h.s, by simp [h.len], fun j e he => ?_, fun j b q hq => ?_, fun j k b p q h1 h2 => ?_⟩
  · rw [getq_set] at he
    split at he
    · simp at he
    · split at he
      · simp at he
      · rename_i n1 n2
        rw [getq_set, if_neg (fun z => n2 z.1), if_neg n2]
        exact h.im j e he
  · rw [getq_set] at hq
    split at hq
    · simp at hq
    · split at hq
      · simp at hq
      · rename_i n1 n2
        rw [getq_set, if_neg (fun z => n2 z.1), if_neg n2]
        exact h.ow j b q hq
  · rw [getq_set] at h1 h2
    split at h1
    · simp at h1
    · split at h1
      · simp at h1
      · split at h2
        · simp at h2
        · split at h2
          · simp at h2
          · exact h.ne j k b p q h1 h2
end
end AL
namespace AL
open PySem PySem.Spec PyProof.Rows L2 Evl
/-! ### the weakest readings -/
def wE (X : Cx) (e : Expr) : TE := fun σ H Q => ∀ pins s, Inv X pins σ H s → wpAny (model X.prog X.w) X.A (eval e X.env) (EP X pins σ Q) X.xe s
def wT (X : Cx) (e : Expr) : TT := fun σ H Q => ∀ pins s, Inv X pins σ H s → wpAny (model X.prog X.w) X.A (isTrue e X.env (eval e X.env)) (TP X pins σ Q) X.xe s
def wW (X : Cx) (e : Expr) : TT := fun σ H Q => ∀ (whole : Sem Value) pins s, Inv X pins σ H s → wpAny (model X.prog X.w) X.A (isTrue e X.env whole) (TP X pins σ Q) X.xe s
def wA (X : Cx) (es : List Expr) : TA := fun σ H Q => ∀ (pos : Pos) pins s, Inv X pins σ H s → wpAny (model X.prog X.w) X.A (spliced (backTo pos (starEach es X.env))) (AP X pins σ Q) X.xe s
def wS (X : Cx) (st : Stmt) : TS := fun D σ H => ∀ pins s, Inv X pins σ H s → wpAny (model X.prog X.w) X.A (exec st X.env) (SP X pins D) X.xe s
def wSs (X : Cx) (st : List Stmt) : TS := fun D σ H => ∀ pins s, Inv X pins σ H s → wpAny (model X.prog X.w) X.A (execs st X.env) (SP X pins D) X.xe s
def wG (X : Cx) (tg : Expr) : TG := fun v σ H Q => ∀ pins s u, Inv X pins σ H s → RelV v u → wpAny (model X.prog X.w) X.A (assign tg X.env u) (fun _ s' => ∃ σ' H', Inv X pins σ' H' s' ∧ Q σ' H') X.xe s
section
variable {X : Cx} {e : Expr} {es : List Expr} {st : Stmt} {sts : List Stmt}
theorem p_wE : PE X e (wE X e) := ⟨fun pins s _ _ _ I h => h pins s I⟩
theorem p_wT : PT X e (wT X e) := ⟨fun pins s _ _ _ I h => h pins s I⟩
theorem p_wW : PW X e (wW X e) := ⟨fun wh pins s _ _ _ I h => h wh pins s I⟩
theorem p_wA : PA X es (wA X es) := ⟨fun pos pins s _ _ _ I h => h pos pins s I⟩
theorem p_wS : PS X st (wS X st) := ⟨fun pins s _ _ _ I h => h pins s I⟩
theorem p_wSs : PSs X sts (wSs X sts) := ⟨fun pins s _ _ _ I h => h pins s I⟩
theorem p_wG : PG X e (wG X e) := ⟨fun pins s _ _ _ u _ I r h => h pins s u I r⟩
theorem _root_.L2.PE.w {t : TE} (p : PE X e t) {σ : L2.St} {H : Hp} {Q : VK} (h : t σ H Q) : wE X e σ H Q := fun pins s I => p.run pins s σ H Q I h
theorem _root_.L2.PT.w {t : TT} (p : PT X e t) {σ : L2.St} {H : Hp} {Q : Bool → Hp → Prop} (h : t σ H Q) : wT X e σ H Q := fun pins s I => p.run pins s σ H Q I h
theorem _root_.L2.PW.w {t : TT} (p : PW X e t) {σ : L2.St} {H : Hp} {Q : Bool → Hp → Prop} (h : t σ H Q) : wW X e σ H Q := fun wh pins s I => p.run wh pins s σ H Q I h
theorem _root_.L2.PA.w {t : TA} (p : PA X es t) {σ : L2.St} {H : Hp} {Q : List V → Hp → Prop} (h : t σ H Q) : wA X es σ H Q := fun pos pins s I => p.run pos pins s σ H Q I h
theorem _root_.L2.PS.w {t : TS} (p : PS X st t) {σ : L2.St} {H : Hp} {D : Ends} (h : t D σ H) : wS X st D σ H := fun pins s I => p.run pins s σ H D I h
theorem _root_.L2.PSs.w {t : TS} (p : PSs X sts t) {σ : L2.St} {H : Hp} {D : Ends} (h : t D σ H) : wSs X sts D σ H := fun pins s I => p.run pins s σ H D I h
theorem _root_.L2.PG.w {t : TG} (p : PG X e t) {v : V} {σ : L2.St} {H : Hp} {Q : L2.St → Hp → Prop} (h : t v σ H Q) : wG X e v σ H Q := fun pins s u I r => p.run pins s σ H v u Q I r h
end

/-! ### the judgements -/
/-- what an exception leaves: nothing kept in it, or its own dict -/
def ErR (K : PySem.W.Frag) (B H : Hp) (fs : List (Str × D)) (dd : Option Addr) : Prop := match fs with
  | [] => dd = none
  | _ => ∃ a vs, dd = some a ∧ H a = some (.xd vs) ∧ RepF K B vs fs
/-- the wish of exceptions: as the hand layer has it, and which ones (class, fields) are wished for -/
structure Zx where
  E : WX
  R : Addr → List (Str × D) → En → Prop
abbrev Z0 : Zx := ⟨fun c d _ H => E0 c d H, fun _ _ _ => False⟩
/-- the wish of a def's body: whatever the slots hold -/
abbrev Zf (E : XK) (R : Addr → List (Str × D) → Prop) : Zx := ⟨fun c d _ H => E c d H, fun C fs _ => R C fs⟩
def RC (K : PySem.W.Frag) (Z : Zx) (B G : Hp) : Prop := ∀ C fs dd B' H' σ' ρ', Z.R C fs ρ' → Ex B B' → Ok K B' G H' σ' ρ' → ErR K B' H' fs dd → Z.E (.ref C) dd σ' H'
theorem RC.up {K : PySem.W.Frag} {Z : Zx} {B B' G : Hp} (h : RC K Z B G) (e : Ex B B') : RC K Z B' G := fun C fs dd B2 H2 s2 r2 r e2 => h C fs dd B2 H2 s2 r2 r (e.trans e2)
theorem RC.none {K : PySem.W.Frag} {B G : Hp} {E : WX} : RC K ⟨E, fun _ _ _ => False⟩ B G := fun _ _ _ _ _ _ _ r => r.elim
/-- errors of callees come through -/
def PassW (X : Cx) (Z : Zx) : Prop := ∀ σ, PassesAt (L2.CX X.prog X.w) X σ (fun c d H => Z.E c d σ H)
theorem PassW.of {X : Cx} {E : XK} {R : Addr → List (Str × D) → En → Prop} (h : Passes (L2.CX X.prog X.w) X E) : PassW X ⟨fun c d _ H => E c d H, R⟩ := fun σ pins H s e s' I c => h pins σ H s e s' I c
theorem PassW.tk {X : Cx} {Z : Zx} (tk : Takes X Z.E) : PassW X Z := fun σ => passAt tk σ

section
variable (X : Cx) (Z : Zx)
def EC (e : Expr) (ρ : En) (Φ : D → En → Prop) : Prop := ∀ B G H σ, Ok X.K B G H σ ρ → RC X.K Z B G → ∀ Q : VK,
  (∀ d ρ' v B' H', Φ d ρ' → Ex B B' → Ok X.K B' G H' σ ρ' → Rep X.K B' v d → Q v H') → wE X e σ H Q
/-- a new object that nobody else has -/
def FC (e : Expr) (ρ : En) (Φ : OO → En → Prop) : Prop := ∀ B G H σ, Ok X.K B G H σ ρ → RC X.K Z B G → ∀ Q : VK,
  (∀ o ρ' a u B' H', Φ o ρ' → Ex B B' → Ok X.K B' G H' σ ρ' → B' a = none → G a = none → H' a = some u → (∀ (j : Nat) (q : OO), ρ'[j]? ≠ some (some (Sl.ow a q))) → RepO X.K B' u o → Q (.ref a) H') → wE X e σ H Q
def TC (e : Expr) (ρ : En) (Φ : Bool → En → Prop) : Prop := ∀ B G H σ, Ok X.K B G H σ ρ → RC X.K Z B G → ∀ Q : Bool → Hp → Prop,
  (∀ b ρ' B' H', Φ b ρ' → Ex B B' → Ok X.K B' G H' σ ρ' → Q b H') → wT X e σ H Q
def WC (e : Expr) (ρ : En) (Φ : Bool → En → Prop) : Prop := ∀ B G H σ, Ok X.K B G H σ ρ → RC X.K Z B G → ∀ Q : Bool → Hp → Prop,
  (∀ b ρ' B' H', Φ b ρ' → Ex B B' → Ok X.K B' G H' σ ρ' → Q b H') → wW X e σ H Q
def AC (es : List Expr) (ρ : En) (Φ : List D → En → Prop) : Prop := ∀ B G H σ, Ok X.K B G H σ ρ → RC X.K Z B G → ∀ Q : List V → Hp → Prop,
  (∀ ds ρ' vs B' H', Φ ds ρ' → Ex B B' → Ok X.K B' G H' σ ρ' → Reps X.K B' vs ds → Q vs H') → wA X es σ H Q
inductive Rs where
  | im (d : D) | fr (o : OO)
def RsR (K : PySem.W.Frag) (B G H : Hp) (ρ : En) (v : V) : Rs → Prop
  | .im d => Rep K B v d
  | .fr o => ∃ a u, v = .ref a ∧ B a = none ∧ G a = none ∧ H a = some u ∧ (∀ (j : Nat) (q : OO), ρ[j]? ≠ some (some (Sl.ow a q))) ∧ RepO K B u o
structure Outs where
  nx : En → Prop
  rt : Rs → En → Prop
  bk : En → Prop := fun _ => False
  ct : En → Prop := fun _ => False
/-- a concrete end serves an abstract one -/
structure Serves (K : PySem.W.Frag) (B G : Hp) (O : Outs) (Dd : Ends) : Prop where
  nx : ∀ ρ' σ' B' H', O.nx ρ' → Ex B B' → Ok K B' G H' σ' ρ' → Dd.nx σ' H'
  rt : ∀ r ρ' v σ' B' H', O.rt r ρ' → Ex B B' → Ok K B' G H' σ' ρ' → RsR K B' G H' ρ' v r → Dd.rt v H'
  bk : ∀ ρ' σ' B' H', O.bk ρ' → Ex B B' → Ok K B' G H' σ' ρ' → Dd.bk σ' H'
  ct : ∀ ρ' σ' B' H', O.ct ρ' → Ex B B' → Ok K B' G H' σ' ρ' → Dd.ct σ' H'
def SC (sts : List Stmt) (ρ : En) (O : Outs) : Prop := ∀ B G H σ Dd, Ok X.K B G H σ ρ → RC X.K Z B G → Serves X.K B G O Dd → wSs X sts Dd σ H
/-- a target takes a datum -/
def GC (tg : Expr) (d : D) (ρ : En) (Φ : En → Prop) : Prop := ∀ B G H σ v, Ok X.K B G H σ ρ → Rep X.K B v d → ∀ Q : L2.St → Hp → Prop,
  (∀ ρ' σ' B' H', Φ ρ' → Ex B B' → Ok X.K B' G H' σ' ρ' → Q σ' H') → wG X tg v σ H Q
end
theorem Serves.up {K : PySem.W.Frag} {B B' G : Hp} {O : Outs} {Dd : Ends} (h : Serves K B G O Dd) (e : Ex B B') : Serves K B' G O Dd :=
  ⟨fun ρ' σ' B2 H2 a e2 => h.nx ρ' σ' B2 H2 a (e.trans e2), fun r ρ' v σ' B2 H2 a e2 => h.rt r ρ' v σ' B2 H2 a (e.trans e2), fun ρ' σ' B2 H2 a e2 => h.bk ρ' σ' B2 H2 a (e.trans e2), fun ρ' σ' B2 H2 a e2 => h.ct ρ' σ' B2 H2 a (e.trans e2)⟩

theorem set_getq {α : Type} : ∀ {l : List α} {i : Nat} {x : α}, l[i]? = some x → l.set i x = l
  | [], i, x, h => by simp at h
  | a :: l, 0, x, h => by simp at h; subst h; rfl
  | a :: l, i + 1, x, h => by rw [List.set_cons_succ, set_getq (l := l) (by simpa using h)]
/-! ### expressions -/
section
variable {X : Cx} {Z : Zx} {a b c e : Expr} {es : List Expr} {ρ : En} {Φ : D → En → Prop} {Ψ : Bool → En → Prop} {pos : Pos}
theorem EC.mono {Φ' : D → En → Prop} (h : EC X Z e ρ Φ) (k : ∀ d ρ', Φ d ρ' → Φ' d ρ') : EC X Z e ρ Φ' := fun B G H σ o z Q q => h B G H σ o z Q fun d ρ' v B' H' x => q d ρ' v B' H' (k d ρ' x)
theorem ec_int {i : Int} {j} (h : Φ (.int i) ρ) : EC X Z (.Constant (.int i) j pos) ρ Φ := fun B G H σ o z Q q => pe_int.w (q _ _ _ B H h (Ex.refl B) o (.int i))
theorem ec_bl {i : Bool} {j} (h : Φ (.bl i) ρ) : EC X Z (.Constant (.bool i) j pos) ρ Φ := fun B G H σ o z Q q => pe_bl.w (q _ _ _ B H h (Ex.refl B) o (.bl i))
theorem ec_non {j} (h : Φ .non ρ) : EC X Z (.Constant .none j pos) ρ Φ := fun B G H σ o z Q q => pe_non.w (q _ _ _ B H h (Ex.refl B) o .non)
theorem ec_str {i : Str} {j} (h : Φ (.str i) ρ) : EC X Z (.Constant (.str i) j pos) ρ Φ := fun B G H σ o z Q q => pe_str.w (q _ _ _ B H h (Ex.refl B) o (.str i))
/-- a name that holds a datum -/
theorem ec_var (i : Nat) {x : Str} {d : D} (hd : ρ[i]? = some (some (.im d))) (h : Φ d ρ) (hN : X.N[i]? = some x := by rfl) (hv : Vis X.env.scope x := by first | exact Or.inl rfl | exact Or.inr (Or.inl rfl) | exact Or.inr (Or.inr rfl))
    (hdb : (x == ("__debug__" : Str)) = false := by decide) (hcd : (x == ("__classdict__" : Str)) = false := by decide) : EC X Z (.Name x pos) ρ Φ := fun B G H σ o z Q q => by
  obtain ⟨v, h1, h2⟩ := o.im i d hd
  exact (pe_var hN hv hdb hcd).w ⟨v, h1, q d ρ v B H h (Ex.refl B) o h2⟩
/-- a name that holds an owned list: known from now on -/
theorem ec_frz (i : Nat) {x : Str} {p : Addr} {ds : List D} (hd : ρ[i]? = some (some (.ow p (.l ds)))) (h : Φ (.lst ds) (ρ.set i (some (.im (.lst ds))))) (hN : X.N[i]? = some x := by rfl) (hv : Vis X.env.scope x := by first | exact Or.inl rfl | exact Or.inr (Or.inl rfl) | exact Or.inr (Or.inr rfl))
    (hdb : (x == ("__debug__" : Str)) = false := by decide) (hcd : (x == ("__classdict__" : Str)) = false := by decide) : EC X Z (.Name x pos) ρ Φ := fun B G H σ o z Q q => by
  obtain ⟨h1, h2, h3, u, h4, h5⟩ := o.ow i p _ hd
  have hl : i < ρ.length := (List.getElem?_eq_some_iff.mp hd).1
  have o1 : Ok X.K B G H σ (ρ.set i none) := by
    have z1 := o.drop (i := i) (x := some (.ref p))
    rwa [set_getq h1] at z1
  have nn : ∀ (j : Nat) (w : OO), (ρ.set i none)[j]? ≠ some (some (Sl.ow p w)) := fun j w hj => by
    rw [getq_set] at hj
    by_cases hij : i = j
    · subst hij; rw [if_pos ⟨rfl, hl⟩] at hj; cases hj
    · rw [if_neg (fun z => hij z.1), if_neg hij] at hj
      exact hij (o.ne i j p _ w hd hj)
  obtain ⟨e1, o2⟩ := o1.know h2 h3 h4 nn
  cases u with
  | lst vs =>
    have r : Rep X.K (upd B p (.lst vs)) (.ref p) (.lst ds) := .lst upd_same (Reps.up h5 e1)
    have o3 := o2.set_im (i := i) r
    rw [set_getq h1, List.set_set] at o3
    exact (pe_var hN hv hdb hcd).w ⟨_, h1, q _ _ _ _ H h e1 o3 r⟩
  | _ => exact False.elim h5
/-- an operator on two data, the answer as a datum without objects -/
def Gives (K : PySem.W.Frag) (r : R2) (d d' d'' : D) : Prop := ∀ B G H x y, St3 B G H → Rep K B x d → Rep K B y d' → ∃ z, Rep K B z d'' ∧ ∀ Q : VK, Q z H → r x y H Q
theorem ec_op {op : Operator} {r : R2} (ho : OpR X (binaryOp op) r) (h : EC X Z a ρ fun d ρ1 => EC X Z b ρ1 fun d' ρ2 => ∃ d'', Gives X.K r d d' d'' ∧ Φ d'' ρ2) : EC X Z (.BinOp a op b pos) ρ Φ := fun B G H σ o z Q q =>
  (pe_op ho p_wE p_wE).w (h B G H σ o z _ fun d ρ1 x B1 H1 h1 e1 o1 r1 => h1 B1 G H1 σ o1 (z.up e1) _ fun d' ρ2 y B2 H2 ⟨d'', g, k⟩ e2 o2 r2 => by
    obtain ⟨w, rw_, hw⟩ := g B2 G H2 x y o2.s (r1.up e2) r2
    exact hw Q (q d'' ρ2 w B2 H2 k (e1.trans e2) o2 rw_))
theorem ec_cmp {op : CmpOp} {r : R2} (ho : OpR X (compareOp op) r) (hm : behindInMarks op b = false) (h : EC X Z a ρ fun d ρ1 => EC X Z b ρ1 fun d' ρ2 => ∃ d'', Gives X.K r d d' d'' ∧ Φ d'' ρ2) : EC X Z (.Compare a [op] [b] pos) ρ Φ := fun B G H σ o z Q q =>
  (pe_cmpR ho p_wE p_wE hm).w (h B G H σ o z _ fun d ρ1 x B1 H1 h1 e1 o1 r1 => h1 B1 G H1 σ o1 (z.up e1) _ fun d' ρ2 y B2 H2 ⟨d'', g, k⟩ e2 o2 r2 => by
    obtain ⟨w, rw_, hw⟩ := g B2 G H2 x y o2.s (r1.up e2) r2
    exact hw Q (q d'' ρ2 w B2 H2 k (e1.trans e2) o2 rw_))
variable {K : PySem.W.Frag}
theorem g_I0 {g : Int → Int → V} {f : Int → Int → D} {i j : Int} (hg : ∀ B, Rep K B (g i j) (f i j)) : Gives K (rI0 g) (.int i) (.int j) (f i j) := fun B G H x y _ r1 r2 => by
  cases r1; cases r2
  exact ⟨_, hg B, fun Q q => ⟨i, j, rfl, rfl, q⟩⟩
theorem g_I {C : Int → Int → Prop} {g : Int → Int → V} {f : Int → Int → D} {i j : Int} (hc : C i j) (hg : ∀ B, Rep K B (g i j) (f i j)) : Gives K (rI C g) (.int i) (.int j) (f i j) := fun B G H x y _ r1 r2 => by
  cases r1; cases r2
  exact ⟨_, hg B, fun Q q => ⟨i, j, rfl, rfl, hc, q⟩⟩
/-- two ints -/
theorem ec_add (h : EC X Z a ρ fun d ρ1 => EC X Z b ρ1 fun d' ρ2 => ∃ i j, d = .int i ∧ d' = .int j ∧ Φ (.int (i + j)) ρ2) : EC X Z (.BinOp a .Add b pos) ρ Φ :=
  ec_op op_add (h.mono fun d ρ1 z => z.mono fun d' ρ2 ⟨i, j, e1, e2, k⟩ => by subst e1; subst e2; exact ⟨_, g_I0 (f := fun i j => .int (i + j)) (fun B => .int _), k⟩)
theorem ec_sub (h : EC X Z a ρ fun d ρ1 => EC X Z b ρ1 fun d' ρ2 => ∃ i j, d = .int i ∧ d' = .int j ∧ Φ (.int (i - j)) ρ2) : EC X Z (.BinOp a .Sub b pos) ρ Φ :=
  ec_op op_sub (h.mono fun d ρ1 z => z.mono fun d' ρ2 ⟨i, j, e1, e2, k⟩ => by subst e1; subst e2; exact ⟨_, g_I0 (f := fun i j => .int (i - j)) (fun B => .int _), k⟩)
theorem ec_mul (h : EC X Z a ρ fun d ρ1 => EC X Z b ρ1 fun d' ρ2 => ∃ i j, d = .int i ∧ d' = .int j ∧ CMul i j ∧ Φ (.int (i * j)) ρ2) : EC X Z (.BinOp a .Mult b pos) ρ Φ :=
  ec_op op_mul (h.mono fun d ρ1 z => z.mono fun d' ρ2 ⟨i, j, e1, e2, hc, k⟩ => by subst e1; subst e2; exact ⟨_, g_I (f := fun i j => .int (i * j)) hc (fun B => .int _), k⟩)
theorem ec_mod (h : EC X Z a ρ fun d ρ1 => EC X Z b ρ1 fun d' ρ2 => ∃ i j, d = .int i ∧ d' = .int j ∧ 0 < j ∧ Φ (.int (i % j)) ρ2) : EC X Z (.BinOp a .Mod b pos) ρ Φ :=
  ec_op op_mod (h.mono fun d ρ1 z => z.mono fun d' ρ2 ⟨i, j, e1, e2, hc, k⟩ => by subst e1; subst e2; exact ⟨_, g_I (C := fun _ j => 0 < j) (f := fun i j => .int (i % j)) hc (fun B => .int _), k⟩)
theorem ec_fdiv (h : EC X Z a ρ fun d ρ1 => EC X Z b ρ1 fun d' ρ2 => ∃ i j, d = .int i ∧ d' = .int j ∧ CDiv i j ∧ Φ (.int (i / j)) ρ2) : EC X Z (.BinOp a .FloorDiv b pos) ρ Φ :=
  ec_op op_fdiv (h.mono fun d ρ1 z => z.mono fun d' ρ2 ⟨i, j, e1, e2, hc, k⟩ => by subst e1; subst e2; exact ⟨_, g_I (f := fun i j => .int (i / j)) hc (fun B => .int _), k⟩)
theorem ec_lt (h : EC X Z a ρ fun d ρ1 => EC X Z b ρ1 fun d' ρ2 => ∃ i j, d = .int i ∧ d' = .int j ∧ Φ (.bl (decide (i < j))) ρ2) : EC X Z (.Compare a [.Lt] [b] pos) ρ Φ :=
  ec_cmp op_lt (nomark _) (h.mono fun d ρ1 z => z.mono fun d' ρ2 ⟨i, j, e1, e2, k⟩ => by subst e1; subst e2; exact ⟨_, g_I0 (f := fun i j => .bl (decide (i < j))) (fun B => .bl _), k⟩)
theorem ec_le (h : EC X Z a ρ fun d ρ1 => EC X Z b ρ1 fun d' ρ2 => ∃ i j, d = .int i ∧ d' = .int j ∧ Φ (.bl (decide (i ≤ j))) ρ2) : EC X Z (.Compare a [.LtE] [b] pos) ρ Φ :=
  ec_cmp op_le (nomark _) (h.mono fun d ρ1 z => z.mono fun d' ρ2 ⟨i, j, e1, e2, k⟩ => by subst e1; subst e2; exact ⟨_, g_I0 (f := fun i j => .bl (decide (i ≤ j))) (fun B => .bl _), k⟩)
theorem ec_gt (h : EC X Z a ρ fun d ρ1 => EC X Z b ρ1 fun d' ρ2 => ∃ i j, d = .int i ∧ d' = .int j ∧ Φ (.bl (decide (j < i))) ρ2) : EC X Z (.Compare a [.Gt] [b] pos) ρ Φ :=
  ec_cmp op_gt (nomark _) (h.mono fun d ρ1 z => z.mono fun d' ρ2 ⟨i, j, e1, e2, k⟩ => by subst e1; subst e2; exact ⟨_, g_I0 (f := fun i j => .bl (decide (j < i))) (fun B => .bl _), k⟩)
theorem ec_ge (h : EC X Z a ρ fun d ρ1 => EC X Z b ρ1 fun d' ρ2 => ∃ i j, d = .int i ∧ d' = .int j ∧ Φ (.bl (decide (j ≤ i))) ρ2) : EC X Z (.Compare a [.GtE] [b] pos) ρ Φ :=
  ec_cmp op_ge (nomark _) (h.mono fun d ρ1 z => z.mono fun d' ρ2 ⟨i, j, e1, e2, k⟩ => by subst e1; subst e2; exact ⟨_, g_I0 (f := fun i j => .bl (decide (j ≤ i))) (fun B => .bl _), k⟩)
/-- two scalars alike or not: ints, texts, bools, None -/
def eqS : D → D → Option Bool
  | .int i, .int j => some (decide (i = j))
  | .str i, .str j => some (decide (i = j))
  | .bl i, .bl j => some (decide (i = j))
  | .non, .non => some true
  | _, _ => none
theorem g_eqS {d d' : D} {r : Bool} (h : eqS d d' = some r) : Gives K rEq d d' (.bl r) ∧ Gives K rNe d d' (.bl !r) := by
  cases d <;> cases d' <;> simp only [eqS] at h <;> first
    | (cases h; done)
    | (obtain rfl := Option.some.inj h
       refine ⟨fun B G H x y _ r1 r2 => ?_, fun B G H x y _ r1 r2 => ?_⟩ <;> (cases r1; cases r2; refine ⟨_, .bl _, fun Q q => ⟨rfl, ?_⟩⟩; first | exact q | (simpa using q)))
end
end AL
namespace AL
open PySem PySem.Spec PyProof.Rows L2 Evl
section
variable {X : Cx} {Z : Zx} {a b c e : Expr} {es : List Expr} {ρ : En} {Φ : D → En → Prop} {Ψ : Bool → En → Prop} {pos : Pos}
/-! ### tests -/
theorem tc_val (h : EC X Z e ρ fun d ρ1 => ∃ k, d = .bl k ∧ Ψ k ρ1) (he : ∀ whole, isTrue e X.env whole = (do let v ← whole; standAt e.pos; holding [v] (truthy v)) := by intro _; rfl) : TC X Z e ρ Ψ := fun B G H σ o z Q q =>
  (pt_val p_wE he).w (h B G H σ o z _ fun d ρ1 v B1 H1 ⟨k, hk, h1⟩ e1 o1 r1 => by
    subst hk; cases r1
    exact ⟨k, rfl, q k ρ1 B1 H1 h1 e1 o1⟩)
theorem tc_op {op : CmpOp} {r : R2} (ho : OpR X (compareOp op) r) (hm : behindInMarks op b = false) (h : EC X Z a ρ fun d ρ1 => EC X Z b ρ1 fun d' ρ2 => ∃ k, Gives X.K r d d' (.bl k) ∧ Ψ k ρ2) : TC X Z (.Compare a [op] [b] pos) ρ Ψ := fun B G H σ o z Q q =>
  (pt_cmpR ho p_wE p_wE hm).w (h B G H σ o z _ fun d ρ1 x B1 H1 h1 e1 o1 r1 => h1 B1 G H1 σ o1 (z.up e1) _ fun d' ρ2 y B2 H2 ⟨k, g, hk⟩ e2 o2 r2 => by
    obtain ⟨w, rw_, hw⟩ := g B2 G H2 x y o2.s (r1.up e2) r2
    cases rw_
    exact hw _ ⟨k, rfl, q k ρ2 B2 H2 hk (e1.trans e2) o2⟩)
theorem tc_lt (h : EC X Z a ρ fun d ρ1 => EC X Z b ρ1 fun d' ρ2 => ∃ i j, d = .int i ∧ d' = .int j ∧ Ψ (decide (i < j)) ρ2) : TC X Z (.Compare a [.Lt] [b] pos) ρ Ψ :=
  tc_op op_lt (nomark _) (h.mono fun d ρ1 z => z.mono fun d' ρ2 ⟨i, j, e1, e2, k⟩ => by subst e1; subst e2; exact ⟨_, g_I0 (f := fun i j => .bl (decide (i < j))) (fun B => .bl _), k⟩)
theorem tc_le (h : EC X Z a ρ fun d ρ1 => EC X Z b ρ1 fun d' ρ2 => ∃ i j, d = .int i ∧ d' = .int j ∧ Ψ (decide (i ≤ j)) ρ2) : TC X Z (.Compare a [.LtE] [b] pos) ρ Ψ :=
  tc_op op_le (nomark _) (h.mono fun d ρ1 z => z.mono fun d' ρ2 ⟨i, j, e1, e2, k⟩ => by subst e1; subst e2; exact ⟨_, g_I0 (f := fun i j => .bl (decide (i ≤ j))) (fun B => .bl _), k⟩)
theorem tc_gt (h : EC X Z a ρ fun d ρ1 => EC X Z b ρ1 fun d' ρ2 => ∃ i j, d = .int i ∧ d' = .int j ∧ Ψ (decide (j < i)) ρ2) : TC X Z (.Compare a [.Gt] [b] pos) ρ Ψ :=
  tc_op op_gt (nomark _) (h.mono fun d ρ1 z => z.mono fun d' ρ2 ⟨i, j, e1, e2, k⟩ => by subst e1; subst e2; exact ⟨_, g_I0 (f := fun i j => .bl (decide (j < i))) (fun B => .bl _), k⟩)
theorem tc_ge (h : EC X Z a ρ fun d ρ1 => EC X Z b ρ1 fun d' ρ2 => ∃ i j, d = .int i ∧ d' = .int j ∧ Ψ (decide (j ≤ i)) ρ2) : TC X Z (.Compare a [.GtE] [b] pos) ρ Ψ :=
  tc_op op_ge (nomark _) (h.mono fun d ρ1 z => z.mono fun d' ρ2 ⟨i, j, e1, e2, k⟩ => by subst e1; subst e2; exact ⟨_, g_I0 (f := fun i j => .bl (decide (j ≤ i))) (fun B => .bl _), k⟩)
/-- == and != of scalars -/
theorem ec_eqS (h : EC X Z a ρ fun d ρ1 => EC X Z b ρ1 fun d' ρ2 => ∃ r, eqS d d' = some r ∧ Φ (.bl r) ρ2) : EC X Z (.Compare a [.Eq] [b] pos) ρ Φ :=
  ec_cmp op_eq (nomark _) (h.mono fun d ρ1 z => z.mono fun d' ρ2 ⟨r, e1, k⟩ => ⟨_, (g_eqS e1).1, k⟩)
theorem ec_neS (h : EC X Z a ρ fun d ρ1 => EC X Z b ρ1 fun d' ρ2 => ∃ r, eqS d d' = some r ∧ Φ (.bl !r) ρ2) : EC X Z (.Compare a [.NotEq] [b] pos) ρ Φ :=
  ec_cmp op_ne (nomark _) (h.mono fun d ρ1 z => z.mono fun d' ρ2 ⟨r, e1, k⟩ => ⟨_, (g_eqS e1).2, k⟩)
theorem tc_eqS (h : EC X Z a ρ fun d ρ1 => EC X Z b ρ1 fun d' ρ2 => ∃ r, eqS d d' = some r ∧ Ψ r ρ2) : TC X Z (.Compare a [.Eq] [b] pos) ρ Ψ :=
  tc_op op_eq (nomark _) (h.mono fun d ρ1 z => z.mono fun d' ρ2 ⟨r, e1, k⟩ => ⟨_, (g_eqS e1).1, k⟩)
theorem tc_neS (h : EC X Z a ρ fun d ρ1 => EC X Z b ρ1 fun d' ρ2 => ∃ r, eqS d d' = some r ∧ Ψ (!r) ρ2) : TC X Z (.Compare a [.NotEq] [b] pos) ρ Ψ :=
  tc_op op_ne (nomark _) (h.mono fun d ρ1 z => z.mono fun d' ρ2 ⟨r, e1, k⟩ => ⟨_, (g_eqS e1).2, k⟩)
/-- is None -/
def isNonD : D → Bool
  | .non => true
  | _ => false
theorem isNonD_of {K : PySem.W.Frag} {B : Hp} {v : V} {d : D} (r : Rep K B v d) : decide (v = .non) = isNonD d := by cases r <;> simp [isNonD]
theorem ec_isN {j pos'} (h : EC X Z a ρ fun d ρ1 => Φ (.bl (isNonD d)) ρ1) : EC X Z (.Compare a [.Is] [.Constant .none j pos'] pos) ρ Φ := fun B G H σ o z Q q =>
  (pe_cmp (pc_isN p_wE) (nobehind _ (by decide) (by decide))).w (h B G H σ o z _ fun d ρ1 v B1 H1 h1 e1 o1 r1 => by rw [isNonD_of r1]; exact q _ ρ1 _ B1 H1 h1 e1 o1 (.bl _))
theorem ec_notN {j pos'} (h : EC X Z a ρ fun d ρ1 => Φ (.bl (!isNonD d)) ρ1) : EC X Z (.Compare a [.IsNot] [.Constant .none j pos'] pos) ρ Φ := fun B G H σ o z Q q =>
  (pe_cmp (pc_notN p_wE) (nobehind _ (by decide) (by decide))).w (h B G H σ o z _ fun d ρ1 v B1 H1 h1 e1 o1 r1 => by rw [isNonD_of r1]; exact q _ ρ1 _ B1 H1 h1 e1 o1 (.bl _))
theorem tc_isN {j pos'} (h : EC X Z a ρ fun d ρ1 => Ψ (isNonD d) ρ1) : TC X Z (.Compare a [.Is] [.Constant .none j pos'] pos) ρ Ψ := fun B G H σ o z Q q =>
  (pt_cmp (pc_isN p_wE) (nobehind _ (by decide) (by decide))).w (h B G H σ o z _ fun d ρ1 v B1 H1 h1 e1 o1 r1 => by rw [isNonD_of r1]; exact ⟨_, rfl, q _ ρ1 B1 H1 h1 e1 o1⟩)
theorem tc_notN {j pos'} (h : EC X Z a ρ fun d ρ1 => Ψ (!isNonD d) ρ1) : TC X Z (.Compare a [.IsNot] [.Constant .none j pos'] pos) ρ Ψ := fun B G H σ o z Q q =>
  (pt_cmp (pc_notN p_wE) (nobehind _ (by decide) (by decide))).w (h B G H σ o z _ fun d ρ1 v B1 H1 h1 e1 o1 r1 => by rw [isNonD_of r1]; exact ⟨_, rfl, q _ ρ1 B1 H1 h1 e1 o1⟩)
/-- and, or, not as tests -/
theorem tc_w (h : WC X Z e ρ Ψ) : TC X Z e ρ Ψ := fun B G H σ o z Q q => (p_wW.pt).w (h B G H σ o z Q q)
theorem wc_and1 (h : TC X Z a ρ Ψ) : WC X Z (.BoolOp .And [a] pos) ρ Ψ := fun B G H σ o z Q q => (pw_and1 p_wT).w (h B G H σ o z Q q)
theorem wc_or1 (h : TC X Z a ρ Ψ) : WC X Z (.BoolOp .Or [a] pos) ρ Ψ := fun B G H σ o z Q q => (pw_or1 p_wT).w (h B G H σ o z Q q)
theorem wc_and (h : TC X Z a ρ fun k ρ1 => (k = true → WC X Z (.BoolOp .And (b :: es) pos) ρ1 Ψ) ∧ (k = false → Ψ false ρ1)) : WC X Z (.BoolOp .And (a :: b :: es) pos) ρ Ψ := fun B G H σ o z Q q =>
  (pw_and p_wT p_wW).w (h B G H σ o z _ fun k ρ1 B1 H1 ⟨h1, h2⟩ e1 o1 => by
    cases k with
    | true => exact h1 rfl B1 G H1 σ o1 (z.up e1) Q fun k' ρ2 B2 H2 x e2 o2 => q k' ρ2 B2 H2 x (e1.trans e2) o2
    | false => exact q false ρ1 B1 H1 (h2 rfl) e1 o1)
theorem wc_or (h : TC X Z a ρ fun k ρ1 => (k = false → WC X Z (.BoolOp .Or (b :: es) pos) ρ1 Ψ) ∧ (k = true → Ψ true ρ1)) : WC X Z (.BoolOp .Or (a :: b :: es) pos) ρ Ψ := fun B G H σ o z Q q =>
  (pw_or p_wT p_wW).w (h B G H σ o z _ fun k ρ1 B1 H1 ⟨h1, h2⟩ e1 o1 => by
    cases k with
    | false => exact h1 rfl B1 G H1 σ o1 (z.up e1) Q fun k' ρ2 B2 H2 x e2 o2 => q k' ρ2 B2 H2 x (e1.trans e2) o2
    | true => exact q true ρ1 B1 H1 (h2 rfl) e1 o1)
theorem tc_not (h : TC X Z a ρ fun k ρ1 => Ψ (!k) ρ1) : TC X Z (.UnaryOp .Not a pos) ρ Ψ := fun B G H σ o z Q q => (pt_not p_wT).w (h B G H σ o z _ fun k ρ1 B1 H1 x e1 o1 => q (!k) ρ1 B1 H1 x e1 o1)
/-- .. as values -/
theorem ec_one {op} (h : EC X Z a ρ Φ) : EC X Z (.BoolOp op [a] pos) ρ Φ := fun B G H σ o z Q q => (pe_one p_wE).w (h B G H σ o z Q q)
theorem ec_and (h : EC X Z a ρ fun d ρ1 => ∃ k, d = .bl k ∧ (k = true → EC X Z (.BoolOp .And (b :: es) pos) ρ1 Φ) ∧ (k = false → Φ (.bl false) ρ1)) : EC X Z (.BoolOp .And (a :: b :: es) pos) ρ Φ := fun B G H σ o z Q q =>
  (pe_and p_wE p_wE).w (h B G H σ o z _ fun d ρ1 v B1 H1 ⟨k, hk, h1, h2⟩ e1 o1 r1 => by
    subst hk; cases r1
    refine ⟨k, rfl, ?_⟩
    cases k with
    | true => exact h1 rfl B1 G H1 σ o1 (z.up e1) Q fun d' ρ2 v' B2 H2 x e2 o2 => q d' ρ2 v' B2 H2 x (e1.trans e2) o2
    | false => exact q _ ρ1 _ B1 H1 (h2 rfl) e1 o1 (.bl _))
theorem ec_or (h : EC X Z a ρ fun d ρ1 => ∃ k, d = .bl k ∧ (k = false → EC X Z (.BoolOp .Or (b :: es) pos) ρ1 Φ) ∧ (k = true → Φ (.bl true) ρ1)) : EC X Z (.BoolOp .Or (a :: b :: es) pos) ρ Φ := fun B G H σ o z Q q =>
  (pe_or p_wE p_wE).w (h B G H σ o z _ fun d ρ1 v B1 H1 ⟨k, hk, h1, h2⟩ e1 o1 r1 => by
    subst hk; cases r1
    refine ⟨k, rfl, ?_⟩
    cases k with
    | false => exact h1 rfl B1 G H1 σ o1 (z.up e1) Q fun d' ρ2 v' B2 H2 x e2 o2 => q d' ρ2 v' B2 H2 x (e1.trans e2) o2
    | true => exact q _ ρ1 _ B1 H1 (h2 rfl) e1 o1 (.bl _))
theorem ec_not (h : EC X Z a ρ fun d ρ1 => ∃ k, d = .bl k ∧ Φ (.bl (!k)) ρ1) : EC X Z (.UnaryOp .Not a pos) ρ Φ := fun B G H σ o z Q q =>
  (pe_not p_wE).w (h B G H σ o z _ fun d ρ1 v B1 H1 ⟨k, hk, h1⟩ e1 o1 r1 => by
    subst hk; cases r1
    exact ⟨k, rfl, q _ ρ1 _ B1 H1 h1 e1 o1 (.bl _)⟩)
theorem ec_if (h : TC X Z c ρ fun k ρ1 => (k = true → EC X Z a ρ1 Φ) ∧ (k = false → EC X Z b ρ1 Φ)) : EC X Z (.IfExp c a b pos) ρ Φ := fun B G H σ o z Q q =>
  (pe_ifExp p_wT p_wE p_wE).w (h B G H σ o z _ fun k ρ1 B1 H1 ⟨h1, h2⟩ e1 o1 => by
    cases k with
    | true => exact h1 rfl B1 G H1 σ o1 (z.up e1) Q fun d' ρ2 v' B2 H2 x e2 o2 => q d' ρ2 v' B2 H2 x (e1.trans e2) o2
    | false => exact h2 rfl B1 G H1 σ o1 (z.up e1) Q fun d' ρ2 v' B2 H2 x e2 o2 => q d' ρ2 v' B2 H2 x (e1.trans e2) o2)
/-! ### arguments, displays, items, attributes -/
variable {Θ : List D → En → Prop}
theorem ac_nil (h : Θ [] ρ) : AC X Z [] ρ Θ := fun B G H σ o z Q q => pa_nil.w (q [] ρ [] B H h (Ex.refl B) o .nil)
theorem ac_cons (h : EC X Z e ρ fun d ρ1 => AC X Z es ρ1 fun ds ρ2 => Θ (d :: ds) ρ2) (hs : starEach (e :: es) X.env = (false, eval e X.env) :: starEach es X.env := by rfl) : AC X Z (e :: es) ρ Θ := fun B G H σ o z Q q =>
  (pa_cons p_wE p_wA hs).w (h B G H σ o z _ fun d ρ1 v B1 H1 h1 e1 o1 r1 => h1 B1 G H1 σ o1 (z.up e1) _ fun ds ρ2 vs B2 H2 h2 e2 o2 r2 => q (d :: ds) ρ2 (v :: vs) B2 H2 h2 (e1.trans e2) o2 (.cons (r1.up e2) r2))
theorem sz1000 {n : Nat} (h : n ≤ 100000) : n ≤ sizeLine := sz_of h
theorem ec_tup {x1} (h : AC X Z es ρ fun ds ρ1 => ds.length ≤ 100000 ∧ Φ (.tup ds) ρ1) : EC X Z (.Tuple es x1 pos) ρ Φ := fun B G H σ o z Q q =>
  (pe_tup p_wA).w (h B G H σ o z _ fun ds ρ1 vs B1 H1 ⟨hl, h1⟩ e1 o1 r1 => ⟨by rw [r1.length]; exact sz_of hl, fun p hp => by
    obtain ⟨e2, o2⟩ := o1.grow (u := .tup vs) hp
    exact q _ ρ1 _ _ _ h1 (e1.trans e2) o2 (.tup upd_same (r1.up e2))⟩)
theorem ec_lst (h : AC X Z es ρ fun ds ρ1 => ds.length ≤ 100000 ∧ Φ (.lst ds) ρ1) : EC X Z (.List es pos) ρ Φ := fun B G H σ o z Q q =>
  (pe_lst p_wA).w (h B G H σ o z _ fun ds ρ1 vs B1 H1 ⟨hl, h1⟩ e1 o1 r1 => ⟨by rw [r1.length]; exact sz_of hl, fun p hp => by
    obtain ⟨e2, o2⟩ := o1.grow (u := .lst vs) hp
    exact q _ ρ1 _ _ _ h1 (e1.trans e2) o2 (.lst upd_same (r1.up e2))⟩)
theorem fc_lst {Φ : OO → En → Prop} (h : AC X Z es ρ fun ds ρ1 => ds.length ≤ 100000 ∧ Φ (.l ds) ρ1) : FC X Z (.List es pos) ρ Φ := fun B G H σ o z Q q =>
  (pe_lst p_wA).w (h B G H σ o z _ fun ds ρ1 vs B1 H1 ⟨hl, h1⟩ e1 o1 r1 => ⟨by rw [r1.length]; exact sz_of hl, fun p hp => by
    obtain ⟨o2, hb, hg, hn⟩ := o1.fresh (u := .lst vs) hp
    exact q _ ρ1 p _ _ _ h1 e1 o2 hb hg upd_same hn r1⟩)
/-- a new object is known from now on -/
theorem ec_fc (h : FC X Z e ρ fun o ρ1 => ∃ ds, o = .l ds ∧ Φ (.lst ds) ρ1) : EC X Z e ρ Φ := fun B G H σ o z Q q =>
  h B G H σ o z Q fun o' ρ1 p u B1 H1 ⟨ds, hd, h1⟩ e1 o1 hb hg hu hn r1 => by
    subst hd
    obtain ⟨e2, o2⟩ := o1.know hb hg hu hn
    cases u with
    | lst vs => exact q _ ρ1 _ _ _ h1 (e1.trans e2) o2 (.lst upd_same (Reps.up r1 e2))
    | _ => exact False.elim r1
/-- an item of a list or tuple -/
def itemsD : D → Option (List D)
  | .lst ds => some ds
  | .tup ds => some ds
  | .ktup ds => some ds
  | .klst ds => some ds
  | _ => none
theorem atI_reps {K : PySem.W.Frag} {B : Hp} {vs : List V} {ds : List D} {i : Int} {r : D} (h : Reps K B vs ds) (ha : atI ds i = some r) : ∃ v, atI vs i = some v ∧ Rep K B v r := by
  unfold atI at ha ⊢
  rw [h.length]
  cases e : ixN ds.length i with
  | none => rw [e] at ha; cases ha
  | some j =>
    rw [e] at ha
    exact h.get' (i := j) ha
theorem ec_ix (h : EC X Z a ρ fun d ρ1 => EC X Z b ρ1 fun d' ρ2 => ∃ ds i r, itemsD d = some ds ∧ d' = .int i ∧ atI ds i = some r ∧ Φ r ρ2) (hs : PlainIx b := by exact fun _ _ => rfl) : EC X Z (.Subscript a b pos) ρ Φ := fun B G H σ o z Q q =>
  (pe_ix ix_seq p_wE p_wE hs).w (h B G H σ o z _ fun d ρ1 x B1 H1 h1 e1 o1 r1 => h1 B1 G H1 σ o1 (z.up e1) _ fun d' ρ2 y B2 H2 ⟨ds, i, r, hd, hi, ha, hk⟩ e2 o2 r2 => by
    subst hi; cases r2
    have r1 := r1.up e2
    cases r1 with
    | lst hq rs =>
      obtain rfl := Option.some.inj hd
      obtain ⟨v, hv, rv⟩ := atI_reps rs ha
      exact .inl ⟨_, _, i, v, rfl, rfl, sq_of (o2.s.ex _ _ hq), hv, q r ρ2 v B2 H2 hk (e1.trans e2) o2 rv⟩
    | tup hq rs =>
      obtain rfl := Option.some.inj hd
      obtain ⟨v, hv, rv⟩ := atI_reps rs ha
      exact .inr (.inl ⟨_, _, i, v, rfl, rfl, ex_t o2.s.ex (st_of hq), hv, q r ρ2 v B2 H2 hk (e1.trans e2) o2 rv⟩)
    | klst hq rs =>
      obtain rfl := Option.some.inj hd
      obtain ⟨v, hv, rv⟩ := atI_reps rs ha
      exact .inl ⟨_, _, i, v, rfl, rfl, ex_l o2.s.ex hq, hv, q r ρ2 v B2 H2 hk (e1.trans e2) o2 rv⟩
    | ktup hq rs =>
      obtain rfl := Option.some.inj hd
      obtain ⟨v, hv, rv⟩ := atI_reps rs ha
      exact .inr (.inl ⟨_, _, i, v, rfl, rfl, ex_t o2.s.ex hq, hv, q r ρ2 v B2 H2 hk (e1.trans e2) o2 rv⟩)
    | _ => cases hd)
/-- an item of an owned list -/
theorem ec_ixO (i : Nat) {x : Str} {p : Addr} {ds : List D} {ps : Pos} (h : EC X Z b ρ fun d' ρ2 => ρ2[i]? = some (some (.ow p (.l ds))) ∧ ∃ j r, d' = .int j ∧ atI ds j = some r ∧ Φ r ρ2) (hd : ρ[i]? = some (some (.ow p (.l ds)))) (hs : PlainIx b := by exact fun _ _ => rfl) (hN : X.N[i]? = some x := by rfl)
    (hv : Vis X.env.scope x := by first | exact Or.inl rfl | exact Or.inr (Or.inl rfl) | exact Or.inr (Or.inr rfl)) (hdb : (x == ("__debug__" : Str)) = false := by decide) (hcd : (x == ("__classdict__" : Str)) = false := by decide) : EC X Z (.Subscript (.Name x ps) b pos) ρ Φ := fun B G H σ o z Q q => by
  obtain ⟨h1, _⟩ := o.ow i p _ hd
  refine (pe_ix ix_list (pe_var hN hv hdb hcd) p_wE hs).w ⟨_, h1, ?_⟩
  refine h B G H σ o z _ fun d' ρ2 y B2 H2 ⟨hd2, j, r, hj, ha, hk⟩ e2 o2 r2 => ?_
  subst hj; cases r2
  obtain ⟨_, _, _, u, h4, h5⟩ := o2.ow i p _ hd2
  cases u with
  | lst vs =>
    obtain ⟨v, hv, rv⟩ := atI_reps h5 ha
    exact ⟨p, vs, j, v, rfl, rfl, sq_of h4, hv, q r ρ2 v B2 H2 hk e2 o2 rv⟩
  | _ => exact False.elim h5
/-- an attribute -/
theorem ec_fld {f : Str} (h : EC X Z e ρ fun d ρ1 => ∃ C gs r, d = .obj C gs ∧ Cls X.K C ∧ NoAttr X.K C f ∧ gs.lookup f = some r ∧ Φ r ρ1) (hb : attributeBase e f X.env (eval e X.env) = eval e X.env := by rfl) : EC X Z (.Attribute e f pos) ρ Φ := fun B G H σ o z Q q =>
  (pe_fld p_wE hb).w (h B G H σ o z _ fun d ρ1 v B1 H1 ⟨C, gs, r, hd, cl, na, hl, h1⟩ e1 o1 r1 => by
    subst hd
    cases r1 with
    | obj ha hf =>
      obtain ⟨w, hw, rw_⟩ := hf.lookup hl
      exact ⟨_, C, _, _, w, rfl, o1.s.ex _ _ ha, cl, na, hw, q r ρ1 w B1 H1 h1 e1 o1 rw_⟩)
/-! ### built-ins -/
theorem ec_len (h : AC X Z (e :: es) ρ fun ds ρ1 => ∃ d xs, ds = [d] ∧ itemsD d = some xs ∧ Φ (.int xs.length) ρ1) {p : Pos} (hm : X.mg "len" = none) (hg : Gl X "len" := by rfl)
    (he : starEach (e :: es) X.env = (false, eval e X.env) :: starEach es X.env := by rfl) (hpl : (backTo pos (starEach es X.env)).any (·.1) = false := by rfl) : EC X Z (.Call (.Name "len" p) (e :: es) [] pos) ρ Φ := fun B G H σ o z Q q =>
  (pe_callB call_len_seq hg hm PySem.boot_len p_wA (he := he) (hpl := hpl)).w (h B G H σ o z _ fun ds ρ1 vs B1 H1 ⟨d, xs, hd, hx, h1⟩ e1 o1 r1 => by
    subst hd
    cases r1 with
    | cons r rs =>
      cases rs
      cases r with
      | lst hq rr => obtain rfl := Option.some.inj hx; exact ⟨_, _, rfl, .inl (sq_of (o1.s.ex _ _ hq)), by rw [rr.length]; exact q _ ρ1 _ B1 H1 h1 e1 o1 (.int _)⟩
      | tup hq rr => obtain rfl := Option.some.inj hx; exact ⟨_, _, rfl, .inr (ex_t o1.s.ex (st_of hq)), by rw [rr.length]; exact q _ ρ1 _ B1 H1 h1 e1 o1 (.int _)⟩
      | klst hq rr => obtain rfl := Option.some.inj hx; exact ⟨_, _, rfl, .inl (ex_l o1.s.ex hq), by rw [rr.length]; exact q _ ρ1 _ B1 H1 h1 e1 o1 (.int _)⟩
      | ktup hq rr => obtain rfl := Option.some.inj hx; exact ⟨_, _, rfl, .inr (ex_t o1.s.ex hq), by rw [rr.length]; exact q _ ρ1 _ B1 H1 h1 e1 o1 (.int _)⟩
      | _ => cases hx)
/-- len of an owned list -/
theorem ec_lenO (i : Nat) {x : Str} {w : Addr} {ds : List D} {ps p : Pos} (hd : ρ[i]? = some (some (.ow w (.l ds)))) (h : Φ (.int ds.length) ρ) (hm : X.mg "len" = none) (hg : Gl X "len" := by rfl) (hN : X.N[i]? = some x := by rfl)
    (hv : Vis X.env.scope x := by first | exact Or.inl rfl | exact Or.inr (Or.inl rfl) | exact Or.inr (Or.inr rfl)) (hdb : (x == ("__debug__" : Str)) = false := by decide) (hcd : (x == ("__classdict__" : Str)) = false := by decide) : EC X Z (.Call (.Name "len" p) [.Name x ps] [] pos) ρ Φ := fun B G H σ o z Q q => by
  obtain ⟨h1, _, _, u, h4, h5⟩ := o.ow i w _ hd
  cases u with
  | lst vs => exact (pe_callB call_len_seq hg hm PySem.boot_len (pa_cons (pe_var hN hv hdb hcd) pa_nil)).w ⟨_, h1, w, vs, rfl, .inl (sq_of h4), by rw [Reps.length h5]; exact q _ ρ _ B H h (Ex.refl B) o (.int _)⟩
  | _ => exact False.elim h5
end

/-! ### statements -/
section
variable {X : Cx} {Z : Zx} {e c tg : Expr} {ρ : En} {O : Outs} {st : Stmt} {sts a b : List Stmt} {pos : Pos}
theorem sc_of {t : TS} (p : PS X st t) (h : ∀ B G H σ Dd, Ok X.K B G H σ ρ → RC X.K Z B G → Serves X.K B G O Dd → t { Dd with nx := wSs X sts Dd } σ H) : SC X Z (st :: sts) ρ O := fun B G H σ Dd o z s =>
  (pss_cons p p_wSs).w (h B G H σ Dd o z s)
theorem sc_nil (h : O.nx ρ) : SC X Z [] ρ O := fun B G H σ Dd o z s => pss_nil.w (s.nx ρ σ B H h (Ex.refl B) o)
/-- what follows, from a later state -/
theorem SC.go {B B' G H : Hp} {σ : L2.St} {Dd : Ends} {ρ' : En} (h : SC X Z sts ρ' O) (o : Ok X.K B' G H σ ρ') (z : RC X.K Z B G) (s : Serves X.K B G O Dd) (e : Ex B B') : wSs X sts Dd σ H := h B' G H σ Dd o (z.up e) (s.up e)
/-- x = e, a datum -/
theorem sc_set (i : Nat) {x : Str} {ps : Pos} (h : EC X Z e ρ fun d ρ1 => SC X Z sts (ρ1.set i (some (.im d))) O) (nd : X.N.Nodup) (hi : X.N[i]? = some x := by rfl) (hx : Loc X.env.scope x := by first | exact Or.inl rfl | exact Or.inr rfl)
    (hs : swapsWith e (some (.Name x ps)) pos.line X.env = pure false := by rfl) (hf : X.fn x = true ∨ X.env.scope.names.lookup x = some .local := by first | exact .inl rfl | exact .inr rfl) : SC X Z (.Assign [.Name x ps] e pos :: sts) ρ O :=
  sc_of (ps_set nd hi hx p_wE hs hf) fun B G H σ Dd o z s => h B G H σ o z _ fun d ρ1 v B1 H1 h1 e1 o1 r1 => h1.go (o1.set_im r1) z s e1
/-- x = e, a new object of the frame's own -/
theorem sc_own (i : Nat) {x : Str} {ps : Pos} (h : FC X Z e ρ fun oo ρ1 => ∀ p, SC X Z sts (ρ1.set i (some (.ow p oo))) O) (nd : X.N.Nodup) (hi : X.N[i]? = some x := by rfl) (hx : Loc X.env.scope x := by first | exact Or.inl rfl | exact Or.inr rfl)
    (hs : swapsWith e (some (.Name x ps)) pos.line X.env = pure false := by rfl) (hf : X.fn x = true ∨ X.env.scope.names.lookup x = some .local := by first | exact .inl rfl | exact .inr rfl) : SC X Z (.Assign [.Name x ps] e pos :: sts) ρ O :=
  sc_of (ps_set nd hi hx p_wE hs hf) fun B G H σ Dd o z s => h B G H σ o z _ fun oo ρ1 p u B1 H1 h1 e1 o1 hb hg hu hn r1 => (h1 p).go (o1.set_ow hb hg hu r1 fun j q hj => absurd hj (hn j q)) z s e1
theorem sc_ret (h : EC X Z e ρ fun d ρ1 => O.rt (.im d) ρ1) : SC X Z (.Return (some e) pos :: sts) ρ O :=
  sc_of (ps_ret p_wE) fun B G H σ Dd o z s => h B G H σ o z _ fun d ρ1 v B1 H1 h1 e1 o1 r1 => s.rt _ ρ1 v σ B1 H1 h1 e1 o1 r1
theorem sc_retF (h : FC X Z e ρ fun oo ρ1 => O.rt (.fr oo) ρ1) : SC X Z (.Return (some e) pos :: sts) ρ O :=
  sc_of (ps_ret p_wE) fun B G H σ Dd o z s => h B G H σ o z _ fun oo ρ1 p u B1 H1 h1 e1 o1 hb hg hu hn r1 => s.rt (.fr oo) ρ1 (.ref p) σ B1 H1 h1 e1 o1 ⟨p, u, rfl, hb, hg, hu, hn, r1⟩
theorem sc_retN (h : O.rt (.im .non) ρ) : SC X Z (.Return none pos :: sts) ρ O :=
  sc_of ps_retN fun B G H σ Dd o z s => s.rt _ ρ .non σ B H h (Ex.refl B) o .non
/-- return x, x a list of the frame's own -/
theorem sc_retO (i : Nat) {x : Str} {p : Addr} {oo : OO} {ps : Pos} (hd : ρ[i]? = some (some (.ow p oo))) (h : O.rt (.fr oo) (ρ.set i none)) (hN : X.N[i]? = some x := by rfl) (hv : Vis X.env.scope x := by first | exact Or.inl rfl | exact Or.inr (Or.inl rfl) | exact Or.inr (Or.inr rfl))
    (hdb : (x == ("__debug__" : Str)) = false := by decide) (hcd : (x == ("__classdict__" : Str)) = false := by decide) : SC X Z (.Return (some (.Name x ps)) pos :: sts) ρ O :=
  sc_of (ps_ret (pe_var hN hv hdb hcd)) fun B G H σ Dd o z s => by
    obtain ⟨h1, h2, h3, u, h4, h5⟩ := o.ow i p _ hd
    have hl : i < ρ.length := (List.getElem?_eq_some_iff.mp hd).1
    have o1 : Ok X.K B G H σ (ρ.set i none) := by
      have z1 := o.drop (i := i) (x := some (.ref p))
      rwa [set_getq h1] at z1
    exact ⟨_, h1, s.rt (.fr oo) _ _ σ B H h (Ex.refl B) o1 ⟨p, u, rfl, h2, h3, h4, fun j w hj => by
      rw [getq_set] at hj
      by_cases hij : i = j
      · subst hij; rw [if_pos ⟨rfl, hl⟩] at hj; cases hj
      · rw [if_neg (fun z => hij z.1), if_neg hij] at hj
        exact hij (o.ne i j p _ w hd hj), h5⟩⟩
theorem sc_if (h : TC X Z c ρ fun k ρ1 => (k = true → SC X Z a ρ1 { O with nx := fun ρ2 => SC X Z sts ρ2 O }) ∧ (k = false → SC X Z b ρ1 { O with nx := fun ρ2 => SC X Z sts ρ2 O })) : SC X Z (.If c a b pos :: sts) ρ O :=
  sc_of (ps_if p_wT p_wSs p_wSs) fun B G H σ Dd o z s => h B G H σ o z _ fun k ρ1 B1 H1 ⟨h1, h2⟩ e1 o1 => by
    have s' : Serves X.K B1 G { O with nx := fun ρ2 => SC X Z sts ρ2 O } { Dd with nx := wSs X sts Dd } :=
      ⟨fun ρ' σ' B' H' x e o' => x.go o' (z.up e1) (s.up e1) e, (s.up e1).rt, (s.up e1).bk, (s.up e1).ct⟩
    cases k with
    | true => exact h1 rfl B1 G H1 σ _ o1 (z.up e1) s'
    | false => exact h2 rfl B1 G H1 σ _ o1 (z.up e1) s'
theorem sc_expr (h : EC X Z e ρ fun _ ρ1 => SC X Z sts ρ1 O) (hs : swapsWith e none pos.line X.env = pure false := by rfl) : SC X Z (.Expr e pos :: sts) ρ O :=
  sc_of (ps_expr p_wE hs) fun B G H σ Dd o z s => h B G H σ o z _ fun d ρ1 v B1 H1 h1 e1 o1 r1 => h1.go o1 z s e1
theorem sc_pass (h : SC X Z sts ρ O) : SC X Z (.Pass pos :: sts) ρ O := sc_of ps_pass fun B G H σ Dd o z s => h.go o z s (Ex.refl B)
theorem sc_break (h : O.bk ρ) : SC X Z (.Break pos :: sts) ρ O := sc_of ps_break fun B G H σ Dd o z s => s.bk ρ σ B H h (Ex.refl B) o
theorem sc_cont (h : O.ct ρ) : SC X Z (.Continue pos :: sts) ρ O := sc_of ps_continue fun B G H σ Dd o z s => s.ct ρ σ B H h (Ex.refl B) o
/-- x += e, ints -/
theorem sc_addI (i : Nat) {x : Str} {ps : Pos} {n : Int} (hd : ρ[i]? = some (some (.im (.int n)))) (h : EC X Z e ρ fun d ρ1 => ∃ m, d = .int m ∧ SC X Z sts (ρ1.set i (some (.im (.int (n + m))))) O) (nd : X.N.Nodup) (hi : X.N[i]? = some x := by rfl) (hx : Loc X.env.scope x := by first | exact Or.inl rfl | exact Or.inr rfl)
    (p : ∀ te, PE X e te → PS X (.AugAssign (.Name x ps) .Add e pos) (tAug i te (ipI (· + ·))) := by exact fun te he => ps_aug (by assumption) rfl (.inl rfl) he ip_add) : SC X Z (.AugAssign (.Name x ps) .Add e pos :: sts) ρ O :=
  sc_of (p _ p_wE) fun B G H σ Dd o z s => by
    obtain ⟨v, h1, h2⟩ := o.im i _ hd
    cases h2
    exact ⟨_, h1, h B G H σ o z _ fun d ρ1 w B1 H1 ⟨m, hm, hk⟩ e1 o1 r1 => by
      subst hm; cases r1
      exact ⟨n, m, rfl, rfl, hk.go (o1.set_im (.int _)) z s e1⟩⟩
end
end AL
namespace AL
open PySem PySem.Spec PyProof.Rows L2 Evl
/-! ### targets -/
def Agree (js : List Nat) (σ σ' : L2.St) : Prop := σ'.length = σ.length ∧ ∀ k, k ∉ js → σ'[k]? = σ[k]?
theorem Agree.wipe : ∀ {vs : List Nat} {σ σ' : L2.St}, Agree vs σ σ' → L2.wipe σ' vs = L2.wipe σ vs := fun {vs σ σ'} h => by
  have key : ∀ (vs : List Nat) (σ : L2.St) (k : Nat), (L2.wipe σ vs)[k]? = if k ∈ vs then (if k < σ.length then some none else none) else σ[k]? := by
    intro vs
    induction vs with
    | nil => intro σ k; simp [L2.wipe]
    | cons v vs ih =>
      intro σ k
      show ((L2.wipe σ vs).set v none)[k]? = _
      rw [getq_set, wipe_length, ih]
      by_cases h : v = k
      · subst h; by_cases h2 : v < σ.length <;> simp [h2]
      · have h' : ¬ k = v := fun z => h z.symm
        simp [h, h']
  apply List.ext_getElem?
  intro k
  rw [key, key, h.1]
  by_cases hk : k ∈ vs
  · rw [if_pos hk, if_pos hk]
  · rw [if_neg hk, if_neg hk, h.2 k hk]
section
variable (X : Cx)
/-- a target takes a datum; only the slots js change -/
def GT (tg : Expr) (js : List Nat) (d : D) (ρ : En) (Φ : En → Prop) : Prop := ∀ B G H σ v, Ok X.K B G H σ ρ → Rep X.K B v d → ∀ Q : L2.St → Hp → Prop,
  (∀ ρ' σ' B' H', Φ ρ' → Agree js σ σ' → Ex B B' → Ok X.K B' G H' σ' ρ' → Q σ' H') → wG X tg v σ H Q
def GTs (tgs : List Expr) (js : List Nat) (ds : List D) (ρ : En) (Φ : En → Prop) : Prop := ∀ B G H σ vs, Ok X.K B G H σ ρ → Reps X.K B vs ds → ∀ Q : L2.St → Hp → Prop,
  (∀ ρ' σ' B' H', Φ ρ' → Agree js σ σ' → Ex B B' → Ok X.K B' G H' σ' ρ' → Q σ' H') → (∀ pins s us, Inv X pins σ H s → Vals vs us → wpAny (model X.prog X.w) X.A (assignInOrder ((assignEach tgs X.env).map (·.2)) us) (fun _ s' => ∃ σ' H', Inv X pins σ' H' s' ∧ Q σ' H') X.xe s)
end
section
variable {X : Cx} {Z : Zx} {tg : Expr} {tgs : List Expr} {ρ : En} {Φ : En → Prop} {d : D} {ds : List D} {pos : Pos} {js : List Nat}
theorem Agree.set {i : Nat} {σ : L2.St} {x : Option V} : Agree [i] σ (σ.set i x) := ⟨by simp, fun k hk => by rw [getq_set]; rw [if_neg (fun z => hk (by simp [z.1])), if_neg (fun z => hk (by simp [z]))]⟩
theorem gt_name (i : Nat) {x : Str} (h : Φ (ρ.set i (some (.im d)))) (nd : X.N.Nodup) (hi : X.N[i]? = some x := by rfl) (hx : Loc X.env.scope x := by first | exact Or.inl rfl | exact Or.inr rfl) (hf : X.fn x = true ∨ X.env.scope.names.lookup x = some .local := by first | exact .inl rfl | exact .inr rfl) :
    GT X (.Name x pos) [i] d ρ Φ := fun B G H σ v o r Q q => (pg_name nd hi hx hf).w (q _ _ B H h Agree.set (Ex.refl B) (o.set_im r))
theorem gts_nil (h : Φ ρ) : GTs X [] [] [] ρ Φ := fun B G H σ vs o r Q q pins s us I rv => by
  cases r
  exact pgs_nil.run pins s σ H [] us Q I rv ⟨rfl, q ρ σ B H h ⟨rfl, fun _ _ => rfl⟩ (Ex.refl B) o⟩
theorem gts_cons {js' : List Nat} (h : GT X tg js d ρ fun ρ1 => GTs X tgs js' ds ρ1 Φ) (hs : (assignEach (tg :: tgs) X.env).map (·.2) = assign tg X.env :: (assignEach tgs X.env).map (·.2) := by rfl) : GTs X (tg :: tgs) (js ++ js') (d :: ds) ρ Φ := fun B G H σ vs o r Q q pins s us I rv => by
  cases r with
  | cons r rs =>
    cases rv with
    | @cons _ _ _ us1 v1 vr =>
      rw [hs]
      refine assignInOrder_cons (thn (h B G H σ _ o r (fun σ1 H1 => ∀ pins s1, Inv X pins σ1 H1 s1 → wpAny (model X.prog X.w) X.A (assignInOrder ((assignEach tgs X.env).map (·.2)) us1) (fun _ s' => ∃ σ' H', Inv X pins σ' H' s' ∧ Q σ' H') X.xe s1) (fun ρ1 σ1 B1 H1 h1 a1 e1 o1 => ?_) pins s _ I v1) fun _ s1 ⟨σ1, H1, I1, q1⟩ => q1 pins s1 I1)
      intro pins1 s1 I1
      exact h1 B1 G H1 σ1 _ o1 (rs.up e1) Q (fun ρ2 σ2 B2 H2 x a2 e2 o2 => q ρ2 σ2 B2 H2 x ⟨a2.1.trans a1.1, fun k hk => (a2.2 k fun z => hk (List.mem_append_right _ z)).trans (a1.2 k fun z => hk (List.mem_append_left _ z))⟩ (e1.trans e2) o2) pins1 s1 _ I1 vr
theorem gt_tup {k : Nat} {es : List Expr} {n : Nat} (hd : itemsD d = some ds ∧ (∃ xs, d = .tup xs) ∧ ds.length = n) (h : GTs X es js ds ρ Φ) (hc : X.calm = true := by rfl) (hn : (assignEach es X.env).length = n := by rfl) (hst : (assignEach es X.env).findIdx? (·.1) = none := by rfl) :
    GT X (.Tuple es k pos) js d ρ Φ := fun B G H σ v o r Q q => by
  obtain ⟨hd1, ⟨xs, hx⟩, hl⟩ := hd
  subst hx
  obtain rfl := Option.some.inj hd1
  cases r with
  | tup hq rs =>
    intro pins s u I rv
    have PGS : PGs X es (fun vs σ H Q => ∀ pins s us, Inv X pins σ H s → Vals vs us → wpAny (model X.prog X.w) X.A (assignInOrder ((assignEach es X.env).map (·.2)) us) (fun _ s' => ∃ σ' H', Inv X pins σ' H' s' ∧ Q σ' H') X.xe s) :=
      ⟨fun pins s σ H vs us Q I r h => h pins s us I r⟩
    exact (pg_tup hc PGS hn hst).run pins s σ H _ u Q I rv ⟨_, _, rfl, ex_t o.s.ex (st_of hq), by rw [rs.length]; exact hl, h B G H σ _ o rs Q q⟩
end
/-! ### what is walked -/
def wI (X : Cx) (tg iter : Expr) : TI := fun σ H R => ∀ pins s, Inv X pins σ H s →
  wpAny (model X.prog X.w) X.A (eval iter X.env) (fun v s1 => wpAny (model X.prog X.w) X.A (pyIter v) (PIE X pins σ tg R) X.xe s1) X.xe s
theorem p_wI {X : Cx} {tg iter : Expr} : PI X tg iter (wI X tg iter) := ⟨fun pins s _ _ _ I h => h pins s I⟩
theorem _root_.L2.PI.w {X : Cx} {tg iter : Expr} {t : TI} (p : PI X tg iter t) {σ : L2.St} {H : Hp} {R : It → Hp → Prop} (h : t σ H R) : wI X tg iter σ H R := fun pins s I => p.run pins s σ H R I h
/-- J yields the data ds, one after the other, while B stands -/
def Walks (K : PySem.W.Frag) (B : Hp) (J : It) (ds : List D) : Prop := ∀ i B2 G2 H2 σ2 ρ2, Ex B B2 → Ok K B2 G2 H2 σ2 ρ2 →
  (∀ d, ds[i]? = some d → J.go i H2 ∧ ∀ x H', J.yld i H2 x H' → ∃ B3, Ex B2 B3 ∧ Ok K B3 G2 H' σ2 ρ2 ∧ Rep K B3 x d) ∧ (ds.length ≤ i → J.stop i H2)
def IC (X : Cx) (Z : Zx) (tg iter : Expr) (ρ : En) (Φ : List D → En → Prop) : Prop := ∀ B G H σ, Ok X.K B G H σ ρ → RC X.K Z B G → ∀ R : It → Hp → Prop,
  (∀ ds ρ' J B' H', Φ ds ρ' → Ex B B' → Ok X.K B' G H' σ ρ' → Walks X.K B' J ds → R J H') → wI X tg iter σ H R
section
variable {X : Cx} {Z : Zx} {tg e a b : Expr} {ρ : En} {Φ : List D → En → Prop} {p pos : Pos}
theorem SqL.uniq {K : PySem.W.Frag} {P : Program} {w : World} {H : Hp} {x : Addr} {xs ys : List V} (h : SqL K H x xs) (hh : ∃ o, H x = some o) (h2 : SqL K H x ys) (hb : ∀ o, K.lookup x = some o → H x = none) : xs = ys := by
  obtain ⟨o, ho⟩ := hh
  rcases h with (h | ⟨o1, h⟩) | ⟨o1, its, n, h, _⟩
  · rcases h2 with (h2 | ⟨o2, h2⟩) | ⟨o2, its2, n2, h2, _⟩
    · rw [h] at h2; cases h2; rfl
    · rw [h] at h2; cases h2
    · rw [hb _ h2] at ho; cases ho
  · rcases h2 with (h2 | ⟨o2, h2⟩) | ⟨o2, its2, n2, h2, _⟩
    · rw [h] at h2; cases h2
    · rw [h] at h2; cases h2; rfl
    · rw [hb _ h2] at ho; cases ho
  · rw [hb _ h] at ho; cases ho
theorem walks_list {K : PySem.W.Frag} {B : Hp} {x : Addr} {xs : List V} {ds : List D} (hq : SqL K B x xs) (r : Reps K B xs ds) : Walks K B (Itl K x) ds := fun i B2 G2 H2 σ2 ρ2 e o => by
  have q2 : SqL K H2 x xs := ex_l o.s.ex (ex_l e hq)
  refine ⟨fun d hd => ?_, fun hl => ⟨xs, q2, by rw [r.length]; exact hl⟩⟩
  obtain ⟨v, hv, rv⟩ := r.get' hd
  exact ⟨⟨xs, v, q2, hv⟩, fun y H' ⟨e1, e2⟩ => by subst e1; have := e2 xs q2; rw [hv] at this; cases this; exact ⟨B2, Ex.refl _, o, rv.up e⟩⟩
theorem walks_tup {K : PySem.W.Frag} {B : Hp} {x : Addr} {xs : List V} {ds : List D} (hq : SqT K B x xs) (r : Reps K B xs ds) : Walks K B (Itt K x) ds := fun i B2 G2 H2 σ2 ρ2 e o => by
  have q2 : SqT K H2 x xs := ex_t o.s.ex (ex_t e hq)
  refine ⟨fun d hd => ?_, fun hl => ⟨xs, q2, by rw [r.length]; exact hl⟩⟩
  obtain ⟨v, hv, rv⟩ := r.get' hd
  exact ⟨⟨xs, v, q2, hv⟩, fun y H' ⟨e1, e2⟩ => by subst e1; have := e2 xs q2; rw [hv] at this; cases this; exact ⟨B2, Ex.refl _, o, rv.up e⟩⟩
theorem ic_list (h : EC X Z e ρ fun d ρ1 => ∃ ds, d = .lst ds ∧ Φ ds ρ1) : IC X Z tg e ρ Φ := fun B G H σ o z R q =>
  (pi_list p_wE).w (h B G H σ o z _ fun d ρ1 v B1 H1 ⟨ds, hd, h1⟩ e1 o1 r1 => by
    subst hd
    cases r1 with
    | lst hq rs => exact ⟨_, rfl, ⟨_, sq_of (o1.s.ex _ _ hq)⟩, q ds ρ1 _ B1 H1 h1 e1 o1 (walks_list (sq_of hq) rs)⟩)
theorem ic_tup (h : EC X Z e ρ fun d ρ1 => ∃ ds, d = .tup ds ∧ Φ ds ρ1) : IC X Z tg e ρ Φ := fun B G H σ o z R q =>
  (pi_tup p_wE).w (h B G H σ o z _ fun d ρ1 v B1 H1 ⟨ds, hd, h1⟩ e1 o1 r1 => by
    subst hd
    cases r1 with
    | tup hq rs => exact ⟨_, rfl, ⟨_, ex_t o1.s.ex (st_of hq)⟩, q ds ρ1 _ B1 H1 h1 e1 o1 (walks_tup (st_of hq) rs)⟩)
/-- 0, 1, .. -/
def rngD (lo : Int) (n : Nat) : List D := (List.range n).map fun (i : Nat) => D.int (lo + (i : Int))
theorem rngD_get {lo : Int} {n i : Nat} {d : D} (h : (rngD lo n)[i]? = some d) : i < n ∧ d = .int (lo + i) := by
  unfold rngD at h
  rw [List.getElem?_map] at h
  cases e : (List.range n)[i]? with
  | none => rw [e] at h; cases h
  | some j =>
    rw [e] at h
    obtain ⟨h1, h2⟩ := List.getElem?_eq_some_iff.mp e
    simp at h1 h2 h
    subst h2
    exact ⟨h1, h.symm⟩
theorem walks_rng {K : PySem.W.Frag} {B : Hp} {lo : Int} {n : Nat} : Walks K B (Itr lo n) (rngD lo n) := fun i B2 G2 H2 σ2 ρ2 e o =>
  ⟨fun d hd => by
    obtain ⟨h1, h2⟩ := rngD_get hd
    subst h2
    exact ⟨h1, fun y H' ⟨e1, e2⟩ => by subst e1; subst e2; exact ⟨B2, Ex.refl _, o, .int _⟩⟩, fun hl => by show n ≤ i; simpa [rngD] using hl⟩
theorem ic_range (h : EC X Z a ρ fun d ρ1 => ∃ n, d = .int n ∧ n < 2 ^ 62 ∧ -(2 ^ 62) ≤ n ∧ Φ (rngD 0 n.toNat) ρ1) (hm : X.mg "range" = none) (hg : Gl X "range" := by rfl) (hs : starEach [a] X.env = [(false, eval a X.env)] := by rfl) (hs' : starEach [a] X.env = (false, eval a X.env) :: starEach [] X.env := by rfl) :
    IC X Z tg (.Call (.Name "range" p) [a] [] pos) ρ Φ := fun B G H σ o z R q =>
  (pi_range1 hg hm (pa_cons p_wE pa_nil hs') hs).w (h B G H σ o z _ fun d ρ1 v B1 H1 ⟨n, hd, l1, l2, h1⟩ e1 o1 r1 => by
    subst hd; cases r1
    exact ⟨n, rfl, l2, l1, q _ ρ1 _ B1 H1 h1 e1 o1 walks_rng⟩)
theorem ic_range2 (h : EC X Z a ρ fun d ρ1 => EC X Z b ρ1 fun d' ρ2 => ∃ m n, d = .int m ∧ d' = .int n ∧ -(2 ^ 62) ≤ m ∧ m < 2 ^ 62 ∧ -(2 ^ 62) ≤ n ∧ n < 2 ^ 62 ∧ Φ (rngD m (n - m).toNat) ρ2) (hm : X.mg "range" = none) (hg : Gl X "range" := by rfl) (hs : starEach [a, b] X.env = [(false, eval a X.env), (false, eval b X.env)] := by rfl)
    (hs2 : starEach [b] X.env = [(false, eval b X.env)] := by rfl) (hs3 : starEach [a, b] X.env = (false, eval a X.env) :: starEach [b] X.env := by rfl) (hs4 : starEach [b] X.env = (false, eval b X.env) :: starEach [] X.env := by rfl) :
    IC X Z tg (.Call (.Name "range" p) [a, b] [] pos) ρ Φ := fun B G H σ o z R q =>
  (pi_range2 hg hm (pa_cons p_wE (pa_cons p_wE pa_nil hs4) hs3) hs hs2).w (h B G H σ o z _ fun d ρ1 v B1 H1 h1 e1 o1 r1 => h1 B1 G H1 σ o1 (z.up e1) _ fun d' ρ2 v' B2 H2 ⟨m, n, hd, hd', l1, l2, l3, l4, h2⟩ e2 o2 r2 => by
    subst hd; subst hd'; cases r1; cases r2
    exact ⟨m, n, rfl, ⟨l1, l2, l3, l4⟩, q _ ρ2 _ B2 H2 h2 (e1.trans e2) o2 walks_rng⟩)
end
/-! ### for, while -/
section
variable {X : Cx} {Z : Zx} {tg iter c : Expr} {body sts : List Stmt} {ρ : En} {O : Outs} {pos : Pos}
theorem sc_for {js : List Nat} (h : IC X Z tg iter ρ fun ds ρ1 => ∃ J : Nat → En → Prop, J 0 ρ1 ∧ (∀ i d ρi, ds[i]? = some d → J i ρi → GT X tg js d ρi fun ρ2 => SC X Z body ρ2 { O with nx := J (i + 1), ct := J (i + 1), bk := fun ρ3 => SC X Z sts ρ3 O }) ∧ ∀ ρ2, J ds.length ρ2 → SC X Z sts ρ2 O)
    (hp : PassesOwn (model X.prog X.w) X.A X.env X.xe) (hc : X.calm = true := by rfl) (hs : ∀ x, foldedSetIterable iter X.env x = pure x := by intro _; rfl) : SC X Z (.For tg iter body [] pos :: sts) ρ O :=
  sc_of (ps_for hp hc p_wI p_wG p_wSs hs) fun B G H σ Dd o z s => h B G H σ o z _ fun ds ρ1 J B1 H1 ⟨W, h0, hs, hd⟩ e1 o1 wk => by
    refine ⟨fun i m σ' H' => m = ds.length - i ∧ i ≤ ds.length ∧ ∃ B' ρ', Ex B1 B' ∧ Ok X.K B' G H' σ' ρ' ∧ W i ρ', ⟨_, rfl, Nat.zero_le _, B1, ρ1, Ex.refl _, o1, h0⟩, ?_⟩
    rintro i m σ' H' ⟨rfl, hi, B', ρ', e', o', w'⟩
    obtain ⟨go, stop⟩ := wk i B' G H' σ' ρ' e' o'
    by_cases hlt : i < ds.length
    · have hget : ds[i]? = some ds[i] := by simp [hlt]
      obtain ⟨g1, g2⟩ := go _ hget
      refine .inr ⟨g1, fun σ2 H2 => ∃ B' ρ', Ex B1 B' ∧ Ok X.K B' G H2 σ2 ρ' ∧ W (i + 1) ρ', fun σ2 H2 q => ⟨ds.length - (i + 1), by omega, rfl, hlt, q⟩, fun x H2 y => ?_⟩
      obtain ⟨B3, e3, o3, r3⟩ := g2 x H2 y
      refine hs i _ ρ' hget w' B3 G H2 σ' x o3 r3 _ fun ρ4 σ4 B4 H4 h4 _ e4 o4 => ?_
      have e04 : Ex B B4 := ((e1.trans e').trans e3).trans e4
      refine h4 B4 G H4 σ4 _ o4 (z.up e04) ⟨fun ρ5 σ5 B5 H5 x e5 o5 => ⟨B5, ρ5, ((e'.trans e3).trans e4).trans e5, o5, x⟩, (s.up e04).rt, fun ρ5 σ5 B5 H5 x e5 o5 => x.go o5 z s (e04.trans e5), fun ρ5 σ5 B5 H5 x e5 o5 => ⟨B5, ρ5, ((e'.trans e3).trans e4).trans e5, o5, x⟩⟩
    · exact .inl ⟨stop (by omega), (hd ρ' (by have : i = ds.length := by omega
                                              rw [← this]; exact w')).go o' z s (e1.trans e')⟩
theorem sc_while (W : Nat → En → Prop) (m0 : Nat) (h0 : W m0 ρ) (hs : ∀ m ρ', W m ρ' → TC X Z c ρ' fun k ρ1 => (k = true → SC X Z body ρ1 { O with nx := fun ρ2 => ∃ m', m' < m ∧ W m' ρ2, ct := fun ρ2 => ∃ m', m' < m ∧ W m' ρ2, bk := fun ρ3 => SC X Z sts ρ3 O }) ∧ (k = false → SC X Z sts ρ1 O))
    (hp : PassesOwn (model X.prog X.w) X.A X.env X.xe) : SC X Z (.While c body [] pos :: sts) ρ O :=
  sc_of (ps_while hp p_wT p_wSs) fun B G H σ Dd o z s => by
    refine ⟨fun m σ' H' => ∃ B' ρ', Ex B B' ∧ Ok X.K B' G H' σ' ρ' ∧ W m ρ', ⟨m0, B, ρ, Ex.refl _, o, h0⟩, ?_⟩
    rintro m σ' H' ⟨B', ρ', e', o', w'⟩
    refine hs m ρ' w' B' G H' σ' o' (z.up e') _ fun k ρ1 B1 H1 ⟨h1, h2⟩ e1 o1 => ?_
    cases k with
    | true =>
      rw [if_pos rfl]
      refine ⟨fun σ2 H2 => ∃ B2 ρ2, Ex B B2 ∧ Ok X.K B2 G H2 σ2 ρ2 ∧ ∃ m', m' < m ∧ W m' ρ2, fun σ2 H2 ⟨B2, ρ2, e2, o2, m', hm, w2⟩ => ⟨m', hm, B2, ρ2, e2, o2, w2⟩, ?_⟩
      have e01 := e'.trans e1
      exact h1 rfl B1 G H1 σ' _ o1 (z.up e01) ⟨fun ρ5 σ5 B5 H5 x e5 o5 => ⟨B5, ρ5, e01.trans e5, o5, x⟩, (s.up e01).rt, fun ρ5 σ5 B5 H5 x e5 o5 => x.go o5 z s (e01.trans e5), fun ρ5 σ5 B5 H5 x e5 o5 => ⟨B5, ρ5, e01.trans e5, o5, x⟩⟩
    | false =>
      rw [if_neg Bool.false_ne_true]
      exact (h2 rfl).go o1 z s (e'.trans e1)
end
end AL
namespace AL
open PySem PySem.Spec PyProof.Rows L2 Evl
/-! ### comprehensions -/
def wipeE (ρ : En) : List Nat → En
  | [] => ρ
  | v :: vs => (wipeE ρ vs).set v none
theorem Ok.wipe {K : PySem.W.Frag} {B G H : Hp} {σ : L2.St} {ρ : En} (o : Ok K B G H σ ρ) : ∀ vs : List Nat, Ok K B G H (L2.wipe σ vs) (wipeE ρ vs)
  | [] => o
  | v :: vs => (o.wipe vs).drop
/-- the frame behind a comprehension: as before, its owned things as they are now -/
def BackE (ρ ρw ρ' : En) : Prop := ρ'.length = ρ.length ∧ (∀ (i : Nat) (d : D), ρ'[i]? = some (some (Sl.im d)) → ρ[i]? = some (some (Sl.im d))) ∧ ∀ (i : Nat) (a : Addr) (o : OO), ρ'[i]? = some (some (Sl.ow a o)) → ρw[i]? = some (some (Sl.ow a o)) ∧ ∃ o0, ρ[i]? = some (some (Sl.ow a o0))
theorem Ok.back {K : PySem.W.Frag} {B B0 G H H0 : Hp} {σ : L2.St} {vs : List Nat} {ρ ρw ρ' : En} (o0 : Ok K B0 G H0 σ ρ) (e : Ex B0 B) (o : Ok K B G H (L2.wipe σ vs) ρw) (h : BackE ρ ρw ρ') : Ok K B G H σ ρ' where
  s := o.s
  len := by rw [o0.len, h.1]
  im := fun i d hd => by obtain ⟨v, h1, h2⟩ := o0.im i d (h.2.1 i d hd); exact ⟨v, h1, h2.up e⟩
  ow := fun i a w hw => by
    obtain ⟨h1, w0, h2⟩ := h.2.2 i a w hw
    obtain ⟨q1, _, _, _⟩ := o0.ow i a w0 h2
    obtain ⟨_, q2, q3, q4⟩ := o.ow i a w h1
    exact ⟨q1, q2, q3, q4⟩
  ne := fun i j a w w' h1 h2 => o.ne i j a w w' (h.2.2 i a w h1).1 (h.2.2 j a w' h2).1
section
variable (X : Cx) (scope : Scope)
/-- X' is a block of X with this scope -/
def Blk (X' : Cx) : Prop := ∃ (s : Shared) (H : Hp) (C : Addr) (cl : List (Str × Addr)) (fp : List Addr), X' = X.blk s H scope (compEnvC scope cl C X.env) fp
end
/-- what holds in every block -/
def AllB (X : Cx) (scope : Scope) (P : Cx → Prop) : Prop := ∀ (s : Shared) (H : Hp) (C : Addr) (cl : List (Str × Addr)) (fp : List Addr), P (X.blk s H scope (compEnvC scope cl C X.env) fp)
section
variable {K : PySem.W.Frag} {B B' G H H' : Hp} {σ : L2.St} {ρ : En} {a : Addr} {u u' : HO}
theorem Ok.hold (o : Ok K B G H σ ρ) (hb : B a = none) (hu : H a = some u) (hn : ∀ (j : Nat) (q : OO), ρ[j]? ≠ some (some (Sl.ow a q))) : Ok K B (upd G a u) H σ ρ where
  s := ⟨o.s.ex, fun b w hw => by
    by_cases z : b = a
    · subst z; rw [upd_same] at hw; rw [hu]; exact hw
    · rw [upd_ne z] at hw; exact o.s.eg b w hw, fun b w hw => by
    by_cases z : b = a
    · subst z; exact hb
    · rw [upd_ne z] at hw; exact o.s.dj b w hw, o.s.tp⟩
  len := o.len
  im := o.im
  ow := fun i b w hw => by
    obtain ⟨q1, q2, q3, q4⟩ := o.ow i b w hw
    exact ⟨q1, q2, by rw [upd_ne (fun z => by subst z; exact hn i w hw)]; exact q3, q4⟩
  ne := o.ne
theorem wipe_wipe {σ : L2.St} {vs : List Nat} : L2.wipe (L2.wipe σ vs) vs = L2.wipe σ vs := Agree.wipe ⟨wipe_length σ vs, fun k hk => wipe_out hk⟩
theorem Ok.letGo (o : Ok K B (upd G a u) H σ ρ) (hg : G a = none) : B a = none ∧ H a = some u ∧ (∀ (j : Nat) (q : OO), ρ[j]? ≠ some (some (Sl.ow a q))) ∧ ∀ u', kn u' = false → Ok K B G (upd H a u') σ ρ := by
  have hb : B a = none := o.s.dj a u upd_same
  have hn : ∀ (j : Nat) (q : OO), ρ[j]? ≠ some (some (Sl.ow a q)) := fun j q hj => by
    obtain ⟨_, _, h3, _⟩ := o.ow j a q hj
    rw [upd_same] at h3; cases h3
  have gk : ∀ b w, G b = some w → upd G a u b = some w := fun b w hw => by rw [upd_ne (ne_of_none hw hg)]; exact hw
  refine ⟨hb, o.s.eg a u upd_same, hn, fun u' nt => ⟨⟨Ex.mut o.s.ex hb, fun b w hw => ?_, fun b w hw => o.s.dj b w (gk b w hw), fun b w hx hk => by
    by_cases z : b = a
    · subst z; rw [upd_same] at hx; cases hx; rw [nt] at hk; cases hk
    · rw [upd_ne z] at hx; exact o.s.tp b w hx hk⟩, o.len, o.im, fun i b w hw => ?_, o.ne⟩⟩
  · rw [upd_ne (ne_of_none hw hg)]
    exact o.s.eg b w (gk b w hw)
  · obtain ⟨q1, q2, q3, y, q4, q5⟩ := o.ow i b w hw
    have n : b ≠ a := fun z => by subst z; exact hn i w hw
    rw [upd_ne n] at q3
    exact ⟨q1, q2, q3, y, by rw [upd_ne n]; exact q4, q5⟩
end
section
variable {X : Cx} {Z : Zx} {elt tg iter tg1 iter1 cnd : Expr} {scope : Scope} {own : List (Str × Nat)} {pos spos py : Pos} {ρ : En} {Φ : OO → En → Prop} {O : Outs} {sts : List Stmt} {y : Str}
/-- a new object, by a wish -/
def FT (X : Cx) (Z : Zx) (t : TE) (ρ : En) (Φ : OO → En → Prop) : Prop := ∀ B G H σ, Ok X.K B G H σ ρ → RC X.K Z B G → ∀ Q : VK,
  (∀ o ρ' a u B' H', Φ o ρ' → Ex B B' → Ok X.K B' G H' σ ρ' → B' a = none → G a = none → H' a = some u → (∀ (j : Nat) (q : OO), ρ'[j]? ≠ some (some (Sl.ow a q))) → RepO X.K B' u o → Q (.ref a) H') → t σ H Q
/-- [elt for tg in iter] -/
theorem fc_lc_te (own : List (Str × Nat)) (js : List Nat) (h : IC X Z tg iter ρ fun ds ρ1 => ∃ (R : Nat → En) (out : Nat → List D) (ρ2 : En), R 0 = wipeE ρ1 (own.map (·.2)) ∧ out 0 = [] ∧ (∀ i, i ≤ ds.length → (out i).length ≤ 50000) ∧
      (∀ i d, ds[i]? = some d → AllB X scope fun X' => GT X' tg js d (R i) fun ρ3 => AllB X scope fun X' => EC X' Z0 elt ρ3 fun y ρ4 => out (i + 1) = out i ++ [y] ∧ wipeE ρ4 (own.map (·.2)) = R (i + 1)) ∧ BackE ρ1 (R ds.length) ρ2 ∧ Φ (.l (out ds.length)) ρ2)
    (hjs : ∀ j ∈ js, j ∈ own.map (·.2)) : FT X Z (tLc (wI X tg iter) (fun v σ H Q => AllB X scope fun X' => wG X' tg v σ H Q) (tYes) (fun σ H Q => AllB X scope fun X' => wE X' elt σ H Q) (own.map (·.2))) ρ Φ := fun B G H σ o z Q q => by
  refine h B G H σ o z _ fun ds ρ1 J B1 H1 ⟨R, out, ρ2, hR, ho, hl, ht, hb, hk⟩ e1 o1 wk => ?_
  intro Dl hD
  obtain ⟨of, hBn, hGn, hnn⟩ := o1.fresh (u := .lst []) hD
  have hB1 : B1 Dl = none := fresh_back o1.s.ex hD
  have ow0 := of.wipe (own.map (·.2))
  rw [← hR] at ow0
  have nwipe : ∀ (vs : List Nat) (j : Nat) (q : OO), (wipeE ρ1 vs)[j]? ≠ some (some (Sl.ow Dl q)) := by
    intro vs
    induction vs with
    | nil => exact hnn
    | cons v vs ih =>
      intro j q hj
      have hj' : ((wipeE ρ1 vs).set v none)[j]? = some (some (Sl.ow Dl q)) := hj
      rw [getq_set] at hj'
      split at hj'
      · simp at hj'
      · split at hj'
        · simp at hj'
        · exact ih j q hj'
  have nwip2 : ∀ (ρ : En), (∀ (j : Nat) (q : OO), ρ[j]? ≠ some (some (Sl.ow Dl q))) → ∀ (vs : List Nat) (j : Nat) (q : OO), (wipeE ρ vs)[j]? ≠ some (some (Sl.ow Dl q)) := by
    intro ρ hnn vs
    induction vs with
    | nil => exact hnn
    | cons v vs ih =>
      intro j q hj
      have hj' : ((wipeE ρ vs).set v none)[j]? = some (some (Sl.ow Dl q)) := hj
      rw [getq_set] at hj'
      split at hj'
      · simp at hj'
      · split at hj'
        · simp at hj'
        · exact ih j q hj'
  refine ⟨fun i m H' => m = ds.length - i ∧ i ≤ ds.length ∧ ∃ B' u, Ex B1 B' ∧ Ok X.K B' G H' (L2.wipe σ (own.map (·.2))) (R i) ∧ B' Dl = none ∧ H' Dl = some (.lst u) ∧ Reps X.K B' u (out i) ∧ ∀ (j : Nat) (q : OO), (R i)[j]? ≠ some (some (Sl.ow Dl q)), ⟨_, rfl, Nat.zero_le _, B1, [], Ex.refl _, ow0, hB1, upd_same, by rw [ho]; exact .nil, by rw [hR]; exact nwipe _⟩, ?_⟩
  rintro i m H' ⟨rfl, hi, B', u, e', o', hb', hu', r', n'⟩
  have oh := o'.hold hb' hu' n'
  by_cases hlt : i < ds.length
  · have hget : ds[i]? = some ds[i] := by simp [hlt]
    obtain ⟨g1, g2⟩ := (wk i B' _ H' _ (R i) e' oh).1 _ hget
    refine .inr ⟨g1, fun H' => ∃ B' u, Ex B1 B' ∧ Ok X.K B' G H' (L2.wipe σ (own.map (·.2))) (R (i + 1)) ∧ B' Dl = none ∧ H' Dl = some (.lst u) ∧ Reps X.K B' u (out (i + 1)) ∧ ∀ (j : Nat) (q : OO), (R (i + 1))[j]? ≠ some (some (Sl.ow Dl q)), fun H' x => ⟨ds.length - (i + 1), by omega, rfl, hlt, x⟩, fun x H2 y => ?_⟩
    obtain ⟨B3, e3, o3, r3⟩ := g2 x H2 y
    intro s H0 C cl fp
    refine ht i _ hget s H0 C cl fp B3 _ H2 _ x o3 r3 _ fun ρ3 σ3 B4 H4 h4 ag e4 o4 => ?_
    have hw : L2.wipe σ3 (own.map (·.2)) = L2.wipe (L2.wipe σ (own.map (·.2))) (own.map (·.2)) := Agree.wipe ⟨ag.1, fun k hk => ag.2 k fun z => hk (hjs k z)⟩
    rw [wipe_wipe] at hw
    refine ⟨hw, ?_⟩
    show (AllB X scope fun X' => wE X' elt σ3 H4 _)
    intro s5 H5 C5 cl5 fp5
    refine h4 s5 H5 C5 cl5 fp5 B4 _ H4 σ3 o4 RC.none _ fun y ρ4 v B5 H5 ⟨hy, hR5⟩ e5 o5 r5 => ?_
    obtain ⟨l1, l2, l3, l4⟩ := o5.letGo (fresh_back o1.s.eg hD)
    have hl5 := hl i hi
    have e35 : Ex B' B5 := (e3.trans e4).trans e5
    refine ⟨u, l2, sz_lt (by rw [r'.length]; omega), B5, u ++ [v], e'.trans e35, ?_, l1, upd_same, by rw [hy]; exact (r'.up e35).app (.cons r5 .nil), fun j w hj => ?_⟩
    · have z5 := (l4 (.lst (u ++ [v])) rfl).wipe (own.map (·.2))
      rw [hw, hR5] at z5
      exact z5
    · rw [← hR5] at hj
      exact nwip2 ρ4 l3 _ j w hj
  · have hii : i = ds.length := by omega
    subst hii
    exact .inl ⟨(wk _ B' G H' _ _ e' o').2 (Nat.le_refl _), q _ ρ2 Dl _ B' H' hk (e1.trans e') (o1.back e' o' hb) hb' (fresh_back o1.s.eg hD) hu' (fun j w hj => n' j w (hb.2.2 j Dl w hj).1) r'⟩
theorem fc_lc (own : List (Str × Nat)) (js : List Nat) (h : IC X Z tg iter ρ fun ds ρ1 => ∃ (R : Nat → En) (out : Nat → List D) (ρ2 : En), R 0 = wipeE ρ1 (own.map (·.2)) ∧ out 0 = [] ∧ (∀ i, i ≤ ds.length → (out i).length ≤ 50000) ∧
      (∀ i d, ds[i]? = some d → AllB X scope fun X' => GT X' tg js d (R i) fun ρ3 => AllB X scope fun X' => EC X' Z0 elt ρ3 fun y ρ4 => out (i + 1) = out i ++ [y] ∧ wipeE ρ4 (own.map (·.2)) = R (i + 1)) ∧ BackE ρ1 (R ds.length) ρ2 ∧ Φ (.l (out ds.length)) ρ2)
    (nd : X.N.Nodup) (hjs : ∀ j ∈ js, j ∈ own.map (·.2)) (ok : BlkOk X.N X.env.scope scope own := by exact blkOk_by (by first | decide +kernel | kernel_rfl)) (hc : X.calm = true := by rfl) (hs : ∀ x, foldedSetIterable iter X.env x = pure x := by intro _; rfl) :
    FC X Z (.ListComp elt [⟨tg, iter, [], 0⟩] scope pos) ρ Φ := fun B G H σ o z Q q => (pe_lc (g := fun v σ H Q => AllB X scope fun X' => wG X' tg v σ H Q) (tt := tYes) (te := fun σ H Q => AllB X scope fun X' => wE X' elt σ H Q) hc nd p_wI ok (fun s H C cl fp => ⟨fun pins s2 σ2 H2 v u Q2 I r h => h s H C cl fp pins s2 u I r⟩) (fun _ _ _ _ _ => pts_nil)
    (fun s H C cl fp => ⟨fun pins s2 σ2 H2 Q2 I h => h s H C cl fp pins s2 I⟩) hs).w (fc_lc_te own js h hjs B G H σ o z Q q)
/-- the same, assigned -/
theorem sc_lc (i : Nat) (own : List (Str × Nat)) (js : List Nat) (h : IC X Z tg iter ρ fun ds ρ1 => ∃ (R : Nat → En) (out : Nat → List D) (ρ2 : En), R 0 = wipeE ρ1 (own.map (·.2)) ∧ out 0 = [] ∧ (∀ i, i ≤ ds.length → (out i).length ≤ 50000) ∧
      (∀ i d, ds[i]? = some d → AllB X scope fun X' => GT X' tg js d (R i) fun ρ3 => AllB X scope fun X' => EC X' Z0 elt ρ3 fun y ρ4 => out (i + 1) = out i ++ [y] ∧ wipeE ρ4 (own.map (·.2)) = R (i + 1)) ∧ BackE ρ1 (R ds.length) ρ2 ∧ ∀ p, SC X Z sts (ρ2.set i (some (.ow p (.l (out ds.length))))) O)
    (nd : X.N.Nodup) (hjs : ∀ j ∈ js, j ∈ own.map (·.2)) (ok : BlkOk X.N X.env.scope scope own := by exact blkOk_by (by first | decide +kernel | kernel_rfl)) (hc : X.calm = true := by rfl) (hs : ∀ x, foldedSetIterable iter X.env x = pure x := by intro _; rfl)
    (hy : X.N[i]? = some y := by rfl) (hyl : X.env.scope.names.lookup y = some .local := by rfl) (hsw : swapsWith (.ListComp elt [⟨tg, iter, [], 0⟩] scope pos) (some (.Name y py)) spos.line X.env = pure true := by rfl) :
    SC X Z (.Assign [.Name y py] (.ListComp elt [⟨tg, iter, [], 0⟩] scope pos) spos :: sts) ρ O :=
  sc_of (ps_setLc (g := fun v σ H Q => AllB X scope fun X' => wG X' tg v σ H Q) (tt := tYes) (te := fun σ H Q => AllB X scope fun X' => wE X' elt σ H Q) hc nd hy hyl hsw p_wI ok (fun s H C cl fp => ⟨fun pins s2 σ2 H2 v u Q2 I r h => h s H C cl fp pins s2 u I r⟩) (fun _ _ _ _ _ => pts_nil)
    (fun s H C cl fp => ⟨fun pins s2 σ2 H2 Q2 I h => h s H C cl fp pins s2 I⟩) hs) fun B G H σ Dd o z sv => fc_lc_te (Φ := fun oo ρ2 => ∀ p, SC X Z sts (ρ2.set i (some (.ow p oo))) O) own js h hjs B G H σ o z _ fun oo ρ1 p u B1 H1 h1 e1 o1 hb hg hu hn r1 => (h1 p).go (o1.set_ow hb hg hu r1 fun j q hj => absurd hj (hn j q)) z sv e1

/-- [elt for tg in iter if cnd] -/
theorem fc_lcIf_te (own : List (Str × Nat)) (js : List Nat) (h : IC X Z tg iter ρ fun ds ρ1 => ∃ (R : Nat → En) (out : Nat → List D) (ρ2 : En), R 0 = wipeE ρ1 (own.map (·.2)) ∧ out 0 = [] ∧ (∀ i, i ≤ ds.length → (out i).length ≤ 50000) ∧
      (∀ i d, ds[i]? = some d → AllB X scope fun X' => GT X' tg js d (R i) fun ρ3 => AllB X scope fun X' => TC X' Z0 cnd ρ3 fun k ρ5 => (k = true → AllB X scope fun X' => EC X' Z0 elt ρ5 fun y ρ4 => out (i + 1) = out i ++ [y] ∧ wipeE ρ4 (own.map (·.2)) = R (i + 1)) ∧ (k = false → out (i + 1) = out i ∧ wipeE ρ5 (own.map (·.2)) = R (i + 1))) ∧ BackE ρ1 (R ds.length) ρ2 ∧ Φ (.l (out ds.length)) ρ2)
    (hjs : ∀ j ∈ js, j ∈ own.map (·.2)) : FT X Z (tLc (wI X tg iter) (fun v σ H Q => AllB X scope fun X' => wG X' tg v σ H Q) (fun σ H Q => AllB X scope fun X' => wT X' cnd σ H Q) (fun σ H Q => AllB X scope fun X' => wE X' elt σ H Q) (own.map (·.2))) ρ Φ := fun B G H σ o z Q q => by
  refine h B G H σ o z _ fun ds ρ1 J B1 H1 ⟨R, out, ρ2, hR, ho, hl, ht, hb, hk⟩ e1 o1 wk => ?_
  intro Dl hD
  obtain ⟨of, hBn, hGn, hnn⟩ := o1.fresh (u := .lst []) hD
  have hB1 : B1 Dl = none := fresh_back o1.s.ex hD
  have ow0 := of.wipe (own.map (·.2))
  rw [← hR] at ow0
  have nwipe : ∀ (vs : List Nat) (j : Nat) (q : OO), (wipeE ρ1 vs)[j]? ≠ some (some (Sl.ow Dl q)) := by
    intro vs
    induction vs with
    | nil => exact hnn
    | cons v vs ih =>
      intro j q hj
      have hj' : ((wipeE ρ1 vs).set v none)[j]? = some (some (Sl.ow Dl q)) := hj
      rw [getq_set] at hj'
      split at hj'
      · simp at hj'
      · split at hj'
        · simp at hj'
        · exact ih j q hj'
  have nwip2 : ∀ (ρ : En), (∀ (j : Nat) (q : OO), ρ[j]? ≠ some (some (Sl.ow Dl q))) → ∀ (vs : List Nat) (j : Nat) (q : OO), (wipeE ρ vs)[j]? ≠ some (some (Sl.ow Dl q)) := by
    intro ρ hnn vs
    induction vs with
    | nil => exact hnn
    | cons v vs ih =>
      intro j q hj
      have hj' : ((wipeE ρ vs).set v none)[j]? = some (some (Sl.ow Dl q)) := hj
      rw [getq_set] at hj'
      split at hj'
      · simp at hj'
      · split at hj'
        · simp at hj'
        · exact ih j q hj'
  refine ⟨fun i m H' => m = ds.length - i ∧ i ≤ ds.length ∧ ∃ B' u, Ex B1 B' ∧ Ok X.K B' G H' (L2.wipe σ (own.map (·.2))) (R i) ∧ B' Dl = none ∧ H' Dl = some (.lst u) ∧ Reps X.K B' u (out i) ∧ ∀ (j : Nat) (q : OO), (R i)[j]? ≠ some (some (Sl.ow Dl q)), ⟨_, rfl, Nat.zero_le _, B1, [], Ex.refl _, ow0, hB1, upd_same, by rw [ho]; exact .nil, by rw [hR]; exact nwipe _⟩, ?_⟩
  rintro i m H' ⟨rfl, hi, B', u, e', o', hb', hu', r', n'⟩
  have oh := o'.hold hb' hu' n'
  by_cases hlt : i < ds.length
  · have hget : ds[i]? = some ds[i] := by simp [hlt]
    obtain ⟨g1, g2⟩ := (wk i B' _ H' _ (R i) e' oh).1 _ hget
    refine .inr ⟨g1, fun H' => ∃ B' u, Ex B1 B' ∧ Ok X.K B' G H' (L2.wipe σ (own.map (·.2))) (R (i + 1)) ∧ B' Dl = none ∧ H' Dl = some (.lst u) ∧ Reps X.K B' u (out (i + 1)) ∧ ∀ (j : Nat) (q : OO), (R (i + 1))[j]? ≠ some (some (Sl.ow Dl q)), fun H' x => ⟨ds.length - (i + 1), by omega, rfl, hlt, x⟩, fun x H2 y => ?_⟩
    obtain ⟨B3, e3, o3, r3⟩ := g2 x H2 y
    intro s H0 C cl fp
    refine ht i _ hget s H0 C cl fp B3 _ H2 _ x o3 r3 _ fun ρ3 σ3 B4 H4 h4 ag e4 o4 => ?_
    have hw : L2.wipe σ3 (own.map (·.2)) = L2.wipe (L2.wipe σ (own.map (·.2))) (own.map (·.2)) := Agree.wipe ⟨ag.1, fun k hk => ag.2 k fun z => hk (hjs k z)⟩
    rw [wipe_wipe] at hw
    refine ⟨hw, ?_⟩
    show (AllB X scope fun X' => wT X' cnd σ3 H4 _)
    intro s5 H5 C5 cl5 fp5
    refine h4 s5 H5 C5 cl5 fp5 B4 _ H4 σ3 o4 RC.none _ fun k ρ6 B6 H6 ⟨hk1, hk2⟩ e6 o6 => ?_
    cases k with
    | true =>
      rw [if_pos rfl]
      show (AllB X scope fun X' => wE X' elt σ3 H6 _)
      intro s5 H5 C5 cl5 fp5
      refine hk1 rfl s5 H5 C5 cl5 fp5 B6 _ H6 σ3 o6 RC.none _ fun y ρ4 v B5 H5 ⟨hy, hR5⟩ e5 o5 r5 => ?_
      obtain ⟨l1, l2, l3, l4⟩ := o5.letGo (fresh_back o1.s.eg hD)
      have hl5 := hl i hi
      have e35 : Ex B' B5 := ((e3.trans e4).trans e6).trans e5
      refine ⟨u, l2, sz_lt (by rw [r'.length]; omega), B5, u ++ [v], e'.trans e35, ?_, l1, upd_same, by rw [hy]; exact (r'.up e35).app (.cons r5 .nil), fun j w hj => ?_⟩
      · have z5 := (l4 (.lst (u ++ [v])) rfl).wipe (own.map (·.2))
        rw [hw, hR5] at z5
        exact z5
      · rw [← hR5] at hj
        exact nwip2 ρ4 l3 _ j w hj
    | false =>
      rw [if_neg Bool.false_ne_true]
      obtain ⟨hy, hR5⟩ := hk2 rfl
      obtain ⟨l1, l2, l3, l4⟩ := o6.letGo (fresh_back o1.s.eg hD)
      have e36 : Ex B' B6 := (e3.trans e4).trans e6
      refine ⟨B6, u, e'.trans e36, ?_, l1, l2, by rw [hy]; exact r'.up e36, fun j w hj => ?_⟩
      · have z5 := (l4 (.lst u) rfl).wipe (own.map (·.2))
        rw [hw, hR5] at z5
        have eu : upd H6 Dl (.lst u) = H6 := by
          funext b
          by_cases hb : b = Dl
          · subst hb; rw [upd_same, l2]
          · rw [upd_ne hb]
        rw [eu] at z5
        exact z5
      · rw [← hR5] at hj
        exact nwip2 ρ6 l3 _ j w hj
  · have hii : i = ds.length := by omega
    subst hii
    exact .inl ⟨(wk _ B' G H' _ _ e' o').2 (Nat.le_refl _), q _ ρ2 Dl _ B' H' hk (e1.trans e') (o1.back e' o' hb) hb' (fresh_back o1.s.eg hD) hu' (fun j w hj => n' j w (hb.2.2 j Dl w hj).1) r'⟩
theorem fc_lcIf (own : List (Str × Nat)) (js : List Nat) (h : IC X Z tg iter ρ fun ds ρ1 => ∃ (R : Nat → En) (out : Nat → List D) (ρ2 : En), R 0 = wipeE ρ1 (own.map (·.2)) ∧ out 0 = [] ∧ (∀ i, i ≤ ds.length → (out i).length ≤ 50000) ∧
      (∀ i d, ds[i]? = some d → AllB X scope fun X' => GT X' tg js d (R i) fun ρ3 => AllB X scope fun X' => TC X' Z0 cnd ρ3 fun k ρ5 => (k = true → AllB X scope fun X' => EC X' Z0 elt ρ5 fun y ρ4 => out (i + 1) = out i ++ [y] ∧ wipeE ρ4 (own.map (·.2)) = R (i + 1)) ∧ (k = false → out (i + 1) = out i ∧ wipeE ρ5 (own.map (·.2)) = R (i + 1))) ∧ BackE ρ1 (R ds.length) ρ2 ∧ Φ (.l (out ds.length)) ρ2)
    (nd : X.N.Nodup) (hjs : ∀ j ∈ js, j ∈ own.map (·.2)) (ok : BlkOk X.N X.env.scope scope own := by exact blkOk_by (by first | decide +kernel | kernel_rfl)) (hc : X.calm = true := by rfl) (hs : ∀ x, foldedSetIterable iter X.env x = pure x := by intro _; rfl) :
    FC X Z (.ListComp elt [⟨tg, iter, [cnd], 0⟩] scope pos) ρ Φ := fun B G H σ o z Q q => (pe_lc (g := fun v σ H Q => AllB X scope fun X' => wG X' tg v σ H Q) (tt := fun σ H Q => AllB X scope fun X' => wT X' cnd σ H Q) (te := fun σ H Q => AllB X scope fun X' => wE X' elt σ H Q) hc nd p_wI ok (fun s H C cl fp => ⟨fun pins s2 σ2 H2 v u Q2 I r h => h s H C cl fp pins s2 u I r⟩) (fun s H C cl fp => pts_one ⟨fun pins s2 σ2 H2 Q2 I h => h s H C cl fp pins s2 I⟩)
    (fun s H C cl fp => ⟨fun pins s2 σ2 H2 Q2 I h => h s H C cl fp pins s2 I⟩) hs).w (fc_lcIf_te own js h hjs B G H σ o z Q q)
/-- the same, assigned -/
theorem sc_lcIf (i : Nat) (own : List (Str × Nat)) (js : List Nat) (h : IC X Z tg iter ρ fun ds ρ1 => ∃ (R : Nat → En) (out : Nat → List D) (ρ2 : En), R 0 = wipeE ρ1 (own.map (·.2)) ∧ out 0 = [] ∧ (∀ i, i ≤ ds.length → (out i).length ≤ 50000) ∧
      (∀ i d, ds[i]? = some d → AllB X scope fun X' => GT X' tg js d (R i) fun ρ3 => AllB X scope fun X' => TC X' Z0 cnd ρ3 fun k ρ5 => (k = true → AllB X scope fun X' => EC X' Z0 elt ρ5 fun y ρ4 => out (i + 1) = out i ++ [y] ∧ wipeE ρ4 (own.map (·.2)) = R (i + 1)) ∧ (k = false → out (i + 1) = out i ∧ wipeE ρ5 (own.map (·.2)) = R (i + 1))) ∧ BackE ρ1 (R ds.length) ρ2 ∧ ∀ p, SC X Z sts (ρ2.set i (some (.ow p (.l (out ds.length))))) O)
    (nd : X.N.Nodup) (hjs : ∀ j ∈ js, j ∈ own.map (·.2)) (ok : BlkOk X.N X.env.scope scope own := by exact blkOk_by (by first | decide +kernel | kernel_rfl)) (hc : X.calm = true := by rfl) (hs : ∀ x, foldedSetIterable iter X.env x = pure x := by intro _; rfl)
    (hy : X.N[i]? = some y := by rfl) (hyl : X.env.scope.names.lookup y = some .local := by rfl) (hsw : swapsWith (.ListComp elt [⟨tg, iter, [cnd], 0⟩] scope pos) (some (.Name y py)) spos.line X.env = pure true := by rfl) :
    SC X Z (.Assign [.Name y py] (.ListComp elt [⟨tg, iter, [cnd], 0⟩] scope pos) spos :: sts) ρ O :=
  sc_of (ps_setLc (g := fun v σ H Q => AllB X scope fun X' => wG X' tg v σ H Q) (tt := fun σ H Q => AllB X scope fun X' => wT X' cnd σ H Q) (te := fun σ H Q => AllB X scope fun X' => wE X' elt σ H Q) hc nd hy hyl hsw p_wI ok (fun s H C cl fp => ⟨fun pins s2 σ2 H2 v u Q2 I r h => h s H C cl fp pins s2 u I r⟩) (fun s H C cl fp => pts_one ⟨fun pins s2 σ2 H2 Q2 I h => h s H C cl fp pins s2 I⟩)
    (fun s H C cl fp => ⟨fun pins s2 σ2 H2 Q2 I h => h s H C cl fp pins s2 I⟩) hs) fun B G H σ Dd o z sv => fc_lcIf_te (Φ := fun oo ρ2 => ∀ p, SC X Z sts (ρ2.set i (some (.ow p oo))) O) own js h hjs B G H σ o z _ fun oo ρ1 p u B1 H1 h1 e1 o1 hb hg hu hn r1 => (h1 p).go (o1.set_ow hb hg hu r1 fun j q hj => absurd hj (hn j q)) z sv e1

end
end AL
namespace AL
open PySem PySem.Spec PyProof.Rows L2 Evl
/-! ### promises of defs -/
inductive Oc where
  | ret (r : Rs) (as : List Sl) | raise (C : Addr) (fs : List (Str × D))
/-- a promise: of the arguments and what is wanted of the outcome -/
abbrev Pr := List Sl → (Oc → Prop) → Prop
/-- owned arguments stay at their addresses -/
inductive SameSl : List Sl → List Sl → Prop where
  | nil : SameSl [] []
  | im {d : D} {as bs : List Sl} : SameSl as bs → SameSl (.im d :: as) (.im d :: bs)
  | ow {a : Addr} {o o' : OO} {as bs : List Sl} : SameSl as bs → SameSl (.ow a o :: as) (.ow a o' :: bs)
theorem SameSl.length : ∀ {as bs : List Sl}, SameSl as bs → as.length = bs.length
  | _, _, .nil => rfl
  | _, _, .im h => by simp [h.length]
  | _, _, .ow h => by simp [h.length]
theorem SameSl.refl : ∀ as : List Sl, SameSl as as
  | [] => .nil
  | .im d :: as => .im (.refl as)
  | .ow a o :: as => .ow (.refl as)
theorem SameSl.im' : ∀ {as bs : List Sl} {i : Nat} {d : D}, SameSl as bs → bs[i]? = some (.im d) → as[i]? = some (.im d)
  | _, _, i, d, .nil, h => by simp at h
  | _, _, 0, d, .im h, e => by simpa using e
  | _, _, i + 1, d, .im h, e => by simpa using h.im' (i := i) (by simpa using e)
  | _, _, 0, d, .ow h, e => by simp at e
  | _, _, i + 1, d, .ow h, e => by simpa using h.im' (i := i) (by simpa using e)
theorem SameSl.ow' : ∀ {as bs : List Sl} {i : Nat} {a : Addr} {o : OO}, SameSl as bs → bs[i]? = some (.ow a o) → ∃ o', as[i]? = some (.ow a o')
  | _, _, i, a, o, .nil, h => by simp at h
  | _, _, 0, a, o, .im h, e => by simp at e
  | _, _, i + 1, a, o, .im h, e => by simpa using h.ow' (i := i) (by simpa using e)
  | _, _, 0, a, o, .ow (o := o') h, e => by simp at e; exact ⟨o', by simp [e.1]⟩
  | _, _, i + 1, a, o, .ow h, e => by simpa using h.ow' (i := i) (by simpa using e)
def OcOk (K : PySem.W.Frag) (B G : Hp) (vs : List V) (Q : VK) (E : XK) : Oc → Prop
  | .ret r as' => ∀ v B' H', Ex B B' → Ok K B' G H' (vs.map some) (as'.map some) → RsR K B' G H' (as'.map some) v r → Q v H'
  | .raise C fs => ∀ dd B' H', Ex B B' → St3 B' G H' → ErR K B' H' fs dd → E (.ref C) dd H'
def Csp (K : PySem.W.Frag) (P : Pr) : Sp := fun vs H Q E => ∃ B G as, Ok K B G H (vs.map some) (as.map some) ∧ P as (OcOk K B G vs Q E)
/-- the ends of a body that serve a wish about outcomes -/
def OutsOf (as : List Sl) (Φ : Oc → Prop) : Outs where
  nx := fun ρ' => ∃ as', SameSl as as' ∧ Φ (.ret (.im .non) as') ∧ ∀ (i : Nat) (a : Addr) (o : OO), as'[i]? = some (Sl.ow a o) → ρ'[i]? = some (some (Sl.ow a o))
  rt := fun r ρ' => ∃ as', SameSl as as' ∧ Φ (.ret r as') ∧ ∀ (i : Nat) (a : Addr) (o : OO), as'[i]? = some (Sl.ow a o) → ρ'[i]? = some (some (Sl.ow a o))
def startE (n : Nat) (as : List Sl) : En := as.map some ++ List.replicate (n - as.length) none
section
variable {K : PySem.W.Frag} {B B' B0 G H H' H0 : Hp} {σ : L2.St} {ρ : En} {vs : List V} {as as' : List Sl}
theorem mapq {α : Type} {l : List α} {i : Nat} {x : α} : (l.map some)[i]? = some (some x) ↔ l[i]? = some x := by
  rw [List.getElem?_map]
  cases l[i]? <;> simp
theorem Ok.pad (o : Ok K B G H (vs.map some) (as.map some)) (N : List Str) : Ok K B G H (start N vs) (startE N.length as) := by
  have hl : vs.length = as.length := by have := o.len; simpa using this
  have key : ∀ {α : Type} (l : List α) (m i : Nat) (x : α), (l.map some ++ List.replicate m (none : Option α))[i]? = some (some x) → (l.map some)[i]? = some (some x) := fun l m i x h => by
    rw [List.getElem?_append] at h
    split at h
    · exact h
    · simp [List.getElem?_replicate] at h
  have key2 : ∀ {α : Type} (l : List α) (m i : Nat) (x : α), (l.map some)[i]? = some (some x) → (l.map some ++ List.replicate m (none : Option α))[i]? = some (some x) := fun l m i x h => by
    rw [List.getElem?_append_left (by exact (List.getElem?_eq_some_iff.mp h).1)]
    exact h
  exact ⟨o.s, by simp [L2.start, startE, hl], fun i d hd => by
    obtain ⟨v, h1, h2⟩ := o.im i d (key _ _ _ _ hd)
    exact ⟨v, key2 _ _ _ _ h1, h2⟩, fun i a w hw => by
    obtain ⟨q1, q2⟩ := o.ow i a w (key _ _ _ _ hw)
    exact ⟨key2 _ _ _ _ q1, q2⟩, fun i j a w w' h1 h2 => o.ne i j a w w' (key _ _ _ _ h1) (key _ _ _ _ h2)⟩
/-- the arguments behind a body -/
theorem Ok.args (o0 : Ok K B0 G H0 (vs.map some) (as.map some)) (ss : SameSl as as') (e : Ex B0 B') (o : Ok K B' G H' σ ρ) (h : ∀ (i : Nat) (a : Addr) (w : OO), as'[i]? = some (Sl.ow a w) → ρ[i]? = some (some (Sl.ow a w))) : Ok K B' G H' (vs.map some) (as'.map some) where
  s := o.s
  len := by have := o0.len; simp at this ⊢; rw [this, ss.length]
  im := fun i d hd => by
    obtain ⟨v, h1, h2⟩ := o0.im i d (mapq.mpr (ss.im' (mapq.mp hd)))
    exact ⟨v, h1, h2.up e⟩
  ow := fun i a w hw => by
    obtain ⟨w0, h0⟩ := ss.ow' (mapq.mp hw)
    obtain ⟨q1, _, _, _⟩ := o0.ow i a w0 (mapq.mpr h0)
    obtain ⟨_, q2, q3, q4⟩ := o.ow i a w (h i a w (mapq.mp hw))
    exact ⟨q1, q2, q3, q4⟩
  ne := fun i j a w w' h1 h2 => o.ne i j a w w' (h i a w (mapq.mp h1)) (h j a w' (mapq.mp h2))
end
section
variable {P : Program} {w : World} {K : PySem.W.Frag} {mg : Str → Option Value} {base : Heap} {x qual : Str} {params : Arguments} {body : List Stmt} {scope : Scope} {dvs : List V} {kws : List (Str × V)} {f : Addr} {fd : FuncData} {N ps : List Str} {k : Nat} {Pd : Pr}
abbrev bodyX (P : Program) (w : World) (K : PySem.W.Frag) (mg : Str → Option Value) (base : Heap) (N : List Str) (qual : Str) (scope : Scope) (f : Addr) (cdv : Value) (A : Around) (outer : List Env) (s : Shared) (H : Hp) (E : XK) : Cx := cxOf (L2.CX P w) P w K mg base N qual scope f cdv A outer s H E
theorem def_ok (F : FunD K x qual params body scope dvs kws f fd) (S : FnScope N ps scope) (hlen : ∀ as Φ, Pd as Φ → as.length = ps.length)
    (h : ∀ cdv A outer s H E, Room k (bodyX P w K mg base N qual scope f cdv A outer s H E).A → Takes (bodyX P w K mg base N qual scope f cdv A outer s H E) (fun cls d _ H' => E cls d H') → ∀ as Φ, Pd as Φ →
      SC (bodyX P w K mg base N qual scope f cdv A outer s H E) (Zf E fun C fs => Φ (.raise C fs)) body (startE N.length as) (OutsOf as Φ)) : FnOk P w K mg base (L2.CX P w) (k + 1) f fd ps (Csp K Pd) := by
  refine F.ok S (fun vs H Q E ⟨B, G, as, o, hp⟩ => ?_) fun cdv A outer s H vs Q E hr ⟨B, G, as, o, hp⟩ => ?_
  · have := o.len
    simp at this
    rw [this]; exact hlen as _ hp
  · refine ⟨wSs _ body, p_wSs, ?_⟩
    refine h cdv A outer s H E hr (takes_of rfl rfl rfl rfl) as _ hp B G H _ _ (o.pad N) ?_ ?_
    · intro C fs dd B' H' σ' ρ' hoc e o3 er
      exact hoc dd B' H' e o3.s er
    · have hrt : ∀ r ρ' v σ' B' H', (OutsOf as (OcOk K B G vs Q E)).rt r ρ' → Ex B B' → Ok K B' G H' σ' ρ' → RsR K B' G H' ρ' v r → Q v H' := by
        intro r ρ' v σ' B' H' ⟨as', hs, hoc, hrow⟩ e o' hv
        refine hoc v B' H' e (o.args hs e o' hrow) ?_
        cases r with
        | im d => exact hv
        | fr oo =>
          obtain ⟨a, u, h1, h2, h3, h4, h5, h6⟩ := hv
          exact ⟨a, u, h1, h2, h3, h4, fun j q hj => h5 j q (hrow j a q (mapq.mp hj)), h6⟩
      exact ⟨fun ρ' σ' B' H' hn e o' => hrt (.im .non) ρ' .non σ' B' H' hn e o' .non, hrt, fun _ _ _ _ hb => hb.elim, fun _ _ _ _ hb => hb.elim⟩
end
/-! ### calls -/
structure Cal (P : Program) (w : World) (K : PySem.W.Frag) (mg : Str → Option Value) (base : Heap) (x : Str) (k : Nat) (Pd : Pr) : Prop where
  ex : ∃ f fd ps, FnOk P w K mg base (L2.CX P w) k f fd ps (Csp K Pd) ∧ mg x = some (.ref f) ∧ PySem.W.keepIn K (.ref f) = true ∧ Binds K fd ps []
section
variable {X : Cx} {Z : Zx} {e : Expr} {es : List Expr} {ρ : En} {Φ : D → En → Prop} {Θ : OO → En → Prop} {p pos : Pos} {x : Str} {k : Nat} {Pd : Pr}
/-- behind a call: the frame of a callee that was handed data alone -/
def rest (B H : Hp) (p : Option Addr) : Hp := fun a => if some a = p then none else if (B a).isSome then none else H a
theorem Ok.call {K : PySem.W.Frag} {B G H : Hp} {σ : L2.St} (o : Ok K B G H σ ρ) {vs : List V} {ds : List D} (r : Reps K B vs ds) : Ok K B (rest B H none) H (vs.map some) ((ds.map Sl.im).map some) where
  s := ⟨o.s.ex, fun b w hw => by
    unfold rest at hw
    rw [if_neg (by simp)] at hw
    split at hw
    · cases hw
    · exact hw, fun b w hw => by
    unfold rest at hw
    rw [if_neg (by simp)] at hw
    split at hw
    · cases hw
    · rename_i hb
      simpa using hb, o.s.tp⟩
  len := by simp [r.length]
  im := fun i d hd => by
    have hd' := mapq.mp hd
    rw [List.getElem?_map] at hd'
    cases e : ds[i]? with
    | none => rw [e] at hd'; cases hd'
    | some d' =>
      rw [e] at hd'
      simp at hd'
      subst hd'
      obtain ⟨v, h1, h2⟩ := r.get' e
      exact ⟨v, mapq.mpr h1, h2⟩
  ow := fun i a w hw => by
    have hd' := mapq.mp hw
    rw [List.getElem?_map] at hd'
    cases e : ds[i]? <;> rw [e] at hd' <;> simp at hd'
  ne := fun i j a w w' h1 h2 => by
    have hd' := mapq.mp h1
    rw [List.getElem?_map] at hd'
    cases e : ds[i]? <;> rw [e] at hd' <;> simp at hd'
theorem Ok.behind {K : PySem.W.Frag} {B B' G H H' : Hp} {σ σ' : L2.St} {ρ' : En} (o : Ok K B G H σ ρ) (e : Ex B B') (o' : St3 B' (rest B H none) H') : Ok K B' G H' σ ρ := by
  have old : ∀ b w, H b = some w → B b = none → H' b = some w ∧ B' b = none := fun b w hw hb => by
    have h1 : rest B H none b = some w := by unfold rest; rw [if_neg (by simp), if_neg (by simp [hb])]; exact hw
    exact ⟨o'.eg b w h1, o'.dj b w h1⟩
  refine ⟨⟨o'.ex, fun b w hw => (old b w (o.s.eg b w hw) (o.s.dj b w hw)).1, fun b w hw => (old b w (o.s.eg b w hw) (o.s.dj b w hw)).2, o'.tp⟩, o.len, fun i d hd => ?_, fun i a w hw => ?_, o.ne⟩
  · obtain ⟨v, h1, h2⟩ := o.im i d hd
    exact ⟨v, h1, h2.up e⟩
  · obtain ⟨q1, q2, q3, u, q4, q5⟩ := o.ow i a w hw
    obtain ⟨h1, h2⟩ := old a u q4 q2
    exact ⟨q1, h2, q3, u, h1, q5.up e⟩
/-- what a caller wants of an outcome, all arguments data -/
def WantD (Z : Zx) (as : List Sl) (ρ1 : En) (Φ : D → En → Prop) : Oc → Prop
  | .ret (.im d) as' => as' = as ∧ Φ d ρ1
  | .ret (.fr (.l ds')) as' => as' = as ∧ Φ (.lst ds') ρ1
  | .ret _ _ => False
  | .raise C fs => Z.R C fs ρ1
def Mono (P : Pr) : Prop := ∀ as Φ Φ', (∀ oc, Φ oc → Φ' oc) → P as Φ → P as Φ'
theorem want_ok {K : PySem.W.Frag} {B B1 G H1 : Hp} {σ : L2.St} {ρ1 : En} {as : List Sl} {vs : List V} {Q : VK} (o1 : Ok K B1 G H1 σ ρ1) (e1 : Ex B B1) (z : RC K Z B G)
    (q : ∀ d ρ' v B' H', Φ d ρ' → Ex B B' → Ok K B' G H' σ ρ' → Rep K B' v d → Q v H') : ∀ oc, WantD Z as ρ1 Φ oc → OcOk K B1 (rest B1 H1 none) vs Q (fun c d H => Z.E c d σ H) oc := by
  intro oc hoc
  match oc, hoc with
  | .ret (.im d) as', ⟨ha, hΦ⟩ =>
    subst ha
    intro v B' H' e2 o2 rv
    exact q d ρ1 v B' H' hΦ (e1.trans e2) (o1.behind (σ' := σ) (ρ' := ρ1) e2 o2.s) rv
  | .ret (.fr (.l ds')) as', ⟨ha, hΦ⟩ =>
    subst ha
    intro v B' H' e2 o2 rv
    obtain ⟨a, u, rfl, h2, h3, h4, h5, h6⟩ := rv
    have o3 := o1.behind (σ' := σ) (ρ' := ρ1) e2 o2.s
    have hH1 : H1 a = none := by
      cases eh : H1 a with
      | none => rfl
      | some w =>
        have hb1 : B1 a = none := fresh_back e2 h2
        have : rest B1 H1 none a = some w := by unfold rest; rw [if_neg (by simp), if_neg (by simp [hb1])]; exact eh
        rw [this] at h3; cases h3
    obtain ⟨e3, o4⟩ := o3.know h2 (fresh_back o1.s.eg hH1) h4 (fun j w hj => by
      obtain ⟨_, _, _, y, hy, _⟩ := o1.ow j a w hj
      rw [hH1] at hy; cases hy)
    cases u with
    | lst ws => exact q _ ρ1 _ _ H' hΦ ((e1.trans e2).trans e3) o4 (.lst upd_same (Reps.up h6 e3))
    | _ => exact False.elim h6
  | .raise C fs, hR =>
    intro dd B' H' e2 s3 er
    have o3 := o1.behind (σ' := σ) (ρ' := ρ1) e2 s3
    exact z C fs dd B' H' σ ρ1 hR (e1.trans e2) o3 er
/-- f(e, ..), all arguments data; what it gives is a datum, or it raises -/
theorem ec_call (c : Cal X.prog X.w X.K X.mg X.base x k Pd) (hr : Room k X.A) (hx : PassW X Z) (mo : Mono Pd)
    (h : AC X Z (e :: es) ρ fun ds ρ1 => Pd (ds.map Sl.im) (WantD Z (ds.map Sl.im) ρ1 Φ))
    (hg : Gl X x := by rfl) (hdb : (x == ("__debug__" : Str)) = false := by decide) (he : starEach (e :: es) X.env = (false, eval e X.env) :: starEach es X.env := by rfl) (hpl : (backTo pos (starEach es X.env)).any (·.1) = false := by rfl) : EC X Z (.Call (.Name x p) (e :: es) [] pos) ρ Φ := fun B G H σ o z Q q => by
  obtain ⟨f, fd, ps, F, hm, kp, bd⟩ := c.ex
  refine (pe_callS (E := fun σ c d H => Z.E c d σ H) F hr hg hm kp bd hx p_wA hdb he hpl).w (h B G H σ o z _ fun ds ρ1 vs B1 H1 hk e1 o1 r1 => ?_)
  exact ⟨B1, rest B1 H1 none, ds.map Sl.im, o1.call r1, mo _ _ _ (want_ok o1 e1 z q) hk⟩
end
end AL
namespace AL
open PySem PySem.Spec PyProof.Rows L2 Evl
/-! ### promises in short: data in, a datum out (or an error of the package) -/
abbrev Er := Addr → List (Str × D) → Prop
def PFn (n : Nat) (S : List D → (D → Prop) → Prop) : Pr := fun as Φ => ∃ ds, as = ds.map Sl.im ∧ ds.length = n ∧ S ds fun d => Φ (.ret (.im d) as)
def PFx (n : Nat) (S : List D → (D → Prop) → Er → Prop) : Pr := fun as Φ => ∃ ds, as = ds.map Sl.im ∧ ds.length = n ∧ S ds (fun d => Φ (.ret (.im d) as)) fun C fs => Φ (.raise C fs)
def MonoF (S : List D → (D → Prop) → Prop) : Prop := ∀ ds Φ Φ', (∀ d, Φ d → Φ' d) → S ds Φ → S ds Φ'
def MonoX (S : List D → (D → Prop) → Er → Prop) : Prop := ∀ ds Φ Φ' Ψ Ψ', (∀ d, Φ d → Φ' d) → (∀ C fs, Ψ C fs → Ψ' C fs) → S ds Φ Ψ → S ds Φ' Ψ'
theorem PFn.len {n : Nat} {S : List D → (D → Prop) → Prop} {ps : List Str} (h : ps.length = n) : ∀ as Φ, PFn n S as Φ → as.length = ps.length := fun as Φ ⟨ds, h1, h2, _⟩ => by rw [h1, h, ← h2]; simp
theorem PFx.len {n : Nat} {S : List D → (D → Prop) → Er → Prop} {ps : List Str} (h : ps.length = n) : ∀ as Φ, PFx n S as Φ → as.length = ps.length := fun as Φ ⟨ds, h1, h2, _⟩ => by rw [h1, h, ← h2]; simp
theorem PFn.mono {n : Nat} {S : List D → (D → Prop) → Prop} (m : MonoF S) : Mono (PFn n S) := fun as Φ Φ' h ⟨ds, h1, h2, h3⟩ => ⟨ds, h1, h2, m _ _ _ (fun d x => h _ x) h3⟩
theorem PFx.mono {n : Nat} {S : List D → (D → Prop) → Er → Prop} (m : MonoX S) : Mono (PFx n S) := fun as Φ Φ' h ⟨ds, h1, h2, h3⟩ => ⟨ds, h1, h2, m _ _ _ _ _ (fun d x => h _ x) (fun C fs x => h _ x) h3⟩
def envD (n : Nat) (ds : List D) : En := (ds.map fun d => some (Sl.im d)) ++ List.replicate (n - ds.length) none
theorem startE_im (n : Nat) (ds : List D) : startE n (ds.map Sl.im) = envD n ds := by simp [startE, envD]
/-- the ends of a def that gives a datum -/
def OutP (Ψ : D → Prop) : Outs where
  nx := fun _ => Ψ .non
  rt := fun r _ => match r with
    | .im d => Ψ d
    | .fr _ => False
theorem SC.out {X : Cx} {Z : Zx} {sts : List Stmt} {ρ : En} {O O' : Outs} (h : SC X Z sts ρ O) (h1 : ∀ ρ', O.nx ρ' → O'.nx ρ') (h2 : ∀ r ρ', O.rt r ρ' → O'.rt r ρ') (h3 : ∀ ρ', O.bk ρ' → O'.bk ρ') (h4 : ∀ ρ', O.ct ρ' → O'.ct ρ') : SC X Z sts ρ O' := fun B G H σ Dd o z s =>
  h B G H σ Dd o z ⟨fun ρ' σ' B' H' a => s.nx ρ' σ' B' H' (h1 ρ' a), fun r ρ' v σ' B' H' a => s.rt r ρ' v σ' B' H' (h2 r ρ' a), fun ρ' σ' B' H' a => s.bk ρ' σ' B' H' (h3 ρ' a), fun ρ' σ' B' H' a => s.ct ρ' σ' B' H' (h4 ρ' a)⟩
section
variable {P : Program} {w : World} {K : PySem.W.Frag} {mg : Str → Option Value} {base : Heap} {x qual : Str} {params : Arguments} {body : List Stmt} {scope : Scope} {f : Addr} {fd : FuncData} {N ps : List Str} {k n : Nat}
theorem im_out {ds : List D} {ρ : En} : ∀ (i : Nat) (a : Addr) (o : OO), (ds.map Sl.im)[i]? = some (Sl.ow a o) → ρ[i]? = some (some (Sl.ow a o)) := fun i a o h => by
  rw [List.getElem?_map] at h
  cases e : ds[i]? <;> rw [e] at h <;> simp at h
theorem cal_fn {S : List D → (D → Prop) → Prop} (F : FunD K x qual params body scope [] [] f fd) (hm : mg x = some (.ref f)) (Sc : FnScope N ps scope) (hn : ps.length = n)
    (hb : ∀ (kV doc pm : Value) (an : Option Addr) (cdv ct : Value) (us : List Value), us.length = ps.length → bindArgs (PySem.W.fnOf x qual params body scope .none kV doc pm an cdv ct) ⟨us, []⟩ = pure (ps.zip us))
    (h : ∀ cdv A outer s H E, Room k (bodyX P w K mg base N qual scope f cdv A outer s H E).A → ∀ ds Ψ, ds.length = n → S ds Ψ → SC (bodyX P w K mg base N qual scope f cdv A outer s H E) Z0 body (envD N.length ds) (OutP Ψ)) :
    Cal P w K mg base x (k + 1) (PFn n S) :=
  ⟨f, fd, ps, def_ok F Sc (PFn.len hn) (fun cdv A outer s H E hr tk as Φ ⟨ds, h1, h2, h3⟩ => by
    subst h1
    rw [startE_im]
    intro B G H σ Dd o z sv
    refine (h cdv A outer s _ E hr ds _ h2 h3) B G _ σ Dd o RC.none ⟨fun ρ' σ' B' H' a => sv.nx ρ' σ' B' H' ⟨ds.map Sl.im, .refl _, a, im_out⟩, fun r ρ' v σ' B' H' a => ?_, fun ρ' σ' B' H' a => a.elim, fun ρ' σ' B' H' a => a.elim⟩
    cases r with
    | im d => exact sv.rt _ ρ' v σ' B' H' ⟨ds.map Sl.im, .refl _, a, im_out⟩
    | fr oo => exact False.elim a), hm, F.kp, F.bindsN hb⟩
theorem cal_fx {S : List D → (D → Prop) → Er → Prop} (F : FunD K x qual params body scope [] [] f fd) (hm : mg x = some (.ref f)) (Sc : FnScope N ps scope) (hn : ps.length = n)
    (hb : ∀ (kV doc pm : Value) (an : Option Addr) (cdv ct : Value) (us : List Value), us.length = ps.length → bindArgs (PySem.W.fnOf x qual params body scope .none kV doc pm an cdv ct) ⟨us, []⟩ = pure (ps.zip us))
    (h : ∀ cdv A outer s H E, Room k (bodyX P w K mg base N qual scope f cdv A outer s H E).A → Takes (bodyX P w K mg base N qual scope f cdv A outer s H E) (fun cls d _ H' => E cls d H') → ∀ ds Ψ Er, ds.length = n → S ds Ψ Er →
      SC (bodyX P w K mg base N qual scope f cdv A outer s H E) (Zf E Er) body (envD N.length ds) (OutP Ψ)) :
    Cal P w K mg base x (k + 1) (PFx n S) :=
  ⟨f, fd, ps, def_ok F Sc (PFx.len hn) (fun cdv A outer s H E hr tk as Φ ⟨ds, h1, h2, h3⟩ => by
    subst h1
    rw [startE_im]
    intro B G H σ Dd o z sv
    refine (h cdv A outer s _ E hr tk ds _ _ h2 h3) B G _ σ Dd o z ⟨fun ρ' σ' B' H' a => sv.nx ρ' σ' B' H' ⟨ds.map Sl.im, .refl _, a, im_out⟩, fun r ρ' v σ' B' H' a => ?_, fun ρ' σ' B' H' a => a.elim, fun ρ' σ' B' H' a => a.elim⟩
    cases r with
    | im d => exact sv.rt _ ρ' v σ' B' H' ⟨ds.map Sl.im, .refl _, a, im_out⟩
    | fr oo => exact False.elim a), hm, F.kp, F.bindsN hb⟩
end
section
variable {X : Cx} {Z : Zx} {a e : Expr} {es : List Expr} {ρ : En} {Φ : D → En → Prop} {Ψ : Bool → En → Prop} {p pos ps : Pos} {x : Str} {k n : Nat}
theorem pass_tk (tk : Takes X Z.E) : PassW X Z := PassW.tk tk
theorem pass_0 (h : Passes (L2.CX X.prog X.w) X E0) : PassW X Z0 := PassW.of h
theorem AC.mono {Θ Θ' : List D → En → Prop} (h : AC X Z es ρ Θ) (k : ∀ d ρ', Θ d ρ' → Θ' d ρ') : AC X Z es ρ Θ' := fun B G H σ o z Q q => h B G H σ o z Q fun d ρ' v B' H' x => q d ρ' v B' H' (k d ρ' x)
/-- a call of a def that raises nothing here -/
theorem ec_cf {S : List D → (D → Prop) → Prop} (c : Cal X.prog X.w X.K X.mg X.base x k (PFn n S)) (hr : Room k X.A) (hx : PassW X Z) (mo : MonoF S) (h : AC X Z (e :: es) ρ fun ds ρ1 => ds.length = n ∧ S ds fun d => Φ d ρ1)
    (hg : Gl X x := by rfl) (hdb : (x == ("__debug__" : Str)) = false := by decide) (he : starEach (e :: es) X.env = (false, eval e X.env) :: starEach es X.env := by rfl) (hpl : (backTo pos (starEach es X.env)).any (·.1) = false := by rfl) : EC X Z (.Call (.Name x p) (e :: es) [] pos) ρ Φ :=
  ec_call c hr hx (PFn.mono mo) (h.mono fun ds ρ1 ⟨hl, hd⟩ => ⟨ds, rfl, hl, mo _ _ _ (fun d hk => ⟨rfl, hk⟩) hd⟩) hg hdb he hpl
theorem ec_cx {S : List D → (D → Prop) → Er → Prop} (c : Cal X.prog X.w X.K X.mg X.base x k (PFx n S)) (hr : Room k X.A) (hx : PassW X Z) (mo : MonoX S) (h : AC X Z (e :: es) ρ fun ds ρ1 => ds.length = n ∧ S ds (fun d => Φ d ρ1) fun C fs => Z.R C fs ρ1)
    (hg : Gl X x := by rfl) (hdb : (x == ("__debug__" : Str)) = false := by decide) (he : starEach (e :: es) X.env = (false, eval e X.env) :: starEach es X.env := by rfl) (hpl : (backTo pos (starEach es X.env)).any (·.1) = false := by rfl) : EC X Z (.Call (.Name x p) (e :: es) [] pos) ρ Φ :=
  ec_call c hr hx (PFx.mono mo) (h.mono fun ds ρ1 ⟨hl, hd⟩ => ⟨ds, rfl, hl, mo _ _ _ _ _ (fun d hk => ⟨rfl, hk⟩) (fun C fs x => x) hd⟩) hg hdb he hpl
/-! ### isinstance -/
def isObj : D → Bool
  | .obj _ _ => true
  | .exc _ _ _ => true
  | _ => false
def tyN : D → String
  | .non => "NoneType" | .bl _ => "bool" | .int _ => "int" | .str _ => "str" | .lst _ => "list" | .tup _ => "tuple" | .ktup _ => "tuple" | .klst _ => "list" | .obj _ _ => "object" | .exc _ _ _ => "object"
theorem tyx_of {K : PySem.W.Frag} {B G H : Hp} {v : V} {d : D} (s : St3 B G H) (r : Rep K B v d) (h : isObj d = false) : TyX K H v (.type (tyN d)) := by
  cases r with
  | non => exact .base .non
  | bl b => exact .base (.bl b)
  | int i => exact .base (.int i)
  | str x => exact .base (.str x)
  | lst hq _ => exact .base (.lst (s.ex _ _ hq))
  | tup hq _ => exact .base (.tup (s.ex _ _ hq))
  | ktup hq _ =>
    rcases hq with (hq | ⟨o, hq⟩) | ⟨o, its, n, hq, hc, _⟩
    · exact .base (.tup (s.ex _ _ hq))
    · exact .fTuple (s.ex _ _ hq)
    · exact .kTuple hq hc
  | klst hq _ =>
    rcases hq with (hq | ⟨o, hq⟩) | ⟨o, its, n, hq, hc, _⟩
    · exact .base (.lst (s.ex _ _ hq))
    · exact .base (.frz (s.ex _ _ hq))
    · exact .kList hq hc
  | obj _ _ => cases h
  | exc0 => cases h
  | exc _ _ => cases h
/-- isinstance(e, T), T a built-in type -/
theorem ec_isi {T : String} {tn : Str} {f : D → Bool} {p1 : Pos} (hk : ∀ d, isObj d = false → kitB (tyN d) T = some (f d)) (hv : bootBuiltins tn = some (.type T)) (h : EC X Z e ρ fun d ρ1 => isObj d = false ∧ Φ (.bl (f d)) ρ1) (hm : X.mg "isinstance" = none) (hm2 : X.mg tn = none) (hg : Gl X "isinstance" := by rfl) (hg2 : Gl X tn := by rfl)
    (hn : tn ≠ "__name__" := by decide) (hdb : (tn == ("__debug__" : Str)) = false := by decide) (hs1 : starEach [e, .Name tn p1] X.env = (false, eval e X.env) :: starEach [.Name tn p1] X.env := by rfl) (hs2 : starEach [.Name tn p1] X.env = (false, eval (.Name tn p1) X.env) :: starEach [] X.env := by rfl)
    (hpl : (backTo pos (starEach [.Name tn p1] X.env)).any (·.1) = false := by rfl) : EC X Z (.Call (.Name "isinstance" p) [e, .Name tn p1] [] pos) ρ Φ := fun B G H σ o z Q q =>
  (pe_callB call_isi hg hm (by rfl) (pa_cons p_wE (pa_cons (pe_bltn (v := .ty T) hg2 hm2 hv rfl hn hdb) pa_nil hs2) hs1) (he := hs1) (hpl := hpl)).w (h B G H σ o z _ fun d ρ1 v B1 H1 ⟨ho, h1⟩ e1 o1 r1 =>
    ⟨v, .ty T, .type (tyN d), .type T, f d, rfl, .ty T, tyx_of o1.s r1 ho, kit_ty (hk d ho), q _ ρ1 _ B1 H1 h1 e1 o1 (.bl _)⟩)
def isIntD : D → Bool
  | .int _ => true | .bl _ => true | _ => false
def isBoolD : D → Bool
  | .bl _ => true | _ => false
def isTupD : D → Bool
  | .tup _ => true | .ktup _ => true | _ => false
def isLstD : D → Bool
  | .lst _ => true | .klst _ => true | _ => false
theorem kit_int : ∀ d, isObj d = false → kitB (tyN d) "int" = some (isIntD d) := fun d h => by cases d <;> first | (simp [isObj] at h; done) | (dsimp only [tyN, isIntD]; decide +kernel)
theorem kit_bool : ∀ d, isObj d = false → kitB (tyN d) "bool" = some (isBoolD d) := fun d h => by cases d <;> first | (simp [isObj] at h; done) | (dsimp only [tyN, isBoolD]; decide +kernel)
theorem kit_tup : ∀ d, isObj d = false → kitB (tyN d) "tuple" = some (isTupD d) := fun d h => by cases d <;> first | (simp [isObj] at h; done) | (dsimp only [tyN, isTupD]; decide +kernel)
theorem kit_lst : ∀ d, isObj d = false → kitB (tyN d) "list" = some (isLstD d) := fun d h => by cases d <;> first | (simp [isObj] at h; done) | (dsimp only [tyN, isLstD]; decide +kernel)
end
end AL
namespace AL
open PySem PySem.Spec PyProof.Rows L2 Evl
/-! ### instances: made, read, their methods -/
structure CalM (P : Program) (w : World) (K : PySem.W.Frag) (mg : Str → Option Value) (base : Heap) (C : Addr) (m : Str) (k : Nat) (Pd : Pr) : Prop where
  ex : ∃ f fd ps, FnOk P w K mg base (L2.CX P w) k f fd ps (Csp K Pd) ∧ Meth K C m f ∧ Binds K fd ps []
/-- a class that is called: its __init__ -/
structure CalC (P : Program) (w : World) (K : PySem.W.Frag) (mg : Str → Option Value) (base : Heap) (x : Str) (C : Addr) (k : Nat) (Pd : Pr) : Prop where
  ex : ∃ f fd ps, FnOk P w K mg base (L2.CX P w) k f fd ps (Csp K Pd) ∧ Mk K C f ∧ Binds K fd ps [] ∧ mg x = some (.ref C)
section
variable {X : Cx} {Z : Zx} {e o b : Expr} {es : List Expr} {ρ : En} {Φ : D → En → Prop} {p pos apos : Pos} {x m : Str} {k : Nat} {Pd : Pr} {C : Addr} {O : Outs} {sts : List Stmt}
/-! ### the callee's errors may depend on the slots -/
/-- a callee run by the interpreter itself, some calls further in -/
theorem run_at {A : Around} {f : Addr} {fd : FuncData} {ps : List Str} {sp : Sp} {E : L2.St → XK} {pins : List (Addr × Obj)} {σ : L2.St} {H : Hp} {s : Shared} {Q : VK} {us : List Value} {vs : List V} (F : FnOk X.prog X.w X.K X.mg X.base (L2.CX X.prog X.w) k f fd ps sp) (hr : Room k A) (hA : A.frames = X.A.frames)
    (hb : Binds X.K fd ps []) (hx : ∀ σ, PassesAt (L2.CX X.prog X.w) X σ (E σ)) (I : Inv X pins σ H s) (r : Vals vs us) (h : sp vs H Q (E σ)) : wpAny (model X.prog X.w) A (call (.ref f) us) (EP X pins σ Q) X.xe s := by
  have e0 : Env0 X.prog X.w X.K X.mg X.base A X.stack s H := by
    have e := I.env0
    exact ⟨by rw [hA]; exact e.frames, e.mod, e.bs, e.bsz, e.funs, e.frf, e.hok, e.bare⟩
  have hl : us.length = ps.length := by rw [← r.length]; exact F.len _ _ _ _ h
  refine wpAny_call (codeAny_mono (F.run A X.stack s H ⟨us, []⟩ us vs Q (E σ) hr e0 (by
    have := hb s us I.kIn (by simpa using hl)
    simpa using this) r h) fun r s' hq => ?_)
  cases r with
  | error e => exact hx σ pins H s e s' I hq
  | ok fl => cases fl with
    | ret u => exact I.after hq
    | next => exact False.elim hq
    | brk => exact False.elim hq
    | cont => exact False.elim hq
def tMethS (C : Addr) (m : Str) (sp : Sp) (E : L2.St → XK) (ta : TE) (t : TA) : TE := fun σ H Q => ta σ H fun x H1 => ∃ a dx fs, x = .ref a ∧ H1 a = some (.ins C dx fs) ∧ fs.lookup m = none ∧ t σ H1 fun vs H2 => sp (x :: vs) H2 Q (E σ)
section
variable {f : Addr} {fd : FuncData} {ps : List Str} {sp : Sp} {E : L2.St → XK} {ta : TE} {t : TA}
theorem pe_methS {pl : Sem Bool} (he : PE X o ta) (c : Cls X.K C) (hm : Meth X.K C m f) (F : FnOk X.prog X.w X.K X.mg X.base (L2.CX X.prog X.w) k f fd ps sp) (hr : Room k X.A) (hb : Binds X.K fd ps []) (hx : ∀ σ, PassesAt (L2.CX X.prog X.w) X σ (E σ)) (ha : PA X (e :: es) t)
    (hst : starEach (e :: es) X.env = (false, eval e X.env) :: starEach es X.env) (hpl : (backTo pos (starEach es X.env)).any (·.1) = false)
    (ht : eval (.Call (.Attribute o m apos) (e :: es) [] pos) X.env = (do
      let ov ← eval o X.env
      standAt apos.atName
      let (f, first) ← holding [ov] (getMethod ov m pl)
      callWith pos f first (backTo pos (starEach (e :: es) X.env)) (backToKw pos (keywordEach [] X.env)))) :
    PE X (.Call (.Attribute o m apos) (e :: es) [] pos) (tMethS C m sp E ta t) := ⟨fun pins s σ H Q I h => by
  refine PySem.W.methodCall_KW (pl := pl) (thn (he.run pins s σ H _ I h) fun u s1 hh => ?_) ht
  obtain ⟨x, H1, I1, rx, a, dx, fs, ex, ea, l, q⟩ := hh
  subst ex; obtain rfl : u = Value.ref a := rx
  refine getmeth_ok I1 ea c hm l (PySem.W.callWith_K (first := [.ref a]) (h₀ := X.base) I.ok.mod.kin hm.kp (thn (ha.run pos pins s1 σ H1 _ I1 q) fun us s2 hh => ?_) hst hpl)
  obtain ⟨vs, H2, I2, r, q2⟩ := hh
  exact ⟨I2.kIn, run_at (us := .ref a :: us) (vs := .ref a :: vs) F hr rfl hb hx I2 (.cons rfl r) q2⟩⟩
theorem pe_meth0S {pl : Sem Bool} (he : PE X o ta) (c : Cls X.K C) (hm : Meth X.K C m f) (F : FnOk X.prog X.w X.K X.mg X.base (L2.CX X.prog X.w) k f fd ps sp) (hr : Room k X.A) (hb : Binds X.K fd ps []) (hx : ∀ σ, PassesAt (L2.CX X.prog X.w) X σ (E σ))
    (ht : eval (.Call (.Attribute o m apos) [] [] pos) X.env = (do
      let ov ← eval o X.env
      standAt apos.atName
      let (f, first) ← holding [ov] (getMethod ov m pl)
      callWith pos f first (backTo pos (starEach [] X.env)) (backToKw pos (keywordEach [] X.env)))) :
    PE X (.Call (.Attribute o m apos) [] [] pos) (tMethS C m sp E ta tNil) := ⟨fun pins s σ H Q I h => by
  refine PySem.W.methodCall_KW (pl := pl) (thn (he.run pins s σ H _ I h) fun u s1 hh => ?_) ht
  obtain ⟨x, H1, I1, rx, a, dx, fs, ex, ea, l, q⟩ := hh
  subst ex; obtain rfl : u = Value.ref a := rx
  exact getmeth_ok I1 ea c hm l (PySem.W.callWith_K0 (first := [.ref a]) I1.kIn hm.kp (run_at (us := [.ref a]) (vs := [.ref a]) F hr rfl hb hx I1 (.cons rfl .nil) q))⟩
end
/-- o.m(e, ..), data alone -/
theorem ec_meth {pl : Sem Bool} (cl : Cls X.K C) (c : CalM X.prog X.w X.K X.mg X.base C m k Pd) (hr : Room k X.A) (hx : PassW X Z) (mo : Mono Pd)
    (h : EC X Z o ρ fun d0 ρ0 => ∃ gs, d0 = .obj C gs ∧ gs.lookup m = none ∧ AC X Z (e :: es) ρ0 fun ds ρ1 => Pd ((d0 :: ds).map Sl.im) (WantD Z ((d0 :: ds).map Sl.im) ρ1 Φ))
    (hst : starEach (e :: es) X.env = (false, eval e X.env) :: starEach es X.env := by rfl) (hpl : (backTo pos (starEach es X.env)).any (·.1) = false := by rfl)
    (ht : eval (.Call (.Attribute o m apos) (e :: es) [] pos) X.env = (do
      let ov ← eval o X.env
      standAt apos.atName
      let (f, first) ← holding [ov] (getMethod ov m pl)
      callWith pos f first (backTo pos (starEach (e :: es) X.env)) (backToKw pos (keywordEach [] X.env))) := by rfl) :
    EC X Z (.Call (.Attribute o m apos) (e :: es) [] pos) ρ Φ := fun B G H σ o0 z Q q => by
  obtain ⟨f, fd, ps, F, hm, bd⟩ := c.ex
  refine (pe_methS (E := fun σ c d H => Z.E c d σ H) p_wE cl hm F hr bd hx p_wA hst hpl ht).w (h B G H σ o0 z _ fun d0 ρ0 v0 B0 H0 ⟨gs, hd, hl, h1⟩ e0 o1 r0 => ?_)
  subst hd
  cases r0 with
  | @obj a _ dx fs _ ha hf =>
    refine ⟨a, dx, fs, rfl, o1.s.ex _ _ ha, hf.none hl, ?_⟩
    refine h1 B0 G H0 σ o1 (z.up e0) _ fun ds ρ1 vs B1 H1 hk e1 o2 r1 => ?_
    have rr : Reps X.K B1 (.ref a :: vs) (.obj C gs :: ds) := .cons (.obj (e1 _ _ ha) (hf.up e1)) r1
    exact ⟨B1, rest B1 H1 none, _, o2.call rr, mo _ _ _ (want_ok o2 (e0.trans e1) z q) hk⟩
/-- o.m(), data alone -/
theorem ec_meth0 {pl : Sem Bool} (cl : Cls X.K C) (c : CalM X.prog X.w X.K X.mg X.base C m k Pd) (hr : Room k X.A) (hx : PassW X Z) (mo : Mono Pd)
    (h : EC X Z o ρ fun d0 ρ1 => ∃ gs, d0 = .obj C gs ∧ gs.lookup m = none ∧ Pd ([d0].map Sl.im) (WantD Z ([d0].map Sl.im) ρ1 Φ))
    (ht : eval (.Call (.Attribute o m apos) [] [] pos) X.env = (do
      let ov ← eval o X.env
      standAt apos.atName
      let (f, first) ← holding [ov] (getMethod ov m pl)
      callWith pos f first (backTo pos (starEach [] X.env)) (backToKw pos (keywordEach [] X.env))) := by rfl) :
    EC X Z (.Call (.Attribute o m apos) [] [] pos) ρ Φ := fun B G H σ o0 z Q q => by
  obtain ⟨f, fd, ps, F, hm, bd⟩ := c.ex
  refine (pe_meth0S (E := fun σ c d H => Z.E c d σ H) p_wE cl hm F hr bd hx ht).w (h B G H σ o0 z _ fun d0 ρ0 v0 B0 H0 ⟨gs, hd, hl, hk⟩ e0 o1 r0 => ?_)
  subst hd
  cases r0 with
  | @obj a _ dx fs _ ha hf =>
    refine ⟨a, dx, fs, rfl, o1.s.ex _ _ ha, hf.none hl, ?_⟩
    show Csp X.K Pd [.ref a] H0 Q (fun c d H => Z.E c d σ H)
    have rr : Reps X.K B0 [.ref a] [.obj C gs] := .cons (.obj ha hf) .nil
    exact ⟨B0, rest B0 H0 none, _, o1.call rr, mo _ _ _ (want_ok o1 e0 z q) hk⟩
/-- len(o), an own __len__ -/
theorem ec_lenM (c : CalM X.prog X.w X.K X.mg X.base C "__len__" k Pd) (hr : Room (k + 1) X.A) (hx : PassW X Z) (mo : Mono Pd) (hm : X.mg "len" = none)
    (h : EC X Z e ρ fun d0 ρ1 => ∃ gs, d0 = .obj C gs ∧ Pd ([d0].map Sl.im) (WantD Z ([d0].map Sl.im) ρ1 fun d ρ2 => ∃ n : Int, d = .int n ∧ 0 ≤ n ∧ n < 2 ^ 63 ∧ Φ d ρ2))
    (hg : Gl X "len" := by rfl) (he : starEach [e] X.env = (false, eval e X.env) :: starEach [] X.env := by rfl) (hpl : (backTo pos (starEach [] X.env)).any (·.1) = false := by rfl) : EC X Z (.Call (.Name "len" p) [e] [] pos) ρ Φ := fun B G H σ o0 z Q q => by
  obtain ⟨f, fd, ps, F, mm, bd⟩ := c.ex
  refine PE.w (t := fun σ H Q => wE X e σ H fun x H1 => ∃ a dx fs, x = .ref a ∧ H1 a = some (.ins C dx fs) ∧ Csp X.K Pd [.ref a] H1 (fun v H' => ∃ n : Int, v = .int n ∧ 0 ≤ n ∧ n < 2 ^ 63 ∧ Q v H') (fun c d H => Z.E c d σ H)) ⟨fun pins s σ H Q I hh => ?_⟩ (h B G H σ o0 z _ fun d0 ρ1 v B1 H1 ⟨gs, hd, hk⟩ e1 o1 r1 => ?_)
  · refine wpAny_Call_Name_kw (ld_blt I hg hm PySem.boot_len (PyProof.Rows.callWith_builtin1 (thn ((pa_cons p_wE pa_nil he).run pos pins s σ H (fun xs H1 => ∃ x, xs = [x] ∧ ∃ a dx fs, x = .ref a ∧ H1 a = some (.ins C dx fs) ∧ Csp X.K Pd [.ref a] H1 (fun v H' => ∃ n : Int, v = .int n ∧ 0 ≤ n ∧ n < 2 ^ 63 ∧ Q v H') (fun c d H => Z.E c d σ H)) I ?_) fun us s1 h2 => ?_) he hpl))
    · intro pins s I
      exact thn (hh pins s I) fun u s1 ⟨x, H1, I1, rx, q1⟩ => ⟨x, H1, I1, rx, x, rfl, q1⟩
    · obtain ⟨vs, H1, I1, r1, x, hxs, a, dx, fs, hxa, ha, hsp⟩ := h2
      subst hxs; subst hxa
      cases r1 with
      | cons q1 q2 =>
        cases q2; cases q1
        obtain ⟨mA, J, _⟩ := ins_get I1.hok ha
        obtain ⟨od, J, _⟩ := J.look
        obtain ⟨mm', hF⟩ := I1.fr
        refine PySem.W.len_K hF I1.ok.mod.kin J mm.at_ mm.fn (thn (run_at (E := fun σ c d H => Z.E c d σ H) (vs := [.ref a]) F hr.in1 rfl bd hx I1 (.cons rfl .nil) hsp) fun u s' ⟨v, H', I', rv, n, hv, l1, l2, hq⟩ => ?_)
        subst hv
        obtain ⟨t, rfl⟩ := rv
        exact ⟨⟨l1, l2⟩, ⟨.int n, H', I'.tok _, ⟨_, rfl⟩, hq⟩⟩
  subst hd
  cases r1 with
  | @obj a _ dx fs _ ha hf =>
    refine ⟨a, dx, fs, rfl, o1.s.ex _ _ ha, B1, rest B1 H1 none, _, o1.call (.cons (.obj ha hf) .nil), mo _ _ _ (want_ok o1 e1 z fun d ρ2 v B2 H2 ⟨n, hd, l1, l2, hΦ⟩ e2 o2 r2 => ?_) hk⟩
    subst hd
    cases r2
    exact ⟨n, rfl, l1, l2, q _ ρ2 _ B2 H2 hΦ e2 o2 (.int _)⟩
/-- o[i], an own __getitem__ -/
theorem ec_ixM (c : CalM X.prog X.w X.K X.mg X.base C "__getitem__" k Pd) (hfn : ∀ f, Meth X.K C "__getitem__" f → PySem.W.fnIn X.K f = true) (hr : Room (k + 1) X.A) (hx : PassW X Z) (mo : Mono Pd)
    (h : EC X Z e ρ fun d0 ρ0 => ∃ gs, d0 = .obj C gs ∧ EC X Z b ρ0 fun d1 ρ1 => Pd ([d0, d1].map Sl.im) (WantD Z ([d0, d1].map Sl.im) ρ1 Φ))
    (hsl : ∀ (o i : Value), subscripted b true o i = runValue (.builtin "lifetime.subscript" ⟨[o, i], []⟩) := by exact fun _ _ => by with_unfolding_all rfl) : EC X Z (.Subscript e b pos) ρ Φ := fun B G H σ o0 z Q q => by
  obtain ⟨f, fd, ps, F, mm, bd⟩ := c.ex
  refine PE.w (t := fun σ H Q => wE X e σ H fun x H1 => wE X b σ H1 fun y H2 => ∃ a dx fs, x = .ref a ∧ H2 a = some (.ins C dx fs) ∧ Csp X.K Pd [x, y] H2 Q (fun c d H => Z.E c d σ H)) ⟨fun pins s σ H Q I hh => ?_⟩ ?_
  · refine Subscript_ (binT p_wE p_wE I hh fun v u s2 x y H2 I2 rx ry ⟨a, dx, fs, hxa, ha, hsp⟩ => ?_)
    subst hxa
    cases rx
    obtain ⟨mA, J, _⟩ := ins_get I2.hok ha
    obtain ⟨od, J, _⟩ := J.look
    obtain ⟨mm', hF⟩ := I2.fr
    exact PySem.W.sub_K hF I2.ok.mod.kin J mm.at_ (hfn f mm) mm.fn (run_at (E := fun σ c d H => Z.E c d σ H) (vs := [.ref a, y]) F hr.in1 rfl bd hx I2 (.cons rfl (.cons ry .nil)) hsp) (hsl _ _)
  · refine h B G H σ o0 z _ fun d0 ρ0 v B0 H0 ⟨gs, hd, h1⟩ e0 o1 r0 => h1 B0 G H0 σ o1 (z.up e0) _ fun d1 ρ1 y B1 H1 hk e1 o2 r1 => ?_
    subst hd
    have r0' := r0.up e1
    cases r0' with
    | @obj a _ dx fs _ ha hf =>
      exact ⟨a, dx, fs, rfl, o2.s.ex _ _ ha, B1, rest B1 H1 none, _, o2.call (.cons (.obj ha hf) (.cons r1 .nil)), mo _ _ _ (want_ok o2 (e0.trans e1) z q) hk⟩
end
end AL
namespace AL
open PySem PySem.Spec PyProof.Rows L2 Evl
/-! ### instances made; the fields of one's own -/
theorem RepF.put {K : PySem.W.Frag} {B : Hp} {f : Str} {v : V} {d : D} (r : Rep K B v d) : ∀ {gs : List (Str × D)} {fs : List (Str × V)}, RepF K B fs gs → RepF K B (putF f v fs) (putD f d gs) := by
  intro gs
  induction gs with
  | nil => intro fs h; cases h; exact .cons r .nil
  | cons p gs ih =>
    intro fs h
    obtain ⟨g, e⟩ := p
    cases h with
    | cons r0 rs =>
      by_cases hg : g = f
      · show RepF K B (if g = f then (g, v) :: _ else _) (if g = f then (g, d) :: _ else _)
        rw [if_pos hg, if_pos hg]
        exact .cons r rs
      · show RepF K B (if g = f then _ else (g, _) :: putF f v _) (if g = f then _ else (g, e) :: putD f d _)
        rw [if_neg hg, if_neg hg]
        exact .cons r0 (ih rs)
/-- what a caller wants of an __init__'s outcome -/
def WantI (Z : Zx) (a C : Addr) (ds : List D) (ρ1 : En) (Φ : D → En → Prop) : Oc → Prop
  | .ret (.im .non) (.ow a' (.ob C' fs) :: as') => a' = a ∧ C' = C ∧ as' = ds.map Sl.im ∧ Φ (.obj C fs) ρ1
  | .ret _ _ => False
  | .raise C fs => Z.R C fs ρ1
section
variable {X : Cx} {Z : Zx} {e o b : Expr} {es : List Expr} {ρ : En} {Φ : D → En → Prop} {p pos apos ps : Pos} {x m f : Str} {k : Nat} {Pd : Pr} {C : Addr} {O : Outs} {sts : List Stmt}
def tMakeS (C : Addr) (sp : Sp) (E : L2.St → XK) (t : TA) : TE := fun σ H Q => t σ H fun vs H1 => ∀ y dx, H1 y = none → H1 dx = none → dx ≠ y →
  sp (.ref y :: vs) (upd (upd H1 dx (.own y)) y (.ins C dx [])) (fun v H2 => v = .non ∧ Q (.ref y) H2) (E σ)
theorem pe_makeS {f : Addr} {fd : FuncData} {pl : List Str} {sp : Sp} {E : L2.St → XK} {t : TA} (M : Mk X.K C f) (F : FnOk X.prog X.w X.K X.mg X.base (L2.CX X.prog X.w) k f fd pl sp) (hr : Room (k + 1) X.A) (hg : Gl X x) (hm : X.mg x = some (.ref C)) (hb : Binds X.K fd pl [])
    (hx : ∀ σ, PassesAt (L2.CX X.prog X.w) X σ (E σ)) (ha : PA X (e :: es) t) (hdb : (x == ("__debug__" : Str)) = false) (he : starEach (e :: es) X.env = (false, eval e X.env) :: starEach es X.env) (hpl : (backTo pos (starEach es X.env)).any (·.1) = false) :
    PE X (.Call (.Name x p) (e :: es) [] pos) (tMakeS C sp E t) := ⟨fun pins s σ H Q I h => by
  refine wpAny_Call_Name_kw (ld_glob I hg hm (PySem.W.callWith_K (h₀ := X.base) I.ok.mod.kin M.kp (thn (ha.run pos pins s σ H _ I h) fun us s1 hh => ?_) he hpl) hdb)
  obtain ⟨vs, H1, I1, r, h1⟩ := hh
  refine ⟨I1.kIn, ?_⟩
  have hq := h1 (s1.heap.objs.size + 1) s1.heap.objs.size (I1.hok.fresh (Nat.le_succ _)) (I1.hok.fresh (Nat.le_refl _)) (Nat.ne_of_lt (Nat.lt_succ_self _))
  have I2 := Inv.made (C := C) I1
  have r2 : Vals (V.ref (s1.heap.objs.size + 1) :: vs) (Value.ref (s1.heap.objs.size + 1) :: us) := .cons rfl r
  have hl : (Value.ref (s1.heap.objs.size + 1) :: us).length = pl.length := (r2.length.symm.trans (F.len _ _ _ _ hq))
  have bd := hb _ (Value.ref (s1.heap.objs.size + 1) :: us) I2.kIn (by rw [List.append_nil]; exact hl)
  rw [List.append_nil] at bd
  have run := F.run _ X.stack _ _ ⟨Value.ref (s1.heap.objs.size + 1) :: us, []⟩ _ _ _ (E σ) (hr.make C us []) (I2.env0.make C us []) bd r2 hq
  refine wpAny_call (make_map (f := f) I1.kIn M.makes M.init (beq_iff_eq.mp M.fn) (codeAny_mono run fun r s' hq' => ?_))
  cases r with
  | error e => exact hx σ pins _ _ e s' I2 hq'
  | ok fl => cases fl with
    | ret u =>
      obtain ⟨v, H', I3, rv, ev, q3⟩ := I2.after hq'
      subst ev
      exact ⟨rv, V.ref (s1.heap.objs.size + 1), H', I3, rfl, q3⟩
    | next => exact False.elim hq'
    | brk => exact False.elim hq'
    | cont => exact False.elim hq'⟩
theorem ec_make (c : CalC X.prog X.w X.K X.mg X.base x C k Pd) (hr : Room (k + 1) X.A) (hx : PassW X Z) (mo : Mono Pd)
    (h : AC X Z (e :: es) ρ fun ds ρ1 => ∀ a, Pd (.ow a (.ob C []) :: ds.map Sl.im) (WantI Z a C ds ρ1 Φ))
    (hg : Gl X x := by rfl) (hdb : (x == ("__debug__" : Str)) = false := by decide) (he : starEach (e :: es) X.env = (false, eval e X.env) :: starEach es X.env := by rfl) (hpl : (backTo pos (starEach es X.env)).any (·.1) = false := by rfl) : EC X Z (.Call (.Name x p) (e :: es) [] pos) ρ Φ := fun B G H σ o z Q q => by
  obtain ⟨f, fd, ps, F, mk, bd, hm⟩ := c.ex
  refine (pe_makeS (E := fun σ c d H => Z.E c d σ H) mk F hr hg hm bd hx p_wA hdb he hpl).w (h B G H σ o z _ fun ds ρ1 vs B1 H1 hk e1 o1 r1 => ?_)
  intro y dx hy hdx hne
  obtain ⟨od, hbd, hgd, hnd⟩ := o1.fresh (u := .own y) hdx
  have hy2 : upd H1 dx (.own y) y = none := by rw [upd_ne (Ne.symm hne)]; exact hy
  obtain ⟨oy, hby, hgy, hny⟩ := od.fresh (u := .ins C dx []) hy2
  have ob := oy.call r1
  -- the callee's frame: all but the new instance
  have oc : Ok X.K B1 (rest B1 (upd (upd H1 dx (.own y)) y (.ins C dx [])) (some y)) (upd (upd H1 dx (.own y)) y (.ins C dx [])) ((V.ref y :: vs).map some) ((Sl.ow y (.ob C []) :: ds.map Sl.im).map some) := by
    refine ⟨⟨ob.s.ex, fun b w hw => ?_, fun b w hw => ?_, ob.s.tp⟩, by simp [r1.length], fun i d hd => ?_, fun i a w hw => ?_, fun i j a w w' h1 h2 => ?_⟩
    · unfold rest at hw
      split at hw
      · cases hw
      · split at hw
        · cases hw
        · exact hw
    · unfold rest at hw
      split at hw
      · cases hw
      · split at hw
        · cases hw
        · rename_i hb; simpa using hb
    · cases i with
      | zero => simp at hd
      | succ i => exact ob.im i d (by simpa using hd)
    · cases i with
      | zero =>
        simp at hw
        obtain ⟨rfl, rfl⟩ := hw
        exact ⟨rfl, hby, by unfold rest; rw [if_pos rfl], _, upd_same, rfl, .nil⟩
      | succ i =>
        obtain ⟨_, _, _, _⟩ := ob.ow i a w (by simpa using hw)
        have hw' : ((ds.map Sl.im).map some)[i]? = some (some (Sl.ow a w)) := by simpa using hw
        have hd' := mapq.mp hw'
        rw [List.getElem?_map] at hd'
        cases e : ds[i]? <;> rw [e] at hd' <;> simp at hd'
    · have no : ∀ (i : Nat) (a : Addr) (w : OO), ((Sl.ow y (.ob C []) :: ds.map Sl.im).map some)[i + 1]? ≠ some (some (Sl.ow a w)) := fun i a w hw => by
        have hw' : ((ds.map Sl.im).map some)[i]? = some (some (Sl.ow a w)) := by simpa using hw
        have hd' := mapq.mp hw'
        rw [List.getElem?_map] at hd'
        cases e : ds[i]? <;> rw [e] at hd' <;> simp at hd'
      cases i with
      | zero => cases j with
        | zero => rfl
        | succ j => exact absurd h2 (no j a w')
      | succ i => exact absurd h1 (no i a w)
  have back : ∀ {B' H' : Hp}, Ex B1 B' → St3 B' (rest B1 (upd (upd H1 dx (.own y)) y (.ins C dx [])) (some y)) H' → Ok X.K B' G H' σ ρ1 := fun {B' H'} e2 s2 => by
    have old : ∀ b w, H1 b = some w → B1 b = none → H' b = some w ∧ B' b = none := fun b w hw hb => by
      have n1 : b ≠ y := ne_of_none hw hy
      have n2 : b ≠ dx := ne_of_none hw hdx
      have h1 : rest B1 (upd (upd H1 dx (.own y)) y (.ins C dx [])) (some y) b = some w := by
        unfold rest; rw [if_neg (by simp [n1]), if_neg (by simp [hb]), upd_ne n1, upd_ne n2]; exact hw
      exact ⟨s2.eg b w h1, s2.dj b w h1⟩
    refine ⟨⟨s2.ex, fun b w hw => (old b w (o1.s.eg b w hw) (o1.s.dj b w hw)).1, fun b w hw => (old b w (o1.s.eg b w hw) (o1.s.dj b w hw)).2, s2.tp⟩, o1.len, fun i d hd => ?_, fun i a w hw => ?_, o1.ne⟩
    · obtain ⟨v, h1, h2⟩ := o1.im i d hd
      exact ⟨v, h1, h2.up e2⟩
    · obtain ⟨q1, q2, q3, u, q4, q5⟩ := o1.ow i a w hw
      obtain ⟨h1, h2⟩ := old a u q4 q2
      exact ⟨q1, h2, q3, u, h1, q5.up e2⟩
  refine ⟨B1, _, _, oc, mo _ _ _ ?_ (hk y)⟩
  intro oc' hoc
  match oc', hoc with
  | .ret (.im .non) (.ow a' (.ob C' fs) :: as'), ⟨h1, h2, h3, hΦ⟩ =>
    subst h1; subst h2; subst h3
    intro v B' H' e2 o2 rv
    cases rv
    refine ⟨rfl, ?_⟩
    obtain ⟨_, hb', hg', u, hu, hru⟩ := o2.ow 0 _ _ rfl
    have o3 := back e2 o2.s
    cases u with
    | ins C2 dx2 vfs =>
      obtain ⟨hC, hf⟩ := hru
      subst hC
      obtain ⟨e3, o4⟩ := o3.know hb' (fresh_back o1.s.eg hy) hu (fun j w hj => by
        obtain ⟨_, _, _, w2, hw2, _⟩ := o1.ow j _ w hj
        rw [hy] at hw2; cases hw2)
      exact q _ ρ1 _ _ H' hΦ ((e1.trans e2).trans e3) o4 (.obj upd_same (hf.up e3))
    | _ => exact False.elim hru
  | .raise C fs, hR =>
    intro dd B' H' e2 s3 er
    exact z C fs dd B' H' σ ρ1 hR (e1.trans e2) (back e2 s3) er
/-- self.f = e, self an instance of one's own -/
theorem sc_fld (i : Nat) {a : Addr} {fs : List (Str × D)} (hd : ρ[i]? = some (some (.ow a (.ob C fs)))) (cl : Cls X.K C) (na : NoAttr X.K C f)
    (h : EC X Z e ρ fun d ρ1 => ∃ gs, ρ1[i]? = some (some (.ow a (.ob C gs))) ∧ gs.length < 1000 ∧ SC X Z sts (ρ1.set i (some (.ow a (.ob C (putD f d gs))))) O) (hs : swapsWith e (some (.Attribute (.Name x ps) f apos)) pos.line X.env = pure false := by rfl)
    (hN : X.N[i]? = some x := by rfl) (hv : Vis X.env.scope x := by first | exact Or.inl rfl | exact Or.inr (Or.inl rfl) | exact Or.inr (Or.inr rfl)) (hdb : (x == ("__debug__" : Str)) = false := by decide) (hcd : (x == ("__classdict__" : Str)) = false := by decide) :
    SC X Z (.Assign [.Attribute (.Name x ps) f apos] e pos :: sts) ρ O :=
  sc_of (ps_fld (pe_var hN hv hdb hcd) p_wE hs) fun B G H σ Dd o z s => h B G H σ o z _ fun d ρ1 v B1 H1 ⟨gs, hg, hl, hk⟩ e1 o1 r1 => by
    obtain ⟨h1, h2, h3, u, h4, h5⟩ := o1.ow i a _ hg
    cases u with
    | ins C2 dx vfs =>
      obtain ⟨hC, hf⟩ := h5
      subst hC
      exact ⟨_, h1, a, C2, dx, vfs, rfl, h4, cl, na, by rw [hf.len]; exact hl, hk.go (o1.upd_ow (u' := .ins C2 dx (putF f v vfs)) hg ⟨rfl, hf.put r1⟩) z s e1⟩
    | _ => exact False.elim h5
/-- self.f read, self an instance of one's own -/
theorem ec_fldO (i : Nat) {a : Addr} {fs : List (Str × D)} {d : D} (hd : ρ[i]? = some (some (.ow a (.ob C fs)))) (cl : Cls X.K C) (na : NoAttr X.K C f) (hl : fs.lookup f = some d) (h : Φ d ρ)
    (hN : X.N[i]? = some x := by rfl) (hv : Vis X.env.scope x := by first | exact Or.inl rfl | exact Or.inr (Or.inl rfl) | exact Or.inr (Or.inr rfl)) (hdb : (x == ("__debug__" : Str)) = false := by decide) (hcd : (x == ("__classdict__" : Str)) = false := by decide)
    (hb : attributeBase (.Name x ps) f X.env (eval (.Name x ps) X.env) = eval (.Name x ps) X.env := by rfl) : EC X Z (.Attribute (.Name x ps) f pos) ρ Φ := fun B G H σ o z Q q => by
  obtain ⟨h1, h2, h3, u, h4, h5⟩ := o.ow i a _ hd
  cases u with
  | ins C2 dx vfs =>
    obtain ⟨hC, hf⟩ := h5
    subst hC
    obtain ⟨w, hw, rw_⟩ := hf.lookup hl
    exact (pe_fld (pe_var hN hv hdb hcd) hb).w ⟨_, h1, a, C2, dx, vfs, w, rfl, h4, cl, na, hw, q d ρ w B H h (Ex.refl B) o rw_⟩
  | _ => exact False.elim h5
/-! ### lists of one's own -/
/-- x.append(e) -/
theorem sc_app (i : Nat) {a : Addr} {es0 : List D} (hd : ρ[i]? = some (some (.ow a (.l es0)))) (h : EC X Z e ρ fun d ρ1 => ∃ ds, ρ1[i]? = some (some (.ow a (.l ds))) ∧ ds.length < 100000 ∧ SC X Z sts (ρ1.set i (some (.ow a (.l (ds ++ [d]))))) O)
    (pf : ∀ te, PE X e te → PE X (.Call (.Attribute (.Name x ps) "append" apos) [e] [] p) (tBM X.K "list" rAppend (tVar i) (tCons te tNil)) := by
      exact fun te he => pe_bm PySem.F.plainAttrs_list PySem.F.slot_list_append PySem.F.type_list_append mt_append (pv _) (pa_cons he pa_nil))
    (hs : swapsWith (.Call (.Attribute (.Name x ps) "append" apos) [e] [] p) none pos.line X.env = pure false := by rfl) : SC X Z (.Expr (.Call (.Attribute (.Name x ps) "append" apos) [e] [] p) pos :: sts) ρ O :=
  sc_of (ps_expr (pf _ p_wE) hs) fun B G H σ Dd o z s => by
    obtain ⟨h1, _, _, u0, h4, h5⟩ := o.ow i a _ hd
    cases u0 with
    | lst vs0 =>
      refine ⟨_, h1, .inl ⟨rfl, vs0, sq_of h4⟩, h B G H σ o z _ fun d ρ1 v B1 H1 ⟨ds, hg, hl, hk⟩ e1 o1 r1 => ?_⟩
      obtain ⟨g1, g2, g3, u, g4, g5⟩ := o1.ow i a _ hg
      cases u with
      | lst vs =>
        exact ⟨a, vs, v, rfl, rfl, g4, sz_lt (by rw [Reps.length g5]; exact hl), hk.go (o1.upd_ow (u' := .lst (vs ++ [v])) (o' := .l (ds ++ [d])) hg (Reps.app g5 (.cons r1 .nil))) z s e1⟩
      | _ => exact False.elim g5
    | _ => exact False.elim h5
end
end AL
namespace AL
open PySem PySem.Spec PyProof.Rows L2 Evl
/-! ### built-ins on data -/
def GivesB (K : PySem.W.Frag) (r : List V → Hp → VK → Prop) (ds : List D) (Post : D → Prop) : Prop := ∀ B G H vs, St3 B G H → Reps K B vs ds → ∀ Q : VK,
  (∀ d v, Post d → Rep K B v d → Q v H) → (∀ p o d, H p = none → Post d → Rep K (upd B p o) (.ref p) d → Q (.ref p) (upd H p o)) → r vs H Q
section
variable {X : Cx} {Z : Zx} {e : Expr} {es : List Expr} {ρ : En} {Φ : D → En → Prop} {Ψ : Bool → En → Prop} {p pos apos ps : Pos} {x : Str} {id : String} {r : List V → Hp → VK → Prop} {O : Outs} {sts : List Stmt}
theorem gb_end {B1 G H1 : Hp} {σ : L2.St} {ρ1 : En} {B : Hp} {ds : List D} {vs : List V} {Q : VK} (o1 : Ok X.K B1 G H1 σ ρ1) (e1 : Ex B B1) (r1 : Reps X.K B1 vs ds) {Post : D → Prop} (g : GivesB X.K r ds Post) (hk : ∀ d, Post d → Φ d ρ1)
    (q : ∀ d ρ' v B' H', Φ d ρ' → Ex B B' → Ok X.K B' G H' σ ρ' → Rep X.K B' v d → Q v H') : r vs H1 Q :=
  g B1 G H1 vs o1.s r1 Q (fun d v hp rv => q d ρ1 v B1 H1 (hk d hp) e1 o1 rv) fun p o d hn hp rv => by
    obtain ⟨e2, o2⟩ := o1.grow (u := o) hn
    exact q d ρ1 _ _ _ (hk d hp) (e1.trans e2) o2 rv
theorem ec_cb (hc : CallR X (.builtin id) r) (hv : bootBuiltins x = some (.builtin id)) (hm : X.mg x = none) (h : AC X Z (e :: es) ρ fun ds ρ1 => ∃ Post, GivesB X.K r ds Post ∧ ∀ d, Post d → Φ d ρ1) (hg : Gl X x := by rfl) (hn : x ≠ "__name__" := by decide) (hdb : (x == ("__debug__" : Str)) = false := by decide)
    (he : starEach (e :: es) X.env = (false, eval e X.env) :: starEach es X.env := by rfl) (hpl : (backTo pos (starEach es X.env)).any (·.1) = false := by rfl) : EC X Z (.Call (.Name x p) (e :: es) [] pos) ρ Φ := fun B G H σ o z Q q =>
  (pe_callB hc hg hm hv p_wA hn hdb (he := he) (hpl := hpl)).w (h B G H σ o z _ fun ds ρ1 vs B1 H1 ⟨Post, g, hk⟩ e1 o1 r1 => gb_end o1 e1 r1 g hk q)
theorem ec_cty {T : String} (hc : CallR X (.type T) r) (hv : bootBuiltins x = some (.type T)) (hm : X.mg x = none) (h : AC X Z (e :: es) ρ fun ds ρ1 => ∃ Post, GivesB X.K r ds Post ∧ ∀ d, Post d → Φ d ρ1) (hg : Gl X x := by rfl) (hn : x ≠ "__name__" := by decide) (hdb : (x == ("__debug__" : Str)) = false := by decide)
    (he : starEach (e :: es) X.env = (false, eval e X.env) :: starEach es X.env := by rfl) (hpl : (backTo pos (starEach es X.env)).any (·.1) = false := by rfl) : EC X Z (.Call (.Name x p) (e :: es) [] pos) ρ Φ := fun B G H σ o z Q q =>
  (pe_callTy hc hg hm hv p_wA hn hdb (he := he) (hpl := hpl)).w (h B G H σ o z _ fun ds ρ1 vs B1 H1 ⟨Post, g, hk⟩ e1 o1 r1 => gb_end o1 e1 r1 g hk q)
end
section
variable {K : PySem.W.Frag}
/-- data of a kind, as values -/
theorem reps_int : ∀ {ns : List Int} {B : Hp} {vs : List V}, Reps K B vs (ns.map D.int) → vs = ns.map V.int
  | [], _, _, .nil => rfl
  | n :: ns, _, _, .cons r rs => by cases r; rw [reps_int rs]; rfl
theorem reps_bl : ∀ {ns : List Bool} {B : Hp} {vs : List V}, Reps K B vs (ns.map D.bl) → vs = ns.map V.bl
  | [], _, _, .nil => rfl
  | n :: ns, _, _, .cons r rs => by cases r; rw [reps_bl rs]; rfl
theorem int_reps {B : Hp} : ∀ ns : List Int, Reps K B (ns.map V.int) (ns.map D.int)
  | [] => .nil
  | n :: ns => .cons (.int n) (int_reps ns)
theorem gb_tuple {xs : List D} {d : D} (hd : itemsD d = some xs) (hk : ∀ ys, d ≠ .ktup ys) : GivesB K (fun xs H Q => ∃ p ys, xs = [.ref p] ∧ ((SqL K H p ys ∧ ∀ l, H l = none → Q (.ref l) (upd H l (.tup ys))) ∨ (SqT K H p ys ∧ Q (.ref p) H))) [d] (· = .tup xs) := fun B G H vs s r Q q1 q2 => by
  cases r with
  | cons r rs =>
    cases rs
    cases r with
    | lst hq rr =>
      obtain rfl := Option.some.inj hd
      exact ⟨_, _, rfl, .inl ⟨sq_of (s.ex _ _ hq), fun l hl => q2 l _ _ hl rfl (.tup upd_same (rr.up (Ex.new (fresh_back s.ex hl))))⟩⟩
    | tup hq rr => obtain rfl := Option.some.inj hd; exact ⟨_, _, rfl, .inr ⟨ex_t s.ex (st_of hq), q1 _ _ rfl (.tup hq rr)⟩⟩
    | klst hq rr =>
      obtain rfl := Option.some.inj hd
      exact ⟨_, _, rfl, .inl ⟨ex_l s.ex hq, fun l hl => q2 l _ _ hl rfl (.tup upd_same (rr.up (Ex.new (fresh_back s.ex hl))))⟩⟩
    | ktup hq rr => exact absurd rfl (hk _)
    | _ => cases hd
theorem gb_list {xs : List D} {d : D} (hd : itemsD d = some xs) : GivesB K (fun xs H Q => ∃ p ys, xs = [.ref p] ∧ (SqL K H p ys ∨ SqT K H p ys) ∧ ∀ l, H l = none → Q (.ref l) (upd H l (.lst ys))) [d] (· = .lst xs) := fun B G H vs s r Q q1 q2 => by
  cases r with
  | cons r rs =>
    cases rs
    cases r with
    | lst hq rr =>
      obtain rfl := Option.some.inj hd
      exact ⟨_, _, rfl, .inl (sq_of (s.ex _ _ hq)), fun l hl => q2 l _ _ hl rfl (.lst upd_same (rr.up (Ex.new (fresh_back s.ex hl))))⟩
    | tup hq rr =>
      obtain rfl := Option.some.inj hd
      exact ⟨_, _, rfl, .inr (ex_t s.ex (st_of hq)), fun l hl => q2 l _ _ hl rfl (.lst upd_same (rr.up (Ex.new (fresh_back s.ex hl))))⟩
    | klst hq rr =>
      obtain rfl := Option.some.inj hd
      exact ⟨_, _, rfl, .inl (ex_l s.ex hq), fun l hl => q2 l _ _ hl rfl (.lst upd_same (rr.up (Ex.new (fresh_back s.ex hl))))⟩
    | ktup hq rr =>
      obtain rfl := Option.some.inj hd
      exact ⟨_, _, rfl, .inr (ex_t s.ex hq), fun l hl => q2 l _ _ hl rfl (.lst upd_same (rr.up (Ex.new (fresh_back s.ex hl))))⟩
    | _ => cases hd
theorem gb_sorted {ns : List Int} : GivesB K (rSortedI K) [.lst (ns.map D.int)] (fun d => ∃ ns' : List Int, ns'.Perm ns ∧ ns'.Pairwise (· ≤ ·) ∧ d = .lst (ns'.map D.int)) := fun B G H vs s r Q q1 q2 => by
  cases r with
  | cons r rs =>
    cases rs
    cases r with
    | lst hq rr =>
      have e := reps_int rr
      subst e
      exact ⟨_, ns, rfl, sq_of (s.ex _ _ hq), fun ns' p h1 h2 hp => q2 p _ _ hp ⟨ns', h1, h2, rfl⟩ (.lst upd_same (int_reps ns'))⟩
theorem gb_any {bs : List Bool} : GivesB K (rAny K) [.lst (bs.map D.bl)] (· = .bl (bs.any id)) := fun B G H vs s r Q q1 q2 => by
  cases r with
  | cons r rs =>
    cases rs
    cases r with
    | lst hq rr => have e := reps_bl rr; subst e; exact ⟨_, bs, rfl, sq_of (s.ex _ _ hq), q1 _ _ rfl (.bl _)⟩
theorem gb_all {bs : List Bool} : GivesB K (rAll K) [.lst (bs.map D.bl)] (· = .bl (bs.all id)) := fun B G H vs s r Q q1 q2 => by
  cases r with
  | cons r rs =>
    cases rs
    cases r with
    | lst hq rr => have e := reps_bl rr; subst e; exact ⟨_, bs, rfl, sq_of (s.ex _ _ hq), q1 _ _ rfl (.bl _)⟩
theorem gb_int {n : Int} : GivesB K (fun xs H Q => (∃ i, xs = [.int i] ∧ Q (.int i) H) ∨ ∃ k, xs = [.bl k] ∧ Q (.int (if k then 1 else 0)) H) [.int n] (· = .int n) := fun B G H vs s r Q q1 q2 => by
  cases r with
  | cons r rs => cases rs; cases r; exact .inl ⟨n, rfl, q1 _ _ rfl (.int _)⟩
theorem gb_min2 {i j : Int} : GivesB K (fun xs H Q => ∃ i j, xs = [.int i, .int j] ∧ Q (.int (if j < i then j else i)) H) [.int i, .int j] (· = .int (if j < i then j else i)) := fun B G H vs s r Q q1 q2 => by
  cases r with
  | cons r rs => cases rs with | cons r2 rs => cases rs; cases r; cases r2; exact ⟨i, j, rfl, q1 _ _ rfl (.int _)⟩
end
/-! ### in, not in -/
section
variable {X : Cx} {Z : Zx} {a b e : Expr} {ρ : En} {Φ : D → En → Prop} {Ψ : Bool → En → Prop} {p pos apos ps : Pos} {x : Str} {O : Outs} {sts : List Stmt}
theorem inV_int {n : Int} : ∀ {ns : List Int}, inV (.int n) (ns.map V.int) = decide (n ∈ ns)
  | [] => rfl
  | m :: ns => by
    have ih := inV_int (n := n) (ns := ns)
    unfold inV at ih ⊢
    rw [List.map_cons, List.any_cons, ih]
    by_cases h : n = m
    · subst h; simp [eqV]
    · have h' : ¬ m = n := fun z => h z.symm
      simp [eqV, h, h']
theorem flat_int : ∀ {ns : List Int}, (ns.map V.int).all flatV = true
  | [] => rfl
  | m :: ns => by rw [List.map_cons, List.all_cons, flat_int (ns := ns)]; rfl
theorem g_inI {K : PySem.W.Frag} {neg : Bool} {n : Int} {ns : List Int} {d : D} (hd : itemsD d = some (ns.map D.int)) : Gives K (rIn K neg) (.int n) d (.bl (if neg then !decide (n ∈ ns) else decide (n ∈ ns))) := fun B G H x y s r1 r2 => by
  cases r1
  refine ⟨_, .bl _, fun Q q => ?_⟩
  cases r2 with
  | lst hq rr =>
    obtain rfl := Option.some.inj hd
    have e := reps_int rr
    subst e
    exact ⟨_, _, rfl, .inl (sq_of (s.ex _ _ hq)), rfl, flat_int, by rw [inV_int]; exact q⟩
  | tup hq rr =>
    obtain rfl := Option.some.inj hd
    have e := reps_int rr
    subst e
    exact ⟨_, _, rfl, .inr (ex_t s.ex (st_of hq)), rfl, flat_int, by rw [inV_int]; exact q⟩
  | klst hq rr =>
    obtain rfl := Option.some.inj hd
    have e := reps_int rr
    subst e
    exact ⟨_, _, rfl, .inl (ex_l s.ex hq), rfl, flat_int, by rw [inV_int]; exact q⟩
  | ktup hq rr =>
    obtain rfl := Option.some.inj hd
    have e := reps_int rr
    subst e
    exact ⟨_, _, rfl, .inr (ex_t s.ex hq), rfl, flat_int, by rw [inV_int]; exact q⟩
  | _ => cases hd
theorem ec_inI (h : EC X Z a ρ fun d ρ1 => EC X Z b ρ1 fun d' ρ2 => ∃ (n : Int) (ns : List Int), d = .int n ∧ itemsD d' = some (ns.map D.int) ∧ Φ (.bl (decide (n ∈ ns))) ρ2) (hm : behindInMarks .In b = false := by rfl) : EC X Z (.Compare a [.In] [b] pos) ρ Φ :=
  ec_cmp op_in_seq hm (h.mono fun d ρ1 z => z.mono fun d' ρ2 ⟨n, ns, e1, e2, k⟩ => by subst e1; exact ⟨_, g_inI (neg := false) e2, k⟩)
theorem ec_niI (h : EC X Z a ρ fun d ρ1 => EC X Z b ρ1 fun d' ρ2 => ∃ (n : Int) (ns : List Int), d = .int n ∧ itemsD d' = some (ns.map D.int) ∧ Φ (.bl (!decide (n ∈ ns))) ρ2) (hm : behindInMarks .NotIn b = false := by rfl) : EC X Z (.Compare a [.NotIn] [b] pos) ρ Φ :=
  ec_cmp op_notIn_seq hm (h.mono fun d ρ1 z => z.mono fun d' ρ2 ⟨n, ns, e1, e2, k⟩ => by subst e1; exact ⟨_, g_inI (neg := true) e2, k⟩)
theorem tc_inI (h : EC X Z a ρ fun d ρ1 => EC X Z b ρ1 fun d' ρ2 => ∃ (n : Int) (ns : List Int), d = .int n ∧ itemsD d' = some (ns.map D.int) ∧ Ψ (decide (n ∈ ns)) ρ2) (hm : behindInMarks .In b = false := by rfl) : TC X Z (.Compare a [.In] [b] pos) ρ Ψ :=
  tc_op op_in_seq hm (h.mono fun d ρ1 z => z.mono fun d' ρ2 ⟨n, ns, e1, e2, k⟩ => by subst e1; exact ⟨_, g_inI (neg := false) e2, k⟩)
theorem tc_niI (h : EC X Z a ρ fun d ρ1 => EC X Z b ρ1 fun d' ρ2 => ∃ (n : Int) (ns : List Int), d = .int n ∧ itemsD d' = some (ns.map D.int) ∧ Ψ (!decide (n ∈ ns)) ρ2) (hm : behindInMarks .NotIn b = false := by rfl) : TC X Z (.Compare a [.NotIn] [b] pos) ρ Ψ :=
  tc_op op_notIn_seq hm (h.mono fun d ρ1 z => z.mono fun d' ρ2 ⟨n, ns, e1, e2, k⟩ => by subst e1; exact ⟨_, g_inI (neg := true) e2, k⟩)
end
end AL
namespace AL
open PySem PySem.Spec PyProof.Rows L2 Evl
/-! ### comprehensions of two clauses -/
theorem nwipe {ρ : En} {Dl : Addr} (hnn : ∀ (j : Nat) (q : OO), ρ[j]? ≠ some (some (Sl.ow Dl q))) : ∀ (vs : List Nat) (j : Nat) (q : OO), (wipeE ρ vs)[j]? ≠ some (some (Sl.ow Dl q)) := by
  intro vs
  induction vs with
  | nil => exact hnn
  | cons v vs ih =>
    intro j q hj
    have hj' : ((wipeE ρ vs).set v none)[j]? = some (some (Sl.ow Dl q)) := hj
    rw [getq_set] at hj'
    split at hj'
    · simp at hj'
    · split at hj'
      · simp at hj'
      · exact ih j q hj'
theorem wipeE_out {ρ : En} {i : Nat} : ∀ {vs : List Nat}, i ∉ vs → (wipeE ρ vs)[i]? = ρ[i]?
  | [], _ => rfl
  | v :: vs, h => by
    show ((wipeE ρ vs).set v none)[i]? = _
    have hv : ¬ v = i := fun z => h (by simp [z])
    rw [getq_set, if_neg (fun z => hv z.1), if_neg hv]
    exact wipeE_out fun z => h (List.mem_cons_of_mem _ z)
theorem upd_self {H : Hp} {a : Addr} {u : HO} (h : H a = some u) : upd H a u = H := by
  funext b
  by_cases hb : b = a
  · subst hb; rw [upd_same, h]
  · rw [upd_ne hb]
section
variable {X : Cx} {Z : Zx} {elt tg iter tg1 iter1 cnd : Expr} {scope : Scope} {pos spos py : Pos} {ρ : En} {Φ : OO → En → Prop} {O : Outs} {sts : List Stmt} {y : Str}
theorem fc_lc2_te (own : List (Str × Nat)) (js vs1 js1 : List Nat) (h : IC X Z tg iter ρ fun ds ρ1 => ∃ (out : Nat → List D), out 0 = [] ∧ (∀ i, i ≤ ds.length → (out i).length ≤ 50000) ∧
      (∀ i d, ds[i]? = some d → AllB X scope fun X1 => GT X1 tg js d (wipeE ρ1 (own.map (·.2))) fun ρ3 => AllB X scope fun X2 => IC X2 Z0 tg1 iter1 ρ3 fun es ρ4 => wipeE (wipeE ρ4 vs1) (own.map (·.2)) = wipeE ρ1 (own.map (·.2)) ∧
        ∃ inn : Nat → List D, inn 0 = [] ∧ (∀ j, j ≤ es.length → (inn j).length ≤ 40000) ∧ out (i + 1) = out i ++ inn es.length ∧
        ∀ j e, es[j]? = some e → AllB X scope fun X3 => GT X3 tg1 js1 e (wipeE ρ4 vs1) fun ρ5 => AllB X scope fun X4 => EC X4 Z0 elt ρ5 fun y ρ6 => inn (j + 1) = inn j ++ [y] ∧ wipeE ρ6 vs1 = wipeE ρ4 vs1) ∧
      (∀ (j : Nat) (a : Addr) (o : OO), ρ1[j]? = some (some (Sl.ow a o)) → j ∉ own.map (·.2)) ∧ Φ (.l (out ds.length)) ρ1)
    (hjs : ∀ j ∈ js, j ∈ own.map (·.2)) (hvs : ∀ j ∈ vs1, j ∈ own.map (·.2)) (hjs1 : ∀ j ∈ js1, j ∈ vs1) : FT X Z (tLc2 (wI X tg iter) (fun v σ H Q => AllB X scope fun X' => wG X' tg v σ H Q) (tYes) (fun σ H R => AllB X scope fun X' => wI X' tg1 iter1 σ H R) (fun v σ H Q => AllB X scope fun X' => wG X' tg1 v σ H Q) (tYes) (fun σ H Q => AllB X scope fun X' => wE X' elt σ H Q) (own.map (·.2)) vs1) ρ Φ := fun B G H σ o z Q q => by
  refine h B G H σ o z _ fun ds ρ1 J B1 H1 ⟨out, ho, hl, ht, hno, hk⟩ e1 o1 wk => ?_
  intro Dl hD
  obtain ⟨of, hBn, hGn, hnn⟩ := o1.fresh (u := .lst []) hD
  have hB1 : B1 Dl = none := fresh_back o1.s.ex hD
  have hG1 := fresh_back o1.s.eg hD
  have ow0 := of.wipe (own.map (·.2))
  have nw := nwipe hnn (own.map (·.2))
  refine ⟨fun i m H' => m = ds.length - i ∧ i ≤ ds.length ∧ ∃ B' u, Ex B1 B' ∧ Ok X.K B' G H' (L2.wipe σ (own.map (·.2))) (wipeE ρ1 (own.map (·.2))) ∧ B' Dl = none ∧ H' Dl = some (.lst u) ∧ Reps X.K B' u (out i), ⟨_, rfl, Nat.zero_le _, B1, [], Ex.refl _, ow0, hB1, upd_same, by rw [ho]; exact .nil⟩, ?_⟩
  rintro i m H' ⟨rfl, hi, B', u, e', o', hb', hu', r'⟩
  have oh := o'.hold hb' hu' nw
  by_cases hlt : i < ds.length
  · have hget : ds[i]? = some ds[i] := by simp [hlt]
    obtain ⟨g1, g2⟩ := (wk i B' _ H' _ _ e' oh).1 _ hget
    refine .inr ⟨g1, fun H' => ∃ B' u, Ex B1 B' ∧ Ok X.K B' G H' (L2.wipe σ (own.map (·.2))) (wipeE ρ1 (own.map (·.2))) ∧ B' Dl = none ∧ H' Dl = some (.lst u) ∧ Reps X.K B' u (out (i + 1)), fun H' x => ⟨ds.length - (i + 1), by omega, rfl, hlt, x⟩, fun x H2 y => ?_⟩
    obtain ⟨B3, e3, o3, r3⟩ := g2 x H2 y
    intro s H0 C cl fp
    refine ht i _ hget s H0 C cl fp B3 _ H2 _ x o3 r3 _ fun ρ3 σ3 B4 H4 h4 ag e4 o4 => ?_
    have hw : L2.wipe σ3 (own.map (·.2)) = L2.wipe (L2.wipe σ (own.map (·.2))) (own.map (·.2)) := Agree.wipe ⟨ag.1, fun k hk => ag.2 k fun z => hk (hjs k z)⟩
    rw [wipe_wipe] at hw
    refine ⟨hw, ?_⟩
    show (AllB X scope fun X' => wI X' tg1 iter1 σ3 H4 _)
    intro s5 H5 C5 cl5 fp5
    refine h4 s5 H5 C5 cl5 fp5 B4 _ H4 σ3 o4 RC.none _ fun es ρ4 J1 B6 H6 ⟨hρ4, inn, hi0, hil, hio, hin⟩ e6 o6 wk1 => ?_
    obtain ⟨l1, l2, l3, l4⟩ := o6.letGo hG1
    have e16 : Ex B' B6 := (e3.trans e4).trans e6
    have ow1 : Ok X.K B6 G H6 (L2.wipe σ3 vs1) (wipeE ρ4 vs1) := by
      have z5 := (l4 (.lst u) rfl).wipe vs1
      rwa [upd_self l2] at z5
    have nw1 := nwipe l3 vs1
    refine ⟨fun j m H' => m = es.length - j ∧ j ≤ es.length ∧ ∃ B' u, Ex B6 B' ∧ Ok X.K B' G H' (L2.wipe σ3 vs1) (wipeE ρ4 vs1) ∧ B' Dl = none ∧ H' Dl = some (.lst u) ∧ Reps X.K B' u (out i ++ inn j), ⟨_, rfl, Nat.zero_le _, B6, u, Ex.refl _, ow1, l1, l2, by rw [hi0, List.append_nil]; exact r'.up e16⟩, ?_⟩
    rintro j m H7 ⟨rfl, hj, B7, u7, e7, o7, hb7, hu7, r7⟩
    have oh7 := o7.hold hb7 hu7 nw1
    by_cases hlt1 : j < es.length
    · have hget1 : es[j]? = some es[j] := by simp [hlt1]
      obtain ⟨g3, g4⟩ := (wk1 j B7 _ H7 _ _ e7 oh7).1 _ hget1
      refine .inr ⟨g3, fun H' => ∃ B' u, Ex B6 B' ∧ Ok X.K B' G H' (L2.wipe σ3 vs1) (wipeE ρ4 vs1) ∧ B' Dl = none ∧ H' Dl = some (.lst u) ∧ Reps X.K B' u (out i ++ inn (j + 1)), fun H' x => ⟨es.length - (j + 1), by omega, rfl, hlt1, x⟩, fun x H8 y => ?_⟩
      obtain ⟨B8, e8, o8, r8⟩ := g4 x H8 y
      intro s H0 C cl fp
      refine hin j _ hget1 s H0 C cl fp B8 _ H8 _ x o8 r8 _ fun ρ5 σ5 B9 H9 h9 ag9 e9 o9 => ?_
      have hw9 : L2.wipe σ5 vs1 = L2.wipe (L2.wipe σ3 vs1) vs1 := Agree.wipe ⟨ag9.1, fun k hk => ag9.2 k fun z => hk (hjs1 k z)⟩
      rw [wipe_wipe] at hw9
      have hlo := hl i hi
      have hli := hil j hj
      refine ⟨hw9, ?_⟩
      show (AllB X scope fun X' => wE X' elt σ5 H9 _)
      intro s11 H11 C11 cl11 fp11
      refine h9 s11 H11 C11 cl11 fp11 B9 _ H9 σ5 o9 RC.none _ fun y ρ6 v B10 H10 ⟨hy, hR⟩ e10 o10 r10 => ?_
      obtain ⟨m1, m2, m3, m4⟩ := o10.letGo hG1
      have e710 : Ex B7 B10 := (e8.trans e9).trans e10
      refine ⟨u7, m2, sz_lt (by rw [r7.length]; simp; omega), B10, u7 ++ [v], e7.trans e710, ?_, m1, upd_same, by rw [hy, ← List.append_assoc]; exact (r7.up e710).app (.cons r10 .nil)⟩
      have z5 := (m4 (.lst (u7 ++ [v])) rfl).wipe vs1
      rw [hw9, hR] at z5
      exact z5
    · have hjj : j = es.length := by omega
      subst hjj
      refine .inl ⟨(wk1 _ B7 G H7 _ _ e7 o7).2 (Nat.le_refl _), B7, u7, (e'.trans e16).trans e7, ?_, hb7, hu7, by rw [hio]; exact r7⟩
      have z5 := o7.wipe (own.map (·.2))
      rw [hρ4, Agree.wipe (σ := σ3) ⟨wipe_length σ3 vs1, fun k hk => wipe_out (fun z => hk (hvs k z))⟩, hw] at z5
      exact z5
  · have hii : i = ds.length := by omega
    subst hii
    have hb : BackE ρ1 (wipeE ρ1 (own.map (·.2))) ρ1 := ⟨rfl, fun i d h => h, fun i a w h => ⟨by rw [wipeE_out (hno i a w h)]; exact h, _, h⟩⟩
    exact .inl ⟨(wk _ B' G H' _ _ e' o').2 (Nat.le_refl _), q _ ρ1 Dl _ B' H' hk (e1.trans e') (o1.back e' o' hb) hb' hG1 hu' hnn r'⟩
theorem fc_lc2 (own : List (Str × Nat)) (js vs1 js1 : List Nat) (h : IC X Z tg iter ρ fun ds ρ1 => ∃ (out : Nat → List D), out 0 = [] ∧ (∀ i, i ≤ ds.length → (out i).length ≤ 50000) ∧
      (∀ i d, ds[i]? = some d → AllB X scope fun X1 => GT X1 tg js d (wipeE ρ1 (own.map (·.2))) fun ρ3 => AllB X scope fun X2 => IC X2 Z0 tg1 iter1 ρ3 fun es ρ4 => wipeE (wipeE ρ4 vs1) (own.map (·.2)) = wipeE ρ1 (own.map (·.2)) ∧
        ∃ inn : Nat → List D, inn 0 = [] ∧ (∀ j, j ≤ es.length → (inn j).length ≤ 40000) ∧ out (i + 1) = out i ++ inn es.length ∧
        ∀ j e, es[j]? = some e → AllB X scope fun X3 => GT X3 tg1 js1 e (wipeE ρ4 vs1) fun ρ5 => AllB X scope fun X4 => EC X4 Z0 elt ρ5 fun y ρ6 => inn (j + 1) = inn j ++ [y] ∧ wipeE ρ6 vs1 = wipeE ρ4 vs1) ∧
      (∀ (j : Nat) (a : Addr) (o : OO), ρ1[j]? = some (some (Sl.ow a o)) → j ∉ own.map (·.2)) ∧ Φ (.l (out ds.length)) ρ1)
    (nd : X.N.Nodup) (hjs : ∀ j ∈ js, j ∈ own.map (·.2)) (hvs : ∀ j ∈ vs1, j ∈ own.map (·.2)) (hjs1 : ∀ j ∈ js1, j ∈ vs1) (ok : BlkOk X.N X.env.scope scope own := by exact blkOk_by (by first | decide +kernel | kernel_rfl)) (hc : X.calm = true := by rfl) (hs : ∀ x, foldedSetIterable iter X.env x = pure x := by intro _; rfl) (hs1 : ∀ env x, foldedSetIterable iter1 env x = pure x := by intro _ _; rfl) :
    FC X Z (.ListComp elt [⟨tg, iter, [], 0⟩, ⟨tg1, iter1, [], 0⟩] scope pos) ρ Φ := fun B G H σ o z Q q => (pe_lc2 (g := fun v σ H Q => AllB X scope fun X' => wG X' tg v σ H Q) (tt := tYes) (g1 := fun v σ H Q => AllB X scope fun X' => wG X' tg1 v σ H Q) (tt1 := tYes) (te := fun σ H Q => AllB X scope fun X' => wE X' elt σ H Q) (wi1 := fun σ H R => AllB X scope fun X' => wI X' tg1 iter1 σ H R) (vs1 := vs1) hc nd p_wI ok hvs
    (fun s H C cl fp => ⟨fun pins s2 σ2 H2 v u Q2 I r h => h s H C cl fp pins s2 u I r⟩) (fun _ _ _ _ _ => pts_nil) (fun s H C cl fp => ⟨fun pins s2 σ2 H2 R2 I h => h s H C cl fp pins s2 I⟩)
    (fun s H C cl fp => ⟨fun pins s2 σ2 H2 v u Q2 I r h => h s H C cl fp pins s2 u I r⟩) (fun _ _ _ _ _ => pts_nil)
    (fun s H C cl fp => ⟨fun pins s2 σ2 H2 Q2 I h => h s H C cl fp pins s2 I⟩) hs hs1).w (fc_lc2_te own js vs1 js1 h hjs hvs hjs1 B G H σ o z Q q)
/-- the same, assigned -/
theorem sc_lc2 (i : Nat) (own : List (Str × Nat)) (js vs1 js1 : List Nat) (h : IC X Z tg iter ρ fun ds ρ1 => ∃ (out : Nat → List D), out 0 = [] ∧ (∀ i, i ≤ ds.length → (out i).length ≤ 50000) ∧
      (∀ i d, ds[i]? = some d → AllB X scope fun X1 => GT X1 tg js d (wipeE ρ1 (own.map (·.2))) fun ρ3 => AllB X scope fun X2 => IC X2 Z0 tg1 iter1 ρ3 fun es ρ4 => wipeE (wipeE ρ4 vs1) (own.map (·.2)) = wipeE ρ1 (own.map (·.2)) ∧
        ∃ inn : Nat → List D, inn 0 = [] ∧ (∀ j, j ≤ es.length → (inn j).length ≤ 40000) ∧ out (i + 1) = out i ++ inn es.length ∧
        ∀ j e, es[j]? = some e → AllB X scope fun X3 => GT X3 tg1 js1 e (wipeE ρ4 vs1) fun ρ5 => AllB X scope fun X4 => EC X4 Z0 elt ρ5 fun y ρ6 => inn (j + 1) = inn j ++ [y] ∧ wipeE ρ6 vs1 = wipeE ρ4 vs1) ∧
      (∀ (j : Nat) (a : Addr) (o : OO), ρ1[j]? = some (some (Sl.ow a o)) → j ∉ own.map (·.2)) ∧ ∀ p, SC X Z sts (ρ1.set i (some (.ow p (.l (out ds.length))))) O)
    (nd : X.N.Nodup) (hjs : ∀ j ∈ js, j ∈ own.map (·.2)) (hvs : ∀ j ∈ vs1, j ∈ own.map (·.2)) (hjs1 : ∀ j ∈ js1, j ∈ vs1) (ok : BlkOk X.N X.env.scope scope own := by exact blkOk_by (by first | decide +kernel | kernel_rfl)) (hc : X.calm = true := by rfl) (hs : ∀ x, foldedSetIterable iter X.env x = pure x := by intro _; rfl) (hs1 : ∀ env x, foldedSetIterable iter1 env x = pure x := by intro _ _; rfl)
    (hy : X.N[i]? = some y := by rfl) (hyl : X.env.scope.names.lookup y = some .local := by rfl) (hsw : swapsWith (.ListComp elt [⟨tg, iter, [], 0⟩, ⟨tg1, iter1, [], 0⟩] scope pos) (some (.Name y py)) spos.line X.env = pure true := by rfl) :
    SC X Z (.Assign [.Name y py] (.ListComp elt [⟨tg, iter, [], 0⟩, ⟨tg1, iter1, [], 0⟩] scope pos) spos :: sts) ρ O :=
  sc_of (ps_setLc2 (g := fun v σ H Q => AllB X scope fun X' => wG X' tg v σ H Q) (tt := tYes) (g1 := fun v σ H Q => AllB X scope fun X' => wG X' tg1 v σ H Q) (tt1 := tYes) (te := fun σ H Q => AllB X scope fun X' => wE X' elt σ H Q) (wi1 := fun σ H R => AllB X scope fun X' => wI X' tg1 iter1 σ H R) (vs1 := vs1) hc nd hy hyl hsw p_wI ok hvs
    (fun s H C cl fp => ⟨fun pins s2 σ2 H2 v u Q2 I r h => h s H C cl fp pins s2 u I r⟩) (fun _ _ _ _ _ => pts_nil) (fun s H C cl fp => ⟨fun pins s2 σ2 H2 R2 I h => h s H C cl fp pins s2 I⟩)
    (fun s H C cl fp => ⟨fun pins s2 σ2 H2 v u Q2 I r h => h s H C cl fp pins s2 u I r⟩) (fun _ _ _ _ _ => pts_nil)
    (fun s H C cl fp => ⟨fun pins s2 σ2 H2 Q2 I h => h s H C cl fp pins s2 I⟩) hs hs1) fun B G H σ Dd o z sv => fc_lc2_te (Φ := fun oo ρ2 => ∀ p, SC X Z sts (ρ2.set i (some (.ow p oo))) O) own js vs1 js1 h hjs hvs hjs1 B G H σ o z _ fun oo ρ1 p u B1 H1 h1 e1 o1 hb hg hu hn r1 => (h1 p).go (o1.set_ow hb hg hu r1 fun j q hj => absurd hj (hn j q)) z sv e1

theorem fc_lc2If_te (own : List (Str × Nat)) (js vs1 js1 : List Nat) (h : IC X Z tg iter ρ fun ds ρ1 => ∃ (out : Nat → List D), out 0 = [] ∧ (∀ i, i ≤ ds.length → (out i).length ≤ 50000) ∧
      (∀ i d, ds[i]? = some d → AllB X scope fun X1 => GT X1 tg js d (wipeE ρ1 (own.map (·.2))) fun ρ3 => AllB X scope fun X2 => IC X2 Z0 tg1 iter1 ρ3 fun es ρ4 => wipeE (wipeE ρ4 vs1) (own.map (·.2)) = wipeE ρ1 (own.map (·.2)) ∧
        ∃ inn : Nat → List D, inn 0 = [] ∧ (∀ j, j ≤ es.length → (inn j).length ≤ 40000) ∧ out (i + 1) = out i ++ inn es.length ∧
        ∀ j e, es[j]? = some e → AllB X scope fun X3 => GT X3 tg1 js1 e (wipeE ρ4 vs1) fun ρ5 => AllB X scope fun X4 => TC X4 Z0 cnd ρ5 fun k ρ7 => (k = true → AllB X scope fun X4 => EC X4 Z0 elt ρ7 fun y ρ6 => inn (j + 1) = inn j ++ [y] ∧ wipeE ρ6 vs1 = wipeE ρ4 vs1) ∧ (k = false → inn (j + 1) = inn j ∧ wipeE ρ7 vs1 = wipeE ρ4 vs1)) ∧
      (∀ (j : Nat) (a : Addr) (o : OO), ρ1[j]? = some (some (Sl.ow a o)) → j ∉ own.map (·.2)) ∧ Φ (.l (out ds.length)) ρ1)
    (hjs : ∀ j ∈ js, j ∈ own.map (·.2)) (hvs : ∀ j ∈ vs1, j ∈ own.map (·.2)) (hjs1 : ∀ j ∈ js1, j ∈ vs1) : FT X Z (tLc2 (wI X tg iter) (fun v σ H Q => AllB X scope fun X' => wG X' tg v σ H Q) (tYes) (fun σ H R => AllB X scope fun X' => wI X' tg1 iter1 σ H R) (fun v σ H Q => AllB X scope fun X' => wG X' tg1 v σ H Q) (fun σ H Q => AllB X scope fun X' => wT X' cnd σ H Q) (fun σ H Q => AllB X scope fun X' => wE X' elt σ H Q) (own.map (·.2)) vs1) ρ Φ := fun B G H σ o z Q q => by
  refine h B G H σ o z _ fun ds ρ1 J B1 H1 ⟨out, ho, hl, ht, hno, hk⟩ e1 o1 wk => ?_
  intro Dl hD
  obtain ⟨of, hBn, hGn, hnn⟩ := o1.fresh (u := .lst []) hD
  have hB1 : B1 Dl = none := fresh_back o1.s.ex hD
  have hG1 := fresh_back o1.s.eg hD
  have ow0 := of.wipe (own.map (·.2))
  have nw := nwipe hnn (own.map (·.2))
  refine ⟨fun i m H' => m = ds.length - i ∧ i ≤ ds.length ∧ ∃ B' u, Ex B1 B' ∧ Ok X.K B' G H' (L2.wipe σ (own.map (·.2))) (wipeE ρ1 (own.map (·.2))) ∧ B' Dl = none ∧ H' Dl = some (.lst u) ∧ Reps X.K B' u (out i), ⟨_, rfl, Nat.zero_le _, B1, [], Ex.refl _, ow0, hB1, upd_same, by rw [ho]; exact .nil⟩, ?_⟩
  rintro i m H' ⟨rfl, hi, B', u, e', o', hb', hu', r'⟩
  have oh := o'.hold hb' hu' nw
  by_cases hlt : i < ds.length
  · have hget : ds[i]? = some ds[i] := by simp [hlt]
    obtain ⟨g1, g2⟩ := (wk i B' _ H' _ _ e' oh).1 _ hget
    refine .inr ⟨g1, fun H' => ∃ B' u, Ex B1 B' ∧ Ok X.K B' G H' (L2.wipe σ (own.map (·.2))) (wipeE ρ1 (own.map (·.2))) ∧ B' Dl = none ∧ H' Dl = some (.lst u) ∧ Reps X.K B' u (out (i + 1)), fun H' x => ⟨ds.length - (i + 1), by omega, rfl, hlt, x⟩, fun x H2 y => ?_⟩
    obtain ⟨B3, e3, o3, r3⟩ := g2 x H2 y
    intro s H0 C cl fp
    refine ht i _ hget s H0 C cl fp B3 _ H2 _ x o3 r3 _ fun ρ3 σ3 B4 H4 h4 ag e4 o4 => ?_
    have hw : L2.wipe σ3 (own.map (·.2)) = L2.wipe (L2.wipe σ (own.map (·.2))) (own.map (·.2)) := Agree.wipe ⟨ag.1, fun k hk => ag.2 k fun z => hk (hjs k z)⟩
    rw [wipe_wipe] at hw
    refine ⟨hw, ?_⟩
    show (AllB X scope fun X' => wI X' tg1 iter1 σ3 H4 _)
    intro s5 H5 C5 cl5 fp5
    refine h4 s5 H5 C5 cl5 fp5 B4 _ H4 σ3 o4 RC.none _ fun es ρ4 J1 B6 H6 ⟨hρ4, inn, hi0, hil, hio, hin⟩ e6 o6 wk1 => ?_
    obtain ⟨l1, l2, l3, l4⟩ := o6.letGo hG1
    have e16 : Ex B' B6 := (e3.trans e4).trans e6
    have ow1 : Ok X.K B6 G H6 (L2.wipe σ3 vs1) (wipeE ρ4 vs1) := by
      have z5 := (l4 (.lst u) rfl).wipe vs1
      rwa [upd_self l2] at z5
    have nw1 := nwipe l3 vs1
    refine ⟨fun j m H' => m = es.length - j ∧ j ≤ es.length ∧ ∃ B' u, Ex B6 B' ∧ Ok X.K B' G H' (L2.wipe σ3 vs1) (wipeE ρ4 vs1) ∧ B' Dl = none ∧ H' Dl = some (.lst u) ∧ Reps X.K B' u (out i ++ inn j), ⟨_, rfl, Nat.zero_le _, B6, u, Ex.refl _, ow1, l1, l2, by rw [hi0, List.append_nil]; exact r'.up e16⟩, ?_⟩
    rintro j m H7 ⟨rfl, hj, B7, u7, e7, o7, hb7, hu7, r7⟩
    have oh7 := o7.hold hb7 hu7 nw1
    by_cases hlt1 : j < es.length
    · have hget1 : es[j]? = some es[j] := by simp [hlt1]
      obtain ⟨g3, g4⟩ := (wk1 j B7 _ H7 _ _ e7 oh7).1 _ hget1
      refine .inr ⟨g3, fun H' => ∃ B' u, Ex B6 B' ∧ Ok X.K B' G H' (L2.wipe σ3 vs1) (wipeE ρ4 vs1) ∧ B' Dl = none ∧ H' Dl = some (.lst u) ∧ Reps X.K B' u (out i ++ inn (j + 1)), fun H' x => ⟨es.length - (j + 1), by omega, rfl, hlt1, x⟩, fun x H8 y => ?_⟩
      obtain ⟨B8, e8, o8, r8⟩ := g4 x H8 y
      intro s H0 C cl fp
      refine hin j _ hget1 s H0 C cl fp B8 _ H8 _ x o8 r8 _ fun ρ5 σ5 B9 H9 h9 ag9 e9 o9 => ?_
      have hw9 : L2.wipe σ5 vs1 = L2.wipe (L2.wipe σ3 vs1) vs1 := Agree.wipe ⟨ag9.1, fun k hk => ag9.2 k fun z => hk (hjs1 k z)⟩
      rw [wipe_wipe] at hw9
      have hlo := hl i hi
      have hli := hil j hj
      refine ⟨hw9, ?_⟩
      show (AllB X scope fun X' => wT X' cnd σ5 H9 _)
      intro s11 H11 C11 cl11 fp11
      refine h9 s11 H11 C11 cl11 fp11 B9 _ H9 σ5 o9 RC.none _ fun k ρ7 B12 H12 ⟨hk1, hk2⟩ e12 o12 => ?_
      cases k with
      | true =>
        rw [if_pos rfl]
        show (AllB X scope fun X' => wE X' elt σ5 H12 _)
        intro s11 H11 C11 cl11 fp11
        refine hk1 rfl s11 H11 C11 cl11 fp11 B12 _ H12 σ5 o12 RC.none _ fun y ρ6 v B10 H10 ⟨hy, hR⟩ e10 o10 r10 => ?_
        obtain ⟨m1, m2, m3, m4⟩ := o10.letGo hG1
        have e710 : Ex B7 B10 := ((e8.trans e9).trans e12).trans e10
        refine ⟨u7, m2, sz_lt (by rw [r7.length]; simp; omega), B10, u7 ++ [v], e7.trans e710, ?_, m1, upd_same, by rw [hy, ← List.append_assoc]; exact (r7.up e710).app (.cons r10 .nil)⟩
        have z5 := (m4 (.lst (u7 ++ [v])) rfl).wipe vs1
        rw [hw9, hR] at z5
        exact z5
      | false =>
        rw [if_neg Bool.false_ne_true]
        obtain ⟨hy, hR⟩ := hk2 rfl
        obtain ⟨m1, m2, m3, m4⟩ := o12.letGo hG1
        have e712 : Ex B7 B12 := (e8.trans e9).trans e12
        refine ⟨B12, u7, e7.trans e712, ?_, m1, m2, by rw [hy]; exact r7.up e712⟩
        have z5 := (m4 (.lst u7) rfl).wipe vs1
        rw [hw9, hR, upd_self m2] at z5
        exact z5
    · have hjj : j = es.length := by omega
      subst hjj
      refine .inl ⟨(wk1 _ B7 G H7 _ _ e7 o7).2 (Nat.le_refl _), B7, u7, (e'.trans e16).trans e7, ?_, hb7, hu7, by rw [hio]; exact r7⟩
      have z5 := o7.wipe (own.map (·.2))
      rw [hρ4, Agree.wipe (σ := σ3) ⟨wipe_length σ3 vs1, fun k hk => wipe_out (fun z => hk (hvs k z))⟩, hw] at z5
      exact z5
  · have hii : i = ds.length := by omega
    subst hii
    have hb : BackE ρ1 (wipeE ρ1 (own.map (·.2))) ρ1 := ⟨rfl, fun i d h => h, fun i a w h => ⟨by rw [wipeE_out (hno i a w h)]; exact h, _, h⟩⟩
    exact .inl ⟨(wk _ B' G H' _ _ e' o').2 (Nat.le_refl _), q _ ρ1 Dl _ B' H' hk (e1.trans e') (o1.back e' o' hb) hb' hG1 hu' hnn r'⟩
theorem fc_lc2If (own : List (Str × Nat)) (js vs1 js1 : List Nat) (h : IC X Z tg iter ρ fun ds ρ1 => ∃ (out : Nat → List D), out 0 = [] ∧ (∀ i, i ≤ ds.length → (out i).length ≤ 50000) ∧
      (∀ i d, ds[i]? = some d → AllB X scope fun X1 => GT X1 tg js d (wipeE ρ1 (own.map (·.2))) fun ρ3 => AllB X scope fun X2 => IC X2 Z0 tg1 iter1 ρ3 fun es ρ4 => wipeE (wipeE ρ4 vs1) (own.map (·.2)) = wipeE ρ1 (own.map (·.2)) ∧
        ∃ inn : Nat → List D, inn 0 = [] ∧ (∀ j, j ≤ es.length → (inn j).length ≤ 40000) ∧ out (i + 1) = out i ++ inn es.length ∧
        ∀ j e, es[j]? = some e → AllB X scope fun X3 => GT X3 tg1 js1 e (wipeE ρ4 vs1) fun ρ5 => AllB X scope fun X4 => TC X4 Z0 cnd ρ5 fun k ρ7 => (k = true → AllB X scope fun X4 => EC X4 Z0 elt ρ7 fun y ρ6 => inn (j + 1) = inn j ++ [y] ∧ wipeE ρ6 vs1 = wipeE ρ4 vs1) ∧ (k = false → inn (j + 1) = inn j ∧ wipeE ρ7 vs1 = wipeE ρ4 vs1)) ∧
      (∀ (j : Nat) (a : Addr) (o : OO), ρ1[j]? = some (some (Sl.ow a o)) → j ∉ own.map (·.2)) ∧ Φ (.l (out ds.length)) ρ1)
    (nd : X.N.Nodup) (hjs : ∀ j ∈ js, j ∈ own.map (·.2)) (hvs : ∀ j ∈ vs1, j ∈ own.map (·.2)) (hjs1 : ∀ j ∈ js1, j ∈ vs1) (ok : BlkOk X.N X.env.scope scope own := by exact blkOk_by (by first | decide +kernel | kernel_rfl)) (hc : X.calm = true := by rfl) (hs : ∀ x, foldedSetIterable iter X.env x = pure x := by intro _; rfl) (hs1 : ∀ env x, foldedSetIterable iter1 env x = pure x := by intro _ _; rfl) :
    FC X Z (.ListComp elt [⟨tg, iter, [], 0⟩, ⟨tg1, iter1, [cnd], 0⟩] scope pos) ρ Φ := fun B G H σ o z Q q => (pe_lc2 (g := fun v σ H Q => AllB X scope fun X' => wG X' tg v σ H Q) (tt := tYes) (g1 := fun v σ H Q => AllB X scope fun X' => wG X' tg1 v σ H Q) (tt1 := fun σ H Q => AllB X scope fun X' => wT X' cnd σ H Q) (te := fun σ H Q => AllB X scope fun X' => wE X' elt σ H Q) (wi1 := fun σ H R => AllB X scope fun X' => wI X' tg1 iter1 σ H R) (vs1 := vs1) hc nd p_wI ok hvs
    (fun s H C cl fp => ⟨fun pins s2 σ2 H2 v u Q2 I r h => h s H C cl fp pins s2 u I r⟩) (fun _ _ _ _ _ => pts_nil) (fun s H C cl fp => ⟨fun pins s2 σ2 H2 R2 I h => h s H C cl fp pins s2 I⟩)
    (fun s H C cl fp => ⟨fun pins s2 σ2 H2 v u Q2 I r h => h s H C cl fp pins s2 u I r⟩) (fun s H C cl fp => pts_one ⟨fun pins s2 σ2 H2 Q2 I h => h s H C cl fp pins s2 I⟩)
    (fun s H C cl fp => ⟨fun pins s2 σ2 H2 Q2 I h => h s H C cl fp pins s2 I⟩) hs hs1).w (fc_lc2If_te own js vs1 js1 h hjs hvs hjs1 B G H σ o z Q q)
/-- the same, assigned -/
theorem sc_lc2If (i : Nat) (own : List (Str × Nat)) (js vs1 js1 : List Nat) (h : IC X Z tg iter ρ fun ds ρ1 => ∃ (out : Nat → List D), out 0 = [] ∧ (∀ i, i ≤ ds.length → (out i).length ≤ 50000) ∧
      (∀ i d, ds[i]? = some d → AllB X scope fun X1 => GT X1 tg js d (wipeE ρ1 (own.map (·.2))) fun ρ3 => AllB X scope fun X2 => IC X2 Z0 tg1 iter1 ρ3 fun es ρ4 => wipeE (wipeE ρ4 vs1) (own.map (·.2)) = wipeE ρ1 (own.map (·.2)) ∧
        ∃ inn : Nat → List D, inn 0 = [] ∧ (∀ j, j ≤ es.length → (inn j).length ≤ 40000) ∧ out (i + 1) = out i ++ inn es.length ∧
        ∀ j e, es[j]? = some e → AllB X scope fun X3 => GT X3 tg1 js1 e (wipeE ρ4 vs1) fun ρ5 => AllB X scope fun X4 => TC X4 Z0 cnd ρ5 fun k ρ7 => (k = true → AllB X scope fun X4 => EC X4 Z0 elt ρ7 fun y ρ6 => inn (j + 1) = inn j ++ [y] ∧ wipeE ρ6 vs1 = wipeE ρ4 vs1) ∧ (k = false → inn (j + 1) = inn j ∧ wipeE ρ7 vs1 = wipeE ρ4 vs1)) ∧
      (∀ (j : Nat) (a : Addr) (o : OO), ρ1[j]? = some (some (Sl.ow a o)) → j ∉ own.map (·.2)) ∧ ∀ p, SC X Z sts (ρ1.set i (some (.ow p (.l (out ds.length))))) O)
    (nd : X.N.Nodup) (hjs : ∀ j ∈ js, j ∈ own.map (·.2)) (hvs : ∀ j ∈ vs1, j ∈ own.map (·.2)) (hjs1 : ∀ j ∈ js1, j ∈ vs1) (ok : BlkOk X.N X.env.scope scope own := by exact blkOk_by (by first | decide +kernel | kernel_rfl)) (hc : X.calm = true := by rfl) (hs : ∀ x, foldedSetIterable iter X.env x = pure x := by intro _; rfl) (hs1 : ∀ env x, foldedSetIterable iter1 env x = pure x := by intro _ _; rfl)
    (hy : X.N[i]? = some y := by rfl) (hyl : X.env.scope.names.lookup y = some .local := by rfl) (hsw : swapsWith (.ListComp elt [⟨tg, iter, [], 0⟩, ⟨tg1, iter1, [cnd], 0⟩] scope pos) (some (.Name y py)) spos.line X.env = pure true := by rfl) :
    SC X Z (.Assign [.Name y py] (.ListComp elt [⟨tg, iter, [], 0⟩, ⟨tg1, iter1, [cnd], 0⟩] scope pos) spos :: sts) ρ O :=
  sc_of (ps_setLc2 (g := fun v σ H Q => AllB X scope fun X' => wG X' tg v σ H Q) (tt := tYes) (g1 := fun v σ H Q => AllB X scope fun X' => wG X' tg1 v σ H Q) (tt1 := fun σ H Q => AllB X scope fun X' => wT X' cnd σ H Q) (te := fun σ H Q => AllB X scope fun X' => wE X' elt σ H Q) (wi1 := fun σ H R => AllB X scope fun X' => wI X' tg1 iter1 σ H R) (vs1 := vs1) hc nd hy hyl hsw p_wI ok hvs
    (fun s H C cl fp => ⟨fun pins s2 σ2 H2 v u Q2 I r h => h s H C cl fp pins s2 u I r⟩) (fun _ _ _ _ _ => pts_nil) (fun s H C cl fp => ⟨fun pins s2 σ2 H2 R2 I h => h s H C cl fp pins s2 I⟩)
    (fun s H C cl fp => ⟨fun pins s2 σ2 H2 v u Q2 I r h => h s H C cl fp pins s2 u I r⟩) (fun s H C cl fp => pts_one ⟨fun pins s2 σ2 H2 Q2 I h => h s H C cl fp pins s2 I⟩)
    (fun s H C cl fp => ⟨fun pins s2 σ2 H2 Q2 I h => h s H C cl fp pins s2 I⟩) hs hs1) fun B G H σ Dd o z sv => fc_lc2If_te (Φ := fun oo ρ2 => ∀ p, SC X Z sts (ρ2.set i (some (.ow p oo))) O) own js vs1 js1 h hjs hvs hjs1 B G H σ o z _ fun oo ρ1 p u B1 H1 h1 e1 o1 hb hg hu hn r1 => (h1 p).go (o1.set_ow hb hg hu r1 fun j q hj => absurd hj (hn j q)) z sv e1

end
end AL
namespace AL
open PySem PySem.Spec PyProof.Rows L2 Evl
section
variable {X : Cx} {Z : Zx} {e a b tg : Expr} {es : List Expr} {ρ : En} {Φ : D → En → Prop} {Ψ : Bool → En → Prop} {p p1 p2 p3 pos apos ps tpos : Pos} {x : Str} {O : Outs} {sts : List Stmt}
/-- isinstance(e, (list, tuple)) -/
theorem ec_isiLT {x1} (h : EC X Z e ρ fun d ρ1 => isObj d = false ∧ Φ (.bl (isLstD d || isTupD d)) ρ1) (hm : X.mg "isinstance" = none) (hm2 : X.mg "list" = none) (hm3 : X.mg "tuple" = none) (hg : Gl X "isinstance" := by rfl) (hg2 : Gl X "list" := by rfl) (hg3 : Gl X "tuple" := by rfl)
    (hs1 : starEach [e, .Tuple [.Name "list" p1, .Name "tuple" p2] x1 p3] X.env = (false, eval e X.env) :: starEach [.Tuple [.Name "list" p1, .Name "tuple" p2] x1 p3] X.env := by rfl) (hs2 : starEach [.Tuple [.Name "list" p1, .Name "tuple" p2] x1 p3] X.env = (false, eval (.Tuple [.Name "list" p1, .Name "tuple" p2] x1 p3) X.env) :: starEach [] X.env := by rfl)
    (hs3 : starEach [.Name "list" p1, .Name "tuple" p2] X.env = (false, eval (.Name "list" p1) X.env) :: starEach [.Name "tuple" p2] X.env := by rfl) (hs4 : starEach [.Name "tuple" p2] X.env = (false, eval (.Name "tuple" p2) X.env) :: starEach [] X.env := by rfl)
    (hpl : (backTo pos (starEach [.Tuple [.Name "list" p1, .Name "tuple" p2] x1 p3] X.env)).any (·.1) = false := by rfl) : EC X Z (.Call (.Name "isinstance" p) [e, .Tuple [.Name "list" p1, .Name "tuple" p2] x1 p3] [] pos) ρ Φ := fun B G H σ o z Q q =>
  (pe_callB call_isiT hg hm (by rfl) (pa_cons p_wE (pa_cons (pe_tup (pa_cons (pe_bltn (v := .ty "list") hg2 hm2 (by rfl) rfl) (pa_cons (pe_bltn (v := .ty "tuple") hg3 hm3 (by rfl) rfl) pa_nil hs4) hs3)) pa_nil hs2) hs1) (he := hs1) (hpl := hpl)).w
    (h B G H σ o z _ fun d ρ1 v B1 H1 ⟨ho, h1⟩ e1 o1 r1 => ⟨by show 2 ≤ sizeLine; decide, fun t ht => by
      obtain ⟨e2, o2⟩ := o1.grow (u := .tup [V.ty "list", V.ty "tuple"]) ht
      refine ⟨v, t, _, .type (tyN d), [.type "list", .type "tuple"], isLstD d || isTupD d, rfl, upd_same, .cons (.ty "list") (.cons (.ty "tuple") .nil), tyx_of o2.s (r1.up e2) ho, ?_, q _ ρ1 _ _ _ h1 (e1.trans e2) o2 (.bl _)⟩
      have k1 : PySem.W.kitOne X.K (.type (tyN d)) (.type "list") = some (isLstD d) := kit_ty (kit_lst d ho)
      have k2 : PySem.W.kitOne X.K (.type (tyN d)) (.type "tuple") = some (isTupD d) := kit_ty (kit_tup d ho)
      unfold PySem.W.kitAny
      rw [k1]
      cases isLstD d with
      | true => rfl
      | false =>
        show PySem.W.kitAny X.K _ [.type "tuple"] = _
        unfold PySem.W.kitAny
        rw [k2]
        cases isTupD d <;> rfl⟩)
/-! ### dicts of one's own -/
/-- {} -/
theorem fc_dict {Θ : OO → En → Prop} (h : Θ (.k []) ρ) : FC X Z (.Dict [] [] pos) ρ Θ := fun B G H σ o z Q q =>
  pe_dnewK.w (fun d hd => by
    obtain ⟨o2, hb, hg, hn⟩ := o.fresh (u := .dK []) hd
    exact q _ ρ d _ B _ h (Ex.refl B) o2 hb hg upd_same hn .nil)
end
section
variable {K : PySem.W.Frag} {B : Hp}
theorem RepK.len {κ : Type} : ∀ {kvs : List (κ × V)} {kds : List (κ × D)}, RepK K B kvs kds → kvs.length = kds.length
  | _, _, .nil => rfl
  | _, _, .cons _ r => by simp [RepK.len r]
theorem RepK.keys {κ : Type} : ∀ {kvs : List (κ × V)} {kds : List (κ × D)}, RepK K B kvs kds → kvs.map (·.1) = kds.map (·.1)
  | _, _, .nil => rfl
  | _, _, .cons h r => by simp [RepK.keys r, h.1]
/-- the value at a key -/
def getK {κ : Type} [DecidableEq κ] (k : κ) : List (κ × D) → Option D
  | [] => none
  | (j, d) :: r => if j = k then some d else getK k r
/-- d[k] = v -/
def setK {κ : Type} [DecidableEq κ] (k : κ) (v : D) : List (κ × D) → List (κ × D)
  | [] => [(k, v)]
  | (j, d) :: r => if j = k then (j, v) :: r else (j, d) :: setK k v r
end
end AL
namespace AL
open PySem PySem.Spec PyProof.Rows L2 Evl
section
variable {K : PySem.W.Frag} {B : Hp} {κ : Type} [DecidableEq κ]
def valD (kds : List (κ × D)) (k : κ) : Option D := (kds.find? fun kv => decide (kv.1 = k)).map (·.2)
def putKD (kds : List (κ × D)) (k : κ) (d : D) : List (κ × D) :=
  if (kds.any fun kv => decide (kv.1 = k)) = true then kds.map (fun kv => if kv.1 = k then (kv.1, d) else kv) else kds ++ [(k, d)]
abbrev ksD (kds : List (κ × D)) : List κ := kds.map (·.1)
theorem RepK.any {k : κ} : ∀ {kvs : List (κ × V)} {kds : List (κ × D)}, RepK K B kvs kds → (kvs.any fun kv => decide (kv.1 = k)) = (kds.any fun kv => decide (kv.1 = k))
  | _, _, .nil => rfl
  | _, _, .cons h r => by rw [List.any_cons, List.any_cons, h.1, RepK.any r]
theorem RepK.val {k : κ} : ∀ {kvs : List (κ × V)} {kds : List (κ × D)}, RepK K B kvs kds → (valV kvs k = none ∧ valD kds k = none) ∨ ∃ v d, valV kvs k = some v ∧ valD kds k = some d ∧ Rep K B v d
  | _, _, .nil => .inl ⟨rfl, rfl⟩
  | _, _, .cons (a := a) (b := b) (l₁ := l1) (l₂ := l2) h r => by
    by_cases e : a.1 = k
    · have e' : b.1 = k := h.1.symm.trans e
      exact .inr ⟨a.2, b.2, valV_pos e, by unfold valD; rw [List.find?_cons_of_pos (by simpa using e')]; rfl, h.2⟩
    · have e' : ¬ b.1 = k := fun z => e (h.1.trans z)
      have q1 : valV (a :: l1) k = valV l1 k := valV_neg (r := l1) e
      have q2 : valD (b :: l2) k = valD l2 k := by unfold valD; rw [List.find?_cons_of_neg (by simpa using e')]
      rw [q1, q2]
      exact RepK.val r
theorem RepK.app : ∀ {kvs ws : List (κ × V)} {kds es : List (κ × D)}, RepK K B kvs kds → RepK K B ws es → RepK K B (kvs ++ ws) (kds ++ es)
  | _, _, _, _, .nil, s => s
  | _, _, _, _, .cons h r, s => .cons h (RepK.app r s)
theorem RepK.mapk {k : κ} {v : V} {d : D} (r : Rep K B v d) : ∀ {kvs : List (κ × V)} {kds : List (κ × D)}, RepK K B kvs kds → RepK K B (kvs.map fun kv => if kv.1 = k then (kv.1, v) else kv) (kds.map fun kv => if kv.1 = k then (kv.1, d) else kv)
  | _, _, .nil => .nil
  | _, _, .cons (a := a) (b := b) h0 hs => by
    refine .cons ?_ (RepK.mapk r hs)
    show (if a.1 = k then (a.1, v) else a).1 = (if b.1 = k then (b.1, d) else b).1 ∧ Rep K B (if a.1 = k then (a.1, v) else a).2 (if b.1 = k then (b.1, d) else b).2
    by_cases e : a.1 = k
    · have e' : b.1 = k := h0.1.symm.trans e
      rw [if_pos e, if_pos e']; exact ⟨h0.1, r⟩
    · have e' : ¬ b.1 = k := fun z => e (h0.1.trans z)
      rw [if_neg e, if_neg e']; exact h0
theorem RepK.put {k : κ} {v : V} {d : D} {kvs : List (κ × V)} {kds : List (κ × D)} (h : RepK K B kvs kds) (r : Rep K B v d) : RepK K B (putK kvs k v) (putKD kds k d) := by
  unfold putK putKD
  rw [h.any]
  split
  · exact RepK.mapk r h
  · exact h.app (.cons ⟨rfl, r⟩ .nil)
theorem valD_some {kds : List (κ × D)} {k : κ} : (valD kds k).isSome = decide (k ∈ ksD kds) := by
  induction kds with
  | nil => rfl
  | cons p r ih =>
    by_cases e : p.1 = k
    · unfold valD; rw [List.find?_cons_of_pos (by simpa using e)]; simp [e]
    · have : valD (p :: r) k = valD r k := by unfold valD; rw [List.find?_cons_of_neg (by simpa using e)]
      rw [this, ih]
      have e2 : ¬ k = p.1 := fun z => e z.symm
      simp [e2]
theorem putKD_new {kds : List (κ × D)} {k : κ} {d : D} (h : k ∉ kds.map (·.1)) : putKD kds k d = kds ++ [(k, d)] := by
  unfold putKD
  rw [if_neg]
  intro z
  rw [List.any_eq_true] at z
  obtain ⟨p, hp, e⟩ := z
  exact h (List.mem_map.mpr ⟨p, hp, by simpa using e⟩)
end
/-- a datum that may be a key: an int, a text -/
def keyD : D → Option Key
  | .int i => some (.inl i)
  | .str s => some (.inr s)
  | _ => none
theorem key_rep {K : PySem.W.Frag} {B : Hp} {v : V} {d : D} {k : Key} (r : Rep K B v d) (h : keyD d = some k) : v = kV k := by
  cases r <;> simp [keyD] at h <;> (subst h; rfl)
/-- .. a tuple of such -/
def keysD : List D → Option (List Key)
  | [] => some []
  | d :: ds => match keyD d, keysD ds with
    | some k, some ks => some (k :: ks)
    | _, _ => none
theorem keys_reps {K : PySem.W.Frag} {B : Hp} : ∀ {ds : List D} {vs : List V} {ks : List Key}, Reps K B vs ds → keysD ds = some ks → vs = ks.map kV
  | [], _, _, .nil, h => by cases h; rfl
  | d :: ds, _, ks, .cons r rs, h => by
    unfold keysD at h
    split at h
    · rename_i k ks' h1 h2
      cases h
      rw [key_rep r h1, keys_reps rs h2]; rfl
    · cases h
section
variable {X : Cx} {Z : Zx} {e a b tg : Expr} {es : List Expr} {ρ : En} {Φ : D → En → Prop} {Ψ : Bool → En → Prop} {p p1 pos pos2 ps : Pos} {x : Str} {O : Outs} {sts : List Stmt}
/-- k in x, x a dict of one's own (ints and texts) -/
theorem ec_dinK (i : Nat) (hu : X.A.units + 1 < cLine) (h : EC X Z a ρ fun d ρ1 => ∃ (q : Addr) (kds : List (Key × D)) (k : Key), ρ1[i]? = some (some (.ow q (.k kds))) ∧ keyD d = some k ∧ Φ (.bl ((valD kds k).isSome)) ρ1) (hN : X.N[i]? = some x := by rfl)
    (hv : Vis X.env.scope x := by first | exact Or.inl rfl | exact Or.inr (Or.inl rfl) | exact Or.inr (Or.inr rfl)) (hdb : (x == ("__debug__" : Str)) = false := by decide) (hcd : (x == ("__classdict__" : Str)) = false := by decide) (hm : behindInMarks .In (.Name x ps) = false := by rfl) : EC X Z (.Compare a [.In] [.Name x ps] pos) ρ Φ := fun B G H σ o z Q q =>
  (pe_cmp (pc_din hu p_wE (pe_var hN hv hdb hcd)) hm).w (h B G H σ o z _ fun d ρ1 v B1 H1 ⟨aq, kds, k, hd, hk, h1⟩ e1 o1 r1 => by
    obtain ⟨g1, _, _, u, g4, g5⟩ := o1.ow i aq _ hd
    cases u with
    | dK kvs =>
      have ev := key_rep r1 hk
      subst ev
      refine ⟨_, g1, aq, valV kvs k, rfl, DGet.k g4, ?_⟩
      have : (valV kvs k).isSome = (valD kds k).isSome := by
        rcases RepK.val (k := k) g5 with ⟨q1, q2⟩ | ⟨_, _, q1, q2, _⟩ <;> rw [q1, q2] <;> rfl
      rw [this]
      exact q _ ρ1 _ B1 H1 h1 e1 o1 (.bl _)
    | _ => exact False.elim g5)
theorem tc_dinK (i : Nat) (hu : X.A.units + 1 < cLine) (h : EC X Z a ρ fun d ρ1 => ∃ (q : Addr) (kds : List (Key × D)) (k : Key), ρ1[i]? = some (some (.ow q (.k kds))) ∧ keyD d = some k ∧ Ψ ((valD kds k).isSome) ρ1) (hN : X.N[i]? = some x := by rfl)
    (hv : Vis X.env.scope x := by first | exact Or.inl rfl | exact Or.inr (Or.inl rfl) | exact Or.inr (Or.inr rfl)) (hdb : (x == ("__debug__" : Str)) = false := by decide) (hcd : (x == ("__classdict__" : Str)) = false := by decide) (hm : behindInMarks .In (.Name x ps) = false := by rfl) : TC X Z (.Compare a [.In] [.Name x ps] pos) ρ Ψ := fun B G H σ o z Q q =>
  (pt_cmp (pc_din hu p_wE (pe_var hN hv hdb hcd)) hm).w (h B G H σ o z _ fun d ρ1 v B1 H1 ⟨aq, kds, k, hd, hk, h1⟩ e1 o1 r1 => by
    obtain ⟨g1, _, _, u, g4, g5⟩ := o1.ow i aq _ hd
    cases u with
    | dK kvs =>
      have ev := key_rep r1 hk
      subst ev
      refine ⟨_, g1, aq, valV kvs k, rfl, DGet.k g4, _, rfl, ?_⟩
      have : (valV kvs k).isSome = (valD kds k).isSome := by
        rcases RepK.val (k := k) g5 with ⟨q1, q2⟩ | ⟨_, _, q1, q2, _⟩ <;> rw [q1, q2] <;> rfl
      rw [this]
      exact q _ ρ1 B1 H1 h1 e1 o1
    | _ => exact False.elim g5)
/-- k in x, x a dict of one's own (tuples of ints and texts) -/
theorem tc_dinT (i : Nat) (hu : X.A.units + 1 < cLine) (h : EC X Z a ρ fun d ρ1 => ∃ (q : Addr) (kds : List (List Key × D)) (ds : List D) (ks : List Key), ρ1[i]? = some (some (.ow q (.t kds))) ∧ d = .tup ds ∧ keysD ds = some ks ∧ Ψ ((valD kds ks).isSome) ρ1) (hN : X.N[i]? = some x := by rfl)
    (hv : Vis X.env.scope x := by first | exact Or.inl rfl | exact Or.inr (Or.inl rfl) | exact Or.inr (Or.inr rfl)) (hdb : (x == ("__debug__" : Str)) = false := by decide) (hcd : (x == ("__classdict__" : Str)) = false := by decide) (hm : behindInMarks .In (.Name x ps) = false := by rfl) : TC X Z (.Compare a [.In] [.Name x ps] pos) ρ Ψ := fun B G H σ o z Q q =>
  (pt_cmp (pc_din hu p_wE (pe_var hN hv hdb hcd)) hm).w (h B G H σ o z _ fun d ρ1 v B1 H1 ⟨aq, kds, ds, ks, hd, hdt, hk, h1⟩ e1 o1 r1 => by
    subst hdt
    obtain ⟨g1, _, _, u, g4, g5⟩ := o1.ow i aq _ hd
    cases u with
    | dT kvs =>
      cases r1 with
      | tup hq rr =>
        have ev := keys_reps rr hk
        subst ev
        refine ⟨_, g1, aq, valV kvs ks, rfl, DGet.t g4 (o1.s.ex _ _ hq), _, rfl, ?_⟩
        have : (valV kvs ks).isSome = (valD kds ks).isSome := by
          rcases RepK.val (k := ks) g5 with ⟨q1, q2⟩ | ⟨_, _, q1, q2, _⟩ <;> rw [q1, q2] <;> rfl
        rw [this]
        exact q _ ρ1 B1 H1 h1 e1 o1
    | _ => exact False.elim g5)
/-- x[k] = e -/
theorem sc_dputK (i : Nat) (hu : X.A.units + 1 < cLine) (h : EC X Z e ρ fun d ρ1 => EC X Z a ρ1 fun d' ρ2 => ∃ q kds k, ρ2[i]? = some (some (.ow q (.k kds))) ∧ keyD d' = some k ∧ kds.length < 100000 ∧ SC X Z sts (ρ2.set i (some (.ow q (.k (putKD kds k d))))) O)
    (hs : swapsWith e (some (.Subscript (.Name x ps) a p1)) pos.line X.env = pure false := by rfl) (hN : X.N[i]? = some x := by rfl) (hex : ∃ q kds, ρ[i]? = some (some (.ow q (.k kds))))
    (hv : Vis X.env.scope x := by first | exact Or.inl rfl | exact Or.inr (Or.inl rfl) | exact Or.inr (Or.inr rfl)) (hdb : (x == ("__debug__" : Str)) = false := by decide) (hcd : (x == ("__classdict__" : Str)) = false := by decide) : SC X Z (.Assign [.Subscript (.Name x ps) a p1] e pos :: sts) ρ O :=
  sc_of (ps_dput hu (pe_var hN hv hdb hcd) p_wE p_wE hs) fun B G H σ Dd o z s => by
    obtain ⟨ad0, kds0, hd0⟩ := hex
    obtain ⟨g0, _⟩ := o.ow i ad0 _ hd0
    refine h B G H σ o z _ fun d ρ1 v B1 H1 h1 e1 o1 r1 => ⟨_, g0, h1 B1 G H1 σ o1 (z.up e1) _ fun d' ρ2 w B2 H2 ⟨aq, kds, k, hd, hk, hl, h2⟩ e2 o2 r2 => ?_⟩
    obtain ⟨g1, _, _, u, g4, g5⟩ := o2.ow i aq _ hd
    rw [g0] at g1
    cases g1
    cases u with
    | dK kvs =>
      have ev := key_rep r2 hk
      subst ev
      exact ⟨_, _, rfl, DPut.k g4 (sz_lt (by rw [RepK.len g5]; exact hl)), h2.go (o2.upd_ow (u' := .dK (putK kvs k v)) (o' := .k (putKD kds k d)) hd (RepK.put g5 (r1.up e2))) z s (e1.trans e2)⟩
    | _ => exact False.elim g5
theorem sc_dputT (i : Nat) (hu : X.A.units + 1 < cLine) (h : EC X Z e ρ fun d ρ1 => EC X Z a ρ1 fun d' ρ2 => ∃ q kds ds ks, ρ2[i]? = some (some (.ow q (.t kds))) ∧ d' = .tup ds ∧ keysD ds = some ks ∧ kds.length < 100000 ∧ SC X Z sts (ρ2.set i (some (.ow q (.t (putKD kds ks d))))) O)
    (hs : swapsWith e (some (.Subscript (.Name x ps) a p1)) pos.line X.env = pure false := by rfl) (hN : X.N[i]? = some x := by rfl) (hex : ∃ q kds, ρ[i]? = some (some (.ow q (.t kds))))
    (hv : Vis X.env.scope x := by first | exact Or.inl rfl | exact Or.inr (Or.inl rfl) | exact Or.inr (Or.inr rfl)) (hdb : (x == ("__debug__" : Str)) = false := by decide) (hcd : (x == ("__classdict__" : Str)) = false := by decide) : SC X Z (.Assign [.Subscript (.Name x ps) a p1] e pos :: sts) ρ O :=
  sc_of (ps_dput hu (pe_var hN hv hdb hcd) p_wE p_wE hs) fun B G H σ Dd o z s => by
    obtain ⟨ad0, kds0, hd0⟩ := hex
    obtain ⟨g0, _⟩ := o.ow i ad0 _ hd0
    refine h B G H σ o z _ fun d ρ1 v B1 H1 h1 e1 o1 r1 => ⟨_, g0, h1 B1 G H1 σ o1 (z.up e1) _ fun d' ρ2 w B2 H2 ⟨aq, kds, ds, ks, hd, hdt, hk, hl, h2⟩ e2 o2 r2 => ?_⟩
    subst hdt
    obtain ⟨g1, _, _, u, g4, g5⟩ := o2.ow i aq _ hd
    rw [g0] at g1
    cases g1
    cases u with
    | dT kvs =>
      cases r2 with
      | tup hq rr =>
        have ev := keys_reps rr hk
        subst ev
        exact ⟨_, _, rfl, DPut.t g4 (o2.s.ex _ _ hq) (sz_lt (by rw [RepK.len g5]; exact hl)), h2.go (o2.upd_ow (u' := .dT (putK kvs ks v)) (o' := .t (putKD kds ks d)) hd (RepK.put g5 (r1.up e2))) z s (e1.trans e2)⟩
    | _ => exact False.elim g5
/-- {} whose keys will be tuples -/
theorem fc_dictT {Θ : OO → En → Prop} (h : Θ (.t []) ρ) : FC X Z (.Dict [] [] pos) ρ Θ := fun B G H σ o z Q q =>
  pe_dnewT.w (fun d hd => by
    obtain ⟨o2, hb, hg, hn⟩ := o.fresh (u := .dT []) hd
    exact q _ ρ d _ B _ h (Ex.refl B) o2 hb hg upd_same hn .nil)
/-- sorted(x), x a dict of one's own whose keys are ints -/
theorem ec_sortedK (i : Nat) {kds : List (Key × D)} {ad : Addr} {ns : List Int} (hd : ρ[i]? = some (some (.ow ad (.k kds)))) (hk : kds.map (·.1) = ns.map Sum.inl) (hl : ns.length < 64) (h : ∀ ns' : List Int, ns'.Perm ns → ns'.Pairwise (· ≤ ·) → Φ (.lst (ns'.map D.int)) ρ) (hm : X.mg "sorted" = none)
    (hc : X.calm = true := by rfl) (hg : Gl X "sorted" := by rfl) (hN : X.N[i]? = some x := by rfl) (hv : Vis X.env.scope x := by first | exact Or.inl rfl | exact Or.inr (Or.inl rfl) | exact Or.inr (Or.inr rfl)) (hdb : (x == ("__debug__" : Str)) = false := by decide) (hcd : (x == ("__classdict__" : Str)) = false := by decide)
    (he : starEach [.Name x ps] X.env = (false, eval (.Name x ps) X.env) :: starEach [] X.env := by rfl) (hpl : (backTo pos (starEach [] X.env)).any (·.1) = false := by rfl) : EC X Z (.Call (.Name "sorted" p) [.Name x ps] [] pos) ρ Φ := fun B G H σ o z Q q => by
  obtain ⟨g1, _, _, u, g4, g5⟩ := o.ow i ad _ hd
  cases u with
  | dK kvs =>
    refine (pe_callB (call_sortedDI hc) hg hm boot_sorted (pa_cons (pe_var hN hv hdb hcd) pa_nil he) (he := he) (hpl := hpl)).w ⟨_, g1, ad, kvs, ns, rfl, .of g4, by rw [RepK.keys g5]; exact hk, hl, fun ys p' h1 h2 hp => ?_⟩
    obtain ⟨e2, o2⟩ := o.grow (u := .lst (ys.map V.int)) hp
    exact q _ ρ _ _ _ (h ys h1 h2) e2 o2 (.lst upd_same (int_reps ys))
  | _ => exact False.elim g5
end
end AL
namespace L2
open PySem PySem.Spec PyProof.Rows
section
variable {P : Program} {w : World} {A : Around} {E : Value → Shared → Prop} {s : Shared}
theorem setsQuiet_ints {l : List Addr} {Q : Bool → Shared → Prop} (h : ∀ a ∈ l, ∃ S n, SetR w s.heap a S n) (hq : Q true s) : wpAny (model P w) A (setsQuiet l) Q E s := by
  unfold setsQuiet
  refine wpAny_bind (wpAny_forIn_list _ (fun rest b s' => s = s' ∧ b = ⟨none, ()⟩ ∧ ∀ a ∈ rest, ∃ S n, SetR w s.heap a S n) _ ?_ ?_ _ _ ⟨rfl, rfl, h⟩)
  · rintro a rest _ _ ⟨rfl, rfl, hr⟩
    obtain ⟨S, n, o, es, ep, t, ho, hx, hd, g, nd, hm, hb, hf, hn, _⟩ := hr a List.mem_cons_self
    unfold setEntries
    refine wpAny_bind (wpAny_bind (wpAny_setState_of ho hd hf (wpAny_pure ?_)))
    dsimp only
    refine wpAny_bind (wpAny_forIn_array' _ (fun rest b s' => s = s' ∧ b = ⟨none, ()⟩ ∧ ∀ e ∈ rest, GoodE e) _ ?_ ?_ _ _ ⟨rfl, rfl, g⟩)
    · rintro ⟨hh, v⟩ rest' _ _ ⟨rfl, rfl, gr⟩
      obtain ⟨k, tk, h1, _⟩ := gr _ List.mem_cons_self
      dsimp only at h1
      subst h1
      exact wpAny_pure ⟨rfl, rfl, fun e he => gr e (List.mem_cons_of_mem _ he)⟩
    · rintro _ _ ⟨rfl, rfl, _⟩
      exact wpAny_pure ⟨rfl, rfl, fun e he => hr e (List.mem_cons_of_mem _ he)⟩
  · rintro _ _ ⟨rfl, rfl, _⟩
    exact wpAny_pure hq
/-- a walk of a set of ints that nobody sees, to fill another one -/
theorem walkUnseen_ints {a r : Addr} {others : List Addr} {S Sr : Int → Bool} {n m : Nat} {Q : Array (Int × Value) → Shared → Prop} (R : SetR w s.heap a S n) (Rr : SetR w s.heap r Sr m) (hne : r ≠ a) (ho : ∀ b ∈ others, ∃ S n, SetR w s.heap b S n)
    (hQ : ∀ (out : Array (Int × Value)) h', Heap.SameBut r s.heap h' → SetR w h' r Sr m → (∀ e ∈ out.toList, GoodE e) → (out.toList.map keyOf).Nodup → (∀ k, S k = true ↔ k ∈ out.toList.map keyOf) → out.size = n → Q out { s with heap := h' }) :
    wpAny (model P w) A (setWalkUnseen a others (some r)) Q E s := by
  have R0 := R
  obtain ⟨o, es, ep, t, hoa, hx, hd, g, nd, hm, hb, hf, hn, hr, hl⟩ := R
  have same : Q es s := hQ es s.heap (Heap.SameBut.refl r s.heap) Rr g nd hm hn
  unfold setWalkUnseen
  refine wpAny_bind (wpAny_setState_of hoa hd hf ?_)
  dsimp only
  refine wpAny_bind (wpAny_byText ?_)
  cases hbt : w.params.followText "set-order" with
  | true =>
    refine wp_if_pos (by rfl) ?_
    show wpAny (model P w) A (setWalk a) Q E s
    unfold setWalk
    refine wpAny_bind (wpAny_setState_of hoa hd hf ?_)
    dsimp only
    refine wpAny_bind (wpAny_byText ?_)
    refine wp_if_pos hbt ?_
    refine wpAny_bind (wpAny_askSetting (wpAny_pure ?_))
    have pm := pick_perm (w.params.setOrder a ep) es
    have pk := pm.map keyOf
    exact hQ _ s.heap (Heap.SameBut.refl r s.heap) Rr (fun e he => g e (pm.mem_iff.mp he)) (pk.nodup_iff.mpr nd) (fun k => (hm k).trans pk.mem_iff.symm) ((Array.length_toList.symm.trans (pm.length_eq.trans Array.length_toList)).trans hn)
  | false =>
    have hled : t.led = true := by
      rcases hl with z | z
      · rw [hbt] at z; cases z
      · exact z
    by_cases hc : (t.plain || decide (es.size ≤ 1)) = true
    · refine wp_if_pos (by rw [hled]; simpa using hc) ?_
      show wpAny (model P w) A (setWalk a) Q E s
      unfold setWalk
      refine wpAny_bind (wpAny_setState_of hoa hd hf ?_)
      dsimp only
      refine wpAny_bind (wpAny_byText ?_)
      refine wp_if_neg (by rw [hbt]; exact Bool.false_ne_true) ?_
      try refine wpAny_bind (wpAny_pure ?_)
      refine wp_if_neg ?_ ?_
      · show ¬ ((!t.plain && decide (es.size > 1)) = true)
        cases hp : t.plain with
        | true => simp
        | false => rw [hp] at hc; simp at hc; simp; omega
      try refine wpAny_bind (wpAny_pure ?_)
      refine wpAny_bind (wpAny_of_eq (a := ()) ?_ (wpAny_pure same))
      show (if (!t.led && decide (es.size > 1)) = true then unsupported "set:maker-not-led" else pure ()) = pure ()
      rw [hled] <;> rfl
    · refine wp_if_neg (by rw [hled]; simpa using hc) ?_
      try refine wpAny_bind (wpAny_pure ?_)
      refine wpAny_bind (setsQuiet_ints (fun b hb' => ?_) ?_)
      · rcases List.mem_cons.mp hb' with z | z
        · rw [z]; exact ⟨S, n, R0⟩
        · exact ho b z
      refine wp_if_neg (by simp) ?_
      try refine wpAny_bind (wpAny_pure ?_)
      refine wpAny_bind (wpAny_rule ?_)
      obtain ⟨o2, es2, ep2, t2, ho2, hx2, hd2, g2, nd2, hm2, hb2, hf2, hn2, hr2, hl2⟩ := Rr
      refine wpAny_bind (wpAny_setState_of ho2 hd2 hf2 ?_)
      dsimp only
      split
      · refine wpAny_bind (wpAny_storeSet_of ho2 hd2 ?_ (fits_of_scanBound hb2))
        have ho3 := store_at (es' := es2) (t' := { t2 with led := t2.led && t.led, plain := t2.plain && t.plain }) ho2 hd2
        refine wpAny_pure (hQ es _ (Heap.SameBut.update _ r _) ⟨_, es2, _, _, ho3, hx2, rfl, g2, nd2, hm2, hb2, hf2, hn2, hr2, ?_⟩ g nd hm hn)
        refine hl2.imp id fun z => ?_
        show (t2.led && t.led) = true
        rw [z, hled]; rfl
      · exact wpAny_pure same
theorem newSet_at {Q : Value → Shared → Prop} (h : Q (.ref s.heap.objs.size) { s with heap := s.heap.push { cls := .type "set", dict := none, data := .set #[] 0 (.fresh 0 0 (!w.params.followText "set-order")) } }) :
    wpAny (model P w) A (newSet (.type "set")) Q E s := by
  unfold newSet
  refine wpAny_bind (wpAny_byText ?_)
  dsimp only
  simp only [newObj]
  exact wpAny_bind (wpAny_alloc (wpAny_pure h))
theorem SetR.isSet {a : Addr} {S : Int → Bool} {n : Nat} (R : SetR w s.heap a S n) : s.TypeIs (.ref a) "set" := by
  obtain ⟨o, es, ep, t, ho, hx, _⟩ := R
  exact ⟨o, ho, hx.1⟩
theorem any_set {a : Addr} {S : Int → Bool} {n : Nat} {Q : Bool → Shared → Prop} (R : SetR w s.heap a S n) (hQ : Q true s) : wpAny (model P w) A (Builtin.Frozenset.isAnySet (.ref a)) Q E s := by
  unfold Builtin.Frozenset.isAnySet orM
  exact wpAny_bind (wpAny_isInstance R.isSet sub_set_self (wpAny_pure hQ))
theorem sizeOf_set {a : Addr} {S : Int → Bool} {n : Nat} {Q : Nat → Shared → Prop} (R : SetR w s.heap a S n) (hQ : Q n s) : wpAny (model P w) A (Builtin.Frozenset.sizeOf a) Q E s := by
  obtain ⟨o, es, ep, t, ho, hx, hd, g, nd, hm, hb, hf, hn, _⟩ := R
  unfold Builtin.Frozenset.sizeOf setEntries
  exact wpAny_bind (wpAny_bind (wpAny_setState_of ho hd hf (wpAny_pure (wpAny_pure (by rw [hn]; exact hQ)))))
theorem epoch_set {a : Addr} {o : Obj} {es : Array (Int × Value)} {ep : Nat} {t : SetTable} {Q : Nat → Shared → Prop} (ho : s.heap.get? a = some o) (hd : o.data = .set es ep t) (hf : t.fits es.size = true) (hQ : Q ep s) : wpAny (model P w) A (setEpoch a) Q E s := by
  unfold setEpoch
  exact wpAny_bind (wpAny_setState_of ho hd hf (wpAny_pure hQ))
theorem add_set {r : Addr} {S : Int → Bool} {c : Nat} {e : Int × Value} {Q : Bool → Shared → Prop} (g : GoodE e) (R : SetR w s.heap r S c) (room : c + 1 < scanBound)
    (hQ : ∀ h', Heap.SameBut r s.heap h' → SetR w h' r (fun j => S j || decide (j = keyOf e)) (if S (keyOf e) = true then c else c + 1) → Q (!S (keyOf e)) { s with heap := h' }) :
    wpAny (model P w) A (setAddHashed r e.2 e.1) Q E s := by
  obtain ⟨hh, v⟩ := e
  obtain ⟨k, tk, h1, h2⟩ := g
  dsimp only at h1 h2
  subst h1; subst h2
  exact setR_add_hashed R room hQ
theorem find_set {r : Addr} {S : Int → Bool} {c : Nat} {e : Int × Value} {Q : Option Nat → Shared → Prop} (g : GoodE e) (R : SetR w s.heap r S c) (hQ : ∀ x : Option Nat, x.isSome = S (keyOf e) → Q x s) :
    wpAny (model P w) A (setFind r e.2 e.1) Q E s := by
  obtain ⟨hh, v⟩ := e
  obtain ⟨k, tk, h1, h2⟩ := g
  dsimp only at h1 h2
  subst h1; subst h2
  exact wpAny_setFind_of (knd := intKind P w) (k := k) (intKind_is P w k tk) rfl (R.setOf (P := P)) hQ
theorem mem_app {done : List (Int × Value)} {e : Int × Value} {k : Int} : decide (k ∈ (done ++ [e]).map keyOf) = (decide (k ∈ done.map keyOf) || decide (k = keyOf e)) := by
  rw [List.map_append]
  by_cases h : k ∈ done.map keyOf
  · simp [h]
  · by_cases h2 : k = keyOf e
    · subst h2; simp
    · have q : ¬ k ∈ done.map keyOf ++ [keyOf e] := fun z => (List.mem_append.mp z).elim h fun z => h2 (List.mem_singleton.mp z)
      rw [decide_eq_false h, decide_eq_false h2]
      exact decide_eq_false q
/-- the loop: those of out that T (or its contrary) has go into r -/
theorem fill_loop {r asked walked : Addr} {id : String} {T : Int → Bool} {m : Nat} {o : Obj} {es : Array (Int × Value)} {ep : Nat} {t : SetTable} {out : Array (Int × Value)} (pol : Bool) (hra : r ≠ asked) (hrw : r ≠ walked)
    (go : ∀ e ∈ out.toList, GoodE e) (hsz : out.size < scanBound) (hT : SetR w s.heap asked T m) (hw : s.heap.get? walked = some o) (hd : o.data = .set es ep t) (hf : t.fits es.size = true) (hr : SetR w s.heap r (fun _ => false) 0)
    {Q : PUnit → Shared → Prop} {f : (Int × Value) → PUnit → Sem (ForInStep PUnit)}
    (hfe : ∀ e u, f e u = (do
      holding [e.2] (do
        let q ← setFind asked e.2 e.1
        if (q.isSome == pol) = true then do
          let _ ← setAddHashed r e.2 e.1
          pure ()
        else pure ())
      Builtin.Frozenset.unchanged id walked ep
      pure (ForInStep.yield PUnit.unit)))
    (hQ : ∀ h' c, Heap.SameBut r s.heap h' → SetR w h' r (fun k => decide (k ∈ out.toList.map keyOf) && (T k == pol)) c → c ≤ out.size → Q ⟨⟩ { s with heap := h' }) :
    wpAny (model P w) A (forIn out PUnit.unit f) Q E s := by
  refine wpAny_forIn_array' _ (fun rest b s' => ∃ done h' c, out.toList = done ++ rest ∧ s' = { s with heap := h' } ∧ Heap.SameBut r s.heap h' ∧ SetR w h' r (fun k => decide (k ∈ done.map keyOf) && (T k == pol)) c ∧ c ≤ done.length) _ ?_ ?_ _ _
    ⟨[], s.heap, 0, rfl, rfl, Heap.SameBut.refl r s.heap, hr.congr fun k => by simp, Nat.le_refl 0⟩
  · rintro e rest _ _ ⟨done, h', c, ho, rfl, sb, R, hc⟩
    have ge := go e (by rw [ho]; simp)
    have hT' : SetR w h' asked T m := hT.at fun o q => by rw [sb.2 asked (Ne.symm hra)]; exact q
    have hw' : h'.get? walked = some o := by rw [sb.2 walked (Ne.symm hrw)]; exact hw
    have hl : done.length + 1 ≤ out.size := by
      rw [← Array.length_toList, ho]; simp
    rw [hfe]
    refine wpAny_bind (wpAny_holding (wpAny_bind (find_set (s := { s with heap := h' }) ge hT' fun x hx => ?_)))
    rw [hx]
    have fin : ∀ h2 c2, Heap.SameBut r h' h2 → SetR w h2 r (fun k => decide (k ∈ (done ++ [e]).map keyOf) && (T k == pol)) c2 → c2 ≤ (done ++ [e]).length →
        wpAny (model P w) A (do
          Builtin.Frozenset.unchanged id walked ep
          pure (ForInStep.yield PUnit.unit)) (fun z s' => z = ForInStep.yield PUnit.unit ∧ ∃ done h' c, out.toList = done ++ rest ∧ s' = { s with heap := h' } ∧ Heap.SameBut r s.heap h' ∧ SetR w h' r (fun k => decide (k ∈ done.map keyOf) && (T k == pol)) c ∧ c ≤ done.length) E { s with heap := h2 } := fun h2 c2 sb2 R2 hc2 => by
      unfold Builtin.Frozenset.unchanged
      have hw2 : h2.get? walked = some o := by rw [sb2.2 walked (Ne.symm hrw)]; exact hw'
      refine wpAny_bind (wpAny_bind (epoch_set (s := { s with heap := h2 }) hw2 hd hf ?_))
      refine wp_if_neg (by simp) (wpAny_pure (wpAny_pure ?_))
      exact ⟨rfl, done ++ [e], h2, c2, by rw [ho]; simp, rfl, sb.trans sb2, R2, hc2⟩
    by_cases hp : (T (keyOf e) == pol) = true
    · refine wp_if_pos hp ?_
      refine wpAny_bind (add_set (s := { s with heap := h' }) ge R (by omega) fun h2 sb2 R2 => wpAny_pure ?_)
      refine wpAny_mono (fin h2 _ sb2 (R2.congr fun k => ?_) (by rw [List.length_append]; show _ ≤ done.length + 1; split <;> omega)) (fun z s' h => by obtain ⟨rfl, h⟩ := h; exact h) fun _ _ h => h
      rw [mem_app]
      by_cases hk : k = keyOf e
      · subst hk; rw [hp]; simp
      · rw [decide_eq_false hk]; simp
    · refine wp_if_neg hp ?_
      refine wpAny_pure ?_
      refine wpAny_mono (fin h' c (Heap.SameBut.refl r h') (R.congr fun k => ?_) (by rw [List.length_append]; omega)) (fun z s' h => by obtain ⟨rfl, h⟩ := h; exact h) fun _ _ h => h
      rw [mem_app]
      by_cases hk : k = keyOf e
      · subst hk
        have z : (T (keyOf e) == pol) = false := Bool.eq_false_iff.mpr hp
        rw [z]; simp
      · rw [decide_eq_false hk]; simp
  · rintro _ _ ⟨done, h', c, ho, rfl, sb, R, hc⟩
    have ho' : out.toList = done := by simpa using ho
    refine hQ h' c sb (by rw [ho']; exact R) ?_
    rw [← Array.length_toList, ho']; exact hc
theorem baseOf_set {a : Addr} {S : Int → Bool} {n : Nat} {Q : Value → Shared → Prop} (R : SetR w s.heap a S n) (hQ : Q (.type "set") s) : wpAny (model P w) A (Builtin.Frozenset.baseOf a) Q E s := by
  unfold Builtin.Frozenset.baseOf
  exact wpAny_bind (wpAny_isInstance R.isSet sub_set_self (wpAny_pure hQ))
theorem SetR.push {h : Heap} {o : Obj} {a : Addr} {S : Int → Bool} {n : Nat} (R : SetR w h a S n) : SetR w (h.push o) a S n := R.at fun _ e => Heap.get?_push_of_some _ e
/-- walked's members that asked has go into a new set -/
theorem inter_core {walked asked : Addr} {nm : String} {S T : Int → Bool} {n m : Nat} {Q : Unit → Shared → Prop} (Rw : SetR w s.heap walked S n) (Ra : SetR w s.heap asked T m)
    (hQ : ∀ h' c, Heap.SameBut s.heap.objs.size (s.heap.push { cls := .type "set", dict := none, data := .set #[] 0 (.fresh 0 0 (!w.params.followText "set-order")) }) h' → SetR w h' s.heap.objs.size (fun k => S k && T k) c → c ≤ n → Q () { s with heap := h' }) :
    wpAny (model P w) A (do
      let was ← setEpoch walked
      let out ← setWalkUnseen walked [asked, s.heap.objs.size] (some s.heap.objs.size)
      let _ ← forIn out PUnit.unit fun x _ => do
          holding [x.snd] do
            let q ← setFind asked x.snd x.fst
            if q.isSome = true then do
              let _ ← setAddHashed s.heap.objs.size x.snd x.fst
              pure ()
            else pure ()
          Builtin.Frozenset.unchanged nm walked was
          pure (ForInStep.yield PUnit.unit)
      pure ()) Q E { s with heap := s.heap.push { cls := .type "set", dict := none, data := .set #[] 0 (.fresh 0 0 (!w.params.followText "set-order")) } } := by
  have Rw' := Rw.push (o := { cls := .type "set", dict := none, data := .set #[] 0 (.fresh 0 0 (!w.params.followText "set-order")) })
  have Ra' := Ra.push (o := { cls := .type "set", dict := none, data := .set #[] 0 (.fresh 0 0 (!w.params.followText "set-order")) })
  have Rr := setR_fresh (h := s.heap) w
  have n1 : s.heap.objs.size ≠ walked := Nat.ne_of_gt Rw.lt
  have n2 : s.heap.objs.size ≠ asked := Nat.ne_of_gt Ra.lt
  obtain ⟨o, es, ep, t, ho, hx, hd, g, nd, hm, hb, hf, hn, _⟩ := id Rw'
  refine wpAny_bind (epoch_set ho hd hf ?_)
  refine wpAny_bind (walkUnseen_ints (s := { s with heap := s.heap.push { cls := .type "set", dict := none, data := .set #[] 0 (.fresh 0 0 (!w.params.followText "set-order")) } }) Rw' Rr n1 (fun b hb => ?_) fun out h1 sb R1 go hnd hmem hsz => ?_)
  · rcases List.mem_cons.mp hb with z | z
    · rw [z]; exact ⟨_, _, Ra'⟩
    · rw [List.mem_singleton.mp z]; exact ⟨_, _, Rr⟩
  · have Rw1 : SetR w h1 walked S n := Rw'.at fun _ q => by rw [sb.2 walked (Ne.symm n1)]; exact q
    have Ra1 : SetR w h1 asked T m := Ra'.at fun _ q => by rw [sb.2 asked (Ne.symm n2)]; exact q
    have ho1 : h1.get? walked = some o := by rw [sb.2 walked (Ne.symm n1)]; exact ho
    refine wpAny_bind (fill_loop (s := { s with heap := h1 }) (id := nm) true n2 n1 go (by rw [hsz, ← hn]; exact hb) Ra1 ho1 hd hf R1 (fun e u => ?_) fun h2 c sb2 R2 hc => wpAny_pure ?_)
    · congr 1
      refine congrArg _ (congrArg _ (funext fun q => ?_))
      cases q.isSome <;> rfl
    · refine hQ h2 c (sb.trans sb2) (R2.congr fun k => ?_) (by rw [← hsz]; exact hc)
      have : S k = decide (k ∈ out.toList.map keyOf) := by
        cases hS : S k with
        | true => exact (decide_eq_true ((hmem k).1 hS)).symm
        | false => exact (decide_eq_false fun z => by rw [(hmem k).2 z] at hS; cases hS).symm
      rw [this]
      cases T k <;> rfl
/-- a & b, two sets of ints -/
theorem inter_ints {a b : Addr} {nm : String} {S T : Int → Bool} {n m : Nat} {Q : Value → Shared → Prop} (Ra : SetR w s.heap a S n) (Rb : SetR w s.heap b T m) (hne : a ≠ b)
    (hQ : ∀ h' c, (∀ d o, s.heap.get? d = some o → h'.get? d = some o) → SetR w h' s.heap.objs.size (fun k => S k && T k) c → c ≤ n → Q (.ref s.heap.objs.size) { s with heap := h' }) :
    wpAny (model P w) A (Builtin.Frozenset.intersection nm a (.ref b)) Q E s := by
  unfold Builtin.Frozenset.intersection
  refine wp_if_neg (by simpa using fun z => hne z.symm) ?_
  try refine wpAny_bind (wpAny_pure ?_)
  refine wpAny_bind (baseOf_set Ra ?_)
  refine wpAny_bind (newSet_at ?_)
  refine wpAny_bind (wpAny_pure ?_)
  have keep : ∀ {h' : Heap}, Heap.SameBut s.heap.objs.size (s.heap.push { cls := .type "set", dict := none, data := .set #[] 0 (.fresh 0 0 (!w.params.followText "set-order")) }) h' → ∀ d o, s.heap.get? d = some o → h'.get? d = some o := fun sb d o e => by
    rw [sb.2 d (Nat.ne_of_lt (Heap.lt_size e))]
    exact Heap.get?_push_of_some _ e
  refine wpAny_bind (wpAny_holding ?_)
  have Ra' := Ra.push (o := { cls := .type "set", dict := none, data := .set #[] 0 (.fresh 0 0 (!w.params.followText "set-order")) })
  have Rb' := Rb.push (o := { cls := .type "set", dict := none, data := .set #[] 0 (.fresh 0 0 (!w.params.followText "set-order")) })
  refine wpAny_bind (any_set (s := { s with heap := s.heap.push _ }) Rb' ?_)
  refine wp_if_pos rfl ?_
  refine wpAny_bind (wpAny_pure ?_)
  refine wpAny_bind (sizeOf_set (s := { s with heap := s.heap.push _ }) Rb' ?_)
  refine wpAny_bind (sizeOf_set (s := { s with heap := s.heap.push _ }) Ra' ?_)
  by_cases h : m > n
  · rw [if_pos h]
    dsimp only
    exact inter_core Ra Rb fun h' c sb R hc => wpAny_pure (hQ h' c (keep sb) R hc)
  · rw [if_neg h]
    dsimp only
    exact inter_core Rb Ra fun h' c sb R hc => wpAny_pure (hQ h' c (keep sb) (R.congr fun k => Bool.and_comm _ _) (by omega))
end
end L2
namespace L2
open PySem PySem.Spec PyProof.Rows
theorem entry_set_and : entryFor table "set.__and__" = some Builtin.«frozenset.__and__» :=
  entryFor_alias (id' := "frozenset.__and__") (by kernel_rfl) rfl (by decide +kernel) (by kernel_rfl)
theorem entry_set_or : entryFor table "set.__or__" = some Builtin.«frozenset.__or__» :=
  entryFor_alias (id' := "frozenset.__or__") (by kernel_rfl) rfl (by decide +kernel) (by kernel_rfl)
theorem entry_set_sub : entryFor table "set.__sub__" = some Builtin.«frozenset.__sub__» :=
  entryFor_alias (id' := "frozenset.__sub__") (by kernel_rfl) rfl (by decide +kernel) (by kernel_rfl)
section
variable {P : Program} {w : World} {A : Around} {E : Value → Shared → Prop} {s : Shared}
theorem call_sand {a b : Addr} {S T : Int → Bool} {n m : Nat} {Q : Value → Shared → Prop} (Ra : SetR w s.heap a S n) (Rb : SetR w s.heap b T m) (hne : a ≠ b)
    (hQ : ∀ h' c, (∀ d o, s.heap.get? d = some o → h'.get? d = some o) → SetR w h' s.heap.objs.size (fun k => S k && T k) c → c ≤ n → Q (.ref s.heap.objs.size) { s with heap := h' }) :
    wpAny (model P w) A (binaryOp .BitAnd (.ref a) (.ref b)) Q E s := by
  refine wpAny_binaryOp_same Ra.isSet Rb.isSet F.fills_set_and F.slot_set_and ?_
  refine wpAny_call_entry F.slot_set_and Ra.isSet entry_set_and ?_ (F.args_set_and_2 _ _)
  unfold Builtin.«frozenset.__and__»
  show wpAny _ _ (do
    let (self, other) ← Builtin.Frozenset.slot1 "__and__" ⟨[.ref a, .ref b], []⟩
    let (l, r) := if false = true then (other, self) else (self, other)
    if !(← Builtin.Frozenset.isAnySet l <&&> Builtin.Frozenset.isAnySet r) then rule s!"frozenset.{"__and__"}.declined"; return ← ret .notImplemented
    ret (← Builtin.Frozenset.intersection s!"frozenset.{"__and__"}" (← Builtin.Frozenset.addrOf l) r)) _ _ _
  refine wpAny_bind (wpAny_of_eq (a := (Value.ref a, Value.ref b)) (by rfl) ?_)
  dsimp only
  rw [if_neg Bool.false_ne_true]
  dsimp only
  unfold andM
  refine wpAny_bind (wpAny_bind (any_set Ra (any_set Rb ?_)))
  refine wp_if_neg (by simp) ?_
  refine wpAny_bind (m := Builtin.Frozenset.addrOf (Value.ref a)) (wpAny_pure ?_)
  refine wpAny_bind (inter_ints Ra Rb hne fun h' c k R hc => ?_)
  exact wpAny_pure ⟨_, rfl, (fun z => nomatch z), hQ h' c k R hc⟩
variable {X : Cx}
/-- a & b, two sets of ints of one's own -/
def rSAnd (w : World) : V → V → Hp → VK → Prop := fun x y H Q => ∃ (a b : Addr) (S T : Int → Bool) (n m : Nat), x = V.ref a ∧ y = V.ref b ∧ a ≠ b ∧ H a = some (SetO w a S n) ∧ H b = some (SetO w b T m) ∧
  ∀ (c : Nat) (p : Addr), c ≤ n → H p = none → Q (.ref p) (upd H p (SetO w p (fun k => S k && T k) c))
theorem op_sand : OpR X (binaryOp .BitAnd) (rSAnd X.w) := by
  intro pins s σ H x y v u Q I rx ry h
  obtain ⟨a, b, S, T, n, m, rfl, rfl, hne, ha, hb, q⟩ := h
  cases rx
  cases ry
  refine call_sand (setO_get I ha) (setO_get I hb) hne fun h' c k R hc => ?_
  have hn : H s.heap.objs.size = none := I.hok.fresh (Nat.le_refl _)
  have J : Inv X pins σ (upd H s.heap.objs.size (SetO X.w s.heap.objs.size (fun k => S k && T k) c)) { s with heap := h', gens := s.gens, drawn := s.drawn, toks := s.toks } :=
    I.call (ch := []) (Un.laid k (Nat.le_refl _) hn) (I.hok.laid k (Nat.le_refl _) (setO_new R)) I.bare (fun _ z => nomatch z)
  exact ⟨.ref _, _, J, rfl, q c _ hc hn⟩
/-- set(x), x a tuple of ints -/
def rSetI (K : PySem.W.Frag) (w : World) : List V → Hp → VK → Prop := fun vs H Q => ∃ (l : Addr) (ns : List Int), vs = [V.ref l] ∧ SqT K H l (ns.map V.int) ∧ ns.length ≤ 1000 ∧
  ∀ (c : Nat) (p : Addr), c ≤ ns.length → H p = none → Q (.ref p) (upd H p (SetO w p (fun k => decide (k ∈ ns)) c))
theorem cr_setI (hc : X.calm = true) : CallR X (.type "set") (rSetI X.K X.w) := by
  intro pins s σ H vs us Q I r h
  obtain ⟨l, ns, rfl, hl, h1, q⟩ := h
  rw [Vals.ref1 r]
  obtain ⟨its, rv, pt, hz⟩ := I.tuple hl
  have hi : IntsAre its.toArray.toList ns := ints_of_vals rv
  refine call_set_tupI ns (I.ok.hd hc) (show s.heap.IsTuple l its.toArray from pt) hi (by unfold scanBound; omega) fun h' tk c R1 hcn k => ?_
  have hn : H s.heap.objs.size = none := I.hok.fresh (Nat.le_refl _)
  have J : Inv X pins σ (upd H s.heap.objs.size (SetO X.w s.heap.objs.size (fun k => decide (k ∈ ns)) c)) { s with heap := h', gens := s.gens, drawn := s.drawn, toks := tk } :=
    I.call (ch := []) (Un.laid k (Nat.le_refl _) hn) (I.hok.laid k (Nat.le_refl _) (setO_new R1)) I.bare (fun _ z => nomatch z)
  exact ⟨.ref _, _, J, rfl, q c _ hcn hn⟩
end
end L2
namespace L2
open PySem PySem.Spec PyProof.Rows
section
variable {P : Program} {w : World} {A : Around} {E : Value → Shared → Prop} {s : Shared}
theorem diff_short {a b : Addr} {nm : String} {S T : Int → Bool} {n m : Nat} {Q : Value → Shared → Prop} (Ra : SetR w s.heap a S n) (Rb : SetR w s.heap b T m) (hsz : n / 4 ≤ m)
    (hQ : ∀ h' c, (∀ d o, s.heap.get? d = some o → h'.get? d = some o) → SetR w h' s.heap.objs.size (fun k => S k && !T k) c → c ≤ n → Q (.ref s.heap.objs.size) { s with heap := h' }) :
    wpAny (model P w) A (Builtin.Frozenset.difference nm a (.ref b)) Q E s := by
  unfold Builtin.Frozenset.difference
  extract_lets
  refine wpAny_bind (any_set Rb ?_)
  refine wp_if_neg (by simp) ?_
  refine wpAny_bind (m := Builtin.Frozenset.addrOf (Value.ref b)) (wpAny_pure ?_)
  dsimp only
  refine wp_if_neg (by simp) ?_
  refine wp_if_pos rfl ?_
  refine wpAny_bind (sizeOf_set Rb ?_)
  refine wpAny_bind (sizeOf_set Ra ?_)
  refine wp_if_neg (by omega) ?_
  refine wpAny_bind (baseOf_set Ra ?_)
  refine wpAny_bind (newSet_at ?_)
  refine wpAny_bind (m := Builtin.Frozenset.addrOf (Value.ref s.heap.objs.size)) (wpAny_pure ?_)
  have Ra' := Ra.push (o := { cls := .type "set", dict := none, data := .set #[] 0 (.fresh 0 0 (!w.params.followText "set-order")) })
  have Rb' := Rb.push (o := { cls := .type "set", dict := none, data := .set #[] 0 (.fresh 0 0 (!w.params.followText "set-order")) })
  have Rr := setR_fresh (h := s.heap) w
  have n1 : s.heap.objs.size ≠ a := Nat.ne_of_gt Ra.lt
  have n2 : s.heap.objs.size ≠ b := Nat.ne_of_gt Rb.lt
  have keep : ∀ {h' : Heap}, Heap.SameBut s.heap.objs.size (s.heap.push { cls := .type "set", dict := none, data := .set #[] 0 (.fresh 0 0 (!w.params.followText "set-order")) }) h' → ∀ d o, s.heap.get? d = some o → h'.get? d = some o := fun sb d o e => by
    rw [sb.2 d (Nat.ne_of_lt (Heap.lt_size e))]
    exact Heap.get?_push_of_some _ e
  have Ra2 := Ra'
  obtain ⟨o, es, ep, t, ho, hx, hd, g, nd, hm, hb, hf, hn, _⟩ := Ra'
  refine wpAny_bind (epoch_set ho hd hf ?_)
  refine wpAny_bind (wpAny_holding ?_)
  rw [if_pos rfl]
  refine wpAny_bind (walkUnseen_ints (s := { s with heap := s.heap.push { cls := .type "set", dict := none, data := .set #[] 0 (.fresh 0 0 (!w.params.followText "set-order")) } }) Ra2 Rr n1 (fun b' hb' => ?_) fun out h1 sb R1 go hnd hmem hsz => ?_)
  · rcases List.mem_cons.mp hb' with z | z
    · rw [z]; exact ⟨_, _, Rb'⟩
    · rw [List.mem_singleton.mp z]; exact ⟨_, _, Rr⟩
  · have Rb1 : SetR w h1 b T m := Rb'.at fun _ q => by rw [sb.2 b (Ne.symm n2)]; exact q
    have ho1 : h1.get? a = some o := by rw [sb.2 a (Ne.symm n1)]; exact ho
    refine wpAny_bind (fill_loop (s := { s with heap := h1 }) (id := nm) false n2 n1 go (by rw [hsz, ← hn]; exact hb) Rb1 ho1 hd hf R1 (fun e u => ?_) fun h2 c sb2 R2 hc => wpAny_pure (wpAny_pure ?_))
    · rw [if_pos rfl]
      congr 1
      refine congrArg _ (congrArg _ (funext fun q => ?_))
      rw [pure_bind]
      cases q.isSome <;> rfl
    · refine hQ h2 c (keep (sb.trans sb2)) (R2.congr fun k => ?_) (by rw [← hsz]; exact hc)
      have : S k = decide (k ∈ out.toList.map keyOf) := by
        cases hS : S k with
        | true => exact (decide_eq_true ((hmem k).1 hS)).symm
        | false => exact (decide_eq_false fun z => by rw [(hmem k).2 z] at hS; cases hS).symm
      rw [this]
      cases T k <;> rfl
end
end L2
namespace AL
open PySem PySem.Spec PyProof.Rows L2 Evl
section
variable {X : Cx} {Z : Zx} {a b : Expr} {ρ : En} {Φ : D → En → Prop} {p p1 p2 p3 p4 pos q1 q2 : Pos}
/-- sorted(set(a) & set(b)) of two tuples of ints -/
theorem ec_sortedAnd (hms : X.mg "sorted" = none) (hmt : X.mg "set" = none) (h : EC X Z a ρ fun d ρ1 => ∃ ns : List Int, d = .tup (ns.map D.int) ∧ ns.length < 64 ∧ EC X Z b ρ1 fun d' ρ2 => ∃ ms : List Int, d' = .tup (ms.map D.int) ∧ ms.length < 64 ∧
      ∀ out : List Int, out.Pairwise (· < ·) → (∀ k, k ∈ out ↔ k ∈ ns ∧ k ∈ ms) → Φ (.lst (out.map D.int)) ρ2)
    (hc : X.calm = true := by rfl) (hgs : Gl X "sorted" := by rfl) (hgt : Gl X "set" := by rfl)
    (ha : starEach [a] X.env = (false, eval a X.env) :: starEach [] X.env := by rfl) (hb : starEach [b] X.env = (false, eval b X.env) :: starEach [] X.env := by rfl)
    (he : starEach [.BinOp (.Call (.Name "set" p1) [a] [] p2) .BitAnd (.Call (.Name "set" p3) [b] [] p4) q1] X.env = (false, eval (.BinOp (.Call (.Name "set" p1) [a] [] p2) .BitAnd (.Call (.Name "set" p3) [b] [] p4) q1) X.env) :: starEach [] X.env := by rfl)
    (hpl : ∀ pos, (backTo pos (starEach [] X.env)).any (·.1) = false := by intro pos; rfl) :
    EC X Z (.Call (.Name "sorted" p) [.BinOp (.Call (.Name "set" p1) [a] [] p2) .BitAnd (.Call (.Name "set" p3) [b] [] p4) q1] [] pos) ρ Φ := fun B G H σ o z Q q => by
  refine (pe_callB (cr_sortedSet hc) hgs hms boot_sorted (pa_cons (pe_op op_sand (pe_callTy (cr_setI hc) hgt hmt boot_set (pa_cons (p_wE (e := a)) pa_nil ha) (he := ha) (hpl := hpl _)) (pe_callTy (cr_setI hc) hgt hmt boot_set (pa_cons (p_wE (e := b)) pa_nil hb) (he := hb) (hpl := hpl _))) pa_nil he) (he := he) (hpl := hpl _)).w ?_
  refine h B G H σ o z _ fun d ρ1 x B1 H1 ⟨ns, hd, hl, h1⟩ e1 o1 r1 => ?_
  subst hd
  cases r1 with
  | tup hq rr =>
    have ev := reps_int rr
    subst ev
    refine ⟨_, ns, rfl, ex_t o1.s.ex (st_of hq), by omega, fun c pa hca hpa => ?_⟩
    obtain ⟨e2, o2⟩ := o1.grow (u := SetO X.w pa (fun k => decide (k ∈ ns)) c) hpa
    refine h1 _ G _ σ o2 (z.up (e1.trans e2)) _ fun d' ρ2 y B3 H3 ⟨ms, hd', hl', hk⟩ e3 o3 r3 => ?_
    subst hd'
    cases r3 with
    | tup hq' rr' =>
      have ev' := reps_int rr'
      subst ev'
      refine ⟨_, ms, rfl, ex_t o3.s.ex (st_of hq'), by omega, fun c' pb hcb hpb => ?_⟩
      have hA : H3 pa = some (SetO X.w pa (fun k => decide (k ∈ ns)) c) := o3.s.ex _ _ (e3 _ _ upd_same)
      have hne : pa ≠ pb := fun t => by subst t; rw [hpb] at hA; cases hA
      obtain ⟨e4, o4⟩ := o3.grow (u := SetO X.w pb (fun k => decide (k ∈ ms)) c') hpb
      refine ⟨pa, pb, _, _, c, c', rfl, rfl, hne, by rw [upd_ne hne]; exact hA, upd_same, fun c2 pc hc2 hpc => ?_⟩
      obtain ⟨e5, o5⟩ := o4.grow (u := SetO X.w pc (fun k => decide (k ∈ ns) && decide (k ∈ ms)) c2) hpc
      refine ⟨pc, _, c2, rfl, upd_same, by omega, fun out po ho hm hlo hpo => ?_⟩
      obtain ⟨e6, o6⟩ := o5.grow (u := .lst (out.map V.int)) hpo
      refine q _ ρ2 _ _ _ (hk out ho fun k => ?_) ((((e1.trans e2).trans e3).trans e4).trans (e5.trans e6)) o6 (.lst upd_same (int_reps out))
      rw [hm k, Bool.and_eq_true, decide_eq_true_eq, decide_eq_true_eq]
end
end AL
/-! enumerate(x), x a list or a tuple: by what begins the walk (Begins) and what its iterator draws (Draws) -/
namespace L2
open PySem PySem.Spec PyProof.Rows
abbrev enumCell (it : Addr) : Obj := { cls := .type "enumerate", data := .fields #[.none, .bool false, .ref it, rawInt 0, .none, .none] }
theorem enum1_new {v : Value} {o : Obj} {Hv : Heap → Prop} (B : Begins v o Hv) : Meets (Builtin.«enumerate.__new__» ⟨[.type "enumerate", v], []⟩) (fun _ R s => Hv s.heap ∧ R (.ok (.ret (.ref (s.heap.push o).objs.size))) { s with heap := (s.heap.push o).push (enumCell s.heap.objs.size) }) :=
  Meets.of_wp fun P w A R s ⟨ok, done⟩ => by
    cases s with
    | mk hp g dr tk os =>
      have same := sub_enumerate
      have begin_ : ∀ {A' : Around} {E' : Value → Shared → Prop} {Q' : Value → Shared → Prop}, Q' (.ref hp.objs.size) ⟨hp.push o, g, dr, tk, os⟩ → wpAny (model P w) A' (pyIter v) Q' E' ⟨hp, g, dr, tk, os⟩ := fun q => B.iter P w _ _ ⟨hp, g, dr, tk, os⟩ _ ok q
      wp_walk using begin_
      refine wpAny_stack_any fun below => wpAny_pure ?_
      split
      · rename_i top _ _ _ _ _; cases (top == Value.type "enumerate") <;> (wp_walk using begin_; exact ⟨_, rfl, done⟩)
      · wp_walk using begin_; exact ⟨_, rfl, done⟩
theorem enum1_call {P : Program} {w : World} {A : Around} {E : Value → Shared → Prop} {s : Shared} {v : Value} {o : Obj} {Hv : Heap → Prop} {Q : Value → Shared → Prop} (B : Begins v o Hv) (ok : Hv s.heap)
    (k : ∀ h', IsEnum h' (s.heap.objs.size + 1) s.heap.objs.size 0 .none → h'.get? s.heap.objs.size = some o → (∀ b u, s.heap.get? b = some u → h'.get? b = some u) → Q (.ref (s.heap.objs.size + 1)) { s with heap := h' }) : wpAny (model P w) A (call (.type "enumerate") [v]) Q E s := by
  refine callType_new F.called_enumerate (by decide) (F.typeCall_enumerate_1 _) (F.newCall_enumerate_1 _) (fun x => F.args_object_init_2 x _) F.entry_enumerate_new (enum1_new B) ⟨ok, ?_⟩
  have size1 : (s.heap.push o).objs.size = s.heap.objs.size + 1 := Heap.size_push ..
  have cell : IsEnum ((s.heap.push o).push (enumCell s.heap.objs.size)) (s.heap.objs.size + 1) s.heap.objs.size 0 .none := by have z := Heap.get?_push_size (s.heap.push o) (o := enumCell s.heap.objs.size) rfl; rw [size1] at z; exact z
  show _ ∧ _; rw [size1]
  exact ⟨⟨_, cell, rfl⟩, k _ cell (Heap.get?_push_of_some _ (Heap.get?_push_size _ B.free)) fun b u q => Heap.get?_push_of_some _ (Heap.get?_push_of_some _ q)⟩
/-- the tuple at a, each item in a new pair -/
def IteT (K : PySem.W.Frag) (a : Addr) : It where
  go i H := ∃ (xs : List V) (x : V), SqT K H a xs ∧ xs[i]? = some x
  yld i H v H' := ∃ T x, v = .ref T ∧ H T = none ∧ H' = upd H T (.tup [.int (i : Nat), x]) ∧ ∀ xs, SqT K H a xs → xs[i]? = some x
  stop i H := ∃ xs : List V, SqT K H a xs ∧ xs.length ≤ i
/-- where such a walk stands -/
structure EnT (a e it : Addr) (i : Nat) (h : Heap) : Prop where
  cell : ∃ old, IsEnum h e it ((i : Nat) : Int) old
  inner : h.IsTupleIter it a i
  n1 : e ≠ it
  n2 : a ≠ it
  n3 : a ≠ e
theorem EnT.two {a e it b : Addr} {i : Nat} {h : Heap} (st : EnT a e it i h) (hb : b ∈ [e, it]) : b < h.objs.size ∧ ∃ o, h.get? b = some o ∧ ∀ v, o.data ≠ .cell v := by
  obtain ⟨⟨old, c⟩, ⟨o, g, _, dt⟩, _⟩ := st
  rcases List.mem_cons.mp hb with z | z
  · subst z; exact ⟨Heap.lt_size c, _, c, fun v q => by cases q⟩
  · have z := List.mem_singleton.mp z; exact ⟨z ▸ Heap.lt_size g, o, z ▸ g, fun v q => by rw [dt] at q; cases q⟩
theorem turn_enumT {P : Program} {w : World} {K : PySem.W.Frag} {elts : List Expr} {kk : Nat} {tpos : Pos} (a e it : Addr) : Turn P w K (.Tuple elts kk tpos) (IteT K a) [e, it] e (EnT a e it) where
  mem := List.mem_cons_self
  obj i h st b hb := (st.two hb).2
  keep i h h' st k := ⟨st.cell.imp fun _ c => k e List.mem_cons_self _ c, st.inner.at fun o q => k it (List.mem_cons_of_mem _ List.mem_cons_self) o q, st.n1, st.n2, st.n3⟩
  item := by
    rintro X rfl rfl rfl hc i pins s σ H E I hf st ⟨xs, x, hq, hx⟩
    obtain ⟨old, cell⟩ := st.cell
    obtain ⟨its, rv, tup, _⟩ := I.tuple hq
    obtain ⟨u, hu, ru⟩ := rv.get hx
    have there : its.toArray[i]? = some u := by simpa using hu
    have small : i < its.toArray.size := (Array.getElem?_eq_some_iff.mp there).1
    have draws := Draws.tuple (prog := X.prog) (w := X.w) (A := X.A.in1) (I.ok.hd hc) it a st.n2 its.toArray
    refine wpAny_pyNext_enum_itemD draws cell ⟨st.inner, tup⟩ small st.n1 (fun z => (List.mem_cons.mp z).elim st.n1 fun z => st.n3 (List.mem_singleton.mp z).symm) fun y h' tk hy out ⟨inner', _⟩ pair size' keep' => ?_
    obtain rfl : y = u := Option.some.inj (hy.symm.trans there)
    refine ⟨_, rfl, wpAny_letOwnedTupleGo_enum (s := { s with heap := h', toks := tk + 1 }) out fun h2 cell2 sb => ?_⟩
    have keep2 : ∀ b o, b ∉ [e, it] → s.heap.get? b = some o → h2.get? b = some o := fun b o nb q => by
      have nb1 : b ≠ e := fun z => nb (z ▸ List.mem_cons_self)
      have nb2 : b ≠ it := fun z => nb (z ▸ List.mem_cons_of_mem _ List.mem_cons_self)
      exact (sb.2 b nb1).trans (keep' b o nb1 nb2 q)
    have lay : ObjOk X.prog X.w (upd H s.heap.objs.size (.tup [.int (i : Nat), x])) h2 s.heap.objs.size (.tup [.int (i : Nat), x]) := by
      have at2 := (sb.2 _ (Nat.ne_of_gt (st.two List.mem_cons_self).1)).trans pair
      exact ⟨(by decide : 2 ≤ sizeLine), [.int i tk, y], .cons ⟨_, rfl⟩ (.cons ru .nil), ⟨_, at2, rfl, _, rfl⟩⟩
    have I2 := I.turnedNew (t' := tk + 1) keep2 hf (Nat.le_refl _) lay
    refine ⟨.ref s.heap.objs.size, _, I2, rfl, ⟨_, x, rfl, I.hok.fresh (Nat.le_refl _), rfl, fun ys hy' => (I.tuple_inj hy' hq) ▸ hx⟩, ⟨⟨y, ?_⟩, inner'.at fun o q => (sb.2 it st.n1.symm).trans q, st.n1, st.n2, st.n3⟩, fun b hb => ?_⟩
    · have up : ((i + 1 : Nat) : Int) = (i : Int) + 1 := by omega
      rw [up]; exact cell2
    · rw [upd_ne (Nat.ne_of_lt (st.two hb).1)]; exact (hf b hb).1
  done := by
    rintro X rfl rfl rfl hc i pins s σ H E I hf st ⟨xs, hq, hx⟩
    obtain ⟨old, cell⟩ := st.cell
    obtain ⟨its, rv, tup, _⟩ := I.tuple hq
    have none_ : its.toArray[i]? = none := by have := rv.length; simp; omega
    have isE : s.TypeIs (.ref e) "enumerate" := ⟨_, cell, rfl⟩
    obtain ⟨f0, f1, f2, f3, f4, f5⟩ := hf it (List.mem_cons_of_mem _ List.mem_cons_self)
    unfold pyNext
    refine wpAny_bind (wpAny_attempt (wpAny_callSpecial?_slot (name := Str.ofString "__next__") isE F.slot_enumerate_next (wpAny_call_entry F.slot_enumerate_next isE F.entry_enumerate_next ?_ (F.args_enumerate_next_1 _))))
    show wpAny _ _ (field (.ref e) 2 >>= _) _ _ _
    refine wpAny_bind (wpAny_field cell rfl (x := .ref it) rfl (wpAny_bind (wpAny_nextOf_tuple_end (A := X.A.in1) (I.ok.hd hc) st.inner tup none_ fun h' x kept ⟨o, ho, hcl⟩ => wpAny_bind (wpAny_isInstance (T := "StopIteration") (b := true) ⟨o, ho, hcl⟩ isSubtype_stop (wpAny_pure ⟨rfl, I.turned (t' := s.toks) (fun b u hb q => kept b u hb q) f0 f1 f3 f4 f5⟩)))))
  self A i s Q E st h := st.cell.elim fun _ c => wpAny_pyIter_enum c h
def iEnumT (K : PySem.W.Frag) (ta : TA) : TI := fun σ H R => ta σ H fun vs H1 => ∃ a xs, vs = [.ref a] ∧ ((SqL K H1 a xs ∧ R (Ite K a) H1) ∨ (SqT K H1 a xs ∧ R (IteT K a) H1))
theorem pi_enumT {X : Cx} {e : Expr} {ta : TA} {p pos tpos : Pos} {elts : List Expr} {kk : Nat} (hg : Gl X "enumerate") (hm : X.mg "enumerate" = none) (ha : PA X [e] ta) (hs : starEach [e] X.env = [(false, eval e X.env)] := by rfl) : PI X (.Tuple elts kk tpos) (.Call (.Name "enumerate" p) [e] [] pos) (iEnumT X.K ta) := ⟨fun pins s σ H R I h => by
  refine Call_ (ld_blt I hg hm boot_enumerate (PyProof.Rows.callWith_type1 (thn (ha.run pos pins s σ H _ I h) fun us s1 hh => ?_) hs rfl))
  obtain ⟨vs, H1, I1, r1, a, xs, ex, q⟩ := hh
  subst ex
  obtain rfl : us = [Value.ref a] := by cases r1 with | cons r rr => cases rr; cases r; rfl
  have new2 : ∀ b ∈ [s1.heap.objs.size + 1, s1.heap.objs.size], s1.heap.objs.size ≤ b := fun b hb => (List.mem_cons.mp hb).elim (fun z => z ▸ Nat.le_succ _) fun z => Nat.le_of_eq (List.mem_singleton.mp z).symm
  rcases q with ⟨hq, q⟩ | ⟨hq, q⟩
  · obtain ⟨its, rv, pl, _⟩ := I1.list hq
    refine enum1_call (begins_list a its.toArray) pl.isList fun h' cell inner keep => wpAny_pyIter_enum cell ?_
    exact ⟨_, _, _, _, H1, rfl, I1.kept (t' := s1.toks) keep, turn_enum a (s1.heap.objs.size + 1) s1.heap.objs.size, ⟨⟨.none, cell⟩, ⟨_, inner, rfl, rfl⟩, Nat.succ_ne_self _⟩, fun b hb => I1.fpOk (new2 b hb) (I1.hok.fresh (new2 b hb)), q⟩
  · obtain ⟨its, rv, tup, _⟩ := I1.tuple hq
    have old : a < s1.heap.objs.size := by obtain ⟨_, z, _⟩ := id tup; exact Heap.lt_size z
    refine enum1_call (begins_tuple a its.toArray) tup fun h' cell inner keep => wpAny_pyIter_enum cell ?_
    exact ⟨_, _, _, _, H1, rfl, I1.kept (t' := s1.toks) keep, turn_enumT a (s1.heap.objs.size + 1) s1.heap.objs.size, ⟨⟨.none, cell⟩, ⟨_, inner, rfl, rfl⟩, Nat.succ_ne_self _, Nat.ne_of_lt old, Nat.ne_of_lt (Nat.lt_succ_of_lt old)⟩, fun b hb => I1.fpOk (new2 b hb) (I1.hok.fresh (new2 b hb)), q⟩⟩
end L2
namespace AL
open PySem PySem.Spec PyProof.Rows L2 Evl
def enumFrom (k : Nat) : List D → List D
  | [] => []
  | d :: ds => .tup [.int (k : Int), d] :: enumFrom (k + 1) ds
/-- what enumerate gives -/
def enumD (ds : List D) : List D := enumFrom 0 ds
theorem enumFrom_get : ∀ (ds : List D) (k i : Nat), (enumFrom k ds)[i]? = (ds[i]?).map fun d => .tup [.int ((k + i : Nat) : Int), d]
  | [], _, _ => rfl
  | d :: ds, k, 0 => rfl
  | d :: ds, k, i + 1 => by
    show (enumFrom (k + 1) ds)[i]? = (ds[i]?).map _
    rw [enumFrom_get ds (k + 1) i]
    have e : k + 1 + i = k + (i + 1) := by omega
    rw [e]
theorem enumD_get {ds : List D} {i : Nat} : (enumD ds)[i]? = (ds[i]?).map fun d => .tup [.int (i : Int), d] := by
  unfold enumD; rw [enumFrom_get]; simp
theorem enumFrom_len : ∀ (ds : List D) (k : Nat), (enumFrom k ds).length = ds.length
  | [], _ => rfl
  | d :: ds, k => by show (enumFrom (k + 1) ds).length + 1 = ds.length + 1; rw [enumFrom_len ds (k + 1)]
section
variable {K : PySem.W.Frag}
theorem walks_enum {B : Hp} {x : Addr} {xs : List V} {ds : List D} (hq : SqL K B x xs) (r : Reps K B xs ds) : Walks K B (Ite K x) (enumD ds) := fun i B2 G2 H2 σ2 ρ2 e o => by
  have q2 : SqL K H2 x xs := ex_l o.s.ex (ex_l e hq)
  refine ⟨fun d hd => ?_, fun hl => ⟨xs, q2, ?_⟩⟩
  · rw [enumD_get] at hd
    obtain ⟨d0, hd0, rfl⟩ := Option.map_eq_some_iff.mp hd
    obtain ⟨y, hy, ry⟩ := r.get' hd0
    refine ⟨⟨xs, y, q2, hy⟩, fun v H' ⟨T, x', ev, hT, eH, hx'⟩ => ?_⟩
    subst ev; subst eH
    have ex : x' = y := by have z := hx' xs q2; rw [hy] at z; exact (Option.some.inj z).symm
    subst ex
    obtain ⟨e3, o3⟩ := o.grow (u := .tup [.int (i : Nat), x']) hT
    exact ⟨_, e3, o3, .tup upd_same (.cons (.int _) (.cons ((ry.up e).up e3) .nil))⟩
  · rw [r.length]; unfold enumD at hl; rw [enumFrom_len] at hl; exact hl
theorem walks_enumT {B : Hp} {x : Addr} {xs : List V} {ds : List D} (hq : SqT K B x xs) (r : Reps K B xs ds) : Walks K B (IteT K x) (enumD ds) := fun i B2 G2 H2 σ2 ρ2 e o => by
  have q2 : SqT K H2 x xs := ex_t o.s.ex (ex_t e hq)
  refine ⟨fun d hd => ?_, fun hl => ⟨xs, q2, ?_⟩⟩
  · rw [enumD_get] at hd
    obtain ⟨d0, hd0, rfl⟩ := Option.map_eq_some_iff.mp hd
    obtain ⟨y, hy, ry⟩ := r.get' hd0
    refine ⟨⟨xs, y, q2, hy⟩, fun v H' ⟨T, x', ev, hT, eH, hx'⟩ => ?_⟩
    subst ev; subst eH
    have ex : x' = y := by have z := hx' xs q2; rw [hy] at z; exact (Option.some.inj z).symm
    subst ex
    obtain ⟨e3, o3⟩ := o.grow (u := .tup [.int (i : Nat), x']) hT
    exact ⟨_, e3, o3, .tup upd_same (.cons (.int _) (.cons ((ry.up e).up e3) .nil))⟩
  · rw [r.length]; unfold enumD at hl; rw [enumFrom_len] at hl; exact hl
end
section
variable {X : Cx} {Z : Zx} {e : Expr} {ρ : En} {Φ : List D → En → Prop} {p pos tpos : Pos} {elts : List Expr} {kk : Nat}
/-- for i, x in enumerate(e) -/
theorem ic_enum (hm : X.mg "enumerate" = none) (h : EC X Z e ρ fun d ρ1 => ∃ ds, itemsD d = some ds ∧ Φ (enumD ds) ρ1) (hg : Gl X "enumerate" := by rfl)
    (he : starEach [e] X.env = (false, eval e X.env) :: starEach [] X.env := by rfl) : IC X Z (.Tuple elts kk tpos) (.Call (.Name "enumerate" p) [e] [] pos) ρ Φ := fun B G H σ o z R q =>
  (pi_enumT hg hm (pa_cons p_wE pa_nil he) he).w (h B G H σ o z _ fun d ρ1 v B1 H1 ⟨ds, hd, h1⟩ e1 o1 r1 => by
    cases r1 with
    | lst hq rs =>
      obtain rfl := Option.some.inj hd
      exact ⟨_, _, rfl, .inl ⟨sq_of (o1.s.ex _ _ hq), q _ ρ1 _ B1 H1 h1 e1 o1 (walks_enum (sq_of hq) rs)⟩⟩
    | tup hq rs =>
      obtain rfl := Option.some.inj hd
      exact ⟨_, _, rfl, .inr ⟨ex_t o1.s.ex (st_of hq), q _ ρ1 _ B1 H1 h1 e1 o1 (walks_enumT (st_of hq) rs)⟩⟩
    | klst hq rs =>
      obtain rfl := Option.some.inj hd
      exact ⟨_, _, rfl, .inl ⟨ex_l o1.s.ex hq, q _ ρ1 _ B1 H1 h1 e1 o1 (walks_enum hq rs)⟩⟩
    | ktup hq rs =>
      obtain rfl := Option.some.inj hd
      exact ⟨_, _, rfl, .inr ⟨ex_t o1.s.ex hq, q _ ρ1 _ B1 H1 h1 e1 o1 (walks_enumT hq rs)⟩⟩
    | _ => cases hd)
end
end AL
namespace L2
open PySem PySem.Spec PyProof.Rows
theorem perm_map_inv {α β : Type} {f : α → β} : ∀ {l : List β} {L : List α}, l.Perm (L.map f) → ∃ L' : List α, L'.Perm L ∧ l = L'.map f
  | [], L, h => by
    have e : L.map f = [] := h.nil_eq.symm
    have e' : L = [] := List.map_eq_nil_iff.mp e
    subst e'
    exact ⟨[], .refl _, rfl⟩
  | b :: t, L, h => by
    have hb : b ∈ L.map f := h.mem_iff.mp List.mem_cons_self
    obtain ⟨a, ha, rfl⟩ := List.mem_map.mp hb
    obtain ⟨s, u, rfl⟩ := List.append_of_mem ha
    have h2 : (f a :: t).Perm (f a :: (s ++ u).map f) := h.trans (by
      rw [List.map_append, List.map_append, List.map_cons]
      exact List.perm_middle)
    obtain ⟨L', p, e⟩ := perm_map_inv (l := t) (L := s ++ u) h2.cons_inv
    exact ⟨a :: L', (p.cons a).trans List.perm_middle.symm, by rw [List.map_cons, e]⟩
section
variable {prog : Program} {w : World}
/-- the keys of a dict, whatever they are -/
theorem kdl_any {d : Addr} {o : Obj} {es : Array DictEntry} {ep : Nat} (lo : (d == sysModules) = false) (hx : o.ExactDict) (hdat : o.data = .dict es ep) :
    PySem.W.KdlSrc prog w "dict" d d es.size (fun i v => ∃ en : DictEntry, es[i]? = some en ∧ v = en.key) (fun h => h.get? d = some o) where
  type := fun _ hm => ⟨o, hm, hx.1⟩
  there := fun _ hm => ⟨Heap.lt_size hm, Heap.lt_size hm⟩
  keep := fun _ _ hm hk => hk d (.inl rfl) o hm
  notList := by decide
  notTuple := by decide
  hint := fun _ _ s _ hm hq => PySem.W.kdl_hint_dict (s := s) ⟨o, hm, hx.1⟩ hq
  iter := fun A s hh hm => by
    have hne : d ≠ s.heap.objs.size := Nat.ne_of_lt (Heap.lt_size hm)
    refine ⟨_, fun i h => h.IsKeyIter s.heap.objs.size d i es.size ep ∧ h.get? d = some o, (fun _ _ hq => iter_keys lo hm hx hdat hq), ?_, ⟨⟨_, Heap.get?_push_size _ rfl, rfl, rfl⟩, Heap.get?_push_of_some _ hm⟩⟩
    exact {
      sub := fun b hb => by simp at hb; simp [hb]
      frame := fun _ _ _ st hk => ⟨st.1.at fun o e => hk _ (by simp) o e, hk d (by simp) o st.2⟩
      item := fun i s' Q E hi st hQ => by
        have hen : es[i]? = some es[i] := Array.getElem?_eq_getElem hi
        refine next_key_item st.1 st.2 hdat rfl hen fun h' hit' hs' => ?_
        exact hQ _ h' s'.toks ⟨_, hen, rfl⟩ ⟨hit', (hs'.2 d hne).trans st.2⟩ fun b o hb e => hs'.extBut b o (fun h => hb (by simp [h])) e
      done := fun s' Q E st hQ => next_key_end hh st.1 st.2 hdat rfl (Nat.le_refl _) fun h' he' => hQ h' s'.toks fun b o hb e => he' b o (fun h => hb (by simp [h])) e
      self := fun _ _ _ _ st hQ => wpAny_pyIter_keyiter st.1 hQ }
end
/-- sorted(d), d a dict of fewer than 64 whose keys are tuples of d ints in [0, B) -/
def rSortDT (n : Nat) (B : Int) : List V → Hp → VK → Prop := fun vs H Q => ∃ (a : Addr) (kvs : List (List Key × V)) (ks : List (List Int)), vs = [V.ref a] ∧ Rd H a (.dT kvs) ∧ kvs.map (·.1) = ks.map (fun k => k.map Sum.inl) ∧ ks.length < 64 ∧
  (∀ k ∈ ks, k.length = n ∧ TS.Bd B k) ∧ ∀ (L : List (Addr × List Int)) (p : Addr), (L.map (·.2)).Perm ks → L.Pairwise (fun q r => TS.code B q.2 ≤ TS.code B r.2) → (∀ q ∈ L, H q.1 = some (.tup (q.2.map V.int))) → H p = none →
    Q (.ref p) (upd H p (.lst (L.map fun q => V.ref q.1)))
theorem ent_rows {P : Program} {w : World} {H : Hp} : ∀ {kvs : List (List Key × V)} {xs : List (List Key × Addr × Value)} {ks : List (List Int)}, KT H kvs xs → kvs.map (·.1) = ks.map (fun k => k.map Sum.inl) →
    ∃ L : List (Addr × List Int), (xs.map (entryOfKey (tupleKind (mixKind P w)))).map (·.key) = L.map (fun q => Value.ref q.1) ∧ L.map (·.2) = ks ∧ ∀ q ∈ L, H q.1 = some (.tup (q.2.map V.int))
  | _, _, ks, .nil, h => by
    cases ks with
    | nil => exact ⟨[], rfl, rfl, fun q hq => nomatch hq⟩
    | cons k ks => cases h
  | _, _, ks, .cons (a := a) (b := b) r rs, h => by
    cases ks with
    | nil => cases h
    | cons k ks =>
      rw [List.map_cons, List.map_cons] at h
      injection h with h1 h2
      obtain ⟨L, e1, e2, e3⟩ := ent_rows (P := P) (w := w) rs h2
      refine ⟨(b.2.1, k) :: L, ?_, by rw [List.map_cons, e2], fun q hq => ?_⟩
      · rw [List.map_cons, List.map_cons, e1]; rfl
      · rcases List.mem_cons.mp hq with z | z
        · subst z
          have : (k.map Sum.inl : List Key).map kV = k.map V.int := by rw [List.map_map]; rfl
          rw [← this, ← h1]; exact r.2.1
        · exact e3 q z
theorem vals_refsA : ∀ L : List (Addr × List Int), Vals (L.map fun q => V.ref q.1) (L.map fun q => Value.ref q.1)
  | [] => .nil
  | q :: L => .cons (show RelV (.ref q.1) (.ref q.1) from rfl) (vals_refsA L)
section
variable {X : Cx}
theorem cr_sortedDT {n : Nat} {B : Int} (hn : 1 ≤ n) (hc : X.calm = true) : CallR X (.builtin "sorted") (rSortDT n B) := by
  intro pins s σ H vs us Q I r h
  obtain ⟨a, kvs, ks, rfl, hd, hks, h64, hB, q⟩ := h
  rw [Vals.ref1 r]
  obtain ⟨z, lo, xs, pr, o, es, ep, ho, hx, hdat, hes, _⟩ := hd.ok I.hok
  obtain ⟨L, e1, e2, e3⟩ := ent_rows (P := X.prog) (w := X.w) pr hks
  rw [← hes] at e1
  have hLl : L.length = ks.length := by rw [← e2, List.length_map]
  have hsz : es.size = L.length := by
    have := congrArg List.length e1
    rw [List.length_map, List.length_map, Array.length_toList] at this
    exact this
  refine Calls.call_function_entry PyProof.Rows.kind_sorted PyProof.Rows.plain_sorted PyProof.Rows.entry_sorted (PyProof.Rows.args_sorted1 _) ?_
  unfold Builtin.«sorted»
  refine wpAny_bind (m := checkCount "sorted" 1 1 _) (wpAny_pure ?_)
  refine wpAny_bind (PySem.W.kdu_collect (A := X.A.in1) (kdl_any lo hx hdat) (I.ok.hd hc) ho (by rw [hsz, hLl, sizeLine_eq]; omega) fun h' tk acc hk hacc => ?_)
  have ea : acc.toList = L.map fun q => Value.ref q.1 := by
    rw [← e1]
    refine List.ext_getElem? fun i => ?_
    by_cases hi : i < acc.size
    · have hv : acc[i]? = some acc[i] := Array.getElem?_eq_getElem hi
      obtain ⟨en, h1, h2⟩ := hacc.2 i _ hv
      rw [Array.getElem?_toList, hv, List.getElem?_map, Array.getElem?_toList, h1, h2]
      rfl
    · have h1 : acc.toList[i]? = none := by rw [Array.getElem?_toList]; exact Array.getElem?_eq_none (by omega)
      have h2 : es.toList[i]? = none := by rw [Array.getElem?_toList]; exact Array.getElem?_eq_none (by have := hacc.1; omega)
      rw [h1, List.getElem?_map, h2]; rfl
  have hal : acc.toList.length < 64 := by rw [ea, List.length_map, hLl]; exact h64
  have I1 : Inv X pins σ H { s with heap := h', toks := tk } := I.kept hk
  refine wpAny_bind (wpAny_newList ?_ (by rw [sizeLine_eq]; omega))
  have hoL : (h'.push (seqObj "list" acc.toList.toArray 0)).get? h'.objs.size = some (seqObj "list" acc.toList.toArray 0) := Heap.get?_push_size _ rfl
  show wpAny _ _ _ _ _ { s with heap := h'.push (seqObj "list" acc.toList.toArray 0), toks := tk }
  have tup : ∀ q ∈ L, TS.TupInts h' (.ref q.1) q.2 := fun q hq => tupI_raw I1 (.inl (.inl (e3 q hq)))
  have tup2 : ∀ q ∈ L, TS.TupInts (h'.push (seqObj "list" acc.toList.toArray 0)) (.ref q.1) q.2 := fun q hq => (tup q hq).keeps fun b o e _ => Heap.get?_push_of_some _ e
  have xk : TS.TupsOk (h'.push (seqObj "list" acc.toList.toArray 0)) n B acc.toList := fun v hv => by
    rw [ea] at hv
    obtain ⟨q, hq, rfl⟩ := List.mem_map.mp hv
    have hm : q.2 ∈ ks := by rw [← e2]; exact List.mem_map.mpr ⟨q, hq, rfl⟩
    exact ⟨q.2, tup2 q hq, hB q.2 hm⟩
  refine wpAny_bind (wpAny_holding (TS.call_sort_tups (s := { s with heap := h'.push (seqObj "list" acc.toList.toArray 0), toks := tk }) hoL hal hn xk fun out a1 a2 => ?_))
  obtain ⟨e', he'⟩ := PyProof.Rows.sortedHeap_at (vs := acc.toList) (out := out) hoL
  obtain ⟨L', pL, eL⟩ := perm_map_inv (f := fun q : Addr × List Int => Value.ref q.1) (l := out.toList) (L := L) (by rw [← ea]; exact a1)
  have hs' : ∀ q ∈ L', q ∈ L := fun q hq => pL.mem_iff.mp hq
  have pw : L'.Pairwise (fun q r => TS.code B q.2 ≤ TS.code B r.2) := by
    rw [eL] at a2
    refine List.Pairwise.imp_of_mem (fun {q r} hq hr hle => ?_) (List.pairwise_map.mp a2)
    have f1 := (tup2 q (hs' q hq)).ints
    have f2 := (tup2 r (hs' r hr)).ints
    rw [← f1, ← f2]
    exact hle
  have hlen : (L'.map fun q => V.ref q.1).length ≤ sizeLine := by
    rw [List.length_map, pL.length_eq, hLl, sizeLine_eq]; omega
  have hvals : Vals (L'.map fun q => V.ref q.1) out.toList := by
    rw [eL]
    exact vals_refsA L'
  refine wpAny_pure ⟨_, rfl, .ref h'.objs.size, upd H h'.objs.size (.lst (L'.map fun q => V.ref q.1)), I1.laid (t' := tk) (fun b u e => ?_) (Nat.le_refl _)
    (show ObjOk X.prog X.w _ _ _ (.lst (L'.map fun q => V.ref q.1)) from ⟨hlen, out.toList, e', hvals, by rw [Array.toArray_toList]; exact he'⟩), rfl, q L' _ ?_ pw (fun q hq => e3 q (hs' q hq)) (I1.hok.fresh (Nat.le_refl _))⟩
  · have hb : b < h'.objs.size := Heap.lt_size e
    rw [PyProof.Rows.sortedHeap_old (Nat.ne_of_lt hb) (by rw [size_push']; exact Nat.lt_succ_of_lt hb)]
    exact Heap.get?_push_of_some _ e
  · rw [← e2]; exact pL.map _
end
end L2
namespace AL
open PySem PySem.Spec PyProof.Rows L2 Evl
def tupI (k : List Int) : D := .tup (k.map D.int)
theorem rows_reps {K : PySem.W.Frag} {B : Hp} : ∀ {L : List (Addr × List Int)}, (∀ q ∈ L, B q.1 = some (.tup (q.2.map V.int))) → Reps K B (L.map fun q => V.ref q.1) (L.map fun q => tupI q.2)
  | [], _ => .nil
  | q :: L, h => .cons (.tup (h q List.mem_cons_self) (int_reps q.2)) (rows_reps fun r hr => h r (List.mem_cons_of_mem _ hr))
section
variable {X : Cx} {Z : Zx} {ρ : En} {Φ : D → En → Prop} {p pos ps : Pos} {x : Str}
/-- sorted(x), x a dict of one's own whose keys are tuples of n ints in [0, Bd) -/
theorem ec_sortedDT (i : Nat) {kds : List (List Key × D)} {aq : Addr} {ks : List (List Int)} (n : Nat) (Bd : Int) (hd : ρ[i]? = some (some (.ow aq (.t kds)))) (hk : kds.map (·.1) = ks.map fun k => k.map Sum.inl) (hl : ks.length < 64) (hn : 1 ≤ n) (hB : ∀ k ∈ ks, k.length = n ∧ TS.Bd Bd k)
    (h : ∀ ks' : List (List Int), ks'.Perm ks → ks'.Pairwise (fun a b => TS.code Bd a ≤ TS.code Bd b) → Φ (.lst (ks'.map tupI)) ρ) (hm : X.mg "sorted" = none)
    (hc : X.calm = true := by rfl) (hg : Gl X "sorted" := by rfl) (hN : X.N[i]? = some x := by rfl) (hv : Vis X.env.scope x := by first | exact Or.inl rfl | exact Or.inr (Or.inl rfl) | exact Or.inr (Or.inr rfl)) (hdb : (x == ("__debug__" : Str)) = false := by decide) (hcd : (x == ("__classdict__" : Str)) = false := by decide)
    (he : starEach [.Name x ps] X.env = (false, eval (.Name x ps) X.env) :: starEach [] X.env := by rfl) (hpl : (backTo pos (starEach [] X.env)).any (·.1) = false := by rfl) : EC X Z (.Call (.Name "sorted" p) [.Name x ps] [] pos) ρ Φ := fun B G H σ o z Q q => by
  obtain ⟨g1, _, _, u, g4, g5⟩ := o.ow i aq _ hd
  cases u with
  | dT kvs =>
    refine (pe_callB (cr_sortedDT hn hc) hg hm boot_sorted (pa_cons (pe_var hN hv hdb hcd) pa_nil he) (he := he) (hpl := hpl)).w ⟨_, g1, aq, kvs, ks, rfl, .of g4, by rw [RepK.keys g5]; exact hk, hl, hB, fun L p' h1 h2 h3 hp => ?_⟩
    obtain ⟨e2, o2⟩ := o.grow (u := .lst (L.map fun q => V.ref q.1)) hp
    have hr := rows_reps (K := X.K) (L := L) fun q hq => o.s.tp _ _ (h3 q hq) rfl
    have hres := h (L.map (·.2)) h1 (List.pairwise_map.mpr h2)
    rw [List.map_map] at hres
    exact q _ ρ _ _ _ hres e2 o2 (.lst upd_same (Reps.up hr e2))
  | _ => exact False.elim g5
end
end AL
namespace L2
open PySem PySem.Spec PyProof.Rows
section
variable {X : Cx}
def rInDT (K : PySem.W.Frag) : R2 := fun x y H Q => ∃ d ds, Dp K H x d ∧ Dp K H y (.tuple ds) ∧ SeqAt.shaped d = true ∧ SeqAt.shaped (.tuple ds) = true ∧ Q (.bl (ds.any fun z => PyData.eqv z d)) H
def rNotInDT (K : PySem.W.Frag) : R2 := fun x y H Q => ∃ d ds, Dp K H x d ∧ Dp K H y (.tuple ds) ∧ SeqAt.shaped d = true ∧ SeqAt.shaped (.tuple ds) = true ∧ Q (.bl (!ds.any fun z => PyData.eqv z d)) H
theorem op_inDT (hu : X.A.units + 65 < cLine) : OpR X (compareOp .In) (rInDT X.K) := by
  intro pins s σ H x y v u Q I rx ry h
  obtain ⟨d, ds, hd, he, sd, se, q⟩ := h
  obtain ⟨as, r1⟩ := Dp.reads I d x v hd rx
  obtain ⟨bs, r2⟩ := Dp.reads I (.tuple ds) y u he ry
  exact SeqAt.in_tuple_reads r2 r1 (SeqAt.canLay_of_shaped se) (SeqAt.canLay_of_shaped sd) (room_in_shaped sd hu) ⟨.bl _, H, I, rfl, q⟩
theorem op_notInDT (hu : X.A.units + 65 < cLine) : OpR X (compareOp .NotIn) (rNotInDT X.K) := by
  intro pins s σ H x y v u Q I rx ry h
  obtain ⟨d, ds, hd, he, sd, se, q⟩ := h
  obtain ⟨as, r1⟩ := Dp.reads I d x v hd rx
  obtain ⟨bs, r2⟩ := Dp.reads I (.tuple ds) y u he ry
  exact SeqAt.notIn_tuple_reads r2 r1 (SeqAt.canLay_of_shaped se) (SeqAt.canLay_of_shaped sd) (room_in_shaped sd hu) ⟨.bl _, H, I, rfl, q⟩
end
end L2
namespace AL
open PySem PySem.Spec PyProof.Rows L2 Evl
/-! ### data as the model's own data -/
mutual
def pyD : D → Option PyData
  | .non => some .none
  | .bl b => some (.bool b)
  | .int i => some (.int i)
  | .str x => some (.str x)
  | .lst ds => match pyDs ds with
    | some ps => some (.list ps)
    | none => none
  | .tup ds => match pyDs ds with
    | some ps => some (.tuple ps)
    | none => none
  | .ktup ds => match pyDs ds with
    | some ps => some (.tuple ps)
    | none => none
  | .klst ds => match pyDs ds with
    | some ps => some (.list ps)
    | none => none
  | .obj _ _ => none
  | .exc _ _ _ => none
def pyDs : List D → Option (List PyData)
  | [] => some []
  | d :: ds => match pyD d, pyDs ds with
    | some p, some ps => some (p :: ps)
    | _, _ => none
end
section
variable {K : PySem.W.Frag} {B H : Hp}
mutual
theorem rep_dp (e : Ex B H) : ∀ (d : D) {v : V} {p : PyData}, Rep K B v d → pyD d = some p → Dp K H v p
  | .non, _, _, .non, h => by unfold pyD at h; cases h; exact .non
  | .bl b, _, _, .bl _, h => by unfold pyD at h; cases h; exact .bl b
  | .int i, _, _, .int _, h => by unfold pyD at h; cases h; exact .int i
  | .str x, _, _, .str _, h => by unfold pyD at h; cases h; exact .str x
  | .lst ds, _, _, .lst hq r, h => by
    unfold pyD at h
    split at h
    · rename_i ps hp; cases h; exact .lst (sq_of (e _ _ hq)) (reps_dp e ds r hp)
    · cases h
  | .tup ds, _, _, .tup hq r, h => by
    unfold pyD at h
    split at h
    · rename_i ps hp; cases h; exact .tup (ex_t e (st_of hq)) (reps_dp e ds r hp)
    · cases h
  | .ktup ds, _, _, .ktup hq r, h => by
    unfold pyD at h
    split at h
    · rename_i ps hp; cases h; exact .tup (ex_t e hq) (reps_dp e ds r hp)
    · cases h
  | .klst ds, _, _, .klst hq r, h => by
    unfold pyD at h
    split at h
    · rename_i ps hp; cases h; exact .lst (ex_l e hq) (reps_dp e ds r hp)
    · cases h
  | .obj _ _, _, _, _, h => by unfold pyD at h; cases h
  | .exc _ _ _, _, _, _, h => by unfold pyD at h; cases h
theorem reps_dp (e : Ex B H) : ∀ (ds : List D) {vs : List V} {ps : List PyData}, Reps K B vs ds → pyDs ds = some ps → DpAll K H vs ps
  | [], _, _, .nil, h => by unfold pyDs at h; cases h; exact .nil
  | d :: ds, _, _, .cons r rs, h => by
    unfold pyDs at h
    split at h
    · rename_i p ps h1 h2; cases h; exact .cons (rep_dp e d r h1) (reps_dp e ds rs h2)
    · cases h
end
end
theorem g_eqD {K : PySem.W.Frag} {d e : D} {p q : PyData} (hp : pyD d = some p) (hq : pyD e = some q) (sp : SeqAt.shaped p = true) (sq : SeqAt.shaped q = true) : Gives K (rEqD K) d e (.bl (PyData.eqv p q)) := fun B G H x y s r1 r2 =>
  ⟨_, .bl _, fun Q k => ⟨p, q, rep_dp s.ex d r1 hp, rep_dp s.ex e r2 hq, sp, sq, k⟩⟩
theorem g_neD {K : PySem.W.Frag} {d e : D} {p q : PyData} (hp : pyD d = some p) (hq : pyD e = some q) (sp : SeqAt.shaped p = true) (sq : SeqAt.shaped q = true) : Gives K (rNeD K) d e (.bl (!PyData.eqv p q)) := fun B G H x y s r1 r2 =>
  ⟨_, .bl _, fun Q k => ⟨p, q, rep_dp s.ex d r1 hp, rep_dp s.ex e r2 hq, sp, sq, k⟩⟩
theorem g_inDT {K : PySem.W.Frag} {d e : D} {p : PyData} {qs : List PyData} (hp : pyD d = some p) (hq : pyD e = some (.tuple qs)) (sp : SeqAt.shaped p = true) (sq : SeqAt.shaped (.tuple qs) = true) : Gives K (rInDT K) d e (.bl (qs.any fun z => PyData.eqv z p)) := fun B G H x y s r1 r2 =>
  ⟨_, .bl _, fun Q k => ⟨p, qs, rep_dp s.ex d r1 hp, rep_dp s.ex e r2 hq, sp, sq, k⟩⟩
theorem g_niDT {K : PySem.W.Frag} {d e : D} {p : PyData} {qs : List PyData} (hp : pyD d = some p) (hq : pyD e = some (.tuple qs)) (sp : SeqAt.shaped p = true) (sq : SeqAt.shaped (.tuple qs) = true) : Gives K (rNotInDT K) d e (.bl (!qs.any fun z => PyData.eqv z p)) := fun B G H x y s r1 r2 =>
  ⟨_, .bl _, fun Q k => ⟨p, qs, rep_dp s.ex d r1 hp, rep_dp s.ex e r2 hq, sp, sq, k⟩⟩
/-! ### tuples of ints, tuples of such -/
def pyI (k : List Int) : PyData := .tuple (k.map PyData.int)
theorem pyDs_map {α : Type} (f : α → D) (g : α → PyData) (h : ∀ a, pyD (f a) = some (g a)) : ∀ l : List α, pyDs (l.map f) = some (l.map g)
  | [] => by unfold pyDs; rfl
  | a :: l => by rw [List.map_cons, pyDs, h a, pyDs_map f g h l]; rfl
theorem py_tupI (k : List Int) : pyD (tupI k) = some (pyI k) := by
  unfold tupI pyD pyI
  rw [pyDs_map D.int PyData.int (fun i => by unfold pyD; rfl) k]
theorem eqv_ints : ∀ k l : List Int, PyData.eqvAll (k.map PyData.int) (l.map PyData.int) = decide (k = l)
  | [], [] => by simp [PyData.eqvAll]
  | [], _ :: _ => by simp [PyData.eqvAll]
  | _ :: _, [] => by simp [PyData.eqvAll]
  | a :: k, b :: l => by
    rw [List.map_cons, List.map_cons, PyData.eqvAll, eqv_ints k l, PyData.eqv]
    by_cases h : a = b
    · subst h; simp
    · simp [h]
theorem eqv_tupI (k l : List Int) : PyData.eqv (pyI k) (pyI l) = decide (k = l) := by unfold pyI; rw [PyData.eqv]; exact eqv_ints k l
theorem any_tupI (k : List Int) : ∀ ks : List (List Int), ((ks.map pyI).any fun z => PyData.eqv z (pyI k)) = decide (k ∈ ks)
  | [] => rfl
  | l :: ks => by
    rw [List.map_cons, List.any_cons, eqv_tupI, any_tupI k ks]
    by_cases h : l = k
    · subst h; simp
    · have h' : ¬ k = l := fun z => h z.symm
      simp [h, h']
theorem lay_ints : ∀ k : List Int, PyData.canLayAll0 (k.map PyData.int) = true
  | [] => by rw [List.map_nil, PyData.canLayAll0]
  | a :: k => by rw [List.map_cons, PyData.canLayAll0, lay_ints k, PyData.canLay0]; rfl
theorem lay_rows : ∀ ks : List (List Int), PyData.canLayAll0 (ks.map pyI) = true
  | [] => by rw [List.map_nil, PyData.canLayAll0]
  | a :: k => by rw [List.map_cons, PyData.canLayAll0, lay_rows k]; unfold pyI; rw [PyData.canLay0, lay_ints]; rfl
theorem dep_ints : ∀ k : List Int, PyData.depthAll (k.map PyData.int) ≤ 1
  | [] => by rw [List.map_nil, PyData.depthAll]; omega
  | a :: k => by
    rw [List.map_cons, PyData.depthAll]
    have := dep_ints k
    have h2 : PyData.depth (.int a) ≤ 1 := by rw [PyData.depth]; omega
    omega
theorem dep_row (k : List Int) : PyData.depth (pyI k) ≤ 2 := by
  unfold pyI; rw [PyData.depth]; have := dep_ints k; omega
theorem dep_rows : ∀ ks : List (List Int), PyData.depthAll (ks.map pyI) ≤ 2
  | [] => by rw [List.map_nil, PyData.depthAll]; omega
  | a :: k => by
    rw [List.map_cons, PyData.depthAll]
    have := dep_rows k
    have h2 := dep_row a
    omega
theorem shp_row (k : List Int) : SeqAt.shaped (pyI k) = true := by
  unfold SeqAt.shaped
  rw [Bool.and_eq_true, decide_eq_true_eq]
  have := dep_row k
  exact ⟨by unfold pyI; rw [PyData.canLay0]; exact lay_ints k, by omega⟩
theorem shp_rows (ks : List (List Int)) : SeqAt.shaped (.tuple (ks.map pyI)) = true := by
  unfold SeqAt.shaped
  rw [Bool.and_eq_true, decide_eq_true_eq]
  have := dep_rows ks
  exact ⟨by rw [PyData.canLay0]; exact lay_rows ks, by rw [PyData.depth]; omega⟩
theorem py_rows (ks : List (List Int)) : pyD (.tup (ks.map tupI)) = some (.tuple (ks.map pyI)) := by
  rw [pyD, pyDs_map tupI pyI py_tupI ks]
section
variable {X : Cx} {Z : Zx} {a b : Expr} {ρ : En} {Φ : D → En → Prop} {Ψ : Bool → En → Prop} {pos : Pos}
/-- a in b: a tuple of ints in a tuple of such -/
theorem ec_inT (hu : X.A.units + 65 < cLine) (h : EC X Z a ρ fun d ρ1 => EC X Z b ρ1 fun d' ρ2 => ∃ (k : List Int) (ks : List (List Int)), d = tupI k ∧ d' = .tup (ks.map tupI) ∧ Φ (.bl (decide (k ∈ ks))) ρ2) (hm : behindInMarks .In b = false := by rfl) : EC X Z (.Compare a [.In] [b] pos) ρ Φ :=
  ec_cmp (op_inDT hu) hm (h.mono fun d ρ1 z => z.mono fun d' ρ2 ⟨k, ks, e1, e2, q⟩ => by subst e1; subst e2; exact ⟨_, g_inDT (py_tupI k) (py_rows ks) (shp_row k) (shp_rows ks), by rw [any_tupI]; exact q⟩)
theorem ec_niT (hu : X.A.units + 65 < cLine) (h : EC X Z a ρ fun d ρ1 => EC X Z b ρ1 fun d' ρ2 => ∃ (k : List Int) (ks : List (List Int)), d = tupI k ∧ d' = .tup (ks.map tupI) ∧ Φ (.bl (!decide (k ∈ ks))) ρ2) (hm : behindInMarks .NotIn b = false := by rfl) : EC X Z (.Compare a [.NotIn] [b] pos) ρ Φ :=
  ec_cmp (op_notInDT hu) hm (h.mono fun d ρ1 z => z.mono fun d' ρ2 ⟨k, ks, e1, e2, q⟩ => by subst e1; subst e2; exact ⟨_, g_niDT (py_tupI k) (py_rows ks) (shp_row k) (shp_rows ks), by rw [any_tupI]; exact q⟩)
theorem tc_inT (hu : X.A.units + 65 < cLine) (h : EC X Z a ρ fun d ρ1 => EC X Z b ρ1 fun d' ρ2 => ∃ (k : List Int) (ks : List (List Int)), d = tupI k ∧ d' = .tup (ks.map tupI) ∧ Ψ (decide (k ∈ ks)) ρ2) (hm : behindInMarks .In b = false := by rfl) : TC X Z (.Compare a [.In] [b] pos) ρ Ψ :=
  tc_op (op_inDT hu) hm (h.mono fun d ρ1 z => z.mono fun d' ρ2 ⟨k, ks, e1, e2, q⟩ => by subst e1; subst e2; exact ⟨_, g_inDT (py_tupI k) (py_rows ks) (shp_row k) (shp_rows ks), by rw [any_tupI]; exact q⟩)
theorem tc_niT (hu : X.A.units + 65 < cLine) (h : EC X Z a ρ fun d ρ1 => EC X Z b ρ1 fun d' ρ2 => ∃ (k : List Int) (ks : List (List Int)), d = tupI k ∧ d' = .tup (ks.map tupI) ∧ Ψ (!decide (k ∈ ks)) ρ2) (hm : behindInMarks .NotIn b = false := by rfl) : TC X Z (.Compare a [.NotIn] [b] pos) ρ Ψ :=
  tc_op (op_notInDT hu) hm (h.mono fun d ρ1 z => z.mono fun d' ρ2 ⟨k, ks, e1, e2, q⟩ => by subst e1; subst e2; exact ⟨_, g_niDT (py_tupI k) (py_rows ks) (shp_row k) (shp_rows ks), by rw [any_tupI]; exact q⟩)
/-- a == b, data of any depth -/
theorem ec_eqD (hu : X.A.units + 64 < cLine) (h : EC X Z a ρ fun d ρ1 => EC X Z b ρ1 fun d' ρ2 => ∃ p q, pyD d = some p ∧ pyD d' = some q ∧ SeqAt.shaped p = true ∧ SeqAt.shaped q = true ∧ Φ (.bl (PyData.eqv p q)) ρ2) (hm : behindInMarks .Eq b = false := by rfl) : EC X Z (.Compare a [.Eq] [b] pos) ρ Φ :=
  ec_cmp (op_eqD hu) hm (h.mono fun d ρ1 z => z.mono fun d' ρ2 ⟨p, q, e1, e2, e3, e4, k⟩ => ⟨_, g_eqD e1 e2 e3 e4, k⟩)
theorem ec_neD (hu : X.A.units + 64 < cLine) (h : EC X Z a ρ fun d ρ1 => EC X Z b ρ1 fun d' ρ2 => ∃ p q, pyD d = some p ∧ pyD d' = some q ∧ SeqAt.shaped p = true ∧ SeqAt.shaped q = true ∧ Φ (.bl (!PyData.eqv p q)) ρ2) (hm : behindInMarks .NotEq b = false := by rfl) : EC X Z (.Compare a [.NotEq] [b] pos) ρ Φ :=
  ec_cmp (op_neD hu) hm (h.mono fun d ρ1 z => z.mono fun d' ρ2 ⟨p, q, e1, e2, e3, e4, k⟩ => ⟨_, g_neD e1 e2 e3 e4, k⟩)
theorem tc_eqD (hu : X.A.units + 64 < cLine) (h : EC X Z a ρ fun d ρ1 => EC X Z b ρ1 fun d' ρ2 => ∃ p q, pyD d = some p ∧ pyD d' = some q ∧ SeqAt.shaped p = true ∧ SeqAt.shaped q = true ∧ Ψ (PyData.eqv p q) ρ2) (hm : behindInMarks .Eq b = false := by rfl) : TC X Z (.Compare a [.Eq] [b] pos) ρ Ψ :=
  tc_op (op_eqD hu) hm (h.mono fun d ρ1 z => z.mono fun d' ρ2 ⟨p, q, e1, e2, e3, e4, k⟩ => ⟨_, g_eqD e1 e2 e3 e4, k⟩)
theorem tc_neD (hu : X.A.units + 64 < cLine) (h : EC X Z a ρ fun d ρ1 => EC X Z b ρ1 fun d' ρ2 => ∃ p q, pyD d = some p ∧ pyD d' = some q ∧ SeqAt.shaped p = true ∧ SeqAt.shaped q = true ∧ Ψ (!PyData.eqv p q) ρ2) (hm : behindInMarks .NotEq b = false := by rfl) : TC X Z (.Compare a [.NotEq] [b] pos) ρ Ψ :=
  tc_op (op_neD hu) hm (h.mono fun d ρ1 z => z.mono fun d' ρ2 ⟨p, q, e1, e2, e3, e4, k⟩ => ⟨_, g_neD e1 e2 e3 e4, k⟩)
end
mutual
theorem eqv_refl : ∀ p : PyData, p.canLay0 = true → PyData.eqv p p = true
  | .none, _ => by rw [PyData.eqv]
  | .bool b, _ => by rw [PyData.eqv]; exact beq_self_eq_true b
  | .int i, _ => by rw [PyData.eqv]; exact beq_self_eq_true i
  | .str x, _ => by rw [PyData.eqv]; exact beq_self_eq_true x
  | .list ps, h => by rw [PyData.eqv]; exact eqvAll_refl ps (by rw [PyData.canLay0] at h; exact h)
  | .tuple ps, h => by rw [PyData.eqv]; exact eqvAll_refl ps (by rw [PyData.canLay0] at h; exact h)
  | .dict _, h => by rw [PyData.canLay0] at h; cases h
theorem eqvAll_refl : ∀ ps : List PyData, PyData.canLayAll0 ps = true → PyData.eqvAll ps ps = true
  | [], _ => by rw [PyData.eqvAll]
  | p :: ps, h => by
    rw [PyData.canLayAll0, Bool.and_eq_true] at h
    rw [PyData.eqvAll, eqv_refl p h.1, eqvAll_refl ps h.2]; rfl
end
end AL
namespace AL
open PySem PySem.Spec PyProof.Rows L2 Evl
section
variable {K : PySem.W.Frag} {B B' G H H' : Hp} {σ σ' : L2.St} {ρ ρ' : En} {i : Nat} {a : Addr} {oo oo' : OO}
theorem rest_of {p : Option Addr} {b : Addr} {w : HO} (h : rest B H p b = some w) : H b = some w ∧ B b = none ∧ some b ≠ p := by
  unfold rest at h
  split at h
  · cases h
  · rename_i h1
    split at h
    · cases h
    · rename_i h2; exact ⟨h, by simpa using h2, h1⟩
theorem rest_is {p : Option Addr} {b : Addr} {w : HO} (h1 : H b = some w) (h2 : B b = none) (h3 : some b ≠ p) : rest B H p b = some w := by
  unfold rest; rw [if_neg h3, if_neg (by simp [h2])]; exact h1
theorem Ok.call1 (o : Ok K B G H σ ρ) (hi : ρ[i]? = some (some (.ow a oo))) {vs : List V} {ds : List D} (r : Reps K B vs ds) : Ok K B (rest B H (some a)) H ((V.ref a :: vs).map some) ((Sl.ow a oo :: ds.map Sl.im).map some) := by
  obtain ⟨h1, h2, h3, u, h4, h5⟩ := o.ow i a oo hi
  have ob := o.call r
  have no : ∀ (j : Nat) (b : Addr) (w : OO), ((Sl.ow a oo :: ds.map Sl.im).map some)[j + 1]? ≠ some (some (Sl.ow b w)) := fun j b w hw => by
    have hw' : ((ds.map Sl.im).map some)[j]? = some (some (Sl.ow b w)) := by simpa using hw
    have hd' := mapq.mp hw'
    rw [List.getElem?_map] at hd'
    cases e : ds[j]? <;> rw [e] at hd' <;> simp at hd'
  refine ⟨⟨o.s.ex, fun b w hw => (rest_of hw).1, fun b w hw => (rest_of hw).2.1, o.s.tp⟩, by simp [r.length], fun j d hd => ?_, fun j b w hw => ?_, fun j k b w w' e1 e2 => ?_⟩
  · cases j with
    | zero => simp at hd
    | succ j => exact ob.im j d (by simpa using hd)
  · cases j with
    | zero =>
      simp at hw
      obtain ⟨rfl, rfl⟩ := hw
      exact ⟨rfl, h2, by unfold rest; rw [if_pos rfl], u, h4, h5⟩
    | succ j => exact absurd hw (no j b w)
  · cases j with
    | zero => cases k with
      | zero => rfl
      | succ k => exact absurd e2 (no k b w')
    | succ j => exact absurd e1 (no j b w)
theorem Ok.behind1s (o : Ok K B G H σ ρ) (hi : ρ[i]? = some (some (.ow a oo))) (s' : St3 B' (rest B H (some a)) H') : St3 B' G H' := by
  obtain ⟨_, _, h3, _⟩ := o.ow i a oo hi
  have old : ∀ b w, G b = some w → H' b = some w ∧ B' b = none := fun b w hw => by
    have hb : b ≠ a := fun z => by subst z; rw [h3] at hw; cases hw
    have h1 := rest_is (p := some a) (o.s.eg b w hw) (o.s.dj b w hw) (by simpa using hb)
    exact ⟨s'.eg b w h1, s'.dj b w h1⟩
  exact ⟨s'.ex, fun b w hw => (old b w hw).1, fun b w hw => (old b w hw).2, s'.tp⟩
theorem Ok.behind1d (o : Ok K B G H σ ρ) (hi : ρ[i]? = some (some (.ow a oo))) (e : Ex B B') (s' : St3 B' (rest B H (some a)) H') : Ok K B' G H' σ (ρ.set i none) := by
  have hl : i < ρ.length := (List.getElem?_eq_some_iff.mp hi).1
  have keep : ∀ {k : Nat} {x : Sl}, (ρ.set i none)[k]? = some (some x) → ρ[k]? = some (some x) ∧ i ≠ k := fun {k x} h => by
    rw [getq_set] at h
    by_cases hik : i = k
    · rw [if_pos ⟨hik, hik ▸ hl⟩] at h; cases h
    · rw [if_neg (fun z => hik z.1), if_neg hik] at h; exact ⟨h, hik⟩
  refine ⟨o.behind1s hi s', by simp [o.len], fun k d hd => ?_, fun k b w hw => ?_, fun k l b w w' e1 e2 => o.ne k l b w w' (keep e1).1 (keep e2).1⟩
  · obtain ⟨v, q1, q2⟩ := o.im k d (keep hd).1
    exact ⟨v, q1, q2.up e⟩
  · obtain ⟨hw', hik⟩ := keep hw
    obtain ⟨q1, q2, q3, x, q4, q5⟩ := o.ow k b w hw'
    have hb : b ≠ a := fun z => by subst z; exact hik (o.ne i k b oo w hi hw')
    have hr := rest_is (p := some a) q4 q2 (by simpa using hb)
    exact ⟨q1, s'.dj b x hr, q3, x, s'.eg b x hr, q5.up e⟩
theorem Ok.behind1 (o : Ok K B G H σ ρ) (hi : ρ[i]? = some (some (.ow a oo))) (e : Ex B B') (o' : Ok K B' (rest B H (some a)) H' σ' ρ') {j : Nat} (hj : ρ'[j]? = some (some (.ow a oo'))) : Ok K B' G H' σ (ρ.set i (some (.ow a oo'))) := by
  obtain ⟨h1, h2, h3, u, h4, h5⟩ := o.ow i a oo hi
  obtain ⟨_, g2, g3, u', g4, g5⟩ := o'.ow j a oo' hj
  have hl : i < ρ.length := (List.getElem?_eq_some_iff.mp hi).1
  refine ⟨o.behind1s hi o'.s, by simp [o.len], fun k d hd => ?_, fun k b w hw => ?_, fun k l b w w' e1 e2 => ?_⟩
  · rw [getq_set] at hd
    by_cases hik : i = k
    · rw [if_pos ⟨hik, hik ▸ hl⟩] at hd; simp at hd
    · rw [if_neg (fun z => hik z.1), if_neg hik] at hd
      obtain ⟨v, q1, q2⟩ := o.im k d hd
      exact ⟨v, q1, q2.up e⟩
  · rw [getq_set] at hw
    by_cases hik : i = k
    · rw [if_pos ⟨hik, hik ▸ hl⟩] at hw
      simp at hw
      obtain ⟨rfl, rfl⟩ := hw
      subst hik
      exact ⟨h1, g2, h3, u', g4, g5⟩
    · rw [if_neg (fun z => hik z.1), if_neg hik] at hw
      obtain ⟨q1, q2, q3, x, q4, q5⟩ := o.ow k b w hw
      have hb : b ≠ a := fun z => by subst z; exact hik (o.ne i k b oo w hi hw)
      have hr := rest_is (p := some a) q4 q2 (by simpa using hb)
      exact ⟨q1, o'.s.dj b x hr, q3, x, o'.s.eg b x hr, q5.up e⟩
  · rw [getq_set] at e1 e2
    by_cases hik : i = k
    · by_cases hil : i = l
      · exact hik.symm.trans hil
      · rw [if_pos ⟨hik, hik ▸ hl⟩] at e1
        rw [if_neg (fun z => hil z.1), if_neg hil] at e2
        simp at e1
        obtain ⟨rfl, rfl⟩ := e1
        exact absurd (o.ne i l a oo w' hi e2) hil
    · rw [if_neg (fun z => hik z.1), if_neg hik] at e1
      by_cases hil : i = l
      · rw [if_pos ⟨hil, hil ▸ hl⟩] at e2
        simp at e2
        obtain ⟨rfl, rfl⟩ := e2
        exact absurd (o.ne i k a oo w hi e1) hik
      · rw [if_neg (fun z => hil z.1), if_neg hil] at e2
        exact o.ne k l b w w' e1 e2
end
/-! ### promises with an owned object ahead -/
/-- one owned object and data in, a datum out -/
def PFo (n : Nat) (S : OO → List D → (D → OO → Prop) → Prop) : Pr := fun as Φ => ∃ a o ds, as = .ow a o :: ds.map Sl.im ∧ ds.length = n ∧ S o ds fun d o' => Φ (.ret (.im d) (.ow a o' :: ds.map Sl.im))
def MonoO (S : OO → List D → (D → OO → Prop) → Prop) : Prop := ∀ o ds Φ Φ', (∀ d o', Φ d o' → Φ' d o') → S o ds Φ → S o ds Φ'
theorem PFo.len {n : Nat} {S : OO → List D → (D → OO → Prop) → Prop} {ps : List Str} (h : ps.length = n + 1) : ∀ as Φ, PFo n S as Φ → as.length = ps.length := fun as Φ ⟨a, o, ds, h1, h2, _⟩ => by rw [h1, h, ← h2]; simp
theorem PFo.mono {n : Nat} {S : OO → List D → (D → OO → Prop) → Prop} (m : MonoO S) : Mono (PFo n S) := fun as Φ Φ' h ⟨a, o, ds, h1, h2, h3⟩ => ⟨a, o, ds, h1, h2, m _ _ _ _ (fun d o' x => h _ x) h3⟩
def envO (n : Nat) (a : Addr) (o : OO) (ds : List D) : En := some (.ow a o) :: envD (n - 1) ds
def OutO (a : Addr) (Ψ : D → OO → Prop) : Outs where
  nx := fun ρ' => ∃ o', ρ'[0]? = some (some (.ow a o')) ∧ Ψ .non o'
  rt := fun r ρ' => match r with
    | .im d => ∃ o', ρ'[0]? = some (some (.ow a o')) ∧ Ψ d o'
    | .fr _ => False
/-- what a caller wants of the outcome, the first argument owned -/
def WantO (R : Addr → List (Str × D) → Prop) (a : Addr) (ds : List D) (Φ : D → OO → Prop) : Oc → Prop
  | .ret (.im d) (.ow a' o' :: as') => a' = a ∧ as' = ds.map Sl.im ∧ Φ d o'
  | .ret _ _ => False
  | .raise C fs => R C fs
section
variable {P : Program} {w : World} {K : PySem.W.Frag} {mg : Str → Option Value} {base : Heap} {x qual : Str} {params : Arguments} {body : List Stmt} {scope : Scope} {f : Addr} {fd : FuncData} {N ps : List Str} {k n : Nat}
theorem cal_fo {S : OO → List D → (D → OO → Prop) → Prop} (F : FunD K x qual params body scope [] [] f fd) (hm : mg x = some (.ref f)) (Sc : FnScope N ps scope) (hn : ps.length = n + 1)
    (hb : ∀ (kV doc pm : Value) (an : Option Addr) (cdv ct : Value) (us : List Value), us.length = ps.length → bindArgs (PySem.W.fnOf x qual params body scope .none kV doc pm an cdv ct) ⟨us, []⟩ = pure (ps.zip us))
    (h : ∀ cdv A outer s H E, Room k (bodyX P w K mg base N qual scope f cdv A outer s H E).A → ∀ a o ds Ψ, ds.length = n → S o ds Ψ → SC (bodyX P w K mg base N qual scope f cdv A outer s H E) Z0 body (envO N.length a o ds) (OutO a Ψ)) :
    Cal P w K mg base x (k + 1) (PFo n S) :=
  ⟨f, fd, ps, def_ok F Sc (PFo.len hn) (fun cdv A outer s H E hr tk as Φ ⟨a, oo, ds, h1, h2, h3⟩ => by
    subst h1
    have es : startE N.length (Sl.ow a oo :: ds.map Sl.im) = envO N.length a oo ds := by
      unfold startE envO envD
      rw [List.map_cons, List.cons_append, List.map_map, List.length_cons, List.length_map]
      have e : N.length - (ds.length + 1) = N.length - 1 - ds.length := by omega
      rw [e]; rfl
    rw [es]
    intro B G H σ Dd o z sv
    have same : ∀ o', SameSl (Sl.ow a oo :: ds.map Sl.im) (Sl.ow a o' :: ds.map Sl.im) := fun o' => .ow (.refl _)
    have rows : ∀ {ρ' : En} {o' : OO}, ρ'[0]? = some (some (Sl.ow a o')) → ∀ (i : Nat) (b : Addr) (q : OO), (Sl.ow a o' :: ds.map Sl.im)[i]? = some (Sl.ow b q) → ρ'[i]? = some (some (Sl.ow b q)) := fun h0 i b q e => by
      cases i with
      | zero => simp at e; obtain ⟨rfl, rfl⟩ := e; exact h0
      | succ i =>
        have e' : (ds.map Sl.im)[i]? = some (Sl.ow b q) := by simpa using e
        rw [List.getElem?_map] at e'
        cases e2 : ds[i]? <;> rw [e2] at e' <;> simp at e'
    refine (h cdv A outer s _ E hr a oo ds _ h2 h3) B G _ σ Dd o RC.none ⟨fun ρ' σ' B' H' ⟨o', h0, hp⟩ => sv.nx ρ' σ' B' H' ⟨_, same o', hp, rows h0⟩, fun r ρ' v σ' B' H' hr => ?_, fun ρ' σ' B' H' a => a.elim, fun ρ' σ' B' H' a => a.elim⟩
    cases r with
    | im d => obtain ⟨o', h0, hp⟩ := hr; exact sv.rt _ ρ' v σ' B' H' ⟨_, same o', hp, rows h0⟩
    | fr oo => exact False.elim hr), hm, F.kp, F.bindsN hb⟩
end
section
variable {X : Cx} {Z : Zx} {e : Expr} {es : List Expr} {ρ : En} {Φ : D → En → Prop} {p pos ps : Pos} {x f : Str} {k n : Nat}
/-- f(x, ..), x an object of one's own -/
theorem ec_co {S : OO → List D → (D → OO → Prop) → Prop} (i : Nat) {a : Addr} {oo : OO} (hd : ρ[i]? = some (some (.ow a oo))) (c : Cal X.prog X.w X.K X.mg X.base f k (PFo n S)) (hr : Room k X.A) (hx : PassW X Z) (mo : MonoO S)
    (h : AC X Z es ρ fun ds ρ1 => ∃ o1, ρ1[i]? = some (some (.ow a o1)) ∧ ds.length = n ∧ S o1 ds fun d o' => Φ d (ρ1.set i (some (.ow a o'))))
    (hg : Gl X f := by rfl) (hdf : (f == ("__debug__" : Str)) = false := by decide) (hN : X.N[i]? = some x := by rfl) (hv : Vis X.env.scope x := by first | exact Or.inl rfl | exact Or.inr (Or.inl rfl) | exact Or.inr (Or.inr rfl)) (hdb : (x == ("__debug__" : Str)) = false := by decide) (hcd : (x == ("__classdict__" : Str)) = false := by decide)
    (he : starEach (.Name x ps :: es) X.env = (false, eval (.Name x ps) X.env) :: starEach es X.env := by rfl) (hpl : (backTo pos (starEach es X.env)).any (·.1) = false := by rfl) : EC X Z (.Call (.Name f p) (.Name x ps :: es) [] pos) ρ Φ := fun B G H σ o z Q q => by
  obtain ⟨fa, fd, pss, F, hm, kp, bd⟩ := c.ex
  obtain ⟨g0, _⟩ := o.ow i a oo hd
  refine (pe_callS (E := fun σ c d H => Z.E c d σ H) F hr hg hm kp bd hx (pa_cons (pe_var hN hv hdb hcd) p_wA he) hdf he hpl).w ?_
  refine ⟨_, g0, h B G H σ o z _ fun ds ρ1 vs B1 H1 ⟨o1, hd1, hl, hS⟩ e1 ok1 r1 => ?_⟩
  refine ⟨B1, rest B1 H1 (some a), Sl.ow a o1 :: ds.map Sl.im, ok1.call1 hd1 r1, PFo.mono mo _ (WantO (fun C fs => Z.R C fs (ρ1.set i none)) a ds fun d o' => Φ d (ρ1.set i (some (.ow a o')))) _ ?_ ⟨a, o1, ds, rfl, hl, mo _ _ _ _ (fun d o' hk => ⟨rfl, rfl, hk⟩) hS⟩⟩
  intro oc hoc
  match oc, hoc with
  | .ret (.im d) (.ow a' o' :: as'), ⟨q1, q2, hk⟩ =>
    subst q1; subst q2
    intro v B' H' e2 ok2 rv
    exact q d _ v B' H' hk (e1.trans e2) (ok1.behind1 hd1 e2 ok2 (j := 0) rfl) rv
  | .raise C fs, hR =>
    intro dd B' H' e2 s3 er
    exact z C fs dd B' H' σ _ hR (e1.trans e2) (ok1.behind1d hd1 e2 s3) er
end
end AL
namespace AL
open PySem PySem.Spec PyProof.Rows L2 Evl
section
variable {K : PySem.W.Frag} {B : Hp}
theorem Reps.dropLast : ∀ {vs : List V} {ds : List D}, Reps K B vs ds → Reps K B vs.dropLast ds.dropLast
  | _, _, .nil => .nil
  | _, _, .cons r .nil => .nil
  | _, _, .cons r (.cons r2 rs) => .cons r (Reps.dropLast (.cons r2 rs))
theorem Reps.snoc {v : V} {d : D} : ∀ {vs : List V} {ds : List D}, Reps K B vs ds → Rep K B v d → Reps K B (vs ++ [v]) (ds ++ [d])
  | _, _, .nil, r => .cons r .nil
  | _, _, .cons r0 rs, r => .cons r0 (Reps.snoc rs r)
theorem Reps.rep {v : V} {d : D} (r : Rep K B v d) : ∀ n : Nat, Reps K B (List.replicate n v) (List.replicate n d)
  | 0 => .nil
  | n + 1 => .cons r (Reps.rep r n)
end
section
variable {X : Cx} {Z : Zx} {e a b : Expr} {ρ : En} {Φ : D → En → Prop} {Θ : OO → En → Prop} {p p1 pos apos ps : Pos} {x : Str} {O : Outs} {sts : List Stmt}
theorem rep_flat {α : Type} (v : α) : ∀ n : Nat, (List.replicate n [v]).flatten = List.replicate n v
  | 0 => rfl
  | n + 1 => by rw [List.replicate_succ, List.flatten_cons, rep_flat v n]; rfl
/-- x.pop() -/
theorem ec_pop (i : Nat) {aq : Addr} {ds : List D} {d : D} (hd : ρ[i]? = some (some (.ow aq (.l (ds ++ [d]))))) (h : Φ d (ρ.set i (some (.ow aq (.l ds)))))
    (hN : X.N[i]? = some x := by rfl) (hv : Vis X.env.scope x := by first | exact Or.inl rfl | exact Or.inr (Or.inl rfl) | exact Or.inr (Or.inr rfl)) (hdb : (x == ("__debug__" : Str)) = false := by decide) (hcd : (x == ("__classdict__" : Str)) = false := by decide)
    (hbase : attributeBase (.Name x ps) "pop" X.env (eval (.Name x ps) X.env) = eval (.Name x ps) X.env := by rfl) (hline : (apos.endLine == p.line) = true := by rfl) : EC X Z (.Call (.Attribute (.Name x ps) "pop" apos) [] [] p) ρ Φ := fun B G H σ o z Q q => by
  obtain ⟨g1, _, _, u, g4, g5⟩ := o.ow i aq _ hd
  cases u with
  | lst vs =>
    have hl := Reps.length g5
    obtain ⟨v, hv0, rv⟩ := Reps.get' g5 (i := ds.length) (d := d) (by simp)
    have e1 : vs[vs.length - 1]? = some v := by rw [hl]; simpa using hv0
    have hdl := Reps.dropLast g5
    rw [List.dropLast_concat] at hdl
    refine (pe_bm0 PySem.F.plainAttrs_list PySem.F.slot_list_pop PySem.F.type_list_pop mt_pop (pe_var hN hv hdb hcd) hbase hline).w ⟨_, g1, .inl ⟨rfl, vs, sq_of g4⟩, aq, vs, v, rfl, rfl, g4, e1, ?_⟩
    exact q d _ v B _ h (Ex.refl B) (o.upd_ow (u' := .lst vs.dropLast) (o' := .l ds) hd hdl) rv
  | _ => exact False.elim g5
/-- x.reverse() -/
theorem sc_rev (i : Nat) {aq : Addr} {ds : List D} (hd : ρ[i]? = some (some (.ow aq (.l ds)))) (h : SC X Z sts (ρ.set i (some (.ow aq (.l ds.reverse)))) O)
    (hN : X.N[i]? = some x := by rfl) (hv : Vis X.env.scope x := by first | exact Or.inl rfl | exact Or.inr (Or.inl rfl) | exact Or.inr (Or.inr rfl)) (hdb : (x == ("__debug__" : Str)) = false := by decide) (hcd : (x == ("__classdict__" : Str)) = false := by decide)
    (hbase : attributeBase (.Name x ps) "reverse" X.env (eval (.Name x ps) X.env) = eval (.Name x ps) X.env := by rfl) (hline : (apos.endLine == p.line) = true := by rfl)
    (hs : swapsWith (.Call (.Attribute (.Name x ps) "reverse" apos) [] [] p) none pos.line X.env = pure false := by rfl) : SC X Z (.Expr (.Call (.Attribute (.Name x ps) "reverse" apos) [] [] p) pos :: sts) ρ O :=
  sc_of (ps_expr (pe_bm0 PySem.F.plainAttrs_list PySem.F.slot_list_reverse PySem.F.type_list_reverse mt_reverse (pe_var hN hv hdb hcd) hbase hline) hs) fun B G H σ Dd o z s => by
    obtain ⟨g1, _, _, u, g4, g5⟩ := o.ow i aq _ hd
    cases u with
    | lst vs => exact ⟨_, g1, .inl ⟨rfl, vs, sq_of g4⟩, aq, vs, rfl, rfl, g4, h.go (o.upd_ow (u' := .lst vs.reverse) (o' := .l ds.reverse) hd (Reps.rev g5)) z s (Ex.refl B)⟩
    | _ => exact False.elim g5
/-- x[a] = e -/
theorem sc_lput (i : Nat) {aq : Addr} {o0 : OO} (hd : ρ[i]? = some (some (.ow aq o0))) (h : EC X Z e ρ fun d ρ1 => EC X Z a ρ1 fun d' ρ2 => ∃ ds n j, ρ2[i]? = some (some (.ow aq (.l ds))) ∧ d' = .int n ∧ ixN ds.length n = some j ∧ SC X Z sts (ρ2.set i (some (.ow aq (.l (ds.set j d))))) O)
    (hN : X.N[i]? = some x := by rfl) (hv : Vis X.env.scope x := by first | exact Or.inl rfl | exact Or.inr (Or.inl rfl) | exact Or.inr (Or.inr rfl)) (hdb : (x == ("__debug__" : Str)) = false := by decide) (hcd : (x == ("__classdict__" : Str)) = false := by decide)
    (hs : swapsWithSole [.Subscript (.Name x ps) a p1] e pos.line X.env = pure false := by rfl) (hw : swappedStores [.Subscript (.Name x ps) a p1] e X.env = pure none := by rfl)
    (h1 : (assignEach [.Subscript (.Name x ps) a p1] X.env).map (·.2) = [assign (.Subscript (.Name x ps) a p1) X.env] := by rfl)
    (ha : ∀ v, assign (.Subscript (.Name x ps) a p1) X.env v = (do
      let ov ← holding [v] (eval (.Name x ps) X.env)
      let iv ← holding [v, ov] (eval a X.env)
      standAt p1
      holding [v, ov, iv] (setItem ov iv v)
      release [v, ov, iv] []) := by intro _; rfl) : SC X Z (.Assign [.Subscript (.Name x ps) a p1] e pos :: sts) ρ O :=
  sc_of (ps_asg p_wE (pg_sub (pe_var hN hv hdb hcd) p_wE set_list (ha := ha)) hs hw h1) fun B G H σ Dd o z s => h B G H σ o z _ fun d ρ1 v B1 H1 h2 e1 o1 r1 => by
    obtain ⟨g0, _⟩ := o.ow i aq _ hd
    refine ⟨_, g0, h2 B1 G H1 σ o1 (z.up e1) _ fun d' ρ2 y B2 H2 ⟨ds, n, j, hd2, hj, hx, h3⟩ e2 o2 r2 => ?_⟩
    subst hj
    cases r2
    obtain ⟨_, _, _, u, g4, g5⟩ := o2.ow i aq _ hd2
    cases u with
    | lst vs =>
      refine ⟨aq, vs, n, j, rfl, rfl, g4, by rw [Reps.length g5]; exact hx, ?_⟩
      exact h3.go (o2.upd_ow (u' := .lst (vs.set j v)) (o' := .l (ds.set j d)) hd2 (Reps.set j g5 (r1.up e2))) z s (e1.trans e2)
    | _ => exact False.elim g5
/-- [e] * n -/
theorem fc_rep (h : EC X Z e ρ fun d ρ1 => EC X Z b ρ1 fun d' ρ2 => ∃ n : Nat, d' = .int n ∧ n ≤ 50000 ∧ Θ (.l (List.replicate n d)) ρ2)
    (he : starEach [e] X.env = (false, eval e X.env) :: starEach [] X.env := by rfl) : FC X Z (.BinOp (.List [e] p) .Mult b pos) ρ Θ := fun B G H σ o z Q q => by
  refine (pe_op op_rep (pe_lst (pa_cons p_wE pa_nil he)) p_wE).w ?_
  refine h B G H σ o z _ fun d ρ1 v B1 H1 h1 e1 o1 r1 => ?_
  refine ⟨by show 1 ≤ sizeLine; decide, fun t ht => ?_⟩
  obtain ⟨e2, o2⟩ := o1.grow (u := .lst [v]) ht
  refine h1 _ G _ σ o2 (z.up (e1.trans e2)) _ fun d' ρ2 y B2 H2 ⟨n, hn, hl, hk⟩ e3 o3 r3 => ?_
  subst hn
  cases r3
  have hA : H2 t = some (.lst [v]) := o3.s.ex _ _ (e3 _ _ upd_same)
  refine ⟨t, (n : Int), [v], rfl, rfl, hA, by omega, by omega, ?_, fun q' hq' => ?_⟩
  · show 1 * ((n : Int).toNat) ≤ sizeLine
    rw [Int.toNat_natCast, sizeLine_eq]; omega
  · have er : (List.replicate (n : Int).toNat [v]).flatten = List.replicate n v := by
      rw [Int.toNat_natCast]; exact rep_flat v n
    rw [er]
    obtain ⟨o4, hb, hg, hn⟩ := o3.fresh (u := .lst (List.replicate n v)) hq'
    exact q _ ρ2 q' _ _ _ hk ((e1.trans e2).trans e3) o4 hb hg upd_same hn (Reps.rep (((r1.up e2).up e3)) n)
end
end AL
/-! isinstance of a caught error of an own class that has fields of its own -/
namespace PySem.W
open PySem PySem.Spec PySem.Calls PyProof.Rows
/-- what the class says -/
structure ExD (K : Frag) (D : Addr) : Prop where
  all : L2.ExcC K D
theorem cls_found {K : Frag} {D : Addr} (T : L2.ExcC K D) (od : Option Obj) : findObj K D od "__class__" = some (.bind (.builtin "getset_descriptor.__get__") (.builtin "object.__class__")) := by
  have some_ : (clsIn K D).isSome = true := by
    obtain ⟨cd, hc, _⟩ := any_some T.hd
    rw [hc]; rfl
  obtain ⟨cd, hc⟩ := Option.isSome_iff_exists.mp some_
  show ((clsIn K D).bind _) = _
  rw [hc]
  show ((findIn K (.ref D) "__class__").bind _) = _
  rw [T.ha]
  simp only [Option.bind_some, T.hn, T.ht]
section
variable {prog : Program} {w : World} {A : Around} {E : Value → Shared → Prop} {s : Shared} {K : Frag} {x D : Addr} {ox : Obj} {od : Option Obj}
theorem cls_asked {Q : Option Value → Shared → Prop} (T : L2.ExcC K D) (X : K.In s.heap) (I : InstAt s.heap x ox D od) (h : Q (some (.ref D)) { s with toks := s.toks + 1 }) : wpAny (model prog w) A (getAttr? (.ref x) "__class__") Q E s := by
  obtain ⟨hp, g, d, t, os⟩ := s
  have look := looks_find (M := model prog w) X I (cls_found T od)
  have ty := I.type (M := model prog w)
  have isB : Looks (model prog w) hp (isInstance (.ref x) (.type "BaseException")) true := ty.andThen (looks_subIn X T.hs)
  have n0 : (Value.builtin "BaseException.__getattribute__" == Value.builtin "object.__getattribute__") = false := by decide +kernel
  have n1 : (false && onTheHeap (Value.builtin "BaseException.__getattribute__")) = false := rfl
  have n2 : (onTheHeap (Value.ref D) && Value.builtin "BaseException.__getattribute__" == Value.builtin "object.__getattribute__") = false := by rw [n0]; rfl
  unfold getAttr? getAttrBy? getAttrBy
  refine wpAny_bind (wpAny_mkText (wpAny_bind (wpAny_attempt (wpAny_holding (wpAny_bind (ty.at (wpAny_bind ((looks_findIn (M := model prog w) X T.hg).at ?_))))))))
  show wpAny _ _ (if (onTheHeap (Value.ref D) && Value.builtin "BaseException.__getattribute__" == Value.builtin "object.__getattribute__") = true then _ else _) _ _ _
  rw [n2]
  rw [if_neg Bool.false_ne_true]; unfold getAttrByItsOwn hookBefore
  refine wpAny_bind ?_
  rw [if_pos (by rfl : onTheHeap (Value.ref D) = true)]
  refine (looks_findIn (M := model prog w) X T.hk).at (wpAny_bind (wpAny_attempt (wpAny_holding ?_)))
  unfold callGetattribute
  rw [n1]
  rw [if_neg Bool.false_ne_true]; unfold boundAndCalled
  rw [PySem.F.excAttr_ValueError.ga.bind (.ref x)]
  refine wpAny_bind (wpAny_pure ?_)
  show wpAny _ _ (call (.builtin "BaseException.__getattribute__") [.ref x, .str "__class__" t]) _ _ _
  refine wpAny_call (codeAny_call_builtin PySem.F.excAttr_ValueError.ga.plain PySem.F.entry_bexc_ga (@check_slot (model prog w) _ _ ⟨hp, g, d, t + 1, os⟩ "BaseException.__getattribute__" "BaseException" "__getattribute__" (.ref x) [.str "__class__" t] [] _ (by decide +kernel) (by decide +kernel) isB (PySem.F.args_bexc_ga (.ref x) (.str "__class__" t)) ?_))
  unfold Builtin.«object.__getattribute__»
  have sl : slotArgs "__getattribute__" 1 ⟨[.ref x, .str "__class__" t], []⟩ = pure ((Value.ref x : Value), [Value.str "__class__" t]) := by first | rfl | (simp only [slotArgs]; rfl)
  refine wpAny_bind (wpAny_of_eq sl ?_)
  refine wpAny_bind (wpAny_pure (wpAny_bind (ty.at (wpAny_bind (look.at ?_)))))
  show wpAny _ _ (holding [Value.builtin "object.__class__"] (call (.builtin "getset_descriptor.__get__") [.builtin "object.__class__", .ref x, .ref D]) >>= ret) _ _ _
  refine wpAny_bind (wpAny_holding (wpAny_call (class_get (s := ⟨hp, g, d, t + 1, os⟩) (ox := ox) (od := od) X I T.hm (wpAny_pure ?_))))
  show wpAny _ _ (handedOut (.ref D)) _ _ _
  rw [handedOut_of (v := .ref D) rfl]
  first | exact wpAny_pure (wpAny_pure h) | exact wpAny_pure h | exact wpAny_pure (wpAny_bind (wpAny_pure (wpAny_pure h)))
theorem kitx_err (T : L2.ExcC K D) : KitX K (.ref x) (.ref D) (fun h => ∃ od, InstAt h x ox D od) where
  ty := fun _ _ _ ⟨_, I⟩ => I.type
  it := fun _ _ X _ A' Q' E' s' k q => by
    obtain ⟨cd, hc, _⟩ := any_some T.hd
    unfold clsIn at hc
    split at hc
    · rename_i c' d' cd' sl' ho
      unfold isType loadHead
      exact wpAny_bind (wpAny_loadPart (k _ _ (X _ _ ho)) (wpAny_pure q))
    · cases hc
  ne := fun h tp dd its n sl X htp => by
    obtain ⟨cd, hc, _⟩ := any_some T.hd
    unfold clsIn at hc
    split at hc
    · rename_i c' d' cd' sl' ho
      cases z : (Value.ref D == Value.ref tp) with
      | false => rfl
      | true =>
        have e : D = tp := Value.ref.inj (beq_iff_eq.mp z)
        subst e
        have y := (X _ _ ho).symm.trans htp
        cases y
    · cases hc
  ca := fun X ⟨_, I⟩ k => cls_asked T X I k
end
end PySem.W
namespace L2
open PySem PySem.Spec PyProof.Rows
theorem call_isEd {X : Cx} {a D : Addr} {oe : Obj} {d : Option Addr} {pn : List (Addr × Obj)} (C : ExcC X.K D) (hz : Zc (.ref D) d oe) (hf : ∃ vs, oe.data = .fields vs) :
    CallR (X.suite a ((a, oe) :: pn)) (.builtin "isinstance") (fun xs H Q => (∀ dx, d = some dx → ∃ fs, H dx = some (.xd fs)) ∧ rIsE X.K D a xs H Q) := by
  intro pins s σ H xs us Q I r ⟨hx, c, cv, b, e0, hcv, e, q⟩
  subst e0
  cases r with
  | cons rx rr => cases rr with
    | cons rt rr =>
      cases rr; cases rx
      have ec := hcv _ rt
      subst ec
      obtain ⟨hget, _⟩ := I.pin (a, oe) (List.mem_append_left _ List.mem_cons_self)
      obtain ⟨vs, hv⟩ := hf
      have nc : PySem.W.notCls oe = true := by unfold PySem.W.notCls; rw [hv]
      have J : ∃ od, PySem.W.InstAt s.heap a oe D od := by
        cases hd : d with
        | none => exact ⟨none, hget, hz.1, nc, by rw [hz.2, hd]; trivial⟩
        | some dx =>
          obtain ⟨fs, hfs⟩ := hx dx hd
          obtain ⟨mA, hns, _⟩ := (show ObjOk X.prog X.w H s.heap dx (.xd fs) from I.hok dx _ hfs)
          obtain ⟨od, ho, _⟩ := lookIn_ns hns
          exact ⟨some od, hget, hz.1, nc, by rw [hz.2, hd]; exact ho⟩
      exact PySem.W.kia_one (PySem.W.kitx_err C) I.kIn J e (fun z => nomatch z) fun tk => ⟨.bl b, H, I.kept (t' := tk) fun _ _ z => z, rfl, q⟩
end L2
namespace AL
open PySem PySem.Spec PyProof.Rows L2 Evl
section
variable {X : Cx} {Z : Zx} {body suite sts : List Stmt} {b0 : Stmt} {ρ : En} {O : Outs} {np pos pos' : Pos} {x n : Str} {C : Addr}
theorem takes_0 : Takes X Z0.E := fun u s' xx => by
  obtain ⟨_, _, _, _, _, _, _, _, _, _, _, _, _, _, _, _, w⟩ := xx
  exact w.elim
/-- try: body, except C as n: suite -/
theorem sc_try (i : Nat) (R : Addr → List (Str × D) → En → Prop) (hs : X.stack = X.env :: X.outer) (hf : X.env.frame = some X.env.locals) (hN : X.N.Nodup) (hi : X.N[i]? = some n) (hln : X.env.kindOf n = some .local) (hc : Names X x (.ref C)) (tk : Takes X Z.E)
    (hb : ∀ (E : WX) (pn : List (Addr × Obj)) (xe : Value → Shared → Prop), Takes (X.tr pn xe) E → SC (X.tr pn xe) ⟨E, R⟩ body ρ { O with nx := fun ρ' => SC X Z sts ρ' O })
    (hR : ∀ Ce fs ρ', R Ce fs ρ' → ∃ b, PySem.W.exmOne X.K (.ref Ce) (.ref C) = some b ∧ (b = false → Z.R Ce fs ρ') ∧ (b = true → ∀ a d oe pn, Zc (.ref Ce) d oe → (∃ vs, oe.data = .fields vs) →
      SC (X.suite a ((a, oe) :: pn)) Z0 (b0 :: suite) (ρ'.set i (some (.im (.exc a d fs)))) { nx := fun ρ'' => SC X Z sts (ρ''.set i none) O, rt := O.rt, bk := fun ρ'' => O.bk (ρ''.set i none), ct := fun ρ'' => O.ct (ρ''.set i none) })) :
    SC X Z (.Try body [.ExceptHandler (some (.Name x np)) (some n) (b0 :: suite) pos'] [] [] pos :: sts) ρ O := by
  refine sc_of (ps_try_as (Wout := Z.E) (tb := fun W D σ H => ∀ pn xe, Takes (X.tr pn xe) W → wSs (X.tr pn xe) body D σ H)
    (ts := fun a cls d D σ H => ∀ oe pn, Zc cls d oe → (∃ vs, oe.data = .fields vs) → wSs (X.suite a ((a, oe) :: pn)) (b0 :: suite) D σ H) hs hf hN hi hln hc tk
    (fun W pn xe tk _ => ⟨fun pins s σ H D I h => h pn xe tk pins s I⟩) (fun a oe cls d pn hz hv => ⟨fun pins s σ H D I h => h oe pn hz hv pins s I⟩)) ?_
  · intro B G H σ Dd o z sv pn xe tk
    refine hb _ pn xe tk B G H σ _ o ?_ ⟨fun ρ' σ' B' H' h e ok => h.go ok z sv e, sv.rt, sv.bk, sv.ct⟩
    intro Ce fs dd B' H' σ' ρ' hr e ok er
    obtain ⟨b, hm, hno, hsu⟩ := hR Ce fs ρ' hr
    refine ⟨b, hm, fun hb a ha oe pn' hz hv => ?_, fun hb => z Ce fs dd B' H' σ' ρ' (hno hb) e ok er⟩
    refine hsu hb a dd oe pn' hz hv B' G H' _ _ (ok.set_im (v := .ref a) ?_) RC.none ⟨fun ρ'' σ'' B2 H2 h e2 o2 => ?_, fun r ρ'' v σ'' B2 H2 h e2 o2 rv => sv.rt r ρ'' v σ'' B2 H2 h (e.trans e2) o2 rv, fun ρ'' σ'' B2 H2 h e2 o2 => ?_, fun ρ'' σ'' B2 H2 h e2 o2 => ?_⟩
    · unfold ErR at er
      split at er
      · subst er; exact .exc0
      · obtain ⟨q, vs, rfl, hq, rf⟩ := er
        exact .exc (ok.s.tp _ _ hq rfl) rf
    · exact h.go (o2.drop (i := i) (x := none)) z sv (e.trans e2)
    · exact sv.bk _ _ B2 H2 h (e.trans e2) (o2.drop (i := i) (x := none))
    · exact sv.ct _ _ B2 H2 h (e.trans e2) (o2.drop (i := i) (x := none))
end
/-! ### in an except suite -/
section
variable {X : Cx} {Z : Zx} {e : Expr} {ρ : En} {Φ : D → En → Prop} {p p1 pos : Pos} {x f tn : Str} {a C T : Addr} {d : Option Addr} {oe : Obj} {pn : List (Addr × Obj)}
/-- error.f -/
theorem ec_excf (i : Nat) {fs : List (Str × D)} {r : D} (hd : ρ[i]? = some (some (.im (.exc a d fs)))) (T : XfC X.K C) (hno : PySem.W.findIn X.K (.ref C) f = some none) (hz : Zc (.ref C) d oe) (hf : ∃ vs, oe.data = .fields vs) (hl : fs.lookup f = some r) (h : Φ r ρ)
    (hN : X.N[i]? = some x := by rfl) (hv : Vis X.env.scope x := by first | exact Or.inl rfl | exact Or.inr (Or.inl rfl) | exact Or.inr (Or.inr rfl)) (hdb : (x == ("__debug__" : Str)) = false := by decide) (hcd : (x == ("__classdict__" : Str)) = false := by decide)
    (hb : attributeBase (.Name x p) f X.env (eval (.Name x p) X.env) = eval (.Name x p) X.env := by rfl) : EC (X.suite a ((a, oe) :: pn)) Z (.Attribute (.Name x p) f pos) ρ Φ := fun B G H σ o z Q q => by
  obtain ⟨v, h1, h2⟩ := o.im i _ hd
  refine (pe_xf (X := X) T hno hz hf (pe_var (X := X.suite a ((a, oe) :: pn)) (x := x) (i := i) hN hv hdb hcd) hb).w ⟨v, h1, ?_⟩
  cases h2 with
  | exc0 => cases hl
  | @exc _ dx vs gs hx rf =>
    obtain ⟨w, hw, rw_⟩ := rf.lookup hl
    exact ⟨rfl, rfl, dx, vs, w, rfl, o.s.ex _ _ hx, hw, q r ρ w B H h (Ex.refl B) o rw_⟩
/-- isinstance(error, T), T a class of the program -/
theorem ec_exis (i : Nat) {fs : List (Str × D)} {b : Bool} (hd : ρ[i]? = some (some (.im (.exc a d fs)))) (C0 : ExcC X.K C) (hz : Zc (.ref C) d oe) (hf : ∃ vs, oe.data = .fields vs) (hk : PySem.W.kitOne X.K (.ref C) (.ref T) = some b) (h : Φ (.bl b) ρ)
    (hm : X.mg "isinstance" = none) (hm2 : X.mg tn = some (.ref T)) (hg : Gl X "isinstance" := by rfl) (hg2 : Gl X tn := by rfl)
    (hN : X.N[i]? = some x := by rfl) (hv : Vis X.env.scope x := by first | exact Or.inl rfl | exact Or.inr (Or.inl rfl) | exact Or.inr (Or.inr rfl)) (hdb : (x == ("__debug__" : Str)) = false := by decide) (hcd : (x == ("__classdict__" : Str)) = false := by decide) (hdt : (tn == ("__debug__" : Str)) = false := by decide)
    {p0 : Pos} (hs1 : starEach [.Name x p, .Name tn p1] X.env = (false, eval (.Name x p) X.env) :: starEach [.Name tn p1] X.env := by rfl) (hs2 : starEach [.Name tn p1] X.env = (false, eval (.Name tn p1) X.env) :: starEach [] X.env := by rfl)
    (hpl : (backTo pos (starEach [.Name tn p1] X.env)).any (·.1) = false := by rfl) : EC (X.suite a ((a, oe) :: pn)) Z (.Call (.Name "isinstance" p0) [.Name x p, .Name tn p1] [] pos) ρ Φ := fun B G H σ o z Q q => by
  obtain ⟨v, h1, h2⟩ := o.im i _ hd
  have ev : v = .ref a := by cases h2 <;> rfl
  refine (pe_callB (X := X.suite a ((a, oe) :: pn)) (call_isEd (X := X) C0 hz hf) hg hm (by rfl) (pa_cons (X := X.suite a ((a, oe) :: pn)) (pe_var (X := X.suite a ((a, oe) :: pn)) (x := x) (i := i) hN hv hdb hcd) (pa_cons (X := X.suite a ((a, oe) :: pn)) (pe_glob (X := X.suite a ((a, oe) :: pn)) (v := .ref T) (u := .ref T) hg2 hm2 rfl hdt) pa_nil hs2) hs1) (he := hs1) (hpl := hpl)).w ⟨v, h1, ?_⟩
  refine ⟨fun dx hdx => ?_, .ref T, .ref T, b, by rw [ev], fun u hu => hu, hk, q _ ρ _ B H h (Ex.refl B) o (.bl b)⟩
  subst hdx
  cases h2 with
  | @exc _ _ vs gs hx rf => exact ⟨vs, o.s.ex _ _ hx⟩
end
end AL
namespace AL
open PySem PySem.Spec PyProof.Rows L2 Evl
/-! ### methods and __init__s of the program -/
/-- an __init__: data in, fields out -/
def PFi (n : Nat) (C : Addr) (S : List D → (List (Str × D) → Prop) → Er → Prop) : Pr := fun as Φ => ∃ a ds, as = .ow a (.ob C []) :: ds.map Sl.im ∧ ds.length = n ∧ S ds (fun fs => Φ (.ret (.im .non) (.ow a (.ob C fs) :: ds.map Sl.im))) fun C fs => Φ (.raise C fs)
def MonoI (S : List D → (List (Str × D) → Prop) → Er → Prop) : Prop := ∀ ds Φ Φ' Ψ Ψ', (∀ d, Φ d → Φ' d) → (∀ C fs, Ψ C fs → Ψ' C fs) → S ds Φ Ψ → S ds Φ' Ψ'
theorem PFi.len {n : Nat} {C : Addr} {S : List D → (List (Str × D) → Prop) → Er → Prop} {ps : List Str} (h : ps.length = n + 1) : ∀ as Φ, PFi n C S as Φ → as.length = ps.length := fun as Φ ⟨a, ds, h1, h2, _⟩ => by rw [h1, h, ← h2]; simp
theorem PFi.mono {n : Nat} {C : Addr} {S : List D → (List (Str × D) → Prop) → Er → Prop} (m : MonoI S) : Mono (PFi n C S) := fun as Φ Φ' h ⟨a, ds, h1, h2, h3⟩ => ⟨a, ds, h1, h2, m _ _ _ _ _ (fun d x => h _ x) (fun C fs x => h _ x) h3⟩
def OutI (a C : Addr) (Ψ : List (Str × D) → Prop) : Outs where
  nx := fun ρ' => ∃ fs, ρ'[0]? = some (some (.ow a (.ob C fs))) ∧ Ψ fs
  rt := fun _ _ => False
section
variable {P : Program} {w : World} {K : PySem.W.Frag} {mg : Str → Option Value} {base : Heap} {x nm qual m : Str} {params : Arguments} {body : List Stmt} {scope : Scope} {dvs : List V} {f C : Addr} {fd : FuncData} {N ps : List Str} {k n : Nat}
theorem startE_ow {n : Nat} {a : Addr} {oo : OO} {ds : List D} : startE n (Sl.ow a oo :: ds.map Sl.im) = envO n a oo ds := by
  unfold startE envO envD
  rw [List.map_cons, List.cons_append, List.map_map, List.length_cons, List.length_map]
  have e : n - (ds.length + 1) = n - 1 - ds.length := by omega
  rw [e]; rfl
theorem ow_rows {ds : List D} {a : Addr} {o' : OO} {ρ' : En} (h0 : ρ'[0]? = some (some (Sl.ow a o'))) : ∀ (i : Nat) (b : Addr) (q : OO), (Sl.ow a o' :: ds.map Sl.im)[i]? = some (Sl.ow b q) → ρ'[i]? = some (some (Sl.ow b q)) := fun i b q e => by
  cases i with
  | zero => simp at e; obtain ⟨rfl, rfl⟩ := e; exact h0
  | succ i =>
    have e' : (ds.map Sl.im)[i]? = some (Sl.ow b q) := by simpa using e
    rw [List.getElem?_map] at e'
    cases e2 : ds[i]? <;> rw [e2] at e' <;> simp at e'
theorem cal_init {S : List D → (List (Str × D) → Prop) → Er → Prop} (F : FunD K nm qual params body scope dvs [] f fd) (mk : Mk K C f) (hm : mg x = some (.ref C)) (Sc : FnScope N ps scope) (hn : ps.length = n + 1) (hb : Binds K fd ps [])
    (h : ∀ cdv A outer s H E, Room k (bodyX P w K mg base N qual scope f cdv A outer s H E).A → Takes (bodyX P w K mg base N qual scope f cdv A outer s H E) (fun cls d _ H' => E cls d H') → ∀ a ds Ψ Er, ds.length = n → S ds Ψ Er →
      SC (bodyX P w K mg base N qual scope f cdv A outer s H E) (Zf E Er) body (envO N.length a (.ob C []) ds) (OutI a C Ψ)) : CalC P w K mg base x C (k + 1) (PFi n C S) :=
  ⟨f, fd, ps, def_ok F Sc (PFi.len hn) (fun cdv A outer s H E hr tk as Φ ⟨a, ds, h1, h2, h3⟩ => by
    subst h1
    rw [startE_ow]
    intro B G H σ Dd o z sv
    refine (h cdv A outer s _ E hr tk a ds _ _ h2 h3) B G _ σ Dd o z ⟨fun ρ' σ' B' H' ⟨fs, h0, hp⟩ => sv.nx ρ' σ' B' H' ⟨_, .ow (.refl _), hp, ow_rows h0⟩, fun r ρ' v σ' B' H' a => a.elim, fun ρ' σ' B' H' a => a.elim, fun ρ' σ' B' H' a => a.elim⟩), mk, hb, hm⟩
/-- a method that raises nothing here -/
theorem cal_m {S : List D → (D → Prop) → Prop} (F : FunD K nm qual params body scope dvs [] f fd) (mt : Meth K C m f) (Sc : FnScope N ps scope) (hn : ps.length = n) (hb : Binds K fd ps [])
    (h : ∀ cdv A outer s H E, Room k (bodyX P w K mg base N qual scope f cdv A outer s H E).A → ∀ ds Ψ, ds.length = n → S ds Ψ → SC (bodyX P w K mg base N qual scope f cdv A outer s H E) Z0 body (envD N.length ds) (OutP Ψ)) :
    CalM P w K mg base C m (k + 1) (PFn n S) :=
  ⟨f, fd, ps, def_ok F Sc (PFn.len hn) (fun cdv A outer s H E hr tk as Φ ⟨ds, h1, h2, h3⟩ => by
    subst h1
    rw [startE_im]
    intro B G H σ Dd o z sv
    refine (h cdv A outer s _ E hr ds _ h2 h3) B G _ σ Dd o RC.none ⟨fun ρ' σ' B' H' a => sv.nx ρ' σ' B' H' ⟨ds.map Sl.im, .refl _, a, im_out⟩, fun r ρ' v σ' B' H' a => ?_, fun ρ' σ' B' H' a => a.elim, fun ρ' σ' B' H' a => a.elim⟩
    cases r with
    | im d => exact sv.rt _ ρ' v σ' B' H' ⟨ds.map Sl.im, .refl _, a, im_out⟩
    | fr oo => exact False.elim a), mt, hb⟩
end
section
variable {X : Cx} {Z : Zx} {e o b : Expr} {es : List Expr} {ρ : En} {Φ : D → En → Prop} {p pos apos : Pos} {x m : Str} {k n : Nat} {C : Addr}
/-- C(e, ..) -/
theorem ec_mk {S : List D → (List (Str × D) → Prop) → Er → Prop} (c : CalC X.prog X.w X.K X.mg X.base x C k (PFi n C S)) (hr : Room (k + 1) X.A) (hx : PassW X Z) (mo : MonoI S)
    (h : AC X Z (e :: es) ρ fun ds ρ1 => ds.length = n ∧ S ds (fun fs => Φ (.obj C fs) ρ1) fun C fs => Z.R C fs ρ1)
    (hg : Gl X x := by rfl) (hdb : (x == ("__debug__" : Str)) = false := by decide) (he : starEach (e :: es) X.env = (false, eval e X.env) :: starEach es X.env := by rfl) (hpl : (backTo pos (starEach es X.env)).any (·.1) = false := by rfl) : EC X Z (.Call (.Name x p) (e :: es) [] pos) ρ Φ :=
  ec_make c hr hx (PFi.mono mo) (h.mono fun ds ρ1 ⟨hl, hd⟩ a => ⟨a, ds, rfl, hl, mo _ _ _ _ _ (fun fs hk => ⟨rfl, rfl, rfl, hk⟩) (fun C fs x => x) hd⟩) hg hdb he hpl
/-- o.m(e, ..), a method that raises nothing here -/
theorem ec_mf {pl : Sem Bool} {S : List D → (D → Prop) → Prop} (cl : Cls X.K C) (c : CalM X.prog X.w X.K X.mg X.base C m k (PFn n S)) (hr : Room k X.A) (hx : PassW X Z) (mo : MonoF S)
    (h : EC X Z o ρ fun d0 ρ0 => ∃ gs, d0 = .obj C gs ∧ gs.lookup m = none ∧ AC X Z (e :: es) ρ0 fun ds ρ1 => (d0 :: ds).length = n ∧ S (d0 :: ds) fun d => Φ d ρ1)
    (hst : starEach (e :: es) X.env = (false, eval e X.env) :: starEach es X.env := by rfl) (hpl : (backTo pos (starEach es X.env)).any (·.1) = false := by rfl)
    (ht : eval (.Call (.Attribute o m apos) (e :: es) [] pos) X.env = (do
      let ov ← eval o X.env
      standAt apos.atName
      let (f, first) ← holding [ov] (getMethod ov m pl)
      callWith pos f first (backTo pos (starEach (e :: es) X.env)) (backToKw pos (keywordEach [] X.env))) := by rfl) : EC X Z (.Call (.Attribute o m apos) (e :: es) [] pos) ρ Φ :=
  ec_meth cl c hr hx (PFn.mono mo) (h.mono fun d0 ρ0 ⟨gs, h1, h2, h3⟩ => ⟨gs, h1, h2, h3.mono fun ds ρ1 ⟨hl, hd⟩ => ⟨d0 :: ds, rfl, hl, mo _ _ _ (fun d hk => ⟨rfl, hk⟩) hd⟩⟩) hst hpl ht
end
end AL
namespace AL
open PySem PySem.Spec PyProof.Rows L2 Evl
/-- what isinstance asks of the class of an instance -/
structure IsC (K : PySem.W.Frag) (C : Addr) : Prop where
  cl : Cls K C
  ha : PySem.W.findIn K (.ref C) "__class__" = some (some (.builtin "object.__class__"))
  hn : PySem.W.specialIn K (.builtin "object.__class__") "__get__" = some (some (.builtin "getset_descriptor.__get__"))
  ht : PySem.W.takesIn K (.builtin "object.__class__") = some true
  hm : PySem.W.mroIn K C (.type "object") = some true
section
variable {X : Cx} {Z : Zx} {e : Expr} {ρ : En} {Φ : D → En → Prop} {p p1 pos : Pos} {tn : Str} {T : Addr}
theorem ty_obj {K : PySem.W.Frag} {B G H : Hp} {v : V} {C : Addr} {gs : List (Str × D)} (s : St3 B G H) (r : Rep K B v (.obj C gs)) (c : IsC K C) : TyX K H v (.ref C) := by
  cases r with
  | obj h _ => exact .base (.ins (s.ex _ _ h) c.cl c.ha c.hn c.ht c.hm)
/-- isinstance(e, T), T a class of the program, e an instance -/
theorem ec_isiO (h : EC X Z e ρ fun d ρ1 => ∃ C gs b, d = .obj C gs ∧ IsC X.K C ∧ PySem.W.kitOne X.K (.ref C) (.ref T) = some b ∧ Φ (.bl b) ρ1) (hm : X.mg "isinstance" = none) (hm2 : X.mg tn = some (.ref T)) (hg : Gl X "isinstance" := by rfl) (hg2 : Gl X tn := by rfl)
    (hdb : (tn == ("__debug__" : Str)) = false := by decide) (hs1 : starEach [e, .Name tn p1] X.env = (false, eval e X.env) :: starEach [.Name tn p1] X.env := by rfl) (hs2 : starEach [.Name tn p1] X.env = (false, eval (.Name tn p1) X.env) :: starEach [] X.env := by rfl)
    (hpl : (backTo pos (starEach [.Name tn p1] X.env)).any (·.1) = false := by rfl) : EC X Z (.Call (.Name "isinstance" p) [e, .Name tn p1] [] pos) ρ Φ := fun B G H σ o z Q q =>
  (pe_callB call_isi hg hm (by rfl) (pa_cons p_wE (pa_cons (pe_glob (v := .ref T) (u := .ref T) hg2 hm2 rfl hdb) pa_nil hs2) hs1) (he := hs1) (hpl := hpl)).w (h B G H σ o z _ fun d ρ1 v B1 H1 ⟨C, gs, b, hd, hc, hk, h1⟩ e1 o1 r1 => by
    subst hd
    exact ⟨v, .ref T, .ref C, .ref T, b, rfl, .own T, ty_obj o1.s r1 hc, hk, q _ ρ1 _ B1 H1 h1 e1 o1 (.bl _)⟩)
end
end AL
namespace AL
open PySem PySem.Spec PyProof.Rows L2 Evl
section
variable {X : Cx} {Z : Zx} {a b : Expr} {ρ : En} {Φ : D → En → Prop} {Ψ : List D → En → Prop} {p pos : Pos} {x : Str}
/-- a + b, two lists -/
theorem ec_cat (h : EC X Z a ρ fun d ρ1 => EC X Z b ρ1 fun d' ρ2 => ∃ ds es, d = .lst ds ∧ d' = .lst es ∧ ds.length + es.length ≤ 100000 ∧ Φ (.lst (ds ++ es)) ρ2) : EC X Z (.BinOp a .Add b pos) ρ Φ := fun B G H σ o z Q q =>
  (pe_op op_cat p_wE p_wE).w (h B G H σ o z _ fun d ρ1 v B1 H1 h1 e1 o1 r1 => h1 B1 G H1 σ o1 (z.up e1) _ fun d' ρ2 y B2 H2 ⟨ds, es, hd, hd', hl, k⟩ e2 o2 r2 => by
    subst hd; subst hd'
    have r1' := r1.up e2
    cases r1' with
    | lst hq rr =>
      cases r2 with
      | lst hq2 rr2 =>
        refine ⟨_, _, _, _, rfl, rfl, o2.s.ex _ _ hq, o2.s.ex _ _ hq2, by rw [rr.length, rr2.length]; exact sz_of hl, fun q' hq' => ?_⟩
        obtain ⟨e3, o3⟩ := o2.grow (u := .lst (_ ++ _)) hq'
        exact q _ ρ2 _ _ _ k ((e1.trans e2).trans e3) o3 (.lst upd_same (Reps.app (rr.up e3) (rr2.up e3))))
/-- a global that holds an int -/
theorem ec_gi {n : Int} {t : Tok} (hm : X.mg x = some (.int n t)) (h : Φ (.int n) ρ) (hg : Gl X x := by rfl) (hdb : (x == ("__debug__" : Str)) = false := by decide) : EC X Z (.Name x pos) ρ Φ := fun B G H σ o z Q q =>
  (pe_glob (v := .int n) hg hm ⟨t, rfl⟩ hdb).w (q _ ρ _ B H h (Ex.refl B) o (.int n))
/-- for .. in x, x a list of one's own that stays -/
theorem ic_own (i : Nat) {tg : Expr} {aq : Addr} {ds : List D} (hd : ρ[i]? = some (some (.ow aq (.l ds)))) (h : Ψ ds (ρ.set i (some (.im (.lst ds))))) (hN : X.N[i]? = some x := by rfl) (hv : Vis X.env.scope x := by first | exact Or.inl rfl | exact Or.inr (Or.inl rfl) | exact Or.inr (Or.inr rfl))
    (hdb : (x == ("__debug__" : Str)) = false := by decide) (hcd : (x == ("__classdict__" : Str)) = false := by decide) : IC X Z tg (.Name x p) ρ Ψ := ic_list (ec_frz i hd ⟨ds, rfl, h⟩ hN hv hdb hcd)
/-- a list of one's own is a datum from now on -/
theorem sc_frz {O : Outs} {sts : List Stmt} (i : Nat) {q0 : Addr} {ds : List D} (hd : ρ[i]? = some (some (.ow q0 (.l ds)))) (h : SC X Z sts (ρ.set i (some (.im (.lst ds)))) O) : SC X Z sts ρ O := fun B G H σ Dd o z sv => by
  obtain ⟨h1, h2, h3, u, h4, h5⟩ := o.ow i q0 _ hd
  have hl : i < ρ.length := (List.getElem?_eq_some_iff.mp hd).1
  have o1 : Ok X.K B G H σ (ρ.set i none) := by
    have z1 := o.drop (i := i) (x := some (.ref q0))
    rwa [set_getq h1] at z1
  have nn : ∀ (j : Nat) (w : OO), (ρ.set i none)[j]? ≠ some (some (Sl.ow q0 w)) := fun j w hj => by
    rw [getq_set] at hj
    by_cases hij : i = j
    · subst hij; rw [if_pos ⟨rfl, hl⟩] at hj; cases hj
    · rw [if_neg (fun z => hij z.1), if_neg hij] at hj
      exact hij (o.ne i j q0 _ w hd hj)
  obtain ⟨e1, o2⟩ := o1.know h2 h3 h4 nn
  cases u with
  | lst vs =>
    have o3 := o2.set_im (i := i) (v := .ref q0) (d := .lst ds) (.lst upd_same (Reps.up h5 e1))
    rw [set_getq h1, List.set_set] at o3
    exact h.go o3 z sv e1
  | _ => exact False.elim h5
end
end AL
/-! Errors of the package: classes over Exception (through own classes) whose __init__ stores one field. -/
namespace AX
open PySem PySem.W PySem.Calls PyProof.Rows
/-! ### the text of __init__(self, f): self.f = f -/
def iA (f : Str) (p1 p2 : Pos) : Arguments := { posonlyargs := [], args := [{ arg := "self", annotation := none, pos := p1 }, { arg := f, annotation := none, pos := p2 }], vararg := none, kwonlyargs := [], kw_defaults := [], kwarg := none, defaults := [] }
def iB (f : Str) (q1 q2 q3 q4 : Pos) : List Stmt := [.Assign [.Attribute (.Name "self" q1) f q2] (.Name f q3) q4]
def iS (f : Str) : Scope := { kind := .function, names := [(PySem.Str.ofString "self", .local), (f, .local)], isGenerator := false, isCoroutine := false, more := [] }
abbrev exBase : List Value := [.type "Exception", .type "BaseException", .type "object"]
/-- what the written part says of such a class, as one test -/
def clsB (K : Frag) (C fI : Addr) (f : Str) : Bool :=
  excInitIn K C exBase "Exception.__new__" && (excOver K C exBase && (decide (takerIn K C f = some none) && (hasDictIn K C && (decide (findIn K (.ref C) "__setattr__" = some (some (.builtin "object.__setattr__"))) &&
  (decide (findIn K (.ref C) "__getattribute__" = some (some (.builtin "BaseException.__getattribute__"))) && (decide (findIn K (.ref C) "__getattr__" = some none) && (decide (findIn K (.ref C) f = some none) &&
  (decide (findIn K (.ref C) "__init__" = some (some (.ref fI))) && (isFn K (.ref fI) && (keepIn K (.ref C) && (decide (subIn K (.ref C) (.type "BaseException") = some true) && decide (typeIn K (.ref C) = some (.type "type")))))))))))))
structure Cls1 (K : Frag) (C fI : Addr) (f : Str) : Prop where
  xi : excInitIn K C exBase "Exception.__new__" = true
  xo : excOver K C exBase = true
  tk : takerIn K C f = some none
  hd : hasDictIn K C = true
  sa : findIn K (.ref C) "__setattr__" = some (some (.builtin "object.__setattr__"))
  ga : findIn K (.ref C) "__getattribute__" = some (some (.builtin "BaseException.__getattribute__"))
  gg : findIn K (.ref C) "__getattr__" = some none
  no : findIn K (.ref C) f = some none
  iC : findIn K (.ref C) "__init__" = some (some (.ref fI))
  fn : isFn K (.ref fI) = true
  kp : keepIn K (.ref C) = true
  sub : subIn K (.ref C) (.type "BaseException") = some true
  ty : typeIn K (.ref C) = some (.type "type")
theorem clsB_ok {K : Frag} {C fI : Addr} {f : Str} (h : clsB K C fI f = true) : Cls1 K C fI f := by
  unfold clsB at h
  simp only [Bool.and_eq_true, decide_eq_true_eq] at h
  obtain ⟨h1, h2, h3, h4, h5, h6, h7, h8, h9, h10, h11, h12, h13⟩ := h
  exact ⟨h1, h2, h3, h4, h5, h6, h7, h8, h9, h10, h11, h12, h13⟩
/-- its __init__ as it stands behind the top -/
structure Ini1 (K : Frag) (fI : Addr) (q f : Str) : Prop where
  fn : ∃ (oc : Value) (od : Option Addr) (doc pm : Value) (an : Option Addr) (cdv ct : Value) (osl : Array (Option Value)) (p1 p2 q1 q2 q3 q4 : Pos),
    K.lookup fI = some ⟨oc, od, .func (fnOf "__init__" q (iA f p1 p2) (iB f q1 q2 q3 q4) (iS f) .none .none doc pm an cdv ct), osl⟩ ∧ codeIn K cdv q = true
theorem size1 (v : Value) : [v].length ≤ sizeLine := by
  rw [sizeLine_eq]
  exact (by decide : 1 ≤ 16777216)
theorem loc1 {M : Model} {s : Shared} {name : Str} {scope : Scope} {L a : Addr} {cd : Value} {m : Str → Option Value} {x : Str} {pos : Pos} {v : Value} {Q : Value → Shared → Prop} {A : Around} {E : Value → Shared → Prop} (hn : s.heap.Ns L m) (hv : m x = some v) (h : Q v s)
    (hk : scope.kind = .function) (hl : (envOfC name scope L a cd).kindOf x = some .local) (hd : (x == ("__debug__" : Str)) = false) :
    wpAny M A (eval (.Name x pos) (envOfC name scope L a cd)) Q E s := wpAny_Name (wpAny_loadName_local hk hl hn hv h) hd
structure End1 (h h' : Heap) (x C dx t1 : Addr) (f : Str) (v : Value) : Prop where
  keep : ∀ b o, b ≠ x → h.get? b = some o → h'.get? b = some o
  obj : h'.get? x = some { cls := .ref C, dict := some dx, data := .fields #[.ref t1, .none, .none, .none, .bool false, .none] }
  dbig : h.objs.size ≤ dx
  dne : dx ≠ x
  ns : h'.Ns1 dx (fun y => if y = f then some v else none)
structure Made1 (h h' : Heap) (e C d : Addr) (f : Str) (v : Value) : Prop where
  keep : ∀ b o, h.get? b = some o → h'.get? b = some o
  new : h.objs.size ≤ e
  obj : ∃ oe vs, h'.get? e = some oe ∧ oe.cls = .ref C ∧ oe.dict = some d ∧ oe.data = .fields vs ∧ vs[1]? = some .none
  dbig : h.objs.size ≤ d
  dne : d ≠ e
  ns : h'.Ns1 d (fun y => if y = f then some v else none)
section
variable {prog : Program} {w : World} {A : Around} {E : Value → Shared → Prop} {R : Result → Shared → Prop} {s : Shared} {K : Frag} {C fI : Addr} {q f : Str}
/-- the field's store -/
theorem store1 (T : Cls1 K C fI f) {x t0 : Addr} {v : Value} {tk : Tok} (X : K.In s.heap) (hx : s.heap.get? x = some (excObj C t0 none .none))
    (hq : ∀ h' tk' dx, (∀ b o, b ≠ x → s.heap.get? b = some o → h'.get? b = some o) → s.heap.objs.size ≤ dx → dx ≠ x → h'.get? x = some (excObj C t0 (some dx) .none) → h'.Ns1 dx (fun y => if y = f then some v else none) → R (.ok (.ret .none)) { s with heap := h', toks := tk' }) :
    codeAny (model prog w) A (.call (.builtin "object.__setattr__") ⟨[.ref x, .str f tk, v], []⟩) R s := by
  have hxs : x ≠ s.heap.objs.size := Nat.ne_of_lt (Heap.lt_size hx)
  refine osa_openX (od := none) F.store_Exception X ⟨hx, rfl, rfl, trivial⟩ T.xo T.tk fun b => ?_
  obtain ⟨cd, hc, hdd⟩ := any_some T.hd
  refine wpAny_bind (wpAny_pure (wpAny_bind (instanceDict_exc hx (looks_clsIn X hc) hdd ?_)))
  obtain ⟨hp, g, d, tt, os⟩ := s
  show wpAny _ _ (Builtin.ObjectAttr.storeInDict hp.objs.size (.str f tk) f v) _ _ _
  have hx1 : (hp.push (dictOf [] 0)).get? x = some (excObj C t0 none .none) := Heap.get?_push_of_some _ hx
  refine PySem.HandSPX.store_in_new (hp := (hp.push (dictOf [] 0)).update x fun o => { o with dict := some hp.objs.size }) ?_ fun h' tk' hn' hs => ?_
  · exact ⟨_, #[], _, (Heap.get?_update_ne _ _ _ _ hxs.symm).trans (Heap.get?_push_at rfl rfl), rfl, fun e he => absurd he (by simp), fun _ => rfl⟩
  · refine hq h' tk' hp.objs.size (fun b o hb ho => ?_) (Nat.le_refl _) hxs.symm ?_ hn'
    · exact (hs.2 b (Nat.ne_of_lt (Heap.lt_size ho))).trans ((Heap.get?_update_ne _ _ _ _ hb).trans (Heap.get?_push_of_some _ ho))
    · exact (hs.2 x hxs).trans (Heap.get?_update_self _ hx1 rfl)
end
end AX
/-! Errors whose field is at. -/
namespace AX
open PySem PySem.W PySem.Calls PyProof.Rows
section
variable {prog : Program} {w : World} {A : Around} {E : Value → Shared → Prop} {R : Result → Shared → Prop} {s : Shared} {K : Frag} {C fI : Addr} {q : Str}
theorem init_at (T : Cls1 K C fI "at") (I : Ini1 K fI q "at") {x t0 : Addr} {v : Value} (X : K.In s.heap) (hlim : s.heap.NoLimit) (hx : s.heap.get? x = some (excObj C t0 none .none)) (hroom : A.depth < recursionLimit)
    (hq : ∀ h' tk dx, End1 s.heap h' x C dx t0 "at" v → R (.ok (.ret .none)) { s with heap := h', toks := tk }) :
    codeAny (model prog w) A (.call (.ref fI) ⟨[.ref x, v], []⟩) R s := by
  obtain ⟨oc, od, doc, pm, an, cdv, ct, osl, p1, p2, q1, q2, q3, q4, ho, hcd⟩ := I.fn
  refine Att.call_fn (binds := [("self", .ref x), ("at", v)]) X hlim ho hcd hroom (BindsTo.of_eq (by first | rfl | with_unfolding_all rfl)) (by first | rfl | decide | with_unfolding_all rfl) (fun s1 IC => ?_) rfl rfl rfl
  obtain ⟨h1, tk1, rfl⟩ := IC.toInCall.same
  have k : ∀ b o, s.heap.get? b = some o → h1.get? b = some o := IC.toInCall.keep
  have hn := IC.toInCall.ns
  have X1 : K.In h1 := X.keeps k
  have hx1 := k _ _ hx
  show wpAny _ _ (execs _ _) _ _ _
  refine wpAny_execs_cons (plainObj_wpAny_Assign_Attribute ?_)
  refine loc1 (v := v) hn (by first | rfl | with_unfolding_all rfl | kernel_rfl) (loc1 (v := .ref x) hn (by first | rfl | with_unfolding_all rfl | kernel_rfl) ?_ rfl rfl (by decide)) rfl rfl (by decide)
  refine set_plain X1 (ox := excObj C t0 none .none) (od := none) ⟨hx1, rfl, rfl, trivial⟩ T.sa ?_
  refine store1 T (s := _) X1 hx1 (fun h3 tk3 dx k3 dn dne hx3 hn3 => ?_)
  show wpAny _ _ (execs _ _) _ _ _
  have z : s.heap.objs.size < h1.objs.size := hn.lt
  exact wpAny_execs_nil (hq h3 tk3 dx ⟨fun b o hb e => k3 b o hb (k b o e), hx3, Nat.le_of_lt (Nat.lt_of_lt_of_le z dn), dne, hn3⟩)
theorem made_at (T : Cls1 K C fI "at") (I : Ini1 K fI q "at") {v : Value} (X : K.In s.heap) (hlim : s.heap.NoLimit) (hroom : A.depth + 1 < recursionLimit)
    (hq : ∀ h' tk e d, Made1 s.heap h' e C d "at" v → R (.ok (.ret (.ref e))) { s with heap := h', toks := tk }) :
    codeAny (model prog w) A (.call (.ref C) ⟨[v], []⟩) R s := by
  obtain ⟨nm, N, qn, bs, bm, hdct, sn, sub, ab, col, dd, k0, k1, k2, k3, k5, hC, hT⟩ := excInit_of X T.xi
  obtain ⟨oI, hoI, hcI⟩ : ∃ oI, s.heap.get? fI = some oI ∧ oI.cls = .type "function" := by
    obtain ⟨o, ho, hc⟩ := Option.map_eq_some_iff.mp (show (K.lookup fI).map (·.cls) = some (.type "function") from beq_iff_eq.mp T.fn)
    exact ⟨o, X _ _ ho, hc⟩
  obtain ⟨hp, g, dr, tk, os⟩ := s
  have k : ∀ b o, hp.get? b = some o → ((hp.push (excTup [v])).push (excObj C hp.objs.size none .none)).get? b = some o := fun b o e => Heap.get?_push_of_some _ (Heap.get?_push_of_some _ e)
  have hget : ((hp.push (excTup [v])).push (excObj C hp.objs.size none .none)).get? (hp.objs.size + 1) = some (excObj C hp.objs.size none .none) := by heap_get
  refine PX.call_own F.excBase_Exception hT hC (looks_findIn X T.iC) (fun self => exc_bind hoI hcI self) (size1 v) ?_
  refine init_at (s := ⟨(hp.push (excTup [v])).push (excObj C hp.objs.size none .none), g, dr, tk, os⟩) T I (X.keeps k) (hlim.keeps k) hget ?_ fun h' tk' dx M => ?_
  · show A.depth + 1 < recursionLimit
    exact hroom
  · obtain ⟨k', hx, dn, dne, hns⟩ := M
    have old : ∀ b o, hp.get? b = some o → h'.get? b = some o := fun b o e => k' b o (Nat.ne_of_lt (Nat.lt_succ_of_lt (Heap.lt_size e))) (k b o e)
    have z : hp.objs.size + 1 + 1 ≤ dx := by
      have q := dn
      simp only [Heap.size_push] at q
      exact q
    exact ⟨rfl, hq h' tk' (hp.objs.size + 1) dx ⟨old, Nat.le_succ _, ⟨_, _, hx, rfl, rfl, rfl, rfl⟩, Nat.le_trans (Nat.le_trans (Nat.le_succ _) (Nat.le_succ _)) z, dne, hns⟩⟩
end
end AX
namespace AL
open PySem PySem.Spec PyProof.Rows L2 Evl
theorem relO_at {v : V} {v' : Value} (r : RelV v v') (g : Str) : RelO (List.lookup g [(("at" : Str), v)]) (if g = "at" then some v' else none) := by
  by_cases hw : g = "at"
  · subst hw
    rw [if_pos rfl]
    have q : List.lookup ("at" : Str) [(("at" : Str), v)] = some v := by simp [List.lookup]
    rw [q]
    exact r
  · rw [if_neg hw]
    have qw : (g == ("at" : Str)) = false := by simpa using hw
    have q2 : List.lookup g [(("at" : Str), v)] = none := by simp [List.lookup, qw]
    rw [q2]
    trivial
section
variable {X : Cx} {Z : Zx} {C fI : Addr} {q x : Str} {a : Expr} {ta : TA} {p pos pos2 : Pos} {k : Nat} {ρ : En} {O : Outs} {sts : List Stmt}
def tMk_at (C : Addr) (ta : TA) : L2.St → Hp → XK → Prop := fun σ H Q => ta σ H fun vs H1 => ∃ v, vs = [v] ∧ ∀ d, H1 d = none → Q (.ref C) (some d) (upd H1 d (.xd [(("at" : Str), v)]))
theorem pmk_at (T : AX.Cls1 X.K C fI "at") (I : AX.Ini1 X.K fI q "at") (hm : X.mg x = some (.ref C)) (hr : Room k X.A) (ha : PA X [a] ta) (hg : Gl X x) (hdb : (x == ("__debug__" : Str)) = false)
    (he : starEach (a :: []) X.env = (false, eval a X.env) :: starEach [] X.env) (hpl : (backTo pos (starEach [] X.env)).any (·.1) = false) :
    PMk X (.Call (.Name x p) [a] [] pos) (tMk_at C ta) := by
  intro pins s σ H Q I0 h
  refine wpAny_Call_Name_kw (ld_glob I0 hg hm ?_ hdb)
  refine PySem.W.callWith_K (h₀ := X.base) I0.ok.mod.kin T.kp (thn (ha.run pos pins s σ H _ I0 h) fun us s1 hh => ?_) he hpl
  obtain ⟨vs, H1, I1, r1, v, ev, q1⟩ := hh
  subst ev
  refine ⟨I1.kIn, ?_⟩
  cases r1 with
  | @cons _ v' _ _ rv rn =>
    cases rn
    show wpAny _ _ (call (.ref C) [v']) _ _ _
    have hlim := I1.nolimit
    obtain ⟨hp, g, dr, tk, os⟩ := s1
    refine wpAny_call (AX.made_at T I I1.kIn hlim (by have := hr.dp; omega) fun h' tk' e d M => ?_)
    show MkP X pins σ Q (.ref e) ⟨h', g, dr, tk', os⟩
    obtain ⟨oe, fv, hoe, hc, hd, hdat, h1⟩ := M.obj
    have hns := M.ns
    obtain ⟨G', g1, g2⟩ := restrict h' fun b => decide (b ≠ e)
    have gk : ∀ b, b ≠ e → G'.get? b = h'.get? b := fun b hb => g1 b (decide_eq_true hb)
    have ge : G'.get? e = none := g2 e (by simp)
    have old : ∀ b o, hp.get? b = some o → G'.get? b = some o := fun b o q => (gk b (Nat.ne_of_lt (Nat.lt_of_lt_of_le (Heap.lt_size q) M.new))).trans (M.keep b o q)
    have ob : ObjOk X.prog X.w (upd H1 d (.xd [(("at" : Str), v)])) G' d (.xd [(("at" : Str), v)]) :=
      ⟨_, hns.at (fun o q => (gk d M.dne).trans q), fun f => relO_at rv f⟩
    have J : Inv X pins σ (upd H1 d (.xd [(("at" : Str), v)])) ⟨G', g, dr, tk', os⟩ := I1.laid (t' := tk') old M.dbig ob
    refine ⟨e, oe, fv, ⟨G', g, dr, tk', os⟩, _, .ref C, some d, rfl, J, fun b o q => ?_, ge, hoe, ⟨hc, hd⟩, hdat, h1, ?_, rfl, I1.bare, raises_own T.sub T.ty, q1 d (I1.hok.fresh M.dbig)⟩
    · by_cases hb : b = e
      · have q' : G'.get? b = some o := q
        rw [hb, ge] at q'; cases q'
      · exact (gk b hb).symm.trans q
    · rw [upd_ne (Ne.symm M.dne)]
      exact I1.hok.fresh M.new
/-- raise X(e) -/
theorem sc_raise_at (T : AX.Cls1 X.K C fI "at") (I : AX.Ini1 X.K fI q "at") (hm : X.mg x = some (.ref C)) (hr : Room k X.A) (tk : Takes X Z.E) (h : EC X Z a ρ fun d ρ1 => Z.R C [("at", d)] ρ1) (hc : X.calm = true := by rfl) (hg : Gl X x := by rfl) (hdb : (x == ("__debug__" : Str)) = false := by decide)
    (he : starEach (a :: []) X.env = (false, eval a X.env) :: starEach [] X.env := by rfl) (hpl : (backTo pos (starEach [] X.env)).any (·.1) = false := by rfl) :
    SC X Z (.Raise (some (.Call (.Name x p) [a] [] pos)) none pos2 :: sts) ρ O :=
  sc_of (ps_raise hc tk (pmk_at T I hm hr (pa_cons p_wE pa_nil he) hg hdb he hpl)) fun B G H σ Dd o z s => h B G H σ o z _ fun d ρ1 v B1 H1 h1 e1 o1 r1 => ⟨v, rfl, fun dd hd => by
    obtain ⟨e2, of⟩ := o1.grow (u := .xd [(("at" : Str), v)]) hd
    exact z C _ (some dd) _ _ _ ρ1 h1 (e1.trans e2) of ⟨dd, _, rfl, upd_same, .cons (r1.up e2) .nil⟩⟩
end
end AL
namespace AL
open PySem PySem.Spec PyProof.Rows L2 Evl
/-! ### a def that gives a new object of its own -/
def PFr (n : Nat) (S : List D → (OO → Prop) → Prop) : Pr := fun as Φ => ∃ ds, as = ds.map Sl.im ∧ ds.length = n ∧ S ds fun o => Φ (.ret (.fr o) as)
def MonoR (S : List D → (OO → Prop) → Prop) : Prop := ∀ ds Φ Φ', (∀ o, Φ o → Φ' o) → S ds Φ → S ds Φ'
theorem PFr.len {n : Nat} {S : List D → (OO → Prop) → Prop} {ps : List Str} (h : ps.length = n) : ∀ as Φ, PFr n S as Φ → as.length = ps.length := fun as Φ ⟨ds, h1, h2, _⟩ => by rw [h1, h, ← h2]; simp
theorem PFr.mono {n : Nat} {S : List D → (OO → Prop) → Prop} (m : MonoR S) : Mono (PFr n S) := fun as Φ Φ' h ⟨ds, h1, h2, h3⟩ => ⟨ds, h1, h2, m _ _ _ (fun d x => h _ x) h3⟩
def OutR (Ψ : OO → Prop) : Outs where
  nx := fun _ => False
  rt := fun r _ => match r with
    | .fr o => Ψ o
    | .im _ => False
section
variable {P : Program} {w : World} {K : PySem.W.Frag} {mg : Str → Option Value} {base : Heap} {x qual : Str} {params : Arguments} {body : List Stmt} {scope : Scope} {f : Addr} {fd : FuncData} {N ps : List Str} {k n : Nat}
theorem cal_fr {S : List D → (OO → Prop) → Prop} (F : FunD K x qual params body scope [] [] f fd) (hm : mg x = some (.ref f)) (Sc : FnScope N ps scope) (hn : ps.length = n)
    (hb : ∀ (kV doc pm : Value) (an : Option Addr) (cdv ct : Value) (us : List Value), us.length = ps.length → bindArgs (PySem.W.fnOf x qual params body scope .none kV doc pm an cdv ct) ⟨us, []⟩ = pure (ps.zip us))
    (h : ∀ cdv A outer s H E, Room k (bodyX P w K mg base N qual scope f cdv A outer s H E).A → ∀ ds Ψ, ds.length = n → S ds Ψ → SC (bodyX P w K mg base N qual scope f cdv A outer s H E) Z0 body (envD N.length ds) (OutR Ψ)) :
    Cal P w K mg base x (k + 1) (PFr n S) :=
  ⟨f, fd, ps, def_ok F Sc (PFr.len hn) (fun cdv A outer s H E hr tk as Φ ⟨ds, h1, h2, h3⟩ => by
    subst h1
    rw [startE_im]
    intro B G H σ Dd o z sv
    refine (h cdv A outer s _ E hr ds _ h2 h3) B G _ σ Dd o RC.none ⟨fun ρ' σ' B' H' a => a.elim, fun r ρ' v σ' B' H' a => ?_, fun ρ' σ' B' H' a => a.elim, fun ρ' σ' B' H' a => a.elim⟩
    cases r with
    | im d => exact False.elim a
    | fr oo => exact sv.rt _ ρ' v σ' B' H' ⟨ds.map Sl.im, .refl _, a, im_out⟩), hm, F.kp, F.bindsN hb⟩
end
section
variable {X : Cx} {Z : Zx} {e a b : Expr} {es : List Expr} {ρ : En} {Φ : D → En → Prop} {Θ : OO → En → Prop} {p pos : Pos} {x : Str} {k n : Nat}
/-- f(e, ..): a new object -/
theorem fc_cr {S : List D → (OO → Prop) → Prop} (c : Cal X.prog X.w X.K X.mg X.base x k (PFr n S)) (hr : Room k X.A) (hx : PassW X Z) (mo : MonoR S)
    (h : AC X Z (e :: es) ρ fun ds ρ1 => ds.length = n ∧ S ds fun o => Θ o ρ1)
    (hg : Gl X x := by rfl) (hdb : (x == ("__debug__" : Str)) = false := by decide) (he : starEach (e :: es) X.env = (false, eval e X.env) :: starEach es X.env := by rfl) (hpl : (backTo pos (starEach es X.env)).any (·.1) = false := by rfl) : FC X Z (.Call (.Name x p) (e :: es) [] pos) ρ Θ := fun B G H σ o z Q q => by
  obtain ⟨f, fd, ps, F, hm, kp, bd⟩ := c.ex
  refine (pe_callS (E := fun σ c d H => Z.E c d σ H) F hr hg hm kp bd hx p_wA hdb he hpl).w (h B G H σ o z _ fun ds ρ1 vs B1 H1 ⟨hl, hS⟩ e1 o1 r1 => ?_)
  refine ⟨B1, rest B1 H1 none, ds.map Sl.im, o1.call r1, ds, rfl, hl, mo _ _ _ (fun oo hk => ?_) hS⟩
  intro v B' H' e2 o2 rv
  obtain ⟨a, u, rfl, h2, h3, h4, h5, h6⟩ := rv
  have o3 := o1.behind (σ' := σ) (ρ' := ρ1) e2 o2.s
  have hH1 : H1 a = none := by
    cases eh : H1 a with
    | none => rfl
    | some w =>
      have hb1 : B1 a = none := fresh_back e2 h2
      have : rest B1 H1 none a = some w := by unfold rest; rw [if_neg (by simp), if_neg (by simp [hb1])]; exact eh
      rw [this] at h3; cases h3
  exact q oo ρ1 a u B' H' hk (e1.trans e2) o3 h2 (fresh_back o1.s.eg hH1) h4 (fun j w hj => by
    obtain ⟨_, _, _, y, hy, _⟩ := o1.ow j a w hj
    rw [hH1] at hy; cases hy) h6
/-- ** of a small base -/
theorem ec_pow (h : EC X Z a ρ fun d ρ1 => EC X Z b ρ1 fun d' ρ2 => ∃ i j, d = .int i ∧ d' = .int j ∧ CPow i j ∧ Φ (.int (i ^ j.toNat)) ρ2) : EC X Z (.BinOp a .Pow b pos) ρ Φ :=
  ec_op op_pow (h.mono fun d ρ1 z => z.mono fun d' ρ2 ⟨i, j, e1, e2, hc, k⟩ => by subst e1; subst e2; exact ⟨_, g_I (f := fun i j => .int (i ^ j.toNat)) hc (fun B => .int _), k⟩)
/-- - e, an int -/
theorem ec_neg (h : EC X Z e ρ fun d ρ1 => ∃ i, d = .int i ∧ Φ (.int (-i)) ρ1) : EC X Z (.UnaryOp .USub e pos) ρ Φ := fun B G H σ o z Q q =>
  (pe_un un_neg p_wE).w (h B G H σ o z _ fun d ρ1 v B1 H1 ⟨i, hd, hk⟩ e1 o1 r1 => by
    subst hd; cases r1
    exact ⟨i, rfl, q _ ρ1 _ B1 H1 hk e1 o1 (.int _)⟩)
variable {O : Outs} {sts sa sb : List Stmt} {c : Expr}
/-- an if whose ways meet -/
theorem sc_ifj (J : En → Prop) (h : TC X Z c ρ fun k ρ1 => (k = true → SC X Z sa ρ1 { O with nx := J }) ∧ (k = false → SC X Z sb ρ1 { O with nx := J })) (hj : ∀ ρ2, J ρ2 → SC X Z sts ρ2 O) : SC X Z (.If c sa sb pos :: sts) ρ O :=
  sc_if fun B G H σ o z Q q => h B G H σ o z Q fun k ρ1 B1 H1 ⟨h1, h2⟩ e1 o1 => q k ρ1 B1 H1 ⟨fun hk => (h1 hk).out (fun ρ' x => hj ρ' x) (fun _ _ x => x) (fun _ x => x) (fun _ x => x), fun hk => (h2 hk).out (fun ρ' x => hj ρ' x) (fun _ _ x => x) (fun _ x => x) (fun _ x => x)⟩ e1 o1
end
end AL
namespace AL
open PySem PySem.Spec PyProof.Rows L2 Evl
/-! ### a def by its function object, the start of a law -/
section
variable {P : Program} {w : World} {K : PySem.W.Frag} {mg : Str → Option Value} {base : Heap} {x qual : Str} {params : Arguments} {body : List Stmt} {scope : Scope} {f : Addr} {fd : FuncData} {N ps : List Str} {k n : Nat}
theorem ok_fn {S : List D → (D → Prop) → Prop} (F : FunD K x qual params body scope [] [] f fd) (Sc : FnScope N ps scope) (hn : ps.length = n)
    (h : ∀ cdv A outer s H E, Room k (bodyX P w K mg base N qual scope f cdv A outer s H E).A → ∀ ds Ψ, ds.length = n → S ds Ψ → SC (bodyX P w K mg base N qual scope f cdv A outer s H E) Z0 body (envD N.length ds) (OutP Ψ)) :
    FnOk P w K mg base (L2.CX P w) (k + 1) f fd ps (Csp K (PFn n S)) :=
  def_ok F Sc (PFn.len hn) fun cdv A outer s H E hr tk as Φ ⟨ds, h1, h2, h3⟩ => by
    subst h1
    rw [startE_im]
    intro B G H σ Dd o z sv
    refine (h cdv A outer s _ E hr ds _ h2 h3) B G _ σ Dd o RC.none ⟨fun ρ' σ' B' H' a => sv.nx ρ' σ' B' H' ⟨ds.map Sl.im, .refl _, a, im_out⟩, fun r ρ' v σ' B' H' a => ?_, fun ρ' σ' B' H' a => a.elim, fun ρ' σ' B' H' a => a.elim⟩
    cases r with
    | im d => exact sv.rt _ ρ' v σ' B' H' ⟨ds.map Sl.im, .refl _, a, im_out⟩
    | fr oo => exact False.elim a
/-- the script as a datum: the promise that the law gives True -/
theorem csp_law {m : Nat} {S : List D → (D → Prop) → Prop} (hS : ∀ (ns : List Int) (Ψ : D → Prop), ns.length ≤ m → Ψ (.bl true) → S [.klst (ns.map D.int)] Ψ) (H : Hp) (a : Addr) (ns : List Int) (hl : ns.length ≤ m) (hq : SqL K H a (ns.map V.int)) :
    Csp K (PFn 1 S) [.ref a] H (fun v _ => v = .bl true) fun _ _ _ => False := by
  refine ⟨H, fun _ => none, [Sl.im (.klst (ns.map D.int))], ⟨⟨Ex.refl H, (fun b w z => nomatch z), (fun b w z => nomatch z), fun b w z _ => z⟩, rfl, fun i d hd => ?_, fun i b o ho => ?_, fun i j b o o' ho _ => ?_⟩, [.klst (ns.map D.int)], rfl, rfl, hS ns _ hl ?_⟩
  · match i, hd with
    | 0, hd => cases hd; exact ⟨_, rfl, .klst hq (int_reps ns)⟩
  · match i, ho with
    | 0, ho => cases ho
  · match i, ho with
    | 0, ho => cases ho
  · intro v B' H' _ _ r
    cases r; rfl
theorem cx_no {P : Program} {w : World} {H : Hp} {s : Shared} {e : Value} {s' : Shared} (h : L2.CX P w [] H s (fun _ _ _ => False) e s') : False := by
  obtain ⟨_, _, _, _, _, _, _, _, _, _, _, _, z⟩ := h
  exact z
end
end AL
/-! ### the head: a Hook with a test of one's own -/
namespace AH
open PySem PySem.Spec PyProof.Rows L2
/-- what an object of the top leads to -/
def refsF (o : Obj) : List Addr := match o.data with
  | .func fd => He.refV fd.code ++ He.refV fd.defaults ++ He.refV fd.kwdefaults
  | .cls cd => cd.ns :: cd.mro.flatMap He.refV
  | .dict es _ => es.toList.flatMap fun e => He.refV e.val
  | _ => []
def layer (g : Addr → Option Obj) (as : List Addr) : List Addr := as.flatMap fun a => match g a with
  | some o => refsF o
  | none => []
def asF (g : Addr → Option Obj) : List Addr :=
  let l1 := layer g [mainGlobals]
  let l2 := layer g l1
  let l3 := layer g l2
  let l4 := layer g l3
  mainGlobals :: (l1 ++ (l2 ++ (l3 ++ l4)))
def obsX (fa : List He.Fa) (fn : List He.DefD) (xt : PySem.W.Frag → Bool) (g : Addr → Option Obj) : He.AlD × Bool :=
  let K := He.frG g (asF g)
  (He.obsD fa fn K, xt K)
def hookX (fa : List He.Fa) (fn : List He.DefD) (xt : PySem.W.Frag → Bool) : PySem.W.Hook where
  α := He.AlD × Bool
  obs := fun s => obsX fa fn xt s.heap.get?
  val := fun _ => (He.valD fn, true)
  says := fun _ h => ∃ K : PySem.W.Frag, K.In h ∧ He.SaysD fa fn K ∧ xt K = true
  of := fun _ _ e => ⟨_, He.frG_in, (Prod.mk.inj e).1, (Prod.mk.inj e).2⟩
  keeps := fun _ _ _ ⟨K, hK, c, t⟩ k => ⟨K, PySem.W.Frag.In.keeps hK k, c, t⟩
theorem obsX_eq {fa : List He.Fa} {fn : List He.DefD} {xt : PySem.W.Frag → Bool} {g : Addr → Option Obj} {s : Shared} (h : ∀ a, g a = s.heap.get? a) : obsX fa fn xt g = (hookX fa fn xt).obs s := by
  have e : g = s.heap.get? := funext h
  rw [e] <;> rfl
/-! ### tests of the classes of errors -/
def exB (K : PySem.W.Frag) (C : Addr) : Bool :=
  decide (PySem.W.findIn K (.ref C) "__getattribute__" = some (some (.builtin "BaseException.__getattribute__"))) && (decide (PySem.W.findIn K (.ref C) "__getattr__" = some none) &&
  (decide (PySem.W.subIn K (.ref C) (.type "BaseException") = some true) && (PySem.W.hasDictIn K C && (decide (PySem.W.findIn K (.ref C) "__class__" = some (some (.builtin "object.__class__"))) &&
  (decide (PySem.W.specialIn K (.builtin "object.__class__") "__get__" = some (some (.builtin "getset_descriptor.__get__"))) && (decide (PySem.W.takesIn K (.builtin "object.__class__") = some true) && decide (PySem.W.mroIn K C (.type "object") = some true)))))))
theorem exB_ok {K : PySem.W.Frag} {C : Addr} (h : exB K C = true) : ExcC K C := by
  unfold exB at h
  simp only [Bool.and_eq_true, decide_eq_true_eq] at h
  obtain ⟨h1, h2, h3, h4, h5, h6, h7, h8⟩ := h
  exact ⟨h1, h2, h3, h4, h5, h6, h7, h8⟩
def kwB (K : PySem.W.Frag) (f : Addr) : Bool := match K.lookup f with
  | some ⟨_, _, .func fd, _⟩ => fd.kwdefaults == .none
  | _ => false
/-- the __init__ of an error with one field -/
theorem ini_ok {K : PySem.W.Frag} {fI : Addr} {q f : Str} {fd : FuncData} {p1 p2 q1 q2 q3 q4 : Pos} (F : FunD K "__init__" q (AX.iA f p1 p2) (AX.iB f q1 q2 q3 q4) (AX.iS f) [] [] fI fd) (hk : kwB K fI = true) : AX.Ini1 K fI q f := by
  obtain ⟨oc, od, dV, kV, doc, pm, an, cdv, ct, osl, rfl, lk, hcd, hd, _⟩ := F.ex
  have e1 : dV = .none := by
    rcases hd with ⟨_, h⟩ | ⟨h, _⟩
    · exact h
    · exact absurd rfl h
  have e2 : kV = .none := by
    unfold kwB at hk
    rw [lk] at hk
    exact beq_iff_eq.mp hk
  subst e1; subst e2
  exact ⟨oc, od, doc, pm, an, cdv, ct, osl, p1, p2, q1, q2, q3, q4, lk, hcd⟩
end AH
namespace AL
open PySem PySem.Spec PyProof.Rows L2 Evl
/-! comprehensions by an invariant: what a turn leaves need not be a function of the turns -/
section
variable {X : Cx} {Z : Zx} {elt tg iter tg1 iter1 cnd : Expr} {scope : Scope} {own : List (Str × Nat)} {pos spos py : Pos} {ρ : En} {Φ : OO → En → Prop} {O : Outs} {sts : List Stmt} {y : Str}
theorem fc_lcR_te (own : List (Str × Nat)) (js : List Nat) (h : IC X Z tg iter ρ fun ds ρ1 => ∃ I : Nat → List D → En → Prop, I 0 [] (wipeE ρ1 (own.map (·.2))) ∧ (∀ i out ρi, i ≤ ds.length → I i out ρi → out.length ≤ 50000) ∧
      (∀ i d out ρi, ds[i]? = some d → I i out ρi → AllB X scope fun X' => GT X' tg js d ρi fun ρ3 => AllB X scope fun X' => EC X' Z0 elt ρ3 fun y ρ4 => I (i + 1) (out ++ [y]) (wipeE ρ4 (own.map (·.2)))) ∧ ∀ out ρ', I ds.length out ρ' → ∃ ρ2, BackE ρ1 ρ' ρ2 ∧ Φ (.l out) ρ2)
    (hjs : ∀ j ∈ js, j ∈ own.map (·.2)) : FT X Z (tLc (wI X tg iter) (fun v σ H Q => AllB X scope fun X' => wG X' tg v σ H Q) (tYes) (fun σ H Q => AllB X scope fun X' => wE X' elt σ H Q) (own.map (·.2))) ρ Φ := fun B G H σ o z Q q => by
  refine h B G H σ o z _ fun ds ρ1 J B1 H1 ⟨I, h0, hl, ht, hb⟩ e1 o1 wk => ?_
  intro Dl hD
  obtain ⟨of, hBn, hGn, hnn⟩ := o1.fresh (u := .lst []) hD
  have hB1 : B1 Dl = none := fresh_back o1.s.ex hD
  have ow0 := of.wipe (own.map (·.2))
  have nwipe : ∀ (vs : List Nat) (j : Nat) (q : OO), (wipeE ρ1 vs)[j]? ≠ some (some (Sl.ow Dl q)) := by
    intro vs
    induction vs with
    | nil => exact hnn
    | cons v vs ih =>
      intro j q hj
      have hj' : ((wipeE ρ1 vs).set v none)[j]? = some (some (Sl.ow Dl q)) := hj
      rw [getq_set] at hj'
      split at hj'
      · simp at hj'
      · split at hj'
        · simp at hj'
        · exact ih j q hj'
  have nwip2 : ∀ (ρ : En), (∀ (j : Nat) (q : OO), ρ[j]? ≠ some (some (Sl.ow Dl q))) → ∀ (vs : List Nat) (j : Nat) (q : OO), (wipeE ρ vs)[j]? ≠ some (some (Sl.ow Dl q)) := by
    intro ρ hnn vs
    induction vs with
    | nil => exact hnn
    | cons v vs ih =>
      intro j q hj
      have hj' : ((wipeE ρ vs).set v none)[j]? = some (some (Sl.ow Dl q)) := hj
      rw [getq_set] at hj'
      split at hj'
      · simp at hj'
      · split at hj'
        · simp at hj'
        · exact ih j q hj'
  refine ⟨fun i m H' => m = ds.length - i ∧ i ≤ ds.length ∧ ∃ B' u out ρi, Ex B1 B' ∧ Ok X.K B' G H' (L2.wipe σ (own.map (·.2))) ρi ∧ B' Dl = none ∧ H' Dl = some (.lst u) ∧ Reps X.K B' u out ∧ I i out ρi ∧ ∀ (j : Nat) (q : OO), ρi[j]? ≠ some (some (Sl.ow Dl q)), ⟨_, rfl, Nat.zero_le _, B1, [], [], _, Ex.refl _, ow0, hB1, upd_same, .nil, h0, nwipe _⟩, ?_⟩
  rintro i m H' ⟨rfl, hi, B', u, out, ρi, e', o', hb', hu', r', w', n'⟩
  have oh := o'.hold hb' hu' n'
  by_cases hlt : i < ds.length
  · have hget : ds[i]? = some ds[i] := by simp [hlt]
    obtain ⟨g1, g2⟩ := (wk i B' _ H' _ ρi e' oh).1 _ hget
    refine .inr ⟨g1, fun H' => ∃ B' u out ρi, Ex B1 B' ∧ Ok X.K B' G H' (L2.wipe σ (own.map (·.2))) ρi ∧ B' Dl = none ∧ H' Dl = some (.lst u) ∧ Reps X.K B' u out ∧ I (i + 1) out ρi ∧ ∀ (j : Nat) (q : OO), ρi[j]? ≠ some (some (Sl.ow Dl q)), fun H' x => ⟨ds.length - (i + 1), by omega, rfl, hlt, x⟩, fun x H2 y => ?_⟩
    obtain ⟨B3, e3, o3, r3⟩ := g2 x H2 y
    intro s H0 C cl fp
    refine ht i _ out ρi hget w' s H0 C cl fp B3 _ H2 _ x o3 r3 _ fun ρ3 σ3 B4 H4 h4 ag e4 o4 => ?_
    have hw : L2.wipe σ3 (own.map (·.2)) = L2.wipe (L2.wipe σ (own.map (·.2))) (own.map (·.2)) := Agree.wipe ⟨ag.1, fun k hk => ag.2 k fun z => hk (hjs k z)⟩
    rw [wipe_wipe] at hw
    refine ⟨hw, ?_⟩
    show (AllB X scope fun X' => wE X' elt σ3 H4 _)
    intro s5 H5 C5 cl5 fp5
    refine h4 s5 H5 C5 cl5 fp5 B4 _ H4 σ3 o4 RC.none _ fun y ρ4 v B5 H5 hy e5 o5 r5 => ?_
    obtain ⟨l1, l2, l3, l4⟩ := o5.letGo (fresh_back o1.s.eg hD)
    have hl5 := hl i out ρi hi w'
    have e35 : Ex B' B5 := (e3.trans e4).trans e5
    refine ⟨u, l2, sz_lt (by rw [r'.length]; omega), B5, u ++ [v], _, _, e'.trans e35, ?_, l1, upd_same, (r'.up e35).app (.cons r5 .nil), hy, fun j w hj => nwip2 ρ4 l3 _ j w hj⟩
    have z5 := (l4 (.lst (u ++ [v])) rfl).wipe (own.map (·.2))
    rw [hw] at z5
    exact z5
  · have hii : i = ds.length := by omega
    subst hii
    obtain ⟨ρ2, hb, hk⟩ := hb out ρi w'
    exact .inl ⟨(wk _ B' G H' _ _ e' o').2 (Nat.le_refl _), q _ ρ2 Dl _ B' H' hk (e1.trans e') (o1.back e' o' hb) hb' (fresh_back o1.s.eg hD) hu' (fun j w hj => n' j w (hb.2.2 j Dl w hj).1) r'⟩
theorem fc_lcR (own : List (Str × Nat)) (js : List Nat) (h : IC X Z tg iter ρ fun ds ρ1 => ∃ I : Nat → List D → En → Prop, I 0 [] (wipeE ρ1 (own.map (·.2))) ∧ (∀ i out ρi, i ≤ ds.length → I i out ρi → out.length ≤ 50000) ∧
      (∀ i d out ρi, ds[i]? = some d → I i out ρi → AllB X scope fun X' => GT X' tg js d ρi fun ρ3 => AllB X scope fun X' => EC X' Z0 elt ρ3 fun y ρ4 => I (i + 1) (out ++ [y]) (wipeE ρ4 (own.map (·.2)))) ∧ ∀ out ρ', I ds.length out ρ' → ∃ ρ2, BackE ρ1 ρ' ρ2 ∧ Φ (.l out) ρ2)
    (nd : X.N.Nodup) (hjs : ∀ j ∈ js, j ∈ own.map (·.2)) (ok : BlkOk X.N X.env.scope scope own := by exact blkOk_by (by first | decide +kernel | kernel_rfl)) (hc : X.calm = true := by rfl) (hs : ∀ x, foldedSetIterable iter X.env x = pure x := by intro _; rfl) :
    FC X Z (.ListComp elt [⟨tg, iter, [], 0⟩] scope pos) ρ Φ := fun B G H σ o z Q q => (pe_lc (g := fun v σ H Q => AllB X scope fun X' => wG X' tg v σ H Q) (tt := tYes) (te := fun σ H Q => AllB X scope fun X' => wE X' elt σ H Q) hc nd p_wI ok (fun s H C cl fp => ⟨fun pins s2 σ2 H2 v u Q2 I r h => h s H C cl fp pins s2 u I r⟩) (fun _ _ _ _ _ => pts_nil)
    (fun s H C cl fp => ⟨fun pins s2 σ2 H2 Q2 I h => h s H C cl fp pins s2 I⟩) hs).w (fc_lcR_te own js h hjs B G H σ o z Q q)
theorem sc_lcR (i : Nat) (own : List (Str × Nat)) (js : List Nat) (h : IC X Z tg iter ρ fun ds ρ1 => ∃ I : Nat → List D → En → Prop, I 0 [] (wipeE ρ1 (own.map (·.2))) ∧ (∀ i out ρi, i ≤ ds.length → I i out ρi → out.length ≤ 50000) ∧
      (∀ i d out ρi, ds[i]? = some d → I i out ρi → AllB X scope fun X' => GT X' tg js d ρi fun ρ3 => AllB X scope fun X' => EC X' Z0 elt ρ3 fun y ρ4 => I (i + 1) (out ++ [y]) (wipeE ρ4 (own.map (·.2)))) ∧ ∀ out ρ', I ds.length out ρ' → ∃ ρ2, BackE ρ1 ρ' ρ2 ∧ ∀ p, SC X Z sts (ρ2.set i (some (.ow p (.l out)))) O)
    (nd : X.N.Nodup) (hjs : ∀ j ∈ js, j ∈ own.map (·.2)) (ok : BlkOk X.N X.env.scope scope own := by exact blkOk_by (by first | decide +kernel | kernel_rfl)) (hc : X.calm = true := by rfl) (hs : ∀ x, foldedSetIterable iter X.env x = pure x := by intro _; rfl)
    (hy : X.N[i]? = some y := by rfl) (hyl : X.env.scope.names.lookup y = some .local := by rfl) (hsw : swapsWith (.ListComp elt [⟨tg, iter, [], 0⟩] scope pos) (some (.Name y py)) spos.line X.env = pure true := by rfl) :
    SC X Z (.Assign [.Name y py] (.ListComp elt [⟨tg, iter, [], 0⟩] scope pos) spos :: sts) ρ O :=
  sc_of (ps_setLc (g := fun v σ H Q => AllB X scope fun X' => wG X' tg v σ H Q) (tt := tYes) (te := fun σ H Q => AllB X scope fun X' => wE X' elt σ H Q) hc nd hy hyl hsw p_wI ok (fun s H C cl fp => ⟨fun pins s2 σ2 H2 v u Q2 I r h => h s H C cl fp pins s2 u I r⟩) (fun _ _ _ _ _ => pts_nil)
    (fun s H C cl fp => ⟨fun pins s2 σ2 H2 Q2 I h => h s H C cl fp pins s2 I⟩) hs) fun B G H σ Dd o z sv => fc_lcR_te (Φ := fun oo ρ2 => ∀ p, SC X Z sts (ρ2.set i (some (.ow p oo))) O) own js h hjs B G H σ o z _ fun oo ρ1 p u B1 H1 h1 e1 o1 hb hg hu hn r1 => (h1 p).go (o1.set_ow hb hg hu r1 fun j q hj => absurd hj (hn j q)) z sv e1

theorem fc_lcRIf_te (own : List (Str × Nat)) (js : List Nat) (h : IC X Z tg iter ρ fun ds ρ1 => ∃ I : Nat → List D → En → Prop, I 0 [] (wipeE ρ1 (own.map (·.2))) ∧ (∀ i out ρi, i ≤ ds.length → I i out ρi → out.length ≤ 50000) ∧
      (∀ i d out ρi, ds[i]? = some d → I i out ρi → AllB X scope fun X' => GT X' tg js d ρi fun ρ3 => AllB X scope fun X' => TC X' Z0 cnd ρ3 fun k ρ5 => (k = true → AllB X scope fun X' => EC X' Z0 elt ρ5 fun y ρ4 => I (i + 1) (out ++ [y]) (wipeE ρ4 (own.map (·.2)))) ∧ (k = false → I (i + 1) out (wipeE ρ5 (own.map (·.2))))) ∧ ∀ out ρ', I ds.length out ρ' → ∃ ρ2, BackE ρ1 ρ' ρ2 ∧ Φ (.l out) ρ2)
    (hjs : ∀ j ∈ js, j ∈ own.map (·.2)) : FT X Z (tLc (wI X tg iter) (fun v σ H Q => AllB X scope fun X' => wG X' tg v σ H Q) (fun σ H Q => AllB X scope fun X' => wT X' cnd σ H Q) (fun σ H Q => AllB X scope fun X' => wE X' elt σ H Q) (own.map (·.2))) ρ Φ := fun B G H σ o z Q q => by
  refine h B G H σ o z _ fun ds ρ1 J B1 H1 ⟨I, h0, hl, ht, hb⟩ e1 o1 wk => ?_
  intro Dl hD
  obtain ⟨of, hBn, hGn, hnn⟩ := o1.fresh (u := .lst []) hD
  have hB1 : B1 Dl = none := fresh_back o1.s.ex hD
  have ow0 := of.wipe (own.map (·.2))
  have nwipe : ∀ (vs : List Nat) (j : Nat) (q : OO), (wipeE ρ1 vs)[j]? ≠ some (some (Sl.ow Dl q)) := by
    intro vs
    induction vs with
    | nil => exact hnn
    | cons v vs ih =>
      intro j q hj
      have hj' : ((wipeE ρ1 vs).set v none)[j]? = some (some (Sl.ow Dl q)) := hj
      rw [getq_set] at hj'
      split at hj'
      · simp at hj'
      · split at hj'
        · simp at hj'
        · exact ih j q hj'
  have nwip2 : ∀ (ρ : En), (∀ (j : Nat) (q : OO), ρ[j]? ≠ some (some (Sl.ow Dl q))) → ∀ (vs : List Nat) (j : Nat) (q : OO), (wipeE ρ vs)[j]? ≠ some (some (Sl.ow Dl q)) := by
    intro ρ hnn vs
    induction vs with
    | nil => exact hnn
    | cons v vs ih =>
      intro j q hj
      have hj' : ((wipeE ρ vs).set v none)[j]? = some (some (Sl.ow Dl q)) := hj
      rw [getq_set] at hj'
      split at hj'
      · simp at hj'
      · split at hj'
        · simp at hj'
        · exact ih j q hj'
  refine ⟨fun i m H' => m = ds.length - i ∧ i ≤ ds.length ∧ ∃ B' u out ρi, Ex B1 B' ∧ Ok X.K B' G H' (L2.wipe σ (own.map (·.2))) ρi ∧ B' Dl = none ∧ H' Dl = some (.lst u) ∧ Reps X.K B' u out ∧ I i out ρi ∧ ∀ (j : Nat) (q : OO), ρi[j]? ≠ some (some (Sl.ow Dl q)), ⟨_, rfl, Nat.zero_le _, B1, [], [], _, Ex.refl _, ow0, hB1, upd_same, .nil, h0, nwipe _⟩, ?_⟩
  rintro i m H' ⟨rfl, hi, B', u, out, ρi, e', o', hb', hu', r', w', n'⟩
  have oh := o'.hold hb' hu' n'
  by_cases hlt : i < ds.length
  · have hget : ds[i]? = some ds[i] := by simp [hlt]
    obtain ⟨g1, g2⟩ := (wk i B' _ H' _ ρi e' oh).1 _ hget
    refine .inr ⟨g1, fun H' => ∃ B' u out ρi, Ex B1 B' ∧ Ok X.K B' G H' (L2.wipe σ (own.map (·.2))) ρi ∧ B' Dl = none ∧ H' Dl = some (.lst u) ∧ Reps X.K B' u out ∧ I (i + 1) out ρi ∧ ∀ (j : Nat) (q : OO), ρi[j]? ≠ some (some (Sl.ow Dl q)), fun H' x => ⟨ds.length - (i + 1), by omega, rfl, hlt, x⟩, fun x H2 y => ?_⟩
    obtain ⟨B3, e3, o3, r3⟩ := g2 x H2 y
    intro s H0 C cl fp
    refine ht i _ out ρi hget w' s H0 C cl fp B3 _ H2 _ x o3 r3 _ fun ρ3 σ3 B4 H4 h4 ag e4 o4 => ?_
    have hw : L2.wipe σ3 (own.map (·.2)) = L2.wipe (L2.wipe σ (own.map (·.2))) (own.map (·.2)) := Agree.wipe ⟨ag.1, fun k hk => ag.2 k fun z => hk (hjs k z)⟩
    rw [wipe_wipe] at hw
    refine ⟨hw, ?_⟩
    show (AllB X scope fun X' => wT X' cnd σ3 H4 _)
    intro s5 H5 C5 cl5 fp5
    refine h4 s5 H5 C5 cl5 fp5 B4 _ H4 σ3 o4 RC.none _ fun k ρ6 B6 H6 ⟨hk1, hk2⟩ e6 o6 => ?_
    cases k with
    | true =>
      rw [if_pos rfl]
      show (AllB X scope fun X' => wE X' elt σ3 H6 _)
      intro s5 H5 C5 cl5 fp5
      refine hk1 rfl s5 H5 C5 cl5 fp5 B6 _ H6 σ3 o6 RC.none _ fun y ρ4 v B5 H5 hy e5 o5 r5 => ?_
      obtain ⟨l1, l2, l3, l4⟩ := o5.letGo (fresh_back o1.s.eg hD)
      have hl5 := hl i out ρi hi w'
      have e35 : Ex B' B5 := ((e3.trans e4).trans e6).trans e5
      refine ⟨u, l2, sz_lt (by rw [r'.length]; omega), B5, u ++ [v], _, _, e'.trans e35, ?_, l1, upd_same, (r'.up e35).app (.cons r5 .nil), hy, fun j w hj => nwip2 ρ4 l3 _ j w hj⟩
      have z5 := (l4 (.lst (u ++ [v])) rfl).wipe (own.map (·.2))
      rw [hw] at z5
      exact z5
    | false =>
      rw [if_neg Bool.false_ne_true]
      have hy := hk2 rfl
      obtain ⟨l1, l2, l3, l4⟩ := o6.letGo (fresh_back o1.s.eg hD)
      have e36 : Ex B' B6 := (e3.trans e4).trans e6
      refine ⟨B6, u, _, _, e'.trans e36, ?_, l1, l2, r'.up e36, hy, fun j w hj => nwip2 ρ6 l3 _ j w hj⟩
      have z5 := (l4 (.lst u) rfl).wipe (own.map (·.2))
      rw [hw] at z5
      have eu : upd H6 Dl (.lst u) = H6 := by
        funext b
        by_cases hb : b = Dl
        · subst hb; rw [upd_same, l2]
        · rw [upd_ne hb]
      rw [eu] at z5
      exact z5
  · have hii : i = ds.length := by omega
    subst hii
    obtain ⟨ρ2, hb, hk⟩ := hb out ρi w'
    exact .inl ⟨(wk _ B' G H' _ _ e' o').2 (Nat.le_refl _), q _ ρ2 Dl _ B' H' hk (e1.trans e') (o1.back e' o' hb) hb' (fresh_back o1.s.eg hD) hu' (fun j w hj => n' j w (hb.2.2 j Dl w hj).1) r'⟩
theorem fc_lcRIf (own : List (Str × Nat)) (js : List Nat) (h : IC X Z tg iter ρ fun ds ρ1 => ∃ I : Nat → List D → En → Prop, I 0 [] (wipeE ρ1 (own.map (·.2))) ∧ (∀ i out ρi, i ≤ ds.length → I i out ρi → out.length ≤ 50000) ∧
      (∀ i d out ρi, ds[i]? = some d → I i out ρi → AllB X scope fun X' => GT X' tg js d ρi fun ρ3 => AllB X scope fun X' => TC X' Z0 cnd ρ3 fun k ρ5 => (k = true → AllB X scope fun X' => EC X' Z0 elt ρ5 fun y ρ4 => I (i + 1) (out ++ [y]) (wipeE ρ4 (own.map (·.2)))) ∧ (k = false → I (i + 1) out (wipeE ρ5 (own.map (·.2))))) ∧ ∀ out ρ', I ds.length out ρ' → ∃ ρ2, BackE ρ1 ρ' ρ2 ∧ Φ (.l out) ρ2)
    (nd : X.N.Nodup) (hjs : ∀ j ∈ js, j ∈ own.map (·.2)) (ok : BlkOk X.N X.env.scope scope own := by exact blkOk_by (by first | decide +kernel | kernel_rfl)) (hc : X.calm = true := by rfl) (hs : ∀ x, foldedSetIterable iter X.env x = pure x := by intro _; rfl) :
    FC X Z (.ListComp elt [⟨tg, iter, [cnd], 0⟩] scope pos) ρ Φ := fun B G H σ o z Q q => (pe_lc (g := fun v σ H Q => AllB X scope fun X' => wG X' tg v σ H Q) (tt := fun σ H Q => AllB X scope fun X' => wT X' cnd σ H Q) (te := fun σ H Q => AllB X scope fun X' => wE X' elt σ H Q) hc nd p_wI ok (fun s H C cl fp => ⟨fun pins s2 σ2 H2 v u Q2 I r h => h s H C cl fp pins s2 u I r⟩) (fun s H C cl fp => pts_one ⟨fun pins s2 σ2 H2 Q2 I h => h s H C cl fp pins s2 I⟩)
    (fun s H C cl fp => ⟨fun pins s2 σ2 H2 Q2 I h => h s H C cl fp pins s2 I⟩) hs).w (fc_lcRIf_te own js h hjs B G H σ o z Q q)
theorem sc_lcRIf (i : Nat) (own : List (Str × Nat)) (js : List Nat) (h : IC X Z tg iter ρ fun ds ρ1 => ∃ I : Nat → List D → En → Prop, I 0 [] (wipeE ρ1 (own.map (·.2))) ∧ (∀ i out ρi, i ≤ ds.length → I i out ρi → out.length ≤ 50000) ∧
      (∀ i d out ρi, ds[i]? = some d → I i out ρi → AllB X scope fun X' => GT X' tg js d ρi fun ρ3 => AllB X scope fun X' => TC X' Z0 cnd ρ3 fun k ρ5 => (k = true → AllB X scope fun X' => EC X' Z0 elt ρ5 fun y ρ4 => I (i + 1) (out ++ [y]) (wipeE ρ4 (own.map (·.2)))) ∧ (k = false → I (i + 1) out (wipeE ρ5 (own.map (·.2))))) ∧ ∀ out ρ', I ds.length out ρ' → ∃ ρ2, BackE ρ1 ρ' ρ2 ∧ ∀ p, SC X Z sts (ρ2.set i (some (.ow p (.l out)))) O)
    (nd : X.N.Nodup) (hjs : ∀ j ∈ js, j ∈ own.map (·.2)) (ok : BlkOk X.N X.env.scope scope own := by exact blkOk_by (by first | decide +kernel | kernel_rfl)) (hc : X.calm = true := by rfl) (hs : ∀ x, foldedSetIterable iter X.env x = pure x := by intro _; rfl)
    (hy : X.N[i]? = some y := by rfl) (hyl : X.env.scope.names.lookup y = some .local := by rfl) (hsw : swapsWith (.ListComp elt [⟨tg, iter, [cnd], 0⟩] scope pos) (some (.Name y py)) spos.line X.env = pure true := by rfl) :
    SC X Z (.Assign [.Name y py] (.ListComp elt [⟨tg, iter, [cnd], 0⟩] scope pos) spos :: sts) ρ O :=
  sc_of (ps_setLc (g := fun v σ H Q => AllB X scope fun X' => wG X' tg v σ H Q) (tt := fun σ H Q => AllB X scope fun X' => wT X' cnd σ H Q) (te := fun σ H Q => AllB X scope fun X' => wE X' elt σ H Q) hc nd hy hyl hsw p_wI ok (fun s H C cl fp => ⟨fun pins s2 σ2 H2 v u Q2 I r h => h s H C cl fp pins s2 u I r⟩) (fun s H C cl fp => pts_one ⟨fun pins s2 σ2 H2 Q2 I h => h s H C cl fp pins s2 I⟩)
    (fun s H C cl fp => ⟨fun pins s2 σ2 H2 Q2 I h => h s H C cl fp pins s2 I⟩) hs) fun B G H σ Dd o z sv => fc_lcRIf_te (Φ := fun oo ρ2 => ∀ p, SC X Z sts (ρ2.set i (some (.ow p oo))) O) own js h hjs B G H σ o z _ fun oo ρ1 p u B1 H1 h1 e1 o1 hb hg hu hn r1 => (h1 p).go (o1.set_ow hb hg hu r1 fun j q hj => absurd hj (hn j q)) z sv e1

end
end AL
namespace AL
open PySem PySem.Spec PyProof.Rows L2 Evl
/-! ### math.isqrt of a number below 2 ^ 64 -/
section
variable {X : Cx} {Z : Zx} {e : Expr} {es : List Expr} {ρ : En} {Φ : D → En → Prop} {p pos : Pos} {x : Str}
def rIsq : List V → Hp → VK → Prop := fun vs H Q => ∃ a : Int, vs = [.int a] ∧ 0 ≤ a ∧ a < 2 ^ 64 ∧ Q (.int ((Float64.isqrt a.toNat : Nat) : Int)) H
theorem cr_isq : CallR X (.builtin "math.isqrt") rIsq := by
  intro pins s σ H vs us Q I r h
  obtain ⟨a, rfl, h0, h1, q⟩ := h
  obtain ⟨u, rfl, ru⟩ := vals1 r
  obtain ⟨t, rfl⟩ := ru
  refine PySem.W.mg_isqrt h0 h1 ?_
  exact ⟨.int _, H, I.tok _, ⟨_, rfl⟩, q⟩
/-- a built-in under a name of the program: from .. import .. -/
theorem ec_gcb {id : String} {r : List V → Hp → VK → Prop} (hc : CallR X (.builtin id) r) (hm : X.mg x = some (.builtin id)) (h : AC X Z (e :: es) ρ fun ds ρ1 => ∃ Post, GivesB X.K r ds Post ∧ ∀ d, Post d → Φ d ρ1) (hg : Gl X x := by rfl) (hdb : (x == ("__debug__" : Str)) = false := by decide)
    (he : starEach (e :: es) X.env = (false, eval e X.env) :: starEach es X.env := by rfl) (hpl : (backTo pos (starEach es X.env)).any (·.1) = false := by rfl) : EC X Z (.Call (.Name x p) (e :: es) [] pos) ρ Φ := fun B G H σ o z Q q =>
  (StS.pe_callG hc hg hm p_wA hdb (he := he) (hpl := hpl)).w (h B G H σ o z _ fun ds ρ1 vs B1 H1 ⟨Post, g, hk⟩ e1 o1 r1 => gb_end o1 e1 r1 g hk q)
theorem gb_isq {K : PySem.W.Frag} {a : Int} (h0 : 0 ≤ a) (h1 : a < 2 ^ 64) : GivesB K rIsq [.int a] (· = .int ((Float64.isqrt a.toNat : Nat) : Int)) := fun B G H vs s r Q q1 q2 => by
  have := reps_int (ns := [a]) r
  subst this
  exact ⟨a, rfl, h0, h1, q1 _ _ rfl (.int _)⟩
theorem ec_isq (hm : X.mg x = some (.builtin "math.isqrt")) (h : EC X Z e ρ fun d ρ1 => ∃ a : Int, d = .int a ∧ 0 ≤ a ∧ a < 2 ^ 64 ∧ Φ (.int ((Float64.isqrt a.toNat : Nat) : Int)) ρ1) (hg : Gl X x := by rfl) (hdb : (x == ("__debug__" : Str)) = false := by decide)
    (he : starEach [e] X.env = (false, eval e X.env) :: starEach [] X.env := by rfl) (hpl : (backTo pos (starEach [] X.env)).any (·.1) = false := by rfl) : EC X Z (.Call (.Name x p) [e] [] pos) ρ Φ :=
  ec_gcb cr_isq hm (ac_cons (h.mono fun d ρ1 ⟨a, e1, h0, h1, k⟩ => by subst e1; exact ac_nil ⟨_, gb_isq h0 h1, fun d' hd => by subst hd; exact k⟩) (hs := he)) hg hdb he hpl
end
end AL
namespace AL
open PySem PySem.Spec PyProof.Rows L2 Evl
/-! ### a table of numbers: a list of lists that is written into -/
abbrev Mx := List (List Int)
def iD (r : List Int) : D := .lst (r.map D.int)
def mD (M : Mx) : D := .lst (M.map iD)
def rowAt : List Addr → Mx → Addr → Option (List Int)
  | b :: rs, r :: M, a => if a = b then some r else rowAt rs M a
  | _, _, _ => none
/-- the objects of a table over a heap -/
def ov (B : Hp) (t : Addr) (rs : List Addr) (M : Mx) : Hp := fun a => if a = t then some (.lst (rs.map V.ref)) else match rowAt rs M a with
  | some r => some (.lst (r.map V.int))
  | none => B a
def cut (B : Hp) (t : Addr) (rs : List Addr) : Hp := fun a => if a = t ∨ a ∈ rs then none else B a
def noOw (ρ : En) : Bool := ρ.all fun s => match s with
  | some (.ow _ _) => false
  | _ => true
theorem noOw_get {ρ : En} (h : noOw ρ = true) {i : Nat} {a : Addr} {o : OO} (e : ρ[i]? = some (some (.ow a o))) : False := by
  have hm : some (Sl.ow a o) ∈ ρ := List.mem_of_getElem? e
  have := List.all_eq_true.mp h _ hm
  simp at this
theorem rowAt_out {a : Addr} : ∀ {rs : List Addr} {M : Mx}, a ∉ rs → rowAt rs M a = none
  | [], _, _ => by cases ‹Mx› <;> rfl
  | b :: rs, [], _ => rfl
  | b :: rs, r :: M, h => by
    show (if a = b then some r else rowAt rs M a) = none
    have hb : a ≠ b := by
      intro z; subst z; exact h List.mem_cons_self
    rw [if_neg hb]
    exact rowAt_out fun z => h (List.mem_cons_of_mem _ z)
theorem rowAt_in {a : Addr} {r : List Int} : ∀ {rs : List Addr} {M : Mx} {i : Nat}, rs.Nodup → rs[i]? = some a → M[i]? = some r → rowAt rs M a = some r
  | [], _, i, _, h, _ => by simp at h
  | b :: rs, [], i, _, _, h => by simp at h
  | b :: rs, q :: M, 0, _, h1, h2 => by
    simp at h1 h2; subst h1; subst h2
    show (if b = b then some q else _) = _
    rw [if_pos rfl]
  | b :: rs, q :: M, i + 1, nd, h1, h2 => by
    have h1' : rs[i]? = some a := by simpa using h1
    have hb : a ≠ b := by
      intro z; subst z; exact (List.nodup_cons.mp nd).1 (List.mem_of_getElem? h1')
    show (if a = b then some q else rowAt rs M a) = _
    rw [if_neg hb]
    exact rowAt_in (List.nodup_cons.mp nd).2 h1' (by simpa using h2)
theorem rowAt_some {a : Addr} {r : List Int} : ∀ {rs : List Addr} {M : Mx}, rowAt rs M a = some r → a ∈ rs
  | [], _, h => by cases ‹Mx› <;> cases h
  | b :: rs, [], h => by cases h
  | b :: rs, q :: M, h => by
    by_cases e : a = b
    · rw [e]; exact List.mem_cons_self
    · have h' : (if a = b then some q else rowAt rs M a) = some r := h
      rw [if_neg e] at h'
      exact List.mem_cons_of_mem _ (rowAt_some h')
theorem rowAt_full {a : Addr} : ∀ {rs : List Addr} {M : Mx}, rs.length = M.length → a ∈ rs → ∃ r, rowAt rs M a = some r
  | [], _, _, h => by cases h
  | b :: rs, [], h, _ => by cases h
  | b :: rs, q :: M, hl, h => by
    show ∃ r, (if a = b then some q else rowAt rs M a) = some r
    by_cases e : a = b
    · rw [if_pos e]; exact ⟨q, rfl⟩
    · rw [if_neg e]
      exact rowAt_full (by simpa using hl) ((List.mem_cons.mp h).resolve_left e)
theorem ov_t {B : Hp} {t : Addr} {rs : List Addr} {M : Mx} : ov B t rs M t = some (.lst (rs.map V.ref)) := by unfold ov; rw [if_pos rfl]
theorem ov_row {B : Hp} {t a : Addr} {rs : List Addr} {M : Mx} {i : Nat} {r : List Int} (nd : rs.Nodup) (nt : t ∉ rs) (h1 : rs[i]? = some a) (h2 : M[i]? = some r) : ov B t rs M a = some (.lst (r.map V.int)) := by
  have hb : a ≠ t := by
    intro z; subst z; exact nt (List.mem_of_getElem? h1)
  unfold ov
  rw [if_neg hb, rowAt_in nd h1 h2]
theorem ov_out {B : Hp} {t a : Addr} {rs : List Addr} {M : Mx} (h : ¬(a = t ∨ a ∈ rs)) : ov B t rs M a = B a := by
  unfold ov
  rw [if_neg (fun z => h (.inl z)), rowAt_out (fun z => h (.inr z))]
theorem ov_in {B B' : Hp} {t a : Addr} {rs : List Addr} {M : Mx} (hl : rs.length = M.length) (h : a = t ∨ a ∈ rs) : ov B t rs M a = ov B' t rs M a ∧ ∃ xs, ov B t rs M a = some (.lst xs) := by
  unfold ov
  by_cases e : a = t
  · rw [if_pos e, if_pos e]; exact ⟨rfl, _, rfl⟩
  · rw [if_neg e, if_neg e]
    obtain ⟨r, hr⟩ := rowAt_full hl (h.resolve_left e)
    rw [hr]; exact ⟨rfl, _, rfl⟩
structure NOk (K : PySem.W.Frag) (B G H : Hp) (σ : L2.St) (ρ : En) (it : Nat) (t : Addr) (rs : List Addr) (M : Mx) : Prop where
  ok : Ok K B (ov G t rs M) H σ ρ
  sl : σ[it]? = some (some (.ref t))
  nd : rs.Nodup
  nt : t ∉ rs
  len : rs.length = M.length
  gn : ∀ a, a = t ∨ a ∈ rs → G a = none
  nw : noOw ρ = true
section
variable {K : PySem.W.Frag} {B B' G H H' : Hp} {σ : L2.St} {ρ : En} {it : Nat} {t : Addr} {rs : List Addr} {M : Mx}
theorem NOk.heap (n : NOk K B G H σ ρ it t rs M) {a : Addr} (h : a = t ∨ a ∈ rs) : H a = ov G t rs M a ∧ B a = none := by
  obtain ⟨_, xs, e⟩ := ov_in (B := G) (B' := G) n.len h
  exact ⟨by rw [e]; exact n.ok.s.eg _ _ e, n.ok.s.dj _ _ e⟩
theorem NOk.up (n : NOk K B G H σ ρ it t rs M) : Ex B (ov B t rs M) := fun a w hw => by
  by_cases h : a = t ∨ a ∈ rs
  · rw [(n.heap h).2] at hw; cases hw
  · rw [ov_out h]; exact hw
theorem NOk.rep (n : NOk K B G H σ ρ it t rs M) (B' : Hp) : Rep K (ov B' t rs M) (.ref t) (mD M) := by
  refine .lst ov_t ?_
  have : ∀ (rs' : List Addr) (M' : Mx), rs'.length = M'.length → (∀ (i : Nat) (a : Addr) (r : List Int), rs'[i]? = some a → M'[i]? = some r → ov B' t rs M a = some (.lst (r.map V.int))) → Reps K (ov B' t rs M) (rs'.map V.ref) (M'.map iD) := by
    intro rs' M'
    induction rs' generalizing M' with
    | nil => intro hl _; cases M' with
      | nil => exact .nil
      | cons _ _ => cases hl
    | cons b rs' ih => intro hl hh; cases M' with
      | nil => cases hl
      | cons r M' => exact .cons (.lst (hh 0 b r rfl rfl) (int_reps r)) (ih M' (by simpa using hl) fun i a q h1 h2 => hh (i + 1) a q (by simpa using h1) (by simpa using h2))
  exact this rs M n.len fun i a r h1 h2 => ov_row n.nd n.nt h1 h2
theorem NOk.freeze (n : NOk K B G H σ ρ it t rs M) : Ok K (ov B t rs M) G H σ (ρ.set it (some (.im (mD M)))) := by
  have o1 : Ok K (ov B t rs M) G H σ ρ := by
    refine ⟨⟨fun a w hw => ?_, fun a w hw => ?_, fun a w hw => ?_, fun a w hw hk => n.up _ _ (n.ok.s.tp a w hw hk)⟩, n.ok.len, fun i d hd => ?_, fun i a o h => (noOw_get n.nw h).elim, n.ok.ne⟩
    · by_cases h : a = t ∨ a ∈ rs
      · rw [(n.heap h).1, (ov_in (B := G) (B' := B) n.len h).1]; exact hw
      · rw [ov_out h] at hw; exact n.ok.s.ex a w hw
    · have h : ¬(a = t ∨ a ∈ rs) := fun z => by rw [n.gn a z] at hw; cases hw
      exact n.ok.s.eg a w (by rw [ov_out h]; exact hw)
    · have h : ¬(a = t ∨ a ∈ rs) := fun z => by rw [n.gn a z] at hw; cases hw
      rw [ov_out h]
      exact n.ok.s.dj a w (by rw [ov_out h]; exact hw)
    · obtain ⟨v, h1, h2⟩ := n.ok.im i d hd
      exact ⟨v, h1, h2.up n.up⟩
  have z := o1.set_im (i := it) (n.rep B)
  rwa [set_getq n.sl] at z
theorem NOk.thaw (n : NOk K B G H σ ρ it t rs M) {ρf : En} (o' : Ok K B' G H' σ ρf) (e : Ex (ov B t rs M) B') : Ex B (cut B' t rs) ∧ NOk K (cut B' t rs) G H' σ ρ it t rs M := by
  have hout : ∀ {a : Addr}, ¬(a = t ∨ a ∈ rs) → cut B' t rs a = B' a := fun h => by unfold cut; rw [if_neg h]
  have hin : ∀ {a : Addr}, (a = t ∨ a ∈ rs) → cut B' t rs a = none := fun h => by unfold cut; rw [if_pos h]
  have eb : Ex B (cut B' t rs) := fun a w hw => by
    have h : ¬(a = t ∨ a ∈ rs) := fun z => by rw [(n.heap z).2] at hw; cases hw
    rw [hout h]
    exact e a w (by rw [ov_out h]; exact hw)
  have sub : ∀ a w, cut B' t rs a = some w → B' a = some w := fun a w hw => by
    by_cases h : a = t ∨ a ∈ rs
    · rw [hin h] at hw; cases hw
    · rw [hout h] at hw; exact hw
  refine ⟨eb, ⟨⟨⟨fun a w hw => o'.s.ex a w (sub a w hw), fun a w hw => ?_, fun a w hw => ?_, fun a w hw hk => ?_⟩, n.ok.len, fun i d hd => ?_, fun i a o h => (noOw_get n.nw h).elim, n.ok.ne⟩, n.sl, n.nd, n.nt, n.len, n.gn, n.nw⟩⟩
  · by_cases h : a = t ∨ a ∈ rs
    · exact o'.s.ex a w (e a w (by rw [(ov_in (B := B) (B' := G) n.len h).1]; exact hw))
    · rw [ov_out h] at hw; exact o'.s.eg a w hw
  · by_cases h : a = t ∨ a ∈ rs
    · exact hin h
    · rw [hout h]; rw [ov_out h] at hw; exact o'.s.dj a w hw
  · have hb := o'.s.tp a w hw hk
    by_cases h : a = t ∨ a ∈ rs
    · obtain ⟨_, xs, ex⟩ := ov_in (B := B) (B' := B) n.len h
      rw [e _ _ ex] at hb; cases hb; cases hk
    · rw [hout h]; exact hb
  · obtain ⟨v, h1, h2⟩ := n.ok.im i d hd
    exact ⟨v, h1, h2.up eb⟩
/-- a later heap and environment, the table as it was -/
theorem NOk.next (n : NOk K B G H σ ρ it t rs M) {σ' : L2.St} {ρ' : En} (o' : Ok K B' (ov G t rs M) H' σ' ρ') (hs : σ'[it]? = σ[it]?) (nw : noOw ρ' = true) : NOk K B' G H' σ' ρ' it t rs M :=
  ⟨o', hs.trans n.sl, n.nd, n.nt, n.len, n.gn, nw⟩
/-- a new row -/
theorem NOk.push (n : NOk K B G H σ ρ it t rs M) {a : Addr} {row : List Int} (hb : B a = none) (hg : ov G t rs M a = none) (hu : H a = some (.lst (row.map V.int))) : NOk K B G (upd H t (.lst (rs.map V.ref ++ [.ref a]))) σ ρ it t (rs ++ [a]) (M ++ [row]) := by
  have hna : ¬(a = t ∨ a ∈ rs) := fun z => by
    obtain ⟨_, xs, ex⟩ := ov_in (B := G) (B' := G) n.len z
    rw [ex] at hg; cases hg
  have hga : G a = none := by rw [ov_out hna] at hg; exact hg
  have nd : (rs ++ [a]).Nodup := by
    rw [List.nodup_append]
    refine ⟨n.nd, by simp, fun x hx y hy z => ?_⟩
    simp at hy; subst hy; subst z; exact hna (.inr hx)
  have nt : t ∉ rs ++ [a] := fun z => by
    rcases List.mem_append.mp z with z | z
    · exact n.nt z
    · simp at z; exact hna (.inl z.symm)
  have hl : (rs ++ [a]).length = (M ++ [row]).length := by simp [n.len]
  have key : ∀ b w, ov G t (rs ++ [a]) (M ++ [row]) b = some w → (b = t ∧ w = .lst ((rs ++ [a]).map V.ref)) ∨ (b ≠ t ∧ b = a ∧ w = .lst (row.map V.int)) ∨ (b ≠ t ∧ b ≠ a ∧ ov G t rs M b = some w) := by
    intro b w hw
    by_cases h1 : b = t
    · subst h1; rw [ov_t] at hw; exact .inl ⟨rfl, (Option.some.inj hw).symm⟩
    · by_cases h2 : b = a
      · subst h2
        rw [ov_row (i := rs.length) (r := row) nd nt (by simp) (by rw [n.len]; simp)] at hw
        exact .inr (.inl ⟨h1, rfl, (Option.some.inj hw).symm⟩)
      · refine .inr (.inr ⟨h1, h2, ?_⟩)
        by_cases h3 : b ∈ rs
        · obtain ⟨i, hi, rfl⟩ := List.getElem_of_mem h3
          have g1 : rs[i]? = some rs[i] := List.getElem?_eq_getElem hi
          have him : i < M.length := by rw [← n.len]; exact hi
          have g2 : M[i]? = some M[i] := List.getElem?_eq_getElem him
          rw [ov_row n.nd n.nt g1 g2]
          rw [ov_row nd nt (by rw [List.getElem?_append_left hi]; exact g1) (by rw [List.getElem?_append_left him]; exact g2)] at hw
          exact hw
        · rw [ov_out (fun z => by rcases z with z | z; exact h1 z; rcases List.mem_append.mp z with z | z; exact h3 z; simp at z; exact h2 z)] at hw
          rw [ov_out (fun z => by rcases z with z | z; exact h1 z; exact h3 z)]; exact hw
  have hbt := (n.heap (.inl rfl)).2
  refine ⟨⟨⟨Ex.mut n.ok.s.ex hbt, fun b w hw => ?_, fun b w hw => ?_, fun b w hw hk => ?_⟩, n.ok.len, n.ok.im, fun i b o h => (noOw_get n.nw h).elim, n.ok.ne⟩, n.sl, nd, nt, hl, fun b hb' => ?_, n.nw⟩
  · rcases key b w hw with ⟨rfl, rfl⟩ | ⟨h1, rfl, rfl⟩ | ⟨h1, h2, h3⟩
    · rw [upd_same]; simp
    · rw [upd_ne h1]; exact hu
    · rw [upd_ne h1]; exact n.ok.s.eg b w h3
  · rcases key b w hw with ⟨rfl, rfl⟩ | ⟨h1, rfl, rfl⟩ | ⟨h1, h2, h3⟩
    · exact hbt
    · exact hb
    · exact n.ok.s.dj b w h3
  · by_cases h1 : b = t
    · subst h1; rw [upd_same] at hw; cases hw; cases hk
    · rw [upd_ne h1] at hw; exact n.ok.s.tp b w hw hk
  · rcases hb' with h | h
    · exact n.gn b (.inl h)
    · rcases List.mem_append.mp h with h | h
      · exact n.gn b (.inr h)
      · simp at h; subst h; exact hga
/-- a cell is written -/
theorem NOk.put (n : NOk K B G H σ ρ it t rs M) {a : Addr} {i j : Nat} {row : List Int} {k : Int} (ha : rs[i]? = some a) (hr : M[i]? = some row) : H a = some (.lst (row.map V.int)) ∧ NOk K B G (upd H a (.lst ((row.map V.int).set j (.int k)))) σ ρ it t rs (M.set i (row.set j k)) := by
  have hin : a ∈ rs := List.mem_of_getElem? ha
  have hat : a ≠ t := by
    intro z; subst z; exact n.nt hin
  have hi : i < rs.length := (List.getElem?_eq_some_iff.mp ha).1
  have hba := (n.heap (.inr hin)).2
  have hl : rs.length = (M.set i (row.set j k)).length := by simp [n.len]
  refine ⟨by rw [(n.heap (.inr hin)).1]; exact ov_row n.nd n.nt ha hr, ⟨⟨⟨Ex.mut n.ok.s.ex hba, fun b w hw => ?_, fun b w hw => ?_, fun b w hw hk => ?_⟩, n.ok.len, n.ok.im, fun i b o h => (noOw_get n.nw h).elim, n.ok.ne⟩, n.sl, n.nd, n.nt, hl, n.gn, n.nw⟩⟩
  · by_cases h1 : b = a
    · subst h1
      rw [ov_row n.nd n.nt ha (r := row.set j k) (by rw [List.getElem?_set_self (by rw [← n.len]; exact hi)])] at hw
      rw [upd_same, ← hw, List.map_set]
    · rw [upd_ne h1]
      refine n.ok.s.eg b w ?_
      by_cases h2 : b = t
      · subst h2; rw [ov_t] at hw ⊢; exact hw
      · by_cases h3 : b ∈ rs
        · obtain ⟨c, hc, rfl⟩ := List.getElem_of_mem h3
          have g1 : rs[c]? = some rs[c] := List.getElem?_eq_getElem hc
          have him : c < M.length := by rw [← n.len]; exact hc
          have g2 : M[c]? = some M[c] := List.getElem?_eq_getElem him
          have hci : i ≠ c := fun z => by subst z; rw [ha] at g1; exact h1 (Option.some.inj g1).symm
          rw [ov_row n.nd n.nt g1 (r := M[c]) (by rw [List.getElem?_set_ne hci]; exact g2)] at hw
          rw [ov_row n.nd n.nt g1 g2]; exact hw
        · rw [ov_out (fun z => z.elim h2 h3)] at hw
          rw [ov_out (fun z => z.elim h2 h3)]; exact hw
  · by_cases h : b = t ∨ b ∈ rs
    · exact (n.heap h).2
    · rw [ov_out h] at hw; exact n.ok.s.dj b w (by rw [ov_out h]; exact hw)
  · by_cases h1 : b = a
    · subst h1; rw [upd_same] at hw; cases hw; cases hk
    · rw [upd_ne h1] at hw; exact n.ok.s.tp b w hw hk
end
/-! ### statements over a table -/
structure NO where
  nx : En → Mx → Prop
  rt : Rs → En → Prop
structure NServes (K : PySem.W.Frag) (B G : Hp) (it : Nat) (O : NO) (Dd : Ends) : Prop where
  nx : ∀ ρ' M' σ' B' H' t rs, O.nx ρ' M' → Ex B B' → NOk K B' G H' σ' ρ' it t rs M' → Dd.nx σ' H'
  rt : ∀ r ρ' v σ' B' H', O.rt r ρ' → Ex B B' → Ok K B' G H' σ' ρ' → RsR K B' G H' ρ' v r → Dd.rt v H'
theorem NServes.up {K : PySem.W.Frag} {B B' G : Hp} {it : Nat} {O : NO} {Dd : Ends} (h : NServes K B G it O Dd) (e : Ex B B') : NServes K B' G it O Dd :=
  ⟨fun ρ' M' σ' B2 H2 t rs a e2 => h.nx ρ' M' σ' B2 H2 t rs a (e.trans e2), fun r ρ' v σ' B2 H2 a e2 => h.rt r ρ' v σ' B2 H2 a (e.trans e2)⟩
def SN (X : Cx) (it : Nat) (sts : List Stmt) (ρ : En) (M : Mx) (O : NO) : Prop := ∀ B G H σ Dd t rs, NOk X.K B G H σ ρ it t rs M → NServes X.K B G it O Dd → wSs X sts Dd σ H
section
variable {X : Cx} {e c tg iter : Expr} {ρ : En} {M : Mx} {O : NO} {P : Outs} {st : Stmt} {sts a b body : List Stmt} {pos : Pos} {it : Nat}
theorem SN.go {B B' G H : Hp} {σ : L2.St} {Dd : Ends} {ρ' : En} {t : Addr} {rs : List Addr} (h : SN X it sts ρ' M O) (n : NOk X.K B' G H σ ρ' it t rs M) (s : NServes X.K B G it O Dd) (e : Ex B B') : wSs X sts Dd σ H := h B' G H σ Dd t rs n (s.up e)
theorem sn_nil (h : O.nx ρ M) : SN X it [] ρ M O := fun B G H σ Dd t rs n s => pss_nil.w (s.nx ρ M σ B H t rs h (Ex.refl B) n)
theorem sn_of {t : TS} (p : PS X st t) (h : ∀ B G H σ Dd u rs, NOk X.K B G H σ ρ it u rs M → NServes X.K B G it O Dd → t { Dd with nx := wSs X sts Dd } σ H) : SN X it (st :: sts) ρ M O := fun B G H σ Dd u rs n s =>
  (pss_cons p p_wSs).w (h B G H σ Dd u rs n s)
/-- an owned empty list becomes a table -/
theorem sn_enter (it : Nat) {p : Addr} (hd : ρ[it]? = some (some (.ow p (.l [])))) (nw : noOw (ρ.set it none) = true) (h : SN X it sts (ρ.set it none) [] ⟨fun _ _ => False, P.rt⟩) : SC X Z0 sts ρ P := fun B G H σ Dd o z s => by
  obtain ⟨h1, h2, h3, u, h4, h5⟩ := o.ow it p _ hd
  cases u with
  | lst vs =>
    cases h5
    have o1 : Ok X.K B G H σ (ρ.set it none) := by
      have z1 := o.drop (i := it) (x := some (.ref p))
      rwa [set_getq h1] at z1
    have key : ∀ b w, ov G p [] [] b = some w → (b = p ∧ w = .lst []) ∨ G b = some w := fun b w hw => by
      by_cases e : b = p
      · subst e; rw [ov_t] at hw; exact .inl ⟨rfl, (Option.some.inj hw).symm⟩
      · rw [ov_out (fun z => z.elim e fun z => List.not_mem_nil z)] at hw; exact .inr hw
    have n : NOk X.K B G H σ (ρ.set it none) it p [] [] := by
      refine ⟨⟨⟨o1.s.ex, fun b w hw => ?_, fun b w hw => ?_, o1.s.tp⟩, o1.len, o1.im, fun i a o h => (noOw_get nw h).elim, o1.ne⟩, h1, .nil, (fun z => List.not_mem_nil z), rfl, fun b hb => ?_, nw⟩
      · rcases key b w hw with ⟨rfl, rfl⟩ | hw
        · exact h4
        · exact o1.s.eg b w hw
      · rcases key b w hw with ⟨rfl, rfl⟩ | hw
        · exact h2
        · exact o1.s.dj b w hw
      · rcases hb with rfl | hb
        · exact h3
        · cases hb
    exact h B G H σ Dd p [] n ⟨fun _ _ _ _ _ _ _ x => x.elim, s.rt⟩
  | _ => exact False.elim h5
/-- the table is known from now on -/
theorem sn_done (h : SC X Z0 sts (ρ.set it (some (.im (mD M)))) { nx := fun _ => False, rt := O.rt }) : SN X it sts ρ M O := fun B G H σ Dd t rs n s =>
  h _ G H σ Dd n.freeze RC.none ⟨fun _ _ _ _ x => x.elim, fun r ρ' v σ' B' H' x e => s.rt r ρ' v σ' B' H' x (n.up.trans e), fun _ _ _ _ x => x.elim, fun _ _ _ _ x => x.elim⟩
theorem sn_if (h : TC X Z0 c (ρ.set it (some (.im (mD M)))) fun k _ => (k = true → SN X it a ρ M ⟨fun ρ2 M2 => SN X it sts ρ2 M2 O, O.rt⟩) ∧ (k = false → SN X it b ρ M ⟨fun ρ2 M2 => SN X it sts ρ2 M2 O, O.rt⟩)) : SN X it (.If c a b pos :: sts) ρ M O :=
  sn_of (ps_if p_wT p_wSs p_wSs) fun B G H σ Dd t rs n s => h _ G H σ n.freeze RC.none _ fun k ρ1 B1 H1 ⟨h1, h2⟩ e1 o1 => by
    obtain ⟨eb, n1⟩ := n.thaw o1 e1
    have s' : NServes X.K (cut B1 t rs) G it ⟨fun ρ2 M2 => SN X it sts ρ2 M2 O, O.rt⟩ { Dd with nx := wSs X sts Dd } :=
      ⟨fun ρ' M' σ' B' H' t' rs' x e n' => x.go n' (s.up eb) e, (s.up eb).rt⟩
    cases k with
    | true => exact h1 rfl _ G H1 σ _ t rs n1 s'
    | false => exact h2 rfl _ G H1 σ _ t rs n1 s'
theorem sn_for {js : List Nat} (h : IC X Z0 tg iter ρ fun ds ρ1 => ρ1 = ρ ∧ it ∉ js ∧ ∃ J : Nat → En → Mx → Prop, J 0 ρ M ∧ (∀ i d ρi Mi, ds[i]? = some d → noOw ρi = true → J i ρi Mi → GT X tg js d ρi fun ρ2 => noOw ρ2 = true ∧ SN X it body ρ2 Mi ⟨J (i + 1), O.rt⟩) ∧ ∀ ρ2 M2, J ds.length ρ2 M2 → SN X it sts ρ2 M2 O)
    (hp : PassesOwn (model X.prog X.w) X.A X.env X.xe) (hc : X.calm = true := by rfl) (hs : ∀ x, foldedSetIterable iter X.env x = pure x := by intro _; rfl) : SN X it (.For tg iter body [] pos :: sts) ρ M O :=
  sn_of (ps_for hp hc p_wI p_wG p_wSs hs) fun B G H σ Dd t rs n s => h B _ H σ n.ok RC.none _ fun ds ρ1 J B1 H1 ⟨er, hj, W, h0, hs, hd⟩ e1 o1 wk => by
    subst er
    refine ⟨fun i m σ' H' => m = ds.length - i ∧ i ≤ ds.length ∧ ∃ B' ρ' t' rs' M', Ex B1 B' ∧ NOk X.K B' G H' σ' ρ' it t' rs' M' ∧ W i ρ' M', ⟨_, rfl, Nat.zero_le _, B1, ρ1, t, rs, M, Ex.refl _, n.next o1 rfl n.nw, h0⟩, ?_⟩
    rintro i m σ' H' ⟨rfl, hi, B', ρ', t', rs', M', e', n', w'⟩
    obtain ⟨go, stop⟩ := wk i B' _ H' σ' ρ' e' n'.ok
    by_cases hlt : i < ds.length
    · have hget : ds[i]? = some ds[i] := by simp [hlt]
      obtain ⟨g1, g2⟩ := go _ hget
      refine .inr ⟨g1, fun σ2 H2 => ∃ B' ρ' t' rs' M', Ex B1 B' ∧ NOk X.K B' G H2 σ2 ρ' it t' rs' M' ∧ W (i + 1) ρ' M', fun σ2 H2 q => ⟨ds.length - (i + 1), by omega, rfl, hlt, q⟩, fun x H2 y => ?_⟩
      obtain ⟨B3, e3, o3, r3⟩ := g2 x H2 y
      refine hs i _ ρ' M' hget n'.nw w' B3 _ H2 σ' x o3 r3 _ fun ρ4 σ4 B4 H4 ⟨nw4, h4⟩ ag e4 o4 => ?_
      have e04 : Ex B B4 := ((e1.trans e').trans e3).trans e4
      exact h4 B4 G H4 σ4 _ t' rs' (n'.next o4 (ag.2 it hj) nw4) ⟨fun ρ5 M5 σ5 B5 H5 t5 rs5 x e5 n5 => ⟨B5, ρ5, t5, rs5, M5, ((e'.trans e3).trans e4).trans e5, n5, x⟩, (s.up e04).rt⟩
    · exact .inl ⟨stop (by omega), (hd ρ' M' (by have : i = ds.length := by omega
                                                 rw [← this]; exact w')).go n' s (e1.trans e')⟩
variable {x y z : Str} {ps apos p p1 p2 q1 q2 q3 : Pos}
/-- table.append(a new list of numbers) -/
theorem sn_app (h : FC X Z0 e ρ fun oo ρ1 => ρ1 = ρ ∧ ∃ row : List Int, oo = .l (row.map D.int) ∧ M.length < 100000 ∧ SN X it sts ρ (M ++ [row]) O)
    (pf : ∀ te, PE X e te → PE X (.Call (.Attribute (.Name x ps) "append" apos) [e] [] p) (tBM X.K "list" rAppend (tVar it) (tCons te tNil)))
    (hs : swapsWith (.Call (.Attribute (.Name x ps) "append" apos) [e] [] p) none pos.line X.env = pure false := by rfl) : SN X it (.Expr (.Call (.Attribute (.Name x ps) "append" apos) [e] [] p) pos :: sts) ρ M O :=
  sn_of (ps_expr (pf _ p_wE) hs) fun B G H σ Dd t rs n s => by
    have ht : H t = some (.lst (rs.map V.ref)) := by rw [(n.heap (.inl rfl)).1, ov_t]
    refine ⟨_, n.sl, .inl ⟨rfl, rs.map V.ref, sq_of ht⟩, h B _ H σ n.ok RC.none _ fun oo ρ1 a u B1 H1 ⟨er, row, eo, hl, hk⟩ e1 o1 hb hg hu hn r1 => ?_⟩
    subst er; subst eo
    cases u with
    | lst vs =>
      have ev : vs = row.map V.int := reps_int r1
      subst ev
      have n1 := n.next o1 rfl n.nw
      have ht1 : H1 t = some (.lst (rs.map V.ref)) := by rw [(n1.heap (.inl rfl)).1, ov_t]
      exact ⟨t, _, _, rfl, rfl, ht1, sz_lt (by rw [List.length_map, n.len]; exact hl), hk.go (n1.push hb hg hu) s e1⟩
    | _ => exact False.elim r1
/-- table[a][b] = e, a number -/
theorem sn_put (i j : Nat) {m k : Nat} {row : List Int} (hi : ρ[i]? = some (some (.im (.int m)))) (hj : ρ[j]? = some (some (.im (.int k)))) (hm : M[m]? = some row) (hk : k < row.length)
    (h : EC X Z0 e (ρ.set it (some (.im (mD M)))) fun d _ => ∃ v, d = .int v ∧ SN X it sts ρ (M.set m (row.set k v)) O)
    (hN : X.N[it]? = some x := by rfl) (hv : Vis X.env.scope x := by first | exact Or.inl rfl | exact Or.inr (Or.inl rfl) | exact Or.inr (Or.inr rfl)) (hdb : (x == ("__debug__" : Str)) = false := by decide) (hcd : (x == ("__classdict__" : Str)) = false := by decide)
    (hN1 : X.N[i]? = some y := by rfl) (hv1 : Vis X.env.scope y := by first | exact Or.inl rfl | exact Or.inr (Or.inl rfl) | exact Or.inr (Or.inr rfl)) (hdb1 : (y == ("__debug__" : Str)) = false := by decide) (hcd1 : (y == ("__classdict__" : Str)) = false := by decide)
    (hN2 : X.N[j]? = some z := by rfl) (hv2 : Vis X.env.scope z := by first | exact Or.inl rfl | exact Or.inr (Or.inl rfl) | exact Or.inr (Or.inr rfl)) (hdb2 : (z == ("__debug__" : Str)) = false := by decide) (hcd2 : (z == ("__classdict__" : Str)) = false := by decide)
    (hpi : PlainIx (.Name y q1) := by exact fun _ _ => rfl)
    (hs : swapsWithSole [.Subscript (.Subscript (.Name x ps) (.Name y q1) q2) (.Name z q3) p1] e pos.line X.env = pure false := by rfl) (hw : swappedStores [.Subscript (.Subscript (.Name x ps) (.Name y q1) q2) (.Name z q3) p1] e X.env = pure none := by rfl)
    (h1 : (assignEach [.Subscript (.Subscript (.Name x ps) (.Name y q1) q2) (.Name z q3) p1] X.env).map (·.2) = [assign (.Subscript (.Subscript (.Name x ps) (.Name y q1) q2) (.Name z q3) p1) X.env] := by rfl)
    (ha : ∀ v, assign (.Subscript (.Subscript (.Name x ps) (.Name y q1) q2) (.Name z q3) p1) X.env v = (do
      let ov ← holding [v] (eval (.Subscript (.Name x ps) (.Name y q1) q2) X.env)
      let iv ← holding [v, ov] (eval (.Name z q3) X.env)
      standAt p1
      holding [v, ov, iv] (setItem ov iv v)
      release [v, ov, iv] []) := by intro _; rfl) : SN X it (.Assign [.Subscript (.Subscript (.Name x ps) (.Name y q1) q2) (.Name z q3) p1] e pos :: sts) ρ M O :=
  sn_of (ps_asg p_wE (pg_sub (pe_ix ix_seq (pe_var hN hv hdb hcd) (pe_var hN1 hv1 hdb1 hcd1) hpi) (pe_var hN2 hv2 hdb2 hcd2) set_list (ha := ha)) hs hw h1) fun B G H σ Dd t rs n s => h _ G H σ n.freeze RC.none _ fun d ρ1 v B1 H1 ⟨w, hd, hk2⟩ e1 o1 r1 => by
    subst hd
    cases r1
    obtain ⟨eb, n1⟩ := n.thaw o1 e1
    obtain ⟨v1, g1, r1⟩ := n1.ok.im i _ hi
    obtain ⟨v2, g2, r2⟩ := n1.ok.im j _ hj
    cases r1; cases r2
    have hm' : m < rs.length := by rw [n.len]; exact (List.getElem?_eq_some_iff.mp hm).1
    have ga : rs[m]? = some rs[m] := List.getElem?_eq_getElem hm'
    have ht1 : H1 t = some (.lst (rs.map V.ref)) := by rw [(n1.heap (.inl rfl)).1, ov_t]
    obtain ⟨p0, p2⟩ := n1.put (j := k) (k := w) ga hm
    refine ⟨_, n1.sl, _, g1, .inl ⟨t, _, m, .ref rs[m], rfl, rfl, sq_of ht1, ?_, _, g2, rs[m], _, k, k, rfl, rfl, p0, ?_, ?_⟩⟩
    · unfold atI
      rw [ixN_nat (by rw [List.length_map]; exact hm')]
      simp [ga]
    · rw [List.length_map]; exact ixN_nat hk
    · exact hk2.go p2 s eb
end
end AL
namespace AL
open PySem PySem.Spec PyProof.Rows L2 Evl
/-! ### defs with an owned object ahead that give a new object -/
def PFor (n : Nat) (S : OO → List D → (OO → OO → Prop) → Prop) : Pr := fun as Φ => ∃ a o ds, as = .ow a o :: ds.map Sl.im ∧ ds.length = n ∧ S o ds fun r o' => Φ (.ret (.fr r) (.ow a o' :: ds.map Sl.im))
def MonoOr (S : OO → List D → (OO → OO → Prop) → Prop) : Prop := ∀ o ds Φ Φ', (∀ d o', Φ d o' → Φ' d o') → S o ds Φ → S o ds Φ'
theorem PFor.len {n : Nat} {S : OO → List D → (OO → OO → Prop) → Prop} {ps : List Str} (h : ps.length = n + 1) : ∀ as Φ, PFor n S as Φ → as.length = ps.length := fun as Φ ⟨a, o, ds, h1, h2, _⟩ => by rw [h1, h, ← h2]; simp
theorem PFor.mono {n : Nat} {S : OO → List D → (OO → OO → Prop) → Prop} (m : MonoOr S) : Mono (PFor n S) := fun as Φ Φ' h ⟨a, o, ds, h1, h2, h3⟩ => ⟨a, o, ds, h1, h2, m _ _ _ _ (fun d o' x => h _ x) h3⟩
def OutOr (a : Addr) (Ψ : OO → OO → Prop) : Outs where
  nx := fun _ => False
  rt := fun r ρ' => match r with
    | .fr d => ∃ o', ρ'[0]? = some (some (.ow a o')) ∧ Ψ d o'
    | .im _ => False
def WantOr (R : Addr → List (Str × D) → Prop) (a : Addr) (ds : List D) (Φ : OO → OO → Prop) : Oc → Prop
  | .ret (.fr d) (.ow a' o' :: as') => a' = a ∧ as' = ds.map Sl.im ∧ Φ d o'
  | .ret _ _ => False
  | .raise C fs => R C fs
section
variable {P : Program} {w : World} {K : PySem.W.Frag} {mg : Str → Option Value} {base : Heap} {x qual : Str} {params : Arguments} {body : List Stmt} {scope : Scope} {f : Addr} {fd : FuncData} {N ps : List Str} {k n : Nat}
theorem cal_for {S : OO → List D → (OO → OO → Prop) → Prop} (F : FunD K x qual params body scope [] [] f fd) (hm : mg x = some (.ref f)) (Sc : FnScope N ps scope) (hn : ps.length = n + 1)
    (hb : ∀ (kV doc pm : Value) (an : Option Addr) (cdv ct : Value) (us : List Value), us.length = ps.length → bindArgs (PySem.W.fnOf x qual params body scope .none kV doc pm an cdv ct) ⟨us, []⟩ = pure (ps.zip us))
    (h : ∀ cdv A outer s H E, Room k (bodyX P w K mg base N qual scope f cdv A outer s H E).A → ∀ a o ds Ψ, ds.length = n → S o ds Ψ → SC (bodyX P w K mg base N qual scope f cdv A outer s H E) Z0 body (envO N.length a o ds) (OutOr a Ψ)) :
    Cal P w K mg base x (k + 1) (PFor n S) :=
  ⟨f, fd, ps, def_ok F Sc (PFor.len hn) (fun cdv A outer s H E hr tk as Φ ⟨a, oo, ds, h1, h2, h3⟩ => by
    subst h1
    have es : startE N.length (Sl.ow a oo :: ds.map Sl.im) = envO N.length a oo ds := by
      unfold startE envO envD
      rw [List.map_cons, List.cons_append, List.map_map, List.length_cons, List.length_map]
      have e : N.length - (ds.length + 1) = N.length - 1 - ds.length := by omega
      rw [e]; rfl
    rw [es]
    intro B G H σ Dd o z sv
    have same : ∀ o', SameSl (Sl.ow a oo :: ds.map Sl.im) (Sl.ow a o' :: ds.map Sl.im) := fun o' => .ow (.refl _)
    have rows : ∀ {ρ' : En} {o' : OO}, ρ'[0]? = some (some (Sl.ow a o')) → ∀ (i : Nat) (b : Addr) (q : OO), (Sl.ow a o' :: ds.map Sl.im)[i]? = some (Sl.ow b q) → ρ'[i]? = some (some (Sl.ow b q)) := fun h0 i b q e => by
      cases i with
      | zero => simp at e; obtain ⟨rfl, rfl⟩ := e; exact h0
      | succ i =>
        have e' : (ds.map Sl.im)[i]? = some (Sl.ow b q) := by simpa using e
        rw [List.getElem?_map] at e'
        cases e2 : ds[i]? <;> rw [e2] at e' <;> simp at e'
    refine (h cdv A outer s _ E hr a oo ds _ h2 h3) B G _ σ Dd o RC.none ⟨fun ρ' σ' B' H' a => a.elim, fun r ρ' v σ' B' H' hr => ?_, fun ρ' σ' B' H' a => a.elim, fun ρ' σ' B' H' a => a.elim⟩
    cases r with
    | fr d => obtain ⟨o', h0, hp⟩ := hr; exact sv.rt _ ρ' v σ' B' H' ⟨_, same o', hp, rows h0⟩
    | im d => exact False.elim hr), hm, F.kp, F.bindsN hb⟩
end
section
variable {X : Cx} {Z : Zx} {e : Expr} {es : List Expr} {ρ : En} {Φ : OO → En → Prop} {p pos ps : Pos} {x f : Str} {k n : Nat}
/-- f(x, ..), x an object of one's own: a new object -/
theorem fc_cor {S : OO → List D → (OO → OO → Prop) → Prop} (i : Nat) {a : Addr} {oo : OO} (hd : ρ[i]? = some (some (.ow a oo))) (c : Cal X.prog X.w X.K X.mg X.base f k (PFor n S)) (hr : Room k X.A) (hx : PassW X Z) (mo : MonoOr S)
    (h : AC X Z es ρ fun ds ρ1 => ∃ o1, ρ1[i]? = some (some (.ow a o1)) ∧ ds.length = n ∧ S o1 ds fun d o' => Φ d (ρ1.set i (some (.ow a o'))))
    (hg : Gl X f := by rfl) (hdf : (f == ("__debug__" : Str)) = false := by decide) (hN : X.N[i]? = some x := by rfl) (hv : Vis X.env.scope x := by first | exact Or.inl rfl | exact Or.inr (Or.inl rfl) | exact Or.inr (Or.inr rfl)) (hdb : (x == ("__debug__" : Str)) = false := by decide) (hcd : (x == ("__classdict__" : Str)) = false := by decide)
    (he : starEach (.Name x ps :: es) X.env = (false, eval (.Name x ps) X.env) :: starEach es X.env := by rfl) (hpl : (backTo pos (starEach es X.env)).any (·.1) = false := by rfl) : FC X Z (.Call (.Name f p) (.Name x ps :: es) [] pos) ρ Φ := fun B G H σ o z Q q => by
  obtain ⟨fa, fd, pss, F, hm, kp, bd⟩ := c.ex
  obtain ⟨g0, _⟩ := o.ow i a oo hd
  refine (pe_callS (E := fun σ c d H => Z.E c d σ H) F hr hg hm kp bd hx (pa_cons (pe_var hN hv hdb hcd) p_wA he) hdf he hpl).w ?_
  refine ⟨_, g0, h B G H σ o z _ fun ds ρ1 vs B1 H1 ⟨o1, hd1, hl, hS⟩ e1 ok1 r1 => ?_⟩
  refine ⟨B1, rest B1 H1 (some a), Sl.ow a o1 :: ds.map Sl.im, ok1.call1 hd1 r1, PFor.mono mo _ (WantOr (fun C fs => Z.R C fs (ρ1.set i none)) a ds fun d o' => Φ d (ρ1.set i (some (.ow a o')))) _ ?_ ⟨a, o1, ds, rfl, hl, mo _ _ _ _ (fun d o' hk => ⟨rfl, rfl, hk⟩) hS⟩⟩
  intro oc hoc
  match oc, hoc with
  | .ret (.fr d) (.ow a' o' :: as'), ⟨q1, q2, hk⟩ =>
    subst q1; subst q2
    intro v B' H' e2 ok2 rv
    obtain ⟨b, u, rfl, h2, h3, h4, h5, h6⟩ := rv
    have hba : b ≠ a' := fun z => by subst z; exact h5 0 o' rfl
    have hH1 : H1 b = none := by
      cases eh : H1 b with
      | none => rfl
      | some w =>
        have hb1 : B1 b = none := fresh_back e2 h2
        have : rest B1 H1 (some a') b = some w := by
          unfold rest
          rw [if_neg (by simpa using hba), if_neg (by simp [hb1])]; exact eh
        rw [this] at h3; cases h3
    have o3 := ok1.behind1 hd1 e2 ok2 (j := 0) rfl
    refine q d _ b u B' H' hk (e1.trans e2) o3 h2 (fresh_back ok1.s.eg hH1) h4 (fun j w hj => ?_) h6
    rw [getq_set] at hj
    split at hj
    · simp at hj; exact hba hj.1.symm
    · split at hj
      · simp at hj
      · obtain ⟨_, _, _, y, hy, _⟩ := ok1.ow j b w hj
        rw [hH1] at hy; cases hy
  | .raise C fs, hR =>
    intro dd B' H' e2 s3 er
    exact z C fs dd B' H' σ _ hR (e1.trans e2) (ok1.behind1d hd1 e2 s3) er
end
end AL
namespace AL
open PySem PySem.Spec PyProof.Rows L2 Evl
theorem g_inDL {K : PySem.W.Frag} {d e : D} {p : PyData} {qs : List PyData} (hp : pyD d = some p) (hq : pyD e = some (.list qs)) (sp : SeqAt.shaped p = true) (sq : SeqAt.shaped (.list qs) = true) : Gives K (rInD K) d e (.bl (qs.any fun z => PyData.eqv z p)) := fun B G H x y s r1 r2 =>
  ⟨_, .bl _, fun Q k => ⟨p, qs, rep_dp s.ex d r1 hp, rep_dp s.ex e r2 hq, sp, sq, k⟩⟩
theorem g_niDL {K : PySem.W.Frag} {d e : D} {p : PyData} {qs : List PyData} (hp : pyD d = some p) (hq : pyD e = some (.list qs)) (sp : SeqAt.shaped p = true) (sq : SeqAt.shaped (.list qs) = true) : Gives K (rNotInD K) d e (.bl (!qs.any fun z => PyData.eqv z p)) := fun B G H x y s r1 r2 =>
  ⟨_, .bl _, fun Q k => ⟨p, qs, rep_dp s.ex d r1 hp, rep_dp s.ex e r2 hq, sp, sq, k⟩⟩
theorem shp_rowsL (ks : List (List Int)) : SeqAt.shaped (.list (ks.map pyI)) = true := by
  unfold SeqAt.shaped
  rw [Bool.and_eq_true, decide_eq_true_eq]
  have := dep_rows ks
  exact ⟨by rw [PyData.canLay0]; exact lay_rows ks, by rw [PyData.depth]; omega⟩
theorem py_rowsL (ks : List (List Int)) : pyD (.lst (ks.map tupI)) = some (.list (ks.map pyI)) := by
  rw [pyD, pyDs_map tupI pyI py_tupI ks]
section
variable {X : Cx} {Z : Zx} {a b : Expr} {ρ : En} {Φ : D → En → Prop} {Ψ : Bool → En → Prop} {pos : Pos}
/-- a not in b: a tuple of ints in a list of such -/
theorem tc_niL (hu : X.A.units + 65 < cLine) (h : EC X Z a ρ fun d ρ1 => EC X Z b ρ1 fun d' ρ2 => ∃ (k : List Int) (ks : List (List Int)), d = tupI k ∧ d' = .lst (ks.map tupI) ∧ Ψ (!decide (k ∈ ks)) ρ2) (hm : behindInMarks .NotIn b = false := by rfl) : TC X Z (.Compare a [.NotIn] [b] pos) ρ Ψ :=
  tc_op (op_notInD hu) hm (h.mono fun d ρ1 z => z.mono fun d' ρ2 ⟨k, ks, e1, e2, q⟩ => by subst e1; subst e2; exact ⟨_, g_niDL (py_tupI k) (py_rowsL ks) (shp_row k) (shp_rowsL ks), by rw [any_tupI]; exact q⟩)
end
end AL
namespace AL
open PySem PySem.Spec PyProof.Rows L2 Evl
section
variable {X : Cx} {Z : Zx} {e th : Expr} {ρ : En} {Φ : D → En → Prop} {p2 pos : Pos}
/-- a[:k], a proper part of a tuple -/
theorem ec_slT (h : EC X Z e ρ fun d ρ1 => EC X Z th ρ1 fun d' ρ2 => ∃ (ds : List D) (k : Nat), d = .tup ds ∧ d' = .int k ∧ k < ds.length ∧ Φ (.tup (ds.take k)) ρ2) : EC X Z (.Subscript e (.Slice none (some th) none p2) pos) ρ Φ := fun B G H σ o z Q q => by
  refine (pe_slice sl_tup p_wE po_none (po_some p_wE)).w ?_
  refine h B G H σ o z _ fun d ρ1 v B1 H1 h1 e1 o1 r1 => ?_
  refine h1 B1 G H1 σ o1 (z.up e1) _ fun d' ρ2 y B2 H2 ⟨ds, k, hd, hd', hk, hq⟩ e2 o2 r2 => ?_
  subst hd; subst hd'
  cases r2
  cases r1 with
  | @tup a xs _ hx rs =>
    have hl := rs.length
    have hx2 : SqT X.K H2 a xs := st_of (o2.s.ex _ _ (e2 _ _ hx))
    have s0 : HT.sIx xs.length 0 none = 0 := by simp [HT.sIx]
    have s1 : HT.sIx xs.length xs.length (some (k : Int)) = k := by
      rw [HT.sIx_nat]; omega
    refine ⟨(k : Int), rfl, a, xs, rfl, hx2, fun w => ?_, fun p hp => ?_⟩
    · rw [s1] at w; omega
    · have ec : cutV xs none (some (k : Int)) = xs.take k := by
        unfold cutV
        rw [s0, s1]; simp
      rw [ec]
      obtain ⟨e3, o3⟩ := o2.grow (u := .tup (xs.take k)) hp
      exact q _ ρ2 _ _ _ hq ((e1.trans e2).trans e3) o3 (.tup upd_same ((rs.up (e2.trans e3)).take k))
end
end AL
namespace AL
open PySem PySem.Spec PyProof.Rows L2 Evl
section
variable {X : Cx} {Z : Zx} {a : Expr} {ρ : En} {Φ : D → En → Prop} {p p2 pos pos2 : Pos}
/-- list(range(n)) -/
theorem ec_listRg (h : EC X Z a ρ fun d ρ1 => ∃ n : Nat, d = .int n ∧ n ≤ 50000 ∧ Φ (.lst ((List.range n).map fun (i : Nat) => D.int (i : Int))) ρ1) (hml : X.mg "list" = none) (hmr : X.mg "range" = none)
    (hc : X.calm = true := by rfl) (hgl : Gl X "list" := by rfl) (hgr : Gl X "range" := by rfl) (na : starEach [a] X.env = (false, eval a X.env) :: starEach [] X.env := by rfl)
    (nl : starEach [.Call (.Name "range" p2) [a] [] pos2] X.env = (false, eval (.Call (.Name "range" p2) [a] [] pos2) X.env) :: starEach [] X.env := by rfl) :
    EC X Z (.Call (.Name "list" p) [.Call (.Name "range" p2) [a] [] pos2] [] pos) ρ Φ := fun B G H σ o z Q q => by
  refine (pe_listRg hc hgl hml (prg_1 hgr hmr p_wE na) nl).w ?_
  refine h B G H σ o z _ fun d ρ1 v B1 H1 ⟨n, hd, hn, hk⟩ e1 o1 r1 => ?_
  subst hd; cases r1
  refine ⟨(n : Int), rfl, RgOk.of_le (by omega) (by omega) (by omega) (by omega), fun t ht => ?_⟩
  obtain ⟨e2, o2⟩ := o1.grow (u := .lst (rgV 0 n)) ht
  refine q _ ρ1 _ _ _ hk (e1.trans e2) o2 (.lst upd_same ?_)
  have e : rgV 0 (n : Int) = ((List.range n).map fun (i : Nat) => (i : Int)).map V.int := by
    unfold rgV
    rw [List.map_map]
    have e0 : ((n : Int) - 0).toNat = n := by omega
    rw [e0]
    refine List.map_congr_left fun i _ => ?_
    show V.int (0 + (i : Int)) = V.int (i : Int)
    rw [Int.zero_add]
  have e2 : ((List.range n).map fun (i : Nat) => D.int (i : Int)) = ((List.range n).map fun (i : Nat) => (i : Int)).map D.int := by rw [List.map_map]; rfl
  rw [e, e2]
  exact int_reps _
end
end AL
namespace AL
open PySem PySem.Spec PyProof.Rows L2 Evl RZ
/-! ### max, min of a list of numbers -/
theorem gb_max {K : PySem.W.Frag} {ns : List Int} (h0 : 0 < ns.length) : GivesB K (rMax K) [.lst (ns.map D.int)] (fun d => ∃ m, d = .int m ∧ m ∈ ns ∧ ∀ y ∈ ns, y ≤ m) := fun B G H vs s r Q q1 q2 => by
  cases r with
  | cons r rs =>
    cases rs
    cases r with
    | @lst a xs _ hq rr =>
      have := reps_int rr
      subst this
      exact ⟨a, ns, rfl, sq_of (s.ex _ _ hq), h0, fun m h1 h2 => q1 (.int m) _ ⟨m, rfl, h1, h2⟩ (.int m)⟩
theorem gb_min {K : PySem.W.Frag} {ns : List Int} (h0 : 0 < ns.length) : GivesB K (rMin K) [.lst (ns.map D.int)] (fun d => ∃ m, d = .int m ∧ m ∈ ns ∧ ∀ y ∈ ns, m ≤ y) := fun B G H vs s r Q q1 q2 => by
  cases r with
  | cons r rs =>
    cases rs
    cases r with
    | @lst a xs _ hq rr =>
      have := reps_int rr
      subst this
      exact ⟨a, ns, rfl, sq_of (s.ex _ _ hq), h0, fun m h1 h2 => q1 (.int m) _ ⟨m, rfl, h1, h2⟩ (.int m)⟩
/-! ### zip of two tuples -/
def zipD : List D → List D → List D
  | a :: as, b :: bs => .tup [a, b] :: zipD as bs
  | _, _ => []
theorem zipD_get : ∀ (as bs : List D) (i : Nat), (zipD as bs)[i]? = match as[i]?, bs[i]? with
    | some a, some b => some (.tup [a, b])
    | _, _ => none
  | [], bs, i => by simp [zipD]
  | a :: as, [], i => by simp [zipD]
  | a :: as, b :: bs, 0 => rfl
  | a :: as, b :: bs, i + 1 => by
    show (zipD as bs)[i]? = _
    rw [zipD_get as bs i]; rfl
theorem zipD_len : ∀ as bs : List D, (zipD as bs).length = min as.length bs.length
  | [], bs => by simp [zipD]
  | a :: as, [] => by simp [zipD]
  | a :: as, b :: bs => by
    show (zipD as bs).length + 1 = _
    rw [zipD_len as bs]; simp
theorem walks_zipT {K : PySem.W.Frag} {B : Hp} {x z : Addr} {xs zs : List V} {ds es : List D} (hq : SqT K B x xs) (r : Reps K B xs ds) (hq2 : SqT K B z zs) (r2 : Reps K B zs es) : Walks K B (ItzT K x z) (zipD ds es) := fun i B2 G2 H2 σ2 ρ2 e o => by
  have p1 : SqT K H2 x xs := ex_t o.s.ex (ex_t e hq)
  have p2 : SqT K H2 z zs := ex_t o.s.ex (ex_t e hq2)
  refine ⟨fun d hd => ?_, fun hl => ⟨xs, zs, p1, p2, ?_⟩⟩
  · rw [zipD_get] at hd
    cases h1 : ds[i]? with
    | none => rw [h1] at hd; cases hd
    | some a =>
      cases h2 : es[i]? with
      | none => rw [h1, h2] at hd; cases hd
      | some c =>
        rw [h1, h2] at hd
        cases hd
        obtain ⟨u, hu, ru⟩ := r.get' h1
        obtain ⟨w, hw, rw_⟩ := r2.get' h2
        refine ⟨⟨xs, zs, u, w, p1, p2, hu, hw⟩, fun v H' ⟨T, x', y', ev, hT, eH, hx', hy'⟩ => ?_⟩
        subst ev; subst eH
        have e1 : x' = u := by have z := hx' xs p1; rw [hu] at z; exact (Option.some.inj z).symm
        have e2 : y' = w := by have z := hy' zs p2; rw [hw] at z; exact (Option.some.inj z).symm
        subst e1; subst e2
        obtain ⟨e3, o3⟩ := o.grow (u := .tup [x', y']) hT
        exact ⟨_, e3, o3, .tup upd_same (.cons ((ru.up e).up e3) (.cons ((rw_.up e).up e3) .nil))⟩
  · rw [zipD_len] at hl
    rw [r.length, r2.length]
    omega
section
variable {X : Cx} {Z : Zx} {e e2 a : Expr} {ρ : En} {Φ : List D → En → Prop} {Ψ : Bool → En → Prop} {p pos ps tpos : Pos} {elts : List Expr} {kk : Nat} {x : Str}
/-- for x, y in zip(e, e2), two tuples -/
theorem ic_zipT (hm : X.mg "zip" = none) (h : AC X Z [e, e2] ρ fun ds ρ1 => ∃ as bs, ds = [.tup as, .tup bs] ∧ Φ (zipD as bs) ρ1) (hg : Gl X "zip" := by rfl)
    (hs : starEach [e, e2] X.env = (false, eval e X.env) :: starEach [e2] X.env := by rfl) (hpl : (backTo pos (starEach [e2] X.env)).any (·.1) = false := by rfl) : IC X Z (.Tuple elts kk tpos) (.Call (.Name "zip" p) [e, e2] [] pos) ρ Φ := fun B G H σ o z R q =>
  (pi_zipA hg hm p_wA hs hpl).w (h B G H σ o z _ fun ds ρ1 vs B1 H1 ⟨as, bs, hd, h1⟩ e1 o1 r1 => by
    subst hd
    cases r1 with
    | cons r rs =>
      cases rs with
      | cons r' rs =>
        cases rs
        cases r with
        | tup hq rr =>
          cases r' with
          | tup hq' rr' => exact ⟨_, _, _, _, rfl, .inr ⟨ex_t o1.s.ex (st_of hq), ex_t o1.s.ex (st_of hq'), q _ ρ1 _ B1 H1 h1 e1 o1 (walks_zipT (st_of hq) rr (st_of hq') rr')⟩⟩)
/-- e is not True -/
theorem tc_nTrue {j pos'} (h : EC X Z e ρ fun d ρ1 => ∃ b, d = .bl b ∧ Ψ (!decide (b = true)) ρ1) : TC X Z (.Compare e [.IsNot] [.Constant (.bool true) j pos'] pos) ρ Ψ := fun B G H σ o z Q q =>
  (pt_cmpR op_notBl p_wE pe_bl (nobehind _ (by decide) (by decide))).w (h B G H σ o z _ fun d ρ1 v B1 H1 ⟨b, hd, h1⟩ e1 o1 r1 => by
    subst hd; cases r1
    exact ⟨b, true, rfl, rfl, _, rfl, q _ ρ1 B1 H1 h1 e1 o1⟩)
/-- k not in x, x a dict of one's own (numbers and texts) -/
theorem tc_dniK (i : Nat) (hu : X.A.units + 1 < cLine) (h : EC X Z a ρ fun d ρ1 => ∃ (q : Addr) (kds : List (Key × D)) (k : Key), ρ1[i]? = some (some (.ow q (.k kds))) ∧ keyD d = some k ∧ Ψ (!(valD kds k).isSome) ρ1) (hN : X.N[i]? = some x := by rfl)
    (hv : Vis X.env.scope x := by first | exact Or.inl rfl | exact Or.inr (Or.inl rfl) | exact Or.inr (Or.inr rfl)) (hdb : (x == ("__debug__" : Str)) = false := by decide) (hcd : (x == ("__classdict__" : Str)) = false := by decide) (hm : behindInMarks .NotIn (.Name x ps) = false := by rfl) : TC X Z (.Compare a [.NotIn] [.Name x ps] pos) ρ Ψ := fun B G H σ o z Q q =>
  (pt_cmp (pc_dnotin hu p_wE (pe_var hN hv hdb hcd)) hm).w (h B G H σ o z _ fun d ρ1 v B1 H1 ⟨aq, kds, k, hd, hk, h1⟩ e1 o1 r1 => by
    obtain ⟨g1, _, _, u, g4, g5⟩ := o1.ow i aq _ hd
    cases u with
    | dK kvs =>
      have ev := key_rep r1 hk
      subst ev
      refine ⟨_, g1, aq, valV kvs k, rfl, DGet.k g4, _, rfl, ?_⟩
      have : (valV kvs k).isSome = (valD kds k).isSome := by
        rcases RepK.val (k := k) g5 with ⟨q1, q2⟩ | ⟨_, _, q1, q2, _⟩ <;> rw [q1, q2] <;> rfl
      rw [this]
      exact q _ ρ1 B1 H1 h1 e1 o1
    | _ => exact False.elim g5)
end
end AL
namespace AL
open PySem PySem.Spec PyProof.Rows L2 Evl
abbrev Cl1 := Value × (Addr → Value → Option Addr → TS)
/-- several clauses, each with the same name, slot i: their wishes, each behind the one before -/
def wCl (K : PySem.W.Frag) (i : Nat) (Wo : WX) (D : Ends) : List Cl1 → WX
  | [] => Wo
  | q :: r => wAs K q.1 i q.2 (wCl K i Wo D r) D
inductive Cla (X : Cx) (n : Str) : List ExceptHandler → List Cl1 → Prop
  | nil : Cla X n [] []
  | cons {x : Str} {c : Value} {ts : Addr → Value → Option Addr → TS} {b0 : Stmt} {su : List Stmt} {np p : Pos} {hs : List ExceptHandler} {l : List Cl1} : Names X x c →
      (∀ (a : Addr) (oe : Obj) (cl : Value) (d : Option Addr) (pn : List (Addr × Obj)), Zc cl d oe → (∃ vs, oe.data = .fields vs) → PSs (X.suite a ((a, oe) :: pn)) (b0 :: su) (ts a cl d)) → Cla X n hs l →
      Cla X n (.ExceptHandler (some (.Name x np)) (some n) (b0 :: su) p :: hs) ((c, ts) :: l)
section
variable {X : Cx} {n : Str} {i : Nat} {body : List Stmt} {e0 : ExceptHandler} {es : List ExceptHandler} {l : List Cl1} {pos : Pos} {tb : WX → TS} {Wo : WX}
theorem ps_tries (hs : X.stack = X.env :: X.outer) (hf : X.env.frame = some X.env.locals) (hN : X.N.Nodup) (hi : X.N[i]? = some n) (hln : X.env.kindOf n = some .local) (tk : Takes X Wo)
    (hb : ∀ (W : WX) (pn : List (Addr × Obj)) (xe : Value → Shared → Prop), Takes (X.tr pn xe) W → PassesOwn (model X.prog X.w) X.A X.env xe → PSs (X.tr pn xe) body (tb W))
    (hc : Cla X n (e0 :: es) l) : PS X (.Try body (e0 :: es) [] [] pos) (fun D σ H => tb (wCl X.K i Wo D l) D σ H) := ⟨fun pins s0 σ H D I h => by
  have ok := I.ok
  have fr : X.A.frames = some (X.env :: X.outer) := ok.frames.trans (congrArg some hs)
  have lc : Loc X.env.scope n := .inl hln
  let W := wCl X.K i Wo D l
  let K3 : Value → Shared → Prop := fun v t => wpAny (model X.prog X.w) X.A (handleBy v X.env (e0 :: es)) (SP X pins D) X.xe t
  let K2 : Value → Shared → Prop := fun v t => wpAny (model X.prog X.w) X.A (setFlight v none) (fun _ t2 => K3 v t2) X.xe t
  let K1 : Value → Shared → Prop := fun v t => wpAny (model X.prog X.w) X.A (noteFrame v X.env) (fun _ t2 => K2 v t2) X.xe t
  have caught : Takes (X.tr (X.pn ++ pins) K1) W := fun v t xx => by
    obtain ⟨a, B, tI, pin1, σ1, H1, cl, d, rfl, J0, nb, up, sky, na, os, ag, wish⟩ := xx
    have J : Inv X pins σ1 H1 tI := J0.ofTry ok
    have skyL : Sky B (X.env :: X.outer) a (Zc cl d) X.env.locals t.heap := by rw [← hs]; exact sky
    refine Sky.land Zc.steady fr hf skyL fun g3 fl3 up3 => ?_
    have L3 : Inv X pins σ1 H1 { t with heap := g3 } := J.landed nb fl3.1 (up.trans up3) os ag
    obtain ⟨o3, v3, at3, z3, dat3⟩ := fl3.there
    have out : a ∉ frs (X.env :: X.outer) := fun hm => by
      obtain ⟨vs', o', e', no⟩ := fl3.2.2.1.mem hm
      rw [at3] at e'
      cases e'
      exact no _ dat3
    have nL : a ≠ X.env.locals := fun z => out (List.mem_filterMap.mpr ⟨X.env, List.mem_cons_self, by rw [hf, z]⟩)
    have nF : a ∉ X.fs := fun hm => by
      obtain ⟨ev, hev, q⟩ := List.mem_filterMap.mp hm
      exact out (List.mem_filterMap.mpr ⟨ev, List.mem_cons_of_mem _ hev, q⟩)
    have U3 := L3.suite at3 dat3 na nL nF
    have all : ∀ {qs : List ExceptHandler} {m : List Cl1}, Cla X n qs m → wCl X.K i Wo D m cl d σ1 H1 → wpAny (model X.prog X.w) X.A (handleBy (.ref a) X.env qs) (SP X pins D) X.xe { t with heap := g3 } := fun {qs m} k => by
      induction k with
      | nil =>
        intro z
        refine wpAny_handleBy_nil ?_
        obtain ⟨_, _, _, o5, v5, T5, oT5, t5, at5, z5, dat5, k1, _⟩ := id fl3
        unfold PySem.passOn
        refine wpAny_bind (wpAny_field at5 dat5 k1 ?_)
        rw [if_neg (by simp : ¬ ((Value.ref T5 == Value.none) = true))]
        have last : wpAny (model X.prog X.w) X.A (setFlight (.ref a) X.env.frame) (fun _ t4 => wpAny (model X.prog X.w) X.A (throw (.ref a) : Sem Flow) (SP X pins D) X.xe t4) X.xe { t with heap := g3 } := by
          rw [hf]
          exact HandSPX.setFlight_upZ fl3 fun g4 k4 up4 => wpAny_throw (tk _ _ ⟨a, B, tI, pins, σ1, H1, cl, d, rfl, J, nb, (up.trans up3).trans up4, .inr (.inr (by rw [hs]; exact k4)), na, os, ag, z⟩)
        first
          | exact wpAny_bind last
          | exact wpAny_bind (wpAny_pure (wpAny_bind last))
      | @cons x c ts b0 su np p qs2 m2 hn hsu _ ih =>
        rintro ⟨b, hm, hyes, hno⟩
        refine wpAny_handleBy_cons (codeAny_handlers_test ?_) (by intro q; cases q)
        have ty : PySem.W.Looks (model X.prog X.w) g3 (typeOf (.ref a)) cl := fun A Q E t' k q => wpAny_typeOf_ref (k _ _ at3) (by rw [z3.1]; exact q)
        have ex := PySem.W.exm_one (M := model X.prog X.w) L3.kIn ty hm
        have name : ∀ {Q E : Value → Shared → Prop}, Q c { t with heap := g3 } → wpAny (model X.prog X.w) (X.A.mark (some (.ref a))) (eval (.Name x np) X.env) Q E { t with heap := g3 } := fun {Q E} q => by
          obtain ⟨h1, h2, h3 | ⟨h3, h4, h5⟩⟩ := hn
          · exact ld_glob (X := X.suite a ((a, o3) :: (X.pn ++ pins))) U3 h1 h3 q h2
          · exact ld_blt (X := X.suite a ((a, o3) :: (X.pn ++ pins))) U3 h1 h3 h4 q h5 h2
        refine name (ex.here ?_)
        cases b with
        | false => exact ih (hno rfl)
        | true =>
          refine codeAny_handlers_suite_as ?_
          refine HandSPX.lands_againZ fl3 fun g4 fl4 up4 => ?_
          have L4 : Inv X pins σ1 H1 { t with heap := g4 } := J.landed nb fl4.1 ((up.trans up3).trans up4) os ag
          obtain ⟨o4, v4, at4, z4, dat4⟩ := fl4.there
          have U4 := L4.suite at4 dat4 na nL nF
          refine store_ok (X := X.suite a ((a, o4) :: (X.pn ++ pins))) (v := .ref a) U4 hN hi lc rfl (fun t5 U5 => ?_) (.inr hln)
          refine wpAny_mono ((hsu a o4 cl d (X.pn ++ pins) z4 ⟨_, dat4⟩).run [] t5 _ H1 _ U5 (hyes rfl a na)) (fun fw t6 sp => ?_) (fun _ _ z => z.elim)
          have drop : ∀ {σ6 : L2.St} {H6 : Hp} {Q : Shared → Prop}, Inv (X.suite a ((a, o4) :: (X.pn ++ pins))) [] σ6 H6 t6 → (∀ t7, Inv X pins (σ6.set i none) H6 t7 → Q t7) →
              wpAny (model X.prog X.w) X.A (do bindName X.env n .none; unbindBehindTheSuite X.env n p) (fun _ t7 => Q t7) X.xe t6 := fun {σ6 H6 Q} U6 k => gone_ok (U6.unsuite ok) hN hi hln k
          cases fw with
          | next => obtain ⟨σ6, H6, U6, k6⟩ := sp; exact drop U6 fun t7 L7 => ⟨_, _, L7, k6⟩
          | brk => obtain ⟨σ6, H6, U6, k6⟩ := sp; exact drop U6 fun t7 L7 => ⟨_, _, L7, k6⟩
          | cont => obtain ⟨σ6, H6, U6, k6⟩ := sp; exact drop U6 fun t7 L7 => ⟨_, _, L7, k6⟩
          | ret u => obtain ⟨v6, σ6, H6, U6, r6, k6⟩ := sp; exact drop U6 fun t7 L7 => ⟨_, _, _, L7, r6, k6⟩
    exact all hc wish
  refine wpAny_Try_except ?_
  refine wpAny_mono ((hb W (X.pn ++ pins) K1 caught PassesOwn.looking).run [] s0 σ H D (I.toTry _) h) (fun fw t1 sp => ?_) (fun v t1 k => k)
  cases fw with
  | next => obtain ⟨σ1, H1, L1, k⟩ := sp; exact wpAny_execs_nil ⟨σ1, H1, L1.ofTry ok, k⟩
  | brk => obtain ⟨σ1, H1, L1, k⟩ := sp; exact ⟨σ1, H1, L1.ofTry ok, k⟩
  | cont => obtain ⟨σ1, H1, L1, k⟩ := sp; exact ⟨σ1, H1, L1.ofTry ok, k⟩
  | ret u => obtain ⟨v, σ1, H1, L1, r, k⟩ := sp; exact ⟨v, σ1, H1, L1.ofTry ok, r, k⟩⟩
end
end AL
namespace AL
open PySem PySem.Spec PyProof.Rows L2 Evl
/-- the clauses name these classes -/
inductive HdS (X : Cx) (n : Str) : List ExceptHandler → List Addr → Prop
  | nil : HdS X n [] []
  | cons {x : Str} {C : Addr} {b0 : Stmt} {su : List Stmt} {np p : Pos} {hs : List ExceptHandler} {cs : List Addr} : Names X x (.ref C) → HdS X n hs cs → HdS X n (.ExceptHandler (some (.Name x np)) (some n) (b0 :: su) p :: hs) (C :: cs)
def clsOf (X : Cx) : List ExceptHandler → List Addr → List Cl1
  | .ExceptHandler _ _ su _ :: hs, C :: cs => (.ref C, fun a cl d D σ H => ∀ oe pn, Zc cl d oe → (∃ vs, oe.data = .fields vs) → wSs (X.suite a ((a, oe) :: pn)) su D σ H) :: clsOf X hs cs
  | _, _ => []
theorem cla_of {X : Cx} {n : Str} {hs : List ExceptHandler} {cs : List Addr} (h : HdS X n hs cs) : Cla X n hs (clsOf X hs cs) := by
  induction h with
  | nil => exact .nil
  | cons hn _ ih => exact .cons hn (fun a oe cl d pn hz hv => ⟨fun pins s σ H D I h => h oe pn hz hv pins s I⟩) ih
/-- what becomes of an error of the class Ce: the first clause whose class holds it -/
def HdR (X : Cx) (Z : Zx) (i : Nat) (sts : List Stmt) (O : Outs) (Ce : Addr) (fs : List (Str × D)) (ρ : En) : List ExceptHandler → List Addr → Prop
  | .ExceptHandler _ _ su _ :: hs, C :: cs => ∃ b, PySem.W.exmOne X.K (.ref Ce) (.ref C) = some b ∧ (b = false → HdR X Z i sts O Ce fs ρ hs cs) ∧ (b = true → ∀ a d oe pn, Zc (.ref Ce) d oe → (∃ vs, oe.data = .fields vs) →
      SC (X.suite a ((a, oe) :: pn)) Z0 su (ρ.set i (some (.im (.exc a d fs)))) { nx := fun ρ'' => SC X Z sts (ρ''.set i none) O, rt := O.rt, bk := fun ρ'' => O.bk (ρ''.set i none), ct := fun ρ'' => O.ct (ρ''.set i none) })
  | _, _ => Z.R Ce fs ρ
section
variable {X : Cx} {Z : Zx} {body sts : List Stmt} {ρ : En} {O : Outs} {pos : Pos} {n : Str} {e0 : ExceptHandler} {es : List ExceptHandler}
/-- try: body, except C1 as n: .., except C2 as n: .. -/
theorem sc_trys (i : Nat) (cs : List Addr) (R : Addr → List (Str × D) → En → Prop) (hs : X.stack = X.env :: X.outer) (hf : X.env.frame = some X.env.locals) (hN : X.N.Nodup) (hi : X.N[i]? = some n) (hln : X.env.kindOf n = some .local) (hc : HdS X n (e0 :: es) cs) (tk : Takes X Z.E)
    (hb : ∀ (E : WX) (pn : List (Addr × Obj)) (xe : Value → Shared → Prop), Takes (X.tr pn xe) E → SC (X.tr pn xe) ⟨E, R⟩ body ρ { O with nx := fun ρ' => SC X Z sts ρ' O })
    (hR : ∀ Ce fs ρ', R Ce fs ρ' → HdR X Z i sts O Ce fs ρ' (e0 :: es) cs) :
    SC X Z (.Try body (e0 :: es) [] [] pos :: sts) ρ O := by
  refine sc_of (ps_tries (Wo := Z.E) (tb := fun W D σ H => ∀ pn xe, Takes (X.tr pn xe) W → wSs (X.tr pn xe) body D σ H) hs hf hN hi hln tk
    (fun W pn xe tk _ => ⟨fun pins s σ H D I h => h pn xe tk pins s I⟩) (cla_of hc)) ?_
  intro B G H σ Dd o z sv pn xe tk
  refine hb _ pn xe tk B G H σ _ o ?_ ⟨fun ρ' σ' B' H' h e ok => h.go ok z sv e, sv.rt, sv.bk, sv.ct⟩
  intro Ce fs dd B' H' σ' ρ' hr e ok er
  have all : ∀ (qs : List ExceptHandler) (ds : List Addr), HdR X Z i sts O Ce fs ρ' qs ds → wCl X.K i Z.E { Dd with nx := wSs X sts Dd } (clsOf X qs ds) (.ref Ce) dd σ' H' := by
    intro qs
    induction qs with
    | nil => exact fun ds h => z Ce fs dd B' H' σ' ρ' h e ok er
    | cons q qs ih =>
      intro ds h
      cases ds with
      | nil =>
        obtain ⟨_, _, _, _⟩ := q
        exact z Ce fs dd B' H' σ' ρ' h e ok er
      | cons C ds =>
        obtain ⟨q1, q2, q3, q4⟩ := q
        obtain ⟨b, hm, hno, hsu⟩ := h
        refine ⟨b, hm, fun hb a ha oe pn' hz hv => ?_, fun hb => ih ds (hno hb)⟩
        refine hsu hb a dd oe pn' hz hv B' G H' _ _ (ok.set_im (v := .ref a) ?_) RC.none ⟨fun ρ'' σ'' B2 H2 h e2 o2 => ?_, fun r ρ'' v σ'' B2 H2 h e2 o2 rv => sv.rt r ρ'' v σ'' B2 H2 h (e.trans e2) o2 rv, fun ρ'' σ'' B2 H2 h e2 o2 => ?_, fun ρ'' σ'' B2 H2 h e2 o2 => ?_⟩
        · unfold ErR at er
          split at er
          · subst er; exact .exc0
          · obtain ⟨q, vs, rfl, hq, rf⟩ := er
            exact .exc (ok.s.tp _ _ hq rfl) rf
        · exact h.go (o2.drop (i := i) (x := none)) z sv (e.trans e2)
        · exact sv.bk _ _ B2 H2 h (e.trans e2) (o2.drop (i := i) (x := none))
        · exact sv.ct _ _ B2 H2 h (e.trans e2) (o2.drop (i := i) (x := none))
  exact all _ _ (hR Ce fs ρ' hr)
end
end AL
namespace T5
open PySem PySem.Spec PyProof.Rows L2 Evl AL
def top (i : Nat) : Stmt := PySem.Challenge.pw_silentlinks_k05_echoes_spans.main.body.getD i (.Pass ⟨0, 0, 0, 0⟩)
abbrev s__wall : Stmt := top 0
abbrev s_BadNumber___init__ : Stmt := inClass (top 3) 0
abbrev s_BadHouse___init__ : Stmt := inClass (top 5) 0
abbrev s_BadSet___init__ : Stmt := inClass (top 6) 0
abbrev s_BadLinks___init__ : Stmt := inClass (top 7) 0
abbrev s_BadPattern___init__ : Stmt := inClass (top 8) 0
abbrev s_IsFallen___init__ : Stmt := inClass (top 9) 0
abbrev s_is_number : Stmt := top 12
abbrev s_is_below : Stmt := top 13
abbrev s_is_row : Stmt := top 14
abbrev s_check_number : Stmt := top 15
abbrev s_house_count : Stmt := top 16
abbrev s_house_of : Stmt := top 17
abbrev s_house_set : Stmt := top 18
abbrev s_link_of : Stmt := top 19
abbrev s_link_set : Stmt := top 20
abbrev s_all_links : Stmt := top 21
abbrev s_merged : Stmt := top 22
abbrev s_common : Stmt := top 23
abbrev s_Pattern___init__ : Stmt := inClass (top 25) 0
abbrev s_Pattern___eq__ : Stmt := inClass (top 25) 1
abbrev s_Pattern___or__ : Stmt := inClass (top 25) 2
abbrev s_Pattern___and__ : Stmt := inClass (top 25) 3
abbrev s_Pattern_fits : Stmt := inClass (top 25) 4
abbrev s_Pattern_standing : Stmt := inClass (top 25) 5
abbrev s_Pattern_lasts : Stmt := inClass (top 25) 6
abbrev s_Pattern_lasting : Stmt := inClass (top 25) 7
abbrev s_Pattern_harsher : Stmt := inClass (top 25) 8
abbrev s_Pattern_plain : Stmt := inClass (top 25) 9
abbrev s_Pattern_calm : Stmt := inClass (top 25) 10
abbrev s_Pattern_cut : Stmt := inClass (top 25) 11
abbrev s_fits_houses : Stmt := top 27
abbrev s_Net___init__ : Stmt := inClass (top 29) 0
abbrev s_Net___eq__ : Stmt := inClass (top 29) 1
abbrev s_Net_lasts : Stmt := inClass (top 29) 2
abbrev s_Net_after : Stmt := inClass (top 29) 3
abbrev s_Net_before : Stmt := inClass (top 29) 4
abbrev s_alive_house : Stmt := top 30
abbrev s_steps_over : Stmt := top 32
abbrev s_told_houses : Stmt := top 33
abbrev s_reached : Stmt := top 34
abbrev s_path : Stmt := top 35
abbrev s_nearer_house : Stmt := top 36
abbrev s_distances : Stmt := top 38
abbrev s_distances_to : Stmt := top 39
abbrev s_round_trips : Stmt := top 40
abbrev s_sum_of : Stmt := top 41
abbrev s_round_trip : Stmt := top 42
abbrev s_within_limit : Stmt := top 43
abbrev s_echo : Stmt := top 44
abbrev s_full_span : Stmt := top 45
abbrev s_inner : Stmt := top 46
abbrev s_past : Stmt := top 48
abbrev s_part : Stmt := top 49
abbrev s_parts : Stmt := top 50
abbrev s__law_pool : Stmt := top 52
abbrev s__law_take : Stmt := top 53
abbrev s__law_int : Stmt := top 54
abbrev s__law_row : Stmt := top 55
abbrev s__law_links : Stmt := top 56
abbrev s__law_pattern : Stmt := top 57
abbrev s__law_dist : Stmt := top 58
abbrev s__law_part : Stmt := top 59
abbrev s__law_size : Stmt := top 60
abbrev s__law_steps_right : Stmt := top 61
abbrev s__law_limits : Stmt := top 62
abbrev s__law_echoes_right : Stmt := top 63
abbrev s__law_shape : Stmt := top 64
abbrev s__law_shape_right : Stmt := top 65
abbrev s__law_asked : Stmt := top 66
abbrev s__law_refusals_right : Stmt := top 67
abbrev s_law : Stmt := top 68
end T5
namespace T5
open PySem PySem.Spec PyProof.Rows L2 Evl AL
abbrev FunN (K : PySem.W.Frag) (x : Str) (st : Stmt) (f : Addr) (fd : FuncData) : Prop := FunD K x x (defArgs st) (defBody st) (defScope st) [] [] f fd
structure Blt (mg : Str → Option Value) : Prop where
  isi : mg "isinstance" = none
  int : mg "int" = none
  bool : mg "bool" = none
  list : mg "list" = none
  tuple : mg "tuple" = none
  len : mg "len" = none
  range : mg "range" = none
  sorted : mg "sorted" = none
  set : mg "set" = none
  any : mg "any" = none
  all : mg "all" = none
  enum : mg "enumerate" = none
def isNum : D → Bool
  | .int _ => true | _ => false
def S_is_number (ds : List D) (Ψ : D → Prop) : Prop := ∃ v, ds = [v] ∧ isObj v = false ∧ Ψ (.bl (isNum v))
def isBelow (v limit : D) : Bool := match v, limit with
  | .int i, .non => decide (0 ≤ i)
  | .int i, .int n => decide (0 ≤ i) && decide (i < n)
  | _, _ => false
def S_is_below (ds : List D) (Ψ : D → Prop) : Prop := ∃ v l, ds = [v, l] ∧ isObj v = false ∧ (l = .non ∨ ∃ n, l = .int n) ∧ Ψ (.bl (isBelow v l))
def S_is_row (ds : List D) (Ψ : D → Prop) : Prop := ∃ v, ds = [v] ∧ isObj v = false ∧ Ψ (.bl (isLstD v || isTupD v))
section
variable {P : Program} {w : World} {K : PySem.W.Frag} {mg : Str → Option Value} {base : Heap} {f : Addr} {fd : FuncData}
theorem m_is_number : MonoF S_is_number := fun ds Φ Φ' h ⟨v, h1, h2, h3⟩ => ⟨v, h1, h2, h _ h3⟩
theorem m_is_below : MonoF S_is_below := fun ds Φ Φ' h ⟨v, l, h1, h2, h3, h4⟩ => ⟨v, l, h1, h2, h3, h _ h4⟩
theorem m_is_row : MonoF S_is_row := fun ds Φ Φ' h ⟨v, h1, h2, h3⟩ => ⟨v, h1, h2, h _ h3⟩
theorem c_is_number (F : FunN K "is_number" s_is_number f fd) (hm : mg "is_number" = some (.ref f)) (b : Blt mg) : Cal P w K mg base "is_number" 1 (PFn 1 S_is_number) := by
  refine cal_fn F hm (N := ["value"]) (ps := ["value"]) ⟨rfl, rfl, rfl, by decide +kernel, rfl, by decide +kernel, by decide +kernel⟩ rfl (fun _ _ _ _ _ _ us hl => match us, hl with | [_], _ => rfl) ?_
  rintro cdv A outer s H E hr ds Ψ hl ⟨v, rfl, ho, hd⟩
  refine sc_ret (ec_and (ec_isi kit_int rfl (ec_var 0 rfl ⟨ho, ?_⟩) b.isi b.int))
  refine ⟨_, rfl, fun h1 => ec_one (ec_not (ec_isi kit_bool rfl (ec_var 0 rfl ⟨ho, ?_⟩) b.isi b.bool)), fun h1 => ?_⟩
  · refine ⟨_, rfl, ?_⟩
    show Ψ _
    have : (!isBoolD v) = isNum v := by cases v <;> simp_all [isIntD, isBoolD, isNum]
    rw [this]; exact hd
  · show Ψ (.bl false)
    have : isNum v = false := by cases v <;> simp_all [isIntD, isBoolD, isNum]
    rw [this] at hd; exact hd
theorem c_is_below (F : FunN K "is_below" s_is_below f fd) (hm : mg "is_below" = some (.ref f)) (b : Blt mg) (c1 : Cal P w K mg base "is_number" 1 (PFn 1 S_is_number)) : Cal P w K mg base "is_below" 2 (PFn 2 S_is_below) := by
  refine cal_fn F hm (N := ["value", "limit"]) (ps := ["value", "limit"]) ⟨rfl, rfl, rfl, by decide +kernel, rfl, by decide +kernel, by decide +kernel⟩ rfl (fun _ _ _ _ _ _ us hl => match us, hl with | [_, _], _ => rfl) ?_
  rintro cdv A outer s H E hr ds Ψ hl ⟨v, l, rfl, ho, hlim, hd⟩
  refine sc_ret (ec_and (ec_cf c1 hr (pass_0 passL) m_is_number (ac_cons (ec_var 0 rfl (ac_nil ⟨rfl, v, rfl, ho, ?_⟩)))))
  refine ⟨_, rfl, fun h1 => ec_and (ec_ge (ec_var 0 rfl (ec_int ?_))), fun h1 => ?_⟩
  · cases v <;> simp [isNum] at h1
    rename_i i
    refine ⟨_, _, rfl, rfl, _, rfl, fun h2 => ec_one (ec_or (ec_isN (ec_var 1 rfl ⟨_, rfl, fun h3 => ec_one (ec_lt (ec_var 0 rfl (ec_var 1 rfl ?_))), fun h3 => ?_⟩))), fun h2 => ?_⟩
    · rcases hlim with rfl | ⟨n, rfl⟩
      · simp [isNonD] at h3
      · refine ⟨_, _, rfl, rfl, ?_⟩
        simp at h2
        show Ψ _
        simpa [isBelow, h2] using hd
    · rcases hlim with rfl | ⟨n, rfl⟩
      · simp at h2
        show Ψ _
        simpa [isBelow, h2] using hd
      · simp [isNonD] at h3
    · simp at h2
      have e1 : decide (0 ≤ i) = false := by simp; omega
      have : isBelow (.int i) l = false := by rcases hlim with rfl | ⟨n, rfl⟩ <;> simp [isBelow] <;> omega
      rw [this] at hd
      show Ψ _
      simpa using hd
  · have : isBelow v l = false := by cases v <;> simp_all [isNum, isBelow]
    rw [this] at hd
    exact hd
theorem c_is_row (F : FunN K "is_row" s_is_row f fd) (hm : mg "is_row" = some (.ref f)) (b : Blt mg) : Cal P w K mg base "is_row" 1 (PFn 1 S_is_row) := by
  refine cal_fn F hm (N := ["value"]) (ps := ["value"]) ⟨rfl, rfl, rfl, by decide +kernel, rfl, by decide +kernel, by decide +kernel⟩ rfl (fun _ _ _ _ _ _ us hl => match us, hl with | [_], _ => rfl) ?_
  rintro cdv A outer s H E hr ds Ψ hl ⟨v, rfl, ho, hd⟩
  exact sc_ret (ec_isiLT (ec_var 0 rfl ⟨ho, hd⟩) b.isi b.list b.tuple)
end
def oD : Option Int → D
  | none => .non
  | some k => .int k
def toldFrom (k : Nat) : List (Option Int) → List Int
  | [] => []
  | none :: r => toldFrom (k + 1) r
  | some _ :: r => (k : Int) :: toldFrom (k + 1) r
theorem told_snoc : ∀ (ss : List (Option Int)) (k : Nat) (o : Option Int), toldFrom k (ss ++ [o]) = toldFrom k ss ++ (if o.isSome then [((k + ss.length : Nat) : Int)] else [])
  | [], k, none => rfl
  | [], k, some _ => rfl
  | none :: r, k, o => by
    show toldFrom (k + 1) (r ++ [o]) = toldFrom (k + 1) r ++ _
    rw [told_snoc r (k + 1) o, List.length_cons]
    have e : k + 1 + r.length = k + (r.length + 1) := by omega
    rw [e]
  | some _ :: r, k, o => by
    show (k : Int) :: toldFrom (k + 1) (r ++ [o]) = (k : Int) :: toldFrom (k + 1) r ++ _
    rw [told_snoc r (k + 1) o, List.length_cons]
    have e : k + 1 + r.length = k + (r.length + 1) := by omega
    rw [e]; rfl
theorem told_len : ∀ (ss : List (Option Int)) (k : Nat), (toldFrom k ss).length ≤ ss.length
  | [], _ => Nat.le_refl 0
  | none :: r, k => Nat.le_trans (told_len r (k + 1)) (Nat.le_succ _)
  | some _ :: r, k => Nat.succ_le_succ (told_len r (k + 1))
def S_told_houses (ds : List D) (Ψ : D → Prop) : Prop := ∃ ss : List (Option Int), ds = [.lst (ss.map oD)] ∧ ss.length ≤ 1000 ∧ Ψ (.tup ((toldFrom 0 ss).map D.int))
section
variable {P : Program} {w : World} {K : PySem.W.Frag} {mg : Str → Option Value} {base : Heap} {f : Addr} {fd : FuncData}
theorem c_told_houses (F : FunN K "told_houses" s_told_houses f fd) (hm : mg "told_houses" = some (.ref f)) (b : Blt mg) : Cal P w K mg base "told_houses" 1 (PFn 1 S_told_houses) := by
  refine cal_fn F hm (N := ["steps", "house", "many"]) (ps := ["steps"]) ⟨rfl, rfl, rfl, by decide +kernel, rfl, by decide +kernel, by decide +kernel⟩ rfl (fun _ _ _ _ _ _ us hl => match us, hl with | [_], _ => rfl) ?_
  rintro cdv A outer s H E hr ds Ψ hl ⟨ss, rfl, hss, hd⟩
  have nd : (["steps", "house", "many"] : List Str).Nodup := by decide +kernel
  refine sc_ret (ec_cty call_tuple_of boot_tuple b.tuple (ac_cons (ec_fc (fc_lcIf [("house", 1), ("many", 2)] [1, 2] (ic_enum b.enum (ec_var 0 rfl ⟨_, rfl, ?_⟩)) nd (by decide)))))
  refine ⟨fun _ => [some (.im (.lst (ss.map oD))), none, none], fun i => (toldFrom 0 (ss.take i)).map D.int, [some (.im (.lst (ss.map oD))), none, none], rfl, rfl, fun i hi => ?_, fun i d hid => ?_, ⟨rfl, fun _ _ h => h, fun i a o h => ?_⟩, _, rfl, ac_nil ⟨_, gb_tuple rfl (fun _ h => nomatch h), ?_⟩⟩
  · rw [List.length_map]; have := told_len (ss.take i) 0; rw [List.length_take] at this; omega
  · rw [enumD_get] at hid
    obtain ⟨d0, h0, rfl⟩ := Option.map_eq_some_iff.mp hid
    rw [List.getElem?_map] at h0
    obtain ⟨o, ho, rfl⟩ := Option.map_eq_some_iff.mp h0
    have hil : i < ss.length := (List.getElem?_eq_some_iff.mp ho).1
    have et : toldFrom 0 (ss.take (i + 1)) = toldFrom 0 (ss.take i) ++ (if o.isSome then [((i : Nat) : Int)] else []) := by
      rw [List.take_add_one, ho]
      show toldFrom 0 (ss.take i ++ [o]) = _
      rw [told_snoc, List.length_take, Nat.min_eq_left (Nat.le_of_lt hil), Nat.zero_add]
    intro s1 H1 C1 cl1 fp1
    refine gt_tup ⟨rfl, ⟨_, rfl⟩, rfl⟩ (gts_cons (gt_name 1 (gts_cons (gt_name 2 (gts_nil ?_) nd)) nd))
    intro s2 H2 C2 cl2 fp2
    refine tc_notN (ec_var 2 rfl ?_)
    refine ⟨fun hk => ?_, fun hk => ?_⟩
    · intro s3 H3 C3 cl3 fp3
      refine ec_var 1 rfl ⟨?_, rfl⟩
      cases o with
      | none => simp [oD, isNonD] at hk
      | some k => show List.map D.int (toldFrom 0 (ss.take (i + 1))) = _; rw [et]; simp
    · refine ⟨?_, rfl⟩
      cases o with
      | none => show List.map D.int (toldFrom 0 (ss.take (i + 1))) = _; rw [et]; simp
      | some k => simp [oD, isNonD] at hk
  · match i, h with
    | 0, h => cases h
    | 1, h => cases h
    | 2, h => cases h
  · rintro d rfl
    show Ψ _
    have e : ss.take (enumD (ss.map oD)).length = ss := by
      unfold enumD; rw [enumFrom_len, List.length_map, List.take_length]
    show Ψ (.tup (List.map D.int (toldFrom 0 (ss.take (enumD (ss.map oD)).length))))
    rw [e]; exact hd
end
structure Bf where
  found : List (Option Int)
  queue : List Nat
def visit (d : Int) (s : Bf) (t : Nat) : Bf := if s.found[t]? = some none then ⟨s.found.set t (some d), s.queue ++ [t]⟩ else s
def distOf (s : Bf) (h : Nat) : Int := ((s.found[h]?).getD none).getD 0
def bstep (adj : List (List Nat)) (s : Bf) (h : Nat) : Bf := (adj.getD h []).foldl (visit (distOf s h + 1)) s
def brun (adj : List (List Nat)) : Nat → Nat → Bf → Bf
  | 0, _, s => s
  | k + 1, a, s => match s.queue[a]? with
    | some h => brun adj k (a + 1) (bstep adj s h)
    | none => s
def bstart (n h : Nat) : Bf := ⟨(List.replicate n none).set h (some 0), [h]⟩
def steps (adj : List (List Nat)) (h : Nat) : List (Option Int) := (brun adj adj.length 0 (bstart adj.length h)).found
def natD (n : Nat) : D := .int (n : Int)
def rowD (r : List Nat) : D := .tup (r.map natD)
def adjOk (adj : List (List Nat)) : Prop := ∀ r ∈ adj, ∀ x ∈ r, x < adj.length
def EB (adj : List (List Nat)) (h : Nat) (pf pq : Addr) (s : Bf) (a : Nat) (x y : Option Sl) : En :=
  [some (.im (.tup (adj.map rowD))), some (.im (natD h)), some (.ow pf (.l (s.found.map oD))), some (.ow pq (.l (s.queue.map natD))), some (.im (natD a)), x, y]
def S_steps_over (ds : List D) (Ψ : D → Prop) : Prop := ∃ adj h, ds = [.tup (adj.map rowD), natD h] ∧ adj.length ≤ 1000 ∧ h < adj.length ∧ adjOk adj ∧ Ψ (.lst ((steps adj h).map oD))
/-- what the search keeps -/
theorem fold_keep {d : Int} {q : Nat} {k : Int} : ∀ (l : List Nat) {s : Bf}, s.found[q]? = some (some k) → (l.foldl (visit d) s).found[q]? = some (some k)
  | [], _, h => h
  | t :: l, s, h => fold_keep l (by
    unfold visit
    split
    · rename_i hn
      have : t ≠ q := fun z => by subst z; rw [h] at hn; cases hn
      show (s.found.set t _)[q]? = _
      rw [List.getElem?_set_ne this]; exact h
    · exact h)
theorem fold_len : ∀ (l : List Nat) (d : Int) (s : Bf), s.queue.length ≤ (l.foldl (visit d) s).queue.length
  | [], _, _ => Nat.le_refl _
  | t :: l, d, s => Nat.le_trans (by unfold visit; split <;> simp) (fold_len l d (visit d s t))
structure BInv (n : Nat) (s : Bf) : Prop where
  len : s.found.length = n
  mem : ∀ q ∈ s.queue, ∃ k, s.found[q]? = some (some k)
  cnt : s.queue.length + s.found.countP (·.isNone) = n
theorem countP_set {l : List (Option Int)} {t : Nat} {d : Int} (h : l[t]? = some none) : (l.set t (some d)).countP (·.isNone) + 1 = l.countP (·.isNone) := by
  induction l generalizing t with
  | nil => cases h
  | cons a l ih =>
    cases t with
    | zero => simp at h; subst h; simp
    | succ t =>
      have h' : l[t]? = some none := by simpa using h
      rw [List.set_cons_succ, List.countP_cons, List.countP_cons, ← ih h']
      omega
theorem BInv.visit {n : Nat} {s : Bf} {d : Int} {t : Nat} (i : BInv n s) : BInv n (visit d s t) := by
  unfold T5.visit
  split
  · rename_i h
    refine ⟨by simp [i.len], fun q hq => ?_, ?_⟩
    · have hl : t < s.found.length := (List.getElem?_eq_some_iff.mp h).1
      by_cases e : q = t
      · subst e; exact ⟨d, by simp [hl]⟩
      · rcases List.mem_append.mp hq with z | z
        · obtain ⟨k, hk⟩ := i.mem q z
          exact ⟨k, by rw [List.getElem?_set_ne (fun z => e z.symm)]; exact hk⟩
        · exact absurd (List.mem_singleton.mp z) e
    · have := countP_set (d := d) h
      have := i.cnt
      simp only [List.length_append, List.length_singleton]
      omega
  · exact i
theorem BInv.fold {n : Nat} {d : Int} : ∀ (l : List Nat) {s : Bf}, BInv n s → BInv n (l.foldl (T5.visit d) s)
  | [], _, i => i
  | t :: l, _, i => BInv.fold l i.visit
theorem BInv.start {n h : Nat} (hh : h < n) : BInv n (bstart n h) := by
  have e : (List.replicate n (none : Option Int))[h]? = some none := by simp [hh]
  refine ⟨by simp [bstart], fun q hq => ?_, ?_⟩
  · have : q = h := by simpa [bstart] using hq
    subst this
    exact ⟨0, by simp [bstart, hh]⟩
  · have := countP_set (d := 0) e
    have c : (List.replicate n (none : Option Int)).countP (·.isNone) = n := by rw [List.countP_replicate]; simp
    rw [c] at this
    show 1 + ((List.replicate n none).set h (some 0)).countP _ = n
    omega
section
variable {P : Program} {w : World} {K : PySem.W.Frag} {mg : Str → Option Value} {base : Heap} {f : Addr} {fd : FuncData}
theorem c_steps_over (F : FunN K "steps_over" s_steps_over f fd) (hm : mg "steps_over" = some (.ref f)) (b : Blt mg) : Cal P w K mg base "steps_over" 1 (PFn 2 S_steps_over) := by
  have nd : (["rows", "house", "found", "queue", "at", "here", "there"] : List Str).Nodup := by decide +kernel
  refine cal_fn F hm (N := ["rows", "house", "found", "queue", "at", "here", "there"]) (ps := ["rows", "house"]) ⟨rfl, rfl, rfl, nd, rfl, by decide +kernel, by decide +kernel⟩ rfl (fun _ _ _ _ _ _ us hl => match us, hl with | [_, _], _ => rfl) ?_
  rintro cdv A outer s H E hr ds Ψ hl ⟨adj, h, rfl, ha, hh, hok, hd⟩
  have pw : PassesOwn (model P w) (bodyX P w K mg base ["rows", "house", "found", "queue", "at", "here", "there"] "steps_over" (defScope s_steps_over) f cdv A outer s H E).A (bodyX P w K mg base ["rows", "house", "found", "queue", "at", "here", "there"] "steps_over" (defScope s_steps_over) f cdv A outer s H E).env (bodyX P w K mg base ["rows", "house", "found", "queue", "at", "here", "there"] "steps_over" (defScope s_steps_over) f cdv A outer s H E).xe := passes_of rfl
  refine sc_own 2 (fc_rep (ec_non (ec_len (ac_cons (ec_var 0 rfl (ac_nil ⟨_, _, rfl, rfl, adj.length, by rw [List.length_map], by omega, ?_⟩))) b.len))) nd
  intro pf
  refine sc_lput 2 rfl (ec_int (ec_var 1 rfl ⟨_, _, h, rfl, rfl, ?_, ?_⟩))
  · exact ixN_nat (by simpa using hh)
  refine sc_own 3 (fc_lst (ac_cons (ec_var 1 rfl (ac_nil ⟨by show 1 ≤ 100000; omega, ?_⟩)))) nd
  intro pq
  refine sc_set 4 (ec_int ?_) nd
  have e0 : (List.replicate adj.length D.non).set h (.int 0) = (bstart adj.length h).found.map oD := by
    show _ = ((List.replicate adj.length none).set h (some 0)).map oD
    rw [List.map_set, List.map_replicate]; rfl
  refine sc_while (fun m ρ' => ∃ s a x y, ρ' = EB adj h pf pq s a x y ∧ BInv adj.length s ∧ a ≤ s.queue.length ∧ m = adj.length - a ∧ (brun adj m a s).found = steps adj h) adj.length
    ⟨bstart adj.length h, 0, none, none, ?_, BInv.start hh, Nat.zero_le _, rfl, rfl⟩ ?_ pw
  · show [_, _, _, _, _, _, _] = [_, _, _, _, _, _, _]
    rw [e0]; rfl
  rintro m ρ' ⟨s0, a, x, y, rfl, bi, hal, rfl, hrun⟩
  refine tc_lt (ec_var 4 rfl (ec_lenO 3 rfl ⟨_, _, rfl, rfl, ?_⟩ b.len))
  refine ⟨fun hk => ?_, fun hk => ?_⟩
  · have hlt : a < s0.queue.length := by simpa using hk
    obtain ⟨q, hq⟩ : ∃ q, s0.queue[a]? = some q := ⟨s0.queue[a], List.getElem?_eq_getElem hlt⟩
    obtain ⟨k, hkq⟩ := bi.mem q (List.mem_of_getElem? hq)
    have hql : q < adj.length := by rw [← bi.len]; exact (List.getElem?_eq_some_iff.mp hkq).1
    refine sc_set 5 (ec_ixO 3 (ec_var 4 rfl ⟨rfl, _, natD q, rfl, atI_nat (by rw [List.getElem?_map, hq]; rfl), ?_⟩) rfl) nd
    refine sc_addI 4 rfl (ec_int ⟨1, rfl, ?_⟩) nd
    have hrow : adj[q]? = some (adj.getD q []) := by rw [List.getD_eq_getElem?_getD, List.getElem?_eq_getElem hql]; rfl
    have hdq : distOf s0 q = k := by unfold distOf; rw [hkq]; rfl
    have e1 : (a : Int) + 1 = ((a + 1 : Nat) : Int) := by omega
    show SC _ _ _ [some (.im (.tup (adj.map rowD))), some (.im (natD h)), some (.ow pf (.l (s0.found.map oD))), some (.ow pq (.l (s0.queue.map natD))), some (.im (.int ((a : Int) + 1))), some (.im (natD q)), y] _
    rw [e1]
    refine sc_for (js := [6]) (ic_tup (ec_ix (ec_var 0 rfl (ec_var 5 rfl ⟨_, _, rowD (adj.getD q []), rfl, rfl, atI_nat (by rw [List.getElem?_map, hrow]; rfl), (adj.getD q []).map natD, rfl, ?_⟩)))) pw
    refine ⟨fun i ρ' => ∃ y', ρ' = EB adj h pf pq (((adj.getD q []).take i).foldl (visit (k + 1)) s0) (a + 1) (some (.im (natD q))) y', ⟨y, rfl⟩, ?_, ?_⟩
    · rintro i d ρi hi ⟨y', rfl⟩
      rw [List.getElem?_map] at hi
      obtain ⟨t, ht, rfl⟩ := Option.map_eq_some_iff.mp hi
      have htl : t < adj.length := hok _ (List.mem_of_getElem? hrow) t (List.mem_of_getElem? ht)
      have ef : ((adj.getD q []).take (i + 1)).foldl (visit (k + 1)) s0 = visit (k + 1) (((adj.getD q []).take i).foldl (visit (k + 1)) s0) t := by
        rw [List.take_add_one, ht]; show ((_ ++ [t]).foldl _ _) = _; rw [List.foldl_append]; rfl
      have bi2 : BInv adj.length (((adj.getD q []).take i).foldl (visit (k + 1)) s0) := BInv.fold _ bi
      have hkq2 : (((adj.getD q []).take i).foldl (visit (k + 1)) s0).found[q]? = some (some k) := fold_keep _ hkq
      generalize ((adj.getD q []).take i).foldl (visit (k + 1)) s0 = s1 at ef bi2 hkq2
      refine gt_name 6 ?_ nd
      have htf : t < s1.found.length := by rw [bi2.len]; exact htl
      have hft : s1.found[t]? = some s1.found[t] := List.getElem?_eq_getElem htf
      refine sc_if (tc_isN (ec_ixO 2 (ec_var 6 rfl ⟨rfl, _, oD s1.found[t], rfl, atI_nat (by rw [List.getElem?_map, hft]; rfl), ?_⟩) rfl))
      refine ⟨fun hz => ?_, fun hz => ?_⟩
      · have hnone : s1.found[t] = none := by cases hh2 : s1.found[t] with
          | none => rfl
          | some v => rw [hh2] at hz; simp [oD, isNonD] at hz
        rw [hnone] at hft
        have ev : visit (k + 1) s1 t = ⟨s1.found.set t (some (k + 1)), s1.queue ++ [t]⟩ := by unfold visit; rw [if_pos hft]
        refine sc_lput 2 rfl (ec_add (ec_ixO 2 (ec_var 5 rfl ⟨rfl, _, .int k, rfl, atI_nat (by rw [List.getElem?_map, hkq2]; rfl), ec_int ⟨k, 1, rfl, rfl, ?_⟩⟩) rfl))
        refine ec_var 6 rfl ⟨_, _, t, rfl, rfl, ixN_nat (by rw [List.length_map]; exact htf), ?_⟩
        refine sc_app 3 rfl (ec_var 6 rfl ⟨_, rfl, ?_, sc_nil (sc_nil ⟨some (.im (natD t)), ?_⟩)⟩)
        · rw [List.length_map]; have := bi2.cnt; omega
        · rw [ef, ev]
          have q1 : (s1.found.map oD).set t (.int (k + 1)) = (s1.found.set t (some (k + 1))).map oD := by rw [List.map_set]; rfl
          have q2 : s1.queue.map natD ++ [natD t] = (s1.queue ++ [t]).map natD := by rw [List.map_append]; rfl
          unfold EB
          rw [← q1, ← q2]; rfl
      · have hsome : ¬ s1.found[t]? = some none := by rw [hft]; intro zz; rw [Option.some.inj zz] at hz; simp [oD, isNonD] at hz
        have ev : visit (k + 1) s1 t = s1 := by unfold visit; rw [if_neg hsome]
        exact sc_nil (sc_nil ⟨some (.im (natD t)), by rw [ef, ev]; rfl⟩)
    · rintro ρ2 ⟨y', rfl⟩
      rw [List.length_map, List.take_length]
      have es : (adj.getD q []).foldl (visit (k + 1)) s0 = bstep adj s0 q := by unfold bstep; rw [hdq]
      have bi3 : BInv adj.length (bstep adj s0 q) := by rw [← es]; exact BInv.fold _ bi
      rw [es]
      have hmn : a < adj.length := by have := bi.cnt; omega
      refine sc_nil ⟨adj.length - (a + 1), by omega, bstep adj s0 q, a + 1, _, _, rfl, bi3, ?_, rfl, ?_⟩
      · rw [← es]; have := fold_len (adj.getD q []) (k + 1) s0; omega
      · have em : adj.length - a = (adj.length - (a + 1)) + 1 := by omega
        rw [em] at hrun
        unfold brun at hrun
        rw [hq] at hrun
        exact hrun
  · have hge : ¬ a < s0.queue.length := by simpa using hk
    have hfin : (s0.found) = steps adj h := by
      have hn : s0.queue[a]? = none := List.getElem?_eq_none (by omega)
      cases hm : adj.length - a with
      | zero => rw [hm] at hrun; exact hrun
      | succ m => rw [hm] at hrun; unfold brun at hrun; rw [hn] at hrun; exact hrun
    refine sc_ret (ec_frz 2 rfl ?_)
    show Ψ _
    rw [hfin]; exact hd
end
/-- ascending rows with the same members are one -/
theorem asc_ext : ∀ {l m : List Int}, l.Pairwise (· < ·) → m.Pairwise (· < ·) → (∀ k, k ∈ l ↔ k ∈ m) → l = m
  | [], [], _, _, _ => rfl
  | [], b :: m, _, _, h => absurd ((h b).2 List.mem_cons_self) (by simp)
  | a :: l, [], _, _, h => absurd ((h a).1 List.mem_cons_self) (by simp)
  | a :: l, b :: m, p, q, h => by
    obtain ⟨p1, p2⟩ := List.pairwise_cons.mp p
    obtain ⟨q1, q2⟩ := List.pairwise_cons.mp q
    have e : a = b := by
      rcases List.mem_cons.mp ((h a).1 List.mem_cons_self) with z | z
      · exact z
      · rcases List.mem_cons.mp ((h b).2 List.mem_cons_self) with y | y
        · exact y.symm
        · have := q1 a z; have := p1 b y; omega
    subst e
    refine congrArg _ (asc_ext p2 q2 fun k => ⟨fun hk => ?_, fun hk => ?_⟩)
    · rcases List.mem_cons.mp ((h k).1 (List.mem_cons_of_mem _ hk)) with z | z
      · subst z; exact absurd (p1 k hk) (by omega)
      · exact z
    · rcases List.mem_cons.mp ((h k).2 (List.mem_cons_of_mem _ hk)) with z | z
      · subst z; exact absurd (q1 k hk) (by omega)
      · exact z
def intsD (l : List Int) : D := .tup (l.map D.int)
def S_common (ds : List D) (Ψ : D → Prop) : Prop := ∃ ns ms : List Int, ds = [intsD ns, intsD ms] ∧ ns.length < 64 ∧ ms.length < 64 ∧ ns.Pairwise (· < ·) ∧ Ψ (intsD (ns.filter fun k => decide (k ∈ ms)))
def S_meet (ds : List D) (Ψ : D → Prop) : Prop := ∃ ns ms : List Int, ds = [intsD ns, intsD ms] ∧ ns.length ≤ 1000 ∧ Ψ (.bl (ns.any fun k => decide (k ∈ ms)))
section
variable {P : Program} {w : World} {K : PySem.W.Frag} {mg : Str → Option Value} {base : Heap} {f : Addr} {fd : FuncData}
theorem m_common : MonoF S_common := fun ds Φ Φ' h ⟨ns, ms, h1, h2, h3, h4, h5⟩ => ⟨ns, ms, h1, h2, h3, h4, h _ h5⟩
theorem m_meet : MonoF S_meet := fun ds Φ Φ' h ⟨ns, ms, h1, h2, h3⟩ => ⟨ns, ms, h1, h2, h _ h3⟩
theorem m_told_houses : MonoF S_told_houses := fun ds Φ Φ' h ⟨ss, h1, h2, h3⟩ => ⟨ss, h1, h2, h _ h3⟩
theorem m_steps_over : MonoF S_steps_over := fun ds Φ Φ' h ⟨adj, x, h1, h2, h3, h4, h5⟩ => ⟨adj, x, h1, h2, h3, h4, h _ h5⟩
theorem c_common (F : FunN K "common" s_common f fd) (hm : mg "common" = some (.ref f)) (b : Blt mg) : Cal P w K mg base "common" 1 (PFn 2 S_common) := by
  refine cal_fn F hm (N := ["first", "second"]) (ps := ["first", "second"]) ⟨rfl, rfl, rfl, by decide +kernel, rfl, by decide +kernel, by decide +kernel⟩ rfl (fun _ _ _ _ _ _ us hl => match us, hl with | [_, _], _ => rfl) ?_
  rintro cdv A outer s H E hr ds Ψ hl ⟨ns, ms, rfl, hn, hm', hp, hd⟩
  refine sc_ret (ec_cty call_tuple_of boot_tuple b.tuple (ac_cons (ec_sortedAnd b.sorted b.set (ec_var 0 rfl ⟨ns, rfl, hn, ec_var 1 rfl ⟨ms, rfl, hm', fun out ho hk => ac_nil ⟨_, gb_tuple rfl (fun _ h => nomatch h), ?_⟩⟩⟩))))
  rintro d rfl
  have e : out = ns.filter fun k => decide (k ∈ ms) := asc_ext ho (hp.filter _) fun k => by rw [hk k, List.mem_filter, decide_eq_true_eq]
  rw [e]
  exact hd
end
def lim : Option Int → D
  | none => .non
  | some n => .int n
def S_house_set (ds : List D) (Ψ : D → Prop) : Prop := ∃ (hs : Option Int) (row : D) (ns : List Int), ds = [lim hs, row] ∧ isObj row = false ∧ (isLstD row || isTupD row) = true ∧ itemsD row = some (ns.map D.int) ∧ ns.Nodup ∧ ns.length < 64 ∧ (∀ n ∈ ns, 0 ≤ n ∧ ∀ m, hs = some m → n < m) ∧
  ∀ out : List Int, out.Pairwise (· < ·) → out.Perm ns → Ψ (intsD out)
def markK (ns : List Int) : List (Key × D) := ns.map fun n => (Sum.inl n, D.bl true)
theorem mark_val {n : Int} : ∀ {ns : List Int}, (valD (markK ns) (Sum.inl n : Key)).isSome = decide (n ∈ ns)
  | [] => rfl
  | m :: ns => by
    unfold valD markK
    rw [List.map_cons]
    by_cases h : m = n
    · subst h; rw [List.find?_cons_of_pos (by simp)]; simp
    · rw [List.find?_cons_of_neg (by simp; exact h)]
      have ih := mark_val (n := n) (ns := ns)
      unfold valD markK at ih
      rw [ih]
      have h' : ¬ n = m := fun z => h z.symm
      simp [h']
theorem mark_put {n : Int} {ns : List Int} (h : n ∉ ns) : putKD (markK ns) (Sum.inl n : Key) (.bl true) = markK (ns ++ [n]) := by
  rw [putKD_new]
  · unfold markK; rw [List.map_append]; rfl
  · intro z
    obtain ⟨p, hp, e⟩ := List.mem_map.mp z
    unfold markK at hp
    obtain ⟨m, hm, rfl⟩ := List.mem_map.mp hp
    have : m = n := Sum.inl.inj e
    subst this; exact h hm
section
variable {P : Program} {w : World} {K : PySem.W.Frag} {mg : Str → Option Value} {base : Heap} {f : Addr} {fd : FuncData}
theorem m_house_set : MonoF S_house_set := fun ds Φ Φ' h ⟨a, b, c, h1, h2, h3, h4, h5, h6, h7, h8⟩ => ⟨a, b, c, h1, h2, h3, h4, h5, h6, h7, fun out q1 q2 => h _ (h8 out q1 q2)⟩
theorem c_house_set (F : FunN K "house_set" s_house_set f fd) (hm : mg "house_set" = some (.ref f)) (b : Blt mg) (c1 : Cal P w K mg base "is_row" 1 (PFn 1 S_is_row)) (c2 : Cal P w K mg base "is_below" 2 (PFn 2 S_is_below)) : Cal P w K mg base "house_set" 3 (PFn 2 S_house_set) := by
  have nd : (["houses", "row", "found", "at", "value"] : List Str).Nodup := by decide +kernel
  refine cal_fn F hm (N := ["houses", "row", "found", "at", "value"]) (ps := ["houses", "row"]) ⟨rfl, rfl, rfl, nd, rfl, by decide +kernel, by decide +kernel⟩ rfl (fun _ _ _ _ _ _ us hl => match us, hl with | [_, _], _ => rfl) ?_
  rintro cdv A outer s H E hr ds Ψ hl ⟨hs, row, ns, rfl, ho, hlt, hit, hnd, hn, hlim, hd⟩
  have hu : (bodyX P w K mg base ["houses", "row", "found", "at", "value"] "house_set" (defScope s_house_set) f cdv A outer s H E).A.units + 1 < cLine := by have := hr.units; omega
  refine sc_if (tc_not (tc_val (ec_cf c1 (hr.mono (by omega)) (pass_0 passL) m_is_row (ac_cons (ec_var 1 rfl (ac_nil ⟨rfl, row, rfl, ho, _, rfl, ?_⟩))))))
  rw [hlt]
  refine ⟨(fun z => nomatch z), fun _ => sc_nil ?_⟩
  refine sc_own 2 (fc_dict ?_) nd
  intro pf
  refine sc_for (js := [3, 4]) (ic_enum b.enum (ec_var 1 rfl ⟨_, hit, ?_⟩)) (passes_of rfl)
  refine ⟨fun i ρ' => ∃ x y, ρ' = [some (.im (lim hs)), some (.im row), some (.ow pf (.k (markK (ns.take i)))), x, y], ⟨none, none, rfl⟩, ?_, ?_⟩
  · rintro i d ρi hi ⟨x, y, rfl⟩
    rw [enumD_get, List.getElem?_map] at hi
    obtain ⟨d0, h0, rfl⟩ := Option.map_eq_some_iff.mp hi
    obtain ⟨n, hni, rfl⟩ := Option.map_eq_some_iff.mp h0
    have hmem : n ∈ ns := List.mem_of_getElem? hni
    obtain ⟨hpos, hup⟩ := hlim n hmem
    have hnew : n ∉ ns.take i := fun z => by
      obtain ⟨j, hj⟩ := List.mem_iff_getElem?.mp z
      rw [List.getElem?_take] at hj
      split at hj
      · rename_i hji
        have hil : i < ns.length := (List.getElem?_eq_some_iff.mp hni).1
        have hjl : j < ns.length := by omega
        have e1 : ns[j] = ns[i] := by
          rw [List.getElem?_eq_getElem hjl] at hj; rw [List.getElem?_eq_getElem hil] at hni
          rw [Option.some.inj hj, Option.some.inj hni]
        exact List.pairwise_iff_getElem.mp hnd j i hjl hil hji e1
      · cases hj
    refine gt_tup ⟨rfl, ⟨_, rfl⟩, rfl⟩ (gts_cons (gt_name 3 (gts_cons (gt_name 4 (gts_nil ?_) nd)) nd))
    have hb : isBelow (.int n) (lim hs) = true := by
      cases hs with
      | none => simp [lim, isBelow, hpos]
      | some m => simp [lim, isBelow, hpos, hup m rfl]
    refine sc_if (tc_w (wc_or (tc_not (tc_val (ec_cf c2 (hr.mono (by omega)) (pass_0 passL) m_is_below (ac_cons (ec_var 4 rfl (ac_cons (ec_var 0 rfl (ac_nil ⟨rfl, .int n, lim hs, rfl, rfl, ?_, _, rfl, ?_⟩))))))))))
    · cases hs with
      | none => exact .inl rfl
      | some m => exact .inr ⟨m, rfl⟩
    rw [hb]
    refine ⟨fun _ => wc_or1 (tc_dinK 2 hu (ec_var 4 rfl ⟨pf, markK (ns.take i), .inl n, rfl, rfl, ?_⟩)), fun z => nomatch z⟩
    rw [mark_val, decide_eq_false hnew]
    refine ⟨(fun z => nomatch z), fun _ => sc_nil ?_⟩
    refine sc_dputK 2 hu (ec_bl (ec_var 4 rfl ⟨pf, markK (ns.take i), .inl n, rfl, rfl, ?_, sc_nil ⟨some (.im (.int (i : Nat))), some (.im (.int n)), ?_⟩⟩)) (hex := ⟨_, _, rfl⟩)
    · unfold markK; rw [List.length_map, List.length_take]; omega
    · rw [mark_put hnew]
      have et : ns.take (i + 1) = ns.take i ++ [n] := by rw [List.take_add_one, hni]; rfl
      rw [et]; rfl
  · rintro ρ2 ⟨x, y, rfl⟩
    have et : ns.take (enumD (ns.map D.int)).length = ns := by unfold enumD; rw [enumFrom_len, List.length_map, List.take_length]
    rw [et]
    refine sc_ret (ec_cty call_tuple_of boot_tuple b.tuple (ac_cons (ec_sortedK 2 (ns := ns) rfl (by unfold markK; rw [List.map_map]; rfl) hn (fun ns' hp hs' => ac_nil ⟨_, gb_tuple rfl (fun _ h => nomatch h), ?_⟩) b.sorted)))
    rintro d rfl
    exact hd ns' (lt_of_le_nodup ns' hs' (hp.nodup_iff.mpr hnd)) hp
end
/-- row is a list or tuple of these -/
def RowOf (row : D) (ds : List D) : Prop := isObj row = false ∧ (isLstD row || isTupD row) = true ∧ itemsD row = some ds
def InLim (hs : Option Int) (n : Int) : Prop := 0 ≤ n ∧ ∀ m, hs = some m → n < m
theorem below_in {hs : Option Int} {n : Int} (h : InLim hs n) : isBelow (.int n) (lim hs) = true := by
  cases hs with
  | none => simp [lim, isBelow, h.1]
  | some m => simp [lim, isBelow, h.1, h.2 m rfl]
theorem lim_ok (hs : Option Int) : lim hs = .non ∨ ∃ n, lim hs = .int n := by
  cases hs with
  | none => exact .inl rfl
  | some m => exact .inr ⟨m, rfl⟩
def S_link_of (ds : List D) (Ψ : D → Prop) : Prop := ∃ (hs : Option Int) (v : D) (x y : Int), ds = [lim hs, v] ∧ RowOf v [.int x, .int y] ∧ InLim hs x ∧ InLim hs y ∧ x ≠ y ∧ Ψ (tupI [x, y])
theorem m_link_of : MonoF S_link_of := fun ds Φ Φ' h ⟨a, b, c, d, h1, h2, h3, h4, h5, h6⟩ => ⟨a, b, c, d, h1, h2, h3, h4, h5, h _ h6⟩
section
variable {P : Program} {w : World} {K : PySem.W.Frag} {mg : Str → Option Value} {base : Heap} {f : Addr} {fd : FuncData}
theorem c_link_of (F : FunN K "link_of" s_link_of f fd) (hm : mg "link_of" = some (.ref f)) (b : Blt mg) (c1 : Cal P w K mg base "is_row" 1 (PFn 1 S_is_row)) (c2 : Cal P w K mg base "is_below" 2 (PFn 2 S_is_below)) : Cal P w K mg base "link_of" 3 (PFn 2 S_link_of) := by
  have nd : (["houses", "value"] : List Str).Nodup := by decide +kernel
  refine cal_fn F hm (N := ["houses", "value"]) (ps := ["houses", "value"]) ⟨rfl, rfl, rfl, nd, rfl, by decide +kernel, by decide +kernel⟩ rfl (fun _ _ _ _ _ _ us hl => match us, hl with | [_, _], _ => rfl) ?_
  rintro cdv A outer s H E hr ds Ψ hl ⟨hs, v, x, y, rfl, ⟨ho, hlt, hit⟩, hx, hy, hne, hd⟩
  have hr2 := hr
  refine sc_if (tc_w (wc_or (tc_not (tc_val (ec_cf c1 (hr.mono (by omega)) (pass_0 passL) m_is_row (ac_cons (ec_var 1 rfl (ac_nil ⟨rfl, v, rfl, ho, _, rfl, ?_⟩))))))))
  rw [hlt]
  refine ⟨fun _ => wc_or1 (tc_neS (ec_len (ac_cons (ec_var 1 rfl (ac_nil ⟨_, _, rfl, hit, ec_int ⟨true, rfl, ?_⟩⟩))) b.len)), (fun z => nomatch z)⟩
  refine ⟨(fun z => nomatch z), fun _ => sc_nil ?_⟩
  refine sc_if (tc_w (wc_or (tc_not (tc_val (ec_cf c2 (hr.mono (by omega)) (pass_0 passL) m_is_below (ac_cons (ec_ix (ec_var 1 rfl (ec_int ⟨_, _, .int x, hit, rfl, rfl, ac_cons (ec_var 0 rfl (ac_nil ⟨rfl, .int x, lim hs, rfl, rfl, lim_ok hs, _, rfl, ?_⟩))⟩)))))))))
  rw [below_in hx]
  refine ⟨fun _ => wc_or1 (tc_not (tc_val (ec_cf c2 (hr.mono (by omega)) (pass_0 passL) m_is_below (ac_cons (ec_ix (ec_var 1 rfl (ec_int ⟨_, _, .int y, hit, rfl, rfl, ac_cons (ec_var 0 rfl (ac_nil ⟨rfl, .int y, lim hs, rfl, rfl, lim_ok hs, _, rfl, ?_⟩))⟩))))))), (fun z => nomatch z)⟩
  rw [below_in hy]
  refine ⟨(fun z => nomatch z), fun _ => sc_nil ?_⟩
  refine sc_if (tc_eqS (ec_ix (ec_var 1 rfl (ec_int ⟨_, _, .int x, hit, rfl, rfl, ec_ix (ec_var 1 rfl (ec_int ⟨_, _, .int y, hit, rfl, rfl, decide (x = y), rfl, ?_⟩))⟩))))
  rw [decide_eq_false hne]
  refine ⟨(fun z => nomatch z), fun _ => sc_nil ?_⟩
  exact sc_ret (ec_tup (ac_cons (ec_ix (ec_var 1 rfl (ec_int ⟨_, _, .int x, hit, rfl, rfl, ac_cons (ec_ix (ec_var 1 rfl (ec_int ⟨_, _, .int y, hit, rfl, rfl, ac_nil ⟨by show 2 ≤ 100000; omega, hd⟩⟩)))⟩)))))
end
def ltP (p q : Int × Int) : Prop := p.1 < q.1 ∨ (p.1 = q.1 ∧ p.2 < q.2)
def pairL (p : Int × Int) : List Int := [p.1, p.2]
def pairD (p : Int × Int) : D := tupI (pairL p)
theorem code_lt {B : Int} {p q : Int × Int} (hp : 0 ≤ p.2 ∧ p.2 < B) (hq : 0 ≤ q.2 ∧ q.2 < B) (hne : p ≠ q) (h : TS.code B (pairL p) ≤ TS.code B (pairL q)) : ltP p q := by
  have h' : p.1 * B ^ 1 + (p.2 * B ^ 0 + 0) ≤ q.1 * B ^ 1 + (q.2 * B ^ 0 + 0) := h
  have e1 : B ^ 1 = B := by rw [Int.pow_succ, Int.pow_zero, Int.one_mul]
  rw [e1, Int.pow_zero, Int.mul_one, Int.mul_one] at h'
  rcases Int.lt_trichotomy p.1 q.1 with z | z | z
  · exact .inl z
  · refine .inr ⟨z, ?_⟩
    rw [z] at h'
    have : p.2 ≠ q.2 := fun y => hne (Prod.ext z y)
    omega
  · exfalso
    have h1 : (q.1 + 1) * B ≤ p.1 * B := Int.mul_le_mul_of_nonneg_right (by omega) (by omega)
    rw [Int.add_mul, Int.one_mul] at h1
    omega
structure Lk (hs : Option Int) (Bd : Int) (e : D × Int × Int) : Prop where
  row : RowOf e.1 [.int e.2.1, .int e.2.2]
  x : InLim hs e.2.1
  y : InLim hs e.2.2
  ne : e.2.1 ≠ e.2.2
  bx : e.2.1 < Bd
  by' : e.2.2 < Bd
def S_link_set (ds : List D) (Ψ : D → Prop) : Prop := ∃ (hs : Option Int) (row : D) (es : List (D × Int × Int)) (Bd : Int), ds = [lim hs, row] ∧ RowOf row (es.map (·.1)) ∧ (∀ e ∈ es, Lk hs Bd e) ∧ (es.map (·.2)).Nodup ∧ es.length < 64 ∧
  ∀ out : List (Int × Int), out.Perm (es.map (·.2)) → out.Pairwise ltP → Ψ (.tup (out.map pairD))
theorem m_link_set : MonoF S_link_set := fun ds Φ Φ' h ⟨a, b, c, d, h1, h2, h3, h4, h5, h6⟩ => ⟨a, b, c, d, h1, h2, h3, h4, h5, fun out q1 q2 => h _ (h6 out q1 q2)⟩
def keyP (p : Int × Int) : List Key := [.inl p.1, .inl p.2]
theorem keyP_inj {p q : Int × Int} (h : keyP p = keyP q) : p = q := by
  unfold keyP at h
  injection h with h1 h2
  injection h2 with h2 _
  exact Prod.ext (Sum.inl.inj h1) (Sum.inl.inj h2)
def markT (ls : List (Int × Int)) : List (List Key × D) := ls.map fun p => (keyP p, D.bl true)
theorem markT_val {p : Int × Int} : ∀ {ls : List (Int × Int)}, p ∉ ls → (valD (markT ls) (keyP p)).isSome = false
  | [], _ => rfl
  | q :: ls, h => by
    unfold valD markT
    have hne : ¬ keyP q = keyP p := fun z => h (by rw [keyP_inj z]; exact List.mem_cons_self)
    rw [List.map_cons, List.find?_cons_of_neg (by simpa using hne)]
    have ih := markT_val (p := p) (ls := ls) (fun z => h (List.mem_cons_of_mem _ z))
    unfold valD markT at ih
    exact ih
theorem markT_put {p : Int × Int} {ls : List (Int × Int)} (h : p ∉ ls) : putKD (markT ls) (keyP p) (.bl true) = markT (ls ++ [p]) := by
  rw [putKD_new]
  · unfold markT; rw [List.map_append]; rfl
  · intro z
    obtain ⟨q, hq, e⟩ := List.mem_map.mp z
    unfold markT at hq
    obtain ⟨m, hm, rfl⟩ := List.mem_map.mp hq
    have : m = p := keyP_inj e
    subst this; exact h hm
theorem not_before {α : Type} {l : List α} {i : Nat} {a : α} (nd : l.Nodup) (h : l[i]? = some a) : a ∉ l.take i := fun z => by
  obtain ⟨j, hj⟩ := List.mem_iff_getElem?.mp z
  rw [List.getElem?_take] at hj
  split at hj
  · rename_i hji
    have hil : i < l.length := (List.getElem?_eq_some_iff.mp h).1
    have hjl : j < l.length := by omega
    rw [List.getElem?_eq_getElem hjl] at hj
    rw [List.getElem?_eq_getElem hil] at h
    exact List.pairwise_iff_getElem.mp nd j i hjl hil hji ((Option.some.inj hj).trans (Option.some.inj h).symm)
  · cases hj
section
variable {P : Program} {w : World} {K : PySem.W.Frag} {mg : Str → Option Value} {base : Heap} {f : Addr} {fd : FuncData}
theorem c_link_set (F : FunN K "link_set" s_link_set f fd) (hm : mg "link_set" = some (.ref f)) (b : Blt mg) (c1 : Cal P w K mg base "is_row" 1 (PFn 1 S_is_row)) (c2 : Cal P w K mg base "link_of" 3 (PFn 2 S_link_of)) : Cal P w K mg base "link_set" 4 (PFn 2 S_link_set) := by
  have nd : (["houses", "row", "found", "at", "value", "link"] : List Str).Nodup := by decide +kernel
  refine cal_fn F hm (N := ["houses", "row", "found", "at", "value", "link"]) (ps := ["houses", "row"]) ⟨rfl, rfl, rfl, nd, rfl, by decide +kernel, by decide +kernel⟩ rfl (fun _ _ _ _ _ _ us hl => match us, hl with | [_, _], _ => rfl) ?_
  rintro cdv A outer s H E hr ds Ψ hl ⟨hs, row, es, Bd, rfl, ⟨ho, hlt, hit⟩, hes, hnd, hn, hd⟩
  have hu : (bodyX P w K mg base ["houses", "row", "found", "at", "value", "link"] "link_set" (defScope s_link_set) f cdv A outer s H E).A.units + 1 < cLine := by have := hr.units; omega
  refine sc_if (tc_not (tc_val (ec_cf c1 (hr.mono (by omega)) (pass_0 passL) m_is_row (ac_cons (ec_var 1 rfl (ac_nil ⟨rfl, row, rfl, ho, _, rfl, ?_⟩))))))
  rw [hlt]
  refine ⟨(fun z => nomatch z), fun _ => sc_nil ?_⟩
  refine sc_own 2 (fc_dictT ?_) nd
  intro pf
  refine sc_for (js := [3, 4]) (ic_enum b.enum (ec_var 1 rfl ⟨_, hit, ?_⟩)) (passes_of rfl)
  refine ⟨fun i ρ' => ∃ x y z, ρ' = [some (.im (lim hs)), some (.im row), some (.ow pf (.t (markT ((es.map (·.2)).take i)))), x, y, z], ⟨none, none, none, rfl⟩, ?_, ?_⟩
  · rintro i d ρi hi ⟨x, y, z, rfl⟩
    rw [enumD_get, List.getElem?_map] at hi
    obtain ⟨d0, h0, rfl⟩ := Option.map_eq_some_iff.mp hi
    obtain ⟨e, hei, rfl⟩ := Option.map_eq_some_iff.mp h0
    have lk := hes e (List.mem_of_getElem? hei)
    have hli : (es.map (·.2))[i]? = some e.2 := by rw [List.getElem?_map, hei]; rfl
    have hnew := not_before hnd hli
    refine gt_tup ⟨rfl, ⟨_, rfl⟩, rfl⟩ (gts_cons (gt_name 3 (gts_cons (gt_name 4 (gts_nil ?_) nd)) nd))
    refine sc_set 5 (ec_cf c2 (hr.mono (by omega)) (pass_0 passL) m_link_of (ac_cons (ec_var 0 rfl (ac_cons (ec_var 4 rfl (ac_nil ⟨rfl, hs, e.1, e.2.1, e.2.2, rfl, lk.row, lk.x, lk.y, lk.ne, ?_⟩)))))) nd
    refine sc_if (tc_w (wc_or (tc_isN (ec_var 5 rfl ?_))))
    refine ⟨fun _ => wc_or1 (tc_dinT 2 hu (ec_var 5 rfl ⟨pf, markT ((es.map (·.2)).take i), [.int e.2.1, .int e.2.2], keyP e.2, rfl, rfl, rfl, ?_⟩)), (fun z => nomatch z)⟩
    rw [markT_val hnew]
    refine ⟨(fun z => nomatch z), fun _ => sc_nil ?_⟩
    refine sc_dputT 2 hu (ec_bl (ec_var 5 rfl ⟨pf, markT ((es.map (·.2)).take i), [.int e.2.1, .int e.2.2], keyP e.2, rfl, rfl, rfl, ?_, sc_nil ⟨some (.im (.int (i : Nat))), some (.im e.1), some (.im (pairD e.2)), ?_⟩⟩)) (hex := ⟨_, _, rfl⟩)
    · unfold markT; rw [List.length_map, List.length_take, List.length_map]; omega
    · rw [markT_put hnew]
      have et : (es.map (·.2)).take (i + 1) = (es.map (·.2)).take i ++ [e.2] := by rw [List.take_add_one, hli]; rfl
      rw [et]; rfl
  · rintro ρ2 ⟨x, y, z, rfl⟩
    have et : (es.map (·.2)).take (enumD (es.map (·.1))).length = es.map (·.2) := by
      unfold enumD; rw [enumFrom_len, List.length_map, ← List.length_map (as := es) (f := (·.2)), List.take_length]
    rw [et]
    refine sc_ret (ec_cty call_tuple_of boot_tuple b.tuple (ac_cons (ec_sortedDT 2 (ks := (es.map (·.2)).map pairL) 2 Bd rfl ?_ (by rw [List.length_map, List.length_map]; exact hn) (by omega) ?_ (fun ks' hp hs' => ac_nil ⟨_, gb_tuple rfl (fun _ h => nomatch h), ?_⟩) b.sorted)))
    · unfold markT; simp only [List.map_map]; rfl
    · intro k hk
      obtain ⟨p, hp, rfl⟩ := List.mem_map.mp hk
      obtain ⟨e, he, rfl⟩ := List.mem_map.mp hp
      have lk := hes e he
      refine ⟨rfl, fun m hm2 => ?_⟩
      rcases List.mem_cons.mp hm2 with q | q
      · subst q; exact ⟨lk.x.1, lk.bx⟩
      · have q := List.mem_singleton.mp q
        subst q; exact ⟨lk.y.1, lk.by'⟩
    · rintro d rfl
      obtain ⟨out, po, eo⟩ := perm_map_inv hp
      subst eo
      have hbd : ∀ p ∈ out, 0 ≤ p.2 ∧ p.2 < Bd := fun p hp2 => by
        obtain ⟨e, he, rfl⟩ := List.mem_map.mp (po.mem_iff.mp hp2)
        exact ⟨(hes e he).y.1, (hes e he).by'⟩
      have ndo : out.Nodup := po.nodup_iff.mpr hnd
      have hpw := List.pairwise_map.mp hs'
      have key : out.Pairwise ltP := by
        have both := List.Pairwise.and hpw ndo
        refine List.Pairwise.imp_of_mem (fun {p q} hp2 hq2 h => ?_) both
        exact code_lt (hbd p hp2) (hbd q hq2) h.2 h.1
      have := hd out po key
      rw [List.map_map]
      exact this
end
def pN (p : Nat × Nat) : D := .tup [natD p.1, natD p.2]
/-- the links of a among those to houses below j -/
def lkRow (a j : Nat) : List (Nat × Nat) := ((List.range j).filter fun x => decide (a ≠ x)).map fun x => (a, x)
/-- all links from houses below i to houses below n -/
def lkTo (n i : Nat) : List (Nat × Nat) := (List.range i).flatMap fun a => lkRow a n
theorem lkRow_len (a : Nat) : ∀ j, (lkRow a j).length ≤ j := fun j => by
  unfold lkRow
  rw [List.length_map]
  exact Nat.le_trans (List.length_filter_le _ _) (by rw [List.length_range]; exact Nat.le_refl _)
theorem lkTo_succ (n i : Nat) : lkTo n (i + 1) = lkTo n i ++ lkRow i n := by
  unfold lkTo; rw [List.range_succ, List.flatMap_append]; simp
theorem lkTo_len (n : Nat) : ∀ i, (lkTo n i).length ≤ i * n
  | 0 => Nat.zero_le _
  | i + 1 => by rw [lkTo_succ, List.length_append, Nat.succ_mul]; exact Nat.add_le_add (lkTo_len n i) (lkRow_len i n)
theorem lkRow_succ (a j : Nat) : lkRow a (j + 1) = lkRow a j ++ (if a ≠ j then [(a, j)] else []) := by
  unfold lkRow
  rw [List.range_succ, List.filter_append, List.map_append]
  by_cases h : a = j
  · subst h; simp
  · simp [h]
def S_all_links (ds : List D) (Ψ : D → Prop) : Prop := ∃ n : Nat, ds = [natD n] ∧ n ≤ 64 ∧ Ψ (.tup ((lkTo n n).map pN))
theorem m_all_links : MonoF S_all_links := fun ds Φ Φ' h ⟨n, h1, h2, h3⟩ => ⟨n, h1, h2, h _ h3⟩
theorem rng_nat {n i : Nat} {d : D} (h : (rngD 0 (n : Int).toNat)[i]? = some d) : i < n ∧ d = natD i := by
  rw [Int.toNat_natCast] at h
  obtain ⟨h1, h2⟩ := rngD_get h
  exact ⟨h1, by rw [h2, Int.zero_add]; rfl⟩
theorem rng_len (n : Nat) : (rngD 0 (n : Int).toNat).length = n := by
  unfold rngD; rw [List.length_map, List.length_range, Int.toNat_natCast]
section
variable {P : Program} {w : World} {K : PySem.W.Frag} {mg : Str → Option Value} {base : Heap} {f : Addr} {fd : FuncData}
theorem c_all_links (F : FunN K "all_links" s_all_links f fd) (hm : mg "all_links" = some (.ref f)) (b : Blt mg) : Cal P w K mg base "all_links" 1 (PFn 1 S_all_links) := by
  have nd : (["houses", "a", "b"] : List Str).Nodup := by decide +kernel
  refine cal_fn F hm (N := ["houses", "a", "b"]) (ps := ["houses"]) ⟨rfl, rfl, rfl, nd, rfl, by decide +kernel, by decide +kernel⟩ rfl (fun _ _ _ _ _ _ us hl => match us, hl with | [_], _ => rfl) ?_
  rintro cdv A outer s H E hr ds Ψ hl ⟨n, rfl, hn, hd⟩
  refine sc_ret (ec_cty call_tuple_of boot_tuple b.tuple (ac_cons (ec_fc (fc_lc2If [("a", 1), ("b", 2)] [1] [2] [2] (ic_range (ec_var 0 rfl ⟨n, rfl, by omega, by omega, ?_⟩) b.range) nd (by decide) (by decide) (by decide)))))
  refine ⟨fun i => (lkTo n i).map pN, rfl, fun i hi => ?_, fun i d hid => ?_, fun j a o h => ?_, _, rfl, ac_nil ⟨_, gb_tuple rfl (fun _ h => nomatch h), ?_⟩⟩
  · rw [rng_len] at hi
    rw [List.length_map]
    have h1 := lkTo_len n i
    have h2 : i * n ≤ 64 * 64 := Nat.mul_le_mul (by omega) hn
    omega
  · obtain ⟨hin, rfl⟩ := rng_nat hid
    intro s1 H1 C1 cl1 fp1
    refine gt_name 1 ?_ nd
    intro s2 H2 C2 cl2 fp2
    refine ic_range (ec_var 0 rfl ⟨n, rfl, by omega, by omega, ?_⟩) b.range
    refine ⟨rfl, fun j => (lkRow i j).map pN, rfl, fun j hj => ?_, ?_, fun j e hje => ?_⟩
    · rw [rng_len] at hj; rw [List.length_map]; have := lkRow_len i j; omega
    · rw [rng_len]; dsimp only; rw [lkTo_succ, List.map_append]
    · obtain ⟨hjn, rfl⟩ := rng_nat hje
      intro s3 H3 C3 cl3 fp3
      refine gt_name 2 ?_ nd
      intro s4 H4 C4 cl4 fp4
      refine tc_neS (ec_var 1 rfl (ec_var 2 rfl ⟨decide ((i : Int) = (j : Int)), rfl, ?_⟩))
      refine ⟨fun hk => ?_, fun hk => ?_⟩
      · have hne : i ≠ j := fun z => by subst z; simp at hk
        intro s5 H5 C5 cl5 fp5
        refine ec_tup (ac_cons (ec_var 1 rfl (ac_cons (ec_var 2 rfl (ac_nil ⟨by show 2 ≤ 100000; omega, ?_, rfl⟩)))))
        show (lkRow i (j + 1)).map pN = _
        rw [lkRow_succ, if_pos hne, List.map_append]; rfl
      · have he : i = j := by simp at hk; omega
        refine ⟨?_, rfl⟩
        show (lkRow i (j + 1)).map pN = _
        rw [lkRow_succ, if_neg (by simpa using he), List.append_nil]
  · match j, h with
    | 0, h => cases h
    | 1, h => cases h
    | 2, h => cases h
  · rintro d rfl
    dsimp only
    rw [rng_len]
    exact hd
end
def S_Pattern (ds : List D) (Ψ : List (Str × D) → Prop) (_ : Er) : Prop := ∃ fr sr, ds = [fr, sr] ∧ S_house_set [.non, fr] fun d1 => S_link_set [.non, sr] fun d2 => Ψ [("fallen", d1), ("silent", d2)]
theorem m_Pattern : MonoI S_Pattern := fun ds Φ Φ' Ψ Ψ' h _ ⟨a, b, h1, h2⟩ => ⟨a, b, h1, m_house_set _ _ _ (fun d z => m_link_set _ _ _ (fun d' z' => h _ z') z) h2⟩
section
variable {P : Program} {w : World} {K : PySem.W.Frag} {mg : Str → Option Value} {base : Heap} {f C : Addr} {fd : FuncData} {dvs : List V}
theorem c_Pattern (F : FunD K "__init__" "Pattern.__init__" (defArgs s_Pattern___init__) (defBody s_Pattern___init__) (defScope s_Pattern___init__) dvs [] f fd) (hdv : dvs.length = 2) (mk : Mk K C f) (hm : mg "Pattern" = some (.ref C)) (cl : Cls K C) (n1 : NoAttr K C "fallen") (n2 : NoAttr K C "silent")
    (c1 : Cal P w K mg base "house_set" 3 (PFn 2 S_house_set)) (c2 : Cal P w K mg base "link_set" 4 (PFn 2 S_link_set)) : CalC P w K mg base "Pattern" C 5 (PFi 2 C S_Pattern) := by
  have nd : (["self", "fallen", "silent"] : List Str).Nodup := by decide +kernel
  have hb : Binds K fd ["self", "fallen", "silent"] [] := by
    obtain ⟨ds, hv, hb⟩ := F.binds1 (ps := ["self", "fallen", "silent"]) 3 2 (fun z => by rw [z] at hdv; cases hdv) (by rw [hdv]; rfl) (fun T kV doc pm an cdv ct us its hl hi => by
      match us, hl with
      | [u1, u2, u3], _ => 
        match its, hi.trans hdv with
        | [i1, i2], _ => exact ⟨_, rfl, rfl⟩)
    have : dvs.drop 2 = [] := List.drop_eq_nil_of_le (by omega)
    rw [this] at hv
    cases hv
    exact hb
  refine cal_init F mk hm (N := ["self", "fallen", "silent"]) (ps := ["self", "fallen", "silent"]) ⟨rfl, rfl, rfl, nd, rfl, by decide +kernel, by decide +kernel⟩ rfl hb ?_
  rintro cdv A outer s H E hr tk a ds Ψ Er hl ⟨fr, sr, rfl, hd⟩
  refine sc_fld 0 rfl cl n1 (ec_cf c1 (hr.mono (by omega)) (pass_tk tk) m_house_set (ac_cons (ec_non (ac_cons (ec_var 1 rfl (ac_nil ⟨rfl, m_house_set _ _ _ (fun d1 z => ?_) hd⟩))))))
  refine ⟨[], rfl, by show 0 < 1000; omega, ?_⟩
  refine sc_fld 0 rfl cl n2 (ec_cf c2 (hr.mono (by omega)) (pass_tk tk) m_link_set (ac_cons (ec_non (ac_cons (ec_var 2 rfl (ac_nil ⟨rfl, m_link_set _ _ _ (fun d2 z2 => ?_) z⟩))))))
  exact ⟨[("fallen", d1)], rfl, by show 1 < 1000; omega, sc_nil ⟨_, rfl, z2⟩⟩
end
structure Pt where
  fallen : List Int
  silent : List (Int × Int)
def patF (p : Pt) : List (Str × D) := [("fallen", intsD p.fallen), ("silent", .tup (p.silent.map pairD))]
def patD (C : Addr) (p : Pt) : D := .obj C (patF p)
theorem pat_fallen (p : Pt) : (patF p).lookup ("fallen" : Str) = some (intsD p.fallen) := rfl
theorem pat_silent (p : Pt) : (patF p).lookup ("silent" : Str) = some (D.tup (p.silent.map pairD)) := rfl
/-- the houses that stand -/
def stand (p : Pt) (i : Nat) : List Nat := (List.range i).filter fun h => decide ((h : Int) ∉ p.fallen)
theorem stand_succ (p : Pt) (i : Nat) : stand p (i + 1) = stand p i ++ (if (i : Int) ∈ p.fallen then [] else [i]) := by
  unfold stand
  rw [List.range_succ, List.filter_append]
  by_cases h : (i : Int) ∈ p.fallen
  · simp [h]
  · simp [h]
theorem stand_len (p : Pt) (i : Nat) : (stand p i).length ≤ i := by
  unfold stand; exact Nat.le_trans (List.length_filter_le _ _) (by rw [List.length_range]; exact Nat.le_refl _)
/-- the link lasts -/
def lastsP (p : Pt) (a b : Int) : Bool := !decide (a = b) && !decide (a ∈ p.fallen) && !decide (b ∈ p.fallen) && !decide ((a, b) ∈ p.silent)
structure PatC (K : PySem.W.Frag) (C : Addr) : Prop where
  is : IsC K C
  n1 : NoAttr K C "fallen"
  n2 : NoAttr K C "silent"
def S_standing (C : Addr) (ds : List D) (Ψ : D → Prop) : Prop := ∃ (p : Pt) (n : Nat), ds = [patD C p, natD n] ∧ n ≤ 64 ∧ Ψ (.tup ((stand p n).map natD))
def S_lasts (C : Addr) (ds : List D) (Ψ : D → Prop) : Prop := ∃ (p : Pt) (a b : Int), ds = [patD C p, .int a, .int b] ∧ Ψ (.bl (lastsP p a b))
theorem m_standing (C : Addr) : MonoF (S_standing C) := fun ds Φ Φ' h ⟨p, n, h1, h2, h3⟩ => ⟨p, n, h1, h2, h _ h3⟩
theorem m_lasts (C : Addr) : MonoF (S_lasts C) := fun ds Φ Φ' h ⟨p, a, b, h1, h2⟩ => ⟨p, a, b, h1, h _ h2⟩
abbrev FunM (K : PySem.W.Frag) (nm qual : Str) (st : Stmt) (f : Addr) (fd : FuncData) : Prop := FunD K nm qual (defArgs st) (defBody st) (defScope st) [] [] f fd
section
variable {P : Program} {w : World} {K : PySem.W.Frag} {mg : Str → Option Value} {base : Heap} {f C : Addr} {fd : FuncData}
theorem c_standing (F : FunM K "standing" "Pattern.standing" s_Pattern_standing f fd) (mt : Meth K C "standing" f) (b : Blt mg) (pc : PatC K C) : CalM P w K mg base C "standing" 1 (PFn 2 (S_standing C)) := by
  have nd : (["self", "houses", "house"] : List Str).Nodup := by decide +kernel
  refine cal_m F mt (N := ["self", "houses", "house"]) (ps := ["self", "houses"]) ⟨rfl, rfl, rfl, nd, rfl, by decide +kernel, by decide +kernel⟩ rfl (F.bindsN fun _ _ _ _ _ _ us hl => match us, hl with | [_, _], _ => rfl) ?_
  rintro cdv A outer s H E hr ds Ψ hl ⟨p, n, rfl, hn, hd⟩
  refine sc_ret (ec_cty call_tuple_of boot_tuple b.tuple (ac_cons (ec_fc (fc_lcIf [("house", 2)] [2] (ic_range (ec_var 1 rfl ⟨n, rfl, by omega, by omega, ?_⟩) b.range) nd (by decide)))))
  refine ⟨fun _ => [some (.im (patD C p)), some (.im (natD n)), none], fun i => (stand p i).map natD, [some (.im (patD C p)), some (.im (natD n)), none], rfl, rfl, fun i hi => ?_, fun i d hid => ?_, ⟨rfl, fun _ _ h => h, fun i a o h => ?_⟩, _, rfl, ac_nil ⟨_, gb_tuple rfl (fun _ h => nomatch h), ?_⟩⟩
  · rw [rng_len] at hi; rw [List.length_map]; have := stand_len p i; omega
  · obtain ⟨hin, rfl⟩ := rng_nat hid
    intro s1 H1 C1 cl1 fp1
    refine gt_name 2 ?_ nd
    intro s2 H2 C2 cl2 fp2
    refine tc_niI (ec_var 2 rfl (ec_fld (ec_var 0 rfl ⟨C, patF p, _, rfl, pc.is.cl, pc.n1, pat_fallen p, (i : Int), p.fallen, rfl, rfl, ?_⟩)))
    refine ⟨fun hk => ?_, fun hk => ?_⟩
    · have hm : (i : Int) ∉ p.fallen := by simpa using hk
      intro s3 H3 C3 cl3 fp3
      refine ec_var 2 rfl ⟨?_, rfl⟩
      show (stand p (i + 1)).map natD = _
      rw [stand_succ, if_neg hm, List.map_append]; rfl
    · have hm : (i : Int) ∈ p.fallen := by simpa using hk
      refine ⟨?_, rfl⟩
      show (stand p (i + 1)).map natD = _
      rw [stand_succ, if_pos hm, List.append_nil]
  · match i, h with
    | 0, h => cases h
    | 1, h => cases h
    | 2, h => cases h
  · rintro d rfl
    dsimp only
    rw [rng_len]
    exact hd
theorem mem_pairL {p : Int × Int} {l : List (Int × Int)} : pairL p ∈ l.map pairL ↔ p ∈ l := by
  rw [List.mem_map]
  constructor
  · rintro ⟨q, hq, e⟩
    unfold pairL at e
    injection e with e1 e2
    injection e2 with e2 _
    have : q = p := Prod.ext e1 e2
    rw [← this]; exact hq
  · exact fun h => ⟨p, h, rfl⟩
theorem c_lasts (F : FunM K "lasts" "Pattern.lasts" s_Pattern_lasts f fd) (mt : Meth K C "lasts" f) (b : Blt mg) (pc : PatC K C) : CalM P w K mg base C "lasts" 2 (PFn 3 (S_lasts C)) := by
  have nd : (["self", "first", "other"] : List Str).Nodup := by decide +kernel
  refine cal_m F mt (N := ["self", "first", "other"]) (ps := ["self", "first", "other"]) ⟨rfl, rfl, rfl, nd, rfl, by decide +kernel, by decide +kernel⟩ rfl (F.bindsN fun _ _ _ _ _ _ us hl => match us, hl with | [_, _, _], _ => rfl) ?_
  rintro cdv A outer s H E hr ds Ψ hl ⟨p, x, y, rfl, hd⟩
  have hu : (bodyX P w K mg base ["self", "first", "other"] "Pattern.lasts" (defScope s_Pattern_lasts) f cdv A outer s H E).A.units + 65 < cLine := by have := hr.un; omega
  refine sc_if (tc_w (wc_or (tc_eqS (ec_var 1 rfl (ec_var 2 rfl ⟨decide (x = y), rfl, ?_⟩)))))
  have out : ∀ v, lastsP p x y = v → (OutP Ψ).rt (Rs.im (.bl v)) (envD 3 [patD C p, .int x, .int y]) := fun v e => by rw [e] at hd; exact hd
  refine ⟨fun h1 => wc_or (tc_inI (ec_var 1 rfl (ec_fld (ec_var 0 rfl ⟨C, patF p, _, rfl, pc.is.cl, pc.n1, pat_fallen p, x, p.fallen, rfl, rfl, ?_⟩)))), fun h1 => ⟨fun _ => sc_ret (ec_bl (out false ?_)), (fun z => nomatch z)⟩⟩
  · refine ⟨fun h2 => wc_or1 (tc_inI (ec_var 2 rfl (ec_fld (ec_var 0 rfl ⟨C, patF p, _, rfl, pc.is.cl, pc.n1, pat_fallen p, y, p.fallen, rfl, rfl, ?_⟩)))), fun h2 => ⟨fun _ => sc_ret (ec_bl (out false ?_)), (fun z => nomatch z)⟩⟩
    · refine ⟨fun h3 => sc_ret (ec_bl (out false ?_)), fun h3 => sc_nil ?_⟩
      · unfold lastsP; rw [h3]; simp
      · refine sc_ret (ec_niT hu (ec_tup (ac_cons (ec_var 1 rfl (ac_cons (ec_var 2 rfl (ac_nil ⟨by show 2 ≤ 100000; omega, ec_fld (ec_var 0 rfl ⟨C, patF p, _, rfl, pc.is.cl, pc.n2, pat_silent p, pairL (x, y), p.silent.map pairL, rfl, ?_, ?_⟩)⟩)))))))
        · rw [List.map_map]; rfl
        · refine out _ ?_
          unfold lastsP
          rw [h1, h2, h3]
          simp [mem_pairL]
    · unfold lastsP; rw [h2]; simp
  · unfold lastsP; rw [h1]; simp
end
/-- the lasting links among the first i of all -/
def lasting (p : Pt) (ls : List (Nat × Nat)) : List (Nat × Nat) := ls.filter fun l => lastsP p l.1 l.2
def S_lasting (C : Addr) (ds : List D) (Ψ : D → Prop) : Prop := ∃ (p : Pt) (n : Nat), ds = [patD C p, natD n] ∧ n ≤ 64 ∧ Ψ (.tup ((lasting p (lkTo n n)).map pN))
theorem m_lasting (C : Addr) : MonoF (S_lasting C) := fun ds Φ Φ' h ⟨p, n, h1, h2, h3⟩ => ⟨p, n, h1, h2, h _ h3⟩
theorem lasting_snoc (p : Pt) (ls : List (Nat × Nat)) (l : Nat × Nat) : lasting p (ls ++ [l]) = lasting p ls ++ (if lastsP p l.1 l.2 = true then [l] else []) := by
  unfold lasting
  rw [List.filter_append]
  by_cases h : lastsP p l.1 l.2 = true
  · simp [h]
  · simp [h]
section
variable {P : Program} {w : World} {K : PySem.W.Frag} {mg : Str → Option Value} {base : Heap} {f C : Addr} {fd : FuncData}
theorem c_lasting (F : FunM K "lasting" "Pattern.lasting" s_Pattern_lasting f fd) (mt : Meth K C "lasting" f) (b : Blt mg) (pc : PatC K C) (c1 : Cal P w K mg base "all_links" 1 (PFn 1 S_all_links)) (c2 : CalM P w K mg base C "lasts" 2 (PFn 3 (S_lasts C))) : CalM P w K mg base C "lasting" 3 (PFn 2 (S_lasting C)) := by
  have nd : (["self", "houses", "a", "b"] : List Str).Nodup := by decide +kernel
  refine cal_m F mt (N := ["self", "houses", "a", "b"]) (ps := ["self", "houses"]) ⟨rfl, rfl, rfl, nd, rfl, by decide +kernel, by decide +kernel⟩ rfl (F.bindsN fun _ _ _ _ _ _ us hl => match us, hl with | [_, _], _ => rfl) ?_
  rintro cdv A outer s H E hr ds Ψ hl ⟨p, n, rfl, hn, hd⟩
  refine sc_ret (ec_cty call_tuple_of boot_tuple b.tuple (ac_cons (ec_fc (fc_lcIf [("a", 2), ("b", 3)] [2, 3] (ic_tup (ec_cf c1 (hr.mono (by omega)) (pass_0 passL) m_all_links (ac_cons (ec_var 1 rfl (ac_nil ⟨rfl, n, rfl, hn, _, rfl, ?_⟩))))) nd (by decide)))))
  refine ⟨fun _ => [some (.im (patD C p)), some (.im (natD n)), none, none], fun i => (lasting p ((lkTo n n).take i)).map pN, [some (.im (patD C p)), some (.im (natD n)), none, none], rfl, rfl, fun i hi => ?_, fun i d hid => ?_, ⟨rfl, fun _ _ h => h, fun i a o h => ?_⟩, _, rfl, ac_nil ⟨_, gb_tuple rfl (fun _ h => nomatch h), ?_⟩⟩
  · rw [List.length_map]
    have h1 : (lasting p ((lkTo n n).take i)).length ≤ (lkTo n n).length := Nat.le_trans (List.length_filter_le _ _) (by rw [List.length_take]; exact Nat.min_le_right _ _)
    have h2 := lkTo_len n n
    have h3 : n * n ≤ 64 * 64 := Nat.mul_le_mul hn hn
    omega
  · rw [List.getElem?_map] at hid
    obtain ⟨l, hli, rfl⟩ := Option.map_eq_some_iff.mp hid
    have et : (lkTo n n).take (i + 1) = (lkTo n n).take i ++ [l] := by rw [List.take_add_one, hli]; rfl
    intro s1 H1 C1 cl1 fp1
    refine gt_tup ⟨rfl, ⟨_, rfl⟩, rfl⟩ (gts_cons (gt_name 2 (gts_cons (gt_name 3 (gts_nil ?_) nd)) nd))
    intro s2 H2 C2 cl2 fp2
    refine tc_val (ec_mf pc.is.cl c2 (hr.mono (by omega)) (pass_0 passL) (m_lasts C) (ec_var 0 rfl ⟨patF p, rfl, rfl, ac_cons (ec_var 2 rfl (ac_cons (ec_var 3 rfl (ac_nil ⟨rfl, p, (l.1 : Int), (l.2 : Int), rfl, _, rfl, ?_⟩))))⟩))
    refine ⟨fun hk => ?_, fun hk => ?_⟩
    · intro s3 H3 C3 cl3 fp3
      refine ec_tup (ac_cons (ec_var 2 rfl (ac_cons (ec_var 3 rfl (ac_nil ⟨by show 2 ≤ 100000; omega, ?_, rfl⟩)))))
      show (lasting p ((lkTo n n).take (i + 1))).map pN = _
      rw [et, lasting_snoc, if_pos hk, List.map_append]; rfl
    · refine ⟨?_, rfl⟩
      show (lasting p ((lkTo n n).take (i + 1))).map pN = _
      rw [et, lasting_snoc, if_neg (by rw [hk]; simp), List.append_nil]
  · match i, h with
    | 0, h => cases h
    | 1, h => cases h
    | 2, h => cases h
    | 3, h => cases h
  · rintro d rfl
    dsimp only
    rw [List.length_map, List.take_length]
    exact hd
end
def S_house_count (ds : List D) (Ψ : D → Prop) : Prop := ∃ n : Nat, ds = [natD n] ∧ 1 ≤ n ∧ n ≤ 7 ∧ Ψ (natD n)
theorem m_house_count : MonoF S_house_count := fun ds Φ Φ' h ⟨n, h1, h2, h3, h4⟩ => ⟨n, h1, h2, h3, h _ h4⟩
def ends (l : List (Int × Int)) : List Int := l.flatMap fun q => [q.1, q.2]
structure PtIn (p : Pt) (n : Nat) : Prop where
  f : ∀ k ∈ p.fallen, 0 ≤ k ∧ k < n
  s : ∀ k ∈ ends p.silent, 0 ≤ k ∧ k < n
  lf : p.fallen.length < 64
  ls : p.silent.length < 64
def S_fits (C : Addr) (ds : List D) (Ψ : D → Prop) : Prop := ∃ (p : Pt) (n : Nat), ds = [patD C p, natD n] ∧ PtIn p n ∧ Ψ (.bl true)
theorem m_fits (C : Addr) : MonoF (S_fits C) := fun ds Φ Φ' h ⟨p, n, h1, h2, h3⟩ => ⟨p, n, h1, h2, h _ h3⟩
theorem ends_len : ∀ l : List (Int × Int), (ends l).length = 2 * l.length
  | [] => rfl
  | q :: l => by unfold ends; rw [List.flatMap_cons, List.length_append, List.length_cons]; have := ends_len l; unfold ends at this; rw [this]; simp; omega
theorem ends_snoc (l : List (Int × Int)) (q : Int × Int) : ends (l ++ [q]) = ends l ++ [q.1, q.2] := by unfold ends; rw [List.flatMap_append]; simp
section
variable {P : Program} {w : World} {K : PySem.W.Frag} {mg : Str → Option Value} {base : Heap} {f C : Addr} {fd : FuncData} {t7 : Tok}
theorem c_house_count (F : FunN K "house_count" s_house_count f fd) (hm : mg "house_count" = some (.ref f)) (b : Blt mg) (h7 : mg "MOST_HOUSES" = some (.int 7 t7)) (c1 : Cal P w K mg base "is_number" 1 (PFn 1 S_is_number)) : Cal P w K mg base "house_count" 2 (PFn 1 S_house_count) := by
  have nd : (["value"] : List Str).Nodup := by decide +kernel
  refine cal_fn F hm (N := ["value"]) (ps := ["value"]) ⟨rfl, rfl, rfl, nd, rfl, by decide +kernel, by decide +kernel⟩ rfl (fun _ _ _ _ _ _ us hl => match us, hl with | [_], _ => rfl) ?_
  rintro cdv A outer s H E hr ds Ψ hl ⟨n, rfl, h1, h2, hd⟩
  refine sc_if (tc_w (wc_or (tc_not (tc_val (ec_cf c1 (hr.mono (by omega)) (pass_0 passL) m_is_number (ac_cons (ec_var 0 rfl (ac_nil ⟨rfl, natD n, rfl, rfl, _, rfl, ?_⟩))))))))
  refine ⟨fun _ => wc_or (tc_lt (ec_var 0 rfl (ec_int ⟨_, _, rfl, rfl, ?_⟩))), (fun z => nomatch z)⟩
  rw [decide_eq_false (by omega)]
  refine ⟨fun _ => wc_or1 (tc_gt (ec_var 0 rfl (ec_gi h7 ⟨_, _, rfl, rfl, ?_⟩))), (fun z => nomatch z)⟩
  rw [decide_eq_false (by omega)]
  exact ⟨(fun z => nomatch z), fun _ => sc_nil (sc_ret (ec_var 0 rfl hd))⟩
theorem c_fits (F : FunM K "fits" "Pattern.fits" s_Pattern_fits f fd) (mt : Meth K C "fits" f) (b : Blt mg) (pc : PatC K C) (c1 : Cal P w K mg base "is_below" 2 (PFn 2 S_is_below)) : CalM P w K mg base C "fits" 3 (PFn 2 (S_fits C)) := by
  have nd : (["self", "houses", "ends", "link", "house"] : List Str).Nodup := by decide +kernel
  refine cal_m F mt (N := ["self", "houses", "ends", "link", "house"]) (ps := ["self", "houses"]) ⟨rfl, rfl, rfl, nd, rfl, by decide +kernel, by decide +kernel⟩ rfl (F.bindsN fun _ _ _ _ _ _ us hl => match us, hl with | [_, _], _ => rfl) ?_
  rintro cdv A outer s H E hr ds Ψ hl ⟨p, n, rfl, hp, hd⟩
  refine sc_lc2 2 [("link", 3), ("house", 4)] [3] [4] [4] (ic_tup (ec_fld (ec_var 0 rfl ⟨C, patF p, _, rfl, pc.is.cl, pc.n2, pat_silent p, _, rfl, ?_⟩))) nd (by decide) (by decide) (by decide)
  refine ⟨fun i => (ends (p.silent.take i)).map D.int, rfl, fun i hi => ?_, fun i d hid => ?_, fun j a o h => ?_, fun pe => sc_frz 2 rfl ?_⟩
  · rw [List.length_map, ends_len, List.length_take]; have := hp.ls; omega
  · rw [List.getElem?_map] at hid
    obtain ⟨q, hq, rfl⟩ := Option.map_eq_some_iff.mp hid
    intro s1 H1 C1 cl1 fp1
    refine gt_name 3 ?_ nd
    intro s2 H2 C2 cl2 fp2
    refine ic_tup (ec_var 3 rfl ⟨_, rfl, ?_⟩)
    refine ⟨rfl, fun j => ([q.1, q.2].take j).map D.int, rfl, fun j hj => ?_, ?_, fun j e hje => ?_⟩
    · rw [List.length_map, List.length_take]; have : [q.1, q.2].length = 2 := rfl; omega
    · show (ends (p.silent.take (i + 1))).map D.int = _
      rw [List.take_add_one, hq]
      show (ends (p.silent.take i ++ [q])).map D.int = _
      rw [ends_snoc, List.map_append]; rfl
    · have hje' : ([q.1, q.2].map D.int)[j]? = some e := hje
      rw [List.getElem?_map] at hje'
      obtain ⟨k, hk, rfl⟩ := Option.map_eq_some_iff.mp hje'
      intro s3 H3 C3 cl3 fp3
      refine gt_name 4 ?_ nd
      intro s4 H4 C4 cl4 fp4
      refine ec_var 4 rfl ⟨?_, rfl⟩
      show ([q.1, q.2].take (j + 1)).map D.int = _
      rw [List.take_add_one, hk, List.map_append]; rfl
  · match j, h with
    | 0, h => cases h
    | 1, h => cases h
    | 2, h => cases h
    | 3, h => cases h
    | 4, h => cases h
  dsimp only
  rw [List.length_map, List.take_length]
  let ks := p.fallen ++ ends p.silent
  have hks : ∀ k ∈ ks, isBelow (.int k) (natD n) = true := fun k hk => by
    have h2 : 0 ≤ k ∧ k < n := (List.mem_append.mp hk).elim (hp.f k) (hp.s k)
    simp [isBelow, natD, h2.1, h2.2]
  refine sc_ret (ec_cb (cr_all rfl) boot_all b.all (ac_cons (ec_fc (fc_lc [("house", 4)] [4] (ic_list (ec_cat (ec_cty call_list_of boot_list b.list (ac_cons (ec_fld (ec_var 0 rfl ⟨C, patF p, _, rfl, pc.is.cl, pc.n1, pat_fallen p, ac_nil ⟨_, gb_list rfl, ?_⟩⟩)))))) nd (by decide)))))
  rintro d rfl
  have hlen : ks.length ≤ 1000 := by
    show (p.fallen ++ ends p.silent).length ≤ 1000
    rw [List.length_append, ends_len]; have := hp.lf; have := hp.ls; omega
  refine ec_var 2 rfl ⟨_, _, rfl, rfl, ?_, _, rfl, ?_⟩
  · rw [List.length_map, List.length_map, ends_len]; have := hp.lf; have := hp.ls; omega
  rw [← List.map_append]
  refine ⟨fun _ => [some (.im (patD C p)), some (.im (natD n)), some (.im (.lst ((ends p.silent).map D.int))), none, none], fun i => (ks.take i).map fun _ => .bl true, [some (.im (patD C p)), some (.im (natD n)), some (.im (.lst ((ends p.silent).map D.int))), none, none], rfl, rfl, fun i hi => ?_, fun i d hid => ?_, ⟨rfl, fun _ _ h => h, fun i a o h => ?_⟩, _, rfl, ac_nil ?_⟩
  · rw [List.length_map, List.length_take]; omega
  · rw [List.getElem?_map] at hid
    obtain ⟨k, hk, rfl⟩ := Option.map_eq_some_iff.mp hid
    have hkk : ks[i]? = some k := hk
    intro s1 H1 C1 cl1 fp1
    refine gt_name 4 ?_ nd
    intro s2 H2 C2 cl2 fp2
    refine ec_cf c1 (hr.mono (by omega)) (pass_0 passL) m_is_below (ac_cons (ec_var 4 rfl (ac_cons (ec_var 1 rfl (ac_nil ⟨rfl, .int k, natD n, rfl, rfl, .inr ⟨n, rfl⟩, ?_, rfl⟩)))))
    rw [hks k (List.mem_of_getElem? hkk)]
    show (ks.take (i + 1)).map _ = (ks.take i).map _ ++ _
    rw [List.take_add_one, hkk, List.map_append]; rfl
  · match i, h with
    | 0, h => cases h
    | 1, h => cases h
    | 2, h => cases h
    | 3, h => cases h
    | 4, h => cases h
  · dsimp only
    have e : ((ks.take (List.map D.int (p.fallen ++ ends p.silent)).length).map fun _ => D.bl true) = (ks.map fun _ => true).map D.bl := by
      rw [List.length_map]; show ((ks.take ks.length).map _) = _; rw [List.take_length, List.map_map]; rfl
    rw [e]
    refine ⟨_, gb_all, ?_⟩
    rintro d rfl
    show Ψ _
    have : (ks.map fun _ => true).all id = true := by rw [List.all_map]; simp
    rw [this]; exact hd
end
def S_fits_houses (C : Addr) (ds : List D) (Ψ : D → Prop) : Prop := ∃ (n : Nat) (p : Pt), ds = [natD n, patD C p] ∧ PtIn p n ∧ Ψ (.bl true)
theorem m_fits_houses (C : Addr) : MonoF (S_fits_houses C) := fun ds Φ Φ' h ⟨n, p, h1, h2, h3⟩ => ⟨n, p, h1, h2, h _ h3⟩
def S_check_pattern_number (ds : List D) (Ψ : D → Prop) : Prop := ∃ m n : Nat, ds = [natD m, natD n] ∧ n < m ∧ Ψ (natD n)
theorem m_check_pattern_number : MonoF S_check_pattern_number := fun ds Φ Φ' h ⟨m, n, h1, h2, h3⟩ => ⟨m, n, h1, h2, h _ h3⟩
def S_pattern_row (C : Addr) (ds : List D) (Ψ : D → Prop) : Prop := ∃ (n : Nat) (ps : List Pt), ds = [natD n, .lst (ps.map (patD C))] ∧ ps ≠ [] ∧ ps.length ≤ 12 ∧ (∀ p ∈ ps, PtIn p n) ∧ Ψ (.tup (ps.map (patD C)))
theorem m_pattern_row (C : Addr) : MonoF (S_pattern_row C) := fun ds Φ Φ' h ⟨n, ps, h1, h2, h3, h4, h5⟩ => ⟨n, ps, h1, h2, h3, h4, h _ h5⟩
def bookF (C : Addr) (n : Nat) (ps : List Pt) : List (Str × D) := [("houses", natD n), ("patterns", .tup (ps.map (patD C)))]
def bookD (CB C : Addr) (n : Nat) (ps : List Pt) : D := .obj CB (bookF C n ps)
structure BookC (K : PySem.W.Frag) (C : Addr) : Prop where
  cl : Cls K C
  n1 : NoAttr K C "houses"
  n2 : NoAttr K C "patterns"
def S_Book (C : Addr) (ds : List D) (Ψ : List (Str × D) → Prop) (_ : Er) : Prop := ∃ (n : Nat) (ps : List Pt), ds = [natD n, .lst (ps.map (patD C))] ∧ 1 ≤ n ∧ n ≤ 7 ∧ ps ≠ [] ∧ ps.length ≤ 12 ∧ (∀ p ∈ ps, PtIn p n) ∧ Ψ (bookF C n ps)
theorem m_Book (C : Addr) : MonoI (S_Book C) := fun ds Φ Φ' Ψ Ψ' h _ ⟨n, ps, h1, h2, h3, h4, h5, h6, h7⟩ => ⟨n, ps, h1, h2, h3, h4, h5, h6, h _ h7⟩
section
variable {P : Program} {w : World} {K : PySem.W.Frag} {mg : Str → Option Value} {base : Heap} {f C CB : Addr} {fd : FuncData} {t12 : Tok}
theorem c_fits_houses (F : FunN K "fits_houses" s_fits_houses f fd) (hm : mg "fits_houses" = some (.ref f)) (b : Blt mg) (pc : PatC K C) (hp : mg "Pattern" = some (.ref C)) (hk : PySem.W.kitOne K (.ref C) (.ref C) = some true) (c1 : CalM P w K mg base C "fits" 3 (PFn 2 (S_fits C))) : Cal P w K mg base "fits_houses" 4 (PFn 2 (S_fits_houses C)) := by
  have nd : (["houses", "value"] : List Str).Nodup := by decide +kernel
  refine cal_fn F hm (N := ["houses", "value"]) (ps := ["houses", "value"]) ⟨rfl, rfl, rfl, nd, rfl, by decide +kernel, by decide +kernel⟩ rfl (fun _ _ _ _ _ _ us hl => match us, hl with | [_, _], _ => rfl) ?_
  rintro cdv A outer s H E hr ds Ψ hl ⟨n, p, rfl, hpt, hd⟩
  refine sc_ret (ec_and (ec_isiO (ec_var 1 rfl ⟨C, patF p, true, rfl, pc.is, hk, true, rfl, fun _ => ?_, (fun z => nomatch z)⟩) b.isi hp))
  exact ec_one (ec_mf pc.is.cl c1 (hr.mono (by omega)) (pass_0 passL) (m_fits C) (ec_var 1 rfl ⟨patF p, rfl, rfl, ac_cons (ec_var 0 rfl (ac_nil ⟨rfl, p, n, rfl, hpt, hd⟩))⟩))
end
def S_len (CB C : Addr) (ds : List D) (Ψ : D → Prop) : Prop := ∃ (n : Nat) (ps : List Pt), ds = [bookD CB C n ps] ∧ Ψ (natD ps.length)
def S_item (CB C : Addr) (ds : List D) (Ψ : D → Prop) : Prop := ∃ (n : Nat) (ps : List Pt) (i : Nat) (p : Pt), ds = [bookD CB C n ps, natD i] ∧ ps[i]? = some p ∧ Ψ (patD C p)
def S_house_of (ds : List D) (Ψ : D → Prop) : Prop := ∃ n v : Nat, ds = [natD n, natD v] ∧ v < n ∧ Ψ (natD v)
theorem m_len (CB C : Addr) : MonoF (S_len CB C) := fun ds Φ Φ' h ⟨n, ps, h1, h2⟩ => ⟨n, ps, h1, h _ h2⟩
theorem m_item (CB C : Addr) : MonoF (S_item CB C) := fun ds Φ Φ' h ⟨n, ps, i, p, h1, h2, h3⟩ => ⟨n, ps, i, p, h1, h2, h _ h3⟩
theorem m_house_of : MonoF S_house_of := fun ds Φ Φ' h ⟨n, v, h1, h2, h3⟩ => ⟨n, v, h1, h2, h _ h3⟩
structure Nt where
  n : Nat
  p : Pt
  alive : List Nat
  links : List (Nat × Nat)
  on : List (List Nat)
  bk : List (List Nat)
def netF (C : Addr) (t : Nt) : List (Str × D) := [("houses", natD t.n), ("pattern", patD C t.p), ("alive", rowD t.alive), ("links", .tup (t.links.map pN)), ("onward", .tup (t.on.map rowD)), ("backward", .tup (t.bk.map rowD))]
def netD (CN C : Addr) (t : Nt) : D := .obj CN (netF C t)
structure NtOk (t : Nt) : Prop where
  n7 : t.n ≤ 7
  onl : t.on.length = t.n
  bkl : t.bk.length = t.n
  ono : adjOk t.on
  bko : adjOk t.bk
structure NetC (K : PySem.W.Frag) (C : Addr) : Prop where
  cl : Cls K C
  n1 : NoAttr K C "houses"
  n2 : NoAttr K C "alive"
  n3 : NoAttr K C "onward"
  n4 : NoAttr K C "backward"
  n5 : NoAttr K C "pattern"
  n6 : NoAttr K C "links"
def S_alive_house (CN C : Addr) (ds : List D) (Ψ : D → Prop) : Prop := ∃ (t : Nt) (h : Nat), ds = [netD CN C t, natD h] ∧ h < t.n ∧ h ∈ t.alive ∧ Ψ (natD h)
theorem m_alive_house (CN C : Addr) : MonoF (S_alive_house CN C) := fun ds Φ Φ' h ⟨t, x, h1, h2, h3, h4⟩ => ⟨t, x, h1, h2, h3, h _ h4⟩
def reachL (adj : List (List Nat)) (h : Nat) : List Int := toldFrom 0 (steps adj h)
def S_reached (CN C : Addr) (ds : List D) (Ψ : D → Prop) : Prop := ∃ (t : Nt) (h : Nat), ds = [netD CN C t, natD h] ∧ NtOk t ∧ h < t.n ∧ h ∈ t.alive ∧ Ψ (intsD (reachL t.on h))
def S_past (CN C : Addr) (ds : List D) (Ψ : D → Prop) : Prop := ∃ (t : Nt) (h : Nat), ds = [netD CN C t, natD h] ∧ NtOk t ∧ h < t.n ∧ h ∈ t.alive ∧ Ψ (intsD (reachL t.bk h))
def S_part (CN C : Addr) (ds : List D) (Ψ : D → Prop) : Prop := ∃ (t : Nt) (h : Nat), ds = [netD CN C t, natD h] ∧ NtOk t ∧ h < t.n ∧ h ∈ t.alive ∧ Ψ (intsD ((reachL t.bk h).filter fun k => decide (k ∈ reachL t.on h)))
theorem m_reached (CN C : Addr) : MonoF (S_reached CN C) := fun ds Φ Φ' h ⟨t, x, h1, h2, h3, h4, h5⟩ => ⟨t, x, h1, h2, h3, h4, h _ h5⟩
theorem m_past (CN C : Addr) : MonoF (S_past CN C) := fun ds Φ Φ' h ⟨t, x, h1, h2, h3, h4, h5⟩ => ⟨t, x, h1, h2, h3, h4, h _ h5⟩
theorem m_part (CN C : Addr) : MonoF (S_part CN C) := fun ds Φ Φ' h ⟨t, x, h1, h2, h3, h4, h5⟩ => ⟨t, x, h1, h2, h3, h4, h _ h5⟩
theorem told_asc : ∀ (ss : List (Option Int)) (k : Nat), (toldFrom k ss).Pairwise (· < ·) ∧ ∀ x ∈ toldFrom k ss, (k : Int) ≤ x
  | [], _ => ⟨.nil, fun x hx => nomatch hx⟩
  | none :: r, k => ⟨(told_asc r (k + 1)).1, fun x hx => by have := (told_asc r (k + 1)).2 x hx; omega⟩
  | some _ :: r, k => ⟨List.pairwise_cons.mpr ⟨fun x hx => by have := (told_asc r (k + 1)).2 x hx; omega, (told_asc r (k + 1)).1⟩, fun x hx => by
    rcases List.mem_cons.mp hx with z | z
    · omega
    · have := (told_asc r (k + 1)).2 x z; omega⟩
theorem brun_len {adj : List (List Nat)} : ∀ (m a : Nat) {s : Bf}, BInv adj.length s → (brun adj m a s).found.length = adj.length
  | 0, _, _, i => i.len
  | m + 1, a, s, i => by
    unfold brun
    split
    · exact brun_len m (a + 1) (BInv.fold _ i)
    · exact i.len
theorem steps_len {adj : List (List Nat)} {h : Nat} (hh : h < adj.length) : (steps adj h).length = adj.length := brun_len _ _ (BInv.start hh)
section
variable {P : Program} {w : World} {K : PySem.W.Frag} {mg : Str → Option Value} {base : Heap} {f C CB CN : Addr} {fd : FuncData}
theorem mem_row {h : Nat} {l : List Nat} : (h : Int) ∈ l.map (fun x : Nat => (x : Int)) ↔ h ∈ l := by
  rw [List.mem_map]
  exact ⟨fun ⟨x, hx, e⟩ => by have : x = h := by omega
                              rw [← this]; exact hx, fun z => ⟨h, z, rfl⟩⟩
theorem c_house_of (F : FunN K "house_of" s_house_of f fd) (hm : mg "house_of" = some (.ref f)) (c1 : Cal P w K mg base "is_below" 2 (PFn 2 S_is_below)) : Cal P w K mg base "house_of" 3 (PFn 2 S_house_of) := by
  have nd : (["houses", "value"] : List Str).Nodup := by decide +kernel
  refine cal_fn F hm (N := ["houses", "value"]) (ps := ["houses", "value"]) ⟨rfl, rfl, rfl, nd, rfl, by decide +kernel, by decide +kernel⟩ rfl (fun _ _ _ _ _ _ us hl => match us, hl with | [_, _], _ => rfl) ?_
  rintro cdv A outer s H E hr ds Ψ hl ⟨n, v, rfl, hlt, hd⟩
  have e : isBelow (natD v) (natD n) = true := by simp [isBelow, natD]; omega
  refine sc_if (tc_not (tc_val (ec_cf c1 (hr.mono (by omega)) (pass_0 passL) m_is_below (ac_cons (ec_var 1 rfl (ac_cons (ec_var 0 rfl (ac_nil ⟨rfl, natD v, natD n, rfl, rfl, .inr ⟨n, rfl⟩, _, rfl, ?_⟩))))))))
  rw [e]
  exact ⟨(fun z => nomatch z), fun _ => sc_nil (sc_ret (ec_var 1 rfl hd))⟩
theorem c_alive_house (F : FunN K "alive_house" s_alive_house f fd) (hm : mg "alive_house" = some (.ref f)) (nc : NetC K CN) (c1 : Cal P w K mg base "house_of" 3 (PFn 2 S_house_of)) : Cal P w K mg base "alive_house" 4 (PFn 2 (S_alive_house CN C)) := by
  have nd : (["net", "value"] : List Str).Nodup := by decide +kernel
  refine cal_fn F hm (N := ["net", "value"]) (ps := ["net", "value"]) ⟨rfl, rfl, rfl, nd, rfl, by decide +kernel, by decide +kernel⟩ rfl (fun _ _ _ _ _ _ us hl => match us, hl with | [_, _], _ => rfl) ?_
  rintro cdv A outer s H E hr ds Ψ hl ⟨t, h, rfl, hn, ha, hd⟩
  refine sc_expr (ec_cf c1 (hr.mono (by omega)) (pass_0 passL) m_house_of (ac_cons (ec_fld (ec_var 0 rfl ⟨CN, netF C t, natD t.n, rfl, nc.cl, nc.n1, rfl, ac_cons (ec_var 1 rfl (ac_nil ⟨rfl, t.n, h, rfl, hn, ?_⟩))⟩))))
  refine sc_if (tc_niI (ec_var 1 rfl (ec_fld (ec_var 0 rfl ⟨CN, netF C t, rowD t.alive, rfl, nc.cl, nc.n2, rfl, (h : Int), t.alive.map (fun x : Nat => (x : Int)), rfl, by unfold rowD; rw [List.map_map]; rfl, ?_⟩))))
  rw [decide_eq_true (mem_row.mpr ha)]
  exact ⟨(fun z => nomatch z), fun _ => sc_nil (sc_ret (ec_var 1 rfl hd))⟩
theorem c_reached (F : FunN K "reached" s_reached f fd) (hm : mg "reached" = some (.ref f)) (nc : NetC K CN) (c1 : Cal P w K mg base "told_houses" 1 (PFn 1 S_told_houses)) (c2 : Cal P w K mg base "steps_over" 1 (PFn 2 S_steps_over)) (c3 : Cal P w K mg base "alive_house" 4 (PFn 2 (S_alive_house CN C))) : Cal P w K mg base "reached" 5 (PFn 2 (S_reached CN C)) := by
  have nd : (["net", "house"] : List Str).Nodup := by decide +kernel
  refine cal_fn F hm (N := ["net", "house"]) (ps := ["net", "house"]) ⟨rfl, rfl, rfl, nd, rfl, by decide +kernel, by decide +kernel⟩ rfl (fun _ _ _ _ _ _ us hl => match us, hl with | [_, _], _ => rfl) ?_
  rintro cdv A outer s H E hr ds Ψ hl ⟨t, h, rfl, ok, hn, ha, hd⟩
  refine sc_ret (ec_cf c1 (hr.mono (by omega)) (pass_0 passL) m_told_houses (ac_cons (ec_cf c2 (hr.mono (by omega)) (pass_0 passL) m_steps_over (ac_cons (ec_fld (ec_var 0 rfl ⟨CN, netF C t, .tup (t.on.map rowD), rfl, nc.cl, nc.n3, rfl, ac_cons (ec_cf c3 (hr.mono (by omega)) (pass_0 passL) (m_alive_house CN C) (ac_cons (ec_var 0 rfl (ac_cons (ec_var 1 rfl (ac_nil ⟨rfl, t, h, rfl, hn, ha, ?_⟩))))))⟩))))))
  have hh : h < t.on.length := by rw [ok.onl]; exact hn
  refine ac_nil ⟨rfl, t.on, h, rfl, by rw [ok.onl]; have := ok.n7; omega, hh, ok.ono, ac_nil ⟨rfl, steps t.on h, rfl, by rw [steps_len hh, ok.onl]; have := ok.n7; omega, hd⟩⟩
theorem c_past (F : FunN K "past" s_past f fd) (hm : mg "past" = some (.ref f)) (nc : NetC K CN) (c1 : Cal P w K mg base "told_houses" 1 (PFn 1 S_told_houses)) (c2 : Cal P w K mg base "steps_over" 1 (PFn 2 S_steps_over)) (c3 : Cal P w K mg base "alive_house" 4 (PFn 2 (S_alive_house CN C))) : Cal P w K mg base "past" 5 (PFn 2 (S_past CN C)) := by
  have nd : (["net", "house"] : List Str).Nodup := by decide +kernel
  refine cal_fn F hm (N := ["net", "house"]) (ps := ["net", "house"]) ⟨rfl, rfl, rfl, nd, rfl, by decide +kernel, by decide +kernel⟩ rfl (fun _ _ _ _ _ _ us hl => match us, hl with | [_, _], _ => rfl) ?_
  rintro cdv A outer s H E hr ds Ψ hl ⟨t, h, rfl, ok, hn, ha, hd⟩
  refine sc_ret (ec_cf c1 (hr.mono (by omega)) (pass_0 passL) m_told_houses (ac_cons (ec_cf c2 (hr.mono (by omega)) (pass_0 passL) m_steps_over (ac_cons (ec_fld (ec_var 0 rfl ⟨CN, netF C t, .tup (t.bk.map rowD), rfl, nc.cl, nc.n4, rfl, ac_cons (ec_cf c3 (hr.mono (by omega)) (pass_0 passL) (m_alive_house CN C) (ac_cons (ec_var 0 rfl (ac_cons (ec_var 1 rfl (ac_nil ⟨rfl, t, h, rfl, hn, ha, ?_⟩))))))⟩))))))
  have hh : h < t.bk.length := by rw [ok.bkl]; exact hn
  refine ac_nil ⟨rfl, t.bk, h, rfl, by rw [ok.bkl]; have := ok.n7; omega, hh, ok.bko, ac_nil ⟨rfl, steps t.bk h, rfl, by rw [steps_len hh, ok.bkl]; have := ok.n7; omega, hd⟩⟩
theorem c_part (F : FunN K "part" s_part f fd) (hm : mg "part" = some (.ref f)) (c1 : Cal P w K mg base "common" 1 (PFn 2 S_common)) (c2 : Cal P w K mg base "past" 5 (PFn 2 (S_past CN C))) (c3 : Cal P w K mg base "reached" 5 (PFn 2 (S_reached CN C))) : Cal P w K mg base "part" 6 (PFn 2 (S_part CN C)) := by
  have nd : (["net", "house"] : List Str).Nodup := by decide +kernel
  refine cal_fn F hm (N := ["net", "house"]) (ps := ["net", "house"]) ⟨rfl, rfl, rfl, nd, rfl, by decide +kernel, by decide +kernel⟩ rfl (fun _ _ _ _ _ _ us hl => match us, hl with | [_, _], _ => rfl) ?_
  rintro cdv A outer s H E hr ds Ψ hl ⟨t, h, rfl, ok, hn, ha, hd⟩
  have l1 : (reachL t.bk h).length < 64 := by
    have h1 := told_len (steps t.bk h) 0
    rw [steps_len (by rw [ok.bkl]; exact hn), ok.bkl] at h1
    have := ok.n7; unfold reachL; omega
  have l2 : (reachL t.on h).length < 64 := by
    have h1 := told_len (steps t.on h) 0
    rw [steps_len (by rw [ok.onl]; exact hn), ok.onl] at h1
    have := ok.n7; unfold reachL; omega
  exact sc_ret (ec_cf c1 (hr.mono (by omega)) (pass_0 passL) m_common (ac_cons (ec_cf c2 (hr.mono (by omega)) (pass_0 passL) (m_past CN C) (ac_cons (ec_var 0 rfl (ac_cons (ec_var 1 rfl (ac_nil ⟨rfl, t, h, rfl, ok, hn, ha,
    ac_cons (ec_cf c3 (hr.mono (by omega)) (pass_0 passL) (m_reached CN C) (ac_cons (ec_var 0 rfl (ac_cons (ec_var 1 rfl (ac_nil ⟨rfl, t, h, rfl, ok, hn, ha, ac_nil ⟨rfl, _, _, rfl, l1, l2, (told_asc _ 0).1, hd⟩⟩))))))⟩))))))))
end
def S_stands_at (CB C : Addr) (ds : List D) (Ψ : D → Prop) : Prop := ∃ (n : Nat) (ps : List Pt) (i h : Nat) (p : Pt), ds = [bookD CB C n ps, .tup [natD i, natD h]] ∧ ps[i]? = some p ∧ Ψ (.bl (!decide ((h : Int) ∈ p.fallen)))
theorem m_stands_at (CB C : Addr) : MonoF (S_stands_at CB C) := fun ds Φ Φ' h ⟨n, ps, i, x, p, h1, h2, h3⟩ => ⟨n, ps, i, x, p, h1, h2, h _ h3⟩
section
variable {P : Program} {w : World} {K : PySem.W.Frag} {mg : Str → Option Value} {base : Heap} {f C CB CN : Addr} {fd : FuncData}
end
def onRow (ls : List (Nat × Nat)) (x : Nat) : List Nat := (ls.filter fun l => decide (l.1 = x)).map (·.2)
def bkRow (ls : List (Nat × Nat)) (x : Nat) : List Nat := (ls.filter fun l => decide (l.2 = x)).map (·.1)
def mkNt (n : Nat) (p : Pt) : Nt := ⟨n, p, stand p n, lasting p (lkTo n n), (List.range n).map (onRow (lasting p (lkTo n n))), (List.range n).map (bkRow (lasting p (lkTo n n)))⟩
theorem mem_lkTo {n i a b : Nat} : (a, b) ∈ lkTo n i ↔ a < i ∧ b < n ∧ a ≠ b := by
  unfold lkTo lkRow
  simp only [List.mem_flatMap, List.mem_range, List.mem_map, List.mem_filter, decide_eq_true_eq, Prod.mk.injEq]
  constructor
  · rintro ⟨x, hx, y, ⟨hy, hne⟩, rfl, rfl⟩; exact ⟨hx, hy, hne⟩
  · rintro ⟨h1, h2, h3⟩; exact ⟨a, h1, b, ⟨h2, h3⟩, rfl, rfl⟩
theorem mkNt_ok {n : Nat} (p : Pt) (h7 : n ≤ 7) : NtOk (mkNt n p) := by
  refine ⟨h7, by simp [mkNt], by simp [mkNt], ?_, ?_⟩
  · intro r hr x hx
    simp only [mkNt, List.mem_map] at hr
    obtain ⟨y, _, rfl⟩ := hr
    simp only [onRow, List.mem_map, List.mem_filter, lasting] at hx
    obtain ⟨⟨u, v⟩, ⟨⟨h1, _⟩, _⟩, rfl⟩ := hx
    simp only [mkNt, List.length_map, List.length_range]
    exact (mem_lkTo.mp h1).2.1
  · intro r hr x hx
    simp only [mkNt, List.mem_map] at hr
    obtain ⟨y, _, rfl⟩ := hr
    simp only [bkRow, List.mem_map, List.mem_filter, lasting] at hx
    obtain ⟨⟨u, v⟩, ⟨⟨h1, _⟩, _⟩, rfl⟩ := hx
    simp only [mkNt, List.length_map, List.length_range]
    exact (mem_lkTo.mp h1).1
theorem onRow_snoc (ls : List (Nat × Nat)) (l : Nat × Nat) (x : Nat) : onRow (ls ++ [l]) x = onRow ls x ++ (if l.1 = x then [l.2] else []) := by
  unfold onRow
  rw [List.filter_append, List.map_append]
  by_cases h : l.1 = x <;> simp [h]
theorem bkRow_snoc (ls : List (Nat × Nat)) (l : Nat × Nat) (x : Nat) : bkRow (ls ++ [l]) x = bkRow ls x ++ (if l.2 = x then [l.1] else []) := by
  unfold bkRow
  rw [List.filter_append, List.map_append]
  by_cases h : l.2 = x <;> simp [h]
theorem onRow_len (ls : List (Nat × Nat)) (x : Nat) : (onRow ls x).length ≤ ls.length := by unfold onRow; rw [List.length_map]; exact List.length_filter_le _ _
theorem bkRow_len (ls : List (Nat × Nat)) (x : Nat) : (bkRow ls x).length ≤ ls.length := by unfold bkRow; rw [List.length_map]; exact List.length_filter_le _ _
theorem links_len (p : Pt) {n : Nat} (h : n ≤ 7) : (lasting p (lkTo n n)).length ≤ 49 := by
  have h1 : (lasting p (lkTo n n)).length ≤ (lkTo n n).length := List.length_filter_le _ _
  have h2 := lkTo_len n n
  have h3 : n * n ≤ 7 * 7 := Nat.mul_le_mul h h
  omega
def S_Net (C : Addr) (ds : List D) (Ψ : List (Str × D) → Prop) (_ : Er) : Prop := ∃ (n : Nat) (p : Pt), ds = [natD n, patD C p] ∧ 1 ≤ n ∧ n ≤ 7 ∧ PtIn p n ∧ Ψ (netF C (mkNt n p))
theorem m_Net (C : Addr) : MonoI (S_Net C) := fun ds Φ Φ' Ψ Ψ' h _ ⟨n, p, h1, h2, h3, h4, h5⟩ => ⟨n, p, h1, h2, h3, h4, h _ h5⟩
section
variable {P : Program} {w : World} {K : PySem.W.Frag} {mg : Str → Option Value} {base : Heap} {f C CB CN : Addr} {fd : FuncData}
theorem c_Net (F : FunM K "__init__" "Net.__init__" s_Net___init__ f fd) (mk : Mk K CN f) (hm : mg "Net" = some (.ref CN)) (b : Blt mg) (nc : NetC K CN) (pc : PatC K C) (c1 : Cal P w K mg base "house_count" 2 (PFn 1 S_house_count)) (c2 : Cal P w K mg base "fits_houses" 4 (PFn 2 (S_fits_houses C)))
    (c3 : CalM P w K mg base C "standing" 1 (PFn 2 (S_standing C))) (c4 : CalM P w K mg base C "lasting" 3 (PFn 2 (S_lasting C))) : CalC P w K mg base "Net" CN 5 (PFi 2 CN (S_Net C)) := by
  have nd : (["self", "houses", "pattern", "x", "a", "b"] : List Str).Nodup := by decide +kernel
  refine cal_init F mk hm (N := ["self", "houses", "pattern", "x", "a", "b"]) (ps := ["self", "houses", "pattern"]) ⟨rfl, rfl, rfl, nd, rfl, by decide +kernel, by decide +kernel⟩ rfl (F.bindsN fun _ _ _ _ _ _ us hl => match us, hl with | [_, _, _], _ => rfl) ?_
  rintro cdv A outer s H E hr tk a ds Ψ Er hl ⟨n, p, rfl, h1, h7, hin, hd⟩
  refine sc_fld 0 rfl nc.cl nc.n1 (ec_cf c1 (hr.mono (by omega)) (pass_tk tk) m_house_count (ac_cons (ec_var 1 rfl (ac_nil ⟨rfl, n, rfl, h1, h7, [], rfl, by show 0 < 1000; omega, ?_⟩))))
  refine sc_if (tc_not (tc_val (ec_cf c2 (hr.mono (by omega)) (pass_tk tk) (m_fits_houses C) (ac_cons (ec_var 1 rfl (ac_cons (ec_var 2 rfl (ac_nil ⟨rfl, n, p, rfl, hin, true, rfl, (fun z => nomatch z), fun _ => sc_nil ?_⟩))))))))
  refine sc_fld 0 rfl nc.cl nc.n5 (ec_var 2 rfl ⟨[("houses", natD n)], rfl, by show 1 < 1000; omega, ?_⟩)
  refine sc_fld 0 rfl nc.cl nc.n2 (ec_mf pc.is.cl c3 (hr.mono (by omega)) (pass_tk tk) (m_standing C) (ec_var 2 rfl ⟨patF p, rfl, rfl, ac_cons (ec_var 1 rfl (ac_nil ⟨rfl, p, n, rfl, by omega, [("houses", natD n), ("pattern", patD C p)], rfl, by show 2 < 1000; omega, ?_⟩))⟩))
  refine sc_fld 0 rfl nc.cl nc.n6 (ec_mf pc.is.cl c4 (hr.mono (by omega)) (pass_tk tk) (m_lasting C) (ec_var 2 rfl ⟨patF p, rfl, rfl, ac_cons (ec_var 1 rfl (ac_nil ⟨rfl, p, n, rfl, by omega, [("houses", natD n), ("pattern", patD C p), ("alive", rowD (stand p n))], rfl, by show 3 < 1000; omega, ?_⟩))⟩))
  let ls := lasting p (lkTo n n)
  have hls : ls.length ≤ 49 := links_len p h7
  let F4 : List (Str × D) := [("houses", natD n), ("pattern", patD C p), ("alive", rowD (stand p n)), ("links", .tup (ls.map pN))]
  refine sc_fld 0 rfl nc.cl nc.n3 (ec_cty call_tuple_of boot_tuple b.tuple (ac_cons (ec_fc (fc_lc [("x", 3)] [3] (ic_range (ec_var 1 rfl ⟨n, rfl, by omega, by omega, ?_⟩) b.range) nd (by decide)))))
  refine ⟨fun _ => [some (.ow a (.ob CN F4)), some (.im (natD n)), some (.im (patD C p)), none, none, none], fun i => ((List.range i).map (onRow ls)).map rowD, [some (.ow a (.ob CN F4)), some (.im (natD n)), some (.im (patD C p)), none, none, none], rfl, rfl, fun i hi => ?_, fun i d hid => ?_, ⟨rfl, fun _ _ h => h, fun i a' o h => ⟨h, _, h⟩⟩, _, rfl, ac_nil ⟨_, gb_tuple rfl (fun _ h => nomatch h), ?_⟩⟩
  · rw [rng_len] at hi; simp; omega
  · obtain ⟨hin', rfl⟩ := rng_nat hid
    intro s1 H1 C1 cl1 fp1
    refine gt_name 3 ?_ nd
    intro s2 H2 C2 cl2 fp2
    refine ec_cty call_tuple_of boot_tuple b.tuple (ac_cons (ec_fc (fc_lcIf [("a", 4), ("b", 5)] [4, 5] (ic_tup (ec_fldO 0 rfl nc.cl nc.n6 rfl ⟨_, rfl, ?_⟩)) nd (by decide))))
    refine ⟨fun _ => [some (.ow a (.ob CN F4)), some (.im (natD n)), some (.im (patD C p)), some (.im (natD i)), none, none], fun j => (onRow (ls.take j) i).map natD, [some (.ow a (.ob CN F4)), some (.im (natD n)), some (.im (patD C p)), some (.im (natD i)), none, none], rfl, rfl, fun j hj => ?_, fun j d hjd => ?_, ⟨rfl, fun _ _ h => h, fun i a' o h => ⟨h, _, h⟩⟩, _, rfl, ac_nil ⟨_, gb_tuple rfl (fun _ h => nomatch h), ?_⟩⟩
    · rw [List.length_map]; have := onRow_len (ls.take j) i; rw [List.length_take] at this; omega
    · rw [List.getElem?_map] at hjd
      obtain ⟨l, hl', rfl⟩ := Option.map_eq_some_iff.mp hjd
      have et : ls.take (j + 1) = ls.take j ++ [l] := by rw [List.take_add_one, hl']; rfl
      intro s3 H3 C3 cl3 fp3
      refine gt_tup ⟨rfl, ⟨_, rfl⟩, rfl⟩ (gts_cons (gt_name 4 (gts_cons (gt_name 5 (gts_nil ?_) nd)) nd))
      intro s4 H4 C4 cl4 fp4
      refine tc_eqS (ec_var 4 rfl (ec_var 3 rfl ⟨decide ((l.1 : Int) = (i : Int)), rfl, ?_⟩))
      refine ⟨fun hk => ?_, fun hk => ?_⟩
      · have hm : l.1 = i := by have := of_decide_eq_true hk; omega
        intro s5 H5 C5 cl5 fp5
        refine ec_var 5 rfl ⟨?_, rfl⟩
        show (onRow (ls.take (j + 1)) i).map natD = _
        rw [et, onRow_snoc, if_pos hm, List.map_append]; rfl
      · have hm : ¬ l.1 = i := fun z => by have := of_decide_eq_false hk; omega
        refine ⟨?_, rfl⟩
        show (onRow (ls.take (j + 1)) i).map natD = _
        rw [et, onRow_snoc, if_neg hm, List.append_nil]
    · rintro d rfl
      dsimp only
      rw [List.length_map, List.take_length]
      refine ⟨?_, rfl⟩
      rw [List.range_succ, List.map_append, List.map_append]; rfl
  rintro d rfl
  dsimp only
  rw [rng_len]
  refine ⟨F4, rfl, by show 4 < 1000; omega, ?_⟩
  let F5 : List (Str × D) := [("houses", natD n), ("pattern", patD C p), ("alive", rowD (stand p n)), ("links", .tup (ls.map pN)), ("onward", .tup (((List.range n).map (onRow ls)).map rowD))]
  refine sc_fld 0 rfl nc.cl nc.n4 (ec_cty call_tuple_of boot_tuple b.tuple (ac_cons (ec_fc (fc_lc [("x", 3)] [3] (ic_range (ec_var 1 rfl ⟨n, rfl, by omega, by omega, ?_⟩) b.range) nd (by decide)))))
  refine ⟨fun _ => [some (.ow a (.ob CN F5)), some (.im (natD n)), some (.im (patD C p)), none, none, none], fun i => ((List.range i).map (bkRow ls)).map rowD, [some (.ow a (.ob CN F5)), some (.im (natD n)), some (.im (patD C p)), none, none, none], rfl, rfl, fun i hi => ?_, fun i d hid => ?_, ⟨rfl, fun _ _ h => h, fun i a' o h => ⟨h, _, h⟩⟩, _, rfl, ac_nil ⟨_, gb_tuple rfl (fun _ h => nomatch h), ?_⟩⟩
  · rw [rng_len] at hi; simp; omega
  · obtain ⟨hin', rfl⟩ := rng_nat hid
    intro s1 H1 C1 cl1 fp1
    refine gt_name 3 ?_ nd
    intro s2 H2 C2 cl2 fp2
    refine ec_cty call_tuple_of boot_tuple b.tuple (ac_cons (ec_fc (fc_lcIf [("a", 4), ("b", 5)] [4, 5] (ic_tup (ec_fldO 0 rfl nc.cl nc.n6 rfl ⟨_, rfl, ?_⟩)) nd (by decide))))
    refine ⟨fun _ => [some (.ow a (.ob CN F5)), some (.im (natD n)), some (.im (patD C p)), some (.im (natD i)), none, none], fun j => (bkRow (ls.take j) i).map natD, [some (.ow a (.ob CN F5)), some (.im (natD n)), some (.im (patD C p)), some (.im (natD i)), none, none], rfl, rfl, fun j hj => ?_, fun j d hjd => ?_, ⟨rfl, fun _ _ h => h, fun i a' o h => ⟨h, _, h⟩⟩, _, rfl, ac_nil ⟨_, gb_tuple rfl (fun _ h => nomatch h), ?_⟩⟩
    · rw [List.length_map]; have := bkRow_len (ls.take j) i; rw [List.length_take] at this; omega
    · rw [List.getElem?_map] at hjd
      obtain ⟨l, hl', rfl⟩ := Option.map_eq_some_iff.mp hjd
      have et : ls.take (j + 1) = ls.take j ++ [l] := by rw [List.take_add_one, hl']; rfl
      intro s3 H3 C3 cl3 fp3
      refine gt_tup ⟨rfl, ⟨_, rfl⟩, rfl⟩ (gts_cons (gt_name 4 (gts_cons (gt_name 5 (gts_nil ?_) nd)) nd))
      intro s4 H4 C4 cl4 fp4
      refine tc_eqS (ec_var 5 rfl (ec_var 3 rfl ⟨decide ((l.2 : Int) = (i : Int)), rfl, ?_⟩))
      refine ⟨fun hk => ?_, fun hk => ?_⟩
      · have hm : l.2 = i := by have := of_decide_eq_true hk; omega
        intro s5 H5 C5 cl5 fp5
        refine ec_var 4 rfl ⟨?_, rfl⟩
        show (bkRow (ls.take (j + 1)) i).map natD = _
        rw [et, bkRow_snoc, if_pos hm, List.map_append]; rfl
      · have hm : ¬ l.2 = i := fun z => by have := of_decide_eq_false hk; omega
        refine ⟨?_, rfl⟩
        show (bkRow (ls.take (j + 1)) i).map natD = _
        rw [et, bkRow_snoc, if_neg hm, List.append_nil]
    · rintro d rfl
      dsimp only
      rw [List.length_map, List.take_length]
      refine ⟨?_, rfl⟩
      rw [List.range_succ, List.map_append, List.map_append]; rfl
  rintro d rfl
  dsimp only
  rw [rng_len]
  exact ⟨F5, rfl, by show 5 < 1000; omega, sc_nil ⟨_, rfl, hd⟩⟩
end
end T5
namespace T5
open PySem PySem.Spec PyProof.Rows L2 Evl AL
def iL (l : List Int) : List D := l.map D.int
theorem iL_snoc (l : List Int) (x : Int) : iL l ++ [D.int x] = iL (l ++ [x]) := by unfold iL; rw [List.map_append]; rfl
def S_pool (ds : List D) (Ψ : OO → Prop) : Prop := ∃ ns : List Int, ds = [.klst (iL ns)] ∧ ns.length ≤ 63 ∧ ∀ l : List Int, l.length ≤ 4000 → Ψ (.l (iL l))
def S_take (o : OO) (ds : List D) (Ψ : D → OO → Prop) : Prop := ∃ (l : List Int) (m : Int), o = .l (iL l) ∧ ds = [.int m] ∧ 0 < m ∧ ∀ (r : Int) (l' : List Int), 0 ≤ r → r < m → Ψ (.int r) (.l (iL l'))
section
variable {P : Program} {w : World} {K : PySem.W.Frag} {mg : Str → Option Value} {base : Heap} {f : Addr} {fd : FuncData}
theorem m_pool : MonoR S_pool := fun ds Φ Φ' h ⟨ns, h1, h2, h3⟩ => ⟨ns, h1, h2, fun l hl => h _ (h3 l hl)⟩
theorem m_take : MonoO S_take := fun o ds Φ Φ' h ⟨l, m, h1, h2, h3, h4⟩ => ⟨l, m, h1, h2, h3, fun r l' a b => h _ _ (h4 r l' a b)⟩
theorem c_pool (F : FunN K "_law_pool" s__law_pool f fd) (hm : mg "_law_pool" = some (.ref f)) (b : Blt mg) (hmin : mg "min" = none) : Cal P w K mg base "_law_pool" 1 (PFr 1 S_pool) := by
  have nd : (["script", "pool", "at", "cell", "k", "number"] : List Str).Nodup := by decide +kernel
  refine cal_fr F hm (N := ["script", "pool", "at", "cell", "k", "number"]) (ps := ["script"]) ⟨rfl, rfl, rfl, nd, rfl, by decide +kernel, by decide +kernel⟩ rfl (fun _ _ _ _ _ _ us hl => match us, hl with | [_], _ => rfl) ?_
  rintro cdv A outer s H E hr ds Ψ hl ⟨ns, rfl, hn, hd⟩
  refine sc_own 1 (fc_lst (ac_nil ⟨by decide, ?_⟩)) nd
  intro p
  refine sc_for (js := [2]) (ic_range (ec_cb (call_min2 rfl) rfl hmin (ac_cons (ec_len (ac_cons (ec_var 0 rfl (ac_nil ⟨_, _, rfl, rfl, ac_cons (ec_int (ac_nil ⟨_, gb_min2, ?_⟩))⟩))) b.len))) b.range) (passes_of rfl)
  rintro d rfl
  have hlen : (iL ns).length ≤ 63 := by unfold iL; rw [List.length_map]; exact hn
  have hmin : (if (63 : Int) < ((iL ns).length : Int) then (63 : Int) else ((iL ns).length : Int)) = ((iL ns).length : Int) := by rw [if_neg (by omega)]
  refine ⟨_, rfl, by rw [hmin]; omega, by rw [hmin]; omega, ?_⟩
  rw [hmin, Int.toNat_natCast]
  refine ⟨fun i ρ' => ∃ (l : List Int) (x y z t : Option Sl), l.length ≤ 48 * i ∧ i ≤ 63 ∧ ρ' = [some (.im (.klst (iL ns))), some (.ow p (.l (iL l))), x, y, z, t], ⟨[], none, none, none, none, by decide, by decide, rfl⟩, ?_, ?_⟩
  · rintro i d ρi hid ⟨l, x, y, z, t, hl1, _, rfl⟩
    obtain ⟨hi, rfl⟩ := rngD_get hid
    rw [Int.zero_add]
    have hin : i < ns.length := by unfold iL at hi; rwa [List.length_map] at hi
    refine gt_name 2 ?_ nd
    refine sc_set 3 (ec_cty call_int1 rfl b.int (ac_cons (ec_ix (ec_var 0 rfl (ec_var 2 rfl ⟨_, _, .int ns[i], rfl, rfl, atI_nat (by unfold iL; rw [List.getElem?_map]; simp [hin]), ac_nil ⟨_, gb_int, ?_⟩⟩))))) nd
    rintro d rfl
    refine sc_ifj (fun ρ' => ∃ c : Int, 0 ≤ c ∧ ρ' = [some (.im (.klst (iL ns))), some (.ow p (.l (iL l))), some (.im (.int (i : Int))), some (.im (.int c)), z, t]) (tc_lt (ec_var 3 rfl (ec_int ⟨_, _, rfl, rfl, ?_⟩))) ?_
    · by_cases hc : ns[i] < 0
      · rw [decide_eq_true hc]
        exact ⟨fun _ => sc_set 3 (ec_sub (ec_int (ec_var 3 rfl ⟨_, _, rfl, rfl, sc_nil ⟨3 - ns[i], by omega, rfl⟩⟩))) nd, (fun z => nomatch z)⟩
      · rw [decide_eq_false hc]
        exact ⟨(fun z => nomatch z), fun _ => sc_nil ⟨ns[i], by omega, rfl⟩⟩
    rintro ρ2 ⟨c, hc0, rfl⟩
    refine sc_if (tc_ge (ec_var 3 rfl (ec_pow (ec_int (ec_int ⟨10, 18, rfl, rfl, ⟨by decide, by decide, by decide⟩, _, _, rfl, rfl, ?_⟩)))))
    by_cases hbig : (10 : Int) ^ (18 : Int).toNat ≤ c
    · rw [decide_eq_true hbig]
      refine ⟨fun _ => ?_, (fun z => nomatch z)⟩
      refine sc_for (js := [4]) (ic_range (ec_int ⟨48, rfl, by decide, by decide, ?_⟩) b.range) (passes_of rfl)
      refine ⟨fun k ρ' => ∃ (l2 : List Int) (c2 : Int) (z2 : Option Sl), l2.length ≤ l.length + k ∧ k ≤ 48 ∧ 0 ≤ c2 ∧ ρ' = [some (.im (.klst (iL ns))), some (.ow p (.l (iL l2))), some (.im (.int (i : Int))), some (.im (.int c2)), z2, t], ⟨l, c, z, by omega, by decide, hc0, rfl⟩, ?_, ?_⟩
      · rintro k d ρk hk ⟨l2, c2, z2, hl2, _, hc2, rfl⟩
        obtain ⟨hk48, rfl⟩ := rngD_get hk
        have hk48' : k < 48 := hk48
        refine gt_name 4 ?_ nd
        refine sc_if (tc_gt (ec_var 3 rfl (ec_int ⟨_, _, rfl, rfl, ?_⟩)))
        by_cases hp : 0 < c2
        · rw [decide_eq_true hp]
          refine ⟨fun _ => ?_, (fun z => nomatch z)⟩
          refine sc_app 1 rfl (ec_mod (ec_cty call_int1 rfl b.int (ac_cons (ec_var 3 rfl (ac_nil ⟨_, gb_int, ?_⟩)))))
          rintro d rfl
          refine ec_int ⟨c2, 30, rfl, rfl, by decide, _, rfl, by unfold iL; rw [List.length_map]; omega, ?_⟩
          refine sc_set 3 (ec_fdiv (ec_var 3 rfl (ec_int ⟨c2, 30, rfl, rfl, ⟨by decide, by decide⟩, ?_⟩))) nd
          refine sc_nil (sc_nil ⟨l2 ++ [c2 % 30], c2 / 30, some (.im (.int (0 + (k : Int)))), by rw [List.length_append]; simp; omega, hk48', by omega, ?_⟩)
          rw [← iL_snoc]; rfl
        · rw [decide_eq_false hp]
          exact ⟨(fun z => nomatch z), fun _ => sc_nil (sc_nil ⟨l2, c2, _, by omega, hk48', hc2, rfl⟩)⟩
      · rintro ρ3 ⟨l2, c2, z2, hl2, hk2, hc2, rfl⟩
        exact sc_nil (sc_nil ⟨l2, _, _, _, _, by have : (rngD 0 (48 : Int).toNat).length = 48 := rfl; omega, by omega, rfl⟩)
    · rw [decide_eq_false hbig]
      have hb18 : c < 10 ^ 18 := by have e : (18 : Int).toNat = 18 := rfl
                                    rw [e] at hbig; omega
      refine ⟨(fun z => nomatch z), fun _ => ?_⟩
      refine sc_set 5 (ec_mod (ec_cty call_int1 rfl b.int (ac_cons (ec_add (ec_add (ec_mul (ec_var 3 rfl (ec_int ⟨_, _, rfl, rfl, .inr ⟨by decide, by decide⟩, ec_mul (ec_var 2 rfl (ec_int ⟨_, _, rfl, rfl, .inr ⟨by decide, by decide⟩, _, _, rfl, rfl, ec_int ⟨_, _, rfl, rfl, ac_nil ⟨_, gb_int, ?_⟩⟩⟩))⟩)))))))) nd
      rintro d rfl
      refine ec_int ⟨_, 2147483629, rfl, rfl, by decide, ?_⟩
      refine sc_for (js := [4]) (ic_range (ec_int ⟨9, rfl, by decide, by decide, ?_⟩) b.range) (passes_of rfl)
      refine ⟨fun k ρ' => ∃ (l2 : List Int) (n2 : Int) (z2 : Option Sl), l2.length ≤ l.length + k ∧ k ≤ 9 ∧ ρ' = [some (.im (.klst (iL ns))), some (.ow p (.l (iL l2))), some (.im (.int (i : Int))), some (.im (.int c)), z2, some (.im (.int n2))], ⟨l, _, z, by omega, by decide, rfl⟩, ?_, ?_⟩
      · rintro k d ρk hk ⟨l2, n2, z2, hl2, _, rfl⟩
        obtain ⟨hk9, rfl⟩ := rngD_get hk
        have hk9' : k < 9 := hk9
        refine gt_name 4 ?_ nd
        refine sc_set 5 (ec_mod (ec_cty call_int1 rfl b.int (ac_cons (ec_add (ec_add (ec_add (ec_mul (ec_var 5 rfl (ec_int ⟨_, _, rfl, rfl, .inr ⟨by decide, by decide⟩, ec_mul (ec_var 4 rfl (ec_int ⟨_, _, rfl, rfl, .inr ⟨by decide, by decide⟩, _, _, rfl, rfl, ec_var 2 rfl ⟨_, _, rfl, rfl, ec_int ⟨_, _, rfl, rfl, ac_nil ⟨_, gb_int, ?_⟩⟩⟩⟩))⟩))))))))) nd
        rintro d rfl
        refine ec_int ⟨_, 2147483629, rfl, rfl, by decide, ?_⟩
        refine sc_app 1 rfl (ec_fdiv (ec_var 5 rfl (ec_int ⟨_, 7, rfl, rfl, ⟨by decide, by decide⟩, iL l2, rfl, by unfold iL; rw [List.length_map]; omega, ?_⟩)))
        refine sc_nil ⟨l2 ++ [(n2 * 16807 + (0 + (k : Int)) * 104729 + (i : Int) + 11) % 2147483629 / 7], (n2 * 16807 + (0 + (k : Int)) * 104729 + (i : Int) + 11) % 2147483629, some (.im (.int (0 + (k : Int)))), by rw [List.length_append]; simp; omega, hk9', ?_⟩
        rw [← iL_snoc]; rfl
      · rintro ρ3 ⟨l2, n2, z2, hl2, hk2, rfl⟩
        exact sc_nil (sc_nil ⟨l2, _, _, _, _, by have : (rngD 0 (9 : Int).toNat).length = 9 := rfl; omega, by omega, rfl⟩)
  · rintro ρ2 ⟨l, x, y, z, t, hl1, hl2, rfl⟩
    refine sc_rev 1 rfl (sc_retO 1 rfl ?_)
    show Ψ (.l (iL l).reverse)
    have e : (iL l).reverse = iL l.reverse := by unfold iL; rw [List.map_reverse]
    rw [e]
    exact hd _ (by rw [List.length_reverse]; omega)
theorem c_take (F : FunN K "_law_take" s__law_take f fd) (hm : mg "_law_take" = some (.ref f)) (b : Blt mg) : Cal P w K mg base "_law_take" 1 (PFo 1 S_take) := by
  have nd : (["pool", "many"] : List Str).Nodup := by decide +kernel
  refine cal_fo F hm (N := ["pool", "many"]) (ps := ["pool", "many"]) ⟨rfl, rfl, rfl, nd, rfl, by decide +kernel, by decide +kernel⟩ rfl (fun _ _ _ _ _ _ us hl => match us, hl with | [_, _], _ => rfl) ?_
  rintro cdv A outer s H E hr a o ds Ψ hl ⟨l, m, rfl, rfl, hm0, hd⟩
  refine sc_if (tc_eqS (ec_lenO 0 rfl (ec_int ⟨_, rfl, ?_⟩) b.len))
  by_cases hz : l = []
  · subst hz
    exact ⟨fun _ => sc_ret (ec_int ⟨_, rfl, hd 0 [] (by omega) (by omega)⟩), (fun z => nomatch z)⟩
  · obtain ⟨l0, x, rfl⟩ : ∃ l0 x, l = l0 ++ [x] := ⟨l.dropLast, l.getLast hz, (List.dropLast_concat_getLast hz).symm⟩
    have hlen : ((iL (l0 ++ [x])).length : Int) ≠ 0 := by unfold iL; simp; omega
    rw [decide_eq_false hlen]
    refine ⟨(fun z => nomatch z), fun _ => sc_nil ?_⟩
    rw [← iL_snoc]
    refine sc_ret (ec_mod (ec_cty call_int1 rfl b.int (ac_cons (ec_pop 0 rfl (ac_nil ⟨_, gb_int, ?_⟩)))))
    rintro d rfl
    exact ec_var 1 rfl ⟨x, m, rfl, rfl, hm0, _, rfl, hd _ l0 (Int.emod_nonneg _ (by omega)) (Int.emod_lt_of_pos _ hm0)⟩
theorem c_law_int (F : FunN K "_law_int" s__law_int f fd) (hm : mg "_law_int" = some (.ref f)) (b : Blt mg) : Cal P w K mg base "_law_int" 1 (PFn 1 S_is_number) := by
  refine cal_fn F hm (N := ["value"]) (ps := ["value"]) ⟨rfl, rfl, rfl, by decide +kernel, rfl, by decide +kernel, by decide +kernel⟩ rfl (fun _ _ _ _ _ _ us hl => match us, hl with | [_], _ => rfl) ?_
  rintro cdv A outer s H E hr ds Ψ hl ⟨v, rfl, ho, hd⟩
  refine sc_ret (ec_and (ec_isi kit_int rfl (ec_var 0 rfl ⟨ho, ?_⟩) b.isi b.int))
  refine ⟨_, rfl, fun h1 => ec_one (ec_not (ec_isi kit_bool rfl (ec_var 0 rfl ⟨ho, ?_⟩) b.isi b.bool)), fun h1 => ?_⟩
  · refine ⟨_, rfl, ?_⟩
    show Ψ _
    have : (!isBoolD v) = isNum v := by cases v <;> simp_all [isIntD, isBoolD, isNum]
    rw [this]; exact hd
  · show Ψ (.bl false)
    have : isNum v = false := by cases v <;> simp_all [isIntD, isBoolD, isNum]
    rw [this] at hd; exact hd
/-! the law's own tables -/
def cell (M : Mx) (x y : Nat) : Int := (M.getD x []).getD y 0
structure MOk (M : Mx) : Prop where
  sq : ∀ r ∈ M, r.length = M.length
  l7 : M.length ≤ 7
theorem MOk.row {M : Mx} (m : MOk M) {x : Nat} (h : x < M.length) : M[x]? = some (M.getD x []) ∧ (M.getD x []).length = M.length := by
  have e : M[x]? = some M[x] := List.getElem?_eq_getElem h
  have e2 : M.getD x [] = M[x] := by simp [List.getD, e]
  exact ⟨by rw [e2]; exact e, by rw [e2]; exact m.sq _ (List.getElem_mem h)⟩
theorem MOk.at1 {M : Mx} (m : MOk M) {x : Nat} (h : x < M.length) : atI (M.map iD) (x : Int) = some (iD (M.getD x [])) := by
  refine atI_nat ?_
  rw [List.getElem?_map, (m.row h).1]; rfl
theorem MOk.at2 {M : Mx} (m : MOk M) {x y : Nat} (h : x < M.length) (h2 : y < M.length) : atI ((M.getD x []).map D.int) (y : Int) = some (.int (cell M x y)) := by
  refine atI_nat ?_
  have hl := (m.row h).2
  rw [List.getElem?_map]
  have e : (M.getD x [])[y]? = some ((M.getD x [])[y]'(by rw [hl]; exact h2)) := List.getElem?_eq_getElem _
  rw [e]
  show some (D.int _) = some (D.int _)
  congr 2
  unfold cell
  rw [List.getD_eq_getElem?_getD (l := M.getD x []), e]; rfl
def pastL (M : Mx) (h : Nat) : List Nat := (List.range M.length).filter fun x => decide (cell M x h < 99)
def partL (M : Mx) (h : Nat) : List Nat := (List.range M.length).filter fun x => decide (cell M x h < 99) && decide (cell M h x < 99)
def nL (l : List Nat) : D := .lst (l.map natD)
def meetB (a b : List Nat) : Bool := a.any fun x => decide (x ∈ b)
def S_links (ds : List D) (Ψ : D → Prop) : Prop := ∃ n : Nat, ds = [natD n] ∧ n ≤ 7 ∧ Ψ (.lst ((lkTo n n).map pN))
def S_size (o : OO) (ds : List D) (Ψ : D → OO → Prop) : Prop := ∃ l : List Int, o = .l (iL l) ∧ ds = [] ∧ ∀ (n : Nat) (l' : List Int), 1 ≤ n → n ≤ 4 → Ψ (natD n) (.l (iL l'))
def S_lpast (ds : List D) (Ψ : D → Prop) : Prop := ∃ (M : Mx) (h : Nat), ds = [mD M, natD h] ∧ MOk M ∧ h < M.length ∧ Ψ (nL (pastL M h))
def S_lpart (ds : List D) (Ψ : D → Prop) : Prop := ∃ (M : Mx) (h : Nat), ds = [mD M, natD h] ∧ MOk M ∧ h < M.length ∧ Ψ (nL (partL M h))
def S_lmeet (ds : List D) (Ψ : D → Prop) : Prop := ∃ a b : List Nat, ds = [nL a, nL b] ∧ a.length ≤ 1000 ∧ Ψ (.bl (meetB a b))
def S_lsees (ds : List D) (Ψ : D → Prop) : Prop := ∃ (M : Mx) (h : Nat) (M' : Mx) (h' : Nat), ds = [mD M, natD h, mD M', natD h'] ∧ MOk M ∧ MOk M' ∧ h < M.length ∧ h' < M'.length ∧ Ψ (.bl (meetB (pastL M h) (partL M' h')))
theorem m_links : MonoF S_links := fun ds Φ Φ' h ⟨n, h1, h2, h3⟩ => ⟨n, h1, h2, h _ h3⟩
theorem m_size : MonoO S_size := fun o ds Φ Φ' h ⟨l, h1, h2, h3⟩ => ⟨l, h1, h2, fun n l' a b => h _ _ (h3 n l' a b)⟩
theorem m_lpast : MonoF S_lpast := fun ds Φ Φ' h ⟨n, x, h1, h2, h3, h4⟩ => ⟨n, x, h1, h2, h3, h _ h4⟩
theorem m_lpart : MonoF S_lpart := fun ds Φ Φ' h ⟨n, x, h1, h2, h3, h4⟩ => ⟨n, x, h1, h2, h3, h _ h4⟩
theorem m_lmeet : MonoF S_lmeet := fun ds Φ Φ' h ⟨n, x, h1, h2, h4⟩ => ⟨n, x, h1, h2, h _ h4⟩
theorem m_lsees : MonoF S_lsees := fun ds Φ Φ' h ⟨n, x, m, y, h1, h2, h3, h4, h5, h6⟩ => ⟨n, x, m, y, h1, h2, h3, h4, h5, h _ h6⟩
theorem filt_snoc {α : Type} (p : Nat → Bool) (g : Nat → α) (i : Nat) : ((List.range (i + 1)).filter p).map g = ((List.range i).filter p).map g ++ (if p i then [g i] else []) := by
  rw [List.range_succ, List.filter_append, List.map_append]
  by_cases h : p i = true <;> simp [h]
theorem filt_len {α : Type} (p : Nat → Bool) (g : Nat → α) (i : Nat) : (((List.range i).filter p).map g).length ≤ i := by
  rw [List.length_map]
  have := List.length_filter_le p (List.range i)
  simpa using this
theorem c_law_links (F : FunN K "_law_links" s__law_links f fd) (hm : mg "_law_links" = some (.ref f)) (b : Blt mg) : Cal P w K mg base "_law_links" 1 (PFn 1 S_links) := by
  have nd : (["houses", "pairs", "first", "other"] : List Str).Nodup := by decide +kernel
  refine cal_fn F hm (N := ["houses", "pairs", "first", "other"]) (ps := ["houses"]) ⟨rfl, rfl, rfl, nd, rfl, by decide +kernel, by decide +kernel⟩ rfl (fun _ _ _ _ _ _ us hl => match us, hl with | [_], _ => rfl) ?_
  rintro cdv A outer s H E hr ds Ψ hl ⟨n, rfl, hn, hd⟩
  refine sc_set 1 (ec_lst (ac_nil ⟨by decide, ?_⟩)) nd
  refine sc_for (js := [2]) (ic_range (ec_var 0 rfl ⟨n, rfl, by omega, by omega, ?_⟩) b.range) (passes_of rfl)
  refine ⟨fun i ρ' => ∃ x : Option Sl, ρ' = [some (.im (natD n)), some (.im (.lst ((lkTo n i).map pN))), x, none], ⟨none, rfl⟩, ?_, ?_⟩
  · rintro i d ρi hid ⟨x, rfl⟩
    obtain ⟨hin, rfl⟩ := rng_nat hid
    refine gt_name 2 ?_ nd
    refine sc_set 1 (ec_cat (ec_var 1 rfl (ec_fc (fc_lcIf [("other", 3)] [3] (ic_range (ec_var 0 rfl ⟨n, rfl, by omega, by omega, ?_⟩) b.range) nd (by decide))))) nd
    refine ⟨fun _ => [some (.im (natD n)), some (.im (.lst ((lkTo n i).map pN))), some (.im (natD i)), none], fun j => (lkRow i j).map pN, [some (.im (natD n)), some (.im (.lst ((lkTo n i).map pN))), some (.im (natD i)), none], rfl, rfl, fun j hj => ?_, fun j d hjd => ?_, ⟨rfl, fun _ _ h => h, fun i a' o h => ⟨h, _, h⟩⟩, _, rfl, ?_⟩
    · rw [rng_len] at hj; rw [List.length_map]; have := lkRow_len i j; omega
    · obtain ⟨hjn, rfl⟩ := rng_nat hjd
      intro s3 H3 C3 cl3 fp3
      refine gt_name 3 ?_ nd
      intro s4 H4 C4 cl4 fp4
      refine tc_neS (ec_var 3 rfl (ec_var 2 rfl ⟨decide ((j : Int) = (i : Int)), rfl, ?_⟩))
      refine ⟨fun hk => ?_, fun hk => ?_⟩
      · have hne : i ≠ j := fun z => by subst z; simp at hk
        intro s5 H5 C5 cl5 fp5
        refine ec_tup (ac_cons (ec_var 2 rfl (ac_cons (ec_var 3 rfl (ac_nil ⟨by show 2 ≤ 100000; omega, ?_, rfl⟩)))))
        show (lkRow i (j + 1)).map pN = _
        rw [lkRow_succ, if_pos hne, List.map_append]; rfl
      · have he : i = j := by simp at hk; omega
        refine ⟨?_, rfl⟩
        show (lkRow i (j + 1)).map pN = _
        rw [lkRow_succ, if_neg (by simpa using he), List.append_nil]
    dsimp only
    rw [rng_len]
    refine ⟨_, _, rfl, rfl, ?_, sc_nil ⟨some (.im (natD i)), ?_⟩⟩
    · rw [List.length_map, List.length_map]
      have h1 := lkTo_len n i
      have h2 : i * n ≤ 7 * 7 := Nat.mul_le_mul (by omega) hn
      have h3 := lkRow_len i n
      omega
    · rw [lkTo_succ, List.map_append]; rfl
  · rintro ρ2 ⟨x, rfl⟩
    rw [rng_len]
    exact sc_ret (ec_var 1 rfl hd)
theorem c_size (F : FunN K "_law_size" s__law_size f fd) (hm : mg "_law_size" = some (.ref f)) (b : Blt mg) (c1 : Cal P w K mg base "_law_take" 1 (PFo 1 S_take)) : Cal P w K mg base "_law_size" 2 (PFo 0 S_size) := by
  have nd : (["pool"] : List Str).Nodup := by decide +kernel
  refine cal_fo F hm (N := ["pool"]) (ps := ["pool"]) ⟨rfl, rfl, rfl, nd, rfl, by decide +kernel, by decide +kernel⟩ rfl (fun _ _ _ _ _ _ us hl => match us, hl with | [_], _ => rfl) ?_
  rintro cdv A outer s H E hr a o ds Ψ hl ⟨l, rfl, rfl, hd⟩
  refine sc_ret (ec_ix (ec_lst (ac_cons (ec_int (ac_cons (ec_int (ac_cons (ec_int (ac_cons (ec_int (ac_cons (ec_int (ac_cons (ec_int (ac_cons (ec_int (ac_cons (ec_int (ac_nil ⟨by show 8 ≤ 100000; omega, ?_⟩)))))))))))))))))))
  refine ec_co 0 rfl c1 hr (pass_0 passL) m_take (ac_cons (ec_int (ac_nil ⟨_, rfl, rfl, l, 8, rfl, rfl, by decide, fun r l' h0 h1 => ?_⟩)))
  obtain ⟨j, rfl⟩ := Int.eq_ofNat_of_zero_le h0
  have hj : j < 8 := by omega
  obtain ⟨n, hg, h1, h4⟩ : ∃ n : Nat, ([D.int 3, D.int 2, D.int 3, D.int 4, D.int 3, D.int 1, D.int 4, D.int 3] : List D)[j]? = some (natD n) ∧ 1 ≤ n ∧ n ≤ 4 := by
    match j, hj with
    | 0, _ => exact ⟨3, rfl, by decide, by decide⟩
    | 1, _ => exact ⟨2, rfl, by decide, by decide⟩
    | 2, _ => exact ⟨3, rfl, by decide, by decide⟩
    | 3, _ => exact ⟨4, rfl, by decide, by decide⟩
    | 4, _ => exact ⟨3, rfl, by decide, by decide⟩
    | 5, _ => exact ⟨1, rfl, by decide, by decide⟩
    | 6, _ => exact ⟨4, rfl, by decide, by decide⟩
    | 7, _ => exact ⟨3, rfl, by decide, by decide⟩
  exact ⟨_, _, natD n, rfl, rfl, atI_nat hg, _, rfl, hd n l' h1 h4⟩
theorem c_lpart (F : FunN K "_law_part" s__law_part f fd) (hm : mg "_law_part" = some (.ref f)) (b : Blt mg) : Cal P w K mg base "_law_part" 1 (PFn 2 S_lpart) := by
  have nd : (["dist", "house", "x"] : List Str).Nodup := by decide +kernel
  refine cal_fn F hm (N := ["dist", "house", "x"]) (ps := ["dist", "house"]) ⟨rfl, rfl, rfl, nd, rfl, by decide +kernel, by decide +kernel⟩ rfl (fun _ _ _ _ _ _ us hl => match us, hl with | [_, _], _ => rfl) ?_
  rintro cdv A outer s H E hr ds Ψ hl ⟨M, h, rfl, mo, hh, hd⟩
  refine sc_ret (ec_fc (fc_lcIf [("x", 2)] [2] (ic_range (ec_len (ac_cons (ec_var 0 rfl (ac_nil ⟨_, _, rfl, rfl, M.length, by rw [List.length_map], by have := mo.l7; omega, by omega, ?_⟩))) b.len) b.range) nd (by decide)))
  refine ⟨fun _ => [some (.im (mD M)), some (.im (natD h)), none], fun i => ((List.range i).filter fun x => decide (cell M x h < 99) && decide (cell M h x < 99)).map natD, [some (.im (mD M)), some (.im (natD h)), none], rfl, rfl, fun i hi => ?_, fun i d hid => ?_, ⟨rfl, fun _ _ h => h, fun i a' o h => ⟨h, _, h⟩⟩, _, rfl, ?_⟩
  · dsimp only; rw [rng_len] at hi; have := filt_len (fun x => decide (cell M x h < 99) && decide (cell M h x < 99)) natD i; have := mo.l7; omega
  · obtain ⟨hin, rfl⟩ := rng_nat hid
    intro s3 H3 C3 cl3 fp3
    refine gt_name 2 ?_ nd
    intro s4 H4 C4 cl4 fp4
    refine tc_w (wc_and (tc_lt (ec_ix (ec_ix (ec_var 0 rfl (ec_var 2 rfl ⟨_, _, _, rfl, rfl, mo.at1 hin, ec_var 1 rfl ⟨_, _, _, rfl, rfl, mo.at2 hin hh, ec_int ⟨_, _, rfl, rfl, ?_⟩⟩⟩))))))
    cases h1 : decide (cell M i h < 99) with
    | false =>
      refine ⟨(fun z => nomatch z), fun _ => ⟨(fun z => nomatch z), fun _ => ⟨?_, rfl⟩⟩⟩
      dsimp only; rw [filt_snoc, if_neg (by rw [h1]; simp), List.append_nil]
    | true =>
      refine ⟨fun _ => wc_and1 (tc_lt (ec_ix (ec_ix (ec_var 0 rfl (ec_var 1 rfl ⟨_, _, _, rfl, rfl, mo.at1 hh, ec_var 2 rfl ⟨_, _, _, rfl, rfl, mo.at2 hh hin, ec_int ⟨_, _, rfl, rfl, ?_⟩⟩⟩))))), (fun z => nomatch z)⟩
      refine ⟨fun hk => ?_, fun hk => ?_⟩
      · intro s5 H5 C5 cl5 fp5
        refine ec_var 2 rfl ⟨?_, rfl⟩
        dsimp only; rw [filt_snoc, if_pos (by rw [h1, hk]; rfl)]
      · refine ⟨?_, rfl⟩
        dsimp only; rw [filt_snoc, if_neg (by rw [h1, hk]; decide), List.append_nil]
  rw [rng_len]
  exact hd
theorem pastL_len (M : Mx) (h : Nat) : (pastL M h).length ≤ M.length := by
  unfold pastL
  have := List.length_filter_le (fun x => decide (cell M x h < 99)) (List.range M.length)
  simpa using this
end
/-- a pattern as the law has it -/
structure Lp where
  fallen : List Nat
  silent : List (Nat × Nat)
def lpD (q : Lp) : D := .lst [nL q.fallen, .lst (q.silent.map pN)]
def setM (M : Mx) (i j : Nat) (v : Int) : Mx := M.set i ((M.getD i []).set j v)
def baseM (n : Nat) : Mx := List.replicate n (List.replicate n 99)
def stepO (q : Lp) (f : Nat) (M : Mx) (o : Nat) : Mx := if o ≠ f ∧ o ∉ q.fallen ∧ (f, o) ∉ q.silent then setM M f o 1 else M
def stepF (n : Nat) (q : Lp) (M : Mx) (f : Nat) : Mx := if f ∉ q.fallen then (List.range n).foldl (stepO q f) (setM M f f 0) else M
def initM (n : Nat) (q : Lp) : Mx := (List.range n).foldl (stepF n q) (baseM n)
def relO (v f : Nat) (M : Mx) (o : Nat) : Mx := if cell M f v + cell M v o < cell M f o then setM M f o (cell M f v + cell M v o) else M
def relF (n v : Nat) (M : Mx) (f : Nat) : Mx := (List.range n).foldl (relO v f) M
def relV (n : Nat) (M : Mx) (v : Nat) : Mx := (List.range n).foldl (relF n v) M
def floyd (n : Nat) (M : Mx) : Mx := (List.range n).foldl (relV n) M
def distM (n : Nat) (q : Lp) : Mx := floyd n (initM n q)
theorem fold_snoc {α : Type} (g : α → Nat → α) (x : α) (i : Nat) : (List.range (i + 1)).foldl g x = g ((List.range i).foldl g x) i := by
  rw [List.range_succ, List.foldl_append]; rfl
/-- n rows of n numbers -/
structure Sq (n : Nat) (M : Mx) : Prop where
  len : M.length = n
  sq : ∀ r ∈ M, r.length = n
theorem Sq.ok {n : Nat} {M : Mx} (s : Sq n M) (h : n ≤ 7) : MOk M := ⟨fun r hr => (s.sq r hr).trans s.len.symm, by rw [s.len]; exact h⟩
theorem Sq.row {n : Nat} {M : Mx} (s : Sq n M) {x : Nat} (h : x < n) : M[x]? = some (M.getD x []) ∧ (M.getD x []).length = n := by
  have hx : x < M.length := by rw [s.len]; exact h
  have e : M[x]? = some M[x] := List.getElem?_eq_getElem hx
  have e2 : M.getD x [] = M[x] := by simp [List.getD, e]
  exact ⟨by rw [e2]; exact e, by rw [e2]; exact s.sq _ (List.getElem_mem hx)⟩
theorem Sq.set {n : Nat} {M : Mx} (s : Sq n M) (i j : Nat) (v : Int) : Sq n (setM M i j v) := by
  refine ⟨by simp [setM, s.len], fun r hr => ?_⟩
  unfold setM at hr
  rcases List.mem_or_eq_of_mem_set hr with h | h
  · exact s.sq r h
  · subst h
    rw [List.length_set]
    by_cases hi : i < n
    · exact (s.row hi).2
    · exfalso
      have e : M.set i ((M.getD i []).set j v) = M := List.set_eq_of_length_le (by rw [s.len]; omega)
      have h2 : M.getD i [] = [] := by
        rw [List.getD_eq_getElem?_getD, List.getElem?_eq_none (by rw [s.len]; omega)]; rfl
      rw [e, h2] at hr
      have := s.sq _ hr
      simp at this
      subst this
      have hl := s.len
      have hne := List.length_pos_of_mem hr
      omega
theorem Sq.fold {n : Nat} {g : Mx → Nat → Mx} (hg : ∀ M i, Sq n M → Sq n (g M i)) (k : Nat) {M : Mx} (s : Sq n M) : Sq n ((List.range k).foldl g M) := by
  induction k with
  | zero => exact s
  | succ k ih => rw [fold_snoc]; exact hg _ _ ih
theorem sq_base (n : Nat) : Sq n (baseM n) := ⟨by simp [baseM], fun r hr => by
  unfold baseM at hr
  have := List.eq_of_mem_replicate hr
  subst this; simp⟩
theorem sq_stepO {n : Nat} (q : Lp) (f : Nat) (M : Mx) (o : Nat) (s : Sq n M) : Sq n (stepO q f M o) := by
  unfold stepO; split
  · exact s.set _ _ _
  · exact s
theorem sq_stepF {n : Nat} (q : Lp) (M : Mx) (f : Nat) (s : Sq n M) : Sq n (stepF n q M f) := by
  unfold stepF; split
  · exact Sq.fold (fun M o => sq_stepO q f M o) n (s.set _ _ _)
  · exact s
theorem sq_relO {n : Nat} (v f : Nat) (M : Mx) (o : Nat) (s : Sq n M) : Sq n (relO v f M o) := by
  unfold relO; split
  · exact s.set _ _ _
  · exact s
theorem sq_relF {n : Nat} (v : Nat) (M : Mx) (f : Nat) (s : Sq n M) : Sq n (relF n v M f) := Sq.fold (fun M o => sq_relO v f M o) n s
theorem sq_relV {n : Nat} (M : Mx) (v : Nat) (s : Sq n M) : Sq n (relV n M v) := Sq.fold (fun M o => sq_relF v M o) n s
theorem sq_init (n : Nat) (q : Lp) : Sq n (initM n q) := Sq.fold (fun M o => sq_stepF q M o) n (sq_base n)
theorem sq_dist (n : Nat) (q : Lp) : Sq n (distM n q) := Sq.fold (fun M o => sq_relV M o) n (sq_init n q)
def S_dist (ds : List D) (Ψ : D → Prop) : Prop := ∃ (n : Nat) (q : Lp), ds = [natD n, lpD q] ∧ n ≤ 7 ∧ Ψ (mD (distM n q))
theorem m_dist : MonoF S_dist := fun ds Φ Φ' h ⟨n, q, h1, h2, h3⟩ => ⟨n, q, h1, h2, h _ h3⟩
theorem mem_nat {x : Nat} {l : List Nat} : decide ((x : Int) ∈ l.map fun (n : Nat) => (n : Int)) = decide (x ∈ l) := by
  refine decide_eq_decide.mpr ?_
  simp only [List.mem_map]
  exact ⟨fun ⟨y, hy, e⟩ => by have : y = x := by omega
                              exact this ▸ hy, fun h => ⟨x, h, rfl⟩⟩
theorem natD_ints (l : List Nat) : l.map natD = (l.map fun (n : Nat) => (n : Int)).map D.int := by rw [List.map_map]; rfl
def pairI (p : Nat × Nat) : List Int := [p.1, p.2]
theorem mem_pairI {a b : Nat} {l : List (Nat × Nat)} : decide ([(a : Int), (b : Int)] ∈ l.map pairI) = decide ((a, b) ∈ l) := by
  refine decide_eq_decide.mpr ?_
  simp only [List.mem_map]
  constructor
  · rintro ⟨⟨x, y⟩, hy, e⟩
    simp only [pairI, List.cons.injEq, and_true] at e
    have h1 : x = a := by omega
    have h2 : y = b := by omega
    exact h1 ▸ h2 ▸ hy
  · exact fun h => ⟨(a, b), h, rfl⟩
theorem pN_tup (l : List (Nat × Nat)) : l.map pN = (l.map pairI).map tupI := by rw [List.map_map]; rfl
section
variable {P : Program} {w : World} {K : PySem.W.Frag} {mg : Str → Option Value} {base : Heap} {f : Addr} {fd : FuncData}
abbrev ND : List Str := ["houses", "pattern", "table", "first", "other", "via"]
abbrev XD (P : Program) (w : World) (K : PySem.W.Frag) (mg : Str → Option Value) (base : Heap) (f : Addr) (cdv : Value) (A : Around) (outer : List Env) (s : Shared) (H : Hp) (E : XK) : Cx := bodyX P w K mg base ND "_law_dist" (defScope s__law_dist) f cdv A outer s H E
theorem c_dist (F : FunN K "_law_dist" s__law_dist f fd) (hm : mg "_law_dist" = some (.ref f)) (b : Blt mg) : Cal P w K mg base "_law_dist" 1 (PFn 2 S_dist) := by
  have nd : ND.Nodup := by decide +kernel
  refine cal_fn F hm (N := ND) (ps := ["houses", "pattern"]) ⟨rfl, rfl, rfl, nd, rfl, by decide +kernel, by decide +kernel⟩ rfl (fun _ _ _ _ _ _ us hl => match us, hl with | [_, _], _ => rfl) ?_
  rintro cdv A outer s H E hr ds Ψ hl ⟨n, q, rfl, hn, hd⟩
  have hu : (bodyX P w K mg base ND "_law_dist" (defScope s__law_dist) f cdv A outer s H E).A.units + 65 < cLine := by have := hr.un; omega
  refine sc_own 2 (fc_lst (ac_nil ⟨by decide, ?_⟩)) nd
  intro p
  refine sn_enter 2 rfl rfl ?_
  let a0 : Option Sl := some (.im (natD n))
  let a1 : Option Sl := some (.im (lpD q))
  refine sn_for (js := [3]) (ic_range (ec_var 0 rfl ⟨n, rfl, by omega, by omega, ?_⟩) b.range) (passes_of rfl)
  refine ⟨rfl, by decide, fun i ρ' M => ∃ x : Option Sl, ρ' = [a0, a1, none, x, none, none] ∧ M = List.replicate i (List.replicate n 99), ⟨none, rfl, rfl⟩, ?_, ?_⟩
  · rintro i d ρi Mi hid _ ⟨x, rfl, rfl⟩
    obtain ⟨hin, rfl⟩ := rng_nat hid
    refine gt_name 3 ⟨rfl, ?_⟩ nd
    refine sn_app (fc_lc [("other", 4)] [4] (ic_range (ec_var 0 rfl ⟨n, rfl, by omega, by omega, ?_⟩) b.range) nd (by decide)) (fun te he => pe_bm PySem.F.plainAttrs_list PySem.F.slot_list_append PySem.F.type_list_append mt_append (pv _) (pa_cons he pa_nil))
    refine ⟨fun _ => [a0, a1, none, some (.im (natD i)), none, none], fun j => (List.replicate j (99 : Int)).map D.int, [a0, a1, none, some (.im (natD i)), none, none], rfl, rfl, fun j hj => ?_, fun j d hjd => ?_, ⟨rfl, fun _ _ h => h, fun i a' o h => ⟨h, _, h⟩⟩, rfl, _, rfl, by simp; omega, sn_nil ⟨_, rfl, ?_⟩⟩
    · rw [rng_len] at hj; simp; omega
    · obtain ⟨hjn, rfl⟩ := rng_nat hjd
      intro s3 H3 C3 cl3 fp3
      refine gt_name 4 ?_ nd
      intro s4 H4 C4 cl4 fp4
      refine ec_int ⟨?_, rfl⟩
      dsimp only
      rw [List.replicate_succ', List.map_append]; rfl
    · rw [rng_len, List.replicate_succ']
  rintro ρ2 M2 ⟨x, rfl, rfl⟩
  rw [rng_len]
  refine sn_for (js := [3]) (ic_range (ec_var 0 rfl ⟨n, rfl, by omega, by omega, ?_⟩) b.range) (passes_of rfl)
  refine ⟨rfl, by decide, fun i ρ' M => ∃ x y : Option Sl, ρ' = [a0, a1, none, x, y, none] ∧ M = (List.range i).foldl (stepF n q) (baseM n), ⟨x, none, rfl, rfl⟩, ?_, ?_⟩
  · rintro i d ρi Mi hid nw ⟨x, y, rfl, rfl⟩
    obtain ⟨hin, rfl⟩ := rng_nat hid
    have sq : Sq n ((List.range i).foldl (stepF n q) (baseM n)) := Sq.fold (fun M o => sq_stepF q M o) i (sq_base n)
    have es := fold_snoc (stepF n q) (baseM n) i
    generalize (List.range i).foldl (stepF n q) (baseM n) = M at sq es ⊢
    refine gt_name 3 ⟨by simp [noOw] at nw ⊢; exact ⟨nw.1, nw.2.1, nw.2.2.2⟩, ?_⟩ nd
    refine sn_if (tc_niI (ec_var 3 rfl (ec_ix (ec_var 1 rfl (ec_int ⟨_, 0, nL q.fallen, rfl, rfl, rfl, i, q.fallen.map fun (n : Nat) => (n : Int), rfl, congrArg some (natD_ints q.fallen), ?_⟩)))))
    rw [mem_nat]
    by_cases hf : i ∈ q.fallen
    · rw [decide_eq_true hf]
      refine ⟨(fun z => nomatch z), fun _ => sn_nil (sn_nil ⟨_, _, rfl, ?_⟩)⟩
      rw [es]; unfold stepF; rw [if_neg (by simpa using hf)]
    · rw [decide_eq_false hf]
      refine ⟨fun _ => ?_, (fun z => nomatch z)⟩
      have er : stepF n q M i = (List.range n).foldl (stepO q i) (setM M i i 0) := by unfold stepF; rw [if_pos hf]
      rw [er] at es
      refine sn_put 3 3 (m := i) (k := i) rfl rfl (sq.row hin).1 (by rw [(sq.row hin).2]; exact hin) (ec_int ⟨0, rfl, ?_⟩)
      have sq0 : Sq n (setM M i i 0) := sq.set _ _ _
      refine sn_for (js := [4]) (ic_range (ec_var 0 rfl ⟨n, rfl, by omega, by omega, ?_⟩) b.range) (passes_of rfl)
      refine ⟨rfl, by decide, fun j ρ' M' => ∃ y : Option Sl, ρ' = [a0, a1, none, some (.im (natD i)), y, none] ∧ M' = (List.range j).foldl (stepO q i) (setM M i i 0), ⟨y, rfl, rfl⟩, ?_, ?_⟩
      · rintro j d ρj Mj hjd nw2 ⟨y, rfl, rfl⟩
        obtain ⟨hjn, rfl⟩ := rng_nat hjd
        have sqj : Sq n ((List.range j).foldl (stepO q i) (setM M i i 0)) := Sq.fold (fun M o => sq_stepO q i M o) j sq0
        have es1 := fold_snoc (stepO q i) (setM M i i 0) j
        generalize (List.range j).foldl (stepO q i) (setM M i i 0) = M1 at sqj es1 ⊢
        refine gt_name 4 ⟨rfl, ?_⟩ nd
        refine sn_if (tc_w (wc_and (tc_neS (ec_var 4 rfl (ec_var 3 rfl ⟨decide ((j : Int) = (i : Int)), rfl, ?_⟩)))))
        by_cases hji : j = i
        · rw [decide_eq_true (by omega : (j : Int) = (i : Int))]
          refine ⟨(fun z => nomatch z), fun _ => ⟨(fun z => nomatch z), fun _ => sn_nil (sn_nil ⟨_, rfl, ?_⟩)⟩⟩
          rw [es1]; unfold stepO; rw [if_neg (fun z => z.1 hji)]
        · rw [decide_eq_false (by omega : ¬(j : Int) = (i : Int))]
          refine ⟨fun _ => wc_and (tc_niI (ec_var 4 rfl (ec_ix (ec_var 1 rfl (ec_int ⟨_, 0, nL q.fallen, rfl, rfl, rfl, j, q.fallen.map fun (n : Nat) => (n : Int), rfl, congrArg some (natD_ints q.fallen), ?_⟩))))), (fun z => nomatch z)⟩
          rw [mem_nat]
          by_cases hjf : j ∈ q.fallen
          · rw [decide_eq_true hjf]
            refine ⟨(fun z => nomatch z), fun _ => ⟨(fun z => nomatch z), fun _ => sn_nil (sn_nil ⟨_, rfl, ?_⟩)⟩⟩
            rw [es1]; unfold stepO; rw [if_neg (fun z => z.2.1 hjf)]
          · rw [decide_eq_false hjf]
            refine ⟨fun _ => wc_and1 (tc_niL hu (ec_tup (ac_cons (ec_var 3 rfl (ac_cons (ec_var 4 rfl (ac_nil ⟨by show 2 ≤ 100000; omega, ec_ix (ec_var 1 rfl (ec_int ⟨_, 1, .lst (q.silent.map pN), rfl, rfl, rfl, [(i : Int), (j : Int)], q.silent.map pairI, rfl, by rw [pN_tup], ?_⟩))⟩))))))), (fun z => nomatch z)⟩
            rw [mem_pairI]
            by_cases hs : (i, j) ∈ q.silent
            · rw [decide_eq_true hs]
              refine ⟨(fun z => nomatch z), fun _ => sn_nil (sn_nil ⟨_, rfl, ?_⟩)⟩
              rw [es1]; unfold stepO; rw [if_neg (fun z => z.2.2 hs)]
            · rw [decide_eq_false hs]
              refine ⟨fun _ => ?_, (fun z => nomatch z)⟩
              refine sn_put 3 4 (m := i) (k := j) rfl rfl (sqj.row hin).1 (by rw [(sqj.row hin).2]; exact hjn) (ec_int ⟨1, rfl, sn_nil (sn_nil ⟨_, rfl, ?_⟩)⟩)
              rw [es1]; unfold stepO; rw [if_pos ⟨hji, hjf, hs⟩]; rfl
      · rintro ρ3 M3 ⟨y, rfl, rfl⟩
        rw [rng_len]
        exact sn_nil (sn_nil ⟨_, _, rfl, es.symm⟩)
  rintro ρ3 M3 ⟨x, y, rfl, rfl⟩
  rw [rng_len]
  show SN _ 2 _ _ (initM n q) _
  refine sn_for (js := [5]) (ic_range (ec_var 0 rfl ⟨n, rfl, by omega, by omega, ?_⟩) b.range) (passes_of rfl)
  refine ⟨rfl, by decide, fun i ρ' M => ∃ x y z : Option Sl, ρ' = [a0, a1, none, x, y, z] ∧ M = (List.range i).foldl (relV n) (initM n q), ⟨x, y, none, rfl, rfl⟩, ?_, ?_⟩
  · rintro v d ρi Mi hid nw ⟨x, y, z, rfl, rfl⟩
    obtain ⟨hv, rfl⟩ := rng_nat hid
    have sq : Sq n ((List.range v).foldl (relV n) (initM n q)) := Sq.fold (fun M o => sq_relV M o) v (sq_init n q)
    have es := fold_snoc (relV n) (initM n q) v
    generalize (List.range v).foldl (relV n) (initM n q) = M at sq es ⊢
    refine gt_name 5 ⟨by simp [noOw] at nw ⊢; exact ⟨nw.1, nw.2.1, nw.2.2.1, nw.2.2.2.1⟩, ?_⟩ nd
    refine sn_for (js := [3]) (ic_range (ec_var 0 rfl ⟨n, rfl, by omega, by omega, ?_⟩) b.range) (passes_of rfl)
    refine ⟨rfl, by decide, fun i ρ' M' => ∃ x y : Option Sl, ρ' = [a0, a1, none, x, y, some (.im (natD v))] ∧ M' = (List.range i).foldl (relF n v) M, ⟨x, y, rfl, rfl⟩, ?_, ?_⟩
    · rintro i d ρi Mi hid nw ⟨x, y, rfl, rfl⟩
      obtain ⟨hin, rfl⟩ := rng_nat hid
      have sq1 : Sq n ((List.range i).foldl (relF n v) M) := Sq.fold (fun M o => sq_relF v M o) i sq
      have es1 := fold_snoc (relF n v) M i
      generalize (List.range i).foldl (relF n v) M = M1 at sq1 es1 ⊢
      refine gt_name 3 ⟨by simp [noOw] at nw ⊢; exact ⟨nw.1, nw.2.1, nw.2.2.2⟩, ?_⟩ nd
      refine sn_for (js := [4]) (ic_range (ec_var 0 rfl ⟨n, rfl, by omega, by omega, ?_⟩) b.range) (passes_of rfl)
      refine ⟨rfl, by decide, fun j ρ' M' => ∃ y : Option Sl, ρ' = [a0, a1, none, some (.im (natD i)), y, some (.im (natD v))] ∧ M' = (List.range j).foldl (relO v i) M1, ⟨y, rfl, rfl⟩, ?_, ?_⟩
      · rintro j d ρj Mj hjd nw2 ⟨y, rfl, rfl⟩
        obtain ⟨hjn, rfl⟩ := rng_nat hjd
        have sq2 : Sq n ((List.range j).foldl (relO v i) M1) := Sq.fold (fun M o => sq_relO v i M o) j sq1
        have es2 := fold_snoc (relO v i) M1 j
        generalize (List.range j).foldl (relO v i) M1 = M2 at sq2 es2 ⊢
        have mo := sq2.ok hn
        have hl := sq2.len
        have hi' : i < M2.length := by rw [hl]; exact hin
        have hv' : v < M2.length := by rw [hl]; exact hv
        have hj' : j < M2.length := by rw [hl]; exact hjn
        refine gt_name 4 ⟨rfl, ?_⟩ nd
        refine sn_if (tc_lt (ec_add (ec_ix (ec_ix (ec_var 2 rfl (ec_var 3 rfl ⟨_, _, _, rfl, rfl, mo.at1 hi', ec_var 5 rfl ⟨_, _, _, rfl, rfl, mo.at2 hi' hv', ec_ix (ec_ix (ec_var 2 rfl (ec_var 5 rfl ⟨_, _, _, rfl, rfl, mo.at1 hv', ec_var 4 rfl ⟨_, _, _, rfl, rfl, mo.at2 hv' hj', _, _, rfl, rfl, ec_ix (ec_ix (ec_var 2 rfl (ec_var 3 rfl ⟨_, _, _, rfl, rfl, mo.at1 hi', ec_var 4 rfl ⟨_, _, _, rfl, rfl, mo.at2 hi' hj', _, _, rfl, rfl, ?_⟩⟩)))⟩⟩)))⟩⟩))))))
        by_cases hlt : cell M2 i v + cell M2 v j < cell M2 i j
        · rw [decide_eq_true hlt]
          refine ⟨fun _ => ?_, (fun z => nomatch z)⟩
          refine sn_put 3 4 (m := i) (k := j) rfl rfl (sq2.row hin).1 (by rw [(sq2.row hin).2]; exact hjn) (ec_add (ec_ix (ec_ix (ec_var 2 rfl (ec_var 3 rfl ⟨_, _, _, rfl, rfl, mo.at1 hi', ec_var 5 rfl ⟨_, _, _, rfl, rfl, mo.at2 hi' hv', ec_ix (ec_ix (ec_var 2 rfl (ec_var 5 rfl ⟨_, _, _, rfl, rfl, mo.at1 hv', ec_var 4 rfl ⟨_, _, _, rfl, rfl, mo.at2 hv' hj', _, _, rfl, rfl, _, rfl, sn_nil (sn_nil ⟨_, rfl, ?_⟩)⟩⟩)))⟩⟩)))))
          rw [es2]; unfold relO; rw [if_pos hlt]; rfl
        · rw [decide_eq_false hlt]
          refine ⟨(fun z => nomatch z), fun _ => sn_nil (sn_nil ⟨_, rfl, ?_⟩)⟩
          rw [es2]; unfold relO; rw [if_neg hlt]
      · rintro ρ3 M3 ⟨y, rfl, rfl⟩
        rw [rng_len]
        exact sn_nil ⟨_, _, rfl, es1.symm⟩
    · rintro ρ3 M3 ⟨x, y, rfl, rfl⟩
      rw [rng_len]
      exact sn_nil ⟨_, _, _, rfl, es.symm⟩
  rintro ρ4 M4 ⟨x, y, z, rfl, rfl⟩
  rw [rng_len]
  exact sn_done (sc_ret (ec_var 2 rfl hd))
end
theorem tc_mono {X : Cx} {Z : Zx} {c : Expr} {ρ : En} {Ψ Ψ' : Bool → En → Prop} (h : TC X Z c ρ Ψ) (k : ∀ b ρ', Ψ b ρ' → Ψ' b ρ') : TC X Z c ρ Ψ' := fun B G H σ o z Q q => h B G H σ o z Q fun b ρ' B' H' x => q b ρ' B' H' (k b ρ' x)
theorem tc_any {X : Cx} {Z : Zx} {c : Expr} {ρ : En} {Ψ : Bool → En → Prop} (h : TC X Z c ρ fun _ ρ1 => ρ1 = ρ) (hk : ∀ k, Ψ k ρ) : TC X Z c ρ Ψ   := tc_mono h fun b ρ' e => by subst e; exact hk b
structure FOk (n : Nat) (f : List Nat) : Prop where
  nd : f.Nodup
  lt : ∀ x ∈ f, x < n
  len : f.length ≤ 7
structure SOk (n : Nat) (s : List (Nat × Nat)) : Prop where
  nd : s.Nodup
  lt : ∀ p ∈ s, p.1 < n ∧ p.2 < n ∧ p.1 ≠ p.2
  len : s.length ≤ 49
structure LpOk (n : Nat) (q : Lp) : Prop where
  f : FOk n q.fallen
  s : SOk n q.silent
theorem lkRow_nd (a : Nat) (j : Nat) : (lkRow a j).Nodup := by
  unfold lkRow
  exact List.Pairwise.map _ (fun x y h e => h (Prod.mk.inj e).2) (List.Pairwise.filter _ List.nodup_range)
theorem lkTo_nd (n : Nat) : ∀ i, (lkTo n i).Nodup
  | 0 => by simp [lkTo]
  | i + 1 => by
    rw [lkTo_succ, List.nodup_append]
    refine ⟨lkTo_nd n i, lkRow_nd i n, fun x hx y hy e => ?_⟩
    subst e
    obtain ⟨x1, x2⟩ := x
    have h1 := mem_lkTo.mp hx
    unfold lkRow at hy
    simp only [List.mem_map, Prod.mk.injEq] at hy
    obtain ⟨z, _, h2, _⟩ := hy
    omega
theorem sok_sub {n : Nat} {s : List (Nat × Nat)} (h : s.Sublist (lkTo n n)) (h7 : n ≤ 7) : SOk n s := by
  refine ⟨h.nodup (lkTo_nd n n), fun p hp => ?_, ?_⟩
  · obtain ⟨a, c⟩ := p
    exact mem_lkTo.mp (h.subset hp)
  · have h1 := h.length_le
    have h2 := lkTo_len n n
    have h3 : n * n ≤ 7 * 7 := Nat.mul_le_mul h7 h7
    omega
def S_lpat (o : OO) (ds : List D) (Ψ : D → OO → Prop) : Prop := ∃ (l : List Int) (n : Nat), o = .l (iL l) ∧ ds = [natD n] ∧ 1 ≤ n ∧ n ≤ 7 ∧ ∀ (q : Lp) (l' : List Int), LpOk n q → Ψ (lpD q) (.l (iL l'))
theorem m_lpat : MonoO S_lpat := fun o ds Φ Φ' h ⟨l, n, h1, h2, h3, h4, h5⟩ => ⟨l, n, h1, h2, h3, h4, fun q l' a => h _ _ (h5 q l' a)⟩
theorem nat_of {l : List Int} (h : ∀ x ∈ l, 0 ≤ x) : l.map D.int = (l.map Int.toNat).map natD := by
  rw [List.map_map]
  refine List.map_congr_left fun x hx => ?_
  show D.int x = D.int ((x.toNat : Nat) : Int)
  rw [Int.toNat_of_nonneg (h x hx)]
theorem two_ne {n : Nat} {x : Nat} {r : Int} (hx : x < n) (h0 : 0 ≤ r) (h1 : r < (n : Int) - 1) : ((x : Int) + 1 + r) % n ≠ x ∧ 0 ≤ ((x : Int) + 1 + r) % n ∧ ((x : Int) + 1 + r) % n < n := by
  have hn : (0 : Int) < n := by omega
  refine ⟨fun e => ?_, Int.emod_nonneg _ (by omega), Int.emod_lt_of_pos _ hn⟩
  by_cases hb : (x : Int) + 1 + r < n
  · rw [Int.emod_eq_of_lt (by omega) hb] at e; omega
  · have e2 : ((x : Int) + 1 + r) % n = ((x : Int) + 1 + r - n) % n := by rw [Int.sub_emod_right]
    rw [e2, Int.emod_eq_of_lt (by omega) (by omega)] at e; omega
section
variable {P : Program} {w : World} {K : PySem.W.Frag} {mg : Str → Option Value} {base : Heap} {f : Addr} {fd : FuncData}
abbrev NP : List Str := ["pool", "houses", "fallen", "word", "links", "silent", "link", "size", "one"]
theorem c_lpat (F : FunN K "_law_pattern" s__law_pattern f fd) (hm : mg "_law_pattern" = some (.ref f)) (b : Blt mg) (cT : Cal P w K mg base "_law_take" 1 (PFo 1 S_take)) (cL : Cal P w K mg base "_law_links" 1 (PFn 1 S_links)) : Cal P w K mg base "_law_pattern" 2 (PFo 1 S_lpat) := by
  have nd : NP.Nodup := by decide +kernel
  refine cal_fo F hm (N := NP) (ps := ["pool", "houses"]) ⟨rfl, rfl, rfl, nd, rfl, by decide +kernel, by decide +kernel⟩ rfl (fun _ _ _ _ _ _ us hl => match us, hl with | [_, _], _ => rfl) ?_
  rintro cdv A outer s H E hr a o ds Ψ hl ⟨l, n, rfl, rfl, hn1, hn, hd⟩
  refine sc_set 2 (ec_lst (ac_nil ⟨by decide, ?_⟩)) nd
  refine sc_ifj (fun ρ' => ∃ (l' : List Int) (fl : List Nat), FOk n fl ∧ ρ' = [some (.ow a (.l (iL l'))), some (.im (natD n)), some (.im (nL fl)), none, none, none, none, none, none]) (tc_w (wc_and (tc_eqS (ec_co 0 rfl cT hr (pass_0 passL) m_take (ac_cons (ec_int (ac_nil ⟨_, rfl, rfl, l, 3, rfl, rfl, by decide, fun r l' _ _ => ec_int ⟨decide (r = 1), rfl, ?_⟩⟩))))))) ?_
  · have f0 : FOk n [] := ⟨.nil, (fun x hx => absurd hx List.not_mem_nil), by decide⟩
    cases decide (r = 1) with
    | false => exact ⟨(fun z => nomatch z), fun _ => ⟨(fun z => nomatch z), fun _ => sc_nil ⟨l', [], f0, rfl⟩⟩⟩
    | true =>
      refine ⟨fun _ => wc_and1 (tc_gt (ec_var 1 rfl (ec_int ⟨_, _, rfl, rfl, ?_⟩))), (fun z => nomatch z)⟩
      by_cases h1 : (1 : Int) < (n : Int)
      · rw [decide_eq_true h1]
        refine ⟨fun _ => ?_, (fun z => nomatch z)⟩
        refine sc_set 2 (ec_lst (ac_cons (ec_co 0 rfl cT hr (pass_0 passL) m_take (ac_cons (ec_var 1 rfl (ac_nil ⟨_, rfl, rfl, l', (n : Int), rfl, rfl, by omega, fun r l2 g0 g1 => ac_nil ⟨by show 1 ≤ 100000; omega, ?_⟩⟩)))))) nd
        obtain ⟨x, rfl⟩ := Int.eq_ofNat_of_zero_le g0
        have hx : x < n := by omega
        have f1 : FOk n [x] := ⟨by simp, fun y hy => by simp at hy; omega, by show 1 ≤ 7; omega⟩
        refine sc_ifj (fun ρ' => ∃ (l' : List Int) (fl : List Nat), FOk n fl ∧ ρ' = [some (.ow a (.l (iL l'))), some (.im (natD n)), some (.im (nL fl)), none, none, none, none, none, none]) (tc_w (wc_and (tc_eqS (ec_co 0 rfl cT hr (pass_0 passL) m_take (ac_cons (ec_int (ac_nil ⟨_, rfl, rfl, l2, 4, rfl, rfl, by decide, fun r l3 _ _ => ec_int ⟨decide (r = 3), rfl, ?_⟩⟩))))))) (fun ρ2 h => sc_nil h)
        cases decide (r = 3) with
        | false => exact ⟨(fun z => nomatch z), fun _ => ⟨(fun z => nomatch z), fun _ => sc_nil ⟨l3, [x], f1, rfl⟩⟩⟩
        | true =>
          refine ⟨fun _ => wc_and1 (tc_gt (ec_var 1 rfl (ec_int ⟨_, _, rfl, rfl, ?_⟩))), (fun z => nomatch z)⟩
          by_cases h3 : (3 : Int) < (n : Int)
          · rw [decide_eq_true h3]
            refine ⟨fun _ => ?_, (fun z => nomatch z)⟩
            refine sc_set 2 (ec_cb cr_sortedI boot_sorted b.sorted (ac_cons (ec_lst (ac_cons (ec_ix (ec_var 2 rfl (ec_int ⟨_, 0, .int x, rfl, rfl, rfl, ac_cons (ec_mod (ec_cty call_int1 rfl b.int (ac_cons (ec_add (ec_add (ec_ix (ec_var 2 rfl (ec_int ⟨_, 0, .int x, rfl, rfl, rfl, ec_int ⟨_, _, rfl, rfl, ?_⟩⟩))))))))⟩))))))) nd
            refine ec_co 0 rfl cT hr (pass_0 passL) m_take (ac_cons (ec_sub (ec_var 1 rfl (ec_int ⟨_, _, rfl, rfl, ac_nil ⟨_, rfl, rfl, l3, (n : Int) - 1, rfl, rfl, by omega, fun r2 l4 q0 q1 => ⟨_, _, rfl, rfl, ac_nil ⟨_, gb_int, ?_⟩⟩⟩⟩))))
            rintro d rfl
            obtain ⟨t1, t2, t3⟩ := two_ne (n := n) hx q0 (by omega)
            refine ec_var 1 rfl ⟨_, _, rfl, rfl, by omega, ac_nil ⟨by show 2 ≤ 100000; omega, ac_nil ⟨_, gb_sorted (ns := [(x : Int), ((x : Int) + 1 + r2) % n]), ?_⟩⟩⟩
            rintro d ⟨ns', hp, _, rfl⟩
            refine sc_nil ⟨l4, ns'.map Int.toNat, ?_, ?_⟩
            · have hm : ∀ y ∈ ns', y = (x : Int) ∨ y = ((x : Int) + 1 + r2) % n := fun y hy => by
                have := hp.mem_iff.mp hy
                simpa using this
              refine ⟨?_, fun y hy => ?_, ?_⟩
              · have h1 : ns'.Nodup := hp.nodup_iff.mpr (by simp; exact fun z => t1 z.symm)
                refine List.pairwise_map.mpr (h1.imp_of_mem fun {y z} hy hz hne e => ?_)
                rcases hm y hy with h | h <;> rcases hm z hz with h' | h' <;> omega
              · obtain ⟨z, hz, rfl⟩ := List.mem_map.mp hy
                rcases hm z hz with h | h <;> omega
              · rw [List.length_map, hp.length_eq]; show 2 ≤ 7; omega
            · have hm : ∀ y ∈ ns', 0 ≤ y := fun y hy => by
                have := hp.mem_iff.mp hy
                simp at this
                rcases this with h | h <;> omega
              show _ = _
              rw [nat_of hm]; rfl
          · rw [decide_eq_false h3]
            exact ⟨(fun z => nomatch z), fun _ => sc_nil ⟨l3, [x], f1, rfl⟩⟩
      · rw [decide_eq_false h1]
        exact ⟨(fun z => nomatch z), fun _ => sc_nil ⟨l', [], f0, rfl⟩⟩
  rintro ρ2 ⟨l1, fl, hf, rfl⟩
  refine sc_set 3 (ec_co 0 rfl cT hr (pass_0 passL) m_take (ac_cons (ec_int (ac_nil ⟨_, rfl, rfl, l1, 6, rfl, rfl, by decide, fun wd l2 _ _ => ?_⟩)))) nd
  refine sc_set 4 (ec_cf cL hr (pass_0 passL) m_links (ac_cons (ec_var 1 rfl (ac_nil ⟨rfl, n, rfl, hn, ?_⟩)))) nd
  refine sc_own 5 (fc_lst (ac_nil ⟨by decide, ?_⟩)) nd
  intro p0
  let ls := lkTo n n
  have hls : ls.length ≤ 49 := (sok_sub (List.Sublist.refl _) hn).len
  let J : En → Prop := fun ρ' => ∃ (l' : List Int) (sl : List (Nat × Nat)) (p : Addr) (x7 x8 : Option Sl), sl.Sublist ls ∧ ρ' = [some (.ow a (.l (iL l'))), some (.im (natD n)), some (.im (nL fl)), some (.im (.int wd)), some (.im (.lst (ls.map pN))), some (.ow p (.l (sl.map pN))), none, x7, x8]
  refine sc_ifj J (tc_eqS (ec_var 3 rfl (ec_int ⟨decide (wd = 1), rfl, ⟨fun _ => ?w1, fun _ => ?e1⟩⟩))) ?fin
  case e1 =>
    refine sc_ifj J (tc_eqS (ec_var 3 rfl (ec_int ⟨decide (wd = 2), rfl, ⟨fun _ => ?w2, fun _ => ?e2⟩⟩))) (fun ρ2 h => sc_nil h)
    case e2 =>
      refine sc_ifj J (tc_eqS (ec_var 3 rfl (ec_int ⟨decide (wd = 3), rfl, ⟨fun _ => ?w3, fun _ => ?e3⟩⟩))) (fun ρ2 h => sc_nil h)
      case e3 =>
        refine sc_ifj J (tc_eqS (ec_var 3 rfl (ec_int ⟨decide (wd = 4), rfl, ⟨fun _ => ?w4, fun _ => ?e4⟩⟩))) (fun ρ2 h => sc_nil h)
        case e4 =>
          refine sc_ifj J (tc_eqS (ec_var 3 rfl (ec_int ⟨decide (wd = 5), rfl, ⟨fun _ => ?w5, fun _ => ?e5⟩⟩))) (fun ρ2 h => sc_nil h)
          case e5 => exact sc_nil ⟨l2, [], p0, none, none, List.nil_sublist _, rfl⟩
          case w5 =>
            refine sc_set 8 (ec_co 0 rfl cT hr (pass_0 passL) m_take (ac_cons (ec_var 1 rfl (ac_nil ⟨_, rfl, rfl, l2, (n : Int), rfl, rfl, by omega, fun r l3 g0 g1 => ?_⟩)))) nd
            refine sc_lcRIf 5 [("link", 6)] [6] (ic_list (ec_var 4 rfl ⟨_, rfl, ?_⟩)) nd (by decide)
            let E : List Int → En := fun l' => [some (.ow a (.l (iL l'))), some (.im (natD n)), some (.im (nL fl)), some (.im (.int wd)), some (.im (.lst (ls.map pN))), some (.ow p0 (.l [])), none, none, some (.im (.int r))]
            refine ⟨fun i out ρi => ∃ (l' : List Int) (sl : List (Nat × Nat)), out = sl.map pN ∧ sl.Sublist (ls.take i) ∧ ρi = E l', ⟨l3, [], rfl, List.nil_sublist _, rfl⟩, ?_, ?_, ?_⟩
            · rintro i out ρi hi ⟨l', sl, rfl, hs, rfl⟩
              rw [List.length_map]
              have h1 := hs.length_le
              rw [List.length_take] at h1; omega
            · rintro i d out ρi hid ⟨l', sl, rfl, hs, rfl⟩
              rw [List.getElem?_map] at hid
              obtain ⟨x, hx, rfl⟩ := Option.map_eq_some_iff.mp hid
              have et : ls.take (i + 1) = ls.take i ++ [x] := by rw [List.take_add_one, hx]; rfl
              have yes : (sl ++ [x]).Sublist (ls.take (i + 1)) := by rw [et]; exact hs.append (List.Sublist.refl _)
              have no : sl.Sublist (ls.take (i + 1)) := by rw [et]; exact hs.trans (List.sublist_append_left _ _)
              intro s3 H3 C3 cl3 fp3
              refine gt_name 6 ?_ nd
              intro s4 H4 C4 cl4 fp4
              refine tc_w (wc_or (tc_eqS (ec_ix (ec_var 6 rfl (ec_int ⟨_, 0, natD x.1, rfl, rfl, rfl, ec_var 8 rfl ⟨decide ((x.1 : Int) = r), rfl, ?_⟩⟩)))))
              cases decide ((x.1 : Int) = r) with
              | true => exact ⟨(fun z => nomatch z), fun _ => ⟨fun _ => by
                  intro s5 H5 C5 cl5 fp5
                  refine ec_var 6 rfl ⟨l', sl ++ [x], by rw [List.map_append]; rfl, yes, rfl⟩, fun _ => ⟨l', sl, rfl, no, rfl⟩⟩⟩
              | false =>
                refine ⟨fun _ => wc_or1 (tc_eqS (ec_co 0 rfl cT hr (pass_0 passL) m_take (ac_cons (ec_int (ac_nil ⟨_, rfl, rfl, l', 6, rfl, rfl, by decide, fun r2 l4 _ _ => ec_int ⟨decide (r2 = 0), rfl, ?_⟩⟩))))), (fun z => nomatch z)⟩
                exact ⟨fun _ => by
                  intro s5 H5 C5 cl5 fp5
                  refine ec_var 6 rfl ⟨l4, sl ++ [x], by rw [List.map_append]; rfl, yes, rfl⟩, fun _ => ⟨l4, sl, rfl, no, rfl⟩⟩
            · rintro out ρ' ⟨l', sl, rfl, hs, rfl⟩
              rw [List.length_map, List.take_length] at hs
              exact ⟨E l', ⟨rfl, fun i d h => by
                match i, h with
                | 1, h => exact h
                | 2, h => exact h
                | 3, h => exact h
                | 4, h => exact h
                | 7, h => exact h
                | 8, h => exact h, fun i b o h => ⟨h, by
                match i, h with
                | 0, h => cases h; exact ⟨_, rfl⟩
                | 6, h => cases h
                | 7, h => cases h
                | 8, h => cases h
                | 5, h => cases h; exact ⟨_, rfl⟩⟩⟩, fun p => sc_nil ⟨l', sl, p, none, some (.im (.int r)), hs, rfl⟩⟩
        case w4 =>
          refine sc_lcRIf 5 [("link", 6)] [6] (ic_list (ec_var 4 rfl ⟨_, rfl, ?_⟩)) nd (by decide)
          let E : List Int → En := fun l' => [some (.ow a (.l (iL l'))), some (.im (natD n)), some (.im (nL fl)), some (.im (.int wd)), some (.im (.lst (ls.map pN))), some (.ow p0 (.l [])), none, none, none]
          refine ⟨fun i out ρi => ∃ (l' : List Int) (sl : List (Nat × Nat)), out = sl.map pN ∧ sl.Sublist (ls.take i) ∧ ρi = E l', ⟨l2, [], rfl, List.nil_sublist _, rfl⟩, ?_, ?_, ?_⟩
          · rintro i out ρi hi ⟨l', sl, rfl, hs, rfl⟩
            rw [List.length_map]
            have h1 := hs.length_le
            rw [List.length_take] at h1; omega
          · rintro i d out ρi hid ⟨l', sl, rfl, hs, rfl⟩
            rw [List.getElem?_map] at hid
            obtain ⟨x, hx, rfl⟩ := Option.map_eq_some_iff.mp hid
            have et : ls.take (i + 1) = ls.take i ++ [x] := by rw [List.take_add_one, hx]; rfl
            have yes : (sl ++ [x]).Sublist (ls.take (i + 1)) := by rw [et]; exact hs.append (List.Sublist.refl _)
            have no : sl.Sublist (ls.take (i + 1)) := by rw [et]; exact hs.trans (List.sublist_append_left _ _)
            intro s3 H3 C3 cl3 fp3
            refine gt_name 6 ?_ nd
            intro s4 H4 C4 cl4 fp4
            refine tc_any (tc_neS (ec_ix (ec_var 6 rfl (ec_int ⟨_, 1, natD x.2, rfl, rfl, rfl, ec_mod (ec_cty call_int1 rfl b.int (ac_cons (ec_add (ec_ix (ec_var 6 rfl (ec_int ⟨_, 0, natD x.1, rfl, rfl, rfl, ec_int ⟨_, _, rfl, rfl, ac_nil ⟨_, gb_int, fun d hd' => by subst hd'; exact ec_var 1 rfl ⟨_, _, rfl, rfl, by omega, _, rfl, rfl⟩⟩⟩⟩))))))⟩)))) fun k => ?_
            exact ⟨fun _ => by
              intro s5 H5 C5 cl5 fp5
              refine ec_var 6 rfl ⟨l', sl ++ [x], by rw [List.map_append]; rfl, yes, rfl⟩, fun _ => ⟨l', sl, rfl, no, rfl⟩⟩
          · rintro out ρ' ⟨l', sl, rfl, hs, rfl⟩
            rw [List.length_map, List.take_length] at hs
            exact ⟨E l', ⟨rfl, fun i d h => by
              match i, h with
              | 1, h => exact h
              | 2, h => exact h
              | 3, h => exact h
              | 4, h => exact h
              | 7, h => exact h
              | 8, h => exact h, fun i b o h => ⟨h, by
              match i, h with
              | 0, h => cases h; exact ⟨_, rfl⟩
              | 6, h => cases h
              | 7, h => cases h
              | 8, h => cases h
              | 5, h => cases h; exact ⟨_, rfl⟩⟩⟩, fun p => sc_nil ⟨l', sl, p, none, none, hs, rfl⟩⟩
      case w3 =>
        refine sc_set 7 (ec_add (ec_int (ec_co 0 rfl cT hr (pass_0 passL) m_take (ac_cons (ec_var 1 rfl (ac_nil ⟨_, rfl, rfl, l2, (n : Int), rfl, rfl, by omega, fun r l3 g0 g1 => ⟨_, _, rfl, rfl, ?_⟩⟩)))))) nd
        refine sc_lcRIf 5 [("link", 6)] [6] (ic_list (ec_var 4 rfl ⟨_, rfl, ?_⟩)) nd (by decide)
        let E : List Int → En := fun l' => [some (.ow a (.l (iL l'))), some (.im (natD n)), some (.im (nL fl)), some (.im (.int wd)), some (.im (.lst (ls.map pN))), some (.ow p0 (.l [])), none, some (.im (.int (1 + r))), none]
        refine ⟨fun i out ρi => ∃ (l' : List Int) (sl : List (Nat × Nat)), out = sl.map pN ∧ sl.Sublist (ls.take i) ∧ ρi = E l', ⟨l3, [], rfl, List.nil_sublist _, rfl⟩, ?_, ?_, ?_⟩
        · rintro i out ρi hi ⟨l', sl, rfl, hs, rfl⟩
          rw [List.length_map]
          have h1 := hs.length_le
          rw [List.length_take] at h1; omega
        · rintro i d out ρi hid ⟨l', sl, rfl, hs, rfl⟩
          rw [List.getElem?_map] at hid
          obtain ⟨x, hx, rfl⟩ := Option.map_eq_some_iff.mp hid
          have et : ls.take (i + 1) = ls.take i ++ [x] := by rw [List.take_add_one, hx]; rfl
          have yes : (sl ++ [x]).Sublist (ls.take (i + 1)) := by rw [et]; exact hs.append (List.Sublist.refl _)
          have no : sl.Sublist (ls.take (i + 1)) := by rw [et]; exact hs.trans (List.sublist_append_left _ _)
          intro s3 H3 C3 cl3 fp3
          refine gt_name 6 ?_ nd
          intro s4 H4 C4 cl4 fp4
          refine tc_any (tc_w (wc_and (tc_ge (ec_ix (ec_var 6 rfl (ec_int ⟨_, 0, natD x.1, rfl, rfl, rfl, ec_var 7 rfl ⟨_, _, rfl, rfl, fun _ => wc_and1 (tc_lt (ec_ix (ec_var 6 rfl (ec_int ⟨_, 1, natD x.2, rfl, rfl, rfl, ec_var 7 rfl ⟨_, _, rfl, rfl, rfl⟩⟩)))), fun _ => rfl⟩⟩)))))) fun k => ?_
          exact ⟨fun _ => by
            intro s5 H5 C5 cl5 fp5
            refine ec_var 6 rfl ⟨l', sl ++ [x], by rw [List.map_append]; rfl, yes, rfl⟩, fun _ => ⟨l', sl, rfl, no, rfl⟩⟩
        · rintro out ρ' ⟨l', sl, rfl, hs, rfl⟩
          rw [List.length_map, List.take_length] at hs
          exact ⟨E l', ⟨rfl, fun i d h => by
            match i, h with
            | 1, h => exact h
            | 2, h => exact h
            | 3, h => exact h
            | 4, h => exact h
            | 7, h => exact h
            | 8, h => exact h, fun i b o h => ⟨h, by
            match i, h with
            | 0, h => cases h; exact ⟨_, rfl⟩
            | 6, h => cases h
            | 7, h => cases h
            | 8, h => cases h
            | 5, h => cases h; exact ⟨_, rfl⟩⟩⟩, fun p => sc_nil ⟨l', sl, p, some (.im (.int (1 + r))), none, hs, rfl⟩⟩
    case w2 =>
      refine sc_lcRIf 5 [("link", 6)] [6] (ic_list (ec_var 4 rfl ⟨_, rfl, ?_⟩)) nd (by decide)
      let E : List Int → En := fun l' => [some (.ow a (.l (iL l'))), some (.im (natD n)), some (.im (nL fl)), some (.im (.int wd)), some (.im (.lst (ls.map pN))), some (.ow p0 (.l [])), none, none, none]
      refine ⟨fun i out ρi => ∃ (l' : List Int) (sl : List (Nat × Nat)), out = sl.map pN ∧ sl.Sublist (ls.take i) ∧ ρi = E l', ⟨l2, [], rfl, List.nil_sublist _, rfl⟩, ?_, ?_, ?_⟩
      · rintro i out ρi hi ⟨l', sl, rfl, hs, rfl⟩
        rw [List.length_map]
        have h1 := hs.length_le
        rw [List.length_take] at h1; omega
      · rintro i d out ρi hid ⟨l', sl, rfl, hs, rfl⟩
        rw [List.getElem?_map] at hid
        obtain ⟨x, hx, rfl⟩ := Option.map_eq_some_iff.mp hid
        have et : ls.take (i + 1) = ls.take i ++ [x] := by rw [List.take_add_one, hx]; rfl
        have yes : (sl ++ [x]).Sublist (ls.take (i + 1)) := by rw [et]; exact hs.append (List.Sublist.refl _)
        have no : sl.Sublist (ls.take (i + 1)) := by rw [et]; exact hs.trans (List.sublist_append_left _ _)
        intro s3 H3 C3 cl3 fp3
        refine gt_name 6 ?_ nd
        intro s4 H4 C4 cl4 fp4
        refine tc_lt (ec_co 0 rfl cT hr (pass_0 passL) m_take (ac_cons (ec_int (ac_nil ⟨_, rfl, rfl, l', 4, rfl, rfl, by decide, fun r l4 _ _ => ec_int ⟨_, _, rfl, rfl, ?_⟩⟩))))
        exact ⟨fun _ => by
          intro s5 H5 C5 cl5 fp5
          refine ec_var 6 rfl ⟨l4, sl ++ [x], by rw [List.map_append]; rfl, yes, rfl⟩, fun _ => ⟨l4, sl, rfl, no, rfl⟩⟩
      · rintro out ρ' ⟨l', sl, rfl, hs, rfl⟩
        rw [List.length_map, List.take_length] at hs
        exact ⟨E l', ⟨rfl, fun i d h => by
          match i, h with
          | 1, h => exact h
          | 2, h => exact h
          | 3, h => exact h
          | 4, h => exact h
          | 7, h => exact h
          | 8, h => exact h, fun i b o h => ⟨h, by
          match i, h with
          | 0, h => cases h; exact ⟨_, rfl⟩
          | 6, h => cases h
          | 7, h => cases h
          | 8, h => cases h
          | 5, h => cases h; exact ⟨_, rfl⟩⟩⟩, fun p => sc_nil ⟨l', sl, p, none, none, hs, rfl⟩⟩
  case w1 =>
    refine sc_lcRIf 5 [("link", 6)] [6] (ic_list (ec_var 4 rfl ⟨_, rfl, ?_⟩)) nd (by decide)
    let E : List Int → En := fun l' => [some (.ow a (.l (iL l'))), some (.im (natD n)), some (.im (nL fl)), some (.im (.int wd)), some (.im (.lst (ls.map pN))), some (.ow p0 (.l [])), none, none, none]
    refine ⟨fun i out ρi => ∃ (l' : List Int) (sl : List (Nat × Nat)), out = sl.map pN ∧ sl.Sublist (ls.take i) ∧ ρi = E l', ⟨l2, [], rfl, List.nil_sublist _, rfl⟩, ?_, ?_, ?_⟩
    · rintro i out ρi hi ⟨l', sl, rfl, hs, rfl⟩
      rw [List.length_map]
      have h1 := hs.length_le
      rw [List.length_take] at h1; omega
    · rintro i d out ρi hid ⟨l', sl, rfl, hs, rfl⟩
      rw [List.getElem?_map] at hid
      obtain ⟨x, hx, rfl⟩ := Option.map_eq_some_iff.mp hid
      have et : ls.take (i + 1) = ls.take i ++ [x] := by rw [List.take_add_one, hx]; rfl
      have yes : (sl ++ [x]).Sublist (ls.take (i + 1)) := by rw [et]; exact hs.append (List.Sublist.refl _)
      have no : sl.Sublist (ls.take (i + 1)) := by rw [et]; exact hs.trans (List.sublist_append_left _ _)
      intro s3 H3 C3 cl3 fp3
      refine gt_name 6 ?_ nd
      intro s4 H4 C4 cl4 fp4
      refine tc_eqS (ec_co 0 rfl cT hr (pass_0 passL) m_take (ac_cons (ec_int (ac_nil ⟨_, rfl, rfl, l', 4, rfl, rfl, by decide, fun r l4 _ _ => ec_int ⟨decide (r = 0), rfl, ?_⟩⟩))))
      exact ⟨fun _ => by
        intro s5 H5 C5 cl5 fp5
        refine ec_var 6 rfl ⟨l4, sl ++ [x], by rw [List.map_append]; rfl, yes, rfl⟩, fun _ => ⟨l4, sl, rfl, no, rfl⟩⟩
    · rintro out ρ' ⟨l', sl, rfl, hs, rfl⟩
      rw [List.length_map, List.take_length] at hs
      exact ⟨E l', ⟨rfl, fun i d h => by
        match i, h with
        | 1, h => exact h
        | 2, h => exact h
        | 3, h => exact h
        | 4, h => exact h
        | 7, h => exact h
        | 8, h => exact h, fun i b o h => ⟨h, by
        match i, h with
        | 0, h => cases h; exact ⟨_, rfl⟩
        | 6, h => cases h
        | 7, h => cases h
        | 8, h => cases h
        | 5, h => cases h; exact ⟨_, rfl⟩⟩⟩, fun p => sc_nil ⟨l', sl, p, none, none, hs, rfl⟩⟩
  case fin =>
    rintro ρ2 ⟨l', sl, p, x7, x8, hs, rfl⟩
    refine sc_ret (ec_lst (ac_cons (ec_var 2 rfl (ac_cons (ec_frz 5 rfl (ac_nil ⟨by show 2 ≤ 100000; omega, ?_⟩))))))
    exact ⟨_, rfl, hd ⟨fl, sl⟩ l' ⟨hf, sok_sub hs hn⟩⟩
end
end T5
namespace T5
open PySem PySem.Spec PyProof.Rows L2 Evl AL
structure BkOk (n : Nat) (ps : List Pt) : Prop where
  n1 : 1 ≤ n
  n7 : n ≤ 7
  inn : ∀ p ∈ ps, PtIn p n
  l12 : ps.length ≤ 12
def namedD (m n : Nat) (v : D) : D := match itemsD v with
  | some [x, y] => if isBelow x (natD m) && isBelow y (natD n) then .tup [x, y] else .non
  | _ => .non
def fine (v : D) : Prop := isObj v = false ∧ ∀ xs, itemsD v = some xs → ∀ x ∈ xs, isObj x = false
def Gd (n : Nat) (ps : List Pt) (v : D) (i h : Nat) (p : Pt) : Prop := fine v ∧ namedD ps.length n v = .tup [natD i, natD h] ∧ ps[i]? = some p ∧ h < n ∧ (h : Int) ∉ p.fallen
def Bd (n : Nat) (ps : List Pt) (v : D) : Prop := fine v ∧ (namedD ps.length n v = .non ∨ ∃ i h p, namedD ps.length n v = .tup [natD i, natD h] ∧ ps[i]? = some p ∧ (h : Int) ∈ p.fallen)
def S_net_of (CB CN C : Addr) (ds : List D) (Ψ : D → Prop) : Prop := ∃ (n : Nat) (ps : List Pt) (i : Nat) (p : Pt), ds = [bookD CB C n ps, natD i] ∧ BkOk n ps ∧ ps[i]? = some p ∧ Ψ (netD CN C (mkNt n p))
def S_named (CB C : Addr) (ds : List D) (Ψ : D → Prop) : Prop := ∃ (n : Nat) (ps : List Pt) (v : D), ds = [bookD CB C n ps, v] ∧ BkOk n ps ∧ fine v ∧ Ψ (namedD ps.length n v)
def S_place (CB C NP : Addr) (ds : List D) (Φ : D → Prop) (Ψ : Er) : Prop := ∃ (n : Nat) (ps : List Pt) (v : D) (k : Int), ds = [bookD CB C n ps, v, .int k] ∧ BkOk n ps ∧ ((∃ i h p, Gd n ps v i h p ∧ Φ (.tup [natD i, natD h])) ∨ (Bd n ps v ∧ Ψ NP [("at", .int k)]))
def pastOf (n : Nat) (p : Pt) (h : Nat) : List Int := reachL (mkNt n p).bk h
def partOf (n : Nat) (p : Pt) (h : Nat) : List Int := (reachL (mkNt n p).bk h).filter fun k => decide (k ∈ reachL (mkNt n p).on h)
def S_sight (CB C : Addr) (ds : List D) (Ψ : D → Prop) : Prop := ∃ (n : Nat) (ps : List Pt) (i h : Nat) (p : Pt), ds = [bookD CB C n ps, .tup [natD i, natD h]] ∧ BkOk n ps ∧ ps[i]? = some p ∧ h < n ∧ (h : Int) ∉ p.fallen ∧ Ψ (.tup [intsD (pastOf n p h), intsD (partOf n p h)])
/-- the past of the one meets the part of the other -/
def seesB (n : Nat) (p : Pt) (h : Nat) (q : Pt) (k : Nat) : Bool := (pastOf n p h).any fun x => decide (x ∈ partOf n q k)
def two (NP : Addr) (n : Nat) (ps : List Pt) (v u : D) (Ψ : Er) (Φ : Nat → Nat → Pt → Nat → Nat → Pt → Prop) : Prop :=
  (Bd n ps v ∧ Ψ NP [("at", .int 0)]) ∨ ∃ i h p, Gd n ps v i h p ∧ ((Bd n ps u ∧ Ψ NP [("at", .int 1)]) ∨ ∃ j k q, Gd n ps u j k q ∧ Φ i h p j k q)
def blindD (n : Nat) (i h : Nat) (p : Pt) (j k : Nat) (q : Pt) : D :=
  if seesB n p h q k = false then .tup [.tup [natD i, natD h], .tup [natD j, natD k], intsD (pastOf n p h), intsD (partOf n q k)]
  else if seesB n q k p h = false then .tup [.tup [natD j, natD k], .tup [natD i, natD h], intsD (pastOf n q k), intsD (partOf n p h)] else .non
def S_sees (CB C NP : Addr) (ds : List D) (Φ : D → Prop) (Ψ : Er) : Prop := ∃ (n : Nat) (ps : List Pt) (v u : D), ds = [bookD CB C n ps, v, u] ∧ BkOk n ps ∧ two NP n ps v u Ψ fun i h p j k q => Φ (.bl (seesB n p h q k))
def S_blind (CB C NP : Addr) (ds : List D) (Φ : D → Prop) (Ψ : Er) : Prop := ∃ (n : Nat) (ps : List Pt) (v u : D), ds = [bookD CB C n ps, v, u] ∧ BkOk n ps ∧ two NP n ps v u Ψ fun i h p j k q => Φ (blindD n i h p j k q)
def S_friends (CB C NP : Addr) (ds : List D) (Φ : D → Prop) (Ψ : Er) : Prop := ∃ (n : Nat) (ps : List Pt) (v u : D), ds = [bookD CB C n ps, v, u] ∧ BkOk n ps ∧ two NP n ps v u Ψ fun i h p j k q => Φ (.bl (seesB n p h q k && seesB n q k p h))
section
variable {P : Program} {w : World} {K : PySem.W.Frag} {mg : Str → Option Value} {base : Heap} {f C CB CN NP fI : Addr} {fd : FuncData} {q : Str}
theorem m_net_of : MonoF (S_net_of CB CN C) := fun ds Φ Φ' h ⟨n, ps, i, p, h1, h2, h3, h4⟩ => ⟨n, ps, i, p, h1, h2, h3, h _ h4⟩
theorem m_named : MonoF (S_named CB C) := fun ds Φ Φ' h ⟨n, ps, v, h1, h2, h3, h4⟩ => ⟨n, ps, v, h1, h2, h3, h _ h4⟩
theorem m_place : MonoX (S_place CB C NP) := fun ds Φ Φ' Ψ Ψ' h g ⟨n, ps, v, k, h1, h3, h2⟩ => ⟨n, ps, v, k, h1, h3, h2.imp (fun ⟨i, x, p, a, b⟩ => ⟨i, x, p, a, h _ b⟩) fun ⟨a, b⟩ => ⟨a, g _ _ b⟩⟩
theorem m_sight : MonoF (S_sight CB C) := fun ds Φ Φ' h ⟨n, ps, i, x, p, h1, h2, h3, h4, h5, h6⟩ => ⟨n, ps, i, x, p, h1, h2, h3, h4, h5, h _ h6⟩
theorem two_mono {n : Nat} {ps : List Pt} {v u : D} {Ψ Ψ' : Er} {F F' : Nat → Nat → Pt → Nat → Nat → Pt → Prop} (g : ∀ C fs, Ψ C fs → Ψ' C fs) (h : ∀ i x p j k q, F i x p j k q → F' i x p j k q) (t : two NP n ps v u Ψ F) : two NP n ps v u Ψ' F' :=
  t.imp (fun ⟨a, b⟩ => ⟨a, g _ _ b⟩) fun ⟨i, x, p, a, b⟩ => ⟨i, x, p, a, b.imp (fun ⟨c, d⟩ => ⟨c, g _ _ d⟩) fun ⟨j, k, q, c, d⟩ => ⟨j, k, q, c, h _ _ _ _ _ _ d⟩⟩
theorem m_sees : MonoX (S_sees CB C NP) := fun ds Φ Φ' Ψ Ψ' h g ⟨n, ps, v, u, h1, h2, h3⟩ => ⟨n, ps, v, u, h1, h2, two_mono g (fun _ _ _ _ _ _ x => h _ x) h3⟩
theorem m_blind : MonoX (S_blind CB C NP) := fun ds Φ Φ' Ψ Ψ' h g ⟨n, ps, v, u, h1, h2, h3⟩ => ⟨n, ps, v, u, h1, h2, two_mono g (fun _ _ _ _ _ _ x => h _ x) h3⟩
theorem m_friends : MonoX (S_friends CB C NP) := fun ds Φ Φ' Ψ Ψ' h g ⟨n, ps, v, u, h1, h2, h3⟩ => ⟨n, ps, v, u, h1, h2, two_mono g (fun _ _ _ _ _ _ x => h _ x) h3⟩
theorem isRow_items {v : D} : (isLstD v || isTupD v) = (itemsD v).isSome := by cases v <;> rfl
theorem stand_mem {n : Nat} {p : Pt} {h : Nat} (h1 : h < n) (h2 : (h : Int) ∉ p.fallen) : h ∈ stand p n := by
  unfold stand; rw [List.mem_filter, List.mem_range]; exact ⟨h1, decide_eq_true h2⟩
theorem past_len (n : Nat) (p : Pt) (h : Nat) (h7 : n ≤ 7) (hh : h < n) : (pastOf n p h).length ≤ 7 := by
  have no := mkNt_ok (n := n) p h7
  have h1 := told_len (steps (mkNt n p).bk h) 0
  rw [steps_len (by rw [no.bkl]; exact hh), no.bkl] at h1
  exact Nat.le_trans h1 h7
end
def S_lpats (o : OO) (ds : List D) (Ψ : OO → OO → Prop) : Prop := ∃ (l : List Int) (n m : Nat), o = .l (iL l) ∧ ds = [natD n, natD m] ∧ 1 ≤ n ∧ n ≤ 7 ∧ 1 ≤ m ∧ m ≤ 12 ∧ ∀ (qs : List Lp) (l' : List Int), qs ≠ [] → qs.length ≤ m → (∀ q ∈ qs, LpOk n q) → Ψ (.l (qs.map lpD)) (.l (iL l'))
theorem m_lpats : MonoOr S_lpats := fun o ds Φ Φ' h ⟨l, n, m, h1, h2, h3, h4, h5, h6, h7⟩ => ⟨l, n, m, h1, h2, h3, h4, h5, h6, fun q l' a b c => h _ _ (h7 q l' a b c)⟩
def getQ (qs : List Lp) (k : Nat) : Lp := (qs[k]?).getD ⟨[], []⟩
def rowP (n : Nat) (qs : List Lp) (k j : Nat) : List (Nat × Nat) := ((List.range j).filter fun h => !decide (h ∈ (getQ qs k).fallen)).map fun h => (k, h)
def allP (n : Nat) (qs : List Lp) (i : Nat) : List (Nat × Nat) := (List.range i).flatMap fun k => rowP n qs k n
theorem rowP_len (n : Nat) (qs : List Lp) (k j : Nat) : (rowP n qs k j).length ≤ j := filt_len _ _ j
theorem rowP_succ (n : Nat) (qs : List Lp) (k j : Nat) : rowP n qs k (j + 1) = rowP n qs k j ++ (if (!decide (j ∈ (getQ qs k).fallen)) = true then [(k, j)] else []) := filt_snoc _ _ j
theorem allP_succ (n : Nat) (qs : List Lp) (i : Nat) : allP n qs (i + 1) = allP n qs i ++ rowP n qs i n := by
  unfold allP; rw [List.range_succ, List.flatMap_append]; simp
theorem allP_len (n : Nat) (qs : List Lp) : ∀ i, (allP n qs i).length ≤ i * n
  | 0 => by simp [allP]
  | i + 1 => by
    rw [allP_succ, List.length_append, Nat.add_mul]
    have := allP_len n qs i
    have := rowP_len n qs i n
    omega
theorem getQ_at {qs : List Lp} {k : Nat} (h : k < qs.length) : qs[k]? = some (getQ qs k) := by
  unfold getQ; rw [List.getElem?_eq_getElem h]; rfl
theorem mem_allP {n : Nat} {qs : List Lp} {i k h : Nat} : (k, h) ∈ allP n qs i ↔ k < i ∧ h < n ∧ h ∉ (getQ qs k).fallen := by
  unfold allP rowP
  simp only [List.mem_flatMap, List.mem_range, List.mem_map, List.mem_filter, Prod.mk.injEq, Bool.not_eq_true', decide_eq_false_iff_not]
  constructor
  · rintro ⟨a, ha, b, ⟨hb, hc⟩, rfl, rfl⟩; exact ⟨ha, hb, hc⟩
  · rintro ⟨h1, h2, h3⟩; exact ⟨k, h1, h, ⟨h2, h3⟩, rfl, rfl⟩
def S_places (ds : List D) (Ψ : D → Prop) : Prop := ∃ (n : Nat) (qs : List Lp), ds = [natD n, .lst (qs.map lpD)] ∧ n ≤ 7 ∧ qs.length ≤ 12 ∧ Ψ (.lst ((allP n qs qs.length).map pN))
theorem m_places : MonoF S_places := fun ds Φ Φ' h ⟨n, q, h1, h2, h3, h4⟩ => ⟨n, q, h1, h2, h3, h _ h4⟩
def S_row (ds : List D) (Ψ : D → Prop) : Prop := ∃ (l : List Int) (n : Nat), ds = [intsD l, natD n] ∧ l.Pairwise (· < ·) ∧ (∀ x ∈ l, 0 ≤ x ∧ x < n) ∧ Ψ (.bl true)
theorem m_row : MonoF S_row := fun ds Φ Φ' h ⟨l, n, h1, h2, h3, h4⟩ => ⟨l, n, h1, h2, h3, h _ h4⟩
def StrOk (n : Nat) (qs : List Lp) (v : D) : Prop := fine v ∧ (namedD qs.length n v = .non ∨ ∃ (i h : Nat) (q : Lp), namedD qs.length n v = .tup [natD i, natD h] ∧ qs[i]? = some q ∧ h ∈ q.fallen)
def S_stranger (o : OO) (ds : List D) (Ψ : D → OO → Prop) : Prop := ∃ (l : List Int) (n : Nat) (qs : List Lp), o = .l (iL l) ∧ ds = [natD n, .lst (qs.map lpD)] ∧ 1 ≤ n ∧ n ≤ 7 ∧ qs ≠ [] ∧ qs.length ≤ 12 ∧ (∀ q ∈ qs, LpOk n q) ∧ ∀ v l', StrOk n qs v → Ψ v (.l (iL l'))
theorem m_stranger : MonoO S_stranger := fun o ds Φ Φ' h ⟨l, n, qs, h1, h2, h3, h4, h5, h6, h7, h8⟩ => ⟨l, n, qs, h1, h2, h3, h4, h5, h6, h7, fun q l' a => h _ _ (h8 q l' a)⟩
def rfD (k : Int) : D := .lst [.int k, .bl true, .bl false]
def S_refused (ds : List D) (Ψ : D → Prop) : Prop := ∃ k : Int, ds = [rfD k, .int k] ∧ Ψ (.bl true)
theorem m_refused : MonoF S_refused := fun ds Φ Φ' h ⟨k, h1, h2⟩ => ⟨k, h1, h _ h2⟩
section
variable {P : Program} {w : World} {K : PySem.W.Frag} {mg : Str → Option Value} {base : Heap} {f : Addr} {fd : FuncData}
theorem c_row (F : FunN K "_law_row" s__law_row f fd) (hm : mg "_law_row" = some (.ref f)) (b : Blt mg) (cI : Cal P w K mg base "_law_int" 1 (PFn 1 S_is_number)) : Cal P w K mg base "_law_row" 2 (PFn 2 S_row) := by
  have nd : (["value", "houses", "last", "member"] : List Str).Nodup := by decide +kernel
  refine cal_fn F hm (N := ["value", "houses", "last", "member"]) (ps := ["value", "houses"]) ⟨rfl, rfl, rfl, nd, rfl, by decide +kernel, by decide +kernel⟩ rfl (fun _ _ _ _ _ _ us hl => match us, hl with | [_, _], _ => rfl) ?_
  rintro cdv A outer s H E hr ds Ψ hl ⟨l, n, rfl, hp, hb, hd⟩
  refine sc_if (tc_not (tc_val (ec_isi kit_tup rfl (ec_var 0 rfl ⟨rfl, _, rfl, (fun z => nomatch z), fun _ => sc_nil ?_⟩) b.isi b.tuple)))
  refine sc_set 2 (ec_neg (ec_int ⟨1, rfl, ?_⟩)) nd
  refine sc_for (js := [3]) (ic_tup (ec_var 0 rfl ⟨_, rfl, ?_⟩)) (passes_of rfl)
  refine ⟨fun i ρ' => ∃ (la : Int) (x : Option Sl), ρ' = [some (.im (intsD l)), some (.im (natD n)), some (.im (.int la)), x] ∧ ∀ j y, l[j]? = some y → i ≤ j → la < y, ⟨-1, none, rfl, fun j y hj _ => by have := (hb y (List.mem_of_getElem? hj)).1; omega⟩, ?_, ?_⟩
  · rintro i d ρi hid ⟨la, x, rfl, hla⟩
    rw [List.getElem?_map] at hid
    obtain ⟨y, hy, rfl⟩ := Option.map_eq_some_iff.mp hid
    obtain ⟨b0, b1⟩ := hb y (List.mem_of_getElem? hy)
    have h1 := hla i y hy (Nat.le_refl _)
    refine gt_name 3 ?_ nd
    refine sc_if (tc_w (wc_or (tc_not (tc_val (ec_cf cI hr (pass_0 passL) m_is_number (ac_cons (ec_var 3 rfl (ac_nil ⟨rfl, _, rfl, rfl, _, rfl, fun _ => ?_, (fun z => nomatch z)⟩))))))))
    refine wc_or (tc_le (ec_var 3 rfl (ec_var 2 rfl ⟨_, _, rfl, rfl, ?_⟩)))
    rw [decide_eq_false (by omega)]
    refine ⟨fun _ => wc_or1 (tc_ge (ec_var 3 rfl (ec_var 1 rfl ⟨_, _, rfl, rfl, ?_⟩))), (fun z => nomatch z)⟩
    rw [decide_eq_false (by omega)]
    refine ⟨(fun z => nomatch z), fun _ => sc_nil (sc_set 2 (ec_var 3 rfl (sc_nil ⟨y, _, rfl, fun j z hz hij => ?_⟩)) nd)⟩
    have := List.pairwise_iff_getElem.mp hp i j (List.getElem?_eq_some_iff.mp hy).1 (List.getElem?_eq_some_iff.mp hz).1 (by omega)
    rw [(List.getElem?_eq_some_iff.mp hy).2, (List.getElem?_eq_some_iff.mp hz).2] at this
    exact this
  · rintro ρ2 ⟨la, x, rfl, _⟩
    exact sc_ret (ec_bl hd)
end
/-- the program's pattern and the law's tell the same -/
structure PQ (p : Pt) (q : Lp) : Prop where
  f : p.fallen.Perm (q.fallen.map fun (x : Nat) => (x : Int))
  s : p.silent.Perm (q.silent.map fun x => ((x.1 : Int), (x.2 : Int)))
structure Rel (n : Nat) (ps : List Pt) (qs : List Lp) : Prop where
  bk : BkOk n ps
  len : qs.length = ps.length
  pq : ∀ (i : Nat) (p : Pt) (q : Lp), ps[i]? = some p → qs[i]? = some q → PQ p q
  lp : ∀ q ∈ qs, LpOk n q
  n4 : n ≤ 4
def intsN (l : List Nat) : List Int := l.map fun (x : Nat) => (x : Int)
structure ErrC (K : PySem.W.Frag) (NP LE BP : Addr) : Prop where
  xf : XfC K NP
  ex : ExcC K NP
  exm : PySem.W.exmOne K (.ref NP) (.ref NP) = some true
  kit : PySem.W.kitOne K (.ref NP) (.ref LE) = some true
  kit2 : PySem.W.kitOne K (.ref NP) (.ref BP) = some false
def S_lfault (CB C : Addr) (ds : List D) (Ψ : D → Prop) : Prop := ∃ (wd : Int) (n : Nat) (ps : List Pt) (v u : D) (at_ : Int), ds = [.int wd, bookD CB C n ps, v, u] ∧ BkOk n ps ∧ ((Bd n ps v ∧ at_ = 0) ∨ ∃ i h p, Gd n ps v i h p ∧ Bd n ps u ∧ at_ = 1) ∧ Ψ (rfD at_)
theorem m_lfault (CB C : Addr) : MonoF (S_lfault CB C) := fun ds Φ Φ' h ⟨wd, n, ps, v, u, k, h1, h2, h3, h4⟩ => ⟨wd, n, ps, v, u, k, h1, h2, h3, h _ h4⟩
def S_strref (CB C : Addr) (ds : List D) (Ψ : D → Prop) : Prop := ∃ (n : Nat) (ps : List Pt) (v u : D) (i h : Nat) (p : Pt), ds = [bookD CB C n ps, v, u] ∧ BkOk n ps ∧ Gd n ps v i h p ∧ Bd n ps u ∧ Ψ (.bl true)
theorem m_strref (CB C : Addr) : MonoF (S_strref CB C) := fun ds Φ Φ' h ⟨n, ps, v, u, i, x, p, h1, h2, h3, h4, h5⟩ => ⟨n, ps, v, u, i, x, p, h1, h2, h3, h4, h _ h5⟩
def plD (i h : Nat) : D := .tup [natD i, natD h]
def dsD (Ms : List Mx) : D := .lst (Ms.map mD)
def S_blindr (ds : List D) (Ψ : D → Prop) : Prop := ∃ (Ms : List Mx) (n i h j k : Nat) (M M' : Mx), ds = [.tup [plD i h, plD j k, intsD (intsN (pastL M h)), intsD (intsN (partL M' k))], dsD Ms, plD i h, plD j k] ∧ n ≤ 7 ∧ (∀ N ∈ Ms, Sq n N) ∧ Ms[i]? = some M ∧ Ms[j]? = some M' ∧ h < n ∧ k < n ∧ Ψ (.bl true)
theorem m_blindr : MonoF S_blindr := fun ds Φ Φ' h ⟨Ms, n, i, x, j, k, M, M', h1, h2, h3, h4, h5, h6, h7, h8⟩ => ⟨Ms, n, i, x, j, k, M, M', h1, h2, h3, h4, h5, h6, h7, h _ h8⟩
theorem pl_tup (i h : Nat) : plD i h = tupI [(i : Int), (h : Int)] := rfl
theorem filt_pw (p : Nat → Bool) (n : Nat) : (intsN ((List.range n).filter p)).Pairwise (· < ·) := by
  unfold intsN
  refine List.pairwise_map.mpr ?_
  refine (List.Pairwise.filter _ List.pairwise_lt_range).imp ?_
  intro a b h; omega
theorem filt_bd (p : Nat → Bool) (n : Nat) : ∀ x ∈ intsN ((List.range n).filter p), 0 ≤ x ∧ x < (n : Int) := by
  intro x hx
  unfold intsN at hx
  obtain ⟨y, hy, rfl⟩ := List.mem_map.mp hx
  have := List.mem_range.mp (List.mem_filter.mp hy).1
  omega
theorem py_nL (l : List Nat) : pyD (nL l) = some (.list ((intsN l).map PyData.int)) := by
  unfold nL intsN
  rw [pyD, pyDs_map natD (fun n => PyData.int (n : Int)) (fun n => by unfold natD pyD; rfl)]
  simp only [List.map_map]; rfl
theorem shp_nL (l : List Int) : SeqAt.shaped (.list (l.map PyData.int)) = true := by
  unfold SeqAt.shaped
  rw [Bool.and_eq_true, decide_eq_true_eq]
  have := dep_ints l
  exact ⟨by rw [PyData.canLay0]; exact lay_ints l, by rw [PyData.depth]; omega⟩
theorem eqv_nL (l : List Int) : PyData.eqv (.list (l.map PyData.int)) (.list (l.map PyData.int)) = true := by
  rw [PyData.eqv, eqv_ints]; exact decide_eq_true rfl
section
variable {X : Cx} {Z : Zx} {a b : Expr} {ρ : En} {Φ : D → En → Prop} {pos : Pos} {A B : Bool}
theorem ec_andB (ha : ∀ Φ' : D → En → Prop, Φ' (.bl A) ρ → EC X Z a ρ Φ') (hb : ∀ Φ' : D → En → Prop, Φ' (.bl B) ρ → EC X Z b ρ Φ') (h : Φ (.bl (A && B)) ρ) : EC X Z (.BoolOp .And [a, b] pos) ρ Φ := by
  refine ec_and (ha _ ⟨A, rfl, fun hA => ec_one (hb _ ?_), fun hA => ?_⟩)
  · rw [hA] at h; exact h
  · rw [hA] at h; exact h
theorem tc_andB {Ψ : Bool → En → Prop} {x y : Str} {p1 p2 : Pos} (ha : ∀ Φ' : D → En → Prop, Φ' (.bl A) ρ → EC X Z (.Name x p1) ρ Φ') (hb : ∀ Φ' : D → En → Prop, Φ' (.bl B) ρ → EC X Z (.Name y p2) ρ Φ') (h : Ψ (A && B) ρ) : TC X Z (.BoolOp .And [.Name x p1, .Name y p2] pos) ρ Ψ := by
  refine tc_w (wc_and (tc_val (ha _ ⟨A, rfl, fun hA => wc_and1 (tc_val (hb _ ⟨B, rfl, ?_⟩)), fun hA => ?_⟩)))
  · rw [hA] at h; exact h
  · rw [hA] at h; exact h
end
section
variable {P : Program} {w : World} {K : PySem.W.Frag} {mg : Str → Option Value} {base : Heap} {f C CB CN NP LE BP fI : Addr} {fd : FuncData} {q : Str}
end
/-- a place as handed in: a tuple or a list -/
def hnd (b : Bool) (i h : Nat) : D := if b then .lst [natD i, natD h] else .tup [natD i, natD h]
theorem hnd_gd {n : Nat} {ps : List Pt} {i h : Nat} {p : Pt} (b : Bool) (hp : ps[i]? = some p) (hh : h < n) (hf : (h : Int) ∉ p.fallen) : Gd n ps (hnd b i h) i h p := by
  have hi : i < ps.length := (List.getElem?_eq_some_iff.mp hp).1
  have e : itemsD (hnd b i h) = some [natD i, natD h] := by cases b <;> rfl
  refine ⟨⟨by cases b <;> rfl, fun xs hx x hm => ?_⟩, ?_, hp, hh, hf⟩
  · rw [e] at hx; cases hx
    simp at hm
    rcases hm with rfl | rfl <;> rfl
  · unfold namedD
    rw [e]
    have b1 : isBelow (natD i) (natD ps.length) = true := by simp [isBelow, natD]; omega
    have b2 : isBelow (natD h) (natD n) = true := by simp [isBelow, natD]; omega
    show (if (isBelow (natD i) (natD ps.length) && isBelow (natD h) (natD n)) = true then _ else _) = _
    rw [b1, b2]; rfl
theorem str_non {n : Nat} {qs : List Lp} {v : D} (hf : fine v) (h : namedD qs.length n v = .non) : StrOk n qs v := ⟨hf, .inl h⟩
theorem fine_of {v : D} {xs : List D} (h : isObj v = false) (e : itemsD v = some xs) (hx : ∀ x ∈ xs, isObj x = false) : fine v := ⟨h, fun ys hy x hm => by rw [e] at hy; cases hy; exact hx x hm⟩
theorem fine_none {v : D} (h : isObj v = false) (e : itemsD v = none) : fine v := ⟨h, fun ys hy x hm => by rw [e] at hy; cases hy⟩
theorem named2 {m n : Nat} {v x y : D} (e : itemsD v = some [x, y]) (h : (isBelow x (natD m) && isBelow y (natD n)) = false) : namedD m n v = .non := by
  unfold namedD; rw [e]; show (if _ = true then _ else _) = _; rw [h]; rfl
theorem two_plain {x y : D} {v : D} (h : isObj v = false) (e : itemsD v = some [x, y]) (hx : isObj x = false) (hy : isObj y = false) : fine v := fine_of h e fun z hz => by
  simp at hz; rcases hz with rfl | rfl <;> assumption
section
variable {P : Program} {w : World} {K : PySem.W.Frag} {mg : Str → Option Value} {base : Heap} {f C CB CN NP : Addr} {fd : FuncData}
abbrev NS : List Str := ["pool", "houses", "patterns", "word", "number"]
/-- what the law's tables say, as the program says it -/
def Says : Prop := ∀ (n : Nat) (p : Pt) (q : Lp) (h : Nat), n ≤ 4 → PtIn p n → PQ p q → LpOk n q → h < n → h ∉ q.fallen → pastOf n p h = intsN (pastL (distM n q) h) ∧ partOf n p h = intsN (partL (distM n q) h)
def S_pair (CB C : Addr) (ds : List D) (Ψ : D → Prop) : Prop := ∃ (n : Nat) (ps : List Pt) (qs : List Lp) (i h j k : Nat) (q1 q2 : Lp) (b : Bool), ds = [bookD CB C n ps, dsD (qs.map (distM n)), plD i h, plD j k, .bl b] ∧ Rel n ps qs ∧ qs[i]? = some q1 ∧ h < n ∧ h ∉ q1.fallen ∧ qs[j]? = some q2 ∧ k < n ∧ k ∉ q2.fallen ∧ Ψ (.bl true)
theorem m_pair (CB C : Addr) : MonoF (S_pair CB C) := fun ds Φ Φ' g ⟨n, ps, qs, i, h, j, k, q1, q2, b, h1, h2, h3, h4, h5, h6, h7, h8, h9⟩ => ⟨n, ps, qs, i, h, j, k, q1, q2, b, h1, h2, h3, h4, h5, h6, h7, h8, g _ h9⟩
theorem meet_ints (a c : List Nat) : (intsN a).any (fun x => decide (x ∈ intsN c)) = meetB a c := by
  unfold intsN meetB
  rw [List.any_map]
  congr 1
  funext x
  show decide ((x : Int) ∈ c.map fun (n : Nat) => (n : Int)) = _
  exact mem_nat
abbrev NR : List Str := ["book", "dists", "one", "other", "lists", "handed", "there", "back", "told", "answer", "got"]
end
theorem nL_ints (l : List Nat) : (nL l) = .lst ((intsN l).map D.int) := by unfold nL intsN; rw [List.map_map]; rfl
theorem intsN_nd {l : List Nat} (h : l.Nodup) : (intsN l).Nodup := List.pairwise_map.mpr (List.Pairwise.imp (fun {a b} h e => h (by omega)) h)
/-- Pattern(fallen, silent) for the law's pattern -/
theorem pat_wish {n : Nat} {q : Lp} (ok : LpOk n q) (hn : n ≤ 7) {Ψ : List (Str × D) → Prop} {Er : AL.Er} (h : ∀ p : Pt, PQ p q → PtIn p n → Ψ (patF p)) : S_Pattern [nL q.fallen, .lst (q.silent.map pN)] Ψ Er := by
  refine ⟨_, _, rfl, none, nL q.fallen, intsN q.fallen, rfl, rfl, rfl, by rw [nL_ints]; rfl, intsN_nd ok.f.nd, ?_, fun x hx => ?_, fun o1 _ hp1 => ?_⟩
  · unfold intsN; rw [List.length_map]; have := ok.f.len; omega
  · obtain ⟨y, _, rfl⟩ := List.mem_map.mp hx
    exact ⟨by omega, fun m hm => nomatch hm⟩
  refine ⟨none, .lst (q.silent.map pN), q.silent.map fun x => (pN x, (x.1 : Int), (x.2 : Int)), n, rfl, ⟨rfl, rfl, ?_⟩, fun e he => ?_, ?_, ?_, fun o2 hp2 _ => ?_⟩
  · rw [List.map_map]; rfl
  · obtain ⟨x, hx, rfl⟩ := List.mem_map.mp he
    have := ok.s.lt x hx
    refine ⟨⟨rfl, rfl, rfl⟩, ⟨by show (0 : Int) ≤ (x.1 : Int); omega, fun m hm => nomatch hm⟩, ⟨by show (0 : Int) ≤ (x.2 : Int); omega, fun m hm => nomatch hm⟩, by show (x.1 : Int) ≠ (x.2 : Int); omega, by show (x.1 : Int) < (n : Int); omega, by show (x.2 : Int) < (n : Int); omega⟩
  · rw [List.map_map]
    refine List.pairwise_map.mpr (List.Pairwise.imp (fun {a b} h e => h ?_) ok.s.nd)
    have h1 : ((a.1 : Int), (a.2 : Int)) = ((b.1 : Int), (b.2 : Int)) := e
    obtain ⟨h2, h3⟩ := Prod.mk.inj h1
    exact Prod.ext (by omega) (by omega)
  · rw [List.length_map]; have := ok.s.len; omega
  · rw [List.map_map] at hp2
    refine h ⟨o1, o2⟩ ⟨hp1, hp2⟩ ⟨fun k hk => ?_, fun k hk => ?_, ?_, ?_⟩
    · obtain ⟨y, hy, rfl⟩ := List.mem_map.mp (hp1.mem_iff.mp hk)
      have := ok.f.lt y hy
      omega
    · unfold ends at hk
      obtain ⟨e, he, hm⟩ := List.mem_flatMap.mp hk
      obtain ⟨y, hy, rfl⟩ := List.mem_map.mp (hp2.mem_iff.mp he)
      have := ok.s.lt y hy
      simp at hm
      rcases hm with rfl | rfl <;> omega
    · show o1.length < 64
      rw [hp1.length_eq]; unfold intsN; rw [List.length_map]; have := ok.f.len; omega
    · show o2.length < 64
      rw [hp2.length_eq, List.length_map]; have := ok.s.len; omega
theorem str_bd {n : Nat} {ps : List Pt} {qs : List Lp} {v : D} (rel : Rel n ps qs) (h : StrOk n qs v) : Bd n ps v := by
  obtain ⟨h1, h2⟩ := h
  rw [rel.len] at h2
  refine ⟨h1, h2.imp id ?_⟩
  rintro ⟨i, x, q, e, hq, hx⟩
  have hi : i < ps.length := by rw [← rel.len]; exact (List.getElem?_eq_some_iff.mp hq).1
  have hp : ps[i]? = some ps[i] := List.getElem?_eq_getElem hi
  refine ⟨i, x, ps[i], e, hp, ?_⟩
  exact (rel.pq i _ q hp hq).f.mem_iff.mpr (List.mem_map.mpr ⟨x, hx, rfl⟩)
section
variable {P : Program} {w : World} {K : PySem.W.Frag} {mg : Str → Option Value} {base : Heap} {f C CB CN NP : Addr} {fd : FuncData}
abbrev NL : List Str := ["script", "pool", "houses", "patterns", "book", "dists", "places", "one", "lists", "other", "row"]
end
def Fd (s : Bf) (x : Nat) : Prop := ∃ k, s.found[x]? = some (some k)
theorem fd_fold {s : Bf} {d : Int} {x : Nat} (l : List Nat) (h : Fd s x) : Fd (l.foldl (visit d) s) x := by
  obtain ⟨k, hk⟩ := h
  exact ⟨k, fold_keep l hk⟩
theorem fd_self {s : Bf} {d : Int} {t : Nat} (h : t < s.found.length) : Fd (visit d s t) t := by
  unfold visit
  split
  · exact ⟨d, by simp [h]⟩
  · rename_i hn
    have e : s.found[t]? = some s.found[t] := List.getElem?_eq_getElem h
    cases hk : s.found[t] with
    | none => rw [hk] at e; exact absurd e hn
    | some k => rw [hk] at e; exact ⟨k, e⟩
theorem visit_len (s : Bf) (d : Int) (t : Nat) : (visit d s t).found.length = s.found.length := by unfold visit; split <;> simp
theorem fd_all {d : Int} : ∀ (l : List Nat) {s : Bf}, (∀ t ∈ l, t < s.found.length) → ∀ t ∈ l, Fd (l.foldl (visit d) s) t
  | [], _, _, t, ht => absurd ht List.not_mem_nil
  | u :: l, s, h, t, ht => by
    rcases List.mem_cons.mp ht with rfl | ht
    · exact fd_fold l (fd_self (h _ List.mem_cons_self))
    · exact fd_all l (s := visit d s u) (fun x hx => by rw [visit_len]; exact h x (List.mem_cons_of_mem _ hx)) t ht
theorem q_fold {d : Int} : ∀ (l : List Nat) (s : Bf), ∃ e, (l.foldl (visit d) s).queue = s.queue ++ e ∧ ∀ x ∈ e, x ∈ l
  | [], s => ⟨[], by simp, (fun x hx => absurd hx List.not_mem_nil)⟩
  | t :: l, s => by
    obtain ⟨e, h1, h2⟩ := q_fold l (visit d s t)
    have hv : ∃ e0, (visit d s t).queue = s.queue ++ e0 ∧ ∀ x ∈ e0, x = t := by
      unfold visit; split
      · exact ⟨[t], rfl, fun x hx => by simpa using hx⟩
      · exact ⟨[], by simp, (fun x hx => absurd hx List.not_mem_nil)⟩
    obtain ⟨e0, h3, h4⟩ := hv
    refine ⟨e0 ++ e, ?_, fun x hx => ?_⟩
    · show (l.foldl (visit d) (visit d s t)).queue = _
      rw [h1, h3, List.append_assoc]
    · rcases List.mem_append.mp hx with h | h
      · rw [h4 x h]; exact List.mem_cons_self
      · exact List.mem_cons_of_mem _ (h2 x h)
theorem fq_fold {d : Int} : ∀ (l : List Nat) {s : Bf}, (∀ x, Fd s x → x ∈ s.queue) → ∀ x, Fd (l.foldl (visit d) s) x → x ∈ (l.foldl (visit d) s).queue
  | [], _, h => h
  | t :: l, s, h => fq_fold l (s := visit d s t) fun x hx => by
    unfold visit at hx ⊢
    split at hx
    · rename_i hn
      rw [if_pos hn]
      by_cases e : x = t
      · subst e; simp
      · obtain ⟨k, hk⟩ := hx
        have hk' : (s.found.set t (some d))[x]? = some (some k) := hk
        rw [List.getElem?_set_ne (fun z => e z.symm)] at hk'
        exact List.mem_append_left _ (h x ⟨k, hk'⟩)
    · rename_i hn
      rw [if_neg hn]; exact h x hx
structure Ended (adj : List (List Nat)) (S : Nat → Prop) (s : Bf) : Prop where
  len : s.found.length = adj.length
  fq : ∀ x, Fd s x → x ∈ s.queue
  qf : ∀ x ∈ s.queue, Fd s x
  cl : ∀ u ∈ s.queue, ∀ t ∈ adj.getD u [], Fd s t
  mn : ∀ x ∈ s.queue, S x
theorem brun_end {adj : List (List Nat)} {S : Nat → Prop} (ok : adjOk adj) (hS : ∀ u, S u → ∀ t ∈ adj.getD u [], S t) : ∀ (k a : Nat) (s : Bf), BInv adj.length s → (∀ x, Fd s x → x ∈ s.queue) → (∀ x ∈ s.queue, S x) → a ≤ s.queue.length → k + a = adj.length →
    (∀ i u, i < a → s.queue[i]? = some u → ∀ t ∈ adj.getD u [], Fd s t) → Ended adj S (brun adj k a s) ∧ ∀ x, Fd s x → Fd (brun adj k a s) x
  | 0, a, s, bi, fq, hm, ha, hk, cl => by
    show Ended adj S s ∧ ∀ x, Fd s x → Fd s x
    exact ⟨⟨bi.len, fq, bi.mem, fun u hu => by
      obtain ⟨i, hi, rfl⟩ := List.getElem_of_mem hu
      have := bi.cnt
      exact cl i _ (by omega) (List.getElem?_eq_getElem hi), hm⟩, fun x h => h⟩
  | k + 1, a, s, bi, fq, hm, ha, hk, cl => by
    unfold brun
    cases hq : s.queue[a]? with
    | none =>
      have hge : s.queue.length ≤ a := by
        refine Nat.le_of_not_lt fun z => ?_
        rw [List.getElem?_eq_getElem z] at hq; cases hq
      show Ended adj S s ∧ ∀ x, Fd s x → Fd s x
      exact ⟨⟨bi.len, fq, bi.mem, fun u hu => by
        obtain ⟨i, hi, rfl⟩ := List.getElem_of_mem hu
        exact cl i _ (by omega) (List.getElem?_eq_getElem hi), hm⟩, fun x h => h⟩
    | some u =>
      have hau : a < s.queue.length := (List.getElem?_eq_some_iff.mp hq).1
      have hu : u ∈ s.queue := List.mem_of_getElem? hq
      obtain ⟨k0, hk0⟩ := bi.mem u hu
      have hul : u < adj.length := by rw [← bi.len]; exact (List.getElem?_eq_some_iff.mp hk0).1
      have hrow : adj.getD u [] ∈ adj := by
        rw [List.getD_eq_getElem?_getD, List.getElem?_eq_getElem hul]; exact List.getElem_mem hul
      have bi2 : BInv adj.length (bstep adj s u) := BInv.fold _ bi
      obtain ⟨e, he, hme⟩ := q_fold (d := distOf s u + 1) (adj.getD u []) s
      have he' : (bstep adj s u).queue = s.queue ++ e := he
      have r := brun_end ok hS k (a + 1) (bstep adj s u) bi2 (fq_fold _ fq) (fun x hx => ?_) (by rw [he', List.length_append]; omega) (by omega) (fun i w hi hw t ht => ?_)
      · exact ⟨r.1, fun x h => r.2 x (fd_fold _ h)⟩
      · rw [he'] at hx
        rcases List.mem_append.mp hx with h | h
        · exact hm x h
        · exact hS u (hm u hu) x (hme x h)
      · rw [he'] at hw
        by_cases hia : i < a
        · rw [List.getElem?_append_left (by omega)] at hw
          exact fd_fold _ (cl i w hia hw t ht)
        · have : i = a := by omega
          subst this
          rw [List.getElem?_append_left hau, hq] at hw
          cases hw
          exact fd_all _ (fun x hx => by rw [bi.len]; exact ok _ hrow x hx) t ht
theorem fd_start {n h x : Nat} (hh : h < n) : Fd (bstart n h) x ↔ x = h := by
  unfold Fd bstart
  constructor
  · rintro ⟨k, hk⟩
    refine Classical.byContradiction fun e => ?_
    have hk' : ((List.replicate n (none : Option Int)).set h (some 0))[x]? = some (some k) := hk
    rw [List.getElem?_set_ne (fun z => e z.symm)] at hk'
    have := List.eq_of_mem_replicate (List.mem_of_getElem? hk')
    cases this
  · rintro rfl
    exact ⟨0, by simp [hh]⟩
def Bx (adj : List (List Nat)) (h x : Nat) : Prop := ∃ k, (steps adj h)[x]? = some (some k)
theorem bfs {adj : List (List Nat)} {h : Nat} (ok : adjOk adj) (hh : h < adj.length) : (steps adj h).length = adj.length ∧ Bx adj h h ∧ (∀ u, Bx adj h u → ∀ t ∈ adj.getD u [], Bx adj h t) ∧
    ∀ S : Nat → Prop, S h → (∀ u, S u → ∀ t ∈ adj.getD u [], S t) → ∀ x, Bx adj h x → S x := by
  have go := fun (S : Nat → Prop) (h0 : S h) (hS : ∀ u, S u → ∀ t ∈ adj.getD u [], S t) => brun_end (S := S) ok hS adj.length 0 (bstart adj.length h) (BInv.start hh)
    (fun x hx => by rw [(fd_start hh).mp hx]; exact List.mem_singleton.mpr rfl) (fun x hx => by
      have e : x = h := List.mem_singleton.mp hx
      subst e; exact h0) (Nat.zero_le _) (by omega) (fun i u hi => absurd hi (by omega))
  obtain ⟨e1, k1⟩ := go (fun _ => True) trivial (fun _ _ _ _ => trivial)
  refine ⟨e1.len, k1 h ((fd_start hh).mpr rfl), fun u hu t ht => e1.cl u (e1.fq u hu) t ht, fun S h0 hS x hx => ?_⟩
  obtain ⟨e2, _⟩ := go S h0 hS
  exact e2.mn x (e2.fq x hx)
def fB (ss : List (Option Int)) (x : Nat) : Bool := ((ss[x]?).getD none).isSome
theorem told_eq (ss : List (Option Int)) : ∀ i, i ≤ ss.length → toldFrom 0 (ss.take i) = intsN ((List.range i).filter (fB ss))
  | 0, _ => by simp [toldFrom, intsN]
  | i + 1, h => by
    have hi : ss[i]? = some ss[i] := List.getElem?_eq_getElem (by omega)
    have et : ss.take (i + 1) = ss.take i ++ [ss[i]] := by rw [List.take_add_one, hi]; rfl
    have hl : (ss.take i).length = i := by rw [List.length_take]; omega
    rw [et, told_snoc, told_eq ss i (by omega), hl, List.range_succ, List.filter_append]
    have hb : fB ss i = (ss[i]).isSome := by unfold fB; rw [hi]; rfl
    unfold intsN
    rw [List.map_append]
    congr 1
    cases hs : (ss[i]).isSome <;> simp [hb, hs]
theorem fB_iff {adj : List (List Nat)} {h x : Nat} : fB (steps adj h) x = true ↔ Bx adj h x := by
  unfold fB Bx
  cases e : (steps adj h)[x]? with
  | none => simp
  | some o => cases o <;> simp
theorem reach_eq {adj : List (List Nat)} {h : Nat} (ok : adjOk adj) (hh : h < adj.length) : reachL adj h = intsN ((List.range adj.length).filter (fB (steps adj h))) := by
  have hl := (bfs ok hh).1
  have := told_eq (steps adj h) (steps adj h).length (Nat.le_refl _)
  rw [List.take_length, hl] at this
  exact this
/-! ### the law's table -/
def val (q : Lp) (x y : Nat) : Int := if x ∈ q.fallen then 99 else if x = y then 0 else if y ∉ q.fallen ∧ (x, y) ∉ q.silent then 1 else 99
theorem cell_set {n : Nat} {M : Mx} (s : Sq n M) {i j : Nat} (hi : i < n) (hj : j < n) (v : Int) (x y : Nat) : cell (setM M i j v) x y = if x = i ∧ y = j then v else cell M x y := by
  unfold cell setM
  have hl : i < M.length := by rw [s.len]; exact hi
  have hr := (s.row hi).2
  by_cases hx : x = i
  · subst hx
    have e1 : (M.set x ((M.getD x []).set j v)).getD x [] = (M.getD x []).set j v := by rw [List.getD_eq_getElem?_getD, List.getElem?_set_self hl]; rfl
    rw [e1]
    by_cases hy : y = j
    · subst hy
      rw [if_pos ⟨rfl, rfl⟩, List.getD_eq_getElem?_getD, List.getElem?_set_self (by rw [hr]; exact hj)]; rfl
    · rw [if_neg (fun z => hy z.2), List.getD_eq_getElem?_getD, List.getElem?_set_ne (fun z => hy z.symm), ← List.getD_eq_getElem?_getD]
  · rw [if_neg (fun z => hx z.1)]
    have e1 : (M.set i ((M.getD i []).set j v)).getD x [] = M.getD x [] := by rw [List.getD_eq_getElem?_getD, List.getElem?_set_ne (fun z => hx z.symm), ← List.getD_eq_getElem?_getD]
    rw [e1]
theorem cell_base {n x y : Nat} (hx : x < n) (hy : y < n) : cell (baseM n) x y = 99 := by
  unfold cell baseM
  simp [List.getD_eq_getElem?_getD, hx, hy]
theorem fold_O {n : Nat} {q : Lp} {f : Nat} {M : Mx} (s : Sq n M) (hf : f < n) (x y : Nat) : ∀ j, j ≤ n → cell ((List.range j).foldl (stepO q f) M) x y = if x = f ∧ y < j ∧ y ≠ f ∧ y ∉ q.fallen ∧ (f, y) ∉ q.silent then 1 else cell M x y
  | 0, _ => by rw [if_neg (fun z => Nat.not_lt_zero _ z.2.1)]; rfl
  | j + 1, h => by
    have sj : Sq n ((List.range j).foldl (stepO q f) M) := Sq.fold (fun M o => sq_stepO q f M o) j s
    have ih := fold_O s hf x y j (by omega) (q := q)
    rw [fold_snoc]
    generalize (List.range j).foldl (stepO q f) M = N at sj ih
    unfold stepO
    by_cases hc : j ≠ f ∧ j ∉ q.fallen ∧ (f, j) ∉ q.silent
    · rw [if_pos hc, cell_set sj hf (by omega)]
      by_cases hxy : x = f ∧ y = j
      · obtain ⟨rfl, rfl⟩ := hxy
        rw [if_pos ⟨rfl, rfl⟩, if_pos ⟨rfl, by omega, hc⟩]
      · rw [if_neg hxy]
        rw [ih]
        by_cases hd : x = f ∧ y < j ∧ y ≠ f ∧ y ∉ q.fallen ∧ (f, y) ∉ q.silent
        · rw [if_pos hd, if_pos ⟨hd.1, by omega, hd.2.2⟩]
        · rw [if_neg hd, if_neg (fun z => hd ⟨z.1, by have : y ≠ j := fun w => hxy ⟨z.1, w⟩
                                                      omega, z.2.2⟩)]
    · rw [if_neg hc]
      rw [ih]
      by_cases hd : x = f ∧ y < j ∧ y ≠ f ∧ y ∉ q.fallen ∧ (f, y) ∉ q.silent
      · rw [if_pos hd, if_pos ⟨hd.1, by omega, hd.2.2⟩]
      · rw [if_neg hd, if_neg (fun z => hd ⟨z.1, by have : y ≠ j := fun w => hc (by subst w; exact z.2.2)
                                                    omega, z.2.2⟩)]
theorem fold_F {n : Nat} {q : Lp} (x y : Nat) (hx : x < n) (hy : y < n) : ∀ i, i ≤ n → cell ((List.range i).foldl (stepF n q) (baseM n)) x y = if x < i then val q x y else 99
  | 0, _ => by rw [if_neg (Nat.not_lt_zero _)]; exact cell_base hx hy
  | i + 1, h => by
    have si : Sq n ((List.range i).foldl (stepF n q) (baseM n)) := Sq.fold (fun M o => sq_stepF q M o) i (sq_base n)
    have ih := fold_F (q := q) x y hx hy i (by omega)
    rw [fold_snoc]
    generalize (List.range i).foldl (stepF n q) (baseM n) = M at si ih
    unfold stepF
    by_cases hf : i ∈ q.fallen
    · rw [if_neg (fun z => z hf), ih]
      by_cases hxi : x < i
      · rw [if_pos hxi, if_pos (by omega)]
      · rw [if_neg hxi]
        by_cases e : x = i
        · subst e; rw [if_pos (by omega)]; unfold val; rw [if_pos hf]
        · rw [if_neg (by omega)]
    · rw [if_pos hf, fold_O (si.set i i 0) (by omega) x y n (Nat.le_refl _), cell_set si (by omega) (by omega), ih]
      by_cases e : x = i
      · subst e
        rw [if_pos (show x < x + 1 by omega), if_neg (show ¬ x < x by omega)]
        unfold val
        rw [if_neg hf]
        by_cases exy : x = y
        · subst exy
          rw [if_neg (fun z => z.2.2.1 rfl), if_pos ⟨rfl, rfl⟩, if_pos rfl]
        · rw [if_neg exy, if_neg (show ¬(x = x ∧ y = x) from fun z => exy z.2.symm)]
          by_cases hc : y ∉ q.fallen ∧ (x, y) ∉ q.silent
          · rw [if_pos hc, if_pos ⟨rfl, hy, fun z => exy z.symm, hc⟩]
          · rw [if_neg hc, if_neg (fun z => hc z.2.2.2)]
      · rw [if_neg (fun z => e z.1), if_neg (fun z => e z.1)]
        by_cases hxi : x < i
        · rw [if_pos hxi, if_pos (by omega)]
        · rw [if_neg hxi, if_neg (by omega)]
theorem cell_init {n : Nat} {q : Lp} {x y : Nat} (hx : x < n) (hy : y < n) : cell (initM n q) x y = val q x y := by
  unfold initM
  rw [fold_F x y hx hy n (Nat.le_refl _), if_pos hx]
def Rx (M : Mx) (v x y : Nat) : Int := if cell M x v + cell M v y < cell M x y then cell M x v + cell M v y else cell M x y
theorem fold_R {n : Nat} {v f : Nat} {M : Mx} (s : Sq n M) (hv : v < n) (hf : f < n) (h0 : 0 ≤ cell M v v) (x y : Nat) : ∀ j, j ≤ n → cell ((List.range j).foldl (relO v f) M) x y = if x = f ∧ y < j then Rx M v f y else cell M x y
  | 0, _ => by rw [if_neg (fun z => Nat.not_lt_zero _ z.2)]; rfl
  | j + 1, h => by
    have sj : Sq n ((List.range j).foldl (relO v f) M) := Sq.fold (fun M o => sq_relO v f M o) j s
    have ih := fun x y => fold_R s hv hf h0 x y j (by omega)
    have r1 : Rx M v f v = cell M f v := by unfold Rx; rw [if_neg (by omega)]
    have c1 : cell ((List.range j).foldl (relO v f) M) f v = cell M f v := by
      rw [ih]; split
      · exact r1
      · rfl
    have c2 : cell ((List.range j).foldl (relO v f) M) v j = cell M v j := by rw [ih, if_neg (fun z => Nat.lt_irrefl _ z.2)]
    have c3 : cell ((List.range j).foldl (relO v f) M) f j = cell M f j := by rw [ih, if_neg (fun z => Nat.lt_irrefl _ z.2)]
    have ih2 := ih x y
    rw [fold_snoc]
    generalize (List.range j).foldl (relO v f) M = N at sj ih2 c1 c2 c3
    unfold relO
    rw [c1, c2, c3]
    by_cases hc : cell M f v + cell M v j < cell M f j
    · rw [if_pos hc, cell_set sj hf (by omega)]
      by_cases hxy : x = f ∧ y = j
      · obtain ⟨rfl, rfl⟩ := hxy
        rw [if_pos ⟨rfl, rfl⟩, if_pos ⟨rfl, by omega⟩]
        unfold Rx; rw [if_pos hc]
      · rw [if_neg hxy, ih2]
        by_cases hd : x = f ∧ y < j
        · rw [if_pos hd, if_pos ⟨hd.1, by omega⟩]
        · rw [if_neg hd, if_neg (fun z => hd ⟨z.1, by have : y ≠ j := fun w => hxy ⟨z.1, w⟩
                                                      omega⟩)]
    · rw [if_neg hc, ih2]
      by_cases hd : x = f ∧ y < j
      · rw [if_pos hd, if_pos ⟨hd.1, by omega⟩]
      · rw [if_neg hd]
        by_cases hxy : x = f ∧ y = j
        · obtain ⟨rfl, rfl⟩ := hxy
          rw [if_pos ⟨rfl, by omega⟩]
          unfold Rx; rw [if_neg hc]
        · rw [if_neg (fun z => hd ⟨z.1, by have : y ≠ j := fun w => hxy ⟨z.1, w⟩
                                           omega⟩)]
theorem fold_V {n : Nat} {v : Nat} {M : Mx} (s : Sq n M) (hv : v < n) (h0 : 0 ≤ cell M v v) (x y : Nat) (hy : y < n) : ∀ i, i ≤ n → cell ((List.range i).foldl (relF n v) M) x y = if x < i then Rx M v x y else cell M x y
  | 0, _ => by rw [if_neg (Nat.not_lt_zero _)]; rfl
  | i + 1, h => by
    have si : Sq n ((List.range i).foldl (relF n v) M) := Sq.fold (fun M o => sq_relF v M o) i s
    have ih := fun x y hy => fold_V s hv h0 x y hy i (by omega)
    have rv : ∀ y, Rx M v v y = cell M v y := fun y => by unfold Rx; rw [if_neg (by omega)]
    have c1 : ∀ y, y < n → cell ((List.range i).foldl (relF n v) M) v y = cell M v y := fun y hy => by
      rw [ih v y hy]; split
      · exact rv y
      · rfl
    have c2 : ∀ y, y < n → cell ((List.range i).foldl (relF n v) M) i y = cell M i y := fun y hy => by rw [ih i y hy, if_neg (Nat.lt_irrefl _)]
    have ih2 := ih x y hy
    rw [fold_snoc]
    generalize (List.range i).foldl (relF n v) M = N at si ih2 c1 c2
    unfold relF
    rw [fold_R si hv (by omega) (by rw [c1 v hv]; exact h0) x y n (Nat.le_refl _)]
    by_cases e : x = i
    · subst e
      rw [if_pos ⟨rfl, hy⟩, if_pos (by omega)]
      unfold Rx
      rw [c2 v hv, c1 y hy, c2 y hy]
    · rw [if_neg (fun z => e z.1), ih2]
      by_cases hxi : x < i
      · rw [if_pos hxi, if_pos (by omega)]
      · rw [if_neg hxi, if_neg (by omega)]
/-- closed along the links -/
def Cl (n : Nat) (q : Lp) (S : Nat → Prop) : Prop := ∀ a b, a < n → b < n → a ≠ b → a ∉ q.fallen → b ∉ q.fallen → (a, b) ∉ q.silent → S a → S b
structure FI (n : Nat) (q : Lp) (i : Nat) (M : Mx) : Prop where
  sq : Sq n M
  nn : ∀ x y, x < n → y < n → 0 ≤ cell M x y ∧ (cell M x y = 99 ∨ cell M x y ≤ 2 ^ i)
  tr : ∀ k x y, k < i → k < n → x < n → y < n → cell M x k < 99 → cell M k y < 99 → cell M x y < 99
  so : ∀ x y, x < n → y < n → cell M x y < 99 → ∀ S, Cl n q S → S x → S y
  up : ∀ x y, x < n → y < n → val q x y < 99 → cell M x y < 99
theorem fi_zero {n : Nat} {q : Lp} : FI n q 0 (initM n q) := by
  refine ⟨sq_init n q, fun x y hx hy => ?_, fun k x y hk => absurd hk (by omega), fun x y hx hy h S hS h0 => ?_, fun x y hx hy h => by rw [cell_init hx hy]; exact h⟩
  · rw [cell_init hx hy]
    unfold val
    split
    · exact ⟨by omega, .inl rfl⟩
    · split
      · exact ⟨by omega, .inr (by omega)⟩
      · split
        · exact ⟨by omega, .inr (by omega)⟩
        · exact ⟨by omega, .inl rfl⟩
  · rw [cell_init hx hy] at h
    unfold val at h
    split at h
    · omega
    · rename_i hf
      split at h
      · rename_i e; exact e ▸ h0
      · rename_i e
        split at h
        · rename_i hc; exact hS x y hx hy e hf hc.1 hc.2 h0
        · omega
theorem fi_succ {n : Nat} {q : Lp} {i : Nat} {M : Mx} (hi : i < n) (h4 : n ≤ 4) (f : FI n q i M) : FI n q (i + 1) (relV n M i) := by
  have hc : ∀ x y, x < n → y < n → cell (relV n M i) x y = Rx M i x y := fun x y hx hy => by
    unfold relV
    rw [fold_V f.sq hi (f.nn i i hi hi).1 x y hy n (Nat.le_refl _), if_pos hx]
  have hp : (2 : Int) ^ (i + 1) = 2 ^ i * 2 := Int.pow_succ 2 i
  have hb : (2 : Int) ^ i ≤ 8 := by
    have : i = 0 ∨ i = 1 ∨ i = 2 ∨ i = 3 := by omega
    rcases this with rfl | rfl | rfl | rfl <;> decide
  have h1 : (1 : Int) ≤ 2 ^ i := by
    have : i = 0 ∨ i = 1 ∨ i = 2 ∨ i = 3 := by omega
    rcases this with rfl | rfl | rfl | rfl <;> decide
  have key : ∀ x y, x < n → y < n → (cell (relV n M i) x y < 99 ↔ cell M x y < 99 ∨ (cell M x i < 99 ∧ cell M i y < 99)) := fun x y hx hy => by
    rw [hc x y hx hy]
    unfold Rx
    have a1 := f.nn x i hx hi
    have a2 := f.nn i y hi hy
    have a3 := f.nn x y hx hy
    split <;> omega
  refine ⟨sq_relV M i f.sq, fun x y hx hy => ?_, fun k x y hk hkn hx hy g1 g2 => ?_, fun x y hx hy h S hS h0 => ?_, fun x y hx hy h => (key x y hx hy).mpr (.inl (f.up x y hx hy h))⟩
  · rw [hc x y hx hy]
    unfold Rx
    have a1 := f.nn x i hx hi
    have a2 := f.nn i y hi hy
    have a3 := f.nn x y hx hy
    split <;> omega
  · rw [key x k hx hkn] at g1
    rw [key k y hkn hy] at g2
    rw [key x y hx hy]
    by_cases e : k = i
    · subst e
      have g1' : cell M x k < 99 := g1.elim id (·.1)
      have g2' : cell M k y < 99 := g2.elim id (·.2)
      exact .inr ⟨g1', g2'⟩
    · have hki : k < i := by omega
      have t := f.tr k
      rcases g1 with g1 | ⟨g1, g1'⟩
      · rcases g2 with g2 | ⟨g2, g2'⟩
        · exact .inl (t x y hki hkn hx hy g1 g2)
        · exact .inr ⟨t x i hki hkn hx hi g1 g2, g2'⟩
      · rcases g2 with g2 | ⟨g2, g2'⟩
        · exact .inr ⟨g1, t i y hki hkn hi hy g1' g2⟩
        · exact .inr ⟨g1, g2'⟩
  · rcases (key x y hx hy).mp h with g | ⟨g1, g2⟩
    · exact f.so x y hx hy g S hS h0
    · exact f.so i y hi hy g2 S hS (f.so x i hx hi g1 S hS h0)
theorem fi_all {n : Nat} {q : Lp} (h4 : n ≤ 4) : ∀ i, i ≤ n → FI n q i ((List.range i).foldl (relV n) (initM n q))
  | 0, _ => fi_zero
  | i + 1, h => by rw [fold_snoc]; exact fi_succ (by omega) h4 (fi_all h4 i (by omega))
theorem fi_dist {n : Nat} {q : Lp} (h4 : n ≤ 4) : FI n q n (distM n q) := fi_all h4 n (Nat.le_refl _)
/-! ### both tell the same houses -/
theorem onD_mem {n : Nat} {p : Pt} {u t : Nat} : t ∈ (mkNt n p).on.getD u [] ↔ u < n ∧ t < n ∧ u ≠ t ∧ lastsP p u t = true := by
  have e : (mkNt n p).on = (List.range n).map (onRow (lasting p (lkTo n n))) := rfl
  rw [e, List.getD_eq_getElem?_getD, List.getElem?_map]
  by_cases hu : u < n
  · rw [List.getElem?_range hu]
    show t ∈ onRow (lasting p (lkTo n n)) u ↔ _
    unfold onRow lasting
    simp only [List.mem_map, List.mem_filter, decide_eq_true_eq]
    constructor
    · rintro ⟨⟨a, b⟩, ⟨⟨h1, h2⟩, h3⟩, h4⟩
      dsimp only at h3 h4; subst h3; subst h4
      obtain ⟨g1, g2, g3⟩ := mem_lkTo.mp h1
      exact ⟨g1, g2, g3, h2⟩
    · rintro ⟨h1, h2, h3, h4⟩
      exact ⟨(u, t), ⟨⟨mem_lkTo.mpr ⟨h1, h2, h3⟩, h4⟩, rfl⟩, rfl⟩
  · rw [List.getElem?_eq_none (by simp; omega)]
    simp [hu]
theorem bkD_mem {n : Nat} {p : Pt} {u t : Nat} : t ∈ (mkNt n p).bk.getD u [] ↔ u < n ∧ t < n ∧ t ≠ u ∧ lastsP p t u = true := by
  have e : (mkNt n p).bk = (List.range n).map (bkRow (lasting p (lkTo n n))) := rfl
  rw [e, List.getD_eq_getElem?_getD, List.getElem?_map]
  by_cases hu : u < n
  · rw [List.getElem?_range hu]
    show t ∈ bkRow (lasting p (lkTo n n)) u ↔ _
    unfold bkRow lasting
    simp only [List.mem_map, List.mem_filter, decide_eq_true_eq]
    constructor
    · rintro ⟨⟨a, b⟩, ⟨⟨h1, h2⟩, h3⟩, h4⟩
      dsimp only at h3 h4; subst h3; subst h4
      obtain ⟨g1, g2, g3⟩ := mem_lkTo.mp h1
      exact ⟨g2, g1, g3, h2⟩
    · rintro ⟨h1, h2, h3, h4⟩
      exact ⟨(t, u), ⟨⟨mem_lkTo.mpr ⟨h2, h1, h3⟩, h4⟩, rfl⟩, rfl⟩
  · rw [List.getElem?_eq_none (by simp; omega)]
    simp [hu]
theorem lasts_iff {p : Pt} {q : Lp} (pq : PQ p q) {a b : Nat} (hne : a ≠ b) : lastsP p a b = true ↔ a ∉ q.fallen ∧ b ∉ q.fallen ∧ (a, b) ∉ q.silent := by
  have hf : ∀ x : Nat, (x : Int) ∈ p.fallen ↔ x ∈ q.fallen := fun x => by
    rw [pq.f.mem_iff, List.mem_map]
    exact ⟨fun ⟨y, hy, e⟩ => by have : y = x := by omega
                                exact this ▸ hy, fun h => ⟨x, h, rfl⟩⟩
  have hs : ((a : Int), (b : Int)) ∈ p.silent ↔ (a, b) ∈ q.silent := by
    rw [pq.s.mem_iff, List.mem_map]
    constructor
    · rintro ⟨⟨x, y⟩, hy, e⟩
      obtain ⟨e1, e2⟩ := Prod.mk.inj e
      have h1 : x = a := by dsimp only at e1; omega
      have h2 : y = b := by dsimp only at e2; omega
      exact h1 ▸ h2 ▸ hy
    · exact fun h => ⟨(a, b), h, rfl⟩
  unfold lastsP
  simp only [Bool.and_eq_true, Bool.not_eq_true', decide_eq_false_iff_not]
  rw [hf, hf, hs]
  constructor
  · rintro ⟨⟨⟨_, h1⟩, h2⟩, h3⟩; exact ⟨h1, h2, h3⟩
  · rintro ⟨h1, h2, h3⟩; exact ⟨⟨⟨by omega, h1⟩, h2⟩, h3⟩
theorem says : Says := by
  intro n p q h h4 hin pq lp hh hf
  have fi := fi_dist (q := q) h4
  have no := mkNt_ok (n := n) p (by omega)
  have hhh : val q h h < 99 := by unfold val; rw [if_neg hf, if_pos rfl]; omega
  have fhh := fi.up h h hh hh hhh
  have fe : ∀ a b, a < n → b < n → a ≠ b → lastsP p a b = true → cell (distM n q) a b < 99 := fun a b ha hb hne hl => by
    obtain ⟨g1, g2, g3⟩ := (lasts_iff pq hne).mp hl
    refine fi.up a b ha hb ?_
    unfold val; rw [if_neg g1, if_neg hne, if_pos ⟨g2, g3⟩]; omega
  have tr : ∀ x k y, x < n → k < n → y < n → cell (distM n q) x k < 99 → cell (distM n q) k y < 99 → cell (distM n q) x y < 99 := fun x k y hx hk hy => fi.tr k x y hk hk hx hy
  have lon : (mkNt n p).on.length = n := by simp [mkNt]
  have lbk : (mkNt n p).bk.length = n := by simp [mkNt]
  have okon : adjOk (mkNt n p).on := no.ono
  have okbk : adjOk (mkNt n p).bk := no.bko
  obtain ⟨_, b1, b2, b3⟩ := bfs okbk (show h < (mkNt n p).bk.length by rw [lbk]; exact hh)
  obtain ⟨_, o1, o2, o3⟩ := bfs okon (show h < (mkNt n p).on.length by rw [lon]; exact hh)
  have hb : ∀ x, x < n → (Bx (mkNt n p).bk h x ↔ cell (distM n q) x h < 99) := fun x hx => by
    constructor
    · intro g
      exact (b3 (fun z => z < n ∧ cell (distM n q) z h < 99) ⟨hh, fhh⟩ (fun u ⟨hu, hc⟩ t ht => by
        obtain ⟨_, g2, g3, g4⟩ := bkD_mem.mp ht
        exact ⟨g2, tr t u h g2 hu hh (fe t u g2 hu g3 g4) hc⟩) x g).2
    · intro g
      refine Classical.byContradiction fun nb => ?_
      refine fi.so x h hx hh g (fun z => ¬ Bx (mkNt n p).bk h z) (fun a b ha hb' hne f1 f2 f3 na nbb => na ?_) nb b1
      exact b2 b nbb a (bkD_mem.mpr ⟨hb', ha, hne, (lasts_iff pq hne).mpr ⟨f1, f2, f3⟩⟩)
  have ho : ∀ x, x < n → (Bx (mkNt n p).on h x ↔ cell (distM n q) h x < 99) := fun x hx => by
    constructor
    · intro g
      exact (o3 (fun z => z < n ∧ cell (distM n q) h z < 99) ⟨hh, fhh⟩ (fun u ⟨hu, hc⟩ t ht => by
        obtain ⟨_, g2, g3, g4⟩ := onD_mem.mp ht
        exact ⟨g2, tr h u t hh hu g2 hc (fe u t hu g2 g3 g4)⟩) x g).2
    · intro g
      exact fi.so h x hh hx g (fun z => Bx (mkNt n p).on h z) (fun a b ha hb' hne f1 f2 f3 na => o2 a na b (onD_mem.mpr ⟨ha, hb', hne, (lasts_iff pq hne).mpr ⟨f1, f2, f3⟩⟩)) o1
  have lD := fi.sq.len
  have eP : pastOf n p h = intsN (pastL (distM n q) h) := by
    show reachL (mkNt n p).bk h = _
    rw [reach_eq okbk (by rw [lbk]; exact hh), lbk]
    unfold pastL
    rw [lD]
    congr 1
    refine List.filter_congr fun x hx => ?_
    have hx' := List.mem_range.mp hx
    rw [Bool.eq_iff_iff, fB_iff, hb x hx', decide_eq_true_eq]
  refine ⟨eP, ?_⟩
  show (reachL (mkNt n p).bk h).filter _ = _
  have eP' : reachL (mkNt n p).bk h = intsN (pastL (distM n q) h) := eP
  rw [eP']
  unfold pastL partL intsN
  rw [lD, List.filter_map, List.filter_filter]
  congr 1
  refine List.filter_congr fun x hx => ?_
  have hx' := List.mem_range.mp hx
  have hm : decide ((x : Int) ∈ reachL (mkNt n p).on h) = decide (cell (distM n q) h x < 99) := by
    refine decide_eq_decide.mpr ?_
    rw [reach_eq okon (by rw [lon]; exact hh), lon]
    unfold intsN
    rw [List.mem_map]
    constructor
    · rintro ⟨y, hy, e⟩
      have : y = x := by omega
      subst this
      exact (ho y hx').mp (fB_iff.mp (List.mem_filter.mp hy).2)
    · intro g
      exact ⟨x, List.mem_filter.mpr ⟨hx, fB_iff.mpr ((ho x hx').mpr g)⟩, rfl⟩
  show (decide ((x : Int) ∈ reachL (mkNt n p).on h) && decide (cell (distM n q) x h < 99)) = _
  rw [hm, Bool.and_comm]
theorem none_back {d : Int} {s : Bf} {t z : Nat} (hz : (visit d s t).found[z]? = some none) : s.found[z]? = some none := by
  unfold visit at hz
  split at hz
  · by_cases e : z = t
    · subst e
      rename_i hn; exact hn
    · have hz' : (s.found.set t (some d))[z]? = some none := hz
      rw [List.getElem?_set_ne (fun w => e w.symm)] at hz'
      exact hz'
  · exact hz
theorem q_fold2 {d : Int} : ∀ (l : List Nat) (s : Bf), ∃ e, (l.foldl (visit d) s).queue = s.queue ++ e ∧ ∀ x ∈ e, x ∈ l ∧ (l.foldl (visit d) s).found[x]? = some (some d)
  | [], s => ⟨[], by simp, (fun x hx => absurd hx List.not_mem_nil)⟩
  | t :: l, s => by
    obtain ⟨e, h1, h2⟩ := q_fold2 (d := d) l (visit d s t)
    have hv : ∃ e0, (visit d s t).queue = s.queue ++ e0 ∧ ∀ x ∈ e0, x = t ∧ (visit d s t).found[x]? = some (some d) := by
      unfold visit; split
      · rename_i hn
        have hl := (List.getElem?_eq_some_iff.mp hn).1
        exact ⟨[t], rfl, fun x hx => by
          have e : x = t := by simpa using hx
          subst e
          exact ⟨rfl, List.getElem?_set_self hl⟩⟩
      · exact ⟨[], by simp, (fun x hx => absurd hx List.not_mem_nil)⟩
    obtain ⟨e0, h3, h4⟩ := hv
    refine ⟨e0 ++ e, ?_, fun x hx => ?_⟩
    · show (l.foldl (visit d) (visit d s t)).queue = _
      rw [h1, h3, List.append_assoc]
    · rcases List.mem_append.mp hx with h | h
      · obtain ⟨h5, h6⟩ := h4 x h
        exact ⟨h5 ▸ List.mem_cons_self, fold_keep l h6⟩
      · exact ⟨List.mem_cons_of_mem _ (h2 x h).1, (h2 x h).2⟩
theorem dist_of {s : Bf} {x : Nat} {k : Int} (h : s.found[x]? = some (some k)) : distOf s x = k := by unfold distOf; rw [h]; rfl
theorem pw_const {c : Int} : ∀ l : List Int, (∀ x ∈ l, x = c) → l.Pairwise (· ≤ ·)
  | [], _ => .nil
  | a :: l, h => .cons (fun b hb => by rw [h a List.mem_cons_self, h b (List.mem_cons_of_mem _ hb)]; omega) (pw_const l fun x hx => h x (List.mem_cons_of_mem _ hx))
structure Lv (adj : List (List Nat)) (h a : Nat) (s : Bf) : Prop where
  h0 : s.found[h]? = some (some 0)
  so : (s.queue.map (distOf s)).Pairwise (· ≤ ·)
  up : ∀ u, s.queue[a]? = some u → ∀ v ∈ s.queue, distOf s v ≤ distOf s u + 1
  pd : ∀ x ∈ s.queue, x = h ∨ ∃ u ∈ s.queue, distOf s x = distOf s u + 1 ∧ x ∈ adj.getD u []
  cl : ∀ i u, i < a → s.queue[i]? = some u → ∀ t ∈ adj.getD u [], Fd s t ∧ distOf s t ≤ distOf s u + 1
  nn : ∀ x ∈ s.queue, 0 ≤ distOf s x
  ix : ∀ (j v : Nat), s.queue[j]? = some v → distOf s v ≤ j
theorem brun_lv {adj : List (List Nat)} {h : Nat} (ok : adjOk adj) : ∀ (k a : Nat) (s : Bf), BInv adj.length s → (∀ x, Fd s x → x ∈ s.queue) → a ≤ s.queue.length → k + a = adj.length → Lv adj h a s →
    ∃ e : Bf, e = brun adj k a s ∧ Lv adj h e.queue.length e ∧ (∀ x, Fd e x → x ∈ e.queue) ∧ BInv adj.length e
  | 0, a, s, bi, fq, ha, hk, lv => by
    refine ⟨s, rfl, ⟨lv.h0, lv.so, fun u hu => ?_, lv.pd, fun i u hi hq => lv.cl i u ?_ hq, lv.nn, lv.ix⟩, fq, bi⟩
    · rw [List.getElem?_eq_none (Nat.le_refl _)] at hu; cases hu
    · have := bi.cnt; omega
  | k + 1, a, s, bi, fq, ha, hk, lv => by
    unfold brun
    cases hq : s.queue[a]? with
    | none =>
      have hge : s.queue.length ≤ a := by
        refine Nat.le_of_not_lt fun z => ?_
        rw [List.getElem?_eq_getElem z] at hq; cases hq
      refine ⟨s, rfl, ⟨lv.h0, lv.so, fun u hu => ?_, lv.pd, fun i u hi hq => lv.cl i u (by omega) hq, lv.nn, lv.ix⟩, fq, bi⟩
      rw [List.getElem?_eq_none (Nat.le_refl _)] at hu; cases hu
    | some u =>
      have hau : a < s.queue.length := (List.getElem?_eq_some_iff.mp hq).1
      have hu : u ∈ s.queue := List.mem_of_getElem? hq
      obtain ⟨k0, hk0⟩ := bi.mem u hu
      have hul : u < adj.length := by rw [← bi.len]; exact (List.getElem?_eq_some_iff.mp hk0).1
      have hrow : adj.getD u [] ∈ adj := by
        rw [List.getD_eq_getElem?_getD, List.getElem?_eq_getElem hul]; exact List.getElem_mem hul
      have bi2 : BInv adj.length (bstep adj s u) := BInv.fold _ bi
      obtain ⟨e, he, hme⟩ := q_fold2 (d := distOf s u + 1) (adj.getD u []) s
      have he' : (bstep adj s u).queue = s.queue ++ e := he
      have fq2 : ∀ x, Fd (bstep adj s u) x → x ∈ (bstep adj s u).queue := fq_fold _ fq
      have d1 : ∀ x ∈ s.queue, distOf (bstep adj s u) x = distOf s x := fun x hx => by
        obtain ⟨j, hj⟩ := bi.mem x hx
        rw [dist_of hj]
        exact dist_of (fold_keep _ hj)
      have d2 : ∀ x ∈ e, distOf (bstep adj s u) x = distOf s u + 1 ∧ x ∈ adj.getD u [] := fun x hx => ⟨dist_of (hme x hx).2, (hme x hx).1⟩
      have ub : ∀ x ∈ (bstep adj s u).queue, distOf (bstep adj s u) x ≤ distOf s u + 1 := fun x hx => by
        rw [he'] at hx
        rcases List.mem_append.mp hx with h1 | h1
        · rw [d1 x h1]; exact lv.up u hq x h1
        · rw [(d2 x h1).1]; omega
      refine brun_lv ok k (a + 1) (bstep adj s u) bi2 fq2 (by rw [he', List.length_append]; omega) (by omega) ⟨fold_keep _ lv.h0, ?_, fun w hw v hv => ?_, fun x hx => ?_, fun i w hi hw t ht => ?_, fun x hx => ?_, fun j v hv => ?_⟩
      · rw [he', List.map_append, List.pairwise_append]
        have em : s.queue.map (distOf (bstep adj s u)) = s.queue.map (distOf s) := List.map_congr_left d1
        refine ⟨by rw [em]; exact lv.so, pw_const (c := distOf s u + 1) _ fun x hx => ?_, fun x hx y hy => ?_⟩
        · obtain ⟨x', hx', rfl⟩ := List.mem_map.mp hx
          exact (d2 x' hx').1
        · obtain ⟨x', hx', rfl⟩ := List.mem_map.mp hx
          obtain ⟨y', hy', rfl⟩ := List.mem_map.mp hy
          rw [d1 x' hx', (d2 y' hy').1]
          exact lv.up u hq x' hx'
      · have h1 := ub v hv
        have h2 : distOf s u ≤ distOf (bstep adj s u) w := by
          rw [he'] at hw
          by_cases hl : a + 1 < s.queue.length
          · rw [List.getElem?_append_left hl] at hw
            rw [d1 w (List.mem_of_getElem? hw)]
            have hp := List.pairwise_iff_getElem.mp lv.so a (a + 1) (by rw [List.length_map]; exact hau) (by rw [List.length_map]; exact hl) (by omega)
            rw [List.getElem_map, List.getElem_map] at hp
            rw [(List.getElem?_eq_some_iff.mp hq).2, (List.getElem?_eq_some_iff.mp hw).2] at hp
            exact hp
          · rw [List.getElem?_append_right (by omega)] at hw
            rw [(d2 w (List.mem_of_getElem? hw)).1]; omega
        omega
      · rw [he'] at hx ⊢
        rcases List.mem_append.mp hx with h1 | h1
        · rcases lv.pd x h1 with h2 | ⟨w, hw, h2, h3⟩
          · exact .inl h2
          · exact .inr ⟨w, List.mem_append_left _ hw, by rw [d1 x h1, d1 w hw]; exact h2, h3⟩
        · exact .inr ⟨u, List.mem_append_left _ hu, by rw [(d2 x h1).1, d1 u hu], (d2 x h1).2⟩
      · rw [he'] at hw
        by_cases hia : i < a
        · rw [List.getElem?_append_left (by omega)] at hw
          obtain ⟨h1, h2⟩ := lv.cl i w hia hw t ht
          exact ⟨fd_fold _ h1, by rw [d1 t (fq t h1), d1 w (List.mem_of_getElem? hw)]; exact h2⟩
        · have : i = a := by omega
          subst this
          rw [List.getElem?_append_left hau, hq] at hw
          cases hw
          have h1 : Fd (bstep adj s u) t := fd_all _ (fun x hx => by rw [bi.len]; exact ok _ hrow x hx) t ht
          exact ⟨h1, by rw [d1 u hu]; exact ub t (fq2 t h1)⟩
      · rw [he'] at hx
        rcases List.mem_append.mp hx with h1 | h1
        · rw [d1 x h1]; exact lv.nn x h1
        · rw [(d2 x h1).1]; have := lv.nn u hu; omega
      · rw [he'] at hv
        by_cases hl : j < s.queue.length
        · rw [List.getElem?_append_left hl] at hv
          rw [d1 v (List.mem_of_getElem? hv)]; exact lv.ix j v hv
        · rw [List.getElem?_append_right (by omega)] at hv
          rw [(d2 v (List.mem_of_getElem? hv)).1]
          have := lv.ix a u hq
          omega
/-- the search's number, a large one where nothing is found -/
def far (ss : List (Option Int)) (x : Nat) : Int := ((ss[x]?).getD none).getD 1000
theorem bfs_lv {adj : List (List Nat)} {h : Nat} (ok : adjOk adj) (hh : h < adj.length) : far (steps adj h) h = 0 ∧ (∀ (x : Nat) (k : Int), (steps adj h)[x]? = some (some k) → 0 ≤ k ∧ k ≤ adj.length ∧ (x = h ∨ ∃ (u : Nat) (ku : Int), (steps adj h)[u]? = some (some ku) ∧ k = ku + 1 ∧ x ∈ adj.getD u [])) ∧
    ∀ (u : Nat) (ku : Int) (t : Nat), (steps adj h)[u]? = some (some ku) → t ∈ adj.getD u [] → ∃ kt : Int, (steps adj h)[t]? = some (some kt) ∧ kt ≤ ku + 1 := by
  have hs : (bstart adj.length h).found[h]? = some (some 0) := by simp [bstart, hh]
  have d0 : distOf (bstart adj.length h) h = 0 := dist_of hs
  obtain ⟨e, he, lv, fq, bi⟩ := brun_lv (h := h) ok adj.length 0 (bstart adj.length h) (BInv.start hh)
    (fun x hx => by rw [(fd_start hh).mp hx]; exact List.mem_singleton.mpr rfl) (Nat.zero_le _) (by omega)
    ⟨hs, List.pairwise_singleton _ _, fun u hu v hv => by
      have e1 : h = u := by simpa [bstart] using hu
      have e2 : v = h := List.mem_singleton.mp hv
      subst e1; subst e2; omega, fun x hx => .inl (List.mem_singleton.mp hx), fun i u hi => absurd hi (by omega), fun x hx => by
      have e2 : x = h := List.mem_singleton.mp hx
      subst e2; omega, fun j v hv => by
      have e2 : v = h := List.mem_singleton.mp (List.mem_of_getElem? hv)
      subst e2; omega⟩
  have es : steps adj h = e.found := by rw [he]; rfl
  rw [es]
  have fd : ∀ {x : Nat} {k : Int}, e.found[x]? = some (some k) → x ∈ e.queue := fun {x k} hx => fq x ⟨k, hx⟩
  refine ⟨by unfold far; rw [lv.h0]; rfl, fun x k hx => ?_, fun u ku t hu ht => ?_⟩
  · have hd := dist_of hx
    refine ⟨by have := lv.nn x (fd hx); omega, ?_, (lv.pd x (fd hx)).imp id ?_⟩
    · obtain ⟨j, hj, e1⟩ := List.getElem_of_mem (fd hx)
      have := lv.ix j x (by rw [List.getElem?_eq_getElem hj, e1])
      have := bi.cnt
      omega
    rintro ⟨u, hu, h1, h2⟩
    obtain ⟨ku, hku⟩ := bi.mem u hu
    exact ⟨u, ku, hku, by rw [dist_of hku] at h1; omega, h2⟩
  · obtain ⟨i, hi, e1⟩ := List.getElem_of_mem (fd hu)
    obtain ⟨⟨kt, hkt⟩, h2⟩ := lv.cl i u hi (by rw [List.getElem?_eq_getElem hi, e1]) t ht
    exact ⟨kt, hkt, by rw [dist_of hkt, dist_of hu] at h2; exact h2⟩
/-! ### the table is a metric -/
structure FM (n : Nat) (q : Lp) (i : Nat) (M : Mx) : Prop where
  sq : Sq n M
  nn : ∀ x y, x < n → y < n → 0 ≤ cell M x y ∧ (cell M x y = 99 ∨ cell M x y ≤ 2 ^ i)
  tr : ∀ k x y, k < i → k < n → x < n → y < n → cell M x y ≤ cell M x k + cell M k y
  po : ∀ (f : Nat → Int), (∀ a b, a < n → b < n → a ≠ b → a ∉ q.fallen → b ∉ q.fallen → (a, b) ∉ q.silent → f b ≤ f a + 1) → ∀ x y, x < n → y < n → cell M x y < 99 → f y ≤ f x + cell M x y
  up : ∀ x y, x < n → y < n → cell M x y ≤ val q x y
  fl : ∀ x y, x < n → y < n → cell M x y < 99 → x ∉ q.fallen ∧ y ∉ q.fallen
theorem val_cases (q : Lp) (x y : Nat) : (val q x y = 99) ∨ (val q x y = 0 ∧ x = y ∧ x ∉ q.fallen) ∨ (val q x y = 1 ∧ x ≠ y ∧ x ∉ q.fallen ∧ y ∉ q.fallen ∧ (x, y) ∉ q.silent) := by
  unfold val
  by_cases h1 : x ∈ q.fallen
  · rw [if_pos h1]; exact .inl rfl
  · rw [if_neg h1]
    by_cases h2 : x = y
    · rw [if_pos h2]; exact .inr (.inl ⟨rfl, h2, h1⟩)
    · rw [if_neg h2]
      by_cases h3 : y ∉ q.fallen ∧ (x, y) ∉ q.silent
      · rw [if_pos h3]; exact .inr (.inr ⟨rfl, h2, h1, h3.1, h3.2⟩)
      · rw [if_neg h3]; exact .inl rfl
theorem fm_zero {n : Nat} {q : Lp} : FM n q 0 (initM n q) := by
  refine ⟨sq_init n q, fun x y hx hy => ?_, fun k x y hk => absurd hk (by omega), fun f hf x y hx hy h => ?_, fun x y hx hy => by rw [cell_init hx hy]; omega, fun x y hx hy h => ?_⟩
  · rw [cell_init hx hy]
    have p : (2 : Int) ^ 0 = 1 := rfl
    rcases val_cases q x y with h | ⟨h, _⟩ | ⟨h, _⟩ <;> rw [h] <;> omega
  · rw [cell_init hx hy] at h ⊢
    rcases val_cases q x y with g | ⟨g, e, _⟩ | ⟨g, g1, g2, g3, g4⟩
    · omega
    · rw [g]; subst e; omega
    · rw [g]; exact hf x y hx hy g1 g2 g3 g4
  · rw [cell_init hx hy] at h
    rcases val_cases q x y with g | ⟨g, e, g1⟩ | ⟨g, g1, g2, g3, g4⟩
    · omega
    · exact ⟨g1, e ▸ g1⟩
    · exact ⟨g2, g3⟩
theorem fm_succ {n : Nat} {q : Lp} {i : Nat} {M : Mx} (hi : i < n) (h6 : n ≤ 6) (f : FM n q i M) : FM n q (i + 1) (relV n M i) := by
  have hc : ∀ x y, x < n → y < n → cell (relV n M i) x y = Rx M i x y := fun x y hx hy => by
    unfold relV
    rw [fold_V f.sq hi (f.nn i i hi hi).1 x y hy n (Nat.le_refl _), if_pos hx]
  have hp : (2 : Int) ^ (i + 1) = 2 ^ i * 2 := Int.pow_succ 2 i
  have hb : (2 : Int) ^ i ≤ 32 ∧ (1 : Int) ≤ 2 ^ i := by
    have : i = 0 ∨ i = 1 ∨ i = 2 ∨ i = 3 ∨ i = 4 ∨ i = 5 := by omega
    rcases this with rfl | rfl | rfl | rfl | rfl | rfl <;> decide
  have hx1 : ∀ x, x < n → Rx M i x i = cell M x i := fun x hx => by unfold Rx; rw [if_neg (by have := (f.nn i i hi hi).1; omega)]
  have hx2 : ∀ y, y < n → Rx M i i y = cell M i y := fun y hy => by unfold Rx; rw [if_neg (by have := (f.nn i i hi hi).1; omega)]
  have rle : ∀ x y, Rx M i x y ≤ cell M x y ∧ Rx M i x y ≤ cell M x i + cell M i y ∧ (Rx M i x y = cell M x y ∨ Rx M i x y = cell M x i + cell M i y) := fun x y => by
    unfold Rx; split <;> omega
  refine ⟨sq_relV M i f.sq, fun x y hx hy => ?_, fun k x y hk hkn hx hy => ?_, fun g hg x y hx hy h => ?_, fun x y hx hy => ?_, fun x y hx hy h => ?_⟩
  · rw [hc x y hx hy]
    unfold Rx
    have a1 := f.nn x i hx hi
    have a2 := f.nn i y hi hy
    have a3 := f.nn x y hx hy
    split <;> omega
  · rw [hc x y hx hy, hc x k hx hkn, hc k y hkn hy]
    by_cases e : k = i
    · subst e
      rw [hx1 x hx, hx2 y hy]
      exact (rle x y).2.1
    · have t1 := f.tr k x y (by omega) hkn hx hy
      have t2 := f.tr k x i (by omega) hkn hx hi
      have t3 := f.tr k i y (by omega) hkn hi hy
      have p1 := (f.nn k i hkn hi).1
      have p2 := (f.nn i k hi hkn).1
      obtain ⟨r1, r2, _⟩ := rle x y
      obtain ⟨_, _, s3⟩ := rle x k
      obtain ⟨_, _, u3⟩ := rle k y
      rcases s3 with s3 | s3 <;> rcases u3 with u3 | u3 <;> omega
  · rw [hc x y hx hy] at h ⊢
    obtain ⟨r1, r2, r3⟩ := rle x y
    have a1 := f.nn x i hx hi
    have a2 := f.nn i y hi hy
    rcases r3 with r3 | r3
    · have := f.po g hg x y hx hy (by omega); omega
    · have b1 := f.po g hg x i hx hi (by omega)
      have b2 := f.po g hg i y hi hy (by omega)
      omega
  · rw [hc x y hx hy]
    have := f.up x y hx hy
    have := (rle x y).1
    omega
  · rw [hc x y hx hy] at h
    obtain ⟨r1, r2, r3⟩ := rle x y
    have a1 := f.nn x i hx hi
    have a2 := f.nn i y hi hy
    rcases r3 with r3 | r3
    · exact f.fl x y hx hy (by omega)
    · exact ⟨(f.fl x i hx hi (by omega)).1, (f.fl i y hi hy (by omega)).2⟩
theorem fm_all {n : Nat} {q : Lp} (h6 : n ≤ 6) : ∀ i, i ≤ n → FM n q i ((List.range i).foldl (relV n) (initM n q))
  | 0, _ => fm_zero
  | i + 1, h => by rw [fold_snoc]; exact fm_succ (by omega) h6 (fm_all h6 i (by omega))
theorem fm_dist {n : Nat} {q : Lp} (h6 : n ≤ 6) : FM n q n (distM n q) := fm_all h6 n (Nat.le_refl _)
/-- a cell as the program tells it -/
def tbl (c : Int) : Option Int := if c < 99 then some c else none
/-- a search's numbers are the table's: along links that a list tells -/
theorem steps_tbl {n : Nat} {q : Lp} {adj : List (List Nat)} {h : Nat} {M : Nat → Int} (h6 : n ≤ 6) (ok : adjOk adj) (la : adj.length = n) (hh : h < n) (M0 : M h = 0)
    (dn : ∀ u x, u < n → x < n → x ∈ adj.getD u [] → M x ≤ M u + 1) (po : ∀ f : Nat → Int, f h = 0 → (∀ u x, u < n → x < n → x ∈ adj.getD u [] → f x ≤ f u + 1) → ∀ x, x < n → M x < 99 → f x ≤ M x) (nn : ∀ x, x < n → 0 ≤ M x) :
    steps adj h = (List.range n).map fun x => tbl (M x) := by
  obtain ⟨ls, _, _, _⟩ := bfs ok (show h < adj.length by rw [la]; exact hh)
  obtain ⟨z0, z1, z2⟩ := bfs_lv ok (show h < adj.length by rw [la]; exact hh)
  rw [la] at ls z1
  have hb : ∀ (x : Nat) (k : Int), (steps adj h)[x]? = some (some k) → x < n := fun x k hx => by rw [← ls]; exact (List.getElem?_eq_some_iff.mp hx).1
  have lo : ∀ m : Nat, ∀ x (k : Int), k.toNat ≤ m → (steps adj h)[x]? = some (some k) → M x ≤ k := by
    intro m
    induction m with
    | zero =>
      intro x k hk hx
      obtain ⟨k0, _, e | ⟨u, ku, hu, e, _⟩⟩ := z1 x k hx
      · subst e; omega
      · have := (z1 u ku hu).1; omega
    | succ m ih =>
      intro x k hk hx
      obtain ⟨k0, _, e | ⟨u, ku, hu, e, ht⟩⟩ := z1 x k hx
      · subst e; omega
      · have ku0 := (z1 u ku hu).1
        have h1 := ih u ku (by omega) hu
        have h2 := dn u x (hb u ku hu) (hb x k hx) ht
        omega
  have hi : ∀ x, x < n → M x < 99 → far (steps adj h) x ≤ M x := fun x hx hc => by
    refine po (far (steps adj h)) z0 (fun a b ha hb' ht => ?_) x hx hc
    unfold far
    have ga : (steps adj h)[a]? = some (steps adj h)[a] := List.getElem?_eq_getElem (by rw [ls]; exact ha)
    have gb : (steps adj h)[b]? = some (steps adj h)[b] := List.getElem?_eq_getElem (by rw [ls]; exact hb')
    cases ea : (steps adj h)[a] with
    | some ka =>
      rw [ea] at ga
      obtain ⟨kt, hkt, hle⟩ := z2 a ka b ga ht
      rw [ga, hkt]; exact hle
    | none =>
      rw [ea] at ga
      rw [ga, gb]
      cases eb : (steps adj h)[b] with
      | none => show (1000 : Int) ≤ 1000 + 1; omega
      | some kb =>
        rw [eb] at gb
        have := (z1 b kb gb).2.1
        show kb ≤ 1000 + 1
        omega
  refine List.ext_getElem (by rw [ls, List.length_map, List.length_range]) fun x h1 h2 => ?_
  have hx : x < n := by rw [← ls]; exact h1
  rw [List.getElem_map, List.getElem_range]
  have gx : (steps adj h)[x]? = some (steps adj h)[x] := List.getElem?_eq_getElem h1
  unfold tbl
  cases ex : (steps adj h)[x] with
  | some k =>
    rw [ex] at gx
    have l1 := lo k.toNat x k (Nat.le_refl _) gx
    have l2 := (z1 x k gx).2.1
    have hc : M x < 99 := by omega
    rw [if_pos hc]
    have l3 := hi x hx hc
    unfold far at l3
    rw [gx] at l3
    have l3' : k ≤ M x := l3
    congr 1; omega
  | none =>
    rw [ex] at gx
    by_cases hc : M x < 99
    · have l3 := hi x hx hc
      unfold far at l3
      rw [gx] at l3
      have l3' : (1000 : Int) ≤ M x := l3
      omega
    · rw [if_neg hc]
theorem diag {n : Nat} {q : Lp} {h : Nat} (h6 : n ≤ 6) (hh : h < n) (hf : h ∉ q.fallen) : cell (distM n q) h h = 0 := by
  have fm := fm_dist (q := q) h6
  have h1 := fm.up h h hh hh
  have h2 := (fm.nn h h hh hh).1
  have : val q h h = 0 := by unfold val; rw [if_neg hf, if_pos rfl]
  omega
theorem edge1 {n : Nat} {p : Pt} {q : Lp} (h6 : n ≤ 6) (pq : PQ p q) {u x : Nat} (g1 : u < n) (g2 : x < n) (g3 : u ≠ x) (g4 : lastsP p u x = true) : cell (distM n q) u x ≤ 1 := by
  have fm := fm_dist (q := q) h6
  obtain ⟨f1, f2, f3⟩ := (lasts_iff pq g3).mp g4
  have h3 := fm.up u x g1 g2
  have h4 : val q u x = 1 := by unfold val; rw [if_neg f1, if_neg g3, if_pos ⟨f2, f3⟩]
  omega
theorem steps_on {n : Nat} {p : Pt} {q : Lp} {h : Nat} (h6 : n ≤ 6) (pq : PQ p q) (hh : h < n) (hf : h ∉ q.fallen) : steps (mkNt n p).on h = (List.range n).map fun x => tbl (cell (distM n q) h x) := by
  have fm := fm_dist (q := q) h6
  have no := mkNt_ok (n := n) p (by omega)
  refine steps_tbl (q := q) h6 no.ono (by simp [mkNt]) hh (diag h6 hh hf) (fun u x hu hx ht => ?_) (fun f f0 hff x hx hc => ?_) fun x hx => (fm.nn h x hh hx).1
  · obtain ⟨g1, g2, g3, g4⟩ := onD_mem.mp ht
    have := fm.tr u h x hu hu hh hx
    have := edge1 h6 pq g1 g2 g3 g4
    omega
  · have := fm.po f (fun a b ha hb hne f1 f2 f3 => hff a b ha hb (onD_mem.mpr ⟨ha, hb, hne, (lasts_iff pq hne).mpr ⟨f1, f2, f3⟩⟩)) h x hh hx hc
    omega
theorem steps_bk {n : Nat} {p : Pt} {q : Lp} {h : Nat} (h6 : n ≤ 6) (pq : PQ p q) (hh : h < n) (hf : h ∉ q.fallen) : steps (mkNt n p).bk h = (List.range n).map fun x => tbl (cell (distM n q) x h) := by
  have fm := fm_dist (q := q) h6
  have no := mkNt_ok (n := n) p (by omega)
  refine steps_tbl (q := q) h6 no.bko (by simp [mkNt]) hh (diag h6 hh hf) (fun u x hu hx ht => ?_) (fun f f0 hff x hx hc => ?_) fun x hx => (fm.nn x h hx hh).1
  · obtain ⟨g1, g2, g3, g4⟩ := bkD_mem.mp ht
    have := fm.tr u x h hu hu hx hh
    have := edge1 h6 pq g2 g1 g3 g4
    omega
  · have := fm.po (fun z => - f z) (fun a b ha hb hne f1 f2 f3 => by
      have := hff b a hb ha (bkD_mem.mpr ⟨hb, ha, hne, (lasts_iff pq hne).mpr ⟨f1, f2, f3⟩⟩)
      show - f b ≤ - f a + 1
      omega) x h hx hh hc
    have e : - f h ≤ - f x + cell (distM n q) x h := this
    omega
end T5
namespace T5
open PySem PySem.Spec PyProof.Rows L2 Evl AL
structure NH (t : Nt) (h : Nat) : Prop where
  ok : NtOk t
  lt : h < t.n
  al : h ∈ t.alive
def sumO (a b : Option Int) : Option Int := match a, b with
  | some x, some y => some (x + y)
  | _, _ => none
def trips (t : Nt) (h : Nat) : List (Option Int) := List.zipWith sumO (steps t.on h) (steps t.bk h)
def inL (l : Int) (o : Option Int) : Bool := match o with
  | some x => decide (x ≤ l)
  | none => false
def wl (ts : List (Option Int)) (l : Int) : List Nat := (List.range ts.length).filter fun i => inL l ((ts[i]?).getD none)
def S_chk (ds : List D) (Ψ : D → Prop) : Prop := ∃ (v l : Int) (nm : Str), ds = [.int v, .str nm, .int l] ∧ l ≤ v ∧ Ψ (.int v)
def S_after (CN C : Addr) (ds : List D) (Ψ : D → Prop) : Prop := ∃ (t : Nt) (h : Nat), ds = [netD CN C t, natD h] ∧ NH t h ∧ Ψ (rowD (t.on.getD h []))
def S_don (CN C : Addr) (ds : List D) (Ψ : D → Prop) : Prop := ∃ (t : Nt) (h : Nat), ds = [netD CN C t, natD h] ∧ NH t h ∧ Ψ (.tup ((steps t.on h).map oD))
def S_dbk (CN C : Addr) (ds : List D) (Ψ : D → Prop) : Prop := ∃ (t : Nt) (h : Nat), ds = [netD CN C t, natD h] ∧ NH t h ∧ Ψ (.tup ((steps t.bk h).map oD))
def S_sum (ds : List D) (Ψ : D → Prop) : Prop := ∃ a b : Option Int, ds = [oD a, oD b] ∧ Ψ (oD (sumO a b))
def S_trips (CN C : Addr) (ds : List D) (Ψ : D → Prop) : Prop := ∃ (t : Nt) (h : Nat), ds = [netD CN C t, natD h] ∧ NH t h ∧ Ψ (.tup ((trips t h).map oD))
def S_within (ds : List D) (Ψ : D → Prop) : Prop := ∃ (ts : List (Option Int)) (l : Int), ds = [.tup (ts.map oD), .int l] ∧ ts.length ≤ 1000 ∧ Ψ (rowD (wl ts l))
def S_echo (CN C : Addr) (ds : List D) (Ψ : D → Prop) : Prop := ∃ (t : Nt) (h : Nat) (l : Int), ds = [netD CN C t, natD h, .int l] ∧ NH t h ∧ 0 ≤ l ∧ Ψ (rowD (wl (trips t h) l))
def S_span (CN C : Addr) (ds : List D) (Ψ : D → Prop) : Prop := ∃ (t : Nt) (h : Nat), ds = [netD CN C t, natD h] ∧ NH t h ∧ some 0 ∈ trips t h ∧ ∀ m : Int, 0 ≤ m → Ψ (.int m)
def S_reaches (CN C : Addr) (ds : List D) (Ψ : D → Prop) : Prop := ∃ (t : Nt) (h k : Nat), ds = [netD CN C t, natD h, natD k] ∧ NH t h ∧ NH t k ∧ Ψ (.bl (decide ((k : Int) ∈ reachL t.on h)))
def S_near (CN C : Addr) (ds : List D) (Ψ : D → Prop) : Prop := ∃ (t : Nt) (h : Nat) (ss : List (Option Int)) (k : Int), ds = [netD CN C t, natD h, .lst (ss.map oD)] ∧ NtOk t ∧ h < t.n ∧ ss.length = t.n ∧ ss[h]? = some (some k) ∧ (∃ u ∈ t.on.getD h [], ss[u]? = some (some (k - 1))) ∧
  (t.on.getD h []).length ≤ 1000 ∧ ∀ u ∈ t.on.getD h [], ss[u]? = some (some (k - 1)) → Ψ (natD u)
def S_hrs (C : Addr) (ds : List D) (Ψ : D → Prop) : Prop := ∃ p p' : Pt, ds = [patD C p, patD C p'] ∧ p'.fallen.length ≤ 1000 ∧ p'.silent.length ≤ 1000 ∧ Ψ (.bl (p'.fallen.all (fun h => decide (h ∈ p.fallen)) && !(p'.silent.any fun l => lastsP p l.1 l.2)))
theorem m_chk : MonoF S_chk := fun ds Φ Φ' h ⟨a, b, c, h1, h2, h3⟩ => ⟨a, b, c, h1, h2, h _ h3⟩
theorem m_after (CN C : Addr) : MonoF (S_after CN C) := fun ds Φ Φ' h ⟨a, b, h1, h2, h3⟩ => ⟨a, b, h1, h2, h _ h3⟩
theorem m_don (CN C : Addr) : MonoF (S_don CN C) := fun ds Φ Φ' h ⟨a, b, h1, h2, h3⟩ => ⟨a, b, h1, h2, h _ h3⟩
theorem m_dbk (CN C : Addr) : MonoF (S_dbk CN C) := fun ds Φ Φ' h ⟨a, b, h1, h2, h3⟩ => ⟨a, b, h1, h2, h _ h3⟩
theorem m_sum : MonoF S_sum := fun ds Φ Φ' h ⟨a, b, h1, h2⟩ => ⟨a, b, h1, h _ h2⟩
theorem m_trips (CN C : Addr) : MonoF (S_trips CN C) := fun ds Φ Φ' h ⟨a, b, h1, h2, h3⟩ => ⟨a, b, h1, h2, h _ h3⟩
theorem m_within : MonoF S_within := fun ds Φ Φ' h ⟨a, b, h1, h2, h3⟩ => ⟨a, b, h1, h2, h _ h3⟩
theorem m_echo (CN C : Addr) : MonoF (S_echo CN C) := fun ds Φ Φ' h ⟨a, b, c, h1, h2, h3, h4⟩ => ⟨a, b, c, h1, h2, h3, h _ h4⟩
theorem m_span (CN C : Addr) : MonoF (S_span CN C) := fun ds Φ Φ' h ⟨a, b, h1, h2, h3, h4⟩ => ⟨a, b, h1, h2, h3, fun m hm => h _ (h4 m hm)⟩
theorem m_reaches (CN C : Addr) : MonoF (S_reaches CN C) := fun ds Φ Φ' h ⟨a, b, c, h1, h2, h3, h4⟩ => ⟨a, b, c, h1, h2, h3, h _ h4⟩
theorem m_near (CN C : Addr) : MonoF (S_near CN C) := fun ds Φ Φ' h ⟨a, b, c, d, h1, h2, h3, h4, h5, h6, h7, h8⟩ => ⟨a, b, c, d, h1, h2, h3, h4, h5, h6, h7, fun u x y => h _ (h8 u x y)⟩
theorem m_hrs (C : Addr) : MonoF (S_hrs C) := fun ds Φ Φ' h ⟨a, b, h1, h2, h3, h4⟩ => ⟨a, b, h1, h2, h3, h _ h4⟩
def pyO : Option Int → PyData
  | none => .none
  | some v => .int v
theorem py_oD (o : Option Int) : pyD (oD o) = some (pyO o) := by cases o <;> (unfold oD pyD; rfl)
theorem shp_oD (o : Option Int) : SeqAt.shaped (pyO o) = true := by cases o <;> rfl
theorem eqv_oD (a b : Option Int) : PyData.eqv (pyO a) (pyO b) = decide (a = b) := by
  cases a <;> cases b <;> simp [pyO, PyData.eqv]
  rename_i x y
  by_cases h : x = y <;> simp [h]
theorem oD_non (o : Option Int) : isNonD (oD o) = o.isNone := by cases o <;> rfl
theorem onGet {t : Nt} {h : Nat} (x : NH t h) : atI (t.on.map rowD) (h : Int) = some (rowD (t.on.getD h [])) := by
  have hl : h < t.on.length := by rw [x.ok.onl]; exact x.lt
  refine atI_nat ?_
  rw [List.getElem?_map, List.getElem?_eq_getElem hl, List.getD_eq_getElem?_getD, List.getElem?_eq_getElem hl]; rfl
theorem trips_len {t : Nt} {h : Nat} (x : NH t h) : (trips t h).length = t.n := by
  unfold trips
  rw [List.length_zipWith, steps_len (by rw [x.ok.onl]; exact x.lt), steps_len (by rw [x.ok.bkl]; exact x.lt), x.ok.onl, x.ok.bkl]
  omega
section
variable {P : Program} {w : World} {K : PySem.W.Frag} {mg : Str → Option Value} {base : Heap} {f C CN : Addr} {fd : FuncData}
theorem c_chk (F : FunN K "check_number" s_check_number f fd) (hm : mg "check_number" = some (.ref f)) (c1 : Cal P w K mg base "is_number" 1 (PFn 1 S_is_number)) : Cal P w K mg base "check_number" 2 (PFn 3 S_chk) := by
  have nd : (["value", "name", "least"] : List Str).Nodup := by decide +kernel
  refine cal_fn F hm (N := ["value", "name", "least"]) (ps := ["value", "name", "least"]) ⟨rfl, rfl, rfl, nd, rfl, by decide +kernel, by decide +kernel⟩ rfl (fun _ _ _ _ _ _ us hl => match us, hl with | [_, _, _], _ => rfl) ?_
  rintro cdv A outer s H E hr ds Ψ hl ⟨v, l, nm, rfl, h1, hd⟩
  refine sc_if (tc_w (wc_or (tc_not (tc_val (ec_cf c1 hr (pass_0 passL) m_is_number (ac_cons (ec_var 0 rfl (ac_nil ⟨rfl, _, rfl, rfl, _, rfl, fun _ => ?_, (fun z => nomatch z)⟩))))))))
  refine wc_or1 (tc_w (wc_and (tc_notN (ec_var 2 rfl ⟨fun _ => wc_and1 (tc_lt (ec_var 0 rfl (ec_var 2 rfl ⟨_, _, rfl, rfl, ?_⟩))), (fun z => nomatch z)⟩))))
  rw [decide_eq_false (by omega)]
  exact ⟨(fun z => nomatch z), fun _ => sc_nil (sc_ret (ec_var 0 rfl hd))⟩
theorem c_don (F : FunN K "distances" s_distances f fd) (hm : mg "distances" = some (.ref f)) (b : Blt mg) (nc : NetC K CN) (c2 : Cal P w K mg base "steps_over" 1 (PFn 2 S_steps_over)) (c3 : Cal P w K mg base "alive_house" 4 (PFn 2 (S_alive_house CN C))) : Cal P w K mg base "distances" 5 (PFn 2 (S_don CN C)) := by
  have nd : (["net", "house"] : List Str).Nodup := by decide +kernel
  refine cal_fn F hm (N := ["net", "house"]) (ps := ["net", "house"]) ⟨rfl, rfl, rfl, nd, rfl, by decide +kernel, by decide +kernel⟩ rfl (fun _ _ _ _ _ _ us hl => match us, hl with | [_, _], _ => rfl) ?_
  rintro cdv A outer s H E hr ds Ψ hl ⟨t, h, rfl, x, hd⟩
  have hh : h < t.on.length := by rw [x.ok.onl]; exact x.lt
  refine sc_ret (ec_cty call_tuple_of boot_tuple b.tuple (ac_cons (ec_cf c2 (hr.mono (by omega)) (pass_0 passL) m_steps_over (ac_cons (ec_fld (ec_var 0 rfl ⟨CN, netF C t, .tup (t.on.map rowD), rfl, nc.cl, nc.n3, rfl, ac_cons (ec_cf c3 hr (pass_0 passL) (m_alive_house CN C) (ac_cons (ec_var 0 rfl (ac_cons (ec_var 1 rfl (ac_nil ⟨rfl, t, h, rfl, x.lt, x.al, ?_⟩))))))⟩))))))
  exact ac_nil ⟨rfl, t.on, h, rfl, by rw [x.ok.onl]; have := x.ok.n7; omega, hh, x.ok.ono, ac_nil ⟨_, gb_tuple rfl (fun _ h => nomatch h), fun d e => by subst e; exact hd⟩⟩
theorem c_dbk (F : FunN K "distances_to" s_distances_to f fd) (hm : mg "distances_to" = some (.ref f)) (b : Blt mg) (nc : NetC K CN) (c2 : Cal P w K mg base "steps_over" 1 (PFn 2 S_steps_over)) (c3 : Cal P w K mg base "alive_house" 4 (PFn 2 (S_alive_house CN C))) : Cal P w K mg base "distances_to" 5 (PFn 2 (S_dbk CN C)) := by
  have nd : (["net", "house"] : List Str).Nodup := by decide +kernel
  refine cal_fn F hm (N := ["net", "house"]) (ps := ["net", "house"]) ⟨rfl, rfl, rfl, nd, rfl, by decide +kernel, by decide +kernel⟩ rfl (fun _ _ _ _ _ _ us hl => match us, hl with | [_, _], _ => rfl) ?_
  rintro cdv A outer s H E hr ds Ψ hl ⟨t, h, rfl, x, hd⟩
  have hh : h < t.bk.length := by rw [x.ok.bkl]; exact x.lt
  refine sc_ret (ec_cty call_tuple_of boot_tuple b.tuple (ac_cons (ec_cf c2 (hr.mono (by omega)) (pass_0 passL) m_steps_over (ac_cons (ec_fld (ec_var 0 rfl ⟨CN, netF C t, .tup (t.bk.map rowD), rfl, nc.cl, nc.n4, rfl, ac_cons (ec_cf c3 hr (pass_0 passL) (m_alive_house CN C) (ac_cons (ec_var 0 rfl (ac_cons (ec_var 1 rfl (ac_nil ⟨rfl, t, h, rfl, x.lt, x.al, ?_⟩))))))⟩))))))
  exact ac_nil ⟨rfl, t.bk, h, rfl, by rw [x.ok.bkl]; have := x.ok.n7; omega, hh, x.ok.bko, ac_nil ⟨_, gb_tuple rfl (fun _ h => nomatch h), fun d e => by subst e; exact hd⟩⟩
theorem c_sum (F : FunN K "sum_of" s_sum_of f fd) (hm : mg "sum_of" = some (.ref f)) : Cal P w K mg base "sum_of" 1 (PFn 2 S_sum) := by
  have nd : (["first", "other"] : List Str).Nodup := by decide +kernel
  refine cal_fn F hm (N := ["first", "other"]) (ps := ["first", "other"]) ⟨rfl, rfl, rfl, nd, rfl, by decide +kernel, by decide +kernel⟩ rfl (fun _ _ _ _ _ _ us hl => match us, hl with | [_, _], _ => rfl) ?_
  rintro cdv A outer s H E hr ds Ψ hl ⟨a, c, rfl, hd⟩
  refine sc_ret (ec_if (tc_w (wc_or (tc_isN (ec_var 0 rfl ?_)))))
  cases a with
  | none => exact ⟨(fun z => nomatch z), fun _ => ⟨fun _ => ec_non hd, (fun z => nomatch z)⟩⟩
  | some x =>
    refine ⟨fun _ => wc_or1 (tc_isN (ec_var 1 rfl ?_)), (fun z => nomatch z)⟩
    cases c with
    | none => exact ⟨fun _ => ec_non hd, (fun z => nomatch z)⟩
    | some y => exact ⟨(fun z => nomatch z), fun _ => ec_add (ec_var 0 rfl (ec_var 1 rfl ⟨_, _, rfl, rfl, hd⟩))⟩
theorem c_trips (F : FunN K "round_trips" s_round_trips f fd) (hm : mg "round_trips" = some (.ref f)) (b : Blt mg) (hz : mg "zip" = none) (c1 : Cal P w K mg base "distances" 5 (PFn 2 (S_don CN C))) (c2 : Cal P w K mg base "distances_to" 5 (PFn 2 (S_dbk CN C))) (c3 : Cal P w K mg base "sum_of" 1 (PFn 2 S_sum)) : Cal P w K mg base "round_trips" 6 (PFn 2 (S_trips CN C)) := by
  have nd : (["net", "house", "onward", "backward", "there", "back"] : List Str).Nodup := by decide +kernel
  refine cal_fn F hm (N := ["net", "house", "onward", "backward", "there", "back"]) (ps := ["net", "house"]) ⟨rfl, rfl, rfl, nd, rfl, by decide +kernel, by decide +kernel⟩ rfl (fun _ _ _ _ _ _ us hl => match us, hl with | [_, _], _ => rfl) ?_
  rintro cdv A outer s H E hr ds Ψ hl ⟨t, h, rfl, x, hd⟩
  refine sc_set 2 (ec_cf c1 hr (pass_0 passL) (m_don CN C) (ac_cons (ec_var 0 rfl (ac_cons (ec_var 1 rfl (ac_nil ⟨rfl, t, h, rfl, x, ?_⟩)))))) nd
  refine sc_set 3 (ec_cf c2 hr (pass_0 passL) (m_dbk CN C) (ac_cons (ec_var 0 rfl (ac_cons (ec_var 1 rfl (ac_nil ⟨rfl, t, h, rfl, x, ?_⟩)))))) nd
  have l1 : (steps t.on h).length = t.n := by rw [steps_len (by rw [x.ok.onl]; exact x.lt), x.ok.onl]
  have l2 : (steps t.bk h).length = t.n := by rw [steps_len (by rw [x.ok.bkl]; exact x.lt), x.ok.bkl]
  have hlen := trips_len x
  have h7 := x.ok.n7
  have hzl : (zipD ((steps t.on h).map oD) ((steps t.bk h).map oD)).length = t.n := by rw [zipD_len, List.length_map, List.length_map, l1, l2]; omega
  let R : En := [some (.im (netD CN C t)), some (.im (natD h)), some (.im (.tup ((steps t.on h).map oD))), some (.im (.tup ((steps t.bk h).map oD))), none, none]
  refine sc_ret (ec_cty call_tuple_of boot_tuple b.tuple (ac_cons (ec_fc (fc_lc [("there", 4), ("back", 5)] [4, 5] (ic_zipT hz (ac_cons (ec_var 2 rfl (ac_cons (ec_var 3 rfl (ac_nil ⟨_, _, rfl, ?_⟩)))))) nd (by decide)))))
  refine ⟨fun _ => R, fun i => ((trips t h).take i).map oD, R, rfl, rfl, fun i hi => ?_, fun i d hid => ?_, ⟨rfl, fun _ _ h => h, fun i a' o h => ⟨h, _, h⟩⟩, _, rfl, ac_nil ⟨_, gb_tuple rfl (fun _ h => nomatch h), ?_⟩⟩
  · rw [List.length_map, List.length_take]; omega
  · rw [zipD_get, List.getElem?_map, List.getElem?_map] at hid
    cases ha : (steps t.on h)[i]? with
    | none => rw [ha] at hid; cases hid
    | some u =>
      cases hb : (steps t.bk h)[i]? with
      | none => rw [ha, hb] at hid; cases hid
      | some v =>
        rw [ha, hb] at hid
        cases hid
        have ht : (trips t h)[i]? = some (sumO u v) := by unfold trips; rw [List.getElem?_zipWith, ha, hb]
        intro s3 H3 C3 cl3 fp3
        refine gt_tup ⟨rfl, ⟨_, rfl⟩, rfl⟩ (gts_cons (gt_name 4 (gts_cons (gt_name 5 (gts_nil ?_) nd)) nd))
        intro s4 H4 C4 cl4 fp4
        refine ec_cf c3 (hr.mono (by omega)) (pass_0 passL) m_sum (ac_cons (ec_var 4 rfl (ac_cons (ec_var 5 rfl (ac_nil ⟨rfl, u, v, rfl, ?_, rfl⟩)))))
        dsimp only
        rw [List.take_add_one, ht, List.map_append]; rfl
  · rintro d rfl
    dsimp only
    rw [hzl, List.take_of_length_le (by omega)]
    exact hd
theorem wl_snoc (ts : List (Option Int)) (l : Int) (i : Nat) : ((List.range (i + 1)).filter fun j => inL l ((ts[j]?).getD none)).map natD = ((List.range i).filter fun j => inL l ((ts[j]?).getD none)).map natD ++ (if inL l ((ts[i]?).getD none) then [natD i] else []) := filt_snoc _ _ _
theorem c_within (F : FunN K "within_limit" s_within_limit f fd) (hm : mg "within_limit" = some (.ref f)) (b : Blt mg) : Cal P w K mg base "within_limit" 1 (PFn 2 S_within) := by
  have nd : (["times", "limit", "house", "time"] : List Str).Nodup := by decide +kernel
  refine cal_fn F hm (N := ["times", "limit", "house", "time"]) (ps := ["times", "limit"]) ⟨rfl, rfl, rfl, nd, rfl, by decide +kernel, by decide +kernel⟩ rfl (fun _ _ _ _ _ _ us hl => match us, hl with | [_, _], _ => rfl) ?_
  rintro cdv A outer s H E hr ds Ψ hl ⟨ts, l, rfl, hlen, hd⟩
  let R : En := [some (.im (.tup (ts.map oD))), some (.im (.int l)), none, none]
  refine sc_ret (ec_cty call_tuple_of boot_tuple b.tuple (ac_cons (ec_fc (fc_lcIf [("house", 2), ("time", 3)] [2, 3] (ic_enum b.enum (ec_var 0 rfl ⟨_, rfl, ?_⟩)) nd (by decide)))))
  refine ⟨fun _ => R, fun i => ((List.range i).filter fun j => inL l ((ts[j]?).getD none)).map natD, R, rfl, rfl, fun i hi => ?_, fun i d hid => ?_, ⟨rfl, fun _ _ h => h, fun i a' o h => ⟨h, _, h⟩⟩, _, rfl, ac_nil ⟨_, gb_tuple rfl (fun _ h => nomatch h), ?_⟩⟩
  · dsimp only
    have := filt_len (fun j => inL l ((ts[j]?).getD none)) natD i
    have hi' : i ≤ (enumD (ts.map oD)).length := hi
    unfold enumD at hi'
    rw [enumFrom_len, List.length_map] at hi'
    omega
  · rw [enumD_get, List.getElem?_map] at hid
    cases ho : ts[i]? with
    | none => rw [ho] at hid; cases hid
    | some o =>
      rw [ho] at hid
      cases hid
      intro s3 H3 C3 cl3 fp3
      refine gt_tup ⟨rfl, ⟨_, rfl⟩, rfl⟩ (gts_cons (gt_name 2 (gts_cons (gt_name 3 (gts_nil ?_) nd)) nd))
      intro s4 H4 C4 cl4 fp4
      refine tc_w (wc_and (tc_notN (ec_var 3 rfl ?_)))
      cases o with
      | none =>
        refine ⟨(fun z => nomatch z), fun _ => ⟨(fun z => nomatch z), fun _ => ⟨?_, rfl⟩⟩⟩
        dsimp only
        rw [wl_snoc, ho, if_neg (by simp [inL]), List.append_nil]
      | some v =>
        refine ⟨fun _ => wc_and1 (tc_le (ec_var 3 rfl (ec_var 1 rfl ⟨_, _, rfl, rfl, ?_⟩))), (fun z => nomatch z)⟩
        refine ⟨fun hk => ?_, fun hk => ?_⟩
        · intro s5 H5 C5 cl5 fp5
          refine ec_var 2 rfl ⟨?_, rfl⟩
          dsimp only
          rw [wl_snoc, ho, if_pos (by simpa [inL] using hk)]; rfl
        · refine ⟨?_, rfl⟩
          dsimp only
          rw [wl_snoc, ho, if_neg (by simpa [inL] using hk), List.append_nil]
  · rintro d rfl
    dsimp only
    have e : (enumD (ts.map oD)).length = ts.length := by unfold enumD; rw [enumFrom_len, List.length_map]
    rw [e]; exact hd
theorem c_echo (F : FunN K "echo" s_echo f fd) (hm : mg "echo" = some (.ref f)) (c1 : Cal P w K mg base "round_trips" 6 (PFn 2 (S_trips CN C))) (c2 : Cal P w K mg base "within_limit" 1 (PFn 2 S_within)) (c3 : Cal P w K mg base "check_number" 2 (PFn 3 S_chk)) : Cal P w K mg base "echo" 7 (PFn 3 (S_echo CN C)) := by
  have nd : (["net", "house", "limit", "times"] : List Str).Nodup := by decide +kernel
  refine cal_fn F hm (N := ["net", "house", "limit", "times"]) (ps := ["net", "house", "limit"]) ⟨rfl, rfl, rfl, nd, rfl, by decide +kernel, by decide +kernel⟩ rfl (fun _ _ _ _ _ _ us hl => match us, hl with | [_, _, _], _ => rfl) ?_
  rintro cdv A outer s H E hr ds Ψ hl ⟨t, h, l, rfl, x, h0, hd⟩
  refine sc_set 3 (ec_cf c1 hr (pass_0 passL) (m_trips CN C) (ac_cons (ec_var 0 rfl (ac_cons (ec_var 1 rfl (ac_nil ⟨rfl, t, h, rfl, x, ?_⟩)))))) nd
  refine sc_ret (ec_cf c2 (hr.mono (by omega)) (pass_0 passL) m_within (ac_cons (ec_var 3 rfl (ac_cons (ec_cf c3 (hr.mono (by omega)) (pass_0 passL) m_chk (ac_cons (ec_var 2 rfl (ac_cons (ec_str (ac_cons (ec_int (ac_nil ⟨rfl, l, 0, _, rfl, h0, ?_⟩))))))))))))
  exact ac_nil ⟨rfl, trips t h, l, rfl, by rw [trips_len x]; have := x.ok.n7; omega, hd⟩
theorem c_span (F : FunN K "full_span" s_full_span f fd) (hm : mg "full_span" = some (.ref f)) (hx : mg "max" = none) (c1 : Cal P w K mg base "round_trips" 6 (PFn 2 (S_trips CN C))) : Cal P w K mg base "full_span" 7 (PFn 2 (S_span CN C)) := by
  have nd : (["net", "house", "time"] : List Str).Nodup := by decide +kernel
  refine cal_fn F hm (N := ["net", "house", "time"]) (ps := ["net", "house"]) ⟨rfl, rfl, rfl, nd, rfl, by decide +kernel, by decide +kernel⟩ rfl (fun _ _ _ _ _ _ us hl => match us, hl with | [_, _], _ => rfl) ?_
  rintro cdv A outer s H E hr ds Ψ hl ⟨t, h, rfl, x, h0, hd⟩
  let R : En := [some (.im (netD CN C t)), some (.im (natD h)), none]
  have hlen := trips_len x
  have h7 := x.ok.n7
  refine sc_ret (ec_cb (cr_max rfl) (by decide +kernel) hx (ac_cons (ec_fc (fc_lcIf [("time", 2)] [2] (ic_tup (ec_cf c1 hr (pass_0 passL) (m_trips CN C) (ac_cons (ec_var 0 rfl (ac_cons (ec_var 1 rfl (ac_nil ⟨rfl, t, h, rfl, x, _, rfl, ?_⟩))))))) nd (by decide)))))
  refine ⟨fun _ => R, fun i => (((trips t h).take i).filterMap id).map D.int, R, rfl, rfl, fun i hi => ?_, fun i d hid => ?_, ⟨rfl, fun _ _ h => h, fun i a' o h => ⟨h, _, h⟩⟩, _, rfl, ac_nil ?_⟩
  · rw [List.length_map]
    have := List.length_filterMap_le id ((trips t h).take i)
    rw [List.length_take] at this; omega
  · rw [List.getElem?_map] at hid
    obtain ⟨o, ho, rfl⟩ := Option.map_eq_some_iff.mp hid
    have et : (trips t h).take (i + 1) = (trips t h).take i ++ [o] := by rw [List.take_add_one, ho]; rfl
    intro s3 H3 C3 cl3 fp3
    refine gt_name 2 ?_ nd
    intro s4 H4 C4 cl4 fp4
    refine tc_notN (ec_var 2 rfl ?_)
    cases o with
    | none =>
      refine ⟨(fun z => nomatch z), fun _ => ⟨?_, rfl⟩⟩
      dsimp only
      rw [et, List.filterMap_append, List.map_append]; simp
    | some v =>
      refine ⟨fun _ => ?_, (fun z => nomatch z)⟩
      intro s5 H5 C5 cl5 fp5
      refine ec_var 2 rfl ⟨?_, rfl⟩
      dsimp only
      rw [et, List.filterMap_append, List.map_append]; rfl
  · dsimp only
    rw [List.length_map, List.take_of_length_le (by omega)]
    refine ⟨_, gb_max (ns := (trips t h).filterMap id) (List.length_pos_of_mem (List.mem_filterMap.mpr ⟨some 0, h0, rfl⟩)), ?_⟩
    rintro d ⟨m, rfl, hm, hle⟩
    exact hd m (hle 0 (List.mem_filterMap.mpr ⟨some 0, h0, rfl⟩))
theorem c_near (F : FunN K "nearer_house" s_nearer_house f fd) (hm : mg "nearer_house" = some (.ref f)) (hx : mg "min" = none) (nc : NetC K CN) : Cal P w K mg base "nearer_house" 1 (PFn 3 (S_near CN C)) := by
  have nd : (["net", "house", "left", "there"] : List Str).Nodup := by decide +kernel
  refine cal_fn F hm (N := ["net", "house", "left", "there"]) (ps := ["net", "house", "left"]) ⟨rfl, rfl, rfl, nd, rfl, by decide +kernel, by decide +kernel⟩ rfl (fun _ _ _ _ _ _ us hl => match us, hl with | [_, _, _], _ => rfl) ?_
  rintro cdv A outer s H E hr ds Ψ hl ⟨t, h, ss, k, rfl, ok, hh, hl2, hk, ⟨u0, hu0, hs0⟩, hle, hd⟩
  let R : En := [some (.im (netD CN C t)), some (.im (natD h)), some (.im (.lst (ss.map oD))), none]
  let row := t.on.getD h []
  have hlo : h < t.on.length := by rw [ok.onl]; exact hh
  have gon : atI (t.on.map rowD) (h : Int) = some (rowD row) := by
    refine atI_nat ?_
    rw [List.getElem?_map, List.getElem?_eq_getElem hlo]
    show some (rowD _) = some (rowD (t.on.getD h []))
    rw [List.getD_eq_getElem?_getD, List.getElem?_eq_getElem hlo]; rfl
  have hrow : row ∈ t.on := by
    show t.on.getD h [] ∈ t.on
    rw [List.getD_eq_getElem?_getD, List.getElem?_eq_getElem hlo]; exact List.getElem_mem hlo
  let pr : Nat → Bool := fun u => decide (ss[u]? = some (some (k - 1)))
  have hu2 : (bodyX P w K mg base ["net", "house", "left", "there"] "nearer_house" (defScope s_nearer_house) f cdv A outer s H E).A.units + 64 < cLine := by have := hr.un; omega
  refine sc_ret (ec_cb (cr_min rfl) (by decide +kernel) hx (ac_cons (ec_fc (fc_lcIf [("there", 3)] [3] (ic_tup (ec_ix (ec_fld (ec_var 0 rfl ⟨CN, netF C t, .tup (t.on.map rowD), rfl, nc.cl, nc.n3, rfl, ec_var 1 rfl ⟨_, _, _, rfl, rfl, gon, _, rfl, ?_⟩⟩)))) nd (by decide)))))
  refine ⟨fun _ => R, fun i => ((row.take i).filter pr).map natD, R, rfl, rfl, fun i hi => ?_, fun i d hid => ?_, ⟨rfl, fun _ _ h => h, fun i a' o h => ⟨h, _, h⟩⟩, _, rfl, ac_nil ?_⟩
  · rw [List.length_map]
    have := List.length_filter_le pr (row.take i)
    rw [List.length_take] at this
    have h9 : row.length ≤ 1000 := hle
    omega
  · rw [List.getElem?_map] at hid
    obtain ⟨u, hu, rfl⟩ := Option.map_eq_some_iff.mp hid
    have et : row.take (i + 1) = row.take i ++ [u] := by rw [List.take_add_one, hu]; rfl
    have hul : u < ss.length := by rw [hl2, ← ok.onl]; exact ok.ono row hrow u (List.mem_of_getElem? hu)
    have gu : ss[u]? = some ss[u] := List.getElem?_eq_getElem hul
    intro s3 H3 C3 cl3 fp3
    refine gt_name 3 ?_ nd
    intro s4 H4 C4 cl4 fp4
    refine tc_eqD hu2 (ec_ix (ec_var 2 rfl (ec_var 3 rfl ⟨_, _, oD ss[u], rfl, rfl, atI_nat (by rw [List.getElem?_map, gu]; rfl), ec_sub (ec_ix (ec_var 2 rfl (ec_var 1 rfl ⟨_, _, .int k, rfl, rfl, atI_nat (by rw [List.getElem?_map, hk]; rfl), ec_int ⟨_, _, rfl, rfl, _, _, py_oD ss[u], py_oD (some (k - 1)), shp_oD _, shp_oD _, ?_⟩⟩)))⟩))) (hm := rfl)
    rw [eqv_oD]
    have ep : decide (ss[u] = some (k - 1)) = pr u := by
      show _ = decide (ss[u]? = some (some (k - 1)))
      rw [gu]
      refine decide_eq_decide.mpr ⟨fun e => by rw [e], fun e => Option.some.inj e⟩
    rw [ep]
    · refine ⟨fun hp => ?_, fun hp => ?_⟩
      · intro s5 H5 C5 cl5 fp5
        refine ec_var 3 rfl ⟨?_, rfl⟩
        dsimp only
        rw [et, List.filter_append, List.map_append]; simp [hp]
      · refine ⟨?_, rfl⟩
        dsimp only
        rw [et, List.filter_append, List.map_append]; simp [hp]
  · dsimp only
    rw [List.length_map, List.take_length]
    have em : (row.filter pr).map natD = (intsN (row.filter pr)).map D.int := by unfold intsN; rw [List.map_map]; rfl
    rw [em]
    refine ⟨_, gb_min (ns := intsN (row.filter pr)) ?_, ?_⟩
    · unfold intsN; rw [List.length_map]
      exact List.length_pos_of_mem (List.mem_filter.mpr ⟨hu0, decide_eq_true hs0⟩)
    · rintro d ⟨m, rfl, hm, _⟩
      unfold intsN at hm
      obtain ⟨u, hu, rfl⟩ := List.mem_map.mp hm
      obtain ⟨h1, h2⟩ := List.mem_filter.mp hu
      exact hd u h1 (of_decide_eq_true h2)
end
theorem nh_mk {n : Nat} {p : Pt} {h : Nat} (h7 : n ≤ 7) (hh : h < n) (ha : (h : Int) ∉ p.fallen) : NH (mkNt n p) h := ⟨mkNt_ok p h7, hh, stand_mem hh ha⟩
/-- the way leads nearer: from a house with a number above 0 a link goes to one with a number less -/
theorem nearer {n : Nat} {p : Pt} {k x : Nat} {d : Int} (h7 : n ≤ 7) (hk : k < n) (hx : (steps (mkNt n p).bk k)[x]? = some (some d)) : 0 ≤ d ∧ d ≤ n ∧ (x ≠ k → ∃ u ∈ (mkNt n p).on.getD x [], (steps (mkNt n p).bk k)[u]? = some (some (d - 1))) := by
  have no := mkNt_ok (n := n) p h7
  have lb : (mkNt n p).bk.length = n := by simp [mkNt]
  obtain ⟨_, z1, _⟩ := bfs_lv no.bko (show k < (mkNt n p).bk.length by rw [lb]; exact hk)
  obtain ⟨h0, h1, h2⟩ := z1 x d hx
  rw [lb] at h1
  refine ⟨h0, h1, fun hne => ?_⟩
  obtain ⟨u, ku, hu, e, ht⟩ := h2.resolve_left hne
  obtain ⟨g1, g2, g3, g4⟩ := bkD_mem.mp ht
  exact ⟨u, onD_mem.mpr ⟨g2, g1, g3, g4⟩, by rw [hu]; congr 2; omega⟩
theorem onD_len {n : Nat} {p : Pt} {x : Nat} (h7 : n ≤ 7) : ((mkNt n p).on.getD x []).length ≤ 1000 := by
  have e : (mkNt n p).on = (List.range n).map (onRow (lasting p (lkTo n n))) := rfl
  rw [e, List.getD_eq_getElem?_getD, List.getElem?_map]
  by_cases hu : x < n
  · rw [List.getElem?_range hu]
    have h1 := onRow_len (lasting p (lkTo n n)) x
    have h2 := links_len p h7
    show (onRow (lasting p (lkTo n n)) x).length ≤ 1000
    omega
  · rw [List.getElem?_eq_none (by simp; omega)]; simp
def S_way (CN C : Addr) (ds : List D) (Ψ : D → Prop) : Prop := ∃ (n : Nat) (p : Pt) (h k : Nat), ds = [netD CN C (mkNt n p), natD h, natD k] ∧ n ≤ 7 ∧ h < n ∧ k < n ∧ (h : Int) ∉ p.fallen ∧ (k : Int) ∉ p.fallen ∧ (((steps (mkNt n p).bk k)[h]? = some none ∧ Ψ .non) ∨ (∃ d, (steps (mkNt n p).bk k)[h]? = some (some d) ∧ ∀ row, Ψ (.tup row)))
theorem m_way (CN C : Addr) : MonoF (S_way CN C) := fun ds Φ Φ' g ⟨n, p, h, k, h1, h2, h3, h4, h5, h6, h7⟩ => ⟨n, p, h, k, h1, h2, h3, h4, h5, h6, h7.imp (fun ⟨a, b⟩ => ⟨a, g _ b⟩) fun ⟨d, a, b⟩ => ⟨d, a, fun row => g _ (b row)⟩⟩
/-! the parts of a net, as the program gathers them -/
def pstep (n : Nat) (p : Pt) (rows : List (List Int)) (h : Nat) : List (List Int) := if rows.any (fun r => decide ((h : Int) ∈ r)) then rows else rows ++ [partOf n p h]
def partsL (n : Nat) (p : Pt) : List (List Int) := (stand p n).foldl (pstep n p) []
def S_parts (CN C : Addr) (ds : List D) (Ψ : D → Prop) : Prop := ∃ (n : Nat) (p : Pt), ds = [netD CN C (mkNt n p)] ∧ n ≤ 7 ∧ Ψ (.tup ((partsL n p).map intsD))
theorem m_parts (CN C : Addr) : MonoF (S_parts CN C) := fun ds Φ Φ' g ⟨n, p, h1, h2, h3⟩ => ⟨n, p, h1, h2, g _ h3⟩
theorem valD_put {kds : List (Key × D)} {k k' : Key} {d : D} : (valD (putKD kds k d) k').isSome = (decide (k' = k) || (valD kds k').isSome) := by
  rw [valD_some, valD_some]
  unfold putKD
  by_cases h : (kds.any fun kv => decide (kv.1 = k)) = true
  · rw [if_pos h]
    have e : ksD (kds.map fun kv => if kv.1 = k then (kv.1, d) else kv) = ksD kds := by
      unfold ksD
      rw [List.map_map]
      refine List.map_congr_left fun kv _ => ?_
      show (if kv.1 = k then (kv.1, d) else kv).1 = kv.1
      split <;> rfl
    rw [e]
    by_cases e2 : k' = k
    · subst e2
      obtain ⟨kv, h1, h2⟩ := List.any_eq_true.mp h
      have : k' ∈ ksD kds := List.mem_map.mpr ⟨kv, h1, of_decide_eq_true h2⟩
      simp [this]
    · simp [e2]
  · rw [if_neg h]
    unfold ksD
    rw [List.map_append]
    by_cases e2 : k' = k
    · subst e2; simp
    · by_cases e3 : k' ∈ kds.map (·.1) <;> simp [e2, e3]
theorem putKD_len {kds : List (Key × D)} {k : Key} {d : D} : (putKD kds k d).length ≤ kds.length + 1 := by
  unfold putKD
  split
  · rw [List.length_map]; omega
  · simp
section
variable {P : Program} {w : World} {K : PySem.W.Frag} {mg : Str → Option Value} {base : Heap} {f C CN : Addr} {fd : FuncData}
theorem last_at {rs : List Nat} {x : Nat} : atI ((rs ++ [x]).map natD) (-1) = some (natD x) := by
  unfold atI ixN
  rw [if_neg (by omega), if_pos (by simp; omega)]
  have e : ((-1 : Int) + ((List.map natD (rs ++ [x])).length : Nat)).toNat = rs.length := by simp; omega
  rw [e]
  simp
theorem c_way (F : FunN K "path" s_path f fd) (hm : mg "path" = some (.ref f)) (b : Blt mg) (nc : NetC K CN) (c1 : Cal P w K mg base "alive_house" 4 (PFn 2 (S_alive_house CN C))) (c2 : Cal P w K mg base "steps_over" 1 (PFn 2 S_steps_over)) (c3 : Cal P w K mg base "nearer_house" 1 (PFn 3 (S_near CN C))) : Cal P w K mg base "path" 5 (PFn 3 (S_way CN C)) := by
  have nd : (["net", "first", "other", "left", "row"] : List Str).Nodup := by decide +kernel
  refine cal_fn F hm (N := ["net", "first", "other", "left", "row"]) (ps := ["net", "first", "other"]) ⟨rfl, rfl, rfl, nd, rfl, by decide +kernel, by decide +kernel⟩ rfl (fun _ _ _ _ _ _ us hl => match us, hl with | [_, _, _], _ => rfl) ?_
  rintro cdv A outer s H E hr ds Ψ hl ⟨n, p, h, k, rfl, h7, hh, hk, hf, kf, hd⟩
  have xh := nh_mk (p := p) h7 hh hf
  have xk := nh_mk (p := p) h7 hk kf
  have lb : (mkNt n p).bk.length = n := by simp [mkNt]
  let t := mkNt n p
  let ss := steps (mkNt n p).bk k
  have lss : ss.length = n := by show (steps _ _).length = n; rw [steps_len (by rw [lb]; exact hk), lb]
  refine sc_expr (ec_cf c1 hr (pass_0 passL) (m_alive_house CN C) (ac_cons (ec_var 0 rfl (ac_cons (ec_var 1 rfl (ac_nil ⟨rfl, t, h, rfl, hh, xh.al, ?_⟩))))))
  refine sc_set 3 (ec_cf c2 (hr.mono (by omega)) (pass_0 passL) m_steps_over (ac_cons (ec_fld (ec_var 0 rfl ⟨CN, netF C t, .tup (t.bk.map rowD), rfl, nc.cl, nc.n4, rfl, ac_cons (ec_cf c1 hr (pass_0 passL) (m_alive_house CN C) (ac_cons (ec_var 0 rfl (ac_cons (ec_var 2 rfl (ac_nil ⟨rfl, t, k, rfl, hk, xk.al, ?_⟩))))))⟩)))) nd
  refine ac_nil ⟨rfl, t.bk, k, rfl, by rw [show t.bk.length = n from lb]; omega, by rw [show t.bk.length = n from lb]; exact hk, xk.ok.bko, ?_⟩
  have hg : ∃ o, ss[h]? = some o := ⟨_, List.getElem?_eq_getElem (by rw [lss]; exact hh)⟩
  obtain ⟨o, ho⟩ := hg
  refine sc_if (tc_isN (ec_ix (ec_var 3 rfl (ec_var 1 rfl ⟨_, _, oD o, rfl, rfl, atI_nat (by rw [List.getElem?_map, show (steps t.bk k)[h]? = some o from ho]; rfl), ?_⟩))))
  rcases hd with ⟨e, hd⟩ | ⟨d, e, hd⟩
  · have : o = none := by rw [show (steps (mkNt n p).bk k)[h]? = some o from ho] at e; exact Option.some.inj e
    subst this
    exact ⟨fun _ => sc_ret (ec_non hd), (fun z => nomatch z)⟩
  · have : o = some d := by rw [show (steps (mkNt n p).bk k)[h]? = some o from ho] at e; exact Option.some.inj e
    subst this
    refine ⟨(fun z => nomatch z), fun _ => sc_nil ?_⟩
    refine sc_own 4 (fc_lst (ac_cons (ec_var 1 rfl (ac_nil ⟨by show 1 ≤ 100000; omega, ?_⟩)))) nd
    intro p4
    obtain ⟨d0, d1, _⟩ := nearer h7 hk ho
    refine sc_while (fun m ρ' => ∃ (rs : List Nat) (x : Nat) (d : Int), ρ' = [some (.im (netD CN C t)), some (.im (natD h)), some (.im (natD k)), some (.im (.lst (ss.map oD))), some (.ow p4 (.l ((rs ++ [x]).map natD)))] ∧ x < n ∧ ss[x]? = some (some d) ∧ d.toNat = m ∧ rs.length + m ≤ 1000) d.toNat ⟨[], h, d, rfl, hh, ho, rfl, by show 0 + d.toNat ≤ 1000; omega⟩ ?_ (passes_of rfl)
    rintro m ρ' ⟨rs, x, d, rfl, hx, hs, rfl, hm'⟩
    obtain ⟨e0, e1, e2⟩ := nearer h7 hk hs
    refine tc_neS (ec_ixO 4 (ec_neg (ec_int ⟨1, rfl, rfl, -1, natD x, rfl, last_at, ec_var 2 rfl ⟨decide ((x : Int) = (k : Int)), rfl, ?_⟩⟩)) rfl)
    by_cases exk : x = k
    · rw [decide_eq_true (by omega)]
      refine ⟨(fun z => nomatch z), fun _ => ?_⟩
      refine sc_ret (ec_cty call_tuple_of boot_tuple b.tuple (ac_cons (ec_frz 4 rfl (ac_nil ⟨_, gb_tuple rfl (fun _ h => nomatch h), ?_⟩))))
      rintro d rfl
      exact hd _
    · rw [decide_eq_false (by omega)]
      refine ⟨fun _ => ?_, (fun z => nomatch z)⟩
      obtain ⟨u0, hu0, hs0⟩ := e2 exk
      refine sc_app 4 rfl (ec_cf c3 (hr.mono (by omega)) (pass_0 passL) (m_near CN C) (ac_cons (ec_var 0 rfl (ac_cons (ec_ixO 4 (ec_neg (ec_int ⟨1, rfl, rfl, -1, natD x, rfl, last_at, ac_cons (ec_var 3 rfl (ac_nil ⟨rfl, t, x, ss, d, rfl, xk.ok, hx, lss, hs, ⟨u0, hu0, hs0⟩, onD_len h7, fun u hu hsu => ?_⟩))⟩)) rfl)))))
      obtain ⟨g0, _, _⟩ := nearer h7 hk hsu
      have hul : u < n := by rw [← lss]; exact (List.getElem?_eq_some_iff.mp hsu).1
      refine ⟨_, rfl, ?_, sc_nil ⟨(d - 1).toNat, by omega, rs ++ [x], u, d - 1, ?_, hul, hsu, rfl, ?_⟩⟩
      · rw [List.length_map, List.length_append]; show rs.length + 1 < 100000; omega
      · rw [List.map_append (l₁ := rs ++ [x])]; rfl
      · rw [List.length_append]; show rs.length + 1 + _ ≤ 1000; omega
theorem c_parts (F : FunN K "parts" s_parts f fd) (hm : mg "parts" = some (.ref f)) (b : Blt mg) (nc : NetC K CN) (c1 : Cal P w K mg base "part" 6 (PFn 2 (S_part CN C))) : Cal P w K mg base "parts" 7 (PFn 1 (S_parts CN C)) := by
  have nd : (["net", "rows", "told", "house", "houses", "x"] : List Str).Nodup := by decide +kernel
  refine cal_fn F hm (N := ["net", "rows", "told", "house", "houses", "x"]) (ps := ["net"]) ⟨rfl, rfl, rfl, nd, rfl, by decide +kernel, by decide +kernel⟩ rfl (fun _ _ _ _ _ _ us hl => match us, hl with | [_], _ => rfl) ?_
  rintro cdv A outer s H E hr ds Ψ hl ⟨n, p, rfl, h7, hd⟩
  have hu1 : (bodyX P w K mg base ["net", "rows", "told", "house", "houses", "x"] "parts" (defScope s_parts) f cdv A outer s H E).A.units + 1 < cLine := by have := hr.units; omega
  let t := mkNt n p
  refine sc_own 1 (fc_lst (ac_nil ⟨by decide, ?_⟩)) nd
  intro p1
  refine sc_own 2 (fc_dict ?_) nd
  intro p2
  refine sc_for (js := [3]) (ic_tup (ec_fld (ec_var 0 rfl ⟨CN, netF C t, rowD t.alive, rfl, nc.cl, nc.n2, rfl, _, rfl, ?_⟩))) (passes_of rfl)
  have hal : t.alive.length ≤ 7 := by
    show (stand p n).length ≤ 7
    unfold stand
    have := List.length_filter_le (fun h : Nat => decide ((h : Int) ∉ p.fallen)) (List.range n)
    rw [List.length_range] at this; omega
  refine ⟨fun i ρ' => ∃ (rows : List (List Int)) (kds : List (Key × D)) (x3 x4 x5 : Option Sl), rows = (t.alive.take i).foldl (pstep n p) [] ∧ rows.length ≤ i ∧ kds.length ≤ 8 * i ∧ (∀ y : Int, (valD kds (.inl y)).isSome = rows.any fun r => decide (y ∈ r)) ∧
    ρ' = [some (.im (netD CN C t)), some (.ow p1 (.l (rows.map intsD))), some (.ow p2 (.k kds)), x3, x4, x5], ⟨[], [], none, none, none, rfl, Nat.le_refl _, Nat.le_refl _, fun y => rfl, rfl⟩, ?_, ?_⟩
  · rintro i d ρi hid ⟨rows, kds, x3, x4, x5, hrw, hrl, hkl, hkv, rfl⟩
    rw [List.getElem?_map] at hid
    obtain ⟨h, hh, rfl⟩ := Option.map_eq_some_iff.mp hid
    have hi7 : i < 7 := by have := (List.getElem?_eq_some_iff.mp hh).1; omega
    have hmem : h ∈ stand p n := List.mem_of_getElem? hh
    have hst : h < n ∧ (h : Int) ∉ p.fallen := by
      unfold stand at hmem
      obtain ⟨a1, a2⟩ := List.mem_filter.mp hmem
      exact ⟨List.mem_range.mp a1, of_decide_eq_true a2⟩
    have xh := nh_mk (p := p) h7 hst.1 hst.2
    have et : (t.alive.take (i + 1)).foldl (pstep n p) [] = pstep n p rows h := by
      rw [List.take_add_one, hh, List.foldl_append, hrw]; rfl
    refine gt_name 3 ?_ nd
    refine sc_if (tc_dniK 2 hu1 (ec_var 3 rfl ⟨p2, kds, .inl (h : Int), rfl, rfl, ?_⟩))
    rw [hkv]
    cases hany : rows.any fun r => decide ((h : Int) ∈ r) with
    | true =>
      refine ⟨(fun z => nomatch z), fun _ => sc_nil (sc_nil ⟨rows, kds, _, _, _, ?_, by omega, by omega, hkv, rfl⟩)⟩
      rw [et]; unfold pstep; rw [if_pos hany]
    | false =>
      refine ⟨fun _ => ?_, (fun z => nomatch z)⟩
      refine sc_set 4 (ec_cf c1 hr (pass_0 passL) (m_part CN C) (ac_cons (ec_var 0 rfl (ac_cons (ec_var 3 rfl (ac_nil ⟨rfl, t, h, rfl, xh.ok, hst.1, xh.al, ?_⟩)))))) nd
      show SC _ _ _ [some (.im (netD CN C t)), some (.ow p1 (.l (rows.map intsD))), some (.ow p2 (.k kds)), some (.im (natD h)), some (.im (intsD (partOf n p h))), x5] _
      have pl : (partOf n p h).length ≤ 7 := by
        have h1 : (partOf n p h).length ≤ (pastOf n p h).length := List.length_filter_le _ _
        have h2 := past_len n p h h7 hst.1
        omega
      generalize hpt : partOf n p h = pt at pl
      refine sc_app 1 rfl (ec_var 4 rfl ⟨_, rfl, by rw [List.length_map]; omega, ?_⟩)
      have er : (rows.map intsD) ++ [intsD pt] = (rows ++ [pt]).map intsD := by rw [List.map_append]; rfl
      show SC _ _ _ [some (.im (netD CN C t)), some (.ow p1 (.l ((rows.map intsD) ++ [intsD pt]))), some (.ow p2 (.k kds)), some (.im (natD h)), some (.im (intsD pt)), x5] _
      rw [er]
      refine sc_for (js := [5]) (ic_tup (ec_var 4 rfl ⟨_, rfl, ?_⟩)) (passes_of rfl)
      refine ⟨fun j ρ' => ∃ (kds' : List (Key × D)) (x5 : Option Sl), kds'.length ≤ kds.length + j ∧ (∀ y : Int, (valD kds' (.inl y)).isSome = (decide (y ∈ pt.take j) || rows.any fun r => decide (y ∈ r))) ∧
        ρ' = [some (.im (netD CN C t)), some (.ow p1 (.l ((rows ++ [pt]).map intsD))), some (.ow p2 (.k kds')), some (.im (natD h)), some (.im (intsD pt)), x5], ⟨kds, x5, Nat.le_refl _, fun y => by rw [hkv]; simp, rfl⟩, ?_, ?_⟩
      · rintro j d ρj hjd ⟨kds', x5, hl', hv', rfl⟩
        rw [List.getElem?_map] at hjd
        obtain ⟨z, hz, rfl⟩ := Option.map_eq_some_iff.mp hjd
        have hjl : j < pt.length := (List.getElem?_eq_some_iff.mp hz).1
        refine gt_name 5 ?_ nd
        refine sc_dputK 2 hu1 (ec_bl (ec_var 5 rfl ⟨p2, kds', .inl z, rfl, rfl, by omega, sc_nil ⟨_, _, ?_, fun y => ?_, rfl⟩⟩)) (hex := ⟨_, _, rfl⟩)
        · have := putKD_len (kds := kds') (k := .inl z) (d := .bl true); omega
        · rw [valD_put, hv', List.take_add_one, hz]
          by_cases e : y = z
          · subst e; simp
          · have : ¬ ((Sum.inl y : Key) = Sum.inl z) := fun w => e (Sum.inl.inj w)
            simp [e, this]
      · rintro ρ3 ⟨kds', x5, hl', hv', rfl⟩
        rw [List.length_map] at hl'
        rw [List.length_map, List.take_length] at hv'
        refine sc_nil (sc_nil ⟨rows ++ [pt], kds', _, _, _, ?_, by rw [List.length_append]; show rows.length + 1 ≤ i + 1; omega, by omega, fun y => ?_, rfl⟩)
        · rw [et]; unfold pstep; rw [hany, hpt]; rfl
        · rw [hv', List.any_append]
          simp [Bool.or_comm]
  · rintro ρ2 ⟨rows, kds, x3, x4, x5, rfl, hrl, hkl, hkv, rfl⟩
    rw [List.length_map, List.take_length]
    refine sc_ret (ec_cty call_tuple_of boot_tuple b.tuple (ac_cons (ec_frz 1 rfl (ac_nil ⟨_, gb_tuple rfl (fun _ h => nomatch h), ?_⟩))))
    rintro d rfl
    exact hd
end
section
variable {X : Cx} {Z : Zx} {a b : Expr} {ρ : En} {Ψ : Bool → En → Prop} {pos : Pos}
/-- a in b: a tuple of ints in a list of such -/
theorem tc_inL (hu : X.A.units + 65 < cLine) (h : EC X Z a ρ fun d ρ1 => EC X Z b ρ1 fun d' ρ2 => ∃ (k : List Int) (ks : List (List Int)), d = tupI k ∧ d' = .lst (ks.map tupI) ∧ Ψ (decide (k ∈ ks)) ρ2) (hm : behindInMarks .In b = false := by rfl) : TC X Z (.Compare a [.In] [b] pos) ρ Ψ :=
  tc_op (op_inD hu) hm (h.mono fun d ρ1 z => z.mono fun d' ρ2 ⟨k, ks, e1, e2, q⟩ => by subst e1; subst e2; exact ⟨_, g_inDL (py_tupI k) (py_rowsL ks) (shp_row k) (shp_rowsL ks), by rw [any_tupI]; exact q⟩)
end
def echoL (M : Mx) (h : Nat) (l : Int) : List Nat := (List.range M.length).filter fun x => decide (cell M x h + cell M h x ≤ l)
def insB (a b : List Int) : Bool := a.all fun x => decide (x ∈ b)
def dueB (q q' : Lp) : Bool := insB (intsN q'.fallen) (intsN q.fallen) && q'.silent.all fun l => decide (l ∈ q.silent) || (decide (l.1 ∈ q.fallen) || decide (l.2 ∈ q.fallen))
def joinQ (n : Nat) (q q' : Lp) : Lp := ⟨(List.range n).filter fun h => decide (h ∈ q.fallen) || decide (h ∈ q'.fallen), (lkTo n n).filter fun l => decide (l ∈ q.silent) || decide (l ∈ q'.silent)⟩
def ninB (n : Nat) (p p' : Pt) : Bool := insB (intsN (stand p n)) (intsN (stand p' n)) && (stand p n).all fun h => insB (intsN ((mkNt n p).on.getD h [])) (intsN ((mkNt n p').on.getD h []))
def S_lecho (ds : List D) (Ψ : D → Prop) : Prop := ∃ (M : Mx) (h : Nat) (l : Int), ds = [mD M, natD h, .int l] ∧ MOk M ∧ h < M.length ∧ Ψ (nL (echoL M h l))
def S_inside (ds : List D) (Ψ : D → Prop) : Prop := ∃ (d1 d2 : D) (a b : List Int), ds = [d1, d2] ∧ (d1 = .lst (a.map .int) ∨ d1 = .tup (a.map .int)) ∧ itemsD d2 = some (b.map .int) ∧ a.length ≤ 1000 ∧ Ψ (.bl (insB a b))
def S_dueH (ds : List D) (Ψ : D → Prop) : Prop := ∃ (q q' : Lp) (n : Nat), ds = [lpD q, lpD q', natD n] ∧ q'.fallen.length ≤ 1000 ∧ Ψ (.bl (dueB q q'))
def S_joined (ds : List D) (Ψ : D → Prop) : Prop := ∃ (q q' : Lp) (n : Nat), ds = [lpD q, lpD q', natD n] ∧ n ≤ 7 ∧ Ψ (lpD (joinQ n q q'))
def S_netsin (CN C : Addr) (ds : List D) (Ψ : D → Prop) : Prop := ∃ (n : Nat) (p p' : Pt), ds = [netD CN C (mkNt n p), netD CN C (mkNt n p'), natD n] ∧ n ≤ 7 ∧ Ψ (.bl (ninB n p p'))
def S_noless (ds : List D) (Ψ : D → Prop) : Prop := ∃ ss ts : List (Option Int), ds = [.tup (ss.map oD), .tup (ts.map oD)] ∧ ts.length ≤ 1000 ∧ ss.length = ts.length ∧ (∀ (i : Nat) (a : Int), ss[i]? = some (some a) → ∃ b : Int, ts[i]? = some (some b) ∧ b ≤ a) ∧ Ψ (.bl true)
theorem m_lecho : MonoF S_lecho := fun ds Φ Φ' g ⟨a, b, c, h1, h2, h3, h4⟩ => ⟨a, b, c, h1, h2, h3, g _ h4⟩
theorem m_inside : MonoF S_inside := fun ds Φ Φ' g ⟨a, b, c, d, h1, h2, h3, h4, h5⟩ => ⟨a, b, c, d, h1, h2, h3, h4, g _ h5⟩
theorem m_dueH : MonoF S_dueH := fun ds Φ Φ' g ⟨a, b, c, h1, h2, h3⟩ => ⟨a, b, c, h1, h2, g _ h3⟩
theorem m_joined : MonoF S_joined := fun ds Φ Φ' g ⟨a, b, c, h1, h2, h3⟩ => ⟨a, b, c, h1, h2, g _ h3⟩
theorem m_netsin (CN C : Addr) : MonoF (S_netsin CN C) := fun ds Φ Φ' g ⟨a, b, c, h1, h2, h3⟩ => ⟨a, b, c, h1, h2, g _ h3⟩
theorem m_noless : MonoF S_noless := fun ds Φ Φ' g ⟨a, b, h1, h2, h3, h4, h5⟩ => ⟨a, b, h1, h2, h3, h4, g _ h5⟩
theorem row_ints (l : List Nat) : rowD l = .tup ((intsN l).map D.int) := by unfold rowD intsN; rw [List.map_map]; rfl
theorem items_row (l : List Nat) : itemsD (rowD l) = some ((intsN l).map D.int) := by rw [row_ints]; rfl
section
variable {P : Program} {w : World} {K : PySem.W.Frag} {mg : Str → Option Value} {base : Heap} {f C CN : Addr} {fd : FuncData}
end
theorem reach_tbl {adj : List (List Nat)} {h n : Nat} {M : Nat → Int} (e : steps adj h = (List.range n).map fun x => tbl (M x)) : reachL adj h = intsN ((List.range n).filter fun x => decide (M x < 99)) := by
  have hl : (steps adj h).length = n := by rw [e]; simp
  have h1 := told_eq (steps adj h) (steps adj h).length (Nat.le_refl _)
  rw [List.take_length, hl] at h1
  show toldFrom 0 (steps adj h) = _
  rw [h1]
  congr 1
  refine List.filter_congr fun x hx => ?_
  have hx' := List.mem_range.mp hx
  unfold fB
  rw [e, List.getElem?_map, List.getElem?_range hx']
  show (tbl (M x)).isSome = _
  unfold tbl
  by_cases hc : M x < 99 <;> simp [hc]
section
variable {n : Nat} {p p' : Pt} {q q' : Lp} {h : Nat}
theorem past_eq (h6 : n ≤ 6) (pq : PQ p q) (hh : h < n) (hf : h ∉ q.fallen) : pastOf n p h = intsN (pastL (distM n q) h) := by
  unfold pastOf pastL
  rw [reach_tbl (steps_bk h6 pq hh hf), (fm_dist (q := q) h6).sq.len]
theorem mem_intsN {x : Nat} {l : List Nat} : (x : Int) ∈ intsN l ↔ x ∈ l := by
  unfold intsN
  rw [List.mem_map]
  exact ⟨fun ⟨y, hy, e⟩ => by have : y = x := by omega
                              exact this ▸ hy, fun h => ⟨x, h, rfl⟩⟩
theorem part_eq (h6 : n ≤ 6) (pq : PQ p q) (hh : h < n) (hf : h ∉ q.fallen) : partOf n p h = intsN (partL (distM n q) h) := by
  have e1 : reachL (mkNt n p).bk h = intsN (pastL (distM n q) h) := past_eq h6 pq hh hf
  have e2 := reach_tbl (steps_on h6 pq hh hf)
  unfold partOf
  rw [e1, e2]
  have lD := (fm_dist (q := q) h6).sq.len
  unfold pastL partL
  rw [lD]
  unfold intsN
  rw [List.filter_map, List.filter_filter]
  congr 1
  refine List.filter_congr fun x hx => ?_
  have hx' := List.mem_range.mp hx
  have hm : decide ((x : Int) ∈ ((List.range n).filter fun x => decide (cell (distM n q) h x < 99)).map fun (x : Nat) => (x : Int)) = decide (cell (distM n q) h x < 99) := by
    refine decide_eq_decide.mpr ?_
    have := mem_intsN (x := x) (l := (List.range n).filter fun x => decide (cell (distM n q) h x < 99))
    unfold intsN at this
    rw [this, List.mem_filter, decide_eq_true_eq]
    exact ⟨fun z => z.2, fun z => ⟨hx, z⟩⟩
  show (decide _ && decide (cell (distM n q) x h < 99)) = _
  rw [hm, Bool.and_comm]
/-- the one is harsher -/
structure Hr (q q' : Lp) : Prop where
  f : ∀ x, x ∈ q'.fallen → x ∈ q.fallen
  s : ∀ l, l ∈ q'.silent → l ∈ q.silent ∨ l.1 ∈ q.fallen ∨ l.2 ∈ q.fallen
theorem insB_nat {a b : List Nat} : insB (intsN a) (intsN b) = true ↔ ∀ x ∈ a, x ∈ b := by
  unfold insB
  rw [List.all_eq_true]
  constructor
  · intro g x hx
    exact mem_intsN.mp (of_decide_eq_true (g _ (mem_intsN.mpr hx)))
  · intro g x hx
    unfold intsN at hx
    obtain ⟨y, hy, rfl⟩ := List.mem_map.mp hx
    exact decide_eq_true (mem_intsN.mpr (g y hy))
theorem due_hr : dueB q q' = true ↔ Hr q q' := by
  unfold dueB
  rw [Bool.and_eq_true, insB_nat, List.all_eq_true]
  constructor
  · rintro ⟨h1, h2⟩
    exact ⟨h1, fun l hl => by have := h2 l hl; simpa using this⟩
  · rintro ⟨h1, h2⟩
    exact ⟨h1, fun l hl => by have := h2 l hl; simpa using this⟩
theorem fin_b {M : Mx} (h5 : n ≤ 5) (fm : FM n q n M) {x y : Nat} (hx : x < n) (hy : y < n) : 0 ≤ cell M x y ∧ (cell M x y = 99 ∨ cell M x y ≤ 32) := by
  have h1 := fm.nn x y hx hy
  have hp : (2 : Int) ^ n ≤ 32 := by
    have : n = 0 ∨ n = 1 ∨ n = 2 ∨ n = 3 ∨ n = 4 ∨ n = 5 := by omega
    rcases this with rfl | rfl | rfl | rfl | rfl | rfl <;> decide
  omega
theorem mono (h5 : n ≤ 5) (hr : Hr q q') {x y : Nat} (hx : x < n) (hy : y < n) : cell (distM n q') x y ≤ cell (distM n q) x y := by
  have f1 := fm_dist (q := q) (n := n) (by omega)
  have f2 := fm_dist (q := q') (n := n) (by omega)
  have b1 := fin_b h5 f1 hx hy
  have b2 := fin_b h5 f2 hx hy
  by_cases hc : cell (distM n q) x y < 99
  · have hfx := (f1.fl x y hx hy hc).1
    have d0 := diag (n := n) (by omega) hx (fun z => hfx (hr.f x z))
    have := f1.po (fun z => cell (distM n q') x z) (fun a b ha hb hne g1 g2 g3 => by
      have t := f2.tr a x b ha ha hx hb
      have u := f2.up a b ha hb
      have hs : (a, b) ∉ q'.silent := fun z => by
        rcases hr.s _ z with z | z | z
        · exact g3 z
        · exact g1 z
        · exact g2 z
      have v : val q' a b = 1 := by
        unfold val
        rw [if_neg (fun z => g1 (hr.f a z)), if_neg hne, if_pos ⟨fun z => g2 (hr.f b z), hs⟩]
      show cell (distM n q') x b ≤ cell (distM n q') x a + 1
      omega) x y hx hy hc
    have e : cell (distM n q') x y ≤ cell (distM n q') x x + cell (distM n q) x y := this
    omega
  · omega
/-- the program's word for it -/
theorem fall_iff (pq : PQ p q) {x : Nat} : (x : Int) ∈ p.fallen ↔ x ∈ q.fallen := by
  rw [pq.f.mem_iff]; exact mem_intsN
theorem hrs_eq (pq : PQ p q) (pq' : PQ p' q') (lp' : LpOk n q') : (p'.fallen.all (fun h => decide (h ∈ p.fallen)) && !(p'.silent.any fun l => lastsP p l.1 l.2)) = dueB q q' := by
  rw [Bool.eq_iff_iff, due_hr, Bool.and_eq_true, List.all_eq_true, Bool.not_eq_true', List.any_eq_false]
  constructor
  · rintro ⟨h1, h2⟩
    refine ⟨fun x hx => ?_, fun l hl => ?_⟩
    · exact (fall_iff pq).mp (of_decide_eq_true (h1 x ((fall_iff pq').mpr hx)))
    · obtain ⟨a, b⟩ := l
      have hne := (lp'.s.lt _ hl).2.2
      have hm : ((a : Int), (b : Int)) ∈ p'.silent := pq'.s.mem_iff.mpr (List.mem_map.mpr ⟨(a, b), hl, rfl⟩)
      have := h2 _ hm
      refine Classical.byContradiction fun nh => ?_
      have nh' : (a, b) ∉ q.silent ∧ a ∉ q.fallen ∧ b ∉ q.fallen := ⟨fun z => nh (.inl z), fun z => nh (.inr (.inl z)), fun z => nh (.inr (.inr z))⟩
      exact this ((lasts_iff pq hne).mpr ⟨nh'.2.1, nh'.2.2, nh'.1⟩)
  · intro hr
    refine ⟨fun x hx => ?_, fun l hl => ?_⟩
    · obtain ⟨y, hy, rfl⟩ := List.mem_map.mp (pq'.f.mem_iff.mp hx)
      exact decide_eq_true ((fall_iff pq).mpr (hr.f y hy))
    · obtain ⟨y, hy, rfl⟩ := List.mem_map.mp (pq'.s.mem_iff.mp hl)
      have hne := (lp'.s.lt _ hy).2.2
      intro z
      obtain ⟨g1, g2, g3⟩ := (lasts_iff pq hne).mp z
      rcases hr.s _ hy with w | w | w
      · exact g3 w
      · exact g1 w
      · exact g2 w
theorem mem_stand (pq : PQ p q) {x : Nat} : x ∈ stand p n ↔ x < n ∧ x ∉ q.fallen := by
  unfold stand
  rw [List.mem_filter, List.mem_range, decide_eq_true_eq, fall_iff pq]
theorem nin_eq (pq : PQ p q) (pq' : PQ p' q') (lp : LpOk n q) (lp' : LpOk n q') : ninB n p p' = dueB q q' := by
  rw [Bool.eq_iff_iff, due_hr]
  unfold ninB
  rw [Bool.and_eq_true, insB_nat, List.all_eq_true]
  constructor
  · rintro ⟨h1, h2⟩
    have hf : ∀ x, x ∈ q'.fallen → x ∈ q.fallen := fun x hx => by
      refine Classical.byContradiction fun nf => ?_
      have hx' := lp'.f.lt x hx
      exact ((mem_stand pq').mp (h1 x ((mem_stand pq).mpr ⟨hx', nf⟩))).2 hx
    refine ⟨hf, fun l hl => ?_⟩
    obtain ⟨a, b⟩ := l
    obtain ⟨ha, hb, hne⟩ := lp'.s.lt _ hl
    refine Classical.byContradiction fun nh => ?_
    have nh' : (a, b) ∉ q.silent ∧ a ∉ q.fallen ∧ b ∉ q.fallen := ⟨fun z => nh (.inl z), fun z => nh (.inr (.inl z)), fun z => nh (.inr (.inr z))⟩
    have h3 := insB_nat.mp (h2 a ((mem_stand pq).mpr ⟨ha, nh'.2.1⟩)) b (onD_mem.mpr ⟨ha, hb, hne, (lasts_iff pq hne).mpr ⟨nh'.2.1, nh'.2.2, nh'.1⟩⟩)
    obtain ⟨_, _, _, g⟩ := onD_mem.mp h3
    exact ((lasts_iff pq' hne).mp g).2.2 hl
  · intro hr
    refine ⟨fun x hx => ?_, fun x hx => insB_nat.mpr fun y hy => ?_⟩
    · obtain ⟨g1, g2⟩ := (mem_stand pq).mp hx
      exact (mem_stand pq').mpr ⟨g1, fun z => g2 (hr.f x z)⟩
    · obtain ⟨g1, g2, g3, g4⟩ := onD_mem.mp hy
      obtain ⟨k1, k2, k3⟩ := (lasts_iff pq g3).mp g4
      refine onD_mem.mpr ⟨g1, g2, g3, (lasts_iff pq' g3).mpr ⟨fun z => k1 (hr.f _ z), fun z => k2 (hr.f _ z), fun z => ?_⟩⟩
      rcases hr.s _ z with w | w | w
      · exact k3 w
      · exact k1 w
      · exact k2 w
/-! echoes -/
theorem trips_at (h6 : n ≤ 6) (pq : PQ p q) (hh : h < n) (hf : h ∉ q.fallen) {x : Nat} (hx : x < n) : (trips (mkNt n p) h)[x]? = some (sumO (tbl (cell (distM n q) h x)) (tbl (cell (distM n q) x h))) := by
  unfold trips
  rw [List.getElem?_zipWith, steps_on h6 pq hh hf, steps_bk h6 pq hh hf, List.getElem?_map, List.getElem?_map, List.getElem?_range hx]; rfl
theorem wl_eq (h5 : n ≤ 5) (pq : PQ p q) (hh : h < n) (hf : h ∉ q.fallen) {l : Int} (hl : l < 90) : wl (trips (mkNt n p) h) l = echoL (distM n q) h l := by
  have fm := fm_dist (q := q) (n := n) (by omega)
  have no := mkNt_ok (n := n) p (by omega)
  have tl : (trips (mkNt n p) h).length = n := by
    unfold trips
    rw [List.length_zipWith, steps_on (by omega) pq hh hf, steps_bk (by omega) pq hh hf]; simp
  unfold wl echoL
  rw [tl, fm.sq.len]
  refine List.filter_congr fun x hx => ?_
  have hx' := List.mem_range.mp hx
  rw [trips_at (by omega) pq hh hf hx']
  have b1 := fin_b h5 fm hh hx'
  have b2 := fin_b h5 fm hx' hh
  show inL l (sumO _ _) = _
  unfold tbl
  by_cases c1 : cell (distM n q) h x < 99
  · by_cases c2 : cell (distM n q) x h < 99
    · rw [if_pos c1, if_pos c2]
      show decide (_ ≤ l) = _
      refine decide_eq_decide.mpr ⟨fun z => by omega, fun z => by omega⟩
    · rw [if_pos c1, if_neg c2]
      show false = _
      exact (decide_eq_false (by omega)).symm
  · rw [if_neg c1]
    show false = _
    exact (decide_eq_false (by omega)).symm
theorem echo_sub (h5 : n ≤ 5) (hr : Hr q q') (hh : h < n) {l : Int} : ∀ x ∈ echoL (distM n q) h l, x ∈ echoL (distM n q') h l := by
  intro x hx
  have f1 := fm_dist (q := q) (n := n) (by omega)
  have f2 := fm_dist (q := q') (n := n) (by omega)
  unfold echoL at hx ⊢
  rw [f1.sq.len] at hx
  rw [f2.sq.len]
  obtain ⟨g1, g2⟩ := List.mem_filter.mp hx
  have hx' := List.mem_range.mp g1
  have m1 := mono h5 hr hh hx'
  have m2 := mono h5 hr hx' hh
  have g2' := of_decide_eq_true g2
  exact List.mem_filter.mpr ⟨g1, decide_eq_true (by omega)⟩
theorem past_sub (h5 : n ≤ 5) (hr : Hr q q') (hh : h < n) : ∀ x ∈ pastL (distM n q) h, x ∈ pastL (distM n q') h := by
  intro x hx
  have f1 := fm_dist (q := q) (n := n) (by omega)
  have f2 := fm_dist (q := q') (n := n) (by omega)
  unfold pastL at hx ⊢
  rw [f1.sq.len] at hx
  rw [f2.sq.len]
  obtain ⟨g1, g2⟩ := List.mem_filter.mp hx
  have hx' := List.mem_range.mp g1
  have m2 := mono h5 hr hx' hh
  have g2' := of_decide_eq_true g2
  exact List.mem_filter.mpr ⟨g1, decide_eq_true (by omega)⟩
theorem mem_part {M : Mx} (hl : M.length = n) {x : Nat} : x ∈ partL M h ↔ x < n ∧ cell M x h < 99 ∧ cell M h x < 99 := by
  unfold partL
  rw [hl, List.mem_filter, List.mem_range, Bool.and_eq_true, decide_eq_true_eq, decide_eq_true_eq]
theorem part_sub (h5 : n ≤ 5) (hr : Hr q q') (hh : h < n) : ∀ x ∈ partL (distM n q) h, x ∈ partL (distM n q') h := by
  intro x hx
  have f1 := fm_dist (q := q) (n := n) (by omega)
  have f2 := fm_dist (q := q') (n := n) (by omega)
  obtain ⟨g1, g2, g3⟩ := (mem_part f1.sq.len).mp hx
  have m1 := mono h5 hr hh g1
  have m2 := mono h5 hr g1 hh
  exact (mem_part f2.sq.len).mpr ⟨g1, by omega, by omega⟩
theorem part_tr (h5 : n ≤ 5) {a b c : Nat} (ha : a < n) (hc : c < n) (h1 : a ∈ partL (distM n q) b) (hb : b < n) (h2 : b ∈ partL (distM n q) c) : a ∈ partL (distM n q) c := by
  have fm := fm_dist (q := q) (n := n) (by omega)
  obtain ⟨_, g2, g3⟩ := (mem_part fm.sq.len).mp h1
  obtain ⟨_, k2, k3⟩ := (mem_part fm.sq.len).mp h2
  have t1 := fm.tr b a c hb hb ha hc
  have t2 := fm.tr b c a hb hb hc ha
  have b1 := fin_b h5 fm ha hb
  have b2 := fin_b h5 fm hb ha
  have b3 := fin_b h5 fm hb hc
  have b4 := fin_b h5 fm hc hb
  exact (mem_part fm.sq.len).mpr ⟨ha, by omega, by omega⟩
theorem part_sy {a b : Nat} (h5 : n ≤ 5) (hb : b < n) (h1 : a ∈ partL (distM n q) b) : b ∈ partL (distM n q) a := by
  have fm := fm_dist (q := q) (n := n) (by omega)
  obtain ⟨g1, g2, g3⟩ := (mem_part fm.sq.len).mp h1
  exact (mem_part fm.sq.len).mpr ⟨hb, g3, g2⟩
theorem part_self (h5 : n ≤ 5) (hh : h < n) (hf : h ∉ q.fallen) : h ∈ partL (distM n q) h := by
  have fm := fm_dist (q := q) (n := n) (by omega)
  have := diag (q := q) (n := n) (by omega) hh hf
  exact (mem_part fm.sq.len).mpr ⟨hh, by omega, by omega⟩
theorem part_al (h5 : n ≤ 5) (hh : h < n) {x : Nat} (hx : x ∈ partL (distM n q) h) : x < n ∧ x ∉ q.fallen ∧ h ∉ q.fallen := by
  have fm := fm_dist (q := q) (n := n) (by omega)
  obtain ⟨g1, g2, g3⟩ := (mem_part fm.sq.len).mp hx
  exact ⟨g1, fm.fl x h g1 hh g2⟩
/-- the parts that the program gathers -/
structure PI (n : Nat) (q : Lp) (hs : List Nat) (rows : List (List Int)) : Prop where
  rep : ∀ r ∈ rows, ∃ h, h < n ∧ h ∉ q.fallen ∧ r = intsN (partL (distM n q) h)
  cov : ∀ h ∈ hs, ∃ r ∈ rows, (h : Int) ∈ r
  dis : rows.Pairwise fun r r' => ∀ x : Int, x ∈ r → x ∉ r'
theorem pi_step (h5 : n ≤ 5) (pq : PQ p q) {hs : List Nat} {rows : List (List Int)} (pi : PI n q hs rows) (hh : h < n) (hf : h ∉ q.fallen) : PI n q (hs ++ [h]) (pstep n p rows h) := by
  unfold pstep
  cases hany : rows.any fun r => decide ((h : Int) ∈ r) with
  | true =>
    rw [if_pos rfl]
    refine ⟨pi.rep, fun x hx => ?_, pi.dis⟩
    rcases List.mem_append.mp hx with g | g
    · exact pi.cov x g
    · have e : x = h := List.mem_singleton.mp g
      subst e
      obtain ⟨r, hr, hm⟩ := List.any_eq_true.mp hany
      exact ⟨r, hr, of_decide_eq_true hm⟩
  | false =>
    rw [if_neg (by decide), part_eq (by omega) pq hh hf]
    refine ⟨fun r hr => ?_, fun x hx => ?_, ?_⟩
    · rcases List.mem_append.mp hr with g | g
      · exact pi.rep r g
      · exact ⟨h, hh, hf, List.mem_singleton.mp g⟩
    · rcases List.mem_append.mp hx with g | g
      · obtain ⟨r, hr, hm⟩ := pi.cov x g
        exact ⟨r, List.mem_append_left _ hr, hm⟩
      · have e : x = h := List.mem_singleton.mp g
        subst e
        exact ⟨_, List.mem_append_right _ (List.mem_singleton.mpr rfl), mem_intsN.mpr (part_self h5 hh hf)⟩
    · rw [List.pairwise_append]
      refine ⟨pi.dis, List.pairwise_singleton _ _, fun r hr r' hr' x hx hx' => ?_⟩
      have e : r' = intsN (partL (distM n q) h) := List.mem_singleton.mp hr'
      subst e
      obtain ⟨k, hk, hkf, rfl⟩ := pi.rep r hr
      unfold intsN at hx
      obtain ⟨y, hy, rfl⟩ := List.mem_map.mp hx
      have hy' := mem_intsN.mp hx'
      have hyn := (part_al h5 hk hy).1
      have : h ∈ partL (distM n q) k := part_tr h5 hh hk (part_sy h5 hh hy') hyn hy
      rw [List.any_eq_false] at hany
      exact hany _ hr (decide_eq_true (mem_intsN.mpr this))
theorem pi_all (h5 : n ≤ 5) (pq : PQ p q) : PI n q (stand p n) (partsL n p) := by
  have : ∀ (l : List Nat) (hs : List Nat) (rows : List (List Int)), (∀ x ∈ l, x < n ∧ x ∉ q.fallen) → PI n q hs rows → PI n q (hs ++ l) (l.foldl (pstep n p) rows) := by
    intro l
    induction l with
    | nil => intro hs rows _ pi; rw [List.append_nil]; exact pi
    | cons a l ih =>
      intro hs rows hl pi
      have e : hs ++ a :: l = (hs ++ [a]) ++ l := by simp
      rw [e]
      exact ih _ _ (fun x hx => hl x (List.mem_cons_of_mem _ hx)) (pi_step h5 pq pi (hl a List.mem_cons_self).1 (hl a List.mem_cons_self).2)
  have g := this (stand p n) [] [] (fun x hx => (mem_stand pq).mp hx) ⟨fun r hr => absurd hr List.not_mem_nil, fun x hx => absurd hx List.not_mem_nil, .nil⟩
  exact g
theorem one_of {α : Type} {f : α → Bool} : ∀ {l : List α} {a : α}, a ∈ l → f a = true → l.Pairwise (fun x y => f x = true → f y = false) → (l.filter f).length = 1
  | [], _, h, _, _ => absurd h List.not_mem_nil
  | b :: l, a, h, hf, hp => by
    obtain ⟨h1, h2⟩ := List.pairwise_cons.mp hp
    rcases List.mem_cons.mp h with rfl | h
    · have : l.filter f = [] := by
        rw [List.filter_eq_nil_iff]
        intro x hx
        rw [h1 x hx hf]; decide
      rw [List.filter_cons_of_pos hf, this]; rfl
    · have hb : f b = false := by
        cases hb : f b with
        | false => rfl
        | true => have := h1 a h hb; rw [hf] at this; cases this
      rw [List.filter_cons_of_neg (by rw [hb]; decide)]
      exact one_of h hf h2
theorem parts_one (h5 : n ≤ 5) (pq : PQ p q) (pq' : PQ p' q') (hr : Hr q q') : ∀ r ∈ partsL n p, ((partsL n p').filter fun r' => insB r r').length = 1 := by
  intro r hrm
  have p1 := pi_all h5 pq
  have p2 := pi_all h5 pq'
  obtain ⟨h, hh, hf, rfl⟩ := p1.rep r hrm
  have hf' : h ∉ q'.fallen := fun z => hf (hr.f h z)
  obtain ⟨r', hr', hm⟩ := p2.cov h ((mem_stand pq').mpr ⟨hh, hf'⟩)
  obtain ⟨k, hk, hkf, rfl⟩ := p2.rep r' hr'
  have hhk := mem_intsN.mp hm
  refine one_of hr' (insB_nat.mpr fun x hx => ?_) (p2.dis.imp fun {a b} hab ha => ?_)
  · have hx' := part_sub h5 hr hh x hx
    exact part_tr h5 (part_al h5 hh hx').1 hk hx' hh hhk
  · cases hb : insB (intsN (partL (distM n q) h)) b with
    | false => rfl
    | true =>
      have hs := part_self h5 hh hf
      unfold insB at ha hb
      exact absurd (of_decide_eq_true (List.all_eq_true.mp hb _ (mem_intsN.mpr hs))) (hab _ (of_decide_eq_true (List.all_eq_true.mp ha _ (mem_intsN.mpr hs))))
/-! one link less -/
def addL (q : Lp) (l : Nat × Nat) : Lp := ⟨q.fallen, q.silent ++ [l]⟩
theorem add_hr {l : Nat × Nat} : Hr (addL q l) q := ⟨fun x hx => hx, fun l' hl => .inl (List.mem_append_left _ hl)⟩
theorem add_keeps (h5 : n ≤ 5) {a b : Nat} (ha : a < n) (hb : b < n) (hab : cell (distM n (addL q (a, b))) a b < 99) {x y : Nat} (hx : x < n) (hy : y < n) : cell (distM n q) x y < 99 ↔ cell (distM n (addL q (a, b))) x y < 99 := by
  have f1 := fm_dist (q := q) (n := n) (by omega)
  have f2 := fm_dist (q := addL q (a, b)) (n := n) (by omega)
  have m := mono h5 (add_hr (q := q) (l := (a, b))) hx hy
  refine ⟨fun hc => ?_, fun hc => by omega⟩
  refine Classical.byContradiction fun nc => ?_
  have hxf := (f1.fl x y hx hy hc).1
  have d0 := diag (q := addL q (a, b)) (n := n) (by omega) hx hxf
  let F : Nat → Int := fun z => if cell (distM n (addL q (a, b))) x z < 99 then 0 else 1000
  have := f1.po F (fun u v hu hv hne g1 g2 g3 => by
    show (if cell (distM n (addL q (a, b))) x v < 99 then (0 : Int) else 1000) ≤ (if cell (distM n (addL q (a, b))) x u < 99 then 0 else 1000) + 1
    by_cases cu : cell (distM n (addL q (a, b))) x u < 99
    · have bu := fin_b h5 f2 hx hu
      have cv : cell (distM n (addL q (a, b))) x v < 99 := by
        by_cases e : u = a ∧ v = b
        · obtain ⟨rfl, rfl⟩ := e
          have t := f2.tr u x v hu hu hx hv
          have b3 := fin_b h5 f2 hu hv
          omega
        · have hs : (u, v) ∉ (addL q (a, b)).silent := fun z => by
            rcases List.mem_append.mp z with z | z
            · exact g3 z
            · have := List.mem_singleton.mp z
              exact e (Prod.mk.inj this)
          have t := f2.tr u x v hu hu hx hv
          have k := f2.up u v hu hv
          have w : val (addL q (a, b)) u v = 1 := by
            unfold val
            rw [if_neg (show u ∉ (addL q (a, b)).fallen from g1), if_neg hne, if_pos ⟨g2, hs⟩]
          omega
      rw [if_pos cu, if_pos cv]; omega
    · rw [if_neg cu]; split <;> omega) x y hx hy hc
  have e1 : F x = 0 := by show (if _ then (0 : Int) else 1000) = 0; rw [if_pos (by omega)]
  have e2 : F y = 1000 := by show (if _ then (0 : Int) else 1000) = 1000; rw [if_neg nc]
  have b := fin_b h5 f1 hx hy
  omega
end
/-- the case of the law: two patterns, the one harsher -/
structure Two (n : Nat) (p p' : Pt) (q q' : Lp) : Prop where
  n5 : n ≤ 5
  pq : PQ p q
  pq' : PQ p' q'
  hr : Hr q q'
theorem stand_le (n : Nat) (p : Pt) : (stand p n).length ≤ n := by
  unfold stand
  have := List.length_filter_le (fun h : Nat => decide ((h : Int) ∉ p.fallen)) (List.range n)
  rw [List.length_range] at this; exact this
def S_hin (CN C : Addr) (ds : List D) (Ψ : D → Prop) : Prop := ∃ (n : Nat) (p p' : Pt) (q q' : Lp) (h : Nat), ds = [netD CN C (mkNt n p), netD CN C (mkNt n p'), mD (distM n q), mD (distM n q'), natD h] ∧ Two n p p' q q' ∧ h < n ∧ h ∉ q.fallen ∧ Ψ (.bl true)
theorem m_hin (CN C : Addr) : MonoF (S_hin CN C) := fun ds Φ Φ' g ⟨n, p, p', q, q', h, h1, h2, h3, h4, h5⟩ => ⟨n, p, p', q, q', h, h1, h2, h3, h4, g _ h5⟩
theorem ez_nL (l : List Nat) : (D.lst ((intsN l).map D.int)) = nL l := by unfold intsN nL; rw [List.map_map]; rfl
theorem ez_row (l : List Nat) : (D.lst (l.map natD)) = nL l := rfl
section
variable {P : Program} {w : World} {K : PySem.W.Frag} {mg : Str → Option Value} {base : Heap} {f C CN : Addr} {fd : FuncData}
end
section
variable {n : Nat} {p p' : Pt} {q q' : Lp} {h : Nat}
theorem fell (pq : PQ p q) (hf : h ∉ q.fallen) : (h : Int) ∉ p.fallen := fun z => hf ((fall_iff pq).mp z)
theorem two_less (T : Two n p p' q q') (hh : h < n) (hf : h ∉ q.fallen) (i : Nat) (a : Int) (ha : (steps (mkNt n p).on h)[i]? = some (some a)) : ∃ b : Int, (steps (mkNt n p').on h)[i]? = some (some b) ∧ b ≤ a := by
  have n5 := T.n5
  have hf' : h ∉ q'.fallen := fun z => hf (T.hr.f h z)
  rw [steps_on (by omega) T.pq hh hf, List.getElem?_map] at ha
  rw [steps_on (by omega) T.pq' hh hf', List.getElem?_map]
  have hi : i < n := by
    refine Classical.byContradiction fun hn => ?_
    rw [List.getElem?_eq_none (by rw [List.length_range]; omega)] at ha
    cases ha
  rw [List.getElem?_range hi] at ha ⊢
  have hm := mono n5 T.hr hh hi
  have e : tbl (cell (distM n q) h i) = some a := Option.some.inj ha
  unfold tbl at e
  by_cases c : cell (distM n q) h i < 99
  · rw [if_pos c] at e
    cases e
    refine ⟨cell (distM n q') h i, ?_, hm⟩
    show some (tbl _) = _
    unfold tbl; rw [if_pos (by omega)]
  · rw [if_neg c] at e; cases e
theorem zero_in (n5 : n ≤ 5) (pq : PQ p q) (hh : h < n) (hf : h ∉ q.fallen) : some (0 : Int) ∈ trips (mkNt n p) h := by
  refine List.mem_of_getElem? (i := h) ?_
  rw [trips_at (by omega) pq hh hf hh, diag (by omega) hh hf]; rfl
end
theorem eqv_ne {a c : List Int} (h : a = c) : PyData.eqv (.list (a.map PyData.int)) (.list (c.map PyData.int)) = true := by subst h; exact eqv_nL a
section
variable {P : Program} {w : World} {K : PySem.W.Frag} {mg : Str → Option Value} {base : Heap} {f C CN : Addr} {fd : FuncData}
abbrev NI : List Str := ["net", "wide", "dist", "far", "house", "x", "limit", "near"]
end
theorem nd_le {α : Type} [DecidableEq α] : ∀ (a b : List α), a.Nodup → (∀ x ∈ a, x ∈ b) → a.length ≤ b.length
  | [], b, _, _ => Nat.zero_le _
  | x :: a, b, nd, h => by
    obtain ⟨n1, n2⟩ := List.nodup_cons.mp nd
    have hx := h x List.mem_cons_self
    have := nd_le a (b.erase x) n2 (fun y hy => (List.mem_erase_of_ne (fun e : y = x => n1 (by rw [← e]; exact hy))).mpr (h y (List.mem_cons_of_mem _ hy)))
    rw [List.length_erase_of_mem hx] at this
    have := List.length_pos_of_mem hx
    rw [List.length_cons]; omega
theorem silent_ok {n : Nat} (h7 : n ≤ 7) {s : List (Nat × Nat)} (nd : s.Nodup) (hs : ∀ l ∈ s, l.1 < n ∧ l.2 < n ∧ l.1 ≠ l.2) : SOk n s := by
  refine ⟨nd, hs, ?_⟩
  have h1 := nd_le s (lkTo n n) nd (fun l hl => mem_lkTo.mpr (hs l hl))
  have h2 := lkTo_len n n
  have h3 : n * n ≤ 7 * 7 := Nat.mul_le_mul h7 h7
  omega
theorem filt_ok {n : Nat} (h7 : n ≤ 7) (k : Nat × Nat → Bool) : SOk n ((lkTo n n).filter k) := silent_ok h7 (List.Pairwise.filter _ (lkTo_nd n n)) fun l hl => mem_lkTo.mp (List.mem_filter.mp hl).1
theorem join_ok {n : Nat} (h7 : n ≤ 7) (q q' : Lp) : LpOk n (joinQ n q q') := by
  refine ⟨⟨List.Pairwise.filter _ List.nodup_range, fun x hx => List.mem_range.mp (List.mem_filter.mp hx).1, ?_⟩, filt_ok h7 _⟩
  have := List.length_filter_le (fun h => decide (h ∈ q.fallen) || decide (h ∈ q'.fallen)) (List.range n)
  rw [List.length_range] at this
  show ((List.range n).filter _).length ≤ 7
  omega
theorem add_ok {n : Nat} (h7 : n ≤ 7) {q : Lp} (ok : LpOk n q) {a b : Nat} (ha : a < n) (hb : b < n) (hne : a ≠ b) (hn : (a, b) ∉ q.silent) : LpOk n (addL q (a, b)) := by
  refine ⟨ok.f, silent_ok h7 ?_ fun l hl => ?_⟩
  · show (q.silent ++ [(a, b)]).Nodup
    rw [List.nodup_append]
    exact ⟨ok.s.nd, by simp, fun x hx y hy e => by have := List.mem_singleton.mp hy; subst this; exact hn (e ▸ hx)⟩
  · rcases List.mem_append.mp hl with h | h
    · exact ok.s.lt l h
    · have := List.mem_singleton.mp h
      subst this; exact ⟨ha, hb, hne⟩
/-- what the law makes of it -/
def lessQ (n : Nat) (q : Lp) : Lp := ⟨q.fallen, (lkTo n n).filter fun l => decide (l ∈ q.silent) || (decide (l.1 ∈ q.fallen) || decide (l.2 ∈ q.fallen))⟩
theorem less_ok {n : Nat} (h7 : n ≤ 7) {q : Lp} (ok : LpOk n q) : LpOk n (lessQ n q) := ⟨ok.f, filt_ok h7 _⟩
theorem parts_len (n : Nat) (p : Pt) : (partsL n p).length ≤ n := by
  have : ∀ (l : List Nat) (rows : List (List Int)), (l.foldl (pstep n p) rows).length ≤ rows.length + l.length := by
    intro l
    induction l with
    | nil => intro rows; exact Nat.le_refl _
    | cons a l ih =>
      intro rows
      have h1 := ih (pstep n p rows a)
      have h2 : (pstep n p rows a).length ≤ rows.length + 1 := by
        unfold pstep
        split
        · omega
        · simp
      rw [List.foldl_cons, List.length_cons]; omega
  have h1 := this (stand p n) []
  have h2 := stand_le n p
  unfold partsL
  rw [List.length_nil] at h1; omega
def S_allin (CN C : Addr) (ds : List D) (Ψ : D → Prop) : Prop := ∃ (n : Nat) (p p' : Pt) (q q' : Lp), ds = [netD CN C (mkNt n p), netD CN C (mkNt n p'), mD (distM n q), mD (distM n q')] ∧ Two n p p' q q' ∧ Ψ (.bl true)
theorem m_allin (CN C : Addr) : MonoF (S_allin CN C) := fun ds Φ Φ' g ⟨n, p, p', q, q', h1, h2, h3⟩ => ⟨n, p, p', q, q', h1, h2, g _ h3⟩
def S_two (o : OO) (ds : List D) (Ψ : D → OO → Prop) : Prop := ∃ (l : List Int) (n : Nat), o = .l (iL l) ∧ ds = [natD n] ∧ 1 ≤ n ∧ n ≤ 7 ∧ ∀ (p q : Lp) (l' : List Int), LpOk n p → LpOk n q → Ψ (.lst [lpD p, lpD q]) (.l (iL l'))
theorem m_two : MonoO S_two := fun o ds Φ Φ' h ⟨l, n, h1, h2, h3, h4, h5⟩ => ⟨l, n, h1, h2, h3, h4, fun p q l' a b => h _ _ (h5 p q l' a b)⟩
section
variable {P : Program} {w : World} {K : PySem.W.Frag} {mg : Str → Option Value} {base : Heap} {f C CN : Addr} {fd : FuncData}
end
theorem intsN_inj {a c : List Nat} (h : intsN a = intsN c) (x : Nat) : x ∈ a ↔ x ∈ c := by
  rw [← mem_intsN (l := a), h, mem_intsN]
/-- one link silent besides: some past changes exactly if no path is left -/
theorem changed_eq {n : Nat} {p pt : Pt} {q : Lp} {a c : Nat} (n5 : n ≤ 5) (pq : PQ p q) (pt' : PQ pt (addL q (a, c))) (ha : a < n) (hc : c < n) (hne : a ≠ c) (hl : lastsP p a c = true) :
    decide ((((stand p n).filter fun x => !decide (pastOf n pt x = pastOf n p x)).length : Int) = 0) = decide (cell (distM n (addL q (a, c))) a c < 99) := by
  obtain ⟨f1, f2, f3⟩ := (lasts_iff pq hne).mp hl
  rw [Bool.eq_iff_iff, decide_eq_true_eq, decide_eq_true_eq]
  have sM : Sq n (distM n q) := sq_dist n q
  have sN : Sq n (distM n (addL q (a, c))) := sq_dist n _
  constructor
  · intro h
    have hs : c ∈ stand p n := (mem_stand pq).mpr ⟨hc, f2⟩
    have e : pastOf n pt c = pastOf n p c := by
      refine Classical.byContradiction fun hn => ?_
      have := List.length_pos_of_mem (List.mem_filter.mpr ⟨hs, by simpa using hn⟩ : c ∈ (stand p n).filter fun x => !decide (pastOf n pt x = pastOf n p x))
      omega
    rw [past_eq (by omega) pt' hc f2, past_eq (by omega) pq hc f2] at e
    have he := edge1 (q := q) (by omega) pq ha hc hne hl
    have hm : a ∈ pastL (distM n q) c := by
      unfold pastL; rw [sM.len]
      exact List.mem_filter.mpr ⟨List.mem_range.mpr ha, decide_eq_true (by omega)⟩
    have := (intsN_inj e a).mpr hm
    unfold pastL at this
    exact of_decide_eq_true (List.mem_filter.mp this).2
  · intro h
    have : (stand p n).filter (fun x => !decide (pastOf n pt x = pastOf n p x)) = [] := by
      rw [List.filter_eq_nil_iff]
      intro x hx
      obtain ⟨g1, g2⟩ := (mem_stand pq).mp hx
      have e : pastOf n pt x = pastOf n p x := by
        rw [past_eq (by omega) pt' g1 g2, past_eq (by omega) pq g1 g2]
        congr 1
        unfold pastL
        rw [sM.len, sN.len]
        refine List.filter_congr fun y hy => ?_
        exact decide_eq_decide.mpr (add_keeps n5 ha hc h (List.mem_range.mp hy) g1).symm
      rw [decide_eq_true e]; decide
    rw [this]; rfl
def S_lright (CN C : Addr) (o : OO) (ds : List D) (Ψ : D → OO → Prop) : Prop := ∃ (l : List Int) (n : Nat) (p : Pt) (q : Lp), o = .l (iL l) ∧ ds = [netD CN C (mkNt n p), natD n, lpD q] ∧ 1 ≤ n ∧ n ≤ 5 ∧ PQ p q ∧ LpOk n q ∧ ∀ l', Ψ (.bl true) (.l (iL l'))
theorem m_lright (CN C : Addr) : MonoO (S_lright CN C) := fun o ds Φ Φ' h ⟨l, n, p, q, h1, h2, h3, h4, h5, h6, h7⟩ => ⟨l, n, p, q, h1, h2, h3, h4, h5, h6, fun l' => h _ _ (h7 l')⟩
section
variable {P : Program} {w : World} {K : PySem.W.Frag} {mg : Str → Option Value} {base : Heap} {f C CN : Addr} {fd : FuncData}
abbrev NLR : List Str := ["pool", "net", "houses", "pattern", "link", "dist", "thinner", "left", "changed", "house"]
end
end T5
/-! Errors whose field is house. -/
namespace AX
open PySem PySem.W PySem.Calls PyProof.Rows
section
variable {prog : Program} {w : World} {A : Around} {E : Value → Shared → Prop} {R : Result → Shared → Prop} {s : Shared} {K : Frag} {C fI : Addr} {q : Str}
theorem init_house (T : Cls1 K C fI "house") (I : Ini1 K fI q "house") {x t0 : Addr} {v : Value} (X : K.In s.heap) (hlim : s.heap.NoLimit) (hx : s.heap.get? x = some (excObj C t0 none .none)) (hroom : A.depth < recursionLimit)
    (hq : ∀ h' tk dx, End1 s.heap h' x C dx t0 "house" v → R (.ok (.ret .none)) { s with heap := h', toks := tk }) :
    codeAny (model prog w) A (.call (.ref fI) ⟨[.ref x, v], []⟩) R s := by
  obtain ⟨oc, od, doc, pm, an, cdv, ct, osl, p1, p2, q1, q2, q3, q4, ho, hcd⟩ := I.fn
  refine Att.call_fn (binds := [("self", .ref x), ("house", v)]) X hlim ho hcd hroom (BindsTo.of_eq (by first | rfl | with_unfolding_all rfl)) (by first | rfl | decide | with_unfolding_all rfl) (fun s1 IC => ?_) rfl rfl rfl
  obtain ⟨h1, tk1, rfl⟩ := IC.toInCall.same
  have k : ∀ b o, s.heap.get? b = some o → h1.get? b = some o := IC.toInCall.keep
  have hn := IC.toInCall.ns
  have X1 : K.In h1 := X.keeps k
  have hx1 := k _ _ hx
  show wpAny _ _ (execs _ _) _ _ _
  refine wpAny_execs_cons (plainObj_wpAny_Assign_Attribute ?_)
  refine loc1 (v := v) hn (by first | rfl | with_unfolding_all rfl | kernel_rfl) (loc1 (v := .ref x) hn (by first | rfl | with_unfolding_all rfl | kernel_rfl) ?_ rfl rfl (by decide)) rfl rfl (by decide)
  refine set_plain X1 (ox := excObj C t0 none .none) (od := none) ⟨hx1, rfl, rfl, trivial⟩ T.sa ?_
  refine store1 T (s := _) X1 hx1 (fun h3 tk3 dx k3 dn dne hx3 hn3 => ?_)
  show wpAny _ _ (execs _ _) _ _ _
  have z : s.heap.objs.size < h1.objs.size := hn.lt
  exact wpAny_execs_nil (hq h3 tk3 dx ⟨fun b o hb e => k3 b o hb (k b o e), hx3, Nat.le_of_lt (Nat.lt_of_lt_of_le z dn), dne, hn3⟩)
theorem made_house (T : Cls1 K C fI "house") (I : Ini1 K fI q "house") {v : Value} (X : K.In s.heap) (hlim : s.heap.NoLimit) (hroom : A.depth + 1 < recursionLimit)
    (hq : ∀ h' tk e d, Made1 s.heap h' e C d "house" v → R (.ok (.ret (.ref e))) { s with heap := h', toks := tk }) :
    codeAny (model prog w) A (.call (.ref C) ⟨[v], []⟩) R s := by
  obtain ⟨nm, N, qn, bs, bm, hdct, sn, sub, ab, col, dd, k0, k1, k2, k3, k5, hC, hT⟩ := excInit_of X T.xi
  obtain ⟨oI, hoI, hcI⟩ : ∃ oI, s.heap.get? fI = some oI ∧ oI.cls = .type "function" := by
    obtain ⟨o, ho, hc⟩ := Option.map_eq_some_iff.mp (show (K.lookup fI).map (·.cls) = some (.type "function") from beq_iff_eq.mp T.fn)
    exact ⟨o, X _ _ ho, hc⟩
  obtain ⟨hp, g, dr, tk, os⟩ := s
  have k : ∀ b o, hp.get? b = some o → ((hp.push (excTup [v])).push (excObj C hp.objs.size none .none)).get? b = some o := fun b o e => Heap.get?_push_of_some _ (Heap.get?_push_of_some _ e)
  have hget : ((hp.push (excTup [v])).push (excObj C hp.objs.size none .none)).get? (hp.objs.size + 1) = some (excObj C hp.objs.size none .none) := by heap_get
  refine PX.call_own F.excBase_Exception hT hC (looks_findIn X T.iC) (fun self => exc_bind hoI hcI self) (size1 v) ?_
  refine init_house (s := ⟨(hp.push (excTup [v])).push (excObj C hp.objs.size none .none), g, dr, tk, os⟩) T I (X.keeps k) (hlim.keeps k) hget ?_ fun h' tk' dx M => ?_
  · show A.depth + 1 < recursionLimit
    exact hroom
  · obtain ⟨k', hx, dn, dne, hns⟩ := M
    have old : ∀ b o, hp.get? b = some o → h'.get? b = some o := fun b o e => k' b o (Nat.ne_of_lt (Nat.lt_succ_of_lt (Heap.lt_size e))) (k b o e)
    have z : hp.objs.size + 1 + 1 ≤ dx := by
      have q := dn
      simp only [Heap.size_push] at q
      exact q
    exact ⟨rfl, hq h' tk' (hp.objs.size + 1) dx ⟨old, Nat.le_succ _, ⟨_, _, hx, rfl, rfl, rfl, rfl⟩, Nat.le_trans (Nat.le_trans (Nat.le_succ _) (Nat.le_succ _)) z, dne, hns⟩⟩
end
end AX
namespace AL
open PySem PySem.Spec PyProof.Rows L2 Evl
theorem relO_house {v : V} {v' : Value} (r : RelV v v') (g : Str) : RelO (List.lookup g [(("house" : Str), v)]) (if g = "house" then some v' else none) := by
  by_cases hw : g = "house"
  · subst hw
    rw [if_pos rfl]
    have q : List.lookup ("house" : Str) [(("house" : Str), v)] = some v := by simp [List.lookup]
    rw [q]
    exact r
  · rw [if_neg hw]
    have qw : (g == ("house" : Str)) = false := by simpa using hw
    have q2 : List.lookup g [(("house" : Str), v)] = none := by simp [List.lookup, qw]
    rw [q2]
    trivial
section
variable {X : Cx} {Z : Zx} {C fI : Addr} {q x : Str} {a : Expr} {ta : TA} {p pos pos2 : Pos} {k : Nat} {ρ : En} {O : Outs} {sts : List Stmt}
def tMk_house (C : Addr) (ta : TA) : L2.St → Hp → XK → Prop := fun σ H Q => ta σ H fun vs H1 => ∃ v, vs = [v] ∧ ∀ d, H1 d = none → Q (.ref C) (some d) (upd H1 d (.xd [(("house" : Str), v)]))
theorem pmk_house (T : AX.Cls1 X.K C fI "house") (I : AX.Ini1 X.K fI q "house") (hm : X.mg x = some (.ref C)) (hr : Room k X.A) (ha : PA X [a] ta) (hg : Gl X x) (hdb : (x == ("__debug__" : Str)) = false)
    (he : starEach (a :: []) X.env = (false, eval a X.env) :: starEach [] X.env) (hpl : (backTo pos (starEach [] X.env)).any (·.1) = false) :
    PMk X (.Call (.Name x p) [a] [] pos) (tMk_house C ta) := by
  intro pins s σ H Q I0 h
  refine wpAny_Call_Name_kw (ld_glob I0 hg hm ?_ hdb)
  refine PySem.W.callWith_K (h₀ := X.base) I0.ok.mod.kin T.kp (thn (ha.run pos pins s σ H _ I0 h) fun us s1 hh => ?_) he hpl
  obtain ⟨vs, H1, I1, r1, v, ev, q1⟩ := hh
  subst ev
  refine ⟨I1.kIn, ?_⟩
  cases r1 with
  | @cons _ v' _ _ rv rn =>
    cases rn
    show wpAny _ _ (call (.ref C) [v']) _ _ _
    have hlim := I1.nolimit
    obtain ⟨hp, g, dr, tk, os⟩ := s1
    refine wpAny_call (AX.made_house T I I1.kIn hlim (by have := hr.dp; omega) fun h' tk' e d M => ?_)
    show MkP X pins σ Q (.ref e) ⟨h', g, dr, tk', os⟩
    obtain ⟨oe, fv, hoe, hc, hd, hdat, h1⟩ := M.obj
    have hns := M.ns
    obtain ⟨G', g1, g2⟩ := restrict h' fun b => decide (b ≠ e)
    have gk : ∀ b, b ≠ e → G'.get? b = h'.get? b := fun b hb => g1 b (decide_eq_true hb)
    have ge : G'.get? e = none := g2 e (by simp)
    have old : ∀ b o, hp.get? b = some o → G'.get? b = some o := fun b o q => (gk b (Nat.ne_of_lt (Nat.lt_of_lt_of_le (Heap.lt_size q) M.new))).trans (M.keep b o q)
    have ob : ObjOk X.prog X.w (upd H1 d (.xd [(("house" : Str), v)])) G' d (.xd [(("house" : Str), v)]) :=
      ⟨_, hns.at (fun o q => (gk d M.dne).trans q), fun f => relO_house rv f⟩
    have J : Inv X pins σ (upd H1 d (.xd [(("house" : Str), v)])) ⟨G', g, dr, tk', os⟩ := I1.laid (t' := tk') old M.dbig ob
    refine ⟨e, oe, fv, ⟨G', g, dr, tk', os⟩, _, .ref C, some d, rfl, J, fun b o q => ?_, ge, hoe, ⟨hc, hd⟩, hdat, h1, ?_, rfl, I1.bare, raises_own T.sub T.ty, q1 d (I1.hok.fresh M.dbig)⟩
    · by_cases hb : b = e
      · have q' : G'.get? b = some o := q
        rw [hb, ge] at q'; cases q'
      · exact (gk b hb).symm.trans q
    · rw [upd_ne (Ne.symm M.dne)]
      exact I1.hok.fresh M.new
/-- raise X(e) -/
theorem sc_raise_house (T : AX.Cls1 X.K C fI "house") (I : AX.Ini1 X.K fI q "house") (hm : X.mg x = some (.ref C)) (hr : Room k X.A) (tk : Takes X Z.E) (h : EC X Z a ρ fun d ρ1 => Z.R C [("house", d)] ρ1) (hc : X.calm = true := by rfl) (hg : Gl X x := by rfl) (hdb : (x == ("__debug__" : Str)) = false := by decide)
    (he : starEach (a :: []) X.env = (false, eval a X.env) :: starEach [] X.env := by rfl) (hpl : (backTo pos (starEach [] X.env)).any (·.1) = false := by rfl) :
    SC X Z (.Raise (some (.Call (.Name x p) [a] [] pos)) none pos2 :: sts) ρ O :=
  sc_of (ps_raise hc tk (pmk_house T I hm hr (pa_cons p_wE pa_nil he) hg hdb he hpl)) fun B G H σ Dd o z s => h B G H σ o z _ fun d ρ1 v B1 H1 h1 e1 o1 r1 => ⟨v, rfl, fun dd hd => by
    obtain ⟨e2, of⟩ := o1.grow (u := .xd [(("house" : Str), v)]) hd
    exact z C _ (some dd) _ _ _ ρ1 h1 (e1.trans e2) of ⟨dd, _, rfl, upd_same, .cons (r1.up e2) .nil⟩⟩
end
end AL
/-! Errors whose field is name. -/
namespace AX
open PySem PySem.W PySem.Calls PyProof.Rows
section
variable {prog : Program} {w : World} {A : Around} {E : Value → Shared → Prop} {R : Result → Shared → Prop} {s : Shared} {K : Frag} {C fI : Addr} {q : Str}
theorem init_name (T : Cls1 K C fI "name") (I : Ini1 K fI q "name") {x t0 : Addr} {v : Value} (X : K.In s.heap) (hlim : s.heap.NoLimit) (hx : s.heap.get? x = some (excObj C t0 none .none)) (hroom : A.depth < recursionLimit)
    (hq : ∀ h' tk dx, End1 s.heap h' x C dx t0 "name" v → R (.ok (.ret .none)) { s with heap := h', toks := tk }) :
    codeAny (model prog w) A (.call (.ref fI) ⟨[.ref x, v], []⟩) R s := by
  obtain ⟨oc, od, doc, pm, an, cdv, ct, osl, p1, p2, q1, q2, q3, q4, ho, hcd⟩ := I.fn
  refine Att.call_fn (binds := [("self", .ref x), ("name", v)]) X hlim ho hcd hroom (BindsTo.of_eq (by first | rfl | with_unfolding_all rfl)) (by first | rfl | decide | with_unfolding_all rfl) (fun s1 IC => ?_) rfl rfl rfl
  obtain ⟨h1, tk1, rfl⟩ := IC.toInCall.same
  have k : ∀ b o, s.heap.get? b = some o → h1.get? b = some o := IC.toInCall.keep
  have hn := IC.toInCall.ns
  have X1 : K.In h1 := X.keeps k
  have hx1 := k _ _ hx
  show wpAny _ _ (execs _ _) _ _ _
  refine wpAny_execs_cons (plainObj_wpAny_Assign_Attribute ?_)
  refine loc1 (v := v) hn (by first | rfl | with_unfolding_all rfl | kernel_rfl) (loc1 (v := .ref x) hn (by first | rfl | with_unfolding_all rfl | kernel_rfl) ?_ rfl rfl (by decide)) rfl rfl (by decide)
  refine set_plain X1 (ox := excObj C t0 none .none) (od := none) ⟨hx1, rfl, rfl, trivial⟩ T.sa ?_
  refine store1 T (s := _) X1 hx1 (fun h3 tk3 dx k3 dn dne hx3 hn3 => ?_)
  show wpAny _ _ (execs _ _) _ _ _
  have z : s.heap.objs.size < h1.objs.size := hn.lt
  exact wpAny_execs_nil (hq h3 tk3 dx ⟨fun b o hb e => k3 b o hb (k b o e), hx3, Nat.le_of_lt (Nat.lt_of_lt_of_le z dn), dne, hn3⟩)
theorem made_name (T : Cls1 K C fI "name") (I : Ini1 K fI q "name") {v : Value} (X : K.In s.heap) (hlim : s.heap.NoLimit) (hroom : A.depth + 1 < recursionLimit)
    (hq : ∀ h' tk e d, Made1 s.heap h' e C d "name" v → R (.ok (.ret (.ref e))) { s with heap := h', toks := tk }) :
    codeAny (model prog w) A (.call (.ref C) ⟨[v], []⟩) R s := by
  obtain ⟨nm, N, qn, bs, bm, hdct, sn, sub, ab, col, dd, k0, k1, k2, k3, k5, hC, hT⟩ := excInit_of X T.xi
  obtain ⟨oI, hoI, hcI⟩ : ∃ oI, s.heap.get? fI = some oI ∧ oI.cls = .type "function" := by
    obtain ⟨o, ho, hc⟩ := Option.map_eq_some_iff.mp (show (K.lookup fI).map (·.cls) = some (.type "function") from beq_iff_eq.mp T.fn)
    exact ⟨o, X _ _ ho, hc⟩
  obtain ⟨hp, g, dr, tk, os⟩ := s
  have k : ∀ b o, hp.get? b = some o → ((hp.push (excTup [v])).push (excObj C hp.objs.size none .none)).get? b = some o := fun b o e => Heap.get?_push_of_some _ (Heap.get?_push_of_some _ e)
  have hget : ((hp.push (excTup [v])).push (excObj C hp.objs.size none .none)).get? (hp.objs.size + 1) = some (excObj C hp.objs.size none .none) := by heap_get
  refine PX.call_own F.excBase_Exception hT hC (looks_findIn X T.iC) (fun self => exc_bind hoI hcI self) (size1 v) ?_
  refine init_name (s := ⟨(hp.push (excTup [v])).push (excObj C hp.objs.size none .none), g, dr, tk, os⟩) T I (X.keeps k) (hlim.keeps k) hget ?_ fun h' tk' dx M => ?_
  · show A.depth + 1 < recursionLimit
    exact hroom
  · obtain ⟨k', hx, dn, dne, hns⟩ := M
    have old : ∀ b o, hp.get? b = some o → h'.get? b = some o := fun b o e => k' b o (Nat.ne_of_lt (Nat.lt_succ_of_lt (Heap.lt_size e))) (k b o e)
    have z : hp.objs.size + 1 + 1 ≤ dx := by
      have q := dn
      simp only [Heap.size_push] at q
      exact q
    exact ⟨rfl, hq h' tk' (hp.objs.size + 1) dx ⟨old, Nat.le_succ _, ⟨_, _, hx, rfl, rfl, rfl, rfl⟩, Nat.le_trans (Nat.le_trans (Nat.le_succ _) (Nat.le_succ _)) z, dne, hns⟩⟩
end
end AX
namespace AL
open PySem PySem.Spec PyProof.Rows L2 Evl
theorem relO_name {v : V} {v' : Value} (r : RelV v v') (g : Str) : RelO (List.lookup g [(("name" : Str), v)]) (if g = "name" then some v' else none) := by
  by_cases hw : g = "name"
  · subst hw
    rw [if_pos rfl]
    have q : List.lookup ("name" : Str) [(("name" : Str), v)] = some v := by simp [List.lookup]
    rw [q]
    exact r
  · rw [if_neg hw]
    have qw : (g == ("name" : Str)) = false := by simpa using hw
    have q2 : List.lookup g [(("name" : Str), v)] = none := by simp [List.lookup, qw]
    rw [q2]
    trivial
section
variable {X : Cx} {Z : Zx} {C fI : Addr} {q x : Str} {a : Expr} {ta : TA} {p pos pos2 : Pos} {k : Nat} {ρ : En} {O : Outs} {sts : List Stmt}
def tMk_name (C : Addr) (ta : TA) : L2.St → Hp → XK → Prop := fun σ H Q => ta σ H fun vs H1 => ∃ v, vs = [v] ∧ ∀ d, H1 d = none → Q (.ref C) (some d) (upd H1 d (.xd [(("name" : Str), v)]))
theorem pmk_name (T : AX.Cls1 X.K C fI "name") (I : AX.Ini1 X.K fI q "name") (hm : X.mg x = some (.ref C)) (hr : Room k X.A) (ha : PA X [a] ta) (hg : Gl X x) (hdb : (x == ("__debug__" : Str)) = false)
    (he : starEach (a :: []) X.env = (false, eval a X.env) :: starEach [] X.env) (hpl : (backTo pos (starEach [] X.env)).any (·.1) = false) :
    PMk X (.Call (.Name x p) [a] [] pos) (tMk_name C ta) := by
  intro pins s σ H Q I0 h
  refine wpAny_Call_Name_kw (ld_glob I0 hg hm ?_ hdb)
  refine PySem.W.callWith_K (h₀ := X.base) I0.ok.mod.kin T.kp (thn (ha.run pos pins s σ H _ I0 h) fun us s1 hh => ?_) he hpl
  obtain ⟨vs, H1, I1, r1, v, ev, q1⟩ := hh
  subst ev
  refine ⟨I1.kIn, ?_⟩
  cases r1 with
  | @cons _ v' _ _ rv rn =>
    cases rn
    show wpAny _ _ (call (.ref C) [v']) _ _ _
    have hlim := I1.nolimit
    obtain ⟨hp, g, dr, tk, os⟩ := s1
    refine wpAny_call (AX.made_name T I I1.kIn hlim (by have := hr.dp; omega) fun h' tk' e d M => ?_)
    show MkP X pins σ Q (.ref e) ⟨h', g, dr, tk', os⟩
    obtain ⟨oe, fv, hoe, hc, hd, hdat, h1⟩ := M.obj
    have hns := M.ns
    obtain ⟨G', g1, g2⟩ := restrict h' fun b => decide (b ≠ e)
    have gk : ∀ b, b ≠ e → G'.get? b = h'.get? b := fun b hb => g1 b (decide_eq_true hb)
    have ge : G'.get? e = none := g2 e (by simp)
    have old : ∀ b o, hp.get? b = some o → G'.get? b = some o := fun b o q => (gk b (Nat.ne_of_lt (Nat.lt_of_lt_of_le (Heap.lt_size q) M.new))).trans (M.keep b o q)
    have ob : ObjOk X.prog X.w (upd H1 d (.xd [(("name" : Str), v)])) G' d (.xd [(("name" : Str), v)]) :=
      ⟨_, hns.at (fun o q => (gk d M.dne).trans q), fun f => relO_name rv f⟩
    have J : Inv X pins σ (upd H1 d (.xd [(("name" : Str), v)])) ⟨G', g, dr, tk', os⟩ := I1.laid (t' := tk') old M.dbig ob
    refine ⟨e, oe, fv, ⟨G', g, dr, tk', os⟩, _, .ref C, some d, rfl, J, fun b o q => ?_, ge, hoe, ⟨hc, hd⟩, hdat, h1, ?_, rfl, I1.bare, raises_own T.sub T.ty, q1 d (I1.hok.fresh M.dbig)⟩
    · by_cases hb : b = e
      · have q' : G'.get? b = some o := q
        rw [hb, ge] at q'; cases q'
      · exact (gk b hb).symm.trans q
    · rw [upd_ne (Ne.symm M.dne)]
      exact I1.hok.fresh M.new
/-- raise X(e) -/
theorem sc_raise_name (T : AX.Cls1 X.K C fI "name") (I : AX.Ini1 X.K fI q "name") (hm : X.mg x = some (.ref C)) (hr : Room k X.A) (tk : Takes X Z.E) (h : EC X Z a ρ fun d ρ1 => Z.R C [("name", d)] ρ1) (hc : X.calm = true := by rfl) (hg : Gl X x := by rfl) (hdb : (x == ("__debug__" : Str)) = false := by decide)
    (he : starEach (a :: []) X.env = (false, eval a X.env) :: starEach [] X.env := by rfl) (hpl : (backTo pos (starEach [] X.env)).any (·.1) = false := by rfl) :
    SC X Z (.Raise (some (.Call (.Name x p) [a] [] pos)) none pos2 :: sts) ρ O :=
  sc_of (ps_raise hc tk (pmk_name T I hm hr (pa_cons p_wE pa_nil he) hg hdb he hpl)) fun B G H σ Dd o z s => h B G H σ o z _ fun d ρ1 v B1 H1 h1 e1 o1 r1 => ⟨v, rfl, fun dd hd => by
    obtain ⟨e2, of⟩ := o1.grow (u := .xd [(("name" : Str), v)]) hd
    exact z C _ (some dd) _ _ _ ρ1 h1 (e1.trans e2) of ⟨dd, _, rfl, upd_same, .cons (r1.up e2) .nil⟩⟩
end
end AL
namespace T5
open PySem PySem.Spec PyProof.Rows L2 Evl AL
/-- an error's class with one field -/
structure EF (K : PySem.W.Frag) (mg : Str → Option Value) (x : Str) (C : Addr) (fld : Str) : Prop where
  mg : mg x = some (.ref C)
  ci : ∃ fI q, AX.Cls1 K C fI fld ∧ AX.Ini1 K fI q fld
/-- a value that is asked for as an alive house -/
def HV (BH IF : Addr) (n : Nat) (p : Pt) (v : D) (Φ : Nat → Prop) (Ψ : Er) : Prop :=
  (∃ h : Nat, v = natD h ∧ h < n ∧ (h : Int) ∉ p.fallen ∧ Φ h) ∨ (isObj v = false ∧ isBelow v (natD n) = false ∧ Ψ BH [("house", v)]) ∨ (∃ h : Nat, v = natD h ∧ h < n ∧ (h : Int) ∈ p.fallen ∧ Ψ IF [("house", v)])
theorem HV.mono {BH IF : Addr} {n : Nat} {p : Pt} {v : D} {Φ Φ' : Nat → Prop} {Ψ Ψ' : Er} (h : HV BH IF n p v Φ Ψ) (g1 : ∀ x, v = natD x → x < n → (x : Int) ∉ p.fallen → Φ x → Φ' x) (g2 : ∀ C fs, Ψ C fs → Ψ' C fs) : HV BH IF n p v Φ' Ψ' := by
  rcases h with ⟨x, a, b, c, d⟩ | ⟨a, b, c⟩ | ⟨x, a, b, c, d⟩
  · exact .inl ⟨x, a, b, c, g1 x a b c d⟩
  · exact .inr (.inl ⟨a, b, g2 _ _ c⟩)
  · exact .inr (.inr ⟨x, a, b, c, g2 _ _ d⟩)
/-- a value that is asked for as a limit -/
def LV (BN : Addr) (l : D) (Φ : Int → Prop) (Ψ : Er) : Prop := isObj l = false ∧ ((∃ i : Int, l = .int i ∧ 0 ≤ i ∧ Φ i) ∨ ((∀ i, l = .int i → i < 0) ∧ Ψ BN [("name", .str "limit")]))
theorem LV.mono {BN : Addr} {l : D} {Φ Φ' : Int → Prop} {Ψ Ψ' : Er} (h : LV BN l Φ Ψ) (g1 : ∀ x, Φ x → Φ' x) (g2 : ∀ C fs, Ψ C fs → Ψ' C fs) : LV BN l Φ' Ψ' :=
  ⟨h.1, h.2.imp (fun ⟨i, a, b, c⟩ => ⟨i, a, b, g1 _ c⟩) fun ⟨a, b⟩ => ⟨a, g2 _ _ b⟩⟩
section
variable (CN C BH IF BN : Addr)
def X_hof (ds : List D) (Φ : D → Prop) (Ψ : Er) : Prop := ∃ (n : Nat) (v : D), ds = [natD n, v] ∧ isObj v = false ∧ ((isBelow v (natD n) = true ∧ Φ v) ∨ (isBelow v (natD n) = false ∧ Ψ BH [("house", v)]))
def X_alive (ds : List D) (Φ : D → Prop) (Ψ : Er) : Prop := ∃ (n : Nat) (p : Pt) (v : D), ds = [netD CN C (mkNt n p), v] ∧ HV BH IF n p v (fun h => Φ (natD h)) Ψ
def X_don (ds : List D) (Φ : D → Prop) (Ψ : Er) : Prop := ∃ (n : Nat) (p : Pt) (v : D), ds = [netD CN C (mkNt n p), v] ∧ n ≤ 7 ∧ HV BH IF n p v (fun h => Φ (.tup ((steps (mkNt n p).on h).map oD))) Ψ
def X_dbk (ds : List D) (Φ : D → Prop) (Ψ : Er) : Prop := ∃ (n : Nat) (p : Pt) (v : D), ds = [netD CN C (mkNt n p), v] ∧ n ≤ 7 ∧ HV BH IF n p v (fun h => Φ (.tup ((steps (mkNt n p).bk h).map oD))) Ψ
def X_trips (ds : List D) (Φ : D → Prop) (Ψ : Er) : Prop := ∃ (n : Nat) (p : Pt) (v : D), ds = [netD CN C (mkNt n p), v] ∧ n ≤ 7 ∧ HV BH IF n p v (fun h => Φ (.tup ((trips (mkNt n p) h).map oD))) Ψ
def X_chk (ds : List D) (Φ : D → Prop) (Ψ : Er) : Prop := ∃ l : D, ds = [l, .str "limit", .int 0] ∧ LV BN l (fun i => Φ (.int i)) Ψ
def X_echo (ds : List D) (Φ : D → Prop) (Ψ : Er) : Prop := ∃ (n : Nat) (p : Pt) (v l : D), ds = [netD CN C (mkNt n p), v, l] ∧ n ≤ 7 ∧ HV BH IF n p v (fun h => LV BN l (fun i => Φ (rowD (wl (trips (mkNt n p) h) i))) Ψ) Ψ
def X_inner (ds : List D) (Φ : D → Prop) (Ψ : Er) : Prop := ∃ (n : Nat) (p : Pt) (v l : D), ds = [netD CN C (mkNt n p), v, l] ∧ n ≤ 7 ∧ HV BH IF n p v (fun h => LV BN l (fun i => Φ (rowD (wl (steps (mkNt n p).bk h) i))) Ψ) Ψ
def X_span (ds : List D) (Φ : D → Prop) (Ψ : Er) : Prop := ∃ (n : Nat) (p : Pt) (v : D), ds = [netD CN C (mkNt n p), v] ∧ n ≤ 7 ∧ HV BH IF n p v (fun h => some 0 ∈ trips (mkNt n p) h ∧ ∀ m : Int, some m ∈ trips (mkNt n p) h → (∀ y, some y ∈ trips (mkNt n p) h → y ≤ m) → Φ (.int m)) Ψ
def X_rt (ds : List D) (Φ : D → Prop) (Ψ : Er) : Prop := ∃ (n : Nat) (p : Pt) (v u : D), ds = [netD CN C (mkNt n p), v, u] ∧ n ≤ 7 ∧ HV BH IF n p v (fun h => HV BH IF n p u (fun k => ∀ o, (trips (mkNt n p) h)[k]? = some o → Φ (oD o)) Ψ) Ψ
theorem mx_hof : MonoX (X_hof BH) := fun ds Φ Φ' Ψ Ψ' h g ⟨n, v, a, b, c⟩ => ⟨n, v, a, b, c.imp (fun ⟨x, y⟩ => ⟨x, h _ y⟩) fun ⟨x, y⟩ => ⟨x, g _ _ y⟩⟩
theorem mx_alive : MonoX (X_alive CN C BH IF) := fun ds Φ Φ' Ψ Ψ' h g ⟨n, p, v, a, c⟩ => ⟨n, p, v, a, c.mono (fun _ _ _ _ x => h _ x) g⟩
theorem mx_don : MonoX (X_don CN C BH IF) := fun ds Φ Φ' Ψ Ψ' h g ⟨n, p, v, a, b, c⟩ => ⟨n, p, v, a, b, c.mono (fun _ _ _ _ x => h _ x) g⟩
theorem mx_dbk : MonoX (X_dbk CN C BH IF) := fun ds Φ Φ' Ψ Ψ' h g ⟨n, p, v, a, b, c⟩ => ⟨n, p, v, a, b, c.mono (fun _ _ _ _ x => h _ x) g⟩
theorem mx_trips : MonoX (X_trips CN C BH IF) := fun ds Φ Φ' Ψ Ψ' h g ⟨n, p, v, a, b, c⟩ => ⟨n, p, v, a, b, c.mono (fun _ _ _ _ x => h _ x) g⟩
theorem mx_chk : MonoX (X_chk BN) := fun ds Φ Φ' Ψ Ψ' h g ⟨l, a, b⟩ => ⟨l, a, b.mono (fun _ x => h _ x) g⟩
theorem mx_echo : MonoX (X_echo CN C BH IF BN) := fun ds Φ Φ' Ψ Ψ' h g ⟨n, p, v, l, a, b, c⟩ => ⟨n, p, v, l, a, b, c.mono (fun _ _ _ _ x => x.mono (fun _ y => h _ y) g) g⟩
theorem mx_inner : MonoX (X_inner CN C BH IF BN) := fun ds Φ Φ' Ψ Ψ' h g ⟨n, p, v, l, a, b, c⟩ => ⟨n, p, v, l, a, b, c.mono (fun _ _ _ _ x => x.mono (fun _ y => h _ y) g) g⟩
theorem mx_span : MonoX (X_span CN C BH IF) := fun ds Φ Φ' Ψ Ψ' h g ⟨n, p, v, a, b, c⟩ => ⟨n, p, v, a, b, c.mono (fun _ _ _ _ x => ⟨x.1, fun m y z => h _ (x.2 m y z)⟩) g⟩
theorem mx_rt : MonoX (X_rt CN C BH IF) := fun ds Φ Φ' Ψ Ψ' h g ⟨n, p, v, u, a, b, c⟩ => ⟨n, p, v, u, a, b, c.mono (fun _ _ _ _ x => x.mono (fun _ _ _ _ y o z => h _ (y o z)) g) g⟩
end
section
variable {P : Program} {w : World} {K : PySem.W.Frag} {mg : Str → Option Value} {base : Heap} {f C CN BH IF BN : Addr} {fd : FuncData}
theorem cx_hof (F : FunN K "house_of" s_house_of f fd) (hm : mg "house_of" = some (.ref f)) (e1 : EF K mg "BadHouse" BH "house") (c1 : Cal P w K mg base "is_below" 2 (PFn 2 S_is_below)) : Cal P w K mg base "house_of" 3 (PFx 2 (X_hof BH)) := by
  obtain ⟨fI, q, X1, I1⟩ := e1.ci
  have nd : (["houses", "value"] : List Str).Nodup := by decide +kernel
  refine cal_fx F hm (N := ["houses", "value"]) (ps := ["houses", "value"]) ⟨rfl, rfl, rfl, nd, rfl, by decide +kernel, by decide +kernel⟩ rfl (fun _ _ _ _ _ _ us hl => match us, hl with | [_, _], _ => rfl) ?_
  rintro cdv A outer s H E hr tk ds Ψ Er hl ⟨n, v, rfl, ho, hd⟩
  refine sc_if (tc_not (tc_val (ec_cf c1 (hr.mono (by omega)) (pass_tk tk) m_is_below (ac_cons (ec_var 1 rfl (ac_cons (ec_var 0 rfl (ac_nil ⟨rfl, v, natD n, rfl, ho, .inr ⟨n, rfl⟩, _, rfl, ?_⟩))))))))
  rcases hd with ⟨e, hd⟩ | ⟨e, hd⟩
  · rw [e]; exact ⟨(fun z => nomatch z), fun _ => sc_nil (sc_ret (ec_var 1 rfl hd))⟩
  · rw [e]; exact ⟨fun _ => sc_raise_house X1 I1 e1.mg hr tk (ec_var 1 rfl hd), (fun z => nomatch z)⟩
theorem cx_alive (F : FunN K "alive_house" s_alive_house f fd) (hm : mg "alive_house" = some (.ref f)) (nc : NetC K CN) (e2 : EF K mg "IsFallen" IF "house") (c1 : Cal P w K mg base "house_of" 3 (PFx 2 (X_hof BH))) : Cal P w K mg base "alive_house" 4 (PFx 2 (X_alive CN C BH IF)) := by
  obtain ⟨fI, q, X2, I2⟩ := e2.ci
  have nd : (["net", "value"] : List Str).Nodup := by decide +kernel
  refine cal_fx F hm (N := ["net", "value"]) (ps := ["net", "value"]) ⟨rfl, rfl, rfl, nd, rfl, by decide +kernel, by decide +kernel⟩ rfl (fun _ _ _ _ _ _ us hl => match us, hl with | [_, _], _ => rfl) ?_
  rintro cdv A outer s H E hr tk ds Ψ Er hl ⟨n, p, v, rfl, hd⟩
  let t := mkNt n p
  have ho : isObj v = false := by
    rcases hd with ⟨h, rfl, _⟩ | ⟨a, _⟩ | ⟨h, rfl, _⟩
    · rfl
    · exact a
    · rfl
  refine sc_expr (ec_cx c1 hr (pass_tk tk) (mx_hof BH) (ac_cons (ec_fld (ec_var 0 rfl ⟨CN, netF C t, natD n, rfl, nc.cl, nc.n1, rfl, ac_cons (ec_var 1 rfl (ac_nil ⟨rfl, n, v, rfl, ho, ?_⟩))⟩))))
  have bl : ∀ h : Nat, h < n → isBelow (natD h) (natD n) = true := fun h hh => by simp [isBelow, natD]; omega
  have mem : ∀ h : Nat, h < n → decide ((h : Int) ∈ t.alive.map (fun x : Nat => (x : Int))) = decide ((h : Int) ∉ p.fallen) := fun h hh => by
    rw [decide_eq_decide]
    show (h : Int) ∈ (stand p n).map _ ↔ _
    unfold stand
    constructor
    · intro z
      obtain ⟨y, hy, e⟩ := List.mem_map.mp z
      have : y = h := by omega
      subst this
      exact of_decide_eq_true (List.mem_filter.mp hy).2
    · intro z
      exact List.mem_map.mpr ⟨h, List.mem_filter.mpr ⟨List.mem_range.mpr hh, decide_eq_true z⟩, rfl⟩
  rcases hd with ⟨h, rfl, hh, hf, hd⟩ | ⟨a, e, hd⟩ | ⟨h, rfl, hh, hf, hd⟩
  · refine .inl ⟨bl h hh, ?_⟩
    refine sc_if (tc_niI (ec_var 1 rfl (ec_fld (ec_var 0 rfl ⟨CN, netF C t, rowD t.alive, rfl, nc.cl, nc.n2, rfl, (h : Int), t.alive.map (fun x : Nat => (x : Int)), rfl, by unfold rowD; rw [List.map_map]; rfl, ?_⟩))))
    rw [mem h hh, decide_eq_true hf]
    exact ⟨(fun z => nomatch z), fun _ => sc_nil (sc_ret (ec_var 1 rfl hd))⟩
  · exact .inr ⟨e, hd⟩
  · refine .inl ⟨bl h hh, ?_⟩
    refine sc_if (tc_niI (ec_var 1 rfl (ec_fld (ec_var 0 rfl ⟨CN, netF C t, rowD t.alive, rfl, nc.cl, nc.n2, rfl, (h : Int), t.alive.map (fun x : Nat => (x : Int)), rfl, by unfold rowD; rw [List.map_map]; rfl, ?_⟩))))
    rw [mem h hh, decide_eq_false (by simpa using hf)]
    exact ⟨fun _ => sc_raise_house X2 I2 e2.mg hr tk (ec_var 1 rfl hd), (fun z => nomatch z)⟩
theorem cx_don (F : FunN K "distances" s_distances f fd) (hm : mg "distances" = some (.ref f)) (b : Blt mg) (nc : NetC K CN) (c2 : Cal P w K mg base "steps_over" 1 (PFn 2 S_steps_over)) (c3 : Cal P w K mg base "alive_house" 4 (PFx 2 (X_alive CN C BH IF))) : Cal P w K mg base "distances" 5 (PFx 2 (X_don CN C BH IF)) := by
  have nd : (["net", "house"] : List Str).Nodup := by decide +kernel
  refine cal_fx F hm (N := ["net", "house"]) (ps := ["net", "house"]) ⟨rfl, rfl, rfl, nd, rfl, by decide +kernel, by decide +kernel⟩ rfl (fun _ _ _ _ _ _ us hl => match us, hl with | [_, _], _ => rfl) ?_
  rintro cdv A outer s H E hr tk ds Ψ Er hl ⟨n, p, v, rfl, h7, hd⟩
  let t := mkNt n p
  refine sc_ret (ec_cty call_tuple_of boot_tuple b.tuple (ac_cons (ec_cf c2 (hr.mono (by omega)) (pass_tk tk) m_steps_over (ac_cons (ec_fld (ec_var 0 rfl ⟨CN, netF C t, .tup (t.on.map rowD), rfl, nc.cl, nc.n3, rfl, ac_cons (ec_cx c3 hr (pass_tk tk) (mx_alive CN C BH IF) (ac_cons (ec_var 0 rfl (ac_cons (ec_var 1 rfl (ac_nil ⟨rfl, n, p, v, rfl, hd.mono (fun h ev hh hf hd => ?_) (fun _ _ z => z)⟩))))))⟩))))))
  have x : NH t h := nh_mk h7 hh hf
  exact ac_nil ⟨rfl, t.on, h, rfl, by rw [x.ok.onl]; have := x.ok.n7; omega, by rw [x.ok.onl]; exact x.lt, x.ok.ono, ac_nil ⟨_, gb_tuple rfl (fun _ h => nomatch h), fun d e => by subst e; exact hd⟩⟩
theorem cx_dbk (F : FunN K "distances_to" s_distances_to f fd) (hm : mg "distances_to" = some (.ref f)) (b : Blt mg) (nc : NetC K CN) (c2 : Cal P w K mg base "steps_over" 1 (PFn 2 S_steps_over)) (c3 : Cal P w K mg base "alive_house" 4 (PFx 2 (X_alive CN C BH IF))) : Cal P w K mg base "distances_to" 5 (PFx 2 (X_dbk CN C BH IF)) := by
  have nd : (["net", "house"] : List Str).Nodup := by decide +kernel
  refine cal_fx F hm (N := ["net", "house"]) (ps := ["net", "house"]) ⟨rfl, rfl, rfl, nd, rfl, by decide +kernel, by decide +kernel⟩ rfl (fun _ _ _ _ _ _ us hl => match us, hl with | [_, _], _ => rfl) ?_
  rintro cdv A outer s H E hr tk ds Ψ Er hl ⟨n, p, v, rfl, h7, hd⟩
  let t := mkNt n p
  refine sc_ret (ec_cty call_tuple_of boot_tuple b.tuple (ac_cons (ec_cf c2 (hr.mono (by omega)) (pass_tk tk) m_steps_over (ac_cons (ec_fld (ec_var 0 rfl ⟨CN, netF C t, .tup (t.bk.map rowD), rfl, nc.cl, nc.n4, rfl, ac_cons (ec_cx c3 hr (pass_tk tk) (mx_alive CN C BH IF) (ac_cons (ec_var 0 rfl (ac_cons (ec_var 1 rfl (ac_nil ⟨rfl, n, p, v, rfl, hd.mono (fun h ev hh hf hd => ?_) (fun _ _ z => z)⟩))))))⟩))))))
  have x : NH t h := nh_mk h7 hh hf
  exact ac_nil ⟨rfl, t.bk, h, rfl, by rw [x.ok.bkl]; have := x.ok.n7; omega, by rw [x.ok.bkl]; exact x.lt, x.ok.bko, ac_nil ⟨_, gb_tuple rfl (fun _ h => nomatch h), fun d e => by subst e; exact hd⟩⟩
theorem cx_chk (F : FunN K "check_number" s_check_number f fd) (hm : mg "check_number" = some (.ref f)) (e3 : EF K mg "BadNumber" BN "name") (c1 : Cal P w K mg base "is_number" 1 (PFn 1 S_is_number)) : Cal P w K mg base "check_number" 2 (PFx 3 (X_chk BN)) := by
  obtain ⟨fI, q, X1, I1⟩ := e3.ci
  have nd : (["value", "name", "least"] : List Str).Nodup := by decide +kernel
  refine cal_fx F hm (N := ["value", "name", "least"]) (ps := ["value", "name", "least"]) ⟨rfl, rfl, rfl, nd, rfl, by decide +kernel, by decide +kernel⟩ rfl (fun _ _ _ _ _ _ us hl => match us, hl with | [_, _, _], _ => rfl) ?_
  rintro cdv A outer s H E hr tk ds Ψ Er hl ⟨l, rfl, ho, hd⟩
  refine sc_if (tc_w (wc_or (tc_not (tc_val (ec_cf c1 (hr.mono (by omega)) (pass_tk tk) m_is_number (ac_cons (ec_var 0 rfl (ac_nil ⟨rfl, _, rfl, ho, _, rfl, ?_⟩))))))))
  have no : (∀ i, l ≠ .int i) → isNum l = false := fun h => by cases l <;> first | rfl | exact absurd rfl (h _)
  by_cases hi : ∃ i, l = .int i
  · obtain ⟨i, rfl⟩ := hi
    refine ⟨fun _ => wc_or1 (tc_w (wc_and (tc_notN (ec_var 2 rfl ⟨fun _ => wc_and1 (tc_lt (ec_var 0 rfl (ec_var 2 rfl ⟨_, _, rfl, rfl, ?_⟩))), (fun z => nomatch z)⟩)))), (fun z => nomatch z)⟩
    rcases hd with ⟨j, e, hj, hd⟩ | ⟨hj, hd⟩
    · cases e
      rw [decide_eq_false (by omega)]
      exact ⟨(fun z => nomatch z), fun _ => sc_nil (sc_ret (ec_var 0 rfl hd))⟩
    · rw [decide_eq_true (hj i rfl)]
      exact ⟨fun _ => sc_raise_name X1 I1 e3.mg hr tk (ec_var 1 rfl hd), (fun z => nomatch z)⟩
  · rw [no fun i e => hi ⟨i, e⟩]
    refine ⟨(fun z => nomatch z), fun _ => ⟨fun _ => ?_, (fun z => nomatch z)⟩⟩
    rcases hd with ⟨j, e, _⟩ | ⟨_, hd⟩
    · exact absurd ⟨j, e⟩ hi
    · exact sc_raise_name X1 I1 e3.mg hr tk (ec_var 1 rfl hd)
theorem cx_trips (F : FunN K "round_trips" s_round_trips f fd) (hm : mg "round_trips" = some (.ref f)) (b : Blt mg) (hz : mg "zip" = none) (c1 : Cal P w K mg base "distances" 5 (PFx 2 (X_don CN C BH IF))) (c2 : Cal P w K mg base "distances_to" 5 (PFx 2 (X_dbk CN C BH IF))) (c3 : Cal P w K mg base "sum_of" 1 (PFn 2 S_sum)) : Cal P w K mg base "round_trips" 6 (PFx 2 (X_trips CN C BH IF)) := by
  have nd : (["net", "house", "onward", "backward", "there", "back"] : List Str).Nodup := by decide +kernel
  refine cal_fx F hm (N := ["net", "house", "onward", "backward", "there", "back"]) (ps := ["net", "house"]) ⟨rfl, rfl, rfl, nd, rfl, by decide +kernel, by decide +kernel⟩ rfl (fun _ _ _ _ _ _ us hl => match us, hl with | [_, _], _ => rfl) ?_
  rintro cdv A outer s H E hr tk ds Ψ Er hl ⟨n, p, v, rfl, h7, hd⟩
  let t := mkNt n p
  refine sc_set 2 (ec_cx c1 hr (pass_tk tk) (mx_don CN C BH IF) (ac_cons (ec_var 0 rfl (ac_cons (ec_var 1 rfl (ac_nil ⟨rfl, n, p, v, rfl, h7, hd.mono (fun h ev hh hf hd => ?_) (fun _ _ z => z)⟩)))))) nd
  have x : NH t h := nh_mk h7 hh hf
  refine sc_set 3 (ec_cx c2 hr (pass_tk tk) (mx_dbk CN C BH IF) (ac_cons (ec_var 0 rfl (ac_cons (ec_var 1 (d := v) rfl (ac_nil ⟨rfl, n, p, v, rfl, h7, .inl ⟨h, ev, hh, hf, ?_⟩⟩)))))) nd
  have l1 : (steps t.on h).length = t.n := by rw [steps_len (by rw [x.ok.onl]; exact x.lt), x.ok.onl]
  have l2 : (steps t.bk h).length = t.n := by rw [steps_len (by rw [x.ok.bkl]; exact x.lt), x.ok.bkl]
  have hlen := trips_len x
  have tn7 := x.ok.n7
  have hzl : (zipD ((steps t.on h).map oD) ((steps t.bk h).map oD)).length = t.n := by rw [zipD_len, List.length_map, List.length_map, l1, l2]; omega
  let R : En := [some (.im (netD CN C t)), some (.im v), some (.im (.tup ((steps t.on h).map oD))), some (.im (.tup ((steps t.bk h).map oD))), none, none]
  refine sc_ret (ec_cty call_tuple_of boot_tuple b.tuple (ac_cons (ec_fc (fc_lc [("there", 4), ("back", 5)] [4, 5] (ic_zipT hz (ac_cons (ec_var 2 rfl (ac_cons (ec_var 3 rfl (ac_nil ⟨_, _, rfl, ?_⟩)))))) nd (by decide)))))
  refine ⟨fun _ => R, fun i => ((trips t h).take i).map oD, R, rfl, rfl, fun i hi => ?_, fun i d hid => ?_, ⟨rfl, fun _ _ h => h, fun i a' o h => ⟨h, _, h⟩⟩, _, rfl, ac_nil ⟨_, gb_tuple rfl (fun _ h => nomatch h), ?_⟩⟩
  · rw [List.length_map, List.length_take]; omega
  · rw [zipD_get, List.getElem?_map, List.getElem?_map] at hid
    cases ha : (steps t.on h)[i]? with
    | none => rw [ha] at hid; cases hid
    | some u =>
      cases hb : (steps t.bk h)[i]? with
      | none => rw [ha, hb] at hid; cases hid
      | some y =>
        rw [ha, hb] at hid
        cases hid
        have ht : (trips t h)[i]? = some (sumO u y) := by unfold trips; rw [List.getElem?_zipWith, ha, hb]
        intro s3 H3 C3 cl3 fp3
        refine gt_tup ⟨rfl, ⟨_, rfl⟩, rfl⟩ (gts_cons (gt_name 4 (gts_cons (gt_name 5 (gts_nil ?_) nd)) nd))
        intro s4 H4 C4 cl4 fp4
        refine ec_cf c3 (hr.mono (by omega)) (pass_0 passL) m_sum (ac_cons (ec_var 4 rfl (ac_cons (ec_var 5 rfl (ac_nil ⟨rfl, u, y, rfl, ?_, rfl⟩)))))
        dsimp only
        rw [List.take_add_one, ht, List.map_append]; rfl
  · rintro d rfl
    dsimp only
    rw [hzl, List.take_of_length_le (by omega)]
    exact hd
theorem cx_echo (F : FunN K "echo" s_echo f fd) (hm : mg "echo" = some (.ref f)) (c1 : Cal P w K mg base "round_trips" 6 (PFx 2 (X_trips CN C BH IF))) (c2 : Cal P w K mg base "within_limit" 1 (PFn 2 S_within)) (c3 : Cal P w K mg base "check_number" 2 (PFx 3 (X_chk BN))) : Cal P w K mg base "echo" 7 (PFx 3 (X_echo CN C BH IF BN)) := by
  have nd : (["net", "house", "limit", "times"] : List Str).Nodup := by decide +kernel
  refine cal_fx F hm (N := ["net", "house", "limit", "times"]) (ps := ["net", "house", "limit"]) ⟨rfl, rfl, rfl, nd, rfl, by decide +kernel, by decide +kernel⟩ rfl (fun _ _ _ _ _ _ us hl => match us, hl with | [_, _, _], _ => rfl) ?_
  rintro cdv A outer s H E hr tk ds Ψ Er hl ⟨n, p, v, l, rfl, h7, hd⟩
  refine sc_set 3 (ec_cx c1 hr (pass_tk tk) (mx_trips CN C BH IF) (ac_cons (ec_var 0 rfl (ac_cons (ec_var 1 rfl (ac_nil ⟨rfl, n, p, v, rfl, h7, hd.mono (fun h ev hh hf hd => ?_) (fun _ _ z => z)⟩)))))) nd
  have x : NH (mkNt n p) h := nh_mk h7 hh hf
  refine sc_ret (ec_cf c2 (hr.mono (by omega)) (pass_tk tk) m_within (ac_cons (ec_var 3 rfl (ac_cons (ec_cx c3 (hr.mono (by omega)) (pass_tk tk) (mx_chk BN) (ac_cons (ec_var 2 rfl (ac_cons (ec_str (ac_cons (ec_int (ac_nil ⟨rfl, l, rfl, hd.mono (fun i hd => ?_) (fun _ _ z => z)⟩))))))))))))
  exact ac_nil ⟨rfl, trips (mkNt n p) h, i, rfl, by rw [trips_len x]; have := x.ok.n7; omega, hd⟩
theorem cx_inner (F : FunN K "inner" s_inner f fd) (hm : mg "inner" = some (.ref f)) (c1 : Cal P w K mg base "distances_to" 5 (PFx 2 (X_dbk CN C BH IF))) (c2 : Cal P w K mg base "within_limit" 1 (PFn 2 S_within)) (c3 : Cal P w K mg base "check_number" 2 (PFx 3 (X_chk BN))) : Cal P w K mg base "inner" 6 (PFx 3 (X_inner CN C BH IF BN)) := by
  have nd : (["net", "house", "limit", "times"] : List Str).Nodup := by decide +kernel
  refine cal_fx F hm (N := ["net", "house", "limit", "times"]) (ps := ["net", "house", "limit"]) ⟨rfl, rfl, rfl, nd, rfl, by decide +kernel, by decide +kernel⟩ rfl (fun _ _ _ _ _ _ us hl => match us, hl with | [_, _, _], _ => rfl) ?_
  rintro cdv A outer s H E hr tk ds Ψ Er hl ⟨n, p, v, l, rfl, h7, hd⟩
  refine sc_set 3 (ec_cx c1 hr (pass_tk tk) (mx_dbk CN C BH IF) (ac_cons (ec_var 0 rfl (ac_cons (ec_var 1 rfl (ac_nil ⟨rfl, n, p, v, rfl, h7, hd.mono (fun h ev hh hf hd => ?_) (fun _ _ z => z)⟩)))))) nd
  have x : NH (mkNt n p) h := nh_mk h7 hh hf
  refine sc_ret (ec_cf c2 (hr.mono (by omega)) (pass_tk tk) m_within (ac_cons (ec_var 3 rfl (ac_cons (ec_cx c3 (hr.mono (by omega)) (pass_tk tk) (mx_chk BN) (ac_cons (ec_var 2 rfl (ac_cons (ec_str (ac_cons (ec_int (ac_nil ⟨rfl, l, rfl, hd.mono (fun i hd => ?_) (fun _ _ z => z)⟩))))))))))))
  refine ac_nil ⟨rfl, steps (mkNt n p).bk h, i, rfl, ?_, hd⟩
  rw [steps_len (by rw [x.ok.bkl]; exact x.lt), x.ok.bkl]; have := x.ok.n7; omega
theorem cx_span (F : FunN K "full_span" s_full_span f fd) (hm : mg "full_span" = some (.ref f)) (hx : mg "max" = none) (c1 : Cal P w K mg base "round_trips" 6 (PFx 2 (X_trips CN C BH IF))) : Cal P w K mg base "full_span" 7 (PFx 2 (X_span CN C BH IF)) := by
  have nd : (["net", "house", "time"] : List Str).Nodup := by decide +kernel
  refine cal_fx F hm (N := ["net", "house", "time"]) (ps := ["net", "house"]) ⟨rfl, rfl, rfl, nd, rfl, by decide +kernel, by decide +kernel⟩ rfl (fun _ _ _ _ _ _ us hl => match us, hl with | [_, _], _ => rfl) ?_
  rintro cdv A outer s H E hr tk ds Ψ Er hl ⟨n, p, v, rfl, h7, hd⟩
  let R : En := [some (.im (netD CN C (mkNt n p))), some (.im v), none]
  refine sc_ret (ec_cb (cr_max rfl) (by decide +kernel) hx (ac_cons (ec_fc (fc_lcIf [("time", 2)] [2] (ic_tup (ec_cx c1 hr (pass_tk tk) (mx_trips CN C BH IF) (ac_cons (ec_var 0 rfl (ac_cons (ec_var 1 rfl (ac_nil ⟨rfl, n, p, v, rfl, h7, hd.mono (fun h ev hh hf hd => ?_) (fun _ _ z => z)⟩))))))) nd (by decide)))))
  refine ⟨_, rfl, ?_⟩
  have x : NH (mkNt n p) h := nh_mk h7 hh hf
  have hlen := trips_len x
  have tn7 := x.ok.n7
  obtain ⟨h0, hd⟩ := hd
  refine ⟨fun _ => R, fun i => (((trips (mkNt n p) h).take i).filterMap id).map D.int, R, rfl, rfl, fun i hi => ?_, fun i d hid => ?_, ⟨rfl, fun _ _ h => h, fun i a' o h => ⟨h, _, h⟩⟩, _, rfl, ac_nil ?_⟩
  · rw [List.length_map]
    have := List.length_filterMap_le id ((trips (mkNt n p) h).take i)
    rw [List.length_take] at this; omega
  · rw [List.getElem?_map] at hid
    obtain ⟨o, ho, rfl⟩ := Option.map_eq_some_iff.mp hid
    have et : (trips (mkNt n p) h).take (i + 1) = (trips (mkNt n p) h).take i ++ [o] := by rw [List.take_add_one, ho]; rfl
    intro s3 H3 C3 cl3 fp3
    refine gt_name 2 ?_ nd
    intro s4 H4 C4 cl4 fp4
    refine tc_notN (ec_var 2 rfl ?_)
    cases o with
    | none =>
      refine ⟨(fun z => nomatch z), fun _ => ⟨?_, rfl⟩⟩
      dsimp only
      rw [et, List.filterMap_append, List.map_append]; simp
    | some v =>
      refine ⟨fun _ => ?_, (fun z => nomatch z)⟩
      intro s5 H5 C5 cl5 fp5
      refine ec_var 2 rfl ⟨?_, rfl⟩
      dsimp only
      rw [et, List.filterMap_append, List.map_append]; rfl
  · dsimp only
    rw [List.length_map, List.take_of_length_le (by omega)]
    have mem : ∀ m : Int, m ∈ (trips (mkNt n p) h).filterMap id ↔ some m ∈ trips (mkNt n p) h := fun m => by
      rw [List.mem_filterMap]
      constructor
      · rintro ⟨o, ho, e⟩
        have eo : o = some m := e
        exact eo ▸ ho
      · exact fun z => ⟨_, z, rfl⟩
    refine ⟨_, gb_max (ns := (trips (mkNt n p) h).filterMap id) (List.length_pos_of_mem ((mem 0).mpr h0)), ?_⟩
    rintro d ⟨m, rfl, hm, hle⟩
    exact hd m ((mem m).mp hm) fun y hy => hle y ((mem y).mpr hy)
theorem cx_rt (F : FunN K "round_trip" s_round_trip f fd) (hm : mg "round_trip" = some (.ref f)) (c1 : Cal P w K mg base "round_trips" 6 (PFx 2 (X_trips CN C BH IF))) (c2 : Cal P w K mg base "alive_house" 4 (PFx 2 (X_alive CN C BH IF))) : Cal P w K mg base "round_trip" 7 (PFx 3 (X_rt CN C BH IF)) := by
  have nd : (["net", "house", "other", "row"] : List Str).Nodup := by decide +kernel
  refine cal_fx F hm (N := ["net", "house", "other", "row"]) (ps := ["net", "house", "other"]) ⟨rfl, rfl, rfl, nd, rfl, by decide +kernel, by decide +kernel⟩ rfl (fun _ _ _ _ _ _ us hl => match us, hl with | [_, _, _], _ => rfl) ?_
  rintro cdv A outer s H E hr tk ds Ψ Er hl ⟨n, p, v, u, rfl, h7, hd⟩
  refine sc_set 3 (ec_cx c1 hr (pass_tk tk) (mx_trips CN C BH IF) (ac_cons (ec_var 0 rfl (ac_cons (ec_var 1 rfl (ac_nil ⟨rfl, n, p, v, rfl, h7, hd.mono (fun h ev hh hf hd => ?_) (fun _ _ z => z)⟩)))))) nd
  have x : NH (mkNt n p) h := nh_mk h7 hh hf
  have hlen := trips_len x
  refine sc_ret (ec_ix (ec_var 3 rfl (ec_cx c2 (hr.mono (by omega)) (pass_tk tk) (mx_alive CN C BH IF) (ac_cons (ec_var 0 rfl (ac_cons (ec_var 2 rfl (ac_nil ⟨rfl, n, p, u, rfl, hd.mono (fun k ek hk hkf hd => ?_) (fun _ _ z => z)⟩))))))))
  have hk' : k < (trips (mkNt n p) h).length := by rw [hlen]; exact hk
  have g : (trips (mkNt n p) h)[k]? = some (trips (mkNt n p) h)[k] := List.getElem?_eq_getElem hk'
  exact ⟨_, _, _, rfl, rfl, atI_nat (by rw [List.getElem?_map, g]; rfl), hd _ g⟩
end
end T5
namespace T5
open PySem PySem.Spec PyProof.Rows L2 Evl AL
/-- a caught error's class -/
structure E1 (K : PySem.W.Frag) (C LE : Addr) (fld : Str) : Prop where
  xf : XfC K C
  ex : ExcC K C
  own : PySem.W.exmOne K (.ref C) (.ref C) = some true
  kit : PySem.W.kitOne K (.ref C) (.ref LE) = some true
  no : PySem.W.findIn K (.ref C) fld = some none
structure ErrX (K : PySem.W.Frag) (mg : Str → Option Value) (BH IF BN LE : Addr) : Prop where
  le : mg "LinksError" = some (.ref LE)
  bh : EF K mg "BadHouse" BH "house"
  fl : EF K mg "IsFallen" IF "house"
  bn : EF K mg "BadNumber" BN "name"
  h1 : E1 K BH LE "house"
  h2 : E1 K IF LE "house"
  h3 : E1 K BN LE "name"
  a1 : PySem.W.exmOne K (.ref IF) (.ref BH) = some false
  a2 : PySem.W.exmOne K (.ref BN) (.ref BH) = some false
  a3 : PySem.W.exmOne K (.ref BN) (.ref IF) = some false
def told (s : Str) (x : D) : D := .lst [.str s, x, .bl true]
/-- what the law tells of an error -/
def askE (BH IF BN : Addr) (Ψ : D → Prop) : Er := fun Ce fs => (Ce = BH ∧ ∃ x, fs = [(("house" : Str), x)] ∧ Ψ (told "none" x)) ∨ (Ce = IF ∧ ∃ x, fs = [(("house" : Str), x)] ∧ Ψ (told "fallen" x)) ∨ (Ce = BN ∧ ∃ x, fs = [(("name" : Str), x)] ∧ Ψ (told "number" x))
theorem askE_mono {BH IF BN : Addr} {Ψ Ψ' : D → Prop} (g : ∀ d, Ψ d → Ψ' d) : ∀ C fs, askE BH IF BN Ψ C fs → askE BH IF BN Ψ' C fs := fun C fs h => h.imp (fun ⟨a, x, b, c⟩ => ⟨a, x, b, g _ c⟩) (fun h => h.imp (fun ⟨a, x, b, c⟩ => ⟨a, x, b, g _ c⟩) fun ⟨a, x, b, c⟩ => ⟨a, x, b, g _ c⟩)
def Bad2 (BH IF BN : Addr) (n : Nat) (p : Pt) (wd : Int) (l : D) (Er : Er) : Prop := ((wd = 0 ∨ wd = 1) ∧ LV BN l (fun _ => False) Er) ∨ (wd = 4 ∧ HV BH IF n p l (fun _ => False) Er)
def S_asked (CN C BH IF BN : Addr) (ds : List D) (Ψ : D → Prop) : Prop := ∃ (wd : Int) (n : Nat) (p : Pt) (v l : D), ds = [.int wd, netD CN C (mkNt n p), v, l] ∧ n ≤ 7 ∧ HV BH IF n p v (fun _ => Bad2 BH IF BN n p wd l (askE BH IF BN Ψ)) (askE BH IF BN Ψ)
theorem m_asked (CN C BH IF BN : Addr) : MonoF (S_asked CN C BH IF BN) := fun ds Φ Φ' g ⟨wd, n, p, v, l, h1, h2, h3⟩ => ⟨wd, n, p, v, l, h1, h2, h3.mono (fun _ _ _ _ z => z.imp (fun ⟨a, b⟩ => ⟨a, b.mono (fun _ x => x) (askE_mono g)⟩) fun ⟨a, b⟩ => ⟨a, b.mono (fun _ _ _ _ x => x) (askE_mono g)⟩) (askE_mono g)⟩
section
variable {P : Program} {w : World} {K : PySem.W.Frag} {mg : Str → Option Value} {base : Heap} {f C CN BH IF BN LE : Addr} {fd : FuncData}
abbrev NK : List Str := ["word", "net", "house", "limit", "found", "error"]
theorem c_asked (F : FunN K "_law_asked" s__law_asked f fd) (hm : mg "_law_asked" = some (.ref f)) (b : Blt mg) (ex : ErrX K mg BH IF BN LE) (cE : Cal P w K mg base "echo" 7 (PFx 3 (X_echo CN C BH IF BN))) (cI : Cal P w K mg base "inner" 6 (PFx 3 (X_inner CN C BH IF BN)))
    (cD : Cal P w K mg base "distances" 5 (PFx 2 (X_don CN C BH IF))) (cS : Cal P w K mg base "full_span" 7 (PFx 2 (X_span CN C BH IF))) (cR : Cal P w K mg base "round_trip" 7 (PFx 3 (X_rt CN C BH IF))) : Cal P w K mg base "_law_asked" 8 (PFn 4 (S_asked CN C BH IF BN)) := by
  have nd : NK.Nodup := by decide +kernel
  refine cal_fn F hm (N := NK) (ps := ["word", "net", "house", "limit"]) ⟨rfl, rfl, rfl, nd, rfl, by decide +kernel, by decide +kernel⟩ rfl (fun _ _ _ _ _ _ us hl => match us, hl with | [_, _, _, _], _ => rfl) ?_
  rintro cdv A outer s H E hr ds Ψ hl ⟨wd, n, p, v, l, rfl, h7, hd⟩
  let R0 : En := [some (.im (.int wd)), some (.im (netD CN C (mkNt n p))), some (.im v), some (.im l), some (.im .non), none]
  refine sc_set 4 (ec_non ?_) nd
  refine sc_trys 5 [BH, IF, BN] (fun Ce fs ρ' => askE BH IF BN Ψ Ce fs ∧ ρ' = R0) rfl rfl nd rfl rfl (.cons ⟨rfl, by decide, .inl ex.bh.mg⟩ (.cons ⟨rfl, by decide, .inl ex.fl.mg⟩ (.cons ⟨rfl, by decide, .inl ex.bn.mg⟩ .nil))) takes_0 ?_ ?_
  · intro E2 pn xe tk
    have er : ∀ C fs, askE BH IF BN Ψ C fs → askE BH IF BN Ψ C fs ∧ R0 = R0 := fun _ _ z => ⟨z, rfl⟩
    refine sc_if (tc_eqS (ec_var 0 rfl (ec_int ⟨_, rfl, fun h0 => ?_, fun h0 => ?_⟩)))
    · have w0 := of_decide_eq_true h0
      refine sc_expr (ec_cx cE hr (pass_tk tk) (mx_echo CN C BH IF BN) (ac_cons (ec_var 1 rfl (ac_cons (ec_var 2 rfl (ac_cons (ec_var 3 rfl (ac_nil ⟨rfl, n, p, v, l, rfl, h7, hd.mono (fun h _ _ _ z => ?_) er⟩))))))))
      rcases z with ⟨_, z⟩ | ⟨w4, _⟩
      · exact z.mono (fun _ x => x.elim) er
      · omega
    refine sc_if (tc_eqS (ec_var 0 rfl (ec_int ⟨_, rfl, fun h1 => ?_, fun h1 => ?_⟩)))
    · have w1 := of_decide_eq_true h1
      refine sc_expr (ec_cx cI (hr.mono (by omega)) (pass_tk tk) (mx_inner CN C BH IF BN) (ac_cons (ec_var 1 rfl (ac_cons (ec_var 2 rfl (ac_cons (ec_var 3 rfl (ac_nil ⟨rfl, n, p, v, l, rfl, h7, hd.mono (fun h _ _ _ z => ?_) er⟩))))))))
      rcases z with ⟨_, z⟩ | ⟨w4, _⟩
      · exact z.mono (fun _ x => x.elim) er
      · omega
    refine sc_if (tc_eqS (ec_var 0 rfl (ec_int ⟨_, rfl, fun h2 => ?_, fun h2 => ?_⟩)))
    · have w2 := of_decide_eq_true h2
      refine sc_expr (ec_cx cD (hr.mono (by omega)) (pass_tk tk) (mx_don CN C BH IF) (ac_cons (ec_var 1 rfl (ac_cons (ec_var 2 rfl (ac_nil ⟨rfl, n, p, v, rfl, h7, hd.mono (fun h _ _ _ z => ?_) er⟩))))))
      rcases z with ⟨w4, _⟩ | ⟨w4, _⟩ <;> omega
    refine sc_if (tc_eqS (ec_var 0 rfl (ec_int ⟨_, rfl, fun h3 => ?_, fun h3 => ?_⟩)))
    · have w3 := of_decide_eq_true h3
      refine sc_expr (ec_cx cS hr (pass_tk tk) (mx_span CN C BH IF) (ac_cons (ec_var 1 rfl (ac_cons (ec_var 2 rfl (ac_nil ⟨rfl, n, p, v, rfl, h7, hd.mono (fun h _ _ _ z => ?_) er⟩))))))
      rcases z with ⟨w4, _⟩ | ⟨w4, _⟩ <;> omega
    · have w0 := of_decide_eq_false h0
      have w1 := of_decide_eq_false h1
      refine sc_expr (ec_cx cR hr (pass_tk tk) (mx_rt CN C BH IF) (ac_cons (ec_var 1 rfl (ac_cons (ec_var 2 rfl (ac_cons (ec_var 3 rfl (ac_nil ⟨rfl, n, p, v, l, rfl, h7, hd.mono (fun h _ _ _ z => ?_) er⟩))))))))
      rcases z with ⟨w4, _⟩ | ⟨_, z⟩
      · omega
      · exact z.mono (fun _ _ _ _ x => x.elim) er
  · rintro Ce fs ρ' ⟨h, rfl⟩
    rcases h with ⟨rfl, x, rfl, hx⟩ | ⟨rfl, x, rfl, hx⟩ | ⟨rfl, x, rfl, hx⟩
    · refine ⟨true, ex.h1.own, (fun z => nomatch z), fun _ a d oe pn hz hf => ?_⟩
      refine sc_set 4 (ec_lst (ac_cons (ec_str (ac_cons (ec_excf 5 rfl ex.h1.xf ex.h1.no hz hf rfl (ac_cons (ec_exis 5 rfl ex.h1.ex hz hf ex.h1.kit (ac_nil ⟨by show 3 ≤ 100000; omega, ?_⟩) b.isi ex.le))))))) nd
      exact sc_nil (sc_ret (ec_var 4 rfl hx))
    · refine ⟨false, ex.a1, fun _ => ⟨true, ex.h2.own, (fun z => nomatch z), fun _ a d oe pn hz hf => ?_⟩, (fun z => nomatch z)⟩
      refine sc_set 4 (ec_lst (ac_cons (ec_str (ac_cons (ec_excf 5 rfl ex.h2.xf ex.h2.no hz hf rfl (ac_cons (ec_exis 5 rfl ex.h2.ex hz hf ex.h2.kit (ac_nil ⟨by show 3 ≤ 100000; omega, ?_⟩) b.isi ex.le))))))) nd
      exact sc_nil (sc_ret (ec_var 4 rfl hx))
    · refine ⟨false, ex.a2, fun _ => ⟨false, ex.a3, fun _ => ⟨true, ex.h3.own, (fun z => nomatch z), fun _ a d oe pn hz hf => ?_⟩, (fun z => nomatch z)⟩, (fun z => nomatch z)⟩
      refine sc_set 4 (ec_lst (ac_cons (ec_str (ac_cons (ec_excf 5 rfl ex.h3.xf ex.h3.no hz hf rfl (ac_cons (ec_exis 5 rfl ex.h3.ex hz hf ex.h3.kit (ac_nil ⟨by show 3 ≤ 100000; omega, ?_⟩) b.isi ex.le))))))) nd
      exact sc_nil (sc_ret (ec_var 4 rfl hx))
end
end T5
namespace T5
open PySem PySem.Spec PyProof.Rows L2 Evl AL
/-- a plain value: none, a truth, a number, a text that can stand in memory -/
inductive PlD : D → PyData → Prop
  | n : PlD .non .none
  | b (k : Bool) : PlD (.bl k) (.bool k)
  | i (k : Int) : PlD (.int k) (.int k)
  | s (k : Str) (h : PyData.strOk k = true) : PlD (.str k) (.str k)
theorem told_py {s : Str} {x : D} {y : PyData} (h : PlD x y) : pyD (told s x) = some (.list [.str s, y, .bool true]) := by
  cases h <;> (simp [told, pyD, pyDs])
theorem told_shp {s : Str} (hs : PyData.strOk s = true) {x : D} {y : PyData} (h : PlD x y) : SeqAt.shaped (.list [.str s, y, .bool true]) = true := by
  unfold SeqAt.shaped
  cases h with
  | s k hk => simp [PyData.canLay0, PyData.canLayAll0, PyData.depth, PyData.depthAll, hs, hk]
  | _ => simp [PyData.canLay0, PyData.canLayAll0, PyData.depth, PyData.depthAll, hs]
theorem told_eq2 {s : Str} {x : D} {y : PyData} (h : PlD x y) : PyData.eqv (.list [.str s, y, .bool true]) (.list [.str s, y, .bool true]) = true := by
  cases h <;> simp [PyData.eqv, PyData.eqvAll]
section
variable {X : Cx} {a b : Expr} {ρ : En} {Ψ : Bool → En → Prop} {pos : Pos}
/-- asked != told -/
theorem tc_told (hu : X.A.units + 64 < cLine) {s : Str} (hs : PyData.strOk s = true) {x : D} {y : PyData} (h : PlD x y) (ha : ∀ Φ : D → En → Prop, Φ (told s x) ρ → EC X Z0 a ρ Φ) (hb : ∀ Φ : D → En → Prop, Φ (told s x) ρ → EC X Z0 b ρ Φ) (hΨ : Ψ false ρ) (hm : behindInMarks .NotEq b = false) :
    TC X Z0 (.Compare a [.NotEq] [b] pos) ρ Ψ :=
  tc_neD hu (ha _ (hb _ ⟨_, _, told_py h, told_py h, told_shp hs h, told_shp hs h, by rw [told_eq2 h]; exact hΨ⟩)) (hm := hm)
end
def S_refr (CN C : Addr) (o : OO) (ds : List D) (Ψ : D → OO → Prop) : Prop := ∃ (l : List Int) (n : Nat) (p : Pt) (q : Lp), o = .l (iL l) ∧ ds = [netD CN C (mkNt n p), lpD q] ∧ 1 ≤ n ∧ n ≤ 7 ∧ PQ p q ∧ LpOk n q ∧ ∀ l', Ψ (.bl true) (.l (iL l'))
theorem m_refr (CN C : Addr) : MonoO (S_refr CN C) := fun o ds Φ Φ' h ⟨l, n, p, q, h1, h2, h3, h4, h5, h6, h7⟩ => ⟨l, n, p, q, h1, h2, h3, h4, h5, h6, fun l' => h _ _ (h7 l')⟩
section
variable {P : Program} {w : World} {K : PySem.W.Frag} {mg : Str → Option Value} {base : Heap} {f C CN BH IF BN LE : Addr} {fd : FuncData}
abbrev NF : List Str := ["pool", "net", "pattern", "limit", "odd", "word", "house", "x", "other"]
theorem c_refr (F : FunN K "_law_refusals_right" s__law_refusals_right f fd) (hm : mg "_law_refusals_right" = some (.ref f)) (b : Blt mg) (nc : NetC K CN) (cT : Cal P w K mg base "_law_take" 1 (PFo 1 S_take)) (cA : Cal P w K mg base "_law_asked" 8 (PFn 4 (S_asked CN C BH IF BN))) : Cal P w K mg base "_law_refusals_right" 9 (PFo 2 (S_refr CN C)) := by
  have nd : NF.Nodup := by decide +kernel
  refine cal_fo F hm (N := NF) (ps := ["pool", "net", "pattern"]) ⟨rfl, rfl, rfl, nd, rfl, by decide +kernel, by decide +kernel⟩ rfl (fun _ _ _ _ _ _ us hl => match us, hl with | [_, _, _], _ => rfl) ?_
  rintro cdv A outer s H E hr a o ds Ψ hl ⟨l0, n, p, q, rfl, rfl, hn1, h7, pq, ok, hd⟩
  have hu : (bodyX P w K mg base NF "_law_refusals_right" (defScope s__law_refusals_right) f cdv A outer s H E).A.units + 64 < cLine := by have := hr.un; omega
  let t := mkNt n p
  refine sc_set 3 (ec_ix (ec_lst (ac_cons (ec_neg (ec_int ⟨_, rfl, ac_cons (ec_bl (ac_cons (ec_non (ac_cons (ec_str (ac_nil ⟨by show 4 ≤ 100000; omega, ec_co 0 rfl cT (hr.mono (by omega)) (pass_0 passL) m_take (ac_cons (ec_int (ac_nil ⟨_, rfl, rfl, l0, 4, rfl, rfl, by decide, fun r l1 g0 g1 => ?_⟩)))⟩))))))⟩))))) nd
  have lim : ∃ lm y, atI [D.int (-1), D.bl true, D.non, D.str "3"] r = some lm ∧ PlD lm y ∧ isObj lm = false ∧ ∀ i, lm = .int i → i < 0 := by
    have : r = 0 ∨ r = 1 ∨ r = 2 ∨ r = 3 := by omega
    rcases this with rfl | rfl | rfl | rfl
    · exact ⟨_, _, rfl, .i _, rfl, fun i e => by cases e; decide⟩
    · exact ⟨_, _, rfl, .b _, rfl, fun i e => by cases e⟩
    · exact ⟨_, _, rfl, .n, rfl, fun i e => by cases e⟩
    · exact ⟨_, _, rfl, .s _ (by decide +kernel), rfl, fun i e => by cases e⟩
  obtain ⟨lm, ly, hlm, lpl, lob, lneg⟩ := lim
  refine ⟨_, _, lm, rfl, rfl, hlm, ?_⟩
  refine sc_set 4 (ec_ix (ec_lst (ac_cons (ec_fld (ec_var 1 rfl ⟨CN, netF C t, natD n, rfl, nc.cl, nc.n1, rfl, ac_cons (ec_neg (ec_int ⟨_, rfl, ac_cons (ec_non (ac_cons (ec_str (ac_nil ⟨by show 4 ≤ 100000; omega, ec_co 0 rfl cT (hr.mono (by omega)) (pass_0 passL) m_take (ac_cons (ec_int (ac_nil ⟨_, rfl, rfl, l1, 4, rfl, rfl, by decide, fun r2 l2 k0 k1 => ?_⟩)))⟩))))⟩))⟩))))) nd
  have odd : ∃ od y, atI [natD n, D.int (-1), D.non, D.str "0"] r2 = some od ∧ PlD od y ∧ isObj od = false ∧ isBelow od (natD n) = false := by
    have : r2 = 0 ∨ r2 = 1 ∨ r2 = 2 ∨ r2 = 3 := by omega
    rcases this with rfl | rfl | rfl | rfl
    · exact ⟨_, _, rfl, .i _, rfl, by simp [isBelow, natD]⟩
    · exact ⟨_, _, rfl, .i _, rfl, by simp [isBelow, natD]⟩
    · exact ⟨_, _, rfl, .n, rfl, rfl⟩
    · exact ⟨_, _, rfl, .s _ (by decide +kernel), rfl, rfl⟩
  obtain ⟨od, oy, hod, opl, oob, onb⟩ := odd
  refine ⟨_, _, od, rfl, rfl, hod, ?_⟩
  have fal : ∀ h ∈ q.fallen, h < n ∧ (h : Int) ∈ p.fallen := fun h hh => ⟨ok.f.lt h hh, (fall_iff pq).mpr hh⟩
  have s1 : PyData.strOk "none" = true := by decide +kernel
  have s2 : PyData.strOk "fallen" = true := by decide +kernel
  have s3 : PyData.strOk "number" = true := by decide +kernel
  have s4 : PyData.strOk "limit" = true := by decide +kernel
  refine sc_for (js := [5]) (ic_range (ec_int ⟨5, rfl, by decide, by decide, ?_⟩) b.range) (passes_of rfl)
  refine ⟨fun i ρ' => ∃ x5 x6 : Option Sl, ρ' = [some (.ow a (.l (iL l2))), some (.im (netD CN C t)), some (.im (lpD q)), some (.im lm), some (.im od), x5, x6, none, none], ⟨none, none, rfl⟩, ?_, ?_⟩
  · rintro i d ρi hid ⟨x5, x6, rfl⟩
    obtain ⟨hin, rfl⟩ := rng_nat (n := 5) hid
    refine gt_name 5 ?_ nd
    refine sc_if (tc_told hu s1 opl (fun Φ h => ec_cf cA hr (pass_0 passL) (m_asked CN C BH IF BN) (ac_cons (ec_var 5 rfl (ac_cons (ec_var 1 rfl (ac_cons (ec_var 4 rfl (ac_cons (ec_var 3 rfl (ac_nil ⟨rfl, i, n, p, od, lm, rfl, h7, .inr (.inl ⟨oob, onb, .inl ⟨rfl, _, rfl, h⟩⟩)⟩)))))))))) (fun Φ h => ec_lst (ac_cons (ec_str (ac_cons (ec_var 4 rfl (ac_cons (ec_bl (ac_nil ⟨by show 3 ≤ 100000; omega, h⟩)))))))) ⟨(fun z => nomatch z), fun _ => sc_nil ?_⟩ rfl)
    refine sc_for (js := [6]) (ic_list (ec_ix (ec_var 2 rfl (ec_int ⟨_, 0, nL q.fallen, rfl, rfl, rfl, _, rfl, ?_⟩)))) (passes_of rfl)
    refine ⟨fun j ρ' => ∃ x6 : Option Sl, ρ' = [some (.ow a (.l (iL l2))), some (.im (netD CN C t)), some (.im (lpD q)), some (.im lm), some (.im od), some (.im (natD i)), x6, none, none], ⟨x6, rfl⟩, ?_, ?_⟩
    · rintro j d ρj hjd ⟨x6, rfl⟩
      rw [List.getElem?_map] at hjd
      obtain ⟨h, hh, rfl⟩ := Option.map_eq_some_iff.mp hjd
      obtain ⟨f1, f2⟩ := fal h (List.mem_of_getElem? hh)
      refine gt_name 6 ?_ nd
      exact sc_if (tc_told hu s2 (PlD.i (h : Int)) (fun Φ k => ec_cf cA hr (pass_0 passL) (m_asked CN C BH IF BN) (ac_cons (ec_var 5 rfl (ac_cons (ec_var 1 rfl (ac_cons (ec_var 6 rfl (ac_cons (ec_var 3 rfl (ac_nil ⟨rfl, i, n, p, natD h, lm, rfl, h7, .inr (.inr ⟨h, rfl, f1, f2, .inr (.inl ⟨rfl, _, rfl, k⟩)⟩)⟩)))))))))) (fun Φ k => ec_lst (ac_cons (ec_str (ac_cons (ec_var 6 rfl (ac_cons (ec_bl (ac_nil ⟨by show 3 ≤ 100000; omega, k⟩)))))))) ⟨(fun z => nomatch z), fun _ => sc_nil (sc_nil ⟨_, rfl⟩)⟩ rfl)
    · rintro ρ2 ⟨x6, rfl⟩
      exact sc_nil ⟨_, _, rfl⟩
  rintro ρ2 ⟨x5, x6, rfl⟩
  let R : En := [some (.ow a (.l (iL l2))), some (.im (netD CN C t)), some (.im (lpD q)), some (.im lm), some (.im od), x5, x6, none, none]
  let k : Nat → Bool := fun x => !decide (x ∈ q.fallen)
  refine sc_for (js := [6]) (ic_list (ec_fc (fc_lcIf [("x", 7)] [7] (ic_range (ec_fld (ec_var 1 rfl ⟨CN, netF C t, natD n, rfl, nc.cl, nc.n1, rfl, n, rfl, by omega, by omega, ?_⟩)) b.range) nd (by decide)))) (passes_of rfl)
  refine ⟨fun _ => R, fun i => ((List.range i).filter k).map natD, R, rfl, rfl, fun i hi => ?_, fun i d hid => ?_, ⟨rfl, fun _ _ h => h, fun i a' o h => ⟨h, _, h⟩⟩, _, rfl, _, rfl, ?_⟩
  · dsimp only; rw [rng_len] at hi; have := filt_len k natD i; omega
  · obtain ⟨hin, rfl⟩ := rng_nat hid
    intro s3 H3 C3 cl3 fp3
    refine gt_name 7 ?_ nd
    intro s4 H4 C4 cl4 fp4
    refine tc_niI (ec_var 7 rfl (ec_ix (ec_var 2 rfl (ec_int ⟨_, 0, nL q.fallen, rfl, rfl, rfl, i, q.fallen.map fun (n : Nat) => (n : Int), rfl, congrArg some (natD_ints _), ?_⟩))))
    rw [mem_nat]
    refine ⟨fun hk => ?_, fun hk => ?_⟩
    · intro s5 H5 C5 cl5 fp5
      refine ec_var 7 rfl ⟨?_, rfl⟩
      dsimp only; rw [filt_snoc, if_pos hk]
    · refine ⟨?_, rfl⟩
      dsimp only; rw [filt_snoc, if_neg (by rw [show k i = false from hk]; simp), List.append_nil]
  rw [rng_len]
  refine ⟨fun i ρ' => ∃ x6 x8 : Option Sl, ρ' = [some (.ow a (.l (iL l2))), some (.im (netD CN C t)), some (.im (lpD q)), some (.im lm), some (.im od), x5, x6, none, x8], ⟨_, _, rfl⟩, ?_, ?_⟩
  · rintro i d ρi hid ⟨x6, x8, rfl⟩
    rw [List.getElem?_map] at hid
    obtain ⟨h, hh, rfl⟩ := Option.map_eq_some_iff.mp hid
    obtain ⟨m1, m2⟩ := List.mem_filter.mp (List.mem_of_getElem? hh)
    have hn := List.mem_range.mp m1
    have hf : h ∉ q.fallen := of_decide_eq_false ((Bool.not_eq_true' _).mp m2)
    have hf' : (h : Int) ∉ p.fallen := fell pq hf
    refine gt_name 6 ?_ nd
    refine sc_if (tc_told hu s3 (PlD.s "limit" s4) (fun Φ z => ec_cf cA hr (pass_0 passL) (m_asked CN C BH IF BN) (ac_cons (ec_int (ac_cons (ec_var 1 rfl (ac_cons (ec_var 6 rfl (ac_cons (ec_var 3 rfl (ac_nil ⟨rfl, 0, n, p, natD h, lm, rfl, h7, .inl ⟨h, rfl, hn, hf', .inl ⟨.inl rfl, lob, .inr ⟨lneg, .inr (.inr ⟨rfl, _, rfl, z⟩)⟩⟩⟩⟩)))))))))) (fun Φ z => ec_lst (ac_cons (ec_str (ac_cons (ec_str (ac_cons (ec_bl (ac_nil ⟨by show 3 ≤ 100000; omega, z⟩)))))))) ⟨(fun z => nomatch z), fun _ => sc_nil ?_⟩ rfl)
    refine sc_if (tc_told hu s3 (PlD.s "limit" s4) (fun Φ z => ec_cf cA hr (pass_0 passL) (m_asked CN C BH IF BN) (ac_cons (ec_int (ac_cons (ec_var 1 rfl (ac_cons (ec_var 6 rfl (ac_cons (ec_var 3 rfl (ac_nil ⟨rfl, 1, n, p, natD h, lm, rfl, h7, .inl ⟨h, rfl, hn, hf', .inl ⟨.inr rfl, lob, .inr ⟨lneg, .inr (.inr ⟨rfl, _, rfl, z⟩)⟩⟩⟩⟩)))))))))) (fun Φ z => ec_lst (ac_cons (ec_str (ac_cons (ec_str (ac_cons (ec_bl (ac_nil ⟨by show 3 ≤ 100000; omega, z⟩)))))))) ⟨(fun z => nomatch z), fun _ => sc_nil ?_⟩ rfl)
    refine sc_if (tc_told hu s1 opl (fun Φ z => ec_cf cA hr (pass_0 passL) (m_asked CN C BH IF BN) (ac_cons (ec_int (ac_cons (ec_var 1 rfl (ac_cons (ec_var 6 rfl (ac_cons (ec_var 4 rfl (ac_nil ⟨rfl, 4, n, p, natD h, od, rfl, h7, .inl ⟨h, rfl, hn, hf', .inr ⟨rfl, .inr (.inl ⟨oob, onb, .inl ⟨rfl, _, rfl, z⟩⟩)⟩⟩⟩)))))))))) (fun Φ z => ec_lst (ac_cons (ec_str (ac_cons (ec_var 4 rfl (ac_cons (ec_bl (ac_nil ⟨by show 3 ≤ 100000; omega, z⟩)))))))) ⟨(fun z => nomatch z), fun _ => sc_nil ?_⟩ rfl)
    refine sc_for (js := [8]) (ic_list (ec_ix (ec_var 2 rfl (ec_int ⟨_, 0, nL q.fallen, rfl, rfl, rfl, _, rfl, ?_⟩)))) (passes_of rfl)
    refine ⟨fun j ρ' => ∃ x8 : Option Sl, ρ' = [some (.ow a (.l (iL l2))), some (.im (netD CN C t)), some (.im (lpD q)), some (.im lm), some (.im od), x5, some (.im (natD h)), none, x8], ⟨x8, rfl⟩, ?_, ?_⟩
    · rintro j d ρj hjd ⟨x8, rfl⟩
      rw [List.getElem?_map] at hjd
      obtain ⟨g, hg, rfl⟩ := Option.map_eq_some_iff.mp hjd
      obtain ⟨f1, f2⟩ := fal g (List.mem_of_getElem? hg)
      refine gt_name 8 ?_ nd
      exact sc_if (tc_told hu s2 (PlD.i (g : Int)) (fun Φ k => ec_cf cA hr (pass_0 passL) (m_asked CN C BH IF BN) (ac_cons (ec_int (ac_cons (ec_var 1 rfl (ac_cons (ec_var 6 rfl (ac_cons (ec_var 8 rfl (ac_nil ⟨rfl, 4, n, p, natD h, natD g, rfl, h7, .inl ⟨h, rfl, hn, hf', .inr ⟨rfl, .inr (.inr ⟨g, rfl, f1, f2, .inr (.inl ⟨rfl, _, rfl, k⟩)⟩)⟩⟩⟩)))))))))) (fun Φ k => ec_lst (ac_cons (ec_str (ac_cons (ec_var 8 rfl (ac_cons (ec_bl (ac_nil ⟨by show 3 ≤ 100000; omega, k⟩)))))))) ⟨(fun z => nomatch z), fun _ => sc_nil (sc_nil ⟨_, rfl⟩)⟩ rfl)
    · rintro ρ3 ⟨x8, rfl⟩
      exact sc_nil ⟨_, _, rfl⟩
  · rintro ρ3 ⟨x6, x8, rfl⟩
    exact sc_ret (ec_bl ⟨_, rfl, hd l2⟩)
end
end T5
namespace T5
open PySem PySem.Spec PyProof.Rows L2 Evl AL
def S_steps (CN C : Addr) (ds : List D) (Ψ : D → Prop) : Prop := ∃ (n : Nat) (p : Pt) (q : Lp) (h : Nat), ds = [netD CN C (mkNt n p), mD (distM n q), natD h] ∧ n ≤ 5 ∧ PQ p q ∧ h < n ∧ h ∉ q.fallen ∧ Ψ (.bl true)
theorem m_steps (CN C : Addr) : MonoF (S_steps CN C) := fun ds Φ Φ' g ⟨n, p, q, h, h1, h2, h3, h4, h5, h6⟩ => ⟨n, p, q, h, h1, h2, h3, h4, h5, g _ h6⟩
theorem oD_tbl (c : Int) : (c < 99 → oD (tbl c) = .int c) ∧ (99 ≤ c → oD (tbl c) = .non) := by
  unfold tbl
  refine ⟨fun h => by rw [if_pos h]; rfl, fun h => by rw [if_neg (by omega)]; rfl⟩
section
variable {P : Program} {w : World} {K : PySem.W.Frag} {mg : Str → Option Value} {base : Heap} {f C CN BH IF : Addr} {fd : FuncData}
abbrev NSt : List Str := ["net", "dist", "house", "told", "x", "trip"]
theorem c_steps (F : FunN K "_law_steps_right" s__law_steps_right f fd) (hm : mg "_law_steps_right" = some (.ref f)) (b : Blt mg) (cD : Cal P w K mg base "distances" 5 (PFn 2 (S_don CN C))) (cI : Cal P w K mg base "_law_int" 1 (PFn 1 S_is_number)) (cR : Cal P w K mg base "round_trip" 7 (PFx 3 (X_rt CN C BH IF))) : Cal P w K mg base "_law_steps_right" 8 (PFn 3 (S_steps CN C)) := by
  have nd : NSt.Nodup := by decide +kernel
  refine cal_fn F hm (N := NSt) (ps := ["net", "dist", "house"]) ⟨rfl, rfl, rfl, nd, rfl, by decide +kernel, by decide +kernel⟩ rfl (fun _ _ _ _ _ _ us hl => match us, hl with | [_, _, _], _ => rfl) ?_
  rintro cdv A outer s H E hr ds Ψ hl ⟨n, p, q, h, rfl, n5, pq, hh, hf, hd⟩
  let t := mkNt n p
  let M := distM n q
  have fm := fm_dist (q := q) (n := n) (by omega)
  have sM : Sq n M := sq_dist n q
  have mM := sM.ok (by omega)
  have hlM : h < M.length := by rw [sM.len]; exact hh
  have xt : NH t h := nh_mk (by omega) hh (fell pq hf)
  have es : steps t.on h = (List.range n).map fun x => tbl (cell M h x) := steps_on (by omega) pq hh hf
  have tl : ((steps t.on h).map oD).length = n := by rw [es]; simp
  have at_ : ∀ x : Nat, x < n → atI ((steps t.on h).map oD) (x : Int) = some (oD (tbl (cell M h x))) := fun x hx => atI_nat (by rw [es, List.getElem?_map, List.getElem?_map, List.getElem?_range hx]; rfl)
  refine sc_set 3 (ec_cf cD (hr.mono (by omega)) (pass_0 passL) (m_don CN C) (ac_cons (ec_var 0 rfl (ac_cons (ec_var 2 rfl (ac_nil ⟨rfl, t, h, rfl, xt, ?_⟩)))))) nd
  refine sc_if (tc_w (wc_or (tc_not (tc_val (ec_isi kit_tup rfl (ec_var 3 rfl ⟨rfl, true, rfl, fun _ => wc_or1 (tc_neS (ec_len (ac_cons (ec_var 3 rfl (ac_nil ⟨_, _, rfl, rfl, ec_len (ac_cons (ec_var 1 rfl (ac_nil ⟨_, _, rfl, rfl, true, ?_, (fun z => nomatch z), fun _ => sc_nil ?_⟩))) b.len⟩))) b.len)), (fun z => nomatch z)⟩) b.isi b.tuple)))))
  · rw [tl, List.length_map, sM.len]
    show some (decide ((n : Int) = (n : Int))) = some true
    rw [decide_eq_true rfl]
  refine sc_for (js := [4]) (ic_range (ec_len (ac_cons (ec_var 1 rfl (ac_nil ⟨_, _, rfl, rfl, n, by rw [List.length_map, sM.len], by omega, by omega, ?_⟩))) b.len) b.range) (passes_of rfl)
  refine ⟨fun i ρ' => ∃ x4 : Option Sl, ρ' = [some (.im (netD CN C t)), some (.im (mD M)), some (.im (natD h)), some (.im (.tup ((steps t.on h).map oD))), x4, none] ∧ ∀ a o, x4 ≠ some (.ow a o), ⟨none, rfl, fun a o z => nomatch z⟩, ?_, ?_⟩
  · rintro i d ρi hid ⟨x4, rfl, _⟩
    obtain ⟨hin, rfl⟩ := rng_nat hid
    have hiM : i < M.length := by rw [sM.len]; exact hin
    refine gt_name 4 ?_ nd
    refine sc_if (tc_ge (ec_ix (ec_ix (ec_var 1 rfl (ec_var 2 rfl ⟨_, _, _, rfl, rfl, mM.at1 hlM, ec_var 4 rfl ⟨_, _, _, rfl, rfl, mM.at2 hlM hiM, ec_int ⟨_, _, rfl, rfl, fun hc => ?_, fun hc => ?_⟩⟩⟩)))))
    · have hc' : (99 : Int) ≤ cell M h i := of_decide_eq_true hc
      refine sc_if (tc_notN (ec_ix (ec_var 3 rfl (ec_var 4 rfl ⟨_, _, _, rfl, rfl, at_ i hin, ?_⟩))))
      rw [(oD_tbl _).2 hc']
      exact ⟨(fun z => nomatch z), fun _ => sc_nil (sc_nil (sc_nil ⟨_, rfl, fun a o z => nomatch z⟩))⟩
    · have hc' : cell M h i < 99 := by have : ¬ ((99 : Int) ≤ cell M h i) := of_decide_eq_false hc; omega
      refine sc_if (tc_w (wc_or (tc_not (tc_val (ec_cf cI (hr.mono (by omega)) (pass_0 passL) m_is_number (ac_cons (ec_ix (ec_var 3 rfl (ec_var 4 rfl ⟨_, _, .int (cell M h i), rfl, rfl, by rw [at_ i hin, (oD_tbl _).1 hc'], ac_nil ⟨rfl, _, rfl, rfl, true, rfl, fun _ => wc_or1 (tc_neS (ec_ix (ec_var 3 rfl (ec_var 4 rfl ⟨_, _, .int (cell M h i), rfl, rfl, by rw [at_ i hin, (oD_tbl _).1 hc'], ec_ix (ec_ix (ec_var 1 rfl (ec_var 2 rfl ⟨_, _, _, rfl, rfl, mM.at1 hlM, ec_var 4 rfl ⟨_, _, _, rfl, rfl, mM.at2 hlM hiM, true, ?_, (fun z => nomatch z), fun _ => sc_nil (sc_nil (sc_nil ⟨_, rfl, fun a o z => nomatch z⟩))⟩⟩)))⟩)))), (fun z => nomatch z)⟩⟩)))))))))
      show some (decide (cell M h i = cell M h i)) = some true
      rw [decide_eq_true rfl]
  rintro ρ2 ⟨x4, rfl, hx4⟩
  let R : En := [some (.im (netD CN C t)), some (.im (mD M)), some (.im (natD h)), some (.im (.tup ((steps t.on h).map oD))), none, none]
  let k : Nat → Bool := fun x => decide (cell M x x = 0)
  refine sc_for (js := [4]) (ic_list (ec_fc (fc_lcIf [("x", 4)] [4] (ic_range (ec_len (ac_cons (ec_var 1 rfl (ac_nil ⟨_, _, rfl, rfl, n, by rw [List.length_map, sM.len], by omega, by omega, ?_⟩))) b.len) b.range) nd (by decide)))) (passes_of rfl)
  refine ⟨fun _ => R, fun i => ((List.range i).filter k).map natD, R, rfl, rfl, fun i hi => ?_, fun i d hid => ?_, ⟨rfl, fun i d hd => ?_, fun i a' o ho => ?_⟩, _, rfl, _, rfl, ?_⟩
  · dsimp only; rw [rng_len] at hi; have := filt_len k natD i; omega
  · obtain ⟨hin, rfl⟩ := rng_nat hid
    have hiM : i < M.length := by rw [sM.len]; exact hin
    intro s3 H3 C3 cl3 fp3
    refine gt_name 4 ?_ nd
    intro s4 H4 C4 cl4 fp4
    refine tc_eqS (ec_ix (ec_ix (ec_var 1 rfl (ec_var 4 rfl ⟨_, _, _, rfl, rfl, mM.at1 hiM, ec_var 4 rfl ⟨_, _, _, rfl, rfl, mM.at2 hiM hiM, ec_int ⟨_, rfl, ?_⟩⟩⟩))))
    refine ⟨fun hk => ?_, fun hk => ?_⟩
    · intro s5 H5 C5 cl5 fp5
      refine ec_var 4 rfl ⟨?_, rfl⟩
      dsimp only; rw [filt_snoc, if_pos hk]
    · refine ⟨?_, rfl⟩
      dsimp only; rw [filt_snoc, if_neg (by rw [show k i = false from hk]; simp), List.append_nil]
  · have : i = 0 ∨ i = 1 ∨ i = 2 ∨ i = 3 ∨ i = 4 ∨ i = 5 ∨ 6 ≤ i := by omega
    rcases this with rfl | rfl | rfl | rfl | rfl | rfl | h6
    · exact hd
    · exact hd
    · exact hd
    · exact hd
    · cases hd
    · cases hd
    · rw [List.getElem?_eq_none (by exact h6)] at hd; cases hd
  · have : i = 0 ∨ i = 1 ∨ i = 2 ∨ i = 3 ∨ i = 4 ∨ i = 5 ∨ 6 ≤ i := by omega
    rcases this with rfl | rfl | rfl | rfl | rfl | rfl | h6
    · cases ho
    · cases ho
    · cases ho
    · cases ho
    · cases ho
    · cases ho
    · rw [List.getElem?_eq_none (by exact h6)] at ho; cases ho
  rw [rng_len]
  refine ⟨fun i ρ' => ∃ x4 x5 : Option Sl, ρ' = [some (.im (netD CN C t)), some (.im (mD M)), some (.im (natD h)), some (.im (.tup ((steps t.on h).map oD))), x4, x5], ⟨_, _, rfl⟩, ?_, ?_⟩
  · rintro i d ρi hid ⟨x4, x5, rfl⟩
    rw [List.getElem?_map] at hid
    obtain ⟨x, hx, rfl⟩ := Option.map_eq_some_iff.mp hid
    obtain ⟨m1, m2⟩ := List.mem_filter.mp (List.mem_of_getElem? hx)
    have hxn := List.mem_range.mp m1
    have hxM : x < M.length := by rw [sM.len]; exact hxn
    have h0 : cell M x x = 0 := of_decide_eq_true m2
    have hxf : x ∉ q.fallen := (fm.fl x x hxn hxn (by show cell M x x < 99; omega)).1
    have b1 : 0 ≤ cell M h x ∧ (cell M h x = 99 ∨ cell M h x ≤ 32) := fin_b n5 fm hh hxn
    have b2 : 0 ≤ cell M x h ∧ (cell M x h = 99 ∨ cell M x h ≤ 32) := fin_b n5 fm hxn hh
    have tr : ∀ o, (trips t h)[x]? = some o → o = sumO (tbl (cell M h x)) (tbl (cell M x h)) := fun o ho => by
      rw [show (trips t h)[x]? = _ from trips_at (by omega) pq hh hf hxn] at ho
      exact (Option.some.inj ho).symm
    refine gt_name 4 ?_ nd
    refine sc_set 5 (ec_cx cR hr (pass_0 passL) (mx_rt CN C BH IF) (ac_cons (ec_var 0 rfl (ac_cons (ec_var 2 rfl (ac_cons (ec_var 4 rfl (ac_nil ⟨rfl, n, p, natD h, natD x, rfl, by omega, .inl ⟨h, rfl, hh, fell pq hf, .inl ⟨x, rfl, hxn, fell pq hxf, fun o ho => ?_⟩⟩⟩)))))))) nd
    have eo := tr o ho
    subst eo
    refine sc_if (tc_ge (ec_add (ec_ix (ec_ix (ec_var 1 rfl (ec_var 2 rfl ⟨_, _, _, rfl, rfl, mM.at1 hlM, ec_var 4 rfl ⟨_, _, _, rfl, rfl, mM.at2 hlM hxM, ec_ix (ec_ix (ec_var 1 rfl (ec_var 4 rfl ⟨_, _, _, rfl, rfl, mM.at1 hxM, ec_var 2 rfl ⟨_, _, _, rfl, rfl, mM.at2 hxM hlM, _, _, rfl, rfl, ec_int ⟨_, _, rfl, rfl, fun hc => ?_, fun hc => ?_⟩⟩⟩)))⟩⟩))))))
    · have hc' : (99 : Int) ≤ cell M h x + cell M x h := of_decide_eq_true hc
      have e : sumO (tbl (cell M h x)) (tbl (cell M x h)) = none := by
        unfold tbl
        by_cases c1 : cell M h x < 99
        · rw [if_pos c1, if_neg (by omega)]; rfl
        · rw [if_neg c1]; rfl
      refine sc_if (tc_notN (ec_var 5 rfl ?_))
      rw [e]
      exact ⟨(fun z => nomatch z), fun _ => sc_nil (sc_nil (sc_nil ⟨_, _, rfl⟩))⟩
    · have hc' : cell M h x + cell M x h < 99 := by have : ¬ ((99 : Int) ≤ cell M h x + cell M x h) := of_decide_eq_false hc; omega
      have e : oD (sumO (tbl (cell M h x)) (tbl (cell M x h))) = .int (cell M h x + cell M x h) := by
        unfold tbl
        rw [if_pos (by omega), if_pos (by omega)]; rfl
      rw [e]
      refine sc_if (tc_w (wc_or (tc_not (tc_val (ec_cf cI (hr.mono (by omega)) (pass_0 passL) m_is_number (ac_cons (ec_var 5 rfl (ac_nil ⟨rfl, _, rfl, rfl, true, rfl, fun _ => wc_or1 (tc_neS (ec_var 5 rfl (ec_add (ec_ix (ec_ix (ec_var 1 rfl (ec_var 2 rfl ⟨_, _, _, rfl, rfl, mM.at1 hlM, ec_var 4 rfl ⟨_, _, _, rfl, rfl, mM.at2 hlM hxM, ec_ix (ec_ix (ec_var 1 rfl (ec_var 4 rfl ⟨_, _, _, rfl, rfl, mM.at1 hxM, ec_var 2 rfl ⟨_, _, _, rfl, rfl, mM.at2 hxM hlM, _, _, rfl, rfl, true, ?_, (fun z => nomatch z), fun _ => sc_nil (sc_nil (sc_nil ⟨_, _, rfl⟩))⟩⟩)))⟩⟩))))))), (fun z => nomatch z)⟩))))))))
      show some (decide (cell M h x + cell M x h = cell M h x + cell M x h)) = some true
      rw [decide_eq_true rfl]
  · rintro ρ3 ⟨x4, x5, rfl⟩
    exact sc_ret (ec_bl hd)
end
end T5
namespace T5
open PySem PySem.Spec PyProof.Rows L2 Evl AL
section
variable {n : Nat} {p : Pt} {q : Lp} {h : Nat}
theorem tbl_some {c k : Int} (e : tbl c = some k) : c < 99 ∧ c = k := by
  unfold tbl at e
  by_cases hc : c < 99
  · rw [if_pos hc] at e; exact ⟨hc, Option.some.inj e⟩
  · rw [if_neg hc] at e; cases e
/-- a house that is reached has one before it -/
theorem pred_on (n5 : n ≤ 5) (pq : PQ p q) (hh : h < n) (hf : h ∉ q.fallen) {x : Nat} (hx : x < n) (hc : cell (distM n q) h x < 99) : 0 ≤ cell (distM n q) h x ∧ (x = h ∨ ∃ u, u < n ∧ cell (distM n q) h u = cell (distM n q) h x - 1 ∧ cell (distM n q) u x ≤ 1 ∧ 0 ≤ cell (distM n q) h u) := by
  have no := mkNt_ok (n := n) p (by omega)
  have lb : (mkNt n p).on.length = n := by simp [mkNt]
  obtain ⟨_, z1, _⟩ := bfs_lv no.ono (show h < (mkNt n p).on.length by rw [lb]; exact hh)
  have es := steps_on (n := n) (by omega) pq hh hf
  have g : (steps (mkNt n p).on h)[x]? = some (some (cell (distM n q) h x)) := by
    rw [es, List.getElem?_map, List.getElem?_range hx]
    show some (tbl _) = _
    unfold tbl; rw [if_pos hc]
  obtain ⟨a, _, b⟩ := z1 x _ g
  refine ⟨a, b.imp id ?_⟩
  rintro ⟨u, ku, hu, e, hm⟩
  obtain ⟨g1, g2, g3, g4⟩ := onD_mem.mp hm
  have ed := edge1 (q := q) (by omega) pq g1 g2 g3 g4
  rw [es, List.getElem?_map, List.getElem?_range g1] at hu
  obtain ⟨c1, c2⟩ := tbl_some (Option.some.inj hu)
  have fm := fm_dist (q := q) (n := n) (by omega)
  have b1 := fin_b n5 fm hh g1
  exact ⟨u, g1, by omega, ed, b1.1⟩
theorem pred_bk (n5 : n ≤ 5) (pq : PQ p q) (hh : h < n) (hf : h ∉ q.fallen) {x : Nat} (hx : x < n) (hc : cell (distM n q) x h < 99) : 0 ≤ cell (distM n q) x h ∧ (x = h ∨ ∃ u, u < n ∧ cell (distM n q) u h = cell (distM n q) x h - 1 ∧ cell (distM n q) x u ≤ 1 ∧ 0 ≤ cell (distM n q) u h) := by
  have no := mkNt_ok (n := n) p (by omega)
  have lb : (mkNt n p).bk.length = n := by simp [mkNt]
  obtain ⟨_, z1, _⟩ := bfs_lv no.bko (show h < (mkNt n p).bk.length by rw [lb]; exact hh)
  have es := steps_bk (n := n) (by omega) pq hh hf
  have g : (steps (mkNt n p).bk h)[x]? = some (some (cell (distM n q) x h)) := by
    rw [es, List.getElem?_map, List.getElem?_range hx]
    show some (tbl _) = _
    unfold tbl; rw [if_pos hc]
  obtain ⟨a, _, b⟩ := z1 x _ g
  refine ⟨a, b.imp id ?_⟩
  rintro ⟨u, ku, hu, e, hm⟩
  obtain ⟨g1, g2, g3, g4⟩ := bkD_mem.mp hm
  have ed := edge1 (q := q) (by omega) pq g2 g1 g3 g4
  rw [es, List.getElem?_map, List.getElem?_range g1] at hu
  obtain ⟨c1, c2⟩ := tbl_some (Option.some.inj hu)
  have fm := fm_dist (q := q) (n := n) (by omega)
  have b1 := fin_b n5 fm g1 hh
  exact ⟨u, g1, by omega, ed, b1.1⟩
theorem chain_on (n5 : n ≤ 5) (pq : PQ p q) (hh : h < n) (hf : h ∉ q.fallen) : ∀ (d x : Nat), x ∈ partL (distM n q) h → cell (distM n q) h x = d → ∃ L : List Nat, L.Nodup ∧ L.length = d + 1 ∧ ∀ y ∈ L, y ∈ partL (distM n q) h ∧ cell (distM n q) h y ≤ d
  | 0, x, hx, e => ⟨[x], by simp, rfl, fun y hy => by have := List.mem_singleton.mp hy; subst this; exact ⟨hx, by omega⟩⟩
  | d + 1, x, hx, e => by
    have fm := fm_dist (q := q) (n := n) (by omega)
    obtain ⟨x1, x2, x3⟩ := (mem_part fm.sq.len).mp hx
    obtain ⟨_, rfl | ⟨u, hu, e1, e2, e3⟩⟩ := pred_on n5 pq hh hf x1 x3
    · have := diag (q := q) (n := n) (by omega) hh hf
      omega
    · have b1 := fin_b n5 fm x1 hh
      have tr := fm.tr x u h x1 x1 hu hh
      have hup : u ∈ partL (distM n q) h := (mem_part fm.sq.len).mpr ⟨hu, by omega, by omega⟩
      obtain ⟨L, l1, l2, l3⟩ := chain_on n5 pq hh hf d u hup (by omega)
      refine ⟨x :: L, List.nodup_cons.mpr ⟨fun hm => ?_, l1⟩, by rw [List.length_cons, l2], fun y hy => ?_⟩
      · have := (l3 x hm).2; omega
      · rcases List.mem_cons.mp hy with rfl | hy
        · exact ⟨hx, by omega⟩
        · have := l3 y hy; exact ⟨this.1, by omega⟩
theorem chain_bk (n5 : n ≤ 5) (pq : PQ p q) (hh : h < n) (hf : h ∉ q.fallen) : ∀ (d x : Nat), x ∈ partL (distM n q) h → cell (distM n q) x h = d → ∃ L : List Nat, L.Nodup ∧ L.length = d + 1 ∧ ∀ y ∈ L, y ∈ partL (distM n q) h ∧ cell (distM n q) y h ≤ d
  | 0, x, hx, e => ⟨[x], by simp, rfl, fun y hy => by have := List.mem_singleton.mp hy; subst this; exact ⟨hx, by omega⟩⟩
  | d + 1, x, hx, e => by
    have fm := fm_dist (q := q) (n := n) (by omega)
    obtain ⟨x1, x2, x3⟩ := (mem_part fm.sq.len).mp hx
    obtain ⟨_, rfl | ⟨u, hu, e1, e2, e3⟩⟩ := pred_bk n5 pq hh hf x1 x2
    · have := diag (q := q) (n := n) (by omega) hh hf
      omega
    · have b1 := fin_b n5 fm hh x1
      have tr := fm.tr x h u x1 x1 hh hu
      have hup : u ∈ partL (distM n q) h := (mem_part fm.sq.len).mpr ⟨hu, by omega, by omega⟩
      obtain ⟨L, l1, l2, l3⟩ := chain_bk n5 pq hh hf d u hup (by omega)
      refine ⟨x :: L, List.nodup_cons.mpr ⟨fun hm => ?_, l1⟩, by rw [List.length_cons, l2], fun y hy => ?_⟩
      · have := (l3 x hm).2; omega
      · rcases List.mem_cons.mp hy with rfl | hy
        · exact ⟨hx, by omega⟩
        · have := l3 y hy; exact ⟨this.1, by omega⟩
/-- a way within a part is shorter than the part -/
theorem trip_le (n5 : n ≤ 5) (pq : PQ p q) (hh : h < n) (hf : h ∉ q.fallen) {x : Nat} (hx : x ∈ partL (distM n q) h) : 0 ≤ cell (distM n q) h x ∧ 0 ≤ cell (distM n q) x h ∧ cell (distM n q) h x + cell (distM n q) x h ≤ 2 * ((partL (distM n q) h).length - 1 : Int) ∧ cell (distM n q) h x + cell (distM n q) x h < 99 := by
  have fm := fm_dist (q := q) (n := n) (by omega)
  obtain ⟨x1, x2, x3⟩ := (mem_part fm.sq.len).mp hx
  have b1 := fin_b n5 fm hh x1
  have b2 := fin_b n5 fm x1 hh
  obtain ⟨d1, e1⟩ := Int.eq_ofNat_of_zero_le b1.1
  obtain ⟨d2, e2⟩ := Int.eq_ofNat_of_zero_le b2.1
  obtain ⟨L1, a1, a2, a3⟩ := chain_on n5 pq hh hf d1 x hx e1
  obtain ⟨L2, c1, c2, c3⟩ := chain_bk n5 pq hh hf d2 x hx e2
  have g1 := nd_le L1 _ a1 fun y hy => (a3 y hy).1
  have g2 := nd_le L2 _ c1 fun y hy => (c3 y hy).1
  refine ⟨b1.1, b2.1, ?_, ?_⟩ <;> omega
theorem trip_zero (n5 : n ≤ 5) (pq : PQ p q) (hh : h < n) (hf : h ∉ q.fallen) {x : Nat} (hx : x ∈ partL (distM n q) h) (e : cell (distM n q) h x = 0) : x = h := by
  have fm := fm_dist (q := q) (n := n) (by omega)
  obtain ⟨x1, x2, x3⟩ := (mem_part fm.sq.len).mp hx
  obtain ⟨_, rfl | ⟨u, hu, e1, e2, e3⟩⟩ := pred_on n5 pq hh hf x1 x3
  · rfl
  · omega
/-- the round trips that there are -/
theorem mem_trips (n5 : n ≤ 5) (pq : PQ p q) (hh : h < n) (hf : h ∉ q.fallen) (m : Int) : some m ∈ trips (mkNt n p) h ↔ ∃ x ∈ partL (distM n q) h, m = cell (distM n q) h x + cell (distM n q) x h := by
  have fm := fm_dist (q := q) (n := n) (by omega)
  have x := nh_mk (n := n) (p := p) (h := h) (by omega) hh (fell pq hf)
  have tl := trips_len x
  constructor
  · intro hm
    obtain ⟨i, hi, e⟩ := List.getElem_of_mem hm
    have hin : i < n := by rw [tl] at hi; exact hi
    have g : (trips (mkNt n p) h)[i]? = some (some m) := by rw [List.getElem?_eq_getElem hi, e]
    rw [trips_at (by omega) pq hh hf hin] at g
    have g := Option.some.inj g
    unfold tbl at g
    by_cases c1 : cell (distM n q) h i < 99
    · by_cases c2 : cell (distM n q) i h < 99
      · rw [if_pos c1, if_pos c2] at g
        exact ⟨i, (mem_part fm.sq.len).mpr ⟨hin, c2, c1⟩, (Option.some.inj g).symm⟩
      · rw [if_pos c1, if_neg c2] at g; cases g
    · rw [if_neg c1] at g; cases g
  · rintro ⟨i, hi, rfl⟩
    obtain ⟨x1, x2, x3⟩ := (mem_part fm.sq.len).mp hi
    refine List.mem_of_getElem? (i := i) ?_
    rw [trips_at (by omega) pq hh hf x1]
    unfold tbl
    rw [if_pos x3, if_pos x2]; rfl
/-- the echo of a limit, out of the part -/
theorem wl_part (n5 : n ≤ 5) (pq : PQ p q) (hh : h < n) (hf : h ∉ q.fallen) (l : Int) : wl (trips (mkNt n p) h) l = (partL (distM n q) h).filter fun x => decide (cell (distM n q) h x + cell (distM n q) x h ≤ l) := by
  have fm := fm_dist (q := q) (n := n) (by omega)
  have x := nh_mk (n := n) (p := p) (h := h) (by omega) hh (fell pq hf)
  have tl : (trips (mkNt n p) h).length = n := trips_len x
  unfold wl partL
  rw [tl, fm.sq.len, List.filter_filter]
  refine List.filter_congr fun i hi => ?_
  have hin := List.mem_range.mp hi
  rw [trips_at (by omega) pq hh hf hin]
  show inL l (sumO _ _) = _
  unfold tbl
  by_cases c1 : cell (distM n q) h i < 99
  · by_cases c2 : cell (distM n q) i h < 99
    · rw [if_pos c1, if_pos c2]
      show decide (_ ≤ l) = _
      simp [c1, c2]
    · rw [if_pos c1, if_neg c2]
      show false = _
      simp [c2]
  · rw [if_neg c1]
    show false = _
    simp [c1]
theorem wl_in (n5 : n ≤ 5) (pq : PQ p q) (hh : h < n) (hf : h ∉ q.fallen) (l : Int) : wl (steps (mkNt n p).bk h) l = (List.range n).filter fun x => decide (cell (distM n q) x h < 99) && decide (cell (distM n q) x h ≤ l) := by
  have es := steps_bk (n := n) (by omega) pq hh hf
  unfold wl
  rw [es, List.length_map, List.length_range]
  refine List.filter_congr fun i hi => ?_
  have hin := List.mem_range.mp hi
  rw [List.getElem?_map, List.getElem?_range hin]
  show inL l (tbl _) = _
  unfold tbl
  by_cases c1 : cell (distM n q) i h < 99
  · rw [if_pos c1]
    show decide (_ ≤ l) = _
    simp [c1]
  · rw [if_neg c1]
    show false = _
    simp [c1]
end
end T5
namespace T5
open PySem PySem.Spec PyProof.Rows L2 Evl AL
theorem filter_one {α : Type} {f : α → Bool} {a : α} : ∀ {l : List α}, l.Nodup → a ∈ l → (∀ x ∈ l, f x = true ↔ x = a) → l.filter f = [a]
  | [], _, h, _ => absurd h List.not_mem_nil
  | b :: l, nd, h, hf => by
    obtain ⟨n1, n2⟩ := List.nodup_cons.mp nd
    rcases List.mem_cons.mp h with rfl | h
    · have : l.filter f = [] := by
        rw [List.filter_eq_nil_iff]
        intro x hx z
        have := (hf x (List.mem_cons_of_mem _ hx)).mp z
        subst this; exact n1 hx
      rw [List.filter_cons_of_pos ((hf a List.mem_cons_self).mpr rfl), this]
    · have hb : ¬ f b = true := fun z => by
        have := (hf b List.mem_cons_self).mp z
        subst this; exact n1 h
      rw [List.filter_cons_of_neg hb]
      exact filter_one n2 h fun x hx => hf x (List.mem_cons_of_mem _ hx)
def limL (n : Nat) : List Int := (List.range (2 * n + 1)).map (fun (i : Nat) => (i : Int)) ++ [1000]
theorem lim_at {n i : Nat} {l : Int} (h : (limL n)[i]? = some l) : (i < 2 * n + 1 ∧ l = i) ∨ (i = 2 * n + 1 ∧ l = 1000) := by
  unfold limL at h
  by_cases hi : i < 2 * n + 1
  · rw [List.getElem?_append_left (by simpa using hi), List.getElem?_map, List.getElem?_range hi] at h
    exact .inl ⟨hi, (Option.some.inj h).symm⟩
  · rw [List.getElem?_append_right (by simpa using hi)] at h
    have hl : i - ((List.range (2 * n + 1)).map (fun (i : Nat) => (i : Int))).length = 0 := by
      have := (List.getElem?_eq_some_iff.mp h).1
      simpa using this
    rw [hl] at h
    have : i - (2 * n + 1) = 0 := by simpa using hl
    exact .inr ⟨by omega, (Option.some.inj h).symm⟩
def S_limits (ds : List D) (Ψ : D → Prop) : Prop := ∃ n : Nat, ds = [natD n] ∧ n ≤ 7 ∧ Ψ (.lst ((limL n).map D.int))
theorem m_limits : MonoF S_limits := fun ds Φ Φ' g ⟨n, h1, h2, h3⟩ => ⟨n, h1, h2, g _ h3⟩
theorem eqv_two (a c : List Int) : PyData.eqv (.list (a.map PyData.int)) (.list (c.map PyData.int)) = decide (a = c) := by
  rw [PyData.eqv]; exact eqv_ints a c
theorem intsN_eq {a c : List Nat} : decide (intsN a = intsN c) = decide (a = c) := by
  refine decide_eq_decide.mpr ⟨fun h => ?_, fun h => by rw [h]⟩
  unfold intsN at h
  exact List.map_inj_right (fun x y e => by omega) |>.mp h
section
variable {P : Program} {w : World} {K : PySem.W.Frag} {mg : Str → Option Value} {base : Heap} {f C CN BH IF BN : Addr} {fd : FuncData}
theorem c_limits (F : FunN K "_law_limits" s__law_limits f fd) (hm : mg "_law_limits" = some (.ref f)) (b : Blt mg) : Cal P w K mg base "_law_limits" 1 (PFn 1 S_limits) := by
  have nd : (["houses"] : List Str).Nodup := by decide +kernel
  refine cal_fn F hm (N := ["houses"]) (ps := ["houses"]) ⟨rfl, rfl, rfl, nd, rfl, by decide +kernel, by decide +kernel⟩ rfl (fun _ _ _ _ _ _ us hl => match us, hl with | [_], _ => rfl) ?_
  rintro cdv A outer s H E hr ds Ψ hl ⟨n, rfl, h7, hd⟩
  refine sc_ret (ec_cat (ec_listRg (ec_add (ec_mul (ec_int (ec_var 0 rfl ⟨2, n, rfl, rfl, .inl ⟨by omega, by omega⟩, ec_int ⟨(2 * n : Int), 1, rfl, rfl, 2 * n + 1, by congr 1, by omega, ?_⟩⟩)))) b.list b.range))
  refine ec_lst (ac_cons (ec_int (ac_nil ⟨by show 1 ≤ 100000; omega, _, _, rfl, rfl, ?_, ?_⟩)))
  · rw [List.length_map, List.length_range]; show 2 * n + 1 + 1 ≤ 100000; omega
  · have e : (List.range (2 * n + 1)).map (fun (i : Nat) => D.int (i : Int)) ++ [D.int 1000] = (limL n).map D.int := by
      unfold limL
      rw [List.map_append, List.map_map]; rfl
    rw [e]; exact hd
abbrev NEc : List Str := ["net", "dist", "house", "houses", "circle", "trips", "x", "span", "last", "limit", "near", "close"]
theorem c_echoes (F : FunN K "_law_echoes_right" s__law_echoes_right f fd) (hm : mg "_law_echoes_right" = some (.ref f)) (b : Blt mg) (hx : mg "max" = none) (lA : Cal P w K mg base "_law_part" 1 (PFn 2 S_lpart)) (lI : Cal P w K mg base "_law_int" 1 (PFn 1 S_is_number)) (lR : Cal P w K mg base "_law_row" 2 (PFn 2 S_row)) (lL : Cal P w K mg base "_law_limits" 1 (PFn 1 S_limits))
    (cA : Cal P w K mg base "part" 6 (PFn 2 (S_part CN C))) (cS : Cal P w K mg base "full_span" 7 (PFx 2 (X_span CN C BH IF))) (cE : Cal P w K mg base "echo" 7 (PFx 3 (X_echo CN C BH IF BN))) (cI : Cal P w K mg base "inner" 6 (PFx 3 (X_inner CN C BH IF BN))) : Cal P w K mg base "_law_echoes_right" 8 (PFn 3 (S_steps CN C)) := by
  have nd : NEc.Nodup := by decide +kernel
  refine cal_fn F hm (N := NEc) (ps := ["net", "dist", "house"]) ⟨rfl, rfl, rfl, nd, rfl, by decide +kernel, by decide +kernel⟩ rfl (fun _ _ _ _ _ _ us hl => match us, hl with | [_, _, _], _ => rfl) ?_
  rintro cdv A outer s H E hr ds Ψ hl ⟨n, p, q, h, rfl, n5, pq, hh, hf, hd⟩
  have hu : (bodyX P w K mg base NEc "_law_echoes_right" (defScope s__law_echoes_right) f cdv A outer s H E).A.units + 64 < cLine := by have := hr.un; omega
  have h7 : n ≤ 7 := by omega
  let M := distM n q
  have fm := fm_dist (q := q) (n := n) (by omega)
  have sM : Sq n M := sq_dist n q
  have mM := sM.ok h7
  have hlM : h < M.length := by rw [sM.len]; exact hh
  have xt : NH (mkNt n p) h := nh_mk h7 hh (fell pq hf)
  let tr : Nat → Int := fun x => cell M h x + cell M x h
  let cir := partL M h
  have cmem : ∀ x ∈ cir, x < n := fun x hx => ((mem_part sM.len).mp hx).1
  have tle : ∀ x ∈ cir, 0 ≤ cell M h x ∧ 0 ≤ cell M x h ∧ tr x ≤ 2 * ((cir.length : Int) - 1) ∧ tr x < 99 := fun x hx => trip_le n5 pq hh hf hx
  have hself : h ∈ cir := part_self n5 hh hf
  have cnd : cir.Nodup := List.Pairwise.filter _ List.nodup_range
  have cpos : 0 < cir.length := List.length_pos_of_mem hself
  have clen : cir.length ≤ n := by
    show (partL M h).length ≤ n
    unfold partL; rw [sM.len]
    have := List.length_filter_le (fun x => decide (cell M x h < 99) && decide (cell M h x < 99)) (List.range n)
    rw [List.length_range] at this; exact this
  have d0 : cell M h h = 0 := diag (by omega) hh hf
  have tself : tr h = 0 := by show cell M h h + cell M h h = 0; omega
  refine sc_set 3 (ec_len (ac_cons (ec_var 1 rfl (ac_nil ⟨_, _, rfl, rfl, ?_⟩))) b.len) nd
  rw [show ((List.map iD M).length : Int) = (n : Int) by rw [List.length_map, sM.len]]
  refine sc_set 4 (ec_cf lA (hr.mono (by omega)) (pass_0 passL) m_lpart (ac_cons (ec_var 1 rfl (ac_cons (ec_var 2 rfl (ac_nil ⟨rfl, M, h, rfl, mM, hlM, ?_⟩)))))) nd
  let R4 : En := [some (.im (netD CN C (mkNt n p))), some (.im (mD M)), some (.im (natD h)), some (.im (natD n)), some (.im (nL cir)), none, none, none, none, none, none, none]
  refine sc_lc 5 [("x", 6)] [6] (ic_list (ec_var 4 rfl ⟨_, rfl, ?_⟩)) nd (by decide)
  refine ⟨fun _ => R4, fun i => ((cir.take i).map tr).map D.int, R4, rfl, rfl, fun i hi => ?_, fun i d hid => ?_, ⟨rfl, fun _ _ h => h, fun i b o h => ⟨h, _, h⟩⟩, fun p5 => ?_⟩
  · rw [List.length_map, List.length_map, List.length_take]; omega
  · rw [List.getElem?_map] at hid
    obtain ⟨x, hxi, rfl⟩ := Option.map_eq_some_iff.mp hid
    have hxn := cmem x (List.mem_of_getElem? hxi)
    have hxM : x < M.length := by rw [sM.len]; exact hxn
    intro s3 H3 C3 cl3 fp3
    refine gt_name 6 ?_ nd
    intro s4 H4 C4 cl4 fp4
    refine ec_add (ec_ix (ec_ix (ec_var 1 rfl (ec_var 2 rfl ⟨_, _, _, rfl, rfl, mM.at1 hlM, ec_var 6 rfl ⟨_, _, _, rfl, rfl, mM.at2 hlM hxM, ec_ix (ec_ix (ec_var 1 rfl (ec_var 6 rfl ⟨_, _, _, rfl, rfl, mM.at1 hxM, ec_var 2 rfl ⟨_, _, _, rfl, rfl, mM.at2 hxM hlM, _, _, rfl, rfl, ?_, rfl⟩⟩)))⟩⟩))))
    dsimp only
    rw [List.take_add_one, hxi, List.map_append, List.map_append]; rfl
  dsimp only
  rw [List.length_map, List.take_length]
  refine sc_set 7 (ec_cx cS hr (pass_0 passL) (mx_span CN C BH IF) (ac_cons (ec_var 0 rfl (ac_cons (ec_var 2 rfl (ac_nil ⟨rfl, n, p, natD h, rfl, h7, .inl ⟨h, rfl, hh, fell pq hf, zero_in n5 pq hh hf, fun sp hs1 hs2 => ?_⟩⟩)))))) nd
  obtain ⟨xm, hxm, esp⟩ := (mem_trips n5 pq hh hf sp).mp hs1
  have smax : ∀ x ∈ cir, tr x ≤ sp := fun x hx => hs2 _ ((mem_trips n5 pq hh hf _).mpr ⟨x, hx, rfl⟩)
  have esp' : sp = tr xm := esp
  have zero : (sp = 0) ↔ cir.length = 1 := by
    constructor
    · intro z
      have all : ∀ x ∈ cir, x = h := fun x hx => trip_zero n5 pq hh hf hx (by have := smax x hx; have := tle x hx; have e : tr x = cell M h x + cell M x h := rfl; show cell M h x = 0; omega)
      have := nd_le cir [h] cnd (fun x hx => List.mem_singleton.mpr (all x hx))
      simp at this; omega
    · intro z
      obtain ⟨y, hy⟩ := List.length_eq_one_iff.mp z
      have e1 : h = y := by rw [hy] at hself; exact List.mem_singleton.mp hself
      have e2 : xm = y := by have hxm' : xm ∈ cir := hxm; rw [hy] at hxm'; exact List.mem_singleton.mp hxm'
      rw [esp', e2, ← e1]; exact tself
  refine sc_if (tc_w (wc_or (tc_not (tc_val (ec_cf lI (hr.mono (by omega)) (pass_0 passL) m_is_number (ac_cons (ec_var 7 rfl (ac_nil ⟨rfl, _, rfl, rfl, true, rfl, fun _ => ?_, (fun z => nomatch z)⟩))))))))
  refine wc_or (tc_neS (ec_var 7 rfl (ec_cb (cr_max rfl) (by decide +kernel) hx (ac_cons (ec_frz 5 rfl (ac_nil ⟨_, gb_max (ns := cir.map tr) (by rw [List.length_map]; exact cpos), ?_⟩))))))
  rintro d ⟨m2, rfl, hm2, hle2⟩
  have em : m2 = sp := by
    obtain ⟨x2, hx2, rfl⟩ := List.mem_map.mp hm2
    have h1 := smax x2 hx2
    have h2 := hle2 (tr xm) (List.mem_map.mpr ⟨xm, hxm, rfl⟩)
    omega
  subst em
  refine ⟨true, by show some (decide (m2 = m2)) = some true; rw [decide_eq_true rfl], fun _ => ?_, (fun z => nomatch z)⟩
  refine wc_or (tc_gt (ec_var 7 rfl (ec_mul (ec_int (ec_sub (ec_len (ac_cons (ec_var 4 rfl (ac_nil ⟨_, _, rfl, rfl, ec_int ⟨_, _, rfl, rfl, 2, ((cir.length : Int) - 1), rfl, by rw [List.length_map], .inl ⟨by omega, by omega⟩, _, _, rfl, rfl, ?_⟩⟩))) b.len))))))
  rw [decide_eq_false (by have := (tle xm hxm).2.2.1; omega)]
  refine ⟨fun _ => ?_, (fun z => nomatch z)⟩
  refine wc_or1 (tc_neS (ec_eqS (ec_var 7 rfl (ec_int ⟨_, rfl, ec_eqS (ec_len (ac_cons (ec_var 4 rfl (ac_nil ⟨_, _, rfl, rfl, ec_int ⟨_, rfl, true, ?_, (fun z => nomatch z), fun _ => sc_nil ?_⟩⟩))) b.len)⟩))))
  · rw [List.length_map]
    have e : decide (m2 = 0) = decide ((cir.length : Int) = 1) := decide_eq_decide.mpr (zero.trans ⟨fun z => by omega, fun z => by omega⟩)
    rw [e]
    show some (decide (decide ((cir.length : Int) = 1) = decide ((cir.length : Int) = 1))) = some true
    rw [decide_eq_true rfl]
  have e2 : ((reachL (mkNt n p).bk h).filter fun k => decide (k ∈ reachL (mkNt n p).on h)) = intsN cir := part_eq (by omega) pq hh hf
  refine sc_if (tc_neD hu (ec_cty call_list_of boot_list b.list (ac_cons (ec_cf cA (hr.mono (by omega)) (pass_0 passL) (m_part CN C) (ac_cons (ec_var 0 rfl (ac_cons (ec_var 2 rfl (ac_nil ⟨rfl, mkNt n p, h, rfl, xt.ok, hh, xt.al, ac_nil ⟨_, gb_list rfl, ?_⟩⟩)))))))) (hm := rfl))
  rintro d rfl
  refine ec_var 4 rfl ⟨.list ((intsN cir).map PyData.int), _, by rw [e2, ez_nL]; exact py_nL _, py_nL _, shp_nL _, shp_nL _, ?_⟩
  rw [eqv_nL]
  refine ⟨(fun z => nomatch z), fun _ => sc_nil ?_⟩
  refine sc_set 8 (ec_lst (ac_nil ⟨by decide, ?_⟩)) nd
  let T : List D := (cir.map tr).map D.int
  have npw : ∀ l, (intsN (wl (trips (mkNt n p) h) l)).Pairwise (· < ·) := fun l => filt_pw _ _
  have nbd : ∀ l, ∀ x ∈ intsN (wl (trips (mkNt n p) h) l), 0 ≤ x ∧ x < (n : Int) := fun l x hx => by
    have := filt_bd _ _ x hx
    rw [trips_len xt] at this; exact this
  have nlen : ∀ l, (wl (trips (mkNt n p) h) l).length ≤ 1000 := fun l => by
    rw [wl_part n5 pq hh hf l]
    have h1 : (cir.filter fun x => decide (tr x ≤ l)).length ≤ cir.length := List.length_filter_le _ _
    exact Nat.le_trans h1 (by omega)
  have ner : ∀ l, wl (trips (mkNt n p) h) l = cir.filter fun x => decide (tr x ≤ l) := fun l => wl_part n5 pq hh hf l
  refine sc_for (js := [9]) (ic_list (ec_cf lL (hr.mono (by omega)) (pass_0 passL) m_limits (ac_cons (ec_var 3 rfl (ac_nil ⟨rfl, n, rfl, h7, _, rfl, ?_⟩))))) (passes_of rfl)
  refine ⟨fun i ρ' => ∃ (la : List Nat) (x9 x10 x11 : Option Sl), la.length ≤ 1000 ∧ (∀ x ∈ la, x ∈ cir ∧ ∀ l, (limL n)[i]? = some l → tr x ≤ l) ∧ ρ' = [some (.im (netD CN C (mkNt n p))), some (.im (mD M)), some (.im (natD h)), some (.im (natD n)), some (.im (nL cir)), some (.im (.lst T)), none, some (.im (.int m2)), some (.im (nL la)), x9, x10, x11], ⟨[], none, none, none, by decide, (fun x hx => absurd hx List.not_mem_nil), rfl⟩, ?_, ?_⟩
  · rintro i d ρi hid ⟨la, x9, x10, x11, hla, hin, rfl⟩
    rw [List.getElem?_map] at hid
    obtain ⟨l, hli, rfl⟩ := Option.map_eq_some_iff.mp hid
    have l0 : 0 ≤ l := by rcases lim_at hli with ⟨_, rfl⟩ | ⟨_, rfl⟩ <;> omega
    have pw := npw l
    have bd := nbd l
    have nl := nlen l
    have nf := ner l
    refine gt_name 9 ?_ nd
    refine sc_set 10 (ec_cx cE hr (pass_0 passL) (mx_echo CN C BH IF BN) (ac_cons (ec_var 0 rfl (ac_cons (ec_var 2 rfl (ac_cons (ec_var 9 rfl (ac_nil ⟨rfl, n, p, natD h, .int l, rfl, h7, .inl ⟨h, rfl, hh, fell pq hf, rfl, .inl ⟨l, rfl, l0, ?_⟩⟩⟩)))))))) nd
    dsimp only
    generalize wl (trips (mkNt n p) h) l = nr at pw bd nl nf ⊢
    let R10 : En := [some (.im (netD CN C (mkNt n p))), some (.im (mD M)), some (.im (natD h)), some (.im (natD n)), some (.im (nL cir)), some (.im (.lst T)), none, some (.im (.int m2)), some (.im (nL la)), some (.im (.int l)), some (.im (rowD nr)), x11]
    refine sc_if (tc_w (wc_or (tc_not (tc_val (ec_cf lR (hr.mono (by omega)) (pass_0 passL) m_row (ac_cons (ec_var 10 rfl (ac_cons (ec_var 3 rfl (ac_nil ⟨rfl, intsN nr, n, by rw [row_ints]; rfl, pw, bd, true, rfl, fun _ => ?_, (fun z => nomatch z)⟩))))))))))
    refine wc_or1 (tc_neD hu (ec_cty call_list_of boot_list b.list (ac_cons (ec_var 10 rfl (ac_nil ⟨_, gb_list rfl, ?_⟩)))) (hm := rfl))
    rintro d rfl
    refine ec_fc (fc_lcIf [("x", 6)] [6] (ic_list (ec_var 4 rfl ⟨_, rfl, ?_⟩)) nd (by decide))
    refine ⟨fun _ => R10, fun i => ((cir.take i).filter fun x => decide (tr x ≤ l)).map natD, R10, rfl, rfl, fun i hi => ?_, fun i' d hid => ?_, ⟨rfl, fun _ _ h => h, fun i a' o h => ⟨h, _, h⟩⟩, _, rfl, ?_⟩
    · rw [List.length_map]
      have h1 := List.length_filter_le (fun x => decide (tr x ≤ l)) (cir.take i)
      rw [List.length_take] at h1; omega
    · rw [List.getElem?_map] at hid
      obtain ⟨x, hxi, rfl⟩ := Option.map_eq_some_iff.mp hid
      have hxn := cmem x (List.mem_of_getElem? hxi)
      have hxM : x < M.length := by rw [sM.len]; exact hxn
      have go : ∀ v, decide (tr x ≤ l) = v → ((cir.take (i' + 1)).filter fun x => decide (tr x ≤ l)).map natD = ((cir.take i').filter fun x => decide (tr x ≤ l)).map natD ++ (if v then [natD x] else []) := fun v e => by
        rw [List.take_add_one, hxi]
        show ((_ ++ [x]).filter _).map natD = _
        rw [List.filter_append, List.map_append]
        cases v <;> simp [e]
      intro s3 H3 C3 cl3 fp3
      refine gt_name 6 ?_ nd
      intro s4 H4 C4 cl4 fp4
      refine tc_le (ec_add (ec_ix (ec_ix (ec_var 1 rfl (ec_var 2 rfl ⟨_, _, _, rfl, rfl, mM.at1 hlM, ec_var 6 rfl ⟨_, _, _, rfl, rfl, mM.at2 hlM hxM, ec_ix (ec_ix (ec_var 1 rfl (ec_var 6 rfl ⟨_, _, _, rfl, rfl, mM.at1 hxM, ec_var 2 rfl ⟨_, _, _, rfl, rfl, mM.at2 hxM hlM, _, _, rfl, rfl, ec_var 9 rfl ⟨_, _, rfl, rfl, fun hk => ?_, fun hk => ?_⟩⟩⟩)))⟩⟩)))))
      · intro s5 H5 C5 cl5 fp5
        exact ec_var 6 rfl ⟨go true hk, rfl⟩
      · exact ⟨(go false hk).trans (List.append_nil _), rfl⟩
    dsimp only
    rw [List.length_map, List.take_length, ← nf]
    refine ⟨_, _, py_nL nr, py_nL nr, shp_nL _, shp_nL _, ?_⟩
    rw [eqv_nL]
    refine ⟨(fun z => nomatch z), fun _ => sc_nil ?_⟩
    refine sc_if (tc_w (wc_or (tc_gt (ec_len (ac_cons (ec_fc (fc_lcIf [("x", 6)] [6] (ic_list (ec_var 8 rfl ⟨_, rfl, ?_⟩)) nd (by decide)))) b.len))))
    refine ⟨fun _ => R10, fun i => [], R10, rfl, rfl, fun i hi => by show 0 ≤ 50000; omega, fun i' d hid => ?_, ⟨rfl, fun _ _ h => h, fun i a' o h => ⟨h, _, h⟩⟩, _, rfl, ac_nil ⟨_, _, rfl, rfl, ec_int ⟨_, _, rfl, rfl, fun _ => ?_, (fun z => nomatch z)⟩⟩⟩
    · rw [List.getElem?_map] at hid
      obtain ⟨x, hxi, rfl⟩ := Option.map_eq_some_iff.mp hid
      obtain ⟨c1, c2⟩ := hin x (List.mem_of_getElem? hxi)
      have hm : (x : Int) ∈ intsN nr := mem_intsN.mpr (by rw [nf]; exact List.mem_filter.mpr ⟨c1, decide_eq_true (c2 l hli)⟩)
      intro s3 H3 C3 cl3 fp3
      refine gt_name 6 ?_ nd
      intro s4 H4 C4 cl4 fp4
      refine tc_niI (ec_var 6 rfl (ec_var 10 rfl ⟨(x : Int), intsN nr, rfl, items_row _, ?_⟩))
      rw [decide_eq_true hm]
      exact ⟨(fun z => nomatch z), fun _ => ⟨rfl, rfl⟩⟩
    refine wc_or1 (tc_neS (ec_eqD hu (ec_cty call_list_of boot_list b.list (ac_cons (ec_var 10 rfl (ac_nil ⟨_, gb_list rfl, ?_⟩)))) (hm := rfl)))
    rintro d rfl
    refine ec_var 4 rfl ⟨_, _, py_nL nr, py_nL cir, shp_nL _, shp_nL _, ?_⟩
    rw [eqv_two, intsN_eq]
    have same : decide (nr = cir) = decide (m2 ≤ l) := by
      refine decide_eq_decide.mpr ⟨fun z => ?_, fun z => ?_⟩
      · have hxm' : xm ∈ nr := by rw [z]; exact hxm
        rw [nf] at hxm'
        have := of_decide_eq_true (List.mem_filter.mp hxm').2
        omega
      · rw [nf]
        exact List.filter_eq_self.mpr fun x hx => decide_eq_true (by have := smax x hx; omega)
    refine ec_ge (ec_var 9 rfl (ec_var 7 rfl ⟨_, _, rfl, rfl, true, ?_, (fun z => nomatch z), fun _ => sc_nil ?_⟩))
    · rw [same]
      show some (decide (decide (m2 ≤ l) = decide (m2 ≤ l))) = some true
      rw [decide_eq_true rfl]
    refine sc_ifj (fun ρ' => ρ' = R10) (tc_w (wc_and (tc_eqS (ec_var 9 rfl (ec_int ⟨_, rfl, fun hz => ?_, fun _ => ⟨(fun z => nomatch z), fun _ => sc_nil rfl⟩⟩))))) ?_
    · have hl0 : l = 0 := of_decide_eq_true hz
      have e0 : nr = [h] := by
        rw [nf]
        refine filter_one cnd hself fun x hx => ?_
        rw [decide_eq_true_eq]
        constructor
        · intro z
          have := tle x hx
          have e : tr x = cell M h x + cell M x h := rfl
          exact trip_zero n5 pq hh hf hx (show cell M h x = 0 by omega)
        · rintro rfl; omega
      refine wc_and1 (tc_neD hu (ec_var 10 rfl (ec_tup (ac_cons (ec_var 2 rfl (ac_nil ⟨by show 1 ≤ 100000; omega, pyI [(h : Int)], pyI [(h : Int)], by rw [e0]; exact py_tupI [(h : Int)], py_tupI [(h : Int)], shp_row _, shp_row _, ?_⟩))))) (hm := rfl))
      rw [eqv_tupI, decide_eq_true rfl]
      exact ⟨(fun z => nomatch z), fun _ => sc_nil rfl⟩
    rintro ρ2 rfl
    refine sc_set 8 (ec_cty call_list_of boot_list b.list (ac_cons (ec_var 10 rfl (ac_nil ⟨_, gb_list rfl, ?_⟩)))) nd
    rintro d rfl
    refine sc_set 11 (ec_cx cI (hr.mono (by omega)) (pass_0 passL) (mx_inner CN C BH IF BN) (ac_cons (ec_var 0 rfl (ac_cons (ec_var 2 rfl (ac_cons (ec_var 9 rfl (ac_nil ⟨rfl, n, p, natD h, .int l, rfl, h7, .inl ⟨h, rfl, hh, fell pq hf, rfl, .inl ⟨l, rfl, l0, ?_⟩⟩⟩)))))))) nd
    dsimp only
    rw [wl_in n5 pq hh hf l]
    let k : Nat → Bool := fun x => decide (cell M x h < 99) && decide (cell M x h ≤ l)
    let cl : List Nat := (List.range n).filter k
    let R11 : En := [some (.im (netD CN C (mkNt n p))), some (.im (mD M)), some (.im (natD h)), some (.im (natD n)), some (.im (nL cir)), some (.im (.lst T)), none, some (.im (.int m2)), some (.im (nL nr)), some (.im (.int l)), some (.im (rowD nr)), some (.im (rowD cl))]
    refine sc_if (tc_not (tc_val (ec_cf lR (hr.mono (by omega)) (pass_0 passL) m_row (ac_cons (ec_var 11 (d := rowD cl) rfl (ac_cons (ec_var 3 rfl (ac_nil ⟨rfl, intsN cl, n, by rw [row_ints]; rfl, filt_pw _ _, filt_bd _ _, true, rfl, (fun z => nomatch z), fun _ => sc_nil ?_⟩))))))))
    refine sc_if (tc_neD hu (ec_cty call_list_of boot_list b.list (ac_cons (ec_var 11 (d := rowD cl) rfl (ac_nil ⟨_, gb_list rfl, ?_⟩)))) (hm := rfl))
    rintro d rfl
    refine ec_fc (fc_lcIf [("x", 6)] [6] (ic_range (ec_var 3 rfl ⟨n, rfl, by omega, by omega, ?_⟩) b.range) nd (by decide))
    refine ⟨fun _ => R11, fun i => ((List.range i).filter k).map natD, R11, rfl, rfl, fun i hi => ?_, fun i' d hid => ?_, ⟨rfl, fun _ _ h => h, fun i a' o h => ⟨h, _, h⟩⟩, _, rfl, ?_⟩
    · dsimp only; rw [rng_len] at hi; have := filt_len k natD i; omega
    · obtain ⟨hin', rfl⟩ := rng_nat hid
      have hiM : i' < M.length := by rw [sM.len]; exact hin'
      intro s3 H3 C3 cl3 fp3
      refine gt_name 6 ?_ nd
      intro s4 H4 C4 cl4 fp4
      have go : ∀ v, k i' = v → ((List.range (i' + 1)).filter k).map natD = ((List.range i').filter k).map natD ++ (if v then [natD i'] else []) := fun v e => by rw [filt_snoc, e]
      refine tc_w (wc_and (tc_lt (ec_ix (ec_ix (ec_var 1 rfl (ec_var 6 rfl ⟨_, _, _, rfl, rfl, mM.at1 hiM, ec_var 2 rfl ⟨_, _, _, rfl, rfl, mM.at2 hiM hlM, ec_int ⟨_, _, rfl, rfl, ?_⟩⟩⟩))))))
      cases h1 : decide (cell M i' h < 99) with
      | false =>
        refine ⟨(fun z => nomatch z), fun _ => ⟨(fun z => nomatch z), fun _ => ⟨(go false (by show (decide (cell M i' h < 99) && _) = false; rw [h1]; rfl)).trans (List.append_nil _), rfl⟩⟩⟩
      | true =>
        refine ⟨fun _ => wc_and1 (tc_le (ec_ix (ec_ix (ec_var 1 rfl (ec_var 6 rfl ⟨_, _, _, rfl, rfl, mM.at1 hiM, ec_var 2 rfl ⟨_, _, _, rfl, rfl, mM.at2 hiM hlM, ec_var 9 rfl ⟨_, _, rfl, rfl, fun hk => ?_, fun hk => ?_⟩⟩⟩))))), (fun z => nomatch z)⟩
        · intro s5 H5 C5 cl5 fp5
          exact ec_var 6 rfl ⟨go true (by show (decide (cell M i' h < 99) && decide (cell M i' h ≤ l)) = true; rw [h1, hk]; rfl), rfl⟩
        · exact ⟨(go false (by show (decide (cell M i' h < 99) && decide (cell M i' h ≤ l)) = false; rw [h1, hk]; rfl)).trans (List.append_nil _), rfl⟩
    rw [rng_len]
    refine ⟨_, _, py_nL cl, py_nL cl, shp_nL _, shp_nL _, ?_⟩
    rw [eqv_nL]
    refine ⟨(fun z => nomatch z), fun _ => sc_nil (sc_nil ⟨nr, _, _, _, nl, fun x hx => ?_, rfl⟩)⟩
    rw [nf] at hx
    obtain ⟨g1, g2⟩ := List.mem_filter.mp hx
    refine ⟨g1, fun l' hl' => ?_⟩
    have g3 : tr x ≤ l := of_decide_eq_true g2
    rcases lim_at hli with ⟨a1, a2⟩ | ⟨a1, a2⟩ <;> rcases lim_at hl' with ⟨b1, b2⟩ | ⟨b1, b2⟩ <;> omega
  · rintro ρ2 ⟨la, x9, x10, x11, _, _, rfl⟩
    exact sc_ret (ec_bl hd)
end
end T5
namespace T5
open PySem PySem.Spec PyProof.Rows L2 Evl AL
/-- the houses of a row or ring, renamed -/
def nmL (n t : Nat) (rev : Bool) : List Nat := if rev then ((List.range n).map fun x => (x + t) % n).reverse else (List.range n).map fun x => (x + t) % n
def rowL (ns : List Nat) (n : Nat) : List (Nat × Nat) := (List.range (n - 1)).map fun x => (ns.getD x 0, ns.getD (x + 1) 0)
def lstL (ns : List Nat) (n : Nat) (ring : Bool) : List (Nat × Nat) := if ring then rowL ns n ++ [(ns.getD (n - 1) 0, ns.getD 0 0)] else rowL ns n ++ (rowL ns n).map fun l => (l.2, l.1)
def silL (ns : List Nat) (n : Nat) (ring : Bool) : List (Nat × Nat) := (lkTo n n).filter fun l => !decide (l ∈ lstL ns n ring)
theorem nm_len (n t : Nat) (rev : Bool) : (nmL n t rev).length = n := by unfold nmL; cases rev <;> simp
def shD (n t : Nat) (rev ring : Bool) : D := .lst [nL (nmL n t rev), .bl ring, .lst ((silL (nmL n t rev) n ring).map pN)]
def S_shape (o : OO) (ds : List D) (Ψ : D → OO → Prop) : Prop := ∃ l : List Int, o = .l (iL l) ∧ ds = [] ∧ ∀ (n t : Nat) (rev ring : Bool) (l' : List Int), 1 ≤ n → n ≤ 7 → t < n → (ring = true → 2 ≤ n) → Ψ (shD n t rev ring) (.l (iL l'))
theorem m_shape : MonoO S_shape := fun o ds Φ Φ' h ⟨l, h1, h2, h3⟩ => ⟨l, h1, h2, fun n t a b l' c d e g => h _ _ (h3 n t a b l' c d e g)⟩
section
variable {X : Cx} {Z : Zx} {a b : Expr} {ρ : En} {Φ : D → En → Prop} {pos : Pos} {B : Bool}
/-- a and b, b of one value wherever it is asked -/
theorem ec_andQ (h : EC X Z a ρ fun d ρ1 => ∃ k, d = .bl k ∧ (∀ Φ' : D → En → Prop, Φ' (.bl B) ρ1 → EC X Z b ρ1 Φ') ∧ Φ (.bl (k && B)) ρ1) : EC X Z (.BoolOp .And [a, b] pos) ρ Φ := by
  refine ec_and (h.mono fun d ρ1 z => ?_)
  obtain ⟨k, e, hb, hk⟩ := z
  refine ⟨k, e, fun z => ec_one (hb _ ?_), fun z => ?_⟩
  · subst z; exact hk
  · subst z; exact hk
end
section
variable {P : Program} {w : World} {K : PySem.W.Frag} {mg : Str → Option Value} {base : Heap} {f C CN BH IF BN : Addr} {fd : FuncData}
abbrev NSh : List Str := ["pool", "size", "turn", "names", "x", "lasting", "ring", "link", "silent"]
theorem c_shape (F : FunN K "_law_shape" s__law_shape f fd) (hm : mg "_law_shape" = some (.ref f)) (b : Blt mg) (cT : Cal P w K mg base "_law_take" 1 (PFo 1 S_take)) (cL : Cal P w K mg base "_law_links" 1 (PFn 1 S_links)) : Cal P w K mg base "_law_shape" 2 (PFo 0 S_shape) := by
  have nd : NSh.Nodup := by decide +kernel
  refine cal_fo F hm (N := NSh) (ps := ["pool"]) ⟨rfl, rfl, rfl, nd, rfl, by decide +kernel, by decide +kernel⟩ rfl (fun _ _ _ _ _ _ us hl => match us, hl with | [_], _ => rfl) ?_
  rintro cdv A outer s H E hr a o ds Ψ hl ⟨l0, rfl, rfl, hd⟩
  have hu : (bodyX P w K mg base NSh "_law_shape" (defScope s__law_shape) f cdv A outer s H E).A.units + 65 < cLine := by have := hr.un; omega
  refine sc_set 1 (ec_add (ec_int (ec_co 0 rfl cT (hr.mono (by omega)) (pass_0 passL) m_take (ac_cons (ec_int (ac_nil ⟨_, rfl, rfl, l0, 7, rfl, rfl, by decide, fun r l1 g0 g1 => ⟨_, _, rfl, rfl, ?_⟩⟩)))))) nd
  obtain ⟨n', rfl⟩ := Int.eq_ofNat_of_zero_le g0
  have en : (1 + (n' : Int)) = ((n' + 1 : Nat) : Int) := by omega
  rw [en]
  generalize hn : n' + 1 = n
  have hn1 : 1 ≤ n := by omega
  have h7 : n ≤ 7 := by omega
  refine sc_set 2 (ec_co 0 rfl cT (hr.mono (by omega)) (pass_0 passL) m_take (ac_cons (ec_var 1 (d := natD n) rfl (ac_nil ⟨_, rfl, rfl, l1, (n : Int), rfl, rfl, by omega, fun r2 l2 k0 k1 => ?_⟩)))) nd
  obtain ⟨t, rfl⟩ := Int.eq_ofNat_of_zero_le k0
  have ht : t < n := by omega
  let R2 : En := [some (.ow a (.l (iL l2))), some (.im (natD n)), some (.im (natD t)), none, none, none, none, none, none]
  refine sc_own 3 (fc_lc [("x", 4)] [4] (ic_range (ec_var 1 (d := natD n) rfl ⟨n, rfl, by omega, by omega, ?_⟩) b.range) nd (by decide)) nd
  refine ⟨fun _ => R2, fun i => ((List.range i).map fun x => (x + t) % n).map natD, R2, rfl, rfl, fun i hi => ?_, fun i d hid => ?_, ⟨rfl, fun _ _ h => h, fun i b o h => ⟨h, _, h⟩⟩, fun p3 => ?_⟩
  · rw [rng_len] at hi
    rw [List.length_map, List.length_map, List.length_range]; omega
  · obtain ⟨hin, rfl⟩ := rng_nat hid
    intro s3 H3 C3 cl3 fp3
    refine gt_name 4 ?_ nd
    intro s4 H4 C4 cl4 fp4
    refine ec_mod (ec_cty call_int1 rfl b.int (ac_cons (ec_add (ec_var 4 rfl (ec_var 2 (d := natD t) rfl ⟨_, _, rfl, rfl, ac_nil ⟨_, gb_int, ?_⟩⟩)))))
    rintro d rfl
    refine ec_var 1 (d := natD n) rfl ⟨_, _, rfl, rfl, by omega, ?_, rfl⟩
    dsimp only
    rw [List.range_succ, List.map_append, List.map_append]
    congr 1
  dsimp only
  rw [rng_len]
  refine sc_ifj (fun ρ' => ∃ (l' : List Int) (rev : Bool), ρ' = [some (.ow a (.l (iL l'))), some (.im (natD n)), some (.im (natD t)), some (.ow p3 (.l ((nmL n t rev).map natD))), none, none, none, none, none]) (tc_eqS (ec_co 0 rfl cT (hr.mono (by omega)) (pass_0 passL) m_take (ac_cons (ec_int (ac_nil ⟨_, rfl, rfl, l2, 2, rfl, rfl, by decide, fun r3 l3 _ _ => ec_int ⟨_, rfl, fun _ => ?_, fun _ => sc_nil ⟨l3, false, rfl⟩⟩⟩))))) ?_
  · refine sc_rev 3 rfl (sc_nil ⟨l3, true, ?_⟩)
    have e : (nmL n t true).map natD = (((List.range n).map fun x => (x + t) % n).map natD).reverse := List.map_reverse
    rw [e]; rfl
  rintro ρ2 ⟨l4, rev, rfl⟩
  generalize hns : nmL n t rev = ns
  have nsl : ns.length = n := by rw [← hns]; exact nm_len n t rev
  refine sc_frz 3 rfl ?_
  have at_ : ∀ x : Nat, x < n → atI (ns.map natD) (x : Int) = some (natD (ns.getD x 0)) := fun x hx => atI_nat (by rw [List.getElem?_map, List.getD_eq_getElem?_getD, List.getElem?_eq_getElem (by rw [nsl]; exact hx)]; rfl)
  let R3 : En := [some (.ow a (.l (iL l4))), some (.im (natD n)), some (.im (natD t)), some (.im (nL ns)), none, none, none, none, none]
  refine sc_own 5 (fc_lc [("x", 4)] [4] (ic_range (ec_sub (ec_var 1 (d := natD n) rfl (ec_int ⟨_, _, rfl, rfl, (n : Int) - 1, rfl, by omega, by omega, ?_⟩))) b.range) nd (by decide)) nd
  rw [show ((n : Int) - 1).toNat = ((n - 1 : Nat) : Int).toNat by omega]
  refine ⟨fun _ => R3, fun i => ((List.range i).map fun x => (ns.getD x 0, ns.getD (x + 1) 0)).map pN, R3, rfl, rfl, fun i hi => ?_, fun i d hid => ?_, ⟨rfl, fun _ _ h => h, fun i b o h => ⟨h, _, h⟩⟩, fun p5 => ?_⟩
  · rw [rng_len] at hi
    rw [List.length_map, List.length_map, List.length_range]; omega
  · obtain ⟨hin, rfl⟩ := rng_nat hid
    intro s3 H3 C3 cl3 fp3
    refine gt_name 4 ?_ nd
    intro s4 H4 C4 cl4 fp4
    refine ec_tup (ac_cons (ec_ix (ec_var 3 (d := nL ns) rfl (ec_var 4 rfl ⟨_, _, _, rfl, rfl, at_ i (by omega), ac_cons (ec_ix (ec_var 3 (d := nL ns) rfl (ec_add (ec_var 4 rfl (ec_int ⟨_, _, rfl, rfl, _, _, _, rfl, rfl, at_ (i + 1) (by omega), ac_nil ⟨by show 2 ≤ 100000; omega, ?_, rfl⟩⟩)))))⟩))))
    dsimp only
    rw [List.range_succ, List.map_append, List.map_append]; rfl
  dsimp only
  rw [rng_len]
  refine sc_frz 5 rfl ?_
  refine sc_set 6 (ec_andQ (B := decide ((2 : Int) ≤ (n : Int))) (ec_eqS (ec_co 0 rfl cT (hr.mono (by omega)) (pass_0 passL) m_take (ac_cons (ec_int (ac_nil ⟨_, rfl, rfl, l4, 2, rfl, rfl, by decide, fun r4 l5 _ _ => ec_int ⟨_, rfl, _, rfl, fun Φ' h => ec_ge (ec_var 1 (d := natD n) rfl (ec_int ⟨_, _, rfl, rfl, h⟩)), ?_⟩⟩)))))) nd
  have hring : (decide (r4 = 1) && decide ((2 : Int) ≤ (n : Int))) = true → 2 ≤ n := fun z => by
    rw [Bool.and_eq_true] at z
    have := of_decide_eq_true z.2; omega
  generalize (decide (r4 = 1) && decide ((2 : Int) ≤ (n : Int))) = ring at hring ⊢
  have e1 : ((n : Int) - 1) = ((n - 1 : Nat) : Int) := by omega
  have rl : (rowL ns n).length ≤ 7 := by unfold rowL; rw [List.length_map, List.length_range]; omega
  refine sc_ifj (fun ρ' => ρ' = [some (.ow a (.l (iL l5))), some (.im (natD n)), some (.im (natD t)), some (.im (nL ns)), none, some (.im (.lst ((lstL ns n ring).map pN))), some (.im (.bl ring)), none, none]) (tc_val (ec_var 6 rfl ⟨ring, rfl, fun h => ?_, fun h => ?_⟩)) ?_
  · subst h
    refine sc_set 5 (ec_cat (ec_var 5 (d := .lst ((rowL ns n).map pN)) rfl (ec_lst (ac_cons (ec_tup (ac_cons (ec_ix (ec_var 3 (d := nL ns) rfl (ec_sub (ec_var 1 (d := natD n) rfl (ec_int ⟨_, _, rfl, rfl, _, _, natD (ns.getD (n - 1) 0), rfl, rfl, by rw [e1]; exact at_ (n - 1) (by omega), ac_cons (ec_ix (ec_var 3 (d := nL ns) rfl (ec_int ⟨_, _, natD (ns.getD 0 0), rfl, rfl, at_ 0 (by omega), ac_nil ⟨by show 2 ≤ 100000; omega, ac_nil ⟨by show 1 ≤ 100000; omega, _, _, rfl, rfl, ?_, sc_nil ?_⟩⟩⟩)))⟩))))))))))) nd
    · rw [List.length_map]; show _ + 1 ≤ 100000; omega
    · have e : (lstL ns n true).map pN = (rowL ns n).map pN ++ [.tup [natD (ns.getD (n - 1) 0), natD (ns.getD 0 0)]] := by
        show (rowL ns n ++ [_]).map pN = _
        rw [List.map_append]; rfl
      rw [e]; rfl
  · subst h
    let R5 : En := [some (.ow a (.l (iL l5))), some (.im (natD n)), some (.im (natD t)), some (.im (nL ns)), none, some (.im (.lst ((rowL ns n).map pN))), some (.im (.bl false)), none, none]
    refine sc_set 5 (ec_cat (ec_var 5 (d := .lst ((rowL ns n).map pN)) rfl (ec_fc (fc_lc [("link", 7)] [7] (ic_list (ec_var 5 (d := .lst ((rowL ns n).map pN)) rfl ⟨_, rfl, ?_⟩)) nd (by decide))))) nd
    refine ⟨fun _ => R5, fun i => (((rowL ns n).take i).map fun l => (l.2, l.1)).map pN, R5, rfl, rfl, fun i hi => ?_, fun i d hid => ?_, ⟨rfl, fun _ _ h => h, fun i b o h => ⟨h, _, h⟩⟩, _, rfl, _, _, rfl, rfl, ?_, sc_nil ?_⟩
    · rw [List.length_map, List.length_map, List.length_take]; omega
    · rw [List.getElem?_map] at hid
      obtain ⟨l, hli, rfl⟩ := Option.map_eq_some_iff.mp hid
      intro s3 H3 C3 cl3 fp3
      refine gt_name 7 ?_ nd
      intro s4 H4 C4 cl4 fp4
      refine ec_tup (ac_cons (ec_ix (ec_var 7 rfl (ec_int ⟨[natD l.1, natD l.2], 1, natD l.2, rfl, rfl, rfl, ac_cons (ec_ix (ec_var 7 rfl (ec_int ⟨[natD l.1, natD l.2], 0, natD l.1, rfl, rfl, rfl, ac_nil ⟨by show 2 ≤ 100000; omega, ?_, rfl⟩⟩)))⟩))))
      dsimp only
      rw [List.take_add_one, hli, List.map_append, List.map_append]; rfl
    · dsimp only
      rw [List.length_map, List.length_map, List.length_map, List.length_take]; omega
    · dsimp only
      have e : (lstL ns n false).map pN = (rowL ns n).map pN ++ ((rowL ns n).map fun l => (l.2, l.1)).map pN := by
        show (rowL ns n ++ _).map pN = _
        rw [List.map_append]
      rw [List.length_map, List.take_length, e]; rfl
  rintro ρ2 rfl
  generalize hlst : lstL ns n ring = lst
  let R6 : En := [some (.ow a (.l (iL l5))), some (.im (natD n)), some (.im (natD t)), some (.im (nL ns)), none, some (.im (.lst (lst.map pN))), some (.im (.bl ring)), none, none]
  let k : Nat × Nat → Bool := fun l => !decide (l ∈ lst)
  refine sc_lcIf 8 [("link", 7)] [7] (ic_list (ec_cf cL (hr.mono (by omega)) (pass_0 passL) m_links (ac_cons (ec_var 1 (d := natD n) rfl (ac_nil ⟨rfl, n, rfl, h7, _, rfl, ?_⟩))))) nd (by decide)
  refine ⟨fun _ => R6, fun i => (((lkTo n n).take i).filter k).map pN, R6, rfl, rfl, fun i hi => ?_, fun i d hid => ?_, ⟨rfl, fun _ _ h => h, fun i a' o h => ⟨h, _, h⟩⟩, fun p8 => ?_⟩
  · rw [List.length_map]
    have h1 := List.length_filter_le k ((lkTo n n).take i)
    have h2 := lkTo_len n n
    have h3 : n * n ≤ 7 * 7 := Nat.mul_le_mul h7 h7
    rw [List.length_take] at h1; omega
  · rw [List.getElem?_map] at hid
    obtain ⟨l, hli, rfl⟩ := Option.map_eq_some_iff.mp hid
    have go : ∀ v, k l = v → (((lkTo n n).take (i + 1)).filter k).map pN = (((lkTo n n).take i).filter k).map pN ++ (if v then [pN l] else []) := fun v e => by
      rw [List.take_add_one, hli]
      show ((_ ++ [l]).filter k).map pN = _
      rw [List.filter_append, List.map_append]
      cases v <;> simp [e]
    intro s3 H3 C3 cl3 fp3
    refine gt_name 7 ?_ nd
    intro s4 H4 C4 cl4 fp4
    refine tc_niL hu (ec_var 7 rfl (ec_var 5 rfl ⟨[(l.1 : Int), (l.2 : Int)], lst.map pairI, rfl, by rw [pN_tup], ?_⟩))
    rw [mem_pairI]
    refine ⟨fun hk => ?_, fun hk => ?_⟩
    · intro s5 H5 C5 cl5 fp5
      exact ec_var 7 rfl ⟨go true hk, rfl⟩
    · exact ⟨(go false hk).trans (List.append_nil _), rfl⟩
  dsimp only
  rw [List.length_map, List.take_length]
  refine sc_ret (ec_lst (ac_cons (ec_var 3 (d := nL ns) rfl (ac_cons (ec_var 6 (d := .bl ring) rfl (ac_cons (ec_frz 8 rfl (ac_nil ⟨by show 3 ≤ 100000; omega, _, rfl, ?_⟩))))))))
  have e := hd n t rev ring l5 hn1 h7 ht hring
  unfold shD silL at e
  rw [hns, hlst] at e
  exact e
end
end T5
namespace T5
open PySem PySem.Spec PyProof.Rows L2 Evl AL
/-- the next house of the way -/
def nxt (on : List (List Nat)) (ss : List (Option Int)) (x : Nat) : Option Nat := match ss[x]? with
  | some (some d) => ((on.getD x []).filter fun u => decide (ss[u]? = some (some (d - 1)))).min?
  | _ => none
def wayL (on : List (List Nat)) (ss : List (Option Int)) (k : Nat) : Nat → Nat → List Nat
  | 0, x => [x]
  | f + 1, x => if x = k then [x] else match nxt on ss x with
    | some u => x :: wayL on ss k f u
    | none => [x]
def shP (ns : List Nat) (n : Nat) (ring : Bool) : Pt := ⟨[], (silL ns n ring).map fun x => ((x.1 : Int), (x.2 : Int))⟩
def spanB (T : Nt) (h : Nat) (m : Int) : Bool := let s := trips T h; decide (some 0 ∈ s) && decide (some m ∈ s) && s.all fun o => match o with
  | some y => decide (y ≤ m)
  | none => true
def nearL (ns : List Nat) (n a : Nat) (l : Int) : List Nat := ((List.range n).filter fun (k : Nat) => decide (2 * max ((a : Int) - (k : Int)) ((k : Int) - (a : Int)) ≤ l)).map fun k => ns.getD k 0
def shB (n t : Nat) (rev ring : Bool) : Bool :=
  let ns := nmL n t rev
  let p := shP ns n ring
  let T := mkNt n p
  let f := ns.getD 0 0
  let l := ns.getD (n - 1) 0
  decide (reachL T.bk f = intsN (List.range n)) && decide (partsL n p = [intsN (List.range n)]) && decide (wayL T.on (steps T.bk l) l n f = ns) && (match (steps T.bk l)[f]? with
    | some (some _) => true
    | _ => false) &&
  if ring then (List.range n).all fun h => spanB T h n else (List.range n).all fun a => spanB T (ns.getD a 0) (2 * max (a : Int) (n - 1 - a)) && (List.range 14).all fun (i : Nat) => decide ((nearL ns n a i).Nodup) && decide (∀ x < n, x ∈ nearL ns n a i ↔ x ∈ wl (trips T (ns.getD a 0)) i) && decide (∀ x ∈ nearL ns n a i, x < n)
theorem sh_all : ∀ n < 8, ∀ t < n, ∀ rev ring : Bool, (ring = true → 2 ≤ n) → shB n t rev ring = true := by decide +kernel
structure ShF (n : Nat) (ns : List Nat) (ring : Bool) (p : Pt) : Prop where
  pst : reachL (mkNt n p).bk (ns.getD 0 0) = intsN (List.range n)
  prt : partsL n p = [intsN (List.range n)]
  dst : ∃ d, (steps (mkNt n p).bk (ns.getD (n - 1) 0))[ns.getD 0 0]? = some (some d)
  way : wayL (mkNt n p).on (steps (mkNt n p).bk (ns.getD (n - 1) 0)) (ns.getD (n - 1) 0) n (ns.getD 0 0) = ns
  rg : ring = true → ∀ h < n, spanB (mkNt n p) h n = true
  rw : ring = false → ∀ a < n, spanB (mkNt n p) (ns.getD a 0) (2 * max (a : Int) (n - 1 - a)) = true ∧ ∀ i < 14, (nearL ns n a (i : Nat)).Nodup ∧ (∀ x < n, x ∈ nearL ns n a (i : Nat) ↔ x ∈ wl (trips (mkNt n p) (ns.getD a 0)) (i : Nat)) ∧ ∀ x ∈ nearL ns n a (i : Nat), x < n
theorem sh_same {n : Nat} {p p0 : Pt} (e1 : stand p n = stand p0 n) (e2 : lasting p (lkTo n n) = lasting p0 (lkTo n n)) : (mkNt n p).on = (mkNt n p0).on ∧ (mkNt n p).bk = (mkNt n p0).bk ∧ partsL n p = partsL n p0 ∧ ∀ h, trips (mkNt n p) h = trips (mkNt n p0) h := by
  have eo : (mkNt n p).on = (mkNt n p0).on := by unfold mkNt; rw [e2]
  have eb : (mkNt n p).bk = (mkNt n p0).bk := by unfold mkNt; rw [e2]
  refine ⟨eo, eb, ?_, fun h => by unfold trips; rw [eo, eb]⟩
  have : pstep n p = pstep n p0 := by funext r h; unfold pstep partOf; rw [eo, eb]
  unfold partsL
  rw [e1, this]
theorem sh_facts {n t : Nat} {rev ring : Bool} {p : Pt} (hn : n ≤ 7) (ht : t < n) (h2 : ring = true → 2 ≤ n) (pq : PQ p ⟨[], silL (nmL n t rev) n ring⟩) : ShF n (nmL n t rev) ring p := by
  have ok := sh_all n (by omega) t ht rev ring h2
  have f0 : p.fallen = [] := List.Perm.eq_nil pq.f
  have e1 : stand p n = stand (shP (nmL n t rev) n ring) n := by unfold stand; rw [f0]; rfl
  have e2 : lasting p (lkTo n n) = lasting (shP (nmL n t rev) n ring) (lkTo n n) := by
    unfold lasting
    refine List.filter_congr fun l _ => ?_
    unfold lastsP
    rw [f0]
    have : decide ((((l.1 : Int)), (l.2 : Int)) ∈ p.silent) = decide (((l.1 : Int), (l.2 : Int)) ∈ (shP (nmL n t rev) n ring).silent) := decide_eq_decide.mpr pq.s.mem_iff
    rw [this]; rfl
  obtain ⟨g1, g2, g3, g4⟩ := sh_same e1 e2
  unfold shB at ok
  simp only [Bool.and_eq_true, decide_eq_true_eq] at ok
  obtain ⟨⟨⟨⟨o1, o2⟩, o3⟩, o4⟩, o5⟩ := ok
  refine ⟨by rw [g2]; exact o1, by rw [g3]; exact o2, ?_, by rw [g1, g2]; exact o3, fun hr h hh => ?_, fun hr a ha => ?_⟩
  · rw [g2]
    split at o4
    · rename_i d e; exact ⟨d, e⟩
    · cases o4
  · rw [if_pos hr, List.all_eq_true] at o5
    have := o5 h (List.mem_range.mpr hh)
    unfold spanB at this ⊢
    rw [g4]; exact this
  · rw [if_neg (by rw [hr]; simp), List.all_eq_true] at o5
    have := o5 a (List.mem_range.mpr ha)
    rw [Bool.and_eq_true, List.all_eq_true] at this
    refine ⟨?_, fun i hi => ?_⟩
    · have := this.1
      unfold spanB at this ⊢
      rw [g4]; exact this
    · have := this.2 i (List.mem_range.mpr hi)
      simp only [Bool.and_eq_true, decide_eq_true_eq] at this
      rw [g4]
      exact ⟨this.1.1, this.1.2, this.2⟩
theorem span_of {T : Nt} {h : Nat} {m : Int} (hb : spanB T h m = true) : some 0 ∈ trips T h ∧ ∀ k : Int, some k ∈ trips T h → (∀ y, some y ∈ trips T h → y ≤ k) → k = m := by
  unfold spanB at hb
  simp only [Bool.and_eq_true, decide_eq_true_eq, List.all_eq_true] at hb
  obtain ⟨⟨b1, b2⟩, b3⟩ := hb
  refine ⟨b1, fun k hk hm => ?_⟩
  have h1 := hm m b2
  have h2 := b3 (some k) hk
  have h3 : k ≤ m := of_decide_eq_true h2
  omega
end T5
namespace AL
open PySem PySem.Spec PyProof.Rows L2 Evl
section
variable {K : PySem.W.Frag}
theorem gb_max2 {i j : Int} : GivesB K (fun xs H Q => ∃ i j, xs = [.int i, .int j] ∧ Q (.int (if j > i then j else i)) H) [.int i, .int j] (· = .int (max i j)) := fun B G H vs s r Q q1 q2 => by
  cases r with
  | cons r rs =>
    cases rs with
    | cons r2 rs =>
      cases rs; cases r; cases r2
      have e : (if j > i then j else i) = max i j := by split <;> omega
      exact ⟨i, j, rfl, by rw [e]; exact q1 _ _ rfl (.int _)⟩
end
section
variable {X : Cx} {Z : Zx} {a b : Expr} {ρ : En} {Φ : D → En → Prop} {Ψ : Bool → En → Prop} {p p2 pos pos2 : Pos}
/-- tuple(range(n)) -/
theorem ec_tupRg (h : EC X Z a ρ fun d ρ1 => ∃ n : Nat, d = .int n ∧ n ≤ 50000 ∧ Φ (.tup ((List.range n).map fun (i : Nat) => D.int (i : Int))) ρ1) (hml : X.mg "tuple" = none) (hmr : X.mg "range" = none)
    (hc : X.calm = true := by rfl) (hgl : Gl X "tuple" := by rfl) (hgr : Gl X "range" := by rfl) (na : starEach [a] X.env = (false, eval a X.env) :: starEach [] X.env := by rfl)
    (nl : starEach [.Call (.Name "range" p2) [a] [] pos2] X.env = (false, eval (.Call (.Name "range" p2) [a] [] pos2) X.env) :: starEach [] X.env := by rfl) :
    EC X Z (.Call (.Name "tuple" p) [.Call (.Name "range" p2) [a] [] pos2] [] pos) ρ Φ := fun B G H σ o z Q q => by
  refine (pe_tupRg hc hgl hml (prg_1 hgr hmr p_wE na) nl).w ?_
  refine h B G H σ o z _ fun d ρ1 v B1 H1 ⟨n, hd, hn, hk⟩ e1 o1 r1 => ?_
  subst hd; cases r1
  refine ⟨(n : Int), rfl, RgOk.of_le (by omega) (by omega) (by omega) (by omega), fun t ht => ?_⟩
  obtain ⟨e2, o2⟩ := o1.grow (u := .tup (rgV 0 n)) ht
  refine q _ ρ1 _ _ _ hk (e1.trans e2) o2 (.tup upd_same ?_)
  have e : rgV 0 (n : Int) = ((List.range n).map fun (i : Nat) => (i : Int)).map V.int := by
    unfold rgV
    rw [List.map_map]
    have e0 : ((n : Int) - 0).toNat = n := by omega
    rw [e0]
    refine List.map_congr_left fun i _ => ?_
    show V.int (0 + (i : Int)) = V.int (i : Int)
    rw [Int.zero_add]
  have e2 : ((List.range n).map fun (i : Nat) => D.int (i : Int)) = ((List.range n).map fun (i : Nat) => (i : Int)).map D.int := by rw [List.map_map]; rfl
  rw [e, e2]
  exact int_reps _
/-- a != b, where both are the same -/
theorem tc_neX (hu : X.A.units + 64 < cLine) (h : EC X Z a ρ fun d ρ1 => EC X Z b ρ1 fun d' ρ2 => ∃ p, d = d' ∧ pyD d = some p ∧ SeqAt.shaped p = true ∧ PyData.eqv p p = true ∧ Ψ false ρ2) (hm : behindInMarks .NotEq b = false := by rfl) : TC X Z (.Compare a [.NotEq] [b] pos) ρ Ψ :=
  tc_neD hu (h.mono fun d ρ1 z => z.mono fun d' ρ2 ⟨p, e, hp, sp, ep, k⟩ => by subst e; exact ⟨p, p, hp, hp, sp, sp, by rw [ep]; exact k⟩) (hm := hm)
end
/-- data that are the same as themselves, plainly -/
theorem same_row (k : List Int) : pyD (tupI k) = some (pyI k) ∧ SeqAt.shaped (pyI k) = true ∧ PyData.eqv (pyI k) (pyI k) = true := ⟨py_tupI k, shp_row k, by rw [eqv_tupI, decide_eq_true rfl]⟩
theorem eqv_rows : ∀ ks ls : List (List Int), PyData.eqvAll (ks.map pyI) (ls.map pyI) = decide (ks = ls)
  | [], [] => by simp [PyData.eqvAll]
  | [], _ :: _ => by simp [PyData.eqvAll]
  | _ :: _, [] => by simp [PyData.eqvAll]
  | a :: k, b :: l => by
    rw [List.map_cons, List.map_cons, PyData.eqvAll, eqv_rows k l, eqv_tupI]
    by_cases h : a = b
    · subst h; simp
    · simp [h]
theorem same_rows (ks : List (List Int)) : pyD (.tup (ks.map tupI)) = some (.tuple (ks.map pyI)) ∧ SeqAt.shaped (.tuple (ks.map pyI)) = true ∧ PyData.eqv (.tuple (ks.map pyI)) (.tuple (ks.map pyI)) = true := ⟨py_rows ks, shp_rows ks, by rw [PyData.eqv, eqv_rows, decide_eq_true rfl]⟩
end AL
namespace T5
open PySem PySem.Spec PyProof.Rows L2 Evl AL
def S_nearX (CN C : Addr) (ds : List D) (Ψ : D → Prop) : Prop := ∃ (t : Nt) (h : Nat) (ss : List (Option Int)) (k : Int), ds = [netD CN C t, natD h, .lst (ss.map oD)] ∧ NtOk t ∧ h < t.n ∧ ss.length = t.n ∧ ss[h]? = some (some k) ∧ (∃ u ∈ t.on.getD h [], ss[u]? = some (some (k - 1))) ∧
  (t.on.getD h []).length ≤ 1000 ∧ ∀ u, nxt t.on ss h = some u → Ψ (natD u)
theorem m_nearX (CN C : Addr) : MonoF (S_nearX CN C) := fun ds Φ Φ' h ⟨a, b, c, d, h1, h2, h3, h4, h5, h6, h7, h8⟩ => ⟨a, b, c, d, h1, h2, h3, h4, h5, h6, h7, fun u x => h _ (h8 u x)⟩
theorem nxt_mem {on : List (List Nat)} {ss : List (Option Int)} {x u : Nat} {d : Int} (hs : ss[x]? = some (some d)) (h : nxt on ss x = some u) : u ∈ on.getD x [] ∧ ss[u]? = some (some (d - 1)) := by
  unfold nxt at h
  rw [hs] at h
  have := (List.min?_eq_some_iff.mp h).1
  obtain ⟨h1, h2⟩ := List.mem_filter.mp this
  exact ⟨h1, of_decide_eq_true h2⟩
def S_wayX (CN C : Addr) (ds : List D) (Ψ : D → Prop) : Prop := ∃ (n : Nat) (p : Pt) (h k : Nat), ds = [netD CN C (mkNt n p), natD h, natD k] ∧ n ≤ 7 ∧ h < n ∧ k < n ∧ (h : Int) ∉ p.fallen ∧ (k : Int) ∉ p.fallen ∧
  (((steps (mkNt n p).bk k)[h]? = some none ∧ Ψ .non) ∨ (∃ d, (steps (mkNt n p).bk k)[h]? = some (some d) ∧ Ψ (.tup ((wayL (mkNt n p).on (steps (mkNt n p).bk k) k n h).map natD))))
theorem m_wayX (CN C : Addr) : MonoF (S_wayX CN C) := fun ds Φ Φ' g ⟨n, p, h, k, h1, h2, h3, h4, h5, h6, h7⟩ => ⟨n, p, h, k, h1, h2, h3, h4, h5, h6, h7.imp (fun ⟨a, b⟩ => ⟨a, g _ b⟩) fun ⟨d, a, b⟩ => ⟨d, a, g _ b⟩⟩
section
variable {P : Program} {w : World} {K : PySem.W.Frag} {mg : Str → Option Value} {base : Heap} {f C CN BH IF BN : Addr} {fd : FuncData}
theorem c_nearX (F : FunN K "nearer_house" s_nearer_house f fd) (hm : mg "nearer_house" = some (.ref f)) (hx : mg "min" = none) (nc : NetC K CN) : Cal P w K mg base "nearer_house" 1 (PFn 3 (S_nearX CN C)) := by
  have nd : (["net", "house", "left", "there"] : List Str).Nodup := by decide +kernel
  refine cal_fn F hm (N := ["net", "house", "left", "there"]) (ps := ["net", "house", "left"]) ⟨rfl, rfl, rfl, nd, rfl, by decide +kernel, by decide +kernel⟩ rfl (fun _ _ _ _ _ _ us hl => match us, hl with | [_, _, _], _ => rfl) ?_
  rintro cdv A outer s H E hr ds Ψ hl ⟨t, h, ss, k, rfl, ok, hh, hl2, hk, ⟨u0, hu0, hs0⟩, hle, hd⟩
  let R : En := [some (.im (netD CN C t)), some (.im (natD h)), some (.im (.lst (ss.map oD))), none]
  let row := t.on.getD h []
  have hlo : h < t.on.length := by rw [ok.onl]; exact hh
  have gon : atI (t.on.map rowD) (h : Int) = some (rowD row) := by
    refine atI_nat ?_
    rw [List.getElem?_map, List.getElem?_eq_getElem hlo]
    show some (rowD _) = some (rowD (t.on.getD h []))
    rw [List.getD_eq_getElem?_getD, List.getElem?_eq_getElem hlo]; rfl
  have hrow : row ∈ t.on := by
    show t.on.getD h [] ∈ t.on
    rw [List.getD_eq_getElem?_getD, List.getElem?_eq_getElem hlo]; exact List.getElem_mem hlo
  let pr : Nat → Bool := fun u => decide (ss[u]? = some (some (k - 1)))
  have hu2 : (bodyX P w K mg base ["net", "house", "left", "there"] "nearer_house" (defScope s_nearer_house) f cdv A outer s H E).A.units + 64 < cLine := by have := hr.un; omega
  refine sc_ret (ec_cb (cr_min rfl) (by decide +kernel) hx (ac_cons (ec_fc (fc_lcIf [("there", 3)] [3] (ic_tup (ec_ix (ec_fld (ec_var 0 rfl ⟨CN, netF C t, .tup (t.on.map rowD), rfl, nc.cl, nc.n3, rfl, ec_var 1 rfl ⟨_, _, _, rfl, rfl, gon, _, rfl, ?_⟩⟩)))) nd (by decide)))))
  refine ⟨fun _ => R, fun i => ((row.take i).filter pr).map natD, R, rfl, rfl, fun i hi => ?_, fun i d hid => ?_, ⟨rfl, fun _ _ h => h, fun i a' o h => ⟨h, _, h⟩⟩, _, rfl, ac_nil ?_⟩
  · rw [List.length_map]
    have := List.length_filter_le pr (row.take i)
    rw [List.length_take] at this
    have h9 : row.length ≤ 1000 := hle
    omega
  · rw [List.getElem?_map] at hid
    obtain ⟨u, hu, rfl⟩ := Option.map_eq_some_iff.mp hid
    have et : row.take (i + 1) = row.take i ++ [u] := by rw [List.take_add_one, hu]; rfl
    have hul : u < ss.length := by rw [hl2, ← ok.onl]; exact ok.ono row hrow u (List.mem_of_getElem? hu)
    have gu : ss[u]? = some ss[u] := List.getElem?_eq_getElem hul
    intro s3 H3 C3 cl3 fp3
    refine gt_name 3 ?_ nd
    intro s4 H4 C4 cl4 fp4
    refine tc_eqD hu2 (ec_ix (ec_var 2 rfl (ec_var 3 rfl ⟨_, _, oD ss[u], rfl, rfl, atI_nat (by rw [List.getElem?_map, gu]; rfl), ec_sub (ec_ix (ec_var 2 rfl (ec_var 1 rfl ⟨_, _, .int k, rfl, rfl, atI_nat (by rw [List.getElem?_map, hk]; rfl), ec_int ⟨_, _, rfl, rfl, _, _, py_oD ss[u], py_oD (some (k - 1)), shp_oD _, shp_oD _, ?_⟩⟩)))⟩))) (hm := rfl)
    rw [eqv_oD]
    have ep : decide (ss[u] = some (k - 1)) = pr u := by
      show _ = decide (ss[u]? = some (some (k - 1)))
      rw [gu]
      refine decide_eq_decide.mpr ⟨fun e => by rw [e], fun e => Option.some.inj e⟩
    rw [ep]
    · refine ⟨fun hp => ?_, fun hp => ?_⟩
      · intro s5 H5 C5 cl5 fp5
        refine ec_var 3 rfl ⟨?_, rfl⟩
        dsimp only
        rw [et, List.filter_append, List.map_append]; simp [hp]
      · refine ⟨?_, rfl⟩
        dsimp only
        rw [et, List.filter_append, List.map_append]; simp [hp]
  · dsimp only
    rw [List.length_map, List.take_length]
    have em : (row.filter pr).map natD = (intsN (row.filter pr)).map D.int := by unfold intsN; rw [List.map_map]; rfl
    rw [em]
    refine ⟨_, gb_min (ns := intsN (row.filter pr)) ?_, ?_⟩
    · unfold intsN; rw [List.length_map]
      exact List.length_pos_of_mem (List.mem_filter.mpr ⟨hu0, decide_eq_true hs0⟩)
    · rintro d ⟨m, rfl, hm, hle2⟩
      unfold intsN at hm
      obtain ⟨u, hu, rfl⟩ := List.mem_map.mp hm
      refine hd u ?_
      unfold nxt
      rw [hk]
      refine List.min?_eq_some_iff.mpr ⟨hu, fun y hy => ?_⟩
      have := hle2 (y : Int) (List.mem_map.mpr ⟨y, hy, rfl⟩)
      omega
theorem c_wayX (F : FunN K "path" s_path f fd) (hm : mg "path" = some (.ref f)) (b : Blt mg) (nc : NetC K CN) (c1 : Cal P w K mg base "alive_house" 4 (PFn 2 (S_alive_house CN C))) (c2 : Cal P w K mg base "steps_over" 1 (PFn 2 S_steps_over)) (c3 : Cal P w K mg base "nearer_house" 1 (PFn 3 (S_nearX CN C))) : Cal P w K mg base "path" 5 (PFn 3 (S_wayX CN C)) := by
  have nd : (["net", "first", "other", "left", "row"] : List Str).Nodup := by decide +kernel
  refine cal_fn F hm (N := ["net", "first", "other", "left", "row"]) (ps := ["net", "first", "other"]) ⟨rfl, rfl, rfl, nd, rfl, by decide +kernel, by decide +kernel⟩ rfl (fun _ _ _ _ _ _ us hl => match us, hl with | [_, _, _], _ => rfl) ?_
  rintro cdv A outer s H E hr ds Ψ hl ⟨n, p, h, k, rfl, h7, hh, hk, hf, kf, hd⟩
  have xh := nh_mk (p := p) h7 hh hf
  have xk := nh_mk (p := p) h7 hk kf
  have lb : (mkNt n p).bk.length = n := by simp [mkNt]
  let t := mkNt n p
  let ss := steps (mkNt n p).bk k
  have lss : ss.length = n := by show (steps _ _).length = n; rw [steps_len (by rw [lb]; exact hk), lb]
  refine sc_expr (ec_cf c1 hr (pass_0 passL) (m_alive_house CN C) (ac_cons (ec_var 0 rfl (ac_cons (ec_var 1 rfl (ac_nil ⟨rfl, t, h, rfl, hh, xh.al, ?_⟩))))))
  refine sc_set 3 (ec_cf c2 (hr.mono (by omega)) (pass_0 passL) m_steps_over (ac_cons (ec_fld (ec_var 0 rfl ⟨CN, netF C t, .tup (t.bk.map rowD), rfl, nc.cl, nc.n4, rfl, ac_cons (ec_cf c1 hr (pass_0 passL) (m_alive_house CN C) (ac_cons (ec_var 0 rfl (ac_cons (ec_var 2 rfl (ac_nil ⟨rfl, t, k, rfl, hk, xk.al, ?_⟩))))))⟩)))) nd
  refine ac_nil ⟨rfl, t.bk, k, rfl, by rw [show t.bk.length = n from lb]; omega, by rw [show t.bk.length = n from lb]; exact hk, xk.ok.bko, ?_⟩
  have hg : ∃ o, ss[h]? = some o := ⟨_, List.getElem?_eq_getElem (by rw [lss]; exact hh)⟩
  obtain ⟨o, ho⟩ := hg
  refine sc_if (tc_isN (ec_ix (ec_var 3 rfl (ec_var 1 rfl ⟨_, _, oD o, rfl, rfl, atI_nat (by rw [List.getElem?_map, show (steps t.bk k)[h]? = some o from ho]; rfl), ?_⟩))))
  rcases hd with ⟨e, hd⟩ | ⟨d, e, hd⟩
  · have : o = none := by rw [show (steps (mkNt n p).bk k)[h]? = some o from ho] at e; exact Option.some.inj e
    subst this
    exact ⟨fun _ => sc_ret (ec_non hd), (fun z => nomatch z)⟩
  · have : o = some d := by rw [show (steps (mkNt n p).bk k)[h]? = some o from ho] at e; exact Option.some.inj e
    subst this
    refine ⟨(fun z => nomatch z), fun _ => sc_nil ?_⟩
    refine sc_own 4 (fc_lst (ac_cons (ec_var 1 rfl (ac_nil ⟨by show 1 ≤ 100000; omega, ?_⟩)))) nd
    intro p4
    obtain ⟨d0, d1, _⟩ := nearer h7 hk ho
    refine sc_while (fun m ρ' => ∃ (rs : List Nat) (x : Nat) (d : Int), ρ' = [some (.im (netD CN C t)), some (.im (natD h)), some (.im (natD k)), some (.im (.lst (ss.map oD))), some (.ow p4 (.l ((rs ++ [x]).map natD)))] ∧ x < n ∧ ss[x]? = some (some d) ∧ d.toNat = m ∧ rs.length + m ≤ 1000 ∧ ∃ fu : Nat, m ≤ fu ∧ rs ++ wayL t.on ss k fu x = wayL t.on ss k n h) d.toNat ⟨[], h, d, rfl, hh, ho, rfl, by show 0 + d.toNat ≤ 1000; omega, n, by omega, rfl⟩ ?_ (passes_of rfl)
    rintro m ρ' ⟨rs, x, d, rfl, hx, hs, rfl, hm', fu, hfu, hw⟩
    obtain ⟨e0, e1, e2⟩ := nearer h7 hk hs
    refine tc_neS (ec_ixO 4 (ec_neg (ec_int ⟨1, rfl, rfl, -1, natD x, rfl, last_at, ec_var 2 rfl ⟨decide ((x : Int) = (k : Int)), rfl, ?_⟩⟩)) rfl)
    by_cases exk : x = k
    · rw [decide_eq_true (by omega)]
      refine ⟨(fun z => nomatch z), fun _ => ?_⟩
      refine sc_ret (ec_cty call_tuple_of boot_tuple b.tuple (ac_cons (ec_frz 4 rfl (ac_nil ⟨_, gb_tuple rfl (fun _ h => nomatch h), ?_⟩))))
      rintro d rfl
      have ew : wayL t.on ss k fu x = [x] := by cases fu with
        | zero => rfl
        | succ fu => show (if x = k then [x] else _) = _; rw [if_pos exk]
      rw [ew] at hw
      rw [hw]
      exact hd
    · rw [decide_eq_false (by omega)]
      refine ⟨fun _ => ?_, (fun z => nomatch z)⟩
      obtain ⟨u0, hu0, hs0⟩ := e2 exk
      refine sc_app 4 rfl (ec_cf c3 (hr.mono (by omega)) (pass_0 passL) (m_nearX CN C) (ac_cons (ec_var 0 rfl (ac_cons (ec_ixO 4 (ec_neg (ec_int ⟨1, rfl, rfl, -1, natD x, rfl, last_at, ac_cons (ec_var 3 rfl (ac_nil ⟨rfl, t, x, ss, d, rfl, xk.ok, hx, lss, hs, ⟨u0, hu0, hs0⟩, onD_len h7, fun u hnx => ?_⟩))⟩)) rfl)))))
      obtain ⟨hu, hsu⟩ := nxt_mem hs hnx
      obtain ⟨g0, _, _⟩ := nearer h7 hk hsu
      have hf1 : ∃ fv, fu = fv + 1 := ⟨fu - 1, by omega⟩
      obtain ⟨fv, rfl⟩ := hf1
      have ew : wayL t.on ss k (fv + 1) x = x :: wayL t.on ss k fv u := by
        show (if x = k then [x] else match nxt t.on ss x with
          | some u => x :: wayL t.on ss k fv u
          | none => [x]) = _
        rw [if_neg exk, hnx]
      have hul : u < n := by rw [← lss]; exact (List.getElem?_eq_some_iff.mp hsu).1
      refine ⟨_, rfl, ?_, sc_nil ⟨(d - 1).toNat, by omega, rs ++ [x], u, d - 1, ?_, hul, hsu, rfl, ?_, fv, by omega, by rw [← hw, ew]; simp⟩⟩
      · rw [List.length_map, List.length_append]; show rs.length + 1 < 100000; omega
      · rw [List.map_append (l₁ := rs ++ [x])]; rfl
      · rw [List.length_append]; show rs.length + 1 + _ ≤ 1000; omega
end
end T5
namespace T5
open PySem PySem.Spec PyProof.Rows L2 Evl AL
theorem asc_eq : ∀ {a b : List Nat}, a.Pairwise (· < ·) → b.Pairwise (· < ·) → (∀ x, x ∈ a ↔ x ∈ b) → a = b
  | [], [], _, _, _ => rfl
  | [], y :: b, _, _, h => absurd ((h y).mpr List.mem_cons_self) List.not_mem_nil
  | x :: a, [], _, _, h => absurd ((h x).mp List.mem_cons_self) List.not_mem_nil
  | x :: a, y :: b, ha, hb, h => by
    obtain ⟨a1, a2⟩ := List.pairwise_cons.mp ha
    obtain ⟨b1, b2⟩ := List.pairwise_cons.mp hb
    have e : x = y := by
      rcases List.mem_cons.mp ((h x).mp List.mem_cons_self) with e | e
      · exact e
      · rcases List.mem_cons.mp ((h y).mpr List.mem_cons_self) with e2 | e2
        · exact e2.symm
        · have := b1 x e; have := a1 y e2; omega
    subst e
    refine congrArg (x :: ·) (asc_eq a2 b2 fun z => ⟨fun hz => ?_, fun hz => ?_⟩)
    · rcases List.mem_cons.mp ((h z).mp (List.mem_cons_of_mem _ hz)) with e | e
      · subst e; have := a1 z hz; omega
      · exact e
    · rcases List.mem_cons.mp ((h z).mpr (List.mem_cons_of_mem _ hz)) with e | e
      · subst e; have := b1 z hz; omega
      · exact e
theorem asc_nat {a : List Int} {b : List Nat} (h1 : a.Perm (intsN b)) (h2 : a.Pairwise (· ≤ ·)) (nd : b.Nodup) {c : List Nat} (hc : c.Pairwise (· < ·)) (hm : ∀ x, x ∈ b ↔ x ∈ c) : a.map D.int = c.map natD := by
  have h0 : ∀ x ∈ a, 0 ≤ x := fun x hx => by
    obtain ⟨y, _, rfl⟩ := List.mem_map.mp (h1.mem_iff.mp hx); omega
  rw [nat_of h0]
  refine congrArg (·.map natD) (asc_eq ?_ hc fun x => ?_)
  · have nda : a.Nodup := h1.nodup_iff.mpr (intsN_nd nd)
    refine List.pairwise_map.mpr (((List.Pairwise.and nda h2).imp_of_mem fun {y z} hy hz h => ?_))
    have := h0 y hy
    have := h0 z hz
    have := h.1
    have := h.2
    omega
  · rw [← hm]
    refine ⟨fun hx => ?_, fun hx => ?_⟩
    · obtain ⟨y, hy, rfl⟩ := List.mem_map.mp hx
      obtain ⟨z, hz, rfl⟩ := List.mem_map.mp (h1.mem_iff.mp hy)
      exact hz
    · exact List.mem_map.mpr ⟨(x : Int), h1.mem_iff.mpr (List.mem_map.mpr ⟨x, hx, rfl⟩), rfl⟩
theorem same_nat (l : List Nat) : pyD (.tup (l.map natD)) = some (pyI (intsN l)) ∧ SeqAt.shaped (pyI (intsN l)) = true ∧ PyData.eqv (pyI (intsN l)) (pyI (intsN l)) = true := by
  have e : (.tup (l.map natD) : D) = tupI (intsN l) := row_ints l
  rw [e]; exact same_row _
theorem wl_asc (ts : List (Option Int)) (l : Int) : (wl ts l).Pairwise (· < ·) := List.Pairwise.filter _ List.pairwise_lt_range
def S_shr (o : OO) (ds : List D) (Ψ : D → OO → Prop) : Prop := ∃ l : List Int, o = .l (iL l) ∧ ds = [] ∧ ∀ l', Ψ (.bl true) (.l (iL l'))
theorem m_shr : MonoO S_shr := fun o ds Φ Φ' h ⟨l, h1, h2, h3⟩ => ⟨l, h1, h2, fun l' => h _ _ (h3 l')⟩
section
variable {P : Program} {w : World} {K : PySem.W.Frag} {mg : Str → Option Value} {base : Heap} {f C CN BH IF BN : Addr} {fd : FuncData}
abbrev NSr : List Str := ["pool", "shape", "size", "net", "whole", "house", "ends", "at", "limit", "near", "k"]
theorem c_shr (F : FunN K "_law_shape_right" s__law_shape_right f fd) (hm : mg "_law_shape_right" = some (.ref f)) (b : Blt mg) (hx : mg "max" = none) (cT : Cal P w K mg base "_law_take" 1 (PFo 1 S_take)) (cH : Cal P w K mg base "_law_shape" 2 (PFo 0 S_shape))
    (cN : CalC P w K mg base "Net" CN 5 (PFi 2 CN (S_Net C))) (cC : CalC P w K mg base "Pattern" C 5 (PFi 2 C S_Pattern)) (cPa : Cal P w K mg base "past" 5 (PFn 2 (S_past CN C))) (cPs : Cal P w K mg base "parts" 7 (PFn 1 (S_parts CN C))) (cW : Cal P w K mg base "path" 5 (PFn 3 (S_wayX CN C)))
    (cS : Cal P w K mg base "full_span" 7 (PFx 2 (X_span CN C BH IF))) (cE : Cal P w K mg base "echo" 7 (PFx 3 (X_echo CN C BH IF BN))) : Cal P w K mg base "_law_shape_right" 8 (PFo 0 S_shr) := by
  have nd : NSr.Nodup := by decide +kernel
  refine cal_fo F hm (N := NSr) (ps := ["pool"]) ⟨rfl, rfl, rfl, nd, rfl, by decide +kernel, by decide +kernel⟩ rfl (fun _ _ _ _ _ _ us hl => match us, hl with | [_], _ => rfl) ?_
  rintro cdv A outer s H E hr a o ds Ψ hl ⟨l0, rfl, rfl, hd⟩
  have hu : (bodyX P w K mg base NSr "_law_shape_right" (defScope s__law_shape_right) f cdv A outer s H E).A.units + 64 < cLine := by have := hr.un; omega
  refine sc_set 1 (ec_co 0 rfl cH (hr.mono (by omega)) (pass_0 passL) m_shape (ac_nil ⟨_, rfl, rfl, l0, rfl, rfl, fun n t rev ring l1 hn1 h7 ht h2 => ?_⟩)) nd
  let ns := nmL n t rev
  have nsl : ns.length = n := nm_len n t rev
  let q : Lp := ⟨[], silL ns n ring⟩
  have ok : LpOk n q := ⟨⟨.nil, (fun x hx => absurd hx List.not_mem_nil), by show 0 ≤ 7; omega⟩, sok_sub List.filter_sublist h7⟩
  have at_ : ∀ x : Nat, x < n → atI (ns.map natD) (x : Int) = some (natD (ns.getD x 0)) := fun x hx => atI_nat (by rw [List.getElem?_map, List.getD_eq_getElem?_getD, List.getElem?_eq_getElem (by rw [nsl]; exact hx)]; rfl)
  refine sc_set 2 (ec_len (ac_cons (ec_ix (ec_var 1 (d := shD n t rev ring) rfl (ec_int ⟨_, 0, nL ns, rfl, rfl, rfl, ac_nil ⟨_, _, rfl, rfl, ?_⟩⟩)))) b.len) nd
  rw [show ((ns.map natD).length : Int) = (n : Int) by rw [List.length_map, nsl]]
  refine sc_set 3 (ec_mk cN (hr.mono (by omega)) (pass_0 passL) (m_Net C) (ac_cons (ec_var 2 rfl (ac_cons (ec_mk cC (hr.mono (by omega)) (pass_0 passL) m_Pattern (ac_cons (ec_lst (ac_nil ⟨by decide, ac_cons (ec_ix (ec_var 1 (d := shD n t rev ring) rfl (ec_int ⟨_, 2, .lst ((silL ns n ring).map pN), rfl, rfl, rfl, ac_nil ⟨rfl, pat_wish ok h7 fun p pq hin => ac_nil ⟨rfl, n, p, rfl, hn1, h7, hin, ?_⟩⟩⟩)))⟩)))))))) nd
  have sf := sh_facts h7 ht h2 pq
  have al : ∀ h : Nat, (h : Int) ∉ p.fallen := fun h z => by rw [List.Perm.eq_nil pq.f] at z; cases z
  have lt : ∀ x < n, ns.getD x 0 < n := fun x hx => by
    have h1 : x < (nmL n t rev).length := by rw [nm_len]; exact hx
    show (nmL n t rev).getD x 0 < n
    rw [List.getD_eq_getElem?_getD, List.getElem?_eq_getElem h1]
    have h2 := List.getElem_mem h1
    show (nmL n t rev)[x] < n
    unfold nmL at h2 ⊢
    have h3 : ∀ y ∈ (List.range n).map fun x => (x + t) % n, y < n := fun y hy => by
      obtain ⟨z, _, rfl⟩ := List.mem_map.mp hy
      exact Nat.mod_lt _ (by omega)
    cases rev with
    | true => exact h3 _ (List.mem_reverse.mp h2)
    | false => exact h3 _ h2
  have nh : ∀ h < n, NH (mkNt n p) h := fun h hh => nh_mk h7 hh (al h)
  show SC _ _ _ [some (.ow a (.l (iL l1))), some (.im (shD n t rev ring)), some (.im (natD n)), some (.im (netD CN C (mkNt n p))), none, none, none, none, none, none, none] _
  refine sc_set 4 (ec_tupRg (ec_var 2 rfl ⟨n, rfl, by omega, ?_⟩) b.tuple b.range) nd
  have eW : ((List.range n).map fun (i : Nat) => D.int (i : Int)) = (intsN (List.range n)).map D.int := by unfold intsN; rw [List.map_map]; rfl
  rw [eW]
  let W : D := tupI (intsN (List.range n))
  let T := mkNt n p
  let R : En := [some (.ow a (.l (iL l1))), some (.im (shD n t rev ring)), some (.im (natD n)), some (.im (netD CN C T)), some (.im W), none, none, none, none, none, none]
  show SC _ _ _ R _
  have sm := same_row (intsN (List.range n))
  have sm2 := same_rows [intsN (List.range n)]
  refine sc_if (tc_w (wc_or (tc_neX hu (ec_cf cPa (hr.mono (by omega)) (pass_0 passL) (m_past CN C) (ac_cons (ec_var 3 (d := netD CN C T) rfl (ac_cons (ec_ix (ec_ix (ec_var 1 (d := shD n t rev ring) rfl (ec_int ⟨_, 0, nL ns, rfl, rfl, rfl, ec_int ⟨_, 0, natD (ns.getD 0 0), rfl, rfl, at_ 0 (by omega), ac_nil ⟨rfl, T, ns.getD 0 0, rfl, (nh _ (lt 0 (by omega))).ok, lt 0 (by omega), (nh _ (lt 0 (by omega))).al, ec_var 4 (d := W) rfl ⟨_, congrArg (fun k : List Int => D.tup (k.map D.int)) sf.pst, by rw [show T.bk = (mkNt n p).bk from rfl, sf.pst]; exact sm.1, sm.2.1, sm.2.2, fun _ => ?_, (fun z => nomatch z)⟩⟩⟩⟩)))))))))))
  refine wc_or1 (tc_neX hu (ec_cf cPs (hr.mono (by omega)) (pass_0 passL) (m_parts CN C) (ac_cons (ec_var 3 (d := netD CN C T) rfl (ac_nil ⟨rfl, n, p, rfl, h7, ?_⟩)))))
  refine ec_tup (ac_cons (ec_var 4 (d := W) rfl (ac_nil ⟨by show 1 ≤ 100000; omega, _, by rw [sf.prt]; rfl, by rw [sf.prt]; exact sm2.1, sm2.2.1, sm2.2.2, (fun z => nomatch z), fun _ => sc_nil ?_⟩)))
  obtain ⟨dd, hdst⟩ := sf.dst
  have e1 : ((n : Int) - 1) = ((n - 1 : Nat) : Int) := by omega
  have z0 := lt 0 (by omega)
  have zn := lt (n - 1) (by omega)
  refine sc_if (tc_neX hu (ec_cf cW (hr.mono (by omega)) (pass_0 passL) (m_wayX CN C) (ac_cons (ec_var 3 (d := netD CN C T) rfl (ac_cons (ec_ix (ec_ix (ec_var 1 (d := shD n t rev ring) rfl (ec_int ⟨_, 0, nL ns, rfl, rfl, rfl, ec_int ⟨_, 0, natD (ns.getD 0 0), rfl, rfl, at_ 0 (by omega), ac_cons (ec_ix (ec_ix (ec_var 1 (d := shD n t rev ring) rfl (ec_int ⟨_, 0, nL ns, rfl, rfl, rfl, ec_sub (ec_var 2 rfl (ec_int ⟨_, _, rfl, rfl, _, _, natD (ns.getD (n - 1) 0), rfl, rfl, by rw [e1]; exact at_ (n - 1) (by omega), ac_nil ⟨rfl, n, p, ns.getD 0 0, ns.getD (n - 1) 0, rfl, h7, z0, zn, al _, al _, .inr ⟨dd, hdst, ?_⟩⟩⟩))⟩))))⟩⟩)))))))))
  refine ec_cty call_tuple_of boot_tuple b.tuple (ac_cons (ec_ix (ec_var 1 (d := shD n t rev ring) rfl (ec_int ⟨_, 0, nL ns, rfl, rfl, rfl, ac_nil ⟨_, gb_tuple rfl (fun _ h => nomatch h), ?_⟩⟩))))
  rintro d rfl
  refine ⟨_, congrArg (fun k : List Nat => D.tup (k.map natD)) sf.way, by rw [sf.way]; exact (same_nat ns).1, (same_nat ns).2.1, (same_nat ns).2.2, (fun z => nomatch z), fun _ => sc_nil ?_⟩
  refine sc_if (tc_val (ec_ix (ec_var 1 (d := shD n t rev ring) rfl (ec_int ⟨_, 1, .bl ring, rfl, rfl, rfl, ring, rfl, fun h1 => ?_, fun h0 => sc_nil ?_⟩))))
  · refine sc_for (js := [5]) (ic_range (ec_var 2 rfl ⟨n, rfl, by omega, by omega, ?_⟩) b.range) (passes_of rfl)
    refine ⟨fun i ρ' => ∃ x5 : Option Sl, ρ' = [some (.ow a (.l (iL l1))), some (.im (shD n t rev ring)), some (.im (natD n)), some (.im (netD CN C T)), some (.im W), x5, none, none, none, none, none], ⟨none, rfl⟩, ?_, ?_⟩
    · rintro i d ρi hid ⟨x5, rfl⟩
      obtain ⟨hin, rfl⟩ := rng_nat hid
      refine gt_name 5 ?_ nd
      have sp := span_of (sf.rg h1 i hin)
      refine sc_if (tc_neS (ec_cx cS hr (pass_0 passL) (mx_span CN C BH IF) (ac_cons (ec_var 3 (d := netD CN C T) rfl (ac_cons (ec_var 5 rfl (ac_nil ⟨rfl, n, p, natD i, rfl, h7, .inl ⟨i, rfl, hin, al i, sp.1, fun m hm1 hm2 => ec_var 2 rfl ⟨true, ?_, (fun z => nomatch z), fun _ => sc_nil (sc_nil ⟨_, rfl⟩)⟩⟩⟩)))))))
      rw [sp.2 m hm1 hm2]
      show some (decide ((n : Int) = (n : Int))) = some true
      rw [decide_eq_true rfl]
    · rintro ρ2 ⟨x5, rfl⟩
      exact sc_ret (ec_bl ⟨_, rfl, hd l1⟩)
  refine sc_set 6 (ec_lst (ac_cons (ec_ix (ec_ix (ec_var 1 (d := shD n t rev ring) rfl (ec_int ⟨_, 0, nL ns, rfl, rfl, rfl, ec_int ⟨_, 0, natD (ns.getD 0 0), rfl, rfl, at_ 0 (by omega), ac_cons (ec_ix (ec_ix (ec_var 1 (d := shD n t rev ring) rfl (ec_int ⟨_, 0, nL ns, rfl, rfl, rfl, ec_sub (ec_var 2 rfl (ec_int ⟨_, _, rfl, rfl, _, _, natD (ns.getD (n - 1) 0), rfl, rfl, by rw [e1]; exact at_ (n - 1) (by omega), ac_nil ⟨by show 2 ≤ 100000; omega, ?_⟩⟩))⟩))))⟩⟩)))))) nd
  have sp0 := span_of (sf.rw h0 0 (by omega)).1
  have spn := span_of (sf.rw h0 (n - 1) (by omega)).1
  refine sc_if (tc_w (wc_or (tc_neS (ec_cx cS hr (pass_0 passL) (mx_span CN C BH IF) (ac_cons (ec_var 3 (d := netD CN C T) rfl (ac_cons (ec_ix (ec_var 6 (d := .lst [natD (ns.getD 0 0), natD (ns.getD (n - 1) 0)]) rfl (ec_int ⟨_, 0, natD (ns.getD 0 0), rfl, rfl, rfl, ac_nil ⟨rfl, n, p, natD (ns.getD 0 0), rfl, h7, .inl ⟨_, rfl, z0, al _, sp0.1, fun m hm1 hm2 => ec_mul (ec_int (ec_sub (ec_var 2 rfl (ec_int ⟨_, _, rfl, rfl, 2, (n : Int) - 1, rfl, rfl, .inl ⟨by omega, by omega⟩, true, ?_, fun _ => ?_, (fun z => nomatch z)⟩))))⟩⟩⟩))))))))))
  · rw [sp0.2 m hm1 hm2]
    have e : 2 * max ((0 : Nat) : Int) ((n : Int) - 1 - ((0 : Nat) : Int)) = 2 * ((n : Int) - 1) := by omega
    rw [e]
    show some (decide _) = some true
    rw [decide_eq_true rfl]
  refine wc_or1 (tc_neS (ec_cx cS hr (pass_0 passL) (mx_span CN C BH IF) (ac_cons (ec_var 3 (d := netD CN C T) rfl (ac_cons (ec_ix (ec_var 6 (d := .lst [natD (ns.getD 0 0), natD (ns.getD (n - 1) 0)]) rfl (ec_int ⟨_, 1, natD (ns.getD (n - 1) 0), rfl, rfl, rfl, ac_nil ⟨rfl, n, p, natD (ns.getD (n - 1) 0), rfl, h7, .inl ⟨_, rfl, zn, al _, spn.1, fun m hm1 hm2 => ec_mul (ec_int (ec_sub (ec_var 2 rfl (ec_int ⟨_, _, rfl, rfl, 2, (n : Int) - 1, rfl, rfl, .inl ⟨by omega, by omega⟩, true, ?_, (fun z => nomatch z), fun _ => sc_nil ?_⟩))))⟩⟩⟩))))))))
  · rw [spn.2 m hm1 hm2]
    have e : 2 * max ((n - 1 : Nat) : Int) ((n : Int) - 1 - ((n - 1 : Nat) : Int)) = 2 * ((n : Int) - 1) := by omega
    rw [e]
    show some (decide _) = some true
    rw [decide_eq_true rfl]
  let En_ : D := .lst [natD (ns.getD 0 0), natD (ns.getD (n - 1) 0)]
  refine sc_for (js := [7]) (ic_range (ec_var 2 rfl ⟨n, rfl, by omega, by omega, ?_⟩) b.range) (passes_of rfl)
  refine ⟨fun i ρ' => ∃ (l' : List Int) (x5 x7 x8 x9 : Option Sl), ρ' = [some (.ow a (.l (iL l'))), some (.im (shD n t rev ring)), some (.im (natD n)), some (.im (netD CN C T)), some (.im W), x5, some (.im En_), x7, x8, x9, none], ⟨l1, none, none, none, none, rfl⟩, ?_, ?_⟩
  · rintro i d ρi hid ⟨l2, x5, x7, x8, x9, rfl⟩
    obtain ⟨hin, rfl⟩ := rng_nat hid
    have zi := lt i hin
    have row := sf.rw h0 i hin
    have spi := span_of row.1
    refine gt_name 7 ?_ nd
    refine sc_set 5 (ec_ix (ec_ix (ec_var 1 (d := shD n t rev ring) rfl (ec_int ⟨_, 0, nL ns, rfl, rfl, rfl, ec_var 7 rfl ⟨_, _, natD (ns.getD i 0), rfl, rfl, at_ i hin, ?_⟩⟩)))) nd
    refine sc_if (tc_neS (ec_cx cS hr (pass_0 passL) (mx_span CN C BH IF) (ac_cons (ec_var 3 (d := netD CN C T) rfl (ac_cons (ec_var 5 rfl (ac_nil ⟨rfl, n, p, natD (ns.getD i 0), rfl, h7, .inl ⟨_, rfl, zi, al _, spi.1, fun m hm1 hm2 => ec_mul (ec_int (ec_cb (call_max2 rfl) (by decide +kernel) hx (ac_cons (ec_var 7 rfl (ac_cons (ec_sub (ec_sub (ec_var 2 rfl (ec_int ⟨_, _, rfl, rfl, ec_var 7 rfl ⟨_, _, rfl, rfl, ac_nil ⟨_, gb_max2, ?_⟩⟩⟩)))))))))⟩⟩)))))))
    rintro d rfl
    refine ⟨2, _, rfl, rfl, .inl ⟨by omega, by omega⟩, true, ?_, (fun z => nomatch z), fun _ => sc_nil ?_⟩
    · rw [spi.2 m hm1 hm2]
      show some (decide _) = some true
      rw [decide_eq_true rfl]
    refine sc_set 8 (ec_co 0 rfl cT (hr.mono (by omega)) (pass_0 passL) m_take (ac_cons (ec_int (ac_nil ⟨_, rfl, rfl, l2, 14, rfl, rfl, by decide, fun lm l3 g0 g1 => ?_⟩)))) nd
    obtain ⟨ln, rfl⟩ := Int.eq_ofNat_of_zero_le g0
    obtain ⟨w1, w2, w3⟩ := row.2 ln (by omega)
    let k : Nat → Bool := fun k => decide (2 * max ((i : Int) - (k : Int)) ((k : Int) - (i : Int)) ≤ (ln : Int))
    let R8 : En := [some (.ow a (.l (iL l3))), some (.im (shD n t rev ring)), some (.im (natD n)), some (.im (netD CN C T)), some (.im W), some (.im (natD (ns.getD i 0))), some (.im En_), some (.im (natD i)), some (.im (natD ln)), x9, none]
    refine sc_lcIf 9 [("k", 10)] [10] (ic_range (ec_var 2 rfl ⟨n, rfl, by omega, by omega, ?_⟩) b.range) nd (by decide)
    refine ⟨fun _ => R8, fun i => ((List.range i).filter k).map fun k => natD (ns.getD k 0), R8, rfl, rfl, fun j hj => ?_, fun j d hjd => ?_, ⟨rfl, fun _ _ h => h, fun i a' o h => ⟨h, _, h⟩⟩, fun p9 => ?_⟩
    · dsimp only; rw [rng_len] at hj; have := filt_len k (fun k => natD (ns.getD k 0)) j; omega
    · obtain ⟨hjn, rfl⟩ := rng_nat hjd
      intro s3 H3 C3 cl3 fp3
      refine gt_name 10 ?_ nd
      intro s4 H4 C4 cl4 fp4
      refine tc_le (ec_mul (ec_int (ec_cb (call_max2 rfl) (by decide +kernel) hx (ac_cons (ec_sub (ec_var 7 rfl (ec_var 10 rfl ⟨_, _, rfl, rfl, ac_cons (ec_sub (ec_var 10 rfl (ec_var 7 rfl ⟨_, _, rfl, rfl, ac_nil ⟨_, gb_max2, ?_⟩⟩)))⟩)))))))
      rintro d rfl
      refine ⟨2, _, rfl, rfl, .inl ⟨by omega, by omega⟩, ec_var 8 rfl ⟨_, _, rfl, rfl, fun hk => ?_, fun hk => ?_⟩⟩
      · intro s5 H5 C5 cl5 fp5
        refine ec_ix (ec_ix (ec_var 1 (d := shD n t rev ring) rfl (ec_int ⟨_, 0, nL ns, rfl, rfl, rfl, ec_var 10 rfl ⟨_, _, natD (ns.getD j 0), rfl, rfl, at_ j hjn, ?_, rfl⟩⟩)))
        dsimp only; rw [filt_snoc, if_pos hk]
      · refine ⟨?_, rfl⟩
        dsimp only; rw [filt_snoc, if_neg (by rw [show k j = false from hk]; simp), List.append_nil]
    dsimp only
    rw [rng_len]
    have eN : (((List.range n).filter k).map fun k => natD (ns.getD k 0)) = (intsN (nearL ns n i ln)).map D.int := by unfold intsN nearL; rw [List.map_map, List.map_map]; rfl
    rw [eN]
    refine sc_if (tc_neX hu (ec_cx cE hr (pass_0 passL) (mx_echo CN C BH IF BN) (ac_cons (ec_var 3 (d := netD CN C T) rfl (ac_cons (ec_var 5 rfl (ac_cons (ec_var 8 rfl (ac_nil ⟨rfl, n, p, natD (ns.getD i 0), .int ln, rfl, h7, .inl ⟨_, rfl, zi, al _, rfl, .inl ⟨(ln : Int), rfl, by omega, ?_⟩⟩⟩)))))))))
    refine ec_cty call_tuple_of boot_tuple b.tuple (ac_cons (ec_cb cr_sortedI boot_sorted b.sorted (ac_cons (ec_frz 9 rfl (ac_nil ⟨_, gb_sorted (ns := intsN (nearL ns n i ln)), ?_⟩)))))
    rintro d ⟨ns', hp, hs, rfl⟩
    refine ac_nil ⟨_, gb_tuple rfl (fun _ h => nomatch h), ?_⟩
    rintro d rfl
    have hin2 : ∀ x ∈ wl (trips (mkNt n p) (ns.getD i 0)) ln, x < n := fun x hx => by
      unfold wl at hx
      have := List.mem_range.mp (List.mem_filter.mp hx).1
      rw [trips_len (nh _ zi)] at this; exact this
    have eq := asc_nat hp hs w1 (wl_asc (trips (mkNt n p) (ns.getD i 0)) ln) fun x => ⟨fun hx => (w2 x (w3 x hx)).mp hx, fun hx => (w2 x (hin2 x hx)).mpr hx⟩
    refine ⟨_, congrArg D.tup eq.symm, (same_nat _).1, (same_nat _).2.1, (same_nat _).2.2, (fun z => nomatch z), fun _ => sc_nil (sc_nil ⟨l3, _, _, _, _, rfl⟩)⟩
  · rintro ρ2 ⟨l2, x5, x7, x8, x9, rfl⟩
    exact sc_ret (ec_bl ⟨_, rfl, hd l2⟩)
end
end T5
namespace T5
open PySem PySem.Spec PyProof.Rows L2 Evl AL
def S_law (ds : List D) (Ψ : D → Prop) : Prop := ∃ ns : List Int, ds = [.klst (iL ns)] ∧ ns.length ≤ 63 ∧ Ψ (.bl true)
section
variable {P : Program} {w : World} {K : PySem.W.Frag} {mg : Str → Option Value} {base : Heap} {f C CN : Addr} {fd : FuncData}
abbrev NLW : List Str := ["script", "pool", "houses", "pattern", "net", "dist", "house"]
theorem ok_law (F : FunN K "law" s_law f fd) (b : Blt mg) (cP : Cal P w K mg base "_law_pool" 1 (PFr 1 S_pool)) (cT : Cal P w K mg base "_law_take" 1 (PFo 1 S_take)) (cZ : Cal P w K mg base "_law_size" 2 (PFo 0 S_size)) (cL : Cal P w K mg base "_law_pattern" 2 (PFo 1 S_lpat))
    (cN : CalC P w K mg base "Net" CN 5 (PFi 2 CN (S_Net C))) (cC : CalC P w K mg base "Pattern" C 5 (PFi 2 C S_Pattern)) (cD : Cal P w K mg base "_law_dist" 1 (PFn 2 S_dist)) (cS : Cal P w K mg base "_law_steps_right" 8 (PFn 3 (S_steps CN C))) (cE : Cal P w K mg base "_law_echoes_right" 8 (PFn 3 (S_steps CN C)))
    (cH : Cal P w K mg base "_law_shape_right" 8 (PFo 0 S_shr)) (cR : Cal P w K mg base "_law_refusals_right" 9 (PFo 2 (S_refr CN C))) : FnOk P w K mg base (L2.CX P w) 13 f fd ["script"] (Csp K (PFn 1 S_law)) := by
  have nd : NLW.Nodup := by decide +kernel
  refine ok_fn F (N := NLW) (ps := ["script"]) ⟨rfl, rfl, rfl, nd, rfl, by decide +kernel, by decide +kernel⟩ rfl ?_
  rintro cdv A outer s H E hr ds Ψ hl ⟨ns, rfl, hns, hd⟩
  refine sc_own 1 (fc_cr cP (hr.mono (by omega)) (pass_0 passL) m_pool (ac_cons (ec_var 0 rfl (ac_nil ⟨rfl, ns, rfl, hns, fun l1 _ => ?_⟩)))) nd
  intro p1
  refine sc_set 2 (ec_co 1 rfl cZ (hr.mono (by omega)) (pass_0 passL) m_size (ac_nil ⟨_, rfl, rfl, l1, rfl, rfl, fun n0 l2 hn1 hn4 => ?_⟩)) nd
  refine sc_ifj (fun ρ' => ∃ (l' : List Int) (n : Nat), 1 ≤ n ∧ n ≤ 5 ∧ ρ' = [some (.im (.klst (iL ns))), some (.ow p1 (.l (iL l'))), some (.im (natD n)), none, none, none, none]) (tc_eqS (ec_co 1 rfl cT (hr.mono (by omega)) (pass_0 passL) m_take (ac_cons (ec_int (ac_nil ⟨_, rfl, rfl, l2, 4, rfl, rfl, by decide, fun r l3 _ _ => ec_int ⟨_, rfl, fun _ => ?_, fun _ => sc_nil ⟨l3, n0, hn1, by omega, rfl⟩⟩⟩))))) ?_
  · exact sc_set 2 (ec_int (sc_nil ⟨l3, 5, by omega, by omega, rfl⟩)) nd
  rintro ρ2 ⟨l4, n, hn1, n5, rfl⟩
  have hn7 : n ≤ 7 := by omega
  refine sc_set 3 (ec_co 1 rfl cL (hr.mono (by omega)) (pass_0 passL) m_lpat (ac_cons (ec_var 2 rfl (ac_nil ⟨_, rfl, rfl, l4, n, rfl, rfl, hn1, hn7, fun q l5 ok => ?_⟩)))) nd
  refine sc_set 4 (ec_mk cN (hr.mono (by omega)) (pass_0 passL) (m_Net C) (ac_cons (ec_var 2 rfl (ac_cons (ec_mk cC (hr.mono (by omega)) (pass_0 passL) m_Pattern (ac_cons (ec_ix (ec_var 3 rfl (ec_int ⟨_, 0, nL q.fallen, rfl, rfl, rfl, ac_cons (ec_ix (ec_var 3 rfl (ec_int ⟨_, 1, .lst (q.silent.map pN), rfl, rfl, rfl, ac_nil ⟨rfl, pat_wish ok hn7 fun p pq hin => ac_nil ⟨rfl, n, p, rfl, hn1, hn7, hin, ?_⟩⟩⟩)))⟩))))))))) nd
  refine sc_set 5 (ec_cf cD (hr.mono (by omega)) (pass_0 passL) m_dist (ac_cons (ec_var 2 rfl (ac_cons (ec_var 3 rfl (ac_nil ⟨rfl, n, q, rfl, hn7, ?_⟩)))))) nd
  refine sc_for (js := [6]) (ic_range (ec_var 2 rfl ⟨n, rfl, by omega, by omega, ?_⟩) b.range) (passes_of rfl)
  refine ⟨fun i ρ' => ∃ x6 : Option Sl, ρ' = [some (.im (.klst (iL ns))), some (.ow p1 (.l (iL l5))), some (.im (natD n)), some (.im (lpD q)), some (.im (netD CN C (mkNt n p))), some (.im (mD (distM n q))), x6], ⟨none, rfl⟩, ?_, ?_⟩
  · rintro i d ρi hid ⟨x6, rfl⟩
    obtain ⟨hin2, rfl⟩ := rng_nat hid
    refine gt_name 6 ?_ nd
    refine sc_if (tc_niI (ec_var 6 rfl (ec_ix (ec_var 3 rfl (ec_int ⟨_, 0, nL q.fallen, rfl, rfl, rfl, i, q.fallen.map fun (n : Nat) => (n : Int), rfl, congrArg some (natD_ints _), ?_⟩)))))
    rw [mem_nat]
    refine ⟨fun hk => ?_, fun _ => sc_nil (sc_nil ⟨_, rfl⟩)⟩
    have hf : i ∉ q.fallen := of_decide_eq_false ((Bool.not_eq_true' _).mp hk)
    refine sc_if (tc_w (wc_or (tc_not (tc_val (ec_cf cS (hr.mono (by omega)) (pass_0 passL) (m_steps CN C) (ac_cons (ec_var 4 rfl (ac_cons (ec_var 5 rfl (ac_cons (ec_var 6 rfl (ac_nil ⟨rfl, n, p, q, i, rfl, n5, pq, hin2, hf, true, rfl, fun _ => ?_, (fun z => nomatch z)⟩))))))))))))
    exact wc_or1 (tc_not (tc_val (ec_cf cE (hr.mono (by omega)) (pass_0 passL) (m_steps CN C) (ac_cons (ec_var 4 rfl (ac_cons (ec_var 5 rfl (ac_cons (ec_var 6 rfl (ac_nil ⟨rfl, n, p, q, i, rfl, n5, pq, hin2, hf, true, rfl, (fun z => nomatch z), fun _ => sc_nil (sc_nil (sc_nil ⟨_, rfl⟩))⟩))))))))))
  rintro ρ3 ⟨x6, rfl⟩
  refine sc_ret (ec_and (ec_co 1 rfl cH (hr.mono (by omega)) (pass_0 passL) m_shr (ac_nil ⟨_, rfl, rfl, l5, rfl, rfl, fun l6 => ⟨true, rfl, fun _ => ec_one ?_, (fun z => nomatch z)⟩⟩)))
  exact ec_co 1 rfl cR (hr.mono (by omega)) (pass_0 passL) (m_refr CN C) (ac_cons (ec_var 4 rfl (ac_cons (ec_var 3 rfl (ac_nil ⟨_, rfl, rfl, l6, n, p, q, rfl, rfl, hn1, hn7, pq, ok, fun l7 => hd⟩)))))
end
end T5
namespace T5
open PySem PySem.Spec PyProof.Rows L2 AL
def dd (x : Str) (st : Stmt) : He.DefD := ⟨(x, none), x, x, defArgs st, defBody st, defScope st, [], []⟩
def dm (c m q : Str) (st : Stmt) : He.DefD := ⟨(c, some m), m, q, defArgs st, defBody st, defScope st, [], []⟩
/-- where the default of Pattern's i-th argument stands -/
def dfA (i : Nat) (K : PySem.W.Frag) : Addr := match K.lookup (He.fAd K ("Pattern", some "__init__")) with
  | some ⟨_, _, .func fd, _⟩ => (match fd.defaults with
    | .ref t => (match K.lookup t with
      | some ⟨_, _, .seq its _, _⟩ => (match its[i]? with
        | some (.ref a) => a
        | _ => 0)
      | _ => 0)
    | _ => 0)
  | _ => 0
def dPat : He.DefD := ⟨("Pattern", some "__init__"), "__init__", "Pattern.__init__", defArgs s_Pattern___init__, defBody s_Pattern___init__, defScope s_Pattern___init__, [.adr (dfA 0), .adr (dfA 1)], []⟩
def fn : List He.DefD := [dd "is_number" s_is_number, dd "is_below" s_is_below, dd "is_row" s_is_row, dd "told_houses" s_told_houses, dd "steps_over" s_steps_over, dd "common" s_common, dd "house_set" s_house_set, dd "link_of" s_link_of, dd "link_set" s_link_set, dd "all_links" s_all_links, dd "house_count" s_house_count, dd "fits_houses" s_fits_houses, dd "house_of" s_house_of, dd "alive_house" s_alive_house, dd "reached" s_reached, dd "past" s_past, dd "part" s_part, dd "distances" s_distances, dd "sum_of" s_sum_of, dd "within_limit" s_within_limit, dd "parts" s_parts, dd "distances_to" s_distances_to, dd "check_number" s_check_number, dd "round_trips" s_round_trips, dd "echo" s_echo, dd "inner" s_inner, dd "full_span" s_full_span, dd "round_trip" s_round_trip, dd "nearer_house" s_nearer_house, dd "path" s_path, dd "_law_pool" s__law_pool, dd "_law_take" s__law_take, dd "_law_int" s__law_int, dd "_law_row" s__law_row, dd "_law_links" s__law_links, dd "_law_size" s__law_size, dd "_law_part" s__law_part, dd "_law_dist" s__law_dist, dd "_law_pattern" s__law_pattern, dd "_law_asked" s__law_asked, dd "_law_refusals_right" s__law_refusals_right, dd "_law_steps_right" s__law_steps_right, dd "_law_limits" s__law_limits, dd "_law_echoes_right" s__law_echoes_right, dd "_law_shape" s__law_shape, dd "_law_shape_right" s__law_shape_right, dd "law" s_law, dm "Pattern" "standing" "Pattern.standing" s_Pattern_standing, dm "Pattern" "lasts" "Pattern.lasts" s_Pattern_lasts, dm "Pattern" "lasting" "Pattern.lasting" s_Pattern_lasting, dm "Pattern" "fits" "Pattern.fits" s_Pattern_fits, dm "Net" "__init__" "Net.__init__" s_Net___init__, dm "BadHouse" "__init__" "BadHouse.__init__" s_BadHouse___init__, dm "IsFallen" "__init__" "IsFallen.__init__" s_IsFallen___init__, dm "BadNumber" "__init__" "BadNumber.__init__" s_BadNumber___init__, dPat]
def fa : List He.Fa := [.glo "is_number", .glo "is_below", .glo "is_row", .glo "told_houses", .glo "steps_over", .glo "common", .glo "house_set", .glo "link_of", .glo "link_set", .glo "all_links", .glo "house_count", .glo "fits_houses", .glo "house_of", .glo "alive_house", .glo "reached", .glo "past", .glo "part", .glo "distances", .glo "sum_of", .glo "within_limit", .glo "parts", .glo "distances_to", .glo "check_number", .glo "round_trips", .glo "echo", .glo "inner", .glo "full_span", .glo "round_trip", .glo "nearer_house", .glo "path", .glo "_law_pool", .glo "_law_take", .glo "_law_int", .glo "_law_row", .glo "_law_links", .glo "_law_size", .glo "_law_part", .glo "_law_dist", .glo "_law_pattern", .glo "_law_asked", .glo "_law_refusals_right", .glo "_law_steps_right", .glo "_law_limits", .glo "_law_echoes_right", .glo "_law_shape", .glo "_law_shape_right", .glo "law", .glo "Pattern", .glo "Net", .glo "BadHouse", .glo "IsFallen", .glo "BadNumber", .glo "LinksError", .free "isinstance", .free "int", .free "bool", .free "list", .free "tuple", .free "len", .free "range", .free "sorted", .free "set", .free "any", .free "all", .free "enumerate", .free "min", .free "max", .free "zip", .int "MOST_HOUSES" 7, .cls "Pattern", .cls "Net", .noat "Pattern" "fallen", .noat "Pattern" "silent", .noat "Net" "houses", .noat "Net" "alive", .noat "Net" "onward", .noat "Net" "backward", .noat "Net" "pattern", .noat "Net" "links", .meth "Pattern" "standing", .meth "Pattern" "lasts", .meth "Pattern" "lasting", .meth "Pattern" "fits", .mkr "Pattern", .mkr "Net"]
def nm0 : List PySem.Str := ["_wall", "LinksError", "BadNumber", "BadHouses", "BadHouse", "BadSet", "BadLinks", "BadPattern", "IsFallen", "MOST_HOUSES", "is_number", "is_below", "is_row", "check_number", "house_count", "house_of", "house_set", "link_of", "link_set", "all_links", "merged", "common", "Pattern", "fits_houses", "Net", "alive_house", "steps_over", "told_houses", "reached", "path"]
def nm1 : List PySem.Str := ["nearer_house", "distances", "distances_to", "round_trips", "sum_of", "round_trip", "within_limit", "echo", "full_span", "inner", "past", "part", "parts", "_law_pool", "_law_take", "_law_int", "_law_row", "_law_links", "_law_pattern", "_law_dist", "_law_part", "_law_size", "_law_steps_right", "_law_limits", "_law_echoes_right", "_law_shape", "_law_shape_right", "_law_asked", "_law_refusals_right"]
def names : List PySem.Str := nm0 ++ nm1
def xt (K : PySem.W.Frag) : Bool := AX.clsB K (He.ga K "BadHouse") (He.ma K (He.ga K "BadHouse") "__init__") "house" && (AH.kwB K (He.ma K (He.ga K "BadHouse") "__init__") && (xfB K (He.ga K "BadHouse") && (AH.exB K (He.ga K "BadHouse") && (decide (PySem.W.exmOne K (.ref (He.ga K "BadHouse")) (.ref (He.ga K "BadHouse")) = some true) && (decide (PySem.W.kitOne K (.ref (He.ga K "BadHouse")) (.ref (He.ga K "LinksError")) = some true) && (decide (PySem.W.findIn K (.ref (He.ga K "BadHouse")) "house" = some none) && (AX.clsB K (He.ga K "IsFallen") (He.ma K (He.ga K "IsFallen") "__init__") "house" && (AH.kwB K (He.ma K (He.ga K "IsFallen") "__init__") && (xfB K (He.ga K "IsFallen") && (AH.exB K (He.ga K "IsFallen") && (decide (PySem.W.exmOne K (.ref (He.ga K "IsFallen")) (.ref (He.ga K "IsFallen")) = some true) && (decide (PySem.W.kitOne K (.ref (He.ga K "IsFallen")) (.ref (He.ga K "LinksError")) = some true) && (decide (PySem.W.findIn K (.ref (He.ga K "IsFallen")) "house" = some none) && (AX.clsB K (He.ga K "BadNumber") (He.ma K (He.ga K "BadNumber") "__init__") "name" && (AH.kwB K (He.ma K (He.ga K "BadNumber") "__init__") && (xfB K (He.ga K "BadNumber") && (AH.exB K (He.ga K "BadNumber") && (decide (PySem.W.exmOne K (.ref (He.ga K "BadNumber")) (.ref (He.ga K "BadNumber")) = some true) && (decide (PySem.W.kitOne K (.ref (He.ga K "BadNumber")) (.ref (He.ga K "LinksError")) = some true) && (decide (PySem.W.findIn K (.ref (He.ga K "BadNumber")) "name" = some none) && (decide (PySem.W.exmOne K (.ref (He.ga K "IsFallen")) (.ref (He.ga K "BadHouse")) = some false) && (decide (PySem.W.exmOne K (.ref (He.ga K "BadNumber")) (.ref (He.ga K "BadHouse")) = some false) && (decide (PySem.W.exmOne K (.ref (He.ga K "BadNumber")) (.ref (He.ga K "IsFallen")) = some false) && (decide (PySem.W.specialIn K (.builtin "object.__class__") "__get__" = some (some (.builtin "getset_descriptor.__get__"))) && (decide (PySem.W.takesIn K (.builtin "object.__class__") = some true) && (decide (PySem.W.findIn K (.ref (He.ga K "Pattern")) "__class__" = some (some (.builtin "object.__class__"))) && (decide (PySem.W.mroIn K (He.ga K "Pattern") (.type "object") = some true) && (decide (PySem.W.kitOne K (.ref (He.ga K "Pattern")) (.ref (He.ga K "Pattern")) = some true)))))))))))))))))))))))))))))
abbrev R : PySem.W.OpenRow := PySem.W.OpenLaw.row PySem.Challenge.rw_silentlinks_k05_echoes_spans
abbrev hk : PySem.W.Hook := AH.hookX fa fn xt
def ob (s : PySem.W.SharedT) : He.AlD × Bool := AH.obsX fa fn xt (HandSHeadRun.getT s)
theorem ob_eq (s : PySem.W.SharedT) : ob s = hk.obs s.abs := AH.obsX_eq (HandSHeadRun.getT_eq s)
theorem run (w : World) : HandSHeadRun.RunEq R (PySem.W.view R.prog [68]) hk ob 7000 names w := by
  intro os
  kernel_rfl
end T5
namespace T5
open PySem PySem.Spec PyProof.Rows L2 AL
theorem facts {P : Program} {w : World} {K : PySem.W.Frag} {h : Heap} {mg : Str → Option Value} {f : Addr} (X : K.In h) (G : h.Ns mainGlobals mg) (hfa : mg ("law" : Str) = some (.ref f)) (c : He.SaysD fa fn K) (t : xt K = true) :
    ∃ fd : FuncData, (∀ (s : Shared) (v : Value), BindsTo s fd ⟨[v], []⟩ [("script", v)]) ∧ ∀ base : Heap, FnOk P w K mg base (L2.CX P w) 13 f fd ["script"] (Csp K (PFn 1 S_law)) := by
  unfold xt at t
  simp only [Bool.and_eq_true, decide_eq_true_eq] at t
  obtain ⟨tc_BadHouse, tk_BadHouse, tx_BadHouse, te_BadHouse, to_BadHouse, tl_BadHouse, tn_BadHouse, tc_IsFallen, tk_IsFallen, tx_IsFallen, te_IsFallen, to_IsFallen, tl_IsFallen, tn_IsFallen, tc_BadNumber, tk_BadNumber, tx_BadNumber, te_BadNumber, to_BadNumber, tl_BadNumber, tn_BadNumber, tm_IsFallen_BadHouse, tm_BadNumber_BadHouse, tm_BadNumber_IsFallen, ty_get, ty_take, ti_Pattern, tr_Pattern, ts_Pattern⟩ := t
  obtain ⟨d0, F0⟩ := c.def_ 0 (d := dd "is_number" s_is_number) rfl
  obtain ⟨d1, F1⟩ := c.def_ 1 (d := dd "is_below" s_is_below) rfl
  obtain ⟨d2, F2⟩ := c.def_ 2 (d := dd "is_row" s_is_row) rfl
  obtain ⟨d3, F3⟩ := c.def_ 3 (d := dd "told_houses" s_told_houses) rfl
  obtain ⟨d4, F4⟩ := c.def_ 4 (d := dd "steps_over" s_steps_over) rfl
  obtain ⟨d5, F5⟩ := c.def_ 5 (d := dd "common" s_common) rfl
  obtain ⟨d6, F6⟩ := c.def_ 6 (d := dd "house_set" s_house_set) rfl
  obtain ⟨d7, F7⟩ := c.def_ 7 (d := dd "link_of" s_link_of) rfl
  obtain ⟨d8, F8⟩ := c.def_ 8 (d := dd "link_set" s_link_set) rfl
  obtain ⟨d9, F9⟩ := c.def_ 9 (d := dd "all_links" s_all_links) rfl
  obtain ⟨d10, F10⟩ := c.def_ 10 (d := dd "house_count" s_house_count) rfl
  obtain ⟨d11, F11⟩ := c.def_ 11 (d := dd "fits_houses" s_fits_houses) rfl
  obtain ⟨d12, F12⟩ := c.def_ 12 (d := dd "house_of" s_house_of) rfl
  obtain ⟨d13, F13⟩ := c.def_ 13 (d := dd "alive_house" s_alive_house) rfl
  obtain ⟨d14, F14⟩ := c.def_ 14 (d := dd "reached" s_reached) rfl
  obtain ⟨d15, F15⟩ := c.def_ 15 (d := dd "past" s_past) rfl
  obtain ⟨d16, F16⟩ := c.def_ 16 (d := dd "part" s_part) rfl
  obtain ⟨d17, F17⟩ := c.def_ 17 (d := dd "distances" s_distances) rfl
  obtain ⟨d18, F18⟩ := c.def_ 18 (d := dd "sum_of" s_sum_of) rfl
  obtain ⟨d19, F19⟩ := c.def_ 19 (d := dd "within_limit" s_within_limit) rfl
  obtain ⟨d20, F20⟩ := c.def_ 20 (d := dd "parts" s_parts) rfl
  obtain ⟨d21, F21⟩ := c.def_ 21 (d := dd "distances_to" s_distances_to) rfl
  obtain ⟨d22, F22⟩ := c.def_ 22 (d := dd "check_number" s_check_number) rfl
  obtain ⟨d23, F23⟩ := c.def_ 23 (d := dd "round_trips" s_round_trips) rfl
  obtain ⟨d24, F24⟩ := c.def_ 24 (d := dd "echo" s_echo) rfl
  obtain ⟨d25, F25⟩ := c.def_ 25 (d := dd "inner" s_inner) rfl
  obtain ⟨d26, F26⟩ := c.def_ 26 (d := dd "full_span" s_full_span) rfl
  obtain ⟨d27, F27⟩ := c.def_ 27 (d := dd "round_trip" s_round_trip) rfl
  obtain ⟨d28, F28⟩ := c.def_ 28 (d := dd "nearer_house" s_nearer_house) rfl
  obtain ⟨d29, F29⟩ := c.def_ 29 (d := dd "path" s_path) rfl
  obtain ⟨d30, F30⟩ := c.def_ 30 (d := dd "_law_pool" s__law_pool) rfl
  obtain ⟨d31, F31⟩ := c.def_ 31 (d := dd "_law_take" s__law_take) rfl
  obtain ⟨d32, F32⟩ := c.def_ 32 (d := dd "_law_int" s__law_int) rfl
  obtain ⟨d33, F33⟩ := c.def_ 33 (d := dd "_law_row" s__law_row) rfl
  obtain ⟨d34, F34⟩ := c.def_ 34 (d := dd "_law_links" s__law_links) rfl
  obtain ⟨d35, F35⟩ := c.def_ 35 (d := dd "_law_size" s__law_size) rfl
  obtain ⟨d36, F36⟩ := c.def_ 36 (d := dd "_law_part" s__law_part) rfl
  obtain ⟨d37, F37⟩ := c.def_ 37 (d := dd "_law_dist" s__law_dist) rfl
  obtain ⟨d38, F38⟩ := c.def_ 38 (d := dd "_law_pattern" s__law_pattern) rfl
  obtain ⟨d39, F39⟩ := c.def_ 39 (d := dd "_law_asked" s__law_asked) rfl
  obtain ⟨d40, F40⟩ := c.def_ 40 (d := dd "_law_refusals_right" s__law_refusals_right) rfl
  obtain ⟨d41, F41⟩ := c.def_ 41 (d := dd "_law_steps_right" s__law_steps_right) rfl
  obtain ⟨d42, F42⟩ := c.def_ 42 (d := dd "_law_limits" s__law_limits) rfl
  obtain ⟨d43, F43⟩ := c.def_ 43 (d := dd "_law_echoes_right" s__law_echoes_right) rfl
  obtain ⟨d44, F44⟩ := c.def_ 44 (d := dd "_law_shape" s__law_shape) rfl
  obtain ⟨d45, F45⟩ := c.def_ 45 (d := dd "_law_shape_right" s__law_shape_right) rfl
  obtain ⟨d46, F46⟩ := c.def_ 46 (d := dd "law" s_law) rfl
  obtain ⟨d47, F47⟩ := c.def_ 47 (d := dm "Pattern" "standing" "Pattern.standing" s_Pattern_standing) rfl
  obtain ⟨d48, F48⟩ := c.def_ 48 (d := dm "Pattern" "lasts" "Pattern.lasts" s_Pattern_lasts) rfl
  obtain ⟨d49, F49⟩ := c.def_ 49 (d := dm "Pattern" "lasting" "Pattern.lasting" s_Pattern_lasting) rfl
  obtain ⟨d50, F50⟩ := c.def_ 50 (d := dm "Pattern" "fits" "Pattern.fits" s_Pattern_fits) rfl
  obtain ⟨d51, F51⟩ := c.def_ 51 (d := dm "Net" "__init__" "Net.__init__" s_Net___init__) rfl
  obtain ⟨d52, F52⟩ := c.def_ 52 (d := dm "BadHouse" "__init__" "BadHouse.__init__" s_BadHouse___init__) rfl
  obtain ⟨d53, F53⟩ := c.def_ 53 (d := dm "IsFallen" "__init__" "IsFallen.__init__" s_IsFallen___init__) rfl
  obtain ⟨d54, F54⟩ := c.def_ 54 (d := dm "BadNumber" "__init__" "BadNumber.__init__" s_BadNumber___init__) rfl
  obtain ⟨d55, F55⟩ := c.def_ 55 (d := dPat) rfl
  have e := hfa.symm.trans (He.glo_ok X G (c.fact 46 (f := .glo "law") rfl))
  cases e
  have bb := FunD.bindsA (ps := ["script"]) F46 fun _ _ _ _ _ _ us hl => match us, hl with | [_], _ => rfl
  have bl : Blt mg := ⟨He.free_ok X G (c.fact 53 (f := .free "isinstance") rfl), He.free_ok X G (c.fact 54 (f := .free "int") rfl), He.free_ok X G (c.fact 55 (f := .free "bool") rfl), He.free_ok X G (c.fact 56 (f := .free "list") rfl), He.free_ok X G (c.fact 57 (f := .free "tuple") rfl), He.free_ok X G (c.fact 58 (f := .free "len") rfl), He.free_ok X G (c.fact 59 (f := .free "range") rfl), He.free_ok X G (c.fact 60 (f := .free "sorted") rfl), He.free_ok X G (c.fact 61 (f := .free "set") rfl), He.free_ok X G (c.fact 62 (f := .free "any") rfl), He.free_ok X G (c.fact 63 (f := .free "all") rfl), He.free_ok X G (c.fact 64 (f := .free "enumerate") rfl)⟩
  have hmin := He.free_ok X G (c.fact 65 (f := .free "min") rfl)
  have hmax := He.free_ok X G (c.fact 66 (f := .free "max") rfl)
  have hzip := He.free_ok X G (c.fact 67 (f := .free "zip") rfl)
  have g := fun (i : Nat) (x : Str) (h : fa[i]? = some (.glo x)) => He.glo_ok X G (c.fact i (f := .glo x) h)
  have hPattern := g 47 "Pattern" rfl
  have hNet := g 48 "Net" rfl
  have hBadHouse := g 49 "BadHouse" rfl
  have hIsFallen := g 50 "IsFallen" rfl
  have hBadNumber := g 51 "BadNumber" rfl
  have hLinksError := g 52 "LinksError" rfl
  obtain ⟨tok_MOST_HOUSES, vMOST_HOUSES⟩ := He.int_ok X G (c.fact 68 (f := .int "MOST_HOUSES" 7) rfl)
  have X_BadHouse := AX.clsB_ok tc_BadHouse
  have I_BadHouse : AX.Ini1 K (He.ma K (He.ga K "BadHouse") "__init__") "BadHouse.__init__" "house" := AH.ini_ok F52 tk_BadHouse
  have X_IsFallen := AX.clsB_ok tc_IsFallen
  have I_IsFallen : AX.Ini1 K (He.ma K (He.ga K "IsFallen") "__init__") "IsFallen.__init__" "house" := AH.ini_ok F53 tk_IsFallen
  have X_BadNumber := AX.clsB_ok tc_BadNumber
  have I_BadNumber : AX.Ini1 K (He.ma K (He.ga K "BadNumber") "__init__") "BadNumber.__init__" "name" := AH.ini_ok F54 tk_BadNumber
  have pc : PatC K (He.ga K "Pattern") := ⟨⟨He.cls_ok (c.fact 69 (f := .cls "Pattern") rfl), ti_Pattern, ty_get, ty_take, tr_Pattern⟩, He.noat_ok (c.fact 71 (f := .noat "Pattern" "fallen") rfl), He.noat_ok (c.fact 72 (f := .noat "Pattern" "silent") rfl)⟩
  have nc : NetC K (He.ga K "Net") := ⟨He.cls_ok (c.fact 70 (f := .cls "Net") rfl), He.noat_ok (c.fact 73 (f := .noat "Net" "houses") rfl), He.noat_ok (c.fact 74 (f := .noat "Net" "alive") rfl), He.noat_ok (c.fact 75 (f := .noat "Net" "onward") rfl), He.noat_ok (c.fact 76 (f := .noat "Net" "backward") rfl), He.noat_ok (c.fact 77 (f := .noat "Net" "pattern") rfl), He.noat_ok (c.fact 78 (f := .noat "Net" "links") rfl)⟩
  have ef_BadHouse : EF K mg "BadHouse" (He.ga K "BadHouse") "house" := ⟨hBadHouse, _, _, X_BadHouse, I_BadHouse⟩
  have ef_IsFallen : EF K mg "IsFallen" (He.ga K "IsFallen") "house" := ⟨hIsFallen, _, _, X_IsFallen, I_IsFallen⟩
  have ef_BadNumber : EF K mg "BadNumber" (He.ga K "BadNumber") "name" := ⟨hBadNumber, _, _, X_BadNumber, I_BadNumber⟩
  have e1_BadHouse : E1 K (He.ga K "BadHouse") (He.ga K "LinksError") "house" := ⟨xfB_ok tx_BadHouse, AH.exB_ok te_BadHouse, to_BadHouse, tl_BadHouse, tn_BadHouse⟩
  have e1_IsFallen : E1 K (He.ga K "IsFallen") (He.ga K "LinksError") "house" := ⟨xfB_ok tx_IsFallen, AH.exB_ok te_IsFallen, to_IsFallen, tl_IsFallen, tn_IsFallen⟩
  have e1_BadNumber : E1 K (He.ga K "BadNumber") (He.ga K "LinksError") "name" := ⟨xfB_ok tx_BadNumber, AH.exB_ok te_BadNumber, to_BadNumber, tl_BadNumber, tn_BadNumber⟩
  have ex : ErrX K mg (He.ga K "BadHouse") (He.ga K "IsFallen") (He.ga K "BadNumber") (He.ga K "LinksError") := ⟨hLinksError, ef_BadHouse, ef_IsFallen, ef_BadNumber, e1_BadHouse, e1_IsFallen, e1_BadNumber, tm_IsFallen_BadHouse, tm_BadNumber_BadHouse, tm_BadNumber_IsFallen⟩
  refine ⟨d46, fun s v => bb s [v] rfl, fun base => ?_⟩
  have k_num := c_is_number (P := P) (w := w) (base := base) F0 (g 0 "is_number" rfl) bl
  have k_below := c_is_below (P := P) (w := w) (base := base) F1 (g 1 "is_below" rfl) bl k_num
  have k_isrow := c_is_row (P := P) (w := w) (base := base) F2 (g 2 "is_row" rfl) bl
  have k_told := c_told_houses (P := P) (w := w) (base := base) F3 (g 3 "told_houses" rfl) bl
  have k_over := c_steps_over (P := P) (w := w) (base := base) F4 (g 4 "steps_over" rfl) bl
  have k_common := c_common (P := P) (w := w) (base := base) F5 (g 5 "common" rfl) bl
  have k_hset := c_house_set (P := P) (w := w) (base := base) F6 (g 6 "house_set" rfl) bl k_isrow k_below
  have k_lof := c_link_of (P := P) (w := w) (base := base) F7 (g 7 "link_of" rfl) bl k_isrow k_below
  have k_lset := c_link_set (P := P) (w := w) (base := base) F8 (g 8 "link_set" rfl) bl k_isrow k_lof
  have k_all := c_all_links (P := P) (w := w) (base := base) F9 (g 9 "all_links" rfl) bl
  have k_Pat := c_Pattern (P := P) (w := w) (base := base) F55 rfl (He.mkr_ok (c.fact 83 (f := .mkr "Pattern") rfl)) hPattern pc.is.cl pc.n1 pc.n2 k_hset k_lset
  have k_stand := c_standing (P := P) (w := w) (mg := mg) (base := base) F47 (He.meth_ok (c.fact 79 (f := .meth "Pattern" "standing") rfl)) bl pc
  have k_lasts := c_lasts (P := P) (w := w) (mg := mg) (base := base) F48 (He.meth_ok (c.fact 80 (f := .meth "Pattern" "lasts") rfl)) bl pc
  have k_lasting := c_lasting (P := P) (w := w) (mg := mg) (base := base) F49 (He.meth_ok (c.fact 81 (f := .meth "Pattern" "lasting") rfl)) bl pc k_all k_lasts
  have k_hc := c_house_count (P := P) (w := w) (base := base) F10 (g 10 "house_count" rfl) bl vMOST_HOUSES k_num
  have k_fits := c_fits (P := P) (w := w) (mg := mg) (base := base) F50 (He.meth_ok (c.fact 82 (f := .meth "Pattern" "fits") rfl)) bl pc k_below
  have k_fh := c_fits_houses (P := P) (w := w) (base := base) F11 (g 11 "fits_houses" rfl) bl pc hPattern ts_Pattern k_fits
  have k_hof := c_house_of (P := P) (w := w) (base := base) F12 (g 12 "house_of" rfl) k_below
  have k_alive := c_alive_house (P := P) (w := w) (base := base) F13 (g 13 "alive_house" rfl) (C := He.ga K "Pattern") nc k_hof
  have k_reached := c_reached (P := P) (w := w) (base := base) F14 (g 14 "reached" rfl) nc k_told k_over k_alive
  have k_past := c_past (P := P) (w := w) (base := base) F15 (g 15 "past" rfl) nc k_told k_over k_alive
  have k_part := c_part (P := P) (w := w) (base := base) F16 (g 16 "part" rfl) k_common k_past k_reached
  have k_Net := c_Net (P := P) (w := w) (base := base) F51 (He.mkr_ok (c.fact 84 (f := .mkr "Net") rfl)) hNet bl nc pc k_hc k_fh k_stand k_lasting
  have k_don := c_don (P := P) (w := w) (base := base) F17 (g 17 "distances" rfl) bl nc k_over k_alive
  have k_sum := c_sum (P := P) (w := w) (base := base) F18 (g 18 "sum_of" rfl) 
  have k_within := c_within (P := P) (w := w) (base := base) F19 (g 19 "within_limit" rfl) bl
  have k_parts := c_parts (P := P) (w := w) (base := base) F20 (g 20 "parts" rfl) bl nc k_part
  have x_hof := cx_hof (P := P) (w := w) (base := base) F12 (g 12 "house_of" rfl) ef_BadHouse k_below
  have x_alive := cx_alive (P := P) (w := w) (base := base) F13 (g 13 "alive_house" rfl) (C := He.ga K "Pattern") nc ef_IsFallen x_hof
  have x_don := cx_don (P := P) (w := w) (base := base) F17 (g 17 "distances" rfl) bl nc k_over x_alive
  have x_dbk := cx_dbk (P := P) (w := w) (base := base) F21 (g 21 "distances_to" rfl) bl nc k_over x_alive
  have x_chk := cx_chk (P := P) (w := w) (base := base) F22 (g 22 "check_number" rfl) ef_BadNumber k_num
  have x_trips := cx_trips (P := P) (w := w) (base := base) F23 (g 23 "round_trips" rfl) bl hzip x_don x_dbk k_sum
  have x_echo := cx_echo (P := P) (w := w) (base := base) F24 (g 24 "echo" rfl) x_trips k_within x_chk
  have x_inner := cx_inner (P := P) (w := w) (base := base) F25 (g 25 "inner" rfl) x_dbk k_within x_chk
  have x_span := cx_span (P := P) (w := w) (base := base) F26 (g 26 "full_span" rfl) hmax x_trips
  have x_rt := cx_rt (P := P) (w := w) (base := base) F27 (g 27 "round_trip" rfl) x_trips x_alive
  have k_near := c_nearX (P := P) (w := w) (base := base) (C := He.ga K "Pattern") F28 (g 28 "nearer_house" rfl) hmin nc
  have k_way := c_wayX (P := P) (w := w) (base := base) F29 (g 29 "path" rfl) bl nc k_alive k_over k_near
  have l_pool := c_pool (P := P) (w := w) (base := base) F30 (g 30 "_law_pool" rfl) bl hmin
  have l_take := c_take (P := P) (w := w) (base := base) F31 (g 31 "_law_take" rfl) bl
  have l_int := c_law_int (P := P) (w := w) (base := base) F32 (g 32 "_law_int" rfl) bl
  have l_row := c_row (P := P) (w := w) (base := base) F33 (g 33 "_law_row" rfl) bl l_int
  have l_links := c_law_links (P := P) (w := w) (base := base) F34 (g 34 "_law_links" rfl) bl
  have l_size := c_size (P := P) (w := w) (base := base) F35 (g 35 "_law_size" rfl) bl l_take
  have l_part := c_lpart (P := P) (w := w) (base := base) F36 (g 36 "_law_part" rfl) bl
  have l_dist := c_dist (P := P) (w := w) (base := base) F37 (g 37 "_law_dist" rfl) bl
  have l_pat := c_lpat (P := P) (w := w) (base := base) F38 (g 38 "_law_pattern" rfl) bl l_take l_links
  have l_asked := c_asked (P := P) (w := w) (base := base) F39 (g 39 "_law_asked" rfl) bl ex x_echo x_inner x_don x_span x_rt
  have l_refr := c_refr (P := P) (w := w) (base := base) F40 (g 40 "_law_refusals_right" rfl) bl nc l_take l_asked
  have l_steps := c_steps (P := P) (w := w) (base := base) F41 (g 41 "_law_steps_right" rfl) bl k_don l_int x_rt
  have l_lim := c_limits (P := P) (w := w) (base := base) F42 (g 42 "_law_limits" rfl) bl
  have l_echo := c_echoes (P := P) (w := w) (base := base) F43 (g 43 "_law_echoes_right" rfl) bl hmax l_part l_int l_row l_lim k_part x_span x_echo x_inner
  have l_shape := c_shape (P := P) (w := w) (base := base) F44 (g 44 "_law_shape" rfl) bl l_take l_links
  have l_shr := c_shr (P := P) (w := w) (base := base) F45 (g 45 "_law_shape_right" rfl) bl hmax l_take l_shape k_Net k_Pat k_past k_parts k_way x_span x_echo
  exact ok_law F46 bl l_pool l_take l_size l_pat k_Net k_Pat l_dist l_steps l_echo l_shr l_refr
end T5
open PySem PySem.W PySem.Calls PyProof.Rows
theorem PySem.Challenge.cw_silentlinks_k05_echoes_spans_holds : PySem.Challenge.rw_silentlinks_k05_echoes_spans.Holds := by
  w_on; o_law
  refine HandSHeadRun.head_any (r := OpenLaw.row PySem.Challenge.rw_silentlinks_k05_echoes_spans) (q := view (OpenLaw.row PySem.Challenge.rw_silentlinks_k05_echoes_spans).prog [68]) (H := T5.hk) (ob := T5.ob) (M := 7000) (loose := T5.names) (d := HandSHeadRun.topDef (OpenLaw.row PySem.Challenge.rw_silentlinks_k05_echoes_spans).prog 68) (kwd := []) T5.ob_eq
    (by kernel_rfl) (fun s => by kernel_rfl) T5.run (by kernel_rfl) (by kernel_rfl) (by kernel_rfl) (by rfl) (by first | assumption | decide +kernel) (by decide +kernel) ⟨rfl, rfl, rfl, rfl, rfl, by decide +kernel⟩ ?hw ?hc
  case hw => w_witness2
  case hc =>
    refine LamX.walk_ofTsE (l := PySem.Challenge.rw_silentlinks_k05_echoes_spans) (n := 63) (k := 13) (x := "script") (CX := fun w => L2.CX (PySem.Challenge.rw_silentlinks_k05_echoes_spans).prog w) rfl (by decide) (by kernel_rfl) ⟨by first | rfl | decide, by decide, by decide⟩ ?F (fun w H s e s' z => AL.cx_no z)
    intro w mg fa h Y G hmg0
    obtain ⟨K, KX, c, t⟩ := Y
    have hmg : mg ("law" : PySem.Str) = some (.ref fa) := by
      have e : (HandSHeadRun.topDef (OpenLaw.row PySem.Challenge.rw_silentlinks_k05_echoes_spans).prog 68).name = ("law" : PySem.Str) := by kernel_rfl
      rw [← e]
      exact hmg0
    obtain ⟨fd, hb, hF⟩ := T5.facts (P := (PySem.Challenge.rw_silentlinks_k05_echoes_spans).prog) (w := w) KX G hmg c t
    exact ⟨K, KX, fd, [], _, (fun p hp => nomatch hp), (fun p hp => nomatch hp), (fun p hp => nomatch hp), hb, fun H a ns hl _ _ hS => AL.csp_law (fun ns Ψ h1 h2 => ⟨ns, rfl, h1, h2⟩) H a ns hl hS, fun base _ _ _ => hF base⟩
