import PyProof.Rows.All
import Wide.All
import OpenK.AllK
import Wide.FinOn
import HandS.ForMost
import HandS.ForExc
import HandS.More
import HandS.Evl
import HandS.Defaults
import HandS.IsInst
import HandS.OwnEq
import HandS.SortInts
import HandS.Deep
import HandS.Dict
import HandS.Iter
import HandS.Strs
import HandS.SetFor
import KE.GoesMore
import HandS.TupSets
import HandS.ExcIs
import HandS.ExcField
import KE.KExcInit
import HandS.ExcOwn
import HandS.TryOnly
import KE.KStateDown
import Lean
import HandS.Head0
import HandS.Head1
import HandS.Head2
import HandS.HeadEnd
import HandS.HeadHook1
import HandS.HeadHook2
import HandS.HeadWalk
import PySem.Challenge.RW_silentlinks_k34_schedule_texts
import HandS.Property
import HandS.HeadHook3
import HandS.Struct
import KE.KMathG
import Flt.RightSqrt
import HandS.Conv
import HandS.Zip
import HandS.Style
import KE.IntTextLaws
import HandS.SlotsOwn
import HandS.OwnIter
import HandS.IterVal
import HandS.DictComp
import KE.KOpsOwn
import HandS.EndBits
import HandS.Text
import HandS.StrMore
import HandS.FStr
import HandS.RaiseMore
import HandS.TupAny
import HandS.ExcInit
set_option Elab.async false
set_option linter.all false
set_option maxRecDepth 100000
set_option maxHeartbeats 0
/-! AL: my layer over the hand layer. Data without addresses, a frame of data and owned objects, judgements on syntax (EC, TC, AC, SC). -/
namespace AL
open PySem PySem.Spec PyProof.Rows L2 Evl

/-! ### data -/
inductive D where
  | non | bl (b : Bool) | int (i : Int) | str (s : Str) | lst (ds : List D) | tup (ds : List D) | ktup (ds : List D) | klst (ds : List D) | obj (C : Addr) (fs : List (Str × D))
  /-- a caught error, its dict, its fields -/
  | exc (a : Addr) (d : Option Addr) (fs : List (Str × D))

mutual
inductive Rep (K : PySem.W.Frag) (B : Hp) : V → D → Prop
  | non : Rep K B .non .non
  | bl (b : Bool) : Rep K B (.bl b) (.bl b)
  | int (i : Int) : Rep K B (.int i) (.int i)
  | str (x : Str) : Rep K B (.str x) (.str x)
  | lst {a : Addr} {xs : List V} {ds : List D} : B a = some (.lst xs) → Reps K B xs ds → Rep K B (.ref a) (.lst ds)
  | tup {a : Addr} {xs : List V} {ds : List D} : B a = some (.tup xs) → Reps K B xs ds → Rep K B (.ref a) (.tup ds)
  /-- a tuple of the written part -/
  | ktup {a : Addr} {xs : List V} {ds : List D} : SqT K B a xs → Reps K B xs ds → Rep K B (.ref a) (.ktup ds)
  /-- a list of the written part, or the script -/
  | klst {a : Addr} {xs : List V} {ds : List D} : SqL K B a xs → Reps K B xs ds → Rep K B (.ref a) (.klst ds)
  | obj {a C dx : Addr} {fs : List (Str × V)} {gs : List (Str × D)} : B a = some (.ins C dx fs) → RepF K B fs gs → Rep K B (.ref a) (.obj C gs)
  | exc0 {a : Addr} : Rep K B (.ref a) (.exc a none [])
  | exc {a dx : Addr} {fs : List (Str × V)} {gs : List (Str × D)} : B dx = some (.xd fs) → RepF K B fs gs → Rep K B (.ref a) (.exc a (some dx) gs)
inductive Reps (K : PySem.W.Frag) (B : Hp) : List V → List D → Prop
  | nil : Reps K B [] []
  | cons {v : V} {vs : List V} {d : D} {ds : List D} : Rep K B v d → Reps K B vs ds → Reps K B (v :: vs) (d :: ds)
inductive RepF (K : PySem.W.Frag) (B : Hp) : List (Str × V) → List (Str × D) → Prop
  | nil : RepF K B [] []
  | cons {f : Str} {v : V} {vs : List (Str × V)} {d : D} {ds : List (Str × D)} : Rep K B v d → RepF K B vs ds → RepF K B ((f, v) :: vs) ((f, d) :: ds)
end
section
variable {K : PySem.W.Frag} {B B' : Hp}
mutual
theorem Rep.mono (e : Ex B B') : ∀ (d : D) (v : V), Rep K B v d → Rep K B' v d
  | .non, _, .non => .non
  | .bl b, _, .bl _ => .bl b
  | .int i, _, .int _ => .int i
  | .str x, _, .str _ => .str x
  | .lst ds, _, .lst h r => .lst (e _ _ h) (Reps.mono e ds _ r)
  | .tup ds, _, .tup h r => .tup (e _ _ h) (Reps.mono e ds _ r)
  | .ktup ds, _, .ktup h r => .ktup (ex_t e h) (Reps.mono e ds _ r)
  | .klst ds, _, .klst h r => .klst (ex_l e h) (Reps.mono e ds _ r)
  | .obj C gs, _, .obj h r => .obj (e _ _ h) (RepF.mono e gs _ r)
  | .exc _ none _, _, .exc0 => .exc0
  | .exc _ (some _) gs, _, .exc h r => .exc (e _ _ h) (RepF.mono e gs _ r)
theorem Reps.mono (e : Ex B B') : ∀ (ds : List D) (vs : List V), Reps K B vs ds → Reps K B' vs ds
  | [], _, .nil => .nil
  | d :: ds, _, .cons r rs => .cons (Rep.mono e d _ r) (Reps.mono e ds _ rs)
theorem RepF.mono (e : Ex B B') : ∀ (ds : List (Str × D)) (vs : List (Str × V)), RepF K B vs ds → RepF K B' vs ds
  | [], _, .nil => .nil
  | (f, d) :: ds, _, .cons r rs => .cons (Rep.mono e d _ r) (RepF.mono e ds _ rs)
end
theorem Rep.up {d : D} {v : V} (r : Rep K B v d) (e : Ex B B') : Rep K B' v d := Rep.mono e d v r
theorem Reps.up {ds : List D} {vs : List V} (r : Reps K B vs ds) (e : Ex B B') : Reps K B' vs ds := Reps.mono e ds vs r
theorem RepF.up {ds : List (Str × D)} {vs : List (Str × V)} (r : RepF K B vs ds) (e : Ex B B') : RepF K B' vs ds := RepF.mono e ds vs r
theorem Reps.length {ds : List D} : ∀ {vs : List V}, Reps K B vs ds → vs.length = ds.length := by
  induction ds with
  | nil => intro vs r; cases r; rfl
  | cons d ds ih => intro vs r; cases r with | cons _ rs => simp [ih rs]
theorem Reps.get {ds : List D} : ∀ {vs : List V} {i : Nat} {v : V}, Reps K B vs ds → vs[i]? = some v → ∃ d, ds[i]? = some d ∧ Rep K B v d := by
  induction ds with
  | nil => intro vs i v r e; cases r; simp at e
  | cons d ds ih =>
    intro vs i v r e
    cases r with
    | cons r rs =>
      cases i with
      | zero => simp at e; subst e; exact ⟨d, rfl, r⟩
      | succ i => obtain ⟨d', h1, h2⟩ := ih rs (by simpa using e); exact ⟨d', by simpa using h1, h2⟩
theorem Reps.get' {ds : List D} : ∀ {vs : List V} {i : Nat} {d : D}, Reps K B vs ds → ds[i]? = some d → ∃ v, vs[i]? = some v ∧ Rep K B v d := by
  induction ds with
  | nil => intro vs i d r e; simp at e
  | cons d ds ih =>
    intro vs i d' r e
    cases r with
    | cons r rs =>
      cases i with
      | zero => simp at e; subst e; exact ⟨_, rfl, r⟩
      | succ i => obtain ⟨d', h1, h2⟩ := ih rs (by simpa using e); exact ⟨d', by simpa using h1, h2⟩
theorem Reps.app {ds es : List D} : ∀ {vs ws : List V}, Reps K B vs ds → Reps K B ws es → Reps K B (vs ++ ws) (ds ++ es) := by
  induction ds with
  | nil => intro vs ws r s; cases r; exact s
  | cons d ds ih => intro vs ws r s; cases r with | cons r rs => exact .cons r (ih rs s)
theorem Reps.take {ds : List D} : ∀ (n : Nat) {vs : List V}, Reps K B vs ds → Reps K B (vs.take n) (ds.take n) := by
  induction ds with
  | nil => intro n vs r; cases r; simp; exact .nil
  | cons d ds ih => intro n vs r; cases r with | cons r rs => cases n with | zero => exact .nil | succ n => exact .cons r (ih n rs)
theorem Reps.drop {ds : List D} : ∀ (n : Nat) {vs : List V}, Reps K B vs ds → Reps K B (vs.drop n) (ds.drop n) := by
  induction ds with
  | nil => intro n vs r; cases r; simp; exact .nil
  | cons d ds ih => intro n vs r; cases r with | cons r rs => cases n with | zero => exact .cons r rs | succ n => exact ih n rs
theorem Reps.rev {ds : List D} : ∀ {vs : List V}, Reps K B vs ds → Reps K B vs.reverse ds.reverse := by
  induction ds with
  | nil => intro vs r; cases r; exact .nil
  | cons d ds ih =>
    intro vs r
    cases r with
    | cons r rs => rw [List.reverse_cons, List.reverse_cons]; exact (ih rs).app (.cons r .nil)
theorem Reps.set {ds : List D} : ∀ {vs : List V} (i : Nat) {v : V} {d : D}, Reps K B vs ds → Rep K B v d → Reps K B (vs.set i v) (ds.set i d) := by
  induction ds with
  | nil => intro vs i v d r q; cases r; exact .nil
  | cons e ds ih => intro vs i v d r q; cases r with | cons r rs => cases i with | zero => exact .cons q rs | succ i => exact .cons r (ih i rs q)
theorem RepF.lookup {fs : List (Str × D)} : ∀ {vs : List (Str × V)} {f : Str} {d : D}, RepF K B vs fs → fs.lookup f = some d → ∃ v, vs.lookup f = some v ∧ Rep K B v d := by
  induction fs with
  | nil => intro vs f d r e; simp at e
  | cons p fs ih =>
    intro vs f d r e
    obtain ⟨g, d0⟩ := p
    cases r with
    | cons r rs =>
      by_cases h : f = g
      · subst h; simp at e; subst e; exact ⟨_, by simp, r⟩
      · have hb : (f == g) = false := by simpa using h
        simp only [List.lookup, hb] at e ⊢
        exact ih rs e
theorem RepF.none {fs : List (Str × D)} : ∀ {vs : List (Str × V)} {f : Str}, RepF K B vs fs → fs.lookup f = none → vs.lookup f = none := by
  induction fs with
  | nil => intro vs f r e; cases r; rfl
  | cons p fs ih =>
    intro vs f r e
    obtain ⟨g, d0⟩ := p
    cases r with
    | cons r rs =>
      by_cases h : f = g
      · subst h; simp at e
      · have hb : (f == g) = false := by simpa using h
        simp only [List.lookup, hb] at e ⊢
        exact ih rs e
theorem RepF.len {fs : List (Str × D)} : ∀ {vs : List (Str × V)}, RepF K B vs fs → vs.length = fs.length := by
  induction fs with
  | nil => intro vs r; cases r; rfl
  | cons p fs ih => intro vs r; cases r with | cons _ rs => simp [ih rs]
end
/-- an attribute stored -/
def putD (f : Str) (d : D) : List (Str × D) → List (Str × D)
  | [] => [(f, d)]
  | (g, e) :: r => if g = f then (g, d) :: r else (g, e) :: putD f d r

/-! ### owned objects, the frame -/
inductive OO where
  | l (ds : List D) | k (kvs : List (Key × D)) | t (kvs : List (List Key × D)) | ob (C : Addr) (fs : List (Str × D)) | ll (rows : List (Addr × List D))
inductive Sl where
  | im (d : D) | ow (a : Addr) (o : OO)
abbrev En := List (Option Sl)
def RepK (K : PySem.W.Frag) (B : Hp) {κ : Type} : List (κ × V) → List (κ × D) → Prop := Paired fun p q => p.1 = q.1 ∧ Rep K B p.2 q.2
def RepO (K : PySem.W.Frag) (B : Hp) : HO → OO → Prop
  | .lst vs, .l ds => Reps K B vs ds
  | .dK kvs, .k kds => RepK K B kvs kds
  | .dT kvs, .t kds => RepK K B kvs kds
  | .ins C _ vs, .ob C' gs => C = C' ∧ RepF K B vs gs
  | _, _ => False
theorem RepO.up {K : PySem.W.Frag} {B B' : Hp} {u : HO} {o : OO} (r : RepO K B u o) (e : Ex B B') : RepO K B' u o := by
  cases u <;> cases o <;> first
    | exact False.elim r
    | exact Reps.up r e
    | exact Paired.mapP r fun p q z => ⟨z.1, z.2.up e⟩
    | exact ⟨r.1, r.2.up e⟩
/-- what is always known -/
def kn : HO → Bool
  | .tup _ => true
  | .xd _ => true
  | _ => false
structure St3 (B G H : Hp) : Prop where
  ex : Ex B H
  eg : Ex G H
  dj : ∀ a o, G a = some o → B a = none
  tp : ∀ a w, H a = some w → kn w = true → B a = some w
structure Ok (K : PySem.W.Frag) (B G H : Hp) (σ : L2.St) (ρ : En) : Prop where
  s : St3 B G H
  len : σ.length = ρ.length
  im : ∀ (i : Nat) (d : D), ρ[i]? = some (some (Sl.im d)) → ∃ v : V, σ[i]? = some (some v) ∧ Rep K B v d
  ow : ∀ (i : Nat) (a : Addr) (o : OO), ρ[i]? = some (some (Sl.ow a o)) → σ[i]? = some (some (V.ref a)) ∧ B a = none ∧ G a = none ∧ ∃ u, H a = some u ∧ RepO K B u o
  ne : ∀ (i j : Nat) (a : Addr) (o o' : OO), ρ[i]? = some (some (Sl.ow a o)) → ρ[j]? = some (some (Sl.ow a o')) → i = j
theorem getq_set {α : Type} {l : List α} {i j : Nat} {x : α} : (l.set i x)[j]? = if i = j ∧ j < l.length then some x else if i = j then none else l[j]? := by
  by_cases h : i = j
  · subst h
    by_cases h2 : i < l.length
    · simp [h2]
    · simp [h2]
  · simp [h]
section
variable {K : PySem.W.Frag} {B B' G H H' : Hp} {σ : L2.St} {ρ : En} {i : Nat} {a : Addr} {o o' : OO} {u u' : HO} {v : V} {d : D}
theorem Ok.set_im (h : Ok K B G H σ ρ) (r : Rep K B v d) : Ok K B G H (σ.set i (some v)) (ρ.set i (some (.im d))) where
  s := h.s
  len := by simp [h.len]
  im := fun j e he => by
    rw [getq_set] at he ⊢
    by_cases hij : i = j
    · by_cases hl : j < ρ.length
      · rw [if_pos ⟨hij, hl⟩] at he
        simp at he; subst he
        rw [if_pos ⟨hij, by rw [h.len]; exact hl⟩]
        exact ⟨v, rfl, r⟩
      · rw [if_neg (fun z => hl z.2), if_pos hij] at he; cases he
    · rw [if_neg (fun z => hij z.1), if_neg hij] at he ⊢
      exact h.im j e he
  ow := fun j b p he => by
    rw [getq_set] at he
    rw [getq_set]
    by_cases hij : i = j
    · by_cases hl : j < ρ.length
      · rw [if_pos ⟨hij, hl⟩] at he; cases he
      · rw [if_neg (fun z => hl z.2), if_pos hij] at he; cases he
    · rw [if_neg (fun z => hij z.1), if_neg hij] at he ⊢
      exact h.ow j b p he
  ne := fun j k b p q h1 h2 => by
    rw [getq_set] at h1 h2
    split at h1
    · cases h1
    · split at h1
      · cases h1
      · split at h2
        · cases h2
        · split at h2
          · cases h2
          · exact h.ne j k b p q h1 h2
theorem Ok.set_ow (h : Ok K B G H σ ρ) (hb : B a = none) (hg : G a = none) (hu : H a = some u) (r : RepO K B u o) (fr : ∀ (j : Nat) (p : OO), ρ[j]? = some (some (Sl.ow a p)) → j = i) : Ok K B G H (σ.set i (some (.ref a))) (ρ.set i (some (.ow a o))) where
  s := h.s
  len := by simp [h.len]
  im := fun j e he => by
    rw [getq_set] at he ⊢
    by_cases hij : i = j
    · by_cases hl : j < ρ.length
      · rw [if_pos ⟨hij, hl⟩] at he; cases he
      · rw [if_neg (fun z => hl z.2), if_pos hij] at he; cases he
    · rw [if_neg (fun z => hij z.1), if_neg hij] at he ⊢
      exact h.im j e he
  ow := fun j b p he => by
    rw [getq_set] at he ⊢
    by_cases hij : i = j
    · by_cases hl : j < ρ.length
      · rw [if_pos ⟨hij, hl⟩] at he
        simp at he; obtain ⟨rfl, rfl⟩ := he
        rw [if_pos ⟨hij, by rw [h.len]; exact hl⟩]
        exact ⟨rfl, hb, hg, u, hu, r⟩
      · rw [if_neg (fun z => hl z.2), if_pos hij] at he; cases he
    · rw [if_neg (fun z => hij z.1), if_neg hij] at he ⊢
      exact h.ow j b p he
  ne := fun j k b p q h1 h2 => by
    rw [getq_set] at h1 h2
    by_cases hij : i = j
    · by_cases hik : i = k
      · omega
      · split at h1
        · simp at h1; obtain ⟨rfl, rfl⟩ := h1
          rw [if_neg (fun z => hik z.1), if_neg hik] at h2
          have := fr k q h2; omega
        · first | cases h1 | (rw [if_pos hij] at h1; cases h1)
    · rw [if_neg (fun z => hij z.1), if_neg hij] at h1
      by_cases hik : i = k
      · split at h2
        · simp at h2; obtain ⟨rfl, rfl⟩ := h2
          have := fr j p h1; omega
        · first | cases h2 | (rw [if_pos hik] at h2; cases h2)
      · rw [if_neg (fun z => hik z.1), if_neg hik] at h2
        exact h.ne j k b p q h1 h2
/-- the content of the owned object in slot i changes -/
theorem Ok.upd_ow (h : Ok K B G H σ ρ) (hi : ρ[i]? = some (some (.ow a o))) (r : RepO K B u' o') : Ok K B G (upd H a u') σ (ρ.set i (some (.ow a o'))) := by
  obtain ⟨hs, hb, hg, u, hu, _⟩ := h.ow i a o hi
  have hl : i < ρ.length := (List.getElem?_eq_some_iff.mp hi).1
  have nb : ∀ b w, H b = some w → b ≠ a → upd H a u' b = some w := fun b w e n => by rw [upd_ne n]; exact e
  refine ⟨⟨Ex.mut h.s.ex hb, Ex.mut h.s.eg hg, h.s.dj, fun b w hx hk => by
    by_cases z : b = a
    · subst z; rw [upd_same] at hx; cases hx; cases u' <;> first | (cases hk; done) | (cases o' <;> exact False.elim r)
    · rw [upd_ne z] at hx; exact h.s.tp b w hx hk⟩, by simp [h.len], fun j e he => ?_, fun j b p he => ?_, fun j k b p q h1 h2 => ?_⟩
  · rw [getq_set] at he
    by_cases hij : i = j
    · rw [if_pos ⟨hij, hij ▸ hl⟩] at he; cases he
    · rw [if_neg (fun z => hij z.1), if_neg hij] at he
      exact h.im j e he
  · rw [getq_set] at he
    by_cases hij : i = j
    · rw [if_pos ⟨hij, hij ▸ hl⟩] at he
      simp at he; obtain ⟨rfl, rfl⟩ := he
      subst hij
      exact ⟨hs, hb, hg, u', upd_same, r⟩
    · rw [if_neg (fun z => hij z.1), if_neg hij] at he
      obtain ⟨q1, q2, q3, w, q4, q5⟩ := h.ow j b p he
      refine ⟨q1, q2, q3, w, nb b w q4 (fun z => ?_), q5⟩
      subst z
      exact hij (h.ne i j b o p hi he)
  · rw [getq_set] at h1 h2
    by_cases hij : i = j
    · by_cases hik : i = k
      · omega
      · rw [if_pos ⟨hij, hij ▸ hl⟩] at h1
        simp at h1; obtain ⟨rfl, rfl⟩ := h1
        rw [if_neg (fun z => hik z.1), if_neg hik] at h2
        exact absurd (h.ne i k a o q hi h2) hik
    · rw [if_neg (fun z => hij z.1), if_neg hij] at h1
      by_cases hik : i = k
      · rw [if_pos ⟨hik, hik ▸ hl⟩] at h2
        simp at h2; obtain ⟨rfl, rfl⟩ := h2
        exact absurd (h.ne i j a o p hi h1) hij
      · rw [if_neg (fun z => hik z.1), if_neg hik] at h2
        exact h.ne j k b p q h1 h2
/-- a new object, known from now on -/
theorem Ok.grow (h : Ok K B G H σ ρ) {p : Addr} (hp : H p = none) : Ex B (upd B p u) ∧ Ok K (upd B p u) G (upd H p u) σ ρ := by
  have hb : B p = none := fresh_back h.s.ex hp
  have hg : G p = none := fresh_back h.s.eg hp
  have e : Ex B (upd B p u) := Ex.new hb
  refine ⟨e, ⟨fun b w hw => ?_, Ex.mut h.s.eg hg, fun b w hw => ?_, fun b w hx hk => by
    by_cases z : b = p
    · subst z; rw [upd_same] at hx ⊢; exact hx
    · rw [upd_ne z] at hx ⊢; exact h.s.tp b w hx hk⟩, h.len, fun j d hd => ?_, fun j b q hq => ?_, h.ne⟩
  · by_cases z : b = p
    · subst z; rw [upd_same] at hw ⊢; exact hw
    · rw [upd_ne z] at hw ⊢; exact h.s.ex b w hw
  · rw [upd_ne (ne_of_none hw hg)]; exact h.s.dj b w hw
  · obtain ⟨v, h1, h2⟩ := h.im j d hd
    exact ⟨v, h1, h2.up e⟩
  · obtain ⟨q1, q2, q3, w, q4, q5⟩ := h.ow j b q hq
    have n : b ≠ p := ne_of_none q4 hp
    exact ⟨q1, by rw [upd_ne n]; exact q2, q3, w, by rw [upd_ne n]; exact q4, q5.up e⟩
/-- a new object, not known -/
theorem Ok.fresh (h : Ok K B G H σ ρ) {p : Addr} (hp : H p = none) (nt : kn u = false := by rfl) : Ok K B G (upd H p u) σ ρ ∧ B p = none ∧ G p = none ∧ ∀ (j : Nat) (q : OO), ρ[j]? ≠ some (some (Sl.ow p q)) := by
  have hb : B p = none := fresh_back h.s.ex hp
  have hg : G p = none := fresh_back h.s.eg hp
  refine ⟨⟨⟨Ex.mut h.s.ex hb, Ex.mut h.s.eg hg, h.s.dj, fun b w hx hk => by
    by_cases z : b = p
    · subst z; rw [upd_same] at hx; cases hx; rw [nt] at hk; cases hk
    · rw [upd_ne z] at hx; exact h.s.tp b w hx hk⟩, h.len, h.im, fun j b q hq => ?_, h.ne⟩, hb, hg, fun j q hq => ?_⟩
  · obtain ⟨q1, q2, q3, w, q4, q5⟩ := h.ow j b q hq
    exact ⟨q1, q2, q3, w, by rw [upd_ne (ne_of_none q4 hp)]; exact q4, q5⟩
  · obtain ⟨_, _, _, w, q4, _⟩ := h.ow j p q hq
    rw [hp] at q4; cases q4
/-- an object that nothing owns is known from now on -/
theorem Ok.know (h : Ok K B G H σ ρ) (hb : B a = none) (hg : G a = none) (hu : H a = some u) (hn : ∀ (j : Nat) (q : OO), ρ[j]? ≠ some (some (Sl.ow a q))) : Ex B (upd B a u) ∧ Ok K (upd B a u) G H σ ρ := by
  have e : Ex B (upd B a u) := Ex.new hb
  refine ⟨e, ⟨fun b w hw => ?_, h.s.eg, fun b w hw => ?_, fun b w hx hk => by
    by_cases z : b = a
    · subst z; rw [hu] at hx; rw [upd_same]; exact hx
    · rw [upd_ne z]; exact h.s.tp b w hx hk⟩, h.len, fun j d hd => ?_, fun j b q hq => ?_, h.ne⟩
  · by_cases z : b = a
    · subst z; rw [upd_same] at hw; rw [hu]; exact hw
    · rw [upd_ne z] at hw; exact h.s.ex b w hw
  · rw [upd_ne (ne_of_none hw hg)]; exact h.s.dj b w hw
  · obtain ⟨v, h1, h2⟩ := h.im j d hd
    exact ⟨v, h1, h2.up e⟩
  · obtain ⟨q1, q2, q3, w, q4, q5⟩ := h.ow j b q hq
    have n : b ≠ a := fun z => by subst z; exact hn j q hq
    exact ⟨q1, by rw [upd_ne n]; exact q2, q3, w, q4, q5.up e⟩
theorem Ok.drop (h : Ok K B G H σ ρ) {x : Option V} : Ok K B G H (σ.set i x) (ρ.set i none) := by
  refine ⟨h.s, by simp [h.len], fun j e he => ?_, fun j b q hq => ?_, fun j k b p q h1 h2 => ?_⟩
  · rw [getq_set] at he
    split at he
    · simp at he
    · split at he
      · simp at he
      · rename_i n1 n2
        rw [getq_set, if_neg (fun z => n2 z.1), if_neg n2]
        exact h.im j e he
  · rw [getq_set] at hq
    split at hq
    · simp at hq
    · split at hq
      · simp at hq
      · rename_i n1 n2
        rw [getq_set, if_neg (fun z => n2 z.1), if_neg n2]
        exact h.ow j b q hq
  · rw [getq_set] at h1 h2
    split at h1
    · simp at h1
    · split at h1
      · simp at h1
      · split at h2
        · simp at h2
        · split at h2
          · simp at h2
          · exact h.ne j k b p q h1 h2
end
end AL
namespace AL
open PySem PySem.Spec PyProof.Rows L2 Evl
/-! ### the weakest readings -/
def wE (X : Cx) (e : Expr) : TE := fun σ H Q => ∀ pins s, Inv X pins σ H s → wpAny (model X.prog X.w) X.A (eval e X.env) (EP X pins σ Q) X.xe s
def wT (X : Cx) (e : Expr) : TT := fun σ H Q => ∀ pins s, Inv X pins σ H s → wpAny (model X.prog X.w) X.A (isTrue e X.env (eval e X.env)) (TP X pins σ Q) X.xe s
def wW (X : Cx) (e : Expr) : TT := fun σ H Q => ∀ (whole : Sem Value) pins s, Inv X pins σ H s → wpAny (model X.prog X.w) X.A (isTrue e X.env whole) (TP X pins σ Q) X.xe s
def wA (X : Cx) (es : List Expr) : TA := fun σ H Q => ∀ (pos : Pos) pins s, Inv X pins σ H s → wpAny (model X.prog X.w) X.A (spliced (backTo pos (starEach es X.env))) (AP X pins σ Q) X.xe s
def wS (X : Cx) (st : Stmt) : TS := fun D σ H => ∀ pins s, Inv X pins σ H s → wpAny (model X.prog X.w) X.A (exec st X.env) (SP X pins D) X.xe s
def wSs (X : Cx) (st : List Stmt) : TS := fun D σ H => ∀ pins s, Inv X pins σ H s → wpAny (model X.prog X.w) X.A (execs st X.env) (SP X pins D) X.xe s
def wG (X : Cx) (tg : Expr) : TG := fun v σ H Q => ∀ pins s u, Inv X pins σ H s → RelV v u → wpAny (model X.prog X.w) X.A (assign tg X.env u) (fun _ s' => ∃ σ' H', Inv X pins σ' H' s' ∧ Q σ' H') X.xe s
section
variable {X : Cx} {e : Expr} {es : List Expr} {st : Stmt} {sts : List Stmt}
theorem p_wE : PE X e (wE X e) := ⟨fun pins s _ _ _ I h => h pins s I⟩
theorem p_wT : PT X e (wT X e) := ⟨fun pins s _ _ _ I h => h pins s I⟩
theorem p_wW : PW X e (wW X e) := ⟨fun wh pins s _ _ _ I h => h wh pins s I⟩
theorem p_wA : PA X es (wA X es) := ⟨fun pos pins s _ _ _ I h => h pos pins s I⟩
theorem p_wS : PS X st (wS X st) := ⟨fun pins s _ _ _ I h => h pins s I⟩
theorem p_wSs : PSs X sts (wSs X sts) := ⟨fun pins s _ _ _ I h => h pins s I⟩
theorem p_wG : PG X e (wG X e) := ⟨fun pins s _ _ _ u _ I r h => h pins s u I r⟩
theorem _root_.L2.PE.w {t : TE} (p : PE X e t) {σ : L2.St} {H : Hp} {Q : VK} (h : t σ H Q) : wE X e σ H Q := fun pins s I => p.run pins s σ H Q I h
theorem _root_.L2.PT.w {t : TT} (p : PT X e t) {σ : L2.St} {H : Hp} {Q : Bool → Hp → Prop} (h : t σ H Q) : wT X e σ H Q := fun pins s I => p.run pins s σ H Q I h
theorem _root_.L2.PW.w {t : TT} (p : PW X e t) {σ : L2.St} {H : Hp} {Q : Bool → Hp → Prop} (h : t σ H Q) : wW X e σ H Q := fun wh pins s I => p.run wh pins s σ H Q I h
theorem _root_.L2.PA.w {t : TA} (p : PA X es t) {σ : L2.St} {H : Hp} {Q : List V → Hp → Prop} (h : t σ H Q) : wA X es σ H Q := fun pos pins s I => p.run pos pins s σ H Q I h
theorem _root_.L2.PS.w {t : TS} (p : PS X st t) {σ : L2.St} {H : Hp} {D : Ends} (h : t D σ H) : wS X st D σ H := fun pins s I => p.run pins s σ H D I h
theorem _root_.L2.PSs.w {t : TS} (p : PSs X sts t) {σ : L2.St} {H : Hp} {D : Ends} (h : t D σ H) : wSs X sts D σ H := fun pins s I => p.run pins s σ H D I h
theorem _root_.L2.PG.w {t : TG} (p : PG X e t) {v : V} {σ : L2.St} {H : Hp} {Q : L2.St → Hp → Prop} (h : t v σ H Q) : wG X e v σ H Q := fun pins s u I r => p.run pins s σ H v u Q I r h
end

/-! ### the judgements -/
/-- what an exception leaves: nothing kept in it, or its own dict -/
def ErR (K : PySem.W.Frag) (B H : Hp) (fs : List (Str × D)) (dd : Option Addr) : Prop := match fs with
  | [] => dd = none
  | _ => ∃ a vs, dd = some a ∧ H a = some (.xd vs) ∧ RepF K B vs fs
/-- the wish of exceptions: as the hand layer has it, and which ones (class, fields) are wished for -/
structure Zx where
  E : WX
  R : Addr → List (Str × D) → En → Prop
abbrev Z0 : Zx := ⟨fun c d _ H => E0 c d H, fun _ _ _ => False⟩
/-- the wish of a def's body: whatever the slots hold -/
abbrev Zf (E : XK) (R : Addr → List (Str × D) → Prop) : Zx := ⟨fun c d _ H => E c d H, fun C fs _ => R C fs⟩
def RC (K : PySem.W.Frag) (Z : Zx) (B G : Hp) : Prop := ∀ C fs dd B' H' σ' ρ', Z.R C fs ρ' → Ex B B' → Ok K B' G H' σ' ρ' → ErR K B' H' fs dd → Z.E (.ref C) dd σ' H'
theorem RC.up {K : PySem.W.Frag} {Z : Zx} {B B' G : Hp} (h : RC K Z B G) (e : Ex B B') : RC K Z B' G := fun C fs dd B2 H2 s2 r2 r e2 => h C fs dd B2 H2 s2 r2 r (e.trans e2)
theorem RC.none {K : PySem.W.Frag} {B G : Hp} {E : WX} : RC K ⟨E, fun _ _ _ => False⟩ B G := fun _ _ _ _ _ _ _ r => r.elim
/-- errors of callees come through -/
def PassW (X : Cx) (Z : Zx) : Prop := ∀ σ, PassesAt (L2.CX X.prog X.w) X σ (fun c d H => Z.E c d σ H)
theorem PassW.of {X : Cx} {E : XK} {R : Addr → List (Str × D) → En → Prop} (h : Passes (L2.CX X.prog X.w) X E) : PassW X ⟨fun c d _ H => E c d H, R⟩ := fun σ pins H s e s' I c => h pins σ H s e s' I c
theorem PassW.tk {X : Cx} {Z : Zx} (tk : Takes X Z.E) : PassW X Z := fun σ => passAt tk σ

section
variable (X : Cx) (Z : Zx)
def EC (e : Expr) (ρ : En) (Φ : D → En → Prop) : Prop := ∀ B G H σ, Ok X.K B G H σ ρ → RC X.K Z B G → ∀ Q : VK,
  (∀ d ρ' v B' H', Φ d ρ' → Ex B B' → Ok X.K B' G H' σ ρ' → Rep X.K B' v d → Q v H') → wE X e σ H Q
/-- a new object that nobody else has -/
def FC (e : Expr) (ρ : En) (Φ : OO → En → Prop) : Prop := ∀ B G H σ, Ok X.K B G H σ ρ → RC X.K Z B G → ∀ Q : VK,
  (∀ o ρ' a u B' H', Φ o ρ' → Ex B B' → Ok X.K B' G H' σ ρ' → B' a = none → G a = none → H' a = some u → (∀ (j : Nat) (q : OO), ρ'[j]? ≠ some (some (Sl.ow a q))) → RepO X.K B' u o → Q (.ref a) H') → wE X e σ H Q
def TC (e : Expr) (ρ : En) (Φ : Bool → En → Prop) : Prop := ∀ B G H σ, Ok X.K B G H σ ρ → RC X.K Z B G → ∀ Q : Bool → Hp → Prop,
  (∀ b ρ' B' H', Φ b ρ' → Ex B B' → Ok X.K B' G H' σ ρ' → Q b H') → wT X e σ H Q
def WC (e : Expr) (ρ : En) (Φ : Bool → En → Prop) : Prop := ∀ B G H σ, Ok X.K B G H σ ρ → RC X.K Z B G → ∀ Q : Bool → Hp → Prop,
  (∀ b ρ' B' H', Φ b ρ' → Ex B B' → Ok X.K B' G H' σ ρ' → Q b H') → wW X e σ H Q
def AC (es : List Expr) (ρ : En) (Φ : List D → En → Prop) : Prop := ∀ B G H σ, Ok X.K B G H σ ρ → RC X.K Z B G → ∀ Q : List V → Hp → Prop,
  (∀ ds ρ' vs B' H', Φ ds ρ' → Ex B B' → Ok X.K B' G H' σ ρ' → Reps X.K B' vs ds → Q vs H') → wA X es σ H Q
inductive Rs where
  | im (d : D) | fr (o : OO)
def RsR (K : PySem.W.Frag) (B G H : Hp) (ρ : En) (v : V) : Rs → Prop
  | .im d => Rep K B v d
  | .fr o => ∃ a u, v = .ref a ∧ B a = none ∧ G a = none ∧ H a = some u ∧ (∀ (j : Nat) (q : OO), ρ[j]? ≠ some (some (Sl.ow a q))) ∧ RepO K B u o
structure Outs where
  nx : En → Prop
  rt : Rs → En → Prop
  bk : En → Prop := fun _ => False
  ct : En → Prop := fun _ => False
/-- a concrete end serves an abstract one -/
structure Serves (K : PySem.W.Frag) (B G : Hp) (O : Outs) (Dd : Ends) : Prop where
  nx : ∀ ρ' σ' B' H', O.nx ρ' → Ex B B' → Ok K B' G H' σ' ρ' → Dd.nx σ' H'
  rt : ∀ r ρ' v σ' B' H', O.rt r ρ' → Ex B B' → Ok K B' G H' σ' ρ' → RsR K B' G H' ρ' v r → Dd.rt v H'
  bk : ∀ ρ' σ' B' H', O.bk ρ' → Ex B B' → Ok K B' G H' σ' ρ' → Dd.bk σ' H'
  ct : ∀ ρ' σ' B' H', O.ct ρ' → Ex B B' → Ok K B' G H' σ' ρ' → Dd.ct σ' H'
def SC (sts : List Stmt) (ρ : En) (O : Outs) : Prop := ∀ B G H σ Dd, Ok X.K B G H σ ρ → RC X.K Z B G → Serves X.K B G O Dd → wSs X sts Dd σ H
/-- a target takes a datum -/
def GC (tg : Expr) (d : D) (ρ : En) (Φ : En → Prop) : Prop := ∀ B G H σ v, Ok X.K B G H σ ρ → Rep X.K B v d → ∀ Q : L2.St → Hp → Prop,
  (∀ ρ' σ' B' H', Φ ρ' → Ex B B' → Ok X.K B' G H' σ' ρ' → Q σ' H') → wG X tg v σ H Q
end
theorem Serves.up {K : PySem.W.Frag} {B B' G : Hp} {O : Outs} {Dd : Ends} (h : Serves K B G O Dd) (e : Ex B B') : Serves K B' G O Dd :=
  ⟨fun ρ' σ' B2 H2 a e2 => h.nx ρ' σ' B2 H2 a (e.trans e2), fun r ρ' v σ' B2 H2 a e2 => h.rt r ρ' v σ' B2 H2 a (e.trans e2), fun ρ' σ' B2 H2 a e2 => h.bk ρ' σ' B2 H2 a (e.trans e2), fun ρ' σ' B2 H2 a e2 => h.ct ρ' σ' B2 H2 a (e.trans e2)⟩

theorem set_getq {α : Type} : ∀ {l : List α} {i : Nat} {x : α}, l[i]? = some x → l.set i x = l
  | [], i, x, h => by simp at h
  | a :: l, 0, x, h => by simp at h; subst h; rfl
  | a :: l, i + 1, x, h => by rw [List.set_cons_succ, set_getq (l := l) (by simpa using h)]
/-! ### expressions -/
section
variable {X : Cx} {Z : Zx} {a b c e : Expr} {es : List Expr} {ρ : En} {Φ : D → En → Prop} {Ψ : Bool → En → Prop} {pos : Pos}
theorem EC.mono {Φ' : D → En → Prop} (h : EC X Z e ρ Φ) (k : ∀ d ρ', Φ d ρ' → Φ' d ρ') : EC X Z e ρ Φ' := fun B G H σ o z Q q => h B G H σ o z Q fun d ρ' v B' H' x => q d ρ' v B' H' (k d ρ' x)
theorem ec_int {i : Int} {j} (h : Φ (.int i) ρ) : EC X Z (.Constant (.int i) j pos) ρ Φ := fun B G H σ o z Q q => pe_int.w (q _ _ _ B H h (Ex.refl B) o (.int i))
theorem ec_bl {i : Bool} {j} (h : Φ (.bl i) ρ) : EC X Z (.Constant (.bool i) j pos) ρ Φ := fun B G H σ o z Q q => pe_bl.w (q _ _ _ B H h (Ex.refl B) o (.bl i))
theorem ec_non {j} (h : Φ .non ρ) : EC X Z (.Constant .none j pos) ρ Φ := fun B G H σ o z Q q => pe_non.w (q _ _ _ B H h (Ex.refl B) o .non)
theorem ec_str {i : Str} {j} (h : Φ (.str i) ρ) : EC X Z (.Constant (.str i) j pos) ρ Φ := fun B G H σ o z Q q => pe_str.w (q _ _ _ B H h (Ex.refl B) o (.str i))
/-- a name that holds a datum -/
theorem ec_var (i : Nat) {x : Str} {d : D} (hd : ρ[i]? = some (some (.im d))) (h : Φ d ρ) (hN : X.N[i]? = some x := by rfl) (hv : Vis X.env.scope x := by first | exact Or.inl rfl | exact Or.inr (Or.inl rfl) | exact Or.inr (Or.inr rfl))
    (hdb : (x == ("__debug__" : Str)) = false := by decide) (hcd : (x == ("__classdict__" : Str)) = false := by decide) : EC X Z (.Name x pos) ρ Φ := fun B G H σ o z Q q => by
  obtain ⟨v, h1, h2⟩ := o.im i d hd
  exact (pe_var hN hv hdb hcd).w ⟨v, h1, q d ρ v B H h (Ex.refl B) o h2⟩
/-- a name that holds an owned list: known from now on -/
theorem ec_frz (i : Nat) {x : Str} {p : Addr} {ds : List D} (hd : ρ[i]? = some (some (.ow p (.l ds)))) (h : Φ (.lst ds) (ρ.set i (some (.im (.lst ds))))) (hN : X.N[i]? = some x := by rfl) (hv : Vis X.env.scope x := by first | exact Or.inl rfl | exact Or.inr (Or.inl rfl) | exact Or.inr (Or.inr rfl))
    (hdb : (x == ("__debug__" : Str)) = false := by decide) (hcd : (x == ("__classdict__" : Str)) = false := by decide) : EC X Z (.Name x pos) ρ Φ := fun B G H σ o z Q q => by
  obtain ⟨h1, h2, h3, u, h4, h5⟩ := o.ow i p _ hd
  have hl : i < ρ.length := (List.getElem?_eq_some_iff.mp hd).1
  have o1 : Ok X.K B G H σ (ρ.set i none) := by
    have z1 := o.drop (i := i) (x := some (.ref p))
    rwa [set_getq h1] at z1
  have nn : ∀ (j : Nat) (w : OO), (ρ.set i none)[j]? ≠ some (some (Sl.ow p w)) := fun j w hj => by
    rw [getq_set] at hj
    by_cases hij : i = j
    · subst hij; rw [if_pos ⟨rfl, hl⟩] at hj; cases hj
    · rw [if_neg (fun z => hij z.1), if_neg hij] at hj
      exact hij (o.ne i j p _ w hd hj)
  obtain ⟨e1, o2⟩ := o1.know h2 h3 h4 nn
  cases u with
  | lst vs =>
    have r : Rep X.K (upd B p (.lst vs)) (.ref p) (.lst ds) := .lst upd_same (Reps.up h5 e1)
    have o3 := o2.set_im (i := i) r
    rw [set_getq h1, List.set_set] at o3
    exact (pe_var hN hv hdb hcd).w ⟨_, h1, q _ _ _ _ H h e1 o3 r⟩
  | _ => exact False.elim h5
/-- an operator on two data, the answer as a datum without objects -/
def Gives (K : PySem.W.Frag) (r : R2) (d d' d'' : D) : Prop := ∀ B G H x y, St3 B G H → Rep K B x d → Rep K B y d' → ∃ z, Rep K B z d'' ∧ ∀ Q : VK, Q z H → r x y H Q
theorem ec_op {op : Operator} {r : R2} (ho : OpR X (binaryOp op) r) (h : EC X Z a ρ fun d ρ1 => EC X Z b ρ1 fun d' ρ2 => ∃ d'', Gives X.K r d d' d'' ∧ Φ d'' ρ2) : EC X Z (.BinOp a op b pos) ρ Φ := fun B G H σ o z Q q =>
  (pe_op ho p_wE p_wE).w (h B G H σ o z _ fun d ρ1 x B1 H1 h1 e1 o1 r1 => h1 B1 G H1 σ o1 (z.up e1) _ fun d' ρ2 y B2 H2 ⟨d'', g, k⟩ e2 o2 r2 => by
    obtain ⟨w, rw_, hw⟩ := g B2 G H2 x y o2.s (r1.up e2) r2
    exact hw Q (q d'' ρ2 w B2 H2 k (e1.trans e2) o2 rw_))
theorem ec_cmp {op : CmpOp} {r : R2} (ho : OpR X (compareOp op) r) (hm : behindInMarks op b = false) (h : EC X Z a ρ fun d ρ1 => EC X Z b ρ1 fun d' ρ2 => ∃ d'', Gives X.K r d d' d'' ∧ Φ d'' ρ2) : EC X Z (.Compare a [op] [b] pos) ρ Φ := fun B G H σ o z Q q =>
  (pe_cmpR ho p_wE p_wE hm).w (h B G H σ o z _ fun d ρ1 x B1 H1 h1 e1 o1 r1 => h1 B1 G H1 σ o1 (z.up e1) _ fun d' ρ2 y B2 H2 ⟨d'', g, k⟩ e2 o2 r2 => by
    obtain ⟨w, rw_, hw⟩ := g B2 G H2 x y o2.s (r1.up e2) r2
    exact hw Q (q d'' ρ2 w B2 H2 k (e1.trans e2) o2 rw_))
variable {K : PySem.W.Frag}
theorem g_I0 {g : Int → Int → V} {f : Int → Int → D} {i j : Int} (hg : ∀ B, Rep K B (g i j) (f i j)) : Gives K (rI0 g) (.int i) (.int j) (f i j) := fun B G H x y _ r1 r2 => by
  cases r1; cases r2
  exact ⟨_, hg B, fun Q q => ⟨i, j, rfl, rfl, q⟩⟩
theorem g_I {C : Int → Int → Prop} {g : Int → Int → V} {f : Int → Int → D} {i j : Int} (hc : C i j) (hg : ∀ B, Rep K B (g i j) (f i j)) : Gives K (rI C g) (.int i) (.int j) (f i j) := fun B G H x y _ r1 r2 => by
  cases r1; cases r2
  exact ⟨_, hg B, fun Q q => ⟨i, j, rfl, rfl, hc, q⟩⟩
/-- two ints -/
theorem ec_add (h : EC X Z a ρ fun d ρ1 => EC X Z b ρ1 fun d' ρ2 => ∃ i j, d = .int i ∧ d' = .int j ∧ Φ (.int (i + j)) ρ2) : EC X Z (.BinOp a .Add b pos) ρ Φ :=
  ec_op op_add (h.mono fun d ρ1 z => z.mono fun d' ρ2 ⟨i, j, e1, e2, k⟩ => by subst e1; subst e2; exact ⟨_, g_I0 (f := fun i j => .int (i + j)) (fun B => .int _), k⟩)
theorem ec_sub (h : EC X Z a ρ fun d ρ1 => EC X Z b ρ1 fun d' ρ2 => ∃ i j, d = .int i ∧ d' = .int j ∧ Φ (.int (i - j)) ρ2) : EC X Z (.BinOp a .Sub b pos) ρ Φ :=
  ec_op op_sub (h.mono fun d ρ1 z => z.mono fun d' ρ2 ⟨i, j, e1, e2, k⟩ => by subst e1; subst e2; exact ⟨_, g_I0 (f := fun i j => .int (i - j)) (fun B => .int _), k⟩)
theorem ec_mul (h : EC X Z a ρ fun d ρ1 => EC X Z b ρ1 fun d' ρ2 => ∃ i j, d = .int i ∧ d' = .int j ∧ CMul i j ∧ Φ (.int (i * j)) ρ2) : EC X Z (.BinOp a .Mult b pos) ρ Φ :=
  ec_op op_mul (h.mono fun d ρ1 z => z.mono fun d' ρ2 ⟨i, j, e1, e2, hc, k⟩ => by subst e1; subst e2; exact ⟨_, g_I (f := fun i j => .int (i * j)) hc (fun B => .int _), k⟩)
theorem ec_mod (h : EC X Z a ρ fun d ρ1 => EC X Z b ρ1 fun d' ρ2 => ∃ i j, d = .int i ∧ d' = .int j ∧ 0 < j ∧ Φ (.int (i % j)) ρ2) : EC X Z (.BinOp a .Mod b pos) ρ Φ :=
  ec_op op_mod (h.mono fun d ρ1 z => z.mono fun d' ρ2 ⟨i, j, e1, e2, hc, k⟩ => by subst e1; subst e2; exact ⟨_, g_I (C := fun _ j => 0 < j) (f := fun i j => .int (i % j)) hc (fun B => .int _), k⟩)
theorem ec_fdiv (h : EC X Z a ρ fun d ρ1 => EC X Z b ρ1 fun d' ρ2 => ∃ i j, d = .int i ∧ d' = .int j ∧ CDiv i j ∧ Φ (.int (i / j)) ρ2) : EC X Z (.BinOp a .FloorDiv b pos) ρ Φ :=
  ec_op op_fdiv (h.mono fun d ρ1 z => z.mono fun d' ρ2 ⟨i, j, e1, e2, hc, k⟩ => by subst e1; subst e2; exact ⟨_, g_I (f := fun i j => .int (i / j)) hc (fun B => .int _), k⟩)
theorem ec_lt (h : EC X Z a ρ fun d ρ1 => EC X Z b ρ1 fun d' ρ2 => ∃ i j, d = .int i ∧ d' = .int j ∧ Φ (.bl (decide (i < j))) ρ2) : EC X Z (.Compare a [.Lt] [b] pos) ρ Φ :=
  ec_cmp op_lt (nomark _) (h.mono fun d ρ1 z => z.mono fun d' ρ2 ⟨i, j, e1, e2, k⟩ => by subst e1; subst e2; exact ⟨_, g_I0 (f := fun i j => .bl (decide (i < j))) (fun B => .bl _), k⟩)
theorem ec_le (h : EC X Z a ρ fun d ρ1 => EC X Z b ρ1 fun d' ρ2 => ∃ i j, d = .int i ∧ d' = .int j ∧ Φ (.bl (decide (i ≤ j))) ρ2) : EC X Z (.Compare a [.LtE] [b] pos) ρ Φ :=
  ec_cmp op_le (nomark _) (h.mono fun d ρ1 z => z.mono fun d' ρ2 ⟨i, j, e1, e2, k⟩ => by subst e1; subst e2; exact ⟨_, g_I0 (f := fun i j => .bl (decide (i ≤ j))) (fun B => .bl _), k⟩)
theorem ec_gt (h : EC X Z a ρ fun d ρ1 => EC X Z b ρ1 fun d' ρ2 => ∃ i j, d = .int i ∧ d' = .int j ∧ Φ (.bl (decide (j < i))) ρ2) : EC X Z (.Compare a [.Gt] [b] pos) ρ Φ :=
  ec_cmp op_gt (nomark _) (h.mono fun d ρ1 z => z.mono fun d' ρ2 ⟨i, j, e1, e2, k⟩ => by subst e1; subst e2; exact ⟨_, g_I0 (f := fun i j => .bl (decide (j < i))) (fun B => .bl _), k⟩)
theorem ec_ge (h : EC X Z a ρ fun d ρ1 => EC X Z b ρ1 fun d' ρ2 => ∃ i j, d = .int i ∧ d' = .int j ∧ Φ (.bl (decide (j ≤ i))) ρ2) : EC X Z (.Compare a [.GtE] [b] pos) ρ Φ :=
  ec_cmp op_ge (nomark _) (h.mono fun d ρ1 z => z.mono fun d' ρ2 ⟨i, j, e1, e2, k⟩ => by subst e1; subst e2; exact ⟨_, g_I0 (f := fun i j => .bl (decide (j ≤ i))) (fun B => .bl _), k⟩)
/-- two scalars alike or not: ints, texts, bools, None -/
def eqS : D → D → Option Bool
  | .int i, .int j => some (decide (i = j))
  | .str i, .str j => some (decide (i = j))
  | .bl i, .bl j => some (decide (i = j))
  | .non, .non => some true
  | _, _ => none
theorem g_eqS {d d' : D} {r : Bool} (h : eqS d d' = some r) : Gives K rEq d d' (.bl r) ∧ Gives K rNe d d' (.bl !r) := by
  cases d <;> cases d' <;> simp only [eqS] at h <;> first
    | (cases h; done)
    | (obtain rfl := Option.some.inj h
       refine ⟨fun B G H x y _ r1 r2 => ?_, fun B G H x y _ r1 r2 => ?_⟩ <;> (cases r1; cases r2; refine ⟨_, .bl _, fun Q q => ⟨rfl, ?_⟩⟩; first | exact q | (simpa using q)))
end
end AL
namespace AL
open PySem PySem.Spec PyProof.Rows L2 Evl
section
variable {X : Cx} {Z : Zx} {a b c e : Expr} {es : List Expr} {ρ : En} {Φ : D → En → Prop} {Ψ : Bool → En → Prop} {pos : Pos}
/-! ### tests -/
theorem tc_val (h : EC X Z e ρ fun d ρ1 => ∃ k, d = .bl k ∧ Ψ k ρ1) (he : ∀ whole, isTrue e X.env whole = (do let v ← whole; standAt e.pos; holding [v] (truthy v)) := by intro _; rfl) : TC X Z e ρ Ψ := fun B G H σ o z Q q =>
  (pt_val p_wE he).w (h B G H σ o z _ fun d ρ1 v B1 H1 ⟨k, hk, h1⟩ e1 o1 r1 => by
    subst hk; cases r1
    exact ⟨k, rfl, q k ρ1 B1 H1 h1 e1 o1⟩)
theorem tc_op {op : CmpOp} {r : R2} (ho : OpR X (compareOp op) r) (hm : behindInMarks op b = false) (h : EC X Z a ρ fun d ρ1 => EC X Z b ρ1 fun d' ρ2 => ∃ k, Gives X.K r d d' (.bl k) ∧ Ψ k ρ2) : TC X Z (.Compare a [op] [b] pos) ρ Ψ := fun B G H σ o z Q q =>
  (pt_cmpR ho p_wE p_wE hm).w (h B G H σ o z _ fun d ρ1 x B1 H1 h1 e1 o1 r1 => h1 B1 G H1 σ o1 (z.up e1) _ fun d' ρ2 y B2 H2 ⟨k, g, hk⟩ e2 o2 r2 => by
    obtain ⟨w, rw_, hw⟩ := g B2 G H2 x y o2.s (r1.up e2) r2
    cases rw_
    exact hw _ ⟨k, rfl, q k ρ2 B2 H2 hk (e1.trans e2) o2⟩)
theorem tc_lt (h : EC X Z a ρ fun d ρ1 => EC X Z b ρ1 fun d' ρ2 => ∃ i j, d = .int i ∧ d' = .int j ∧ Ψ (decide (i < j)) ρ2) : TC X Z (.Compare a [.Lt] [b] pos) ρ Ψ :=
  tc_op op_lt (nomark _) (h.mono fun d ρ1 z => z.mono fun d' ρ2 ⟨i, j, e1, e2, k⟩ => by subst e1; subst e2; exact ⟨_, g_I0 (f := fun i j => .bl (decide (i < j))) (fun B => .bl _), k⟩)
theorem tc_le (h : EC X Z a ρ fun d ρ1 => EC X Z b ρ1 fun d' ρ2 => ∃ i j, d = .int i ∧ d' = .int j ∧ Ψ (decide (i ≤ j)) ρ2) : TC X Z (.Compare a [.LtE] [b] pos) ρ Ψ :=
  tc_op op_le (nomark _) (h.mono fun d ρ1 z => z.mono fun d' ρ2 ⟨i, j, e1, e2, k⟩ => by subst e1; subst e2; exact ⟨_, g_I0 (f := fun i j => .bl (decide (i ≤ j))) (fun B => .bl _), k⟩)
theorem tc_gt (h : EC X Z a ρ fun d ρ1 => EC X Z b ρ1 fun d' ρ2 => ∃ i j, d = .int i ∧ d' = .int j ∧ Ψ (decide (j < i)) ρ2) : TC X Z (.Compare a [.Gt] [b] pos) ρ Ψ :=
  tc_op op_gt (nomark _) (h.mono fun d ρ1 z => z.mono fun d' ρ2 ⟨i, j, e1, e2, k⟩ => by subst e1; subst e2; exact ⟨_, g_I0 (f := fun i j => .bl (decide (j < i))) (fun B => .bl _), k⟩)
theorem tc_ge (h : EC X Z a ρ fun d ρ1 => EC X Z b ρ1 fun d' ρ2 => ∃ i j, d = .int i ∧ d' = .int j ∧ Ψ (decide (j ≤ i)) ρ2) : TC X Z (.Compare a [.GtE] [b] pos) ρ Ψ :=
  tc_op op_ge (nomark _) (h.mono fun d ρ1 z => z.mono fun d' ρ2 ⟨i, j, e1, e2, k⟩ => by subst e1; subst e2; exact ⟨_, g_I0 (f := fun i j => .bl (decide (j ≤ i))) (fun B => .bl _), k⟩)
/-- == and != of scalars -/
theorem ec_eqS (h : EC X Z a ρ fun d ρ1 => EC X Z b ρ1 fun d' ρ2 => ∃ r, eqS d d' = some r ∧ Φ (.bl r) ρ2) : EC X Z (.Compare a [.Eq] [b] pos) ρ Φ :=
  ec_cmp op_eq (nomark _) (h.mono fun d ρ1 z => z.mono fun d' ρ2 ⟨r, e1, k⟩ => ⟨_, (g_eqS e1).1, k⟩)
theorem ec_neS (h : EC X Z a ρ fun d ρ1 => EC X Z b ρ1 fun d' ρ2 => ∃ r, eqS d d' = some r ∧ Φ (.bl !r) ρ2) : EC X Z (.Compare a [.NotEq] [b] pos) ρ Φ :=
  ec_cmp op_ne (nomark _) (h.mono fun d ρ1 z => z.mono fun d' ρ2 ⟨r, e1, k⟩ => ⟨_, (g_eqS e1).2, k⟩)
theorem tc_eqS (h : EC X Z a ρ fun d ρ1 => EC X Z b ρ1 fun d' ρ2 => ∃ r, eqS d d' = some r ∧ Ψ r ρ2) : TC X Z (.Compare a [.Eq] [b] pos) ρ Ψ :=
  tc_op op_eq (nomark _) (h.mono fun d ρ1 z => z.mono fun d' ρ2 ⟨r, e1, k⟩ => ⟨_, (g_eqS e1).1, k⟩)
theorem tc_neS (h : EC X Z a ρ fun d ρ1 => EC X Z b ρ1 fun d' ρ2 => ∃ r, eqS d d' = some r ∧ Ψ (!r) ρ2) : TC X Z (.Compare a [.NotEq] [b] pos) ρ Ψ :=
  tc_op op_ne (nomark _) (h.mono fun d ρ1 z => z.mono fun d' ρ2 ⟨r, e1, k⟩ => ⟨_, (g_eqS e1).2, k⟩)
/-- is None -/
def isNonD : D → Bool
  | .non => true
  | _ => false
theorem isNonD_of {K : PySem.W.Frag} {B : Hp} {v : V} {d : D} (r : Rep K B v d) : decide (v = .non) = isNonD d := by cases r <;> simp [isNonD]
theorem ec_isN {j pos'} (h : EC X Z a ρ fun d ρ1 => Φ (.bl (isNonD d)) ρ1) : EC X Z (.Compare a [.Is] [.Constant .none j pos'] pos) ρ Φ := fun B G H σ o z Q q =>
  (pe_cmp (pc_isN p_wE) (nobehind _ (by decide) (by decide))).w (h B G H σ o z _ fun d ρ1 v B1 H1 h1 e1 o1 r1 => by rw [isNonD_of r1]; exact q _ ρ1 _ B1 H1 h1 e1 o1 (.bl _))
theorem ec_notN {j pos'} (h : EC X Z a ρ fun d ρ1 => Φ (.bl (!isNonD d)) ρ1) : EC X Z (.Compare a [.IsNot] [.Constant .none j pos'] pos) ρ Φ := fun B G H σ o z Q q =>
  (pe_cmp (pc_notN p_wE) (nobehind _ (by decide) (by decide))).w (h B G H σ o z _ fun d ρ1 v B1 H1 h1 e1 o1 r1 => by rw [isNonD_of r1]; exact q _ ρ1 _ B1 H1 h1 e1 o1 (.bl _))
theorem tc_isN {j pos'} (h : EC X Z a ρ fun d ρ1 => Ψ (isNonD d) ρ1) : TC X Z (.Compare a [.Is] [.Constant .none j pos'] pos) ρ Ψ := fun B G H σ o z Q q =>
  (pt_cmp (pc_isN p_wE) (nobehind _ (by decide) (by decide))).w (h B G H σ o z _ fun d ρ1 v B1 H1 h1 e1 o1 r1 => by rw [isNonD_of r1]; exact ⟨_, rfl, q _ ρ1 B1 H1 h1 e1 o1⟩)
theorem tc_notN {j pos'} (h : EC X Z a ρ fun d ρ1 => Ψ (!isNonD d) ρ1) : TC X Z (.Compare a [.IsNot] [.Constant .none j pos'] pos) ρ Ψ := fun B G H σ o z Q q =>
  (pt_cmp (pc_notN p_wE) (nobehind _ (by decide) (by decide))).w (h B G H σ o z _ fun d ρ1 v B1 H1 h1 e1 o1 r1 => by rw [isNonD_of r1]; exact ⟨_, rfl, q _ ρ1 B1 H1 h1 e1 o1⟩)
/-- and, or, not as tests -/
theorem tc_w (h : WC X Z e ρ Ψ) : TC X Z e ρ Ψ := fun B G H σ o z Q q => (p_wW.pt).w (h B G H σ o z Q q)
theorem wc_and1 (h : TC X Z a ρ Ψ) : WC X Z (.BoolOp .And [a] pos) ρ Ψ := fun B G H σ o z Q q => (pw_and1 p_wT).w (h B G H σ o z Q q)
theorem wc_or1 (h : TC X Z a ρ Ψ) : WC X Z (.BoolOp .Or [a] pos) ρ Ψ := fun B G H σ o z Q q => (pw_or1 p_wT).w (h B G H σ o z Q q)
theorem wc_and (h : TC X Z a ρ fun k ρ1 => (k = true → WC X Z (.BoolOp .And (b :: es) pos) ρ1 Ψ) ∧ (k = false → Ψ false ρ1)) : WC X Z (.BoolOp .And (a :: b :: es) pos) ρ Ψ := fun B G H σ o z Q q =>
  (pw_and p_wT p_wW).w (h B G H σ o z _ fun k ρ1 B1 H1 ⟨h1, h2⟩ e1 o1 => by
    cases k with
    | true => exact h1 rfl B1 G H1 σ o1 (z.up e1) Q fun k' ρ2 B2 H2 x e2 o2 => q k' ρ2 B2 H2 x (e1.trans e2) o2
    | false => exact q false ρ1 B1 H1 (h2 rfl) e1 o1)
theorem wc_or (h : TC X Z a ρ fun k ρ1 => (k = false → WC X Z (.BoolOp .Or (b :: es) pos) ρ1 Ψ) ∧ (k = true → Ψ true ρ1)) : WC X Z (.BoolOp .Or (a :: b :: es) pos) ρ Ψ := fun B G H σ o z Q q =>
  (pw_or p_wT p_wW).w (h B G H σ o z _ fun k ρ1 B1 H1 ⟨h1, h2⟩ e1 o1 => by
    cases k with
    | false => exact h1 rfl B1 G H1 σ o1 (z.up e1) Q fun k' ρ2 B2 H2 x e2 o2 => q k' ρ2 B2 H2 x (e1.trans e2) o2
    | true => exact q true ρ1 B1 H1 (h2 rfl) e1 o1)
theorem tc_not (h : TC X Z a ρ fun k ρ1 => Ψ (!k) ρ1) : TC X Z (.UnaryOp .Not a pos) ρ Ψ := fun B G H σ o z Q q => (pt_not p_wT).w (h B G H σ o z _ fun k ρ1 B1 H1 x e1 o1 => q (!k) ρ1 B1 H1 x e1 o1)
/-- .. as values -/
theorem ec_one {op} (h : EC X Z a ρ Φ) : EC X Z (.BoolOp op [a] pos) ρ Φ := fun B G H σ o z Q q => (pe_one p_wE).w (h B G H σ o z Q q)
theorem ec_and (h : EC X Z a ρ fun d ρ1 => ∃ k, d = .bl k ∧ (k = true → EC X Z (.BoolOp .And (b :: es) pos) ρ1 Φ) ∧ (k = false → Φ (.bl false) ρ1)) : EC X Z (.BoolOp .And (a :: b :: es) pos) ρ Φ := fun B G H σ o z Q q =>
  (pe_and p_wE p_wE).w (h B G H σ o z _ fun d ρ1 v B1 H1 ⟨k, hk, h1, h2⟩ e1 o1 r1 => by
    subst hk; cases r1
    refine ⟨k, rfl, ?_⟩
    cases k with
    | true => exact h1 rfl B1 G H1 σ o1 (z.up e1) Q fun d' ρ2 v' B2 H2 x e2 o2 => q d' ρ2 v' B2 H2 x (e1.trans e2) o2
    | false => exact q _ ρ1 _ B1 H1 (h2 rfl) e1 o1 (.bl _))
theorem ec_or (h : EC X Z a ρ fun d ρ1 => ∃ k, d = .bl k ∧ (k = false → EC X Z (.BoolOp .Or (b :: es) pos) ρ1 Φ) ∧ (k = true → Φ (.bl true) ρ1)) : EC X Z (.BoolOp .Or (a :: b :: es) pos) ρ Φ := fun B G H σ o z Q q =>
  (pe_or p_wE p_wE).w (h B G H σ o z _ fun d ρ1 v B1 H1 ⟨k, hk, h1, h2⟩ e1 o1 r1 => by
    subst hk; cases r1
    refine ⟨k, rfl, ?_⟩
    cases k with
    | false => exact h1 rfl B1 G H1 σ o1 (z.up e1) Q fun d' ρ2 v' B2 H2 x e2 o2 => q d' ρ2 v' B2 H2 x (e1.trans e2) o2
    | true => exact q _ ρ1 _ B1 H1 (h2 rfl) e1 o1 (.bl _))
theorem ec_not (h : EC X Z a ρ fun d ρ1 => ∃ k, d = .bl k ∧ Φ (.bl (!k)) ρ1) : EC X Z (.UnaryOp .Not a pos) ρ Φ := fun B G H σ o z Q q =>
  (pe_not p_wE).w (h B G H σ o z _ fun d ρ1 v B1 H1 ⟨k, hk, h1⟩ e1 o1 r1 => by
    subst hk; cases r1
    exact ⟨k, rfl, q _ ρ1 _ B1 H1 h1 e1 o1 (.bl _)⟩)
theorem ec_if (h : TC X Z c ρ fun k ρ1 => (k = true → EC X Z a ρ1 Φ) ∧ (k = false → EC X Z b ρ1 Φ)) : EC X Z (.IfExp c a b pos) ρ Φ := fun B G H σ o z Q q =>
  (pe_ifExp p_wT p_wE p_wE).w (h B G H σ o z _ fun k ρ1 B1 H1 ⟨h1, h2⟩ e1 o1 => by
    cases k with
    | true => exact h1 rfl B1 G H1 σ o1 (z.up e1) Q fun d' ρ2 v' B2 H2 x e2 o2 => q d' ρ2 v' B2 H2 x (e1.trans e2) o2
    | false => exact h2 rfl B1 G H1 σ o1 (z.up e1) Q fun d' ρ2 v' B2 H2 x e2 o2 => q d' ρ2 v' B2 H2 x (e1.trans e2) o2)
/-! ### arguments, displays, items, attributes -/
variable {Θ : List D → En → Prop}
theorem ac_nil (h : Θ [] ρ) : AC X Z [] ρ Θ := fun B G H σ o z Q q => pa_nil.w (q [] ρ [] B H h (Ex.refl B) o .nil)
theorem ac_cons (h : EC X Z e ρ fun d ρ1 => AC X Z es ρ1 fun ds ρ2 => Θ (d :: ds) ρ2) (hs : starEach (e :: es) X.env = (false, eval e X.env) :: starEach es X.env := by rfl) : AC X Z (e :: es) ρ Θ := fun B G H σ o z Q q =>
  (pa_cons p_wE p_wA hs).w (h B G H σ o z _ fun d ρ1 v B1 H1 h1 e1 o1 r1 => h1 B1 G H1 σ o1 (z.up e1) _ fun ds ρ2 vs B2 H2 h2 e2 o2 r2 => q (d :: ds) ρ2 (v :: vs) B2 H2 h2 (e1.trans e2) o2 (.cons (r1.up e2) r2))
theorem sz1000 {n : Nat} (h : n ≤ 100000) : n ≤ sizeLine := sz_of h
theorem ec_tup {x1} (h : AC X Z es ρ fun ds ρ1 => ds.length ≤ 100000 ∧ Φ (.tup ds) ρ1) : EC X Z (.Tuple es x1 pos) ρ Φ := fun B G H σ o z Q q =>
  (pe_tup p_wA).w (h B G H σ o z _ fun ds ρ1 vs B1 H1 ⟨hl, h1⟩ e1 o1 r1 => ⟨by rw [r1.length]; exact sz_of hl, fun p hp => by
    obtain ⟨e2, o2⟩ := o1.grow (u := .tup vs) hp
    exact q _ ρ1 _ _ _ h1 (e1.trans e2) o2 (.tup upd_same (r1.up e2))⟩)
theorem ec_lst (h : AC X Z es ρ fun ds ρ1 => ds.length ≤ 100000 ∧ Φ (.lst ds) ρ1) : EC X Z (.List es pos) ρ Φ := fun B G H σ o z Q q =>
  (pe_lst p_wA).w (h B G H σ o z _ fun ds ρ1 vs B1 H1 ⟨hl, h1⟩ e1 o1 r1 => ⟨by rw [r1.length]; exact sz_of hl, fun p hp => by
    obtain ⟨e2, o2⟩ := o1.grow (u := .lst vs) hp
    exact q _ ρ1 _ _ _ h1 (e1.trans e2) o2 (.lst upd_same (r1.up e2))⟩)
theorem fc_lst {Φ : OO → En → Prop} (h : AC X Z es ρ fun ds ρ1 => ds.length ≤ 100000 ∧ Φ (.l ds) ρ1) : FC X Z (.List es pos) ρ Φ := fun B G H σ o z Q q =>
  (pe_lst p_wA).w (h B G H σ o z _ fun ds ρ1 vs B1 H1 ⟨hl, h1⟩ e1 o1 r1 => ⟨by rw [r1.length]; exact sz_of hl, fun p hp => by
    obtain ⟨o2, hb, hg, hn⟩ := o1.fresh (u := .lst vs) hp
    exact q _ ρ1 p _ _ _ h1 e1 o2 hb hg upd_same hn r1⟩)
/-- a new object is known from now on -/
theorem ec_fc (h : FC X Z e ρ fun o ρ1 => ∃ ds, o = .l ds ∧ Φ (.lst ds) ρ1) : EC X Z e ρ Φ := fun B G H σ o z Q q =>
  h B G H σ o z Q fun o' ρ1 p u B1 H1 ⟨ds, hd, h1⟩ e1 o1 hb hg hu hn r1 => by
    subst hd
    obtain ⟨e2, o2⟩ := o1.know hb hg hu hn
    cases u with
    | lst vs => exact q _ ρ1 _ _ _ h1 (e1.trans e2) o2 (.lst upd_same (Reps.up r1 e2))
    | _ => exact False.elim r1
/-- an item of a list or tuple -/
def itemsD : D → Option (List D)
  | .lst ds => some ds
  | .tup ds => some ds
  | .ktup ds => some ds
  | .klst ds => some ds
  | _ => none
theorem atI_reps {K : PySem.W.Frag} {B : Hp} {vs : List V} {ds : List D} {i : Int} {r : D} (h : Reps K B vs ds) (ha : atI ds i = some r) : ∃ v, atI vs i = some v ∧ Rep K B v r := by
  unfold atI at ha ⊢
  rw [h.length]
  cases e : ixN ds.length i with
  | none => rw [e] at ha; cases ha
  | some j =>
    rw [e] at ha
    exact h.get' (i := j) ha
theorem ec_ix (h : EC X Z a ρ fun d ρ1 => EC X Z b ρ1 fun d' ρ2 => ∃ ds i r, itemsD d = some ds ∧ d' = .int i ∧ atI ds i = some r ∧ Φ r ρ2) (hs : PlainIx b := by exact fun _ _ => rfl) : EC X Z (.Subscript a b pos) ρ Φ := fun B G H σ o z Q q =>
  (pe_ix ix_seq p_wE p_wE hs).w (h B G H σ o z _ fun d ρ1 x B1 H1 h1 e1 o1 r1 => h1 B1 G H1 σ o1 (z.up e1) _ fun d' ρ2 y B2 H2 ⟨ds, i, r, hd, hi, ha, hk⟩ e2 o2 r2 => by
    subst hi; cases r2
    have r1 := r1.up e2
    cases r1 with
    | lst hq rs =>
      obtain rfl := Option.some.inj hd
      obtain ⟨v, hv, rv⟩ := atI_reps rs ha
      exact .inl ⟨_, _, i, v, rfl, rfl, sq_of (o2.s.ex _ _ hq), hv, q r ρ2 v B2 H2 hk (e1.trans e2) o2 rv⟩
    | tup hq rs =>
      obtain rfl := Option.some.inj hd
      obtain ⟨v, hv, rv⟩ := atI_reps rs ha
      exact .inr (.inl ⟨_, _, i, v, rfl, rfl, ex_t o2.s.ex (st_of hq), hv, q r ρ2 v B2 H2 hk (e1.trans e2) o2 rv⟩)
    | klst hq rs =>
      obtain rfl := Option.some.inj hd
      obtain ⟨v, hv, rv⟩ := atI_reps rs ha
      exact .inl ⟨_, _, i, v, rfl, rfl, ex_l o2.s.ex hq, hv, q r ρ2 v B2 H2 hk (e1.trans e2) o2 rv⟩
    | ktup hq rs =>
      obtain rfl := Option.some.inj hd
      obtain ⟨v, hv, rv⟩ := atI_reps rs ha
      exact .inr (.inl ⟨_, _, i, v, rfl, rfl, ex_t o2.s.ex hq, hv, q r ρ2 v B2 H2 hk (e1.trans e2) o2 rv⟩)
    | _ => cases hd)
/-- an item of an owned list -/
theorem ec_ixO (i : Nat) {x : Str} {p : Addr} {ds : List D} {ps : Pos} (h : EC X Z b ρ fun d' ρ2 => ρ2[i]? = some (some (.ow p (.l ds))) ∧ ∃ j r, d' = .int j ∧ atI ds j = some r ∧ Φ r ρ2) (hd : ρ[i]? = some (some (.ow p (.l ds)))) (hs : PlainIx b := by exact fun _ _ => rfl) (hN : X.N[i]? = some x := by rfl)
    (hv : Vis X.env.scope x := by first | exact Or.inl rfl | exact Or.inr (Or.inl rfl) | exact Or.inr (Or.inr rfl)) (hdb : (x == ("__debug__" : Str)) = false := by decide) (hcd : (x == ("__classdict__" : Str)) = false := by decide) : EC X Z (.Subscript (.Name x ps) b pos) ρ Φ := fun B G H σ o z Q q => by
  obtain ⟨h1, _⟩ := o.ow i p _ hd
  refine (pe_ix ix_list (pe_var hN hv hdb hcd) p_wE hs).w ⟨_, h1, ?_⟩
  refine h B G H σ o z _ fun d' ρ2 y B2 H2 ⟨hd2, j, r, hj, ha, hk⟩ e2 o2 r2 => ?_
  subst hj; cases r2
  obtain ⟨_, _, _, u, h4, h5⟩ := o2.ow i p _ hd2
  cases u with
  | lst vs =>
    obtain ⟨v, hv, rv⟩ := atI_reps h5 ha
    exact ⟨p, vs, j, v, rfl, rfl, sq_of h4, hv, q r ρ2 v B2 H2 hk e2 o2 rv⟩
  | _ => exact False.elim h5
/-- an attribute -/
theorem ec_fld {f : Str} (h : EC X Z e ρ fun d ρ1 => ∃ C gs r, d = .obj C gs ∧ Cls X.K C ∧ NoAttr X.K C f ∧ gs.lookup f = some r ∧ Φ r ρ1) (hb : attributeBase e f X.env (eval e X.env) = eval e X.env := by rfl) : EC X Z (.Attribute e f pos) ρ Φ := fun B G H σ o z Q q =>
  (pe_fld p_wE hb).w (h B G H σ o z _ fun d ρ1 v B1 H1 ⟨C, gs, r, hd, cl, na, hl, h1⟩ e1 o1 r1 => by
    subst hd
    cases r1 with
    | obj ha hf =>
      obtain ⟨w, hw, rw_⟩ := hf.lookup hl
      exact ⟨_, C, _, _, w, rfl, o1.s.ex _ _ ha, cl, na, hw, q r ρ1 w B1 H1 h1 e1 o1 rw_⟩)
/-! ### built-ins -/
theorem ec_len (h : AC X Z (e :: es) ρ fun ds ρ1 => ∃ d xs, ds = [d] ∧ itemsD d = some xs ∧ Φ (.int xs.length) ρ1) {p : Pos} (hm : X.mg "len" = none) (hg : Gl X "len" := by rfl)
    (he : starEach (e :: es) X.env = (false, eval e X.env) :: starEach es X.env := by rfl) (hpl : (backTo pos (starEach es X.env)).any (·.1) = false := by rfl) : EC X Z (.Call (.Name "len" p) (e :: es) [] pos) ρ Φ := fun B G H σ o z Q q =>
  (pe_callB call_len_seq hg hm PySem.boot_len p_wA (he := he) (hpl := hpl)).w (h B G H σ o z _ fun ds ρ1 vs B1 H1 ⟨d, xs, hd, hx, h1⟩ e1 o1 r1 => by
    subst hd
    cases r1 with
    | cons r rs =>
      cases rs
      cases r with
      | lst hq rr => obtain rfl := Option.some.inj hx; exact ⟨_, _, rfl, .inl (sq_of (o1.s.ex _ _ hq)), by rw [rr.length]; exact q _ ρ1 _ B1 H1 h1 e1 o1 (.int _)⟩
      | tup hq rr => obtain rfl := Option.some.inj hx; exact ⟨_, _, rfl, .inr (ex_t o1.s.ex (st_of hq)), by rw [rr.length]; exact q _ ρ1 _ B1 H1 h1 e1 o1 (.int _)⟩
      | klst hq rr => obtain rfl := Option.some.inj hx; exact ⟨_, _, rfl, .inl (ex_l o1.s.ex hq), by rw [rr.length]; exact q _ ρ1 _ B1 H1 h1 e1 o1 (.int _)⟩
      | ktup hq rr => obtain rfl := Option.some.inj hx; exact ⟨_, _, rfl, .inr (ex_t o1.s.ex hq), by rw [rr.length]; exact q _ ρ1 _ B1 H1 h1 e1 o1 (.int _)⟩
      | _ => cases hx)
/-- len of an owned list -/
theorem ec_lenO (i : Nat) {x : Str} {w : Addr} {ds : List D} {ps p : Pos} (hd : ρ[i]? = some (some (.ow w (.l ds)))) (h : Φ (.int ds.length) ρ) (hm : X.mg "len" = none) (hg : Gl X "len" := by rfl) (hN : X.N[i]? = some x := by rfl)
    (hv : Vis X.env.scope x := by first | exact Or.inl rfl | exact Or.inr (Or.inl rfl) | exact Or.inr (Or.inr rfl)) (hdb : (x == ("__debug__" : Str)) = false := by decide) (hcd : (x == ("__classdict__" : Str)) = false := by decide) : EC X Z (.Call (.Name "len" p) [.Name x ps] [] pos) ρ Φ := fun B G H σ o z Q q => by
  obtain ⟨h1, _, _, u, h4, h5⟩ := o.ow i w _ hd
  cases u with
  | lst vs => exact (pe_callB call_len_seq hg hm PySem.boot_len (pa_cons (pe_var hN hv hdb hcd) pa_nil)).w ⟨_, h1, w, vs, rfl, .inl (sq_of h4), by rw [Reps.length h5]; exact q _ ρ _ B H h (Ex.refl B) o (.int _)⟩
  | _ => exact False.elim h5
end

/-! ### statements -/
section
variable {X : Cx} {Z : Zx} {e c tg : Expr} {ρ : En} {O : Outs} {st : Stmt} {sts a b : List Stmt} {pos : Pos}
theorem sc_of {t : TS} (p : PS X st t) (h : ∀ B G H σ Dd, Ok X.K B G H σ ρ → RC X.K Z B G → Serves X.K B G O Dd → t { Dd with nx := wSs X sts Dd } σ H) : SC X Z (st :: sts) ρ O := fun B G H σ Dd o z s =>
  (pss_cons p p_wSs).w (h B G H σ Dd o z s)
theorem sc_nil (h : O.nx ρ) : SC X Z [] ρ O := fun B G H σ Dd o z s => pss_nil.w (s.nx ρ σ B H h (Ex.refl B) o)
/-- what follows, from a later state -/
theorem SC.go {B B' G H : Hp} {σ : L2.St} {Dd : Ends} {ρ' : En} (h : SC X Z sts ρ' O) (o : Ok X.K B' G H σ ρ') (z : RC X.K Z B G) (s : Serves X.K B G O Dd) (e : Ex B B') : wSs X sts Dd σ H := h B' G H σ Dd o (z.up e) (s.up e)
/-- x = e, a datum -/
theorem sc_set (i : Nat) {x : Str} {ps : Pos} (h : EC X Z e ρ fun d ρ1 => SC X Z sts (ρ1.set i (some (.im d))) O) (nd : X.N.Nodup) (hi : X.N[i]? = some x := by rfl) (hx : Loc X.env.scope x := by first | exact Or.inl rfl | exact Or.inr rfl)
    (hs : swapsWith e (some (.Name x ps)) pos.line X.env = pure false := by rfl) (hf : X.fn x = true ∨ X.env.scope.names.lookup x = some .local := by first | exact .inl rfl | exact .inr rfl) : SC X Z (.Assign [.Name x ps] e pos :: sts) ρ O :=
  sc_of (ps_set nd hi hx p_wE hs hf) fun B G H σ Dd o z s => h B G H σ o z _ fun d ρ1 v B1 H1 h1 e1 o1 r1 => h1.go (o1.set_im r1) z s e1
/-- x = e, a new object of the frame's own -/
theorem sc_own (i : Nat) {x : Str} {ps : Pos} (h : FC X Z e ρ fun oo ρ1 => ∀ p, SC X Z sts (ρ1.set i (some (.ow p oo))) O) (nd : X.N.Nodup) (hi : X.N[i]? = some x := by rfl) (hx : Loc X.env.scope x := by first | exact Or.inl rfl | exact Or.inr rfl)
    (hs : swapsWith e (some (.Name x ps)) pos.line X.env = pure false := by rfl) (hf : X.fn x = true ∨ X.env.scope.names.lookup x = some .local := by first | exact .inl rfl | exact .inr rfl) : SC X Z (.Assign [.Name x ps] e pos :: sts) ρ O :=
  sc_of (ps_set nd hi hx p_wE hs hf) fun B G H σ Dd o z s => h B G H σ o z _ fun oo ρ1 p u B1 H1 h1 e1 o1 hb hg hu hn r1 => (h1 p).go (o1.set_ow hb hg hu r1 fun j q hj => absurd hj (hn j q)) z s e1
theorem sc_ret (h : EC X Z e ρ fun d ρ1 => O.rt (.im d) ρ1) : SC X Z (.Return (some e) pos :: sts) ρ O :=
  sc_of (ps_ret p_wE) fun B G H σ Dd o z s => h B G H σ o z _ fun d ρ1 v B1 H1 h1 e1 o1 r1 => s.rt _ ρ1 v σ B1 H1 h1 e1 o1 r1
theorem sc_retF (h : FC X Z e ρ fun oo ρ1 => O.rt (.fr oo) ρ1) : SC X Z (.Return (some e) pos :: sts) ρ O :=
  sc_of (ps_ret p_wE) fun B G H σ Dd o z s => h B G H σ o z _ fun oo ρ1 p u B1 H1 h1 e1 o1 hb hg hu hn r1 => s.rt (.fr oo) ρ1 (.ref p) σ B1 H1 h1 e1 o1 ⟨p, u, rfl, hb, hg, hu, hn, r1⟩
theorem sc_retN (h : O.rt (.im .non) ρ) : SC X Z (.Return none pos :: sts) ρ O :=
  sc_of ps_retN fun B G H σ Dd o z s => s.rt _ ρ .non σ B H h (Ex.refl B) o .non
/-- return x, x a list of the frame's own -/
theorem sc_retO (i : Nat) {x : Str} {p : Addr} {oo : OO} {ps : Pos} (hd : ρ[i]? = some (some (.ow p oo))) (h : O.rt (.fr oo) (ρ.set i none)) (hN : X.N[i]? = some x := by rfl) (hv : Vis X.env.scope x := by first | exact Or.inl rfl | exact Or.inr (Or.inl rfl) | exact Or.inr (Or.inr rfl))
    (hdb : (x == ("__debug__" : Str)) = false := by decide) (hcd : (x == ("__classdict__" : Str)) = false := by decide) : SC X Z (.Return (some (.Name x ps)) pos :: sts) ρ O :=
  sc_of (ps_ret (pe_var hN hv hdb hcd)) fun B G H σ Dd o z s => by
    obtain ⟨h1, h2, h3, u, h4, h5⟩ := o.ow i p _ hd
    have hl : i < ρ.length := (List.getElem?_eq_some_iff.mp hd).1
    have o1 : Ok X.K B G H σ (ρ.set i none) := by
      have z1 := o.drop (i := i) (x := some (.ref p))
      rwa [set_getq h1] at z1
    exact ⟨_, h1, s.rt (.fr oo) _ _ σ B H h (Ex.refl B) o1 ⟨p, u, rfl, h2, h3, h4, fun j w hj => by
      rw [getq_set] at hj
      by_cases hij : i = j
      · subst hij; rw [if_pos ⟨rfl, hl⟩] at hj; cases hj
      · rw [if_neg (fun z => hij z.1), if_neg hij] at hj
        exact hij (o.ne i j p _ w hd hj), h5⟩⟩
theorem sc_if (h : TC X Z c ρ fun k ρ1 => (k = true → SC X Z a ρ1 { O with nx := fun ρ2 => SC X Z sts ρ2 O }) ∧ (k = false → SC X Z b ρ1 { O with nx := fun ρ2 => SC X Z sts ρ2 O })) : SC X Z (.If c a b pos :: sts) ρ O :=
  sc_of (ps_if p_wT p_wSs p_wSs) fun B G H σ Dd o z s => h B G H σ o z _ fun k ρ1 B1 H1 ⟨h1, h2⟩ e1 o1 => by
    have s' : Serves X.K B1 G { O with nx := fun ρ2 => SC X Z sts ρ2 O } { Dd with nx := wSs X sts Dd } :=
      ⟨fun ρ' σ' B' H' x e o' => x.go o' (z.up e1) (s.up e1) e, (s.up e1).rt, (s.up e1).bk, (s.up e1).ct⟩
    cases k with
    | true => exact h1 rfl B1 G H1 σ _ o1 (z.up e1) s'
    | false => exact h2 rfl B1 G H1 σ _ o1 (z.up e1) s'
theorem sc_expr (h : EC X Z e ρ fun _ ρ1 => SC X Z sts ρ1 O) (hs : swapsWith e none pos.line X.env = pure false := by rfl) : SC X Z (.Expr e pos :: sts) ρ O :=
  sc_of (ps_expr p_wE hs) fun B G H σ Dd o z s => h B G H σ o z _ fun d ρ1 v B1 H1 h1 e1 o1 r1 => h1.go o1 z s e1
theorem sc_pass (h : SC X Z sts ρ O) : SC X Z (.Pass pos :: sts) ρ O := sc_of ps_pass fun B G H σ Dd o z s => h.go o z s (Ex.refl B)
theorem sc_break (h : O.bk ρ) : SC X Z (.Break pos :: sts) ρ O := sc_of ps_break fun B G H σ Dd o z s => s.bk ρ σ B H h (Ex.refl B) o
theorem sc_cont (h : O.ct ρ) : SC X Z (.Continue pos :: sts) ρ O := sc_of ps_continue fun B G H σ Dd o z s => s.ct ρ σ B H h (Ex.refl B) o
/-- x += e, ints -/
theorem sc_addI (i : Nat) {x : Str} {ps : Pos} {n : Int} (hd : ρ[i]? = some (some (.im (.int n)))) (h : EC X Z e ρ fun d ρ1 => ∃ m, d = .int m ∧ SC X Z sts (ρ1.set i (some (.im (.int (n + m))))) O) (nd : X.N.Nodup) (hi : X.N[i]? = some x := by rfl) (hx : Loc X.env.scope x := by first | exact Or.inl rfl | exact Or.inr rfl)
    (p : ∀ te, PE X e te → PS X (.AugAssign (.Name x ps) .Add e pos) (tAug i te (ipI (· + ·))) := by exact fun te he => ps_aug (by assumption) rfl (.inl rfl) he ip_add) : SC X Z (.AugAssign (.Name x ps) .Add e pos :: sts) ρ O :=
  sc_of (p _ p_wE) fun B G H σ Dd o z s => by
    obtain ⟨v, h1, h2⟩ := o.im i _ hd
    cases h2
    exact ⟨_, h1, h B G H σ o z _ fun d ρ1 w B1 H1 ⟨m, hm, hk⟩ e1 o1 r1 => by
      subst hm; cases r1
      exact ⟨n, m, rfl, rfl, hk.go (o1.set_im (.int _)) z s e1⟩⟩
end
end AL
namespace AL
open PySem PySem.Spec PyProof.Rows L2 Evl
/-! ### targets -/
def Agree (js : List Nat) (σ σ' : L2.St) : Prop := σ'.length = σ.length ∧ ∀ k, k ∉ js → σ'[k]? = σ[k]?
theorem Agree.wipe : ∀ {vs : List Nat} {σ σ' : L2.St}, Agree vs σ σ' → L2.wipe σ' vs = L2.wipe σ vs := fun {vs σ σ'} h => by
  have key : ∀ (vs : List Nat) (σ : L2.St) (k : Nat), (L2.wipe σ vs)[k]? = if k ∈ vs then (if k < σ.length then some none else none) else σ[k]? := by
    intro vs
    induction vs with
    | nil => intro σ k; simp [L2.wipe]
    | cons v vs ih =>
      intro σ k
      show ((L2.wipe σ vs).set v none)[k]? = _
      rw [getq_set, wipe_length, ih]
      by_cases h : v = k
      · subst h; by_cases h2 : v < σ.length <;> simp [h2]
      · have h' : ¬ k = v := fun z => h z.symm
        simp [h, h']
  apply List.ext_getElem?
  intro k
  rw [key, key, h.1]
  by_cases hk : k ∈ vs
  · rw [if_pos hk, if_pos hk]
  · rw [if_neg hk, if_neg hk, h.2 k hk]
section
variable (X : Cx)
/-- a target takes a datum; only the slots js change -/
def GT (tg : Expr) (js : List Nat) (d : D) (ρ : En) (Φ : En → Prop) : Prop := ∀ B G H σ v, Ok X.K B G H σ ρ → Rep X.K B v d → ∀ Q : L2.St → Hp → Prop,
  (∀ ρ' σ' B' H', Φ ρ' → Agree js σ σ' → Ex B B' → Ok X.K B' G H' σ' ρ' → Q σ' H') → wG X tg v σ H Q
def GTs (tgs : List Expr) (js : List Nat) (ds : List D) (ρ : En) (Φ : En → Prop) : Prop := ∀ B G H σ vs, Ok X.K B G H σ ρ → Reps X.K B vs ds → ∀ Q : L2.St → Hp → Prop,
  (∀ ρ' σ' B' H', Φ ρ' → Agree js σ σ' → Ex B B' → Ok X.K B' G H' σ' ρ' → Q σ' H') → (∀ pins s us, Inv X pins σ H s → Vals vs us → wpAny (model X.prog X.w) X.A (assignInOrder ((assignEach tgs X.env).map (·.2)) us) (fun _ s' => ∃ σ' H', Inv X pins σ' H' s' ∧ Q σ' H') X.xe s)
end
section
variable {X : Cx} {Z : Zx} {tg : Expr} {tgs : List Expr} {ρ : En} {Φ : En → Prop} {d : D} {ds : List D} {pos : Pos} {js : List Nat}
theorem Agree.set {i : Nat} {σ : L2.St} {x : Option V} : Agree [i] σ (σ.set i x) := ⟨by simp, fun k hk => by rw [getq_set]; rw [if_neg (fun z => hk (by simp [z.1])), if_neg (fun z => hk (by simp [z]))]⟩
theorem gt_name (i : Nat) {x : Str} (h : Φ (ρ.set i (some (.im d)))) (nd : X.N.Nodup) (hi : X.N[i]? = some x := by rfl) (hx : Loc X.env.scope x := by first | exact Or.inl rfl | exact Or.inr rfl) (hf : X.fn x = true ∨ X.env.scope.names.lookup x = some .local := by first | exact .inl rfl | exact .inr rfl) :
    GT X (.Name x pos) [i] d ρ Φ := fun B G H σ v o r Q q => (pg_name nd hi hx hf).w (q _ _ B H h Agree.set (Ex.refl B) (o.set_im r))
theorem gts_nil (h : Φ ρ) : GTs X [] [] [] ρ Φ := fun B G H σ vs o r Q q pins s us I rv => by
  cases r
  exact pgs_nil.run pins s σ H [] us Q I rv ⟨rfl, q ρ σ B H h ⟨rfl, fun _ _ => rfl⟩ (Ex.refl B) o⟩
theorem gts_cons {js' : List Nat} (h : GT X tg js d ρ fun ρ1 => GTs X tgs js' ds ρ1 Φ) (hs : (assignEach (tg :: tgs) X.env).map (·.2) = assign tg X.env :: (assignEach tgs X.env).map (·.2) := by rfl) : GTs X (tg :: tgs) (js ++ js') (d :: ds) ρ Φ := fun B G H σ vs o r Q q pins s us I rv => by
  cases r with
  | cons r rs =>
    cases rv with
    | @cons _ _ _ us1 v1 vr =>
      rw [hs]
      refine assignInOrder_cons (thn (h B G H σ _ o r (fun σ1 H1 => ∀ pins s1, Inv X pins σ1 H1 s1 → wpAny (model X.prog X.w) X.A (assignInOrder ((assignEach tgs X.env).map (·.2)) us1) (fun _ s' => ∃ σ' H', Inv X pins σ' H' s' ∧ Q σ' H') X.xe s1) (fun ρ1 σ1 B1 H1 h1 a1 e1 o1 => ?_) pins s _ I v1) fun _ s1 ⟨σ1, H1, I1, q1⟩ => q1 pins s1 I1)
      intro pins1 s1 I1
      exact h1 B1 G H1 σ1 _ o1 (rs.up e1) Q (fun ρ2 σ2 B2 H2 x a2 e2 o2 => q ρ2 σ2 B2 H2 x ⟨a2.1.trans a1.1, fun k hk => (a2.2 k fun z => hk (List.mem_append_right _ z)).trans (a1.2 k fun z => hk (List.mem_append_left _ z))⟩ (e1.trans e2) o2) pins1 s1 _ I1 vr
theorem gt_tup {k : Nat} {es : List Expr} {n : Nat} (hd : itemsD d = some ds ∧ (∃ xs, d = .tup xs) ∧ ds.length = n) (h : GTs X es js ds ρ Φ) (hc : X.calm = true := by rfl) (hn : (assignEach es X.env).length = n := by rfl) (hst : (assignEach es X.env).findIdx? (·.1) = none := by rfl) :
    GT X (.Tuple es k pos) js d ρ Φ := fun B G H σ v o r Q q => by
  obtain ⟨hd1, ⟨xs, hx⟩, hl⟩ := hd
  subst hx
  obtain rfl := Option.some.inj hd1
  cases r with
  | tup hq rs =>
    intro pins s u I rv
    have PGS : PGs X es (fun vs σ H Q => ∀ pins s us, Inv X pins σ H s → Vals vs us → wpAny (model X.prog X.w) X.A (assignInOrder ((assignEach es X.env).map (·.2)) us) (fun _ s' => ∃ σ' H', Inv X pins σ' H' s' ∧ Q σ' H') X.xe s) :=
      ⟨fun pins s σ H vs us Q I r h => h pins s us I r⟩
    exact (pg_tup hc PGS hn hst).run pins s σ H _ u Q I rv ⟨_, _, rfl, ex_t o.s.ex (st_of hq), by rw [rs.length]; exact hl, h B G H σ _ o rs Q q⟩
end
/-! ### what is walked -/
def wI (X : Cx) (tg iter : Expr) : TI := fun σ H R => ∀ pins s, Inv X pins σ H s →
  wpAny (model X.prog X.w) X.A (eval iter X.env) (fun v s1 => wpAny (model X.prog X.w) X.A (pyIter v) (PIE X pins σ tg R) X.xe s1) X.xe s
theorem p_wI {X : Cx} {tg iter : Expr} : PI X tg iter (wI X tg iter) := ⟨fun pins s _ _ _ I h => h pins s I⟩
theorem _root_.L2.PI.w {X : Cx} {tg iter : Expr} {t : TI} (p : PI X tg iter t) {σ : L2.St} {H : Hp} {R : It → Hp → Prop} (h : t σ H R) : wI X tg iter σ H R := fun pins s I => p.run pins s σ H R I h
/-- J yields the data ds, one after the other, while B stands -/
def Walks (K : PySem.W.Frag) (B : Hp) (J : It) (ds : List D) : Prop := ∀ i B2 G2 H2 σ2 ρ2, Ex B B2 → Ok K B2 G2 H2 σ2 ρ2 →
  (∀ d, ds[i]? = some d → J.go i H2 ∧ ∀ x H', J.yld i H2 x H' → ∃ B3, Ex B2 B3 ∧ Ok K B3 G2 H' σ2 ρ2 ∧ Rep K B3 x d) ∧ (ds.length ≤ i → J.stop i H2)
def IC (X : Cx) (Z : Zx) (tg iter : Expr) (ρ : En) (Φ : List D → En → Prop) : Prop := ∀ B G H σ, Ok X.K B G H σ ρ → RC X.K Z B G → ∀ R : It → Hp → Prop,
  (∀ ds ρ' J B' H', Φ ds ρ' → Ex B B' → Ok X.K B' G H' σ ρ' → Walks X.K B' J ds → R J H') → wI X tg iter σ H R
section
variable {X : Cx} {Z : Zx} {tg e a b : Expr} {ρ : En} {Φ : List D → En → Prop} {p pos : Pos}
theorem SqL.uniq {K : PySem.W.Frag} {P : Program} {w : World} {H : Hp} {x : Addr} {xs ys : List V} (h : SqL K H x xs) (hh : ∃ o, H x = some o) (h2 : SqL K H x ys) (hb : ∀ o, K.lookup x = some o → H x = none) : xs = ys := by
  obtain ⟨o, ho⟩ := hh
  rcases h with (h | ⟨o1, h⟩) | ⟨o1, its, n, h, _⟩
  · rcases h2 with (h2 | ⟨o2, h2⟩) | ⟨o2, its2, n2, h2, _⟩
    · rw [h] at h2; cases h2; rfl
    · rw [h] at h2; cases h2
    · rw [hb _ h2] at ho; cases ho
  · rcases h2 with (h2 | ⟨o2, h2⟩) | ⟨o2, its2, n2, h2, _⟩
    · rw [h] at h2; cases h2
    · rw [h] at h2; cases h2; rfl
    · rw [hb _ h2] at ho; cases ho
  · rw [hb _ h] at ho; cases ho
theorem walks_list {K : PySem.W.Frag} {B : Hp} {x : Addr} {xs : List V} {ds : List D} (hq : SqL K B x xs) (r : Reps K B xs ds) : Walks K B (Itl K x) ds := fun i B2 G2 H2 σ2 ρ2 e o => by
  have q2 : SqL K H2 x xs := ex_l o.s.ex (ex_l e hq)
  refine ⟨fun d hd => ?_, fun hl => ⟨xs, q2, by rw [r.length]; exact hl⟩⟩
  obtain ⟨v, hv, rv⟩ := r.get' hd
  exact ⟨⟨xs, v, q2, hv⟩, fun y H' ⟨e1, e2⟩ => by subst e1; have := e2 xs q2; rw [hv] at this; cases this; exact ⟨B2, Ex.refl _, o, rv.up e⟩⟩
theorem walks_tup {K : PySem.W.Frag} {B : Hp} {x : Addr} {xs : List V} {ds : List D} (hq : SqT K B x xs) (r : Reps K B xs ds) : Walks K B (Itt K x) ds := fun i B2 G2 H2 σ2 ρ2 e o => by
  have q2 : SqT K H2 x xs := ex_t o.s.ex (ex_t e hq)
  refine ⟨fun d hd => ?_, fun hl => ⟨xs, q2, by rw [r.length]; exact hl⟩⟩
  obtain ⟨v, hv, rv⟩ := r.get' hd
  exact ⟨⟨xs, v, q2, hv⟩, fun y H' ⟨e1, e2⟩ => by subst e1; have := e2 xs q2; rw [hv] at this; cases this; exact ⟨B2, Ex.refl _, o, rv.up e⟩⟩
theorem ic_list (h : EC X Z e ρ fun d ρ1 => ∃ ds, d = .lst ds ∧ Φ ds ρ1) : IC X Z tg e ρ Φ := fun B G H σ o z R q =>
  (pi_list p_wE).w (h B G H σ o z _ fun d ρ1 v B1 H1 ⟨ds, hd, h1⟩ e1 o1 r1 => by
    subst hd
    cases r1 with
    | lst hq rs => exact ⟨_, rfl, ⟨_, sq_of (o1.s.ex _ _ hq)⟩, q ds ρ1 _ B1 H1 h1 e1 o1 (walks_list (sq_of hq) rs)⟩)
theorem ic_tup (h : EC X Z e ρ fun d ρ1 => ∃ ds, d = .tup ds ∧ Φ ds ρ1) : IC X Z tg e ρ Φ := fun B G H σ o z R q =>
  (pi_tup p_wE).w (h B G H σ o z _ fun d ρ1 v B1 H1 ⟨ds, hd, h1⟩ e1 o1 r1 => by
    subst hd
    cases r1 with
    | tup hq rs => exact ⟨_, rfl, ⟨_, ex_t o1.s.ex (st_of hq)⟩, q ds ρ1 _ B1 H1 h1 e1 o1 (walks_tup (st_of hq) rs)⟩)
/-- 0, 1, .. -/
def rngD (lo : Int) (n : Nat) : List D := (List.range n).map fun (i : Nat) => D.int (lo + (i : Int))
theorem rngD_get {lo : Int} {n i : Nat} {d : D} (h : (rngD lo n)[i]? = some d) : i < n ∧ d = .int (lo + i) := by
  unfold rngD at h
  rw [List.getElem?_map] at h
  cases e : (List.range n)[i]? with
  | none => rw [e] at h; cases h
  | some j =>
    rw [e] at h
    obtain ⟨h1, h2⟩ := List.getElem?_eq_some_iff.mp e
    simp at h1 h2 h
    subst h2
    exact ⟨h1, h.symm⟩
theorem walks_rng {K : PySem.W.Frag} {B : Hp} {lo : Int} {n : Nat} : Walks K B (Itr lo n) (rngD lo n) := fun i B2 G2 H2 σ2 ρ2 e o =>
  ⟨fun d hd => by
    obtain ⟨h1, h2⟩ := rngD_get hd
    subst h2
    exact ⟨h1, fun y H' ⟨e1, e2⟩ => by subst e1; subst e2; exact ⟨B2, Ex.refl _, o, .int _⟩⟩, fun hl => by show n ≤ i; simpa [rngD] using hl⟩
theorem ic_range (h : EC X Z a ρ fun d ρ1 => ∃ n, d = .int n ∧ n < 2 ^ 62 ∧ -(2 ^ 62) ≤ n ∧ Φ (rngD 0 n.toNat) ρ1) (hm : X.mg "range" = none) (hg : Gl X "range" := by rfl) (hs : starEach [a] X.env = [(false, eval a X.env)] := by rfl) (hs' : starEach [a] X.env = (false, eval a X.env) :: starEach [] X.env := by rfl) :
    IC X Z tg (.Call (.Name "range" p) [a] [] pos) ρ Φ := fun B G H σ o z R q =>
  (pi_range1 hg hm (pa_cons p_wE pa_nil hs') hs).w (h B G H σ o z _ fun d ρ1 v B1 H1 ⟨n, hd, l1, l2, h1⟩ e1 o1 r1 => by
    subst hd; cases r1
    exact ⟨n, rfl, l2, l1, q _ ρ1 _ B1 H1 h1 e1 o1 walks_rng⟩)
theorem ic_range2 (h : EC X Z a ρ fun d ρ1 => EC X Z b ρ1 fun d' ρ2 => ∃ m n, d = .int m ∧ d' = .int n ∧ -(2 ^ 62) ≤ m ∧ m < 2 ^ 62 ∧ -(2 ^ 62) ≤ n ∧ n < 2 ^ 62 ∧ Φ (rngD m (n - m).toNat) ρ2) (hm : X.mg "range" = none) (hg : Gl X "range" := by rfl) (hs : starEach [a, b] X.env = [(false, eval a X.env), (false, eval b X.env)] := by rfl)
    (hs2 : starEach [b] X.env = [(false, eval b X.env)] := by rfl) (hs3 : starEach [a, b] X.env = (false, eval a X.env) :: starEach [b] X.env := by rfl) (hs4 : starEach [b] X.env = (false, eval b X.env) :: starEach [] X.env := by rfl) :
    IC X Z tg (.Call (.Name "range" p) [a, b] [] pos) ρ Φ := fun B G H σ o z R q =>
  (pi_range2 hg hm (pa_cons p_wE (pa_cons p_wE pa_nil hs4) hs3) hs hs2).w (h B G H σ o z _ fun d ρ1 v B1 H1 h1 e1 o1 r1 => h1 B1 G H1 σ o1 (z.up e1) _ fun d' ρ2 v' B2 H2 ⟨m, n, hd, hd', l1, l2, l3, l4, h2⟩ e2 o2 r2 => by
    subst hd; subst hd'; cases r1; cases r2
    exact ⟨m, n, rfl, ⟨l1, l2, l3, l4⟩, q _ ρ2 _ B2 H2 h2 (e1.trans e2) o2 walks_rng⟩)
end
/-! ### for, while -/
section
variable {X : Cx} {Z : Zx} {tg iter c : Expr} {body sts : List Stmt} {ρ : En} {O : Outs} {pos : Pos}
theorem sc_for {js : List Nat} (h : IC X Z tg iter ρ fun ds ρ1 => ∃ J : Nat → En → Prop, J 0 ρ1 ∧ (∀ i d ρi, ds[i]? = some d → J i ρi → GT X tg js d ρi fun ρ2 => SC X Z body ρ2 { O with nx := J (i + 1), ct := J (i + 1), bk := fun ρ3 => SC X Z sts ρ3 O }) ∧ ∀ ρ2, J ds.length ρ2 → SC X Z sts ρ2 O)
    (hp : PassesOwn (model X.prog X.w) X.A X.env X.xe) (hc : X.calm = true := by rfl) (hs : ∀ x, foldedSetIterable iter X.env x = pure x := by intro _; rfl) : SC X Z (.For tg iter body [] pos :: sts) ρ O :=
  sc_of (ps_for hp hc p_wI p_wG p_wSs hs) fun B G H σ Dd o z s => h B G H σ o z _ fun ds ρ1 J B1 H1 ⟨W, h0, hs, hd⟩ e1 o1 wk => by
    refine ⟨fun i m σ' H' => m = ds.length - i ∧ i ≤ ds.length ∧ ∃ B' ρ', Ex B1 B' ∧ Ok X.K B' G H' σ' ρ' ∧ W i ρ', ⟨_, rfl, Nat.zero_le _, B1, ρ1, Ex.refl _, o1, h0⟩, ?_⟩
    rintro i m σ' H' ⟨rfl, hi, B', ρ', e', o', w'⟩
    obtain ⟨go, stop⟩ := wk i B' G H' σ' ρ' e' o'
    by_cases hlt : i < ds.length
    · have hget : ds[i]? = some ds[i] := by simp [hlt]
      obtain ⟨g1, g2⟩ := go _ hget
      refine .inr ⟨g1, fun σ2 H2 => ∃ B' ρ', Ex B1 B' ∧ Ok X.K B' G H2 σ2 ρ' ∧ W (i + 1) ρ', fun σ2 H2 q => ⟨ds.length - (i + 1), by omega, rfl, hlt, q⟩, fun x H2 y => ?_⟩
      obtain ⟨B3, e3, o3, r3⟩ := g2 x H2 y
      refine hs i _ ρ' hget w' B3 G H2 σ' x o3 r3 _ fun ρ4 σ4 B4 H4 h4 _ e4 o4 => ?_
      have e04 : Ex B B4 := ((e1.trans e').trans e3).trans e4
      refine h4 B4 G H4 σ4 _ o4 (z.up e04) ⟨fun ρ5 σ5 B5 H5 x e5 o5 => ⟨B5, ρ5, ((e'.trans e3).trans e4).trans e5, o5, x⟩, (s.up e04).rt, fun ρ5 σ5 B5 H5 x e5 o5 => x.go o5 z s (e04.trans e5), fun ρ5 σ5 B5 H5 x e5 o5 => ⟨B5, ρ5, ((e'.trans e3).trans e4).trans e5, o5, x⟩⟩
    · exact .inl ⟨stop (by omega), (hd ρ' (by have : i = ds.length := by omega
                                              rw [← this]; exact w')).go o' z s (e1.trans e')⟩
theorem sc_while (W : Nat → En → Prop) (m0 : Nat) (h0 : W m0 ρ) (hs : ∀ m ρ', W m ρ' → TC X Z c ρ' fun k ρ1 => (k = true → SC X Z body ρ1 { O with nx := fun ρ2 => ∃ m', m' < m ∧ W m' ρ2, ct := fun ρ2 => ∃ m', m' < m ∧ W m' ρ2, bk := fun ρ3 => SC X Z sts ρ3 O }) ∧ (k = false → SC X Z sts ρ1 O))
    (hp : PassesOwn (model X.prog X.w) X.A X.env X.xe) : SC X Z (.While c body [] pos :: sts) ρ O :=
  sc_of (ps_while hp p_wT p_wSs) fun B G H σ Dd o z s => by
    refine ⟨fun m σ' H' => ∃ B' ρ', Ex B B' ∧ Ok X.K B' G H' σ' ρ' ∧ W m ρ', ⟨m0, B, ρ, Ex.refl _, o, h0⟩, ?_⟩
    rintro m σ' H' ⟨B', ρ', e', o', w'⟩
    refine hs m ρ' w' B' G H' σ' o' (z.up e') _ fun k ρ1 B1 H1 ⟨h1, h2⟩ e1 o1 => ?_
    cases k with
    | true =>
      rw [if_pos rfl]
      refine ⟨fun σ2 H2 => ∃ B2 ρ2, Ex B B2 ∧ Ok X.K B2 G H2 σ2 ρ2 ∧ ∃ m', m' < m ∧ W m' ρ2, fun σ2 H2 ⟨B2, ρ2, e2, o2, m', hm, w2⟩ => ⟨m', hm, B2, ρ2, e2, o2, w2⟩, ?_⟩
      have e01 := e'.trans e1
      exact h1 rfl B1 G H1 σ' _ o1 (z.up e01) ⟨fun ρ5 σ5 B5 H5 x e5 o5 => ⟨B5, ρ5, e01.trans e5, o5, x⟩, (s.up e01).rt, fun ρ5 σ5 B5 H5 x e5 o5 => x.go o5 z s (e01.trans e5), fun ρ5 σ5 B5 H5 x e5 o5 => ⟨B5, ρ5, e01.trans e5, o5, x⟩⟩
    | false =>
      rw [if_neg Bool.false_ne_true]
      exact (h2 rfl).go o1 z s (e'.trans e1)
end
end AL
namespace AL
open PySem PySem.Spec PyProof.Rows L2 Evl
/-! ### comprehensions -/
def wipeE (ρ : En) : List Nat → En
  | [] => ρ
  | v :: vs => (wipeE ρ vs).set v none
theorem Ok.wipe {K : PySem.W.Frag} {B G H : Hp} {σ : L2.St} {ρ : En} (o : Ok K B G H σ ρ) : ∀ vs : List Nat, Ok K B G H (L2.wipe σ vs) (wipeE ρ vs)
  | [] => o
  | v :: vs => (o.wipe vs).drop
/-- the frame behind a comprehension: as before, its owned things as they are now -/
def BackE (ρ ρw ρ' : En) : Prop := ρ'.length = ρ.length ∧ (∀ (i : Nat) (d : D), ρ'[i]? = some (some (Sl.im d)) → ρ[i]? = some (some (Sl.im d))) ∧ ∀ (i : Nat) (a : Addr) (o : OO), ρ'[i]? = some (some (Sl.ow a o)) → ρw[i]? = some (some (Sl.ow a o)) ∧ ∃ o0, ρ[i]? = some (some (Sl.ow a o0))
theorem Ok.back {K : PySem.W.Frag} {B B0 G H H0 : Hp} {σ : L2.St} {vs : List Nat} {ρ ρw ρ' : En} (o0 : Ok K B0 G H0 σ ρ) (e : Ex B0 B) (o : Ok K B G H (L2.wipe σ vs) ρw) (h : BackE ρ ρw ρ') : Ok K B G H σ ρ' where
  s := o.s
  len := by rw [o0.len, h.1]
  im := fun i d hd => by obtain ⟨v, h1, h2⟩ := o0.im i d (h.2.1 i d hd); exact ⟨v, h1, h2.up e⟩
  ow := fun i a w hw => by
    obtain ⟨h1, w0, h2⟩ := h.2.2 i a w hw
    obtain ⟨q1, _, _, _⟩ := o0.ow i a w0 h2
    obtain ⟨_, q2, q3, q4⟩ := o.ow i a w h1
    exact ⟨q1, q2, q3, q4⟩
  ne := fun i j a w w' h1 h2 => o.ne i j a w w' (h.2.2 i a w h1).1 (h.2.2 j a w' h2).1
section
variable (X : Cx) (scope : Scope)
/-- X' is a block of X with this scope -/
def Blk (X' : Cx) : Prop := ∃ (s : Shared) (H : Hp) (C : Addr) (cl : List (Str × Addr)) (fp : List Addr), X' = X.blk s H scope (compEnvC scope cl C X.env) fp
end
/-- what holds in every block -/
def AllB (X : Cx) (scope : Scope) (P : Cx → Prop) : Prop := ∀ (s : Shared) (H : Hp) (C : Addr) (cl : List (Str × Addr)) (fp : List Addr), P (X.blk s H scope (compEnvC scope cl C X.env) fp)
section
variable {K : PySem.W.Frag} {B B' G H H' : Hp} {σ : L2.St} {ρ : En} {a : Addr} {u u' : HO}
theorem Ok.hold (o : Ok K B G H σ ρ) (hb : B a = none) (hu : H a = some u) (hn : ∀ (j : Nat) (q : OO), ρ[j]? ≠ some (some (Sl.ow a q))) : Ok K B (upd G a u) H σ ρ where
  s := ⟨o.s.ex, fun b w hw => by
    by_cases z : b = a
    · subst z; rw [upd_same] at hw; rw [hu]; exact hw
    · rw [upd_ne z] at hw; exact o.s.eg b w hw, fun b w hw => by
    by_cases z : b = a
    · subst z; exact hb
    · rw [upd_ne z] at hw; exact o.s.dj b w hw, o.s.tp⟩
  len := o.len
  im := o.im
  ow := fun i b w hw => by
    obtain ⟨q1, q2, q3, q4⟩ := o.ow i b w hw
    exact ⟨q1, q2, by rw [upd_ne (fun z => by subst z; exact hn i w hw)]; exact q3, q4⟩
  ne := o.ne
theorem wipe_wipe {σ : L2.St} {vs : List Nat} : L2.wipe (L2.wipe σ vs) vs = L2.wipe σ vs := Agree.wipe ⟨wipe_length σ vs, fun k hk => wipe_out hk⟩
theorem Ok.letGo (o : Ok K B (upd G a u) H σ ρ) (hg : G a = none) : B a = none ∧ H a = some u ∧ (∀ (j : Nat) (q : OO), ρ[j]? ≠ some (some (Sl.ow a q))) ∧ ∀ u', kn u' = false → Ok K B G (upd H a u') σ ρ := by
  have hb : B a = none := o.s.dj a u upd_same
  have hn : ∀ (j : Nat) (q : OO), ρ[j]? ≠ some (some (Sl.ow a q)) := fun j q hj => by
    obtain ⟨_, _, h3, _⟩ := o.ow j a q hj
    rw [upd_same] at h3; cases h3
  have gk : ∀ b w, G b = some w → upd G a u b = some w := fun b w hw => by rw [upd_ne (ne_of_none hw hg)]; exact hw
  refine ⟨hb, o.s.eg a u upd_same, hn, fun u' nt => ⟨⟨Ex.mut o.s.ex hb, fun b w hw => ?_, fun b w hw => o.s.dj b w (gk b w hw), fun b w hx hk => by
    by_cases z : b = a
    · subst z; rw [upd_same] at hx; cases hx; rw [nt] at hk; cases hk
    · rw [upd_ne z] at hx; exact o.s.tp b w hx hk⟩, o.len, o.im, fun i b w hw => ?_, o.ne⟩⟩
  · rw [upd_ne (ne_of_none hw hg)]
    exact o.s.eg b w (gk b w hw)
  · obtain ⟨q1, q2, q3, y, q4, q5⟩ := o.ow i b w hw
    have n : b ≠ a := fun z => by subst z; exact hn i w hw
    rw [upd_ne n] at q3
    exact ⟨q1, q2, q3, y, by rw [upd_ne n]; exact q4, q5⟩
end
section
variable {X : Cx} {Z : Zx} {elt tg iter tg1 iter1 cnd : Expr} {scope : Scope} {own : List (Str × Nat)} {pos spos py : Pos} {ρ : En} {Φ : OO → En → Prop} {O : Outs} {sts : List Stmt} {y : Str}
/-- a new object, by a wish -/
def FT (X : Cx) (Z : Zx) (t : TE) (ρ : En) (Φ : OO → En → Prop) : Prop := ∀ B G H σ, Ok X.K B G H σ ρ → RC X.K Z B G → ∀ Q : VK,
  (∀ o ρ' a u B' H', Φ o ρ' → Ex B B' → Ok X.K B' G H' σ ρ' → B' a = none → G a = none → H' a = some u → (∀ (j : Nat) (q : OO), ρ'[j]? ≠ some (some (Sl.ow a q))) → RepO X.K B' u o → Q (.ref a) H') → t σ H Q
/-- [elt for tg in iter] -/
theorem fc_lc_te (own : List (Str × Nat)) (js : List Nat) (h : IC X Z tg iter ρ fun ds ρ1 => ∃ (R : Nat → En) (out : Nat → List D) (ρ2 : En), R 0 = wipeE ρ1 (own.map (·.2)) ∧ out 0 = [] ∧ (∀ i, i ≤ ds.length → (out i).length ≤ 50000) ∧
      (∀ i d, ds[i]? = some d → AllB X scope fun X' => GT X' tg js d (R i) fun ρ3 => AllB X scope fun X' => EC X' Z0 elt ρ3 fun y ρ4 => out (i + 1) = out i ++ [y] ∧ wipeE ρ4 (own.map (·.2)) = R (i + 1)) ∧ BackE ρ1 (R ds.length) ρ2 ∧ Φ (.l (out ds.length)) ρ2)
    (hjs : ∀ j ∈ js, j ∈ own.map (·.2)) : FT X Z (tLc (wI X tg iter) (fun v σ H Q => AllB X scope fun X' => wG X' tg v σ H Q) (tYes) (fun σ H Q => AllB X scope fun X' => wE X' elt σ H Q) (own.map (·.2))) ρ Φ := fun B G H σ o z Q q => by
  refine h B G H σ o z _ fun ds ρ1 J B1 H1 ⟨R, out, ρ2, hR, ho, hl, ht, hb, hk⟩ e1 o1 wk => ?_
  intro Dl hD
  obtain ⟨of, hBn, hGn, hnn⟩ := o1.fresh (u := .lst []) hD
  have hB1 : B1 Dl = none := fresh_back o1.s.ex hD
  have ow0 := of.wipe (own.map (·.2))
  rw [← hR] at ow0
  have nwipe : ∀ (vs : List Nat) (j : Nat) (q : OO), (wipeE ρ1 vs)[j]? ≠ some (some (Sl.ow Dl q)) := by
    intro vs
    induction vs with
    | nil => exact hnn
    | cons v vs ih =>
      intro j q hj
      have hj' : ((wipeE ρ1 vs).set v none)[j]? = some (some (Sl.ow Dl q)) := hj
      rw [getq_set] at hj'
      split at hj'
      · simp at hj'
      · split at hj'
        · simp at hj'
        · exact ih j q hj'
  have nwip2 : ∀ (ρ : En), (∀ (j : Nat) (q : OO), ρ[j]? ≠ some (some (Sl.ow Dl q))) → ∀ (vs : List Nat) (j : Nat) (q : OO), (wipeE ρ vs)[j]? ≠ some (some (Sl.ow Dl q)) := by
    intro ρ hnn vs
    induction vs with
    | nil => exact hnn
    | cons v vs ih =>
      intro j q hj
      have hj' : ((wipeE ρ vs).set v none)[j]? = some (some (Sl.ow Dl q)) := hj
      rw [getq_set] at hj'
      split at hj'
      · simp at hj'
      · split at hj'
        · simp at hj'
        · exact ih j q hj'
  refine ⟨fun i m H' => m = ds.length - i ∧ i ≤ ds.length ∧ ∃ B' u, Ex B1 B' ∧ Ok X.K B' G H' (L2.wipe σ (own.map (·.2))) (R i) ∧ B' Dl = none ∧ H' Dl = some (.lst u) ∧ Reps X.K B' u (out i) ∧ ∀ (j : Nat) (q : OO), (R i)[j]? ≠ some (some (Sl.ow Dl q)), ⟨_, rfl, Nat.zero_le _, B1, [], Ex.refl _, ow0, hB1, upd_same, by rw [ho]; exact .nil, by rw [hR]; exact nwipe _⟩, ?_⟩
  rintro i m H' ⟨rfl, hi, B', u, e', o', hb', hu', r', n'⟩
  have oh := o'.hold hb' hu' n'
  by_cases hlt : i < ds.length
  · have hget : ds[i]? = some ds[i] := by simp [hlt]
    obtain ⟨g1, g2⟩ := (wk i B' _ H' _ (R i) e' oh).1 _ hget
    refine .inr ⟨g1, fun H' => ∃ B' u, Ex B1 B' ∧ Ok X.K B' G H' (L2.wipe σ (own.map (·.2))) (R (i + 1)) ∧ B' Dl = none ∧ H' Dl = some (.lst u) ∧ Reps X.K B' u (out (i + 1)) ∧ ∀ (j : Nat) (q : OO), (R (i + 1))[j]? ≠ some (some (Sl.ow Dl q)), fun H' x => ⟨ds.length - (i + 1), by omega, rfl, hlt, x⟩, fun x H2 y => ?_⟩
    obtain ⟨B3, e3, o3, r3⟩ := g2 x H2 y
    intro s H0 C cl fp
    refine ht i _ hget s H0 C cl fp B3 _ H2 _ x o3 r3 _ fun ρ3 σ3 B4 H4 h4 ag e4 o4 => ?_
    have hw : L2.wipe σ3 (own.map (·.2)) = L2.wipe (L2.wipe σ (own.map (·.2))) (own.map (·.2)) := Agree.wipe ⟨ag.1, fun k hk => ag.2 k fun z => hk (hjs k z)⟩
    rw [wipe_wipe] at hw
    refine ⟨hw, ?_⟩
    show (AllB X scope fun X' => wE X' elt σ3 H4 _)
    intro s5 H5 C5 cl5 fp5
    refine h4 s5 H5 C5 cl5 fp5 B4 _ H4 σ3 o4 RC.none _ fun y ρ4 v B5 H5 ⟨hy, hR5⟩ e5 o5 r5 => ?_
    obtain ⟨l1, l2, l3, l4⟩ := o5.letGo (fresh_back o1.s.eg hD)
    have hl5 := hl i hi
    have e35 : Ex B' B5 := (e3.trans e4).trans e5
    refine ⟨u, l2, sz_lt (by rw [r'.length]; omega), B5, u ++ [v], e'.trans e35, ?_, l1, upd_same, by rw [hy]; exact (r'.up e35).app (.cons r5 .nil), fun j w hj => ?_⟩
    · have z5 := (l4 (.lst (u ++ [v])) rfl).wipe (own.map (·.2))
      rw [hw, hR5] at z5
      exact z5
    · rw [← hR5] at hj
      exact nwip2 ρ4 l3 _ j w hj
  · have hii : i = ds.length := by omega
    subst hii
    exact .inl ⟨(wk _ B' G H' _ _ e' o').2 (Nat.le_refl _), q _ ρ2 Dl _ B' H' hk (e1.trans e') (o1.back e' o' hb) hb' (fresh_back o1.s.eg hD) hu' (fun j w hj => n' j w (hb.2.2 j Dl w hj).1) r'⟩
theorem fc_lc (own : List (Str × Nat)) (js : List Nat) (h : IC X Z tg iter ρ fun ds ρ1 => ∃ (R : Nat → En) (out : Nat → List D) (ρ2 : En), R 0 = wipeE ρ1 (own.map (·.2)) ∧ out 0 = [] ∧ (∀ i, i ≤ ds.length → (out i).length ≤ 50000) ∧
      (∀ i d, ds[i]? = some d → AllB X scope fun X' => GT X' tg js d (R i) fun ρ3 => AllB X scope fun X' => EC X' Z0 elt ρ3 fun y ρ4 => out (i + 1) = out i ++ [y] ∧ wipeE ρ4 (own.map (·.2)) = R (i + 1)) ∧ BackE ρ1 (R ds.length) ρ2 ∧ Φ (.l (out ds.length)) ρ2)
    (nd : X.N.Nodup) (hjs : ∀ j ∈ js, j ∈ own.map (·.2)) (ok : BlkOk X.N X.env.scope scope own := by exact blkOk_by (by first | decide +kernel | kernel_rfl)) (hc : X.calm = true := by rfl) (hs : ∀ x, foldedSetIterable iter X.env x = pure x := by intro _; rfl) :
    FC X Z (.ListComp elt [⟨tg, iter, [], 0⟩] scope pos) ρ Φ := fun B G H σ o z Q q => (pe_lc (g := fun v σ H Q => AllB X scope fun X' => wG X' tg v σ H Q) (tt := tYes) (te := fun σ H Q => AllB X scope fun X' => wE X' elt σ H Q) hc nd p_wI ok (fun s H C cl fp => ⟨fun pins s2 σ2 H2 v u Q2 I r h => h s H C cl fp pins s2 u I r⟩) (fun _ _ _ _ _ => pts_nil)
    (fun s H C cl fp => ⟨fun pins s2 σ2 H2 Q2 I h => h s H C cl fp pins s2 I⟩) hs).w (fc_lc_te own js h hjs B G H σ o z Q q)
/-- the same, assigned -/
theorem sc_lc (i : Nat) (own : List (Str × Nat)) (js : List Nat) (h : IC X Z tg iter ρ fun ds ρ1 => ∃ (R : Nat → En) (out : Nat → List D) (ρ2 : En), R 0 = wipeE ρ1 (own.map (·.2)) ∧ out 0 = [] ∧ (∀ i, i ≤ ds.length → (out i).length ≤ 50000) ∧
      (∀ i d, ds[i]? = some d → AllB X scope fun X' => GT X' tg js d (R i) fun ρ3 => AllB X scope fun X' => EC X' Z0 elt ρ3 fun y ρ4 => out (i + 1) = out i ++ [y] ∧ wipeE ρ4 (own.map (·.2)) = R (i + 1)) ∧ BackE ρ1 (R ds.length) ρ2 ∧ ∀ p, SC X Z sts (ρ2.set i (some (.ow p (.l (out ds.length))))) O)
    (nd : X.N.Nodup) (hjs : ∀ j ∈ js, j ∈ own.map (·.2)) (ok : BlkOk X.N X.env.scope scope own := by exact blkOk_by (by first | decide +kernel | kernel_rfl)) (hc : X.calm = true := by rfl) (hs : ∀ x, foldedSetIterable iter X.env x = pure x := by intro _; rfl)
    (hy : X.N[i]? = some y := by rfl) (hyl : X.env.scope.names.lookup y = some .local := by rfl) (hsw : swapsWith (.ListComp elt [⟨tg, iter, [], 0⟩] scope pos) (some (.Name y py)) spos.line X.env = pure true := by rfl) :
    SC X Z (.Assign [.Name y py] (.ListComp elt [⟨tg, iter, [], 0⟩] scope pos) spos :: sts) ρ O :=
  sc_of (ps_setLc (g := fun v σ H Q => AllB X scope fun X' => wG X' tg v σ H Q) (tt := tYes) (te := fun σ H Q => AllB X scope fun X' => wE X' elt σ H Q) hc nd hy hyl hsw p_wI ok (fun s H C cl fp => ⟨fun pins s2 σ2 H2 v u Q2 I r h => h s H C cl fp pins s2 u I r⟩) (fun _ _ _ _ _ => pts_nil)
    (fun s H C cl fp => ⟨fun pins s2 σ2 H2 Q2 I h => h s H C cl fp pins s2 I⟩) hs) fun B G H σ Dd o z sv => fc_lc_te (Φ := fun oo ρ2 => ∀ p, SC X Z sts (ρ2.set i (some (.ow p oo))) O) own js h hjs B G H σ o z _ fun oo ρ1 p u B1 H1 h1 e1 o1 hb hg hu hn r1 => (h1 p).go (o1.set_ow hb hg hu r1 fun j q hj => absurd hj (hn j q)) z sv e1

/-- [elt for tg in iter if cnd] -/
theorem fc_lcIf_te (own : List (Str × Nat)) (js : List Nat) (h : IC X Z tg iter ρ fun ds ρ1 => ∃ (R : Nat → En) (out : Nat → List D) (ρ2 : En), R 0 = wipeE ρ1 (own.map (·.2)) ∧ out 0 = [] ∧ (∀ i, i ≤ ds.length → (out i).length ≤ 50000) ∧
      (∀ i d, ds[i]? = some d → AllB X scope fun X' => GT X' tg js d (R i) fun ρ3 => AllB X scope fun X' => TC X' Z0 cnd ρ3 fun k ρ5 => (k = true → AllB X scope fun X' => EC X' Z0 elt ρ5 fun y ρ4 => out (i + 1) = out i ++ [y] ∧ wipeE ρ4 (own.map (·.2)) = R (i + 1)) ∧ (k = false → out (i + 1) = out i ∧ wipeE ρ5 (own.map (·.2)) = R (i + 1))) ∧ BackE ρ1 (R ds.length) ρ2 ∧ Φ (.l (out ds.length)) ρ2)
    (hjs : ∀ j ∈ js, j ∈ own.map (·.2)) : FT X Z (tLc (wI X tg iter) (fun v σ H Q => AllB X scope fun X' => wG X' tg v σ H Q) (fun σ H Q => AllB X scope fun X' => wT X' cnd σ H Q) (fun σ H Q => AllB X scope fun X' => wE X' elt σ H Q) (own.map (·.2))) ρ Φ := fun B G H σ o z Q q => by
  refine h B G H σ o z _ fun ds ρ1 J B1 H1 ⟨R, out, ρ2, hR, ho, hl, ht, hb, hk⟩ e1 o1 wk => ?_
  intro Dl hD
  obtain ⟨of, hBn, hGn, hnn⟩ := o1.fresh (u := .lst []) hD
  have hB1 : B1 Dl = none := fresh_back o1.s.ex hD
  have ow0 := of.wipe (own.map (·.2))
  rw [← hR] at ow0
  have nwipe : ∀ (vs : List Nat) (j : Nat) (q : OO), (wipeE ρ1 vs)[j]? ≠ some (some (Sl.ow Dl q)) := by
    intro vs
    induction vs with
    | nil => exact hnn
    | cons v vs ih =>
      intro j q hj
      have hj' : ((wipeE ρ1 vs).set v none)[j]? = some (some (Sl.ow Dl q)) := hj
      rw [getq_set] at hj'
      split at hj'
      · simp at hj'
      · split at hj'
        · simp at hj'
        · exact ih j q hj'
  have nwip2 : ∀ (ρ : En), (∀ (j : Nat) (q : OO), ρ[j]? ≠ some (some (Sl.ow Dl q))) → ∀ (vs : List Nat) (j : Nat) (q : OO), (wipeE ρ vs)[j]? ≠ some (some (Sl.ow Dl q)) := by
    intro ρ hnn vs
    induction vs with
    | nil => exact hnn
    | cons v vs ih =>
      intro j q hj
      have hj' : ((wipeE ρ vs).set v none)[j]? = some (some (Sl.ow Dl q)) := hj
      rw [getq_set] at hj'
      split at hj'
      · simp at hj'
      · split at hj'
        · simp at hj'
        · exact ih j q hj'
  refine ⟨fun i m H' => m = ds.length - i ∧ i ≤ ds.length ∧ ∃ B' u, Ex B1 B' ∧ Ok X.K B' G H' (L2.wipe σ (own.map (·.2))) (R i) ∧ B' Dl = none ∧ H' Dl = some (.lst u) ∧ Reps X.K B' u (out i) ∧ ∀ (j : Nat) (q : OO), (R i)[j]? ≠ some (some (Sl.ow Dl q)), ⟨_, rfl, Nat.zero_le _, B1, [], Ex.refl _, ow0, hB1, upd_same, by rw [ho]; exact .nil, by rw [hR]; exact nwipe _⟩, ?_⟩
  rintro i m H' ⟨rfl, hi, B', u, e', o', hb', hu', r', n'⟩
  have oh := o'.hold hb' hu' n'
  by_cases hlt : i < ds.length
  · have hget : ds[i]? = some ds[i] := by simp [hlt]
    obtain ⟨g1, g2⟩ := (wk i B' _ H' _ (R i) e' oh).1 _ hget
    refine .inr ⟨g1, fun H' => ∃ B' u, Ex B1 B' ∧ Ok X.K B' G H' (L2.wipe σ (own.map (·.2))) (R (i + 1)) ∧ B' Dl = none ∧ H' Dl = some (.lst u) ∧ Reps X.K B' u (out (i + 1)) ∧ ∀ (j : Nat) (q : OO), (R (i + 1))[j]? ≠ some (some (Sl.ow Dl q)), fun H' x => ⟨ds.length - (i + 1), by omega, rfl, hlt, x⟩, fun x H2 y => ?_⟩
    obtain ⟨B3, e3, o3, r3⟩ := g2 x H2 y
    intro s H0 C cl fp
    refine ht i _ hget s H0 C cl fp B3 _ H2 _ x o3 r3 _ fun ρ3 σ3 B4 H4 h4 ag e4 o4 => ?_
    have hw : L2.wipe σ3 (own.map (·.2)) = L2.wipe (L2.wipe σ (own.map (·.2))) (own.map (·.2)) := Agree.wipe ⟨ag.1, fun k hk => ag.2 k fun z => hk (hjs k z)⟩
    rw [wipe_wipe] at hw
    refine ⟨hw, ?_⟩
    show (AllB X scope fun X' => wT X' cnd σ3 H4 _)
    intro s5 H5 C5 cl5 fp5
    refine h4 s5 H5 C5 cl5 fp5 B4 _ H4 σ3 o4 RC.none _ fun k ρ6 B6 H6 ⟨hk1, hk2⟩ e6 o6 => ?_
    cases k with
    | true =>
      rw [if_pos rfl]
      show (AllB X scope fun X' => wE X' elt σ3 H6 _)
      intro s5 H5 C5 cl5 fp5
      refine hk1 rfl s5 H5 C5 cl5 fp5 B6 _ H6 σ3 o6 RC.none _ fun y ρ4 v B5 H5 ⟨hy, hR5⟩ e5 o5 r5 => ?_
      obtain ⟨l1, l2, l3, l4⟩ := o5.letGo (fresh_back o1.s.eg hD)
      have hl5 := hl i hi
      have e35 : Ex B' B5 := ((e3.trans e4).trans e6).trans e5
      refine ⟨u, l2, sz_lt (by rw [r'.length]; omega), B5, u ++ [v], e'.trans e35, ?_, l1, upd_same, by rw [hy]; exact (r'.up e35).app (.cons r5 .nil), fun j w hj => ?_⟩
      · have z5 := (l4 (.lst (u ++ [v])) rfl).wipe (own.map (·.2))
        rw [hw, hR5] at z5
        exact z5
      · rw [← hR5] at hj
        exact nwip2 ρ4 l3 _ j w hj
    | false =>
      rw [if_neg Bool.false_ne_true]
      obtain ⟨hy, hR5⟩ := hk2 rfl
      obtain ⟨l1, l2, l3, l4⟩ := o6.letGo (fresh_back o1.s.eg hD)
      have e36 : Ex B' B6 := (e3.trans e4).trans e6
      refine ⟨B6, u, e'.trans e36, ?_, l1, l2, by rw [hy]; exact r'.up e36, fun j w hj => ?_⟩
      · have z5 := (l4 (.lst u) rfl).wipe (own.map (·.2))
        rw [hw, hR5] at z5
        have eu : upd H6 Dl (.lst u) = H6 := by
          funext b
          by_cases hb : b = Dl
          · subst hb; rw [upd_same, l2]
          · rw [upd_ne hb]
        rw [eu] at z5
        exact z5
      · rw [← hR5] at hj
        exact nwip2 ρ6 l3 _ j w hj
  · have hii : i = ds.length := by omega
    subst hii
    exact .inl ⟨(wk _ B' G H' _ _ e' o').2 (Nat.le_refl _), q _ ρ2 Dl _ B' H' hk (e1.trans e') (o1.back e' o' hb) hb' (fresh_back o1.s.eg hD) hu' (fun j w hj => n' j w (hb.2.2 j Dl w hj).1) r'⟩
theorem fc_lcIf (own : List (Str × Nat)) (js : List Nat) (h : IC X Z tg iter ρ fun ds ρ1 => ∃ (R : Nat → En) (out : Nat → List D) (ρ2 : En), R 0 = wipeE ρ1 (own.map (·.2)) ∧ out 0 = [] ∧ (∀ i, i ≤ ds.length → (out i).length ≤ 50000) ∧
      (∀ i d, ds[i]? = some d → AllB X scope fun X' => GT X' tg js d (R i) fun ρ3 => AllB X scope fun X' => TC X' Z0 cnd ρ3 fun k ρ5 => (k = true → AllB X scope fun X' => EC X' Z0 elt ρ5 fun y ρ4 => out (i + 1) = out i ++ [y] ∧ wipeE ρ4 (own.map (·.2)) = R (i + 1)) ∧ (k = false → out (i + 1) = out i ∧ wipeE ρ5 (own.map (·.2)) = R (i + 1))) ∧ BackE ρ1 (R ds.length) ρ2 ∧ Φ (.l (out ds.length)) ρ2)
    (nd : X.N.Nodup) (hjs : ∀ j ∈ js, j ∈ own.map (·.2)) (ok : BlkOk X.N X.env.scope scope own := by exact blkOk_by (by first | decide +kernel | kernel_rfl)) (hc : X.calm = true := by rfl) (hs : ∀ x, foldedSetIterable iter X.env x = pure x := by intro _; rfl) :
    FC X Z (.ListComp elt [⟨tg, iter, [cnd], 0⟩] scope pos) ρ Φ := fun B G H σ o z Q q => (pe_lc (g := fun v σ H Q => AllB X scope fun X' => wG X' tg v σ H Q) (tt := fun σ H Q => AllB X scope fun X' => wT X' cnd σ H Q) (te := fun σ H Q => AllB X scope fun X' => wE X' elt σ H Q) hc nd p_wI ok (fun s H C cl fp => ⟨fun pins s2 σ2 H2 v u Q2 I r h => h s H C cl fp pins s2 u I r⟩) (fun s H C cl fp => pts_one ⟨fun pins s2 σ2 H2 Q2 I h => h s H C cl fp pins s2 I⟩)
    (fun s H C cl fp => ⟨fun pins s2 σ2 H2 Q2 I h => h s H C cl fp pins s2 I⟩) hs).w (fc_lcIf_te own js h hjs B G H σ o z Q q)
/-- the same, assigned -/
theorem sc_lcIf (i : Nat) (own : List (Str × Nat)) (js : List Nat) (h : IC X Z tg iter ρ fun ds ρ1 => ∃ (R : Nat → En) (out : Nat → List D) (ρ2 : En), R 0 = wipeE ρ1 (own.map (·.2)) ∧ out 0 = [] ∧ (∀ i, i ≤ ds.length → (out i).length ≤ 50000) ∧
      (∀ i d, ds[i]? = some d → AllB X scope fun X' => GT X' tg js d (R i) fun ρ3 => AllB X scope fun X' => TC X' Z0 cnd ρ3 fun k ρ5 => (k = true → AllB X scope fun X' => EC X' Z0 elt ρ5 fun y ρ4 => out (i + 1) = out i ++ [y] ∧ wipeE ρ4 (own.map (·.2)) = R (i + 1)) ∧ (k = false → out (i + 1) = out i ∧ wipeE ρ5 (own.map (·.2)) = R (i + 1))) ∧ BackE ρ1 (R ds.length) ρ2 ∧ ∀ p, SC X Z sts (ρ2.set i (some (.ow p (.l (out ds.length))))) O)
    (nd : X.N.Nodup) (hjs : ∀ j ∈ js, j ∈ own.map (·.2)) (ok : BlkOk X.N X.env.scope scope own := by exact blkOk_by (by first | decide +kernel | kernel_rfl)) (hc : X.calm = true := by rfl) (hs : ∀ x, foldedSetIterable iter X.env x = pure x := by intro _; rfl)
    (hy : X.N[i]? = some y := by rfl) (hyl : X.env.scope.names.lookup y = some .local := by rfl) (hsw : swapsWith (.ListComp elt [⟨tg, iter, [cnd], 0⟩] scope pos) (some (.Name y py)) spos.line X.env = pure true := by rfl) :
    SC X Z (.Assign [.Name y py] (.ListComp elt [⟨tg, iter, [cnd], 0⟩] scope pos) spos :: sts) ρ O :=
  sc_of (ps_setLc (g := fun v σ H Q => AllB X scope fun X' => wG X' tg v σ H Q) (tt := fun σ H Q => AllB X scope fun X' => wT X' cnd σ H Q) (te := fun σ H Q => AllB X scope fun X' => wE X' elt σ H Q) hc nd hy hyl hsw p_wI ok (fun s H C cl fp => ⟨fun pins s2 σ2 H2 v u Q2 I r h => h s H C cl fp pins s2 u I r⟩) (fun s H C cl fp => pts_one ⟨fun pins s2 σ2 H2 Q2 I h => h s H C cl fp pins s2 I⟩)
    (fun s H C cl fp => ⟨fun pins s2 σ2 H2 Q2 I h => h s H C cl fp pins s2 I⟩) hs) fun B G H σ Dd o z sv => fc_lcIf_te (Φ := fun oo ρ2 => ∀ p, SC X Z sts (ρ2.set i (some (.ow p oo))) O) own js h hjs B G H σ o z _ fun oo ρ1 p u B1 H1 h1 e1 o1 hb hg hu hn r1 => (h1 p).go (o1.set_ow hb hg hu r1 fun j q hj => absurd hj (hn j q)) z sv e1

end
end AL
namespace AL
open PySem PySem.Spec PyProof.Rows L2 Evl
/-! ### promises of defs -/
inductive Oc where
  | ret (r : Rs) (as : List Sl) | raise (C : Addr) (fs : List (Str × D))
/-- a promise: of the arguments and what is wanted of the outcome -/
abbrev Pr := List Sl → (Oc → Prop) → Prop
/-- owned arguments stay at their addresses -/
inductive SameSl : List Sl → List Sl → Prop where
  | nil : SameSl [] []
  | im {d : D} {as bs : List Sl} : SameSl as bs → SameSl (.im d :: as) (.im d :: bs)
  | ow {a : Addr} {o o' : OO} {as bs : List Sl} : SameSl as bs → SameSl (.ow a o :: as) (.ow a o' :: bs)
theorem SameSl.length : ∀ {as bs : List Sl}, SameSl as bs → as.length = bs.length
  | _, _, .nil => rfl
  | _, _, .im h => by simp [h.length]
  | _, _, .ow h => by simp [h.length]
theorem SameSl.refl : ∀ as : List Sl, SameSl as as
  | [] => .nil
  | .im d :: as => .im (.refl as)
  | .ow a o :: as => .ow (.refl as)
theorem SameSl.im' : ∀ {as bs : List Sl} {i : Nat} {d : D}, SameSl as bs → bs[i]? = some (.im d) → as[i]? = some (.im d)
  | _, _, i, d, .nil, h => by simp at h
  | _, _, 0, d, .im h, e => by simpa using e
  | _, _, i + 1, d, .im h, e => by simpa using h.im' (i := i) (by simpa using e)
  | _, _, 0, d, .ow h, e => by simp at e
  | _, _, i + 1, d, .ow h, e => by simpa using h.im' (i := i) (by simpa using e)
theorem SameSl.ow' : ∀ {as bs : List Sl} {i : Nat} {a : Addr} {o : OO}, SameSl as bs → bs[i]? = some (.ow a o) → ∃ o', as[i]? = some (.ow a o')
  | _, _, i, a, o, .nil, h => by simp at h
  | _, _, 0, a, o, .im h, e => by simp at e
  | _, _, i + 1, a, o, .im h, e => by simpa using h.ow' (i := i) (by simpa using e)
  | _, _, 0, a, o, .ow (o := o') h, e => by simp at e; exact ⟨o', by simp [e.1]⟩
  | _, _, i + 1, a, o, .ow h, e => by simpa using h.ow' (i := i) (by simpa using e)
def OcOk (K : PySem.W.Frag) (B G : Hp) (vs : List V) (Q : VK) (E : XK) : Oc → Prop
  | .ret r as' => ∀ v B' H', Ex B B' → Ok K B' G H' (vs.map some) (as'.map some) → RsR K B' G H' (as'.map some) v r → Q v H'
  | .raise C fs => ∀ dd B' H', Ex B B' → St3 B' G H' → ErR K B' H' fs dd → E (.ref C) dd H'
def Csp (K : PySem.W.Frag) (P : Pr) : Sp := fun vs H Q E => ∃ B G as, Ok K B G H (vs.map some) (as.map some) ∧ P as (OcOk K B G vs Q E)
/-- the ends of a body that serve a wish about outcomes -/
def OutsOf (as : List Sl) (Φ : Oc → Prop) : Outs where
  nx := fun ρ' => ∃ as', SameSl as as' ∧ Φ (.ret (.im .non) as') ∧ ∀ (i : Nat) (a : Addr) (o : OO), as'[i]? = some (Sl.ow a o) → ρ'[i]? = some (some (Sl.ow a o))
  rt := fun r ρ' => ∃ as', SameSl as as' ∧ Φ (.ret r as') ∧ ∀ (i : Nat) (a : Addr) (o : OO), as'[i]? = some (Sl.ow a o) → ρ'[i]? = some (some (Sl.ow a o))
def startE (n : Nat) (as : List Sl) : En := as.map some ++ List.replicate (n - as.length) none
section
variable {K : PySem.W.Frag} {B B' B0 G H H' H0 : Hp} {σ : L2.St} {ρ : En} {vs : List V} {as as' : List Sl}
theorem mapq {α : Type} {l : List α} {i : Nat} {x : α} : (l.map some)[i]? = some (some x) ↔ l[i]? = some x := by
  rw [List.getElem?_map]
  cases l[i]? <;> simp
theorem Ok.pad (o : Ok K B G H (vs.map some) (as.map some)) (N : List Str) : Ok K B G H (start N vs) (startE N.length as) := by
  have hl : vs.length = as.length := by have := o.len; simpa using this
  have key : ∀ {α : Type} (l : List α) (m i : Nat) (x : α), (l.map some ++ List.replicate m (none : Option α))[i]? = some (some x) → (l.map some)[i]? = some (some x) := fun l m i x h => by
    rw [List.getElem?_append] at h
    split at h
    · exact h
    · simp [List.getElem?_replicate] at h
  have key2 : ∀ {α : Type} (l : List α) (m i : Nat) (x : α), (l.map some)[i]? = some (some x) → (l.map some ++ List.replicate m (none : Option α))[i]? = some (some x) := fun l m i x h => by
    rw [List.getElem?_append_left (by exact (List.getElem?_eq_some_iff.mp h).1)]
    exact h
  exact ⟨o.s, by simp [L2.start, startE, hl], fun i d hd => by
    obtain ⟨v, h1, h2⟩ := o.im i d (key _ _ _ _ hd)
    exact ⟨v, key2 _ _ _ _ h1, h2⟩, fun i a w hw => by
    obtain ⟨q1, q2⟩ := o.ow i a w (key _ _ _ _ hw)
    exact ⟨key2 _ _ _ _ q1, q2⟩, fun i j a w w' h1 h2 => o.ne i j a w w' (key _ _ _ _ h1) (key _ _ _ _ h2)⟩
/-- the arguments behind a body -/
theorem Ok.args (o0 : Ok K B0 G H0 (vs.map some) (as.map some)) (ss : SameSl as as') (e : Ex B0 B') (o : Ok K B' G H' σ ρ) (h : ∀ (i : Nat) (a : Addr) (w : OO), as'[i]? = some (Sl.ow a w) → ρ[i]? = some (some (Sl.ow a w))) : Ok K B' G H' (vs.map some) (as'.map some) where
  s := o.s
  len := by have := o0.len; simp at this ⊢; rw [this, ss.length]
  im := fun i d hd => by
    obtain ⟨v, h1, h2⟩ := o0.im i d (mapq.mpr (ss.im' (mapq.mp hd)))
    exact ⟨v, h1, h2.up e⟩
  ow := fun i a w hw => by
    obtain ⟨w0, h0⟩ := ss.ow' (mapq.mp hw)
    obtain ⟨q1, _, _, _⟩ := o0.ow i a w0 (mapq.mpr h0)
    obtain ⟨_, q2, q3, q4⟩ := o.ow i a w (h i a w (mapq.mp hw))
    exact ⟨q1, q2, q3, q4⟩
  ne := fun i j a w w' h1 h2 => o.ne i j a w w' (h i a w (mapq.mp h1)) (h j a w' (mapq.mp h2))
end
section
variable {P : Program} {w : World} {K : PySem.W.Frag} {mg : Str → Option Value} {base : Heap} {x qual : Str} {params : Arguments} {body : List Stmt} {scope : Scope} {dvs : List V} {kws : List (Str × V)} {f : Addr} {fd : FuncData} {N ps : List Str} {k : Nat} {Pd : Pr}
abbrev bodyX (P : Program) (w : World) (K : PySem.W.Frag) (mg : Str → Option Value) (base : Heap) (N : List Str) (qual : Str) (scope : Scope) (f : Addr) (cdv : Value) (A : Around) (outer : List Env) (s : Shared) (H : Hp) (E : XK) : Cx := cxOf (L2.CX P w) P w K mg base N qual scope f cdv A outer s H E
theorem def_ok (F : FunD K x qual params body scope dvs kws f fd) (S : FnScope N ps scope) (hlen : ∀ as Φ, Pd as Φ → as.length = ps.length)
    (h : ∀ cdv A outer s H E, Room k (bodyX P w K mg base N qual scope f cdv A outer s H E).A → Takes (bodyX P w K mg base N qual scope f cdv A outer s H E) (fun cls d _ H' => E cls d H') → ∀ as Φ, Pd as Φ →
      SC (bodyX P w K mg base N qual scope f cdv A outer s H E) (Zf E fun C fs => Φ (.raise C fs)) body (startE N.length as) (OutsOf as Φ)) : FnOk P w K mg base (L2.CX P w) (k + 1) f fd ps (Csp K Pd) := by
  refine F.ok S (fun vs H Q E ⟨B, G, as, o, hp⟩ => ?_) fun cdv A outer s H vs Q E hr ⟨B, G, as, o, hp⟩ => ?_
  · have := o.len
    simp at this
    rw [this]; exact hlen as _ hp
  · refine ⟨wSs _ body, p_wSs, ?_⟩
    refine h cdv A outer s H E hr (takes_of rfl rfl rfl rfl) as _ hp B G H _ _ (o.pad N) ?_ ?_
    · intro C fs dd B' H' σ' ρ' hoc e o3 er
      exact hoc dd B' H' e o3.s er
    · have hrt : ∀ r ρ' v σ' B' H', (OutsOf as (OcOk K B G vs Q E)).rt r ρ' → Ex B B' → Ok K B' G H' σ' ρ' → RsR K B' G H' ρ' v r → Q v H' := by
        intro r ρ' v σ' B' H' ⟨as', hs, hoc, hrow⟩ e o' hv
        refine hoc v B' H' e (o.args hs e o' hrow) ?_
        cases r with
        | im d => exact hv
        | fr oo =>
          obtain ⟨a, u, h1, h2, h3, h4, h5, h6⟩ := hv
          exact ⟨a, u, h1, h2, h3, h4, fun j q hj => h5 j q (hrow j a q (mapq.mp hj)), h6⟩
      exact ⟨fun ρ' σ' B' H' hn e o' => hrt (.im .non) ρ' .non σ' B' H' hn e o' .non, hrt, fun _ _ _ _ hb => hb.elim, fun _ _ _ _ hb => hb.elim⟩
end
/-! ### calls -/
structure Cal (P : Program) (w : World) (K : PySem.W.Frag) (mg : Str → Option Value) (base : Heap) (x : Str) (k : Nat) (Pd : Pr) : Prop where
  ex : ∃ f fd ps, FnOk P w K mg base (L2.CX P w) k f fd ps (Csp K Pd) ∧ mg x = some (.ref f) ∧ PySem.W.keepIn K (.ref f) = true ∧ Binds K fd ps []
section
variable {X : Cx} {Z : Zx} {e : Expr} {es : List Expr} {ρ : En} {Φ : D → En → Prop} {Θ : OO → En → Prop} {p pos : Pos} {x : Str} {k : Nat} {Pd : Pr}
/-- behind a call: the frame of a callee that was handed data alone -/
def rest (B H : Hp) (p : Option Addr) : Hp := fun a => if some a = p then none else if (B a).isSome then none else H a
theorem Ok.call {K : PySem.W.Frag} {B G H : Hp} {σ : L2.St} (o : Ok K B G H σ ρ) {vs : List V} {ds : List D} (r : Reps K B vs ds) : Ok K B (rest B H none) H (vs.map some) ((ds.map Sl.im).map some) where
  s := ⟨o.s.ex, fun b w hw => by
    unfold rest at hw
    rw [if_neg (by simp)] at hw
    split at hw
    · cases hw
    · exact hw, fun b w hw => by
    unfold rest at hw
    rw [if_neg (by simp)] at hw
    split at hw
    · cases hw
    · rename_i hb
      simpa using hb, o.s.tp⟩
  len := by simp [r.length]
  im := fun i d hd => by
    have hd' := mapq.mp hd
    rw [List.getElem?_map] at hd'
    cases e : ds[i]? with
    | none => rw [e] at hd'; cases hd'
    | some d' =>
      rw [e] at hd'
      simp at hd'
      subst hd'
      obtain ⟨v, h1, h2⟩ := r.get' e
      exact ⟨v, mapq.mpr h1, h2⟩
  ow := fun i a w hw => by
    have hd' := mapq.mp hw
    rw [List.getElem?_map] at hd'
    cases e : ds[i]? <;> rw [e] at hd' <;> simp at hd'
  ne := fun i j a w w' h1 h2 => by
    have hd' := mapq.mp h1
    rw [List.getElem?_map] at hd'
    cases e : ds[i]? <;> rw [e] at hd' <;> simp at hd'
theorem Ok.behind {K : PySem.W.Frag} {B B' G H H' : Hp} {σ σ' : L2.St} {ρ' : En} (o : Ok K B G H σ ρ) (e : Ex B B') (o' : St3 B' (rest B H none) H') : Ok K B' G H' σ ρ := by
  have old : ∀ b w, H b = some w → B b = none → H' b = some w ∧ B' b = none := fun b w hw hb => by
    have h1 : rest B H none b = some w := by unfold rest; rw [if_neg (by simp), if_neg (by simp [hb])]; exact hw
    exact ⟨o'.eg b w h1, o'.dj b w h1⟩
  refine ⟨⟨o'.ex, fun b w hw => (old b w (o.s.eg b w hw) (o.s.dj b w hw)).1, fun b w hw => (old b w (o.s.eg b w hw) (o.s.dj b w hw)).2, o'.tp⟩, o.len, fun i d hd => ?_, fun i a w hw => ?_, o.ne⟩
  · obtain ⟨v, h1, h2⟩ := o.im i d hd
    exact ⟨v, h1, h2.up e⟩
  · obtain ⟨q1, q2, q3, u, q4, q5⟩ := o.ow i a w hw
    obtain ⟨h1, h2⟩ := old a u q4 q2
    exact ⟨q1, h2, q3, u, h1, q5.up e⟩
/-- what a caller wants of an outcome, all arguments data -/
def WantD (Z : Zx) (as : List Sl) (ρ1 : En) (Φ : D → En → Prop) : Oc → Prop
  | .ret (.im d) as' => as' = as ∧ Φ d ρ1
  | .ret (.fr (.l ds')) as' => as' = as ∧ Φ (.lst ds') ρ1
  | .ret _ _ => False
  | .raise C fs => Z.R C fs ρ1
def Mono (P : Pr) : Prop := ∀ as Φ Φ', (∀ oc, Φ oc → Φ' oc) → P as Φ → P as Φ'
theorem want_ok {K : PySem.W.Frag} {B B1 G H1 : Hp} {σ : L2.St} {ρ1 : En} {as : List Sl} {vs : List V} {Q : VK} (o1 : Ok K B1 G H1 σ ρ1) (e1 : Ex B B1) (z : RC K Z B G)
    (q : ∀ d ρ' v B' H', Φ d ρ' → Ex B B' → Ok K B' G H' σ ρ' → Rep K B' v d → Q v H') : ∀ oc, WantD Z as ρ1 Φ oc → OcOk K B1 (rest B1 H1 none) vs Q (fun c d H => Z.E c d σ H) oc := by
  intro oc hoc
  match oc, hoc with
  | .ret (.im d) as', ⟨ha, hΦ⟩ =>
    subst ha
    intro v B' H' e2 o2 rv
    exact q d ρ1 v B' H' hΦ (e1.trans e2) (o1.behind (σ' := σ) (ρ' := ρ1) e2 o2.s) rv
  | .ret (.fr (.l ds')) as', ⟨ha, hΦ⟩ =>
    subst ha
    intro v B' H' e2 o2 rv
    obtain ⟨a, u, rfl, h2, h3, h4, h5, h6⟩ := rv
    have o3 := o1.behind (σ' := σ) (ρ' := ρ1) e2 o2.s
    have hH1 : H1 a = none := by
      cases eh : H1 a with
      | none => rfl
      | some w =>
        have hb1 : B1 a = none := fresh_back e2 h2
        have : rest B1 H1 none a = some w := by unfold rest; rw [if_neg (by simp), if_neg (by simp [hb1])]; exact eh
        rw [this] at h3; cases h3
    obtain ⟨e3, o4⟩ := o3.know h2 (fresh_back o1.s.eg hH1) h4 (fun j w hj => by
      obtain ⟨_, _, _, y, hy, _⟩ := o1.ow j a w hj
      rw [hH1] at hy; cases hy)
    cases u with
    | lst ws => exact q _ ρ1 _ _ H' hΦ ((e1.trans e2).trans e3) o4 (.lst upd_same (Reps.up h6 e3))
    | _ => exact False.elim h6
  | .raise C fs, hR =>
    intro dd B' H' e2 s3 er
    have o3 := o1.behind (σ' := σ) (ρ' := ρ1) e2 s3
    exact z C fs dd B' H' σ ρ1 hR (e1.trans e2) o3 er
/-- f(e, ..), all arguments data; what it gives is a datum, or it raises -/
theorem ec_call (c : Cal X.prog X.w X.K X.mg X.base x k Pd) (hr : Room k X.A) (hx : PassW X Z) (mo : Mono Pd)
    (h : AC X Z (e :: es) ρ fun ds ρ1 => Pd (ds.map Sl.im) (WantD Z (ds.map Sl.im) ρ1 Φ))
    (hg : Gl X x := by rfl) (hdb : (x == ("__debug__" : Str)) = false := by decide) (he : starEach (e :: es) X.env = (false, eval e X.env) :: starEach es X.env := by rfl) (hpl : (backTo pos (starEach es X.env)).any (·.1) = false := by rfl) : EC X Z (.Call (.Name x p) (e :: es) [] pos) ρ Φ := fun B G H σ o z Q q => by
  obtain ⟨f, fd, ps, F, hm, kp, bd⟩ := c.ex
  refine (pe_callS (E := fun σ c d H => Z.E c d σ H) F hr hg hm kp bd hx p_wA hdb he hpl).w (h B G H σ o z _ fun ds ρ1 vs B1 H1 hk e1 o1 r1 => ?_)
  exact ⟨B1, rest B1 H1 none, ds.map Sl.im, o1.call r1, mo _ _ _ (want_ok o1 e1 z q) hk⟩
end
end AL
namespace AL
open PySem PySem.Spec PyProof.Rows L2 Evl
/-! ### promises in short: data in, a datum out (or an error of the package) -/
abbrev Er := Addr → List (Str × D) → Prop
def PFn (n : Nat) (S : List D → (D → Prop) → Prop) : Pr := fun as Φ => ∃ ds, as = ds.map Sl.im ∧ ds.length = n ∧ S ds fun d => Φ (.ret (.im d) as)
def PFx (n : Nat) (S : List D → (D → Prop) → Er → Prop) : Pr := fun as Φ => ∃ ds, as = ds.map Sl.im ∧ ds.length = n ∧ S ds (fun d => Φ (.ret (.im d) as)) fun C fs => Φ (.raise C fs)
def MonoF (S : List D → (D → Prop) → Prop) : Prop := ∀ ds Φ Φ', (∀ d, Φ d → Φ' d) → S ds Φ → S ds Φ'
def MonoX (S : List D → (D → Prop) → Er → Prop) : Prop := ∀ ds Φ Φ' Ψ Ψ', (∀ d, Φ d → Φ' d) → (∀ C fs, Ψ C fs → Ψ' C fs) → S ds Φ Ψ → S ds Φ' Ψ'
theorem PFn.len {n : Nat} {S : List D → (D → Prop) → Prop} {ps : List Str} (h : ps.length = n) : ∀ as Φ, PFn n S as Φ → as.length = ps.length := fun as Φ ⟨ds, h1, h2, _⟩ => by rw [h1, h, ← h2]; simp
theorem PFx.len {n : Nat} {S : List D → (D → Prop) → Er → Prop} {ps : List Str} (h : ps.length = n) : ∀ as Φ, PFx n S as Φ → as.length = ps.length := fun as Φ ⟨ds, h1, h2, _⟩ => by rw [h1, h, ← h2]; simp
theorem PFn.mono {n : Nat} {S : List D → (D → Prop) → Prop} (m : MonoF S) : Mono (PFn n S) := fun as Φ Φ' h ⟨ds, h1, h2, h3⟩ => ⟨ds, h1, h2, m _ _ _ (fun d x => h _ x) h3⟩
theorem PFx.mono {n : Nat} {S : List D → (D → Prop) → Er → Prop} (m : MonoX S) : Mono (PFx n S) := fun as Φ Φ' h ⟨ds, h1, h2, h3⟩ => ⟨ds, h1, h2, m _ _ _ _ _ (fun d x => h _ x) (fun C fs x => h _ x) h3⟩
def envD (n : Nat) (ds : List D) : En := (ds.map fun d => some (Sl.im d)) ++ List.replicate (n - ds.length) none
theorem startE_im (n : Nat) (ds : List D) : startE n (ds.map Sl.im) = envD n ds := by simp [startE, envD]
/-- the ends of a def that gives a datum -/
def OutP (Ψ : D → Prop) : Outs where
  nx := fun _ => Ψ .non
  rt := fun r _ => match r with
    | .im d => Ψ d
    | .fr _ => False
theorem SC.out {X : Cx} {Z : Zx} {sts : List Stmt} {ρ : En} {O O' : Outs} (h : SC X Z sts ρ O) (h1 : ∀ ρ', O.nx ρ' → O'.nx ρ') (h2 : ∀ r ρ', O.rt r ρ' → O'.rt r ρ') (h3 : ∀ ρ', O.bk ρ' → O'.bk ρ') (h4 : ∀ ρ', O.ct ρ' → O'.ct ρ') : SC X Z sts ρ O' := fun B G H σ Dd o z s =>
  h B G H σ Dd o z ⟨fun ρ' σ' B' H' a => s.nx ρ' σ' B' H' (h1 ρ' a), fun r ρ' v σ' B' H' a => s.rt r ρ' v σ' B' H' (h2 r ρ' a), fun ρ' σ' B' H' a => s.bk ρ' σ' B' H' (h3 ρ' a), fun ρ' σ' B' H' a => s.ct ρ' σ' B' H' (h4 ρ' a)⟩
section
variable {P : Program} {w : World} {K : PySem.W.Frag} {mg : Str → Option Value} {base : Heap} {x qual : Str} {params : Arguments} {body : List Stmt} {scope : Scope} {f : Addr} {fd : FuncData} {N ps : List Str} {k n : Nat}
theorem im_out {ds : List D} {ρ : En} : ∀ (i : Nat) (a : Addr) (o : OO), (ds.map Sl.im)[i]? = some (Sl.ow a o) → ρ[i]? = some (some (Sl.ow a o)) := fun i a o h => by
  rw [List.getElem?_map] at h
  cases e : ds[i]? <;> rw [e] at h <;> simp at h
theorem cal_fn {S : List D → (D → Prop) → Prop} (F : FunD K x qual params body scope [] [] f fd) (hm : mg x = some (.ref f)) (Sc : FnScope N ps scope) (hn : ps.length = n)
    (hb : ∀ (kV doc pm : Value) (an : Option Addr) (cdv ct : Value) (us : List Value), us.length = ps.length → bindArgs (PySem.W.fnOf x qual params body scope .none kV doc pm an cdv ct) ⟨us, []⟩ = pure (ps.zip us))
    (h : ∀ cdv A outer s H E, Room k (bodyX P w K mg base N qual scope f cdv A outer s H E).A → ∀ ds Ψ, ds.length = n → S ds Ψ → SC (bodyX P w K mg base N qual scope f cdv A outer s H E) Z0 body (envD N.length ds) (OutP Ψ)) :
    Cal P w K mg base x (k + 1) (PFn n S) :=
  ⟨f, fd, ps, def_ok F Sc (PFn.len hn) (fun cdv A outer s H E hr tk as Φ ⟨ds, h1, h2, h3⟩ => by
    subst h1
    rw [startE_im]
    intro B G H σ Dd o z sv
    refine (h cdv A outer s _ E hr ds _ h2 h3) B G _ σ Dd o RC.none ⟨fun ρ' σ' B' H' a => sv.nx ρ' σ' B' H' ⟨ds.map Sl.im, .refl _, a, im_out⟩, fun r ρ' v σ' B' H' a => ?_, fun ρ' σ' B' H' a => a.elim, fun ρ' σ' B' H' a => a.elim⟩
    cases r with
    | im d => exact sv.rt _ ρ' v σ' B' H' ⟨ds.map Sl.im, .refl _, a, im_out⟩
    | fr oo => exact False.elim a), hm, F.kp, F.bindsN hb⟩
theorem cal_fx {S : List D → (D → Prop) → Er → Prop} (F : FunD K x qual params body scope [] [] f fd) (hm : mg x = some (.ref f)) (Sc : FnScope N ps scope) (hn : ps.length = n)
    (hb : ∀ (kV doc pm : Value) (an : Option Addr) (cdv ct : Value) (us : List Value), us.length = ps.length → bindArgs (PySem.W.fnOf x qual params body scope .none kV doc pm an cdv ct) ⟨us, []⟩ = pure (ps.zip us))
    (h : ∀ cdv A outer s H E, Room k (bodyX P w K mg base N qual scope f cdv A outer s H E).A → Takes (bodyX P w K mg base N qual scope f cdv A outer s H E) (fun cls d _ H' => E cls d H') → ∀ ds Ψ Er, ds.length = n → S ds Ψ Er →
      SC (bodyX P w K mg base N qual scope f cdv A outer s H E) (Zf E Er) body (envD N.length ds) (OutP Ψ)) :
    Cal P w K mg base x (k + 1) (PFx n S) :=
  ⟨f, fd, ps, def_ok F Sc (PFx.len hn) (fun cdv A outer s H E hr tk as Φ ⟨ds, h1, h2, h3⟩ => by
    subst h1
    rw [startE_im]
    intro B G H σ Dd o z sv
    refine (h cdv A outer s _ E hr tk ds _ _ h2 h3) B G _ σ Dd o z ⟨fun ρ' σ' B' H' a => sv.nx ρ' σ' B' H' ⟨ds.map Sl.im, .refl _, a, im_out⟩, fun r ρ' v σ' B' H' a => ?_, fun ρ' σ' B' H' a => a.elim, fun ρ' σ' B' H' a => a.elim⟩
    cases r with
    | im d => exact sv.rt _ ρ' v σ' B' H' ⟨ds.map Sl.im, .refl _, a, im_out⟩
    | fr oo => exact False.elim a), hm, F.kp, F.bindsN hb⟩
end
section
variable {X : Cx} {Z : Zx} {a e : Expr} {es : List Expr} {ρ : En} {Φ : D → En → Prop} {Ψ : Bool → En → Prop} {p pos ps : Pos} {x : Str} {k n : Nat}
theorem pass_tk (tk : Takes X Z.E) : PassW X Z := PassW.tk tk
theorem pass_0 (h : Passes (L2.CX X.prog X.w) X E0) : PassW X Z0 := PassW.of h
theorem AC.mono {Θ Θ' : List D → En → Prop} (h : AC X Z es ρ Θ) (k : ∀ d ρ', Θ d ρ' → Θ' d ρ') : AC X Z es ρ Θ' := fun B G H σ o z Q q => h B G H σ o z Q fun d ρ' v B' H' x => q d ρ' v B' H' (k d ρ' x)
/-- a call of a def that raises nothing here -/
theorem ec_cf {S : List D → (D → Prop) → Prop} (c : Cal X.prog X.w X.K X.mg X.base x k (PFn n S)) (hr : Room k X.A) (hx : PassW X Z) (mo : MonoF S) (h : AC X Z (e :: es) ρ fun ds ρ1 => ds.length = n ∧ S ds fun d => Φ d ρ1)
    (hg : Gl X x := by rfl) (hdb : (x == ("__debug__" : Str)) = false := by decide) (he : starEach (e :: es) X.env = (false, eval e X.env) :: starEach es X.env := by rfl) (hpl : (backTo pos (starEach es X.env)).any (·.1) = false := by rfl) : EC X Z (.Call (.Name x p) (e :: es) [] pos) ρ Φ :=
  ec_call c hr hx (PFn.mono mo) (h.mono fun ds ρ1 ⟨hl, hd⟩ => ⟨ds, rfl, hl, mo _ _ _ (fun d hk => ⟨rfl, hk⟩) hd⟩) hg hdb he hpl
theorem ec_cx {S : List D → (D → Prop) → Er → Prop} (c : Cal X.prog X.w X.K X.mg X.base x k (PFx n S)) (hr : Room k X.A) (hx : PassW X Z) (mo : MonoX S) (h : AC X Z (e :: es) ρ fun ds ρ1 => ds.length = n ∧ S ds (fun d => Φ d ρ1) fun C fs => Z.R C fs ρ1)
    (hg : Gl X x := by rfl) (hdb : (x == ("__debug__" : Str)) = false := by decide) (he : starEach (e :: es) X.env = (false, eval e X.env) :: starEach es X.env := by rfl) (hpl : (backTo pos (starEach es X.env)).any (·.1) = false := by rfl) : EC X Z (.Call (.Name x p) (e :: es) [] pos) ρ Φ :=
  ec_call c hr hx (PFx.mono mo) (h.mono fun ds ρ1 ⟨hl, hd⟩ => ⟨ds, rfl, hl, mo _ _ _ _ _ (fun d hk => ⟨rfl, hk⟩) (fun C fs x => x) hd⟩) hg hdb he hpl
/-! ### isinstance -/
def isObj : D → Bool
  | .obj _ _ => true
  | .exc _ _ _ => true
  | _ => false
def tyN : D → String
  | .non => "NoneType" | .bl _ => "bool" | .int _ => "int" | .str _ => "str" | .lst _ => "list" | .tup _ => "tuple" | .ktup _ => "tuple" | .klst _ => "list" | .obj _ _ => "object" | .exc _ _ _ => "object"
theorem tyx_of {K : PySem.W.Frag} {B G H : Hp} {v : V} {d : D} (s : St3 B G H) (r : Rep K B v d) (h : isObj d = false) : TyX K H v (.type (tyN d)) := by
  cases r with
  | non => exact .base .non
  | bl b => exact .base (.bl b)
  | int i => exact .base (.int i)
  | str x => exact .base (.str x)
  | lst hq _ => exact .base (.lst (s.ex _ _ hq))
  | tup hq _ => exact .base (.tup (s.ex _ _ hq))
  | ktup hq _ =>
    rcases hq with (hq | ⟨o, hq⟩) | ⟨o, its, n, hq, hc, _⟩
    · exact .base (.tup (s.ex _ _ hq))
    · exact .fTuple (s.ex _ _ hq)
    · exact .kTuple hq hc
  | klst hq _ =>
    rcases hq with (hq | ⟨o, hq⟩) | ⟨o, its, n, hq, hc, _⟩
    · exact .base (.lst (s.ex _ _ hq))
    · exact .base (.frz (s.ex _ _ hq))
    · exact .kList hq hc
  | obj _ _ => cases h
  | exc0 => cases h
  | exc _ _ => cases h
/-- isinstance(e, T), T a built-in type -/
theorem ec_isi {T : String} {tn : Str} {f : D → Bool} {p1 : Pos} (hk : ∀ d, isObj d = false → kitB (tyN d) T = some (f d)) (hv : bootBuiltins tn = some (.type T)) (h : EC X Z e ρ fun d ρ1 => isObj d = false ∧ Φ (.bl (f d)) ρ1) (hm : X.mg "isinstance" = none) (hm2 : X.mg tn = none) (hg : Gl X "isinstance" := by rfl) (hg2 : Gl X tn := by rfl)
    (hn : tn ≠ "__name__" := by decide) (hdb : (tn == ("__debug__" : Str)) = false := by decide) (hs1 : starEach [e, .Name tn p1] X.env = (false, eval e X.env) :: starEach [.Name tn p1] X.env := by rfl) (hs2 : starEach [.Name tn p1] X.env = (false, eval (.Name tn p1) X.env) :: starEach [] X.env := by rfl)
    (hpl : (backTo pos (starEach [.Name tn p1] X.env)).any (·.1) = false := by rfl) : EC X Z (.Call (.Name "isinstance" p) [e, .Name tn p1] [] pos) ρ Φ := fun B G H σ o z Q q =>
  (pe_callB call_isi hg hm (by rfl) (pa_cons p_wE (pa_cons (pe_bltn (v := .ty T) hg2 hm2 hv rfl hn hdb) pa_nil hs2) hs1) (he := hs1) (hpl := hpl)).w (h B G H σ o z _ fun d ρ1 v B1 H1 ⟨ho, h1⟩ e1 o1 r1 =>
    ⟨v, .ty T, .type (tyN d), .type T, f d, rfl, .ty T, tyx_of o1.s r1 ho, kit_ty (hk d ho), q _ ρ1 _ B1 H1 h1 e1 o1 (.bl _)⟩)
def isIntD : D → Bool
  | .int _ => true | .bl _ => true | _ => false
def isBoolD : D → Bool
  | .bl _ => true | _ => false
def isTupD : D → Bool
  | .tup _ => true | .ktup _ => true | _ => false
def isLstD : D → Bool
  | .lst _ => true | .klst _ => true | _ => false
theorem kit_int : ∀ d, isObj d = false → kitB (tyN d) "int" = some (isIntD d) := fun d h => by cases d <;> first | (simp [isObj] at h; done) | (dsimp only [tyN, isIntD]; decide +kernel)
theorem kit_bool : ∀ d, isObj d = false → kitB (tyN d) "bool" = some (isBoolD d) := fun d h => by cases d <;> first | (simp [isObj] at h; done) | (dsimp only [tyN, isBoolD]; decide +kernel)
theorem kit_tup : ∀ d, isObj d = false → kitB (tyN d) "tuple" = some (isTupD d) := fun d h => by cases d <;> first | (simp [isObj] at h; done) | (dsimp only [tyN, isTupD]; decide +kernel)
theorem kit_lst : ∀ d, isObj d = false → kitB (tyN d) "list" = some (isLstD d) := fun d h => by cases d <;> first | (simp [isObj] at h; done) | (dsimp only [tyN, isLstD]; decide +kernel)
end
end AL
namespace AL
open PySem PySem.Spec PyProof.Rows L2 Evl
/-! ### instances: made, read, their methods -/
structure CalM (P : Program) (w : World) (K : PySem.W.Frag) (mg : Str → Option Value) (base : Heap) (C : Addr) (m : Str) (k : Nat) (Pd : Pr) : Prop where
  ex : ∃ f fd ps, FnOk P w K mg base (L2.CX P w) k f fd ps (Csp K Pd) ∧ Meth K C m f ∧ Binds K fd ps []
/-- a class that is called: its __init__ -/
structure CalC (P : Program) (w : World) (K : PySem.W.Frag) (mg : Str → Option Value) (base : Heap) (x : Str) (C : Addr) (k : Nat) (Pd : Pr) : Prop where
  ex : ∃ f fd ps, FnOk P w K mg base (L2.CX P w) k f fd ps (Csp K Pd) ∧ Mk K C f ∧ Binds K fd ps [] ∧ mg x = some (.ref C)
section
variable {X : Cx} {Z : Zx} {e o b : Expr} {es : List Expr} {ρ : En} {Φ : D → En → Prop} {p pos apos : Pos} {x m : Str} {k : Nat} {Pd : Pr} {C : Addr} {O : Outs} {sts : List Stmt}
/-! ### the callee's errors may depend on the slots -/
/-- a callee run by the interpreter itself, some calls further in -/
theorem run_at {A : Around} {f : Addr} {fd : FuncData} {ps : List Str} {sp : Sp} {E : L2.St → XK} {pins : List (Addr × Obj)} {σ : L2.St} {H : Hp} {s : Shared} {Q : VK} {us : List Value} {vs : List V} (F : FnOk X.prog X.w X.K X.mg X.base (L2.CX X.prog X.w) k f fd ps sp) (hr : Room k A) (hA : A.frames = X.A.frames)
    (hb : Binds X.K fd ps []) (hx : ∀ σ, PassesAt (L2.CX X.prog X.w) X σ (E σ)) (I : Inv X pins σ H s) (r : Vals vs us) (h : sp vs H Q (E σ)) : wpAny (model X.prog X.w) A (call (.ref f) us) (EP X pins σ Q) X.xe s := by
  have e0 : Env0 X.prog X.w X.K X.mg X.base A X.stack s H := by
    have e := I.env0
    exact ⟨by rw [hA]; exact e.frames, e.mod, e.bs, e.bsz, e.funs, e.frf, e.hok, e.bare⟩
  have hl : us.length = ps.length := by rw [← r.length]; exact F.len _ _ _ _ h
  refine wpAny_call (codeAny_mono (F.run A X.stack s H ⟨us, []⟩ us vs Q (E σ) hr e0 (by
    have := hb s us I.kIn (by simpa using hl)
    simpa using this) r h) fun r s' hq => ?_)
  cases r with
  | error e => exact hx σ pins H s e s' I hq
  | ok fl => cases fl with
    | ret u => exact I.after hq
    | next => exact False.elim hq
    | brk => exact False.elim hq
    | cont => exact False.elim hq
def tMethS (C : Addr) (m : Str) (sp : Sp) (E : L2.St → XK) (ta : TE) (t : TA) : TE := fun σ H Q => ta σ H fun x H1 => ∃ a dx fs, x = .ref a ∧ H1 a = some (.ins C dx fs) ∧ fs.lookup m = none ∧ t σ H1 fun vs H2 => sp (x :: vs) H2 Q (E σ)
section
variable {f : Addr} {fd : FuncData} {ps : List Str} {sp : Sp} {E : L2.St → XK} {ta : TE} {t : TA}
theorem pe_methS {pl : Sem Bool} (he : PE X o ta) (c : Cls X.K C) (hm : Meth X.K C m f) (F : FnOk X.prog X.w X.K X.mg X.base (L2.CX X.prog X.w) k f fd ps sp) (hr : Room k X.A) (hb : Binds X.K fd ps []) (hx : ∀ σ, PassesAt (L2.CX X.prog X.w) X σ (E σ)) (ha : PA X (e :: es) t)
    (hst : starEach (e :: es) X.env = (false, eval e X.env) :: starEach es X.env) (hpl : (backTo pos (starEach es X.env)).any (·.1) = false)
    (ht : eval (.Call (.Attribute o m apos) (e :: es) [] pos) X.env = (do
      let ov ← eval o X.env
      standAt apos.atName
      let (f, first) ← holding [ov] (getMethod ov m pl)
      callWith pos f first (backTo pos (starEach (e :: es) X.env)) (backToKw pos (keywordEach [] X.env)))) :
    PE X (.Call (.Attribute o m apos) (e :: es) [] pos) (tMethS C m sp E ta t) := ⟨fun pins s σ H Q I h => by
  refine PySem.W.methodCall_KW (pl := pl) (thn (he.run pins s σ H _ I h) fun u s1 hh => ?_) ht
  obtain ⟨x, H1, I1, rx, a, dx, fs, ex, ea, l, q⟩ := hh
  subst ex; obtain rfl : u = Value.ref a := rx
  refine getmeth_ok I1 ea c hm l (PySem.W.callWith_K (first := [.ref a]) (h₀ := X.base) I.ok.mod.kin hm.kp (thn (ha.run pos pins s1 σ H1 _ I1 q) fun us s2 hh => ?_) hst hpl)
  obtain ⟨vs, H2, I2, r, q2⟩ := hh
  exact ⟨I2.kIn, run_at (us := .ref a :: us) (vs := .ref a :: vs) F hr rfl hb hx I2 (.cons rfl r) q2⟩⟩
theorem pe_meth0S {pl : Sem Bool} (he : PE X o ta) (c : Cls X.K C) (hm : Meth X.K C m f) (F : FnOk X.prog X.w X.K X.mg X.base (L2.CX X.prog X.w) k f fd ps sp) (hr : Room k X.A) (hb : Binds X.K fd ps []) (hx : ∀ σ, PassesAt (L2.CX X.prog X.w) X σ (E σ))
    (ht : eval (.Call (.Attribute o m apos) [] [] pos) X.env = (do
      let ov ← eval o X.env
      standAt apos.atName
      let (f, first) ← holding [ov] (getMethod ov m pl)
      callWith pos f first (backTo pos (starEach [] X.env)) (backToKw pos (keywordEach [] X.env)))) :
    PE X (.Call (.Attribute o m apos) [] [] pos) (tMethS C m sp E ta tNil) := ⟨fun pins s σ H Q I h => by
  refine PySem.W.methodCall_KW (pl := pl) (thn (he.run pins s σ H _ I h) fun u s1 hh => ?_) ht
  obtain ⟨x, H1, I1, rx, a, dx, fs, ex, ea, l, q⟩ := hh
  subst ex; obtain rfl : u = Value.ref a := rx
  exact getmeth_ok I1 ea c hm l (PySem.W.callWith_K0 (first := [.ref a]) I1.kIn hm.kp (run_at (us := [.ref a]) (vs := [.ref a]) F hr rfl hb hx I1 (.cons rfl .nil) q))⟩
end
/-- o.m(e, ..), data alone -/
theorem ec_meth {pl : Sem Bool} (cl : Cls X.K C) (c : CalM X.prog X.w X.K X.mg X.base C m k Pd) (hr : Room k X.A) (hx : PassW X Z) (mo : Mono Pd)
    (h : EC X Z o ρ fun d0 ρ0 => ∃ gs, d0 = .obj C gs ∧ gs.lookup m = none ∧ AC X Z (e :: es) ρ0 fun ds ρ1 => Pd ((d0 :: ds).map Sl.im) (WantD Z ((d0 :: ds).map Sl.im) ρ1 Φ))
    (hst : starEach (e :: es) X.env = (false, eval e X.env) :: starEach es X.env := by rfl) (hpl : (backTo pos (starEach es X.env)).any (·.1) = false := by rfl)
    (ht : eval (.Call (.Attribute o m apos) (e :: es) [] pos) X.env = (do
      let ov ← eval o X.env
      standAt apos.atName
      let (f, first) ← holding [ov] (getMethod ov m pl)
      callWith pos f first (backTo pos (starEach (e :: es) X.env)) (backToKw pos (keywordEach [] X.env))) := by rfl) :
    EC X Z (.Call (.Attribute o m apos) (e :: es) [] pos) ρ Φ := fun B G H σ o0 z Q q => by
  obtain ⟨f, fd, ps, F, hm, bd⟩ := c.ex
  refine (pe_methS (E := fun σ c d H => Z.E c d σ H) p_wE cl hm F hr bd hx p_wA hst hpl ht).w (h B G H σ o0 z _ fun d0 ρ0 v0 B0 H0 ⟨gs, hd, hl, h1⟩ e0 o1 r0 => ?_)
  subst hd
  cases r0 with
  | @obj a _ dx fs _ ha hf =>
    refine ⟨a, dx, fs, rfl, o1.s.ex _ _ ha, hf.none hl, ?_⟩
    refine h1 B0 G H0 σ o1 (z.up e0) _ fun ds ρ1 vs B1 H1 hk e1 o2 r1 => ?_
    have rr : Reps X.K B1 (.ref a :: vs) (.obj C gs :: ds) := .cons (.obj (e1 _ _ ha) (hf.up e1)) r1
    exact ⟨B1, rest B1 H1 none, _, o2.call rr, mo _ _ _ (want_ok o2 (e0.trans e1) z q) hk⟩
/-- o.m(), data alone -/
theorem ec_meth0 {pl : Sem Bool} (cl : Cls X.K C) (c : CalM X.prog X.w X.K X.mg X.base C m k Pd) (hr : Room k X.A) (hx : PassW X Z) (mo : Mono Pd)
    (h : EC X Z o ρ fun d0 ρ1 => ∃ gs, d0 = .obj C gs ∧ gs.lookup m = none ∧ Pd ([d0].map Sl.im) (WantD Z ([d0].map Sl.im) ρ1 Φ))
    (ht : eval (.Call (.Attribute o m apos) [] [] pos) X.env = (do
      let ov ← eval o X.env
      standAt apos.atName
      let (f, first) ← holding [ov] (getMethod ov m pl)
      callWith pos f first (backTo pos (starEach [] X.env)) (backToKw pos (keywordEach [] X.env))) := by rfl) :
    EC X Z (.Call (.Attribute o m apos) [] [] pos) ρ Φ := fun B G H σ o0 z Q q => by
  obtain ⟨f, fd, ps, F, hm, bd⟩ := c.ex
  refine (pe_meth0S (E := fun σ c d H => Z.E c d σ H) p_wE cl hm F hr bd hx ht).w (h B G H σ o0 z _ fun d0 ρ0 v0 B0 H0 ⟨gs, hd, hl, hk⟩ e0 o1 r0 => ?_)
  subst hd
  cases r0 with
  | @obj a _ dx fs _ ha hf =>
    refine ⟨a, dx, fs, rfl, o1.s.ex _ _ ha, hf.none hl, ?_⟩
    show Csp X.K Pd [.ref a] H0 Q (fun c d H => Z.E c d σ H)
    have rr : Reps X.K B0 [.ref a] [.obj C gs] := .cons (.obj ha hf) .nil
    exact ⟨B0, rest B0 H0 none, _, o1.call rr, mo _ _ _ (want_ok o1 e0 z q) hk⟩
/-- len(o), an own __len__ -/
theorem ec_lenM (c : CalM X.prog X.w X.K X.mg X.base C "__len__" k Pd) (hr : Room (k + 1) X.A) (hx : PassW X Z) (mo : Mono Pd) (hm : X.mg "len" = none)
    (h : EC X Z e ρ fun d0 ρ1 => ∃ gs, d0 = .obj C gs ∧ Pd ([d0].map Sl.im) (WantD Z ([d0].map Sl.im) ρ1 fun d ρ2 => ∃ n : Int, d = .int n ∧ 0 ≤ n ∧ n < 2 ^ 63 ∧ Φ d ρ2))
    (hg : Gl X "len" := by rfl) (he : starEach [e] X.env = (false, eval e X.env) :: starEach [] X.env := by rfl) (hpl : (backTo pos (starEach [] X.env)).any (·.1) = false := by rfl) : EC X Z (.Call (.Name "len" p) [e] [] pos) ρ Φ := fun B G H σ o0 z Q q => by
  obtain ⟨f, fd, ps, F, mm, bd⟩ := c.ex
  refine PE.w (t := fun σ H Q => wE X e σ H fun x H1 => ∃ a dx fs, x = .ref a ∧ H1 a = some (.ins C dx fs) ∧ Csp X.K Pd [.ref a] H1 (fun v H' => ∃ n : Int, v = .int n ∧ 0 ≤ n ∧ n < 2 ^ 63 ∧ Q v H') (fun c d H => Z.E c d σ H)) ⟨fun pins s σ H Q I hh => ?_⟩ (h B G H σ o0 z _ fun d0 ρ1 v B1 H1 ⟨gs, hd, hk⟩ e1 o1 r1 => ?_)
  · refine wpAny_Call_Name_kw (ld_blt I hg hm PySem.boot_len (PyProof.Rows.callWith_builtin1 (thn ((pa_cons p_wE pa_nil he).run pos pins s σ H (fun xs H1 => ∃ x, xs = [x] ∧ ∃ a dx fs, x = .ref a ∧ H1 a = some (.ins C dx fs) ∧ Csp X.K Pd [.ref a] H1 (fun v H' => ∃ n : Int, v = .int n ∧ 0 ≤ n ∧ n < 2 ^ 63 ∧ Q v H') (fun c d H => Z.E c d σ H)) I ?_) fun us s1 h2 => ?_) he hpl))
    · intro pins s I
      exact thn (hh pins s I) fun u s1 ⟨x, H1, I1, rx, q1⟩ => ⟨x, H1, I1, rx, x, rfl, q1⟩
    · obtain ⟨vs, H1, I1, r1, x, hxs, a, dx, fs, hxa, ha, hsp⟩ := h2
      subst hxs; subst hxa
      cases r1 with
      | cons q1 q2 =>
        cases q2; cases q1
        obtain ⟨mA, J, _⟩ := ins_get I1.hok ha
        obtain ⟨od, J, _⟩ := J.look
        obtain ⟨mm', hF⟩ := I1.fr
        refine PySem.W.len_K hF I1.ok.mod.kin J mm.at_ mm.fn (thn (run_at (E := fun σ c d H => Z.E c d σ H) (vs := [.ref a]) F hr.in1 rfl bd hx I1 (.cons rfl .nil) hsp) fun u s' ⟨v, H', I', rv, n, hv, l1, l2, hq⟩ => ?_)
        subst hv
        obtain ⟨t, rfl⟩ := rv
        exact ⟨⟨l1, l2⟩, ⟨.int n, H', I'.tok _, ⟨_, rfl⟩, hq⟩⟩
  subst hd
  cases r1 with
  | @obj a _ dx fs _ ha hf =>
    refine ⟨a, dx, fs, rfl, o1.s.ex _ _ ha, B1, rest B1 H1 none, _, o1.call (.cons (.obj ha hf) .nil), mo _ _ _ (want_ok o1 e1 z fun d ρ2 v B2 H2 ⟨n, hd, l1, l2, hΦ⟩ e2 o2 r2 => ?_) hk⟩
    subst hd
    cases r2
    exact ⟨n, rfl, l1, l2, q _ ρ2 _ B2 H2 hΦ e2 o2 (.int _)⟩
/-- o[i], an own __getitem__ -/
theorem ec_ixM (c : CalM X.prog X.w X.K X.mg X.base C "__getitem__" k Pd) (hfn : ∀ f, Meth X.K C "__getitem__" f → PySem.W.fnIn X.K f = true) (hr : Room (k + 1) X.A) (hx : PassW X Z) (mo : Mono Pd)
    (h : EC X Z e ρ fun d0 ρ0 => ∃ gs, d0 = .obj C gs ∧ EC X Z b ρ0 fun d1 ρ1 => Pd ([d0, d1].map Sl.im) (WantD Z ([d0, d1].map Sl.im) ρ1 Φ))
    (hsl : ∀ (o i : Value), subscripted b true o i = runValue (.builtin "lifetime.subscript" ⟨[o, i], []⟩) := by exact fun _ _ => by with_unfolding_all rfl) : EC X Z (.Subscript e b pos) ρ Φ := fun B G H σ o0 z Q q => by
  obtain ⟨f, fd, ps, F, mm, bd⟩ := c.ex
  refine PE.w (t := fun σ H Q => wE X e σ H fun x H1 => wE X b σ H1 fun y H2 => ∃ a dx fs, x = .ref a ∧ H2 a = some (.ins C dx fs) ∧ Csp X.K Pd [x, y] H2 Q (fun c d H => Z.E c d σ H)) ⟨fun pins s σ H Q I hh => ?_⟩ ?_
  · refine Subscript_ (binT p_wE p_wE I hh fun v u s2 x y H2 I2 rx ry ⟨a, dx, fs, hxa, ha, hsp⟩ => ?_)
    subst hxa
    cases rx
    obtain ⟨mA, J, _⟩ := ins_get I2.hok ha
    obtain ⟨od, J, _⟩ := J.look
    obtain ⟨mm', hF⟩ := I2.fr
    exact PySem.W.sub_K hF I2.ok.mod.kin J mm.at_ (hfn f mm) mm.fn (run_at (E := fun σ c d H => Z.E c d σ H) (vs := [.ref a, y]) F hr.in1 rfl bd hx I2 (.cons rfl (.cons ry .nil)) hsp) (hsl _ _)
  · refine h B G H σ o0 z _ fun d0 ρ0 v B0 H0 ⟨gs, hd, h1⟩ e0 o1 r0 => h1 B0 G H0 σ o1 (z.up e0) _ fun d1 ρ1 y B1 H1 hk e1 o2 r1 => ?_
    subst hd
    have r0' := r0.up e1
    cases r0' with
    | @obj a _ dx fs _ ha hf =>
      exact ⟨a, dx, fs, rfl, o2.s.ex _ _ ha, B1, rest B1 H1 none, _, o2.call (.cons (.obj ha hf) (.cons r1 .nil)), mo _ _ _ (want_ok o2 (e0.trans e1) z q) hk⟩
end
end AL
namespace AL
open PySem PySem.Spec PyProof.Rows L2 Evl
/-! ### instances made; the fields of one's own -/
theorem RepF.put {K : PySem.W.Frag} {B : Hp} {f : Str} {v : V} {d : D} (r : Rep K B v d) : ∀ {gs : List (Str × D)} {fs : List (Str × V)}, RepF K B fs gs → RepF K B (putF f v fs) (putD f d gs) := by
  intro gs
  induction gs with
  | nil => intro fs h; cases h; exact .cons r .nil
  | cons p gs ih =>
    intro fs h
    obtain ⟨g, e⟩ := p
    cases h with
    | cons r0 rs =>
      by_cases hg : g = f
      · show RepF K B (if g = f then (g, v) :: _ else _) (if g = f then (g, d) :: _ else _)
        rw [if_pos hg, if_pos hg]
        exact .cons r rs
      · show RepF K B (if g = f then _ else (g, _) :: putF f v _) (if g = f then _ else (g, e) :: putD f d _)
        rw [if_neg hg, if_neg hg]
        exact .cons r0 (ih rs)
/-- what a caller wants of an __init__'s outcome -/
def WantI (Z : Zx) (a C : Addr) (ds : List D) (ρ1 : En) (Φ : D → En → Prop) : Oc → Prop
  | .ret (.im .non) (.ow a' (.ob C' fs) :: as') => a' = a ∧ C' = C ∧ as' = ds.map Sl.im ∧ Φ (.obj C fs) ρ1
  | .ret _ _ => False
  | .raise C fs => Z.R C fs ρ1
section
variable {X : Cx} {Z : Zx} {e o b : Expr} {es : List Expr} {ρ : En} {Φ : D → En → Prop} {p pos apos ps : Pos} {x m f : Str} {k : Nat} {Pd : Pr} {C : Addr} {O : Outs} {sts : List Stmt}
def tMakeS (C : Addr) (sp : Sp) (E : L2.St → XK) (t : TA) : TE := fun σ H Q => t σ H fun vs H1 => ∀ y dx, H1 y = none → H1 dx = none → dx ≠ y →
  sp (.ref y :: vs) (upd (upd H1 dx (.own y)) y (.ins C dx [])) (fun v H2 => v = .non ∧ Q (.ref y) H2) (E σ)
theorem pe_makeS {f : Addr} {fd : FuncData} {pl : List Str} {sp : Sp} {E : L2.St → XK} {t : TA} (M : Mk X.K C f) (F : FnOk X.prog X.w X.K X.mg X.base (L2.CX X.prog X.w) k f fd pl sp) (hr : Room (k + 1) X.A) (hg : Gl X x) (hm : X.mg x = some (.ref C)) (hb : Binds X.K fd pl [])
    (hx : ∀ σ, PassesAt (L2.CX X.prog X.w) X σ (E σ)) (ha : PA X (e :: es) t) (hdb : (x == ("__debug__" : Str)) = false) (he : starEach (e :: es) X.env = (false, eval e X.env) :: starEach es X.env) (hpl : (backTo pos (starEach es X.env)).any (·.1) = false) :
    PE X (.Call (.Name x p) (e :: es) [] pos) (tMakeS C sp E t) := ⟨fun pins s σ H Q I h => by
  refine wpAny_Call_Name_kw (ld_glob I hg hm (PySem.W.callWith_K (h₀ := X.base) I.ok.mod.kin M.kp (thn (ha.run pos pins s σ H _ I h) fun us s1 hh => ?_) he hpl) hdb)
  obtain ⟨vs, H1, I1, r, h1⟩ := hh
  refine ⟨I1.kIn, ?_⟩
  have hq := h1 (s1.heap.objs.size + 1) s1.heap.objs.size (I1.hok.fresh (Nat.le_succ _)) (I1.hok.fresh (Nat.le_refl _)) (Nat.ne_of_lt (Nat.lt_succ_self _))
  have I2 := Inv.made (C := C) I1
  have r2 : Vals (V.ref (s1.heap.objs.size + 1) :: vs) (Value.ref (s1.heap.objs.size + 1) :: us) := .cons rfl r
  have hl : (Value.ref (s1.heap.objs.size + 1) :: us).length = pl.length := (r2.length.symm.trans (F.len _ _ _ _ hq))
  have bd := hb _ (Value.ref (s1.heap.objs.size + 1) :: us) I2.kIn (by rw [List.append_nil]; exact hl)
  rw [List.append_nil] at bd
  have run := F.run _ X.stack _ _ ⟨Value.ref (s1.heap.objs.size + 1) :: us, []⟩ _ _ _ (E σ) (hr.make C us []) (I2.env0.make C us []) bd r2 hq
  refine wpAny_call (make_map (f := f) I1.kIn M.makes M.init (beq_iff_eq.mp M.fn) (codeAny_mono run fun r s' hq' => ?_))
  cases r with
  | error e => exact hx σ pins _ _ e s' I2 hq'
  | ok fl => cases fl with
    | ret u =>
      obtain ⟨v, H', I3, rv, ev, q3⟩ := I2.after hq'
      subst ev
      exact ⟨rv, V.ref (s1.heap.objs.size + 1), H', I3, rfl, q3⟩
    | next => exact False.elim hq'
    | brk => exact False.elim hq'
    | cont => exact False.elim hq'⟩
theorem ec_make (c : CalC X.prog X.w X.K X.mg X.base x C k Pd) (hr : Room (k + 1) X.A) (hx : PassW X Z) (mo : Mono Pd)
    (h : AC X Z (e :: es) ρ fun ds ρ1 => ∀ a, Pd (.ow a (.ob C []) :: ds.map Sl.im) (WantI Z a C ds ρ1 Φ))
    (hg : Gl X x := by rfl) (hdb : (x == ("__debug__" : Str)) = false := by decide) (he : starEach (e :: es) X.env = (false, eval e X.env) :: starEach es X.env := by rfl) (hpl : (backTo pos (starEach es X.env)).any (·.1) = false := by rfl) : EC X Z (.Call (.Name x p) (e :: es) [] pos) ρ Φ := fun B G H σ o z Q q => by
  obtain ⟨f, fd, ps, F, mk, bd, hm⟩ := c.ex
  refine (pe_makeS (E := fun σ c d H => Z.E c d σ H) mk F hr hg hm bd hx p_wA hdb he hpl).w (h B G H σ o z _ fun ds ρ1 vs B1 H1 hk e1 o1 r1 => ?_)
  intro y dx hy hdx hne
  obtain ⟨od, hbd, hgd, hnd⟩ := o1.fresh (u := .own y) hdx
  have hy2 : upd H1 dx (.own y) y = none := by rw [upd_ne (Ne.symm hne)]; exact hy
  obtain ⟨oy, hby, hgy, hny⟩ := od.fresh (u := .ins C dx []) hy2
  have ob := oy.call r1
  -- the callee's frame: all but the new instance
  have oc : Ok X.K B1 (rest B1 (upd (upd H1 dx (.own y)) y (.ins C dx [])) (some y)) (upd (upd H1 dx (.own y)) y (.ins C dx [])) ((V.ref y :: vs).map some) ((Sl.ow y (.ob C []) :: ds.map Sl.im).map some) := by
    refine ⟨⟨ob.s.ex, fun b w hw => ?_, fun b w hw => ?_, ob.s.tp⟩, by simp [r1.length], fun i d hd => ?_, fun i a w hw => ?_, fun i j a w w' h1 h2 => ?_⟩
    · unfold rest at hw
      split at hw
      · cases hw
      · split at hw
        · cases hw
        · exact hw
    · unfold rest at hw
      split at hw
      · cases hw
      · split at hw
        · cases hw
        · rename_i hb; simpa using hb
    · cases i with
      | zero => simp at hd
      | succ i => exact ob.im i d (by simpa using hd)
    · cases i with
      | zero =>
        simp at hw
        obtain ⟨rfl, rfl⟩ := hw
        exact ⟨rfl, hby, by unfold rest; rw [if_pos rfl], _, upd_same, rfl, .nil⟩
      | succ i =>
        obtain ⟨_, _, _, _⟩ := ob.ow i a w (by simpa using hw)
        have hw' : ((ds.map Sl.im).map some)[i]? = some (some (Sl.ow a w)) := by simpa using hw
        have hd' := mapq.mp hw'
        rw [List.getElem?_map] at hd'
        cases e : ds[i]? <;> rw [e] at hd' <;> simp at hd'
    · have no : ∀ (i : Nat) (a : Addr) (w : OO), ((Sl.ow y (.ob C []) :: ds.map Sl.im).map some)[i + 1]? ≠ some (some (Sl.ow a w)) := fun i a w hw => by
        have hw' : ((ds.map Sl.im).map some)[i]? = some (some (Sl.ow a w)) := by simpa using hw
        have hd' := mapq.mp hw'
        rw [List.getElem?_map] at hd'
        cases e : ds[i]? <;> rw [e] at hd' <;> simp at hd'
      cases i with
      | zero => cases j with
        | zero => rfl
        | succ j => exact absurd h2 (no j a w')
      | succ i => exact absurd h1 (no i a w)
  have back : ∀ {B' H' : Hp}, Ex B1 B' → St3 B' (rest B1 (upd (upd H1 dx (.own y)) y (.ins C dx [])) (some y)) H' → Ok X.K B' G H' σ ρ1 := fun {B' H'} e2 s2 => by
    have old : ∀ b w, H1 b = some w → B1 b = none → H' b = some w ∧ B' b = none := fun b w hw hb => by
      have n1 : b ≠ y := ne_of_none hw hy
      have n2 : b ≠ dx := ne_of_none hw hdx
      have h1 : rest B1 (upd (upd H1 dx (.own y)) y (.ins C dx [])) (some y) b = some w := by
        unfold rest; rw [if_neg (by simp [n1]), if_neg (by simp [hb]), upd_ne n1, upd_ne n2]; exact hw
      exact ⟨s2.eg b w h1, s2.dj b w h1⟩
    refine ⟨⟨s2.ex, fun b w hw => (old b w (o1.s.eg b w hw) (o1.s.dj b w hw)).1, fun b w hw => (old b w (o1.s.eg b w hw) (o1.s.dj b w hw)).2, s2.tp⟩, o1.len, fun i d hd => ?_, fun i a w hw => ?_, o1.ne⟩
    · obtain ⟨v, h1, h2⟩ := o1.im i d hd
      exact ⟨v, h1, h2.up e2⟩
    · obtain ⟨q1, q2, q3, u, q4, q5⟩ := o1.ow i a w hw
      obtain ⟨h1, h2⟩ := old a u q4 q2
      exact ⟨q1, h2, q3, u, h1, q5.up e2⟩
  refine ⟨B1, _, _, oc, mo _ _ _ ?_ (hk y)⟩
  intro oc' hoc
  match oc', hoc with
  | .ret (.im .non) (.ow a' (.ob C' fs) :: as'), ⟨h1, h2, h3, hΦ⟩ =>
    subst h1; subst h2; subst h3
    intro v B' H' e2 o2 rv
    cases rv
    refine ⟨rfl, ?_⟩
    obtain ⟨_, hb', hg', u, hu, hru⟩ := o2.ow 0 _ _ rfl
    have o3 := back e2 o2.s
    cases u with
    | ins C2 dx2 vfs =>
      obtain ⟨hC, hf⟩ := hru
      subst hC
      obtain ⟨e3, o4⟩ := o3.know hb' (fresh_back o1.s.eg hy) hu (fun j w hj => by
        obtain ⟨_, _, _, w2, hw2, _⟩ := o1.ow j _ w hj
        rw [hy] at hw2; cases hw2)
      exact q _ ρ1 _ _ H' hΦ ((e1.trans e2).trans e3) o4 (.obj upd_same (hf.up e3))
    | _ => exact False.elim hru
  | .raise C fs, hR =>
    intro dd B' H' e2 s3 er
    exact z C fs dd B' H' σ ρ1 hR (e1.trans e2) (back e2 s3) er
/-- self.f = e, self an instance of one's own -/
theorem sc_fld (i : Nat) {a : Addr} {fs : List (Str × D)} (hd : ρ[i]? = some (some (.ow a (.ob C fs)))) (cl : Cls X.K C) (na : NoAttr X.K C f)
    (h : EC X Z e ρ fun d ρ1 => ∃ gs, ρ1[i]? = some (some (.ow a (.ob C gs))) ∧ gs.length < 1000 ∧ SC X Z sts (ρ1.set i (some (.ow a (.ob C (putD f d gs))))) O) (hs : swapsWith e (some (.Attribute (.Name x ps) f apos)) pos.line X.env = pure false := by rfl)
    (hN : X.N[i]? = some x := by rfl) (hv : Vis X.env.scope x := by first | exact Or.inl rfl | exact Or.inr (Or.inl rfl) | exact Or.inr (Or.inr rfl)) (hdb : (x == ("__debug__" : Str)) = false := by decide) (hcd : (x == ("__classdict__" : Str)) = false := by decide) :
    SC X Z (.Assign [.Attribute (.Name x ps) f apos] e pos :: sts) ρ O :=
  sc_of (ps_fld (pe_var hN hv hdb hcd) p_wE hs) fun B G H σ Dd o z s => h B G H σ o z _ fun d ρ1 v B1 H1 ⟨gs, hg, hl, hk⟩ e1 o1 r1 => by
    obtain ⟨h1, h2, h3, u, h4, h5⟩ := o1.ow i a _ hg
    cases u with
    | ins C2 dx vfs =>
      obtain ⟨hC, hf⟩ := h5
      subst hC
      exact ⟨_, h1, a, C2, dx, vfs, rfl, h4, cl, na, by rw [hf.len]; exact hl, hk.go (o1.upd_ow (u' := .ins C2 dx (putF f v vfs)) hg ⟨rfl, hf.put r1⟩) z s e1⟩
    | _ => exact False.elim h5
/-- self.f read, self an instance of one's own -/
theorem ec_fldO (i : Nat) {a : Addr} {fs : List (Str × D)} {d : D} (hd : ρ[i]? = some (some (.ow a (.ob C fs)))) (cl : Cls X.K C) (na : NoAttr X.K C f) (hl : fs.lookup f = some d) (h : Φ d ρ)
    (hN : X.N[i]? = some x := by rfl) (hv : Vis X.env.scope x := by first | exact Or.inl rfl | exact Or.inr (Or.inl rfl) | exact Or.inr (Or.inr rfl)) (hdb : (x == ("__debug__" : Str)) = false := by decide) (hcd : (x == ("__classdict__" : Str)) = false := by decide)
    (hb : attributeBase (.Name x ps) f X.env (eval (.Name x ps) X.env) = eval (.Name x ps) X.env := by rfl) : EC X Z (.Attribute (.Name x ps) f pos) ρ Φ := fun B G H σ o z Q q => by
  obtain ⟨h1, h2, h3, u, h4, h5⟩ := o.ow i a _ hd
  cases u with
  | ins C2 dx vfs =>
    obtain ⟨hC, hf⟩ := h5
    subst hC
    obtain ⟨w, hw, rw_⟩ := hf.lookup hl
    exact (pe_fld (pe_var hN hv hdb hcd) hb).w ⟨_, h1, a, C2, dx, vfs, w, rfl, h4, cl, na, hw, q d ρ w B H h (Ex.refl B) o rw_⟩
  | _ => exact False.elim h5
/-! ### lists of one's own -/
/-- x.append(e) -/
theorem sc_app (i : Nat) {a : Addr} {es0 : List D} (hd : ρ[i]? = some (some (.ow a (.l es0)))) (h : EC X Z e ρ fun d ρ1 => ∃ ds, ρ1[i]? = some (some (.ow a (.l ds))) ∧ ds.length < 100000 ∧ SC X Z sts (ρ1.set i (some (.ow a (.l (ds ++ [d]))))) O)
    (pf : ∀ te, PE X e te → PE X (.Call (.Attribute (.Name x ps) "append" apos) [e] [] p) (tBM X.K "list" rAppend (tVar i) (tCons te tNil)) := by
      exact fun te he => pe_bm PySem.F.plainAttrs_list PySem.F.slot_list_append PySem.F.type_list_append mt_append (pv _) (pa_cons he pa_nil))
    (hs : swapsWith (.Call (.Attribute (.Name x ps) "append" apos) [e] [] p) none pos.line X.env = pure false := by rfl) : SC X Z (.Expr (.Call (.Attribute (.Name x ps) "append" apos) [e] [] p) pos :: sts) ρ O :=
  sc_of (ps_expr (pf _ p_wE) hs) fun B G H σ Dd o z s => by
    obtain ⟨h1, _, _, u0, h4, h5⟩ := o.ow i a _ hd
    cases u0 with
    | lst vs0 =>
      refine ⟨_, h1, .inl ⟨rfl, vs0, sq_of h4⟩, h B G H σ o z _ fun d ρ1 v B1 H1 ⟨ds, hg, hl, hk⟩ e1 o1 r1 => ?_⟩
      obtain ⟨g1, g2, g3, u, g4, g5⟩ := o1.ow i a _ hg
      cases u with
      | lst vs =>
        exact ⟨a, vs, v, rfl, rfl, g4, sz_lt (by rw [Reps.length g5]; exact hl), hk.go (o1.upd_ow (u' := .lst (vs ++ [v])) (o' := .l (ds ++ [d])) hg (Reps.app g5 (.cons r1 .nil))) z s e1⟩
      | _ => exact False.elim g5
    | _ => exact False.elim h5
end
end AL
namespace AL
open PySem PySem.Spec PyProof.Rows L2 Evl
/-! ### built-ins on data -/
def GivesB (K : PySem.W.Frag) (r : List V → Hp → VK → Prop) (ds : List D) (Post : D → Prop) : Prop := ∀ B G H vs, St3 B G H → Reps K B vs ds → ∀ Q : VK,
  (∀ d v, Post d → Rep K B v d → Q v H) → (∀ p o d, H p = none → Post d → Rep K (upd B p o) (.ref p) d → Q (.ref p) (upd H p o)) → r vs H Q
section
variable {X : Cx} {Z : Zx} {e : Expr} {es : List Expr} {ρ : En} {Φ : D → En → Prop} {Ψ : Bool → En → Prop} {p pos apos ps : Pos} {x : Str} {id : String} {r : List V → Hp → VK → Prop} {O : Outs} {sts : List Stmt}
theorem gb_end {B1 G H1 : Hp} {σ : L2.St} {ρ1 : En} {B : Hp} {ds : List D} {vs : List V} {Q : VK} (o1 : Ok X.K B1 G H1 σ ρ1) (e1 : Ex B B1) (r1 : Reps X.K B1 vs ds) {Post : D → Prop} (g : GivesB X.K r ds Post) (hk : ∀ d, Post d → Φ d ρ1)
    (q : ∀ d ρ' v B' H', Φ d ρ' → Ex B B' → Ok X.K B' G H' σ ρ' → Rep X.K B' v d → Q v H') : r vs H1 Q :=
  g B1 G H1 vs o1.s r1 Q (fun d v hp rv => q d ρ1 v B1 H1 (hk d hp) e1 o1 rv) fun p o d hn hp rv => by
    obtain ⟨e2, o2⟩ := o1.grow (u := o) hn
    exact q d ρ1 _ _ _ (hk d hp) (e1.trans e2) o2 rv
theorem ec_cb (hc : CallR X (.builtin id) r) (hv : bootBuiltins x = some (.builtin id)) (hm : X.mg x = none) (h : AC X Z (e :: es) ρ fun ds ρ1 => ∃ Post, GivesB X.K r ds Post ∧ ∀ d, Post d → Φ d ρ1) (hg : Gl X x := by rfl) (hn : x ≠ "__name__" := by decide) (hdb : (x == ("__debug__" : Str)) = false := by decide)
    (he : starEach (e :: es) X.env = (false, eval e X.env) :: starEach es X.env := by rfl) (hpl : (backTo pos (starEach es X.env)).any (·.1) = false := by rfl) : EC X Z (.Call (.Name x p) (e :: es) [] pos) ρ Φ := fun B G H σ o z Q q =>
  (pe_callB hc hg hm hv p_wA hn hdb (he := he) (hpl := hpl)).w (h B G H σ o z _ fun ds ρ1 vs B1 H1 ⟨Post, g, hk⟩ e1 o1 r1 => gb_end o1 e1 r1 g hk q)
theorem ec_cty {T : String} (hc : CallR X (.type T) r) (hv : bootBuiltins x = some (.type T)) (hm : X.mg x = none) (h : AC X Z (e :: es) ρ fun ds ρ1 => ∃ Post, GivesB X.K r ds Post ∧ ∀ d, Post d → Φ d ρ1) (hg : Gl X x := by rfl) (hn : x ≠ "__name__" := by decide) (hdb : (x == ("__debug__" : Str)) = false := by decide)
    (he : starEach (e :: es) X.env = (false, eval e X.env) :: starEach es X.env := by rfl) (hpl : (backTo pos (starEach es X.env)).any (·.1) = false := by rfl) : EC X Z (.Call (.Name x p) (e :: es) [] pos) ρ Φ := fun B G H σ o z Q q =>
  (pe_callTy hc hg hm hv p_wA hn hdb (he := he) (hpl := hpl)).w (h B G H σ o z _ fun ds ρ1 vs B1 H1 ⟨Post, g, hk⟩ e1 o1 r1 => gb_end o1 e1 r1 g hk q)
end
section
variable {K : PySem.W.Frag}
/-- data of a kind, as values -/
theorem reps_int : ∀ {ns : List Int} {B : Hp} {vs : List V}, Reps K B vs (ns.map D.int) → vs = ns.map V.int
  | [], _, _, .nil => rfl
  | n :: ns, _, _, .cons r rs => by cases r; rw [reps_int rs]; rfl
theorem reps_bl : ∀ {ns : List Bool} {B : Hp} {vs : List V}, Reps K B vs (ns.map D.bl) → vs = ns.map V.bl
  | [], _, _, .nil => rfl
  | n :: ns, _, _, .cons r rs => by cases r; rw [reps_bl rs]; rfl
theorem int_reps {B : Hp} : ∀ ns : List Int, Reps K B (ns.map V.int) (ns.map D.int)
  | [] => .nil
  | n :: ns => .cons (.int n) (int_reps ns)
theorem gb_tuple {xs : List D} {d : D} (hd : itemsD d = some xs) (hk : ∀ ys, d ≠ .ktup ys) : GivesB K (fun xs H Q => ∃ p ys, xs = [.ref p] ∧ ((SqL K H p ys ∧ ∀ l, H l = none → Q (.ref l) (upd H l (.tup ys))) ∨ (SqT K H p ys ∧ Q (.ref p) H))) [d] (· = .tup xs) := fun B G H vs s r Q q1 q2 => by
  cases r with
  | cons r rs =>
    cases rs
    cases r with
    | lst hq rr =>
      obtain rfl := Option.some.inj hd
      exact ⟨_, _, rfl, .inl ⟨sq_of (s.ex _ _ hq), fun l hl => q2 l _ _ hl rfl (.tup upd_same (rr.up (Ex.new (fresh_back s.ex hl))))⟩⟩
    | tup hq rr => obtain rfl := Option.some.inj hd; exact ⟨_, _, rfl, .inr ⟨ex_t s.ex (st_of hq), q1 _ _ rfl (.tup hq rr)⟩⟩
    | klst hq rr =>
      obtain rfl := Option.some.inj hd
      exact ⟨_, _, rfl, .inl ⟨ex_l s.ex hq, fun l hl => q2 l _ _ hl rfl (.tup upd_same (rr.up (Ex.new (fresh_back s.ex hl))))⟩⟩
    | ktup hq rr => exact absurd rfl (hk _)
    | _ => cases hd
theorem gb_list {xs : List D} {d : D} (hd : itemsD d = some xs) : GivesB K (fun xs H Q => ∃ p ys, xs = [.ref p] ∧ (SqL K H p ys ∨ SqT K H p ys) ∧ ∀ l, H l = none → Q (.ref l) (upd H l (.lst ys))) [d] (· = .lst xs) := fun B G H vs s r Q q1 q2 => by
  cases r with
  | cons r rs =>
    cases rs
    cases r with
    | lst hq rr =>
      obtain rfl := Option.some.inj hd
      exact ⟨_, _, rfl, .inl (sq_of (s.ex _ _ hq)), fun l hl => q2 l _ _ hl rfl (.lst upd_same (rr.up (Ex.new (fresh_back s.ex hl))))⟩
    | tup hq rr =>
      obtain rfl := Option.some.inj hd
      exact ⟨_, _, rfl, .inr (ex_t s.ex (st_of hq)), fun l hl => q2 l _ _ hl rfl (.lst upd_same (rr.up (Ex.new (fresh_back s.ex hl))))⟩
    | klst hq rr =>
      obtain rfl := Option.some.inj hd
      exact ⟨_, _, rfl, .inl (ex_l s.ex hq), fun l hl => q2 l _ _ hl rfl (.lst upd_same (rr.up (Ex.new (fresh_back s.ex hl))))⟩
    | ktup hq rr =>
      obtain rfl := Option.some.inj hd
      exact ⟨_, _, rfl, .inr (ex_t s.ex hq), fun l hl => q2 l _ _ hl rfl (.lst upd_same (rr.up (Ex.new (fresh_back s.ex hl))))⟩
    | _ => cases hd
theorem gb_sorted {ns : List Int} : GivesB K (rSortedI K) [.lst (ns.map D.int)] (fun d => ∃ ns' : List Int, ns'.Perm ns ∧ ns'.Pairwise (· ≤ ·) ∧ d = .lst (ns'.map D.int)) := fun B G H vs s r Q q1 q2 => by
  cases r with
  | cons r rs =>
    cases rs
    cases r with
    | lst hq rr =>
      have e := reps_int rr
      subst e
      exact ⟨_, ns, rfl, sq_of (s.ex _ _ hq), fun ns' p h1 h2 hp => q2 p _ _ hp ⟨ns', h1, h2, rfl⟩ (.lst upd_same (int_reps ns'))⟩
theorem gb_any {bs : List Bool} : GivesB K (rAny K) [.lst (bs.map D.bl)] (· = .bl (bs.any id)) := fun B G H vs s r Q q1 q2 => by
  cases r with
  | cons r rs =>
    cases rs
    cases r with
    | lst hq rr => have e := reps_bl rr; subst e; exact ⟨_, bs, rfl, sq_of (s.ex _ _ hq), q1 _ _ rfl (.bl _)⟩
theorem gb_all {bs : List Bool} : GivesB K (rAll K) [.lst (bs.map D.bl)] (· = .bl (bs.all id)) := fun B G H vs s r Q q1 q2 => by
  cases r with
  | cons r rs =>
    cases rs
    cases r with
    | lst hq rr => have e := reps_bl rr; subst e; exact ⟨_, bs, rfl, sq_of (s.ex _ _ hq), q1 _ _ rfl (.bl _)⟩
theorem gb_int {n : Int} : GivesB K (fun xs H Q => (∃ i, xs = [.int i] ∧ Q (.int i) H) ∨ ∃ k, xs = [.bl k] ∧ Q (.int (if k then 1 else 0)) H) [.int n] (· = .int n) := fun B G H vs s r Q q1 q2 => by
  cases r with
  | cons r rs => cases rs; cases r; exact .inl ⟨n, rfl, q1 _ _ rfl (.int _)⟩
theorem gb_min2 {i j : Int} : GivesB K (fun xs H Q => ∃ i j, xs = [.int i, .int j] ∧ Q (.int (if j < i then j else i)) H) [.int i, .int j] (· = .int (if j < i then j else i)) := fun B G H vs s r Q q1 q2 => by
  cases r with
  | cons r rs => cases rs with | cons r2 rs => cases rs; cases r; cases r2; exact ⟨i, j, rfl, q1 _ _ rfl (.int _)⟩
end
/-! ### in, not in -/
section
variable {X : Cx} {Z : Zx} {a b e : Expr} {ρ : En} {Φ : D → En → Prop} {Ψ : Bool → En → Prop} {p pos apos ps : Pos} {x : Str} {O : Outs} {sts : List Stmt}
theorem inV_int {n : Int} : ∀ {ns : List Int}, inV (.int n) (ns.map V.int) = decide (n ∈ ns)
  | [] => rfl
  | m :: ns => by
    have ih := inV_int (n := n) (ns := ns)
    unfold inV at ih ⊢
    rw [List.map_cons, List.any_cons, ih]
    by_cases h : n = m
    · subst h; simp [eqV]
    · have h' : ¬ m = n := fun z => h z.symm
      simp [eqV, h, h']
theorem flat_int : ∀ {ns : List Int}, (ns.map V.int).all flatV = true
  | [] => rfl
  | m :: ns => by rw [List.map_cons, List.all_cons, flat_int (ns := ns)]; rfl
theorem g_inI {K : PySem.W.Frag} {neg : Bool} {n : Int} {ns : List Int} {d : D} (hd : itemsD d = some (ns.map D.int)) : Gives K (rIn K neg) (.int n) d (.bl (if neg then !decide (n ∈ ns) else decide (n ∈ ns))) := fun B G H x y s r1 r2 => by
  cases r1
  refine ⟨_, .bl _, fun Q q => ?_⟩
  cases r2 with
  | lst hq rr =>
    obtain rfl := Option.some.inj hd
    have e := reps_int rr
    subst e
    exact ⟨_, _, rfl, .inl (sq_of (s.ex _ _ hq)), rfl, flat_int, by rw [inV_int]; exact q⟩
  | tup hq rr =>
    obtain rfl := Option.some.inj hd
    have e := reps_int rr
    subst e
    exact ⟨_, _, rfl, .inr (ex_t s.ex (st_of hq)), rfl, flat_int, by rw [inV_int]; exact q⟩
  | klst hq rr =>
    obtain rfl := Option.some.inj hd
    have e := reps_int rr
    subst e
    exact ⟨_, _, rfl, .inl (ex_l s.ex hq), rfl, flat_int, by rw [inV_int]; exact q⟩
  | ktup hq rr =>
    obtain rfl := Option.some.inj hd
    have e := reps_int rr
    subst e
    exact ⟨_, _, rfl, .inr (ex_t s.ex hq), rfl, flat_int, by rw [inV_int]; exact q⟩
  | _ => cases hd
theorem ec_inI (h : EC X Z a ρ fun d ρ1 => EC X Z b ρ1 fun d' ρ2 => ∃ (n : Int) (ns : List Int), d = .int n ∧ itemsD d' = some (ns.map D.int) ∧ Φ (.bl (decide (n ∈ ns))) ρ2) (hm : behindInMarks .In b = false := by rfl) : EC X Z (.Compare a [.In] [b] pos) ρ Φ :=
  ec_cmp op_in_seq hm (h.mono fun d ρ1 z => z.mono fun d' ρ2 ⟨n, ns, e1, e2, k⟩ => by subst e1; exact ⟨_, g_inI (neg := false) e2, k⟩)
theorem ec_niI (h : EC X Z a ρ fun d ρ1 => EC X Z b ρ1 fun d' ρ2 => ∃ (n : Int) (ns : List Int), d = .int n ∧ itemsD d' = some (ns.map D.int) ∧ Φ (.bl (!decide (n ∈ ns))) ρ2) (hm : behindInMarks .NotIn b = false := by rfl) : EC X Z (.Compare a [.NotIn] [b] pos) ρ Φ :=
  ec_cmp op_notIn_seq hm (h.mono fun d ρ1 z => z.mono fun d' ρ2 ⟨n, ns, e1, e2, k⟩ => by subst e1; exact ⟨_, g_inI (neg := true) e2, k⟩)
theorem tc_inI (h : EC X Z a ρ fun d ρ1 => EC X Z b ρ1 fun d' ρ2 => ∃ (n : Int) (ns : List Int), d = .int n ∧ itemsD d' = some (ns.map D.int) ∧ Ψ (decide (n ∈ ns)) ρ2) (hm : behindInMarks .In b = false := by rfl) : TC X Z (.Compare a [.In] [b] pos) ρ Ψ :=
  tc_op op_in_seq hm (h.mono fun d ρ1 z => z.mono fun d' ρ2 ⟨n, ns, e1, e2, k⟩ => by subst e1; exact ⟨_, g_inI (neg := false) e2, k⟩)
theorem tc_niI (h : EC X Z a ρ fun d ρ1 => EC X Z b ρ1 fun d' ρ2 => ∃ (n : Int) (ns : List Int), d = .int n ∧ itemsD d' = some (ns.map D.int) ∧ Ψ (!decide (n ∈ ns)) ρ2) (hm : behindInMarks .NotIn b = false := by rfl) : TC X Z (.Compare a [.NotIn] [b] pos) ρ Ψ :=
  tc_op op_notIn_seq hm (h.mono fun d ρ1 z => z.mono fun d' ρ2 ⟨n, ns, e1, e2, k⟩ => by subst e1; exact ⟨_, g_inI (neg := true) e2, k⟩)
end
end AL
namespace AL
open PySem PySem.Spec PyProof.Rows L2 Evl
/-! ### comprehensions of two clauses -/
theorem nwipe {ρ : En} {Dl : Addr} (hnn : ∀ (j : Nat) (q : OO), ρ[j]? ≠ some (some (Sl.ow Dl q))) : ∀ (vs : List Nat) (j : Nat) (q : OO), (wipeE ρ vs)[j]? ≠ some (some (Sl.ow Dl q)) := by
  intro vs
  induction vs with
  | nil => exact hnn
  | cons v vs ih =>
    intro j q hj
    have hj' : ((wipeE ρ vs).set v none)[j]? = some (some (Sl.ow Dl q)) := hj
    rw [getq_set] at hj'
    split at hj'
    · simp at hj'
    · split at hj'
      · simp at hj'
      · exact ih j q hj'
theorem wipeE_out {ρ : En} {i : Nat} : ∀ {vs : List Nat}, i ∉ vs → (wipeE ρ vs)[i]? = ρ[i]?
  | [], _ => rfl
  | v :: vs, h => by
    show ((wipeE ρ vs).set v none)[i]? = _
    have hv : ¬ v = i := fun z => h (by simp [z])
    rw [getq_set, if_neg (fun z => hv z.1), if_neg hv]
    exact wipeE_out fun z => h (List.mem_cons_of_mem _ z)
theorem upd_self {H : Hp} {a : Addr} {u : HO} (h : H a = some u) : upd H a u = H := by
  funext b
  by_cases hb : b = a
  · subst hb; rw [upd_same, h]
  · rw [upd_ne hb]
section
variable {X : Cx} {Z : Zx} {elt tg iter tg1 iter1 cnd : Expr} {scope : Scope} {pos spos py : Pos} {ρ : En} {Φ : OO → En → Prop} {O : Outs} {sts : List Stmt} {y : Str}
theorem fc_lc2_te (own : List (Str × Nat)) (js vs1 js1 : List Nat) (h : IC X Z tg iter ρ fun ds ρ1 => ∃ (out : Nat → List D), out 0 = [] ∧ (∀ i, i ≤ ds.length → (out i).length ≤ 50000) ∧
      (∀ i d, ds[i]? = some d → AllB X scope fun X1 => GT X1 tg js d (wipeE ρ1 (own.map (·.2))) fun ρ3 => AllB X scope fun X2 => IC X2 Z0 tg1 iter1 ρ3 fun es ρ4 => wipeE (wipeE ρ4 vs1) (own.map (·.2)) = wipeE ρ1 (own.map (·.2)) ∧
        ∃ inn : Nat → List D, inn 0 = [] ∧ (∀ j, j ≤ es.length → (inn j).length ≤ 40000) ∧ out (i + 1) = out i ++ inn es.length ∧
        ∀ j e, es[j]? = some e → AllB X scope fun X3 => GT X3 tg1 js1 e (wipeE ρ4 vs1) fun ρ5 => AllB X scope fun X4 => EC X4 Z0 elt ρ5 fun y ρ6 => inn (j + 1) = inn j ++ [y] ∧ wipeE ρ6 vs1 = wipeE ρ4 vs1) ∧
      (∀ (j : Nat) (a : Addr) (o : OO), ρ1[j]? = some (some (Sl.ow a o)) → j ∉ own.map (·.2)) ∧ Φ (.l (out ds.length)) ρ1)
    (hjs : ∀ j ∈ js, j ∈ own.map (·.2)) (hvs : ∀ j ∈ vs1, j ∈ own.map (·.2)) (hjs1 : ∀ j ∈ js1, j ∈ vs1) : FT X Z (tLc2 (wI X tg iter) (fun v σ H Q => AllB X scope fun X' => wG X' tg v σ H Q) (tYes) (fun σ H R => AllB X scope fun X' => wI X' tg1 iter1 σ H R) (fun v σ H Q => AllB X scope fun X' => wG X' tg1 v σ H Q) (tYes) (fun σ H Q => AllB X scope fun X' => wE X' elt σ H Q) (own.map (·.2)) vs1) ρ Φ := fun B G H σ o z Q q => by
  refine h B G H σ o z _ fun ds ρ1 J B1 H1 ⟨out, ho, hl, ht, hno, hk⟩ e1 o1 wk => ?_
  intro Dl hD
  obtain ⟨of, hBn, hGn, hnn⟩ := o1.fresh (u := .lst []) hD
  have hB1 : B1 Dl = none := fresh_back o1.s.ex hD
  have hG1 := fresh_back o1.s.eg hD
  have ow0 := of.wipe (own.map (·.2))
  have nw := nwipe hnn (own.map (·.2))
  refine ⟨fun i m H' => m = ds.length - i ∧ i ≤ ds.length ∧ ∃ B' u, Ex B1 B' ∧ Ok X.K B' G H' (L2.wipe σ (own.map (·.2))) (wipeE ρ1 (own.map (·.2))) ∧ B' Dl = none ∧ H' Dl = some (.lst u) ∧ Reps X.K B' u (out i), ⟨_, rfl, Nat.zero_le _, B1, [], Ex.refl _, ow0, hB1, upd_same, by rw [ho]; exact .nil⟩, ?_⟩
  rintro i m H' ⟨rfl, hi, B', u, e', o', hb', hu', r'⟩
  have oh := o'.hold hb' hu' nw
  by_cases hlt : i < ds.length
  · have hget : ds[i]? = some ds[i] := by simp [hlt]
    obtain ⟨g1, g2⟩ := (wk i B' _ H' _ _ e' oh).1 _ hget
    refine .inr ⟨g1, fun H' => ∃ B' u, Ex B1 B' ∧ Ok X.K B' G H' (L2.wipe σ (own.map (·.2))) (wipeE ρ1 (own.map (·.2))) ∧ B' Dl = none ∧ H' Dl = some (.lst u) ∧ Reps X.K B' u (out (i + 1)), fun H' x => ⟨ds.length - (i + 1), by omega, rfl, hlt, x⟩, fun x H2 y => ?_⟩
    obtain ⟨B3, e3, o3, r3⟩ := g2 x H2 y
    intro s H0 C cl fp
    refine ht i _ hget s H0 C cl fp B3 _ H2 _ x o3 r3 _ fun ρ3 σ3 B4 H4 h4 ag e4 o4 => ?_
    have hw : L2.wipe σ3 (own.map (·.2)) = L2.wipe (L2.wipe σ (own.map (·.2))) (own.map (·.2)) := Agree.wipe ⟨ag.1, fun k hk => ag.2 k fun z => hk (hjs k z)⟩
    rw [wipe_wipe] at hw
    refine ⟨hw, ?_⟩
    show (AllB X scope fun X' => wI X' tg1 iter1 σ3 H4 _)
    intro s5 H5 C5 cl5 fp5
    refine h4 s5 H5 C5 cl5 fp5 B4 _ H4 σ3 o4 RC.none _ fun es ρ4 J1 B6 H6 ⟨hρ4, inn, hi0, hil, hio, hin⟩ e6 o6 wk1 => ?_
    obtain ⟨l1, l2, l3, l4⟩ := o6.letGo hG1
    have e16 : Ex B' B6 := (e3.trans e4).trans e6
    have ow1 : Ok X.K B6 G H6 (L2.wipe σ3 vs1) (wipeE ρ4 vs1) := by
      have z5 := (l4 (.lst u) rfl).wipe vs1
      rwa [upd_self l2] at z5
    have nw1 := nwipe l3 vs1
    refine ⟨fun j m H' => m = es.length - j ∧ j ≤ es.length ∧ ∃ B' u, Ex B6 B' ∧ Ok X.K B' G H' (L2.wipe σ3 vs1) (wipeE ρ4 vs1) ∧ B' Dl = none ∧ H' Dl = some (.lst u) ∧ Reps X.K B' u (out i ++ inn j), ⟨_, rfl, Nat.zero_le _, B6, u, Ex.refl _, ow1, l1, l2, by rw [hi0, List.append_nil]; exact r'.up e16⟩, ?_⟩
    rintro j m H7 ⟨rfl, hj, B7, u7, e7, o7, hb7, hu7, r7⟩
    have oh7 := o7.hold hb7 hu7 nw1
    by_cases hlt1 : j < es.length
    · have hget1 : es[j]? = some es[j] := by simp [hlt1]
      obtain ⟨g3, g4⟩ := (wk1 j B7 _ H7 _ _ e7 oh7).1 _ hget1
      refine .inr ⟨g3, fun H' => ∃ B' u, Ex B6 B' ∧ Ok X.K B' G H' (L2.wipe σ3 vs1) (wipeE ρ4 vs1) ∧ B' Dl = none ∧ H' Dl = some (.lst u) ∧ Reps X.K B' u (out i ++ inn (j + 1)), fun H' x => ⟨es.length - (j + 1), by omega, rfl, hlt1, x⟩, fun x H8 y => ?_⟩
      obtain ⟨B8, e8, o8, r8⟩ := g4 x H8 y
      intro s H0 C cl fp
      refine hin j _ hget1 s H0 C cl fp B8 _ H8 _ x o8 r8 _ fun ρ5 σ5 B9 H9 h9 ag9 e9 o9 => ?_
      have hw9 : L2.wipe σ5 vs1 = L2.wipe (L2.wipe σ3 vs1) vs1 := Agree.wipe ⟨ag9.1, fun k hk => ag9.2 k fun z => hk (hjs1 k z)⟩
      rw [wipe_wipe] at hw9
      have hlo := hl i hi
      have hli := hil j hj
      refine ⟨hw9, ?_⟩
      show (AllB X scope fun X' => wE X' elt σ5 H9 _)
      intro s11 H11 C11 cl11 fp11
      refine h9 s11 H11 C11 cl11 fp11 B9 _ H9 σ5 o9 RC.none _ fun y ρ6 v B10 H10 ⟨hy, hR⟩ e10 o10 r10 => ?_
      obtain ⟨m1, m2, m3, m4⟩ := o10.letGo hG1
      have e710 : Ex B7 B10 := (e8.trans e9).trans e10
      refine ⟨u7, m2, sz_lt (by rw [r7.length]; simp; omega), B10, u7 ++ [v], e7.trans e710, ?_, m1, upd_same, by rw [hy, ← List.append_assoc]; exact (r7.up e710).app (.cons r10 .nil)⟩
      have z5 := (m4 (.lst (u7 ++ [v])) rfl).wipe vs1
      rw [hw9, hR] at z5
      exact z5
    · have hjj : j = es.length := by omega
      subst hjj
      refine .inl ⟨(wk1 _ B7 G H7 _ _ e7 o7).2 (Nat.le_refl _), B7, u7, (e'.trans e16).trans e7, ?_, hb7, hu7, by rw [hio]; exact r7⟩
      have z5 := o7.wipe (own.map (·.2))
      rw [hρ4, Agree.wipe (σ := σ3) ⟨wipe_length σ3 vs1, fun k hk => wipe_out (fun z => hk (hvs k z))⟩, hw] at z5
      exact z5
  · have hii : i = ds.length := by omega
    subst hii
    have hb : BackE ρ1 (wipeE ρ1 (own.map (·.2))) ρ1 := ⟨rfl, fun i d h => h, fun i a w h => ⟨by rw [wipeE_out (hno i a w h)]; exact h, _, h⟩⟩
    exact .inl ⟨(wk _ B' G H' _ _ e' o').2 (Nat.le_refl _), q _ ρ1 Dl _ B' H' hk (e1.trans e') (o1.back e' o' hb) hb' hG1 hu' hnn r'⟩
theorem fc_lc2 (own : List (Str × Nat)) (js vs1 js1 : List Nat) (h : IC X Z tg iter ρ fun ds ρ1 => ∃ (out : Nat → List D), out 0 = [] ∧ (∀ i, i ≤ ds.length → (out i).length ≤ 50000) ∧
      (∀ i d, ds[i]? = some d → AllB X scope fun X1 => GT X1 tg js d (wipeE ρ1 (own.map (·.2))) fun ρ3 => AllB X scope fun X2 => IC X2 Z0 tg1 iter1 ρ3 fun es ρ4 => wipeE (wipeE ρ4 vs1) (own.map (·.2)) = wipeE ρ1 (own.map (·.2)) ∧
        ∃ inn : Nat → List D, inn 0 = [] ∧ (∀ j, j ≤ es.length → (inn j).length ≤ 40000) ∧ out (i + 1) = out i ++ inn es.length ∧
        ∀ j e, es[j]? = some e → AllB X scope fun X3 => GT X3 tg1 js1 e (wipeE ρ4 vs1) fun ρ5 => AllB X scope fun X4 => EC X4 Z0 elt ρ5 fun y ρ6 => inn (j + 1) = inn j ++ [y] ∧ wipeE ρ6 vs1 = wipeE ρ4 vs1) ∧
      (∀ (j : Nat) (a : Addr) (o : OO), ρ1[j]? = some (some (Sl.ow a o)) → j ∉ own.map (·.2)) ∧ Φ (.l (out ds.length)) ρ1)
    (nd : X.N.Nodup) (hjs : ∀ j ∈ js, j ∈ own.map (·.2)) (hvs : ∀ j ∈ vs1, j ∈ own.map (·.2)) (hjs1 : ∀ j ∈ js1, j ∈ vs1) (ok : BlkOk X.N X.env.scope scope own := by exact blkOk_by (by first | decide +kernel | kernel_rfl)) (hc : X.calm = true := by rfl) (hs : ∀ x, foldedSetIterable iter X.env x = pure x := by intro _; rfl) (hs1 : ∀ env x, foldedSetIterable iter1 env x = pure x := by intro _ _; rfl) :
    FC X Z (.ListComp elt [⟨tg, iter, [], 0⟩, ⟨tg1, iter1, [], 0⟩] scope pos) ρ Φ := fun B G H σ o z Q q => (pe_lc2 (g := fun v σ H Q => AllB X scope fun X' => wG X' tg v σ H Q) (tt := tYes) (g1 := fun v σ H Q => AllB X scope fun X' => wG X' tg1 v σ H Q) (tt1 := tYes) (te := fun σ H Q => AllB X scope fun X' => wE X' elt σ H Q) (wi1 := fun σ H R => AllB X scope fun X' => wI X' tg1 iter1 σ H R) (vs1 := vs1) hc nd p_wI ok hvs
    (fun s H C cl fp => ⟨fun pins s2 σ2 H2 v u Q2 I r h => h s H C cl fp pins s2 u I r⟩) (fun _ _ _ _ _ => pts_nil) (fun s H C cl fp => ⟨fun pins s2 σ2 H2 R2 I h => h s H C cl fp pins s2 I⟩)
    (fun s H C cl fp => ⟨fun pins s2 σ2 H2 v u Q2 I r h => h s H C cl fp pins s2 u I r⟩) (fun _ _ _ _ _ => pts_nil)
    (fun s H C cl fp => ⟨fun pins s2 σ2 H2 Q2 I h => h s H C cl fp pins s2 I⟩) hs hs1).w (fc_lc2_te own js vs1 js1 h hjs hvs hjs1 B G H σ o z Q q)
/-- the same, assigned -/
theorem sc_lc2 (i : Nat) (own : List (Str × Nat)) (js vs1 js1 : List Nat) (h : IC X Z tg iter ρ fun ds ρ1 => ∃ (out : Nat → List D), out 0 = [] ∧ (∀ i, i ≤ ds.length → (out i).length ≤ 50000) ∧
      (∀ i d, ds[i]? = some d → AllB X scope fun X1 => GT X1 tg js d (wipeE ρ1 (own.map (·.2))) fun ρ3 => AllB X scope fun X2 => IC X2 Z0 tg1 iter1 ρ3 fun es ρ4 => wipeE (wipeE ρ4 vs1) (own.map (·.2)) = wipeE ρ1 (own.map (·.2)) ∧
        ∃ inn : Nat → List D, inn 0 = [] ∧ (∀ j, j ≤ es.length → (inn j).length ≤ 40000) ∧ out (i + 1) = out i ++ inn es.length ∧
        ∀ j e, es[j]? = some e → AllB X scope fun X3 => GT X3 tg1 js1 e (wipeE ρ4 vs1) fun ρ5 => AllB X scope fun X4 => EC X4 Z0 elt ρ5 fun y ρ6 => inn (j + 1) = inn j ++ [y] ∧ wipeE ρ6 vs1 = wipeE ρ4 vs1) ∧
      (∀ (j : Nat) (a : Addr) (o : OO), ρ1[j]? = some (some (Sl.ow a o)) → j ∉ own.map (·.2)) ∧ ∀ p, SC X Z sts (ρ1.set i (some (.ow p (.l (out ds.length))))) O)
    (nd : X.N.Nodup) (hjs : ∀ j ∈ js, j ∈ own.map (·.2)) (hvs : ∀ j ∈ vs1, j ∈ own.map (·.2)) (hjs1 : ∀ j ∈ js1, j ∈ vs1) (ok : BlkOk X.N X.env.scope scope own := by exact blkOk_by (by first | decide +kernel | kernel_rfl)) (hc : X.calm = true := by rfl) (hs : ∀ x, foldedSetIterable iter X.env x = pure x := by intro _; rfl) (hs1 : ∀ env x, foldedSetIterable iter1 env x = pure x := by intro _ _; rfl)
    (hy : X.N[i]? = some y := by rfl) (hyl : X.env.scope.names.lookup y = some .local := by rfl) (hsw : swapsWith (.ListComp elt [⟨tg, iter, [], 0⟩, ⟨tg1, iter1, [], 0⟩] scope pos) (some (.Name y py)) spos.line X.env = pure true := by rfl) :
    SC X Z (.Assign [.Name y py] (.ListComp elt [⟨tg, iter, [], 0⟩, ⟨tg1, iter1, [], 0⟩] scope pos) spos :: sts) ρ O :=
  sc_of (ps_setLc2 (g := fun v σ H Q => AllB X scope fun X' => wG X' tg v σ H Q) (tt := tYes) (g1 := fun v σ H Q => AllB X scope fun X' => wG X' tg1 v σ H Q) (tt1 := tYes) (te := fun σ H Q => AllB X scope fun X' => wE X' elt σ H Q) (wi1 := fun σ H R => AllB X scope fun X' => wI X' tg1 iter1 σ H R) (vs1 := vs1) hc nd hy hyl hsw p_wI ok hvs
    (fun s H C cl fp => ⟨fun pins s2 σ2 H2 v u Q2 I r h => h s H C cl fp pins s2 u I r⟩) (fun _ _ _ _ _ => pts_nil) (fun s H C cl fp => ⟨fun pins s2 σ2 H2 R2 I h => h s H C cl fp pins s2 I⟩)
    (fun s H C cl fp => ⟨fun pins s2 σ2 H2 v u Q2 I r h => h s H C cl fp pins s2 u I r⟩) (fun _ _ _ _ _ => pts_nil)
    (fun s H C cl fp => ⟨fun pins s2 σ2 H2 Q2 I h => h s H C cl fp pins s2 I⟩) hs hs1) fun B G H σ Dd o z sv => fc_lc2_te (Φ := fun oo ρ2 => ∀ p, SC X Z sts (ρ2.set i (some (.ow p oo))) O) own js vs1 js1 h hjs hvs hjs1 B G H σ o z _ fun oo ρ1 p u B1 H1 h1 e1 o1 hb hg hu hn r1 => (h1 p).go (o1.set_ow hb hg hu r1 fun j q hj => absurd hj (hn j q)) z sv e1

theorem fc_lc2If_te (own : List (Str × Nat)) (js vs1 js1 : List Nat) (h : IC X Z tg iter ρ fun ds ρ1 => ∃ (out : Nat → List D), out 0 = [] ∧ (∀ i, i ≤ ds.length → (out i).length ≤ 50000) ∧
      (∀ i d, ds[i]? = some d → AllB X scope fun X1 => GT X1 tg js d (wipeE ρ1 (own.map (·.2))) fun ρ3 => AllB X scope fun X2 => IC X2 Z0 tg1 iter1 ρ3 fun es ρ4 => wipeE (wipeE ρ4 vs1) (own.map (·.2)) = wipeE ρ1 (own.map (·.2)) ∧
        ∃ inn : Nat → List D, inn 0 = [] ∧ (∀ j, j ≤ es.length → (inn j).length ≤ 40000) ∧ out (i + 1) = out i ++ inn es.length ∧
        ∀ j e, es[j]? = some e → AllB X scope fun X3 => GT X3 tg1 js1 e (wipeE ρ4 vs1) fun ρ5 => AllB X scope fun X4 => TC X4 Z0 cnd ρ5 fun k ρ7 => (k = true → AllB X scope fun X4 => EC X4 Z0 elt ρ7 fun y ρ6 => inn (j + 1) = inn j ++ [y] ∧ wipeE ρ6 vs1 = wipeE ρ4 vs1) ∧ (k = false → inn (j + 1) = inn j ∧ wipeE ρ7 vs1 = wipeE ρ4 vs1)) ∧
      (∀ (j : Nat) (a : Addr) (o : OO), ρ1[j]? = some (some (Sl.ow a o)) → j ∉ own.map (·.2)) ∧ Φ (.l (out ds.length)) ρ1)
    (hjs : ∀ j ∈ js, j ∈ own.map (·.2)) (hvs : ∀ j ∈ vs1, j ∈ own.map (·.2)) (hjs1 : ∀ j ∈ js1, j ∈ vs1) : FT X Z (tLc2 (wI X tg iter) (fun v σ H Q => AllB X scope fun X' => wG X' tg v σ H Q) (tYes) (fun σ H R => AllB X scope fun X' => wI X' tg1 iter1 σ H R) (fun v σ H Q => AllB X scope fun X' => wG X' tg1 v σ H Q) (fun σ H Q => AllB X scope fun X' => wT X' cnd σ H Q) (fun σ H Q => AllB X scope fun X' => wE X' elt σ H Q) (own.map (·.2)) vs1) ρ Φ := fun B G H σ o z Q q => by
  refine h B G H σ o z _ fun ds ρ1 J B1 H1 ⟨out, ho, hl, ht, hno, hk⟩ e1 o1 wk => ?_
  intro Dl hD
  obtain ⟨of, hBn, hGn, hnn⟩ := o1.fresh (u := .lst []) hD
  have hB1 : B1 Dl = none := fresh_back o1.s.ex hD
  have hG1 := fresh_back o1.s.eg hD
  have ow0 := of.wipe (own.map (·.2))
  have nw := nwipe hnn (own.map (·.2))
  refine ⟨fun i m H' => m = ds.length - i ∧ i ≤ ds.length ∧ ∃ B' u, Ex B1 B' ∧ Ok X.K B' G H' (L2.wipe σ (own.map (·.2))) (wipeE ρ1 (own.map (·.2))) ∧ B' Dl = none ∧ H' Dl = some (.lst u) ∧ Reps X.K B' u (out i), ⟨_, rfl, Nat.zero_le _, B1, [], Ex.refl _, ow0, hB1, upd_same, by rw [ho]; exact .nil⟩, ?_⟩
  rintro i m H' ⟨rfl, hi, B', u, e', o', hb', hu', r'⟩
  have oh := o'.hold hb' hu' nw
  by_cases hlt : i < ds.length
  · have hget : ds[i]? = some ds[i] := by simp [hlt]
    obtain ⟨g1, g2⟩ := (wk i B' _ H' _ _ e' oh).1 _ hget
    refine .inr ⟨g1, fun H' => ∃ B' u, Ex B1 B' ∧ Ok X.K B' G H' (L2.wipe σ (own.map (·.2))) (wipeE ρ1 (own.map (·.2))) ∧ B' Dl = none ∧ H' Dl = some (.lst u) ∧ Reps X.K B' u (out (i + 1)), fun H' x => ⟨ds.length - (i + 1), by omega, rfl, hlt, x⟩, fun x H2 y => ?_⟩
    obtain ⟨B3, e3, o3, r3⟩ := g2 x H2 y
    intro s H0 C cl fp
    refine ht i _ hget s H0 C cl fp B3 _ H2 _ x o3 r3 _ fun ρ3 σ3 B4 H4 h4 ag e4 o4 => ?_
    have hw : L2.wipe σ3 (own.map (·.2)) = L2.wipe (L2.wipe σ (own.map (·.2))) (own.map (·.2)) := Agree.wipe ⟨ag.1, fun k hk => ag.2 k fun z => hk (hjs k z)⟩
    rw [wipe_wipe] at hw
    refine ⟨hw, ?_⟩
    show (AllB X scope fun X' => wI X' tg1 iter1 σ3 H4 _)
    intro s5 H5 C5 cl5 fp5
    refine h4 s5 H5 C5 cl5 fp5 B4 _ H4 σ3 o4 RC.none _ fun es ρ4 J1 B6 H6 ⟨hρ4, inn, hi0, hil, hio, hin⟩ e6 o6 wk1 => ?_
    obtain ⟨l1, l2, l3, l4⟩ := o6.letGo hG1
    have e16 : Ex B' B6 := (e3.trans e4).trans e6
    have ow1 : Ok X.K B6 G H6 (L2.wipe σ3 vs1) (wipeE ρ4 vs1) := by
      have z5 := (l4 (.lst u) rfl).wipe vs1
      rwa [upd_self l2] at z5
    have nw1 := nwipe l3 vs1
    refine ⟨fun j m H' => m = es.length - j ∧ j ≤ es.length ∧ ∃ B' u, Ex B6 B' ∧ Ok X.K B' G H' (L2.wipe σ3 vs1) (wipeE ρ4 vs1) ∧ B' Dl = none ∧ H' Dl = some (.lst u) ∧ Reps X.K B' u (out i ++ inn j), ⟨_, rfl, Nat.zero_le _, B6, u, Ex.refl _, ow1, l1, l2, by rw [hi0, List.append_nil]; exact r'.up e16⟩, ?_⟩
    rintro j m H7 ⟨rfl, hj, B7, u7, e7, o7, hb7, hu7, r7⟩
    have oh7 := o7.hold hb7 hu7 nw1
    by_cases hlt1 : j < es.length
    · have hget1 : es[j]? = some es[j] := by simp [hlt1]
      obtain ⟨g3, g4⟩ := (wk1 j B7 _ H7 _ _ e7 oh7).1 _ hget1
      refine .inr ⟨g3, fun H' => ∃ B' u, Ex B6 B' ∧ Ok X.K B' G H' (L2.wipe σ3 vs1) (wipeE ρ4 vs1) ∧ B' Dl = none ∧ H' Dl = some (.lst u) ∧ Reps X.K B' u (out i ++ inn (j + 1)), fun H' x => ⟨es.length - (j + 1), by omega, rfl, hlt1, x⟩, fun x H8 y => ?_⟩
      obtain ⟨B8, e8, o8, r8⟩ := g4 x H8 y
      intro s H0 C cl fp
      refine hin j _ hget1 s H0 C cl fp B8 _ H8 _ x o8 r8 _ fun ρ5 σ5 B9 H9 h9 ag9 e9 o9 => ?_
      have hw9 : L2.wipe σ5 vs1 = L2.wipe (L2.wipe σ3 vs1) vs1 := Agree.wipe ⟨ag9.1, fun k hk => ag9.2 k fun z => hk (hjs1 k z)⟩
      rw [wipe_wipe] at hw9
      have hlo := hl i hi
      have hli := hil j hj
      refine ⟨hw9, ?_⟩
      show (AllB X scope fun X' => wT X' cnd σ5 H9 _)
      intro s11 H11 C11 cl11 fp11
      refine h9 s11 H11 C11 cl11 fp11 B9 _ H9 σ5 o9 RC.none _ fun k ρ7 B12 H12 ⟨hk1, hk2⟩ e12 o12 => ?_
      cases k with
      | true =>
        rw [if_pos rfl]
        show (AllB X scope fun X' => wE X' elt σ5 H12 _)
        intro s11 H11 C11 cl11 fp11
        refine hk1 rfl s11 H11 C11 cl11 fp11 B12 _ H12 σ5 o12 RC.none _ fun y ρ6 v B10 H10 ⟨hy, hR⟩ e10 o10 r10 => ?_
        obtain ⟨m1, m2, m3, m4⟩ := o10.letGo hG1
        have e710 : Ex B7 B10 := ((e8.trans e9).trans e12).trans e10
        refine ⟨u7, m2, sz_lt (by rw [r7.length]; simp; omega), B10, u7 ++ [v], e7.trans e710, ?_, m1, upd_same, by rw [hy, ← List.append_assoc]; exact (r7.up e710).app (.cons r10 .nil)⟩
        have z5 := (m4 (.lst (u7 ++ [v])) rfl).wipe vs1
        rw [hw9, hR] at z5
        exact z5
      | false =>
        rw [if_neg Bool.false_ne_true]
        obtain ⟨hy, hR⟩ := hk2 rfl
        obtain ⟨m1, m2, m3, m4⟩ := o12.letGo hG1
        have e712 : Ex B7 B12 := (e8.trans e9).trans e12
        refine ⟨B12, u7, e7.trans e712, ?_, m1, m2, by rw [hy]; exact r7.up e712⟩
        have z5 := (m4 (.lst u7) rfl).wipe vs1
        rw [hw9, hR, upd_self m2] at z5
        exact z5
    · have hjj : j = es.length := by omega
      subst hjj
      refine .inl ⟨(wk1 _ B7 G H7 _ _ e7 o7).2 (Nat.le_refl _), B7, u7, (e'.trans e16).trans e7, ?_, hb7, hu7, by rw [hio]; exact r7⟩
      have z5 := o7.wipe (own.map (·.2))
      rw [hρ4, Agree.wipe (σ := σ3) ⟨wipe_length σ3 vs1, fun k hk => wipe_out (fun z => hk (hvs k z))⟩, hw] at z5
      exact z5
  · have hii : i = ds.length := by omega
    subst hii
    have hb : BackE ρ1 (wipeE ρ1 (own.map (·.2))) ρ1 := ⟨rfl, fun i d h => h, fun i a w h => ⟨by rw [wipeE_out (hno i a w h)]; exact h, _, h⟩⟩
    exact .inl ⟨(wk _ B' G H' _ _ e' o').2 (Nat.le_refl _), q _ ρ1 Dl _ B' H' hk (e1.trans e') (o1.back e' o' hb) hb' hG1 hu' hnn r'⟩
theorem fc_lc2If (own : List (Str × Nat)) (js vs1 js1 : List Nat) (h : IC X Z tg iter ρ fun ds ρ1 => ∃ (out : Nat → List D), out 0 = [] ∧ (∀ i, i ≤ ds.length → (out i).length ≤ 50000) ∧
      (∀ i d, ds[i]? = some d → AllB X scope fun X1 => GT X1 tg js d (wipeE ρ1 (own.map (·.2))) fun ρ3 => AllB X scope fun X2 => IC X2 Z0 tg1 iter1 ρ3 fun es ρ4 => wipeE (wipeE ρ4 vs1) (own.map (·.2)) = wipeE ρ1 (own.map (·.2)) ∧
        ∃ inn : Nat → List D, inn 0 = [] ∧ (∀ j, j ≤ es.length → (inn j).length ≤ 40000) ∧ out (i + 1) = out i ++ inn es.length ∧
        ∀ j e, es[j]? = some e → AllB X scope fun X3 => GT X3 tg1 js1 e (wipeE ρ4 vs1) fun ρ5 => AllB X scope fun X4 => TC X4 Z0 cnd ρ5 fun k ρ7 => (k = true → AllB X scope fun X4 => EC X4 Z0 elt ρ7 fun y ρ6 => inn (j + 1) = inn j ++ [y] ∧ wipeE ρ6 vs1 = wipeE ρ4 vs1) ∧ (k = false → inn (j + 1) = inn j ∧ wipeE ρ7 vs1 = wipeE ρ4 vs1)) ∧
      (∀ (j : Nat) (a : Addr) (o : OO), ρ1[j]? = some (some (Sl.ow a o)) → j ∉ own.map (·.2)) ∧ Φ (.l (out ds.length)) ρ1)
    (nd : X.N.Nodup) (hjs : ∀ j ∈ js, j ∈ own.map (·.2)) (hvs : ∀ j ∈ vs1, j ∈ own.map (·.2)) (hjs1 : ∀ j ∈ js1, j ∈ vs1) (ok : BlkOk X.N X.env.scope scope own := by exact blkOk_by (by first | decide +kernel | kernel_rfl)) (hc : X.calm = true := by rfl) (hs : ∀ x, foldedSetIterable iter X.env x = pure x := by intro _; rfl) (hs1 : ∀ env x, foldedSetIterable iter1 env x = pure x := by intro _ _; rfl) :
    FC X Z (.ListComp elt [⟨tg, iter, [], 0⟩, ⟨tg1, iter1, [cnd], 0⟩] scope pos) ρ Φ := fun B G H σ o z Q q => (pe_lc2 (g := fun v σ H Q => AllB X scope fun X' => wG X' tg v σ H Q) (tt := tYes) (g1 := fun v σ H Q => AllB X scope fun X' => wG X' tg1 v σ H Q) (tt1 := fun σ H Q => AllB X scope fun X' => wT X' cnd σ H Q) (te := fun σ H Q => AllB X scope fun X' => wE X' elt σ H Q) (wi1 := fun σ H R => AllB X scope fun X' => wI X' tg1 iter1 σ H R) (vs1 := vs1) hc nd p_wI ok hvs
    (fun s H C cl fp => ⟨fun pins s2 σ2 H2 v u Q2 I r h => h s H C cl fp pins s2 u I r⟩) (fun _ _ _ _ _ => pts_nil) (fun s H C cl fp => ⟨fun pins s2 σ2 H2 R2 I h => h s H C cl fp pins s2 I⟩)
    (fun s H C cl fp => ⟨fun pins s2 σ2 H2 v u Q2 I r h => h s H C cl fp pins s2 u I r⟩) (fun s H C cl fp => pts_one ⟨fun pins s2 σ2 H2 Q2 I h => h s H C cl fp pins s2 I⟩)
    (fun s H C cl fp => ⟨fun pins s2 σ2 H2 Q2 I h => h s H C cl fp pins s2 I⟩) hs hs1).w (fc_lc2If_te own js vs1 js1 h hjs hvs hjs1 B G H σ o z Q q)
/-- the same, assigned -/
theorem sc_lc2If (i : Nat) (own : List (Str × Nat)) (js vs1 js1 : List Nat) (h : IC X Z tg iter ρ fun ds ρ1 => ∃ (out : Nat → List D), out 0 = [] ∧ (∀ i, i ≤ ds.length → (out i).length ≤ 50000) ∧
      (∀ i d, ds[i]? = some d → AllB X scope fun X1 => GT X1 tg js d (wipeE ρ1 (own.map (·.2))) fun ρ3 => AllB X scope fun X2 => IC X2 Z0 tg1 iter1 ρ3 fun es ρ4 => wipeE (wipeE ρ4 vs1) (own.map (·.2)) = wipeE ρ1 (own.map (·.2)) ∧
        ∃ inn : Nat → List D, inn 0 = [] ∧ (∀ j, j ≤ es.length → (inn j).length ≤ 40000) ∧ out (i + 1) = out i ++ inn es.length ∧
        ∀ j e, es[j]? = some e → AllB X scope fun X3 => GT X3 tg1 js1 e (wipeE ρ4 vs1) fun ρ5 => AllB X scope fun X4 => TC X4 Z0 cnd ρ5 fun k ρ7 => (k = true → AllB X scope fun X4 => EC X4 Z0 elt ρ7 fun y ρ6 => inn (j + 1) = inn j ++ [y] ∧ wipeE ρ6 vs1 = wipeE ρ4 vs1) ∧ (k = false → inn (j + 1) = inn j ∧ wipeE ρ7 vs1 = wipeE ρ4 vs1)) ∧
      (∀ (j : Nat) (a : Addr) (o : OO), ρ1[j]? = some (some (Sl.ow a o)) → j ∉ own.map (·.2)) ∧ ∀ p, SC X Z sts (ρ1.set i (some (.ow p (.l (out ds.length))))) O)
    (nd : X.N.Nodup) (hjs : ∀ j ∈ js, j ∈ own.map (·.2)) (hvs : ∀ j ∈ vs1, j ∈ own.map (·.2)) (hjs1 : ∀ j ∈ js1, j ∈ vs1) (ok : BlkOk X.N X.env.scope scope own := by exact blkOk_by (by first | decide +kernel | kernel_rfl)) (hc : X.calm = true := by rfl) (hs : ∀ x, foldedSetIterable iter X.env x = pure x := by intro _; rfl) (hs1 : ∀ env x, foldedSetIterable iter1 env x = pure x := by intro _ _; rfl)
    (hy : X.N[i]? = some y := by rfl) (hyl : X.env.scope.names.lookup y = some .local := by rfl) (hsw : swapsWith (.ListComp elt [⟨tg, iter, [], 0⟩, ⟨tg1, iter1, [cnd], 0⟩] scope pos) (some (.Name y py)) spos.line X.env = pure true := by rfl) :
    SC X Z (.Assign [.Name y py] (.ListComp elt [⟨tg, iter, [], 0⟩, ⟨tg1, iter1, [cnd], 0⟩] scope pos) spos :: sts) ρ O :=
  sc_of (ps_setLc2 (g := fun v σ H Q => AllB X scope fun X' => wG X' tg v σ H Q) (tt := tYes) (g1 := fun v σ H Q => AllB X scope fun X' => wG X' tg1 v σ H Q) (tt1 := fun σ H Q => AllB X scope fun X' => wT X' cnd σ H Q) (te := fun σ H Q => AllB X scope fun X' => wE X' elt σ H Q) (wi1 := fun σ H R => AllB X scope fun X' => wI X' tg1 iter1 σ H R) (vs1 := vs1) hc nd hy hyl hsw p_wI ok hvs
    (fun s H C cl fp => ⟨fun pins s2 σ2 H2 v u Q2 I r h => h s H C cl fp pins s2 u I r⟩) (fun _ _ _ _ _ => pts_nil) (fun s H C cl fp => ⟨fun pins s2 σ2 H2 R2 I h => h s H C cl fp pins s2 I⟩)
    (fun s H C cl fp => ⟨fun pins s2 σ2 H2 v u Q2 I r h => h s H C cl fp pins s2 u I r⟩) (fun s H C cl fp => pts_one ⟨fun pins s2 σ2 H2 Q2 I h => h s H C cl fp pins s2 I⟩)
    (fun s H C cl fp => ⟨fun pins s2 σ2 H2 Q2 I h => h s H C cl fp pins s2 I⟩) hs hs1) fun B G H σ Dd o z sv => fc_lc2If_te (Φ := fun oo ρ2 => ∀ p, SC X Z sts (ρ2.set i (some (.ow p oo))) O) own js vs1 js1 h hjs hvs hjs1 B G H σ o z _ fun oo ρ1 p u B1 H1 h1 e1 o1 hb hg hu hn r1 => (h1 p).go (o1.set_ow hb hg hu r1 fun j q hj => absurd hj (hn j q)) z sv e1

end
end AL
namespace AL
open PySem PySem.Spec PyProof.Rows L2 Evl
section
variable {X : Cx} {Z : Zx} {e a b tg : Expr} {es : List Expr} {ρ : En} {Φ : D → En → Prop} {Ψ : Bool → En → Prop} {p p1 p2 p3 pos apos ps tpos : Pos} {x : Str} {O : Outs} {sts : List Stmt}
/-- isinstance(e, (list, tuple)) -/
theorem ec_isiLT {x1} (h : EC X Z e ρ fun d ρ1 => isObj d = false ∧ Φ (.bl (isLstD d || isTupD d)) ρ1) (hm : X.mg "isinstance" = none) (hm2 : X.mg "list" = none) (hm3 : X.mg "tuple" = none) (hg : Gl X "isinstance" := by rfl) (hg2 : Gl X "list" := by rfl) (hg3 : Gl X "tuple" := by rfl)
    (hs1 : starEach [e, .Tuple [.Name "list" p1, .Name "tuple" p2] x1 p3] X.env = (false, eval e X.env) :: starEach [.Tuple [.Name "list" p1, .Name "tuple" p2] x1 p3] X.env := by rfl) (hs2 : starEach [.Tuple [.Name "list" p1, .Name "tuple" p2] x1 p3] X.env = (false, eval (.Tuple [.Name "list" p1, .Name "tuple" p2] x1 p3) X.env) :: starEach [] X.env := by rfl)
    (hs3 : starEach [.Name "list" p1, .Name "tuple" p2] X.env = (false, eval (.Name "list" p1) X.env) :: starEach [.Name "tuple" p2] X.env := by rfl) (hs4 : starEach [.Name "tuple" p2] X.env = (false, eval (.Name "tuple" p2) X.env) :: starEach [] X.env := by rfl)
    (hpl : (backTo pos (starEach [.Tuple [.Name "list" p1, .Name "tuple" p2] x1 p3] X.env)).any (·.1) = false := by rfl) : EC X Z (.Call (.Name "isinstance" p) [e, .Tuple [.Name "list" p1, .Name "tuple" p2] x1 p3] [] pos) ρ Φ := fun B G H σ o z Q q =>
  (pe_callB call_isiT hg hm (by rfl) (pa_cons p_wE (pa_cons (pe_tup (pa_cons (pe_bltn (v := .ty "list") hg2 hm2 (by rfl) rfl) (pa_cons (pe_bltn (v := .ty "tuple") hg3 hm3 (by rfl) rfl) pa_nil hs4) hs3)) pa_nil hs2) hs1) (he := hs1) (hpl := hpl)).w
    (h B G H σ o z _ fun d ρ1 v B1 H1 ⟨ho, h1⟩ e1 o1 r1 => ⟨by show 2 ≤ sizeLine; decide, fun t ht => by
      obtain ⟨e2, o2⟩ := o1.grow (u := .tup [V.ty "list", V.ty "tuple"]) ht
      refine ⟨v, t, _, .type (tyN d), [.type "list", .type "tuple"], isLstD d || isTupD d, rfl, upd_same, .cons (.ty "list") (.cons (.ty "tuple") .nil), tyx_of o2.s (r1.up e2) ho, ?_, q _ ρ1 _ _ _ h1 (e1.trans e2) o2 (.bl _)⟩
      have k1 : PySem.W.kitOne X.K (.type (tyN d)) (.type "list") = some (isLstD d) := kit_ty (kit_lst d ho)
      have k2 : PySem.W.kitOne X.K (.type (tyN d)) (.type "tuple") = some (isTupD d) := kit_ty (kit_tup d ho)
      unfold PySem.W.kitAny
      rw [k1]
      cases isLstD d with
      | true => rfl
      | false =>
        show PySem.W.kitAny X.K _ [.type "tuple"] = _
        unfold PySem.W.kitAny
        rw [k2]
        cases isTupD d <;> rfl⟩)
/-! ### dicts of one's own -/
/-- {} -/
theorem fc_dict {Θ : OO → En → Prop} (h : Θ (.k []) ρ) : FC X Z (.Dict [] [] pos) ρ Θ := fun B G H σ o z Q q =>
  pe_dnewK.w (fun d hd => by
    obtain ⟨o2, hb, hg, hn⟩ := o.fresh (u := .dK []) hd
    exact q _ ρ d _ B _ h (Ex.refl B) o2 hb hg upd_same hn .nil)
end
section
variable {K : PySem.W.Frag} {B : Hp}
theorem RepK.len {κ : Type} : ∀ {kvs : List (κ × V)} {kds : List (κ × D)}, RepK K B kvs kds → kvs.length = kds.length
  | _, _, .nil => rfl
  | _, _, .cons _ r => by simp [RepK.len r]
theorem RepK.keys {κ : Type} : ∀ {kvs : List (κ × V)} {kds : List (κ × D)}, RepK K B kvs kds → kvs.map (·.1) = kds.map (·.1)
  | _, _, .nil => rfl
  | _, _, .cons h r => by simp [RepK.keys r, h.1]
/-- the value at a key -/
def getK {κ : Type} [DecidableEq κ] (k : κ) : List (κ × D) → Option D
  | [] => none
  | (j, d) :: r => if j = k then some d else getK k r
/-- d[k] = v -/
def setK {κ : Type} [DecidableEq κ] (k : κ) (v : D) : List (κ × D) → List (κ × D)
  | [] => [(k, v)]
  | (j, d) :: r => if j = k then (j, v) :: r else (j, d) :: setK k v r
end
end AL
namespace AL
open PySem PySem.Spec PyProof.Rows L2 Evl
section
variable {K : PySem.W.Frag} {B : Hp} {κ : Type} [DecidableEq κ]
def valD (kds : List (κ × D)) (k : κ) : Option D := (kds.find? fun kv => decide (kv.1 = k)).map (·.2)
def putKD (kds : List (κ × D)) (k : κ) (d : D) : List (κ × D) :=
  if (kds.any fun kv => decide (kv.1 = k)) = true then kds.map (fun kv => if kv.1 = k then (kv.1, d) else kv) else kds ++ [(k, d)]
abbrev ksD (kds : List (κ × D)) : List κ := kds.map (·.1)
theorem RepK.any {k : κ} : ∀ {kvs : List (κ × V)} {kds : List (κ × D)}, RepK K B kvs kds → (kvs.any fun kv => decide (kv.1 = k)) = (kds.any fun kv => decide (kv.1 = k))
  | _, _, .nil => rfl
  | _, _, .cons h r => by rw [List.any_cons, List.any_cons, h.1, RepK.any r]
theorem RepK.val {k : κ} : ∀ {kvs : List (κ × V)} {kds : List (κ × D)}, RepK K B kvs kds → (valV kvs k = none ∧ valD kds k = none) ∨ ∃ v d, valV kvs k = some v ∧ valD kds k = some d ∧ Rep K B v d
  | _, _, .nil => .inl ⟨rfl, rfl⟩
  | _, _, .cons (a := a) (b := b) (l₁ := l1) (l₂ := l2) h r => by
    by_cases e : a.1 = k
    · have e' : b.1 = k := h.1.symm.trans e
      exact .inr ⟨a.2, b.2, valV_pos e, by unfold valD; rw [List.find?_cons_of_pos (by simpa using e')]; rfl, h.2⟩
    · have e' : ¬ b.1 = k := fun z => e (h.1.trans z)
      have q1 : valV (a :: l1) k = valV l1 k := valV_neg (r := l1) e
      have q2 : valD (b :: l2) k = valD l2 k := by unfold valD; rw [List.find?_cons_of_neg (by simpa using e')]
      rw [q1, q2]
      exact RepK.val r
theorem RepK.app : ∀ {kvs ws : List (κ × V)} {kds es : List (κ × D)}, RepK K B kvs kds → RepK K B ws es → RepK K B (kvs ++ ws) (kds ++ es)
  | _, _, _, _, .nil, s => s
  | _, _, _, _, .cons h r, s => .cons h (RepK.app r s)
theorem RepK.mapk {k : κ} {v : V} {d : D} (r : Rep K B v d) : ∀ {kvs : List (κ × V)} {kds : List (κ × D)}, RepK K B kvs kds → RepK K B (kvs.map fun kv => if kv.1 = k then (kv.1, v) else kv) (kds.map fun kv => if kv.1 = k then (kv.1, d) else kv)
  | _, _, .nil => .nil
  | _, _, .cons (a := a) (b := b) h0 hs => by
    refine .cons ?_ (RepK.mapk r hs)
    show (if a.1 = k then (a.1, v) else a).1 = (if b.1 = k then (b.1, d) else b).1 ∧ Rep K B (if a.1 = k then (a.1, v) else a).2 (if b.1 = k then (b.1, d) else b).2
    by_cases e : a.1 = k
    · have e' : b.1 = k := h0.1.symm.trans e
      rw [if_pos e, if_pos e']; exact ⟨h0.1, r⟩
    · have e' : ¬ b.1 = k := fun z => e (h0.1.trans z)
      rw [if_neg e, if_neg e']; exact h0
theorem RepK.put {k : κ} {v : V} {d : D} {kvs : List (κ × V)} {kds : List (κ × D)} (h : RepK K B kvs kds) (r : Rep K B v d) : RepK K B (putK kvs k v) (putKD kds k d) := by
  unfold putK putKD
  rw [h.any]
  split
  · exact RepK.mapk r h
  · exact h.app (.cons ⟨rfl, r⟩ .nil)
theorem valD_some {kds : List (κ × D)} {k : κ} : (valD kds k).isSome = decide (k ∈ ksD kds) := by
  induction kds with
  | nil => rfl
  | cons p r ih =>
    by_cases e : p.1 = k
    · unfold valD; rw [List.find?_cons_of_pos (by simpa using e)]; simp [e]
    · have : valD (p :: r) k = valD r k := by unfold valD; rw [List.find?_cons_of_neg (by simpa using e)]
      rw [this, ih]
      have e2 : ¬ k = p.1 := fun z => e z.symm
      simp [e2]
theorem putKD_new {kds : List (κ × D)} {k : κ} {d : D} (h : k ∉ kds.map (·.1)) : putKD kds k d = kds ++ [(k, d)] := by
  unfold putKD
  rw [if_neg]
  intro z
  rw [List.any_eq_true] at z
  obtain ⟨p, hp, e⟩ := z
  exact h (List.mem_map.mpr ⟨p, hp, by simpa using e⟩)
end
/-- a datum that may be a key: an int, a text -/
def keyD : D → Option Key
  | .int i => some (.inl i)
  | .str s => some (.inr s)
  | _ => none
theorem key_rep {K : PySem.W.Frag} {B : Hp} {v : V} {d : D} {k : Key} (r : Rep K B v d) (h : keyD d = some k) : v = kV k := by
  cases r <;> simp [keyD] at h <;> (subst h; rfl)
/-- .. a tuple of such -/
def keysD : List D → Option (List Key)
  | [] => some []
  | d :: ds => match keyD d, keysD ds with
    | some k, some ks => some (k :: ks)
    | _, _ => none
theorem keys_reps {K : PySem.W.Frag} {B : Hp} : ∀ {ds : List D} {vs : List V} {ks : List Key}, Reps K B vs ds → keysD ds = some ks → vs = ks.map kV
  | [], _, _, .nil, h => by cases h; rfl
  | d :: ds, _, ks, .cons r rs, h => by
    unfold keysD at h
    split at h
    · rename_i k ks' h1 h2
      cases h
      rw [key_rep r h1, keys_reps rs h2]; rfl
    · cases h
section
variable {X : Cx} {Z : Zx} {e a b tg : Expr} {es : List Expr} {ρ : En} {Φ : D → En → Prop} {Ψ : Bool → En → Prop} {p p1 pos pos2 ps : Pos} {x : Str} {O : Outs} {sts : List Stmt}
/-- k in x, x a dict of one's own (ints and texts) -/
theorem ec_dinK (i : Nat) (hu : X.A.units + 1 < cLine) (h : EC X Z a ρ fun d ρ1 => ∃ (q : Addr) (kds : List (Key × D)) (k : Key), ρ1[i]? = some (some (.ow q (.k kds))) ∧ keyD d = some k ∧ Φ (.bl ((valD kds k).isSome)) ρ1) (hN : X.N[i]? = some x := by rfl)
    (hv : Vis X.env.scope x := by first | exact Or.inl rfl | exact Or.inr (Or.inl rfl) | exact Or.inr (Or.inr rfl)) (hdb : (x == ("__debug__" : Str)) = false := by decide) (hcd : (x == ("__classdict__" : Str)) = false := by decide) (hm : behindInMarks .In (.Name x ps) = false := by rfl) : EC X Z (.Compare a [.In] [.Name x ps] pos) ρ Φ := fun B G H σ o z Q q =>
  (pe_cmp (pc_din hu p_wE (pe_var hN hv hdb hcd)) hm).w (h B G H σ o z _ fun d ρ1 v B1 H1 ⟨aq, kds, k, hd, hk, h1⟩ e1 o1 r1 => by
    obtain ⟨g1, _, _, u, g4, g5⟩ := o1.ow i aq _ hd
    cases u with
    | dK kvs =>
      have ev := key_rep r1 hk
      subst ev
      refine ⟨_, g1, aq, valV kvs k, rfl, DGet.k g4, ?_⟩
      have : (valV kvs k).isSome = (valD kds k).isSome := by
        rcases RepK.val (k := k) g5 with ⟨q1, q2⟩ | ⟨_, _, q1, q2, _⟩ <;> rw [q1, q2] <;> rfl
      rw [this]
      exact q _ ρ1 _ B1 H1 h1 e1 o1 (.bl _)
    | _ => exact False.elim g5)
theorem tc_dinK (i : Nat) (hu : X.A.units + 1 < cLine) (h : EC X Z a ρ fun d ρ1 => ∃ (q : Addr) (kds : List (Key × D)) (k : Key), ρ1[i]? = some (some (.ow q (.k kds))) ∧ keyD d = some k ∧ Ψ ((valD kds k).isSome) ρ1) (hN : X.N[i]? = some x := by rfl)
    (hv : Vis X.env.scope x := by first | exact Or.inl rfl | exact Or.inr (Or.inl rfl) | exact Or.inr (Or.inr rfl)) (hdb : (x == ("__debug__" : Str)) = false := by decide) (hcd : (x == ("__classdict__" : Str)) = false := by decide) (hm : behindInMarks .In (.Name x ps) = false := by rfl) : TC X Z (.Compare a [.In] [.Name x ps] pos) ρ Ψ := fun B G H σ o z Q q =>
  (pt_cmp (pc_din hu p_wE (pe_var hN hv hdb hcd)) hm).w (h B G H σ o z _ fun d ρ1 v B1 H1 ⟨aq, kds, k, hd, hk, h1⟩ e1 o1 r1 => by
    obtain ⟨g1, _, _, u, g4, g5⟩ := o1.ow i aq _ hd
    cases u with
    | dK kvs =>
      have ev := key_rep r1 hk
      subst ev
      refine ⟨_, g1, aq, valV kvs k, rfl, DGet.k g4, _, rfl, ?_⟩
      have : (valV kvs k).isSome = (valD kds k).isSome := by
        rcases RepK.val (k := k) g5 with ⟨q1, q2⟩ | ⟨_, _, q1, q2, _⟩ <;> rw [q1, q2] <;> rfl
      rw [this]
      exact q _ ρ1 B1 H1 h1 e1 o1
    | _ => exact False.elim g5)
/-- k in x, x a dict of one's own (tuples of ints and texts) -/
theorem tc_dinT (i : Nat) (hu : X.A.units + 1 < cLine) (h : EC X Z a ρ fun d ρ1 => ∃ (q : Addr) (kds : List (List Key × D)) (ds : List D) (ks : List Key), ρ1[i]? = some (some (.ow q (.t kds))) ∧ d = .tup ds ∧ keysD ds = some ks ∧ Ψ ((valD kds ks).isSome) ρ1) (hN : X.N[i]? = some x := by rfl)
    (hv : Vis X.env.scope x := by first | exact Or.inl rfl | exact Or.inr (Or.inl rfl) | exact Or.inr (Or.inr rfl)) (hdb : (x == ("__debug__" : Str)) = false := by decide) (hcd : (x == ("__classdict__" : Str)) = false := by decide) (hm : behindInMarks .In (.Name x ps) = false := by rfl) : TC X Z (.Compare a [.In] [.Name x ps] pos) ρ Ψ := fun B G H σ o z Q q =>
  (pt_cmp (pc_din hu p_wE (pe_var hN hv hdb hcd)) hm).w (h B G H σ o z _ fun d ρ1 v B1 H1 ⟨aq, kds, ds, ks, hd, hdt, hk, h1⟩ e1 o1 r1 => by
    subst hdt
    obtain ⟨g1, _, _, u, g4, g5⟩ := o1.ow i aq _ hd
    cases u with
    | dT kvs =>
      cases r1 with
      | tup hq rr =>
        have ev := keys_reps rr hk
        subst ev
        refine ⟨_, g1, aq, valV kvs ks, rfl, DGet.t g4 (o1.s.ex _ _ hq), _, rfl, ?_⟩
        have : (valV kvs ks).isSome = (valD kds ks).isSome := by
          rcases RepK.val (k := ks) g5 with ⟨q1, q2⟩ | ⟨_, _, q1, q2, _⟩ <;> rw [q1, q2] <;> rfl
        rw [this]
        exact q _ ρ1 B1 H1 h1 e1 o1
    | _ => exact False.elim g5)
/-- x[k] = e -/
theorem sc_dputK (i : Nat) (hu : X.A.units + 1 < cLine) (h : EC X Z e ρ fun d ρ1 => EC X Z a ρ1 fun d' ρ2 => ∃ q kds k, ρ2[i]? = some (some (.ow q (.k kds))) ∧ keyD d' = some k ∧ kds.length < 100000 ∧ SC X Z sts (ρ2.set i (some (.ow q (.k (putKD kds k d))))) O)
    (hs : swapsWith e (some (.Subscript (.Name x ps) a p1)) pos.line X.env = pure false := by rfl) (hN : X.N[i]? = some x := by rfl) (hex : ∃ q kds, ρ[i]? = some (some (.ow q (.k kds))))
    (hv : Vis X.env.scope x := by first | exact Or.inl rfl | exact Or.inr (Or.inl rfl) | exact Or.inr (Or.inr rfl)) (hdb : (x == ("__debug__" : Str)) = false := by decide) (hcd : (x == ("__classdict__" : Str)) = false := by decide) : SC X Z (.Assign [.Subscript (.Name x ps) a p1] e pos :: sts) ρ O :=
  sc_of (ps_dput hu (pe_var hN hv hdb hcd) p_wE p_wE hs) fun B G H σ Dd o z s => by
    obtain ⟨ad0, kds0, hd0⟩ := hex
    obtain ⟨g0, _⟩ := o.ow i ad0 _ hd0
    refine h B G H σ o z _ fun d ρ1 v B1 H1 h1 e1 o1 r1 => ⟨_, g0, h1 B1 G H1 σ o1 (z.up e1) _ fun d' ρ2 w B2 H2 ⟨aq, kds, k, hd, hk, hl, h2⟩ e2 o2 r2 => ?_⟩
    obtain ⟨g1, _, _, u, g4, g5⟩ := o2.ow i aq _ hd
    rw [g0] at g1
    cases g1
    cases u with
    | dK kvs =>
      have ev := key_rep r2 hk
      subst ev
      exact ⟨_, _, rfl, DPut.k g4 (sz_lt (by rw [RepK.len g5]; exact hl)), h2.go (o2.upd_ow (u' := .dK (putK kvs k v)) (o' := .k (putKD kds k d)) hd (RepK.put g5 (r1.up e2))) z s (e1.trans e2)⟩
    | _ => exact False.elim g5
theorem sc_dputT (i : Nat) (hu : X.A.units + 1 < cLine) (h : EC X Z e ρ fun d ρ1 => EC X Z a ρ1 fun d' ρ2 => ∃ q kds ds ks, ρ2[i]? = some (some (.ow q (.t kds))) ∧ d' = .tup ds ∧ keysD ds = some ks ∧ kds.length < 100000 ∧ SC X Z sts (ρ2.set i (some (.ow q (.t (putKD kds ks d))))) O)
    (hs : swapsWith e (some (.Subscript (.Name x ps) a p1)) pos.line X.env = pure false := by rfl) (hN : X.N[i]? = some x := by rfl) (hex : ∃ q kds, ρ[i]? = some (some (.ow q (.t kds))))
    (hv : Vis X.env.scope x := by first | exact Or.inl rfl | exact Or.inr (Or.inl rfl) | exact Or.inr (Or.inr rfl)) (hdb : (x == ("__debug__" : Str)) = false := by decide) (hcd : (x == ("__classdict__" : Str)) = false := by decide) : SC X Z (.Assign [.Subscript (.Name x ps) a p1] e pos :: sts) ρ O :=
  sc_of (ps_dput hu (pe_var hN hv hdb hcd) p_wE p_wE hs) fun B G H σ Dd o z s => by
    obtain ⟨ad0, kds0, hd0⟩ := hex
    obtain ⟨g0, _⟩ := o.ow i ad0 _ hd0
    refine h B G H σ o z _ fun d ρ1 v B1 H1 h1 e1 o1 r1 => ⟨_, g0, h1 B1 G H1 σ o1 (z.up e1) _ fun d' ρ2 w B2 H2 ⟨aq, kds, ds, ks, hd, hdt, hk, hl, h2⟩ e2 o2 r2 => ?_⟩
    subst hdt
    obtain ⟨g1, _, _, u, g4, g5⟩ := o2.ow i aq _ hd
    rw [g0] at g1
    cases g1
    cases u with
    | dT kvs =>
      cases r2 with
      | tup hq rr =>
        have ev := keys_reps rr hk
        subst ev
        exact ⟨_, _, rfl, DPut.t g4 (o2.s.ex _ _ hq) (sz_lt (by rw [RepK.len g5]; exact hl)), h2.go (o2.upd_ow (u' := .dT (putK kvs ks v)) (o' := .t (putKD kds ks d)) hd (RepK.put g5 (r1.up e2))) z s (e1.trans e2)⟩
    | _ => exact False.elim g5
/-- {} whose keys will be tuples -/
theorem fc_dictT {Θ : OO → En → Prop} (h : Θ (.t []) ρ) : FC X Z (.Dict [] [] pos) ρ Θ := fun B G H σ o z Q q =>
  pe_dnewT.w (fun d hd => by
    obtain ⟨o2, hb, hg, hn⟩ := o.fresh (u := .dT []) hd
    exact q _ ρ d _ B _ h (Ex.refl B) o2 hb hg upd_same hn .nil)
/-- sorted(x), x a dict of one's own whose keys are ints -/
theorem ec_sortedK (i : Nat) {kds : List (Key × D)} {ad : Addr} {ns : List Int} (hd : ρ[i]? = some (some (.ow ad (.k kds)))) (hk : kds.map (·.1) = ns.map Sum.inl) (hl : ns.length < 64) (h : ∀ ns' : List Int, ns'.Perm ns → ns'.Pairwise (· ≤ ·) → Φ (.lst (ns'.map D.int)) ρ) (hm : X.mg "sorted" = none)
    (hc : X.calm = true := by rfl) (hg : Gl X "sorted" := by rfl) (hN : X.N[i]? = some x := by rfl) (hv : Vis X.env.scope x := by first | exact Or.inl rfl | exact Or.inr (Or.inl rfl) | exact Or.inr (Or.inr rfl)) (hdb : (x == ("__debug__" : Str)) = false := by decide) (hcd : (x == ("__classdict__" : Str)) = false := by decide)
    (he : starEach [.Name x ps] X.env = (false, eval (.Name x ps) X.env) :: starEach [] X.env := by rfl) (hpl : (backTo pos (starEach [] X.env)).any (·.1) = false := by rfl) : EC X Z (.Call (.Name "sorted" p) [.Name x ps] [] pos) ρ Φ := fun B G H σ o z Q q => by
  obtain ⟨g1, _, _, u, g4, g5⟩ := o.ow i ad _ hd
  cases u with
  | dK kvs =>
    refine (pe_callB (call_sortedDI hc) hg hm boot_sorted (pa_cons (pe_var hN hv hdb hcd) pa_nil he) (he := he) (hpl := hpl)).w ⟨_, g1, ad, kvs, ns, rfl, .of g4, by rw [RepK.keys g5]; exact hk, hl, fun ys p' h1 h2 hp => ?_⟩
    obtain ⟨e2, o2⟩ := o.grow (u := .lst (ys.map V.int)) hp
    exact q _ ρ _ _ _ (h ys h1 h2) e2 o2 (.lst upd_same (int_reps ys))
  | _ => exact False.elim g5
end
end AL
namespace L2
open PySem PySem.Spec PyProof.Rows
section
variable {P : Program} {w : World} {A : Around} {E : Value → Shared → Prop} {s : Shared}
theorem setsQuiet_ints {l : List Addr} {Q : Bool → Shared → Prop} (h : ∀ a ∈ l, ∃ S n, SetR w s.heap a S n) (hq : Q true s) : wpAny (model P w) A (setsQuiet l) Q E s := by
  unfold setsQuiet
  refine wpAny_bind (wpAny_forIn_list _ (fun rest b s' => s = s' ∧ b = ⟨none, ()⟩ ∧ ∀ a ∈ rest, ∃ S n, SetR w s.heap a S n) _ ?_ ?_ _ _ ⟨rfl, rfl, h⟩)
  · rintro a rest _ _ ⟨rfl, rfl, hr⟩
    obtain ⟨S, n, o, es, ep, t, ho, hx, hd, g, nd, hm, hb, hf, hn, _⟩ := hr a List.mem_cons_self
    unfold setEntries
    refine wpAny_bind (wpAny_bind (wpAny_setState_of ho hd hf (wpAny_pure ?_)))
    dsimp only
    refine wpAny_bind (wpAny_forIn_array' _ (fun rest b s' => s = s' ∧ b = ⟨none, ()⟩ ∧ ∀ e ∈ rest, GoodE e) _ ?_ ?_ _ _ ⟨rfl, rfl, g⟩)
    · rintro ⟨hh, v⟩ rest' _ _ ⟨rfl, rfl, gr⟩
      obtain ⟨k, tk, h1, _⟩ := gr _ List.mem_cons_self
      dsimp only at h1
      subst h1
      exact wpAny_pure ⟨rfl, rfl, fun e he => gr e (List.mem_cons_of_mem _ he)⟩
    · rintro _ _ ⟨rfl, rfl, _⟩
      exact wpAny_pure ⟨rfl, rfl, fun e he => hr e (List.mem_cons_of_mem _ he)⟩
  · rintro _ _ ⟨rfl, rfl, _⟩
    exact wpAny_pure hq
/-- a walk of a set of ints that nobody sees, to fill another one -/
theorem walkUnseen_ints {a r : Addr} {others : List Addr} {S Sr : Int → Bool} {n m : Nat} {Q : Array (Int × Value) → Shared → Prop} (R : SetR w s.heap a S n) (Rr : SetR w s.heap r Sr m) (hne : r ≠ a) (ho : ∀ b ∈ others, ∃ S n, SetR w s.heap b S n)
    (hQ : ∀ (out : Array (Int × Value)) h', Heap.SameBut r s.heap h' → SetR w h' r Sr m → (∀ e ∈ out.toList, GoodE e) → (out.toList.map keyOf).Nodup → (∀ k, S k = true ↔ k ∈ out.toList.map keyOf) → out.size = n → Q out { s with heap := h' }) :
    wpAny (model P w) A (setWalkUnseen a others (some r)) Q E s := by
  have R0 := R
  obtain ⟨o, es, ep, t, hoa, hx, hd, g, nd, hm, hb, hf, hn, hr, hl⟩ := R
  have same : Q es s := hQ es s.heap (Heap.SameBut.refl r s.heap) Rr g nd hm hn
  unfold setWalkUnseen
  refine wpAny_bind (wpAny_setState_of hoa hd hf ?_)
  dsimp only
  refine wpAny_bind (wpAny_byText ?_)
  cases hbt : w.params.followText "set-order" with
  | true =>
    refine wp_if_pos (by rfl) ?_
    show wpAny (model P w) A (setWalk a) Q E s
    unfold setWalk
    refine wpAny_bind (wpAny_setState_of hoa hd hf ?_)
    dsimp only
    refine wpAny_bind (wpAny_byText ?_)
    refine wp_if_pos hbt ?_
    refine wpAny_bind (wpAny_askSetting (wpAny_pure ?_))
    have pm := pick_perm (w.params.setOrder a ep) es
    have pk := pm.map keyOf
    exact hQ _ s.heap (Heap.SameBut.refl r s.heap) Rr (fun e he => g e (pm.mem_iff.mp he)) (pk.nodup_iff.mpr nd) (fun k => (hm k).trans pk.mem_iff.symm) ((Array.length_toList.symm.trans (pm.length_eq.trans Array.length_toList)).trans hn)
  | false =>
    have hled : t.led = true := by
      rcases hl with z | z
      · rw [hbt] at z; cases z
      · exact z
    by_cases hc : (t.plain || decide (es.size ≤ 1)) = true
    · refine wp_if_pos (by rw [hled]; simpa using hc) ?_
      show wpAny (model P w) A (setWalk a) Q E s
      unfold setWalk
      refine wpAny_bind (wpAny_setState_of hoa hd hf ?_)
      dsimp only
      refine wpAny_bind (wpAny_byText ?_)
      refine wp_if_neg (by rw [hbt]; exact Bool.false_ne_true) ?_
      try refine wpAny_bind (wpAny_pure ?_)
      refine wp_if_neg ?_ ?_
      · show ¬ ((!t.plain && decide (es.size > 1)) = true)
        cases hp : t.plain with
        | true => simp
        | false => rw [hp] at hc; simp at hc; simp; omega
      try refine wpAny_bind (wpAny_pure ?_)
      refine wpAny_bind (wpAny_of_eq (a := ()) ?_ (wpAny_pure same))
      show (if (!t.led && decide (es.size > 1)) = true then unsupported "set:maker-not-led" else pure ()) = pure ()
      rw [hled] <;> rfl
    · refine wp_if_neg (by rw [hled]; simpa using hc) ?_
      try refine wpAny_bind (wpAny_pure ?_)
      refine wpAny_bind (setsQuiet_ints (fun b hb' => ?_) ?_)
      · rcases List.mem_cons.mp hb' with z | z
        · rw [z]; exact ⟨S, n, R0⟩
        · exact ho b z
      refine wp_if_neg (by simp) ?_
      try refine wpAny_bind (wpAny_pure ?_)
      refine wpAny_bind (wpAny_rule ?_)
      obtain ⟨o2, es2, ep2, t2, ho2, hx2, hd2, g2, nd2, hm2, hb2, hf2, hn2, hr2, hl2⟩ := Rr
      refine wpAny_bind (wpAny_setState_of ho2 hd2 hf2 ?_)
      dsimp only
      split
      · refine wpAny_bind (wpAny_storeSet_of ho2 hd2 ?_ (fits_of_scanBound hb2))
        have ho3 := store_at (es' := es2) (t' := { t2 with led := t2.led && t.led, plain := t2.plain && t.plain }) ho2 hd2
        refine wpAny_pure (hQ es _ (Heap.SameBut.update _ r _) ⟨_, es2, _, _, ho3, hx2, rfl, g2, nd2, hm2, hb2, hf2, hn2, hr2, ?_⟩ g nd hm hn)
        refine hl2.imp id fun z => ?_
        show (t2.led && t.led) = true
        rw [z, hled]; rfl
      · exact wpAny_pure same
theorem newSet_at {Q : Value → Shared → Prop} (h : Q (.ref s.heap.objs.size) { s with heap := s.heap.push { cls := .type "set", dict := none, data := .set #[] 0 (.fresh 0 0 (!w.params.followText "set-order")) } }) :
    wpAny (model P w) A (newSet (.type "set")) Q E s := by
  unfold newSet
  refine wpAny_bind (wpAny_byText ?_)
  dsimp only
  simp only [newObj]
  exact wpAny_bind (wpAny_alloc (wpAny_pure h))
theorem SetR.isSet {a : Addr} {S : Int → Bool} {n : Nat} (R : SetR w s.heap a S n) : s.TypeIs (.ref a) "set" := by
  obtain ⟨o, es, ep, t, ho, hx, _⟩ := R
  exact ⟨o, ho, hx.1⟩
theorem any_set {a : Addr} {S : Int → Bool} {n : Nat} {Q : Bool → Shared → Prop} (R : SetR w s.heap a S n) (hQ : Q true s) : wpAny (model P w) A (Builtin.Frozenset.isAnySet (.ref a)) Q E s := by
  unfold Builtin.Frozenset.isAnySet orM
  exact wpAny_bind (wpAny_isInstance R.isSet sub_set_self (wpAny_pure hQ))
theorem sizeOf_set {a : Addr} {S : Int → Bool} {n : Nat} {Q : Nat → Shared → Prop} (R : SetR w s.heap a S n) (hQ : Q n s) : wpAny (model P w) A (Builtin.Frozenset.sizeOf a) Q E s := by
  obtain ⟨o, es, ep, t, ho, hx, hd, g, nd, hm, hb, hf, hn, _⟩ := R
  unfold Builtin.Frozenset.sizeOf setEntries
  exact wpAny_bind (wpAny_bind (wpAny_setState_of ho hd hf (wpAny_pure (wpAny_pure (by rw [hn]; exact hQ)))))
theorem epoch_set {a : Addr} {o : Obj} {es : Array (Int × Value)} {ep : Nat} {t : SetTable} {Q : Nat → Shared → Prop} (ho : s.heap.get? a = some o) (hd : o.data = .set es ep t) (hf : t.fits es.size = true) (hQ : Q ep s) : wpAny (model P w) A (setEpoch a) Q E s := by
  unfold setEpoch
  exact wpAny_bind (wpAny_setState_of ho hd hf (wpAny_pure hQ))
theorem add_set {r : Addr} {S : Int → Bool} {c : Nat} {e : Int × Value} {Q : Bool → Shared → Prop} (g : GoodE e) (R : SetR w s.heap r S c) (room : c + 1 < scanBound)
    (hQ : ∀ h', Heap.SameBut r s.heap h' → SetR w h' r (fun j => S j || decide (j = keyOf e)) (if S (keyOf e) = true then c else c + 1) → Q (!S (keyOf e)) { s with heap := h' }) :
    wpAny (model P w) A (setAddHashed r e.2 e.1) Q E s := by
  obtain ⟨hh, v⟩ := e
  obtain ⟨k, tk, h1, h2⟩ := g
  dsimp only at h1 h2
  subst h1; subst h2
  exact setR_add_hashed R room hQ
theorem find_set {r : Addr} {S : Int → Bool} {c : Nat} {e : Int × Value} {Q : Option Nat → Shared → Prop} (g : GoodE e) (R : SetR w s.heap r S c) (hQ : ∀ x : Option Nat, x.isSome = S (keyOf e) → Q x s) :
    wpAny (model P w) A (setFind r e.2 e.1) Q E s := by
  obtain ⟨hh, v⟩ := e
  obtain ⟨k, tk, h1, h2⟩ := g
  dsimp only at h1 h2
  subst h1; subst h2
  exact wpAny_setFind_of (knd := intKind P w) (k := k) (intKind_is P w k tk) rfl (R.setOf (P := P)) hQ
theorem mem_app {done : List (Int × Value)} {e : Int × Value} {k : Int} : decide (k ∈ (done ++ [e]).map keyOf) = (decide (k ∈ done.map keyOf) || decide (k = keyOf e)) := by
  rw [List.map_append]
  by_cases h : k ∈ done.map keyOf
  · simp [h]
  · by_cases h2 : k = keyOf e
    · subst h2; simp
    · have q : ¬ k ∈ done.map keyOf ++ [keyOf e] := fun z => (List.mem_append.mp z).elim h fun z => h2 (List.mem_singleton.mp z)
      rw [decide_eq_false h, decide_eq_false h2]
      exact decide_eq_false q
/-- the loop: those of out that T (or its contrary) has go into r -/
theorem fill_loop {r asked walked : Addr} {id : String} {T : Int → Bool} {m : Nat} {o : Obj} {es : Array (Int × Value)} {ep : Nat} {t : SetTable} {out : Array (Int × Value)} (pol : Bool) (hra : r ≠ asked) (hrw : r ≠ walked)
    (go : ∀ e ∈ out.toList, GoodE e) (hsz : out.size < scanBound) (hT : SetR w s.heap asked T m) (hw : s.heap.get? walked = some o) (hd : o.data = .set es ep t) (hf : t.fits es.size = true) (hr : SetR w s.heap r (fun _ => false) 0)
    {Q : PUnit → Shared → Prop} {f : (Int × Value) → PUnit → Sem (ForInStep PUnit)}
    (hfe : ∀ e u, f e u = (do
      holding [e.2] (do
        let q ← setFind asked e.2 e.1
        if (q.isSome == pol) = true then do
          let _ ← setAddHashed r e.2 e.1
          pure ()
        else pure ())
      Builtin.Frozenset.unchanged id walked ep
      pure (ForInStep.yield PUnit.unit)))
    (hQ : ∀ h' c, Heap.SameBut r s.heap h' → SetR w h' r (fun k => decide (k ∈ out.toList.map keyOf) && (T k == pol)) c → c ≤ out.size → Q ⟨⟩ { s with heap := h' }) :
    wpAny (model P w) A (forIn out PUnit.unit f) Q E s := by
  refine wpAny_forIn_array' _ (fun rest b s' => ∃ done h' c, out.toList = done ++ rest ∧ s' = { s with heap := h' } ∧ Heap.SameBut r s.heap h' ∧ SetR w h' r (fun k => decide (k ∈ done.map keyOf) && (T k == pol)) c ∧ c ≤ done.length) _ ?_ ?_ _ _
    ⟨[], s.heap, 0, rfl, rfl, Heap.SameBut.refl r s.heap, hr.congr fun k => by simp, Nat.le_refl 0⟩
  · rintro e rest _ _ ⟨done, h', c, ho, rfl, sb, R, hc⟩
    have ge := go e (by rw [ho]; simp)
    have hT' : SetR w h' asked T m := hT.at fun o q => by rw [sb.2 asked (Ne.symm hra)]; exact q
    have hw' : h'.get? walked = some o := by rw [sb.2 walked (Ne.symm hrw)]; exact hw
    have hl : done.length + 1 ≤ out.size := by
      rw [← Array.length_toList, ho]; simp
    rw [hfe]
    refine wpAny_bind (wpAny_holding (wpAny_bind (find_set (s := { s with heap := h' }) ge hT' fun x hx => ?_)))
    rw [hx]
    have fin : ∀ h2 c2, Heap.SameBut r h' h2 → SetR w h2 r (fun k => decide (k ∈ (done ++ [e]).map keyOf) && (T k == pol)) c2 → c2 ≤ (done ++ [e]).length →
        wpAny (model P w) A (do
          Builtin.Frozenset.unchanged id walked ep
          pure (ForInStep.yield PUnit.unit)) (fun z s' => z = ForInStep.yield PUnit.unit ∧ ∃ done h' c, out.toList = done ++ rest ∧ s' = { s with heap := h' } ∧ Heap.SameBut r s.heap h' ∧ SetR w h' r (fun k => decide (k ∈ done.map keyOf) && (T k == pol)) c ∧ c ≤ done.length) E { s with heap := h2 } := fun h2 c2 sb2 R2 hc2 => by
      unfold Builtin.Frozenset.unchanged
      have hw2 : h2.get? walked = some o := by rw [sb2.2 walked (Ne.symm hrw)]; exact hw'
      refine wpAny_bind (wpAny_bind (epoch_set (s := { s with heap := h2 }) hw2 hd hf ?_))
      refine wp_if_neg (by simp) (wpAny_pure (wpAny_pure ?_))
      exact ⟨rfl, done ++ [e], h2, c2, by rw [ho]; simp, rfl, sb.trans sb2, R2, hc2⟩
    by_cases hp : (T (keyOf e) == pol) = true
    · refine wp_if_pos hp ?_
      refine wpAny_bind (add_set (s := { s with heap := h' }) ge R (by omega) fun h2 sb2 R2 => wpAny_pure ?_)
      refine wpAny_mono (fin h2 _ sb2 (R2.congr fun k => ?_) (by rw [List.length_append]; show _ ≤ done.length + 1; split <;> omega)) (fun z s' h => by obtain ⟨rfl, h⟩ := h; exact h) fun _ _ h => h
      rw [mem_app]
      by_cases hk : k = keyOf e
      · subst hk; rw [hp]; simp
      · rw [decide_eq_false hk]; simp
    · refine wp_if_neg hp ?_
      refine wpAny_pure ?_
      refine wpAny_mono (fin h' c (Heap.SameBut.refl r h') (R.congr fun k => ?_) (by rw [List.length_append]; omega)) (fun z s' h => by obtain ⟨rfl, h⟩ := h; exact h) fun _ _ h => h
      rw [mem_app]
      by_cases hk : k = keyOf e
      · subst hk
        have z : (T (keyOf e) == pol) = false := Bool.eq_false_iff.mpr hp
        rw [z]; simp
      · rw [decide_eq_false hk]; simp
  · rintro _ _ ⟨done, h', c, ho, rfl, sb, R, hc⟩
    have ho' : out.toList = done := by simpa using ho
    refine hQ h' c sb (by rw [ho']; exact R) ?_
    rw [← Array.length_toList, ho']; exact hc
theorem baseOf_set {a : Addr} {S : Int → Bool} {n : Nat} {Q : Value → Shared → Prop} (R : SetR w s.heap a S n) (hQ : Q (.type "set") s) : wpAny (model P w) A (Builtin.Frozenset.baseOf a) Q E s := by
  unfold Builtin.Frozenset.baseOf
  exact wpAny_bind (wpAny_isInstance R.isSet sub_set_self (wpAny_pure hQ))
theorem SetR.push {h : Heap} {o : Obj} {a : Addr} {S : Int → Bool} {n : Nat} (R : SetR w h a S n) : SetR w (h.push o) a S n := R.at fun _ e => Heap.get?_push_of_some _ e
/-- walked's members that asked has go into a new set -/
theorem inter_core {walked asked : Addr} {nm : String} {S T : Int → Bool} {n m : Nat} {Q : Unit → Shared → Prop} (Rw : SetR w s.heap walked S n) (Ra : SetR w s.heap asked T m)
    (hQ : ∀ h' c, Heap.SameBut s.heap.objs.size (s.heap.push { cls := .type "set", dict := none, data := .set #[] 0 (.fresh 0 0 (!w.params.followText "set-order")) }) h' → SetR w h' s.heap.objs.size (fun k => S k && T k) c → c ≤ n → Q () { s with heap := h' }) :
    wpAny (model P w) A (do
      let was ← setEpoch walked
      let out ← setWalkUnseen walked [asked, s.heap.objs.size] (some s.heap.objs.size)
      let _ ← forIn out PUnit.unit fun x _ => do
          holding [x.snd] do
            let q ← setFind asked x.snd x.fst
            if q.isSome = true then do
              let _ ← setAddHashed s.heap.objs.size x.snd x.fst
              pure ()
            else pure ()
          Builtin.Frozenset.unchanged nm walked was
          pure (ForInStep.yield PUnit.unit)
      pure ()) Q E { s with heap := s.heap.push { cls := .type "set", dict := none, data := .set #[] 0 (.fresh 0 0 (!w.params.followText "set-order")) } } := by
  have Rw' := Rw.push (o := { cls := .type "set", dict := none, data := .set #[] 0 (.fresh 0 0 (!w.params.followText "set-order")) })
  have Ra' := Ra.push (o := { cls := .type "set", dict := none, data := .set #[] 0 (.fresh 0 0 (!w.params.followText "set-order")) })
  have Rr := setR_fresh (h := s.heap) w
  have n1 : s.heap.objs.size ≠ walked := Nat.ne_of_gt Rw.lt
  have n2 : s.heap.objs.size ≠ asked := Nat.ne_of_gt Ra.lt
  obtain ⟨o, es, ep, t, ho, hx, hd, g, nd, hm, hb, hf, hn, _⟩ := id Rw'
  refine wpAny_bind (epoch_set ho hd hf ?_)
  refine wpAny_bind (walkUnseen_ints (s := { s with heap := s.heap.push { cls := .type "set", dict := none, data := .set #[] 0 (.fresh 0 0 (!w.params.followText "set-order")) } }) Rw' Rr n1 (fun b hb => ?_) fun out h1 sb R1 go hnd hmem hsz => ?_)
  · rcases List.mem_cons.mp hb with z | z
    · rw [z]; exact ⟨_, _, Ra'⟩
    · rw [List.mem_singleton.mp z]; exact ⟨_, _, Rr⟩
  · have Rw1 : SetR w h1 walked S n := Rw'.at fun _ q => by rw [sb.2 walked (Ne.symm n1)]; exact q
    have Ra1 : SetR w h1 asked T m := Ra'.at fun _ q => by rw [sb.2 asked (Ne.symm n2)]; exact q
    have ho1 : h1.get? walked = some o := by rw [sb.2 walked (Ne.symm n1)]; exact ho
    refine wpAny_bind (fill_loop (s := { s with heap := h1 }) (id := nm) true n2 n1 go (by rw [hsz, ← hn]; exact hb) Ra1 ho1 hd hf R1 (fun e u => ?_) fun h2 c sb2 R2 hc => wpAny_pure ?_)
    · congr 1
      refine congrArg _ (congrArg _ (funext fun q => ?_))
      cases q.isSome <;> rfl
    · refine hQ h2 c (sb.trans sb2) (R2.congr fun k => ?_) (by rw [← hsz]; exact hc)
      have : S k = decide (k ∈ out.toList.map keyOf) := by
        cases hS : S k with
        | true => exact (decide_eq_true ((hmem k).1 hS)).symm
        | false => exact (decide_eq_false fun z => by rw [(hmem k).2 z] at hS; cases hS).symm
      rw [this]
      cases T k <;> rfl
/-- a & b, two sets of ints -/
theorem inter_ints {a b : Addr} {nm : String} {S T : Int → Bool} {n m : Nat} {Q : Value → Shared → Prop} (Ra : SetR w s.heap a S n) (Rb : SetR w s.heap b T m) (hne : a ≠ b)
    (hQ : ∀ h' c, (∀ d o, s.heap.get? d = some o → h'.get? d = some o) → SetR w h' s.heap.objs.size (fun k => S k && T k) c → c ≤ n → Q (.ref s.heap.objs.size) { s with heap := h' }) :
    wpAny (model P w) A (Builtin.Frozenset.intersection nm a (.ref b)) Q E s := by
  unfold Builtin.Frozenset.intersection
  refine wp_if_neg (by simpa using fun z => hne z.symm) ?_
  try refine wpAny_bind (wpAny_pure ?_)
  refine wpAny_bind (baseOf_set Ra ?_)
  refine wpAny_bind (newSet_at ?_)
  refine wpAny_bind (wpAny_pure ?_)
  have keep : ∀ {h' : Heap}, Heap.SameBut s.heap.objs.size (s.heap.push { cls := .type "set", dict := none, data := .set #[] 0 (.fresh 0 0 (!w.params.followText "set-order")) }) h' → ∀ d o, s.heap.get? d = some o → h'.get? d = some o := fun sb d o e => by
    rw [sb.2 d (Nat.ne_of_lt (Heap.lt_size e))]
    exact Heap.get?_push_of_some _ e
  refine wpAny_bind (wpAny_holding ?_)
  have Ra' := Ra.push (o := { cls := .type "set", dict := none, data := .set #[] 0 (.fresh 0 0 (!w.params.followText "set-order")) })
  have Rb' := Rb.push (o := { cls := .type "set", dict := none, data := .set #[] 0 (.fresh 0 0 (!w.params.followText "set-order")) })
  refine wpAny_bind (any_set (s := { s with heap := s.heap.push _ }) Rb' ?_)
  refine wp_if_pos rfl ?_
  refine wpAny_bind (wpAny_pure ?_)
  refine wpAny_bind (sizeOf_set (s := { s with heap := s.heap.push _ }) Rb' ?_)
  refine wpAny_bind (sizeOf_set (s := { s with heap := s.heap.push _ }) Ra' ?_)
  by_cases h : m > n
  · rw [if_pos h]
    dsimp only
    exact inter_core Ra Rb fun h' c sb R hc => wpAny_pure (hQ h' c (keep sb) R hc)
  · rw [if_neg h]
    dsimp only
    exact inter_core Rb Ra fun h' c sb R hc => wpAny_pure (hQ h' c (keep sb) (R.congr fun k => Bool.and_comm _ _) (by omega))
end
end L2
namespace L2
open PySem PySem.Spec PyProof.Rows
theorem entry_set_and : entryFor table "set.__and__" = some Builtin.«frozenset.__and__» :=
  entryFor_alias (id' := "frozenset.__and__") (by kernel_rfl) rfl (by decide +kernel) (by kernel_rfl)
theorem entry_set_or : entryFor table "set.__or__" = some Builtin.«frozenset.__or__» :=
  entryFor_alias (id' := "frozenset.__or__") (by kernel_rfl) rfl (by decide +kernel) (by kernel_rfl)
theorem entry_set_sub : entryFor table "set.__sub__" = some Builtin.«frozenset.__sub__» :=
  entryFor_alias (id' := "frozenset.__sub__") (by kernel_rfl) rfl (by decide +kernel) (by kernel_rfl)
section
variable {P : Program} {w : World} {A : Around} {E : Value → Shared → Prop} {s : Shared}
theorem call_sand {a b : Addr} {S T : Int → Bool} {n m : Nat} {Q : Value → Shared → Prop} (Ra : SetR w s.heap a S n) (Rb : SetR w s.heap b T m) (hne : a ≠ b)
    (hQ : ∀ h' c, (∀ d o, s.heap.get? d = some o → h'.get? d = some o) → SetR w h' s.heap.objs.size (fun k => S k && T k) c → c ≤ n → Q (.ref s.heap.objs.size) { s with heap := h' }) :
    wpAny (model P w) A (binaryOp .BitAnd (.ref a) (.ref b)) Q E s := by
  refine wpAny_binaryOp_same Ra.isSet Rb.isSet F.fills_set_and F.slot_set_and ?_
  refine wpAny_call_entry F.slot_set_and Ra.isSet entry_set_and ?_ (F.args_set_and_2 _ _)
  unfold Builtin.«frozenset.__and__»
  show wpAny _ _ (do
    let (self, other) ← Builtin.Frozenset.slot1 "__and__" ⟨[.ref a, .ref b], []⟩
    let (l, r) := if false = true then (other, self) else (self, other)
    if !(← Builtin.Frozenset.isAnySet l <&&> Builtin.Frozenset.isAnySet r) then rule s!"frozenset.{"__and__"}.declined"; return ← ret .notImplemented
    ret (← Builtin.Frozenset.intersection s!"frozenset.{"__and__"}" (← Builtin.Frozenset.addrOf l) r)) _ _ _
  refine wpAny_bind (wpAny_of_eq (a := (Value.ref a, Value.ref b)) (by rfl) ?_)
  dsimp only
  rw [if_neg Bool.false_ne_true]
  dsimp only
  unfold andM
  refine wpAny_bind (wpAny_bind (any_set Ra (any_set Rb ?_)))
  refine wp_if_neg (by simp) ?_
  refine wpAny_bind (m := Builtin.Frozenset.addrOf (Value.ref a)) (wpAny_pure ?_)
  refine wpAny_bind (inter_ints Ra Rb hne fun h' c k R hc => ?_)
  exact wpAny_pure ⟨_, rfl, (fun z => nomatch z), hQ h' c k R hc⟩
variable {X : Cx}
/-- a & b, two sets of ints of one's own -/
def rSAnd (w : World) : V → V → Hp → VK → Prop := fun x y H Q => ∃ (a b : Addr) (S T : Int → Bool) (n m : Nat), x = V.ref a ∧ y = V.ref b ∧ a ≠ b ∧ H a = some (SetO w a S n) ∧ H b = some (SetO w b T m) ∧
  ∀ (c : Nat) (p : Addr), c ≤ n → H p = none → Q (.ref p) (upd H p (SetO w p (fun k => S k && T k) c))
theorem op_sand : OpR X (binaryOp .BitAnd) (rSAnd X.w) := by
  intro pins s σ H x y v u Q I rx ry h
  obtain ⟨a, b, S, T, n, m, rfl, rfl, hne, ha, hb, q⟩ := h
  cases rx
  cases ry
  refine call_sand (setO_get I ha) (setO_get I hb) hne fun h' c k R hc => ?_
  have hn : H s.heap.objs.size = none := I.hok.fresh (Nat.le_refl _)
  have J : Inv X pins σ (upd H s.heap.objs.size (SetO X.w s.heap.objs.size (fun k => S k && T k) c)) { s with heap := h', gens := s.gens, drawn := s.drawn, toks := s.toks } :=
    I.call (ch := []) (Un.laid k (Nat.le_refl _) hn) (I.hok.laid k (Nat.le_refl _) (setO_new R)) I.bare (fun _ z => nomatch z)
  exact ⟨.ref _, _, J, rfl, q c _ hc hn⟩
/-- set(x), x a tuple of ints -/
def rSetI (K : PySem.W.Frag) (w : World) : List V → Hp → VK → Prop := fun vs H Q => ∃ (l : Addr) (ns : List Int), vs = [V.ref l] ∧ SqT K H l (ns.map V.int) ∧ ns.length ≤ 1000 ∧
  ∀ (c : Nat) (p : Addr), c ≤ ns.length → H p = none → Q (.ref p) (upd H p (SetO w p (fun k => decide (k ∈ ns)) c))
theorem cr_setI (hc : X.calm = true) : CallR X (.type "set") (rSetI X.K X.w) := by
  intro pins s σ H vs us Q I r h
  obtain ⟨l, ns, rfl, hl, h1, q⟩ := h
  rw [Vals.ref1 r]
  obtain ⟨its, rv, pt, hz⟩ := I.tuple hl
  have hi : IntsAre its.toArray.toList ns := ints_of_vals rv
  refine call_set_tupI ns (I.ok.hd hc) (show s.heap.IsTuple l its.toArray from pt) hi (by unfold scanBound; omega) fun h' tk c R1 hcn k => ?_
  have hn : H s.heap.objs.size = none := I.hok.fresh (Nat.le_refl _)
  have J : Inv X pins σ (upd H s.heap.objs.size (SetO X.w s.heap.objs.size (fun k => decide (k ∈ ns)) c)) { s with heap := h', gens := s.gens, drawn := s.drawn, toks := tk } :=
    I.call (ch := []) (Un.laid k (Nat.le_refl _) hn) (I.hok.laid k (Nat.le_refl _) (setO_new R1)) I.bare (fun _ z => nomatch z)
  exact ⟨.ref _, _, J, rfl, q c _ hcn hn⟩
end
end L2
namespace L2
open PySem PySem.Spec PyProof.Rows
section
variable {P : Program} {w : World} {A : Around} {E : Value → Shared → Prop} {s : Shared}
theorem diff_short {a b : Addr} {nm : String} {S T : Int → Bool} {n m : Nat} {Q : Value → Shared → Prop} (Ra : SetR w s.heap a S n) (Rb : SetR w s.heap b T m) (hsz : n / 4 ≤ m)
    (hQ : ∀ h' c, (∀ d o, s.heap.get? d = some o → h'.get? d = some o) → SetR w h' s.heap.objs.size (fun k => S k && !T k) c → c ≤ n → Q (.ref s.heap.objs.size) { s with heap := h' }) :
    wpAny (model P w) A (Builtin.Frozenset.difference nm a (.ref b)) Q E s := by
  unfold Builtin.Frozenset.difference
  extract_lets
  refine wpAny_bind (any_set Rb ?_)
  refine wp_if_neg (by simp) ?_
  refine wpAny_bind (m := Builtin.Frozenset.addrOf (Value.ref b)) (wpAny_pure ?_)
  dsimp only
  refine wp_if_neg (by simp) ?_
  refine wp_if_pos rfl ?_
  refine wpAny_bind (sizeOf_set Rb ?_)
  refine wpAny_bind (sizeOf_set Ra ?_)
  refine wp_if_neg (by omega) ?_
  refine wpAny_bind (baseOf_set Ra ?_)
  refine wpAny_bind (newSet_at ?_)
  refine wpAny_bind (m := Builtin.Frozenset.addrOf (Value.ref s.heap.objs.size)) (wpAny_pure ?_)
  have Ra' := Ra.push (o := { cls := .type "set", dict := none, data := .set #[] 0 (.fresh 0 0 (!w.params.followText "set-order")) })
  have Rb' := Rb.push (o := { cls := .type "set", dict := none, data := .set #[] 0 (.fresh 0 0 (!w.params.followText "set-order")) })
  have Rr := setR_fresh (h := s.heap) w
  have n1 : s.heap.objs.size ≠ a := Nat.ne_of_gt Ra.lt
  have n2 : s.heap.objs.size ≠ b := Nat.ne_of_gt Rb.lt
  have keep : ∀ {h' : Heap}, Heap.SameBut s.heap.objs.size (s.heap.push { cls := .type "set", dict := none, data := .set #[] 0 (.fresh 0 0 (!w.params.followText "set-order")) }) h' → ∀ d o, s.heap.get? d = some o → h'.get? d = some o := fun sb d o e => by
    rw [sb.2 d (Nat.ne_of_lt (Heap.lt_size e))]
    exact Heap.get?_push_of_some _ e
  have Ra2 := Ra'
  obtain ⟨o, es, ep, t, ho, hx, hd, g, nd, hm, hb, hf, hn, _⟩ := Ra'
  refine wpAny_bind (epoch_set ho hd hf ?_)
  refine wpAny_bind (wpAny_holding ?_)
  rw [if_pos rfl]
  refine wpAny_bind (walkUnseen_ints (s := { s with heap := s.heap.push { cls := .type "set", dict := none, data := .set #[] 0 (.fresh 0 0 (!w.params.followText "set-order")) } }) Ra2 Rr n1 (fun b' hb' => ?_) fun out h1 sb R1 go hnd hmem hsz => ?_)
  · rcases List.mem_cons.mp hb' with z | z
    · rw [z]; exact ⟨_, _, Rb'⟩
    · rw [List.mem_singleton.mp z]; exact ⟨_, _, Rr⟩
  · have Rb1 : SetR w h1 b T m := Rb'.at fun _ q => by rw [sb.2 b (Ne.symm n2)]; exact q
    have ho1 : h1.get? a = some o := by rw [sb.2 a (Ne.symm n1)]; exact ho
    refine wpAny_bind (fill_loop (s := { s with heap := h1 }) (id := nm) false n2 n1 go (by rw [hsz, ← hn]; exact hb) Rb1 ho1 hd hf R1 (fun e u => ?_) fun h2 c sb2 R2 hc => wpAny_pure (wpAny_pure ?_))
    · rw [if_pos rfl]
      congr 1
      refine congrArg _ (congrArg _ (funext fun q => ?_))
      rw [pure_bind]
      cases q.isSome <;> rfl
    · refine hQ h2 c (keep (sb.trans sb2)) (R2.congr fun k => ?_) (by rw [← hsz]; exact hc)
      have : S k = decide (k ∈ out.toList.map keyOf) := by
        cases hS : S k with
        | true => exact (decide_eq_true ((hmem k).1 hS)).symm
        | false => exact (decide_eq_false fun z => by rw [(hmem k).2 z] at hS; cases hS).symm
      rw [this]
      cases T k <;> rfl
end
end L2
namespace AL
open PySem PySem.Spec PyProof.Rows L2 Evl
section
variable {X : Cx} {Z : Zx} {a b : Expr} {ρ : En} {Φ : D → En → Prop} {p p1 p2 p3 p4 pos q1 q2 : Pos}
/-- sorted(set(a) & set(b)) of two tuples of ints -/
theorem ec_sortedAnd (hms : X.mg "sorted" = none) (hmt : X.mg "set" = none) (h : EC X Z a ρ fun d ρ1 => ∃ ns : List Int, d = .tup (ns.map D.int) ∧ ns.length < 64 ∧ EC X Z b ρ1 fun d' ρ2 => ∃ ms : List Int, d' = .tup (ms.map D.int) ∧ ms.length < 64 ∧
      ∀ out : List Int, out.Pairwise (· < ·) → (∀ k, k ∈ out ↔ k ∈ ns ∧ k ∈ ms) → Φ (.lst (out.map D.int)) ρ2)
    (hc : X.calm = true := by rfl) (hgs : Gl X "sorted" := by rfl) (hgt : Gl X "set" := by rfl)
    (ha : starEach [a] X.env = (false, eval a X.env) :: starEach [] X.env := by rfl) (hb : starEach [b] X.env = (false, eval b X.env) :: starEach [] X.env := by rfl)
    (he : starEach [.BinOp (.Call (.Name "set" p1) [a] [] p2) .BitAnd (.Call (.Name "set" p3) [b] [] p4) q1] X.env = (false, eval (.BinOp (.Call (.Name "set" p1) [a] [] p2) .BitAnd (.Call (.Name "set" p3) [b] [] p4) q1) X.env) :: starEach [] X.env := by rfl)
    (hpl : ∀ pos, (backTo pos (starEach [] X.env)).any (·.1) = false := by intro pos; rfl) :
    EC X Z (.Call (.Name "sorted" p) [.BinOp (.Call (.Name "set" p1) [a] [] p2) .BitAnd (.Call (.Name "set" p3) [b] [] p4) q1] [] pos) ρ Φ := fun B G H σ o z Q q => by
  refine (pe_callB (cr_sortedSet hc) hgs hms boot_sorted (pa_cons (pe_op op_sand (pe_callTy (cr_setI hc) hgt hmt boot_set (pa_cons (p_wE (e := a)) pa_nil ha) (he := ha) (hpl := hpl _)) (pe_callTy (cr_setI hc) hgt hmt boot_set (pa_cons (p_wE (e := b)) pa_nil hb) (he := hb) (hpl := hpl _))) pa_nil he) (he := he) (hpl := hpl _)).w ?_
  refine h B G H σ o z _ fun d ρ1 x B1 H1 ⟨ns, hd, hl, h1⟩ e1 o1 r1 => ?_
  subst hd
  cases r1 with
  | tup hq rr =>
    have ev := reps_int rr
    subst ev
    refine ⟨_, ns, rfl, ex_t o1.s.ex (st_of hq), by omega, fun c pa hca hpa => ?_⟩
    obtain ⟨e2, o2⟩ := o1.grow (u := SetO X.w pa (fun k => decide (k ∈ ns)) c) hpa
    refine h1 _ G _ σ o2 (z.up (e1.trans e2)) _ fun d' ρ2 y B3 H3 ⟨ms, hd', hl', hk⟩ e3 o3 r3 => ?_
    subst hd'
    cases r3 with
    | tup hq' rr' =>
      have ev' := reps_int rr'
      subst ev'
      refine ⟨_, ms, rfl, ex_t o3.s.ex (st_of hq'), by omega, fun c' pb hcb hpb => ?_⟩
      have hA : H3 pa = some (SetO X.w pa (fun k => decide (k ∈ ns)) c) := o3.s.ex _ _ (e3 _ _ upd_same)
      have hne : pa ≠ pb := fun t => by subst t; rw [hpb] at hA; cases hA
      obtain ⟨e4, o4⟩ := o3.grow (u := SetO X.w pb (fun k => decide (k ∈ ms)) c') hpb
      refine ⟨pa, pb, _, _, c, c', rfl, rfl, hne, by rw [upd_ne hne]; exact hA, upd_same, fun c2 pc hc2 hpc => ?_⟩
      obtain ⟨e5, o5⟩ := o4.grow (u := SetO X.w pc (fun k => decide (k ∈ ns) && decide (k ∈ ms)) c2) hpc
      refine ⟨pc, _, c2, rfl, upd_same, by omega, fun out po ho hm hlo hpo => ?_⟩
      obtain ⟨e6, o6⟩ := o5.grow (u := .lst (out.map V.int)) hpo
      refine q _ ρ2 _ _ _ (hk out ho fun k => ?_) ((((e1.trans e2).trans e3).trans e4).trans (e5.trans e6)) o6 (.lst upd_same (int_reps out))
      rw [hm k, Bool.and_eq_true, decide_eq_true_eq, decide_eq_true_eq]
end
end AL
/-! enumerate(x), x a list or a tuple: by what begins the walk (Begins) and what its iterator draws (Draws) -/
namespace L2
open PySem PySem.Spec PyProof.Rows
abbrev enumCell (it : Addr) : Obj := { cls := .type "enumerate", data := .fields #[.none, .bool false, .ref it, rawInt 0, .none, .none] }
theorem enum1_new {v : Value} {o : Obj} {Hv : Heap → Prop} (B : Begins v o Hv) : Meets (Builtin.«enumerate.__new__» ⟨[.type "enumerate", v], []⟩) (fun _ R s => Hv s.heap ∧ R (.ok (.ret (.ref (s.heap.push o).objs.size))) { s with heap := (s.heap.push o).push (enumCell s.heap.objs.size) }) :=
  Meets.of_wp fun P w A R s ⟨ok, done⟩ => by
    cases s with
    | mk hp g dr tk os =>
      have same := sub_enumerate
      have begin_ : ∀ {A' : Around} {E' : Value → Shared → Prop} {Q' : Value → Shared → Prop}, Q' (.ref hp.objs.size) ⟨hp.push o, g, dr, tk, os⟩ → wpAny (model P w) A' (pyIter v) Q' E' ⟨hp, g, dr, tk, os⟩ := fun q => B.iter P w _ _ ⟨hp, g, dr, tk, os⟩ _ ok q
      wp_walk using begin_
      refine wpAny_stack_any fun below => wpAny_pure ?_
      split
      · rename_i top _ _ _ _ _; cases (top == Value.type "enumerate") <;> (wp_walk using begin_; exact ⟨_, rfl, done⟩)
      · wp_walk using begin_; exact ⟨_, rfl, done⟩
theorem enum1_call {P : Program} {w : World} {A : Around} {E : Value → Shared → Prop} {s : Shared} {v : Value} {o : Obj} {Hv : Heap → Prop} {Q : Value → Shared → Prop} (B : Begins v o Hv) (ok : Hv s.heap)
    (k : ∀ h', IsEnum h' (s.heap.objs.size + 1) s.heap.objs.size 0 .none → h'.get? s.heap.objs.size = some o → (∀ b u, s.heap.get? b = some u → h'.get? b = some u) → Q (.ref (s.heap.objs.size + 1)) { s with heap := h' }) : wpAny (model P w) A (call (.type "enumerate") [v]) Q E s := by
  refine callType_new F.called_enumerate (by decide) (F.typeCall_enumerate_1 _) (F.newCall_enumerate_1 _) (fun x => F.args_object_init_2 x _) F.entry_enumerate_new (enum1_new B) ⟨ok, ?_⟩
  have size1 : (s.heap.push o).objs.size = s.heap.objs.size + 1 := Heap.size_push ..
  have cell : IsEnum ((s.heap.push o).push (enumCell s.heap.objs.size)) (s.heap.objs.size + 1) s.heap.objs.size 0 .none := by have z := Heap.get?_push_size (s.heap.push o) (o := enumCell s.heap.objs.size) rfl; rw [size1] at z; exact z
  show _ ∧ _; rw [size1]
  exact ⟨⟨_, cell, rfl⟩, k _ cell (Heap.get?_push_of_some _ (Heap.get?_push_size _ B.free)) fun b u q => Heap.get?_push_of_some _ (Heap.get?_push_of_some _ q)⟩
/-- the tuple at a, each item in a new pair -/
def IteT (K : PySem.W.Frag) (a : Addr) : It where
  go i H := ∃ (xs : List V) (x : V), SqT K H a xs ∧ xs[i]? = some x
  yld i H v H' := ∃ T x, v = .ref T ∧ H T = none ∧ H' = upd H T (.tup [.int (i : Nat), x]) ∧ ∀ xs, SqT K H a xs → xs[i]? = some x
  stop i H := ∃ xs : List V, SqT K H a xs ∧ xs.length ≤ i
/-- where such a walk stands -/
structure EnT (a e it : Addr) (i : Nat) (h : Heap) : Prop where
  cell : ∃ old, IsEnum h e it ((i : Nat) : Int) old
  inner : h.IsTupleIter it a i
  n1 : e ≠ it
  n2 : a ≠ it
  n3 : a ≠ e
theorem EnT.two {a e it b : Addr} {i : Nat} {h : Heap} (st : EnT a e it i h) (hb : b ∈ [e, it]) : b < h.objs.size ∧ ∃ o, h.get? b = some o ∧ ∀ v, o.data ≠ .cell v := by
  obtain ⟨⟨old, c⟩, ⟨o, g, _, dt⟩, _⟩ := st
  rcases List.mem_cons.mp hb with z | z
  · subst z; exact ⟨Heap.lt_size c, _, c, fun v q => by cases q⟩
  · have z := List.mem_singleton.mp z; exact ⟨z ▸ Heap.lt_size g, o, z ▸ g, fun v q => by rw [dt] at q; cases q⟩
theorem turn_enumT {P : Program} {w : World} {K : PySem.W.Frag} {elts : List Expr} {kk : Nat} {tpos : Pos} (a e it : Addr) : Turn P w K (.Tuple elts kk tpos) (IteT K a) [e, it] e (EnT a e it) where
  mem := List.mem_cons_self
  obj i h st b hb := (st.two hb).2
  keep i h h' st k := ⟨st.cell.imp fun _ c => k e List.mem_cons_self _ c, st.inner.at fun o q => k it (List.mem_cons_of_mem _ List.mem_cons_self) o q, st.n1, st.n2, st.n3⟩
  item := by
    rintro X rfl rfl rfl hc i pins s σ H E I hf st ⟨xs, x, hq, hx⟩
    obtain ⟨old, cell⟩ := st.cell
    obtain ⟨its, rv, tup, _⟩ := I.tuple hq
    obtain ⟨u, hu, ru⟩ := rv.get hx
    have there : its.toArray[i]? = some u := by simpa using hu
    have small : i < its.toArray.size := (Array.getElem?_eq_some_iff.mp there).1
    have draws := Draws.tuple (prog := X.prog) (w := X.w) (A := X.A.in1) (I.ok.hd hc) it a st.n2 its.toArray
    refine wpAny_pyNext_enum_itemD draws cell ⟨st.inner, tup⟩ small st.n1 (fun z => (List.mem_cons.mp z).elim st.n1 fun z => st.n3 (List.mem_singleton.mp z).symm) fun y h' tk hy out ⟨inner', _⟩ pair size' keep' => ?_
    obtain rfl : y = u := Option.some.inj (hy.symm.trans there)
    refine ⟨_, rfl, wpAny_letOwnedTupleGo_enum (s := { s with heap := h', toks := tk + 1 }) out fun h2 cell2 sb => ?_⟩
    have keep2 : ∀ b o, b ∉ [e, it] → s.heap.get? b = some o → h2.get? b = some o := fun b o nb q => by
      have nb1 : b ≠ e := fun z => nb (z ▸ List.mem_cons_self)
      have nb2 : b ≠ it := fun z => nb (z ▸ List.mem_cons_of_mem _ List.mem_cons_self)
      exact (sb.2 b nb1).trans (keep' b o nb1 nb2 q)
    have lay : ObjOk X.prog X.w (upd H s.heap.objs.size (.tup [.int (i : Nat), x])) h2 s.heap.objs.size (.tup [.int (i : Nat), x]) := by
      have at2 := (sb.2 _ (Nat.ne_of_gt (st.two List.mem_cons_self).1)).trans pair
      exact ⟨(by decide : 2 ≤ sizeLine), [.int i tk, y], .cons ⟨_, rfl⟩ (.cons ru .nil), ⟨_, at2, rfl, _, rfl⟩⟩
    have I2 := I.turnedNew (t' := tk + 1) keep2 hf (Nat.le_refl _) lay
    refine ⟨.ref s.heap.objs.size, _, I2, rfl, ⟨_, x, rfl, I.hok.fresh (Nat.le_refl _), rfl, fun ys hy' => (I.tuple_inj hy' hq) ▸ hx⟩, ⟨⟨y, ?_⟩, inner'.at fun o q => (sb.2 it st.n1.symm).trans q, st.n1, st.n2, st.n3⟩, fun b hb => ?_⟩
    · have up : ((i + 1 : Nat) : Int) = (i : Int) + 1 := by omega
      rw [up]; exact cell2
    · rw [upd_ne (Nat.ne_of_lt (st.two hb).1)]; exact (hf b hb).1
  done := by
    rintro X rfl rfl rfl hc i pins s σ H E I hf st ⟨xs, hq, hx⟩
    obtain ⟨old, cell⟩ := st.cell
    obtain ⟨its, rv, tup, _⟩ := I.tuple hq
    have none_ : its.toArray[i]? = none := by have := rv.length; simp; omega
    have isE : s.TypeIs (.ref e) "enumerate" := ⟨_, cell, rfl⟩
    obtain ⟨f0, f1, f2, f3, f4, f5⟩ := hf it (List.mem_cons_of_mem _ List.mem_cons_self)
    unfold pyNext
    refine wpAny_bind (wpAny_attempt (wpAny_callSpecial?_slot (name := Str.ofString "__next__") isE F.slot_enumerate_next (wpAny_call_entry F.slot_enumerate_next isE F.entry_enumerate_next ?_ (F.args_enumerate_next_1 _))))
    show wpAny _ _ (field (.ref e) 2 >>= _) _ _ _
    refine wpAny_bind (wpAny_field cell rfl (x := .ref it) rfl (wpAny_bind (wpAny_nextOf_tuple_end (A := X.A.in1) (I.ok.hd hc) st.inner tup none_ fun h' x kept ⟨o, ho, hcl⟩ => wpAny_bind (wpAny_isInstance (T := "StopIteration") (b := true) ⟨o, ho, hcl⟩ isSubtype_stop (wpAny_pure ⟨rfl, I.turned (t' := s.toks) (fun b u hb q => kept b u hb q) f0 f1 f3 f4 f5⟩)))))
  self A i s Q E st h := st.cell.elim fun _ c => wpAny_pyIter_enum c h
def iEnumT (K : PySem.W.Frag) (ta : TA) : TI := fun σ H R => ta σ H fun vs H1 => ∃ a xs, vs = [.ref a] ∧ ((SqL K H1 a xs ∧ R (Ite K a) H1) ∨ (SqT K H1 a xs ∧ R (IteT K a) H1))
theorem pi_enumT {X : Cx} {e : Expr} {ta : TA} {p pos tpos : Pos} {elts : List Expr} {kk : Nat} (hg : Gl X "enumerate") (hm : X.mg "enumerate" = none) (ha : PA X [e] ta) (hs : starEach [e] X.env = [(false, eval e X.env)] := by rfl) : PI X (.Tuple elts kk tpos) (.Call (.Name "enumerate" p) [e] [] pos) (iEnumT X.K ta) := ⟨fun pins s σ H R I h => by
  refine Call_ (ld_blt I hg hm boot_enumerate (PyProof.Rows.callWith_type1 (thn (ha.run pos pins s σ H _ I h) fun us s1 hh => ?_) hs rfl))
  obtain ⟨vs, H1, I1, r1, a, xs, ex, q⟩ := hh
  subst ex
  obtain rfl : us = [Value.ref a] := by cases r1 with | cons r rr => cases rr; cases r; rfl
  have new2 : ∀ b ∈ [s1.heap.objs.size + 1, s1.heap.objs.size], s1.heap.objs.size ≤ b := fun b hb => (List.mem_cons.mp hb).elim (fun z => z ▸ Nat.le_succ _) fun z => Nat.le_of_eq (List.mem_singleton.mp z).symm
  rcases q with ⟨hq, q⟩ | ⟨hq, q⟩
  · obtain ⟨its, rv, pl, _⟩ := I1.list hq
    refine enum1_call (begins_list a its.toArray) pl.isList fun h' cell inner keep => wpAny_pyIter_enum cell ?_
    exact ⟨_, _, _, _, H1, rfl, I1.kept (t' := s1.toks) keep, turn_enum a (s1.heap.objs.size + 1) s1.heap.objs.size, ⟨⟨.none, cell⟩, ⟨_, inner, rfl, rfl⟩, Nat.succ_ne_self _⟩, fun b hb => I1.fpOk (new2 b hb) (I1.hok.fresh (new2 b hb)), q⟩
  · obtain ⟨its, rv, tup, _⟩ := I1.tuple hq
    have old : a < s1.heap.objs.size := by obtain ⟨_, z, _⟩ := id tup; exact Heap.lt_size z
    refine enum1_call (begins_tuple a its.toArray) tup fun h' cell inner keep => wpAny_pyIter_enum cell ?_
    exact ⟨_, _, _, _, H1, rfl, I1.kept (t' := s1.toks) keep, turn_enumT a (s1.heap.objs.size + 1) s1.heap.objs.size, ⟨⟨.none, cell⟩, ⟨_, inner, rfl, rfl⟩, Nat.succ_ne_self _, Nat.ne_of_lt old, Nat.ne_of_lt (Nat.lt_succ_of_lt old)⟩, fun b hb => I1.fpOk (new2 b hb) (I1.hok.fresh (new2 b hb)), q⟩⟩
end L2
namespace AL
open PySem PySem.Spec PyProof.Rows L2 Evl
def enumFrom (k : Nat) : List D → List D
  | [] => []
  | d :: ds => .tup [.int (k : Int), d] :: enumFrom (k + 1) ds
/-- what enumerate gives -/
def enumD (ds : List D) : List D := enumFrom 0 ds
theorem enumFrom_get : ∀ (ds : List D) (k i : Nat), (enumFrom k ds)[i]? = (ds[i]?).map fun d => .tup [.int ((k + i : Nat) : Int), d]
  | [], _, _ => rfl
  | d :: ds, k, 0 => rfl
  | d :: ds, k, i + 1 => by
    show (enumFrom (k + 1) ds)[i]? = (ds[i]?).map _
    rw [enumFrom_get ds (k + 1) i]
    have e : k + 1 + i = k + (i + 1) := by omega
    rw [e]
theorem enumD_get {ds : List D} {i : Nat} : (enumD ds)[i]? = (ds[i]?).map fun d => .tup [.int (i : Int), d] := by
  unfold enumD; rw [enumFrom_get]; simp
theorem enumFrom_len : ∀ (ds : List D) (k : Nat), (enumFrom k ds).length = ds.length
  | [], _ => rfl
  | d :: ds, k => by show (enumFrom (k + 1) ds).length + 1 = ds.length + 1; rw [enumFrom_len ds (k + 1)]
section
variable {K : PySem.W.Frag}
theorem walks_enum {B : Hp} {x : Addr} {xs : List V} {ds : List D} (hq : SqL K B x xs) (r : Reps K B xs ds) : Walks K B (Ite K x) (enumD ds) := fun i B2 G2 H2 σ2 ρ2 e o => by
  have q2 : SqL K H2 x xs := ex_l o.s.ex (ex_l e hq)
  refine ⟨fun d hd => ?_, fun hl => ⟨xs, q2, ?_⟩⟩
  · rw [enumD_get] at hd
    obtain ⟨d0, hd0, rfl⟩ := Option.map_eq_some_iff.mp hd
    obtain ⟨y, hy, ry⟩ := r.get' hd0
    refine ⟨⟨xs, y, q2, hy⟩, fun v H' ⟨T, x', ev, hT, eH, hx'⟩ => ?_⟩
    subst ev; subst eH
    have ex : x' = y := by have z := hx' xs q2; rw [hy] at z; exact (Option.some.inj z).symm
    subst ex
    obtain ⟨e3, o3⟩ := o.grow (u := .tup [.int (i : Nat), x']) hT
    exact ⟨_, e3, o3, .tup upd_same (.cons (.int _) (.cons ((ry.up e).up e3) .nil))⟩
  · rw [r.length]; unfold enumD at hl; rw [enumFrom_len] at hl; exact hl
theorem walks_enumT {B : Hp} {x : Addr} {xs : List V} {ds : List D} (hq : SqT K B x xs) (r : Reps K B xs ds) : Walks K B (IteT K x) (enumD ds) := fun i B2 G2 H2 σ2 ρ2 e o => by
  have q2 : SqT K H2 x xs := ex_t o.s.ex (ex_t e hq)
  refine ⟨fun d hd => ?_, fun hl => ⟨xs, q2, ?_⟩⟩
  · rw [enumD_get] at hd
    obtain ⟨d0, hd0, rfl⟩ := Option.map_eq_some_iff.mp hd
    obtain ⟨y, hy, ry⟩ := r.get' hd0
    refine ⟨⟨xs, y, q2, hy⟩, fun v H' ⟨T, x', ev, hT, eH, hx'⟩ => ?_⟩
    subst ev; subst eH
    have ex : x' = y := by have z := hx' xs q2; rw [hy] at z; exact (Option.some.inj z).symm
    subst ex
    obtain ⟨e3, o3⟩ := o.grow (u := .tup [.int (i : Nat), x']) hT
    exact ⟨_, e3, o3, .tup upd_same (.cons (.int _) (.cons ((ry.up e).up e3) .nil))⟩
  · rw [r.length]; unfold enumD at hl; rw [enumFrom_len] at hl; exact hl
end
section
variable {X : Cx} {Z : Zx} {e : Expr} {ρ : En} {Φ : List D → En → Prop} {p pos tpos : Pos} {elts : List Expr} {kk : Nat}
/-- for i, x in enumerate(e) -/
theorem ic_enum (hm : X.mg "enumerate" = none) (h : EC X Z e ρ fun d ρ1 => ∃ ds, itemsD d = some ds ∧ Φ (enumD ds) ρ1) (hg : Gl X "enumerate" := by rfl)
    (he : starEach [e] X.env = (false, eval e X.env) :: starEach [] X.env := by rfl) : IC X Z (.Tuple elts kk tpos) (.Call (.Name "enumerate" p) [e] [] pos) ρ Φ := fun B G H σ o z R q =>
  (pi_enumT hg hm (pa_cons p_wE pa_nil he) he).w (h B G H σ o z _ fun d ρ1 v B1 H1 ⟨ds, hd, h1⟩ e1 o1 r1 => by
    cases r1 with
    | lst hq rs =>
      obtain rfl := Option.some.inj hd
      exact ⟨_, _, rfl, .inl ⟨sq_of (o1.s.ex _ _ hq), q _ ρ1 _ B1 H1 h1 e1 o1 (walks_enum (sq_of hq) rs)⟩⟩
    | tup hq rs =>
      obtain rfl := Option.some.inj hd
      exact ⟨_, _, rfl, .inr ⟨ex_t o1.s.ex (st_of hq), q _ ρ1 _ B1 H1 h1 e1 o1 (walks_enumT (st_of hq) rs)⟩⟩
    | klst hq rs =>
      obtain rfl := Option.some.inj hd
      exact ⟨_, _, rfl, .inl ⟨ex_l o1.s.ex hq, q _ ρ1 _ B1 H1 h1 e1 o1 (walks_enum hq rs)⟩⟩
    | ktup hq rs =>
      obtain rfl := Option.some.inj hd
      exact ⟨_, _, rfl, .inr ⟨ex_t o1.s.ex hq, q _ ρ1 _ B1 H1 h1 e1 o1 (walks_enumT hq rs)⟩⟩
    | _ => cases hd)
end
end AL
namespace L2
open PySem PySem.Spec PyProof.Rows
theorem perm_map_inv {α β : Type} {f : α → β} : ∀ {l : List β} {L : List α}, l.Perm (L.map f) → ∃ L' : List α, L'.Perm L ∧ l = L'.map f
  | [], L, h => by
    have e : L.map f = [] := h.nil_eq.symm
    have e' : L = [] := List.map_eq_nil_iff.mp e
    subst e'
    exact ⟨[], .refl _, rfl⟩
  | b :: t, L, h => by
    have hb : b ∈ L.map f := h.mem_iff.mp List.mem_cons_self
    obtain ⟨a, ha, rfl⟩ := List.mem_map.mp hb
    obtain ⟨s, u, rfl⟩ := List.append_of_mem ha
    have h2 : (f a :: t).Perm (f a :: (s ++ u).map f) := h.trans (by
      rw [List.map_append, List.map_append, List.map_cons]
      exact List.perm_middle)
    obtain ⟨L', p, e⟩ := perm_map_inv (l := t) (L := s ++ u) h2.cons_inv
    exact ⟨a :: L', (p.cons a).trans List.perm_middle.symm, by rw [List.map_cons, e]⟩
section
variable {prog : Program} {w : World}
/-- the keys of a dict, whatever they are -/
theorem kdl_any {d : Addr} {o : Obj} {es : Array DictEntry} {ep : Nat} (lo : (d == sysModules) = false) (hx : o.ExactDict) (hdat : o.data = .dict es ep) :
    PySem.W.KdlSrc prog w "dict" d d es.size (fun i v => ∃ en : DictEntry, es[i]? = some en ∧ v = en.key) (fun h => h.get? d = some o) where
  type := fun _ hm => ⟨o, hm, hx.1⟩
  there := fun _ hm => ⟨Heap.lt_size hm, Heap.lt_size hm⟩
  keep := fun _ _ hm hk => hk d (.inl rfl) o hm
  notList := by decide
  notTuple := by decide
  hint := fun _ _ s _ hm hq => PySem.W.kdl_hint_dict (s := s) ⟨o, hm, hx.1⟩ hq
  iter := fun A s hh hm => by
    have hne : d ≠ s.heap.objs.size := Nat.ne_of_lt (Heap.lt_size hm)
    refine ⟨_, fun i h => h.IsKeyIter s.heap.objs.size d i es.size ep ∧ h.get? d = some o, (fun _ _ hq => iter_keys lo hm hx hdat hq), ?_, ⟨⟨_, Heap.get?_push_size _ rfl, rfl, rfl⟩, Heap.get?_push_of_some _ hm⟩⟩
    exact {
      sub := fun b hb => by simp at hb; simp [hb]
      frame := fun _ _ _ st hk => ⟨st.1.at fun o e => hk _ (by simp) o e, hk d (by simp) o st.2⟩
      item := fun i s' Q E hi st hQ => by
        have hen : es[i]? = some es[i] := Array.getElem?_eq_getElem hi
        refine next_key_item st.1 st.2 hdat rfl hen fun h' hit' hs' => ?_
        exact hQ _ h' s'.toks ⟨_, hen, rfl⟩ ⟨hit', (hs'.2 d hne).trans st.2⟩ fun b o hb e => hs'.extBut b o (fun h => hb (by simp [h])) e
      done := fun s' Q E st hQ => next_key_end hh st.1 st.2 hdat rfl (Nat.le_refl _) fun h' he' => hQ h' s'.toks fun b o hb e => he' b o (fun h => hb (by simp [h])) e
      self := fun _ _ _ _ st hQ => wpAny_pyIter_keyiter st.1 hQ }
end
/-- sorted(d), d a dict of fewer than 64 whose keys are tuples of d ints in [0, B) -/
def rSortDT (n : Nat) (B : Int) : List V → Hp → VK → Prop := fun vs H Q => ∃ (a : Addr) (kvs : List (List Key × V)) (ks : List (List Int)), vs = [V.ref a] ∧ Rd H a (.dT kvs) ∧ kvs.map (·.1) = ks.map (fun k => k.map Sum.inl) ∧ ks.length < 64 ∧
  (∀ k ∈ ks, k.length = n ∧ TS.Bd B k) ∧ ∀ (L : List (Addr × List Int)) (p : Addr), (L.map (·.2)).Perm ks → L.Pairwise (fun q r => TS.code B q.2 ≤ TS.code B r.2) → (∀ q ∈ L, H q.1 = some (.tup (q.2.map V.int))) → H p = none →
    Q (.ref p) (upd H p (.lst (L.map fun q => V.ref q.1)))
theorem ent_rows {P : Program} {w : World} {H : Hp} : ∀ {kvs : List (List Key × V)} {xs : List (List Key × Addr × Value)} {ks : List (List Int)}, KT H kvs xs → kvs.map (·.1) = ks.map (fun k => k.map Sum.inl) →
    ∃ L : List (Addr × List Int), (xs.map (entryOfKey (tupleKind (mixKind P w)))).map (·.key) = L.map (fun q => Value.ref q.1) ∧ L.map (·.2) = ks ∧ ∀ q ∈ L, H q.1 = some (.tup (q.2.map V.int))
  | _, _, ks, .nil, h => by
    cases ks with
    | nil => exact ⟨[], rfl, rfl, fun q hq => nomatch hq⟩
    | cons k ks => cases h
  | _, _, ks, .cons (a := a) (b := b) r rs, h => by
    cases ks with
    | nil => cases h
    | cons k ks =>
      rw [List.map_cons, List.map_cons] at h
      injection h with h1 h2
      obtain ⟨L, e1, e2, e3⟩ := ent_rows (P := P) (w := w) rs h2
      refine ⟨(b.2.1, k) :: L, ?_, by rw [List.map_cons, e2], fun q hq => ?_⟩
      · rw [List.map_cons, List.map_cons, e1]; rfl
      · rcases List.mem_cons.mp hq with z | z
        · subst z
          have : (k.map Sum.inl : List Key).map kV = k.map V.int := by rw [List.map_map]; rfl
          rw [← this, ← h1]; exact r.2.1
        · exact e3 q z
theorem vals_refsA : ∀ L : List (Addr × List Int), Vals (L.map fun q => V.ref q.1) (L.map fun q => Value.ref q.1)
  | [] => .nil
  | q :: L => .cons (show RelV (.ref q.1) (.ref q.1) from rfl) (vals_refsA L)
section
variable {X : Cx}
theorem cr_sortedDT {n : Nat} {B : Int} (hn : 1 ≤ n) (hc : X.calm = true) : CallR X (.builtin "sorted") (rSortDT n B) := by
  intro pins s σ H vs us Q I r h
  obtain ⟨a, kvs, ks, rfl, hd, hks, h64, hB, q⟩ := h
  rw [Vals.ref1 r]
  obtain ⟨z, lo, xs, pr, o, es, ep, ho, hx, hdat, hes, _⟩ := hd.ok I.hok
  obtain ⟨L, e1, e2, e3⟩ := ent_rows (P := X.prog) (w := X.w) pr hks
  rw [← hes] at e1
  have hLl : L.length = ks.length := by rw [← e2, List.length_map]
  have hsz : es.size = L.length := by
    have := congrArg List.length e1
    rw [List.length_map, List.length_map, Array.length_toList] at this
    exact this
  refine Calls.call_function_entry PyProof.Rows.kind_sorted PyProof.Rows.plain_sorted PyProof.Rows.entry_sorted (PyProof.Rows.args_sorted1 _) ?_
  unfold Builtin.«sorted»
  refine wpAny_bind (m := checkCount "sorted" 1 1 _) (wpAny_pure ?_)
  refine wpAny_bind (PySem.W.kdu_collect (A := X.A.in1) (kdl_any lo hx hdat) (I.ok.hd hc) ho (by rw [hsz, hLl, sizeLine_eq]; omega) fun h' tk acc hk hacc => ?_)
  have ea : acc.toList = L.map fun q => Value.ref q.1 := by
    rw [← e1]
    refine List.ext_getElem? fun i => ?_
    by_cases hi : i < acc.size
    · have hv : acc[i]? = some acc[i] := Array.getElem?_eq_getElem hi
      obtain ⟨en, h1, h2⟩ := hacc.2 i _ hv
      rw [Array.getElem?_toList, hv, List.getElem?_map, Array.getElem?_toList, h1, h2]
      rfl
    · have h1 : acc.toList[i]? = none := by rw [Array.getElem?_toList]; exact Array.getElem?_eq_none (by omega)
      have h2 : es.toList[i]? = none := by rw [Array.getElem?_toList]; exact Array.getElem?_eq_none (by have := hacc.1; omega)
      rw [h1, List.getElem?_map, h2]; rfl
  have hal : acc.toList.length < 64 := by rw [ea, List.length_map, hLl]; exact h64
  have I1 : Inv X pins σ H { s with heap := h', toks := tk } := I.kept hk
  refine wpAny_bind (wpAny_newList ?_ (by rw [sizeLine_eq]; omega))
  have hoL : (h'.push (seqObj "list" acc.toList.toArray 0)).get? h'.objs.size = some (seqObj "list" acc.toList.toArray 0) := Heap.get?_push_size _ rfl
  show wpAny _ _ _ _ _ { s with heap := h'.push (seqObj "list" acc.toList.toArray 0), toks := tk }
  have tup : ∀ q ∈ L, TS.TupInts h' (.ref q.1) q.2 := fun q hq => tupI_raw I1 (.inl (.inl (e3 q hq)))
  have tup2 : ∀ q ∈ L, TS.TupInts (h'.push (seqObj "list" acc.toList.toArray 0)) (.ref q.1) q.2 := fun q hq => (tup q hq).keeps fun b o e _ => Heap.get?_push_of_some _ e
  have xk : TS.TupsOk (h'.push (seqObj "list" acc.toList.toArray 0)) n B acc.toList := fun v hv => by
    rw [ea] at hv
    obtain ⟨q, hq, rfl⟩ := List.mem_map.mp hv
    have hm : q.2 ∈ ks := by rw [← e2]; exact List.mem_map.mpr ⟨q, hq, rfl⟩
    exact ⟨q.2, tup2 q hq, hB q.2 hm⟩
  refine wpAny_bind (wpAny_holding (TS.call_sort_tups (s := { s with heap := h'.push (seqObj "list" acc.toList.toArray 0), toks := tk }) hoL hal hn xk fun out a1 a2 => ?_))
  obtain ⟨e', he'⟩ := PyProof.Rows.sortedHeap_at (vs := acc.toList) (out := out) hoL
  obtain ⟨L', pL, eL⟩ := perm_map_inv (f := fun q : Addr × List Int => Value.ref q.1) (l := out.toList) (L := L) (by rw [← ea]; exact a1)
  have hs' : ∀ q ∈ L', q ∈ L := fun q hq => pL.mem_iff.mp hq
  have pw : L'.Pairwise (fun q r => TS.code B q.2 ≤ TS.code B r.2) := by
    rw [eL] at a2
    refine List.Pairwise.imp_of_mem (fun {q r} hq hr hle => ?_) (List.pairwise_map.mp a2)
    have f1 := (tup2 q (hs' q hq)).ints
    have f2 := (tup2 r (hs' r hr)).ints
    rw [← f1, ← f2]
    exact hle
  have hlen : (L'.map fun q => V.ref q.1).length ≤ sizeLine := by
    rw [List.length_map, pL.length_eq, hLl, sizeLine_eq]; omega
  have hvals : Vals (L'.map fun q => V.ref q.1) out.toList := by
    rw [eL]
    exact vals_refsA L'
  refine wpAny_pure ⟨_, rfl, .ref h'.objs.size, upd H h'.objs.size (.lst (L'.map fun q => V.ref q.1)), I1.laid (t' := tk) (fun b u e => ?_) (Nat.le_refl _)
    (show ObjOk X.prog X.w _ _ _ (.lst (L'.map fun q => V.ref q.1)) from ⟨hlen, out.toList, e', hvals, by rw [Array.toArray_toList]; exact he'⟩), rfl, q L' _ ?_ pw (fun q hq => e3 q (hs' q hq)) (I1.hok.fresh (Nat.le_refl _))⟩
  · have hb : b < h'.objs.size := Heap.lt_size e
    rw [PyProof.Rows.sortedHeap_old (Nat.ne_of_lt hb) (by rw [size_push']; exact Nat.lt_succ_of_lt hb)]
    exact Heap.get?_push_of_some _ e
  · rw [← e2]; exact pL.map _
end
end L2
namespace AL
open PySem PySem.Spec PyProof.Rows L2 Evl
def tupI (k : List Int) : D := .tup (k.map D.int)
theorem rows_reps {K : PySem.W.Frag} {B : Hp} : ∀ {L : List (Addr × List Int)}, (∀ q ∈ L, B q.1 = some (.tup (q.2.map V.int))) → Reps K B (L.map fun q => V.ref q.1) (L.map fun q => tupI q.2)
  | [], _ => .nil
  | q :: L, h => .cons (.tup (h q List.mem_cons_self) (int_reps q.2)) (rows_reps fun r hr => h r (List.mem_cons_of_mem _ hr))
section
variable {X : Cx} {Z : Zx} {ρ : En} {Φ : D → En → Prop} {p pos ps : Pos} {x : Str}
/-- sorted(x), x a dict of one's own whose keys are tuples of n ints in [0, Bd) -/
theorem ec_sortedDT (i : Nat) {kds : List (List Key × D)} {aq : Addr} {ks : List (List Int)} (n : Nat) (Bd : Int) (hd : ρ[i]? = some (some (.ow aq (.t kds)))) (hk : kds.map (·.1) = ks.map fun k => k.map Sum.inl) (hl : ks.length < 64) (hn : 1 ≤ n) (hB : ∀ k ∈ ks, k.length = n ∧ TS.Bd Bd k)
    (h : ∀ ks' : List (List Int), ks'.Perm ks → ks'.Pairwise (fun a b => TS.code Bd a ≤ TS.code Bd b) → Φ (.lst (ks'.map tupI)) ρ) (hm : X.mg "sorted" = none)
    (hc : X.calm = true := by rfl) (hg : Gl X "sorted" := by rfl) (hN : X.N[i]? = some x := by rfl) (hv : Vis X.env.scope x := by first | exact Or.inl rfl | exact Or.inr (Or.inl rfl) | exact Or.inr (Or.inr rfl)) (hdb : (x == ("__debug__" : Str)) = false := by decide) (hcd : (x == ("__classdict__" : Str)) = false := by decide)
    (he : starEach [.Name x ps] X.env = (false, eval (.Name x ps) X.env) :: starEach [] X.env := by rfl) (hpl : (backTo pos (starEach [] X.env)).any (·.1) = false := by rfl) : EC X Z (.Call (.Name "sorted" p) [.Name x ps] [] pos) ρ Φ := fun B G H σ o z Q q => by
  obtain ⟨g1, _, _, u, g4, g5⟩ := o.ow i aq _ hd
  cases u with
  | dT kvs =>
    refine (pe_callB (cr_sortedDT hn hc) hg hm boot_sorted (pa_cons (pe_var hN hv hdb hcd) pa_nil he) (he := he) (hpl := hpl)).w ⟨_, g1, aq, kvs, ks, rfl, .of g4, by rw [RepK.keys g5]; exact hk, hl, hB, fun L p' h1 h2 h3 hp => ?_⟩
    obtain ⟨e2, o2⟩ := o.grow (u := .lst (L.map fun q => V.ref q.1)) hp
    have hr := rows_reps (K := X.K) (L := L) fun q hq => o.s.tp _ _ (h3 q hq) rfl
    have hres := h (L.map (·.2)) h1 (List.pairwise_map.mpr h2)
    rw [List.map_map] at hres
    exact q _ ρ _ _ _ hres e2 o2 (.lst upd_same (Reps.up hr e2))
  | _ => exact False.elim g5
end
end AL
namespace L2
open PySem PySem.Spec PyProof.Rows
section
variable {X : Cx}
def rInDT (K : PySem.W.Frag) : R2 := fun x y H Q => ∃ d ds, Dp K H x d ∧ Dp K H y (.tuple ds) ∧ SeqAt.shaped d = true ∧ SeqAt.shaped (.tuple ds) = true ∧ Q (.bl (ds.any fun z => PyData.eqv z d)) H
def rNotInDT (K : PySem.W.Frag) : R2 := fun x y H Q => ∃ d ds, Dp K H x d ∧ Dp K H y (.tuple ds) ∧ SeqAt.shaped d = true ∧ SeqAt.shaped (.tuple ds) = true ∧ Q (.bl (!ds.any fun z => PyData.eqv z d)) H
theorem op_inDT (hu : X.A.units + 65 < cLine) : OpR X (compareOp .In) (rInDT X.K) := by
  intro pins s σ H x y v u Q I rx ry h
  obtain ⟨d, ds, hd, he, sd, se, q⟩ := h
  obtain ⟨as, r1⟩ := Dp.reads I d x v hd rx
  obtain ⟨bs, r2⟩ := Dp.reads I (.tuple ds) y u he ry
  exact SeqAt.in_tuple_reads r2 r1 (SeqAt.canLay_of_shaped se) (SeqAt.canLay_of_shaped sd) (room_in_shaped sd hu) ⟨.bl _, H, I, rfl, q⟩
theorem op_notInDT (hu : X.A.units + 65 < cLine) : OpR X (compareOp .NotIn) (rNotInDT X.K) := by
  intro pins s σ H x y v u Q I rx ry h
  obtain ⟨d, ds, hd, he, sd, se, q⟩ := h
  obtain ⟨as, r1⟩ := Dp.reads I d x v hd rx
  obtain ⟨bs, r2⟩ := Dp.reads I (.tuple ds) y u he ry
  exact SeqAt.notIn_tuple_reads r2 r1 (SeqAt.canLay_of_shaped se) (SeqAt.canLay_of_shaped sd) (room_in_shaped sd hu) ⟨.bl _, H, I, rfl, q⟩
end
end L2
namespace AL
open PySem PySem.Spec PyProof.Rows L2 Evl
/-! ### data as the model's own data -/
mutual
def pyD : D → Option PyData
  | .non => some .none
  | .bl b => some (.bool b)
  | .int i => some (.int i)
  | .str x => some (.str x)
  | .lst ds => match pyDs ds with
    | some ps => some (.list ps)
    | none => none
  | .tup ds => match pyDs ds with
    | some ps => some (.tuple ps)
    | none => none
  | .ktup ds => match pyDs ds with
    | some ps => some (.tuple ps)
    | none => none
  | .klst ds => match pyDs ds with
    | some ps => some (.list ps)
    | none => none
  | .obj _ _ => none
  | .exc _ _ _ => none
def pyDs : List D → Option (List PyData)
  | [] => some []
  | d :: ds => match pyD d, pyDs ds with
    | some p, some ps => some (p :: ps)
    | _, _ => none
end
section
variable {K : PySem.W.Frag} {B H : Hp}
mutual
theorem rep_dp (e : Ex B H) : ∀ (d : D) {v : V} {p : PyData}, Rep K B v d → pyD d = some p → Dp K H v p
  | .non, _, _, .non, h => by unfold pyD at h; cases h; exact .non
  | .bl b, _, _, .bl _, h => by unfold pyD at h; cases h; exact .bl b
  | .int i, _, _, .int _, h => by unfold pyD at h; cases h; exact .int i
  | .str x, _, _, .str _, h => by unfold pyD at h; cases h; exact .str x
  | .lst ds, _, _, .lst hq r, h => by
    unfold pyD at h
    split at h
    · rename_i ps hp; cases h; exact .lst (sq_of (e _ _ hq)) (reps_dp e ds r hp)
    · cases h
  | .tup ds, _, _, .tup hq r, h => by
    unfold pyD at h
    split at h
    · rename_i ps hp; cases h; exact .tup (ex_t e (st_of hq)) (reps_dp e ds r hp)
    · cases h
  | .ktup ds, _, _, .ktup hq r, h => by
    unfold pyD at h
    split at h
    · rename_i ps hp; cases h; exact .tup (ex_t e hq) (reps_dp e ds r hp)
    · cases h
  | .klst ds, _, _, .klst hq r, h => by
    unfold pyD at h
    split at h
    · rename_i ps hp; cases h; exact .lst (ex_l e hq) (reps_dp e ds r hp)
    · cases h
  | .obj _ _, _, _, _, h => by unfold pyD at h; cases h
  | .exc _ _ _, _, _, _, h => by unfold pyD at h; cases h
theorem reps_dp (e : Ex B H) : ∀ (ds : List D) {vs : List V} {ps : List PyData}, Reps K B vs ds → pyDs ds = some ps → DpAll K H vs ps
  | [], _, _, .nil, h => by unfold pyDs at h; cases h; exact .nil
  | d :: ds, _, _, .cons r rs, h => by
    unfold pyDs at h
    split at h
    · rename_i p ps h1 h2; cases h; exact .cons (rep_dp e d r h1) (reps_dp e ds rs h2)
    · cases h
end
end
theorem g_eqD {K : PySem.W.Frag} {d e : D} {p q : PyData} (hp : pyD d = some p) (hq : pyD e = some q) (sp : SeqAt.shaped p = true) (sq : SeqAt.shaped q = true) : Gives K (rEqD K) d e (.bl (PyData.eqv p q)) := fun B G H x y s r1 r2 =>
  ⟨_, .bl _, fun Q k => ⟨p, q, rep_dp s.ex d r1 hp, rep_dp s.ex e r2 hq, sp, sq, k⟩⟩
theorem g_neD {K : PySem.W.Frag} {d e : D} {p q : PyData} (hp : pyD d = some p) (hq : pyD e = some q) (sp : SeqAt.shaped p = true) (sq : SeqAt.shaped q = true) : Gives K (rNeD K) d e (.bl (!PyData.eqv p q)) := fun B G H x y s r1 r2 =>
  ⟨_, .bl _, fun Q k => ⟨p, q, rep_dp s.ex d r1 hp, rep_dp s.ex e r2 hq, sp, sq, k⟩⟩
theorem g_inDT {K : PySem.W.Frag} {d e : D} {p : PyData} {qs : List PyData} (hp : pyD d = some p) (hq : pyD e = some (.tuple qs)) (sp : SeqAt.shaped p = true) (sq : SeqAt.shaped (.tuple qs) = true) : Gives K (rInDT K) d e (.bl (qs.any fun z => PyData.eqv z p)) := fun B G H x y s r1 r2 =>
  ⟨_, .bl _, fun Q k => ⟨p, qs, rep_dp s.ex d r1 hp, rep_dp s.ex e r2 hq, sp, sq, k⟩⟩
theorem g_niDT {K : PySem.W.Frag} {d e : D} {p : PyData} {qs : List PyData} (hp : pyD d = some p) (hq : pyD e = some (.tuple qs)) (sp : SeqAt.shaped p = true) (sq : SeqAt.shaped (.tuple qs) = true) : Gives K (rNotInDT K) d e (.bl (!qs.any fun z => PyData.eqv z p)) := fun B G H x y s r1 r2 =>
  ⟨_, .bl _, fun Q k => ⟨p, qs, rep_dp s.ex d r1 hp, rep_dp s.ex e r2 hq, sp, sq, k⟩⟩
/-! ### tuples of ints, tuples of such -/
def pyI (k : List Int) : PyData := .tuple (k.map PyData.int)
theorem pyDs_map {α : Type} (f : α → D) (g : α → PyData) (h : ∀ a, pyD (f a) = some (g a)) : ∀ l : List α, pyDs (l.map f) = some (l.map g)
  | [] => by unfold pyDs; rfl
  | a :: l => by rw [List.map_cons, pyDs, h a, pyDs_map f g h l]; rfl
theorem py_tupI (k : List Int) : pyD (tupI k) = some (pyI k) := by
  unfold tupI pyD pyI
  rw [pyDs_map D.int PyData.int (fun i => by unfold pyD; rfl) k]
theorem eqv_ints : ∀ k l : List Int, PyData.eqvAll (k.map PyData.int) (l.map PyData.int) = decide (k = l)
  | [], [] => by simp [PyData.eqvAll]
  | [], _ :: _ => by simp [PyData.eqvAll]
  | _ :: _, [] => by simp [PyData.eqvAll]
  | a :: k, b :: l => by
    rw [List.map_cons, List.map_cons, PyData.eqvAll, eqv_ints k l, PyData.eqv]
    by_cases h : a = b
    · subst h; simp
    · simp [h]
theorem eqv_tupI (k l : List Int) : PyData.eqv (pyI k) (pyI l) = decide (k = l) := by unfold pyI; rw [PyData.eqv]; exact eqv_ints k l
theorem any_tupI (k : List Int) : ∀ ks : List (List Int), ((ks.map pyI).any fun z => PyData.eqv z (pyI k)) = decide (k ∈ ks)
  | [] => rfl
  | l :: ks => by
    rw [List.map_cons, List.any_cons, eqv_tupI, any_tupI k ks]
    by_cases h : l = k
    · subst h; simp
    · have h' : ¬ k = l := fun z => h z.symm
      simp [h, h']
theorem lay_ints : ∀ k : List Int, PyData.canLayAll0 (k.map PyData.int) = true
  | [] => by rw [List.map_nil, PyData.canLayAll0]
  | a :: k => by rw [List.map_cons, PyData.canLayAll0, lay_ints k, PyData.canLay0]; rfl
theorem lay_rows : ∀ ks : List (List Int), PyData.canLayAll0 (ks.map pyI) = true
  | [] => by rw [List.map_nil, PyData.canLayAll0]
  | a :: k => by rw [List.map_cons, PyData.canLayAll0, lay_rows k]; unfold pyI; rw [PyData.canLay0, lay_ints]; rfl
theorem dep_ints : ∀ k : List Int, PyData.depthAll (k.map PyData.int) ≤ 1
  | [] => by rw [List.map_nil, PyData.depthAll]; omega
  | a :: k => by
    rw [List.map_cons, PyData.depthAll]
    have := dep_ints k
    have h2 : PyData.depth (.int a) ≤ 1 := by rw [PyData.depth]; omega
    omega
theorem dep_row (k : List Int) : PyData.depth (pyI k) ≤ 2 := by
  unfold pyI; rw [PyData.depth]; have := dep_ints k; omega
theorem dep_rows : ∀ ks : List (List Int), PyData.depthAll (ks.map pyI) ≤ 2
  | [] => by rw [List.map_nil, PyData.depthAll]; omega
  | a :: k => by
    rw [List.map_cons, PyData.depthAll]
    have := dep_rows k
    have h2 := dep_row a
    omega
theorem shp_row (k : List Int) : SeqAt.shaped (pyI k) = true := by
  unfold SeqAt.shaped
  rw [Bool.and_eq_true, decide_eq_true_eq]
  have := dep_row k
  exact ⟨by unfold pyI; rw [PyData.canLay0]; exact lay_ints k, by omega⟩
theorem shp_rows (ks : List (List Int)) : SeqAt.shaped (.tuple (ks.map pyI)) = true := by
  unfold SeqAt.shaped
  rw [Bool.and_eq_true, decide_eq_true_eq]
  have := dep_rows ks
  exact ⟨by rw [PyData.canLay0]; exact lay_rows ks, by rw [PyData.depth]; omega⟩
theorem py_rows (ks : List (List Int)) : pyD (.tup (ks.map tupI)) = some (.tuple (ks.map pyI)) := by
  rw [pyD, pyDs_map tupI pyI py_tupI ks]
section
variable {X : Cx} {Z : Zx} {a b : Expr} {ρ : En} {Φ : D → En → Prop} {Ψ : Bool → En → Prop} {pos : Pos}
/-- a in b: a tuple of ints in a tuple of such -/
theorem ec_inT (hu : X.A.units + 65 < cLine) (h : EC X Z a ρ fun d ρ1 => EC X Z b ρ1 fun d' ρ2 => ∃ (k : List Int) (ks : List (List Int)), d = tupI k ∧ d' = .tup (ks.map tupI) ∧ Φ (.bl (decide (k ∈ ks))) ρ2) (hm : behindInMarks .In b = false := by rfl) : EC X Z (.Compare a [.In] [b] pos) ρ Φ :=
  ec_cmp (op_inDT hu) hm (h.mono fun d ρ1 z => z.mono fun d' ρ2 ⟨k, ks, e1, e2, q⟩ => by subst e1; subst e2; exact ⟨_, g_inDT (py_tupI k) (py_rows ks) (shp_row k) (shp_rows ks), by rw [any_tupI]; exact q⟩)
theorem ec_niT (hu : X.A.units + 65 < cLine) (h : EC X Z a ρ fun d ρ1 => EC X Z b ρ1 fun d' ρ2 => ∃ (k : List Int) (ks : List (List Int)), d = tupI k ∧ d' = .tup (ks.map tupI) ∧ Φ (.bl (!decide (k ∈ ks))) ρ2) (hm : behindInMarks .NotIn b = false := by rfl) : EC X Z (.Compare a [.NotIn] [b] pos) ρ Φ :=
  ec_cmp (op_notInDT hu) hm (h.mono fun d ρ1 z => z.mono fun d' ρ2 ⟨k, ks, e1, e2, q⟩ => by subst e1; subst e2; exact ⟨_, g_niDT (py_tupI k) (py_rows ks) (shp_row k) (shp_rows ks), by rw [any_tupI]; exact q⟩)
theorem tc_inT (hu : X.A.units + 65 < cLine) (h : EC X Z a ρ fun d ρ1 => EC X Z b ρ1 fun d' ρ2 => ∃ (k : List Int) (ks : List (List Int)), d = tupI k ∧ d' = .tup (ks.map tupI) ∧ Ψ (decide (k ∈ ks)) ρ2) (hm : behindInMarks .In b = false := by rfl) : TC X Z (.Compare a [.In] [b] pos) ρ Ψ :=
  tc_op (op_inDT hu) hm (h.mono fun d ρ1 z => z.mono fun d' ρ2 ⟨k, ks, e1, e2, q⟩ => by subst e1; subst e2; exact ⟨_, g_inDT (py_tupI k) (py_rows ks) (shp_row k) (shp_rows ks), by rw [any_tupI]; exact q⟩)
theorem tc_niT (hu : X.A.units + 65 < cLine) (h : EC X Z a ρ fun d ρ1 => EC X Z b ρ1 fun d' ρ2 => ∃ (k : List Int) (ks : List (List Int)), d = tupI k ∧ d' = .tup (ks.map tupI) ∧ Ψ (!decide (k ∈ ks)) ρ2) (hm : behindInMarks .NotIn b = false := by rfl) : TC X Z (.Compare a [.NotIn] [b] pos) ρ Ψ :=
  tc_op (op_notInDT hu) hm (h.mono fun d ρ1 z => z.mono fun d' ρ2 ⟨k, ks, e1, e2, q⟩ => by subst e1; subst e2; exact ⟨_, g_niDT (py_tupI k) (py_rows ks) (shp_row k) (shp_rows ks), by rw [any_tupI]; exact q⟩)
/-- a == b, data of any depth -/
theorem ec_eqD (hu : X.A.units + 64 < cLine) (h : EC X Z a ρ fun d ρ1 => EC X Z b ρ1 fun d' ρ2 => ∃ p q, pyD d = some p ∧ pyD d' = some q ∧ SeqAt.shaped p = true ∧ SeqAt.shaped q = true ∧ Φ (.bl (PyData.eqv p q)) ρ2) (hm : behindInMarks .Eq b = false := by rfl) : EC X Z (.Compare a [.Eq] [b] pos) ρ Φ :=
  ec_cmp (op_eqD hu) hm (h.mono fun d ρ1 z => z.mono fun d' ρ2 ⟨p, q, e1, e2, e3, e4, k⟩ => ⟨_, g_eqD e1 e2 e3 e4, k⟩)
theorem ec_neD (hu : X.A.units + 64 < cLine) (h : EC X Z a ρ fun d ρ1 => EC X Z b ρ1 fun d' ρ2 => ∃ p q, pyD d = some p ∧ pyD d' = some q ∧ SeqAt.shaped p = true ∧ SeqAt.shaped q = true ∧ Φ (.bl (!PyData.eqv p q)) ρ2) (hm : behindInMarks .NotEq b = false := by rfl) : EC X Z (.Compare a [.NotEq] [b] pos) ρ Φ :=
  ec_cmp (op_neD hu) hm (h.mono fun d ρ1 z => z.mono fun d' ρ2 ⟨p, q, e1, e2, e3, e4, k⟩ => ⟨_, g_neD e1 e2 e3 e4, k⟩)
theorem tc_eqD (hu : X.A.units + 64 < cLine) (h : EC X Z a ρ fun d ρ1 => EC X Z b ρ1 fun d' ρ2 => ∃ p q, pyD d = some p ∧ pyD d' = some q ∧ SeqAt.shaped p = true ∧ SeqAt.shaped q = true ∧ Ψ (PyData.eqv p q) ρ2) (hm : behindInMarks .Eq b = false := by rfl) : TC X Z (.Compare a [.Eq] [b] pos) ρ Ψ :=
  tc_op (op_eqD hu) hm (h.mono fun d ρ1 z => z.mono fun d' ρ2 ⟨p, q, e1, e2, e3, e4, k⟩ => ⟨_, g_eqD e1 e2 e3 e4, k⟩)
theorem tc_neD (hu : X.A.units + 64 < cLine) (h : EC X Z a ρ fun d ρ1 => EC X Z b ρ1 fun d' ρ2 => ∃ p q, pyD d = some p ∧ pyD d' = some q ∧ SeqAt.shaped p = true ∧ SeqAt.shaped q = true ∧ Ψ (!PyData.eqv p q) ρ2) (hm : behindInMarks .NotEq b = false := by rfl) : TC X Z (.Compare a [.NotEq] [b] pos) ρ Ψ :=
  tc_op (op_neD hu) hm (h.mono fun d ρ1 z => z.mono fun d' ρ2 ⟨p, q, e1, e2, e3, e4, k⟩ => ⟨_, g_neD e1 e2 e3 e4, k⟩)
end
mutual
theorem eqv_refl : ∀ p : PyData, p.canLay0 = true → PyData.eqv p p = true
  | .none, _ => by rw [PyData.eqv]
  | .bool b, _ => by rw [PyData.eqv]; exact beq_self_eq_true b
  | .int i, _ => by rw [PyData.eqv]; exact beq_self_eq_true i
  | .str x, _ => by rw [PyData.eqv]; exact beq_self_eq_true x
  | .list ps, h => by rw [PyData.eqv]; exact eqvAll_refl ps (by rw [PyData.canLay0] at h; exact h)
  | .tuple ps, h => by rw [PyData.eqv]; exact eqvAll_refl ps (by rw [PyData.canLay0] at h; exact h)
  | .dict _, h => by rw [PyData.canLay0] at h; cases h
theorem eqvAll_refl : ∀ ps : List PyData, PyData.canLayAll0 ps = true → PyData.eqvAll ps ps = true
  | [], _ => by rw [PyData.eqvAll]
  | p :: ps, h => by
    rw [PyData.canLayAll0, Bool.and_eq_true] at h
    rw [PyData.eqvAll, eqv_refl p h.1, eqvAll_refl ps h.2]; rfl
end
end AL
namespace AL
open PySem PySem.Spec PyProof.Rows L2 Evl
section
variable {K : PySem.W.Frag} {B B' G H H' : Hp} {σ σ' : L2.St} {ρ ρ' : En} {i : Nat} {a : Addr} {oo oo' : OO}
theorem rest_of {p : Option Addr} {b : Addr} {w : HO} (h : rest B H p b = some w) : H b = some w ∧ B b = none ∧ some b ≠ p := by
  unfold rest at h
  split at h
  · cases h
  · rename_i h1
    split at h
    · cases h
    · rename_i h2; exact ⟨h, by simpa using h2, h1⟩
theorem rest_is {p : Option Addr} {b : Addr} {w : HO} (h1 : H b = some w) (h2 : B b = none) (h3 : some b ≠ p) : rest B H p b = some w := by
  unfold rest; rw [if_neg h3, if_neg (by simp [h2])]; exact h1
theorem Ok.call1 (o : Ok K B G H σ ρ) (hi : ρ[i]? = some (some (.ow a oo))) {vs : List V} {ds : List D} (r : Reps K B vs ds) : Ok K B (rest B H (some a)) H ((V.ref a :: vs).map some) ((Sl.ow a oo :: ds.map Sl.im).map some) := by
  obtain ⟨h1, h2, h3, u, h4, h5⟩ := o.ow i a oo hi
  have ob := o.call r
  have no : ∀ (j : Nat) (b : Addr) (w : OO), ((Sl.ow a oo :: ds.map Sl.im).map some)[j + 1]? ≠ some (some (Sl.ow b w)) := fun j b w hw => by
    have hw' : ((ds.map Sl.im).map some)[j]? = some (some (Sl.ow b w)) := by simpa using hw
    have hd' := mapq.mp hw'
    rw [List.getElem?_map] at hd'
    cases e : ds[j]? <;> rw [e] at hd' <;> simp at hd'
  refine ⟨⟨o.s.ex, fun b w hw => (rest_of hw).1, fun b w hw => (rest_of hw).2.1, o.s.tp⟩, by simp [r.length], fun j d hd => ?_, fun j b w hw => ?_, fun j k b w w' e1 e2 => ?_⟩
  · cases j with
    | zero => simp at hd
    | succ j => exact ob.im j d (by simpa using hd)
  · cases j with
    | zero =>
      simp at hw
      obtain ⟨rfl, rfl⟩ := hw
      exact ⟨rfl, h2, by unfold rest; rw [if_pos rfl], u, h4, h5⟩
    | succ j => exact absurd hw (no j b w)
  · cases j with
    | zero => cases k with
      | zero => rfl
      | succ k => exact absurd e2 (no k b w')
    | succ j => exact absurd e1 (no j b w)
theorem Ok.behind1s (o : Ok K B G H σ ρ) (hi : ρ[i]? = some (some (.ow a oo))) (s' : St3 B' (rest B H (some a)) H') : St3 B' G H' := by
  obtain ⟨_, _, h3, _⟩ := o.ow i a oo hi
  have old : ∀ b w, G b = some w → H' b = some w ∧ B' b = none := fun b w hw => by
    have hb : b ≠ a := fun z => by subst z; rw [h3] at hw; cases hw
    have h1 := rest_is (p := some a) (o.s.eg b w hw) (o.s.dj b w hw) (by simpa using hb)
    exact ⟨s'.eg b w h1, s'.dj b w h1⟩
  exact ⟨s'.ex, fun b w hw => (old b w hw).1, fun b w hw => (old b w hw).2, s'.tp⟩
theorem Ok.behind1d (o : Ok K B G H σ ρ) (hi : ρ[i]? = some (some (.ow a oo))) (e : Ex B B') (s' : St3 B' (rest B H (some a)) H') : Ok K B' G H' σ (ρ.set i none) := by
  have hl : i < ρ.length := (List.getElem?_eq_some_iff.mp hi).1
  have keep : ∀ {k : Nat} {x : Sl}, (ρ.set i none)[k]? = some (some x) → ρ[k]? = some (some x) ∧ i ≠ k := fun {k x} h => by
    rw [getq_set] at h
    by_cases hik : i = k
    · rw [if_pos ⟨hik, hik ▸ hl⟩] at h; cases h
    · rw [if_neg (fun z => hik z.1), if_neg hik] at h; exact ⟨h, hik⟩
  refine ⟨o.behind1s hi s', by simp [o.len], fun k d hd => ?_, fun k b w hw => ?_, fun k l b w w' e1 e2 => o.ne k l b w w' (keep e1).1 (keep e2).1⟩
  · obtain ⟨v, q1, q2⟩ := o.im k d (keep hd).1
    exact ⟨v, q1, q2.up e⟩
  · obtain ⟨hw', hik⟩ := keep hw
    obtain ⟨q1, q2, q3, x, q4, q5⟩ := o.ow k b w hw'
    have hb : b ≠ a := fun z => by subst z; exact hik (o.ne i k b oo w hi hw')
    have hr := rest_is (p := some a) q4 q2 (by simpa using hb)
    exact ⟨q1, s'.dj b x hr, q3, x, s'.eg b x hr, q5.up e⟩
theorem Ok.behind1 (o : Ok K B G H σ ρ) (hi : ρ[i]? = some (some (.ow a oo))) (e : Ex B B') (o' : Ok K B' (rest B H (some a)) H' σ' ρ') {j : Nat} (hj : ρ'[j]? = some (some (.ow a oo'))) : Ok K B' G H' σ (ρ.set i (some (.ow a oo'))) := by
  obtain ⟨h1, h2, h3, u, h4, h5⟩ := o.ow i a oo hi
  obtain ⟨_, g2, g3, u', g4, g5⟩ := o'.ow j a oo' hj
  have hl : i < ρ.length := (List.getElem?_eq_some_iff.mp hi).1
  refine ⟨o.behind1s hi o'.s, by simp [o.len], fun k d hd => ?_, fun k b w hw => ?_, fun k l b w w' e1 e2 => ?_⟩
  · rw [getq_set] at hd
    by_cases hik : i = k
    · rw [if_pos ⟨hik, hik ▸ hl⟩] at hd; simp at hd
    · rw [if_neg (fun z => hik z.1), if_neg hik] at hd
      obtain ⟨v, q1, q2⟩ := o.im k d hd
      exact ⟨v, q1, q2.up e⟩
  · rw [getq_set] at hw
    by_cases hik : i = k
    · rw [if_pos ⟨hik, hik ▸ hl⟩] at hw
      simp at hw
      obtain ⟨rfl, rfl⟩ := hw
      subst hik
      exact ⟨h1, g2, h3, u', g4, g5⟩
    · rw [if_neg (fun z => hik z.1), if_neg hik] at hw
      obtain ⟨q1, q2, q3, x, q4, q5⟩ := o.ow k b w hw
      have hb : b ≠ a := fun z => by subst z; exact hik (o.ne i k b oo w hi hw)
      have hr := rest_is (p := some a) q4 q2 (by simpa using hb)
      exact ⟨q1, o'.s.dj b x hr, q3, x, o'.s.eg b x hr, q5.up e⟩
  · rw [getq_set] at e1 e2
    by_cases hik : i = k
    · by_cases hil : i = l
      · exact hik.symm.trans hil
      · rw [if_pos ⟨hik, hik ▸ hl⟩] at e1
        rw [if_neg (fun z => hil z.1), if_neg hil] at e2
        simp at e1
        obtain ⟨rfl, rfl⟩ := e1
        exact absurd (o.ne i l a oo w' hi e2) hil
    · rw [if_neg (fun z => hik z.1), if_neg hik] at e1
      by_cases hil : i = l
      · rw [if_pos ⟨hil, hil ▸ hl⟩] at e2
        simp at e2
        obtain ⟨rfl, rfl⟩ := e2
        exact absurd (o.ne i k a oo w hi e1) hik
      · rw [if_neg (fun z => hil z.1), if_neg hil] at e2
        exact o.ne k l b w w' e1 e2
end
/-! ### promises with an owned object ahead -/
/-- one owned object and data in, a datum out -/
def PFo (n : Nat) (S : OO → List D → (D → OO → Prop) → Prop) : Pr := fun as Φ => ∃ a o ds, as = .ow a o :: ds.map Sl.im ∧ ds.length = n ∧ S o ds fun d o' => Φ (.ret (.im d) (.ow a o' :: ds.map Sl.im))
def MonoO (S : OO → List D → (D → OO → Prop) → Prop) : Prop := ∀ o ds Φ Φ', (∀ d o', Φ d o' → Φ' d o') → S o ds Φ → S o ds Φ'
theorem PFo.len {n : Nat} {S : OO → List D → (D → OO → Prop) → Prop} {ps : List Str} (h : ps.length = n + 1) : ∀ as Φ, PFo n S as Φ → as.length = ps.length := fun as Φ ⟨a, o, ds, h1, h2, _⟩ => by rw [h1, h, ← h2]; simp
theorem PFo.mono {n : Nat} {S : OO → List D → (D → OO → Prop) → Prop} (m : MonoO S) : Mono (PFo n S) := fun as Φ Φ' h ⟨a, o, ds, h1, h2, h3⟩ => ⟨a, o, ds, h1, h2, m _ _ _ _ (fun d o' x => h _ x) h3⟩
def envO (n : Nat) (a : Addr) (o : OO) (ds : List D) : En := some (.ow a o) :: envD (n - 1) ds
def OutO (a : Addr) (Ψ : D → OO → Prop) : Outs where
  nx := fun ρ' => ∃ o', ρ'[0]? = some (some (.ow a o')) ∧ Ψ .non o'
  rt := fun r ρ' => match r with
    | .im d => ∃ o', ρ'[0]? = some (some (.ow a o')) ∧ Ψ d o'
    | .fr _ => False
/-- what a caller wants of the outcome, the first argument owned -/
def WantO (R : Addr → List (Str × D) → Prop) (a : Addr) (ds : List D) (Φ : D → OO → Prop) : Oc → Prop
  | .ret (.im d) (.ow a' o' :: as') => a' = a ∧ as' = ds.map Sl.im ∧ Φ d o'
  | .ret _ _ => False
  | .raise C fs => R C fs
section
variable {P : Program} {w : World} {K : PySem.W.Frag} {mg : Str → Option Value} {base : Heap} {x qual : Str} {params : Arguments} {body : List Stmt} {scope : Scope} {f : Addr} {fd : FuncData} {N ps : List Str} {k n : Nat}
theorem cal_fo {S : OO → List D → (D → OO → Prop) → Prop} (F : FunD K x qual params body scope [] [] f fd) (hm : mg x = some (.ref f)) (Sc : FnScope N ps scope) (hn : ps.length = n + 1)
    (hb : ∀ (kV doc pm : Value) (an : Option Addr) (cdv ct : Value) (us : List Value), us.length = ps.length → bindArgs (PySem.W.fnOf x qual params body scope .none kV doc pm an cdv ct) ⟨us, []⟩ = pure (ps.zip us))
    (h : ∀ cdv A outer s H E, Room k (bodyX P w K mg base N qual scope f cdv A outer s H E).A → ∀ a o ds Ψ, ds.length = n → S o ds Ψ → SC (bodyX P w K mg base N qual scope f cdv A outer s H E) Z0 body (envO N.length a o ds) (OutO a Ψ)) :
    Cal P w K mg base x (k + 1) (PFo n S) :=
  ⟨f, fd, ps, def_ok F Sc (PFo.len hn) (fun cdv A outer s H E hr tk as Φ ⟨a, oo, ds, h1, h2, h3⟩ => by
    subst h1
    have es : startE N.length (Sl.ow a oo :: ds.map Sl.im) = envO N.length a oo ds := by
      unfold startE envO envD
      rw [List.map_cons, List.cons_append, List.map_map, List.length_cons, List.length_map]
      have e : N.length - (ds.length + 1) = N.length - 1 - ds.length := by omega
      rw [e]; rfl
    rw [es]
    intro B G H σ Dd o z sv
    have same : ∀ o', SameSl (Sl.ow a oo :: ds.map Sl.im) (Sl.ow a o' :: ds.map Sl.im) := fun o' => .ow (.refl _)
    have rows : ∀ {ρ' : En} {o' : OO}, ρ'[0]? = some (some (Sl.ow a o')) → ∀ (i : Nat) (b : Addr) (q : OO), (Sl.ow a o' :: ds.map Sl.im)[i]? = some (Sl.ow b q) → ρ'[i]? = some (some (Sl.ow b q)) := fun h0 i b q e => by
      cases i with
      | zero => simp at e; obtain ⟨rfl, rfl⟩ := e; exact h0
      | succ i =>
        have e' : (ds.map Sl.im)[i]? = some (Sl.ow b q) := by simpa using e
        rw [List.getElem?_map] at e'
        cases e2 : ds[i]? <;> rw [e2] at e' <;> simp at e'
    refine (h cdv A outer s _ E hr a oo ds _ h2 h3) B G _ σ Dd o RC.none ⟨fun ρ' σ' B' H' ⟨o', h0, hp⟩ => sv.nx ρ' σ' B' H' ⟨_, same o', hp, rows h0⟩, fun r ρ' v σ' B' H' hr => ?_, fun ρ' σ' B' H' a => a.elim, fun ρ' σ' B' H' a => a.elim⟩
    cases r with
    | im d => obtain ⟨o', h0, hp⟩ := hr; exact sv.rt _ ρ' v σ' B' H' ⟨_, same o', hp, rows h0⟩
    | fr oo => exact False.elim hr), hm, F.kp, F.bindsN hb⟩
end
section
variable {X : Cx} {Z : Zx} {e : Expr} {es : List Expr} {ρ : En} {Φ : D → En → Prop} {p pos ps : Pos} {x f : Str} {k n : Nat}
/-- f(x, ..), x an object of one's own -/
theorem ec_co {S : OO → List D → (D → OO → Prop) → Prop} (i : Nat) {a : Addr} {oo : OO} (hd : ρ[i]? = some (some (.ow a oo))) (c : Cal X.prog X.w X.K X.mg X.base f k (PFo n S)) (hr : Room k X.A) (hx : PassW X Z) (mo : MonoO S)
    (h : AC X Z es ρ fun ds ρ1 => ∃ o1, ρ1[i]? = some (some (.ow a o1)) ∧ ds.length = n ∧ S o1 ds fun d o' => Φ d (ρ1.set i (some (.ow a o'))))
    (hg : Gl X f := by rfl) (hdf : (f == ("__debug__" : Str)) = false := by decide) (hN : X.N[i]? = some x := by rfl) (hv : Vis X.env.scope x := by first | exact Or.inl rfl | exact Or.inr (Or.inl rfl) | exact Or.inr (Or.inr rfl)) (hdb : (x == ("__debug__" : Str)) = false := by decide) (hcd : (x == ("__classdict__" : Str)) = false := by decide)
    (he : starEach (.Name x ps :: es) X.env = (false, eval (.Name x ps) X.env) :: starEach es X.env := by rfl) (hpl : (backTo pos (starEach es X.env)).any (·.1) = false := by rfl) : EC X Z (.Call (.Name f p) (.Name x ps :: es) [] pos) ρ Φ := fun B G H σ o z Q q => by
  obtain ⟨fa, fd, pss, F, hm, kp, bd⟩ := c.ex
  obtain ⟨g0, _⟩ := o.ow i a oo hd
  refine (pe_callS (E := fun σ c d H => Z.E c d σ H) F hr hg hm kp bd hx (pa_cons (pe_var hN hv hdb hcd) p_wA he) hdf he hpl).w ?_
  refine ⟨_, g0, h B G H σ o z _ fun ds ρ1 vs B1 H1 ⟨o1, hd1, hl, hS⟩ e1 ok1 r1 => ?_⟩
  refine ⟨B1, rest B1 H1 (some a), Sl.ow a o1 :: ds.map Sl.im, ok1.call1 hd1 r1, PFo.mono mo _ (WantO (fun C fs => Z.R C fs (ρ1.set i none)) a ds fun d o' => Φ d (ρ1.set i (some (.ow a o')))) _ ?_ ⟨a, o1, ds, rfl, hl, mo _ _ _ _ (fun d o' hk => ⟨rfl, rfl, hk⟩) hS⟩⟩
  intro oc hoc
  match oc, hoc with
  | .ret (.im d) (.ow a' o' :: as'), ⟨q1, q2, hk⟩ =>
    subst q1; subst q2
    intro v B' H' e2 ok2 rv
    exact q d _ v B' H' hk (e1.trans e2) (ok1.behind1 hd1 e2 ok2 (j := 0) rfl) rv
  | .raise C fs, hR =>
    intro dd B' H' e2 s3 er
    exact z C fs dd B' H' σ _ hR (e1.trans e2) (ok1.behind1d hd1 e2 s3) er
end
end AL
namespace AL
open PySem PySem.Spec PyProof.Rows L2 Evl
section
variable {K : PySem.W.Frag} {B : Hp}
theorem Reps.dropLast : ∀ {vs : List V} {ds : List D}, Reps K B vs ds → Reps K B vs.dropLast ds.dropLast
  | _, _, .nil => .nil
  | _, _, .cons r .nil => .nil
  | _, _, .cons r (.cons r2 rs) => .cons r (Reps.dropLast (.cons r2 rs))
theorem Reps.snoc {v : V} {d : D} : ∀ {vs : List V} {ds : List D}, Reps K B vs ds → Rep K B v d → Reps K B (vs ++ [v]) (ds ++ [d])
  | _, _, .nil, r => .cons r .nil
  | _, _, .cons r0 rs, r => .cons r0 (Reps.snoc rs r)
theorem Reps.rep {v : V} {d : D} (r : Rep K B v d) : ∀ n : Nat, Reps K B (List.replicate n v) (List.replicate n d)
  | 0 => .nil
  | n + 1 => .cons r (Reps.rep r n)
end
section
variable {X : Cx} {Z : Zx} {e a b : Expr} {ρ : En} {Φ : D → En → Prop} {Θ : OO → En → Prop} {p p1 pos apos ps : Pos} {x : Str} {O : Outs} {sts : List Stmt}
theorem rep_flat {α : Type} (v : α) : ∀ n : Nat, (List.replicate n [v]).flatten = List.replicate n v
  | 0 => rfl
  | n + 1 => by rw [List.replicate_succ, List.flatten_cons, rep_flat v n]; rfl
/-- x.pop() -/
theorem ec_pop (i : Nat) {aq : Addr} {ds : List D} {d : D} (hd : ρ[i]? = some (some (.ow aq (.l (ds ++ [d]))))) (h : Φ d (ρ.set i (some (.ow aq (.l ds)))))
    (hN : X.N[i]? = some x := by rfl) (hv : Vis X.env.scope x := by first | exact Or.inl rfl | exact Or.inr (Or.inl rfl) | exact Or.inr (Or.inr rfl)) (hdb : (x == ("__debug__" : Str)) = false := by decide) (hcd : (x == ("__classdict__" : Str)) = false := by decide)
    (hbase : attributeBase (.Name x ps) "pop" X.env (eval (.Name x ps) X.env) = eval (.Name x ps) X.env := by rfl) (hline : (apos.endLine == p.line) = true := by rfl) : EC X Z (.Call (.Attribute (.Name x ps) "pop" apos) [] [] p) ρ Φ := fun B G H σ o z Q q => by
  obtain ⟨g1, _, _, u, g4, g5⟩ := o.ow i aq _ hd
  cases u with
  | lst vs =>
    have hl := Reps.length g5
    obtain ⟨v, hv0, rv⟩ := Reps.get' g5 (i := ds.length) (d := d) (by simp)
    have e1 : vs[vs.length - 1]? = some v := by rw [hl]; simpa using hv0
    have hdl := Reps.dropLast g5
    rw [List.dropLast_concat] at hdl
    refine (pe_bm0 PySem.F.plainAttrs_list PySem.F.slot_list_pop PySem.F.type_list_pop mt_pop (pe_var hN hv hdb hcd) hbase hline).w ⟨_, g1, .inl ⟨rfl, vs, sq_of g4⟩, aq, vs, v, rfl, rfl, g4, e1, ?_⟩
    exact q d _ v B _ h (Ex.refl B) (o.upd_ow (u' := .lst vs.dropLast) (o' := .l ds) hd hdl) rv
  | _ => exact False.elim g5
/-- x.reverse() -/
theorem sc_rev (i : Nat) {aq : Addr} {ds : List D} (hd : ρ[i]? = some (some (.ow aq (.l ds)))) (h : SC X Z sts (ρ.set i (some (.ow aq (.l ds.reverse)))) O)
    (hN : X.N[i]? = some x := by rfl) (hv : Vis X.env.scope x := by first | exact Or.inl rfl | exact Or.inr (Or.inl rfl) | exact Or.inr (Or.inr rfl)) (hdb : (x == ("__debug__" : Str)) = false := by decide) (hcd : (x == ("__classdict__" : Str)) = false := by decide)
    (hbase : attributeBase (.Name x ps) "reverse" X.env (eval (.Name x ps) X.env) = eval (.Name x ps) X.env := by rfl) (hline : (apos.endLine == p.line) = true := by rfl)
    (hs : swapsWith (.Call (.Attribute (.Name x ps) "reverse" apos) [] [] p) none pos.line X.env = pure false := by rfl) : SC X Z (.Expr (.Call (.Attribute (.Name x ps) "reverse" apos) [] [] p) pos :: sts) ρ O :=
  sc_of (ps_expr (pe_bm0 PySem.F.plainAttrs_list PySem.F.slot_list_reverse PySem.F.type_list_reverse mt_reverse (pe_var hN hv hdb hcd) hbase hline) hs) fun B G H σ Dd o z s => by
    obtain ⟨g1, _, _, u, g4, g5⟩ := o.ow i aq _ hd
    cases u with
    | lst vs => exact ⟨_, g1, .inl ⟨rfl, vs, sq_of g4⟩, aq, vs, rfl, rfl, g4, h.go (o.upd_ow (u' := .lst vs.reverse) (o' := .l ds.reverse) hd (Reps.rev g5)) z s (Ex.refl B)⟩
    | _ => exact False.elim g5
/-- x[a] = e -/
theorem sc_lput (i : Nat) {aq : Addr} {o0 : OO} (hd : ρ[i]? = some (some (.ow aq o0))) (h : EC X Z e ρ fun d ρ1 => EC X Z a ρ1 fun d' ρ2 => ∃ ds n j, ρ2[i]? = some (some (.ow aq (.l ds))) ∧ d' = .int n ∧ ixN ds.length n = some j ∧ SC X Z sts (ρ2.set i (some (.ow aq (.l (ds.set j d))))) O)
    (hN : X.N[i]? = some x := by rfl) (hv : Vis X.env.scope x := by first | exact Or.inl rfl | exact Or.inr (Or.inl rfl) | exact Or.inr (Or.inr rfl)) (hdb : (x == ("__debug__" : Str)) = false := by decide) (hcd : (x == ("__classdict__" : Str)) = false := by decide)
    (hs : swapsWithSole [.Subscript (.Name x ps) a p1] e pos.line X.env = pure false := by rfl) (hw : swappedStores [.Subscript (.Name x ps) a p1] e X.env = pure none := by rfl)
    (h1 : (assignEach [.Subscript (.Name x ps) a p1] X.env).map (·.2) = [assign (.Subscript (.Name x ps) a p1) X.env] := by rfl)
    (ha : ∀ v, assign (.Subscript (.Name x ps) a p1) X.env v = (do
      let ov ← holding [v] (eval (.Name x ps) X.env)
      let iv ← holding [v, ov] (eval a X.env)
      standAt p1
      holding [v, ov, iv] (setItem ov iv v)
      release [v, ov, iv] []) := by intro _; rfl) : SC X Z (.Assign [.Subscript (.Name x ps) a p1] e pos :: sts) ρ O :=
  sc_of (ps_asg p_wE (pg_sub (pe_var hN hv hdb hcd) p_wE set_list (ha := ha)) hs hw h1) fun B G H σ Dd o z s => h B G H σ o z _ fun d ρ1 v B1 H1 h2 e1 o1 r1 => by
    obtain ⟨g0, _⟩ := o.ow i aq _ hd
    refine ⟨_, g0, h2 B1 G H1 σ o1 (z.up e1) _ fun d' ρ2 y B2 H2 ⟨ds, n, j, hd2, hj, hx, h3⟩ e2 o2 r2 => ?_⟩
    subst hj
    cases r2
    obtain ⟨_, _, _, u, g4, g5⟩ := o2.ow i aq _ hd2
    cases u with
    | lst vs =>
      refine ⟨aq, vs, n, j, rfl, rfl, g4, by rw [Reps.length g5]; exact hx, ?_⟩
      exact h3.go (o2.upd_ow (u' := .lst (vs.set j v)) (o' := .l (ds.set j d)) hd2 (Reps.set j g5 (r1.up e2))) z s (e1.trans e2)
    | _ => exact False.elim g5
/-- [e] * n -/
theorem fc_rep (h : EC X Z e ρ fun d ρ1 => EC X Z b ρ1 fun d' ρ2 => ∃ n : Nat, d' = .int n ∧ n ≤ 50000 ∧ Θ (.l (List.replicate n d)) ρ2)
    (he : starEach [e] X.env = (false, eval e X.env) :: starEach [] X.env := by rfl) : FC X Z (.BinOp (.List [e] p) .Mult b pos) ρ Θ := fun B G H σ o z Q q => by
  refine (pe_op op_rep (pe_lst (pa_cons p_wE pa_nil he)) p_wE).w ?_
  refine h B G H σ o z _ fun d ρ1 v B1 H1 h1 e1 o1 r1 => ?_
  refine ⟨by show 1 ≤ sizeLine; decide, fun t ht => ?_⟩
  obtain ⟨e2, o2⟩ := o1.grow (u := .lst [v]) ht
  refine h1 _ G _ σ o2 (z.up (e1.trans e2)) _ fun d' ρ2 y B2 H2 ⟨n, hn, hl, hk⟩ e3 o3 r3 => ?_
  subst hn
  cases r3
  have hA : H2 t = some (.lst [v]) := o3.s.ex _ _ (e3 _ _ upd_same)
  refine ⟨t, (n : Int), [v], rfl, rfl, hA, by omega, by omega, ?_, fun q' hq' => ?_⟩
  · show 1 * ((n : Int).toNat) ≤ sizeLine
    rw [Int.toNat_natCast, sizeLine_eq]; omega
  · have er : (List.replicate (n : Int).toNat [v]).flatten = List.replicate n v := by
      rw [Int.toNat_natCast]; exact rep_flat v n
    rw [er]
    obtain ⟨o4, hb, hg, hn⟩ := o3.fresh (u := .lst (List.replicate n v)) hq'
    exact q _ ρ2 q' _ _ _ hk ((e1.trans e2).trans e3) o4 hb hg upd_same hn (Reps.rep (((r1.up e2).up e3)) n)
end
end AL
/-! isinstance of a caught error of an own class that has fields of its own -/
namespace PySem.W
open PySem PySem.Spec PySem.Calls PyProof.Rows
/-- what the class says -/
structure ExD (K : Frag) (D : Addr) : Prop where
  all : L2.ExcC K D
theorem cls_found {K : Frag} {D : Addr} (T : L2.ExcC K D) (od : Option Obj) : findObj K D od "__class__" = some (.bind (.builtin "getset_descriptor.__get__") (.builtin "object.__class__")) := by
  have some_ : (clsIn K D).isSome = true := by
    obtain ⟨cd, hc, _⟩ := any_some T.hd
    rw [hc]; rfl
  obtain ⟨cd, hc⟩ := Option.isSome_iff_exists.mp some_
  show ((clsIn K D).bind _) = _
  rw [hc]
  show ((findIn K (.ref D) "__class__").bind _) = _
  rw [T.ha]
  simp only [Option.bind_some, T.hn, T.ht]
section
variable {prog : Program} {w : World} {A : Around} {E : Value → Shared → Prop} {s : Shared} {K : Frag} {x D : Addr} {ox : Obj} {od : Option Obj}
theorem cls_asked {Q : Option Value → Shared → Prop} (T : L2.ExcC K D) (X : K.In s.heap) (I : InstAt s.heap x ox D od) (h : Q (some (.ref D)) { s with toks := s.toks + 1 }) : wpAny (model prog w) A (getAttr? (.ref x) "__class__") Q E s := by
  obtain ⟨hp, g, d, t, os⟩ := s
  have look := looks_find (M := model prog w) X I (cls_found T od)
  have ty := I.type (M := model prog w)
  have isB : Looks (model prog w) hp (isInstance (.ref x) (.type "BaseException")) true := ty.andThen (looks_subIn X T.hs)
  have n0 : (Value.builtin "BaseException.__getattribute__" == Value.builtin "object.__getattribute__") = false := by decide +kernel
  have n1 : (false && onTheHeap (Value.builtin "BaseException.__getattribute__")) = false := rfl
  have n2 : (onTheHeap (Value.ref D) && Value.builtin "BaseException.__getattribute__" == Value.builtin "object.__getattribute__") = false := by rw [n0]; rfl
  unfold getAttr? getAttrBy? getAttrBy
  refine wpAny_bind (wpAny_mkText (wpAny_bind (wpAny_attempt (wpAny_holding (wpAny_bind (ty.at (wpAny_bind ((looks_findIn (M := model prog w) X T.hg).at ?_))))))))
  show wpAny _ _ (if (onTheHeap (Value.ref D) && Value.builtin "BaseException.__getattribute__" == Value.builtin "object.__getattribute__") = true then _ else _) _ _ _
  rw [n2]
  rw [if_neg Bool.false_ne_true]; unfold getAttrByItsOwn hookBefore
  refine wpAny_bind ?_
  rw [if_pos (by rfl : onTheHeap (Value.ref D) = true)]
  refine (looks_findIn (M := model prog w) X T.hk).at (wpAny_bind (wpAny_attempt (wpAny_holding ?_)))
  unfold callGetattribute
  rw [n1]
  rw [if_neg Bool.false_ne_true]; unfold boundAndCalled
  rw [PySem.F.excAttr_ValueError.ga.bind (.ref x)]
  refine wpAny_bind (wpAny_pure ?_)
  show wpAny _ _ (call (.builtin "BaseException.__getattribute__") [.ref x, .str "__class__" t]) _ _ _
  refine wpAny_call (codeAny_call_builtin PySem.F.excAttr_ValueError.ga.plain PySem.F.entry_bexc_ga (@check_slot (model prog w) _ _ ⟨hp, g, d, t + 1, os⟩ "BaseException.__getattribute__" "BaseException" "__getattribute__" (.ref x) [.str "__class__" t] [] _ (by decide +kernel) (by decide +kernel) isB (PySem.F.args_bexc_ga (.ref x) (.str "__class__" t)) ?_))
  unfold Builtin.«object.__getattribute__»
  have sl : slotArgs "__getattribute__" 1 ⟨[.ref x, .str "__class__" t], []⟩ = pure ((Value.ref x : Value), [Value.str "__class__" t]) := by first | rfl | (simp only [slotArgs]; rfl)
  refine wpAny_bind (wpAny_of_eq sl ?_)
  refine wpAny_bind (wpAny_pure (wpAny_bind (ty.at (wpAny_bind (look.at ?_)))))
  show wpAny _ _ (holding [Value.builtin "object.__class__"] (call (.builtin "getset_descriptor.__get__") [.builtin "object.__class__", .ref x, .ref D]) >>= ret) _ _ _
  refine wpAny_bind (wpAny_holding (wpAny_call (class_get (s := ⟨hp, g, d, t + 1, os⟩) (ox := ox) (od := od) X I T.hm (wpAny_pure ?_))))
  show wpAny _ _ (handedOut (.ref D)) _ _ _
  rw [handedOut_of (v := .ref D) rfl]
  first | exact wpAny_pure (wpAny_pure h) | exact wpAny_pure h | exact wpAny_pure (wpAny_bind (wpAny_pure (wpAny_pure h)))
theorem kitx_err (T : L2.ExcC K D) : KitX K (.ref x) (.ref D) (fun h => ∃ od, InstAt h x ox D od) where
  ty := fun _ _ _ ⟨_, I⟩ => I.type
  it := fun _ _ X _ A' Q' E' s' k q => by
    obtain ⟨cd, hc, _⟩ := any_some T.hd
    unfold clsIn at hc
    split at hc
    · rename_i c' d' cd' sl' ho
      unfold isType loadHead
      exact wpAny_bind (wpAny_loadPart (k _ _ (X _ _ ho)) (wpAny_pure q))
    · cases hc
  ne := fun h tp dd its n sl X htp => by
    obtain ⟨cd, hc, _⟩ := any_some T.hd
    unfold clsIn at hc
    split at hc
    · rename_i c' d' cd' sl' ho
      cases z : (Value.ref D == Value.ref tp) with
      | false => rfl
      | true =>
        have e : D = tp := Value.ref.inj (beq_iff_eq.mp z)
        subst e
        have y := (X _ _ ho).symm.trans htp
        cases y
    · cases hc
  ca := fun X ⟨_, I⟩ k => cls_asked T X I k
end
end PySem.W
namespace L2
open PySem PySem.Spec PyProof.Rows
theorem call_isEd {X : Cx} {a D : Addr} {oe : Obj} {d : Option Addr} {pn : List (Addr × Obj)} (C : ExcC X.K D) (hz : Zc (.ref D) d oe) (hf : ∃ vs, oe.data = .fields vs) :
    CallR (X.suite a ((a, oe) :: pn)) (.builtin "isinstance") (fun xs H Q => (∀ dx, d = some dx → ∃ fs, H dx = some (.xd fs)) ∧ rIsE X.K D a xs H Q) := by
  intro pins s σ H xs us Q I r ⟨hx, c, cv, b, e0, hcv, e, q⟩
  subst e0
  cases r with
  | cons rx rr => cases rr with
    | cons rt rr =>
      cases rr; cases rx
      have ec := hcv _ rt
      subst ec
      obtain ⟨hget, _⟩ := I.pin (a, oe) (List.mem_append_left _ List.mem_cons_self)
      obtain ⟨vs, hv⟩ := hf
      have nc : PySem.W.notCls oe = true := by unfold PySem.W.notCls; rw [hv]
      have J : ∃ od, PySem.W.InstAt s.heap a oe D od := by
        cases hd : d with
        | none => exact ⟨none, hget, hz.1, nc, by rw [hz.2, hd]; trivial⟩
        | some dx =>
          obtain ⟨fs, hfs⟩ := hx dx hd
          obtain ⟨mA, hns, _⟩ := (show ObjOk X.prog X.w H s.heap dx (.xd fs) from I.hok dx _ hfs)
          obtain ⟨od, ho, _⟩ := lookIn_ns hns
          exact ⟨some od, hget, hz.1, nc, by rw [hz.2, hd]; exact ho⟩
      exact PySem.W.kia_one (PySem.W.kitx_err C) I.kIn J e (fun z => nomatch z) fun tk => ⟨.bl b, H, I.kept (t' := tk) fun _ _ z => z, rfl, q⟩
end L2
namespace AL
open PySem PySem.Spec PyProof.Rows L2 Evl
section
variable {X : Cx} {Z : Zx} {body suite sts : List Stmt} {b0 : Stmt} {ρ : En} {O : Outs} {np pos pos' : Pos} {x n : Str} {C : Addr}
theorem takes_0 : Takes X Z0.E := fun u s' xx => by
  obtain ⟨_, _, _, _, _, _, _, _, _, _, _, _, _, _, _, _, w⟩ := xx
  exact w.elim
/-- try: body, except C as n: suite -/
theorem sc_try (i : Nat) (R : Addr → List (Str × D) → En → Prop) (hs : X.stack = X.env :: X.outer) (hf : X.env.frame = some X.env.locals) (hN : X.N.Nodup) (hi : X.N[i]? = some n) (hln : X.env.kindOf n = some .local) (hc : Names X x (.ref C)) (tk : Takes X Z.E)
    (hb : ∀ (E : WX) (pn : List (Addr × Obj)) (xe : Value → Shared → Prop), Takes (X.tr pn xe) E → SC (X.tr pn xe) ⟨E, R⟩ body ρ { O with nx := fun ρ' => SC X Z sts ρ' O })
    (hR : ∀ Ce fs ρ', R Ce fs ρ' → ∃ b, PySem.W.exmOne X.K (.ref Ce) (.ref C) = some b ∧ (b = false → Z.R Ce fs ρ') ∧ (b = true → ∀ a d oe pn, Zc (.ref Ce) d oe → (∃ vs, oe.data = .fields vs) →
      SC (X.suite a ((a, oe) :: pn)) Z0 (b0 :: suite) (ρ'.set i (some (.im (.exc a d fs)))) { nx := fun ρ'' => SC X Z sts (ρ''.set i none) O, rt := O.rt, bk := fun ρ'' => O.bk (ρ''.set i none), ct := fun ρ'' => O.ct (ρ''.set i none) })) :
    SC X Z (.Try body [.ExceptHandler (some (.Name x np)) (some n) (b0 :: suite) pos'] [] [] pos :: sts) ρ O := by
  refine sc_of (ps_try_as (Wout := Z.E) (tb := fun W D σ H => ∀ pn xe, Takes (X.tr pn xe) W → wSs (X.tr pn xe) body D σ H)
    (ts := fun a cls d D σ H => ∀ oe pn, Zc cls d oe → (∃ vs, oe.data = .fields vs) → wSs (X.suite a ((a, oe) :: pn)) (b0 :: suite) D σ H) hs hf hN hi hln hc tk
    (fun W pn xe tk _ => ⟨fun pins s σ H D I h => h pn xe tk pins s I⟩) (fun a oe cls d pn hz hv => ⟨fun pins s σ H D I h => h oe pn hz hv pins s I⟩)) ?_
  · intro B G H σ Dd o z sv pn xe tk
    refine hb _ pn xe tk B G H σ _ o ?_ ⟨fun ρ' σ' B' H' h e ok => h.go ok z sv e, sv.rt, sv.bk, sv.ct⟩
    intro Ce fs dd B' H' σ' ρ' hr e ok er
    obtain ⟨b, hm, hno, hsu⟩ := hR Ce fs ρ' hr
    refine ⟨b, hm, fun hb a ha oe pn' hz hv => ?_, fun hb => z Ce fs dd B' H' σ' ρ' (hno hb) e ok er⟩
    refine hsu hb a dd oe pn' hz hv B' G H' _ _ (ok.set_im (v := .ref a) ?_) RC.none ⟨fun ρ'' σ'' B2 H2 h e2 o2 => ?_, fun r ρ'' v σ'' B2 H2 h e2 o2 rv => sv.rt r ρ'' v σ'' B2 H2 h (e.trans e2) o2 rv, fun ρ'' σ'' B2 H2 h e2 o2 => ?_, fun ρ'' σ'' B2 H2 h e2 o2 => ?_⟩
    · unfold ErR at er
      split at er
      · subst er; exact .exc0
      · obtain ⟨q, vs, rfl, hq, rf⟩ := er
        exact .exc (ok.s.tp _ _ hq rfl) rf
    · exact h.go (o2.drop (i := i) (x := none)) z sv (e.trans e2)
    · exact sv.bk _ _ B2 H2 h (e.trans e2) (o2.drop (i := i) (x := none))
    · exact sv.ct _ _ B2 H2 h (e.trans e2) (o2.drop (i := i) (x := none))
end
/-! ### in an except suite -/
section
variable {X : Cx} {Z : Zx} {e : Expr} {ρ : En} {Φ : D → En → Prop} {p p1 pos : Pos} {x f tn : Str} {a C T : Addr} {d : Option Addr} {oe : Obj} {pn : List (Addr × Obj)}
/-- error.f -/
theorem ec_excf (i : Nat) {fs : List (Str × D)} {r : D} (hd : ρ[i]? = some (some (.im (.exc a d fs)))) (T : XfC X.K C) (hno : PySem.W.findIn X.K (.ref C) f = some none) (hz : Zc (.ref C) d oe) (hf : ∃ vs, oe.data = .fields vs) (hl : fs.lookup f = some r) (h : Φ r ρ)
    (hN : X.N[i]? = some x := by rfl) (hv : Vis X.env.scope x := by first | exact Or.inl rfl | exact Or.inr (Or.inl rfl) | exact Or.inr (Or.inr rfl)) (hdb : (x == ("__debug__" : Str)) = false := by decide) (hcd : (x == ("__classdict__" : Str)) = false := by decide)
    (hb : attributeBase (.Name x p) f X.env (eval (.Name x p) X.env) = eval (.Name x p) X.env := by rfl) : EC (X.suite a ((a, oe) :: pn)) Z (.Attribute (.Name x p) f pos) ρ Φ := fun B G H σ o z Q q => by
  obtain ⟨v, h1, h2⟩ := o.im i _ hd
  refine (pe_xf (X := X) T hno hz hf (pe_var (X := X.suite a ((a, oe) :: pn)) (x := x) (i := i) hN hv hdb hcd) hb).w ⟨v, h1, ?_⟩
  cases h2 with
  | exc0 => cases hl
  | @exc _ dx vs gs hx rf =>
    obtain ⟨w, hw, rw_⟩ := rf.lookup hl
    exact ⟨rfl, rfl, dx, vs, w, rfl, o.s.ex _ _ hx, hw, q r ρ w B H h (Ex.refl B) o rw_⟩
/-- isinstance(error, T), T a class of the program -/
theorem ec_exis (i : Nat) {fs : List (Str × D)} {b : Bool} (hd : ρ[i]? = some (some (.im (.exc a d fs)))) (C0 : ExcC X.K C) (hz : Zc (.ref C) d oe) (hf : ∃ vs, oe.data = .fields vs) (hk : PySem.W.kitOne X.K (.ref C) (.ref T) = some b) (h : Φ (.bl b) ρ)
    (hm : X.mg "isinstance" = none) (hm2 : X.mg tn = some (.ref T)) (hg : Gl X "isinstance" := by rfl) (hg2 : Gl X tn := by rfl)
    (hN : X.N[i]? = some x := by rfl) (hv : Vis X.env.scope x := by first | exact Or.inl rfl | exact Or.inr (Or.inl rfl) | exact Or.inr (Or.inr rfl)) (hdb : (x == ("__debug__" : Str)) = false := by decide) (hcd : (x == ("__classdict__" : Str)) = false := by decide) (hdt : (tn == ("__debug__" : Str)) = false := by decide)
    {p0 : Pos} (hs1 : starEach [.Name x p, .Name tn p1] X.env = (false, eval (.Name x p) X.env) :: starEach [.Name tn p1] X.env := by rfl) (hs2 : starEach [.Name tn p1] X.env = (false, eval (.Name tn p1) X.env) :: starEach [] X.env := by rfl)
    (hpl : (backTo pos (starEach [.Name tn p1] X.env)).any (·.1) = false := by rfl) : EC (X.suite a ((a, oe) :: pn)) Z (.Call (.Name "isinstance" p0) [.Name x p, .Name tn p1] [] pos) ρ Φ := fun B G H σ o z Q q => by
  obtain ⟨v, h1, h2⟩ := o.im i _ hd
  have ev : v = .ref a := by cases h2 <;> rfl
  refine (pe_callB (X := X.suite a ((a, oe) :: pn)) (call_isEd (X := X) C0 hz hf) hg hm (by rfl) (pa_cons (X := X.suite a ((a, oe) :: pn)) (pe_var (X := X.suite a ((a, oe) :: pn)) (x := x) (i := i) hN hv hdb hcd) (pa_cons (X := X.suite a ((a, oe) :: pn)) (pe_glob (X := X.suite a ((a, oe) :: pn)) (v := .ref T) (u := .ref T) hg2 hm2 rfl hdt) pa_nil hs2) hs1) (he := hs1) (hpl := hpl)).w ⟨v, h1, ?_⟩
  refine ⟨fun dx hdx => ?_, .ref T, .ref T, b, by rw [ev], fun u hu => hu, hk, q _ ρ _ B H h (Ex.refl B) o (.bl b)⟩
  subst hdx
  cases h2 with
  | @exc _ _ vs gs hx rf => exact ⟨vs, o.s.ex _ _ hx⟩
end
end AL
namespace AL
open PySem PySem.Spec PyProof.Rows L2 Evl
/-! ### methods and __init__s of the program -/
/-- an __init__: data in, fields out -/
def PFi (n : Nat) (C : Addr) (S : List D → (List (Str × D) → Prop) → Er → Prop) : Pr := fun as Φ => ∃ a ds, as = .ow a (.ob C []) :: ds.map Sl.im ∧ ds.length = n ∧ S ds (fun fs => Φ (.ret (.im .non) (.ow a (.ob C fs) :: ds.map Sl.im))) fun C fs => Φ (.raise C fs)
def MonoI (S : List D → (List (Str × D) → Prop) → Er → Prop) : Prop := ∀ ds Φ Φ' Ψ Ψ', (∀ d, Φ d → Φ' d) → (∀ C fs, Ψ C fs → Ψ' C fs) → S ds Φ Ψ → S ds Φ' Ψ'
theorem PFi.len {n : Nat} {C : Addr} {S : List D → (List (Str × D) → Prop) → Er → Prop} {ps : List Str} (h : ps.length = n + 1) : ∀ as Φ, PFi n C S as Φ → as.length = ps.length := fun as Φ ⟨a, ds, h1, h2, _⟩ => by rw [h1, h, ← h2]; simp
theorem PFi.mono {n : Nat} {C : Addr} {S : List D → (List (Str × D) → Prop) → Er → Prop} (m : MonoI S) : Mono (PFi n C S) := fun as Φ Φ' h ⟨a, ds, h1, h2, h3⟩ => ⟨a, ds, h1, h2, m _ _ _ _ _ (fun d x => h _ x) (fun C fs x => h _ x) h3⟩
def OutI (a C : Addr) (Ψ : List (Str × D) → Prop) : Outs where
  nx := fun ρ' => ∃ fs, ρ'[0]? = some (some (.ow a (.ob C fs))) ∧ Ψ fs
  rt := fun _ _ => False
section
variable {P : Program} {w : World} {K : PySem.W.Frag} {mg : Str → Option Value} {base : Heap} {x nm qual m : Str} {params : Arguments} {body : List Stmt} {scope : Scope} {dvs : List V} {f C : Addr} {fd : FuncData} {N ps : List Str} {k n : Nat}
theorem startE_ow {n : Nat} {a : Addr} {oo : OO} {ds : List D} : startE n (Sl.ow a oo :: ds.map Sl.im) = envO n a oo ds := by
  unfold startE envO envD
  rw [List.map_cons, List.cons_append, List.map_map, List.length_cons, List.length_map]
  have e : n - (ds.length + 1) = n - 1 - ds.length := by omega
  rw [e]; rfl
theorem ow_rows {ds : List D} {a : Addr} {o' : OO} {ρ' : En} (h0 : ρ'[0]? = some (some (Sl.ow a o'))) : ∀ (i : Nat) (b : Addr) (q : OO), (Sl.ow a o' :: ds.map Sl.im)[i]? = some (Sl.ow b q) → ρ'[i]? = some (some (Sl.ow b q)) := fun i b q e => by
  cases i with
  | zero => simp at e; obtain ⟨rfl, rfl⟩ := e; exact h0
  | succ i =>
    have e' : (ds.map Sl.im)[i]? = some (Sl.ow b q) := by simpa using e
    rw [List.getElem?_map] at e'
    cases e2 : ds[i]? <;> rw [e2] at e' <;> simp at e'
theorem cal_init {S : List D → (List (Str × D) → Prop) → Er → Prop} (F : FunD K nm qual params body scope dvs [] f fd) (mk : Mk K C f) (hm : mg x = some (.ref C)) (Sc : FnScope N ps scope) (hn : ps.length = n + 1) (hb : Binds K fd ps [])
    (h : ∀ cdv A outer s H E, Room k (bodyX P w K mg base N qual scope f cdv A outer s H E).A → Takes (bodyX P w K mg base N qual scope f cdv A outer s H E) (fun cls d _ H' => E cls d H') → ∀ a ds Ψ Er, ds.length = n → S ds Ψ Er →
      SC (bodyX P w K mg base N qual scope f cdv A outer s H E) (Zf E Er) body (envO N.length a (.ob C []) ds) (OutI a C Ψ)) : CalC P w K mg base x C (k + 1) (PFi n C S) :=
  ⟨f, fd, ps, def_ok F Sc (PFi.len hn) (fun cdv A outer s H E hr tk as Φ ⟨a, ds, h1, h2, h3⟩ => by
    subst h1
    rw [startE_ow]
    intro B G H σ Dd o z sv
    refine (h cdv A outer s _ E hr tk a ds _ _ h2 h3) B G _ σ Dd o z ⟨fun ρ' σ' B' H' ⟨fs, h0, hp⟩ => sv.nx ρ' σ' B' H' ⟨_, .ow (.refl _), hp, ow_rows h0⟩, fun r ρ' v σ' B' H' a => a.elim, fun ρ' σ' B' H' a => a.elim, fun ρ' σ' B' H' a => a.elim⟩), mk, hb, hm⟩
/-- a method that raises nothing here -/
theorem cal_m {S : List D → (D → Prop) → Prop} (F : FunD K nm qual params body scope dvs [] f fd) (mt : Meth K C m f) (Sc : FnScope N ps scope) (hn : ps.length = n) (hb : Binds K fd ps [])
    (h : ∀ cdv A outer s H E, Room k (bodyX P w K mg base N qual scope f cdv A outer s H E).A → ∀ ds Ψ, ds.length = n → S ds Ψ → SC (bodyX P w K mg base N qual scope f cdv A outer s H E) Z0 body (envD N.length ds) (OutP Ψ)) :
    CalM P w K mg base C m (k + 1) (PFn n S) :=
  ⟨f, fd, ps, def_ok F Sc (PFn.len hn) (fun cdv A outer s H E hr tk as Φ ⟨ds, h1, h2, h3⟩ => by
    subst h1
    rw [startE_im]
    intro B G H σ Dd o z sv
    refine (h cdv A outer s _ E hr ds _ h2 h3) B G _ σ Dd o RC.none ⟨fun ρ' σ' B' H' a => sv.nx ρ' σ' B' H' ⟨ds.map Sl.im, .refl _, a, im_out⟩, fun r ρ' v σ' B' H' a => ?_, fun ρ' σ' B' H' a => a.elim, fun ρ' σ' B' H' a => a.elim⟩
    cases r with
    | im d => exact sv.rt _ ρ' v σ' B' H' ⟨ds.map Sl.im, .refl _, a, im_out⟩
    | fr oo => exact False.elim a), mt, hb⟩
end
section
variable {X : Cx} {Z : Zx} {e o b : Expr} {es : List Expr} {ρ : En} {Φ : D → En → Prop} {p pos apos : Pos} {x m : Str} {k n : Nat} {C : Addr}
/-- C(e, ..) -/
theorem ec_mk {S : List D → (List (Str × D) → Prop) → Er → Prop} (c : CalC X.prog X.w X.K X.mg X.base x C k (PFi n C S)) (hr : Room (k + 1) X.A) (hx : PassW X Z) (mo : MonoI S)
    (h : AC X Z (e :: es) ρ fun ds ρ1 => ds.length = n ∧ S ds (fun fs => Φ (.obj C fs) ρ1) fun C fs => Z.R C fs ρ1)
    (hg : Gl X x := by rfl) (hdb : (x == ("__debug__" : Str)) = false := by decide) (he : starEach (e :: es) X.env = (false, eval e X.env) :: starEach es X.env := by rfl) (hpl : (backTo pos (starEach es X.env)).any (·.1) = false := by rfl) : EC X Z (.Call (.Name x p) (e :: es) [] pos) ρ Φ :=
  ec_make c hr hx (PFi.mono mo) (h.mono fun ds ρ1 ⟨hl, hd⟩ a => ⟨a, ds, rfl, hl, mo _ _ _ _ _ (fun fs hk => ⟨rfl, rfl, rfl, hk⟩) (fun C fs x => x) hd⟩) hg hdb he hpl
/-- o.m(e, ..), a method that raises nothing here -/
theorem ec_mf {pl : Sem Bool} {S : List D → (D → Prop) → Prop} (cl : Cls X.K C) (c : CalM X.prog X.w X.K X.mg X.base C m k (PFn n S)) (hr : Room k X.A) (hx : PassW X Z) (mo : MonoF S)
    (h : EC X Z o ρ fun d0 ρ0 => ∃ gs, d0 = .obj C gs ∧ gs.lookup m = none ∧ AC X Z (e :: es) ρ0 fun ds ρ1 => (d0 :: ds).length = n ∧ S (d0 :: ds) fun d => Φ d ρ1)
    (hst : starEach (e :: es) X.env = (false, eval e X.env) :: starEach es X.env := by rfl) (hpl : (backTo pos (starEach es X.env)).any (·.1) = false := by rfl)
    (ht : eval (.Call (.Attribute o m apos) (e :: es) [] pos) X.env = (do
      let ov ← eval o X.env
      standAt apos.atName
      let (f, first) ← holding [ov] (getMethod ov m pl)
      callWith pos f first (backTo pos (starEach (e :: es) X.env)) (backToKw pos (keywordEach [] X.env))) := by rfl) : EC X Z (.Call (.Attribute o m apos) (e :: es) [] pos) ρ Φ :=
  ec_meth cl c hr hx (PFn.mono mo) (h.mono fun d0 ρ0 ⟨gs, h1, h2, h3⟩ => ⟨gs, h1, h2, h3.mono fun ds ρ1 ⟨hl, hd⟩ => ⟨d0 :: ds, rfl, hl, mo _ _ _ (fun d hk => ⟨rfl, hk⟩) hd⟩⟩) hst hpl ht
end
end AL
namespace AL
open PySem PySem.Spec PyProof.Rows L2 Evl
/-- what isinstance asks of the class of an instance -/
structure IsC (K : PySem.W.Frag) (C : Addr) : Prop where
  cl : Cls K C
  ha : PySem.W.findIn K (.ref C) "__class__" = some (some (.builtin "object.__class__"))
  hn : PySem.W.specialIn K (.builtin "object.__class__") "__get__" = some (some (.builtin "getset_descriptor.__get__"))
  ht : PySem.W.takesIn K (.builtin "object.__class__") = some true
  hm : PySem.W.mroIn K C (.type "object") = some true
section
variable {X : Cx} {Z : Zx} {e : Expr} {ρ : En} {Φ : D → En → Prop} {p p1 pos : Pos} {tn : Str} {T : Addr}
theorem ty_obj {K : PySem.W.Frag} {B G H : Hp} {v : V} {C : Addr} {gs : List (Str × D)} (s : St3 B G H) (r : Rep K B v (.obj C gs)) (c : IsC K C) : TyX K H v (.ref C) := by
  cases r with
  | obj h _ => exact .base (.ins (s.ex _ _ h) c.cl c.ha c.hn c.ht c.hm)
/-- isinstance(e, T), T a class of the program, e an instance -/
theorem ec_isiO (h : EC X Z e ρ fun d ρ1 => ∃ C gs b, d = .obj C gs ∧ IsC X.K C ∧ PySem.W.kitOne X.K (.ref C) (.ref T) = some b ∧ Φ (.bl b) ρ1) (hm : X.mg "isinstance" = none) (hm2 : X.mg tn = some (.ref T)) (hg : Gl X "isinstance" := by rfl) (hg2 : Gl X tn := by rfl)
    (hdb : (tn == ("__debug__" : Str)) = false := by decide) (hs1 : starEach [e, .Name tn p1] X.env = (false, eval e X.env) :: starEach [.Name tn p1] X.env := by rfl) (hs2 : starEach [.Name tn p1] X.env = (false, eval (.Name tn p1) X.env) :: starEach [] X.env := by rfl)
    (hpl : (backTo pos (starEach [.Name tn p1] X.env)).any (·.1) = false := by rfl) : EC X Z (.Call (.Name "isinstance" p) [e, .Name tn p1] [] pos) ρ Φ := fun B G H σ o z Q q =>
  (pe_callB call_isi hg hm (by rfl) (pa_cons p_wE (pa_cons (pe_glob (v := .ref T) (u := .ref T) hg2 hm2 rfl hdb) pa_nil hs2) hs1) (he := hs1) (hpl := hpl)).w (h B G H σ o z _ fun d ρ1 v B1 H1 ⟨C, gs, b, hd, hc, hk, h1⟩ e1 o1 r1 => by
    subst hd
    exact ⟨v, .ref T, .ref C, .ref T, b, rfl, .own T, ty_obj o1.s r1 hc, hk, q _ ρ1 _ B1 H1 h1 e1 o1 (.bl _)⟩)
end
end AL
namespace AL
open PySem PySem.Spec PyProof.Rows L2 Evl
section
variable {X : Cx} {Z : Zx} {a b : Expr} {ρ : En} {Φ : D → En → Prop} {Ψ : List D → En → Prop} {p pos : Pos} {x : Str}
/-- a + b, two lists -/
theorem ec_cat (h : EC X Z a ρ fun d ρ1 => EC X Z b ρ1 fun d' ρ2 => ∃ ds es, d = .lst ds ∧ d' = .lst es ∧ ds.length + es.length ≤ 100000 ∧ Φ (.lst (ds ++ es)) ρ2) : EC X Z (.BinOp a .Add b pos) ρ Φ := fun B G H σ o z Q q =>
  (pe_op op_cat p_wE p_wE).w (h B G H σ o z _ fun d ρ1 v B1 H1 h1 e1 o1 r1 => h1 B1 G H1 σ o1 (z.up e1) _ fun d' ρ2 y B2 H2 ⟨ds, es, hd, hd', hl, k⟩ e2 o2 r2 => by
    subst hd; subst hd'
    have r1' := r1.up e2
    cases r1' with
    | lst hq rr =>
      cases r2 with
      | lst hq2 rr2 =>
        refine ⟨_, _, _, _, rfl, rfl, o2.s.ex _ _ hq, o2.s.ex _ _ hq2, by rw [rr.length, rr2.length]; exact sz_of hl, fun q' hq' => ?_⟩
        obtain ⟨e3, o3⟩ := o2.grow (u := .lst (_ ++ _)) hq'
        exact q _ ρ2 _ _ _ k ((e1.trans e2).trans e3) o3 (.lst upd_same (Reps.app (rr.up e3) (rr2.up e3))))
/-- a global that holds an int -/
theorem ec_gi {n : Int} {t : Tok} (hm : X.mg x = some (.int n t)) (h : Φ (.int n) ρ) (hg : Gl X x := by rfl) (hdb : (x == ("__debug__" : Str)) = false := by decide) : EC X Z (.Name x pos) ρ Φ := fun B G H σ o z Q q =>
  (pe_glob (v := .int n) hg hm ⟨t, rfl⟩ hdb).w (q _ ρ _ B H h (Ex.refl B) o (.int n))
/-- for .. in x, x a list of one's own that stays -/
theorem ic_own (i : Nat) {tg : Expr} {aq : Addr} {ds : List D} (hd : ρ[i]? = some (some (.ow aq (.l ds)))) (h : Ψ ds (ρ.set i (some (.im (.lst ds))))) (hN : X.N[i]? = some x := by rfl) (hv : Vis X.env.scope x := by first | exact Or.inl rfl | exact Or.inr (Or.inl rfl) | exact Or.inr (Or.inr rfl))
    (hdb : (x == ("__debug__" : Str)) = false := by decide) (hcd : (x == ("__classdict__" : Str)) = false := by decide) : IC X Z tg (.Name x p) ρ Ψ := ic_list (ec_frz i hd ⟨ds, rfl, h⟩ hN hv hdb hcd)
/-- a list of one's own is a datum from now on -/
theorem sc_frz {O : Outs} {sts : List Stmt} (i : Nat) {q0 : Addr} {ds : List D} (hd : ρ[i]? = some (some (.ow q0 (.l ds)))) (h : SC X Z sts (ρ.set i (some (.im (.lst ds)))) O) : SC X Z sts ρ O := fun B G H σ Dd o z sv => by
  obtain ⟨h1, h2, h3, u, h4, h5⟩ := o.ow i q0 _ hd
  have hl : i < ρ.length := (List.getElem?_eq_some_iff.mp hd).1
  have o1 : Ok X.K B G H σ (ρ.set i none) := by
    have z1 := o.drop (i := i) (x := some (.ref q0))
    rwa [set_getq h1] at z1
  have nn : ∀ (j : Nat) (w : OO), (ρ.set i none)[j]? ≠ some (some (Sl.ow q0 w)) := fun j w hj => by
    rw [getq_set] at hj
    by_cases hij : i = j
    · subst hij; rw [if_pos ⟨rfl, hl⟩] at hj; cases hj
    · rw [if_neg (fun z => hij z.1), if_neg hij] at hj
      exact hij (o.ne i j q0 _ w hd hj)
  obtain ⟨e1, o2⟩ := o1.know h2 h3 h4 nn
  cases u with
  | lst vs =>
    have o3 := o2.set_im (i := i) (v := .ref q0) (d := .lst ds) (.lst upd_same (Reps.up h5 e1))
    rw [set_getq h1, List.set_set] at o3
    exact h.go o3 z sv e1
  | _ => exact False.elim h5
end
end AL
/-! Errors of the package: classes over Exception (through own classes) whose __init__ stores one field. -/
namespace AX
open PySem PySem.W PySem.Calls PyProof.Rows
/-! ### the text of __init__(self, f): self.f = f -/
def iA (f : Str) (p1 p2 : Pos) : Arguments := { posonlyargs := [], args := [{ arg := "self", annotation := none, pos := p1 }, { arg := f, annotation := none, pos := p2 }], vararg := none, kwonlyargs := [], kw_defaults := [], kwarg := none, defaults := [] }
def iB (f : Str) (q1 q2 q3 q4 : Pos) : List Stmt := [.Assign [.Attribute (.Name "self" q1) f q2] (.Name f q3) q4]
def iS (f : Str) : Scope := { kind := .function, names := [(PySem.Str.ofString "self", .local), (f, .local)], isGenerator := false, isCoroutine := false, more := [] }
abbrev exBase : List Value := [.type "Exception", .type "BaseException", .type "object"]
/-- what the written part says of such a class, as one test -/
def clsB (K : Frag) (C fI : Addr) (f : Str) : Bool :=
  excInitIn K C exBase "Exception.__new__" && (excOver K C exBase && (decide (takerIn K C f = some none) && (hasDictIn K C && (decide (findIn K (.ref C) "__setattr__" = some (some (.builtin "object.__setattr__"))) &&
  (decide (findIn K (.ref C) "__getattribute__" = some (some (.builtin "BaseException.__getattribute__"))) && (decide (findIn K (.ref C) "__getattr__" = some none) && (decide (findIn K (.ref C) f = some none) &&
  (decide (findIn K (.ref C) "__init__" = some (some (.ref fI))) && (isFn K (.ref fI) && (keepIn K (.ref C) && (decide (subIn K (.ref C) (.type "BaseException") = some true) && decide (typeIn K (.ref C) = some (.type "type")))))))))))))
structure Cls1 (K : Frag) (C fI : Addr) (f : Str) : Prop where
  xi : excInitIn K C exBase "Exception.__new__" = true
  xo : excOver K C exBase = true
  tk : takerIn K C f = some none
  hd : hasDictIn K C = true
  sa : findIn K (.ref C) "__setattr__" = some (some (.builtin "object.__setattr__"))
  ga : findIn K (.ref C) "__getattribute__" = some (some (.builtin "BaseException.__getattribute__"))
  gg : findIn K (.ref C) "__getattr__" = some none
  no : findIn K (.ref C) f = some none
  iC : findIn K (.ref C) "__init__" = some (some (.ref fI))
  fn : isFn K (.ref fI) = true
  kp : keepIn K (.ref C) = true
  sub : subIn K (.ref C) (.type "BaseException") = some true
  ty : typeIn K (.ref C) = some (.type "type")
theorem clsB_ok {K : Frag} {C fI : Addr} {f : Str} (h : clsB K C fI f = true) : Cls1 K C fI f := by
  unfold clsB at h
  simp only [Bool.and_eq_true, decide_eq_true_eq] at h
  obtain ⟨h1, h2, h3, h4, h5, h6, h7, h8, h9, h10, h11, h12, h13⟩ := h
  exact ⟨h1, h2, h3, h4, h5, h6, h7, h8, h9, h10, h11, h12, h13⟩
/-- its __init__ as it stands behind the top -/
structure Ini1 (K : Frag) (fI : Addr) (q f : Str) : Prop where
  fn : ∃ (oc : Value) (od : Option Addr) (doc pm : Value) (an : Option Addr) (cdv ct : Value) (osl : Array (Option Value)) (p1 p2 q1 q2 q3 q4 : Pos),
    K.lookup fI = some ⟨oc, od, .func (fnOf "__init__" q (iA f p1 p2) (iB f q1 q2 q3 q4) (iS f) .none .none doc pm an cdv ct), osl⟩ ∧ codeIn K cdv q = true
theorem size1 (v : Value) : [v].length ≤ sizeLine := by
  rw [sizeLine_eq]
  exact (by decide : 1 ≤ 16777216)
theorem loc1 {M : Model} {s : Shared} {name : Str} {scope : Scope} {L a : Addr} {cd : Value} {m : Str → Option Value} {x : Str} {pos : Pos} {v : Value} {Q : Value → Shared → Prop} {A : Around} {E : Value → Shared → Prop} (hn : s.heap.Ns L m) (hv : m x = some v) (h : Q v s)
    (hk : scope.kind = .function) (hl : (envOfC name scope L a cd).kindOf x = some .local) (hd : (x == ("__debug__" : Str)) = false) :
    wpAny M A (eval (.Name x pos) (envOfC name scope L a cd)) Q E s := wpAny_Name (wpAny_loadName_local hk hl hn hv h) hd
structure End1 (h h' : Heap) (x C dx t1 : Addr) (f : Str) (v : Value) : Prop where
  keep : ∀ b o, b ≠ x → h.get? b = some o → h'.get? b = some o
  obj : h'.get? x = some { cls := .ref C, dict := some dx, data := .fields #[.ref t1, .none, .none, .none, .bool false, .none] }
  dbig : h.objs.size ≤ dx
  dne : dx ≠ x
  ns : h'.Ns1 dx (fun y => if y = f then some v else none)
structure Made1 (h h' : Heap) (e C d : Addr) (f : Str) (v : Value) : Prop where
  keep : ∀ b o, h.get? b = some o → h'.get? b = some o
  new : h.objs.size ≤ e
  obj : ∃ oe vs, h'.get? e = some oe ∧ oe.cls = .ref C ∧ oe.dict = some d ∧ oe.data = .fields vs ∧ vs[1]? = some .none
  dbig : h.objs.size ≤ d
  dne : d ≠ e
  ns : h'.Ns1 d (fun y => if y = f then some v else none)
section
variable {prog : Program} {w : World} {A : Around} {E : Value → Shared → Prop} {R : Result → Shared → Prop} {s : Shared} {K : Frag} {C fI : Addr} {q f : Str}
/-- the field's store -/
theorem store1 (T : Cls1 K C fI f) {x t0 : Addr} {v : Value} {tk : Tok} (X : K.In s.heap) (hx : s.heap.get? x = some (excObj C t0 none .none))
    (hq : ∀ h' tk' dx, (∀ b o, b ≠ x → s.heap.get? b = some o → h'.get? b = some o) → s.heap.objs.size ≤ dx → dx ≠ x → h'.get? x = some (excObj C t0 (some dx) .none) → h'.Ns1 dx (fun y => if y = f then some v else none) → R (.ok (.ret .none)) { s with heap := h', toks := tk' }) :
    codeAny (model prog w) A (.call (.builtin "object.__setattr__") ⟨[.ref x, .str f tk, v], []⟩) R s := by
  have hxs : x ≠ s.heap.objs.size := Nat.ne_of_lt (Heap.lt_size hx)
  refine osa_openX (od := none) F.store_Exception X ⟨hx, rfl, rfl, trivial⟩ T.xo T.tk fun b => ?_
  obtain ⟨cd, hc, hdd⟩ := any_some T.hd
  refine wpAny_bind (wpAny_pure (wpAny_bind (instanceDict_exc hx (looks_clsIn X hc) hdd ?_)))
  obtain ⟨hp, g, d, tt, os⟩ := s
  show wpAny _ _ (Builtin.ObjectAttr.storeInDict hp.objs.size (.str f tk) f v) _ _ _
  have hx1 : (hp.push (dictOf [] 0)).get? x = some (excObj C t0 none .none) := Heap.get?_push_of_some _ hx
  refine PySem.HandSPX.store_in_new (hp := (hp.push (dictOf [] 0)).update x fun o => { o with dict := some hp.objs.size }) ?_ fun h' tk' hn' hs => ?_
  · exact ⟨_, #[], _, (Heap.get?_update_ne _ _ _ _ hxs.symm).trans (Heap.get?_push_at rfl rfl), rfl, fun e he => absurd he (by simp), fun _ => rfl⟩
  · refine hq h' tk' hp.objs.size (fun b o hb ho => ?_) (Nat.le_refl _) hxs.symm ?_ hn'
    · exact (hs.2 b (Nat.ne_of_lt (Heap.lt_size ho))).trans ((Heap.get?_update_ne _ _ _ _ hb).trans (Heap.get?_push_of_some _ ho))
    · exact (hs.2 x hxs).trans (Heap.get?_update_self _ hx1 rfl)
end
end AX
/-! Errors whose field is at. -/
namespace AX
open PySem PySem.W PySem.Calls PyProof.Rows
section
variable {prog : Program} {w : World} {A : Around} {E : Value → Shared → Prop} {R : Result → Shared → Prop} {s : Shared} {K : Frag} {C fI : Addr} {q : Str}
theorem init_at (T : Cls1 K C fI "at") (I : Ini1 K fI q "at") {x t0 : Addr} {v : Value} (X : K.In s.heap) (hlim : s.heap.NoLimit) (hx : s.heap.get? x = some (excObj C t0 none .none)) (hroom : A.depth < recursionLimit)
    (hq : ∀ h' tk dx, End1 s.heap h' x C dx t0 "at" v → R (.ok (.ret .none)) { s with heap := h', toks := tk }) :
    codeAny (model prog w) A (.call (.ref fI) ⟨[.ref x, v], []⟩) R s := by
  obtain ⟨oc, od, doc, pm, an, cdv, ct, osl, p1, p2, q1, q2, q3, q4, ho, hcd⟩ := I.fn
  refine Att.call_fn (binds := [("self", .ref x), ("at", v)]) X hlim ho hcd hroom (BindsTo.of_eq (by first | rfl | with_unfolding_all rfl)) (by first | rfl | decide | with_unfolding_all rfl) (fun s1 IC => ?_) rfl rfl rfl
  obtain ⟨h1, tk1, rfl⟩ := IC.toInCall.same
  have k : ∀ b o, s.heap.get? b = some o → h1.get? b = some o := IC.toInCall.keep
  have hn := IC.toInCall.ns
  have X1 : K.In h1 := X.keeps k
  have hx1 := k _ _ hx
  show wpAny _ _ (execs _ _) _ _ _
  refine wpAny_execs_cons (plainObj_wpAny_Assign_Attribute ?_)
  refine loc1 (v := v) hn (by first | rfl | with_unfolding_all rfl | kernel_rfl) (loc1 (v := .ref x) hn (by first | rfl | with_unfolding_all rfl | kernel_rfl) ?_ rfl rfl (by decide)) rfl rfl (by decide)
  refine set_plain X1 (ox := excObj C t0 none .none) (od := none) ⟨hx1, rfl, rfl, trivial⟩ T.sa ?_
  refine store1 T (s := _) X1 hx1 (fun h3 tk3 dx k3 dn dne hx3 hn3 => ?_)
  show wpAny _ _ (execs _ _) _ _ _
  have z : s.heap.objs.size < h1.objs.size := hn.lt
  exact wpAny_execs_nil (hq h3 tk3 dx ⟨fun b o hb e => k3 b o hb (k b o e), hx3, Nat.le_of_lt (Nat.lt_of_lt_of_le z dn), dne, hn3⟩)
theorem made_at (T : Cls1 K C fI "at") (I : Ini1 K fI q "at") {v : Value} (X : K.In s.heap) (hlim : s.heap.NoLimit) (hroom : A.depth + 1 < recursionLimit)
    (hq : ∀ h' tk e d, Made1 s.heap h' e C d "at" v → R (.ok (.ret (.ref e))) { s with heap := h', toks := tk }) :
    codeAny (model prog w) A (.call (.ref C) ⟨[v], []⟩) R s := by
  obtain ⟨nm, N, qn, bs, bm, hdct, sn, sub, ab, col, dd, k0, k1, k2, k3, k5, hC, hT⟩ := excInit_of X T.xi
  obtain ⟨oI, hoI, hcI⟩ : ∃ oI, s.heap.get? fI = some oI ∧ oI.cls = .type "function" := by
    obtain ⟨o, ho, hc⟩ := Option.map_eq_some_iff.mp (show (K.lookup fI).map (·.cls) = some (.type "function") from beq_iff_eq.mp T.fn)
    exact ⟨o, X _ _ ho, hc⟩
  obtain ⟨hp, g, dr, tk, os⟩ := s
  have k : ∀ b o, hp.get? b = some o → ((hp.push (excTup [v])).push (excObj C hp.objs.size none .none)).get? b = some o := fun b o e => Heap.get?_push_of_some _ (Heap.get?_push_of_some _ e)
  have hget : ((hp.push (excTup [v])).push (excObj C hp.objs.size none .none)).get? (hp.objs.size + 1) = some (excObj C hp.objs.size none .none) := by heap_get
  refine PX.call_own F.excBase_Exception hT hC (looks_findIn X T.iC) (fun self => exc_bind hoI hcI self) (size1 v) ?_
  refine init_at (s := ⟨(hp.push (excTup [v])).push (excObj C hp.objs.size none .none), g, dr, tk, os⟩) T I (X.keeps k) (hlim.keeps k) hget ?_ fun h' tk' dx M => ?_
  · show A.depth + 1 < recursionLimit
    exact hroom
  · obtain ⟨k', hx, dn, dne, hns⟩ := M
    have old : ∀ b o, hp.get? b = some o → h'.get? b = some o := fun b o e => k' b o (Nat.ne_of_lt (Nat.lt_succ_of_lt (Heap.lt_size e))) (k b o e)
    have z : hp.objs.size + 1 + 1 ≤ dx := by
      have q := dn
      simp only [Heap.size_push] at q
      exact q
    exact ⟨rfl, hq h' tk' (hp.objs.size + 1) dx ⟨old, Nat.le_succ _, ⟨_, _, hx, rfl, rfl, rfl, rfl⟩, Nat.le_trans (Nat.le_trans (Nat.le_succ _) (Nat.le_succ _)) z, dne, hns⟩⟩
end
end AX
namespace AL
open PySem PySem.Spec PyProof.Rows L2 Evl
theorem relO_at {v : V} {v' : Value} (r : RelV v v') (g : Str) : RelO (List.lookup g [(("at" : Str), v)]) (if g = "at" then some v' else none) := by
  by_cases hw : g = "at"
  · subst hw
    rw [if_pos rfl]
    have q : List.lookup ("at" : Str) [(("at" : Str), v)] = some v := by simp [List.lookup]
    rw [q]
    exact r
  · rw [if_neg hw]
    have qw : (g == ("at" : Str)) = false := by simpa using hw
    have q2 : List.lookup g [(("at" : Str), v)] = none := by simp [List.lookup, qw]
    rw [q2]
    trivial
section
variable {X : Cx} {Z : Zx} {C fI : Addr} {q x : Str} {a : Expr} {ta : TA} {p pos pos2 : Pos} {k : Nat} {ρ : En} {O : Outs} {sts : List Stmt}
def tMk_at (C : Addr) (ta : TA) : L2.St → Hp → XK → Prop := fun σ H Q => ta σ H fun vs H1 => ∃ v, vs = [v] ∧ ∀ d, H1 d = none → Q (.ref C) (some d) (upd H1 d (.xd [(("at" : Str), v)]))
theorem pmk_at (T : AX.Cls1 X.K C fI "at") (I : AX.Ini1 X.K fI q "at") (hm : X.mg x = some (.ref C)) (hr : Room k X.A) (ha : PA X [a] ta) (hg : Gl X x) (hdb : (x == ("__debug__" : Str)) = false)
    (he : starEach (a :: []) X.env = (false, eval a X.env) :: starEach [] X.env) (hpl : (backTo pos (starEach [] X.env)).any (·.1) = false) :
    PMk X (.Call (.Name x p) [a] [] pos) (tMk_at C ta) := by
  intro pins s σ H Q I0 h
  refine wpAny_Call_Name_kw (ld_glob I0 hg hm ?_ hdb)
  refine PySem.W.callWith_K (h₀ := X.base) I0.ok.mod.kin T.kp (thn (ha.run pos pins s σ H _ I0 h) fun us s1 hh => ?_) he hpl
  obtain ⟨vs, H1, I1, r1, v, ev, q1⟩ := hh
  subst ev
  refine ⟨I1.kIn, ?_⟩
  cases r1 with
  | @cons _ v' _ _ rv rn =>
    cases rn
    show wpAny _ _ (call (.ref C) [v']) _ _ _
    have hlim := I1.nolimit
    obtain ⟨hp, g, dr, tk, os⟩ := s1
    refine wpAny_call (AX.made_at T I I1.kIn hlim (by have := hr.dp; omega) fun h' tk' e d M => ?_)
    show MkP X pins σ Q (.ref e) ⟨h', g, dr, tk', os⟩
    obtain ⟨oe, fv, hoe, hc, hd, hdat, h1⟩ := M.obj
    have hns := M.ns
    obtain ⟨G', g1, g2⟩ := restrict h' fun b => decide (b ≠ e)
    have gk : ∀ b, b ≠ e → G'.get? b = h'.get? b := fun b hb => g1 b (decide_eq_true hb)
    have ge : G'.get? e = none := g2 e (by simp)
    have old : ∀ b o, hp.get? b = some o → G'.get? b = some o := fun b o q => (gk b (Nat.ne_of_lt (Nat.lt_of_lt_of_le (Heap.lt_size q) M.new))).trans (M.keep b o q)
    have ob : ObjOk X.prog X.w (upd H1 d (.xd [(("at" : Str), v)])) G' d (.xd [(("at" : Str), v)]) :=
      ⟨_, hns.at (fun o q => (gk d M.dne).trans q), fun f => relO_at rv f⟩
    have J : Inv X pins σ (upd H1 d (.xd [(("at" : Str), v)])) ⟨G', g, dr, tk', os⟩ := I1.laid (t' := tk') old M.dbig ob
    refine ⟨e, oe, fv, ⟨G', g, dr, tk', os⟩, _, .ref C, some d, rfl, J, fun b o q => ?_, ge, hoe, ⟨hc, hd⟩, hdat, h1, ?_, rfl, I1.bare, raises_own T.sub T.ty, q1 d (I1.hok.fresh M.dbig)⟩
    · by_cases hb : b = e
      · have q' : G'.get? b = some o := q
        rw [hb, ge] at q'; cases q'
      · exact (gk b hb).symm.trans q
    · rw [upd_ne (Ne.symm M.dne)]
      exact I1.hok.fresh M.new
/-- raise X(e) -/
theorem sc_raise_at (T : AX.Cls1 X.K C fI "at") (I : AX.Ini1 X.K fI q "at") (hm : X.mg x = some (.ref C)) (hr : Room k X.A) (tk : Takes X Z.E) (h : EC X Z a ρ fun d ρ1 => Z.R C [("at", d)] ρ1) (hc : X.calm = true := by rfl) (hg : Gl X x := by rfl) (hdb : (x == ("__debug__" : Str)) = false := by decide)
    (he : starEach (a :: []) X.env = (false, eval a X.env) :: starEach [] X.env := by rfl) (hpl : (backTo pos (starEach [] X.env)).any (·.1) = false := by rfl) :
    SC X Z (.Raise (some (.Call (.Name x p) [a] [] pos)) none pos2 :: sts) ρ O :=
  sc_of (ps_raise hc tk (pmk_at T I hm hr (pa_cons p_wE pa_nil he) hg hdb he hpl)) fun B G H σ Dd o z s => h B G H σ o z _ fun d ρ1 v B1 H1 h1 e1 o1 r1 => ⟨v, rfl, fun dd hd => by
    obtain ⟨e2, of⟩ := o1.grow (u := .xd [(("at" : Str), v)]) hd
    exact z C _ (some dd) _ _ _ ρ1 h1 (e1.trans e2) of ⟨dd, _, rfl, upd_same, .cons (r1.up e2) .nil⟩⟩
end
end AL
namespace AL
open PySem PySem.Spec PyProof.Rows L2 Evl
/-! ### a def that gives a new object of its own -/
def PFr (n : Nat) (S : List D → (OO → Prop) → Prop) : Pr := fun as Φ => ∃ ds, as = ds.map Sl.im ∧ ds.length = n ∧ S ds fun o => Φ (.ret (.fr o) as)
def MonoR (S : List D → (OO → Prop) → Prop) : Prop := ∀ ds Φ Φ', (∀ o, Φ o → Φ' o) → S ds Φ → S ds Φ'
theorem PFr.len {n : Nat} {S : List D → (OO → Prop) → Prop} {ps : List Str} (h : ps.length = n) : ∀ as Φ, PFr n S as Φ → as.length = ps.length := fun as Φ ⟨ds, h1, h2, _⟩ => by rw [h1, h, ← h2]; simp
theorem PFr.mono {n : Nat} {S : List D → (OO → Prop) → Prop} (m : MonoR S) : Mono (PFr n S) := fun as Φ Φ' h ⟨ds, h1, h2, h3⟩ => ⟨ds, h1, h2, m _ _ _ (fun d x => h _ x) h3⟩
def OutR (Ψ : OO → Prop) : Outs where
  nx := fun _ => False
  rt := fun r _ => match r with
    | .fr o => Ψ o
    | .im _ => False
section
variable {P : Program} {w : World} {K : PySem.W.Frag} {mg : Str → Option Value} {base : Heap} {x qual : Str} {params : Arguments} {body : List Stmt} {scope : Scope} {f : Addr} {fd : FuncData} {N ps : List Str} {k n : Nat}
theorem cal_fr {S : List D → (OO → Prop) → Prop} (F : FunD K x qual params body scope [] [] f fd) (hm : mg x = some (.ref f)) (Sc : FnScope N ps scope) (hn : ps.length = n)
    (hb : ∀ (kV doc pm : Value) (an : Option Addr) (cdv ct : Value) (us : List Value), us.length = ps.length → bindArgs (PySem.W.fnOf x qual params body scope .none kV doc pm an cdv ct) ⟨us, []⟩ = pure (ps.zip us))
    (h : ∀ cdv A outer s H E, Room k (bodyX P w K mg base N qual scope f cdv A outer s H E).A → ∀ ds Ψ, ds.length = n → S ds Ψ → SC (bodyX P w K mg base N qual scope f cdv A outer s H E) Z0 body (envD N.length ds) (OutR Ψ)) :
    Cal P w K mg base x (k + 1) (PFr n S) :=
  ⟨f, fd, ps, def_ok F Sc (PFr.len hn) (fun cdv A outer s H E hr tk as Φ ⟨ds, h1, h2, h3⟩ => by
    subst h1
    rw [startE_im]
    intro B G H σ Dd o z sv
    refine (h cdv A outer s _ E hr ds _ h2 h3) B G _ σ Dd o RC.none ⟨fun ρ' σ' B' H' a => a.elim, fun r ρ' v σ' B' H' a => ?_, fun ρ' σ' B' H' a => a.elim, fun ρ' σ' B' H' a => a.elim⟩
    cases r with
    | im d => exact False.elim a
    | fr oo => exact sv.rt _ ρ' v σ' B' H' ⟨ds.map Sl.im, .refl _, a, im_out⟩), hm, F.kp, F.bindsN hb⟩
end
section
variable {X : Cx} {Z : Zx} {e a b : Expr} {es : List Expr} {ρ : En} {Φ : D → En → Prop} {Θ : OO → En → Prop} {p pos : Pos} {x : Str} {k n : Nat}
/-- f(e, ..): a new object -/
theorem fc_cr {S : List D → (OO → Prop) → Prop} (c : Cal X.prog X.w X.K X.mg X.base x k (PFr n S)) (hr : Room k X.A) (hx : PassW X Z) (mo : MonoR S)
    (h : AC X Z (e :: es) ρ fun ds ρ1 => ds.length = n ∧ S ds fun o => Θ o ρ1)
    (hg : Gl X x := by rfl) (hdb : (x == ("__debug__" : Str)) = false := by decide) (he : starEach (e :: es) X.env = (false, eval e X.env) :: starEach es X.env := by rfl) (hpl : (backTo pos (starEach es X.env)).any (·.1) = false := by rfl) : FC X Z (.Call (.Name x p) (e :: es) [] pos) ρ Θ := fun B G H σ o z Q q => by
  obtain ⟨f, fd, ps, F, hm, kp, bd⟩ := c.ex
  refine (pe_callS (E := fun σ c d H => Z.E c d σ H) F hr hg hm kp bd hx p_wA hdb he hpl).w (h B G H σ o z _ fun ds ρ1 vs B1 H1 ⟨hl, hS⟩ e1 o1 r1 => ?_)
  refine ⟨B1, rest B1 H1 none, ds.map Sl.im, o1.call r1, ds, rfl, hl, mo _ _ _ (fun oo hk => ?_) hS⟩
  intro v B' H' e2 o2 rv
  obtain ⟨a, u, rfl, h2, h3, h4, h5, h6⟩ := rv
  have o3 := o1.behind (σ' := σ) (ρ' := ρ1) e2 o2.s
  have hH1 : H1 a = none := by
    cases eh : H1 a with
    | none => rfl
    | some w =>
      have hb1 : B1 a = none := fresh_back e2 h2
      have : rest B1 H1 none a = some w := by unfold rest; rw [if_neg (by simp), if_neg (by simp [hb1])]; exact eh
      rw [this] at h3; cases h3
  exact q oo ρ1 a u B' H' hk (e1.trans e2) o3 h2 (fresh_back o1.s.eg hH1) h4 (fun j w hj => by
    obtain ⟨_, _, _, y, hy, _⟩ := o1.ow j a w hj
    rw [hH1] at hy; cases hy) h6
/-- ** of a small base -/
theorem ec_pow (h : EC X Z a ρ fun d ρ1 => EC X Z b ρ1 fun d' ρ2 => ∃ i j, d = .int i ∧ d' = .int j ∧ CPow i j ∧ Φ (.int (i ^ j.toNat)) ρ2) : EC X Z (.BinOp a .Pow b pos) ρ Φ :=
  ec_op op_pow (h.mono fun d ρ1 z => z.mono fun d' ρ2 ⟨i, j, e1, e2, hc, k⟩ => by subst e1; subst e2; exact ⟨_, g_I (f := fun i j => .int (i ^ j.toNat)) hc (fun B => .int _), k⟩)
/-- - e, an int -/
theorem ec_neg (h : EC X Z e ρ fun d ρ1 => ∃ i, d = .int i ∧ Φ (.int (-i)) ρ1) : EC X Z (.UnaryOp .USub e pos) ρ Φ := fun B G H σ o z Q q =>
  (pe_un un_neg p_wE).w (h B G H σ o z _ fun d ρ1 v B1 H1 ⟨i, hd, hk⟩ e1 o1 r1 => by
    subst hd; cases r1
    exact ⟨i, rfl, q _ ρ1 _ B1 H1 hk e1 o1 (.int _)⟩)
variable {O : Outs} {sts sa sb : List Stmt} {c : Expr}
/-- an if whose ways meet -/
theorem sc_ifj (J : En → Prop) (h : TC X Z c ρ fun k ρ1 => (k = true → SC X Z sa ρ1 { O with nx := J }) ∧ (k = false → SC X Z sb ρ1 { O with nx := J })) (hj : ∀ ρ2, J ρ2 → SC X Z sts ρ2 O) : SC X Z (.If c sa sb pos :: sts) ρ O :=
  sc_if fun B G H σ o z Q q => h B G H σ o z Q fun k ρ1 B1 H1 ⟨h1, h2⟩ e1 o1 => q k ρ1 B1 H1 ⟨fun hk => (h1 hk).out (fun ρ' x => hj ρ' x) (fun _ _ x => x) (fun _ x => x) (fun _ x => x), fun hk => (h2 hk).out (fun ρ' x => hj ρ' x) (fun _ _ x => x) (fun _ x => x) (fun _ x => x)⟩ e1 o1
end
end AL
namespace AL
open PySem PySem.Spec PyProof.Rows L2 Evl
/-! ### a def by its function object, the start of a law -/
section
variable {P : Program} {w : World} {K : PySem.W.Frag} {mg : Str → Option Value} {base : Heap} {x qual : Str} {params : Arguments} {body : List Stmt} {scope : Scope} {f : Addr} {fd : FuncData} {N ps : List Str} {k n : Nat}
theorem ok_fn {S : List D → (D → Prop) → Prop} (F : FunD K x qual params body scope [] [] f fd) (Sc : FnScope N ps scope) (hn : ps.length = n)
    (h : ∀ cdv A outer s H E, Room k (bodyX P w K mg base N qual scope f cdv A outer s H E).A → ∀ ds Ψ, ds.length = n → S ds Ψ → SC (bodyX P w K mg base N qual scope f cdv A outer s H E) Z0 body (envD N.length ds) (OutP Ψ)) :
    FnOk P w K mg base (L2.CX P w) (k + 1) f fd ps (Csp K (PFn n S)) :=
  def_ok F Sc (PFn.len hn) fun cdv A outer s H E hr tk as Φ ⟨ds, h1, h2, h3⟩ => by
    subst h1
    rw [startE_im]
    intro B G H σ Dd o z sv
    refine (h cdv A outer s _ E hr ds _ h2 h3) B G _ σ Dd o RC.none ⟨fun ρ' σ' B' H' a => sv.nx ρ' σ' B' H' ⟨ds.map Sl.im, .refl _, a, im_out⟩, fun r ρ' v σ' B' H' a => ?_, fun ρ' σ' B' H' a => a.elim, fun ρ' σ' B' H' a => a.elim⟩
    cases r with
    | im d => exact sv.rt _ ρ' v σ' B' H' ⟨ds.map Sl.im, .refl _, a, im_out⟩
    | fr oo => exact False.elim a
/-- the script as a datum: the promise that the law gives True -/
theorem csp_law {m : Nat} {S : List D → (D → Prop) → Prop} (hS : ∀ (ns : List Int) (Ψ : D → Prop), ns.length ≤ m → Ψ (.bl true) → S [.klst (ns.map D.int)] Ψ) (H : Hp) (a : Addr) (ns : List Int) (hl : ns.length ≤ m) (hq : SqL K H a (ns.map V.int)) :
    Csp K (PFn 1 S) [.ref a] H (fun v _ => v = .bl true) fun _ _ _ => False := by
  refine ⟨H, fun _ => none, [Sl.im (.klst (ns.map D.int))], ⟨⟨Ex.refl H, (fun b w z => nomatch z), (fun b w z => nomatch z), fun b w z _ => z⟩, rfl, fun i d hd => ?_, fun i b o ho => ?_, fun i j b o o' ho _ => ?_⟩, [.klst (ns.map D.int)], rfl, rfl, hS ns _ hl ?_⟩
  · match i, hd with
    | 0, hd => cases hd; exact ⟨_, rfl, .klst hq (int_reps ns)⟩
  · match i, ho with
    | 0, ho => cases ho
  · match i, ho with
    | 0, ho => cases ho
  · intro v B' H' _ _ r
    cases r; rfl
theorem cx_no {P : Program} {w : World} {H : Hp} {s : Shared} {e : Value} {s' : Shared} (h : L2.CX P w [] H s (fun _ _ _ => False) e s') : False := by
  obtain ⟨_, _, _, _, _, _, _, _, _, _, _, _, z⟩ := h
  exact z
end
end AL
/-! ### the head: a Hook with a test of one's own -/
namespace AH
open PySem PySem.Spec PyProof.Rows L2
/-- what an object of the top leads to -/
def refsF (o : Obj) : List Addr := match o.data with
  | .func fd => He.refV fd.code ++ He.refV fd.defaults ++ He.refV fd.kwdefaults
  | .cls cd => cd.ns :: cd.mro.flatMap He.refV
  | .dict es _ => es.toList.flatMap fun e => He.refV e.val
  | _ => []
def layer (g : Addr → Option Obj) (as : List Addr) : List Addr := as.flatMap fun a => match g a with
  | some o => refsF o
  | none => []
def asF (g : Addr → Option Obj) : List Addr :=
  let l1 := layer g [mainGlobals]
  let l2 := layer g l1
  let l3 := layer g l2
  let l4 := layer g l3
  mainGlobals :: (l1 ++ (l2 ++ (l3 ++ l4)))
def obsX (fa : List He.Fa) (fn : List He.DefD) (xt : PySem.W.Frag → Bool) (g : Addr → Option Obj) : He.AlD × Bool :=
  let K := He.frG g (asF g)
  (He.obsD fa fn K, xt K)
def hookX (fa : List He.Fa) (fn : List He.DefD) (xt : PySem.W.Frag → Bool) : PySem.W.Hook where
  α := He.AlD × Bool
  obs := fun s => obsX fa fn xt s.heap.get?
  val := fun _ => (He.valD fn, true)
  says := fun _ h => ∃ K : PySem.W.Frag, K.In h ∧ He.SaysD fa fn K ∧ xt K = true
  of := fun _ _ e => ⟨_, He.frG_in, (Prod.mk.inj e).1, (Prod.mk.inj e).2⟩
  keeps := fun _ _ _ ⟨K, hK, c, t⟩ k => ⟨K, PySem.W.Frag.In.keeps hK k, c, t⟩
theorem obsX_eq {fa : List He.Fa} {fn : List He.DefD} {xt : PySem.W.Frag → Bool} {g : Addr → Option Obj} {s : Shared} (h : ∀ a, g a = s.heap.get? a) : obsX fa fn xt g = (hookX fa fn xt).obs s := by
  have e : g = s.heap.get? := funext h
  rw [e] <;> rfl
/-! ### tests of the classes of errors -/
def exB (K : PySem.W.Frag) (C : Addr) : Bool :=
  decide (PySem.W.findIn K (.ref C) "__getattribute__" = some (some (.builtin "BaseException.__getattribute__"))) && (decide (PySem.W.findIn K (.ref C) "__getattr__" = some none) &&
  (decide (PySem.W.subIn K (.ref C) (.type "BaseException") = some true) && (PySem.W.hasDictIn K C && (decide (PySem.W.findIn K (.ref C) "__class__" = some (some (.builtin "object.__class__"))) &&
  (decide (PySem.W.specialIn K (.builtin "object.__class__") "__get__" = some (some (.builtin "getset_descriptor.__get__"))) && (decide (PySem.W.takesIn K (.builtin "object.__class__") = some true) && decide (PySem.W.mroIn K C (.type "object") = some true)))))))
theorem exB_ok {K : PySem.W.Frag} {C : Addr} (h : exB K C = true) : ExcC K C := by
  unfold exB at h
  simp only [Bool.and_eq_true, decide_eq_true_eq] at h
  obtain ⟨h1, h2, h3, h4, h5, h6, h7, h8⟩ := h
  exact ⟨h1, h2, h3, h4, h5, h6, h7, h8⟩
def kwB (K : PySem.W.Frag) (f : Addr) : Bool := match K.lookup f with
  | some ⟨_, _, .func fd, _⟩ => fd.kwdefaults == .none
  | _ => false
/-- the __init__ of an error with one field -/
theorem ini_ok {K : PySem.W.Frag} {fI : Addr} {q f : Str} {fd : FuncData} {p1 p2 q1 q2 q3 q4 : Pos} (F : FunD K "__init__" q (AX.iA f p1 p2) (AX.iB f q1 q2 q3 q4) (AX.iS f) [] [] fI fd) (hk : kwB K fI = true) : AX.Ini1 K fI q f := by
  obtain ⟨oc, od, dV, kV, doc, pm, an, cdv, ct, osl, rfl, lk, hcd, hd, _⟩ := F.ex
  have e1 : dV = .none := by
    rcases hd with ⟨_, h⟩ | ⟨h, _⟩
    · exact h
    · exact absurd rfl h
  have e2 : kV = .none := by
    unfold kwB at hk
    rw [lk] at hk
    exact beq_iff_eq.mp hk
  subst e1; subst e2
  exact ⟨oc, od, doc, pm, an, cdv, ct, osl, p1, p2, q1, q2, q3, q4, lk, hcd⟩
end AH
namespace T34
open PySem PySem.Spec PyProof.Rows L2 Evl AL
def top (i : Nat) : Stmt := PySem.Challenge.pw_silentlinks_k34_schedule_texts.main.body.getD i (.Pass ⟨0, 0, 0, 0⟩)
abbrev s_BadNumber___init__ : Stmt := inClass (top 2) 0
abbrev s_BadText___init__ : Stmt := inClass (top 3) 0
abbrev s_words_in : Stmt := top 10
abbrev s_counted_lines : Stmt := top 11
abbrev s_number_in : Stmt := top 12
abbrev s_event_text : Stmt := top 14
abbrev s_schedule_text : Stmt := top 15
abbrev s_value_in : Stmt := top 16
abbrev s_deed_in : Stmt := top 17
abbrev s_begin_in : Stmt := top 18
abbrev s_hand_in : Stmt := top 19
abbrev s_plain_in : Stmt := top 20
abbrev s_event_in : Stmt := top 21
abbrev s_schedule_from : Stmt := top 22
abbrev s_house_of_event : Stmt := top 23
abbrev s__law_pool : Stmt := top 25
abbrev s__law_take : Stmt := top 26
abbrev s__law_int : Stmt := top 27
abbrev s__law_number : Stmt := top 28
abbrev s__law_value : Stmt := top 29
abbrev s__law_deed : Stmt := top 30
abbrev s__law_event : Stmt := top 31
abbrev s__law_words : Stmt := top 32
abbrev s__law_kinds : Stmt := top 33
abbrev s__law_back : Stmt := top 34
abbrev s__law_loose : Stmt := top 35
abbrev s__law_spoiled : Stmt := top 36
abbrev s__law_skipped : Stmt := top 37
abbrev s__law_refused : Stmt := top 38
abbrev s__law_spoiled_right : Stmt := top 39
abbrev s_law : Stmt := top 40
end T34
/-! The head with properties. -/
namespace AH
open PySem PySem.Spec PyProof.Rows L2
/-- the getter of a property of the class at C -/
def gA (K : PySem.W.Frag) (C : Addr) (m : Str) : Addr := match PySem.W.recIn K (He.ma K C m) "property" with
  | some (.ref g :: _) => g
  | _ => 0
def gtAd (K : PySem.W.Frag) (d : He.DefD) : Addr := gA K (He.ga K d.at_.1) (d.at_.2.getD "")
def gtW (K : PySem.W.Frag) (d : He.DefD) : He.FnW := match K.lookup (gtAd K d) with
  | some ⟨_, _, .func fd, _⟩ => some (fd.name, fd.qualname, fd.params, fd.body, fd.scope, fd.globals, fd.closure, fd.builtins)
  | _ => none
def gtOk (K : PySem.W.Frag) (d : He.DefD) : Bool :=
  let C := He.ga K d.at_.1
  let m := d.at_.2.getD ""
  let p := He.ma K C m
  (decide (PySem.W.findIn K (.ref C) m = some (some (.ref p))) && (decide (PySem.W.specialIn K (.ref p) "__get__" = some (some (.builtin "property.__get__"))) && (decide (PySem.W.takesIn K (.ref p) = some true) && (match PySem.W.recIn K p "property" with
  | some (.ref _ :: _) => true
  | _ => false)))) && (PySem.W.keepIn K (.ref (gtAd K d)) && (match K.lookup (gtAd K d) with
  | some ⟨_, _, .func fd, _⟩ => PySem.W.codeIn K fd.code d.qual && (He.dflB K fd.defaults [] && He.kwdB K fd.kwdefaults [])
  | _ => false))
def SaysP (pn : List He.DefD) (K : PySem.W.Frag) : Prop := pn.all (gtOk K) = true ∧ pn.map (gtW K) = pn.map He.DefD.val
theorem and2 {a b : Bool} (h : (a && b) = true) : a = true ∧ b = true := by simpa using h
theorem gt_fun {K : PySem.W.Frag} {d : He.DefD} (e : gtW K d = d.val) (c : gtOk K d = true) : PropOf K (He.ga K d.at_.1) (d.at_.2.getD "") (He.ma K (He.ga K d.at_.1) (d.at_.2.getD "")) (gtAd K d) ∧ ∃ fd, FunD K d.name d.qual d.params d.body d.scope [] [] (gtAd K d) fd := by
  unfold gtOk at c
  obtain ⟨c1, c2⟩ := and2 c
  obtain ⟨c3, c4⟩ := and2 c1
  obtain ⟨c5, c6⟩ := and2 c4
  obtain ⟨c7, c8⟩ := and2 c6
  refine ⟨⟨of_decide_eq_true c3, of_decide_eq_true c5, of_decide_eq_true c7, ?_⟩, ?_⟩
  · show ∃ rest, PySem.W.recIn K (He.ma K (He.ga K d.at_.1) (d.at_.2.getD "")) "property" = some (Value.ref (gA K (He.ga K d.at_.1) (d.at_.2.getD "")) :: rest)
    unfold gA
    cases q : PySem.W.recIn K (He.ma K (He.ga K d.at_.1) (d.at_.2.getD "")) "property" with
    | none => rw [q] at c8; cases c8
    | some l =>
      rw [q] at c8
      cases l with
      | nil => cases c8
      | cons v r => cases v <;> first | exact ⟨r, rfl⟩ | cases c8
  · obtain ⟨kp, c9⟩ := and2 c2
    unfold gtW at e
    cases q : K.lookup (gtAd K d) with
    | none => rw [q] at c9; cases c9
    | some o =>
      obtain ⟨oc, od, dt, osl⟩ := o
      rw [q] at c9 e
      cases dt with
      | func fd =>
        obtain ⟨n1, n2, n3, n4, n5, n6, n7, n8, n9, n10, n11, n12, n13, n14, n15⟩ := fd
        have e2 : (some (n1, n2, n3, n4, n5, n6, n7, n15) : He.FnW) = some (d.name, d.qual, d.params, .stmts d.body, d.scope, mainGlobals, [], builtinsNs) := e
        simp only [Option.some.injEq, Prod.mk.injEq] at e2
        obtain ⟨h1, h2, h3, h4, h5, h6, h7, h8⟩ := e2
        subst h1 h2 h3 h4 h5 h6 h7 h8
        obtain ⟨k1, k2⟩ := and2 (show (PySem.W.codeIn K n13 d.qual && (He.dflB K n8 [] && He.kwdB K n9 [])) = true from c9)
        obtain ⟨k3, k4⟩ := and2 k2
        exact ⟨_, ⟨oc, od, n8, n9, n10, n11, n12, n13, n14, osl, rfl, q, k1, He.dflB_ok k3, He.kwdB_ok k4⟩, kp⟩
      | _ => cases c9
theorem SaysP.at {pn : List He.DefD} {K : PySem.W.Frag} (c : SaysP pn K) (i : Nat) {d : He.DefD} (h : pn[i]? = some d := by rfl) : PropOf K (He.ga K d.at_.1) (d.at_.2.getD "") (He.ma K (He.ga K d.at_.1) (d.at_.2.getD "")) (gtAd K d) ∧ ∃ fd, FunD K d.name d.qual d.params d.body d.scope [] [] (gtAd K d) fd := by
  have e : (pn.map (gtW K))[i]? = (pn.map He.DefD.val)[i]? := by rw [c.2]
  rw [List.getElem?_map, List.getElem?_map, h] at e
  exact gt_fun (Option.some.inj e) (List.all_eq_true.mp c.1 d (List.mem_of_getElem? h))
/-- what a property names -/
def refsP (o : Obj) : List Addr := match o with
  | ⟨.type n, _, .fields vs, _⟩ => if n == "property" then vs.toList.flatMap He.refV else []
  | _ => []
def asY (g : Addr → Option Obj) : List Addr :=
  let l1 := layer g [mainGlobals]
  let l2 := layer g l1
  let l3 := layer g l2
  let l4 := layer g l3
  let p4 := l3.flatMap fun a => match g a with
    | some o => refsP o
    | none => []
  let p5 := layer g p4
  mainGlobals :: (l1 ++ (l2 ++ (l3 ++ (l4 ++ (p4 ++ p5)))))
def obsY (fa : List He.Fa) (fn pn : List He.DefD) (xt : PySem.W.Frag → Bool) (g : Addr → Option Obj) : (He.AlD × Bool) × List He.FnW :=
  let K := He.frG g (asY g)
  ((He.obsD fa fn K, xt K && pn.all (gtOk K)), pn.map (gtW K))
def hookY (fa : List He.Fa) (fn pn : List He.DefD) (xt : PySem.W.Frag → Bool) : PySem.W.Hook where
  α := (He.AlD × Bool) × List He.FnW
  obs := fun s => obsY fa fn pn xt s.heap.get?
  val := fun _ => ((He.valD fn, true), pn.map He.DefD.val)
  says := fun _ h => ∃ K : PySem.W.Frag, K.In h ∧ He.SaysD fa fn K ∧ xt K = true ∧ SaysP pn K
  of := fun _ _ e => ⟨_, He.frG_in, (Prod.mk.inj (Prod.mk.inj e).1).1, (and2 (Prod.mk.inj (Prod.mk.inj e).1).2).1, (and2 (Prod.mk.inj (Prod.mk.inj e).1).2).2, (Prod.mk.inj e).2⟩
  keeps := fun _ _ _ ⟨K, hK, c, t⟩ k => ⟨K, PySem.W.Frag.In.keeps hK k, c, t⟩
theorem obsY_eq {fa : List He.Fa} {fn pn : List He.DefD} {xt : PySem.W.Frag → Bool} {g : Addr → Option Obj} {s : Shared} (h : ∀ a, g a = s.heap.get? a) : obsY fa fn pn xt g = (hookY fa fn pn xt).obs s := by
  have e : g = s.heap.get? := funext h
  rw [e] <;> rfl
end AH
/-! The head with tables of the module whose keys are texts. -/
namespace AH
open PySem PySem.Spec PyProof.Rows L2
abbrev TabW : Type := List (Option (List (Option (Str × Int))))
def SaysZ (ts : List He.Tab) (w : World) (K : PySem.W.Frag) : Prop := (ts.map fun t => He.dicW K (t.1 K)) = ts.map fun t => some (He.keysIn w.params t.2)
def obsZ (fa : List He.Fa) (fn : List He.DefD) (ts : List He.Tab) (xt : PySem.W.Frag → Bool) (g : Addr → Option Obj) : (He.AlD × Bool) × TabW :=
  let K := He.frG g (asF g)
  ((He.obsD fa fn K, xt K), ts.map fun t => He.dicW K (t.1 K))
def valZ (fn : List He.DefD) (ts : List He.Tab) (w : World) : (He.AlD × Bool) × TabW := ((He.valD fn, true), ts.map fun t => some (He.keysIn w.params t.2))
def hookZ (fa : List He.Fa) (fn : List He.DefD) (ts : List He.Tab) (xt : PySem.W.Frag → Bool) : PySem.W.Hook where
  α := (He.AlD × Bool) × TabW
  obs := fun s => obsZ fa fn ts xt s.heap.get?
  val := fun w => valZ fn ts w
  says := fun w h => ∃ K : PySem.W.Frag, K.In h ∧ He.SaysD fa fn K ∧ xt K = true ∧ SaysZ ts w K
  of := fun _ _ e => ⟨_, He.frG_in, congrArg (fun z : (He.AlD × Bool) × TabW => z.1.1) e, congrArg (fun z : (He.AlD × Bool) × TabW => z.1.2) e, congrArg (fun z : (He.AlD × Bool) × TabW => z.2) e⟩
  keeps := fun _ _ _ ⟨K, hK, c, t⟩ k => ⟨K, PySem.W.Frag.In.keeps hK k, c, t⟩
theorem obsZ_eq {fa : List He.Fa} {fn : List He.DefD} {ts : List He.Tab} {xt : PySem.W.Frag → Bool} {g : Addr → Option Obj} {s : Shared} (h : ∀ a, g a = s.heap.get? a) : obsZ fa fn ts xt g = (hookZ fa fn ts xt).obs s := by
  have eqg : g = s.heap.get? := funext h
  subst eqg; rfl
theorem SaysZ.dic {ts : List He.Tab} {w : World} {K : PySem.W.Frag} (c : SaysZ ts w K) (i : Nat) {t : He.Tab} (h : ts[i]? = some t := by rfl) : He.dicW K (t.1 K) = some (He.keysIn w.params t.2) := by
  have e2 : (ts.map fun t => He.dicW K (t.1 K))[i]? = (ts.map fun t => some (He.keysIn w.params t.2))[i]? := by rw [c]
  rw [List.getElem?_map, List.getElem?_map, h] at e2
  exact Option.some.inj e2
/-! ### a key that is not written -/
theorem ent_key {P : Params} : ∀ {l : List DictEntry} {ks : List Str}, l.map He.keyOf = He.keysIn P ks → ∀ e ∈ l, ∃ x t, e.key = .str x t ∧ x ∈ ks
  | [], _, _, e, he => nomatch he
  | e :: r, [], h, _, _ => by cases h
  | e :: r, k :: ks, h, e2, he => by
    injection (show He.keyOf e :: r.map He.keyOf = some (k, PyData.keyHash P k) :: He.keysIn P ks from h) with h1 h2
    rcases List.mem_cons.mp he with rfl | he
    · unfold He.keyOf at h1
      split at h1
      · rename_i x t q
        exact ⟨x, t, q, List.mem_cons.mpr (.inl (Prod.mk.inj (Option.some.inj h1)).1)⟩
      · cases h1
    · obtain ⟨x, t, q, hx⟩ := ent_key h2 e2 he
      exact ⟨x, t, q, List.mem_cons.mpr (.inr hx)⟩
theorem nsIn_no {P : Params} {K : PySem.W.Frag} {a : Addr} {ks : List Str} {z : Str} (h : He.dicW K a = some (He.keysIn P ks)) (hz : z ∉ ks) : PySem.W.nsIn K a z = some none := by
  unfold He.dicW at h
  cases q : K.lookup a with
  | none => rw [q] at h; cases h
  | some o =>
    obtain ⟨oc, od, dt, slots⟩ := o
    rw [q] at h
    cases oc with
    | type tn =>
      cases od with
      | none =>
        cases dt with
        | dict es n =>
          have h1 : (match decide (tn = "dict") && (slots.isEmpty && !(a == sysModules)) with
            | true => some (es.toList.map He.keyOf)
            | false => none) = some (He.keysIn P ks) := h
          cases z0 : decide (tn = "dict") && (slots.isEmpty && !(a == sysModules)) with
          | false => rw [z0] at h1; cases h1
          | true =>
            rw [z0] at h1
            have hk := ent_key (Option.some.inj h1)
            have f1 : es.toList.find? (·.key.isStr z) = none := by
              rw [List.find?_eq_none]
              intro e he
              obtain ⟨x, t, q2, hx⟩ := hk e he
              rw [q2]
              intro hh
              exact hz (by
                have : x = z := by simpa [Value.isStr] using hh
                rw [← this]; exact hx)
            have f2 : es.toList.any (·.refKey) = false := by
              rw [List.any_eq_false]
              intro e he
              obtain ⟨x, t, q2, hx⟩ := hk e he
              unfold DictEntry.refKey
              rw [q2]
              simp
            unfold PySem.W.nsIn
            rw [q]
            show (match es.toList.find? (·.key.isStr z) with
              | some e => some (some e.val)
              | none => if es.toList.any (·.refKey) then none else some none) = some none
            rw [f1, f2]
            rfl
        | _ => cases h
      | some some_dict => cases dt <;> cases h
    | _ => (cases od) <;> (cases dt) <;> (cases h)
/-! ### values that are tuples of texts -/
def strsB : List Str → List Value → Bool
  | [], [] => true
  | x :: xs, u :: us => He.relB (.str x) u && strsB xs us
  | _, _ => false
theorem strsB_ok : ∀ {xs : List Str} {us : List Value}, strsB xs us = true → Vals (xs.map V.str) us
  | [], [], _ => .nil
  | x :: xs, u :: us, h => by
    obtain ⟨h1, h2⟩ := and2 (show (He.relB (.str x) u && strsB xs us) = true from h)
    exact .cons (He.relB_ok h1) (strsB_ok h2)
  | [], _ :: _, h => by cases h
  | _ :: _, [], h => by cases h
def tupB (K : PySem.W.Frag) (a : Addr) (xs : List Str) : Bool := match K.lookup a with
  | some ⟨.type c, _, .seq its _, _⟩ => decide (c = "tuple") && (decide (its.size ≤ sizeLine) && strsB xs its.toList)
  | _ => false
theorem tupB_ok {K : PySem.W.Frag} {a : Addr} {xs : List Str} (h : tupB K a xs = true) (B : Hp) : SqT K B a (xs.map V.str) := by
  unfold tupB at h
  cases q : K.lookup a with
  | none => rw [q] at h; cases h
  | some o =>
    obtain ⟨oc, od, dt, osl⟩ := o
    rw [q] at h
    cases oc with
    | type c =>
      cases dt with
      | seq its n =>
        obtain ⟨h1, h2⟩ := and2 (show (decide (c = "tuple") && (decide (its.size ≤ sizeLine) && strsB xs its.toList)) = true from h)
        obtain ⟨h3, h4⟩ := and2 h2
        have e1 : c = "tuple" := of_decide_eq_true h1
        subst e1
        exact .inr ⟨_, its, n, q, rfl, rfl, of_decide_eq_true h3, strsB_ok h4⟩
      | _ => cases h
    | _ => cases dt <;> cases h
def tabB (K : PySem.W.Frag) (a : Addr) (ts : List (Str × List Str)) : Bool := ts.all fun q => match PySem.W.nsIn K a q.1 with
  | some (some (.ref t)) => tupB K t q.2
  | _ => false
theorem tabB_ok {K : PySem.W.Frag} {a : Addr} {ts : List (Str × List Str)} (h : tabB K a ts = true) {q : Str × List Str} (hq : q ∈ ts) : ∃ t : Addr, PySem.W.nsIn K a q.1 = some (some (.ref t)) ∧ ∀ B : Hp, SqT K B t (q.2.map V.str) := by
  have hall := List.all_eq_true.mp h q hq
  cases eq : PySem.W.nsIn K a q.1 with
  | none => rw [eq] at hall; cases hall
  | some r =>
    rw [eq] at hall
    cases r with
    | none => cases hall
    | some u =>
      cases u with
      | ref t => exact ⟨t, rfl, fun B => tupB_ok hall B⟩
      | _ => cases hall
end AH
namespace T34
open PySem PySem.Spec PyProof.Rows L2 AL
def dd (x : Str) (st : Stmt) : He.DefD := ⟨(x, none), x, x, defArgs st, defBody st, defScope st, [], []⟩
def dm (c m q : Str) (st : Stmt) : He.DefD := ⟨(c, some m), m, q, defArgs st, defBody st, defScope st, [], []⟩
def fn : List He.DefD := [dd "number_in" s_number_in, dd "words_in" s_words_in, dd "counted_lines" s_counted_lines, dd "value_in" s_value_in, dd "plain_in" s_plain_in, dd "hand_in" s_hand_in, dd "event_text" s_event_text, dd "schedule_text" s_schedule_text, dd "house_of_event" s_house_of_event, dd "deed_in" s_deed_in, dd "begin_in" s_begin_in, dd "event_in" s_event_in, dd "schedule_from" s_schedule_from, dd "_law_pool" s__law_pool, dd "_law_take" s__law_take, dd "_law_int" s__law_int, dd "_law_number" s__law_number, dd "_law_value" s__law_value, dd "_law_deed" s__law_deed, dd "_law_event" s__law_event, dd "_law_words" s__law_words, dd "_law_kinds" s__law_kinds, dd "_law_back" s__law_back, dd "_law_loose" s__law_loose, dd "_law_spoiled" s__law_spoiled, dd "_law_skipped" s__law_skipped, dd "_law_refused" s__law_refused, dd "_law_spoiled_right" s__law_spoiled_right, dd "law" s_law, dm "BadText" "__init__" "BadText.__init__" s_BadText___init__]
def fa : List He.Fa := [.glo "number_in", .glo "words_in", .glo "counted_lines", .glo "value_in", .glo "plain_in", .glo "hand_in", .glo "event_text", .glo "schedule_text", .glo "house_of_event", .glo "deed_in", .glo "begin_in", .glo "event_in", .glo "schedule_from", .glo "_law_pool", .glo "_law_take", .glo "_law_int", .glo "_law_number", .glo "_law_value", .glo "_law_deed", .glo "_law_event", .glo "_law_words", .glo "_law_kinds", .glo "_law_back", .glo "_law_loose", .glo "_law_spoiled", .glo "_law_skipped", .glo "_law_refused", .glo "_law_spoiled_right", .glo "law", .glo "BadText", .glo "DEEDS", .glo "BadNumber", .glo "LinksError", .free "isinstance", .free "int", .free "bool", .free "list", .free "tuple", .free "len", .free "range", .free "sorted", .free "set", .free "any", .free "all", .free "enumerate", .free "min", .free "zip", .free "str", .int "MOST_DIGITS" 30, .str "VALUE" "value", .str "DIGITS" "0123456789"]
def nm0 : List PySem.Str := ["LinksError", "BadNumber", "BadText", "PLACE", "VALUE", "DEEDS", "DIGITS", "MOST_DIGITS", "words_in", "counted_lines", "number_in", "event_text", "schedule_text", "value_in", "deed_in", "begin_in", "hand_in", "plain_in", "event_in", "schedule_from", "house_of_event", "_law_pool", "_law_take", "_law_int", "_law_number", "_law_value", "_law_deed", "_law_event", "_law_words", "_law_kinds"]
def nm1 : List PySem.Str := ["_law_back", "_law_loose", "_law_spoiled", "_law_skipped", "_law_refused", "_law_spoiled_right"]
def names : List PySem.Str := nm0 ++ nm1
def xt (K : PySem.W.Frag) : Bool := AX.clsB K (He.ga K "BadText") (He.ma K (He.ga K "BadText") "__init__") "line" && (AH.kwB K (He.ma K (He.ga K "BadText") "__init__") && (xfB K (He.ga K "BadText") && (AH.exB K (He.ga K "BadText") && (decide (PySem.W.exmOne K (.ref (He.ga K "BadText")) (.ref (He.ga K "BadText")) = some true) && (decide (PySem.W.kitOne K (.ref (He.ga K "BadText")) (.ref (He.ga K "LinksError")) = some true) && (decide (PySem.W.findIn K (.ref (He.ga K "BadText")) "line" = some none) && (decide (PySem.W.specialIn K (.builtin "object.__class__") "__get__" = some (some (.builtin "getset_descriptor.__get__"))) && (decide (PySem.W.takesIn K (.builtin "object.__class__") = some true) && (decide (PySem.W.kitOne K (.ref (He.ga K "BadText")) (.ref (He.ga K "BadNumber")) = some false) && (AH.tabB K (He.ga K "DEEDS") [("get", ["place"]), ("put", ["place", "value"]), ("look", []), ("tour", ["value"]), ("propose", ["value"]), ("add_if", ["place", "value", "value"]), ("move", ["place"])]))))))))))
abbrev R : PySem.W.OpenRow := PySem.W.OpenLaw.row PySem.Challenge.rw_silentlinks_k34_schedule_texts
def tbs : List He.Tab := [(fun K => He.ga K "DEEDS", ["get", "put", "look", "tour", "propose", "add_if", "move"])]
abbrev hk : PySem.W.Hook := AH.hookZ fa fn tbs xt
def ob (s : PySem.W.SharedT) : (He.AlD × Bool) × AH.TabW := AH.obsZ fa fn tbs xt (HandSHeadRun.getT s)
theorem ob_eq (s : PySem.W.SharedT) : ob s = hk.obs s.abs := AH.obsZ_eq (HandSHeadRun.getT_eq s)
theorem runT (w : World) : HandSHeadRun.RunEq R (PySem.W.view R.prog [40]) hk ob 20000 names (w.withFollow "special-get-raises" true) := by
  intro os
  kernel_rfl
theorem runF (w : World) : HandSHeadRun.RunEq R (PySem.W.view R.prog [40]) hk ob 20000 names (w.withFollow "special-get-raises" false) := by
  intro os
  kernel_rfl
theorem run (w : World) : HandSHeadRun.RunEq R (PySem.W.view R.prog [40]) hk ob 20000 names w := by
  have h : ∀ b, HandSHeadRun.RunEq R (PySem.W.view R.prog [40]) hk ob 20000 names (w.withFollow "special-get-raises" b) := fun b => match b with | true => runT w | false => runF w
  have h2 := h (w.params.followText "special-get-raises")
  rwa [World.withFollow_self] at h2
end T34
namespace AL
open PySem PySem.Spec PyProof.Rows L2 Evl
/-! comprehensions by an invariant: what a turn leaves need not be a function of the turns -/
section
variable {X : Cx} {Z : Zx} {elt tg iter tg1 iter1 cnd : Expr} {scope : Scope} {own : List (Str × Nat)} {pos spos py : Pos} {ρ : En} {Φ : OO → En → Prop} {O : Outs} {sts : List Stmt} {y : Str}
theorem fc_lcR_te (own : List (Str × Nat)) (js : List Nat) (h : IC X Z tg iter ρ fun ds ρ1 => ∃ I : Nat → List D → En → Prop, I 0 [] (wipeE ρ1 (own.map (·.2))) ∧ (∀ i out ρi, i ≤ ds.length → I i out ρi → out.length ≤ 50000) ∧
      (∀ i d out ρi, ds[i]? = some d → I i out ρi → AllB X scope fun X' => GT X' tg js d ρi fun ρ3 => AllB X scope fun X' => EC X' Z0 elt ρ3 fun y ρ4 => I (i + 1) (out ++ [y]) (wipeE ρ4 (own.map (·.2)))) ∧ ∀ out ρ', I ds.length out ρ' → ∃ ρ2, BackE ρ1 ρ' ρ2 ∧ Φ (.l out) ρ2)
    (hjs : ∀ j ∈ js, j ∈ own.map (·.2)) : FT X Z (tLc (wI X tg iter) (fun v σ H Q => AllB X scope fun X' => wG X' tg v σ H Q) (tYes) (fun σ H Q => AllB X scope fun X' => wE X' elt σ H Q) (own.map (·.2))) ρ Φ := fun B G H σ o z Q q => by
  refine h B G H σ o z _ fun ds ρ1 J B1 H1 ⟨I, h0, hl, ht, hb⟩ e1 o1 wk => ?_
  intro Dl hD
  obtain ⟨of, hBn, hGn, hnn⟩ := o1.fresh (u := .lst []) hD
  have hB1 : B1 Dl = none := fresh_back o1.s.ex hD
  have ow0 := of.wipe (own.map (·.2))
  have nwipe : ∀ (vs : List Nat) (j : Nat) (q : OO), (wipeE ρ1 vs)[j]? ≠ some (some (Sl.ow Dl q)) := by
    intro vs
    induction vs with
    | nil => exact hnn
    | cons v vs ih =>
      intro j q hj
      have hj' : ((wipeE ρ1 vs).set v none)[j]? = some (some (Sl.ow Dl q)) := hj
      rw [getq_set] at hj'
      split at hj'
      · simp at hj'
      · split at hj'
        · simp at hj'
        · exact ih j q hj'
  have nwip2 : ∀ (ρ : En), (∀ (j : Nat) (q : OO), ρ[j]? ≠ some (some (Sl.ow Dl q))) → ∀ (vs : List Nat) (j : Nat) (q : OO), (wipeE ρ vs)[j]? ≠ some (some (Sl.ow Dl q)) := by
    intro ρ hnn vs
    induction vs with
    | nil => exact hnn
    | cons v vs ih =>
      intro j q hj
      have hj' : ((wipeE ρ vs).set v none)[j]? = some (some (Sl.ow Dl q)) := hj
      rw [getq_set] at hj'
      split at hj'
      · simp at hj'
      · split at hj'
        · simp at hj'
        · exact ih j q hj'
  refine ⟨fun i m H' => m = ds.length - i ∧ i ≤ ds.length ∧ ∃ B' u out ρi, Ex B1 B' ∧ Ok X.K B' G H' (L2.wipe σ (own.map (·.2))) ρi ∧ B' Dl = none ∧ H' Dl = some (.lst u) ∧ Reps X.K B' u out ∧ I i out ρi ∧ ∀ (j : Nat) (q : OO), ρi[j]? ≠ some (some (Sl.ow Dl q)), ⟨_, rfl, Nat.zero_le _, B1, [], [], _, Ex.refl _, ow0, hB1, upd_same, .nil, h0, nwipe _⟩, ?_⟩
  rintro i m H' ⟨rfl, hi, B', u, out, ρi, e', o', hb', hu', r', w', n'⟩
  have oh := o'.hold hb' hu' n'
  by_cases hlt : i < ds.length
  · have hget : ds[i]? = some ds[i] := by simp [hlt]
    obtain ⟨g1, g2⟩ := (wk i B' _ H' _ ρi e' oh).1 _ hget
    refine .inr ⟨g1, fun H' => ∃ B' u out ρi, Ex B1 B' ∧ Ok X.K B' G H' (L2.wipe σ (own.map (·.2))) ρi ∧ B' Dl = none ∧ H' Dl = some (.lst u) ∧ Reps X.K B' u out ∧ I (i + 1) out ρi ∧ ∀ (j : Nat) (q : OO), ρi[j]? ≠ some (some (Sl.ow Dl q)), fun H' x => ⟨ds.length - (i + 1), by omega, rfl, hlt, x⟩, fun x H2 y => ?_⟩
    obtain ⟨B3, e3, o3, r3⟩ := g2 x H2 y
    intro s H0 C cl fp
    refine ht i _ out ρi hget w' s H0 C cl fp B3 _ H2 _ x o3 r3 _ fun ρ3 σ3 B4 H4 h4 ag e4 o4 => ?_
    have hw : L2.wipe σ3 (own.map (·.2)) = L2.wipe (L2.wipe σ (own.map (·.2))) (own.map (·.2)) := Agree.wipe ⟨ag.1, fun k hk => ag.2 k fun z => hk (hjs k z)⟩
    rw [wipe_wipe] at hw
    refine ⟨hw, ?_⟩
    show (AllB X scope fun X' => wE X' elt σ3 H4 _)
    intro s5 H5 C5 cl5 fp5
    refine h4 s5 H5 C5 cl5 fp5 B4 _ H4 σ3 o4 RC.none _ fun y ρ4 v B5 H5 hy e5 o5 r5 => ?_
    obtain ⟨l1, l2, l3, l4⟩ := o5.letGo (fresh_back o1.s.eg hD)
    have hl5 := hl i out ρi hi w'
    have e35 : Ex B' B5 := (e3.trans e4).trans e5
    refine ⟨u, l2, sz_lt (by rw [r'.length]; omega), B5, u ++ [v], _, _, e'.trans e35, ?_, l1, upd_same, (r'.up e35).app (.cons r5 .nil), hy, fun j w hj => nwip2 ρ4 l3 _ j w hj⟩
    have z5 := (l4 (.lst (u ++ [v])) rfl).wipe (own.map (·.2))
    rw [hw] at z5
    exact z5
  · have hii : i = ds.length := by omega
    subst hii
    obtain ⟨ρ2, hb, hk⟩ := hb out ρi w'
    exact .inl ⟨(wk _ B' G H' _ _ e' o').2 (Nat.le_refl _), q _ ρ2 Dl _ B' H' hk (e1.trans e') (o1.back e' o' hb) hb' (fresh_back o1.s.eg hD) hu' (fun j w hj => n' j w (hb.2.2 j Dl w hj).1) r'⟩
theorem fc_lcR (own : List (Str × Nat)) (js : List Nat) (h : IC X Z tg iter ρ fun ds ρ1 => ∃ I : Nat → List D → En → Prop, I 0 [] (wipeE ρ1 (own.map (·.2))) ∧ (∀ i out ρi, i ≤ ds.length → I i out ρi → out.length ≤ 50000) ∧
      (∀ i d out ρi, ds[i]? = some d → I i out ρi → AllB X scope fun X' => GT X' tg js d ρi fun ρ3 => AllB X scope fun X' => EC X' Z0 elt ρ3 fun y ρ4 => I (i + 1) (out ++ [y]) (wipeE ρ4 (own.map (·.2)))) ∧ ∀ out ρ', I ds.length out ρ' → ∃ ρ2, BackE ρ1 ρ' ρ2 ∧ Φ (.l out) ρ2)
    (nd : X.N.Nodup) (hjs : ∀ j ∈ js, j ∈ own.map (·.2)) (ok : BlkOk X.N X.env.scope scope own := by exact blkOk_by (by first | decide +kernel | kernel_rfl)) (hc : X.calm = true := by rfl) (hs : ∀ x, foldedSetIterable iter X.env x = pure x := by intro _; rfl) :
    FC X Z (.ListComp elt [⟨tg, iter, [], 0⟩] scope pos) ρ Φ := fun B G H σ o z Q q => (pe_lc (g := fun v σ H Q => AllB X scope fun X' => wG X' tg v σ H Q) (tt := tYes) (te := fun σ H Q => AllB X scope fun X' => wE X' elt σ H Q) hc nd p_wI ok (fun s H C cl fp => ⟨fun pins s2 σ2 H2 v u Q2 I r h => h s H C cl fp pins s2 u I r⟩) (fun _ _ _ _ _ => pts_nil)
    (fun s H C cl fp => ⟨fun pins s2 σ2 H2 Q2 I h => h s H C cl fp pins s2 I⟩) hs).w (fc_lcR_te own js h hjs B G H σ o z Q q)
theorem sc_lcR (i : Nat) (own : List (Str × Nat)) (js : List Nat) (h : IC X Z tg iter ρ fun ds ρ1 => ∃ I : Nat → List D → En → Prop, I 0 [] (wipeE ρ1 (own.map (·.2))) ∧ (∀ i out ρi, i ≤ ds.length → I i out ρi → out.length ≤ 50000) ∧
      (∀ i d out ρi, ds[i]? = some d → I i out ρi → AllB X scope fun X' => GT X' tg js d ρi fun ρ3 => AllB X scope fun X' => EC X' Z0 elt ρ3 fun y ρ4 => I (i + 1) (out ++ [y]) (wipeE ρ4 (own.map (·.2)))) ∧ ∀ out ρ', I ds.length out ρ' → ∃ ρ2, BackE ρ1 ρ' ρ2 ∧ ∀ p, SC X Z sts (ρ2.set i (some (.ow p (.l out)))) O)
    (nd : X.N.Nodup) (hjs : ∀ j ∈ js, j ∈ own.map (·.2)) (ok : BlkOk X.N X.env.scope scope own := by exact blkOk_by (by first | decide +kernel | kernel_rfl)) (hc : X.calm = true := by rfl) (hs : ∀ x, foldedSetIterable iter X.env x = pure x := by intro _; rfl)
    (hy : X.N[i]? = some y := by rfl) (hyl : X.env.scope.names.lookup y = some .local := by rfl) (hsw : swapsWith (.ListComp elt [⟨tg, iter, [], 0⟩] scope pos) (some (.Name y py)) spos.line X.env = pure true := by rfl) :
    SC X Z (.Assign [.Name y py] (.ListComp elt [⟨tg, iter, [], 0⟩] scope pos) spos :: sts) ρ O :=
  sc_of (ps_setLc (g := fun v σ H Q => AllB X scope fun X' => wG X' tg v σ H Q) (tt := tYes) (te := fun σ H Q => AllB X scope fun X' => wE X' elt σ H Q) hc nd hy hyl hsw p_wI ok (fun s H C cl fp => ⟨fun pins s2 σ2 H2 v u Q2 I r h => h s H C cl fp pins s2 u I r⟩) (fun _ _ _ _ _ => pts_nil)
    (fun s H C cl fp => ⟨fun pins s2 σ2 H2 Q2 I h => h s H C cl fp pins s2 I⟩) hs) fun B G H σ Dd o z sv => fc_lcR_te (Φ := fun oo ρ2 => ∀ p, SC X Z sts (ρ2.set i (some (.ow p oo))) O) own js h hjs B G H σ o z _ fun oo ρ1 p u B1 H1 h1 e1 o1 hb hg hu hn r1 => (h1 p).go (o1.set_ow hb hg hu r1 fun j q hj => absurd hj (hn j q)) z sv e1

theorem fc_lcRIf_te (own : List (Str × Nat)) (js : List Nat) (h : IC X Z tg iter ρ fun ds ρ1 => ∃ I : Nat → List D → En → Prop, I 0 [] (wipeE ρ1 (own.map (·.2))) ∧ (∀ i out ρi, i ≤ ds.length → I i out ρi → out.length ≤ 50000) ∧
      (∀ i d out ρi, ds[i]? = some d → I i out ρi → AllB X scope fun X' => GT X' tg js d ρi fun ρ3 => AllB X scope fun X' => TC X' Z0 cnd ρ3 fun k ρ5 => (k = true → AllB X scope fun X' => EC X' Z0 elt ρ5 fun y ρ4 => I (i + 1) (out ++ [y]) (wipeE ρ4 (own.map (·.2)))) ∧ (k = false → I (i + 1) out (wipeE ρ5 (own.map (·.2))))) ∧ ∀ out ρ', I ds.length out ρ' → ∃ ρ2, BackE ρ1 ρ' ρ2 ∧ Φ (.l out) ρ2)
    (hjs : ∀ j ∈ js, j ∈ own.map (·.2)) : FT X Z (tLc (wI X tg iter) (fun v σ H Q => AllB X scope fun X' => wG X' tg v σ H Q) (fun σ H Q => AllB X scope fun X' => wT X' cnd σ H Q) (fun σ H Q => AllB X scope fun X' => wE X' elt σ H Q) (own.map (·.2))) ρ Φ := fun B G H σ o z Q q => by
  refine h B G H σ o z _ fun ds ρ1 J B1 H1 ⟨I, h0, hl, ht, hb⟩ e1 o1 wk => ?_
  intro Dl hD
  obtain ⟨of, hBn, hGn, hnn⟩ := o1.fresh (u := .lst []) hD
  have hB1 : B1 Dl = none := fresh_back o1.s.ex hD
  have ow0 := of.wipe (own.map (·.2))
  have nwipe : ∀ (vs : List Nat) (j : Nat) (q : OO), (wipeE ρ1 vs)[j]? ≠ some (some (Sl.ow Dl q)) := by
    intro vs
    induction vs with
    | nil => exact hnn
    | cons v vs ih =>
      intro j q hj
      have hj' : ((wipeE ρ1 vs).set v none)[j]? = some (some (Sl.ow Dl q)) := hj
      rw [getq_set] at hj'
      split at hj'
      · simp at hj'
      · split at hj'
        · simp at hj'
        · exact ih j q hj'
  have nwip2 : ∀ (ρ : En), (∀ (j : Nat) (q : OO), ρ[j]? ≠ some (some (Sl.ow Dl q))) → ∀ (vs : List Nat) (j : Nat) (q : OO), (wipeE ρ vs)[j]? ≠ some (some (Sl.ow Dl q)) := by
    intro ρ hnn vs
    induction vs with
    | nil => exact hnn
    | cons v vs ih =>
      intro j q hj
      have hj' : ((wipeE ρ vs).set v none)[j]? = some (some (Sl.ow Dl q)) := hj
      rw [getq_set] at hj'
      split at hj'
      · simp at hj'
      · split at hj'
        · simp at hj'
        · exact ih j q hj'
  refine ⟨fun i m H' => m = ds.length - i ∧ i ≤ ds.length ∧ ∃ B' u out ρi, Ex B1 B' ∧ Ok X.K B' G H' (L2.wipe σ (own.map (·.2))) ρi ∧ B' Dl = none ∧ H' Dl = some (.lst u) ∧ Reps X.K B' u out ∧ I i out ρi ∧ ∀ (j : Nat) (q : OO), ρi[j]? ≠ some (some (Sl.ow Dl q)), ⟨_, rfl, Nat.zero_le _, B1, [], [], _, Ex.refl _, ow0, hB1, upd_same, .nil, h0, nwipe _⟩, ?_⟩
  rintro i m H' ⟨rfl, hi, B', u, out, ρi, e', o', hb', hu', r', w', n'⟩
  have oh := o'.hold hb' hu' n'
  by_cases hlt : i < ds.length
  · have hget : ds[i]? = some ds[i] := by simp [hlt]
    obtain ⟨g1, g2⟩ := (wk i B' _ H' _ ρi e' oh).1 _ hget
    refine .inr ⟨g1, fun H' => ∃ B' u out ρi, Ex B1 B' ∧ Ok X.K B' G H' (L2.wipe σ (own.map (·.2))) ρi ∧ B' Dl = none ∧ H' Dl = some (.lst u) ∧ Reps X.K B' u out ∧ I (i + 1) out ρi ∧ ∀ (j : Nat) (q : OO), ρi[j]? ≠ some (some (Sl.ow Dl q)), fun H' x => ⟨ds.length - (i + 1), by omega, rfl, hlt, x⟩, fun x H2 y => ?_⟩
    obtain ⟨B3, e3, o3, r3⟩ := g2 x H2 y
    intro s H0 C cl fp
    refine ht i _ out ρi hget w' s H0 C cl fp B3 _ H2 _ x o3 r3 _ fun ρ3 σ3 B4 H4 h4 ag e4 o4 => ?_
    have hw : L2.wipe σ3 (own.map (·.2)) = L2.wipe (L2.wipe σ (own.map (·.2))) (own.map (·.2)) := Agree.wipe ⟨ag.1, fun k hk => ag.2 k fun z => hk (hjs k z)⟩
    rw [wipe_wipe] at hw
    refine ⟨hw, ?_⟩
    show (AllB X scope fun X' => wT X' cnd σ3 H4 _)
    intro s5 H5 C5 cl5 fp5
    refine h4 s5 H5 C5 cl5 fp5 B4 _ H4 σ3 o4 RC.none _ fun k ρ6 B6 H6 ⟨hk1, hk2⟩ e6 o6 => ?_
    cases k with
    | true =>
      rw [if_pos rfl]
      show (AllB X scope fun X' => wE X' elt σ3 H6 _)
      intro s5 H5 C5 cl5 fp5
      refine hk1 rfl s5 H5 C5 cl5 fp5 B6 _ H6 σ3 o6 RC.none _ fun y ρ4 v B5 H5 hy e5 o5 r5 => ?_
      obtain ⟨l1, l2, l3, l4⟩ := o5.letGo (fresh_back o1.s.eg hD)
      have hl5 := hl i out ρi hi w'
      have e35 : Ex B' B5 := ((e3.trans e4).trans e6).trans e5
      refine ⟨u, l2, sz_lt (by rw [r'.length]; omega), B5, u ++ [v], _, _, e'.trans e35, ?_, l1, upd_same, (r'.up e35).app (.cons r5 .nil), hy, fun j w hj => nwip2 ρ4 l3 _ j w hj⟩
      have z5 := (l4 (.lst (u ++ [v])) rfl).wipe (own.map (·.2))
      rw [hw] at z5
      exact z5
    | false =>
      rw [if_neg Bool.false_ne_true]
      have hy := hk2 rfl
      obtain ⟨l1, l2, l3, l4⟩ := o6.letGo (fresh_back o1.s.eg hD)
      have e36 : Ex B' B6 := (e3.trans e4).trans e6
      refine ⟨B6, u, _, _, e'.trans e36, ?_, l1, l2, r'.up e36, hy, fun j w hj => nwip2 ρ6 l3 _ j w hj⟩
      have z5 := (l4 (.lst u) rfl).wipe (own.map (·.2))
      rw [hw] at z5
      have eu : upd H6 Dl (.lst u) = H6 := by
        funext b
        by_cases hb : b = Dl
        · subst hb; rw [upd_same, l2]
        · rw [upd_ne hb]
      rw [eu] at z5
      exact z5
  · have hii : i = ds.length := by omega
    subst hii
    obtain ⟨ρ2, hb, hk⟩ := hb out ρi w'
    exact .inl ⟨(wk _ B' G H' _ _ e' o').2 (Nat.le_refl _), q _ ρ2 Dl _ B' H' hk (e1.trans e') (o1.back e' o' hb) hb' (fresh_back o1.s.eg hD) hu' (fun j w hj => n' j w (hb.2.2 j Dl w hj).1) r'⟩
theorem fc_lcRIf (own : List (Str × Nat)) (js : List Nat) (h : IC X Z tg iter ρ fun ds ρ1 => ∃ I : Nat → List D → En → Prop, I 0 [] (wipeE ρ1 (own.map (·.2))) ∧ (∀ i out ρi, i ≤ ds.length → I i out ρi → out.length ≤ 50000) ∧
      (∀ i d out ρi, ds[i]? = some d → I i out ρi → AllB X scope fun X' => GT X' tg js d ρi fun ρ3 => AllB X scope fun X' => TC X' Z0 cnd ρ3 fun k ρ5 => (k = true → AllB X scope fun X' => EC X' Z0 elt ρ5 fun y ρ4 => I (i + 1) (out ++ [y]) (wipeE ρ4 (own.map (·.2)))) ∧ (k = false → I (i + 1) out (wipeE ρ5 (own.map (·.2))))) ∧ ∀ out ρ', I ds.length out ρ' → ∃ ρ2, BackE ρ1 ρ' ρ2 ∧ Φ (.l out) ρ2)
    (nd : X.N.Nodup) (hjs : ∀ j ∈ js, j ∈ own.map (·.2)) (ok : BlkOk X.N X.env.scope scope own := by exact blkOk_by (by first | decide +kernel | kernel_rfl)) (hc : X.calm = true := by rfl) (hs : ∀ x, foldedSetIterable iter X.env x = pure x := by intro _; rfl) :
    FC X Z (.ListComp elt [⟨tg, iter, [cnd], 0⟩] scope pos) ρ Φ := fun B G H σ o z Q q => (pe_lc (g := fun v σ H Q => AllB X scope fun X' => wG X' tg v σ H Q) (tt := fun σ H Q => AllB X scope fun X' => wT X' cnd σ H Q) (te := fun σ H Q => AllB X scope fun X' => wE X' elt σ H Q) hc nd p_wI ok (fun s H C cl fp => ⟨fun pins s2 σ2 H2 v u Q2 I r h => h s H C cl fp pins s2 u I r⟩) (fun s H C cl fp => pts_one ⟨fun pins s2 σ2 H2 Q2 I h => h s H C cl fp pins s2 I⟩)
    (fun s H C cl fp => ⟨fun pins s2 σ2 H2 Q2 I h => h s H C cl fp pins s2 I⟩) hs).w (fc_lcRIf_te own js h hjs B G H σ o z Q q)
theorem sc_lcRIf (i : Nat) (own : List (Str × Nat)) (js : List Nat) (h : IC X Z tg iter ρ fun ds ρ1 => ∃ I : Nat → List D → En → Prop, I 0 [] (wipeE ρ1 (own.map (·.2))) ∧ (∀ i out ρi, i ≤ ds.length → I i out ρi → out.length ≤ 50000) ∧
      (∀ i d out ρi, ds[i]? = some d → I i out ρi → AllB X scope fun X' => GT X' tg js d ρi fun ρ3 => AllB X scope fun X' => TC X' Z0 cnd ρ3 fun k ρ5 => (k = true → AllB X scope fun X' => EC X' Z0 elt ρ5 fun y ρ4 => I (i + 1) (out ++ [y]) (wipeE ρ4 (own.map (·.2)))) ∧ (k = false → I (i + 1) out (wipeE ρ5 (own.map (·.2))))) ∧ ∀ out ρ', I ds.length out ρ' → ∃ ρ2, BackE ρ1 ρ' ρ2 ∧ ∀ p, SC X Z sts (ρ2.set i (some (.ow p (.l out)))) O)
    (nd : X.N.Nodup) (hjs : ∀ j ∈ js, j ∈ own.map (·.2)) (ok : BlkOk X.N X.env.scope scope own := by exact blkOk_by (by first | decide +kernel | kernel_rfl)) (hc : X.calm = true := by rfl) (hs : ∀ x, foldedSetIterable iter X.env x = pure x := by intro _; rfl)
    (hy : X.N[i]? = some y := by rfl) (hyl : X.env.scope.names.lookup y = some .local := by rfl) (hsw : swapsWith (.ListComp elt [⟨tg, iter, [cnd], 0⟩] scope pos) (some (.Name y py)) spos.line X.env = pure true := by rfl) :
    SC X Z (.Assign [.Name y py] (.ListComp elt [⟨tg, iter, [cnd], 0⟩] scope pos) spos :: sts) ρ O :=
  sc_of (ps_setLc (g := fun v σ H Q => AllB X scope fun X' => wG X' tg v σ H Q) (tt := fun σ H Q => AllB X scope fun X' => wT X' cnd σ H Q) (te := fun σ H Q => AllB X scope fun X' => wE X' elt σ H Q) hc nd hy hyl hsw p_wI ok (fun s H C cl fp => ⟨fun pins s2 σ2 H2 v u Q2 I r h => h s H C cl fp pins s2 u I r⟩) (fun s H C cl fp => pts_one ⟨fun pins s2 σ2 H2 Q2 I h => h s H C cl fp pins s2 I⟩)
    (fun s H C cl fp => ⟨fun pins s2 σ2 H2 Q2 I h => h s H C cl fp pins s2 I⟩) hs) fun B G H σ Dd o z sv => fc_lcRIf_te (Φ := fun oo ρ2 => ∀ p, SC X Z sts (ρ2.set i (some (.ow p oo))) O) own js h hjs B G H σ o z _ fun oo ρ1 p u B1 H1 h1 e1 o1 hb hg hu hn r1 => (h1 p).go (o1.set_ow hb hg hu r1 fun j q hj => absurd hj (hn j q)) z sv e1

end
end AL
namespace AL
open PySem PySem.Spec PyProof.Rows L2 Evl
/-! ### math.isqrt of a number below 2 ^ 64 -/
section
variable {X : Cx} {Z : Zx} {e : Expr} {es : List Expr} {ρ : En} {Φ : D → En → Prop} {p pos : Pos} {x : Str}
def rIsq : List V → Hp → VK → Prop := fun vs H Q => ∃ a : Int, vs = [.int a] ∧ 0 ≤ a ∧ a < 2 ^ 64 ∧ Q (.int ((Float64.isqrt a.toNat : Nat) : Int)) H
theorem cr_isq : CallR X (.builtin "math.isqrt") rIsq := by
  intro pins s σ H vs us Q I r h
  obtain ⟨a, rfl, h0, h1, q⟩ := h
  obtain ⟨u, rfl, ru⟩ := vals1 r
  obtain ⟨t, rfl⟩ := ru
  refine PySem.W.mg_isqrt h0 h1 ?_
  exact ⟨.int _, H, I.tok _, ⟨_, rfl⟩, q⟩
/-- a built-in under a name of the program: from .. import .. -/
theorem ec_gcb {id : String} {r : List V → Hp → VK → Prop} (hc : CallR X (.builtin id) r) (hm : X.mg x = some (.builtin id)) (h : AC X Z (e :: es) ρ fun ds ρ1 => ∃ Post, GivesB X.K r ds Post ∧ ∀ d, Post d → Φ d ρ1) (hg : Gl X x := by rfl) (hdb : (x == ("__debug__" : Str)) = false := by decide)
    (he : starEach (e :: es) X.env = (false, eval e X.env) :: starEach es X.env := by rfl) (hpl : (backTo pos (starEach es X.env)).any (·.1) = false := by rfl) : EC X Z (.Call (.Name x p) (e :: es) [] pos) ρ Φ := fun B G H σ o z Q q =>
  (StS.pe_callG hc hg hm p_wA hdb (he := he) (hpl := hpl)).w (h B G H σ o z _ fun ds ρ1 vs B1 H1 ⟨Post, g, hk⟩ e1 o1 r1 => gb_end o1 e1 r1 g hk q)
theorem gb_isq {K : PySem.W.Frag} {a : Int} (h0 : 0 ≤ a) (h1 : a < 2 ^ 64) : GivesB K rIsq [.int a] (· = .int ((Float64.isqrt a.toNat : Nat) : Int)) := fun B G H vs s r Q q1 q2 => by
  have := reps_int (ns := [a]) r
  subst this
  exact ⟨a, rfl, h0, h1, q1 _ _ rfl (.int _)⟩
theorem ec_isq (hm : X.mg x = some (.builtin "math.isqrt")) (h : EC X Z e ρ fun d ρ1 => ∃ a : Int, d = .int a ∧ 0 ≤ a ∧ a < 2 ^ 64 ∧ Φ (.int ((Float64.isqrt a.toNat : Nat) : Int)) ρ1) (hg : Gl X x := by rfl) (hdb : (x == ("__debug__" : Str)) = false := by decide)
    (he : starEach [e] X.env = (false, eval e X.env) :: starEach [] X.env := by rfl) (hpl : (backTo pos (starEach [] X.env)).any (·.1) = false := by rfl) : EC X Z (.Call (.Name x p) [e] [] pos) ρ Φ :=
  ec_gcb cr_isq hm (ac_cons (h.mono fun d ρ1 ⟨a, e1, h0, h1, k⟩ => by subst e1; exact ac_nil ⟨_, gb_isq h0 h1, fun d' hd => by subst hd; exact k⟩) (hs := he)) hg hdb he hpl
end
end AL
namespace AL
open PySem PySem.Spec PyProof.Rows L2 Evl
/-! ### a table of numbers: a list of lists that is written into -/
abbrev Mx := List (List Int)
def iD (r : List Int) : D := .lst (r.map D.int)
def mD (M : Mx) : D := .lst (M.map iD)
def rowAt : List Addr → Mx → Addr → Option (List Int)
  | b :: rs, r :: M, a => if a = b then some r else rowAt rs M a
  | _, _, _ => none
/-- the objects of a table over a heap -/
def ov (B : Hp) (t : Addr) (rs : List Addr) (M : Mx) : Hp := fun a => if a = t then some (.lst (rs.map V.ref)) else match rowAt rs M a with
  | some r => some (.lst (r.map V.int))
  | none => B a
def cut (B : Hp) (t : Addr) (rs : List Addr) : Hp := fun a => if a = t ∨ a ∈ rs then none else B a
def noOw (ρ : En) : Bool := ρ.all fun s => match s with
  | some (.ow _ _) => false
  | _ => true
theorem noOw_get {ρ : En} (h : noOw ρ = true) {i : Nat} {a : Addr} {o : OO} (e : ρ[i]? = some (some (.ow a o))) : False := by
  have hm : some (Sl.ow a o) ∈ ρ := List.mem_of_getElem? e
  have := List.all_eq_true.mp h _ hm
  simp at this
theorem rowAt_out {a : Addr} : ∀ {rs : List Addr} {M : Mx}, a ∉ rs → rowAt rs M a = none
  | [], _, _ => by cases ‹Mx› <;> rfl
  | b :: rs, [], _ => rfl
  | b :: rs, r :: M, h => by
    show (if a = b then some r else rowAt rs M a) = none
    have hb : a ≠ b := by
      intro z; subst z; exact h List.mem_cons_self
    rw [if_neg hb]
    exact rowAt_out fun z => h (List.mem_cons_of_mem _ z)
theorem rowAt_in {a : Addr} {r : List Int} : ∀ {rs : List Addr} {M : Mx} {i : Nat}, rs.Nodup → rs[i]? = some a → M[i]? = some r → rowAt rs M a = some r
  | [], _, i, _, h, _ => by simp at h
  | b :: rs, [], i, _, _, h => by simp at h
  | b :: rs, q :: M, 0, _, h1, h2 => by
    simp at h1 h2; subst h1; subst h2
    show (if b = b then some q else _) = _
    rw [if_pos rfl]
  | b :: rs, q :: M, i + 1, nd, h1, h2 => by
    have h1' : rs[i]? = some a := by simpa using h1
    have hb : a ≠ b := by
      intro z; subst z; exact (List.nodup_cons.mp nd).1 (List.mem_of_getElem? h1')
    show (if a = b then some q else rowAt rs M a) = _
    rw [if_neg hb]
    exact rowAt_in (List.nodup_cons.mp nd).2 h1' (by simpa using h2)
theorem rowAt_some {a : Addr} {r : List Int} : ∀ {rs : List Addr} {M : Mx}, rowAt rs M a = some r → a ∈ rs
  | [], _, h => by cases ‹Mx› <;> cases h
  | b :: rs, [], h => by cases h
  | b :: rs, q :: M, h => by
    by_cases e : a = b
    · rw [e]; exact List.mem_cons_self
    · have h' : (if a = b then some q else rowAt rs M a) = some r := h
      rw [if_neg e] at h'
      exact List.mem_cons_of_mem _ (rowAt_some h')
theorem rowAt_full {a : Addr} : ∀ {rs : List Addr} {M : Mx}, rs.length = M.length → a ∈ rs → ∃ r, rowAt rs M a = some r
  | [], _, _, h => by cases h
  | b :: rs, [], h, _ => by cases h
  | b :: rs, q :: M, hl, h => by
    show ∃ r, (if a = b then some q else rowAt rs M a) = some r
    by_cases e : a = b
    · rw [if_pos e]; exact ⟨q, rfl⟩
    · rw [if_neg e]
      exact rowAt_full (by simpa using hl) ((List.mem_cons.mp h).resolve_left e)
theorem ov_t {B : Hp} {t : Addr} {rs : List Addr} {M : Mx} : ov B t rs M t = some (.lst (rs.map V.ref)) := by unfold ov; rw [if_pos rfl]
theorem ov_row {B : Hp} {t a : Addr} {rs : List Addr} {M : Mx} {i : Nat} {r : List Int} (nd : rs.Nodup) (nt : t ∉ rs) (h1 : rs[i]? = some a) (h2 : M[i]? = some r) : ov B t rs M a = some (.lst (r.map V.int)) := by
  have hb : a ≠ t := by
    intro z; subst z; exact nt (List.mem_of_getElem? h1)
  unfold ov
  rw [if_neg hb, rowAt_in nd h1 h2]
theorem ov_out {B : Hp} {t a : Addr} {rs : List Addr} {M : Mx} (h : ¬(a = t ∨ a ∈ rs)) : ov B t rs M a = B a := by
  unfold ov
  rw [if_neg (fun z => h (.inl z)), rowAt_out (fun z => h (.inr z))]
theorem ov_in {B B' : Hp} {t a : Addr} {rs : List Addr} {M : Mx} (hl : rs.length = M.length) (h : a = t ∨ a ∈ rs) : ov B t rs M a = ov B' t rs M a ∧ ∃ xs, ov B t rs M a = some (.lst xs) := by
  unfold ov
  by_cases e : a = t
  · rw [if_pos e, if_pos e]; exact ⟨rfl, _, rfl⟩
  · rw [if_neg e, if_neg e]
    obtain ⟨r, hr⟩ := rowAt_full hl (h.resolve_left e)
    rw [hr]; exact ⟨rfl, _, rfl⟩
structure NOk (K : PySem.W.Frag) (B G H : Hp) (σ : L2.St) (ρ : En) (it : Nat) (t : Addr) (rs : List Addr) (M : Mx) : Prop where
  ok : Ok K B (ov G t rs M) H σ ρ
  sl : σ[it]? = some (some (.ref t))
  nd : rs.Nodup
  nt : t ∉ rs
  len : rs.length = M.length
  gn : ∀ a, a = t ∨ a ∈ rs → G a = none
  nw : noOw ρ = true
section
variable {K : PySem.W.Frag} {B B' G H H' : Hp} {σ : L2.St} {ρ : En} {it : Nat} {t : Addr} {rs : List Addr} {M : Mx}
theorem NOk.heap (n : NOk K B G H σ ρ it t rs M) {a : Addr} (h : a = t ∨ a ∈ rs) : H a = ov G t rs M a ∧ B a = none := by
  obtain ⟨_, xs, e⟩ := ov_in (B := G) (B' := G) n.len h
  exact ⟨by rw [e]; exact n.ok.s.eg _ _ e, n.ok.s.dj _ _ e⟩
theorem NOk.up (n : NOk K B G H σ ρ it t rs M) : Ex B (ov B t rs M) := fun a w hw => by
  by_cases h : a = t ∨ a ∈ rs
  · rw [(n.heap h).2] at hw; cases hw
  · rw [ov_out h]; exact hw
theorem NOk.rep (n : NOk K B G H σ ρ it t rs M) (B' : Hp) : Rep K (ov B' t rs M) (.ref t) (mD M) := by
  refine .lst ov_t ?_
  have : ∀ (rs' : List Addr) (M' : Mx), rs'.length = M'.length → (∀ (i : Nat) (a : Addr) (r : List Int), rs'[i]? = some a → M'[i]? = some r → ov B' t rs M a = some (.lst (r.map V.int))) → Reps K (ov B' t rs M) (rs'.map V.ref) (M'.map iD) := by
    intro rs' M'
    induction rs' generalizing M' with
    | nil => intro hl _; cases M' with
      | nil => exact .nil
      | cons _ _ => cases hl
    | cons b rs' ih => intro hl hh; cases M' with
      | nil => cases hl
      | cons r M' => exact .cons (.lst (hh 0 b r rfl rfl) (int_reps r)) (ih M' (by simpa using hl) fun i a q h1 h2 => hh (i + 1) a q (by simpa using h1) (by simpa using h2))
  exact this rs M n.len fun i a r h1 h2 => ov_row n.nd n.nt h1 h2
theorem NOk.freeze (n : NOk K B G H σ ρ it t rs M) : Ok K (ov B t rs M) G H σ (ρ.set it (some (.im (mD M)))) := by
  have o1 : Ok K (ov B t rs M) G H σ ρ := by
    refine ⟨⟨fun a w hw => ?_, fun a w hw => ?_, fun a w hw => ?_, fun a w hw hk => n.up _ _ (n.ok.s.tp a w hw hk)⟩, n.ok.len, fun i d hd => ?_, fun i a o h => (noOw_get n.nw h).elim, n.ok.ne⟩
    · by_cases h : a = t ∨ a ∈ rs
      · rw [(n.heap h).1, (ov_in (B := G) (B' := B) n.len h).1]; exact hw
      · rw [ov_out h] at hw; exact n.ok.s.ex a w hw
    · have h : ¬(a = t ∨ a ∈ rs) := fun z => by rw [n.gn a z] at hw; cases hw
      exact n.ok.s.eg a w (by rw [ov_out h]; exact hw)
    · have h : ¬(a = t ∨ a ∈ rs) := fun z => by rw [n.gn a z] at hw; cases hw
      rw [ov_out h]
      exact n.ok.s.dj a w (by rw [ov_out h]; exact hw)
    · obtain ⟨v, h1, h2⟩ := n.ok.im i d hd
      exact ⟨v, h1, h2.up n.up⟩
  have z := o1.set_im (i := it) (n.rep B)
  rwa [set_getq n.sl] at z
theorem NOk.thaw (n : NOk K B G H σ ρ it t rs M) {ρf : En} (o' : Ok K B' G H' σ ρf) (e : Ex (ov B t rs M) B') : Ex B (cut B' t rs) ∧ NOk K (cut B' t rs) G H' σ ρ it t rs M := by
  have hout : ∀ {a : Addr}, ¬(a = t ∨ a ∈ rs) → cut B' t rs a = B' a := fun h => by unfold cut; rw [if_neg h]
  have hin : ∀ {a : Addr}, (a = t ∨ a ∈ rs) → cut B' t rs a = none := fun h => by unfold cut; rw [if_pos h]
  have eb : Ex B (cut B' t rs) := fun a w hw => by
    have h : ¬(a = t ∨ a ∈ rs) := fun z => by rw [(n.heap z).2] at hw; cases hw
    rw [hout h]
    exact e a w (by rw [ov_out h]; exact hw)
  have sub : ∀ a w, cut B' t rs a = some w → B' a = some w := fun a w hw => by
    by_cases h : a = t ∨ a ∈ rs
    · rw [hin h] at hw; cases hw
    · rw [hout h] at hw; exact hw
  refine ⟨eb, ⟨⟨⟨fun a w hw => o'.s.ex a w (sub a w hw), fun a w hw => ?_, fun a w hw => ?_, fun a w hw hk => ?_⟩, n.ok.len, fun i d hd => ?_, fun i a o h => (noOw_get n.nw h).elim, n.ok.ne⟩, n.sl, n.nd, n.nt, n.len, n.gn, n.nw⟩⟩
  · by_cases h : a = t ∨ a ∈ rs
    · exact o'.s.ex a w (e a w (by rw [(ov_in (B := B) (B' := G) n.len h).1]; exact hw))
    · rw [ov_out h] at hw; exact o'.s.eg a w hw
  · by_cases h : a = t ∨ a ∈ rs
    · exact hin h
    · rw [hout h]; rw [ov_out h] at hw; exact o'.s.dj a w hw
  · have hb := o'.s.tp a w hw hk
    by_cases h : a = t ∨ a ∈ rs
    · obtain ⟨_, xs, ex⟩ := ov_in (B := B) (B' := B) n.len h
      rw [e _ _ ex] at hb; cases hb; cases hk
    · rw [hout h]; exact hb
  · obtain ⟨v, h1, h2⟩ := n.ok.im i d hd
    exact ⟨v, h1, h2.up eb⟩
/-- a later heap and environment, the table as it was -/
theorem NOk.next (n : NOk K B G H σ ρ it t rs M) {σ' : L2.St} {ρ' : En} (o' : Ok K B' (ov G t rs M) H' σ' ρ') (hs : σ'[it]? = σ[it]?) (nw : noOw ρ' = true) : NOk K B' G H' σ' ρ' it t rs M :=
  ⟨o', hs.trans n.sl, n.nd, n.nt, n.len, n.gn, nw⟩
/-- a new row -/
theorem NOk.push (n : NOk K B G H σ ρ it t rs M) {a : Addr} {row : List Int} (hb : B a = none) (hg : ov G t rs M a = none) (hu : H a = some (.lst (row.map V.int))) : NOk K B G (upd H t (.lst (rs.map V.ref ++ [.ref a]))) σ ρ it t (rs ++ [a]) (M ++ [row]) := by
  have hna : ¬(a = t ∨ a ∈ rs) := fun z => by
    obtain ⟨_, xs, ex⟩ := ov_in (B := G) (B' := G) n.len z
    rw [ex] at hg; cases hg
  have hga : G a = none := by rw [ov_out hna] at hg; exact hg
  have nd : (rs ++ [a]).Nodup := by
    rw [List.nodup_append]
    refine ⟨n.nd, by simp, fun x hx y hy z => ?_⟩
    simp at hy; subst hy; subst z; exact hna (.inr hx)
  have nt : t ∉ rs ++ [a] := fun z => by
    rcases List.mem_append.mp z with z | z
    · exact n.nt z
    · simp at z; exact hna (.inl z.symm)
  have hl : (rs ++ [a]).length = (M ++ [row]).length := by simp [n.len]
  have key : ∀ b w, ov G t (rs ++ [a]) (M ++ [row]) b = some w → (b = t ∧ w = .lst ((rs ++ [a]).map V.ref)) ∨ (b ≠ t ∧ b = a ∧ w = .lst (row.map V.int)) ∨ (b ≠ t ∧ b ≠ a ∧ ov G t rs M b = some w) := by
    intro b w hw
    by_cases h1 : b = t
    · subst h1; rw [ov_t] at hw; exact .inl ⟨rfl, (Option.some.inj hw).symm⟩
    · by_cases h2 : b = a
      · subst h2
        rw [ov_row (i := rs.length) (r := row) nd nt (by simp) (by rw [n.len]; simp)] at hw
        exact .inr (.inl ⟨h1, rfl, (Option.some.inj hw).symm⟩)
      · refine .inr (.inr ⟨h1, h2, ?_⟩)
        by_cases h3 : b ∈ rs
        · obtain ⟨i, hi, rfl⟩ := List.getElem_of_mem h3
          have g1 : rs[i]? = some rs[i] := List.getElem?_eq_getElem hi
          have him : i < M.length := by rw [← n.len]; exact hi
          have g2 : M[i]? = some M[i] := List.getElem?_eq_getElem him
          rw [ov_row n.nd n.nt g1 g2]
          rw [ov_row nd nt (by rw [List.getElem?_append_left hi]; exact g1) (by rw [List.getElem?_append_left him]; exact g2)] at hw
          exact hw
        · rw [ov_out (fun z => by rcases z with z | z; exact h1 z; rcases List.mem_append.mp z with z | z; exact h3 z; simp at z; exact h2 z)] at hw
          rw [ov_out (fun z => by rcases z with z | z; exact h1 z; exact h3 z)]; exact hw
  have hbt := (n.heap (.inl rfl)).2
  refine ⟨⟨⟨Ex.mut n.ok.s.ex hbt, fun b w hw => ?_, fun b w hw => ?_, fun b w hw hk => ?_⟩, n.ok.len, n.ok.im, fun i b o h => (noOw_get n.nw h).elim, n.ok.ne⟩, n.sl, nd, nt, hl, fun b hb' => ?_, n.nw⟩
  · rcases key b w hw with ⟨rfl, rfl⟩ | ⟨h1, rfl, rfl⟩ | ⟨h1, h2, h3⟩
    · rw [upd_same]; simp
    · rw [upd_ne h1]; exact hu
    · rw [upd_ne h1]; exact n.ok.s.eg b w h3
  · rcases key b w hw with ⟨rfl, rfl⟩ | ⟨h1, rfl, rfl⟩ | ⟨h1, h2, h3⟩
    · exact hbt
    · exact hb
    · exact n.ok.s.dj b w h3
  · by_cases h1 : b = t
    · subst h1; rw [upd_same] at hw; cases hw; cases hk
    · rw [upd_ne h1] at hw; exact n.ok.s.tp b w hw hk
  · rcases hb' with h | h
    · exact n.gn b (.inl h)
    · rcases List.mem_append.mp h with h | h
      · exact n.gn b (.inr h)
      · simp at h; subst h; exact hga
/-- a cell is written -/
theorem NOk.put (n : NOk K B G H σ ρ it t rs M) {a : Addr} {i j : Nat} {row : List Int} {k : Int} (ha : rs[i]? = some a) (hr : M[i]? = some row) : H a = some (.lst (row.map V.int)) ∧ NOk K B G (upd H a (.lst ((row.map V.int).set j (.int k)))) σ ρ it t rs (M.set i (row.set j k)) := by
  have hin : a ∈ rs := List.mem_of_getElem? ha
  have hat : a ≠ t := by
    intro z; subst z; exact n.nt hin
  have hi : i < rs.length := (List.getElem?_eq_some_iff.mp ha).1
  have hba := (n.heap (.inr hin)).2
  have hl : rs.length = (M.set i (row.set j k)).length := by simp [n.len]
  refine ⟨by rw [(n.heap (.inr hin)).1]; exact ov_row n.nd n.nt ha hr, ⟨⟨⟨Ex.mut n.ok.s.ex hba, fun b w hw => ?_, fun b w hw => ?_, fun b w hw hk => ?_⟩, n.ok.len, n.ok.im, fun i b o h => (noOw_get n.nw h).elim, n.ok.ne⟩, n.sl, n.nd, n.nt, hl, n.gn, n.nw⟩⟩
  · by_cases h1 : b = a
    · subst h1
      rw [ov_row n.nd n.nt ha (r := row.set j k) (by rw [List.getElem?_set_self (by rw [← n.len]; exact hi)])] at hw
      rw [upd_same, ← hw, List.map_set]
    · rw [upd_ne h1]
      refine n.ok.s.eg b w ?_
      by_cases h2 : b = t
      · subst h2; rw [ov_t] at hw ⊢; exact hw
      · by_cases h3 : b ∈ rs
        · obtain ⟨c, hc, rfl⟩ := List.getElem_of_mem h3
          have g1 : rs[c]? = some rs[c] := List.getElem?_eq_getElem hc
          have him : c < M.length := by rw [← n.len]; exact hc
          have g2 : M[c]? = some M[c] := List.getElem?_eq_getElem him
          have hci : i ≠ c := fun z => by subst z; rw [ha] at g1; exact h1 (Option.some.inj g1).symm
          rw [ov_row n.nd n.nt g1 (r := M[c]) (by rw [List.getElem?_set_ne hci]; exact g2)] at hw
          rw [ov_row n.nd n.nt g1 g2]; exact hw
        · rw [ov_out (fun z => z.elim h2 h3)] at hw
          rw [ov_out (fun z => z.elim h2 h3)]; exact hw
  · by_cases h : b = t ∨ b ∈ rs
    · exact (n.heap h).2
    · rw [ov_out h] at hw; exact n.ok.s.dj b w (by rw [ov_out h]; exact hw)
  · by_cases h1 : b = a
    · subst h1; rw [upd_same] at hw; cases hw; cases hk
    · rw [upd_ne h1] at hw; exact n.ok.s.tp b w hw hk
end
/-! ### statements over a table -/
structure NO where
  nx : En → Mx → Prop
  rt : Rs → En → Prop
structure NServes (K : PySem.W.Frag) (B G : Hp) (it : Nat) (O : NO) (Dd : Ends) : Prop where
  nx : ∀ ρ' M' σ' B' H' t rs, O.nx ρ' M' → Ex B B' → NOk K B' G H' σ' ρ' it t rs M' → Dd.nx σ' H'
  rt : ∀ r ρ' v σ' B' H', O.rt r ρ' → Ex B B' → Ok K B' G H' σ' ρ' → RsR K B' G H' ρ' v r → Dd.rt v H'
theorem NServes.up {K : PySem.W.Frag} {B B' G : Hp} {it : Nat} {O : NO} {Dd : Ends} (h : NServes K B G it O Dd) (e : Ex B B') : NServes K B' G it O Dd :=
  ⟨fun ρ' M' σ' B2 H2 t rs a e2 => h.nx ρ' M' σ' B2 H2 t rs a (e.trans e2), fun r ρ' v σ' B2 H2 a e2 => h.rt r ρ' v σ' B2 H2 a (e.trans e2)⟩
def SN (X : Cx) (it : Nat) (sts : List Stmt) (ρ : En) (M : Mx) (O : NO) : Prop := ∀ B G H σ Dd t rs, NOk X.K B G H σ ρ it t rs M → NServes X.K B G it O Dd → wSs X sts Dd σ H
section
variable {X : Cx} {e c tg iter : Expr} {ρ : En} {M : Mx} {O : NO} {P : Outs} {st : Stmt} {sts a b body : List Stmt} {pos : Pos} {it : Nat}
theorem SN.go {B B' G H : Hp} {σ : L2.St} {Dd : Ends} {ρ' : En} {t : Addr} {rs : List Addr} (h : SN X it sts ρ' M O) (n : NOk X.K B' G H σ ρ' it t rs M) (s : NServes X.K B G it O Dd) (e : Ex B B') : wSs X sts Dd σ H := h B' G H σ Dd t rs n (s.up e)
theorem sn_nil (h : O.nx ρ M) : SN X it [] ρ M O := fun B G H σ Dd t rs n s => pss_nil.w (s.nx ρ M σ B H t rs h (Ex.refl B) n)
theorem sn_of {t : TS} (p : PS X st t) (h : ∀ B G H σ Dd u rs, NOk X.K B G H σ ρ it u rs M → NServes X.K B G it O Dd → t { Dd with nx := wSs X sts Dd } σ H) : SN X it (st :: sts) ρ M O := fun B G H σ Dd u rs n s =>
  (pss_cons p p_wSs).w (h B G H σ Dd u rs n s)
/-- an owned empty list becomes a table -/
theorem sn_enter (it : Nat) {p : Addr} (hd : ρ[it]? = some (some (.ow p (.l [])))) (nw : noOw (ρ.set it none) = true) (h : SN X it sts (ρ.set it none) [] ⟨fun _ _ => False, P.rt⟩) : SC X Z0 sts ρ P := fun B G H σ Dd o z s => by
  obtain ⟨h1, h2, h3, u, h4, h5⟩ := o.ow it p _ hd
  cases u with
  | lst vs =>
    cases h5
    have o1 : Ok X.K B G H σ (ρ.set it none) := by
      have z1 := o.drop (i := it) (x := some (.ref p))
      rwa [set_getq h1] at z1
    have key : ∀ b w, ov G p [] [] b = some w → (b = p ∧ w = .lst []) ∨ G b = some w := fun b w hw => by
      by_cases e : b = p
      · subst e; rw [ov_t] at hw; exact .inl ⟨rfl, (Option.some.inj hw).symm⟩
      · rw [ov_out (fun z => z.elim e fun z => List.not_mem_nil z)] at hw; exact .inr hw
    have n : NOk X.K B G H σ (ρ.set it none) it p [] [] := by
      refine ⟨⟨⟨o1.s.ex, fun b w hw => ?_, fun b w hw => ?_, o1.s.tp⟩, o1.len, o1.im, fun i a o h => (noOw_get nw h).elim, o1.ne⟩, h1, .nil, (fun z => List.not_mem_nil z), rfl, fun b hb => ?_, nw⟩
      · rcases key b w hw with ⟨rfl, rfl⟩ | hw
        · exact h4
        · exact o1.s.eg b w hw
      · rcases key b w hw with ⟨rfl, rfl⟩ | hw
        · exact h2
        · exact o1.s.dj b w hw
      · rcases hb with rfl | hb
        · exact h3
        · cases hb
    exact h B G H σ Dd p [] n ⟨fun _ _ _ _ _ _ _ x => x.elim, s.rt⟩
  | _ => exact False.elim h5
/-- the table is known from now on -/
theorem sn_done (h : SC X Z0 sts (ρ.set it (some (.im (mD M)))) { nx := fun _ => False, rt := O.rt }) : SN X it sts ρ M O := fun B G H σ Dd t rs n s =>
  h _ G H σ Dd n.freeze RC.none ⟨fun _ _ _ _ x => x.elim, fun r ρ' v σ' B' H' x e => s.rt r ρ' v σ' B' H' x (n.up.trans e), fun _ _ _ _ x => x.elim, fun _ _ _ _ x => x.elim⟩
theorem sn_if (h : TC X Z0 c (ρ.set it (some (.im (mD M)))) fun k _ => (k = true → SN X it a ρ M ⟨fun ρ2 M2 => SN X it sts ρ2 M2 O, O.rt⟩) ∧ (k = false → SN X it b ρ M ⟨fun ρ2 M2 => SN X it sts ρ2 M2 O, O.rt⟩)) : SN X it (.If c a b pos :: sts) ρ M O :=
  sn_of (ps_if p_wT p_wSs p_wSs) fun B G H σ Dd t rs n s => h _ G H σ n.freeze RC.none _ fun k ρ1 B1 H1 ⟨h1, h2⟩ e1 o1 => by
    obtain ⟨eb, n1⟩ := n.thaw o1 e1
    have s' : NServes X.K (cut B1 t rs) G it ⟨fun ρ2 M2 => SN X it sts ρ2 M2 O, O.rt⟩ { Dd with nx := wSs X sts Dd } :=
      ⟨fun ρ' M' σ' B' H' t' rs' x e n' => x.go n' (s.up eb) e, (s.up eb).rt⟩
    cases k with
    | true => exact h1 rfl _ G H1 σ _ t rs n1 s'
    | false => exact h2 rfl _ G H1 σ _ t rs n1 s'
theorem sn_for {js : List Nat} (h : IC X Z0 tg iter ρ fun ds ρ1 => ρ1 = ρ ∧ it ∉ js ∧ ∃ J : Nat → En → Mx → Prop, J 0 ρ M ∧ (∀ i d ρi Mi, ds[i]? = some d → noOw ρi = true → J i ρi Mi → GT X tg js d ρi fun ρ2 => noOw ρ2 = true ∧ SN X it body ρ2 Mi ⟨J (i + 1), O.rt⟩) ∧ ∀ ρ2 M2, J ds.length ρ2 M2 → SN X it sts ρ2 M2 O)
    (hp : PassesOwn (model X.prog X.w) X.A X.env X.xe) (hc : X.calm = true := by rfl) (hs : ∀ x, foldedSetIterable iter X.env x = pure x := by intro _; rfl) : SN X it (.For tg iter body [] pos :: sts) ρ M O :=
  sn_of (ps_for hp hc p_wI p_wG p_wSs hs) fun B G H σ Dd t rs n s => h B _ H σ n.ok RC.none _ fun ds ρ1 J B1 H1 ⟨er, hj, W, h0, hs, hd⟩ e1 o1 wk => by
    subst er
    refine ⟨fun i m σ' H' => m = ds.length - i ∧ i ≤ ds.length ∧ ∃ B' ρ' t' rs' M', Ex B1 B' ∧ NOk X.K B' G H' σ' ρ' it t' rs' M' ∧ W i ρ' M', ⟨_, rfl, Nat.zero_le _, B1, ρ1, t, rs, M, Ex.refl _, n.next o1 rfl n.nw, h0⟩, ?_⟩
    rintro i m σ' H' ⟨rfl, hi, B', ρ', t', rs', M', e', n', w'⟩
    obtain ⟨go, stop⟩ := wk i B' _ H' σ' ρ' e' n'.ok
    by_cases hlt : i < ds.length
    · have hget : ds[i]? = some ds[i] := by simp [hlt]
      obtain ⟨g1, g2⟩ := go _ hget
      refine .inr ⟨g1, fun σ2 H2 => ∃ B' ρ' t' rs' M', Ex B1 B' ∧ NOk X.K B' G H2 σ2 ρ' it t' rs' M' ∧ W (i + 1) ρ' M', fun σ2 H2 q => ⟨ds.length - (i + 1), by omega, rfl, hlt, q⟩, fun x H2 y => ?_⟩
      obtain ⟨B3, e3, o3, r3⟩ := g2 x H2 y
      refine hs i _ ρ' M' hget n'.nw w' B3 _ H2 σ' x o3 r3 _ fun ρ4 σ4 B4 H4 ⟨nw4, h4⟩ ag e4 o4 => ?_
      have e04 : Ex B B4 := ((e1.trans e').trans e3).trans e4
      exact h4 B4 G H4 σ4 _ t' rs' (n'.next o4 (ag.2 it hj) nw4) ⟨fun ρ5 M5 σ5 B5 H5 t5 rs5 x e5 n5 => ⟨B5, ρ5, t5, rs5, M5, ((e'.trans e3).trans e4).trans e5, n5, x⟩, (s.up e04).rt⟩
    · exact .inl ⟨stop (by omega), (hd ρ' M' (by have : i = ds.length := by omega
                                                 rw [← this]; exact w')).go n' s (e1.trans e')⟩
variable {x y z : Str} {ps apos p p1 p2 q1 q2 q3 : Pos}
/-- table.append(a new list of numbers) -/
theorem sn_app (h : FC X Z0 e ρ fun oo ρ1 => ρ1 = ρ ∧ ∃ row : List Int, oo = .l (row.map D.int) ∧ M.length < 100000 ∧ SN X it sts ρ (M ++ [row]) O)
    (pf : ∀ te, PE X e te → PE X (.Call (.Attribute (.Name x ps) "append" apos) [e] [] p) (tBM X.K "list" rAppend (tVar it) (tCons te tNil)))
    (hs : swapsWith (.Call (.Attribute (.Name x ps) "append" apos) [e] [] p) none pos.line X.env = pure false := by rfl) : SN X it (.Expr (.Call (.Attribute (.Name x ps) "append" apos) [e] [] p) pos :: sts) ρ M O :=
  sn_of (ps_expr (pf _ p_wE) hs) fun B G H σ Dd t rs n s => by
    have ht : H t = some (.lst (rs.map V.ref)) := by rw [(n.heap (.inl rfl)).1, ov_t]
    refine ⟨_, n.sl, .inl ⟨rfl, rs.map V.ref, sq_of ht⟩, h B _ H σ n.ok RC.none _ fun oo ρ1 a u B1 H1 ⟨er, row, eo, hl, hk⟩ e1 o1 hb hg hu hn r1 => ?_⟩
    subst er; subst eo
    cases u with
    | lst vs =>
      have ev : vs = row.map V.int := reps_int r1
      subst ev
      have n1 := n.next o1 rfl n.nw
      have ht1 : H1 t = some (.lst (rs.map V.ref)) := by rw [(n1.heap (.inl rfl)).1, ov_t]
      exact ⟨t, _, _, rfl, rfl, ht1, sz_lt (by rw [List.length_map, n.len]; exact hl), hk.go (n1.push hb hg hu) s e1⟩
    | _ => exact False.elim r1
/-- table[a][b] = e, a number -/
theorem sn_put (i j : Nat) {m k : Nat} {row : List Int} (hi : ρ[i]? = some (some (.im (.int m)))) (hj : ρ[j]? = some (some (.im (.int k)))) (hm : M[m]? = some row) (hk : k < row.length)
    (h : EC X Z0 e (ρ.set it (some (.im (mD M)))) fun d _ => ∃ v, d = .int v ∧ SN X it sts ρ (M.set m (row.set k v)) O)
    (hN : X.N[it]? = some x := by rfl) (hv : Vis X.env.scope x := by first | exact Or.inl rfl | exact Or.inr (Or.inl rfl) | exact Or.inr (Or.inr rfl)) (hdb : (x == ("__debug__" : Str)) = false := by decide) (hcd : (x == ("__classdict__" : Str)) = false := by decide)
    (hN1 : X.N[i]? = some y := by rfl) (hv1 : Vis X.env.scope y := by first | exact Or.inl rfl | exact Or.inr (Or.inl rfl) | exact Or.inr (Or.inr rfl)) (hdb1 : (y == ("__debug__" : Str)) = false := by decide) (hcd1 : (y == ("__classdict__" : Str)) = false := by decide)
    (hN2 : X.N[j]? = some z := by rfl) (hv2 : Vis X.env.scope z := by first | exact Or.inl rfl | exact Or.inr (Or.inl rfl) | exact Or.inr (Or.inr rfl)) (hdb2 : (z == ("__debug__" : Str)) = false := by decide) (hcd2 : (z == ("__classdict__" : Str)) = false := by decide)
    (hpi : PlainIx (.Name y q1) := by exact fun _ _ => rfl)
    (hs : swapsWithSole [.Subscript (.Subscript (.Name x ps) (.Name y q1) q2) (.Name z q3) p1] e pos.line X.env = pure false := by rfl) (hw : swappedStores [.Subscript (.Subscript (.Name x ps) (.Name y q1) q2) (.Name z q3) p1] e X.env = pure none := by rfl)
    (h1 : (assignEach [.Subscript (.Subscript (.Name x ps) (.Name y q1) q2) (.Name z q3) p1] X.env).map (·.2) = [assign (.Subscript (.Subscript (.Name x ps) (.Name y q1) q2) (.Name z q3) p1) X.env] := by rfl)
    (ha : ∀ v, assign (.Subscript (.Subscript (.Name x ps) (.Name y q1) q2) (.Name z q3) p1) X.env v = (do
      let ov ← holding [v] (eval (.Subscript (.Name x ps) (.Name y q1) q2) X.env)
      let iv ← holding [v, ov] (eval (.Name z q3) X.env)
      standAt p1
      holding [v, ov, iv] (setItem ov iv v)
      release [v, ov, iv] []) := by intro _; rfl) : SN X it (.Assign [.Subscript (.Subscript (.Name x ps) (.Name y q1) q2) (.Name z q3) p1] e pos :: sts) ρ M O :=
  sn_of (ps_asg p_wE (pg_sub (pe_ix ix_seq (pe_var hN hv hdb hcd) (pe_var hN1 hv1 hdb1 hcd1) hpi) (pe_var hN2 hv2 hdb2 hcd2) set_list (ha := ha)) hs hw h1) fun B G H σ Dd t rs n s => h _ G H σ n.freeze RC.none _ fun d ρ1 v B1 H1 ⟨w, hd, hk2⟩ e1 o1 r1 => by
    subst hd
    cases r1
    obtain ⟨eb, n1⟩ := n.thaw o1 e1
    obtain ⟨v1, g1, r1⟩ := n1.ok.im i _ hi
    obtain ⟨v2, g2, r2⟩ := n1.ok.im j _ hj
    cases r1; cases r2
    have hm' : m < rs.length := by rw [n.len]; exact (List.getElem?_eq_some_iff.mp hm).1
    have ga : rs[m]? = some rs[m] := List.getElem?_eq_getElem hm'
    have ht1 : H1 t = some (.lst (rs.map V.ref)) := by rw [(n1.heap (.inl rfl)).1, ov_t]
    obtain ⟨p0, p2⟩ := n1.put (j := k) (k := w) ga hm
    refine ⟨_, n1.sl, _, g1, .inl ⟨t, _, m, .ref rs[m], rfl, rfl, sq_of ht1, ?_, _, g2, rs[m], _, k, k, rfl, rfl, p0, ?_, ?_⟩⟩
    · unfold atI
      rw [ixN_nat (by rw [List.length_map]; exact hm')]
      simp [ga]
    · rw [List.length_map]; exact ixN_nat hk
    · exact hk2.go p2 s eb
end
end AL
namespace AL
open PySem PySem.Spec PyProof.Rows L2 Evl
/-! ### defs with an owned object ahead that give a new object -/
def PFor (n : Nat) (S : OO → List D → (OO → OO → Prop) → Prop) : Pr := fun as Φ => ∃ a o ds, as = .ow a o :: ds.map Sl.im ∧ ds.length = n ∧ S o ds fun r o' => Φ (.ret (.fr r) (.ow a o' :: ds.map Sl.im))
def MonoOr (S : OO → List D → (OO → OO → Prop) → Prop) : Prop := ∀ o ds Φ Φ', (∀ d o', Φ d o' → Φ' d o') → S o ds Φ → S o ds Φ'
theorem PFor.len {n : Nat} {S : OO → List D → (OO → OO → Prop) → Prop} {ps : List Str} (h : ps.length = n + 1) : ∀ as Φ, PFor n S as Φ → as.length = ps.length := fun as Φ ⟨a, o, ds, h1, h2, _⟩ => by rw [h1, h, ← h2]; simp
theorem PFor.mono {n : Nat} {S : OO → List D → (OO → OO → Prop) → Prop} (m : MonoOr S) : Mono (PFor n S) := fun as Φ Φ' h ⟨a, o, ds, h1, h2, h3⟩ => ⟨a, o, ds, h1, h2, m _ _ _ _ (fun d o' x => h _ x) h3⟩
def OutOr (a : Addr) (Ψ : OO → OO → Prop) : Outs where
  nx := fun _ => False
  rt := fun r ρ' => match r with
    | .fr d => ∃ o', ρ'[0]? = some (some (.ow a o')) ∧ Ψ d o'
    | .im _ => False
def WantOr (R : Addr → List (Str × D) → Prop) (a : Addr) (ds : List D) (Φ : OO → OO → Prop) : Oc → Prop
  | .ret (.fr d) (.ow a' o' :: as') => a' = a ∧ as' = ds.map Sl.im ∧ Φ d o'
  | .ret _ _ => False
  | .raise C fs => R C fs
section
variable {P : Program} {w : World} {K : PySem.W.Frag} {mg : Str → Option Value} {base : Heap} {x qual : Str} {params : Arguments} {body : List Stmt} {scope : Scope} {f : Addr} {fd : FuncData} {N ps : List Str} {k n : Nat}
theorem cal_for {S : OO → List D → (OO → OO → Prop) → Prop} (F : FunD K x qual params body scope [] [] f fd) (hm : mg x = some (.ref f)) (Sc : FnScope N ps scope) (hn : ps.length = n + 1)
    (hb : ∀ (kV doc pm : Value) (an : Option Addr) (cdv ct : Value) (us : List Value), us.length = ps.length → bindArgs (PySem.W.fnOf x qual params body scope .none kV doc pm an cdv ct) ⟨us, []⟩ = pure (ps.zip us))
    (h : ∀ cdv A outer s H E, Room k (bodyX P w K mg base N qual scope f cdv A outer s H E).A → ∀ a o ds Ψ, ds.length = n → S o ds Ψ → SC (bodyX P w K mg base N qual scope f cdv A outer s H E) Z0 body (envO N.length a o ds) (OutOr a Ψ)) :
    Cal P w K mg base x (k + 1) (PFor n S) :=
  ⟨f, fd, ps, def_ok F Sc (PFor.len hn) (fun cdv A outer s H E hr tk as Φ ⟨a, oo, ds, h1, h2, h3⟩ => by
    subst h1
    have es : startE N.length (Sl.ow a oo :: ds.map Sl.im) = envO N.length a oo ds := by
      unfold startE envO envD
      rw [List.map_cons, List.cons_append, List.map_map, List.length_cons, List.length_map]
      have e : N.length - (ds.length + 1) = N.length - 1 - ds.length := by omega
      rw [e]; rfl
    rw [es]
    intro B G H σ Dd o z sv
    have same : ∀ o', SameSl (Sl.ow a oo :: ds.map Sl.im) (Sl.ow a o' :: ds.map Sl.im) := fun o' => .ow (.refl _)
    have rows : ∀ {ρ' : En} {o' : OO}, ρ'[0]? = some (some (Sl.ow a o')) → ∀ (i : Nat) (b : Addr) (q : OO), (Sl.ow a o' :: ds.map Sl.im)[i]? = some (Sl.ow b q) → ρ'[i]? = some (some (Sl.ow b q)) := fun h0 i b q e => by
      cases i with
      | zero => simp at e; obtain ⟨rfl, rfl⟩ := e; exact h0
      | succ i =>
        have e' : (ds.map Sl.im)[i]? = some (Sl.ow b q) := by simpa using e
        rw [List.getElem?_map] at e'
        cases e2 : ds[i]? <;> rw [e2] at e' <;> simp at e'
    refine (h cdv A outer s _ E hr a oo ds _ h2 h3) B G _ σ Dd o RC.none ⟨fun ρ' σ' B' H' a => a.elim, fun r ρ' v σ' B' H' hr => ?_, fun ρ' σ' B' H' a => a.elim, fun ρ' σ' B' H' a => a.elim⟩
    cases r with
    | fr d => obtain ⟨o', h0, hp⟩ := hr; exact sv.rt _ ρ' v σ' B' H' ⟨_, same o', hp, rows h0⟩
    | im d => exact False.elim hr), hm, F.kp, F.bindsN hb⟩
end
section
variable {X : Cx} {Z : Zx} {e : Expr} {es : List Expr} {ρ : En} {Φ : OO → En → Prop} {p pos ps : Pos} {x f : Str} {k n : Nat}
/-- f(x, ..), x an object of one's own: a new object -/
theorem fc_cor {S : OO → List D → (OO → OO → Prop) → Prop} (i : Nat) {a : Addr} {oo : OO} (hd : ρ[i]? = some (some (.ow a oo))) (c : Cal X.prog X.w X.K X.mg X.base f k (PFor n S)) (hr : Room k X.A) (hx : PassW X Z) (mo : MonoOr S)
    (h : AC X Z es ρ fun ds ρ1 => ∃ o1, ρ1[i]? = some (some (.ow a o1)) ∧ ds.length = n ∧ S o1 ds fun d o' => Φ d (ρ1.set i (some (.ow a o'))))
    (hg : Gl X f := by rfl) (hdf : (f == ("__debug__" : Str)) = false := by decide) (hN : X.N[i]? = some x := by rfl) (hv : Vis X.env.scope x := by first | exact Or.inl rfl | exact Or.inr (Or.inl rfl) | exact Or.inr (Or.inr rfl)) (hdb : (x == ("__debug__" : Str)) = false := by decide) (hcd : (x == ("__classdict__" : Str)) = false := by decide)
    (he : starEach (.Name x ps :: es) X.env = (false, eval (.Name x ps) X.env) :: starEach es X.env := by rfl) (hpl : (backTo pos (starEach es X.env)).any (·.1) = false := by rfl) : FC X Z (.Call (.Name f p) (.Name x ps :: es) [] pos) ρ Φ := fun B G H σ o z Q q => by
  obtain ⟨fa, fd, pss, F, hm, kp, bd⟩ := c.ex
  obtain ⟨g0, _⟩ := o.ow i a oo hd
  refine (pe_callS (E := fun σ c d H => Z.E c d σ H) F hr hg hm kp bd hx (pa_cons (pe_var hN hv hdb hcd) p_wA he) hdf he hpl).w ?_
  refine ⟨_, g0, h B G H σ o z _ fun ds ρ1 vs B1 H1 ⟨o1, hd1, hl, hS⟩ e1 ok1 r1 => ?_⟩
  refine ⟨B1, rest B1 H1 (some a), Sl.ow a o1 :: ds.map Sl.im, ok1.call1 hd1 r1, PFor.mono mo _ (WantOr (fun C fs => Z.R C fs (ρ1.set i none)) a ds fun d o' => Φ d (ρ1.set i (some (.ow a o')))) _ ?_ ⟨a, o1, ds, rfl, hl, mo _ _ _ _ (fun d o' hk => ⟨rfl, rfl, hk⟩) hS⟩⟩
  intro oc hoc
  match oc, hoc with
  | .ret (.fr d) (.ow a' o' :: as'), ⟨q1, q2, hk⟩ =>
    subst q1; subst q2
    intro v B' H' e2 ok2 rv
    obtain ⟨b, u, rfl, h2, h3, h4, h5, h6⟩ := rv
    have hba : b ≠ a' := fun z => by subst z; exact h5 0 o' rfl
    have hH1 : H1 b = none := by
      cases eh : H1 b with
      | none => rfl
      | some w =>
        have hb1 : B1 b = none := fresh_back e2 h2
        have : rest B1 H1 (some a') b = some w := by
          unfold rest
          rw [if_neg (by simpa using hba), if_neg (by simp [hb1])]; exact eh
        rw [this] at h3; cases h3
    have o3 := ok1.behind1 hd1 e2 ok2 (j := 0) rfl
    refine q d _ b u B' H' hk (e1.trans e2) o3 h2 (fresh_back ok1.s.eg hH1) h4 (fun j w hj => ?_) h6
    rw [getq_set] at hj
    split at hj
    · simp at hj; exact hba hj.1.symm
    · split at hj
      · simp at hj
      · obtain ⟨_, _, _, y, hy, _⟩ := ok1.ow j b w hj
        rw [hH1] at hy; cases hy
  | .raise C fs, hR =>
    intro dd B' H' e2 s3 er
    exact z C fs dd B' H' σ _ hR (e1.trans e2) (ok1.behind1d hd1 e2 s3) er
end
end AL
namespace AL
open PySem PySem.Spec PyProof.Rows L2 Evl
theorem g_inDL {K : PySem.W.Frag} {d e : D} {p : PyData} {qs : List PyData} (hp : pyD d = some p) (hq : pyD e = some (.list qs)) (sp : SeqAt.shaped p = true) (sq : SeqAt.shaped (.list qs) = true) : Gives K (rInD K) d e (.bl (qs.any fun z => PyData.eqv z p)) := fun B G H x y s r1 r2 =>
  ⟨_, .bl _, fun Q k => ⟨p, qs, rep_dp s.ex d r1 hp, rep_dp s.ex e r2 hq, sp, sq, k⟩⟩
theorem g_niDL {K : PySem.W.Frag} {d e : D} {p : PyData} {qs : List PyData} (hp : pyD d = some p) (hq : pyD e = some (.list qs)) (sp : SeqAt.shaped p = true) (sq : SeqAt.shaped (.list qs) = true) : Gives K (rNotInD K) d e (.bl (!qs.any fun z => PyData.eqv z p)) := fun B G H x y s r1 r2 =>
  ⟨_, .bl _, fun Q k => ⟨p, qs, rep_dp s.ex d r1 hp, rep_dp s.ex e r2 hq, sp, sq, k⟩⟩
theorem shp_rowsL (ks : List (List Int)) : SeqAt.shaped (.list (ks.map pyI)) = true := by
  unfold SeqAt.shaped
  rw [Bool.and_eq_true, decide_eq_true_eq]
  have := dep_rows ks
  exact ⟨by rw [PyData.canLay0]; exact lay_rows ks, by rw [PyData.depth]; omega⟩
theorem py_rowsL (ks : List (List Int)) : pyD (.lst (ks.map tupI)) = some (.list (ks.map pyI)) := by
  rw [pyD, pyDs_map tupI pyI py_tupI ks]
section
variable {X : Cx} {Z : Zx} {a b : Expr} {ρ : En} {Φ : D → En → Prop} {Ψ : Bool → En → Prop} {pos : Pos}
/-- a not in b: a tuple of ints in a list of such -/
theorem tc_niL (hu : X.A.units + 65 < cLine) (h : EC X Z a ρ fun d ρ1 => EC X Z b ρ1 fun d' ρ2 => ∃ (k : List Int) (ks : List (List Int)), d = tupI k ∧ d' = .lst (ks.map tupI) ∧ Ψ (!decide (k ∈ ks)) ρ2) (hm : behindInMarks .NotIn b = false := by rfl) : TC X Z (.Compare a [.NotIn] [b] pos) ρ Ψ :=
  tc_op (op_notInD hu) hm (h.mono fun d ρ1 z => z.mono fun d' ρ2 ⟨k, ks, e1, e2, q⟩ => by subst e1; subst e2; exact ⟨_, g_niDL (py_tupI k) (py_rowsL ks) (shp_row k) (shp_rowsL ks), by rw [any_tupI]; exact q⟩)
end
end AL
namespace AL
open PySem PySem.Spec PyProof.Rows L2 Evl
section
variable {X : Cx} {Z : Zx} {e th : Expr} {ρ : En} {Φ : D → En → Prop} {p2 pos : Pos}
/-- a[:k], a proper part of a tuple -/
theorem ec_slT (h : EC X Z e ρ fun d ρ1 => EC X Z th ρ1 fun d' ρ2 => ∃ (ds : List D) (k : Nat), d = .tup ds ∧ d' = .int k ∧ k < ds.length ∧ Φ (.tup (ds.take k)) ρ2) : EC X Z (.Subscript e (.Slice none (some th) none p2) pos) ρ Φ := fun B G H σ o z Q q => by
  refine (pe_slice sl_tup p_wE po_none (po_some p_wE)).w ?_
  refine h B G H σ o z _ fun d ρ1 v B1 H1 h1 e1 o1 r1 => ?_
  refine h1 B1 G H1 σ o1 (z.up e1) _ fun d' ρ2 y B2 H2 ⟨ds, k, hd, hd', hk, hq⟩ e2 o2 r2 => ?_
  subst hd; subst hd'
  cases r2
  cases r1 with
  | @tup a xs _ hx rs =>
    have hl := rs.length
    have hx2 : SqT X.K H2 a xs := st_of (o2.s.ex _ _ (e2 _ _ hx))
    have s0 : HT.sIx xs.length 0 none = 0 := by simp [HT.sIx]
    have s1 : HT.sIx xs.length xs.length (some (k : Int)) = k := by
      rw [HT.sIx_nat]; omega
    refine ⟨(k : Int), rfl, a, xs, rfl, hx2, fun w => ?_, fun p hp => ?_⟩
    · rw [s1] at w; omega
    · have ec : cutV xs none (some (k : Int)) = xs.take k := by
        unfold cutV
        rw [s0, s1]; simp
      rw [ec]
      obtain ⟨e3, o3⟩ := o2.grow (u := .tup (xs.take k)) hp
      exact q _ ρ2 _ _ _ hq ((e1.trans e2).trans e3) o3 (.tup upd_same ((rs.up (e2.trans e3)).take k))
end
end AL
namespace AL
open PySem PySem.Spec PyProof.Rows L2 Evl
section
variable {X : Cx} {Z : Zx} {a : Expr} {ρ : En} {Φ : D → En → Prop} {p p2 pos pos2 : Pos}
/-- list(range(n)) -/
theorem ec_listRg (h : EC X Z a ρ fun d ρ1 => ∃ n : Nat, d = .int n ∧ n ≤ 50000 ∧ Φ (.lst ((List.range n).map fun (i : Nat) => D.int (i : Int))) ρ1) (hml : X.mg "list" = none) (hmr : X.mg "range" = none)
    (hc : X.calm = true := by rfl) (hgl : Gl X "list" := by rfl) (hgr : Gl X "range" := by rfl) (na : starEach [a] X.env = (false, eval a X.env) :: starEach [] X.env := by rfl)
    (nl : starEach [.Call (.Name "range" p2) [a] [] pos2] X.env = (false, eval (.Call (.Name "range" p2) [a] [] pos2) X.env) :: starEach [] X.env := by rfl) :
    EC X Z (.Call (.Name "list" p) [.Call (.Name "range" p2) [a] [] pos2] [] pos) ρ Φ := fun B G H σ o z Q q => by
  refine (pe_listRg hc hgl hml (prg_1 hgr hmr p_wE na) nl).w ?_
  refine h B G H σ o z _ fun d ρ1 v B1 H1 ⟨n, hd, hn, hk⟩ e1 o1 r1 => ?_
  subst hd; cases r1
  refine ⟨(n : Int), rfl, RgOk.of_le (by omega) (by omega) (by omega) (by omega), fun t ht => ?_⟩
  obtain ⟨e2, o2⟩ := o1.grow (u := .lst (rgV 0 n)) ht
  refine q _ ρ1 _ _ _ hk (e1.trans e2) o2 (.lst upd_same ?_)
  have e : rgV 0 (n : Int) = ((List.range n).map fun (i : Nat) => (i : Int)).map V.int := by
    unfold rgV
    rw [List.map_map]
    have e0 : ((n : Int) - 0).toNat = n := by omega
    rw [e0]
    refine List.map_congr_left fun i _ => ?_
    show V.int (0 + (i : Int)) = V.int (i : Int)
    rw [Int.zero_add]
  have e2 : ((List.range n).map fun (i : Nat) => D.int (i : Int)) = ((List.range n).map fun (i : Nat) => (i : Int)).map D.int := by rw [List.map_map]; rfl
  rw [e, e2]
  exact int_reps _
end
end AL
namespace AL
open PySem PySem.Spec PyProof.Rows L2 Evl RZ
/-! ### max, min of a list of numbers -/
theorem gb_max {K : PySem.W.Frag} {ns : List Int} (h0 : 0 < ns.length) : GivesB K (rMax K) [.lst (ns.map D.int)] (fun d => ∃ m, d = .int m ∧ m ∈ ns ∧ ∀ y ∈ ns, y ≤ m) := fun B G H vs s r Q q1 q2 => by
  cases r with
  | cons r rs =>
    cases rs
    cases r with
    | @lst a xs _ hq rr =>
      have := reps_int rr
      subst this
      exact ⟨a, ns, rfl, sq_of (s.ex _ _ hq), h0, fun m h1 h2 => q1 (.int m) _ ⟨m, rfl, h1, h2⟩ (.int m)⟩
theorem gb_min {K : PySem.W.Frag} {ns : List Int} (h0 : 0 < ns.length) : GivesB K (rMin K) [.lst (ns.map D.int)] (fun d => ∃ m, d = .int m ∧ m ∈ ns ∧ ∀ y ∈ ns, m ≤ y) := fun B G H vs s r Q q1 q2 => by
  cases r with
  | cons r rs =>
    cases rs
    cases r with
    | @lst a xs _ hq rr =>
      have := reps_int rr
      subst this
      exact ⟨a, ns, rfl, sq_of (s.ex _ _ hq), h0, fun m h1 h2 => q1 (.int m) _ ⟨m, rfl, h1, h2⟩ (.int m)⟩
/-! ### zip of two tuples -/
def zipD : List D → List D → List D
  | a :: as, b :: bs => .tup [a, b] :: zipD as bs
  | _, _ => []
theorem zipD_get : ∀ (as bs : List D) (i : Nat), (zipD as bs)[i]? = match as[i]?, bs[i]? with
    | some a, some b => some (.tup [a, b])
    | _, _ => none
  | [], bs, i => by simp [zipD]
  | a :: as, [], i => by simp [zipD]
  | a :: as, b :: bs, 0 => rfl
  | a :: as, b :: bs, i + 1 => by
    show (zipD as bs)[i]? = _
    rw [zipD_get as bs i]; rfl
theorem zipD_len : ∀ as bs : List D, (zipD as bs).length = min as.length bs.length
  | [], bs => by simp [zipD]
  | a :: as, [] => by simp [zipD]
  | a :: as, b :: bs => by
    show (zipD as bs).length + 1 = _
    rw [zipD_len as bs]; simp
theorem walks_zipT {K : PySem.W.Frag} {B : Hp} {x z : Addr} {xs zs : List V} {ds es : List D} (hq : SqT K B x xs) (r : Reps K B xs ds) (hq2 : SqT K B z zs) (r2 : Reps K B zs es) : Walks K B (ItzT K x z) (zipD ds es) := fun i B2 G2 H2 σ2 ρ2 e o => by
  have p1 : SqT K H2 x xs := ex_t o.s.ex (ex_t e hq)
  have p2 : SqT K H2 z zs := ex_t o.s.ex (ex_t e hq2)
  refine ⟨fun d hd => ?_, fun hl => ⟨xs, zs, p1, p2, ?_⟩⟩
  · rw [zipD_get] at hd
    cases h1 : ds[i]? with
    | none => rw [h1] at hd; cases hd
    | some a =>
      cases h2 : es[i]? with
      | none => rw [h1, h2] at hd; cases hd
      | some c =>
        rw [h1, h2] at hd
        cases hd
        obtain ⟨u, hu, ru⟩ := r.get' h1
        obtain ⟨w, hw, rw_⟩ := r2.get' h2
        refine ⟨⟨xs, zs, u, w, p1, p2, hu, hw⟩, fun v H' ⟨T, x', y', ev, hT, eH, hx', hy'⟩ => ?_⟩
        subst ev; subst eH
        have e1 : x' = u := by have z := hx' xs p1; rw [hu] at z; exact (Option.some.inj z).symm
        have e2 : y' = w := by have z := hy' zs p2; rw [hw] at z; exact (Option.some.inj z).symm
        subst e1; subst e2
        obtain ⟨e3, o3⟩ := o.grow (u := .tup [x', y']) hT
        exact ⟨_, e3, o3, .tup upd_same (.cons ((ru.up e).up e3) (.cons ((rw_.up e).up e3) .nil))⟩
  · rw [zipD_len] at hl
    rw [r.length, r2.length]
    omega
section
variable {X : Cx} {Z : Zx} {e e2 a : Expr} {ρ : En} {Φ : List D → En → Prop} {Ψ : Bool → En → Prop} {p pos ps tpos : Pos} {elts : List Expr} {kk : Nat} {x : Str}
/-- for x, y in zip(e, e2), two tuples -/
theorem ic_zipT (hm : X.mg "zip" = none) (h : AC X Z [e, e2] ρ fun ds ρ1 => ∃ as bs, ds = [.tup as, .tup bs] ∧ Φ (zipD as bs) ρ1) (hg : Gl X "zip" := by rfl)
    (hs : starEach [e, e2] X.env = (false, eval e X.env) :: starEach [e2] X.env := by rfl) (hpl : (backTo pos (starEach [e2] X.env)).any (·.1) = false := by rfl) : IC X Z (.Tuple elts kk tpos) (.Call (.Name "zip" p) [e, e2] [] pos) ρ Φ := fun B G H σ o z R q =>
  (pi_zipA hg hm p_wA hs hpl).w (h B G H σ o z _ fun ds ρ1 vs B1 H1 ⟨as, bs, hd, h1⟩ e1 o1 r1 => by
    subst hd
    cases r1 with
    | cons r rs =>
      cases rs with
      | cons r' rs =>
        cases rs
        cases r with
        | tup hq rr =>
          cases r' with
          | tup hq' rr' => exact ⟨_, _, _, _, rfl, .inr ⟨ex_t o1.s.ex (st_of hq), ex_t o1.s.ex (st_of hq'), q _ ρ1 _ B1 H1 h1 e1 o1 (walks_zipT (st_of hq) rr (st_of hq') rr')⟩⟩)
/-- e is not True -/
theorem tc_nTrue {j pos'} (h : EC X Z e ρ fun d ρ1 => ∃ b, d = .bl b ∧ Ψ (!decide (b = true)) ρ1) : TC X Z (.Compare e [.IsNot] [.Constant (.bool true) j pos'] pos) ρ Ψ := fun B G H σ o z Q q =>
  (pt_cmpR op_notBl p_wE pe_bl (nobehind _ (by decide) (by decide))).w (h B G H σ o z _ fun d ρ1 v B1 H1 ⟨b, hd, h1⟩ e1 o1 r1 => by
    subst hd; cases r1
    exact ⟨b, true, rfl, rfl, _, rfl, q _ ρ1 B1 H1 h1 e1 o1⟩)
/-- k not in x, x a dict of one's own (numbers and texts) -/
theorem tc_dniK (i : Nat) (hu : X.A.units + 1 < cLine) (h : EC X Z a ρ fun d ρ1 => ∃ (q : Addr) (kds : List (Key × D)) (k : Key), ρ1[i]? = some (some (.ow q (.k kds))) ∧ keyD d = some k ∧ Ψ (!(valD kds k).isSome) ρ1) (hN : X.N[i]? = some x := by rfl)
    (hv : Vis X.env.scope x := by first | exact Or.inl rfl | exact Or.inr (Or.inl rfl) | exact Or.inr (Or.inr rfl)) (hdb : (x == ("__debug__" : Str)) = false := by decide) (hcd : (x == ("__classdict__" : Str)) = false := by decide) (hm : behindInMarks .NotIn (.Name x ps) = false := by rfl) : TC X Z (.Compare a [.NotIn] [.Name x ps] pos) ρ Ψ := fun B G H σ o z Q q =>
  (pt_cmp (pc_dnotin hu p_wE (pe_var hN hv hdb hcd)) hm).w (h B G H σ o z _ fun d ρ1 v B1 H1 ⟨aq, kds, k, hd, hk, h1⟩ e1 o1 r1 => by
    obtain ⟨g1, _, _, u, g4, g5⟩ := o1.ow i aq _ hd
    cases u with
    | dK kvs =>
      have ev := key_rep r1 hk
      subst ev
      refine ⟨_, g1, aq, valV kvs k, rfl, DGet.k g4, _, rfl, ?_⟩
      have : (valV kvs k).isSome = (valD kds k).isSome := by
        rcases RepK.val (k := k) g5 with ⟨q1, q2⟩ | ⟨_, _, q1, q2, _⟩ <;> rw [q1, q2] <;> rfl
      rw [this]
      exact q _ ρ1 B1 H1 h1 e1 o1
    | _ => exact False.elim g5)
end
end AL
namespace AL
open PySem PySem.Spec PyProof.Rows L2 Evl
abbrev Cl1 := Value × (Addr → Value → Option Addr → TS)
/-- several clauses, each with the same name, slot i: their wishes, each behind the one before -/
def wCl (K : PySem.W.Frag) (i : Nat) (Wo : WX) (D : Ends) : List Cl1 → WX
  | [] => Wo
  | q :: r => wAs K q.1 i q.2 (wCl K i Wo D r) D
inductive Cla (X : Cx) (n : Str) : List ExceptHandler → List Cl1 → Prop
  | nil : Cla X n [] []
  | cons {x : Str} {c : Value} {ts : Addr → Value → Option Addr → TS} {b0 : Stmt} {su : List Stmt} {np p : Pos} {hs : List ExceptHandler} {l : List Cl1} : Names X x c →
      (∀ (a : Addr) (oe : Obj) (cl : Value) (d : Option Addr) (pn : List (Addr × Obj)), Zc cl d oe → (∃ vs, oe.data = .fields vs) → PSs (X.suite a ((a, oe) :: pn)) (b0 :: su) (ts a cl d)) → Cla X n hs l →
      Cla X n (.ExceptHandler (some (.Name x np)) (some n) (b0 :: su) p :: hs) ((c, ts) :: l)
section
variable {X : Cx} {n : Str} {i : Nat} {body : List Stmt} {e0 : ExceptHandler} {es : List ExceptHandler} {l : List Cl1} {pos : Pos} {tb : WX → TS} {Wo : WX}
theorem ps_tries (hs : X.stack = X.env :: X.outer) (hf : X.env.frame = some X.env.locals) (hN : X.N.Nodup) (hi : X.N[i]? = some n) (hln : X.env.kindOf n = some .local) (tk : Takes X Wo)
    (hb : ∀ (W : WX) (pn : List (Addr × Obj)) (xe : Value → Shared → Prop), Takes (X.tr pn xe) W → PassesOwn (model X.prog X.w) X.A X.env xe → PSs (X.tr pn xe) body (tb W))
    (hc : Cla X n (e0 :: es) l) : PS X (.Try body (e0 :: es) [] [] pos) (fun D σ H => tb (wCl X.K i Wo D l) D σ H) := ⟨fun pins s0 σ H D I h => by
  have ok := I.ok
  have fr : X.A.frames = some (X.env :: X.outer) := ok.frames.trans (congrArg some hs)
  have lc : Loc X.env.scope n := .inl hln
  let W := wCl X.K i Wo D l
  let K3 : Value → Shared → Prop := fun v t => wpAny (model X.prog X.w) X.A (handleBy v X.env (e0 :: es)) (SP X pins D) X.xe t
  let K2 : Value → Shared → Prop := fun v t => wpAny (model X.prog X.w) X.A (setFlight v none) (fun _ t2 => K3 v t2) X.xe t
  let K1 : Value → Shared → Prop := fun v t => wpAny (model X.prog X.w) X.A (noteFrame v X.env) (fun _ t2 => K2 v t2) X.xe t
  have caught : Takes (X.tr (X.pn ++ pins) K1) W := fun v t xx => by
    obtain ⟨a, B, tI, pin1, σ1, H1, cl, d, rfl, J0, nb, up, sky, na, os, ag, wish⟩ := xx
    have J : Inv X pins σ1 H1 tI := J0.ofTry ok
    have skyL : Sky B (X.env :: X.outer) a (Zc cl d) X.env.locals t.heap := by rw [← hs]; exact sky
    refine Sky.land Zc.steady fr hf skyL fun g3 fl3 up3 => ?_
    have L3 : Inv X pins σ1 H1 { t with heap := g3 } := J.landed nb fl3.1 (up.trans up3) os ag
    obtain ⟨o3, v3, at3, z3, dat3⟩ := fl3.there
    have out : a ∉ frs (X.env :: X.outer) := fun hm => by
      obtain ⟨vs', o', e', no⟩ := fl3.2.2.1.mem hm
      rw [at3] at e'
      cases e'
      exact no _ dat3
    have nL : a ≠ X.env.locals := fun z => out (List.mem_filterMap.mpr ⟨X.env, List.mem_cons_self, by rw [hf, z]⟩)
    have nF : a ∉ X.fs := fun hm => by
      obtain ⟨ev, hev, q⟩ := List.mem_filterMap.mp hm
      exact out (List.mem_filterMap.mpr ⟨ev, List.mem_cons_of_mem _ hev, q⟩)
    have U3 := L3.suite at3 dat3 na nL nF
    have all : ∀ {qs : List ExceptHandler} {m : List Cl1}, Cla X n qs m → wCl X.K i Wo D m cl d σ1 H1 → wpAny (model X.prog X.w) X.A (handleBy (.ref a) X.env qs) (SP X pins D) X.xe { t with heap := g3 } := fun {qs m} k => by
      induction k with
      | nil =>
        intro z
        refine wpAny_handleBy_nil ?_
        obtain ⟨_, _, _, o5, v5, T5, oT5, t5, at5, z5, dat5, k1, _⟩ := id fl3
        unfold PySem.passOn
        refine wpAny_bind (wpAny_field at5 dat5 k1 ?_)
        rw [if_neg (by simp : ¬ ((Value.ref T5 == Value.none) = true))]
        have last : wpAny (model X.prog X.w) X.A (setFlight (.ref a) X.env.frame) (fun _ t4 => wpAny (model X.prog X.w) X.A (throw (.ref a) : Sem Flow) (SP X pins D) X.xe t4) X.xe { t with heap := g3 } := by
          rw [hf]
          exact HandSPX.setFlight_upZ fl3 fun g4 k4 up4 => wpAny_throw (tk _ _ ⟨a, B, tI, pins, σ1, H1, cl, d, rfl, J, nb, (up.trans up3).trans up4, .inr (.inr (by rw [hs]; exact k4)), na, os, ag, z⟩)
        first
          | exact wpAny_bind last
          | exact wpAny_bind (wpAny_pure (wpAny_bind last))
      | @cons x c ts b0 su np p qs2 m2 hn hsu _ ih =>
        rintro ⟨b, hm, hyes, hno⟩
        refine wpAny_handleBy_cons (codeAny_handlers_test ?_) (by intro q; cases q)
        have ty : PySem.W.Looks (model X.prog X.w) g3 (typeOf (.ref a)) cl := fun A Q E t' k q => wpAny_typeOf_ref (k _ _ at3) (by rw [z3.1]; exact q)
        have ex := PySem.W.exm_one (M := model X.prog X.w) L3.kIn ty hm
        have name : ∀ {Q E : Value → Shared → Prop}, Q c { t with heap := g3 } → wpAny (model X.prog X.w) (X.A.mark (some (.ref a))) (eval (.Name x np) X.env) Q E { t with heap := g3 } := fun {Q E} q => by
          obtain ⟨h1, h2, h3 | ⟨h3, h4, h5⟩⟩ := hn
          · exact ld_glob (X := X.suite a ((a, o3) :: (X.pn ++ pins))) U3 h1 h3 q h2
          · exact ld_blt (X := X.suite a ((a, o3) :: (X.pn ++ pins))) U3 h1 h3 h4 q h5 h2
        refine name (ex.here ?_)
        cases b with
        | false => exact ih (hno rfl)
        | true =>
          refine codeAny_handlers_suite_as ?_
          refine HandSPX.lands_againZ fl3 fun g4 fl4 up4 => ?_
          have L4 : Inv X pins σ1 H1 { t with heap := g4 } := J.landed nb fl4.1 ((up.trans up3).trans up4) os ag
          obtain ⟨o4, v4, at4, z4, dat4⟩ := fl4.there
          have U4 := L4.suite at4 dat4 na nL nF
          refine store_ok (X := X.suite a ((a, o4) :: (X.pn ++ pins))) (v := .ref a) U4 hN hi lc rfl (fun t5 U5 => ?_) (.inr hln)
          refine wpAny_mono ((hsu a o4 cl d (X.pn ++ pins) z4 ⟨_, dat4⟩).run [] t5 _ H1 _ U5 (hyes rfl a na)) (fun fw t6 sp => ?_) (fun _ _ z => z.elim)
          have drop : ∀ {σ6 : L2.St} {H6 : Hp} {Q : Shared → Prop}, Inv (X.suite a ((a, o4) :: (X.pn ++ pins))) [] σ6 H6 t6 → (∀ t7, Inv X pins (σ6.set i none) H6 t7 → Q t7) →
              wpAny (model X.prog X.w) X.A (do bindName X.env n .none; unbindBehindTheSuite X.env n p) (fun _ t7 => Q t7) X.xe t6 := fun {σ6 H6 Q} U6 k => gone_ok (U6.unsuite ok) hN hi hln k
          cases fw with
          | next => obtain ⟨σ6, H6, U6, k6⟩ := sp; exact drop U6 fun t7 L7 => ⟨_, _, L7, k6⟩
          | brk => obtain ⟨σ6, H6, U6, k6⟩ := sp; exact drop U6 fun t7 L7 => ⟨_, _, L7, k6⟩
          | cont => obtain ⟨σ6, H6, U6, k6⟩ := sp; exact drop U6 fun t7 L7 => ⟨_, _, L7, k6⟩
          | ret u => obtain ⟨v6, σ6, H6, U6, r6, k6⟩ := sp; exact drop U6 fun t7 L7 => ⟨_, _, _, L7, r6, k6⟩
    exact all hc wish
  refine wpAny_Try_except ?_
  refine wpAny_mono ((hb W (X.pn ++ pins) K1 caught PassesOwn.looking).run [] s0 σ H D (I.toTry _) h) (fun fw t1 sp => ?_) (fun v t1 k => k)
  cases fw with
  | next => obtain ⟨σ1, H1, L1, k⟩ := sp; exact wpAny_execs_nil ⟨σ1, H1, L1.ofTry ok, k⟩
  | brk => obtain ⟨σ1, H1, L1, k⟩ := sp; exact ⟨σ1, H1, L1.ofTry ok, k⟩
  | cont => obtain ⟨σ1, H1, L1, k⟩ := sp; exact ⟨σ1, H1, L1.ofTry ok, k⟩
  | ret u => obtain ⟨v, σ1, H1, L1, r, k⟩ := sp; exact ⟨v, σ1, H1, L1.ofTry ok, r, k⟩⟩
end
end AL
namespace AL
open PySem PySem.Spec PyProof.Rows L2 Evl
/-- the clauses name these classes -/
inductive HdS (X : Cx) (n : Str) : List ExceptHandler → List Addr → Prop
  | nil : HdS X n [] []
  | cons {x : Str} {C : Addr} {b0 : Stmt} {su : List Stmt} {np p : Pos} {hs : List ExceptHandler} {cs : List Addr} : Names X x (.ref C) → HdS X n hs cs → HdS X n (.ExceptHandler (some (.Name x np)) (some n) (b0 :: su) p :: hs) (C :: cs)
def clsOf (X : Cx) : List ExceptHandler → List Addr → List Cl1
  | .ExceptHandler _ _ su _ :: hs, C :: cs => (.ref C, fun a cl d D σ H => ∀ oe pn, Zc cl d oe → (∃ vs, oe.data = .fields vs) → wSs (X.suite a ((a, oe) :: pn)) su D σ H) :: clsOf X hs cs
  | _, _ => []
theorem cla_of {X : Cx} {n : Str} {hs : List ExceptHandler} {cs : List Addr} (h : HdS X n hs cs) : Cla X n hs (clsOf X hs cs) := by
  induction h with
  | nil => exact .nil
  | cons hn _ ih => exact .cons hn (fun a oe cl d pn hz hv => ⟨fun pins s σ H D I h => h oe pn hz hv pins s I⟩) ih
/-- what becomes of an error of the class Ce: the first clause whose class holds it -/
def HdR (X : Cx) (Z : Zx) (i : Nat) (sts : List Stmt) (O : Outs) (Ce : Addr) (fs : List (Str × D)) (ρ : En) : List ExceptHandler → List Addr → Prop
  | .ExceptHandler _ _ su _ :: hs, C :: cs => ∃ b, PySem.W.exmOne X.K (.ref Ce) (.ref C) = some b ∧ (b = false → HdR X Z i sts O Ce fs ρ hs cs) ∧ (b = true → ∀ a d oe pn, Zc (.ref Ce) d oe → (∃ vs, oe.data = .fields vs) →
      SC (X.suite a ((a, oe) :: pn)) Z0 su (ρ.set i (some (.im (.exc a d fs)))) { nx := fun ρ'' => SC X Z sts (ρ''.set i none) O, rt := O.rt, bk := fun ρ'' => O.bk (ρ''.set i none), ct := fun ρ'' => O.ct (ρ''.set i none) })
  | _, _ => Z.R Ce fs ρ
section
variable {X : Cx} {Z : Zx} {body sts : List Stmt} {ρ : En} {O : Outs} {pos : Pos} {n : Str} {e0 : ExceptHandler} {es : List ExceptHandler}
/-- try: body, except C1 as n: .., except C2 as n: .. -/
theorem sc_trys (i : Nat) (cs : List Addr) (R : Addr → List (Str × D) → En → Prop) (hs : X.stack = X.env :: X.outer) (hf : X.env.frame = some X.env.locals) (hN : X.N.Nodup) (hi : X.N[i]? = some n) (hln : X.env.kindOf n = some .local) (hc : HdS X n (e0 :: es) cs) (tk : Takes X Z.E)
    (hb : ∀ (E : WX) (pn : List (Addr × Obj)) (xe : Value → Shared → Prop), Takes (X.tr pn xe) E → SC (X.tr pn xe) ⟨E, R⟩ body ρ { O with nx := fun ρ' => SC X Z sts ρ' O })
    (hR : ∀ Ce fs ρ', R Ce fs ρ' → HdR X Z i sts O Ce fs ρ' (e0 :: es) cs) :
    SC X Z (.Try body (e0 :: es) [] [] pos :: sts) ρ O := by
  refine sc_of (ps_tries (Wo := Z.E) (tb := fun W D σ H => ∀ pn xe, Takes (X.tr pn xe) W → wSs (X.tr pn xe) body D σ H) hs hf hN hi hln tk
    (fun W pn xe tk _ => ⟨fun pins s σ H D I h => h pn xe tk pins s I⟩) (cla_of hc)) ?_
  intro B G H σ Dd o z sv pn xe tk
  refine hb _ pn xe tk B G H σ _ o ?_ ⟨fun ρ' σ' B' H' h e ok => h.go ok z sv e, sv.rt, sv.bk, sv.ct⟩
  intro Ce fs dd B' H' σ' ρ' hr e ok er
  have all : ∀ (qs : List ExceptHandler) (ds : List Addr), HdR X Z i sts O Ce fs ρ' qs ds → wCl X.K i Z.E { Dd with nx := wSs X sts Dd } (clsOf X qs ds) (.ref Ce) dd σ' H' := by
    intro qs
    induction qs with
    | nil => exact fun ds h => z Ce fs dd B' H' σ' ρ' h e ok er
    | cons q qs ih =>
      intro ds h
      cases ds with
      | nil =>
        obtain ⟨_, _, _, _⟩ := q
        exact z Ce fs dd B' H' σ' ρ' h e ok er
      | cons C ds =>
        obtain ⟨q1, q2, q3, q4⟩ := q
        obtain ⟨b, hm, hno, hsu⟩ := h
        refine ⟨b, hm, fun hb a ha oe pn' hz hv => ?_, fun hb => ih ds (hno hb)⟩
        refine hsu hb a dd oe pn' hz hv B' G H' _ _ (ok.set_im (v := .ref a) ?_) RC.none ⟨fun ρ'' σ'' B2 H2 h e2 o2 => ?_, fun r ρ'' v σ'' B2 H2 h e2 o2 rv => sv.rt r ρ'' v σ'' B2 H2 h (e.trans e2) o2 rv, fun ρ'' σ'' B2 H2 h e2 o2 => ?_, fun ρ'' σ'' B2 H2 h e2 o2 => ?_⟩
        · unfold ErR at er
          split at er
          · subst er; exact .exc0
          · obtain ⟨q, vs, rfl, hq, rf⟩ := er
            exact .exc (ok.s.tp _ _ hq rfl) rf
        · exact h.go (o2.drop (i := i) (x := none)) z sv (e.trans e2)
        · exact sv.bk _ _ B2 H2 h (e.trans e2) (o2.drop (i := i) (x := none))
        · exact sv.ct _ _ B2 H2 h (e.trans e2) (o2.drop (i := i) (x := none))
  exact all _ _ (hR Ce fs ρ' hr)
end
end AL
namespace AL
open PySem PySem.Spec PyProof.Rows L2 Evl
section
variable {K : PySem.W.Frag}
theorem gb_max2 {i j : Int} : GivesB K (fun xs H Q => ∃ i j, xs = [.int i, .int j] ∧ Q (.int (if j > i then j else i)) H) [.int i, .int j] (· = .int (max i j)) := fun B G H vs s r Q q1 q2 => by
  cases r with
  | cons r rs =>
    cases rs with
    | cons r2 rs =>
      cases rs; cases r; cases r2
      have e : (if j > i then j else i) = max i j := by split <;> omega
      exact ⟨i, j, rfl, by rw [e]; exact q1 _ _ rfl (.int _)⟩
end
section
variable {X : Cx} {Z : Zx} {a b : Expr} {ρ : En} {Φ : D → En → Prop} {Ψ : Bool → En → Prop} {p p2 pos pos2 : Pos}
/-- tuple(range(n)) -/
theorem ec_tupRg (h : EC X Z a ρ fun d ρ1 => ∃ n : Nat, d = .int n ∧ n ≤ 50000 ∧ Φ (.tup ((List.range n).map fun (i : Nat) => D.int (i : Int))) ρ1) (hml : X.mg "tuple" = none) (hmr : X.mg "range" = none)
    (hc : X.calm = true := by rfl) (hgl : Gl X "tuple" := by rfl) (hgr : Gl X "range" := by rfl) (na : starEach [a] X.env = (false, eval a X.env) :: starEach [] X.env := by rfl)
    (nl : starEach [.Call (.Name "range" p2) [a] [] pos2] X.env = (false, eval (.Call (.Name "range" p2) [a] [] pos2) X.env) :: starEach [] X.env := by rfl) :
    EC X Z (.Call (.Name "tuple" p) [.Call (.Name "range" p2) [a] [] pos2] [] pos) ρ Φ := fun B G H σ o z Q q => by
  refine (pe_tupRg hc hgl hml (prg_1 hgr hmr p_wE na) nl).w ?_
  refine h B G H σ o z _ fun d ρ1 v B1 H1 ⟨n, hd, hn, hk⟩ e1 o1 r1 => ?_
  subst hd; cases r1
  refine ⟨(n : Int), rfl, RgOk.of_le (by omega) (by omega) (by omega) (by omega), fun t ht => ?_⟩
  obtain ⟨e2, o2⟩ := o1.grow (u := .tup (rgV 0 n)) ht
  refine q _ ρ1 _ _ _ hk (e1.trans e2) o2 (.tup upd_same ?_)
  have e : rgV 0 (n : Int) = ((List.range n).map fun (i : Nat) => (i : Int)).map V.int := by
    unfold rgV
    rw [List.map_map]
    have e0 : ((n : Int) - 0).toNat = n := by omega
    rw [e0]
    refine List.map_congr_left fun i _ => ?_
    show V.int (0 + (i : Int)) = V.int (i : Int)
    rw [Int.zero_add]
  have e2 : ((List.range n).map fun (i : Nat) => D.int (i : Int)) = ((List.range n).map fun (i : Nat) => (i : Int)).map D.int := by rw [List.map_map]; rfl
  rw [e, e2]
  exact int_reps _
/-- a != b, where both are the same -/
theorem tc_neX (hu : X.A.units + 64 < cLine) (h : EC X Z a ρ fun d ρ1 => EC X Z b ρ1 fun d' ρ2 => ∃ p, d = d' ∧ pyD d = some p ∧ SeqAt.shaped p = true ∧ PyData.eqv p p = true ∧ Ψ false ρ2) (hm : behindInMarks .NotEq b = false := by rfl) : TC X Z (.Compare a [.NotEq] [b] pos) ρ Ψ :=
  tc_neD hu (h.mono fun d ρ1 z => z.mono fun d' ρ2 ⟨p, e, hp, sp, ep, k⟩ => by subst e; exact ⟨p, p, hp, hp, sp, sp, by rw [ep]; exact k⟩) (hm := hm)
end
/-- data that are the same as themselves, plainly -/
theorem same_row (k : List Int) : pyD (tupI k) = some (pyI k) ∧ SeqAt.shaped (pyI k) = true ∧ PyData.eqv (pyI k) (pyI k) = true := ⟨py_tupI k, shp_row k, by rw [eqv_tupI, decide_eq_true rfl]⟩
theorem eqv_rows : ∀ ks ls : List (List Int), PyData.eqvAll (ks.map pyI) (ls.map pyI) = decide (ks = ls)
  | [], [] => by simp [PyData.eqvAll]
  | [], _ :: _ => by simp [PyData.eqvAll]
  | _ :: _, [] => by simp [PyData.eqvAll]
  | a :: k, b :: l => by
    rw [List.map_cons, List.map_cons, PyData.eqvAll, eqv_rows k l, eqv_tupI]
    by_cases h : a = b
    · subst h; simp
    · simp [h]
theorem same_rows (ks : List (List Int)) : pyD (.tup (ks.map tupI)) = some (.tuple (ks.map pyI)) ∧ SeqAt.shaped (.tuple (ks.map pyI)) = true ∧ PyData.eqv (.tuple (ks.map pyI)) (.tuple (ks.map pyI)) = true := ⟨py_rows ks, shp_rows ks, by rw [PyData.eqv, eqv_rows, decide_eq_true rfl]⟩
end AL
namespace T34
open PySem PySem.Spec PyProof.Rows L2 Evl AL
abbrev FunN (K : PySem.W.Frag) (x : Str) (st : Stmt) (f : Addr) (fd : FuncData) : Prop := FunD K x x (defArgs st) (defBody st) (defScope st) [] [] f fd
structure Blt (mg : Str → Option Value) : Prop where
  isi : mg "isinstance" = none
  int : mg "int" = none
  bool : mg "bool" = none
  list : mg "list" = none
  tuple : mg "tuple" = none
  len : mg "len" = none
  range : mg "range" = none
  sorted : mg "sorted" = none
  set : mg "set" = none
  any : mg "any" = none
  all : mg "all" = none
  enum : mg "enumerate" = none
def isNum : D → Bool
  | .int _ => true | _ => false
def S_is_number (ds : List D) (Ψ : D → Prop) : Prop := ∃ v, ds = [v] ∧ isObj v = false ∧ Ψ (.bl (isNum v))
def natD (n : Nat) : D := .int (n : Int)
def iL (l : List Int) : List D := l.map D.int
theorem iL_snoc (l : List Int) (x : Int) : iL l ++ [D.int x] = iL (l ++ [x]) := by unfold iL; rw [List.map_append]; rfl
def S_pool (ds : List D) (Ψ : OO → Prop) : Prop := ∃ ns : List Int, ds = [.klst (iL ns)] ∧ ns.length ≤ 63 ∧ ∀ l : List Int, l.length ≤ 4000 → Ψ (.l (iL l))
def S_take (o : OO) (ds : List D) (Ψ : D → OO → Prop) : Prop := ∃ (l : List Int) (m : Int), o = .l (iL l) ∧ ds = [.int m] ∧ 0 < m ∧ ∀ (r : Int) (l' : List Int), 0 ≤ r → r < m → Ψ (.int r) (.l (iL l'))
section
variable {P : Program} {w : World} {K : PySem.W.Frag} {mg : Str → Option Value} {base : Heap} {f : Addr} {fd : FuncData}
theorem m_pool : MonoR S_pool := fun ds Φ Φ' h ⟨ns, h1, h2, h3⟩ => ⟨ns, h1, h2, fun l hl => h _ (h3 l hl)⟩
theorem m_take : MonoO S_take := fun o ds Φ Φ' h ⟨l, m, h1, h2, h3, h4⟩ => ⟨l, m, h1, h2, h3, fun r l' a b => h _ _ (h4 r l' a b)⟩
theorem c_pool (F : FunN K "_law_pool" s__law_pool f fd) (hm : mg "_law_pool" = some (.ref f)) (b : Blt mg) (hmin : mg "min" = none) : Cal P w K mg base "_law_pool" 1 (PFr 1 S_pool) := by
  have nd : (["script", "pool", "at", "cell", "k", "number"] : List Str).Nodup := by decide +kernel
  refine cal_fr F hm (N := ["script", "pool", "at", "cell", "k", "number"]) (ps := ["script"]) ⟨rfl, rfl, rfl, nd, rfl, by decide +kernel, by decide +kernel⟩ rfl (fun _ _ _ _ _ _ us hl => match us, hl with | [_], _ => rfl) ?_
  rintro cdv A outer s H E hr ds Ψ hl ⟨ns, rfl, hn, hd⟩
  refine sc_own 1 (fc_lst (ac_nil ⟨by decide, ?_⟩)) nd
  intro p
  refine sc_for (js := [2]) (ic_range (ec_cb (call_min2 rfl) rfl hmin (ac_cons (ec_len (ac_cons (ec_var 0 rfl (ac_nil ⟨_, _, rfl, rfl, ac_cons (ec_int (ac_nil ⟨_, gb_min2, ?_⟩))⟩))) b.len))) b.range) (passes_of rfl)
  rintro d rfl
  have hlen : (iL ns).length ≤ 63 := by unfold iL; rw [List.length_map]; exact hn
  have hmin : (if (63 : Int) < ((iL ns).length : Int) then (63 : Int) else ((iL ns).length : Int)) = ((iL ns).length : Int) := by rw [if_neg (by omega)]
  refine ⟨_, rfl, by rw [hmin]; omega, by rw [hmin]; omega, ?_⟩
  rw [hmin, Int.toNat_natCast]
  refine ⟨fun i ρ' => ∃ (l : List Int) (x y z t : Option Sl), l.length ≤ 48 * i ∧ i ≤ 63 ∧ ρ' = [some (.im (.klst (iL ns))), some (.ow p (.l (iL l))), x, y, z, t], ⟨[], none, none, none, none, by decide, by decide, rfl⟩, ?_, ?_⟩
  · rintro i d ρi hid ⟨l, x, y, z, t, hl1, _, rfl⟩
    obtain ⟨hi, rfl⟩ := rngD_get hid
    rw [Int.zero_add]
    have hin : i < ns.length := by unfold iL at hi; rwa [List.length_map] at hi
    refine gt_name 2 ?_ nd
    refine sc_set 3 (ec_cty call_int1 rfl b.int (ac_cons (ec_ix (ec_var 0 rfl (ec_var 2 rfl ⟨_, _, .int ns[i], rfl, rfl, atI_nat (by unfold iL; rw [List.getElem?_map]; simp [hin]), ac_nil ⟨_, gb_int, ?_⟩⟩))))) nd
    rintro d rfl
    refine sc_ifj (fun ρ' => ∃ c : Int, 0 ≤ c ∧ ρ' = [some (.im (.klst (iL ns))), some (.ow p (.l (iL l))), some (.im (.int (i : Int))), some (.im (.int c)), z, t]) (tc_lt (ec_var 3 rfl (ec_int ⟨_, _, rfl, rfl, ?_⟩))) ?_
    · by_cases hc : ns[i] < 0
      · rw [decide_eq_true hc]
        exact ⟨fun _ => sc_set 3 (ec_sub (ec_int (ec_var 3 rfl ⟨_, _, rfl, rfl, sc_nil ⟨3 - ns[i], by omega, rfl⟩⟩))) nd, (fun z => nomatch z)⟩
      · rw [decide_eq_false hc]
        exact ⟨(fun z => nomatch z), fun _ => sc_nil ⟨ns[i], by omega, rfl⟩⟩
    rintro ρ2 ⟨c, hc0, rfl⟩
    refine sc_if (tc_ge (ec_var 3 rfl (ec_pow (ec_int (ec_int ⟨10, 18, rfl, rfl, ⟨by decide, by decide, by decide⟩, _, _, rfl, rfl, ?_⟩)))))
    by_cases hbig : (10 : Int) ^ (18 : Int).toNat ≤ c
    · rw [decide_eq_true hbig]
      refine ⟨fun _ => ?_, (fun z => nomatch z)⟩
      refine sc_for (js := [4]) (ic_range (ec_int ⟨48, rfl, by decide, by decide, ?_⟩) b.range) (passes_of rfl)
      refine ⟨fun k ρ' => ∃ (l2 : List Int) (c2 : Int) (z2 : Option Sl), l2.length ≤ l.length + k ∧ k ≤ 48 ∧ 0 ≤ c2 ∧ ρ' = [some (.im (.klst (iL ns))), some (.ow p (.l (iL l2))), some (.im (.int (i : Int))), some (.im (.int c2)), z2, t], ⟨l, c, z, by omega, by decide, hc0, rfl⟩, ?_, ?_⟩
      · rintro k d ρk hk ⟨l2, c2, z2, hl2, _, hc2, rfl⟩
        obtain ⟨hk48, rfl⟩ := rngD_get hk
        have hk48' : k < 48 := hk48
        refine gt_name 4 ?_ nd
        refine sc_if (tc_gt (ec_var 3 rfl (ec_int ⟨_, _, rfl, rfl, ?_⟩)))
        by_cases hp : 0 < c2
        · rw [decide_eq_true hp]
          refine ⟨fun _ => ?_, (fun z => nomatch z)⟩
          refine sc_app 1 rfl (ec_mod (ec_cty call_int1 rfl b.int (ac_cons (ec_var 3 rfl (ac_nil ⟨_, gb_int, ?_⟩)))))
          rintro d rfl
          refine ec_int ⟨c2, 30, rfl, rfl, by decide, _, rfl, by unfold iL; rw [List.length_map]; omega, ?_⟩
          refine sc_set 3 (ec_fdiv (ec_var 3 rfl (ec_int ⟨c2, 30, rfl, rfl, ⟨by decide, by decide⟩, ?_⟩))) nd
          refine sc_nil (sc_nil ⟨l2 ++ [c2 % 30], c2 / 30, some (.im (.int (0 + (k : Int)))), by rw [List.length_append]; simp; omega, hk48', by omega, ?_⟩)
          rw [← iL_snoc]; rfl
        · rw [decide_eq_false hp]
          exact ⟨(fun z => nomatch z), fun _ => sc_nil (sc_nil ⟨l2, c2, _, by omega, hk48', hc2, rfl⟩)⟩
      · rintro ρ3 ⟨l2, c2, z2, hl2, hk2, hc2, rfl⟩
        exact sc_nil (sc_nil ⟨l2, _, _, _, _, by have : (rngD 0 (48 : Int).toNat).length = 48 := rfl; omega, by omega, rfl⟩)
    · rw [decide_eq_false hbig]
      have hb18 : c < 10 ^ 18 := by have e : (18 : Int).toNat = 18 := rfl
                                    rw [e] at hbig; omega
      refine ⟨(fun z => nomatch z), fun _ => ?_⟩
      refine sc_set 5 (ec_mod (ec_cty call_int1 rfl b.int (ac_cons (ec_add (ec_add (ec_mul (ec_var 3 rfl (ec_int ⟨_, _, rfl, rfl, .inr ⟨by decide, by decide⟩, ec_mul (ec_var 2 rfl (ec_int ⟨_, _, rfl, rfl, .inr ⟨by decide, by decide⟩, _, _, rfl, rfl, ec_int ⟨_, _, rfl, rfl, ac_nil ⟨_, gb_int, ?_⟩⟩⟩))⟩)))))))) nd
      rintro d rfl
      refine ec_int ⟨_, 2147483629, rfl, rfl, by decide, ?_⟩
      refine sc_for (js := [4]) (ic_range (ec_int ⟨9, rfl, by decide, by decide, ?_⟩) b.range) (passes_of rfl)
      refine ⟨fun k ρ' => ∃ (l2 : List Int) (n2 : Int) (z2 : Option Sl), l2.length ≤ l.length + k ∧ k ≤ 9 ∧ ρ' = [some (.im (.klst (iL ns))), some (.ow p (.l (iL l2))), some (.im (.int (i : Int))), some (.im (.int c)), z2, some (.im (.int n2))], ⟨l, _, z, by omega, by decide, rfl⟩, ?_, ?_⟩
      · rintro k d ρk hk ⟨l2, n2, z2, hl2, _, rfl⟩
        obtain ⟨hk9, rfl⟩ := rngD_get hk
        have hk9' : k < 9 := hk9
        refine gt_name 4 ?_ nd
        refine sc_set 5 (ec_mod (ec_cty call_int1 rfl b.int (ac_cons (ec_add (ec_add (ec_add (ec_mul (ec_var 5 rfl (ec_int ⟨_, _, rfl, rfl, .inr ⟨by decide, by decide⟩, ec_mul (ec_var 4 rfl (ec_int ⟨_, _, rfl, rfl, .inr ⟨by decide, by decide⟩, _, _, rfl, rfl, ec_var 2 rfl ⟨_, _, rfl, rfl, ec_int ⟨_, _, rfl, rfl, ac_nil ⟨_, gb_int, ?_⟩⟩⟩⟩))⟩))))))))) nd
        rintro d rfl
        refine ec_int ⟨_, 2147483629, rfl, rfl, by decide, ?_⟩
        refine sc_app 1 rfl (ec_fdiv (ec_var 5 rfl (ec_int ⟨_, 7, rfl, rfl, ⟨by decide, by decide⟩, iL l2, rfl, by unfold iL; rw [List.length_map]; omega, ?_⟩)))
        refine sc_nil ⟨l2 ++ [(n2 * 16807 + (0 + (k : Int)) * 104729 + (i : Int) + 11) % 2147483629 / 7], (n2 * 16807 + (0 + (k : Int)) * 104729 + (i : Int) + 11) % 2147483629, some (.im (.int (0 + (k : Int)))), by rw [List.length_append]; simp; omega, hk9', ?_⟩
        rw [← iL_snoc]; rfl
      · rintro ρ3 ⟨l2, n2, z2, hl2, hk2, rfl⟩
        exact sc_nil (sc_nil ⟨l2, _, _, _, _, by have : (rngD 0 (9 : Int).toNat).length = 9 := rfl; omega, by omega, rfl⟩)
  · rintro ρ2 ⟨l, x, y, z, t, hl1, hl2, rfl⟩
    refine sc_rev 1 rfl (sc_retO 1 rfl ?_)
    show Ψ (.l (iL l).reverse)
    have e : (iL l).reverse = iL l.reverse := by unfold iL; rw [List.map_reverse]
    rw [e]
    exact hd _ (by rw [List.length_reverse]; omega)
theorem c_take (F : FunN K "_law_take" s__law_take f fd) (hm : mg "_law_take" = some (.ref f)) (b : Blt mg) : Cal P w K mg base "_law_take" 1 (PFo 1 S_take) := by
  have nd : (["pool", "many"] : List Str).Nodup := by decide +kernel
  refine cal_fo F hm (N := ["pool", "many"]) (ps := ["pool", "many"]) ⟨rfl, rfl, rfl, nd, rfl, by decide +kernel, by decide +kernel⟩ rfl (fun _ _ _ _ _ _ us hl => match us, hl with | [_, _], _ => rfl) ?_
  rintro cdv A outer s H E hr a o ds Ψ hl ⟨l, m, rfl, rfl, hm0, hd⟩
  refine sc_if (tc_eqS (ec_lenO 0 rfl (ec_int ⟨_, rfl, ?_⟩) b.len))
  by_cases hz : l = []
  · subst hz
    exact ⟨fun _ => sc_ret (ec_int ⟨_, rfl, hd 0 [] (by omega) (by omega)⟩), (fun z => nomatch z)⟩
  · obtain ⟨l0, x, rfl⟩ : ∃ l0 x, l = l0 ++ [x] := ⟨l.dropLast, l.getLast hz, (List.dropLast_concat_getLast hz).symm⟩
    have hlen : ((iL (l0 ++ [x])).length : Int) ≠ 0 := by unfold iL; simp; omega
    rw [decide_eq_false hlen]
    refine ⟨(fun z => nomatch z), fun _ => sc_nil ?_⟩
    rw [← iL_snoc]
    refine sc_ret (ec_mod (ec_cty call_int1 rfl b.int (ac_cons (ec_pop 0 rfl (ac_nil ⟨_, gb_int, ?_⟩)))))
    rintro d rfl
    exact ec_var 1 rfl ⟨x, m, rfl, rfl, hm0, _, rfl, hd _ l0 (Int.emod_nonneg _ (by omega)) (Int.emod_lt_of_pos _ hm0)⟩
theorem c_law_int (F : FunN K "_law_int" s__law_int f fd) (hm : mg "_law_int" = some (.ref f)) (b : Blt mg) : Cal P w K mg base "_law_int" 1 (PFn 1 S_is_number) := by
  refine cal_fn F hm (N := ["value"]) (ps := ["value"]) ⟨rfl, rfl, rfl, by decide +kernel, rfl, by decide +kernel, by decide +kernel⟩ rfl (fun _ _ _ _ _ _ us hl => match us, hl with | [_], _ => rfl) ?_
  rintro cdv A outer s H E hr ds Ψ hl ⟨v, rfl, ho, hd⟩
  refine sc_ret (ec_and (ec_isi kit_int rfl (ec_var 0 rfl ⟨ho, ?_⟩) b.isi b.int))
  refine ⟨_, rfl, fun h1 => ec_one (ec_not (ec_isi kit_bool rfl (ec_var 0 rfl ⟨ho, ?_⟩) b.isi b.bool)), fun h1 => ?_⟩
  · refine ⟨_, rfl, ?_⟩
    show Ψ _
    have : (!isBoolD v) = isNum v := by cases v <;> simp_all [isIntD, isBoolD, isNum]
    rw [this]; exact hd
  · show Ψ (.bl false)
    have : isNum v = false := by cases v <;> simp_all [isIntD, isBoolD, isNum]
    rw [this] at hd; exact hd
/-! the law's own tables -/
end
end T34
namespace AL
open PySem PySem.Spec PyProof.Rows L2 Evl
/-! ### contracts with what they want -/
section
variable (P : Program) (w : World) (K : PySem.W.Frag) (mg : Str → Option Value) (base : Heap) (x : Str) (k n : Nat)
structure KF (S : List D → (D → Prop) → Prop) : Prop where
  c : Cal P w K mg base x k (PFn n S)
  m : MonoF S
structure KX (S : List D → (D → Prop) → Er → Prop) : Prop where
  c : Cal P w K mg base x k (PFx n S)
  m : MonoX S
structure KO (S : OO → List D → (D → OO → Prop) → Prop) : Prop where
  c : Cal P w K mg base x k (PFo n S)
  m : MonoO S
structure KR (S : List D → (OO → Prop) → Prop) : Prop where
  c : Cal P w K mg base x k (PFr n S)
  m : MonoR S
structure KP (S : OO → List D → (OO → OO → Prop) → Prop) : Prop where
  c : Cal P w K mg base x k (PFor n S)
  m : MonoOr S
structure KI (C : Addr) (S : List D → (List (Str × D) → Prop) → Er → Prop) : Prop where
  c : CalC P w K mg base x C k (PFi n C S)
  m : MonoI S
structure KM (C : Addr) (S : List D → (D → Prop) → Prop) : Prop where
  cl : Cls K C
  c : CalM P w K mg base C x k (PFn n S)
  m : MonoF S
end
section
variable {X : Cx} {Z : Zx} {e o : Expr} {es : List Expr} {ρ : En} {Φ : D → En → Prop} {Θ : OO → En → Prop} {p pos apos ps : Pos} {x f m : Str} {k k0 n : Nat} {C : Addr}
theorem ek_f {S : List D → (D → Prop) → Prop} (c : KF X.prog X.w X.K X.mg X.base x k n S) (hr : Room k X.A) (hx : PassW X Z) (h : AC X Z (e :: es) ρ fun ds ρ1 => ds.length = n ∧ S ds fun d => Φ d ρ1)
    (hg : Gl X x := by rfl) (hdb : (x == ("__debug__" : Str)) = false := by decide) (he : starEach (e :: es) X.env = (false, eval e X.env) :: starEach es X.env := by rfl) (hpl : (backTo pos (starEach es X.env)).any (·.1) = false := by rfl) : EC X Z (.Call (.Name x p) (e :: es) [] pos) ρ Φ := ec_cf c.c hr hx c.m h hg hdb he hpl
theorem ek_x {S : List D → (D → Prop) → Er → Prop} (c : KX X.prog X.w X.K X.mg X.base x k n S) (hr : Room k X.A) (hx : PassW X Z) (h : AC X Z (e :: es) ρ fun ds ρ1 => ds.length = n ∧ S ds (fun d => Φ d ρ1) fun C fs => Z.R C fs ρ1)
    (hg : Gl X x := by rfl) (hdb : (x == ("__debug__" : Str)) = false := by decide) (he : starEach (e :: es) X.env = (false, eval e X.env) :: starEach es X.env := by rfl) (hpl : (backTo pos (starEach es X.env)).any (·.1) = false := by rfl) : EC X Z (.Call (.Name x p) (e :: es) [] pos) ρ Φ := ec_cx c.c hr hx c.m h hg hdb he hpl
theorem ek_o {S : OO → List D → (D → OO → Prop) → Prop} (i : Nat) {a : Addr} {oo : OO} (hd : ρ[i]? = some (some (.ow a oo))) (c : KO X.prog X.w X.K X.mg X.base f k n S) (hr : Room k X.A) (hx : PassW X Z)
    (h : AC X Z es ρ fun ds ρ1 => ∃ o1, ρ1[i]? = some (some (.ow a o1)) ∧ ds.length = n ∧ S o1 ds fun d o' => Φ d (ρ1.set i (some (.ow a o'))))
    (hg : Gl X f := by rfl) (hdf : (f == ("__debug__" : Str)) = false := by decide) (hN : X.N[i]? = some x := by rfl) (hv : Vis X.env.scope x := by first | exact Or.inl rfl | exact Or.inr (Or.inl rfl) | exact Or.inr (Or.inr rfl)) (hdb : (x == ("__debug__" : Str)) = false := by decide) (hcd : (x == ("__classdict__" : Str)) = false := by decide)
    (he : starEach (.Name x ps :: es) X.env = (false, eval (.Name x ps) X.env) :: starEach es X.env := by rfl) (hpl : (backTo pos (starEach es X.env)).any (·.1) = false := by rfl) : EC X Z (.Call (.Name f p) (.Name x ps :: es) [] pos) ρ Φ := ec_co i hd c.c hr hx c.m h hg hdf hN hv hdb hcd he hpl
theorem fk_r {S : List D → (OO → Prop) → Prop} (c : KR X.prog X.w X.K X.mg X.base x k n S) (hr : Room k X.A) (hx : PassW X Z) (h : AC X Z (e :: es) ρ fun ds ρ1 => ds.length = n ∧ S ds fun o => Θ o ρ1)
    (hg : Gl X x := by rfl) (hdb : (x == ("__debug__" : Str)) = false := by decide) (he : starEach (e :: es) X.env = (false, eval e X.env) :: starEach es X.env := by rfl) (hpl : (backTo pos (starEach es X.env)).any (·.1) = false := by rfl) : FC X Z (.Call (.Name x p) (e :: es) [] pos) ρ Θ := fc_cr c.c hr hx c.m h hg hdb he hpl
theorem ek_i {S : List D → (List (Str × D) → Prop) → Er → Prop} (c : KI X.prog X.w X.K X.mg X.base x k n C S) (hr : Room (k + 1) X.A) (hx : PassW X Z) (h : AC X Z (e :: es) ρ fun ds ρ1 => ds.length = n ∧ S ds (fun fs => Φ (.obj C fs) ρ1) fun C fs => Z.R C fs ρ1)
    (hg : Gl X x := by rfl) (hdb : (x == ("__debug__" : Str)) = false := by decide) (he : starEach (e :: es) X.env = (false, eval e X.env) :: starEach es X.env := by rfl) (hpl : (backTo pos (starEach es X.env)).any (·.1) = false := by rfl) : EC X Z (.Call (.Name x p) (e :: es) [] pos) ρ Φ := ec_mk c.c hr hx c.m h hg hdb he hpl
end
end AL
namespace AL
open PySem PySem.Spec PyProof.Rows L2 Evl
/-! ### operators of the program's own classes -/
def tyD : D → Option Value
  | .non => some (.type "NoneType")
  | .bl _ => some (.type "bool")
  | .int _ => some (.type "int")
  | .str _ => some (.type "str")
  | .lst _ => some (.type "list")
  | .tup _ => some (.type "tuple")
  | .obj C _ => some (.ref C)
  | _ => none
theorem ty_none : typeOf Value.none = pure (.type "NoneType") := by kernel_rfl
theorem looks_d {X : Cx} {pins : List (Addr × Obj)} {σ : L2.St} {B H : Hp} {s : Shared} {v : V} {u : Value} {d : D} {t : Value} (I : Inv X pins σ H s) (e : Ex B H) (r : Rep X.K B v d) (rv : RelV v u) (h : tyD d = some t) : PySem.W.Looks (model X.prog X.w) s.heap (typeOf u) t := by
  cases r with
  | non => cases h; cases (show u = Value.none from rv); exact PySem.W.Looks.of_pure (by kernel_rfl)
  | bl b => cases h; cases (show u = Value.bool b from rv); exact PySem.W.Looks.of_pure (by kernel_rfl)
  | int i => cases h; obtain ⟨k, q⟩ := (show ∃ k, u = Value.int i k from rv); cases q; exact PySem.W.Looks.of_pure rfl
  | str i => cases h; obtain ⟨k, q⟩ := (show ∃ k, u = Value.str i k from rv); cases q; exact PySem.W.Looks.of_pure rfl
  | @lst a xs ds ha _ =>
    cases h; cases (show u = Value.ref a from rv)
    obtain ⟨_, _, n, _, h1⟩ := (show ObjOk X.prog X.w H s.heap a (.lst xs) from I.hok a _ (e _ _ ha))
    exact (PySem.W.Looks.ld (part := none) h1).andThen .now
  | @tup a xs ds ha _ =>
    cases h; cases (show u = Value.ref a from rv)
    obtain ⟨_, _, _, o, h1, h2, _⟩ := (show ObjOk X.prog X.w H s.heap a (.tup xs) from I.hok a _ (e _ _ ha))
    exact (PySem.W.Looks.ld (part := none) h1).andThen (by rw [h2]; exact .now)
  | @obj a C dx fs gs ha _ =>
    cases h; cases (show u = Value.ref a from rv)
    obtain ⟨mA, J, _⟩ := ins_get I.hok (e _ _ ha)
    obtain ⟨od, J, _⟩ := J.look
    exact J.type
  | _ => cases h
section
variable {X : Cx} {Z : Zx} {a b : Expr} {ρ : En} {Φ : D → En → Prop} {Ψ : Bool → En → Prop} {pos : Pos} {k : Nat} {C : Addr} {m : Str} {S : List D → (D → Prop) → Prop}
/-- what a == b of an own class does, as a reading of the two values -/
theorem own_cmp {op : CmpOp} (c : CalM X.prog X.w X.K X.mg X.base C (cmpInfo op).2.1 k (PFn 2 S)) (hr : Room k X.A) (hx : PassW X Z) {pins : List (Addr × Obj)} {σ : L2.St} {s : Shared} {B H : Hp} {x y : V} {v u : Value} {d : D} {t : Value} {Q : VK} {gs : List (Str × D)}
    (I : Inv X pins σ H s) (e : Ex B H) (r1 : Rep X.K B x (.obj C gs)) (r2 : Rep X.K B y d) (rx : RelV x v) (ry : RelV y u) (ht : tyD d = some t) (hn : PySem.W.notFirst X.K C t = true)
    (q : Csp X.K (PFn 2 S) [x, y] H Q (fun c d H => Z.E c d σ H)) : wpAny (model X.prog X.w) X.A (richCompare op v u) (EP X pins σ Q) X.xe s := by
  obtain ⟨f, fd, ps, F, mm, bd⟩ := c.ex
  have L := looks_d I e r2 ry ht
  cases r1 with
  | @obj a' _ dx fs _ ha hf =>
    cases (show v = Value.ref a' from rx)
    obtain ⟨mA, J, _⟩ := ins_get I.hok (e _ _ ha)
    obtain ⟨od, J, _⟩ := J.look
    obtain ⟨mm', hF⟩ := I.fr
    refine PySem.W.cmp_K hr.units0 hF I.ok.mod.kin J L hn mm.at_ mm.fn (thn (run_at (E := fun σ c d H => Z.E c d σ H) (vs := [.ref a', y]) F hr rfl bd hx I (.cons rfl (.cons ry .nil)) q) fun w s' z => ?_)
    obtain ⟨z', H', I', rz, qz⟩ := z
    exact SlX.cmpback rz ⟨z', H', I', rz, qz⟩
/-- a == b, a of an own class -/
theorem ec_eqO (c : CalM X.prog X.w X.K X.mg X.base C "__eq__" k (PFn 2 S)) (hr : Room k X.A) (hx : PassW X Z) (mo : MonoF S)
    (h : EC X Z a ρ fun d0 ρ0 => ∃ gs, d0 = .obj C gs ∧ EC X Z b ρ0 fun d1 ρ1 => ∃ t, tyD d1 = some t ∧ PySem.W.notFirst X.K C t = true ∧ S [d0, d1] fun r => Φ r ρ1) (hm : behindInMarks .Eq b = false := by rfl) : EC X Z (.Compare a [.Eq] [b] pos) ρ Φ := fun B G H σ o0 z Q q => by
  refine PE.w (t := fun σ H Q => wE X a σ H fun x H1 => wE X b σ H1 fun y H2 => ∃ B2 gs d t, Ex B2 H2 ∧ Rep X.K B2 x (.obj C gs) ∧ Rep X.K B2 y d ∧ tyD d = some t ∧ PySem.W.notFirst X.K C t = true ∧ Csp X.K (PFn 2 S) [x, y] H2 Q (fun c d H => Z.E c d σ H)) ⟨fun pins s σ H Q I hh => ?_⟩ ?_
  · refine wpAny_Compare1 (binT p_wE p_wE I hh fun v u s2 x y H2 I2 rx ry ⟨B2, gs, d, t, e, r1, r2, ht, hn, q⟩ => ?_) hm
    exact own_cmp (op := .Eq) c hr hx I2 e r1 r2 rx ry ht hn q
  · refine h B G H σ o0 z _ fun d0 ρ0 v B0 H0 ⟨gs, hd, h1⟩ e0 o1 r0 => h1 B0 G H0 σ o1 (z.up e0) _ fun d1 ρ1 y B1 H1 ⟨t, ht, hn, hk⟩ e1 o2 r1 => ?_
    subst hd
    exact ⟨B1, gs, d1, t, o2.s.ex, r0.up e1, r1, ht, hn, B1, rest B1 H1 none, _, o2.call (.cons (r0.up e1) (.cons r1 .nil)), PFn.mono mo _ _ _ (want_ok o2 (e0.trans e1) z q) ⟨[.obj C gs, d1], rfl, rfl, mo _ _ _ (fun d hd => ⟨rfl, hd⟩) hk⟩⟩
/-- the same as a test -/
theorem tc_eqO (c : CalM X.prog X.w X.K X.mg X.base C "__eq__" k (PFn 2 S)) (hr : Room k X.A) (hx : PassW X Z) (mo : MonoF S)
    (h : EC X Z a ρ fun d0 ρ0 => ∃ gs, d0 = .obj C gs ∧ EC X Z b ρ0 fun d1 ρ1 => ∃ t, tyD d1 = some t ∧ PySem.W.notFirst X.K C t = true ∧ S [d0, d1] fun r => ∃ k, r = .bl k ∧ Ψ k ρ1) (hm : behindInMarks .Eq b = false := by rfl) : TC X Z (.Compare a [.Eq] [b] pos) ρ Ψ := fun B G H σ o0 z Q q => by
  refine PT.w (t := fun σ H Q => wE X a σ H fun x H1 => wE X b σ H1 fun y H2 => ∃ B2 gs d t, Ex B2 H2 ∧ Rep X.K B2 x (.obj C gs) ∧ Rep X.K B2 y d ∧ tyD d = some t ∧ PySem.W.notFirst X.K C t = true ∧ Csp X.K (PFn 2 S) [x, y] H2 (fun v H' => ∃ k, v = .bl k ∧ Q k H') (fun c d H => Z.E c d σ H)) ⟨fun pins s σ H Q I hh => ?_⟩ ?_
  · refine wpAny_isTrue_Compare1 (binT p_wE p_wE I hh fun v u s2 x y H2 I2 rx ry ⟨B2, gs, d, t, e, r1, r2, ht, hn, q⟩ => ?_) hm
    refine thn (own_cmp (op := .Eq) c hr hx I2 e r1 r2 rx ry ht hn q) fun c s3 ⟨z, H3, I3, r3, k, e3, q3⟩ => ?_
    subst e3
    cases r3
    exact wpAny_truthy_bool ⟨H3, I3, q3⟩
  · refine h B G H σ o0 z _ fun d0 ρ0 v B0 H0 ⟨gs, hd, h1⟩ e0 o1 r0 => h1 B0 G H0 σ o1 (z.up e0) _ fun d1 ρ1 y B1 H1 ⟨t, ht, hn, hk⟩ e1 o2 r1 => ?_
    subst hd
    refine ⟨B1, gs, d1, t, o2.s.ex, r0.up e1, r1, ht, hn, B1, rest B1 H1 none, _, o2.call (.cons (r0.up e1) (.cons r1 .nil)), PFn.mono mo _ _ _ (want_ok (Φ := fun d ρ' => ∃ k, d = .bl k ∧ Ψ k ρ') o2 (e0.trans e1) z fun d ρ' v B' H' ⟨k, hd, hk⟩ e o r => ?_) ⟨[.obj C gs, d1], rfl, rfl, mo _ _ _ (fun d hd => ⟨rfl, hd⟩) hk⟩⟩
    subst hd; cases r
    exact ⟨k, rfl, q k ρ' B' H' hk e o⟩
/-- a op b, both of an own class -/
theorem ec_binO {op : Operator} (c : CalM X.prog X.w X.K X.mg X.base C (PySem.dunder op.info.2) k (PFn 2 S)) (hr : Room k X.A) (hx : PassW X Z) (mo : MonoF S) (hc : PySem.W.selfFirst X.K C = true)
    (h : EC X Z a ρ fun d0 ρ0 => ∃ gs, d0 = .obj C gs ∧ EC X Z b ρ0 fun d1 ρ1 => ∃ gs', d1 = .obj C gs' ∧ S [d0, d1] fun r => Φ r ρ1) : EC X Z (.BinOp a op b pos) ρ Φ := fun B G H σ o0 z Q q => by
  refine PE.w (t := fun σ H Q => wE X a σ H fun x H1 => wE X b σ H1 fun y H2 => ∃ B2 gs gs', Ex B2 H2 ∧ Rep X.K B2 x (.obj C gs) ∧ Rep X.K B2 y (.obj C gs') ∧ Csp X.K (PFn 2 S) [x, y] H2 Q (fun c d H => Z.E c d σ H)) ⟨fun pins s σ H Q I hh => ?_⟩ ?_
  · refine wpAny_BinOp (binT p_wE p_wE I hh fun v u s2 x y H2 I2 rx ry ⟨B2, gs, gs', e, r1, r2, q⟩ => ?_)
    obtain ⟨f, fd, ps, F, mm, bd⟩ := c.ex
    have L := looks_d I2 e r2 ry rfl
    cases r1 with
    | @obj a' _ dx fs _ ha hf =>
      cases (show v = Value.ref a' from rx)
      obtain ⟨mA, J, _⟩ := ins_get I2.hok (e _ _ ha)
      obtain ⟨od, J, _⟩ := J.look
      obtain ⟨mm', hF⟩ := I2.fr
      refine PySem.W.binop_K hF I2.ok.mod.kin J L hc mm.at_ mm.fn (thn (run_at (E := fun σ c d H => Z.E c d σ H) (vs := [.ref a', y]) F hr rfl bd hx I2 (.cons rfl (.cons ry .nil)) q) fun w s' z => ?_)
      obtain ⟨z', H', I', rz, qz⟩ := z
      exact SlX.cmpback rz ⟨z', H', I', rz, qz⟩
  · refine h B G H σ o0 z _ fun d0 ρ0 v B0 H0 ⟨gs, hd, h1⟩ e0 o1 r0 => h1 B0 G H0 σ o1 (z.up e0) _ fun d1 ρ1 y B1 H1 ⟨gs', hd', hk⟩ e1 o2 r1 => ?_
    subst hd; subst hd'
    exact ⟨B1, gs, gs', o2.s.ex, r0.up e1, r1, B1, rest B1 H1 none, _, o2.call (.cons (r0.up e1) (.cons r1 .nil)), PFn.mono mo _ _ _ (want_ok o2 (e0.trans e1) z q) ⟨[.obj C gs, .obj C gs'], rfl, rfl, mo _ _ _ (fun d hd => ⟨rfl, hd⟩) hk⟩⟩
end
end AL
namespace AL
open PySem PySem.Spec PyProof.Rows L2 Evl
/-! ### comprehensions whose body leaves everything as it is -/
/-- none of these slots is owned -/
def freeAt (ρ : En) (vs : List Nat) : Bool := vs.all fun v => match ρ[v]? with
  | some (some (.ow _ _)) => false
  | _ => true
theorem free_back {ρ : En} {vs : List Nat} (h : freeAt ρ vs = true) : BackE ρ (wipeE ρ vs) ρ := by
  refine ⟨rfl, fun i d h => h, fun i a o hi => ⟨?_, _, hi⟩⟩
  have hn : i ∉ vs := fun hm => by
    unfold freeAt at h
    rw [List.all_eq_true] at h
    have := h i hm
    rw [hi] at this
    cases this
  have out : ∀ (vs : List Nat), i ∉ vs → (wipeE ρ vs)[i]? = ρ[i]? := by
    intro vs
    induction vs with
    | nil => intro _; rfl
    | cons v vs ih =>
      intro hm
      show ((wipeE ρ vs).set v none)[i]? = _
      have hne : v ≠ i := fun e => hm (e ▸ List.mem_cons_self)
      rw [List.getElem?_set_ne hne]
      exact ih fun z => hm (List.mem_cons_of_mem _ z)
  rw [out vs hn]; exact hi
section
variable {X : Cx} {Z : Zx} {tg iter cnd elt : Expr} {scope : Scope} {pos py spos : Pos} {ρ : En} {Φ : OO → En → Prop} {y : Str} {sts : List Stmt} {O : Outs} {α : Type}
theorem take_filter {xs : List α} {k : α → Bool} {g : α → D} {i : Nat} {x : α} (h : xs[i]? = some x) : ((xs.take (i + 1)).filter k).map g = ((xs.take i).filter k).map g ++ (if k x then [g x] else []) := by
  rw [List.take_add_one, h]
  show ((_ ++ [x]).filter k).map g = _
  rw [List.filter_append, List.map_append]
  cases e : k x <;> simp [e]
def BodyF (X : Cx) (scope : Scope) (tg cnd elt : Expr) (own : List (Str × Nat)) (js : List Nat) (ρ : En) (d : D) (b : Bool) (y : D) : Prop :=
  AllB X scope fun X' => GT X' tg js d (wipeE ρ (own.map (·.2))) fun ρ3 => AllB X scope fun X' => TC X' Z0 cnd ρ3 fun k ρ5 => k = b ∧ (k = true → AllB X scope fun X' => EC X' Z0 elt ρ5 fun z ρ4 => z = y ∧ wipeE ρ4 (own.map (·.2)) = wipeE ρ (own.map (·.2))) ∧ (k = false → wipeE ρ5 (own.map (·.2)) = wipeE ρ (own.map (·.2)))
def BodyM (X : Cx) (scope : Scope) (tg elt : Expr) (own : List (Str × Nat)) (js : List Nat) (ρ : En) (d : D) (y : D) : Prop :=
  AllB X scope fun X' => GT X' tg js d (wipeE ρ (own.map (·.2))) fun ρ3 => AllB X scope fun X' => EC X' Z0 elt ρ3 fun z ρ4 => z = y ∧ wipeE ρ4 (own.map (·.2)) = wipeE ρ (own.map (·.2))
theorem len_tf {xs : List α} {k : α → Bool} {g : α → D} {i : Nat} (h : xs.length ≤ 50000) : (((xs.take i).filter k).map g).length ≤ 50000 := by
  rw [List.length_map]
  have h1 := List.length_filter_le k (xs.take i)
  rw [List.length_take] at h1; omega
/-- [elt for tg in xs if cnd] -/
theorem fc_F (xs : List α) (φ : α → D) (k : α → Bool) (g : α → D) (own : List (Str × Nat)) (js : List Nat) (h : IC X Z tg iter ρ fun ds ρ1 => ds = xs.map φ ∧ xs.length ≤ 50000 ∧ freeAt ρ1 (own.map (·.2)) = true ∧ (∀ x ∈ xs, BodyF X scope tg cnd elt own js ρ1 (φ x) (k x) (g x)) ∧ Φ (.l ((xs.filter k).map g)) ρ1)
    (nd : X.N.Nodup) (hjs : ∀ j ∈ js, j ∈ own.map (·.2)) (ok : BlkOk X.N X.env.scope scope own := by exact blkOk_by (by first | decide +kernel | kernel_rfl)) (hc : X.calm = true := by rfl) (hs : ∀ x, foldedSetIterable iter X.env x = pure x := by intro _; rfl) :
    FC X Z (.ListComp elt [⟨tg, iter, [cnd], 0⟩] scope pos) ρ Φ := by
  refine fc_lcIf own js (fun B G H σ o z Q q => h B G H σ o z Q fun ds ρ1 J B' H' ⟨e, hl, hf, hb, hk⟩ => q ds ρ1 J B' H' ?_) nd hjs ok hc hs
  subst e
  refine ⟨fun _ => wipeE ρ1 (own.map (·.2)), fun i => ((xs.take i).filter k).map g, ρ1, rfl, rfl, fun i _ => len_tf hl, fun i d hid => ?_, free_back hf, ?_⟩
  · rw [List.getElem?_map] at hid
    obtain ⟨x, hx, rfl⟩ := Option.map_eq_some_iff.mp hid
    have hb := hb x (List.mem_of_getElem? hx)
    intro s H C cl fp
    intro B G H σ v o r Q q
    refine hb s _ C cl fp B G H σ v o r Q fun ρ' σ' B' H' hg => q ρ' σ' B' H' ?_
    intro s H C cl fp
    intro B G H σ o z Q q
    refine hg s _ C cl fp B G H σ o z Q fun b ρ' B' H' ⟨hb, ht, hf⟩ => q b ρ' B' H' ⟨fun h => ?_, fun h => ?_⟩
    · intro s H C cl fp
      intro B G H σ o z Q q
      refine ht h s _ C cl fp B G H σ o z Q fun d ρ' v B' H' ⟨he, hw⟩ => q d ρ' v B' H' ⟨?_, hw⟩
      dsimp only
      rw [take_filter hx, ← hb, h, he]; rfl
    · refine ⟨?_, hf h⟩
      dsimp only
      rw [take_filter hx, ← hb, h]; simp
  · dsimp only
    rw [List.length_map, List.take_length]; exact hk
theorem sc_F (i : Nat) (xs : List α) (φ : α → D) (k : α → Bool) (g : α → D) (own : List (Str × Nat)) (js : List Nat) (h : IC X Z tg iter ρ fun ds ρ1 => ds = xs.map φ ∧ xs.length ≤ 50000 ∧ freeAt ρ1 (own.map (·.2)) = true ∧ (∀ x ∈ xs, BodyF X scope tg cnd elt own js ρ1 (φ x) (k x) (g x)) ∧ ∀ p, SC X Z sts (ρ1.set i (some (.ow p (.l ((xs.filter k).map g))))) O)
    (nd : X.N.Nodup) (hjs : ∀ j ∈ js, j ∈ own.map (·.2)) (ok : BlkOk X.N X.env.scope scope own := by exact blkOk_by (by first | decide +kernel | kernel_rfl)) (hc : X.calm = true := by rfl) (hs : ∀ x, foldedSetIterable iter X.env x = pure x := by intro _; rfl)
    (hy : X.N[i]? = some y := by rfl) (hyl : X.env.scope.names.lookup y = some .local := by rfl) (hsw : swapsWith (.ListComp elt [⟨tg, iter, [cnd], 0⟩] scope pos) (some (.Name y py)) spos.line X.env = pure true := by rfl) :
    SC X Z (.Assign [.Name y py] (.ListComp elt [⟨tg, iter, [cnd], 0⟩] scope pos) spos :: sts) ρ O := by
  refine sc_lcIf i own js (fun B G H σ o z Q q => h B G H σ o z Q fun ds ρ1 J B' H' ⟨e, hl, hf, hb, hk⟩ => q ds ρ1 J B' H' ?_) nd hjs ok hc hs hy hyl hsw
  subst e
  refine ⟨fun _ => wipeE ρ1 (own.map (·.2)), fun i => ((xs.take i).filter k).map g, ρ1, rfl, rfl, fun i _ => len_tf hl, fun i d hid => ?_, free_back hf, ?_⟩
  · rw [List.getElem?_map] at hid
    obtain ⟨x, hx, rfl⟩ := Option.map_eq_some_iff.mp hid
    have hb := hb x (List.mem_of_getElem? hx)
    intro s H C cl fp
    intro B G H σ v o r Q q
    refine hb s _ C cl fp B G H σ v o r Q fun ρ' σ' B' H' hg => q ρ' σ' B' H' ?_
    intro s H C cl fp
    intro B G H σ o z Q q
    refine hg s _ C cl fp B G H σ o z Q fun b ρ' B' H' ⟨hb, ht, hf⟩ => q b ρ' B' H' ⟨fun h => ?_, fun h => ?_⟩
    · intro s H C cl fp
      intro B G H σ o z Q q
      refine ht h s _ C cl fp B G H σ o z Q fun d ρ' v B' H' ⟨he, hw⟩ => q d ρ' v B' H' ⟨?_, hw⟩
      dsimp only
      rw [take_filter hx, ← hb, h, he]; rfl
    · refine ⟨?_, hf h⟩
      dsimp only
      rw [take_filter hx, ← hb, h]; simp
  · dsimp only
    rw [List.length_map, List.take_length]; exact hk
theorem take_map {xs : List α} {g : α → D} {i : Nat} {x : α} (h : xs[i]? = some x) : (xs.take (i + 1)).map g = (xs.take i).map g ++ [g x] := by
  rw [List.take_add_one, h, List.map_append]; rfl
/-- [elt for tg in xs] -/
theorem fc_M (xs : List α) (φ : α → D) (g : α → D) (own : List (Str × Nat)) (js : List Nat) (h : IC X Z tg iter ρ fun ds ρ1 => ds = xs.map φ ∧ xs.length ≤ 50000 ∧ freeAt ρ1 (own.map (·.2)) = true ∧ (∀ x ∈ xs, BodyM X scope tg elt own js ρ1 (φ x) (g x)) ∧ Φ (.l (xs.map g)) ρ1)
    (nd : X.N.Nodup) (hjs : ∀ j ∈ js, j ∈ own.map (·.2)) (ok : BlkOk X.N X.env.scope scope own := by exact blkOk_by (by first | decide +kernel | kernel_rfl)) (hc : X.calm = true := by rfl) (hs : ∀ x, foldedSetIterable iter X.env x = pure x := by intro _; rfl) :
    FC X Z (.ListComp elt [⟨tg, iter, [], 0⟩] scope pos) ρ Φ := by
  refine fc_lc own js (fun B G H σ o z Q q => h B G H σ o z Q fun ds ρ1 J B' H' ⟨e, hl, hf, hb, hk⟩ => q ds ρ1 J B' H' ?_) nd hjs ok hc hs
  subst e
  refine ⟨fun _ => wipeE ρ1 (own.map (·.2)), fun i => (xs.take i).map g, ρ1, rfl, rfl, fun i _ => by dsimp only; rw [List.length_map, List.length_take]; omega, fun i d hid => ?_, free_back hf, ?_⟩
  · rw [List.getElem?_map] at hid
    obtain ⟨x, hx, rfl⟩ := Option.map_eq_some_iff.mp hid
    have hb := hb x (List.mem_of_getElem? hx)
    intro s H C cl fp
    intro B G H σ v o r Q q
    refine hb s _ C cl fp B G H σ v o r Q fun ρ' σ' B' H' hg => q ρ' σ' B' H' ?_
    intro s H C cl fp
    intro B G H σ o z Q q
    refine hg s _ C cl fp B G H σ o z Q fun d ρ' v B' H' ⟨he, hw⟩ => q d ρ' v B' H' ⟨?_, hw⟩
    dsimp only
    rw [take_map hx, he]
  · dsimp only
    rw [List.length_map, List.take_length]; exact hk
theorem sc_M (i : Nat) (xs : List α) (φ : α → D) (g : α → D) (own : List (Str × Nat)) (js : List Nat) (h : IC X Z tg iter ρ fun ds ρ1 => ds = xs.map φ ∧ xs.length ≤ 50000 ∧ freeAt ρ1 (own.map (·.2)) = true ∧ (∀ x ∈ xs, BodyM X scope tg elt own js ρ1 (φ x) (g x)) ∧ ∀ p, SC X Z sts (ρ1.set i (some (.ow p (.l (xs.map g))))) O)
    (nd : X.N.Nodup) (hjs : ∀ j ∈ js, j ∈ own.map (·.2)) (ok : BlkOk X.N X.env.scope scope own := by exact blkOk_by (by first | decide +kernel | kernel_rfl)) (hc : X.calm = true := by rfl) (hs : ∀ x, foldedSetIterable iter X.env x = pure x := by intro _; rfl)
    (hy : X.N[i]? = some y := by rfl) (hyl : X.env.scope.names.lookup y = some .local := by rfl) (hsw : swapsWith (.ListComp elt [⟨tg, iter, [], 0⟩] scope pos) (some (.Name y py)) spos.line X.env = pure true := by rfl) :
    SC X Z (.Assign [.Name y py] (.ListComp elt [⟨tg, iter, [], 0⟩] scope pos) spos :: sts) ρ O := by
  refine sc_lc i own js (fun B G H σ o z Q q => h B G H σ o z Q fun ds ρ1 J B' H' ⟨e, hl, hf, hb, hk⟩ => q ds ρ1 J B' H' ?_) nd hjs ok hc hs hy hyl hsw
  subst e
  refine ⟨fun _ => wipeE ρ1 (own.map (·.2)), fun i => (xs.take i).map g, ρ1, rfl, rfl, fun i _ => by dsimp only; rw [List.length_map, List.length_take]; omega, fun i d hid => ?_, free_back hf, ?_⟩
  · rw [List.getElem?_map] at hid
    obtain ⟨x, hx, rfl⟩ := Option.map_eq_some_iff.mp hid
    have hb := hb x (List.mem_of_getElem? hx)
    intro s H C cl fp
    intro B G H σ v o r Q q
    refine hb s _ C cl fp B G H σ v o r Q fun ρ' σ' B' H' hg => q ρ' σ' B' H' ?_
    intro s H C cl fp
    intro B G H σ o z Q q
    refine hg s _ C cl fp B G H σ o z Q fun d ρ' v B' H' ⟨he, hw⟩ => q d ρ' v B' H' ⟨?_, hw⟩
    dsimp only
    rw [take_map hx, he]
  · dsimp only
    rw [List.length_map, List.take_length]; exact hk
end
/-- range(n) walked, as data of numbers -/
theorem rng_map (n : Nat) : rngD 0 (n : Int).toNat = (List.range n).map fun (i : Nat) => D.int (i : Int) := by
  unfold rngD
  rw [Int.toNat_natCast]
  refine List.map_congr_left fun i _ => ?_
  rw [Int.zero_add]
end AL
namespace AL
open PySem PySem.Spec PyProof.Rows L2 Evl
/-! ### plain data of a Lean type: == is = -/
structure PyT {α : Type} [DecidableEq α] (φ : α → D) (n : Nat) where
  f : α → PyData
  py : ∀ a, pyD (φ a) = some (f a)
  lay : ∀ a, PyData.canLay0 (f a) = true
  dep : ∀ a, PyData.depth (f a) ≤ n
  eq : ∀ a b, PyData.eqv (f a) (f b) = decide (a = b)
section
variable {α β : Type} [DecidableEq α] [DecidableEq β] {φ : α → D} {ψ : β → D} {n m : Nat}
theorem PyT.shp (P : PyT φ n) (hn : n ≤ 20) (a : α) : SeqAt.shaped (P.f a) = true := by
  unfold SeqAt.shaped
  rw [Bool.and_eq_true, decide_eq_true_eq]
  have := P.dep a
  exact ⟨P.lay a, by omega⟩
theorem layAll (P : PyT φ n) : ∀ l : List α, PyData.canLayAll0 (l.map P.f) = true
  | [] => by rw [List.map_nil, PyData.canLayAll0]
  | a :: l => by rw [List.map_cons, PyData.canLayAll0, P.lay, layAll P l]; rfl
theorem depAll (P : PyT φ n) : ∀ l : List α, PyData.depthAll (l.map P.f) ≤ n
  | [] => by rw [List.map_nil, PyData.depthAll]; omega
  | a :: l => by
    rw [List.map_cons, PyData.depthAll]
    have := depAll P l
    have := P.dep a
    omega
theorem eqvAll (P : PyT φ n) : ∀ k l : List α, PyData.eqvAll (k.map P.f) (l.map P.f) = decide (k = l)
  | [], [] => by simp [PyData.eqvAll]
  | [], _ :: _ => by simp [PyData.eqvAll]
  | _ :: _, [] => by simp [PyData.eqvAll]
  | a :: k, b :: l => by
    rw [List.map_cons, List.map_cons, PyData.eqvAll, eqvAll P k l, P.eq]
    by_cases h : a = b <;> simp [h]
def PyT.lst (P : PyT φ n) : PyT (fun l : List α => D.lst (l.map φ)) (n + 1) where
  f l := .list (l.map P.f)
  py l := by rw [pyD, pyDs_map φ P.f P.py l]
  lay l := by rw [PyData.canLay0]; exact layAll P l
  dep l := by rw [PyData.depth]; have := depAll P l; omega
  eq k l := by rw [PyData.eqv]; exact eqvAll P k l
def PyT.tup (P : PyT φ n) : PyT (fun l : List α => D.tup (l.map φ)) (n + 1) where
  f l := .tuple (l.map P.f)
  py l := by rw [pyD, pyDs_map φ P.f P.py l]
  lay l := by rw [PyData.canLay0]; exact layAll P l
  dep l := by rw [PyData.depth]; have := depAll P l; omega
  eq k l := by rw [PyData.eqv]; exact eqvAll P k l
def PyT.int : PyT D.int 1 where
  f i := .int i
  py i := by rw [pyD]
  lay i := by rw [PyData.canLay0]
  dep i := by rw [PyData.depth]; omega
  eq a b := by rw [PyData.eqv]; by_cases h : a = b <;> simp [h]
def PyT.nat : PyT (fun n : Nat => D.int (n : Int)) 1 where
  f i := .int i
  py i := by rw [pyD]
  lay i := by rw [PyData.canLay0]
  dep i := by rw [PyData.depth]; omega
  eq a b := by
    rw [PyData.eqv]
    by_cases h : a = b
    · simp [h]
    · have : ¬ ((a : Int) = (b : Int)) := fun z => h (by omega)
      simp [h, this]
def PyT.bool : PyT D.bl 1 where
  f i := .bool i
  py i := by rw [pyD]
  lay i := by rw [PyData.canLay0]
  dep i := by rw [PyData.depth]; omega
  eq a b := by rw [PyData.eqv]; cases a <;> cases b <;> rfl
def PyT.pair (P : PyT φ n) (Q : PyT ψ n) : PyT (fun p : α × β => D.tup [φ p.1, ψ p.2]) (n + 1) where
  f p := .tuple [P.f p.1, Q.f p.2]
  py p := by rw [pyD, pyDs, pyDs, pyDs, P.py, Q.py]
  lay p := by rw [PyData.canLay0, PyData.canLayAll0, PyData.canLayAll0, PyData.canLayAll0, P.lay, Q.lay]; rfl
  dep p := by rw [PyData.depth, PyData.depthAll, PyData.depthAll, PyData.depthAll]; have := P.dep p.1; have := Q.dep p.2; omega
  eq p q := by
    rw [PyData.eqv, PyData.eqvAll, PyData.eqvAll, PyData.eqvAll, P.eq, Q.eq]
    by_cases h1 : p.1 = q.1 <;> by_cases h2 : p.2 = q.2 <;> simp [h1, h2, Prod.ext_iff]
def PyT.lpair (P : PyT φ n) (Q : PyT ψ n) : PyT (fun p : α × β => D.lst [φ p.1, ψ p.2]) (n + 1) where
  f p := .list [P.f p.1, Q.f p.2]
  py p := by rw [pyD, pyDs, pyDs, pyDs, P.py, Q.py]
  lay p := by rw [PyData.canLay0, PyData.canLayAll0, PyData.canLayAll0, PyData.canLayAll0, P.lay, Q.lay]; rfl
  dep p := by rw [PyData.depth, PyData.depthAll, PyData.depthAll, PyData.depthAll]; have := P.dep p.1; have := Q.dep p.2; omega
  eq p q := by
    rw [PyData.eqv, PyData.eqvAll, PyData.eqvAll, PyData.eqvAll, P.eq, Q.eq]
    by_cases h1 : p.1 = q.1 <;> by_cases h2 : p.2 = q.2 <;> simp [h1, h2, Prod.ext_iff]
theorem any_Y (P : PyT φ n) (x : α) : ∀ xs : List α, ((xs.map P.f).any fun z => PyData.eqv z (P.f x)) = decide (x ∈ xs)
  | [] => rfl
  | a :: xs => by
    rw [List.map_cons, List.any_cons, P.eq, any_Y P x xs]
    by_cases h : a = x
    · subst h; simp
    · have h' : ¬ x = a := fun z => h z.symm
      simp [h, h']
end
section
variable {α : Type} [DecidableEq α] {φ : α → D} {n : Nat} {X : Cx} {Z : Zx} {a b : Expr} {ρ : En} {Φ : D → En → Prop} {Ψ : Bool → En → Prop} {pos : Pos}
theorem ec_eqY (P : PyT φ n) (hu : X.A.units + 64 < cLine) (h : EC X Z a ρ fun d ρ1 => EC X Z b ρ1 fun d' ρ2 => ∃ x y, d = φ x ∧ d' = φ y ∧ Φ (.bl (decide (x = y))) ρ2) (hn : n ≤ 20 := by decide) (hm : behindInMarks .Eq b = false := by rfl) : EC X Z (.Compare a [.Eq] [b] pos) ρ Φ :=
  ec_eqD hu (h.mono fun d ρ1 z => z.mono fun d' ρ2 ⟨x, y, e1, e2, k⟩ => by subst e1; subst e2; exact ⟨_, _, P.py x, P.py y, P.shp hn x, P.shp hn y, by rw [P.eq]; exact k⟩) hm
theorem ec_neY (P : PyT φ n) (hu : X.A.units + 64 < cLine) (h : EC X Z a ρ fun d ρ1 => EC X Z b ρ1 fun d' ρ2 => ∃ x y, d = φ x ∧ d' = φ y ∧ Φ (.bl (!decide (x = y))) ρ2) (hn : n ≤ 20 := by decide) (hm : behindInMarks .NotEq b = false := by rfl) : EC X Z (.Compare a [.NotEq] [b] pos) ρ Φ :=
  ec_neD hu (h.mono fun d ρ1 z => z.mono fun d' ρ2 ⟨x, y, e1, e2, k⟩ => by subst e1; subst e2; exact ⟨_, _, P.py x, P.py y, P.shp hn x, P.shp hn y, by rw [P.eq]; exact k⟩) hm
theorem tc_eqY (P : PyT φ n) (hu : X.A.units + 64 < cLine) (h : EC X Z a ρ fun d ρ1 => EC X Z b ρ1 fun d' ρ2 => ∃ x y, d = φ x ∧ d' = φ y ∧ Ψ (decide (x = y)) ρ2) (hn : n ≤ 20 := by decide) (hm : behindInMarks .Eq b = false := by rfl) : TC X Z (.Compare a [.Eq] [b] pos) ρ Ψ :=
  tc_eqD hu (h.mono fun d ρ1 z => z.mono fun d' ρ2 ⟨x, y, e1, e2, k⟩ => by subst e1; subst e2; exact ⟨_, _, P.py x, P.py y, P.shp hn x, P.shp hn y, by rw [P.eq]; exact k⟩) hm
theorem tc_neY (P : PyT φ n) (hu : X.A.units + 64 < cLine) (h : EC X Z a ρ fun d ρ1 => EC X Z b ρ1 fun d' ρ2 => ∃ x y, d = φ x ∧ d' = φ y ∧ Ψ (!decide (x = y)) ρ2) (hn : n ≤ 20 := by decide) (hm : behindInMarks .NotEq b = false := by rfl) : TC X Z (.Compare a [.NotEq] [b] pos) ρ Ψ :=
  tc_neD hu (h.mono fun d ρ1 z => z.mono fun d' ρ2 ⟨x, y, e1, e2, k⟩ => by subst e1; subst e2; exact ⟨_, _, P.py x, P.py y, P.shp hn x, P.shp hn y, by rw [P.eq]; exact k⟩) hm
/-- a in b, b a list of such -/
theorem tc_inY (P : PyT φ n) (hu : X.A.units + 65 < cLine) (h : EC X Z a ρ fun d ρ1 => EC X Z b ρ1 fun d' ρ2 => ∃ (x : α) (xs : List α), d = φ x ∧ d' = .lst (xs.map φ) ∧ Ψ (decide (x ∈ xs)) ρ2) (hn : n ≤ 19 := by decide) (hm : behindInMarks .In b = false := by rfl) : TC X Z (.Compare a [.In] [b] pos) ρ Ψ :=
  tc_op (op_inD hu) hm (h.mono fun d ρ1 z => z.mono fun d' ρ2 ⟨x, xs, e1, e2, k⟩ => by subst e1; subst e2; exact ⟨_, g_inDL (P.py x) (P.lst.py xs) (P.shp (by omega) x) (P.lst.shp (by omega) xs), by rw [any_Y]; exact k⟩)
theorem tc_niY (P : PyT φ n) (hu : X.A.units + 65 < cLine) (h : EC X Z a ρ fun d ρ1 => EC X Z b ρ1 fun d' ρ2 => ∃ (x : α) (xs : List α), d = φ x ∧ d' = .lst (xs.map φ) ∧ Ψ (!decide (x ∈ xs)) ρ2) (hn : n ≤ 19 := by decide) (hm : behindInMarks .NotIn b = false := by rfl) : TC X Z (.Compare a [.NotIn] [b] pos) ρ Ψ :=
  tc_op (op_notInD hu) hm (h.mono fun d ρ1 z => z.mono fun d' ρ2 ⟨x, xs, e1, e2, k⟩ => by subst e1; subst e2; exact ⟨_, g_niDL (P.py x) (P.lst.py xs) (P.shp (by omega) x) (P.lst.shp (by omega) xs), by rw [any_Y]; exact k⟩)
theorem tc_inYT (P : PyT φ n) (hu : X.A.units + 65 < cLine) (h : EC X Z a ρ fun d ρ1 => EC X Z b ρ1 fun d' ρ2 => ∃ (x : α) (xs : List α), d = φ x ∧ d' = .tup (xs.map φ) ∧ Ψ (decide (x ∈ xs)) ρ2) (hn : n ≤ 19 := by decide) (hm : behindInMarks .In b = false := by rfl) : TC X Z (.Compare a [.In] [b] pos) ρ Ψ :=
  tc_op (op_inDT hu) hm (h.mono fun d ρ1 z => z.mono fun d' ρ2 ⟨x, xs, e1, e2, k⟩ => by subst e1; subst e2; exact ⟨_, g_inDT (P.py x) (P.tup.py xs) (P.shp (by omega) x) (P.tup.shp (by omega) xs), by rw [any_Y]; exact k⟩)
theorem tc_niYT (P : PyT φ n) (hu : X.A.units + 65 < cLine) (h : EC X Z a ρ fun d ρ1 => EC X Z b ρ1 fun d' ρ2 => ∃ (x : α) (xs : List α), d = φ x ∧ d' = .tup (xs.map φ) ∧ Ψ (!decide (x ∈ xs)) ρ2) (hn : n ≤ 19 := by decide) (hm : behindInMarks .NotIn b = false := by rfl) : TC X Z (.Compare a [.NotIn] [b] pos) ρ Ψ :=
  tc_op (op_notInDT hu) hm (h.mono fun d ρ1 z => z.mono fun d' ρ2 ⟨x, xs, e1, e2, k⟩ => by subst e1; subst e2; exact ⟨_, g_niDT (P.py x) (P.tup.py xs) (P.shp (by omega) x) (P.tup.shp (by omega) xs), by rw [any_Y]; exact k⟩)
theorem ec_inYT (P : PyT φ n) (hu : X.A.units + 65 < cLine) (h : EC X Z a ρ fun d ρ1 => EC X Z b ρ1 fun d' ρ2 => ∃ (x : α) (xs : List α), d = φ x ∧ d' = .tup (xs.map φ) ∧ Φ (.bl (decide (x ∈ xs))) ρ2) (hn : n ≤ 19 := by decide) (hm : behindInMarks .In b = false := by rfl) : EC X Z (.Compare a [.In] [b] pos) ρ Φ :=
  ec_cmp (op_inDT hu) hm (h.mono fun d ρ1 z => z.mono fun d' ρ2 ⟨x, xs, e1, e2, k⟩ => by subst e1; subst e2; exact ⟨_, g_inDT (P.py x) (P.tup.py xs) (P.shp (by omega) x) (P.tup.shp (by omega) xs), by rw [any_Y]; exact k⟩)
/-- isinstance(e, T), T a class of the program, e none of its objects -/
theorem ec_isiN {e : Expr} {p p1 : Pos} {tn : Str} {T : Addr} (h : EC X Z e ρ fun d ρ1 => isObj d = false ∧ PySem.W.kitOne X.K (.type (tyN d)) (.ref T) = some false ∧ Φ (.bl false) ρ1) (hm : X.mg "isinstance" = none) (hm2 : X.mg tn = some (.ref T)) (hg : Gl X "isinstance" := by rfl) (hg2 : Gl X tn := by rfl)
    (hdb : (tn == ("__debug__" : Str)) = false := by decide) (hs1 : starEach [e, .Name tn p1] X.env = (false, eval e X.env) :: starEach [.Name tn p1] X.env := by rfl) (hs2 : starEach [.Name tn p1] X.env = (false, eval (.Name tn p1) X.env) :: starEach [] X.env := by rfl)
    (hpl : (backTo pos (starEach [.Name tn p1] X.env)).any (·.1) = false := by rfl) : EC X Z (.Call (.Name "isinstance" p) [e, .Name tn p1] [] pos) ρ Φ := fun B G H σ o z Q q =>
  (pe_callB call_isi hg hm (by rfl) (pa_cons p_wE (pa_cons (pe_glob (v := .ref T) (u := .ref T) hg2 hm2 rfl hdb) pa_nil hs2) hs1) (he := hs1) (hpl := hpl)).w (h B G H σ o z _ fun d ρ1 v B1 H1 ⟨ho, hk, h1⟩ e1 o1 r1 =>
    ⟨v, .ref T, .type (tyN d), .ref T, false, rfl, .own T, tyx_of o1.s r1 ho, hk, q _ ρ1 _ B1 H1 h1 e1 o1 (.bl _)⟩)
end
end AL
namespace AL
open PySem PySem.Spec PyProof.Rows L2 Evl
section
variable {P : Program} {w : World} {K : PySem.W.Frag} {mg : Str → Option Value} {base : Heap} {nm qual m : Str} {params : Arguments} {body : List Stmt} {scope : Scope} {f C : Addr} {fd : FuncData} {N ps : List Str} {k n : Nat} {dvs : List V}
/-- a method that may raise -/
theorem cal_mx {S : List D → (D → Prop) → Er → Prop} (F : FunD K nm qual params body scope dvs [] f fd) (mt : Meth K C m f) (Sc : FnScope N ps scope) (hn : ps.length = n) (hb : Binds K fd ps [])
    (h : ∀ cdv A outer s H E, Room k (bodyX P w K mg base N qual scope f cdv A outer s H E).A → Takes (bodyX P w K mg base N qual scope f cdv A outer s H E) (fun cls d _ H' => E cls d H') → ∀ ds Ψ Er, ds.length = n → S ds Ψ Er → SC (bodyX P w K mg base N qual scope f cdv A outer s H E) (Zf E Er) body (envD N.length ds) (OutP Ψ)) :
    CalM P w K mg base C m (k + 1) (PFx n S) :=
  ⟨f, fd, ps, def_ok F Sc (PFx.len hn) (fun cdv A outer s H E hr tk as Φ ⟨ds, h1, h2, h3⟩ => by
    subst h1
    rw [startE_im]
    intro B G H σ Dd o z sv
    refine (h cdv A outer s _ E hr tk ds _ _ h2 h3) B G _ σ Dd o z ⟨fun ρ' σ' B' H' a => sv.nx ρ' σ' B' H' ⟨ds.map Sl.im, .refl _, a, im_out⟩, fun r ρ' v σ' B' H' a => ?_, fun ρ' σ' B' H' a => a.elim, fun ρ' σ' B' H' a => a.elim⟩
    cases r with
    | im d => exact sv.rt _ ρ' v σ' B' H' ⟨ds.map Sl.im, .refl _, a, im_out⟩
    | fr oo => exact False.elim a), mt, hb⟩
end
section
variable (P : Program) (w : World) (K : PySem.W.Frag) (mg : Str → Option Value) (base : Heap) (x : Str) (k n : Nat)
structure KY (C : Addr) (S : List D → (D → Prop) → Er → Prop) : Prop where
  cl : Cls K C
  c : CalM P w K mg base C x k (PFx n S)
  m : MonoX S
end
section
variable {X : Cx} {Z : Zx} {a b e o : Expr} {es : List Expr} {ρ : En} {Φ : D → En → Prop} {Ψ : Bool → En → Prop} {Θ : OO → En → Prop} {p pos apos ps : Pos} {x f m : Str} {k k0 n : Nat} {C : Addr}
/-- o.m(e, ..) -/
theorem ek_m {pl : Sem Bool} {S : List D → (D → Prop) → Prop} (c : KM X.prog X.w X.K X.mg X.base m k n C S) (hr : Room k X.A) (hx : PassW X Z)
    (h : EC X Z o ρ fun d0 ρ0 => ∃ gs, d0 = .obj C gs ∧ gs.lookup m = none ∧ AC X Z (e :: es) ρ0 fun ds ρ1 => (d0 :: ds).length = n ∧ S (d0 :: ds) fun d => Φ d ρ1)
    (hst : starEach (e :: es) X.env = (false, eval e X.env) :: starEach es X.env := by rfl) (hpl : (backTo pos (starEach es X.env)).any (·.1) = false := by rfl)
    (ht : eval (.Call (.Attribute o m apos) (e :: es) [] pos) X.env = (do
      let ov ← eval o X.env
      standAt apos.atName
      let (f, first) ← holding [ov] (getMethod ov m pl)
      callWith pos f first (backTo pos (starEach (e :: es) X.env)) (backToKw pos (keywordEach [] X.env))) := by rfl) : EC X Z (.Call (.Attribute o m apos) (e :: es) [] pos) ρ Φ := ec_mf c.cl c.c hr hx c.m h hst hpl ht
theorem ek_y {pl : Sem Bool} {S : List D → (D → Prop) → Er → Prop} (c : KY X.prog X.w X.K X.mg X.base m k n C S) (hr : Room k X.A) (hx : PassW X Z)
    (h : EC X Z o ρ fun d0 ρ0 => ∃ gs, d0 = .obj C gs ∧ gs.lookup m = none ∧ AC X Z (e :: es) ρ0 fun ds ρ1 => (d0 :: ds).length = n ∧ S (d0 :: ds) (fun d => Φ d ρ1) fun C fs => Z.R C fs ρ1)
    (hst : starEach (e :: es) X.env = (false, eval e X.env) :: starEach es X.env := by rfl) (hpl : (backTo pos (starEach es X.env)).any (·.1) = false := by rfl)
    (ht : eval (.Call (.Attribute o m apos) (e :: es) [] pos) X.env = (do
      let ov ← eval o X.env
      standAt apos.atName
      let (f, first) ← holding [ov] (getMethod ov m pl)
      callWith pos f first (backTo pos (starEach (e :: es) X.env)) (backToKw pos (keywordEach [] X.env))) := by rfl) : EC X Z (.Call (.Attribute o m apos) (e :: es) [] pos) ρ Φ :=
  ec_meth c.cl c.c hr hx (PFx.mono c.m) (h.mono fun d0 ρ0 ⟨gs, h1, h2, h3⟩ => ⟨gs, h1, h2, h3.mono fun ds ρ1 ⟨hl, hd⟩ => ⟨d0 :: ds, rfl, hl, c.m _ _ _ _ _ (fun d hk => ⟨rfl, hk⟩) (fun C fs x => x) hd⟩⟩) hst hpl ht
theorem ek_eq {S : List D → (D → Prop) → Prop} (c : KM X.prog X.w X.K X.mg X.base "__eq__" k 2 C S) (hr : Room k X.A) (hx : PassW X Z)
    (h : EC X Z a ρ fun d0 ρ0 => ∃ gs, d0 = .obj C gs ∧ EC X Z b ρ0 fun d1 ρ1 => ∃ t, tyD d1 = some t ∧ PySem.W.notFirst X.K C t = true ∧ S [d0, d1] fun r => Φ r ρ1) (hm : behindInMarks .Eq b = false := by rfl) : EC X Z (.Compare a [.Eq] [b] pos) ρ Φ := ec_eqO c.c hr hx c.m h hm
theorem tk_eq {S : List D → (D → Prop) → Prop} (c : KM X.prog X.w X.K X.mg X.base "__eq__" k 2 C S) (hr : Room k X.A) (hx : PassW X Z)
    (h : EC X Z a ρ fun d0 ρ0 => ∃ gs, d0 = .obj C gs ∧ EC X Z b ρ0 fun d1 ρ1 => ∃ t, tyD d1 = some t ∧ PySem.W.notFirst X.K C t = true ∧ S [d0, d1] fun r => ∃ k, r = .bl k ∧ Ψ k ρ1) (hm : behindInMarks .Eq b = false := by rfl) : TC X Z (.Compare a [.Eq] [b] pos) ρ Ψ := tc_eqO c.c hr hx c.m h hm
theorem nf_self {K : PySem.W.Frag} {C : Addr} : PySem.W.notFirst K C (.ref C) = true := by unfold PySem.W.notFirst; simp
end
end AL
namespace AL
open PySem PySem.Spec PyProof.Rows L2 Evl
/-! ### errors without fields -/
def exc0B (K : PySem.W.Frag) (C : Addr) : Bool := PySem.W.excIn K C AX.exBase "Exception.__new__" && (PySem.W.keepIn K (.ref C) && (decide (PySem.W.subIn K (.ref C) (.type "BaseException") = some true) && decide (PySem.W.typeIn K (.ref C) = some (.type "type"))))
structure Exc0 (K : PySem.W.Frag) (C : Addr) : Prop where
  q : PySem.W.excIn K C AX.exBase "Exception.__new__" = true
  kp : PySem.W.keepIn K (.ref C) = true
  sub : PySem.W.subIn K (.ref C) (.type "BaseException") = some true
  ty : PySem.W.typeIn K (.ref C) = some (.type "type")
theorem exc0B_ok {K : PySem.W.Frag} {C : Addr} (h : exc0B K C = true) : Exc0 K C := by
  unfold exc0B at h
  simp only [Bool.and_eq_true, decide_eq_true_eq] at h
  exact ⟨h.1, h.2.1, h.2.2.1, h.2.2.2⟩
section
variable {X : Cx} {Z : Zx} {C : Addr} {x : Str} {p pos pos2 : Pos} {ρ : En} {O : Outs} {sts : List Stmt}
theorem pmk_own0 (T : Exc0 X.K C) (gC : X.mg x = some (.ref C)) (hg : Gl X x) (hdb : (x == ("__debug__" : Str)) = false) : PMk X (.Call (.Name x p) [] [] pos) (fun _ H Q => Q (.ref C) none H) := by
  intro pins s σ H Q I h
  refine wpAny_Call_Name_kw (ld_glob I hg gC ?_ hdb)
  refine PySem.W.callWith_K0 I.kIn T.kp ?_
  show wpAny _ _ (call (.ref C) []) _ _ _
  obtain ⟨bm, N, nm, qn, bs, hdct, sn, sub, ab, col, dd, k0, k1, k2, k3, k5, mN, hC, hN, hni, Tl⟩ := exc_obj I.kIn T.q
  exact wpAny_call_exc_subT PySem.F.excBase_Exception Tl hC hN hni (fun h' e hm => mk_of I hm (raises_own T.sub T.ty) h (I.hok.gone hm.new)) (by show 0 ≤ sizeLine; rw [sizeLine_eq]; omega)
/-- raise X() -/
theorem sc_raise0 (T : Exc0 X.K C) (hm : X.mg x = some (.ref C)) (tk : Takes X Z.E) (h : Z.R C [] ρ) (hc : X.calm = true := by rfl) (hg : Gl X x := by rfl) (hdb : (x == ("__debug__" : Str)) = false := by decide) :
    SC X Z (.Raise (some (.Call (.Name x p) [] [] pos)) none pos2 :: sts) ρ O :=
  sc_of (ps_raise hc tk (pmk_own0 T hm hg hdb)) fun B G H σ Dd o z s => z C [] none B H σ ρ h (Ex.refl B) o rfl
end
theorem dec_any {p : Prop} {i j : Decidable p} (F : Bool → Prop) (h : F (@decide p i)) : F (@decide p j) := by
  have e : i = j := Subsingleton.elim i j
  subst e; exact h
theorem u64 {k : Nat} {A : Around} (hr : Room k A) : A.units + 64 < cLine := by have := hr.un; omega
theorem u65 {k : Nat} {A : Around} (hr : Room k A) : A.units + 65 < cLine := by have := hr.un; omega
theorem at_hd {x : D} {xs : List D} : atI (x :: xs) 0 = some x := by
  unfold atI ixN
  rw [if_pos (by omega), if_pos (by simp)]
  rfl
section
variable {X : Cx} {Z : Zx} {e : Expr} {ρ : En} {Φ : D → En → Prop} {Ψ : Bool → En → Prop} {pos : Pos}
theorem tc_isB {c : Bool} {j pos'} (h : EC X Z e ρ fun d ρ1 => ∃ b, d = .bl b ∧ Ψ (decide (b = c)) ρ1) : TC X Z (.Compare e [.Is] [.Constant (.bool c) j pos'] pos) ρ Ψ := fun B G H σ o z Q q =>
  (pt_cmpR op_isBl p_wE pe_bl (nobehind _ (by decide) (by decide))).w (h B G H σ o z _ fun d ρ1 v B1 H1 ⟨b, hd, h1⟩ e1 o1 r1 => by
    subst hd; cases r1
    exact ⟨b, c, rfl, rfl, _, rfl, q _ ρ1 B1 H1 h1 e1 o1⟩)
theorem tc_notB {c : Bool} {j pos'} (h : EC X Z e ρ fun d ρ1 => ∃ b, d = .bl b ∧ Ψ (!decide (b = c)) ρ1) : TC X Z (.Compare e [.IsNot] [.Constant (.bool c) j pos'] pos) ρ Ψ := fun B G H σ o z Q q =>
  (pt_cmpR op_notBl p_wE pe_bl (nobehind _ (by decide) (by decide))).w (h B G H σ o z _ fun d ρ1 v B1 H1 ⟨b, hd, h1⟩ e1 o1 r1 => by
    subst hd; cases r1
    exact ⟨b, c, rfl, rfl, _, rfl, q _ ρ1 B1 H1 h1 e1 o1⟩)
end
end AL
namespace AL
open PySem PySem.Spec PyProof.Rows L2 Evl
/-! ### shapes, for a stepper that looks before it leaps -/
section
variable {X : Cx} {Z : Zx} {ρ : En} {Φ : D → En → Prop} {Ψ : Bool → En → Prop} {O : Outs} {pos p p1 : Pos} {a b c e : Expr} {es bs : List Expr} {ks : List Keyword} {j : Nat} {s : Stmt} {sts sa sb : List Stmt} {x at_ : Str} {Γ : List D → En → Prop} {n : Int} {kb : Bool} {tx : Str} {Sx : Scope} {gs : List Comprehension} {Λ : En → Prop} {js : List Nat} {d : D}
theorem gE (h : EC X Z e ρ Φ) : EC X Z e ρ Φ := h
theorem gE_ci (h : EC X Z (.Constant (.int n) j pos) ρ Φ) : EC X Z (.Constant (.int n) j pos) ρ Φ := h
theorem gE_cb (h : EC X Z (.Constant (.bool kb) j pos) ρ Φ) : EC X Z (.Constant (.bool kb) j pos) ρ Φ := h
theorem gE_cn (h : EC X Z (.Constant .none j pos) ρ Φ) : EC X Z (.Constant .none j pos) ρ Φ := h
theorem gE_cs (h : EC X Z (.Constant (.str tx) j pos) ρ Φ) : EC X Z (.Constant (.str tx) j pos) ρ Φ := h
theorem gE_n (h : EC X Z (.Name x pos) ρ Φ) : EC X Z (.Name x pos) ρ Φ := h
theorem gE_s (h : EC X Z (.Subscript a b pos) ρ Φ) : EC X Z (.Subscript a b pos) ρ Φ := h
theorem gE_a (h : EC X Z (.Attribute a x pos) ρ Φ) : EC X Z (.Attribute a x pos) ρ Φ := h
theorem gE_b (o : Operator) (h : EC X Z (.BinOp a o b pos) ρ Φ) : EC X Z (.BinOp a o b pos) ρ Φ := h
theorem gE_u (o : UnaryOp) (h : EC X Z (.UnaryOp o a pos) ρ Φ) : EC X Z (.UnaryOp o a pos) ρ Φ := h
theorem gE_t (h : EC X Z (.Tuple es j pos) ρ Φ) : EC X Z (.Tuple es j pos) ρ Φ := h
theorem gE_l (h : EC X Z (.List es pos) ρ Φ) : EC X Z (.List es pos) ρ Φ := h
theorem gE_i (h : EC X Z (.IfExp a b c pos) ρ Φ) : EC X Z (.IfExp a b c pos) ρ Φ := h
theorem gE_k (h : EC X Z (.Call (.Name x p) es ks pos) ρ Φ) : EC X Z (.Call (.Name x p) es ks pos) ρ Φ := h
theorem gE_k1 (h : EC X Z (.Call (.Name x p) (e :: es) ks pos) ρ Φ) : EC X Z (.Call (.Name x p) (e :: es) ks pos) ρ Φ := h
theorem gE_ko (h : EC X Z (.Call (.Name x p) (.Name at_ p1 :: es) ks pos) ρ Φ) : EC X Z (.Call (.Name x p) (.Name at_ p1 :: es) ks pos) ρ Φ := h
theorem gE_len (h : EC X Z (.Call (.Name "len" p) (e :: es) ks pos) ρ Φ) : EC X Z (.Call (.Name "len" p) (e :: es) ks pos) ρ Φ := h
theorem gE_isn (o : CmpOp) (h : EC X Z (.Compare a [o] [.Constant .none j p] pos) ρ Φ) : EC X Z (.Compare a [o] [.Constant .none j p] pos) ρ Φ := h
theorem gT_isn (o : CmpOp) (h : TC X Z (.Compare a [o] [.Constant .none j p] pos) ρ Ψ) : TC X Z (.Compare a [o] [.Constant .none j p] pos) ρ Ψ := h
theorem gE_m (h : EC X Z (.Call (.Attribute a x p) es ks pos) ρ Φ) : EC X Z (.Call (.Attribute a x p) es ks pos) ρ Φ := h
theorem gE_q (o : CmpOp) (h : EC X Z (.Compare a [o] bs pos) ρ Φ) : EC X Z (.Compare a [o] bs pos) ρ Φ := h
theorem gE_o1 (o : BoolOp) (h : EC X Z (.BoolOp o [a] pos) ρ Φ) : EC X Z (.BoolOp o [a] pos) ρ Φ := h
theorem gE_o (o : BoolOp) (h : EC X Z (.BoolOp o (a :: b :: es) pos) ρ Φ) : EC X Z (.BoolOp o (a :: b :: es) pos) ρ Φ := h
theorem gT (h : TC X Z e ρ Ψ) : TC X Z e ρ Ψ := h
theorem gT_q (o : CmpOp) (h : TC X Z (.Compare a [o] bs pos) ρ Ψ) : TC X Z (.Compare a [o] bs pos) ρ Ψ := h
theorem gT_n (h : TC X Z (.UnaryOp .Not a pos) ρ Ψ) : TC X Z (.UnaryOp .Not a pos) ρ Ψ := h
theorem gT_o (o : BoolOp) (h : TC X Z (.BoolOp o es pos) ρ Ψ) : TC X Z (.BoolOp o es pos) ρ Ψ := h
theorem gT_k (h : TC X Z (.Call e es ks pos) ρ Ψ) : TC X Z (.Call e es ks pos) ρ Ψ := h
theorem gT_v (h : TC X Z (.Name x pos) ρ Ψ) : TC X Z (.Name x pos) ρ Ψ := h
theorem gT_a (h : TC X Z (.Attribute a x pos) ρ Ψ) : TC X Z (.Attribute a x pos) ρ Ψ := h
theorem gT_s (h : TC X Z (.Subscript a b pos) ρ Ψ) : TC X Z (.Subscript a b pos) ρ Ψ := h
theorem gW (h : WC X Z e ρ Ψ) : WC X Z e ρ Ψ := h
theorem gW_1 (o : BoolOp) (h : WC X Z (.BoolOp o [a] pos) ρ Ψ) : WC X Z (.BoolOp o [a] pos) ρ Ψ := h
theorem gW_o (o : BoolOp) (h : WC X Z (.BoolOp o (a :: b :: es) pos) ρ Ψ) : WC X Z (.BoolOp o (a :: b :: es) pos) ρ Ψ := h
theorem gA (h : AC X Z es ρ Γ) : AC X Z es ρ Γ := h
theorem gA_n (h : AC X Z [] ρ Γ) : AC X Z [] ρ Γ := h
theorem gA_c (h : AC X Z (e :: es) ρ Γ) : AC X Z (e :: es) ρ Γ := h
theorem gS (h : SC X Z sts ρ O) : SC X Z sts ρ O := h
theorem gS_n (h : SC X Z [] ρ O) : SC X Z [] ρ O := h
theorem gS_c (h : SC X Z (s :: sts) ρ O) : SC X Z (s :: sts) ρ O := h
theorem gS_i (h : SC X Z (.If c sa sb pos :: sts) ρ O) : SC X Z (.If c sa sb pos :: sts) ρ O := h
theorem gS_r (h : SC X Z (.Return (some e) pos :: sts) ρ O) : SC X Z (.Return (some e) pos :: sts) ρ O := h
theorem gS_rn (h : SC X Z (.Return none pos :: sts) ρ O) : SC X Z (.Return none pos :: sts) ρ O := h
theorem gS_e (h : SC X Z (.Expr e pos :: sts) ρ O) : SC X Z (.Expr e pos :: sts) ρ O := h
theorem gS_l (h : SC X Z (.Assign [.Name x p] (.List [] p1) pos :: sts) ρ O) : SC X Z (.Assign [.Name x p] (.List [] p1) pos :: sts) ρ O := h
theorem gS_a (h : SC X Z (.Assign [.Name x p] e pos :: sts) ρ O) : SC X Z (.Assign [.Name x p] e pos :: sts) ρ O := h
theorem gF {Θ : OO → En → Prop} (h : FC X Z e ρ Θ) : FC X Z e ρ Θ := h
theorem gI {tg : Expr} {Θ : List D → En → Prop} (h : IC X Z tg e ρ Θ) : IC X Z tg e ρ Θ := h
theorem gG {Θ : En → Prop} (h : GT X e js d ρ Θ) : GT X e js d ρ Θ := h
theorem gGs {Θ : En → Prop} {ds : List D} (h : GTs X es js ds ρ Θ) : GTs X es js ds ρ Θ := h
theorem gGs_n {Θ : En → Prop} {ds : List D} (h : GTs X [] js ds ρ Θ) : GTs X [] js ds ρ Θ := h
theorem stopL {ops : List CmpOp} (h : TC X Z (.Compare (.Call (.Name "list" p) es ks p1) ops bs pos) ρ Ψ) : TC X Z (.Compare (.Call (.Name "list" p) es ks p1) ops bs pos) ρ Ψ := h
theorem stopC {ops : List CmpOp} (h : TC X Z (.Compare a ops [.ListComp e gs Sx p1] pos) ρ Ψ) : TC X Z (.Compare a ops [.ListComp e gs Sx p1] pos) ρ Ψ := h
end
end AL
namespace AL
open PySem PySem.Spec PyProof.Rows L2 Evl
section
variable {X : Cx} {Z : Zx} {tg e : Expr} {ρ : En} {O : Outs} {sts : List Stmt} {pos : Pos} {js : List Nat}
/-- target = e, the target takes a datum (a tuple of names, where the stores are not swapped) -/
theorem sc_asg (h : EC X Z e ρ fun d ρ1 => GT X tg js d ρ1 fun ρ2 => SC X Z sts ρ2 O) (hs : swapsWithSole [tg] e pos.line X.env = pure false := by rfl) (hw : swappedStores [tg] e X.env = pure none := by rfl) (h1 : (assignEach [tg] X.env).map (·.2) = [assign tg X.env] := by rfl) :
    SC X Z (.Assign [tg] e pos :: sts) ρ O :=
  sc_of (ps_asg p_wE p_wG hs hw h1) fun B G H σ Dd o z s => h B G H σ o z _ fun d ρ1 v B1 H1 g1 e1 o1 r1 =>
    g1 B1 G H1 σ v o1 r1 _ fun ρ2 σ2 B2 H2 h2 _ e2 o2 => h2.go o2 z s (e1.trans e2)
/-- x, y = a, b: two names of the frame, stored together -/
theorem sc_par (i j : Nat) {x y : Str} {a b : Expr} {px py pt : Pos} {kt k2 : Nat} {pt2 : Pos} (h : AC X Z [a, b] ρ fun ds ρ1 => ∃ d1 d2, ds = [d1, d2] ∧ SC X Z sts ((ρ1.set i (some (.im d1))).set j (some (.im d2))) O) (nd : X.N.Nodup) (hij : i ≠ j := by decide)
    (hi : X.N[i]? = some x := by rfl) (hj : X.N[j]? = some y := by rfl) (hx : X.env.scope.names.lookup x = some .local := by rfl) (hy : X.env.scope.names.lookup y = some .local := by rfl) (hc : X.calm = true := by rfl)
    (hw : swappedStores [.Tuple [.Name x px, .Name y py] kt pt] (.Tuple [a, b] k2 pt2) X.env = pure (some [x, y]) := by rfl) (hs : swapsWithSole [.Tuple [.Name x px, .Name y py] kt pt] (.Tuple [a, b] k2 pt2) pos.line X.env = pure false := by rfl) :
    SC X Z (.Assign [.Tuple [.Name x px, .Name y py] kt pt] (.Tuple [a, b] k2 pt2) pos :: sts) ρ O :=
  sc_of (ps_par hc nd hi hj hij hx hy p_wA hw hs) fun B G H σ Dd o z s => h B G H σ o z _ fun ds ρ1 vs B1 H1 ⟨d1, d2, e, g1⟩ e1 o1 r1 => by
    subst e
    cases r1 with
    | cons q1 r2 =>
      cases r2 with
      | cons q2 r3 =>
        cases r3
        exact ⟨_, _, rfl, g1.go ((o1.set_im q1).set_im q2) z s e1⟩
end
end AL
namespace AL
open PySem PySem.Spec PyProof.Rows L2 Evl
/-! ### iter(t), t a tuple -/
/-- what is told of a tuple's iterator that has not begun -/
def ItT (l it : Addr) : HO := .ext fun h => h.IsTupleIter it l 0
theorem itT_ok {P : Program} {w : World} {H : Hp} {h : Heap} {l it : Addr} (e : h.IsTupleIter it l 0) : ObjOk P w H h it (ItT l it) := ⟨e, (let ⟨o, ho, _⟩ := e; ⟨o, ho⟩), fun _ _ q g => q.at g⟩
def rIterT (K : PySem.W.Frag) (n : Nat) : List V → Hp → VK → Prop := fun xs H Q => ∃ (l : Addr) (zs : List V), xs = [.ref l] ∧ SqT K H l zs ∧ ∀ it, H it = Option.none → n ≤ it → Q (.ref it) (upd H it (ItT l it))
section
variable {X : Cx}
theorem call_iterT : CallR X (.builtin "iter") (rIterT X.K X.s_0.heap.objs.size) := by
  rintro pins s σ H xs us Q I r ⟨l, zs, rfl, hq, q⟩
  obtain ⟨u, rfl, ru⟩ := vals1 r
  cases ru
  obtain ⟨its, rv, tp, hz⟩ := I.tuple hq
  refine Calls.call_function_entry (by kernel_rfl) (by decide +kernel) PySem.W.kdk_entry_iter (PySem.W.kdk_args_iter _) ?_
  unfold Builtin.«iter»
  refine wpAny_bind (m := someArgs _ 1 2 _) (wpAny_of_eq (a := [Value.ref l]) (by first | rfl | kernel_rfl!) ?_)
  show wpAny _ _ (pyIter (Value.ref l) >>= _) _ _ s
  refine wpAny_bind (wpAny_pyIter_tuple (items := its.toArray) tp (wpAny_pure ⟨_, rfl, ?_⟩))
  exact ⟨.ref s.heap.objs.size, _, I.laid (t' := s.toks) (fun b v e => Heap.get?_push_of_some _ e) (Nat.le_refl _) (itT_ok ⟨_, Heap.get?_push_size _ rfl, rfl, rfl⟩), rfl, q _ (I.hok.fresh (Nat.le_refl _)) I.sz⟩
end
/-! ### a def whose promise looks at the state of its call -/
theorem run_def {CX : CXT} {P : Program} {w : World} {K : PySem.W.Frag} {mg : Str → Option Value} {base : Heap} {k : Nat} {f : Addr} {name qual : Str} {params : Arguments} {body : List Stmt} {scope : Scope} {dV kV doc pm cdv ct oc : Value} {an od : Option Addr}
    {osl : Array (Option Value)} {N ps : List Str} (lk : K.lookup f = some ⟨oc, od, .func (PySem.W.fnOf name qual params body scope dV kV doc pm an cdv ct), osl⟩) (hcd : PySem.W.codeIn K cdv qual = true) (Sc : FnScope N ps scope)
    {A : Around} {outer : List Env} {s : Shared} {H : Hp} {args : Args} {us : List Value} {vs : List V} {Q : VK} {E : XK} {t : TS} (hr : Room (k + 1) A) (e0 : Env0 P w K mg base A outer s H)
    (hb : BindsTo s (PySem.W.fnOf name qual params body scope dV kV doc pm an cdv ct) args (ps.zip us)) (r : Vals vs us) (hl : vs.length = ps.length)
    (ht : PSs (cxOf CX P w K mg base N qual scope f cdv A outer s H E) body t) (hq : t { nx := fun _ H' => Q .non H', rt := Q } (start N vs) H) : codeAny (model P w) A (.call (.ref f) args) (CR CX outer P w H s Q E) s := by
  have kin := e0.mod.kin.keeps (h' := s.heap) fun b o z => (e0.bs b o z).1
  have nol := e0.mod.nolimit.keeps (h' := s.heap) fun b o z => (e0.bs b o z).1
  refine codeAny_call_function hr.depth (kin _ _ lk) rfl Sc.co Sc.gen rfl (PySem.W.codeRec_of kin hcd) (hb _ _ _ _ ?_)
  refine wpAny_newFunctionEnv_cells Sc.kind (fun y hy => (Sc.par y.1 (List.of_mem_zip hy).1).imp id fun q => ⟨q, PySem.W.cellsFrom_some _ _ _ (.inl q)⟩) fun env he s1 x => ?_
  subst he
  refine ⟨nol.keeps x.toInCall.keep, codeAny_func ?_⟩
  have I := inv_start (E := E) (CX := CX) Sc hr.hd e0 hl r x
  refine wpAny_mono (ht.run [] s1 (start N vs) H _ I hq) (fun fl s' hs => ?_) fun e s' hs => hs
  cases fl with
  | ret u => exact let ⟨v, σ', H', J, rv, q⟩ := hs; ⟨v, H', J.os, J.bare, J.base, J.hok, rv, q⟩
  | next => exact let ⟨σ', H', J, q⟩ := hs; ⟨V.non, H', J.os, J.bare, J.base, J.hok, rfl, q⟩
  | brk => exact let ⟨_, _, _, q⟩ := hs; q.elim
  | cont => exact let ⟨_, _, _, q⟩ := hs; q.elim
/-! ### a class whose __iter__ gives iter(self.x) -/
structure KT (P : Program) (w : World) (K : PySem.W.Frag) (mg : Str → Option Value) (base : Heap) (C : Addr) (x : Str) (k : Nat) : Prop where
  cl : Cls K C
  ex : ∃ f, PySem.W.findIn K (.ref C) "__iter__" = some (some (.ref f)) ∧ PySem.W.isFn K (.ref f) = true ∧
    ∀ (A : Around) (outer : List Env) (s : Shared) (H : Hp) (a dx l : Addr) (fs : List (Str × V)) (xs : List V) (Q : VK) (E : XK), Room k A → Env0 P w K mg base A outer s H → H a = some (.ins C dx fs) → fs.lookup x = some (.ref l) → SqT K H l xs →
      (∀ it, H it = none → s.heap.objs.size ≤ it → Q (.ref it) (upd H it (ItT l it))) → codeAny (model P w) A (.call (.ref f) ⟨[.ref a], []⟩) (CR (L2.CX P w) outer P w H s Q E) s
theorem c_iter {P : Program} {w : World} {K : PySem.W.Frag} {mg : Str → Option Value} {base : Heap} {C f : Addr} {x q : Str} {params : Arguments} {body : List Stmt} {scope : Scope} {fd : FuncData} {p1 p2 p3 p4 p5 : Pos}
    (F : FunD K "__iter__" q params body scope [] [] f fd) (mt : Meth K C "__iter__" f) (cl : Cls K C) (na : NoAttr K C x) (hm : mg "iter" = none) (Sc : FnScope ["self"] ["self"] scope)
    (hbd : Binds K fd ["self"] []) (hb : body = [.Return (some (.Call (.Name "iter" p1) [.Attribute (.Name "self" p2) x p3] [] p4)) p5])
    (hg : ∀ (loc g : Addr) (cd : Value), (envOfC q scope loc g cd).kindOf "iter" = some .globalImplicit) : KT P w K mg base C x 1 := by
  refine ⟨cl, f, mt.at_, mt.fn, fun A outer s H a dx l fs xs Q E hr e0 ea hl hq q => ?_⟩
  obtain ⟨oc, od, dV, kV, doc, pm, an, cdv, ct, osl, rfl, lk, hcd, _, _⟩ := F.ex
  have kin : K.In s.heap := e0.mod.kin.keeps fun b o z => (e0.bs b o z).1
  subst hb
  refine run_def lk hcd Sc (us := [.ref a]) (vs := [.ref a]) hr e0 (by simpa using hbd s [.ref a] kin rfl) (.cons rfl .nil) rfl (pss_one (ps_ret (pe_callB call_iterT (hg _ _ _) hm (by rfl) (pa_cons (pe_fld (pe_var (i := 0) rfl ((Sc.par "self" (List.Mem.head _)).elim .inl fun z => .inr (.inl z))) (by rfl)) pa_nil (by rfl)) (by decide) (by decide) (by rfl) (by rfl)))) ?_
  exact ⟨.ref a, rfl, a, C, dx, fs, _, rfl, ea, cl, na, hl, l, xs, rfl, hq, q⟩
section
variable {X : Cx} {Z : Zx} {tg e : Expr} {ρ : En} {Φ : List D → En → Prop} {k : Nat} {C : Addr} {x : Str}
/-- for .. in e, e of a class whose __iter__ gives iter(self.x) -/
theorem ic_it (c : KT X.prog X.w X.K X.mg X.base C x k) (hr : Room k X.A) (hx : PassW X Z) (h : EC X Z e ρ fun d ρ1 => ∃ fs ds, d = .obj C fs ∧ fs.lookup x = some (.tup ds) ∧ Φ ds ρ1) : IC X Z tg e ρ Φ := fun B G H σ o z R q => by
  obtain ⟨f, hf, hfn, run⟩ := c.ex
  refine PI.w (t := fun σ H R => wE X e σ H fun v H1 => ∃ a dx l fs xs, v = .ref a ∧ H1 a = some (.ins C dx fs) ∧ fs.lookup x = some (.ref l) ∧ SqT X.K H1 l xs ∧ R (Itt X.K l) H1) ⟨fun pins s σ H R I hh => ?_⟩ ?_
  · refine thn (hh pins s I) fun u s1 ⟨v, H1, I1, rv, a, dx, l, fs, xs, ev, ea, el, hq, qR⟩ => ?_
    subst ev
    cases rv
    obtain ⟨mA, J, _⟩ := ins_get I1.hok ea
    obtain ⟨od, J, _⟩ := J.look
    obtain ⟨m, hF⟩ := I1.fr
    refine PySem.W.owit_iter hF I1.ok.mod.kin J hf hfn ?_
    refine wpAny_call (codeAny_mono (run X.A X.stack s1 H1 a dx l fs xs (fun v H2 => ∃ it, v = .ref it ∧ H1 it = none ∧ s1.heap.objs.size ≤ it ∧ H2 = upd H1 it (ItT l it)) (fun c d H => Z.E c d σ H) hr I1.env0 ea el hq fun it h1 h2 => ⟨it, rfl, h1, h2, rfl⟩) fun r s' hq' => ?_)
    cases r with
    | error er => exact hx σ pins H1 s1 er s' I1 hq'
    | ok fl => cases fl with
      | ret u =>
        obtain ⟨v, H2, I2, rv, it, rfl, n1, n2, rfl⟩ := I1.after hq'
        cases rv
        have g0 : upd H1 it (ItT l it) it = some (ItT l it) := upd_same
        have hT : s'.heap.IsTupleIter it l 0 := (I2.hok it _ g0).1
        have e2 : ItX.dropH (upd H1 it (ItT l it)) it = H1 := ItX.dropH_upd n1
        have fp : FpOk X pins H1 it := e2 ▸ ItX.inv_fp I2 g0 (Nat.le_trans I1.sz n2)
        have I3 : Inv X pins σ H1 s' := e2 ▸ ItX.inv_drop I2 g0
        unfold PySem.W.OwitIt
        refine wpAny_specialOf (name := Str.ofString "__next__") hT.typeIs F.slot_tuple_iterator_next.lookup ?_
        refine ⟨it, [it], _, _, H1, rfl, I3, turn_tuple l it, hT, fun b hb => ?_, qR⟩
        rw [show b = it by simpa using hb]
        exact fp
      | next => exact False.elim hq'
      | brk => exact False.elim hq'
      | cont => exact False.elim hq'
  · refine h B G H σ o z _ fun d ρ1 v B1 H1 ⟨fs, ds, hd, hl, h1⟩ e1 o1 r1 => ?_
    subst hd
    cases r1 with
    | @obj a' _ dx fs' _ ha hf =>
      obtain ⟨v, hv, rv⟩ := hf.lookup hl
      cases rv with
      | tup hq rs => exact ⟨a', dx, _, fs', _, rfl, o1.s.ex _ _ ha, hv, ex_t o1.s.ex (st_of hq), q ds ρ1 _ B1 H1 h1 e1 o1 (walks_tup (st_of hq) rs)⟩
end
end AL
namespace AL
open PySem PySem.Spec PyProof.Rows L2 Evl
/-! ### a property whose getter raises nothing -/
structure KQ (P : Program) (w : World) (K : PySem.W.Frag) (mg : Str → Option Value) (base : Heap) (x : Str) (k : Nat) (C : Addr) (S : List D → (D → Prop) → Prop) : Prop where
  cl : Cls K C
  ex : ∃ p g fd ps, PropOf K C x p g ∧ FnOk P w K mg base (L2.CX P w) k g fd ps (Csp K (PFn 1 S)) ∧ Binds K fd ps []
  m : MonoF S
section
variable {P : Program} {w : World} {K : PySem.W.Frag} {mg : Str → Option Value} {base : Heap} {nm qual m : Str} {params : Arguments} {body : List Stmt} {scope : Scope} {f C p : Addr} {fd : FuncData} {N ps : List Str} {k : Nat} {dvs : List V}
theorem cal_q {S : List D → (D → Prop) → Prop} (F : FunD K nm qual params body scope dvs [] f fd) (pr : PropOf K C m p f) (Sc : FnScope N ps scope) (hn : ps.length = 1) (hb : Binds K fd ps [])
    (h : ∀ cdv A outer s H E, Room k (bodyX P w K mg base N qual scope f cdv A outer s H E).A → ∀ ds Ψ, ds.length = 1 → S ds Ψ → SC (bodyX P w K mg base N qual scope f cdv A outer s H E) Z0 body (envD N.length ds) (OutP Ψ)) :
    ∃ p g fd ps, PropOf K C m p g ∧ FnOk P w K mg base (L2.CX P w) (k + 1) g fd ps (Csp K (PFn 1 S)) ∧ Binds K fd ps [] := by
  refine ⟨p, f, fd, ps, pr, def_ok F Sc (PFn.len hn) ?_, hb⟩
  rintro cdv A outer s H E hr tk as Φ ⟨ds, rfl, h2, h3⟩
  rw [startE_im]
  intro B G H σ Dd o z sv
  refine (h cdv A outer s _ E hr ds _ h2 h3) B G _ σ Dd o RC.none ⟨fun ρ' σ' B' H' a => sv.nx ρ' σ' B' H' ⟨ds.map Sl.im, .refl _, a, im_out⟩, fun r ρ' v σ' B' H' a => ?_, fun ρ' σ' B' H' a => a.elim, fun ρ' σ' B' H' a => a.elim⟩
  cases r with
  | im d => exact sv.rt _ ρ' v σ' B' H' ⟨ds.map Sl.im, .refl _, a, im_out⟩
  | fr oo => exact a.elim
end
section
variable {X : Cx} {Z : Zx} {e a b : Expr} {ρ : En} {Φ : D → En → Prop} {pos : Pos} {x : Str} {k : Nat} {C : Addr} {S : List D → (D → Prop) → Prop}
/-- e.x, a property -/
theorem ec_prop (c : KQ X.prog X.w X.K X.mg X.base x k C S) (hr : Room (k + 1) X.A) (h : EC X Z e ρ fun d ρ1 => ∃ gs, d = .obj C gs ∧ S [d] fun r => Φ r ρ1) (hab : attributeBase e x X.env (eval e X.env) = eval e X.env := by rfl) : EC X Z (.Attribute e x pos) ρ Φ := fun B G H σ o z Q q => by
  obtain ⟨p, g, fd, ps, pr, F, bd⟩ := c.ex
  refine PE.w (pe_prop (E := fun _ _ _ => False) (ds := []) (dvs := []) p_wE c.cl pr F hr bd .nil (fun pins σ H s er s' I hc => ?_) hab) ?_
  · obtain ⟨_, _, _, _, _, _, _, _, _, _, _, _, _, hE⟩ := hc
  · refine h B G H σ o z _ fun d ρ1 v B1 H1 ⟨gs, hd, h1⟩ e1 o1 r1 => ?_
    subst hd
    cases r1 with
    | @obj a' _ dx fs _ ha hf =>
      refine ⟨a', dx, fs, rfl, o1.s.ex _ _ ha, B1, rest B1 H1 none, _, o1.call (.cons (.obj ha hf) .nil), [.obj C gs], rfl, rfl, c.m _ _ _ (fun r hk => ?_) h1⟩
      intro v' B' H' e2 o2 rv
      exact q r ρ1 v' B' H' hk (e1.trans e2) (o1.behind (σ' := σ) (ρ' := ρ1) e2 o2.s) rv
end
/-! ### two tuples of equal things of an own class -/
theorem Ok.ext {K : PySem.W.Frag} {B G H H' : Hp} {σ : L2.St} {ρ : En} (o : Ok K B G H σ ρ) (e : Ext H H') : ∃ B', Ex B B' ∧ Ok K B' G H' σ ρ := by
  classical
  let B' : Hp := fun a => if H a = none ∧ ((H' a).any kn) = true then H' a else B a
  have hB : ∀ a w, B a = some w → B' a = some w := fun a w z => by
    show (if H a = none ∧ ((H' a).any kn) = true then H' a else B a) = _
    rw [if_neg (fun q => by have := o.s.ex _ _ z; rw [q.1] at this; cases this)]
    exact z
  have hN : ∀ a, H a ≠ none → B' a = B a := fun a z => if_neg (fun q => z q.1)
  have ex : Ex B B' := hB
  refine ⟨B', ex, ⟨fun a w z => ?_, fun a w z => e _ _ (o.s.eg _ _ z), fun a w z => ?_, fun a w z kw => ?_⟩, o.len, fun i d hi => ?_, fun i a oo hi => ?_, o.ne⟩
  · by_cases q : H a = none ∧ ((H' a).any kn) = true
    · have : B' a = H' a := if_pos q
      rw [this] at z
      exact z
    · have : B' a = B a := if_neg q
      rw [this] at z
      exact e _ _ (o.s.ex _ _ z)
  · rw [hN a (by rw [o.s.eg _ _ z]; exact fun q => nomatch q)]
    exact o.s.dj _ _ z
  · cases hh : H a with
    | none =>
      have q : H a = none ∧ ((H' a).any kn) = true := ⟨hh, by rw [z]; exact kw⟩
      rw [show B' a = H' a from if_pos q, z]
    | some u =>
      have := e _ _ hh
      rw [this] at z
      cases z
      exact hB _ _ (o.s.tp _ _ hh kw)
  · obtain ⟨v, h1, h2⟩ := o.im i d hi
    exact ⟨v, h1, h2.up ex⟩
  · obtain ⟨h1, h2, h3, u, h4, h5⟩ := o.ow i a oo hi
    exact ⟨h1, by rw [hN a (by rw [h4]; exact fun q => nomatch q)]; exact h2, h3, u, e _ _ h4, h5.up ex⟩
/-- seen to be equal by the promise S -/
def REq (K : PySem.W.Frag) (S : List D → (D → Prop) → Prop) : Addr → Addr → Hp → Prop := fun a b H => ∃ (B G : Hp) (σ : L2.St) (ρ : En) (d d' : D), Ok K B G H σ ρ ∧ Rep K B (.ref a) d ∧ Rep K B (.ref b) d' ∧ S [d, d'] fun r => r = .bl true
theorem REq.mon {K : PySem.W.Frag} {S : List D → (D → Prop) → Prop} : ∀ a b H H', Ext H H' → REq K S a b H → REq K S a b H' := fun a b H H' e ⟨B, G, σ, ρ, d, d', o, r1, r2, hS⟩ =>
  let ⟨B', ex, o'⟩ := o.ext e
  ⟨B', G, σ, ρ, d, d', o', r1.up ex, r2.up ex, hS⟩
theorem csp_eq {K : PySem.W.Frag} {S : List D → (D → Prop) → Prop} (mo : MonoF S) {vs : List V} {H : Hp} {Q : VK} {E : XK} (h : spEq (REq K S) vs H Q E) : Csp K (PFn 2 S) vs H Q E := by
  obtain ⟨a, b, rfl, ⟨B, G, σ, ρ, d, d', o, r1, r2, hS⟩, q⟩ := h
  refine ⟨B, rest B H none, _, o.call (.cons r1 (.cons r2 .nil)), [d, d'], rfl, rfl, mo _ _ _ (fun r hk => ?_) hS⟩
  intro v B' H' e2 o2 rv
  subst hk
  cases rv
  refine q H' fun x w hx => ?_
  cases hb : B x with
  | some u =>
    have h1 := o.s.ex _ _ hb
    rw [hx] at h1
    cases h1
    exact o2.s.ex _ _ (e2 _ _ hb)
  | none => exact o2.s.eg _ _ (by unfold rest; rw [if_neg (by simp), hb]; exact hx)
section
variable {X : Cx} {Z : Zx} {e a b : Expr} {ρ : En} {Φ : D → En → Prop} {pos : Pos} {x : Str} {k : Nat} {C : Addr} {S : List D → (D → Prop) → Prop}
theorem ec_eqTO (c : KM X.prog X.w X.K X.mg X.base "__eq__" k 2 C S) (hr : Room (k + 1) X.A)
    (h : EC X Z a ρ fun d0 ρ0 => EC X Z b ρ0 fun d1 ρ1 => ∃ ds, d0 = .tup ds ∧ d1 = .tup ds ∧ (∀ d ∈ ds, ∃ gs, d = .obj C gs ∧ S [d, d] fun r => r = .bl true) ∧ Φ (.bl true) ρ1) (hm : behindInMarks .Eq b = false := by rfl) : EC X Z (.Compare a [.Eq] [b] pos) ρ Φ := fun B G H σ o0 z Q q => by
  obtain ⟨f, fd, ps, F, mm, bd⟩ := c.c.ex
  have F2 := F.imp fun vs H Q E hh => csp_eq c.m hh
  refine (pe_cmpR (op_eqG (rcG_tup (mon_ins REq.mon) (eqG_ins (E := fun _ _ _ => False) F2 mm.at_ mm.fn bd fun pins σ H s er s' I hc => ?_)) hr) p_wE p_wE hm).w ?_
  · obtain ⟨_, _, _, _, _, _, _, _, _, _, _, _, _, hE⟩ := hc
  · refine h B G H σ o0 z _ fun d0 ρ0 v B0 H0 h1 e0 o1 r0 => h1 B0 G H0 σ o1 (z.up e0) _ fun d1 ρ1 y B1 H1 ⟨ds, hd0, hd1, hS, hk⟩ e1 o2 r1 => ?_
    subst hd0 hd1
    cases r0.up e1 with
    | tup hq0 rs0 =>
    cases r1 with
    | tup hq1 rs1 =>
      refine ⟨⟨_, _, _, _, rfl, rfl, ex_t o2.s.ex (st_of hq0), ex_t o2.s.ex (st_of hq1), rs0.length.trans rs1.length.symm, fun i x y hx hy => ?_⟩, fun H' e => ?_⟩
      · obtain ⟨d, hd, rx⟩ := rs0.get hx
        obtain ⟨d', hd', ry⟩ := rs1.get hy
        rw [hd] at hd'
        cases hd'
        obtain ⟨gs, eg, hs⟩ := hS d (List.mem_of_getElem? hd)
        subst eg
        have rx' := rx
        have ry' := ry
        cases rx with
        | obj ha hf =>
        cases ry with
        | obj hb hg => exact ⟨_, _, _, _, _, _, rfl, rfl, o2.s.ex _ _ ha, o2.s.ex _ _ hb, B1, G, σ, ρ1, _, _, o2, rx', ry', hs⟩
      · obtain ⟨B', ex, o'⟩ := o2.ext e
        exact q _ ρ1 _ B' H' hk ((e0.trans e1).trans ex) o' (.bl true)
end
end AL
namespace L2
open PySem PySem.Spec PyProof.Rows
theorem nd_inj {α β : Type} {f : α → β} : ∀ {l : List α}, (l.map f).Nodup → ∀ {a b : α}, a ∈ l → b ∈ l → f a = f b → a = b
  | [], _, _, _, h, _, _ => absurd h (List.not_mem_nil)
  | x :: l, h, a, b, ha, hb, e => by
    rw [List.map_cons, List.nodup_cons] at h
    cases ha with
    | head => cases hb with
      | head => rfl
      | tail _ hb => exact (h.1 (List.mem_map.mpr ⟨b, hb, e.symm⟩)).elim
    | tail _ ha => cases hb with
      | head => exact (h.1 (List.mem_map.mpr ⟨a, ha, e⟩)).elim
      | tail _ hb => exact nd_inj h.2 ha hb e
section
variable {P : Program} {w : World} {A : Around} {E : Value → Shared → Prop} {s : Shared} {a : Addr} {L : List (Addr × List Int)} {es : Array (Int × Value)} {ep : Nat} {t : SetTable}
abbrev rA (P : Program) (w : World) (t : SetTable) (k : List Int) : SetTable.Probe := runAt t.mask (SetTable.bits (thash P w k) % (t.mask + 1)) (SetTable.bits (thash P w k))
/-- the search that asks, from the c-th step of the way on -/
theorem seek_from (T0 : SetTR P w s.heap a L es ep t) {x : Addr} {k : List Int} (ix : IsT P w s.heap k x) (cu : A.units < cLine) {K : Nat} (kf : K < 10 * SetTable.turns t.mask)
    (kq : way t.mask (thash P w k) K ∉ t.place.toList) (kb : ∀ c, c < K → way t.mask (thash P w k) c ∈ t.place.toList) {Q : SetFound → Shared → Prop}
    (yes : k ∈ L.map (·.2) → ∀ i, Q (.there (some i)) s) (nope : k ∉ L.map (·.2) → Q (.free (way t.mask (thash P w k) K) false) s) :
    ∀ (f c : Nat) (stand : Option SetTable.Probe), stand.getD (t.probeStart (thash P w k)) = nth t.mask (rA P w t k) c → c ≤ K → K - c < f →
      (∀ (i : Nat) p, L[i]? = some p → p.2 = k → ∃ c', c ≤ c' ∧ c' < K ∧ t.place.toList[i]? = some (way t.mask (thash P w k) c')) →
      wpAny (model P w) A (setSearchFrom a (.ref x) (thash P w k) false f stand) Q E s
  | 0, c, stand, _, _, ff, _ => absurd ff (Nat.not_lt_zero _)
  | f + 1, c, stand, se, cc, ff, met => by
    obtain ⟨o, ob, oe, od⟩ := T0.ob
    rw [setSearchFrom_succ]
    refine wpAny_bind (wpAny_setState_of ob od T0.fits ?_)
    dsimp only
    refine wp_if_neg T0.gw ?_
    (try refine wpAny_bind (wpAny_pure ?_))
    have nod : (nth t.mask (rA P w t k) c).dummy = none := by
      have kk : ∀ (n : Nat) (p : SetTable.Probe), p.dummy = none → (nth t.mask p n).dummy = none := by
        intro n
        induction n with
        | zero => intro p h; exact h
        | succ n ih =>
          intro p h
          refine ih (adv t.mask p) ?_
          unfold adv
          split <;> exact h
      exact kk c _ rfl
    have shf : ∀ q, nth t.mask (nth t.mask (rA P w t k) c) q = nth t.mask (rA P w t k) (c + q) := fun q => (nth_add t.mask c _ q).symm
    have w1 : ∀ q, (nth t.mask (nth t.mask (rA P w t k) c) q).j = way t.mask (thash P w k) (c + q) := fun q => congrArg SetTable.Probe.j (shf q)
    have two := go_spec t T0.tab.ris T0.tab.dm (fun i => (es[i]?.map (·.1)).getD 0) (thash P w k) (10 * SetTable.turns t.mask) (K - c) _ nod (by omega)
      (fun q lq => by rw [w1]; exact kb (c + q) (by omega)) (by rw [w1, show c + (K - c) = K by omega]; exact kq)
    have hat : ∀ (i : Nat) p, L[i]? = some p → (fun i => (es[i]?.map (·.1)).getD 0) i = thash P w p.2 := fun i p ep1 => by
      show (es[i]?.map (·.1)).getD 0 = _
      rw [T0.entry ep1] <;> rfl
    rcases two with ⟨q, i, lq, il, eh, nul, pr⟩ | ⟨nul, pr⟩
    · -- a candidate
      have pr2 : t.probe (fun i => (es[i]?.map (·.1)).getD 0) (thash P w k) (stand.getD (t.probeStart (thash P w k))) = some (.candidate (way t.mask (thash P w k) (c + q)) i (nth t.mask (rA P w t k) (c + (q + 1)))) := by
        rw [se, ← w1, ← shf]
        exact pr
      rw [pr2]
      dsimp only
      rw [w1] at il
      -- the entry
      have lt1 : i < L.length := by
        have h1 : i < t.place.toList.length := (List.getElem?_eq_some_iff.mp il).1
        have h2 := T0.tab.sz
        rw [List.length_map] at h2
        rw [Array.length_toList] at h1
        omega
      have ep1 : L[i]? = some L[i] := List.getElem?_eq_getElem lt1
      generalize pe1 : L[i] = p at ep1
      have me1 : p ∈ L := List.mem_of_getElem? ep1
      have pt1 := T0.tup p me1
      have rst : wpAny (model P w) A (searchRest a (.ref x) (thash P w k) false f es t (way t.mask (thash P w k) (c + q)) i (nth t.mask (rA P w t k) (c + (q + 1)))) Q E s := by
        unfold searchRest
        rw [T0.entry ep1]
        dsimp only
        refine wpAny_bind (wpAny_holding (wpAny_eqBool_tuple cu pt1 ix ?_))
        refine wpAny_bind (wpAny_setState_of ob od T0.fits ?_)
        dsimp only
        refine wp_if_neg (by simp) ?_
        (try refine wpAny_bind (wpAny_pure ?_))
        rw [sameMem]
        dsimp only
        have sl1 : t.slot (way t.mask (thash P w k) (c + q)) = .live i := slot_live T0.tab.ris il
        simp only [if_true, sl1, T0.entry ep1]
        refine wpAny_bind (wpAny_isSame_ref_self (wpAny_bind (wpAny_pure ?_)))
        simp only [if_true]
        by_cases ekk : p.2 = k
        · exact wp_if_pos (by simp [ekk]) (wpAny_pure (yes (List.mem_map.mpr ⟨p, me1, ekk⟩) i))
        · refine wp_if_neg (by simp [ekk]) ?_
          refine seek_from T0 ix cu kf kq kb yes nope f (c + (q + 1)) _ rfl (by omega) (by omega) fun j0 u0 g0 gk0 => ?_
          obtain ⟨c', b1, b2, b3⟩ := met j0 u0 g0 gk0
          refine ⟨c', ?_, b2, b3⟩
          -- it isn't passed
          rcases Nat.lt_or_ge c' (c + q) with z | z
          · exfalso
            refine nul (c' - c) j0 (by omega) (by rw [w1, show c + (c' - c) = c' by omega]; exact b3) ?_
            exact (hat j0 u0 g0).trans (congrArg (thash P w) gk0)
          · rcases Nat.lt_or_ge (c + q) c' with y | y
            · omega
            · exfalso
              have ec : c' = c + q := Nat.le_antisymm y z
              rw [ec] at b3
              have s0 := slot_live T0.tab.ris b3
              rw [sl1] at s0
              injection s0 with s0
              rw [← s0, ep1] at g0
              exact ekk ((congrArg Prod.snd (Option.some.inj g0)).trans gk0)
      by_cases el : t.led = true
      · refine wp_if_neg (by simp [el]) ?_
        (try refine wpAny_bind (wpAny_pure ?_))
        exact rst
      · refine wp_if_pos (by simp [el]) ?_
        refine wpAny_bind (seen_tup ix (fun y hy => ?_) ?_)
        · obtain ⟨e, he, ee⟩ := List.mem_map.mp hy
          have m1 : e ∈ es ∧ e.1 = thash P w k := by simpa using he
          have m2 : e ∈ es.toList := by simpa using m1.1
          rw [T0.rows] at m2
          obtain ⟨p2, q2, w2⟩ := List.mem_map.mp m2
          refine ⟨p2.2, p2.1, ?_, T0.tup p2 q2⟩
          rw [← ee, ← w2]
        · refine wp_if_neg (by decide) ?_
          (try refine wpAny_bind (wpAny_pure ?_))
          exact rst
    · -- the empty slot
      have pr2 : t.probe (fun i => (es[i]?.map (·.1)).getD 0) (thash P w k) (stand.getD (t.probeStart (thash P w k))) = some (.empty (way t.mask (thash P w k) K) none) := by
        have w2 : way t.mask (thash P w k) K = (nth t.mask (nth t.mask (rA P w t k) c) (K - c)).j := by
          rw [w1, show c + (K - c) = K by omega]
        rw [se, w2]
        exact pr
      rw [pr2]
      dsimp only
      refine wpAny_pure (nope fun mm => ?_)
      obtain ⟨u0, g0, gk0⟩ := List.mem_map.mp mm
      obtain ⟨j0, hi0, z0⟩ := List.getElem_of_mem g0
      have g00 : L[j0]? = some u0 := by rw [List.getElem?_eq_getElem hi0, z0]
      obtain ⟨c', b1, b2, b3⟩ := met j0 u0 g00 gk0
      refine nul (c' - c) j0 (by omega) (by rw [w1, show c + (c' - c) = c' by omega]; exact b3) ?_
      exact (hat j0 u0 g00).trans (congrArg (thash P w) gk0)
/-- is a tuple in a set of tuples? -/
theorem find_at (T0 : SetTR P w s.heap a L es ep t) {x : Addr} {k : List Int} (ix : IsT P w s.heap k x) (cu : A.units < cLine) {Q : Option Nat → Shared → Prop} (h : ∀ r : Option Nat, r.isSome = decide (k ∈ L.map (·.2)) → Q r s) :
    wpAny (model P w) A (setFind a (.ref x) (thash P w k)) Q E s := by
  have hroom := T0.room
  obtain ⟨o, ob, oe, od⟩ := T0.ob
  obtain ⟨K, kf, kq, kb⟩ := T0.tab.first (by rw [List.length_map]; omega) (thash P w k)
  have hbig : K < 100000 := by
    have : 10 * SetTable.turns t.mask ≤ 1420 := by
      unfold SetTable.turns
      rcases T0.tab.mok with e | e | e <;> omega
    omega
  unfold setFind setFindIn
  refine wpAny_bind (wpAny_setState_of ob od T0.fits ?_)
  refine wp_if_neg (by simp [byScan, Value.scannable]) ?_
  try exact wpAny_bind (wpAny_pure ?_)
  refine wpAny_bind (m := setSearch a (.ref x) (thash P w k)) ?_
  unfold setSearch
  refine seek_from T0 ix cu kf kq kb (fun hm i => wpAny_pure (h _ (by rw [decide_eq_true hm]; rfl))) (fun hm => wpAny_pure (h _ (by rw [decide_eq_false hm]; rfl))) 100000 0 none rfl (Nat.zero_le _) (by omega) fun i p hp hk => ?_
  have eh : (L.map fun p => thash P w p.2)[i]? = some (thash P w k) := by
    rw [List.getElem?_map, hp, ← hk]
    rfl
  have hil : i < t.place.toList.length := by
    have h1 := (List.getElem?_eq_some_iff.mp hp).1
    have h2 := T0.tab.sz
    rw [List.length_map] at h2
    rw [Array.length_toList]
    omega
  have hj := List.getElem?_eq_getElem hil
  obtain ⟨c, hc, e⟩ := T0.tab.before kq eh hj
  exact ⟨c, Nat.zero_le _, hc, by rw [hj, e]⟩
theorem SetTR.isSet (T0 : SetTR P w s.heap a L es ep t) : s.TypeIs (.ref a) "set" := by
  obtain ⟨o, ob, oe, _⟩ := T0.ob
  exact ⟨o, ob, oe.1⟩
theorem SetTR.walk (T0 : SetTR P w s.heap a L es ep t) {l : List Addr} {r : Addr} {Q : Array (Int × Value) → Shared → Prop} (h : ∀ out : Array (Int × Value), out.toList.Perm (rowsOf P w L) → Q out s) : wpAny (model P w) A (setWalkUnseen a l (some r)) Q E s := by
  obtain ⟨o, ob, oe, od⟩ := T0.ob
  have W : wpAny (model P w) A (setWalk a) Q E s := by
    unfold setWalk
    refine wpAny_bind (wpAny_setState_of ob od T0.fits (wpAny_bind (wpAny_byText ?_)))
    cases hb : w.params.followText "set-order" with
    | true =>
      refine wp_if_pos rfl (wpAny_bind (wpAny_askSetting (wpAny_pure (h _ ?_))))
      rw [← T0.rows]
      exact pick_perm (w.params.setOrder a ep) es
    | false =>
      have hled : t.led = true := T0.led.resolve_left (by rw [hb]; exact Bool.false_ne_true)
      refine wp_if_neg Bool.false_ne_true ?_
      refine wp_if_neg (by show ¬ (!t.plain && decide (es.size > 1)) = true; rw [T0.plain]; simp) ?_
      refine wpAny_bind (wpAny_of_eq (a := ()) (by show (if (!t.led && decide (es.size > 1)) = true then unsupported _ else pure ()) = pure (); rw [hled]; rfl) (wpAny_pure (h es (by rw [T0.rows]))))
  unfold setWalkUnseen
  refine wpAny_bind (wpAny_setState_of ob od T0.fits (wpAny_bind (wpAny_byText ?_)))
  refine wp_if_pos ?_ W
  rcases T0.led with z | z
  · rw [z]; rfl
  · rw [z, T0.plain]; simp
/-- the loop of a difference: of out's rows those that the set at b has not go into r -/
theorem diff_loop {r b : Addr} {id : String} {M : List (Addr × List Int)} {es2 es3 : Array (Int × Value)} {ep2 ep3 : Nat} {t2 t3 : SetTable} {out : Array (Int × Value)} (hra : r ≠ a) (hrb : r ≠ b) (Ta : SetTR P w s.heap a L es ep t) (Tb : SetTR P w s.heap b M es2 ep2 t2) (Tr : SetTR P w s.heap r [] es3 ep3 t3)
    (cu : A.units < cLine) (po : out.toList.Perm (rowsOf P w L)) {Q : PUnit → Shared → Prop} {f : (Int × Value) → PUnit → Sem (ForInStep PUnit)}
    (hfe : ∀ e u, f e u = (do
      holding [e.2] (do
        let q0 ← setFind b e.2 e.1
        let q ← pure q0.isSome
        if (!q) = true then do
          let _ ← setAddHashed r e.2 e.1
          pure ()
        else pure ())
      Builtin.Frozenset.unchanged id a ep
      pure (ForInStep.yield PUnit.unit)))
    (hQ : ∀ h' N es' ep' t', Heap.SameBut r s.heap h' → SetTR P w h' r N es' ep' t' → (∀ p ∈ N, p ∈ L ∧ p.2 ∉ M.map (·.2)) → (∀ p ∈ L, p.2 ∉ M.map (·.2) → p ∈ N) → Q ⟨⟩ { s with heap := h' }) :
    wpAny (model P w) A (forIn out PUnit.unit f) Q E s := by
  refine wpAny_forIn_array' _ (fun rest u s' => ∃ done h' N es' ep' t', out.toList = done ++ rest ∧ s' = { s with heap := h' } ∧ Heap.SameBut r s.heap h' ∧ SetTR P w h' r N es' ep' t' ∧
    (∀ p ∈ N, p ∈ L ∧ p.2 ∉ M.map (·.2) ∧ (thash P w p.2, Value.ref p.1) ∈ done) ∧ (∀ p ∈ L, (thash P w p.2, Value.ref p.1) ∈ done → p.2 ∉ M.map (·.2) → p ∈ N) ∧ N.length ≤ done.length) _ ?_ ?_ _ _
    ⟨[], s.heap, [], es3, ep3, t3, rfl, rfl, Heap.SameBut.refl r s.heap, Tr, fun p hp => (by cases hp), fun p _ hp => (by cases hp), Nat.le_refl 0⟩
  · rintro e rest _ _ ⟨done, h', N, es', ep', t', ho, rfl, sb, R, n1, n2, n3⟩
    have me : e ∈ rowsOf P w L := po.mem_iff.mp (by rw [ho]; simp)
    obtain ⟨p, hp, rfl⟩ := List.mem_map.mp me
    have hlen : out.toList.length = L.length := by rw [po.length_eq]; unfold rowsOf; rw [List.length_map]
    have hl : done.length + 1 ≤ L.length := by rw [← hlen, ho]; simp
    have few := Ta.few
    obtain ⟨o3, ob3, oe3, od3⟩ := Tr.ob
    have keepT : ∀ {q : Addr} {k : List Int}, IsT P w s.heap k q → IsT P w h' k q := fun z => isT_same z ob3 od3 sb
    have Tb' : SetTR P w h' b M es2 ep2 t2 := Tb.keep (fun o q => by rw [sb.2 b (Ne.symm hrb)]; exact q) fun q hq => keepT (Tb.tup q hq)
    have Ta' : SetTR P w h' a L es ep t := Ta.keep (fun o q => by rw [sb.2 a (Ne.symm hra)]; exact q) fun q hq => keepT (Ta.tup q hq)
    rw [hfe]
    dsimp only
    have fin : ∀ h2 N2 es2 ep2 t2, Heap.SameBut r h' h2 → SetTR P w h2 r N2 es2 ep2 t2 → (∀ q ∈ N2, q ∈ L ∧ q.2 ∉ M.map (·.2) ∧ (thash P w q.2, Value.ref q.1) ∈ done ++ [(thash P w p.2, Value.ref p.1)]) → (∀ q ∈ L, (thash P w q.2, Value.ref q.1) ∈ done ++ [(thash P w p.2, Value.ref p.1)] → q.2 ∉ M.map (·.2) → q ∈ N2) → N2.length ≤ done.length + 1 →
        wpAny (model P w) A (do
          Builtin.Frozenset.unchanged id a ep
          pure (ForInStep.yield PUnit.unit)) (fun z s' => z = ForInStep.yield PUnit.unit ∧ ∃ done h' N es' ep' t', out.toList = done ++ rest ∧ s' = { s with heap := h' } ∧ Heap.SameBut r s.heap h' ∧ SetTR P w h' r N es' ep' t' ∧
    (∀ p ∈ N, p ∈ L ∧ p.2 ∉ M.map (·.2) ∧ (thash P w p.2, Value.ref p.1) ∈ done) ∧ (∀ p ∈ L, (thash P w p.2, Value.ref p.1) ∈ done → p.2 ∉ M.map (·.2) → p ∈ N) ∧ N.length ≤ done.length) E { s with heap := h2 } := fun h2 N2 es2 ep2 t2 sb2 R2 m1 m2 m3 => by
      obtain ⟨o, ob, oe, od⟩ := Ta'.ob
      unfold Builtin.Frozenset.unchanged
      refine wpAny_bind (wpAny_bind (epoch_set (s := { s with heap := h2 }) (o := o) (by show h2.get? a = some o; rw [sb2.2 a (Ne.symm hra)]; exact ob) od Ta.fits ?_))
      refine wp_if_neg (by simp) (wpAny_pure (wpAny_pure ?_))
      exact ⟨rfl, done ++ [(thash P w p.2, Value.ref p.1)], h2, N2, es2, ep2, t2, by rw [ho]; simp, rfl, sb.trans sb2, R2, m1, m2, by rw [List.length_append]; exact m3⟩
    refine wpAny_bind (wpAny_holding (wpAny_bind (find_at (s := { s with heap := h' }) Tb' (keepT (Ta.tup p hp)) cu fun x hx => wpAny_bind (wpAny_pure ?_))))
    rw [hx]
    -- an address has one key
    have one : ∀ q ∈ L, ∀ z ∈ L, (thash P w q.2, Value.ref q.1) = (thash P w z.2, Value.ref z.1) → q = z := fun q hq z hz e => by
      injection e with _ e
      injection e with e
      have a1 := Ta.tup q hq
      have a2 := Ta.tup z hz
      rw [e] at a1
      exact Prod.ext e (a1.inj a2)
    by_cases hm : p.2 ∈ M.map (·.2)
    · refine wp_if_neg (by rw [decide_eq_true hm]; simp) (wpAny_pure ?_)
      refine wpAny_mono (fin h' N es' ep' t' (Heap.SameBut.refl r h') R (fun q hq => ?_) (fun q hq hd hn => ?_) (by omega)) (fun z s' h => by obtain ⟨rfl, h⟩ := h; exact h) fun _ _ h => h
      · obtain ⟨g1, g2, g3⟩ := n1 q hq
        exact ⟨g1, g2, List.mem_append_left _ g3⟩
      · rcases List.mem_append.mp hd with z | z
        · exact n2 q hq z hn
        · rw [one q hq p hp (List.mem_singleton.mp z)] at hn
          exact absurd hm hn
    · refine wp_if_pos (by rw [decide_eq_false hm]; rfl) ?_
      refine wpAny_bind (add_at (s := { s with heap := h' }) R (keepT (Ta.tup p hp)) cu (by omega) fun bb h2 N2 e2 p2 t2 sb2 R2 k1 k2 => wpAny_pure ?_)
      by_cases hk : p.2 ∈ N.map (·.2)
      · rw [k1 hk] at R2
        refine wpAny_mono (fin h2 N _ _ _ sb2 R2 (fun q hq => ?_) (fun q hq hd hn => ?_) (by omega)) (fun z s' h => by obtain ⟨rfl, h⟩ := h; exact h) fun _ _ h => h
        · obtain ⟨g1, g2, g3⟩ := n1 q hq
          exact ⟨g1, g2, List.mem_append_left _ g3⟩
        · rcases List.mem_append.mp hd with z | z
          · exact n2 q hq z hn
          · rw [one q hq p hp (List.mem_singleton.mp z)]
            obtain ⟨q', hq', eq'⟩ := List.mem_map.mp hk
            have nn : (L.map (·.2)).Nodup := Ta.nd
            rw [← nd_inj nn (n1 q' hq').1 hp eq']
            exact hq'
      · have pm := k2 hk
        refine wpAny_mono (fin h2 N2 _ _ _ sb2 R2 (fun q hq => ?_) (fun q hq hd hn => ?_) (by rw [pm.length_eq]; simp; omega)) (fun z s' h => by obtain ⟨rfl, h⟩ := h; exact h) fun _ _ h => h
        · rcases List.mem_cons.mp (pm.mem_iff.mp hq) with z | z
          · have e0 : q = p := z
            rw [e0]
            exact ⟨hp, hm, by simp⟩
          · obtain ⟨g1, g2, g3⟩ := n1 q z
            exact ⟨g1, g2, List.mem_append_left _ g3⟩
        · refine pm.mem_iff.mpr ?_
          rcases List.mem_append.mp hd with z | z
          · exact List.mem_cons_of_mem _ (n2 q hq z hn)
          · rw [one q hq p hp (List.mem_singleton.mp z)]
            exact List.mem_cons_self
  · rintro _ _ ⟨done, h', N, es', ep', t', ho, rfl, sb, R, n1, n2, n3⟩
    have ho' : out.toList = done := by simpa using ho
    refine hQ h' N es' ep' t' sb R (fun p hp => ⟨(n1 p hp).1, (n1 p hp).2.1⟩) fun p hp hn => n2 p hp ?_ hn
    rw [← ho']
    exact po.mem_iff.mpr (List.mem_map.mpr ⟨p, hp, rfl⟩)
theorem anySet_at {Q : Bool → Shared → Prop} (hT : s.TypeIs (.ref a) "set") (h : Q true s) : wpAny (model P w) A (Builtin.Frozenset.isAnySet (.ref a)) Q E s := by
  unfold Builtin.Frozenset.isAnySet orM
  exact wpAny_bind (wpAny_isInstance hT sub_set_self (wpAny_pure h))
theorem SetTR.sizeOf (T0 : SetTR P w s.heap a L es ep t) {Q : Nat → Shared → Prop} (h : Q L.length s) : wpAny (model P w) A (Builtin.Frozenset.sizeOf a) Q E s := by
  obtain ⟨o, ob, oe, od⟩ := T0.ob
  unfold Builtin.Frozenset.sizeOf setEntries
  exact wpAny_bind (wpAny_bind (wpAny_setState_of ob od T0.fits (wpAny_pure (wpAny_pure (by rw [T0.size]; exact h)))))
/-- a - b, two sets of tuples of ints -/
theorem diff_at {b : Addr} {nm : String} {M : List (Addr × List Int)} {es2 : Array (Int × Value)} {ep2 : Nat} {t2 : SetTable} (Ta : SetTR P w s.heap a L es ep t) (Tb : SetTR P w s.heap b M es2 ep2 t2) (cu : A.units < cLine) (few : L.length / 4 ≤ M.length) {Q : Value → Shared → Prop}
    (hQ : ∀ h' N es' ep' t', (∀ c o, s.heap.get? c = some o → h'.get? c = some o) → SetTR P w h' s.heap.objs.size N es' ep' t' → (∀ p ∈ N, p ∈ L ∧ p.2 ∉ M.map (·.2)) → (∀ p ∈ L, p.2 ∉ M.map (·.2) → p ∈ N) → Q (.ref s.heap.objs.size) { s with heap := h' }) :
    wpAny (model P w) A (Builtin.Frozenset.difference nm a (.ref b)) Q E s := by
  have bS := Tb.isSet
  have aS := Ta.isSet
  obtain ⟨oa, oba, _, oda⟩ := Ta.ob
  have la : a < s.heap.objs.size := Heap.lt_size oba
  have lb : b < s.heap.objs.size := by
    obtain ⟨o, ob, _⟩ := Tb.ob
    exact Heap.lt_size ob
  let nw : Obj := { cls := .type "set", dict := none, data := .set #[] 0 (.fresh 0 0 (!w.params.followText "set-order")) }
  have kp : ∀ c o, s.heap.get? c = some o → (s.heap.push nw).get? c = some o := fun c o e => Heap.get?_push_of_some _ e
  have Ta2 : SetTR P w (s.heap.push nw) a L es ep t := Ta.keep (kp a) fun p hp => isT_keep (Ta.tup p hp) kp
  have Tb2 : SetTR P w (s.heap.push nw) b M es2 ep2 t2 := Tb.keep (kp b) fun p hp => isT_keep (Tb.tup p hp) kp
  have Tr := setTR_fresh (P := P) (w := w) (h := s.heap.push nw) (a := s.heap.objs.size) (Heap.get?_push_size _ rfl)
  unfold Builtin.Frozenset.difference
  refine wpAny_bind (anySet_at bS ?_)
  refine wp_if_neg (by simp) ?_
  (try refine wpAny_bind (wpAny_pure ?_))
  dsimp only
  refine wp_if_neg (by simp) ?_
  refine wp_if_pos rfl ?_
  refine wpAny_bind (Tb.sizeOf ?_)
  refine wpAny_bind (Ta.sizeOf ?_)
  refine wp_if_neg (by omega) ?_
  have bo : wpAny (model P w) A (Builtin.Frozenset.baseOf a) (fun v s' => v = .type "set" ∧ s' = s) E s := by
    unfold Builtin.Frozenset.baseOf
    exact wpAny_bind (wpAny_isInstance aS sub_set_self (wpAny_pure ⟨rfl, rfl⟩))
  refine wpAny_bind (wpAny_mono bo (fun v s' hv => ?_) fun _ _ z => z)
  obtain ⟨rfl, rfl⟩ := hv
  refine wpAny_bind (newSet_at ?_)
  refine wpAny_bind (m := Builtin.Frozenset.addrOf (Value.ref s'.heap.objs.size)) (wpAny_pure ?_)
  refine wpAny_bind (epoch_set (kp a oa oba) oda Ta.fits ?_)
  refine wpAny_bind (wpAny_holding (wpAny_bind (wp_if_pos rfl (Ta2.walk (s := { s' with heap := s'.heap.push nw }) fun out po => ?_))))
  refine wpAny_bind (diff_loop (s := { s' with heap := s'.heap.push nw }) (id := nm) (Nat.ne_of_gt la) (Nat.ne_of_gt lb) Ta2 Tb2 Tr cu po (fun e u => rfl) fun h' N es' ep' t' sb R n1 n2 => wpAny_pure (wpAny_pure ?_))
  refine hQ h' N es' ep' t' (fun c o e => ?_) R n1 n2
  rw [sb.2 c (Nat.ne_of_lt (Heap.lt_size e))]
  exact kp c o e
end
end L2
namespace L2
open PySem PySem.Spec PyProof.Rows
abbrev sObj (w : World) : Obj := { cls := .type "set", dict := none, data := .set #[] 0 (.fresh 0 0 (!w.params.followText "set-order")) }
section
variable {P : Program} {w : World} {A : Around} {E : Value → Shared → Prop} {s : Shared}
theorem call_set_tupT {l : Addr} {items : Array Value} (ks : List (Addr × List Int)) {Q : Value → Shared → Prop} (hn : A.handled = none) (tu : s.heap.IsTuple l items) (its9 : items.toList = ks.map fun p => Value.ref p.1)
    (kt : ∀ p ∈ ks, IsT P w s.heap p.2 p.1) (few9 : ks.length < 64) (cu : A.units + 3 < cLine)
    (h : ∀ (h' : Heap) (tk : Nat) L es ep t, SetTR P w h' s.heap.objs.size L es ep t → Got ks ks.length L → (∀ b o, s.heap.get? b = some o → h'.get? b = some o) → Q (.ref s.heap.objs.size) { s with heap := h', toks := tk }) :
    wpAny (model P w) A (call (.type "set") [.ref l]) Q E s := by
  have zz : items.size = ks.length := by
    have z := congrArg List.length its9
    rw [Array.length_toList, List.length_map] at z
    exact z
  obtain ⟨c, tl, mr⟩ := F.called_set.mro
  have md := F.called_set.made
  have sbs := F.called_set.sub
  refine wpAny_call (codeAny_of_tree ?_)
  show wpAny _ _ (callAny (.type "set") _) _ _ _
  refine wpAny_pure ⟨Code.quiet_builtin _ (by decide +kernel), codeAny_builtin F.entry_type_call ?_⟩
  rw [Around.under_plain (weight_type_call_type "set" [.ref l] []) rfl]
  have nt1 := F.called_set.notType
  have cc1 := F.called_set.canCreate
  have ct1 := F.typeCall_set_1 (.ref l)
  repeat (any_goals (first | assumption | wp_step))

  refine codeAny_mono (code_set_led1 (.ref l) (E := E) (Q₁ := fun obj u1 => obj = .ref s.heap.objs.size ∧ u1 = { s with heap := s.heap.push (sObj w) }) ⟨rfl, rfl⟩) fun r u1 hw1 => ?_
  cases r with
  | error e => exact hw1
  | ok ff =>
    cases ff with
    | ret obj =>
      obtain ⟨rfl, rfl⟩ := hw1
      have gS : (s.heap.push (sObj w)).get? s.heap.objs.size = some (sObj w) := Heap.get?_push_size _ rfl
      have tS : Shared.TypeIs { s with heap := s.heap.push (sObj w) } (.ref s.heap.objs.size) "set" := ⟨_, gS, rfl⟩
      have li1 := F.called_set.init.lookup
      have bi1 := F.called_set.init.bind (.ref s.heap.objs.size)
      repeat (any_goals (first | assumption | wp_step))

      refine codeAny_mono (codeAny_call_builtin (R := wants (fun r u2 => r = .none ∧ ∃ h' tk L es ep t, u2 = { s with heap := h', toks := tk } ∧ SetTR P w h' s.heap.objs.size L es ep t ∧ Got ks ks.length L ∧
          (∀ b o, s.heap.get? b = some o → h'.get? b = some o)) E) F.called_set.init.plain F.entry_set_init (check_set_init_1 tS ?_)) fun w2 u2 hw2 => ?_
      · obtain ⟨o9, tl1, kl1, n9, dl1⟩ := tu
        obtain ⟨k1, k2, k3, k4⟩ := o9
        simp only at kl1 dl1
        subst kl1; subst dl1
        have tl2 : (s.heap.push (sObj w)).get? l = some { cls := .type "tuple", dict := k2, data := .seq items n9, slots := k4 } := Heap.get?_push_of_some _ tl1
        have ss1 := F.sub_tuple_set
        have sf1 := F.sub_tuple_frozenset
        have nd1 : (Value.type "tuple" == Value.type "dict") = false := by decide
        have it1 : (s.heap.push (sObj w)).IsTuple l items := ⟨_, tl2, rfl, n9, rfl⟩
        unfold Builtin.«set.__init__» noKeywords Builtin.Frozenset.updateFrom
        generalize yi0 : pyIter = YI
        wp_walk
        subst yi0

        refine wpAny_pyIter_tuple it1 ?_
        refine wpAny_bind (wpAny_runValue ?_)
        have lt9 : l < s.heap.objs.size := Heap.lt_size tl1
        have hn3 : A.in1.in1.in1.handled = none := by simp [hn]
        have sz1 : (s.heap.push (sObj w)).objs.size = s.heap.objs.size + 1 := Heap.size_push ..
        have neI : l ≠ (s.heap.push (sObj w)).objs.size := by
          rw [Heap.size_push]; exact Nat.ne_of_lt (Nat.lt_succ_of_lt lt9)
        have nSf : s.heap.objs.size ∉ [(s.heap.push (sObj w)).objs.size, l] := by
          rw [Heap.size_push]; simp only [List.mem_cons, List.mem_singleton, List.not_mem_nil, or_false, not_or]
          exact ⟨Nat.ne_of_lt (Nat.lt_succ_self _), Nat.ne_of_gt lt9⟩
        have vals9 : ∀ (i : Nat) (v : Value), items[i]? = some v → ∃ p, ks[i]? = some p ∧ v = .ref p.1 := fun i v hv => by
          have z : items.toList[i]? = some v := by rw [Array.getElem?_toList]; exact hv
          rw [its9, List.getElem?_map] at z
          cases hq : ks[i]? with
          | none => rw [hq] at z; cases z
          | some p =>
            rw [hq] at z
            exact ⟨p, rfl, (Option.some.inj z).symm⟩
        have nof : ∀ b, s.heap.objs.size ≤ b → s.heap.get? b = none := fun b hb => by
          cases z : s.heap.get? b with
          | none => rfl
          | some o => exact absurd (Nat.lt_of_lt_of_le (Heap.lt_size z) hb) (Nat.lt_irrefl _)
        refine set_update_tups ((Walks.tuple hn3 _ l neI items).toS) s.heap.objs.size
          nSf ks zz few9 vals9 s.heap kt (nof _ (Nat.le_refl _)) (fun b hb => nof b (by
            rw [List.mem_singleton.mp hb, Heap.size_push]
            exact Nat.le_succ _)) cu (items.size - 0) 0 _ (by omega) (Nat.zero_le _)
          ⟨⟨_, Heap.get?_push_size _ rfl, rfl, rfl⟩, (it1.push _)⟩ (fun b o e => Heap.get?_push_of_some _ (Heap.get?_push_of_some _ e)) ?caseA ?caseB
        case caseA =>
          have gg1 : ((s.heap.push (sObj w)).push { cls := .type "tuple_iterator", data := .fields #[.ref l, .int 0 0] }).get? s.heap.objs.size
              = some (sObj w) := Heap.get?_push_of_some _ gS
          exact ⟨[], #[], 0, _, setTR_fresh gg1, Got.zero ks⟩
        case caseB =>
          intro s' L es ep t mv gS2 got2 kp1
          obtain ⟨h', g2, d', tk', os'⟩ := s'
          have j1 : g2 = s.gens := mv.gens
          have j2 : d' = s.drawn := mv.drawn
          have j3 : os' = s.os := mv.os
          subst j1; subst j2; subst j3
          show wpAny _ _ _ _ _ _
          refine wpAny_pure ?_
          show wpAny _ _ (ret Value.none) _ _ _
          rw [zz] at got2
          exact wpAny_pure ⟨rfl, h', tk', L, es, ep, t, rfl, gS2, got2, kp1⟩

      · cases w2 with
        | error e => exact hw2
        | ok ff2 =>
          cases ff2 with
          | ret r =>
            obtain ⟨rfl, h', tk, L, es, ep, t, rfl, gS2, got2, kt2⟩ := hw2
            repeat (any_goals (first | assumption | wp_step))
            exact h _ _ _ _ _ _ gS2 got2 kt2
          | _ => exact hw2.elim
    | _ => exact hw1.elim

end
end L2
namespace L2
open PySem PySem.Spec PyProof.Rows
section
variable {X : Cx}
/-- set(x), x a tuple of tuples of ints -/
def rSetTupT (K : PySem.W.Frag) (P : Program) (w : World) : List V → Hp → VK → Prop := fun xs H Q => ∃ (l : Addr) (ks : List (Addr × List Int)), xs = [V.ref l] ∧ SqT K H l (ks.map fun p => V.ref p.1) ∧ (∀ p ∈ ks, SqT K H p.1 (p.2.map V.int)) ∧ ks.length < 64 ∧
  ∀ a L, H a = none → (∀ p ∈ L, p ∈ ks) → (∀ p ∈ ks, p.2 ∈ L.map (·.2)) → (L.map (·.2)).Nodup → Q (.ref a) (upd H a (SetTO P w a L))
theorem cr_setTupT (hc : X.calm = true) (hu : X.A.units + 64 < cLine) : CallR X (.type "set") (rSetTupT X.K X.prog X.w) := by
  rintro pins s σ H xs us Q I r ⟨l, ks, rfl, hl, hk, hf, q⟩
  rw [Vals.ref1 r]
  obtain ⟨its, rv, pl, hz⟩ := I.tuple hl
  refine call_set_tupT (P := X.prog) (w := X.w) (items := its.toArray) ks (I.ok.hd hc) pl (by simpa using refs_of_vals rv) (fun p hp => I.isT (hk p hp)) hf (by omega) fun h' tk L es ep t T0 g k => ?_
  exact ⟨.ref s.heap.objs.size, upd H s.heap.objs.size (SetTO X.prog X.w s.heap.objs.size L), I.laid (t' := tk) k (Nat.le_refl _) (setTO_new T0.t0), rfl, q _ L (I.hok.fresh (Nat.le_refl _)) (fun p hp => List.mem_of_mem_take (g.sub p hp)) (fun p hp => g.all p (by rw [List.take_length]; exact hp)) T0.nd⟩
/-- a - b, two sets of tuples of ints -/
def rSSubT (K : PySem.W.Frag) (P : Program) (w : World) : R2 := fun x y H Q => ∃ (a b : Addr) (L M : List (Addr × List Int)), x = .ref a ∧ y = .ref b ∧ H a = some (SetTO P w a L) ∧ H b = some (SetTO P w b M) ∧ (∀ p ∈ L, SqT K H p.1 (p.2.map V.int)) ∧ (∀ p ∈ M, SqT K H p.1 (p.2.map V.int)) ∧ L.length / 4 ≤ M.length ∧
  ∀ c N, H c = none → (∀ p ∈ N, p ∈ L ∧ p.2 ∉ M.map (·.2)) → (∀ p ∈ L, p.2 ∉ M.map (·.2) → p ∈ N) → (N.map (·.2)).Nodup → Q (.ref c) (upd H c (SetTO P w c N))
theorem op_ssubT (hu : X.A.units + 64 < cLine) : OpR X (binaryOp .Sub) (rSSubT X.K X.prog X.w) := by
  rintro pins s σ H x y v u Q I rx ry ⟨a, b, L, M, rfl, rfl, ha, hb, kL, kM, few, q⟩
  cases rx
  cases ry
  have A0 : SetT0 X.prog X.w s.heap a L := (I.hok a _ ha).1
  have B0 : SetT0 X.prog X.w s.heap b M := (I.hok b _ hb).1
  obtain ⟨es, ep, t, Ta⟩ := A0.full fun p hp => I.isT (kL p hp)
  obtain ⟨es2, ep2, t2, Tb⟩ := B0.full fun p hp => I.isT (kM p hp)
  refine wpAny_binaryOp_same Ta.isSet Tb.isSet F.fills_set_sub F.slot_set_sub ?_
  refine wpAny_call_entry F.slot_set_sub Ta.isSet entry_set_sub ?_ (F.args_set_sub_2 _ _)
  unfold Builtin.«frozenset.__sub__»
  show wpAny _ _ (do
    let (self, other) ← Builtin.Frozenset.slot1 "__sub__" ⟨[.ref a, .ref b], []⟩
    let (l, r) := if false = true then (other, self) else (self, other)
    if !(← Builtin.Frozenset.isAnySet l <&&> Builtin.Frozenset.isAnySet r) then rule s!"frozenset.{"__sub__"}.declined"; return ← ret .notImplemented
    ret (← Builtin.Frozenset.difference s!"frozenset.{"__sub__"}" (← Builtin.Frozenset.addrOf l) r)) _ _ _
  refine wpAny_bind (wpAny_of_eq (a := (Value.ref a, Value.ref b)) (by rfl) ?_)
  dsimp only
  rw [if_neg Bool.false_ne_true]
  dsimp only
  unfold andM
  refine wpAny_bind (wpAny_bind (anySet_at Ta.isSet (anySet_at Tb.isSet ?_)))
  refine wp_if_neg (by simp) ?_
  refine wpAny_bind (m := Builtin.Frozenset.addrOf (.ref a)) (wpAny_pure ?_)
  refine wpAny_bind (diff_at Ta Tb (by have e : X.A.in1.units = X.A.units + 1 := rfl; omega) few fun h' N es' ep' t' k R n1 n2 => wpAny_pure ⟨_, rfl, (fun z => nomatch z), ?_⟩)
  exact ⟨.ref s.heap.objs.size, upd H s.heap.objs.size (SetTO X.prog X.w s.heap.objs.size N), I.laid (t' := s.toks) k (Nat.le_refl _) (setTO_new R.t0), rfl, q _ N (I.hok.fresh (Nat.le_refl _)) n1 n2 R.nd⟩
end
end L2

namespace AL
open PySem PySem.Spec PyProof.Rows L2 Evl
theorem nd_len {α : Type} [DecidableEq α] : ∀ {l m : List α}, l.Nodup → (∀ x ∈ l, x ∈ m) → l.length ≤ m.length
  | [], _, _, _ => Nat.zero_le _
  | x :: l, m, h, s => by
    have hx := s x List.mem_cons_self
    obtain ⟨h1, h2⟩ := List.nodup_cons.mp h
    have hl : l.length ≤ (m.erase x).length := nd_len h2 fun y hy => (List.mem_erase_of_ne (show y ≠ x from fun e => h1 (by rw [← e]; exact hy))).mpr (s y (List.mem_cons_of_mem _ hy))
    rw [List.length_erase_of_mem hx] at hl
    have := List.length_pos_of_mem hx
    rw [List.length_cons]
    omega
/-- a tuple of tuples of ints, its members by address -/
theorem tups_at {K : PySem.W.Frag} {B : Hp} : ∀ {ks : List (List Int)} {xs : List V}, Reps K B xs (ks.map tupI) → ∃ L : List (Addr × List Int), xs = L.map (fun p => V.ref p.1) ∧ L.map (·.2) = ks ∧ ∀ p ∈ L, B p.1 = some (.tup (p.2.map V.int))
  | [], _, .nil => ⟨[], rfl, rfl, fun _ h => absurd h List.not_mem_nil⟩
  | k :: ks, _, .cons (.tup hq rr) rs => by
    obtain ⟨L, e1, e2, h⟩ := tups_at rs
    have ev := reps_int rr
    subst ev
    exact ⟨(_, k) :: L, by rw [e1]; rfl, by rw [List.map_cons, e2], fun p hp => by
      cases hp with
      | head => exact hq
      | tail _ hp => exact h p hp⟩
section
variable {X : Cx} {Z : Zx} {a b : Expr} {ρ : En} {Φ : D → En → Prop} {p p1 p2 p3 p4 pos q1 q2 : Pos}
/-- sorted(set(a) - set(b)) of two tuples of tuples of n ints in [0, Bd) -/
theorem ec_sortedSub (n : Nat) (Bd : Int) (hn : 1 ≤ n) (hms : X.mg "sorted" = none) (hmt : X.mg "set" = none) (hu : X.A.units + 64 < cLine)
    (h : EC X Z a ρ fun d ρ1 => ∃ ks : List (List Int), d = .tup (ks.map tupI) ∧ ks.length < 64 ∧ (∀ k ∈ ks, k.length = n ∧ TS.Bd Bd k) ∧ EC X Z b ρ1 fun d' ρ2 => ∃ ms : List (List Int), d' = .tup (ms.map tupI) ∧ ms.length < 64 ∧ ms.Nodup ∧ ks.length / 4 ≤ ms.length ∧
      ∀ out : List (List Int), out.Pairwise (fun k m => TS.code Bd k ≤ TS.code Bd m) → out.Nodup → (∀ k, k ∈ out ↔ k ∈ ks ∧ k ∉ ms) → Φ (.lst (out.map tupI)) ρ2)
    (hc : X.calm = true := by rfl) (hgs : Gl X "sorted" := by rfl) (hgt : Gl X "set" := by rfl)
    (ha : starEach [a] X.env = (false, eval a X.env) :: starEach [] X.env := by rfl) (hb : starEach [b] X.env = (false, eval b X.env) :: starEach [] X.env := by rfl)
    (he : starEach [.BinOp (.Call (.Name "set" p1) [a] [] p2) .Sub (.Call (.Name "set" p3) [b] [] p4) q1] X.env = (false, eval (.BinOp (.Call (.Name "set" p1) [a] [] p2) .Sub (.Call (.Name "set" p3) [b] [] p4) q1) X.env) :: starEach [] X.env := by rfl)
    (hpl : ∀ pos, (backTo pos (starEach [] X.env)).any (·.1) = false := by intro pos; rfl) :
    EC X Z (.Call (.Name "sorted" p) [.BinOp (.Call (.Name "set" p1) [a] [] p2) .Sub (.Call (.Name "set" p3) [b] [] p4) q1] [] pos) ρ Φ := fun B G H σ o z Q q => by
  have pS := pe_op (a := .Call (.Name "set" p1) [a] [] p2) (b := .Call (.Name "set" p3) [b] [] p4) (pos := q1) (op_ssubT hu) (pe_callTy (cr_setTupT hc hu) hgt hmt boot_set (pa_cons (p_wE (e := a)) pa_nil ha) (he := ha) (hpl := hpl _)) (pe_callTy (cr_setTupT hc hu) hgt hmt boot_set (pa_cons (p_wE (e := b)) pa_nil hb) (he := hb) (hpl := hpl _))
  refine (pe_callB (cr_sortedT hc) hgs hms boot_sorted (pa_cons pS pa_nil he) (he := he) (hpl := hpl _)).w ?_
  refine h B G H σ o z _ fun d ρ1 x B1 H1 ⟨ks, hd, hl, hB, h1⟩ e1 o1 r1 => ?_
  subst hd
  cases r1 with
  | tup hq rr =>
  obtain ⟨L, rfl, rfl, kL⟩ := tups_at rr
  have l1 : L.length < 64 := by rw [List.length_map] at hl; exact hl
  refine ⟨_, L, rfl, ex_t o1.s.ex (st_of hq), fun p hp => ex_t o1.s.ex (st_of (kL p hp)), l1, fun pa L1 hpa s1 s2 nd1 => ?_⟩
  obtain ⟨e2, o2⟩ := o1.grow (u := SetTO X.prog X.w pa L1) hpa
  refine h1 _ G _ σ o2 (z.up (e1.trans e2)) _ fun d' ρ2 y B3 H3 ⟨ms, hd', hl', nm, few, hk⟩ e3 o3 r3 => ?_
  subst hd'
  cases r3 with
  | tup hq' rr' =>
  obtain ⟨M, rfl, rfl, kM⟩ := tups_at rr'
  have l2 : M.length < 64 := by rw [List.length_map] at hl'; exact hl'
  refine ⟨_, M, rfl, ex_t o3.s.ex (st_of hq'), fun p hp => ex_t o3.s.ex (st_of (kM p hp)), l2, fun pb M1 hpb t1 t2 nd2 => ?_⟩
  have hA : H3 pa = some (SetTO X.prog X.w pa L1) := o3.s.ex _ _ (e3 _ _ upd_same)
  have hne : pa ≠ pb := fun t => by subst t; rw [hpb] at hA; cases hA
  obtain ⟨e4, o4⟩ := o3.grow (u := SetTO X.prog X.w pb M1) hpb
  have bL : ∀ p ∈ L, SqT X.K (upd H3 pb (SetTO X.prog X.w pb M1)) p.1 (p.2.map V.int) := fun p hp => ex_t o4.s.ex (st_of (e4 _ _ (e3 _ _ (e2 _ _ (kL p hp)))))
  have bM : ∀ p ∈ M, SqT X.K (upd H3 pb (SetTO X.prog X.w pb M1)) p.1 (p.2.map V.int) := fun p hp => ex_t o4.s.ex (st_of (e4 _ _ (kM p hp)))
  have c1 : L1.length ≤ L.length := by
    have := nd_len (m := L.map (·.2)) nd1 fun k hk' => by
      obtain ⟨p, hp, e⟩ := List.mem_map.mp hk'
      exact List.mem_map.mpr ⟨p, s1 p hp, e⟩
    rwa [List.length_map, List.length_map] at this
  have memM : ∀ k, k ∈ M1.map (·.2) ↔ k ∈ M.map (·.2) := fun k => ⟨fun g => by
    obtain ⟨p, hp, e⟩ := List.mem_map.mp g
    exact List.mem_map.mpr ⟨p, t1 p hp, e⟩, fun g => by
    obtain ⟨p, hp, e⟩ := List.mem_map.mp g
    rw [← e]
    exact t2 p hp⟩
  have c2 : M1.length = M.length := by
    have := ((List.perm_ext_iff_of_nodup nd2 nm).mpr memM).length_eq
    rwa [List.length_map, List.length_map] at this
  refine ⟨pa, pb, L1, M1, rfl, rfl, by rw [upd_ne hne]; exact hA, upd_same, fun p hp => bL p (s1 p hp), fun p hp => bM p (t1 p hp), ?_, fun pc N hpc n1 n2 nd3 => ?_⟩
  · rw [List.length_map, List.length_map] at few
    omega
  obtain ⟨e5, o5⟩ := o4.grow (u := SetTO X.prog X.w pc N) hpc
  have mem : ∀ k, k ∈ N.map (·.2) ↔ k ∈ L.map (·.2) ∧ k ∉ M.map (·.2) := fun k => ⟨fun g => by
    obtain ⟨p, hp, e⟩ := List.mem_map.mp g
    subst e
    exact ⟨List.mem_map.mpr ⟨p, s1 p (n1 p hp).1, rfl⟩, fun c => (n1 p hp).2 ((memM _).mpr c)⟩, fun ⟨g, c⟩ => by
    obtain ⟨p, hp, e⟩ := List.mem_map.mp g
    obtain ⟨p', hp', e'⟩ := List.mem_map.mp (s2 p hp)
    have e2' : p'.2 = k := e'.trans e
    exact List.mem_map.mpr ⟨p', n2 p' hp' (by rw [e2']; exact fun w => c ((memM k).mp w)), e2'⟩⟩
  refine ⟨pc, N, n, Bd, rfl, upd_same, fun p hp => ex_t o5.s.ex (st_of (e5 _ _ (e4 _ _ (e3 _ _ (e2 _ _ (kL p (s1 p (n1 p hp).1))))))), hn, fun p hp => hB p.2 (List.mem_map.mpr ⟨p, s1 p (n1 p hp).1, rfl⟩), fun N1 po pm pn pl pw hpo => ?_⟩
  obtain ⟨e6, o6⟩ := o5.grow (u := .lst (N1.map fun q => V.ref q.1)) hpo
  have hres := hk (N1.map (·.2)) (List.pairwise_map.mpr pw) pn fun k => ((pm.map (·.2)).mem_iff).trans (mem k)
  rw [List.map_map] at hres
  have rr2 := rows_reps (K := X.K) (L := N1) fun q hq => o6.s.tp _ _ (o6.s.ex _ _ (e6 _ _ (e5 _ _ (e4 _ _ (e3 _ _ (e2 _ _ (kL q (s1 q (n1 q (pm.mem_iff.mp hq)).1)))))))) rfl
  exact q _ ρ2 _ _ _ hres ((((e1.trans e2).trans e3).trans e4).trans (e5.trans e6)) o6 (.lst upd_same rr2)
end
end AL
namespace AL
open PySem PySem.Spec PyProof.Rows L2 Evl
def kDt : Key → D
  | .inl n => .int n
  | .inr x => .str x
theorem key_reps {K : PySem.W.Frag} {B : Hp} : ∀ ks : List Key, Reps K B (ks.map kV) (ks.map kDt)
  | [] => .nil
  | .inl n :: ks => .cons (.int n) (key_reps ks)
  | .inr x :: ks => .cons (.str x) (key_reps ks)
theorem keysT_reps {K : PySem.W.Frag} {B H : Hp} (t : ∀ a w, H a = some w → kn w = true → B a = some w) {kvs : List (List Key × V)} {bs : List Addr} (ik : IsKeys H kvs bs) : ∀ {kds : List (List Key × D)}, kvs.map (·.1) = kds.map (·.1) → Reps K B (bs.map V.ref) (kds.map fun kv => D.tup (kv.1.map kDt)) := by
  unfold IsKeys at ik
  induction ik with
  | nil =>
    intro kds e
    cases kds with
    | nil => exact .nil
    | cons _ _ => exact nomatch e
  | cons h r ih =>
    intro kds e
    cases kds with
    | nil => exact nomatch e
    | cons kd kds =>
      rw [List.map_cons, List.map_cons] at e
      injection e with e1 e2
      rw [e1] at h
      exact .cons (.tup (t _ _ h rfl) (key_reps _)) (ih e2)
section
variable {X : Cx} {Z : Zx} {ρ : En} {Φ : D → En → Prop} {p pos ps : Pos} {x : Str}
/-- list(x), x a dict of one's own with tuple keys -/
theorem ec_listDT (i : Nat) {kds : List (List Key × D)} {aq : Addr} (hd : ρ[i]? = some (some (.ow aq (.t kds)))) (h : Φ (.lst (kds.map fun kv => D.tup (kv.1.map kDt))) ρ) (hm : X.mg "list" = none)
    (hc : X.calm = true := by rfl) (hg : Gl X "list" := by rfl) (hN : X.N[i]? = some x := by rfl) (hv : Vis X.env.scope x := by first | exact Or.inl rfl | exact Or.inr (Or.inl rfl) | exact Or.inr (Or.inr rfl)) (hdb : (x == ("__debug__" : Str)) = false := by decide) (hcd : (x == ("__classdict__" : Str)) = false := by decide)
    (he : starEach [.Name x ps] X.env = (false, eval (.Name x ps) X.env) :: starEach [] X.env := by rfl) (hpl : (backTo pos (starEach [] X.env)).any (·.1) = false := by rfl) : EC X Z (.Call (.Name "list" p) [.Name x ps] [] pos) ρ Φ := fun B G H σ o z Q q => by
  obtain ⟨g1, _, _, u, g4, g5⟩ := o.ow i aq _ hd
  cases u with
  | dT kvs =>
    refine (pe_callTy (call_list_dT hc) hg hm boot_list (pa_cons (pe_var hN hv hdb hcd) pa_nil he) (he := he) (hpl := hpl)).w ⟨_, g1, aq, kvs, rfl, .of g4, fun p' bs hp ik => ?_⟩
    obtain ⟨e2, o2⟩ := o.grow (u := .lst (bs.map V.ref)) hp
    exact q _ ρ _ _ _ h e2 o2 (.lst upd_same ((keysT_reps o.s.tp ik (RepK.keys g5)).up e2))
  | _ => exact False.elim g5
end
end AL
namespace AL
open PySem PySem.Spec PyProof.Rows L2 Evl
theorem rep_key {K : PySem.W.Frag} {B : Hp} {v : V} : ∀ {k : Key}, Rep K B v (kDt k) → v = kV k
  | .inl n, .int _ => rfl
  | .inr x, .str _ => rfl
section
variable {X : Cx} {Z : Zx} {kx vx tg iter : Expr} {scope : Scope} {own : List (Str × Nat)} {pos : Pos} {ρ : En} {Φ : OO → En → Prop}
theorem fc_dc_te (own : List (Str × Nat)) (js : List Nat) (h : IC X Z tg iter ρ fun ds ρ1 => ∃ out : Nat → List (Key × D), out 0 = [] ∧ (∀ i, i ≤ ds.length → (out i).length ≤ 50000) ∧ freeAt ρ1 (own.map (·.2)) = true ∧
      (∀ i d, ds[i]? = some d → AllB X scope fun X' => GT X' tg js d (wipeE ρ1 (own.map (·.2))) fun ρ3 => AllB X scope fun X' => EC X' Z0 kx ρ3 fun y ρ4 => ∃ k, y = kDt k ∧ AllB X scope fun X' => EC X' Z0 vx ρ4 fun z ρ5 => wipeE ρ5 (own.map (·.2)) = wipeE ρ1 (own.map (·.2)) ∧ out (i + 1) = putKD (out i) k z) ∧ Φ (.k (out ds.length)) ρ1)
    (hjs : ∀ j ∈ js, j ∈ own.map (·.2)) : FT X Z (tDc (wI X tg iter) (fun v σ H Q => AllB X scope fun X' => wG X' tg v σ H Q) tYes (fun σ H Q => AllB X scope fun X' => wE X' kx σ H Q) (fun σ H Q => AllB X scope fun X' => wE X' vx σ H Q) (own.map (·.2))) ρ Φ := fun B G H σ o z Q q => by
  refine h B G H σ o z _ fun ds ρ1 J B1 H1 ⟨out, ho, hl, hf, ht, hk⟩ e1 o1 wk => ?_
  intro Dl hD
  obtain ⟨of, hBn, hGn, hnn⟩ := o1.fresh (u := .dK []) hD
  have hB1 : B1 Dl = none := fresh_back o1.s.ex hD
  have ow0 := of.wipe (own.map (·.2))
  have nw : ∀ (ρ : En), (∀ (j : Nat) (q : OO), ρ[j]? ≠ some (some (Sl.ow Dl q))) → ∀ (vs : List Nat) (j : Nat) (q : OO), (wipeE ρ vs)[j]? ≠ some (some (Sl.ow Dl q)) := by
    intro ρ hnn vs
    induction vs with
    | nil => exact hnn
    | cons v vs ih =>
      intro j q hj
      have hj' : ((wipeE ρ vs).set v none)[j]? = some (some (Sl.ow Dl q)) := hj
      rw [getq_set] at hj'
      split at hj'
      · simp at hj'
      · split at hj'
        · simp at hj'
        · exact ih j q hj'
  have hn0 := nw ρ1 hnn (own.map (·.2))
  refine ⟨fun i m H' => m = ds.length - i ∧ i ≤ ds.length ∧ ∃ B' u, Ex B1 B' ∧ Ok X.K B' G H' (L2.wipe σ (own.map (·.2))) (wipeE ρ1 (own.map (·.2))) ∧ B' Dl = none ∧ H' Dl = some (.dK u) ∧ RepK X.K B' u (out i), ⟨_, rfl, Nat.zero_le _, B1, [], Ex.refl _, ow0, hB1, upd_same, by rw [ho]; exact .nil⟩, ?_⟩
  rintro i m H' ⟨rfl, hi, B', u, e', o', hb', hu', r'⟩
  have oh := o'.hold hb' hu' hn0
  by_cases hlt : i < ds.length
  · have hget : ds[i]? = some ds[i] := by simp [hlt]
    obtain ⟨g1, g2⟩ := (wk i B' _ H' _ _ e' oh).1 _ hget
    refine .inr ⟨g1, fun H' => ∃ B' u, Ex B1 B' ∧ Ok X.K B' G H' (L2.wipe σ (own.map (·.2))) (wipeE ρ1 (own.map (·.2))) ∧ B' Dl = none ∧ H' Dl = some (.dK u) ∧ RepK X.K B' u (out (i + 1)), fun H' x => ⟨ds.length - (i + 1), by omega, rfl, hlt, x⟩, fun x H2 y => ?_⟩
    obtain ⟨B3, e3, o3, r3⟩ := g2 x H2 y
    intro s H0 C cl fp
    refine ht i _ hget s H0 C cl fp B3 _ H2 _ x o3 r3 _ fun ρ3 σ3 B4 H4 h4 ag e4 o4 => ?_
    have hw : L2.wipe σ3 (own.map (·.2)) = L2.wipe (L2.wipe σ (own.map (·.2))) (own.map (·.2)) := Agree.wipe ⟨ag.1, fun k hk => ag.2 k fun z => hk (hjs k z)⟩
    rw [wipe_wipe] at hw
    refine ⟨hw, ?_⟩
    show (AllB X scope fun X' => wE X' kx σ3 H4 _)
    intro s5 H5 C5 cl5 fp5
    refine h4 s5 H5 C5 cl5 fp5 B4 _ H4 σ3 o4 RC.none _ fun y ρ4 v B5 H5 ⟨k, hy, h5⟩ e5 o5 r5 => ?_
    intro s6 H6 C6 cl6 fp6
    refine h5 s6 H6 C6 cl6 fp6 B5 _ H5 σ3 o5 RC.none _ fun zz ρ5 vz B6 H6 ⟨hR6, hout⟩ e6 o6 r6 => ?_
    subst hy
    obtain ⟨l1, l2, l3, l4⟩ := o6.letGo (fresh_back o1.s.eg hD)
    have hl5 := hl i hi
    have e36 : Ex B' B6 := ((e3.trans e4).trans e5).trans e6
    have hlen : u.length = (out i).length := Paired.length r'
    refine ⟨u, k, rep_key r5, l2, sz_lt (by rw [hlen]; omega), B6, putK u k vz, e'.trans e36, ?_, l1, upd_same, by rw [hout]; exact RepK.put (Paired.mapP r' fun p q h => ⟨h.1, h.2.up e36⟩) r6⟩
    have z6 := (l4 (.dK (putK u k vz)) rfl).wipe (own.map (·.2))
    rw [hw, hR6] at z6
    exact z6
  · have hii : i = ds.length := by omega
    subst hii
    exact .inl ⟨(wk _ B' G H' _ _ e' o').2 (Nat.le_refl _), q _ ρ1 Dl _ B' H' hk (e1.trans e') (o1.back e' o' (free_back hf)) hb' (fresh_back o1.s.eg hD) hu' (fun j w hj => hnn j w hj) r'⟩
/-- {kx: vx for tg in iter}, the frame stays -/
theorem fc_dc (own : List (Str × Nat)) (js : List Nat) (h : IC X Z tg iter ρ fun ds ρ1 => ∃ out : Nat → List (Key × D), out 0 = [] ∧ (∀ i, i ≤ ds.length → (out i).length ≤ 50000) ∧ freeAt ρ1 (own.map (·.2)) = true ∧
      (∀ i d, ds[i]? = some d → AllB X scope fun X' => GT X' tg js d (wipeE ρ1 (own.map (·.2))) fun ρ3 => AllB X scope fun X' => EC X' Z0 kx ρ3 fun y ρ4 => ∃ k, y = kDt k ∧ AllB X scope fun X' => EC X' Z0 vx ρ4 fun z ρ5 => wipeE ρ5 (own.map (·.2)) = wipeE ρ1 (own.map (·.2)) ∧ out (i + 1) = putKD (out i) k z) ∧ Φ (.k (out ds.length)) ρ1)
    (nd : X.N.Nodup) (hjs : ∀ j ∈ js, j ∈ own.map (·.2)) (ok : BlkOk X.N X.env.scope scope own := by exact blkOk_by (by first | decide +kernel | kernel_rfl)) (hc : X.calm = true := by rfl) (hs : ∀ x, foldedSetIterable iter X.env x = pure x := by intro _; rfl) :
    FC X Z (.DictComp kx vx [⟨tg, iter, [], 0⟩] scope pos) ρ Φ := fun B G H σ o z Q q =>
  (pe_dc (g := fun v σ H Q => AllB X scope fun X' => wG X' tg v σ H Q) (tt := tYes) (tk := fun σ H Q => AllB X scope fun X' => wE X' kx σ H Q) (tv := fun σ H Q => AllB X scope fun X' => wE X' vx σ H Q) hc nd p_wI ok (fun s H C cl fp => ⟨fun pins s2 σ2 H2 v u Q2 I r h => h s H C cl fp pins s2 u I r⟩) (fun _ _ _ _ _ => pts_nil)
    (fun s H C cl fp => ⟨fun pins s2 σ2 H2 Q2 I h => h s H C cl fp pins s2 I⟩) (fun s H C cl fp => ⟨fun pins s2 σ2 H2 Q2 I h => h s H C cl fp pins s2 I⟩) hs).w (fc_dc_te own js h hjs B G H σ o z Q q)
/-- y = {..} on one row -/
theorem ps_setDc {i : Nat} {y : Str} {py spos : Pos} {wi : TI} {g : TG} {tk tv : TE} {own : List (Str × Nat)} (hc : X.calm = true) (nd : X.N.Nodup) (hy : X.N[i]? = some y) (hyl : X.env.scope.names.lookup y = some .local)
    (hsw : swapsWith (.DictComp kx vx [⟨tg, iter, [], 0⟩] scope pos) (some (.Name y py)) spos.line X.env = pure true) (hi : PI X tg iter wi) (ok : BlkOk X.N X.env.scope scope own)
    (hg : ∀ (s : Shared) (H : Hp) (C : Addr) (cl : List (Str × Addr)) (fp : List Addr), PG (X.blk s H scope (compEnvC scope cl C X.env) fp) tg g)
    (hk : ∀ (s : Shared) (H : Hp) (C : Addr) (cl : List (Str × Addr)) (fp : List Addr), PE (X.blk s H scope (compEnvC scope cl C X.env) fp) kx tk)
    (hv : ∀ (s : Shared) (H : Hp) (C : Addr) (cl : List (Str × Addr)) (fp : List Addr), PE (X.blk s H scope (compEnvC scope cl C X.env) fp) vx tv) (hs : ∀ x, foldedSetIterable iter X.env x = pure x) :
    PS X (.Assign [.Name y py] (.DictComp kx vx [⟨tg, iter, [], 0⟩] scope pos) spos) (tAsg (tDc wi g tYes tk tv (own.map (·.2))) (gName i)) := ⟨fun pins s σ H D I h => by
  rw [exec_Assign_Name_used _ _ _ _ hsw]
  refine wpAny_bind (wpAny_standAt (wpAny_bind ?_))
  show wpAny _ X.A (do let _ ← comprehension (.DictComp kx vx [⟨tg, iter, [], 0⟩] scope pos) scope X.env (firstIterPos [⟨tg, iter, [], 0⟩] pos) newDict false (eval iter X.env) (some (assign (.Name y py) X.env))) _ _ s
  have h0 : tDc wi g tYes tk tv (own.map (·.2)) σ H (fun x H1 => gName i x σ H1 D.nx) := h
  refine wpAny_bind (thn (dc_core (Qf := fun _ u => SP X pins D .next u) hc nd I hi ok hg (fun _ _ _ _ _ => pts_nil) hk hv hs h0 fun L C u m H' J q hn f => ?_) fun _ u hq => wpAny_pure (wpAny_pure hq))
  show wpAny _ _ (assign (.Name y py) X.env (.ref L)) _ _ _
  refine wpAny_assign_Name (store_ok2 (v := V.ref L) J nd hy (.inl hyl) rfl (fun u2 J2 ⟨a, sb, ha⟩ => ?_) (.inr hyl))
  obtain ⟨f0, f1, f2, f3, f4, f5⟩ := f
  have ne : C ≠ a := ha.elim (fun z => by rw [z]; exact f1) fun z e => f4 y a z e.symm
  exact ⟨m, hn.sameBut sb ne, fun h3 sb3 => ⟨_, H', J2.turned (t' := u2.toks) (fun b o hb e => (sb3.2 b hb).trans e) f0 f1 f3 f4 f5, q⟩⟩⟩
theorem sc_dc (i : Nat) {y : Str} {py spos : Pos} {O : Outs} {sts : List Stmt} (own : List (Str × Nat)) (js : List Nat) (h : IC X Z tg iter ρ fun ds ρ1 => ∃ out : Nat → List (Key × D), out 0 = [] ∧ (∀ j, j ≤ ds.length → (out j).length ≤ 50000) ∧ freeAt ρ1 (own.map (·.2)) = true ∧
      (∀ j d, ds[j]? = some d → AllB X scope fun X' => GT X' tg js d (wipeE ρ1 (own.map (·.2))) fun ρ3 => AllB X scope fun X' => EC X' Z0 kx ρ3 fun y ρ4 => ∃ k, y = kDt k ∧ AllB X scope fun X' => EC X' Z0 vx ρ4 fun z ρ5 => wipeE ρ5 (own.map (·.2)) = wipeE ρ1 (own.map (·.2)) ∧ out (j + 1) = putKD (out j) k z) ∧ ∀ p, SC X Z sts (ρ1.set i (some (.ow p (.k (out ds.length))))) O)
    (nd : X.N.Nodup) (hjs : ∀ j ∈ js, j ∈ own.map (·.2)) (ok : BlkOk X.N X.env.scope scope own := by exact blkOk_by (by first | decide +kernel | kernel_rfl)) (hc : X.calm = true := by rfl) (hs : ∀ x, foldedSetIterable iter X.env x = pure x := by intro _; rfl)
    (hy : X.N[i]? = some y := by rfl) (hyl : X.env.scope.names.lookup y = some .local := by rfl) (hsw : swapsWith (.DictComp kx vx [⟨tg, iter, [], 0⟩] scope pos) (some (.Name y py)) spos.line X.env = pure true := by rfl) :
    SC X Z (.Assign [.Name y py] (.DictComp kx vx [⟨tg, iter, [], 0⟩] scope pos) spos :: sts) ρ O :=
  sc_of (ps_setDc (g := fun v σ H Q => AllB X scope fun X' => wG X' tg v σ H Q) (tk := fun σ H Q => AllB X scope fun X' => wE X' kx σ H Q) (tv := fun σ H Q => AllB X scope fun X' => wE X' vx σ H Q) hc nd hy hyl hsw p_wI ok (fun s H C cl fp => ⟨fun pins s2 σ2 H2 v u Q2 I r h => h s H C cl fp pins s2 u I r⟩)
    (fun s H C cl fp => ⟨fun pins s2 σ2 H2 Q2 I h => h s H C cl fp pins s2 I⟩) (fun s H C cl fp => ⟨fun pins s2 σ2 H2 Q2 I h => h s H C cl fp pins s2 I⟩) hs) fun B G H σ Dd o z sv => fc_dc_te (Φ := fun oo ρ2 => ∀ p, SC X Z sts (ρ2.set i (some (.ow p oo))) O) own js h hjs B G H σ o z _ fun oo ρ1 p u B1 H1 h1 e1 o1 hb hg hu hn r1 => (h1 p).go (o1.set_ow hb hg hu r1 fun j q hj => absurd hj (hn j q)) z sv e1
end
/-- len(d), d a dict whose keys are ints and texts -/
theorem call_len_dK {X : Cx} : CallR X (.builtin "len") (fun xs H Q => ∃ (p : Addr) (kvs : List (Key × V)), xs = [.ref p] ∧ H p = some (.dK kvs) ∧ Q (.int ((kvs.length : Nat) : Int)) H) := by
  rintro pins s σ H xs us Q I r ⟨p, kvs, rfl, hp, q⟩
  obtain ⟨u, rfl, rx⟩ := vals1 r
  cases rx
  obtain ⟨z, hd, ys, rel, dd⟩ := dk_of I.hok hp
  have hl : kvs.length = ys.length := Paired.length rel
  refine call_len_dict hd dd (by rw [← hl]; rw [sizeLine_eq] at z; omega) ?_
  rw [← hl]
  exact ⟨.int ((kvs.length : Nat) : Int), H, I.tok _, ⟨_, rfl⟩, q⟩
section
variable {X : Cx} {Z : Zx} {ρ : En} {Φ : D → En → Prop} {pos : Pos}
theorem ec_lenK (i : Nat) {x : Str} {w : Addr} {kds : List (Key × D)} {ps p : Pos} (hd : ρ[i]? = some (some (.ow w (.k kds)))) (h : Φ (.int kds.length) ρ) (hm : X.mg "len" = none) (hg : Gl X "len" := by rfl) (hN : X.N[i]? = some x := by rfl)
    (hv : Vis X.env.scope x := by first | exact Or.inl rfl | exact Or.inr (Or.inl rfl) | exact Or.inr (Or.inr rfl)) (hdb : (x == ("__debug__" : Str)) = false := by decide) (hcd : (x == ("__classdict__" : Str)) = false := by decide) : EC X Z (.Call (.Name "len" p) [.Name x ps] [] pos) ρ Φ := fun B G H σ o z Q q => by
  obtain ⟨h1, _, _, u, h4, h5⟩ := o.ow i w _ hd
  cases u with
  | dK kvs => exact (pe_callB call_len_dK hg hm PySem.boot_len (pa_cons (pe_var hN hv hdb hcd) pa_nil)).w ⟨_, h1, w, kvs, rfl, h4, by rw [show kvs.length = kds.length from Paired.length h5]; exact q _ ρ _ B H h (Ex.refl B) o (.int _)⟩
  | _ => exact False.elim h5
end
end AL
namespace AL
open PySem PySem.Spec PyProof.Rows L2 Evl
/-- o op b, o of an own class, b of a built-in type that has not this operation -/
structure BinT (K : PySem.W.Frag) (C : Addr) (op : Operator) (T : String) : Prop where
  first : PySem.W.selfFirst K C = true
  ro : PySem.W.findIn K (.ref C) (PySem.dunderR op.info.2) = some none
  no : PySem.W.findIn K (.type T) (PySem.dunder op.info.2) = some none
  nr : PySem.W.findIn K (.type T) (PySem.dunderR op.info.2) = some none
  sub : PySem.W.subIn K (.type T) (.ref C) = some false
section
open PySem.W
variable {prog : Program} {w : World} {A : Around} {E : Value → Shared → Prop} {s : Shared} {K : Frag} {x C L f : Addr} {h₀ : Heap} {m : Str → Option Value} {ox : Obj} {od : Option Obj} {T : String}
theorem bin_T {op : Operator} {b : Value} {Q : Value → Shared → Prop} (F : Fr h₀ L s.heap m) (X₀ : K.In h₀) (I : InstAt s.heap x ox C od) (tb : Looks (model prog w) s.heap (typeOf b) (.type T)) (bt : BinT K C op T)
    (hs : findIn K (.ref C) (PySem.dunder op.info.2) = some (some (.ref f))) (hf : isFn K (.ref f) = true) (h : wpAny (model prog w) A (call (.ref f) [.ref x, b]) (PySem.W.CmpBack Q) E s) : wpAny (model prog w) A (binaryOp op (.ref x) b) Q E s := by
  obtain ⟨bc, br, bn, bm, bs⟩ := bt
  have KI := X₀.keeps F.keep
  obtain ⟨cd, rest, hcd, hm⟩ := ksp_first bc
  rcases hi : op.info with ⟨sym, nm⟩
  rw [hi] at hs br bn bm
  dsimp only at hs br bn bm
  have go := ksp_try KI I hs hf h
  obtain ⟨hp, g, d, tt, os⟩ := s
  have T1 : Looks (model prog w) hp (typeOf (.ref x)) (.ref C) := I.type
  have T3 := fills_K (M := model prog w) KI hcd hm hs
  have T4 : Looks (model prog w) hp (fillsNumberSlot (.type T) nm) false := ksp_fillsT (fo := none) (ro := none) KI bn bm
  have T5 : Looks (model prog w) hp (isSubtype (.type T) (.ref C)) false := looks_subIn KI bs
  have T6 : Looks (model prog w) hp (numberSlotInPython (.ref C) nm) true := ksp_inPy (rc := none) KI hs br (.inl rfl)
  have T7 : Looks (model prog w) hp (numberSlotInPython (.type T) nm) false := Looks.of_pure rfl
  have T8 : Looks (model prog w) hp (typeLookup (.type T) (dunderR nm)) none := looks_findIn KI bm
  have ne : (Value.ref C == Value.type T) = false := Bool.eq_false_iff.mpr fun q => nomatch beq_iff_eq.mp q
  simp only [binaryOp, hi]
  refine wpAny_holding (wpAny_bind ?_)
  unfold binaryOp1
  refine wpAny_bind (T1.at (wpAny_bind (tb.at (wpAny_bind (T3.at ?_)))))
  simp only [ne, Bool.false_eq_true, if_false]
  ksp_lk
  refine wpAny_mono go (fun r s' hr => ?_) fun _ _ e => e
  obtain ⟨v, rfl, hq⟩ := hr
  ksp_lk
  exact hq
end
section
variable {X : Cx} {Z : Zx} {a b : Expr} {ρ : En} {Φ : D → En → Prop} {pos : Pos} {k : Nat} {C : Addr} {S : List D → (D → Prop) → Prop}
/-- a op b, a of an own class, b a list -/
theorem ec_binL {op : Operator} (c : CalM X.prog X.w X.K X.mg X.base C (PySem.dunder op.info.2) k (PFn 2 S)) (hr : Room k X.A) (hx : PassW X Z) (mo : MonoF S) (bt : BinT X.K C op "list")
    (h : EC X Z a ρ fun d0 ρ0 => ∃ gs, d0 = .obj C gs ∧ EC X Z b ρ0 fun d1 ρ1 => ∃ xs, d1 = .lst xs ∧ S [d0, d1] fun r => Φ r ρ1) : EC X Z (.BinOp a op b pos) ρ Φ := fun B G H σ o0 z Q q => by
  refine PE.w (t := fun σ H Q => wE X a σ H fun x H1 => wE X b σ H1 fun y H2 => ∃ B2 gs xs, Ex B2 H2 ∧ Rep X.K B2 x (.obj C gs) ∧ Rep X.K B2 y (.lst xs) ∧ Csp X.K (PFn 2 S) [x, y] H2 Q (fun c d H => Z.E c d σ H)) ⟨fun pins s σ H Q I hh => ?_⟩ ?_
  · refine wpAny_BinOp (binT p_wE p_wE I hh fun v u s2 x y H2 I2 rx ry ⟨B2, gs, xs, e, r1, r2, q⟩ => ?_)
    obtain ⟨f, fd, ps, F, mm, bd⟩ := c.ex
    have Lb := looks_d I2 e r2 ry rfl
    cases r1 with
    | @obj a' _ dx fs _ ha hf =>
      cases (show v = Value.ref a' from rx)
      obtain ⟨mA, J, _⟩ := ins_get I2.hok (e _ _ ha)
      obtain ⟨od, J, _⟩ := J.look
      obtain ⟨mm', hF⟩ := I2.fr
      refine bin_T hF I2.ok.mod.kin J Lb bt mm.at_ mm.fn (thn (run_at (E := fun σ c d H => Z.E c d σ H) (vs := [.ref a', y]) F hr rfl bd hx I2 (.cons rfl (.cons ry .nil)) q) fun w s' z => ?_)
      obtain ⟨z', H', I', rz, qz⟩ := z
      exact SlX.cmpback rz ⟨z', H', I', rz, qz⟩
  · refine h B G H σ o0 z _ fun d0 ρ0 v B0 H0 ⟨gs, hd, h1⟩ e0 o1 r0 => h1 B0 G H0 σ o1 (z.up e0) _ fun d1 ρ1 y B1 H1 ⟨xs, hd', hk⟩ e1 o2 r1 => ?_
    subst hd; subst hd'
    exact ⟨B1, gs, xs, o2.s.ex, r0.up e1, r1, B1, rest B1 H1 none, _, o2.call (.cons (r0.up e1) (.cons r1 .nil)), PFn.mono mo _ _ _ (want_ok o2 (e0.trans e1) z q) ⟨[.obj C gs, .lst xs], rfl, rfl, mo _ _ _ (fun d hd => ⟨rfl, hd⟩) hk⟩⟩
end
end AL
namespace AL
open PySem PySem.Spec PyProof.Rows L2 Evl
section
variable {α : Type} [DecidableEq α] {φ : α → D} {n : Nat} {X : Cx} {Z : Zx} {a : Expr} {ρ : En} {Ψ : Bool → En → Prop} {p1 pos : Pos} {y : Str}
/-- a not in y, y a list of one's own -/
theorem tc_niO (P : PyT φ n) (i : Nat) (hu : X.A.units + 65 < cLine) (h : EC X Z a ρ fun d ρ1 => ∃ (q : Addr) (x : α) (xs : List α), ρ1[i]? = some (some (.ow q (.l (xs.map φ)))) ∧ d = φ x ∧ Ψ (!decide (x ∈ xs)) ρ1) (hn : n ≤ 19 := by decide) (hN : X.N[i]? = some y := by rfl)
    (hv : Vis X.env.scope y := by first | exact Or.inl rfl | exact Or.inr (Or.inl rfl) | exact Or.inr (Or.inr rfl)) (hdb : (y == ("__debug__" : Str)) = false := by decide) (hcd : (y == ("__classdict__" : Str)) = false := by decide) (hm : behindInMarks .NotIn (.Name y p1) = false := by rfl) : TC X Z (.Compare a [.NotIn] [.Name y p1] pos) ρ Ψ := fun B G H σ o z Q q =>
  (pt_cmpR (op_notInD hu) p_wE (pe_var hN hv hdb hcd) hm).w (h B G H σ o z _ fun d ρ1 v B1 H1 ⟨aq, x, xs, hd, hx, hk⟩ e1 o1 r1 => by
    subst hx
    obtain ⟨g1, g2, _, u, g4, g5⟩ := o1.ow i aq _ hd
    cases u with
    | lst vs =>
      have eB : Ex B1 (upd B1 aq (.lst vs)) := fun b w hb => by rw [upd_ne (ne_of_none hb g2)]; exact hb
      have eH : Ex (upd B1 aq (.lst vs)) H1 := fun b w hb => by
        by_cases zb : b = aq
        · subst zb; rw [upd_same] at hb; cases hb; exact g4
        · rw [upd_ne zb] at hb; exact o1.s.ex _ _ hb
      have rl : Rep X.K (upd B1 aq (.lst vs)) (.ref aq) (.lst (xs.map φ)) := .lst upd_same (Reps.up g5 eB)
      refine ⟨.ref aq, g1, P.f x, xs.map P.f, rep_dp eH _ (r1.up eB) (P.py x), rep_dp eH _ rl (P.lst.py xs), P.shp (by omega) x, P.lst.shp (by omega) xs, _, rfl, ?_⟩
      rw [any_Y]
      exact q _ ρ1 B1 H1 hk e1 o1
    | _ => exact False.elim g5)
end
end AL
namespace AL
open PySem PySem.Spec PyProof.Rows L2 Evl
section
variable {α : Type} [DecidableEq α] {φ : α → D} {n : Nat} {X : Cx} {Z : Zx} {a : Expr} {ρ : En} {Ψ : Bool → En → Prop} {p1 pos : Pos} {y : Str}
/-- a in y, y a list of one's own -/
theorem tc_inO (P : PyT φ n) (i : Nat) (hu : X.A.units + 65 < cLine) (h : EC X Z a ρ fun d ρ1 => ∃ (q : Addr) (x : α) (xs : List α), ρ1[i]? = some (some (.ow q (.l (xs.map φ)))) ∧ d = φ x ∧ Ψ (decide (x ∈ xs)) ρ1) (hn : n ≤ 19 := by decide) (hN : X.N[i]? = some y := by rfl)
    (hv : Vis X.env.scope y := by first | exact Or.inl rfl | exact Or.inr (Or.inl rfl) | exact Or.inr (Or.inr rfl)) (hdb : (y == ("__debug__" : Str)) = false := by decide) (hcd : (y == ("__classdict__" : Str)) = false := by decide) (hm : behindInMarks .In (.Name y p1) = false := by rfl) : TC X Z (.Compare a [.In] [.Name y p1] pos) ρ Ψ := fun B G H σ o z Q q =>
  (pt_cmpR (op_inD hu) p_wE (pe_var hN hv hdb hcd) hm).w (h B G H σ o z _ fun d ρ1 v B1 H1 ⟨aq, x, xs, hd, hx, hk⟩ e1 o1 r1 => by
    subst hx
    obtain ⟨g1, g2, _, u, g4, g5⟩ := o1.ow i aq _ hd
    cases u with
    | lst vs =>
      have eB : Ex B1 (upd B1 aq (.lst vs)) := fun b w hb => by rw [upd_ne (ne_of_none hb g2)]; exact hb
      have eH : Ex (upd B1 aq (.lst vs)) H1 := fun b w hb => by
        by_cases zb : b = aq
        · subst zb; rw [upd_same] at hb; cases hb; exact g4
        · rw [upd_ne zb] at hb; exact o1.s.ex _ _ hb
      have rl : Rep X.K (upd B1 aq (.lst vs)) (.ref aq) (.lst (xs.map φ)) := .lst upd_same (Reps.up g5 eB)
      refine ⟨.ref aq, g1, P.f x, xs.map P.f, rep_dp eH _ (r1.up eB) (P.py x), rep_dp eH _ rl (P.lst.py xs), P.shp (by omega) x, P.lst.shp (by omega) xs, _, rfl, ?_⟩
      rw [any_Y]
      exact q _ ρ1 B1 H1 hk e1 o1
    | _ => exact False.elim g5)
end
section
variable {X : Cx} {Z : Zx} {tg : Expr} {ρ : En} {Φ : List D → En → Prop} {p1 : Pos} {y : Str}
/-- what is walked: y, a list or a tuple -/
theorem ic_lt (i : Nat) {d : D} {ds : List D} (hd : ρ[i]? = some (some (.im d))) (hr : d = .lst ds ∨ d = .tup ds) (h : Φ ds ρ) (hN : X.N[i]? = some y := by rfl)
    (hv : Vis X.env.scope y := by first | exact Or.inl rfl | exact Or.inr (Or.inl rfl) | exact Or.inr (Or.inr rfl)) (hdb : (y == ("__debug__" : Str)) = false := by decide) (hcd : (y == ("__classdict__" : Str)) = false := by decide) : IC X Z tg (.Name y p1) ρ Φ := by
  rcases hr with rfl | rfl
  · exact ic_list (ec_var i hd ⟨ds, rfl, h⟩ hN hv hdb hcd)
  · exact ic_tup (ec_var i hd ⟨ds, rfl, h⟩ hN hv hdb hcd)
end
section
variable {α : Type} [DecidableEq α] {φ : α → D} {n : Nat} {X : Cx} {Z : Zx} {a b : Expr} {ρ : En} {Ψ : Bool → En → Prop} {pos : Pos}
/-- any plain value in a list of such -/
theorem tc_inX (P : PyT φ n) (hu : X.A.units + 65 < cLine) (h : EC X Z a ρ fun d ρ1 => EC X Z b ρ1 fun d' ρ2 => ∃ (pd : PyData) (xs : List α), pyD d = some pd ∧ SeqAt.shaped pd = true ∧ d' = .lst (xs.map φ) ∧ Ψ ((xs.map P.f).any fun z => PyData.eqv z pd) ρ2) (hn : n ≤ 19 := by decide) (hm : behindInMarks .In b = false := by rfl) : TC X Z (.Compare a [.In] [b] pos) ρ Ψ :=
  tc_op (op_inD hu) hm (h.mono fun d ρ1 z => z.mono fun d' ρ2 ⟨pd, xs, e1, e2, e3, k⟩ => by subst e3; exact ⟨_, g_inDL e1 (P.lst.py xs) e2 (P.lst.shp (by omega) xs), k⟩)
end
end AL
namespace AL
open PySem PySem.Spec PyProof.Rows L2 Evl
/-! ### defs that may count on no repr being under way -/
structure FnG (P : Program) (w : World) (K : PySem.W.Frag) (mg : Str → Option Value) (base : Heap) (k : Nat) (f : Addr) (fd : FuncData) (ps : List Str) (sp : Sp) : Prop where
  len : ∀ vs H Q E, sp vs H Q E → vs.length = ps.length
  run : ∀ (A : Around) (fr : List Env) (s : Shared) (H : Hp) (us : List Value) (vs : List V) (Q : VK) (E : XK), A.guards = some [] → Room k A → Env0 P w K mg base A fr s H → BindsTo s fd ⟨us, []⟩ (ps.zip us) → Vals vs us → sp vs H Q E →
    codeAny (model P w) A (.call (.ref f) ⟨us, []⟩) (CR (L2.CX P w) fr P w H s Q E) s
section
variable {P : Program} {w : World} {K : PySem.W.Frag} {mg : Str → Option Value} {base : Heap} {x qual : Str} {params : Arguments} {body : List Stmt} {scope : Scope} {f : Addr} {fd : FuncData} {N ps : List Str} {k n : Nat} {Pd : Pr}
theorem guards_in {A : Around} {env : Env} (h : A.guards = some []) : (A.deeper env).guards = some [] := by
  first | exact h | (show (Around.deeper A env).guards = _; simp [Around.deeper, h])
theorem fnG_of {sp : Sp} (F : FunD K x qual params body scope [] [] f fd) (S : FnScope N ps scope) (hl : ∀ vs H Q E, sp vs H Q E → vs.length = ps.length)
    (h : ∀ (cdv : Value) (A : Around) (fr : List Env) (s : Shared) (H : Hp) (vs : List V) (Q : VK) (E : XK), A.guards = some [] → Room k (A.deeper (envOfC qual scope s.heap.objs.size f cdv)) → sp vs H Q E →
      ∃ t, PSs (cxOf (L2.CX P w) P w K mg base N qual scope f cdv A fr s H E) body t ∧ t { nx := fun _ H2 => Q .non H2, rt := Q } (start N vs) H) : FnG P w K mg base (k + 1) f fd ps sp := by
  obtain ⟨_, _, _, _, doc, pm, an, cdv, ct, _, rfl, at_f, cd, _, _⟩ := F.ex
  constructor
  · exact hl
  intro A fr s H us vs Q E hg room e0 bt rel want
  have kin : K.In s.heap := e0.mod.kin.keeps fun b o z => (e0.bs b o z).1
  refine codeAny_call_function room.depth (kin _ _ at_f) rfl S.co S.gen rfl (PySem.W.codeRec_of kin cd) (bt _ _ _ _ ?_)
  have kinds : ∀ y ∈ ps.zip us, scope.names.lookup y.1 = some .local ∨ (scope.names.lookup y.1 = some .cell ∧ ((cellsFrom (s.heap.objs.size + 1) scope.names []).lookup y.1).isSome = true) := by
    rintro ⟨nm, v⟩ hy
    exact (S.par nm (List.of_mem_zip hy).1).imp id fun z => ⟨z, PySem.W.cellsFrom_some _ _ _ (.inl z)⟩
  refine wpAny_newFunctionEnv_cells S.kind kinds fun _ e1 s2 new => ?_
  subst e1
  refine ⟨(e0.mod.nolimit.keeps fun b o z => (e0.bs b o z).1).keeps new.toInCall.keep, codeAny_func ?_⟩
  obtain ⟨t, rd, ht⟩ := h cdv A fr s H vs Q E hg (room.deeper _) want
  refine wpAny_mono (rd.run [] s2 (start N vs) H _ (inv_start S room.hd e0 (hl _ _ _ _ want) rel new) ht) ?_ fun _ _ z => z
  rintro (_ | _ | _ | u) s3 hs
  · obtain ⟨_, H2, J, q⟩ := hs
    exact ⟨.non, H2, J.os, J.bare, J.base, J.hok, rfl, q⟩
  · obtain ⟨_, _, _, z⟩ := hs
    exact z.elim
  · obtain ⟨_, _, _, z⟩ := hs
    exact z.elim
  · obtain ⟨v, _, H2, J, rv, q⟩ := hs
    exact ⟨v, H2, J.os, J.bare, J.base, J.hok, rv, q⟩
theorem def_okG (F : FunD K x qual params body scope [] [] f fd) (S : FnScope N ps scope) (hlen : ∀ as Φ, Pd as Φ → as.length = ps.length)
    (h : ∀ cdv A outer s H E, (bodyX P w K mg base N qual scope f cdv A outer s H E).A.guards = some [] → Room k (bodyX P w K mg base N qual scope f cdv A outer s H E).A → ∀ as Φ, Pd as Φ →
      SC (bodyX P w K mg base N qual scope f cdv A outer s H E) (Zf E fun C fs => Φ (.raise C fs)) body (startE N.length as) (OutsOf as Φ)) : FnG P w K mg base (k + 1) f fd ps (Csp K Pd) := by
  refine fnG_of F S (fun vs H Q E ⟨B, G, as, o, hp⟩ => ?_) fun cdv A outer s H vs Q E hg hr ⟨B, G, as, o, hp⟩ => ?_
  · have := o.len
    simp at this
    rw [this]; exact hlen as _ hp
  · refine ⟨wSs _ body, p_wSs, ?_⟩
    refine h cdv A outer s H E (guards_in hg) hr as _ hp B G H _ _ (o.pad N) ?_ ?_
    · intro C fs dd B' H' σ' ρ' hoc e o3 er
      exact hoc dd B' H' e o3.s er
    · have hrt : ∀ r ρ' v σ' B' H', (OutsOf as (OcOk K B G vs Q E)).rt r ρ' → Ex B B' → Ok K B' G H' σ' ρ' → RsR K B' G H' ρ' v r → Q v H' := by
        intro r ρ' v σ' B' H' ⟨as', hs, hoc, hrow⟩ e o' hv
        refine hoc v B' H' e (o.args hs e o' hrow) ?_
        cases r with
        | im d => exact hv
        | fr oo =>
          obtain ⟨a, u, h1, h2, h3, h4, h5, h6⟩ := hv
          exact ⟨a, u, h1, h2, h3, h4, fun j q hj => h5 j q (hrow j a q (mapq.mp hj)), h6⟩
      exact ⟨fun ρ' σ' B' H' hn e o' => hrt (.im .non) ρ' .non σ' B' H' hn e o' .non, hrt, fun _ _ _ _ hb => hb.elim, fun _ _ _ _ hb => hb.elim⟩
end
structure CalG (P : Program) (w : World) (K : PySem.W.Frag) (mg : Str → Option Value) (base : Heap) (x : Str) (k : Nat) (Pd : Pr) : Prop where
  ex : ∃ f fd ps, FnG P w K mg base k f fd ps (Csp K Pd) ∧ mg x = some (.ref f) ∧ PySem.W.keepIn K (.ref f) = true ∧ Binds K fd ps []
section
variable {P : Program} {w : World} {K : PySem.W.Frag} {mg : Str → Option Value} {base : Heap} {x qual : Str} {params : Arguments} {body : List Stmt} {scope : Scope} {f : Addr} {fd : FuncData} {N ps : List Str} {k n : Nat}
theorem ok_fnG {S : List D → (D → Prop) → Prop} (F : FunD K x qual params body scope [] [] f fd) (Sc : FnScope N ps scope) (hn : ps.length = n)
    (h : ∀ cdv A outer s H E, (bodyX P w K mg base N qual scope f cdv A outer s H E).A.guards = some [] → Room k (bodyX P w K mg base N qual scope f cdv A outer s H E).A → ∀ ds Ψ, ds.length = n → S ds Ψ → SC (bodyX P w K mg base N qual scope f cdv A outer s H E) Z0 body (envD N.length ds) (OutP Ψ)) :
    FnG P w K mg base (k + 1) f fd ps (Csp K (PFn n S)) :=
  def_okG F Sc (PFn.len hn) fun cdv A outer s H E hg hr as Φ ⟨ds, h1, h2, h3⟩ => by
    subst h1
    rw [startE_im]
    intro B G H σ Dd o z sv
    refine (h cdv A outer s _ E hg hr ds _ h2 h3) B G _ σ Dd o RC.none ⟨fun ρ' σ' B' H' a => sv.nx ρ' σ' B' H' ⟨ds.map Sl.im, .refl _, a, im_out⟩, fun r ρ' v σ' B' H' a => ?_, fun ρ' σ' B' H' a => a.elim, fun ρ' σ' B' H' a => a.elim⟩
    cases r with
    | im d => exact sv.rt _ ρ' v σ' B' H' ⟨ds.map Sl.im, .refl _, a, im_out⟩
    | fr oo => exact False.elim a
theorem cal_fnG {S : List D → (D → Prop) → Prop} (F : FunD K x qual params body scope [] [] f fd) (hm : mg x = some (.ref f)) (Sc : FnScope N ps scope) (hn : ps.length = n)
    (hb : ∀ (kV doc pm : Value) (an : Option Addr) (cdv ct : Value) (us : List Value), us.length = ps.length → bindArgs (PySem.W.fnOf x qual params body scope .none kV doc pm an cdv ct) ⟨us, []⟩ = pure (ps.zip us))
    (h : ∀ cdv A outer s H E, (bodyX P w K mg base N qual scope f cdv A outer s H E).A.guards = some [] → Room k (bodyX P w K mg base N qual scope f cdv A outer s H E).A → ∀ ds Ψ, ds.length = n → S ds Ψ → SC (bodyX P w K mg base N qual scope f cdv A outer s H E) Z0 body (envD N.length ds) (OutP Ψ)) :
    CalG P w K mg base x (k + 1) (PFn n S) := ⟨f, fd, ps, ok_fnG F Sc hn h, hm, F.kp, F.bindsN hb⟩
theorem cal_foG {S : OO → List D → (D → OO → Prop) → Prop} (F : FunD K x qual params body scope [] [] f fd) (hm : mg x = some (.ref f)) (Sc : FnScope N ps scope) (hn : ps.length = n + 1)
    (hb : ∀ (kV doc pm : Value) (an : Option Addr) (cdv ct : Value) (us : List Value), us.length = ps.length → bindArgs (PySem.W.fnOf x qual params body scope .none kV doc pm an cdv ct) ⟨us, []⟩ = pure (ps.zip us))
    (h : ∀ cdv A outer s H E, (bodyX P w K mg base N qual scope f cdv A outer s H E).A.guards = some [] → Room k (bodyX P w K mg base N qual scope f cdv A outer s H E).A → ∀ a o ds Ψ, ds.length = n → S o ds Ψ → SC (bodyX P w K mg base N qual scope f cdv A outer s H E) Z0 body (envO N.length a o ds) (OutO a Ψ)) :
    CalG P w K mg base x (k + 1) (PFo n S) :=
  ⟨f, fd, ps, def_okG F Sc (PFo.len hn) (fun cdv A outer s H E hg hr as Φ ⟨a, oo, ds, h1, h2, h3⟩ => by
    subst h1
    have es : startE N.length (Sl.ow a oo :: ds.map Sl.im) = envO N.length a oo ds := by
      unfold startE envO envD
      rw [List.map_cons, List.cons_append, List.map_map, List.length_cons, List.length_map]
      have e : N.length - (ds.length + 1) = N.length - 1 - ds.length := by omega
      rw [e]; rfl
    rw [es]
    intro B G H σ Dd o z sv
    have same : ∀ o', SameSl (Sl.ow a oo :: ds.map Sl.im) (Sl.ow a o' :: ds.map Sl.im) := fun o' => .ow (.refl _)
    have rows : ∀ {ρ' : En} {o' : OO}, ρ'[0]? = some (some (Sl.ow a o')) → ∀ (i : Nat) (b : Addr) (q : OO), (Sl.ow a o' :: ds.map Sl.im)[i]? = some (Sl.ow b q) → ρ'[i]? = some (some (Sl.ow b q)) := fun h0 i b q e => by
      cases i with
      | zero => simp at e; obtain ⟨rfl, rfl⟩ := e; exact h0
      | succ i =>
        have e' : (ds.map Sl.im)[i]? = some (Sl.ow b q) := by simpa using e
        rw [List.getElem?_map] at e'
        cases e2 : ds[i]? <;> rw [e2] at e' <;> simp at e'
    refine (h cdv A outer s _ E hg hr a oo ds _ h2 h3) B G _ σ Dd o RC.none ⟨fun ρ' σ' B' H' ⟨o', h0, hp⟩ => sv.nx ρ' σ' B' H' ⟨_, same o', hp, rows h0⟩, fun r ρ' v σ' B' H' hr => ?_, fun ρ' σ' B' H' a => a.elim, fun ρ' σ' B' H' a => a.elim⟩
    cases r with
    | im d => obtain ⟨o', h0, hp⟩ := hr; exact sv.rt _ ρ' v σ' B' H' ⟨_, same o', hp, rows h0⟩
    | fr oo => exact False.elim hr), hm, F.kp, F.bindsN hb⟩
end
section
variable {X : Cx} {Z : Zx} {e : Expr} {es : List Expr} {ρ : En} {Φ : D → En → Prop} {p pos ps : Pos} {x f : Str} {k n : Nat}
theorem pe_callG {fa : Addr} {fd : FuncData} {pl : List Str} {sp : Sp} {E : L2.St → XK} {t : TA} (F : FnG X.prog X.w X.K X.mg X.base k fa fd pl sp) (gd : X.A.guards = some []) (room : Room k X.A) (hg : Gl X x) (hm : X.mg x = some (.ref fa)) (hk : PySem.W.keepIn X.K (.ref fa) = true)
    (bd : Binds X.K fd pl []) (hx : ∀ σ, PassesAt (L2.CX X.prog X.w) X σ (E σ)) (ha : PA X (e :: es) t) (hdb : (x == ("__debug__" : Str)) = false := by decide) (he : starEach (e :: es) X.env = (false, eval e X.env) :: starEach es X.env := by rfl)
    (hpl : (backTo pos (starEach es X.env)).any (·.1) = false := by rfl) : PE X (.Call (.Name x p) (e :: es) [] pos) (tCallS sp E t) := by
  constructor
  intro pins s σ H Q I want
  refine wpAny_Call_Name_kw (ld_glob I hg hm (PySem.W.callWith_K (h₀ := X.base) I.ok.mod.kin hk (thn (ha.run pos pins s σ H _ I want) ?_) he hpl) hdb)
  rintro us s2 ⟨vs, H2, J, rel, q⟩
  refine ⟨J.kIn, ?_⟩
  have hl : us.length = pl.length := by rw [← rel.length]; exact F.len _ _ _ _ q
  have bt := bd s2 us J.kIn (by rw [List.append_nil, hl])
  rw [List.append_nil] at bt
  refine wpAny_call (codeAny_mono (F.run X.A X.stack s2 H2 us vs Q (E σ) gd room J.env0 bt rel q) ?_)
  rintro (er | _ | _ | _ | u) s3 hq
  · exact hx σ pins H2 s2 er s3 J hq
  · exact False.elim hq
  · exact False.elim hq
  · exact False.elim hq
  · exact J.after hq
/-- f(e, ..) of such a def, all arguments data -/
theorem ec_cg {S : List D → (D → Prop) → Prop} (c : CalG X.prog X.w X.K X.mg X.base x k (PFn n S)) (gd : X.A.guards = some []) (hr : Room k X.A) (hx : PassW X Z) (mo : MonoF S) (h : AC X Z (e :: es) ρ fun ds ρ1 => ds.length = n ∧ S ds fun d => Φ d ρ1)
    (hg : Gl X x := by rfl) (hdb : (x == ("__debug__" : Str)) = false := by decide) (he : starEach (e :: es) X.env = (false, eval e X.env) :: starEach es X.env := by rfl) (hpl : (backTo pos (starEach es X.env)).any (·.1) = false := by rfl) : EC X Z (.Call (.Name x p) (e :: es) [] pos) ρ Φ := fun B G H σ o z Q q => by
  obtain ⟨f, fd, ps, F, hm, kp, bd⟩ := c.ex
  refine (pe_callG (E := fun σ c d H => Z.E c d σ H) F gd hr hg hm kp bd hx p_wA hdb he hpl).w (h B G H σ o z _ fun ds ρ1 vs B1 H1 ⟨hl, hd⟩ e1 o1 r1 => ?_)
  exact ⟨B1, rest B1 H1 none, ds.map Sl.im, o1.call r1, PFn.mono mo _ _ _ (want_ok (Φ := Φ) o1 e1 z q) ⟨ds, rfl, hl, mo _ _ _ (fun d hk => ⟨rfl, hk⟩) hd⟩⟩
/-- f(x, ..) of such a def, x an object of one's own -/
theorem ec_cog {S : OO → List D → (D → OO → Prop) → Prop} (i : Nat) {a : Addr} {oo : OO} (hd : ρ[i]? = some (some (.ow a oo))) (c : CalG X.prog X.w X.K X.mg X.base f k (PFo n S)) (gd : X.A.guards = some []) (hr : Room k X.A) (hx : PassW X Z) (mo : MonoO S)
    (h : AC X Z es ρ fun ds ρ1 => ∃ o1, ρ1[i]? = some (some (.ow a o1)) ∧ ds.length = n ∧ S o1 ds fun d o' => Φ d (ρ1.set i (some (.ow a o'))))
    (hg : Gl X f := by rfl) (hdf : (f == ("__debug__" : Str)) = false := by decide) (hN : X.N[i]? = some x := by rfl) (hv : Vis X.env.scope x := by first | exact Or.inl rfl | exact Or.inr (Or.inl rfl) | exact Or.inr (Or.inr rfl)) (hdb : (x == ("__debug__" : Str)) = false := by decide) (hcd : (x == ("__classdict__" : Str)) = false := by decide)
    (he : starEach (.Name x ps :: es) X.env = (false, eval (.Name x ps) X.env) :: starEach es X.env := by rfl) (hpl : (backTo pos (starEach es X.env)).any (·.1) = false := by rfl) : EC X Z (.Call (.Name f p) (.Name x ps :: es) [] pos) ρ Φ := fun B G H σ o z Q q => by
  obtain ⟨fa, fd, pss, F, hm, kp, bd⟩ := c.ex
  obtain ⟨g0, _⟩ := o.ow i a oo hd
  refine (pe_callG (E := fun σ c d H => Z.E c d σ H) F gd hr hg hm kp bd hx (pa_cons (pe_var hN hv hdb hcd) p_wA he) hdf he hpl).w ?_
  refine ⟨_, g0, h B G H σ o z _ fun ds ρ1 vs B1 H1 ⟨o1, hd1, hl, hS⟩ e1 ok1 r1 => ?_⟩
  refine ⟨B1, rest B1 H1 (some a), Sl.ow a o1 :: ds.map Sl.im, ok1.call1 hd1 r1, PFo.mono mo _ (WantO (fun C fs => Z.R C fs (ρ1.set i none)) a ds fun d o' => Φ d (ρ1.set i (some (.ow a o')))) _ ?_ ⟨a, o1, ds, rfl, hl, mo _ _ _ _ (fun d o' hk => ⟨rfl, rfl, hk⟩) hS⟩⟩
  intro oc hoc
  match oc, hoc with
  | .ret (.im d) (.ow a' o' :: as'), ⟨q1, q2, hk⟩ =>
    subst q1; subst q2
    intro v B' H' e2 ok2 rv
    exact q d _ v B' H' hk (e1.trans e2) (ok1.behind1 hd1 e2 ok2 (j := 0) rfl) rv
  | .raise C fs, hR =>
    intro dd B' H' e2 s3 er
    exact z C fs dd B' H' σ _ hR (e1.trans e2) (ok1.behind1d hd1 e2 s3) er
end
/-! ### repr of plain data -/
def rRepr (K : PySem.W.Frag) : List V → Hp → VK → Prop := fun xs H Q => ∃ (v : V) (d : PyData), xs = [v] ∧ Dp K H v d ∧ PyData.showable d = true ∧ PyData.hasDict d = false ∧ PyData.depth d ≤ 20 ∧ (PyData.shown d).length ≤ sizeLine ∧ Q (.str (PyData.shown d)) H
theorem cr_repr {X : Cx} (gd : X.A.guards = some []) (hu : X.A.units + 64 < cLine) : CallR X (.builtin "repr") (rRepr X.K) := by
  intro pins s σ H xs us Q I r h
  obtain ⟨v, d, rfl, dp, sh, nd, dd, sz, q⟩ := h
  cases r with
  | cons ru rn =>
    cases rn
    have fin : ∀ (h2 : Heap) (u tk : Nat), (∀ b o, s.heap.get? b = some o → h2.get? b = some o) → EP X pins σ Q (.str (PyData.shown d) u) { s with heap := h2, toks := tk } := fun h2 u tk hk => ⟨.str (PyData.shown d), H, I.kept hk, ⟨_, rfl⟩, q⟩
    obtain ⟨as, rd⟩ := Dp.reads I d _ _ dp ru
    cases dp with
    | non => cases ru; exact PySem.P.repr_of_none (fin _ _ _ fun _ _ z => z)
    | bl b => cases ru; exact PySem.P.repr_of_bool (fin _ _ _ fun _ _ z => z)
    | int i =>
      obtain ⟨t, rfl⟩ := ru
      exact PySem.P.repr_of_int (by simpa [PyData.showable] using sh) (fin _ _ _ fun _ _ z => z)
    | str x =>
      obtain ⟨t, rfl⟩ := ru
      exact PySem.P.repr_of_str (fin _ _ _ fun _ _ z => z) sz
    | lst hs ha =>
      cases ru
      exact repr_of_reads' rd sh (fun z => by rw [nd] at z; cases z) gd (by omega) (fun _ _ z => z) fin sz
    | tup hs ha =>
      cases ru
      exact repr_of_reads' rd sh (fun z => by rw [nd] at z; cases z) gd (by omega) (fun _ _ z => z) fin sz
theorem gb_repr {K : PySem.W.Frag} {d : D} {pd : PyData} (hp : pyD d = some pd) (h1 : PyData.showable pd = true) (h2 : PyData.hasDict pd = false) (h3 : PyData.depth pd ≤ 20) (h4 : (PyData.shown pd).length ≤ sizeLine) : GivesB K (rRepr K) [d] (fun e => e = .str (PyData.shown pd)) := fun B G H vs s r Q q1 q2 => by
  cases r with
  | cons r rs =>
    cases rs
    exact ⟨_, pd, rfl, rep_dp s.ex d r hp, h1, h2, h3, h4, q1 _ _ rfl (.str _)⟩
end AL
/-! ### the end of a law with such defs -/
namespace AL
open PySem PySem.Spec PyProof.Rows L2 LamX
theorem law_callG {P : Program} {w : World} {K : PySem.W.Frag} {mg mb : Str → Option Value} {k : Nat} {fa a : Addr} {fd : FuncData} {x : Str} {sp : Sp} {s₁ : Shared} {vs : List Value} {ns : List Int}
    (kin : K.In s₁.heap) (g1 : s₁.heap.Ns mainGlobals mg) (g2 : s₁.heap.Ns builtinsNs mb) (g3 : ∀ y : Str, y ≠ "__name__" → mb y = bootBuiltins y) (g4 : s₁.heap.NoLimit) (g5 : s₁.gens = #[])
    (ha : s₁.heap.get? a = some { cls := .type "list", data := .seq vs.toArray }) (hi : IntsAre vs ns) (hl : ns.length ≤ sizeLine) (room : Room k callerA)
    (F : ∀ base : Heap, K.In base → base.Ns mainGlobals mg → FnG P w K mg base k fa fd [x] sp) (hbind : ∀ (s : Shared) (u : Value), BindsTo s fd ⟨[u], []⟩ [(x, u)])
    (hsp : ∀ H : Hp, SqL K H a (ns.map V.int) → sp [.ref a] H (fun v _ => v = .bl true) fun _ _ _ => False) :
    codeAny (model P w) callerA (.call (.ref fa) ⟨[.ref a], []⟩) (fun r s' => r = .ok (.ret (.bool true)) ∧ OldK s₁.heap s'.heap ∧ s'.os = s₁.os ∧ AllBare s'.gens) s₁ := by
  have rel := vals_ints hi
  have nlen := hi.length
  let Hz : Hp := fun b => if b = a ∧ K.lookup a = none then some (.frz { cls := .type "list", data := .seq vs.toArray } (.lst (ns.map V.int))) else none
  have Hz_some : ∀ {b : Addr} {u : HO}, Hz b = some u → b = a ∧ K.lookup a = none ∧ u = .frz { cls := .type "list", data := .seq vs.toArray } (.lst (ns.map V.int)) := fun {b u} z => by
    by_cases q : b = a ∧ K.lookup a = none
    · exact ⟨q.1, q.2, (Option.some.inj ((if_pos q).symm.trans z)).symm⟩
    · exact absurd ((if_neg q).symm.trans z) (fun z => nomatch z)
  have look : SqL K Hz a (ns.map V.int) := by
    cases e : K.lookup a with
    | none => exact .inl (.inr ⟨_, if_pos ⟨rfl, e⟩⟩)
    | some o =>
      have q := kin a o e
      rw [ha] at q
      cases q
      exact .inr ⟨_, vs.toArray, _, e, rfl, rfl, rfl, by rw [List.size_toArray, nlen]; exact hl, by simpa using rel⟩
  have ok : HOk P w Hz s₁.heap := fun b u z => by
    obtain ⟨rfl, _, rfl⟩ := Hz_some z
    exact ⟨ha, by rw [List.length_map]; exact hl, vs, _, rel, ha⟩
  have nset : ∀ {b : Addr} {o : Obj}, s₁.heap.get? b = some o → (∀ ws n, o.data ≠ .seq ws n) → Hz b = none := fun {b o} e no => by
    cases z : Hz b with
    | none => rfl
    | some u =>
      obtain ⟨rfl, _, _⟩ := Hz_some z
      rw [ha] at e
      cases e
      exact absurd rfl (no _ _)
  have ns2 : ∀ {b : Addr} {m : Str → Option Value}, s₁.heap.Ns b m → (hidT s₁.heap Hz).Ns b m := fun {b m} ⟨o, es, ep, e, d, r⟩ => ⟨o, es, ep, hidT_get e (nset e fun ws n z => by rw [d] at z; cases z), d, r⟩
  have kin2 : K.In (hidT s₁.heap Hz) := fun b o e => hidT_get (kin b o e) (by
    cases z : Hz b with
    | none => rfl
    | some u =>
      obtain ⟨rfl, n, _⟩ := Hz_some z
      rw [n] at e
      cases e)
  obtain ⟨mc, l1, l2⟩ := g4
  have e0 : Env0 P w K mg (hidT s₁.heap Hz) callerA [] s₁ Hz := by
    refine ⟨rfl, ⟨kin2, ns2 g1, ⟨mb, ns2 g2, g3⟩, ⟨mc, ns2 l1, l2⟩⟩, fun b o e => of_hidT e, Nat.le_of_eq (hidT_size _ _), trivial, ?_, ok, .of_eq g5⟩
    intro b hb
    cases (show b ∈ ([] : List Addr) from hb)
  refine codeAny_mono ((F _ kin2 (ns2 g1)).run callerA [] s₁ Hz [.ref a] [.ref a] _ _ rfl room e0 (hbind s₁ (.ref a)) (.cons rfl .nil) (hsp Hz look)) ?_
  rintro (er | _ | _ | _ | u) s2 h
  · exact (cx_no h).elim
  · exact False.elim h
  · exact False.elim h
  · exact False.elim h
  · obtain ⟨v, H2, os, bare, un, hok2, rv, q⟩ := h
    obtain rfl : v = .bl true := q
    obtain rfl : u = Value.bool true := rv
    have key : ∀ b o, s₁.heap.get? b = some o → s2.heap.get? b = some o := fun b o e => by
      cases z : Hz b with
      | none => exact un.keep b o e z (fun m => by cases (show b ∈ ([] : List Addr) from m)) (fun m => nomatch m)
      | some u =>
        obtain ⟨rfl, _, rfl⟩ := Hz_some z
        obtain ⟨e1, _⟩ := hok2 b _ (un.frzs b _ _ z)
        rw [ha] at e
        cases e
        exact e1
    exact ⟨rfl, ⟨fun b o e => .inl (key b o e), fun b o e => ⟨o, key b o e⟩⟩, os, bare⟩
/-- what is known of the law at the head's heap -/
def LawG (l : PySem.W.OpenLaw) (w : World) (K : PySem.W.Frag) (k n : Nat) (x : Str) (mg : Str → Option Value) (fa : Addr) : Prop :=
  ∃ (fd : FuncData) (sp : Sp), (∀ (s : Shared) (u : Value), BindsTo s fd ⟨[u], []⟩ [(x, u)]) ∧ (∀ (H : Hp) (a : Addr) (ns : List Int), ns.length ≤ n → SqL K H a (ns.map V.int) → sp [.ref a] H (fun v _ => v = .bl true) fun _ _ _ => False) ∧
    ∀ base : Heap, K.In base → base.Ns mainGlobals mg → FnG l.prog w K mg base k fa fd [x] sp
theorem walk_G {l : PySem.W.OpenLaw} {n k : Nat} {q : Program} {loose : List Str} {XP : (Str → Option Value) → Heap → Prop} {YP : World → Heap → Prop} {d : DefRec} {x : Str}
    (hn : l.most = some n) (hn2 : n ≤ sizeLine) (hdf : d.params.defaults = []) (room : Room k callerA)
    (F : ∀ (w : World) (mg : Str → Option Value) (fa : Addr) (h : Heap), YP w h → h.Ns mainGlobals mg → mg d.name = some (.ref fa) → ∃ K : PySem.W.Frag, K.In h ∧ LawG l w K k n x mg fa) :
    PySem.W.WalkO q loose XP YP l.row.toRowW d [] (fun f vs => PySem.call f vs) := by
  apply Att.attach_callB hn hdf
  intro w s₀ s₁ mg mb fa o pm cd doc a vs ns G Y ho hd hcd hmg hobj hints hlen hbits hg
  obtain ⟨K, kin, fd, sp, hb, hsp, hF⟩ := F w mg fa _ Y G.T.g hmg
  exact law_callG kin G.T.g G.T.b G.T.builtins G.T.nolimit hg hobj hints (Nat.le_trans hlen hn2) room hF hb fun H hS => hsp H a ns hlen hS
end AL
namespace AL
open PySem PySem.Spec PyProof.Rows L2 Evl
/-! ### texts -/
def strsD (ys : List Str) : List D := ys.map D.str
theorem reps_str {K : PySem.W.Frag} : ∀ {ys : List Str} {B : Hp} {vs : List V}, Reps K B vs (strsD ys) → vs = ys.map V.str
  | [], _, _, .nil => rfl
  | y :: ys, _, _, .cons r rs => by cases r; rw [reps_str rs]; rfl
theorem str_reps {K : PySem.W.Frag} {B : Hp} : ∀ ys : List Str, Reps K B (ys.map V.str) (strsD ys)
  | [] => .nil
  | y :: ys => .cons (.str y) (str_reps ys)
section
variable {X : Cx} {Z : Zx} {a b e o : Expr} {es : List Expr} {ρ : En} {Φ : D → En → Prop} {Ψ : Bool → En → Prop} {p pos apos : Pos} {tg : Expr} {Θ : List D → En → Prop}
/-- a + b, texts -/
theorem ec_addS (h : EC X Z a ρ fun d ρ1 => EC X Z b ρ1 fun d' ρ2 => ∃ x y : Str, d = .str x ∧ d' = .str y ∧ x.length + y.length ≤ sizeLine ∧ Φ (.str (x ++ y)) ρ2) : EC X Z (.BinOp a .Add b pos) ρ Φ :=
  ec_op op_add_str (h.mono fun d ρ1 z => z.mono fun d' ρ2 ⟨x, y, e1, e2, hl, k⟩ => by
    subst e1; subst e2
    exact ⟨.str (x ++ y), fun B G H u v _ r1 r2 => by cases r1; cases r2; exact ⟨_, .str _, fun Q q => ⟨x, y, rfl, rfl, hl, q⟩⟩, k⟩)
theorem op_mulS : OpR X (binaryOp .Mult) (fun x y H Q => ∃ (i : Str) (n : Int), x = .str i ∧ y = .int n ∧ MulOk i n ∧ Q (.str (Txt.mul i n)) H) := by
  intro pins s σ H x y v u Q I rx ry h
  obtain ⟨i, n, rfl, rfl, ok, q⟩ := h
  obtain ⟨t, rfl⟩ := rx
  obtain ⟨t2, rfl⟩ := ry
  exact SB.mul ok fun t3 k => ⟨.str _, H, I.tok _, ⟨_, rfl⟩, q⟩
/-- a * n, a text -/
theorem ec_mulS (h : EC X Z a ρ fun d ρ1 => EC X Z b ρ1 fun d' ρ2 => ∃ (x : Str) (n : Int), d = .str x ∧ d' = .int n ∧ MulOk x n ∧ Φ (.str (Txt.mul x n)) ρ2) : EC X Z (.BinOp a .Mult b pos) ρ Φ :=
  ec_op op_mulS (h.mono fun d ρ1 z => z.mono fun d' ρ2 ⟨x, n, e1, e2, hl, k⟩ => by
    subst e1; subst e2
    exact ⟨.str (Txt.mul x n), fun B G H u v _ r1 r2 => by cases r1; cases r2; exact ⟨_, .str _, fun Q q => ⟨x, n, rfl, rfl, hl, q⟩⟩, k⟩)
/-- a sign in a text -/
theorem ec_inSign (h : EC X Z a ρ fun d ρ1 => EC X Z b ρ1 fun d' ρ2 => ∃ (c : Nat) (y : Str), d = .str ⟨#[c]⟩ ∧ d' = .str y ∧ Φ (.bl (decide (c ∈ y.cps.toList))) ρ2) (hm : behindInMarks .In b = false := by rfl) : EC X Z (.Compare a [.In] [b] pos) ρ Φ :=
  ec_cmp op_in_sign hm (h.mono fun d ρ1 z => z.mono fun d' ρ2 ⟨c, y, e1, e2, k⟩ => by
    subst e1; subst e2
    exact ⟨_, fun B G H u v _ r1 r2 => by cases r1; cases r2; exact ⟨_, .bl _, fun Q q => ⟨c, y, rfl, rfl, q⟩⟩, k⟩)
/-- o.split(e) -/
theorem ec_split (h : EC X Z o ρ fun d ρ1 => ∃ x : Str, d = .str x ∧ EC X Z e ρ1 fun d' ρ2 => ∃ y : Str, d' = .str y ∧ (y.length == 0) = false ∧ x.length + 2 ≤ sizeLine ∧ Φ (.lst (strsD (Txt.split x y))) ρ2)
    (hs : starEach [e] X.env = [(false, eval e X.env)] := by rfl) (hbase : attributeBase o "split" X.env (eval o X.env) = eval o X.env := by rfl) (hline : (apos.endLine == pos.line) = true := by rfl) : EC X Z (.Call (.Attribute o "split" apos) [e] [] pos) ρ Φ := fun B G H σ ok z Q q => by
  refine (pe_split p_wE p_wE hs hbase hline).w (h B G H σ ok z _ fun d ρ1 v B1 H1 ⟨x, hd, h1⟩ e1 o1 r1 => ?_)
  subst hd
  cases r1
  refine ⟨⟨x, rfl⟩, h1 B1 G H1 σ o1 (z.up e1) _ fun d' ρ2 u B2 H2 ⟨y, hd', hy, hx, hk⟩ e2 o2 r2 => ?_⟩
  subst hd'
  cases r2
  refine ⟨x, y, rfl, rfl, hy, hx, fun p hp => ?_⟩
  obtain ⟨e3, o3⟩ := o2.grow (u := .lst ((Txt.split x y).map V.str)) hp
  exact q _ ρ2 _ _ _ hk ((e1.trans e2).trans e3) o3 (.lst upd_same (str_reps _))
/-- o.join(e), a list or a tuple of texts -/
theorem ec_join (h : EC X Z o ρ fun d ρ1 => ∃ x : Str, d = .str x ∧ EC X Z e ρ1 fun d' ρ2 => ∃ ys : List Str, (d' = .lst (strsD ys) ∨ d' = .tup (strsD ys)) ∧ (ys.map (·.length)).sum + ys.length * x.length ≤ 16777216 ∧ Φ (.str (Txt.join x ys)) ρ2)
    (hs : starEach [e] X.env = [(false, eval e X.env)] := by rfl) (hbase : attributeBase o "join" X.env (eval o X.env) = eval o X.env := by rfl) (hline : (apos.endLine == pos.line) = true := by rfl) : EC X Z (.Call (.Attribute o "join" apos) [e] [] pos) ρ Φ := fun B G H σ ok z Q q => by
  refine (pe_join p_wE p_wE hs hbase hline).w (h B G H σ ok z _ fun d ρ1 v B1 H1 ⟨x, hd, h1⟩ e1 o1 r1 => ?_)
  subst hd
  cases r1
  refine ⟨⟨x, rfl⟩, h1 B1 G H1 σ o1 (z.up e1) _ fun d' ρ2 u B2 H2 ⟨ys, hd', hl, hk⟩ e2 o2 r2 => ?_⟩
  rcases hd' with hd' | hd'
  · subst hd'
    cases r2 with
    | @lst p xs _ hq rs =>
      obtain rfl := reps_str rs
      exact ⟨x, p, ys, rfl, rfl, .inl (sq_of (o2.s.ex _ _ hq)), hl, q _ ρ2 _ B2 H2 hk (e1.trans e2) o2 (.str _)⟩
  · subst hd'
    cases r2 with
    | @tup p xs _ hq rs =>
      obtain rfl := reps_str rs
      exact ⟨x, p, ys, rfl, rfl, .inr (ex_t o2.s.ex (st_of hq)), hl, q _ ρ2 _ B2 H2 hk (e1.trans e2) o2 (.str _)⟩
/-- o.strip(e) -/
theorem ec_stripC (h : EC X Z o ρ fun d ρ1 => ∃ x : Str, d = .str x ∧ EC X Z e ρ1 fun d' ρ2 => ∃ y : Str, d' = .str y ∧ x.length ≤ sizeLine ∧ Φ (.str (Txt.stripChars x y)) ρ2)
    (hs : starEach [e] X.env = [(false, eval e X.env)] := by rfl) (hbase : attributeBase o "strip" X.env (eval o X.env) = eval o X.env := by rfl) (hline : (apos.endLine == pos.line) = true := by rfl) : EC X Z (.Call (.Attribute o "strip" apos) [e] [] pos) ρ Φ := fun B G H σ ok z Q q => by
  refine (pe_m1 F.slot_str_strip F.type_str_strip mt_stripChars p_wE p_wE hs hbase hline).w (h B G H σ ok z _ fun d ρ1 v B1 H1 ⟨x, hd, h1⟩ e1 o1 r1 => ?_)
  subst hd
  cases r1
  refine ⟨⟨x, rfl⟩, h1 B1 G H1 σ o1 (z.up e1) _ fun d' ρ2 u B2 H2 ⟨y, hd', hl, hk⟩ e2 o2 r2 => ?_⟩
  subst hd'
  cases r2
  exact ⟨x, y, rfl, rfl, hl, q _ ρ2 _ B2 H2 hk (e1.trans e2) o2 (.str _)⟩
/-- o.startswith(e) -/
theorem ec_starts (h : EC X Z o ρ fun d ρ1 => ∃ x : Str, d = .str x ∧ EC X Z e ρ1 fun d' ρ2 => ∃ y : Str, d' = .str y ∧ Φ (.bl (Txt.startswith x y)) ρ2)
    (hs : starEach [e] X.env = [(false, eval e X.env)] := by rfl) (hbase : attributeBase o "startswith" X.env (eval o X.env) = eval o X.env := by rfl) (hline : (apos.endLine == pos.line) = true := by rfl) : EC X Z (.Call (.Attribute o "startswith" apos) [e] [] pos) ρ Φ := fun B G H σ ok z Q q => by
  refine (pe_m1 F.slot_str_startswith F.type_str_startswith mt_startswith p_wE p_wE hs hbase hline).w (h B G H σ ok z _ fun d ρ1 v B1 H1 ⟨x, hd, h1⟩ e1 o1 r1 => ?_)
  subst hd
  cases r1
  refine ⟨⟨x, rfl⟩, h1 B1 G H1 σ o1 (z.up e1) _ fun d' ρ2 u B2 H2 ⟨y, hd', hk⟩ e2 o2 r2 => ?_⟩
  subst hd'
  cases r2
  exact ⟨x, y, rfl, rfl, q _ ρ2 _ B2 H2 hk (e1.trans e2) o2 (.bl _)⟩
/-- what is walked: a text's signs -/
def signsD (x : Str) : List D := (TL.tl x).map fun c => D.str ⟨#[c]⟩
theorem walks_str {K : PySem.W.Frag} {B : Hp} {x : Str} : Walks K B (Its x) (signsD x) := fun i B2 G2 H2 σ2 ρ2 e o => by
  have hl : (signsD x).length = x.cps.size := by unfold signsD; rw [List.length_map]; exact Array.length_toList
  refine ⟨fun d hd => ?_, fun hi => by show x.cps.size ≤ i; omega⟩
  have hi : i < x.cps.size := by rw [← hl]; exact (List.getElem?_eq_some_iff.mp hd).1
  refine ⟨hi, fun y H' ⟨e1, c, hc, ey⟩ => ?_⟩
  subst e1; subst ey
  unfold signsD at hd
  rw [List.getElem?_map, show (TL.tl x)[i]? = some c by rw [← hc]; exact Array.getElem?_toList] at hd
  obtain rfl := Option.some.inj hd
  exact ⟨B2, Ex.refl _, o, .str _⟩
theorem ic_str (h : EC X Z e ρ fun d ρ1 => ∃ x : Str, d = .str x ∧ Θ (signsD x) ρ1) : IC X Z tg e ρ Θ := fun B G H σ o z R q =>
  (pi_str p_wE).w (h B G H σ o z _ fun d ρ1 v B1 H1 ⟨x, hd, h1⟩ e1 o1 r1 => by
    subst hd
    cases r1
    exact ⟨x, rfl, q _ ρ1 _ B1 H1 h1 e1 o1 walks_str⟩)
/-- str(e), int(e) -/
theorem gb_strI {K : PySem.W.Frag} {i : Int} (h : i.natAbs.log2 < 1920) : GivesB K (fun xs H Q => ∃ i, xs = [V.int i] ∧ i.natAbs.log2 < 1920 ∧ Q (.str (toString i)) H) [.int i] (fun e => e = .str (toString i : String)) := fun B G H vs s r Q q1 q2 => by
  cases r with
  | cons r rs =>
    cases rs; cases r
    exact ⟨i, rfl, h, q1 _ _ rfl (.str _)⟩
theorem gb_strS {K : PySem.W.Frag} {x : Str} : GivesB K (fun xs H Q => ∃ a, xs = [V.str a] ∧ Q (.str a) H) [.str x] (fun e => e = .str x) := fun B G H vs s r Q q1 q2 => by
  cases r with
  | cons r rs =>
    cases rs; cases r
    exact ⟨x, rfl, q1 _ _ rfl (.str _)⟩
theorem gb_intS {K : PySem.W.Frag} {x : Str} {n : Int} (h : PySem.intText? x = some n) (hl : x.length ≤ 640) : GivesB K (fun xs H Q => ∃ a n, xs = [V.str a] ∧ PySem.intText? a = some n ∧ a.length ≤ 640 ∧ Q (.int n) H) [.str x] (fun e => e = .int n) := fun B G H vs s r Q q1 q2 => by
  cases r with
  | cons r rs =>
    cases rs; cases r
    exact ⟨x, n, rfl, h, hl, q1 _ _ rfl (.int _)⟩
end
end AL
namespace AL
open PySem PySem.Spec PyProof.Rows L2 Evl
section
variable {X : Cx} {Z : Zx} {e th : Expr} {ρ : En} {Φ : D → En → Prop} {Θ : OO → En → Prop} {p p2 pos : Pos}
/-- a[:k] of a list -/
theorem ec_slL (h : EC X Z e ρ fun d ρ1 => EC X Z th ρ1 fun d' ρ2 => ∃ (ds : List D) (k : Nat), d = .lst ds ∧ d' = .int k ∧ Φ (.lst (ds.take k)) ρ2) : EC X Z (.Subscript e (.Slice none (some th) none p2) pos) ρ Φ := fun B G H σ o z Q q => by
  refine (pe_slice sl_list p_wE po_none (po_some p_wE)).w ?_
  refine h B G H σ o z _ fun d ρ1 v B1 H1 h1 e1 o1 r1 => ?_
  refine h1 B1 G H1 σ o1 (z.up e1) _ fun d' ρ2 y B2 H2 ⟨ds, k, hd, hd', hq⟩ e2 o2 r2 => ?_
  subst hd; subst hd'
  cases r2
  cases r1 with
  | @lst a xs _ hx rs =>
    have hl := rs.length
    have s0 : HT.sIx xs.length 0 none = 0 := by simp [HT.sIx]
    refine ⟨(k : Int), rfl, a, xs, rfl, sq_of (o2.s.ex _ _ (e2 _ _ hx)), fun p hp => ?_⟩
    have ec : cutV xs none (some (k : Int)) = xs.take k := by
      unfold cutV
      rw [s0, HT.sIx_nat]
      simp
    rw [ec]
    obtain ⟨e3, o3⟩ := o2.grow (u := .lst (xs.take k)) hp
    exact q _ ρ2 _ _ _ hq ((e1.trans e2).trans e3) o3 (.lst upd_same ((rs.up (e2.trans e3)).take k))
/-- list(e), e a list: a new one -/
theorem fc_listC (h : EC X Z e ρ fun d ρ1 => ∃ ds, d = .lst ds ∧ Θ (.l ds) ρ1) (hm : X.mg "list" = none) (hg : Gl X "list" := by rfl)
    (he : starEach [e] X.env = (false, eval e X.env) :: starEach [] X.env := by rfl) (hpl : (backTo pos (starEach [] X.env)).any (·.1) = false := by rfl) : FC X Z (.Call (.Name "list" p) [e] [] pos) ρ Θ := fun B G H σ o z Q q =>
  (pe_callTy call_list_of hg hm boot_list (pa_cons p_wE pa_nil he) (he := he) (hpl := hpl)).w (h B G H σ o z _ fun d ρ1 v B1 H1 ⟨ds, hd, h1⟩ e1 o1 r1 => by
    subst hd
    cases r1 with
    | @lst a xs _ hx rs =>
      refine ⟨a, xs, rfl, .inl (sq_of (o1.s.ex _ _ hx)), fun l hl => ?_⟩
      obtain ⟨o2, hb, hg2, hn⟩ := o1.fresh (u := .lst xs) hl
      exact q _ ρ1 l _ B1 _ h1 e1 o2 hb hg2 upd_same hn rs)
end
end AL
namespace AL
open PySem PySem.Spec PyProof.Rows L2 Evl
section
variable {X : Cx} {Z : Zx} {e lo : Expr} {ρ : En} {Φ : D → En → Prop} {p2 pos : Pos}
/-- a[k:] of a list -/
theorem ec_slLo (h : EC X Z e ρ fun d ρ1 => EC X Z lo ρ1 fun d' ρ2 => ∃ (ds : List D) (k : Nat), d = .lst ds ∧ d' = .int k ∧ Φ (.lst (ds.drop k)) ρ2) : EC X Z (.Subscript e (.Slice (some lo) none none p2) pos) ρ Φ := fun B G H σ o z Q q => by
  refine (pe_slice sl_list p_wE (po_some p_wE) po_none).w ?_
  refine h B G H σ o z _ fun d ρ1 v B1 H1 h1 e1 o1 r1 => ?_
  refine h1 B1 G H1 σ o1 (z.up e1) _ fun d' ρ2 y B2 H2 ⟨ds, k, hd, hd', hq⟩ e2 o2 r2 => ?_
  subst hd; subst hd'
  cases r2
  cases r1 with
  | @lst a xs _ hx rs =>
    refine ⟨(k : Int), rfl, a, xs, rfl, sq_of (o2.s.ex _ _ (e2 _ _ hx)), fun p hp => ?_⟩
    have s0 : HT.sIx xs.length xs.length none = xs.length := by simp [HT.sIx]
    have ec : cutV xs (some (k : Int)) none = xs.drop k := by
      unfold cutV
      rw [s0, HT.sIx_nat]
      by_cases hk : k ≤ xs.length
      · rw [Nat.min_eq_left hk]
        exact List.take_of_length_le (by rw [List.length_drop]; omega)
      · rw [Nat.min_eq_right (by omega), List.drop_eq_nil_of_le (Nat.le_refl _), List.drop_eq_nil_of_le (by omega)]
        simp
    rw [ec]
    obtain ⟨e3, o3⟩ := o2.grow (u := .lst (xs.drop k)) hp
    exact q _ ρ2 _ _ _ hq ((e1.trans e2).trans e3) o3 (.lst upd_same ((rs.up (e2.trans e3)).drop k))
/-- a[k:] of a text -/
theorem ec_slSo (h : EC X Z e ρ fun d ρ1 => EC X Z lo ρ1 fun d' ρ2 => ∃ (x : Str) (k : Nat), d = .str x ∧ d' = .int k ∧ x.length ≤ sizeLine ∧ Φ (.str ⟨((TL.tl x).drop k).toArray⟩) ρ2) : EC X Z (.Subscript e (.Slice (some lo) none none p2) pos) ρ Φ := fun B G H σ o z Q q => by
  refine (pe_slice sl_str p_wE (po_some p_wE) po_none).w ?_
  refine h B G H σ o z _ fun d ρ1 v B1 H1 h1 e1 o1 r1 => ?_
  refine h1 B1 G H1 σ o1 (z.up e1) _ fun d' ρ2 y B2 H2 ⟨x, k, hd, hd', hl, hq⟩ e2 o2 r2 => ?_
  subst hd; subst hd'
  cases r2
  cases r1
  refine ⟨(k : Int), rfl, x, rfl, hl, ?_⟩
  have s0 : HT.sIx x.length x.length none = x.length := by simp [HT.sIx]
  have hx : x.length = (TL.tl x).length := TL.len_tl x
  have ec : cutS x (some (k : Int)) none = ⟨((TL.tl x).drop k).toArray⟩ := by
    unfold cutS
    rw [s0, HT.sIx_nat]
    show (⟨(List.take _ ((TL.tl x).drop _)).toArray⟩ : Str) = _
    by_cases hk : k ≤ x.length
    · rw [Nat.min_eq_left hk, List.take_of_length_le (by rw [List.length_drop]; omega)]
    · rw [Nat.min_eq_right (by omega), show (TL.tl x).drop x.length = [] from List.drop_eq_nil_of_le (by omega), show (TL.tl x).drop k = [] from List.drop_eq_nil_of_le (by omega)]
      simp
  rw [ec]
  exact q _ ρ2 _ B2 H2 hq (e1.trans e2) o2 (.str _)
end
section
variable {X : Cx} {Z : Zx} {e : Expr} {es : List Expr} {ρ : En} {Φ : D → En → Prop} {p pos : Pos} {x : Str}
/-- a text of the module -/
theorem ec_gs {y : Str} {t : Tok} (hm : X.mg x = some (.str y t)) (h : Φ (.str y) ρ) (hg : Gl X x := by rfl) (hdb : (x == ("__debug__" : Str)) = false := by decide) : EC X Z (.Name x pos) ρ Φ := fun B G H σ o z Q q =>
  (pe_glob (v := V.str y) hg hm ⟨t, rfl⟩ hdb).w (q _ ρ _ B H h (Ex.refl B) o (.str y))
end
end AL
namespace T34
open PySem PySem.Spec PyProof.Rows L2 Evl AL
theorem m_is_number : MonoF S_is_number := fun ds Φ Φ' h ⟨v, h1, h2, h3⟩ => ⟨v, h1, h2, h _ h3⟩
def oI : Option Int → D
  | none => .non
  | some n => .int n
theorem gb_lenS {K : PySem.W.Frag} {x : Str} (h : x.length ≤ sizeLine) : GivesB K (fun xs H Q => ∃ z, xs = [V.str z] ∧ z.length ≤ sizeLine ∧ Q (.int z.length) H) [.str x] (fun e => e = .int x.length) := fun B G H vs s r Q q1 q2 => by
  cases r with
  | cons r rs =>
    cases rs; cases r
    exact ⟨x, rfl, h, q1 _ _ rfl (.int _)⟩
abbrev cDig : Str := "0123456789"
def digB (x : Str) : Bool := (TL.tl x).all fun c => decide (c ∈ cDig.cps.toList)
/-- what number_in tells -/
def numIn (x : Str) : Option Int := if x = "" ∨ 30 < x.length then none else if digB x = false then none else if Txt.startswith x "0" = true ∧ x ≠ "0" then none else some (NumText.digitsVal (TL.tl x) : Int)
theorem dig_iff {c : Nat} : c ∈ cDig.cps.toList ↔ 48 ≤ c ∧ c ≤ 57 := by
  have e : cDig.cps.toList = [48, 49, 50, 51, 52, 53, 54, 55, 56, 57] := by decide +kernel
  rw [e]
  simp only [List.mem_cons, List.not_mem_nil, or_false]
  omega
theorem digs_all {x : Str} (h : digB x = true) : NumText.AllDigits (TL.tl x) := by
  unfold digB at h
  rw [List.all_eq_true] at h
  intro c hc
  exact dig_iff.mp (of_decide_eq_true (h c hc))
def S_num (ds : List D) (Ψ : D → Prop) : Prop := ∃ x : Str, ds = [.str x] ∧ x.length ≤ 100000 ∧ Ψ (oI (numIn x))
theorem m_num : MonoF S_num := fun ds Φ Φ' g ⟨x, h1, h2, h3⟩ => ⟨x, h1, h2, g _ h3⟩
section
variable {P : Program} {w : World} {K : PySem.W.Frag} {mg : Str → Option Value} {base : Heap} {f : Addr} {fd : FuncData} {t30 tD : Tok}
theorem c_num (F : FunN K "number_in" s_number_in f fd) (hm : mg "number_in" = some (.ref f)) (b : Blt mg) (h30 : mg "MOST_DIGITS" = some (.int 30 t30)) (hD : mg "DIGITS" = some (.str cDig tD)) : KF P w K mg base "number_in" 1 1 S_num := ⟨by
  have nd : (["word", "sign"] : List Str).Nodup := by decide +kernel
  refine cal_fn F hm (N := ["word", "sign"]) (ps := ["word"]) ⟨rfl, rfl, rfl, nd, rfl, by decide +kernel, by decide +kernel⟩ rfl (fun _ _ _ _ _ _ us hl => match us, hl with | [_], _ => rfl) ?_
  rintro cdv A outer s H E hr ds Ψ hl ⟨x, rfl, xl, hd⟩
  have sz : x.length ≤ sizeLine := by rw [sizeLine_eq]; omega
  unfold numIn at hd
  refine sc_if (tc_w (wc_or (tc_eqS (ec_var 0 rfl (ec_str ⟨decide (x = ""), rfl, ?_⟩)))))
  by_cases h0 : x = ""
  · rw [if_pos (.inl h0)] at hd
    rw [decide_eq_true h0]
    exact ⟨(fun z => nomatch z), fun _ => ⟨fun _ => sc_ret (ec_non hd), (fun z => nomatch z)⟩⟩
  rw [decide_eq_false h0]
  refine ⟨fun _ => wc_or1 (tc_gt (ec_cb call_len_str rfl b.len (ac_cons (ec_var 0 rfl (ac_nil ⟨_, gb_lenS sz, ?_⟩))))), (fun z => nomatch z)⟩
  rintro d rfl
  refine ec_gi h30 ⟨_, _, rfl, rfl, ?_⟩
  by_cases h1 : 30 < x.length
  · rw [if_pos (.inr h1)] at hd
    rw [decide_eq_true (by omega)]
    exact ⟨fun _ => sc_ret (ec_non hd), (fun z => nomatch z)⟩
  rw [decide_eq_false (by omega)]
  rw [if_neg (fun z => z.elim h0 h1)] at hd
  refine ⟨(fun z => nomatch z), fun _ => sc_nil ?_⟩
  show SC _ _ _ _ _
  refine sc_if (tc_not (tc_val (ec_cb (cr_all rfl) boot_all b.all (ac_cons (ec_fc (fc_M (TL.tl x) (fun c => D.str ⟨#[c]⟩) (fun c => .bl (decide (c ∈ cDig.cps.toList))) [("sign", 1)] [1] (ic_str (ec_var 0 rfl ⟨x, rfl, rfl, ?_, rfl, fun c hc => ?_, ?_⟩)) nd (by decide)))))))
  · rw [← TL.len_tl]; omega
  · intro s3 H3 C3 cl3 fp3
    refine gt_name 1 ?_ nd
    intro s4 H4 C4 cl4 fp4
    exact ec_inSign (ec_var 1 rfl (ec_gs hD ⟨c, cDig, rfl, rfl, rfl, rfl⟩))
  refine ⟨_, rfl, ?_⟩
  refine ac_nil ⟨_, by rw [show (TL.tl x).map (fun c => D.bl (decide (c ∈ cDig.cps.toList))) = ((TL.tl x).map fun c => decide (c ∈ cDig.cps.toList)).map D.bl by rw [List.map_map]; rfl]; exact gb_all, ?_⟩
  rintro d rfl
  rw [show ((TL.tl x).map fun c => decide (c ∈ cDig.cps.toList)).all id = digB x by unfold digB; rw [List.all_map]; rfl]
  cases e : digB x with
  | false =>
    rw [if_pos e] at hd
    exact ⟨_, rfl, fun _ => sc_ret (ec_non hd), (fun z => nomatch z)⟩
  | true =>
    rw [if_neg (by rw [e]; decide)] at hd
    refine ⟨_, rfl, (fun z => nomatch z), fun _ => sc_nil ?_⟩
    show SC _ _ _ _ _
    have fin : (Txt.startswith x "0" = true ∧ x ≠ "0" → False) → Ψ (.int (NumText.digitsVal (TL.tl x) : Int)) := fun g => by
      rw [if_neg g] at hd
      exact hd
    have hx : intText? x = some ((NumText.digitsVal (TL.tl x) : Nat) : Int) := PySem.intText_digits (digs_all e) (fun z => h0 (TL.ext_tl (by rw [show TL.tl x = [] from z]; rfl))) (by omega)
    refine sc_if (tc_w (wc_and (tc_val (ec_starts (ec_var 0 rfl ⟨x, rfl, ec_str ⟨_, rfl, _, rfl, ?_⟩⟩)))))
    cases e0 : Txt.startswith x "0" with
    | false =>
      refine ⟨(fun z => nomatch z), fun _ => ⟨(fun z => nomatch z), fun _ => sc_nil ?_⟩⟩
      show SC _ _ _ _ _
      refine sc_ret (ec_cty call_int_str rfl b.int (ac_cons (ec_var 0 rfl (ac_nil ⟨_, gb_intS hx (by omega), ?_⟩))))
      rintro d rfl
      exact fin fun z => by rw [e0] at z; exact Bool.false_ne_true z.1
    | true =>
      refine ⟨fun _ => wc_and1 (tc_neS (ec_var 0 rfl (ec_str ⟨decide (x = "0"), rfl, ?_⟩))), (fun z => nomatch z)⟩
      by_cases h2 : x = "0"
      · rw [decide_eq_true h2]
        refine ⟨(fun z => nomatch z), fun _ => sc_nil ?_⟩
        show SC _ _ _ _ _
        refine sc_ret (ec_cty call_int_str rfl b.int (ac_cons (ec_var 0 rfl (ac_nil ⟨_, gb_intS hx (by omega), ?_⟩))))
        rintro d rfl
        exact fin fun z => z.2 h2
      · rw [decide_eq_false h2]
        rw [if_pos ⟨e0, h2⟩] at hd
        exact ⟨fun _ => sc_ret (ec_non hd), (fun z => nomatch z)⟩
  , m_num⟩
/-! ### words, counted lines -/
def wordsIn (x : Str) : List Str := (Txt.split x " ").filter fun y => !decide (y = "")
def S_wordsIn (ds : List D) (Ψ : D → Prop) : Prop := ∃ x : Str, ds = [.str x] ∧ x.length ≤ 10000 ∧ (Txt.split x " ").length ≤ 20000 ∧ Ψ (.lst (strsD (wordsIn x)))
theorem m_wordsIn : MonoF S_wordsIn := fun ds Φ Φ' g ⟨x, h1, h2, h3, h4⟩ => ⟨x, h1, h2, h3, g _ h4⟩
theorem c_wordsIn (F : FunN K "words_in" s_words_in f fd) (hm : mg "words_in" = some (.ref f)) : KF P w K mg base "words_in" 1 1 S_wordsIn := ⟨by
  have nd : (["line", "word"] : List Str).Nodup := by decide +kernel
  refine cal_fn F hm (N := ["line", "word"]) (ps := ["line"]) ⟨rfl, rfl, rfl, nd, rfl, by decide +kernel, by decide +kernel⟩ rfl (fun _ _ _ _ _ _ us hl => match us, hl with | [_], _ => rfl) ?_
  rintro cdv A outer s H E hr ds Ψ hl ⟨x, rfl, xl, sl, hd⟩
  have sz : x.length + 2 ≤ sizeLine := by rw [sizeLine_eq]; omega
  refine sc_ret (ec_fc (fc_F (Txt.split x " ") D.str (fun y => !decide (y = "")) D.str [("word", 1)] [1] (ic_list (ec_split (ec_var 0 rfl ⟨x, rfl, ec_str ⟨_, rfl, by decide +kernel, sz, _, rfl, rfl, by omega, rfl, fun y hy => ?_, ?_⟩⟩))) nd (by decide)))
  · intro s3 H3 C3 cl3 fp3
    refine gt_name 1 ?_ nd
    intro s4 H4 C4 cl4 fp4
    refine tc_neS (ec_var 1 rfl (ec_str ⟨_, rfl, rfl, fun _ => ?_, fun _ => rfl⟩))
    intro s5 H5 C5 cl5 fp5
    exact ec_var 1 rfl ⟨rfl, rfl⟩
  exact ⟨_, rfl, hd⟩
  , m_wordsIn⟩
end
end T34
namespace T34
open PySem PySem.Spec PyProof.Rows L2 Evl AL
/-! ### counted lines -/
def bareB (y : Str) : Bool := !decide (Txt.stripChars y " " = "") && !Txt.startswith (Txt.stripChars y " ") "#"
def cntL (k : Nat) : List Str → List (Nat × Str)
  | [] => []
  | y :: ys => if bareB y then (k + 1, y) :: cntL (k + 1) ys else cntL (k + 1) ys
theorem cntL_snoc : ∀ (ys : List Str) (k : Nat) (y : Str), cntL k (ys ++ [y]) = cntL k ys ++ (if bareB y then [(k + ys.length + 1, y)] else [])
  | [], k, y => by
    show (if bareB y then (k + 1, y) :: cntL (k + 1) [] else cntL (k + 1) []) = _
    cases bareB y <;> rfl
  | x :: ys, k, y => by
    show (if bareB x then (k + 1, x) :: cntL (k + 1) (ys ++ [y]) else cntL (k + 1) (ys ++ [y])) = (if bareB x then (k + 1, x) :: cntL (k + 1) ys else cntL (k + 1) ys) ++ _
    rw [cntL_snoc ys (k + 1) y, List.length_cons, show k + 1 + ys.length + 1 = k + (ys.length + 1) + 1 by omega]
    cases bareB x <;> rfl
theorem cntL_len : ∀ (ys : List Str) (k : Nat), (cntL k ys).length ≤ ys.length
  | [], _ => Nat.le_refl _
  | y :: ys, k => by
    have := cntL_len ys (k + 1)
    unfold cntL
    cases bareB y <;> simp <;> omega
theorem enumF_len : ∀ (ds : List D) (k : Nat), (enumFrom k ds).length = ds.length
  | [], _ => rfl
  | d :: ds, k => congrArg Nat.succ (enumF_len ds (k + 1))
def cntD (r : Nat × Str) : D := .tup [.int (r.1 : Int), .str r.2]
def S_cnt (ds : List D) (Ψ : D → Prop) : Prop := ∃ x : Str, ds = [.str x] ∧ x.length ≤ 100000 ∧ (Txt.split x "\n").length ≤ 1000 ∧ (∀ y ∈ Txt.split x "\n", y.length ≤ 100000) ∧ Ψ (.lst ((cntL 0 (Txt.split x "\n")).map cntD))
theorem m_cnt : MonoF S_cnt := fun ds Φ Φ' g ⟨x, h1, h2, h3, h4, h5⟩ => ⟨x, h1, h2, h3, h4, g _ h5⟩
section
variable {P : Program} {w : World} {K : PySem.W.Frag} {mg : Str → Option Value} {base : Heap} {f : Addr} {fd : FuncData} {tp tv : Tok}
abbrev Ncl : List Str := ["text", "rows", "at", "line", "bare"]
theorem c_cnt (F : FunN K "counted_lines" s_counted_lines f fd) (hm : mg "counted_lines" = some (.ref f)) (b : Blt mg) : KF P w K mg base "counted_lines" 1 1 S_cnt := ⟨by
  have nd : Ncl.Nodup := by decide +kernel
  refine cal_fn F hm (N := Ncl) (ps := ["text"]) ⟨rfl, rfl, rfl, nd, rfl, by decide +kernel, by decide +kernel⟩ rfl (fun _ _ _ _ _ _ us hl => match us, hl with | [_], _ => rfl) ?_
  rintro cdv A outer s H E hr ds Ψ hl ⟨x, rfl, xl, sl, yl, hd⟩
  have sz : x.length + 2 ≤ sizeLine := by rw [sizeLine_eq]; omega
  let ys := Txt.split x "\n"
  refine sc_own 1 (fc_lst (ac_nil ⟨Nat.zero_le _, ?_⟩)) nd
  intro p1
  let St : Nat → Option D → Option D → Option D → En := fun i x2 x3 x4 => [some (.im (.str x)), some (.ow p1 (.l ((cntL 0 (ys.take i)).map cntD))), x2.map .im, x3.map .im, x4.map .im]
  refine sc_for (js := [2, 3]) (ic_enum b.enum (ec_split (ec_var 0 rfl ⟨x, rfl, ec_str ⟨_, rfl, by decide +kernel, sz, _, rfl, ?_⟩⟩))) (passes_of rfl)
  refine ⟨fun i ρ' => ∃ x2 x3 x4, ρ' = St i x2 x3 x4, ⟨none, none, none, rfl⟩, ?_, ?_⟩
  · rintro i d ρi hi ⟨x2, x3, x4, rfl⟩
    rw [enumD_get] at hi
    unfold strsD at hi
    rw [List.getElem?_map] at hi
    obtain ⟨d0, h0, rfl⟩ := Option.map_eq_some_iff.mp hi
    obtain ⟨y, hy, rfl⟩ := Option.map_eq_some_iff.mp h0
    have hyl := yl y (List.mem_of_getElem? hy)
    have sy : y.length ≤ sizeLine := by rw [sizeLine_eq]; omega
    have il : i < ys.length := (List.getElem?_eq_some_iff.mp hy).1
    have et : ys.take (i + 1) = ys.take i ++ [y] := by rw [List.take_add_one, show ys[i]? = some y from hy]; rfl
    have tl : (ys.take i).length = i := by rw [List.length_take]; omega
    have ec : cntL 0 (ys.take (i + 1)) = cntL 0 (ys.take i) ++ (if bareB y then [(i + 1, y)] else []) := by rw [et, cntL_snoc, tl, Nat.zero_add]
    refine gt_tup ⟨rfl, ⟨_, rfl⟩, rfl⟩ (gts_cons (gt_name 2 (gts_cons (gt_name 3 (gts_nil ?_) nd)) nd))
    refine sc_set 4 (ec_stripC (ec_var 3 rfl ⟨y, rfl, ec_str ⟨_, rfl, sy, ?_⟩⟩)) nd
    refine sc_if (tc_w (wc_and (tc_neS (ec_var 4 rfl (ec_str ⟨_, rfl, ?_⟩)))))
    have no : bareB y = false → ∃ x2 x3 x4, St i (some (.int (i : Int))) (some (.str y)) (some (.str (Txt.stripChars y " "))) = St (i + 1) x2 x3 x4 := fun e => by
      rw [e] at ec
      have ec2 : cntL 0 (ys.take (i + 1)) = cntL 0 (ys.take i) := by rw [ec]; exact List.append_nil _
      refine ⟨some (.int (i : Int)), some (.str y), some (.str (Txt.stripChars y " ")), ?_⟩
      show _ = [_, some (Sl.ow p1 (.l ((cntL 0 (ys.take (i + 1))).map cntD))), _, _, _]
      rw [ec2]
    by_cases h1 : Txt.stripChars y " " = ""
    · rw [decide_eq_true h1]
      exact ⟨(fun z => nomatch z), fun _ => ⟨(fun z => nomatch z), fun _ => sc_nil (sc_nil (no (by unfold bareB; rw [decide_eq_true h1]; rfl)))⟩⟩
    · rw [decide_eq_false h1]
      refine ⟨fun _ => wc_and1 (tc_not (tc_val (ec_starts (ec_var 4 rfl ⟨_, rfl, ec_str ⟨_, rfl, _, rfl, ?_⟩⟩)))), (fun z => nomatch z)⟩
      cases h2 : Txt.startswith (Txt.stripChars y " ") "#" with
      | true => exact ⟨(fun z => nomatch z), fun _ => sc_nil (sc_nil (no (by unfold bareB; rw [h2]; simp)))⟩
      | false =>
        refine ⟨fun _ => ?_, (fun z => nomatch z)⟩
        show SC _ _ _ _ _
        have yes : bareB y = true := by unfold bareB; rw [h2, decide_eq_false h1]; rfl
        refine sc_app 1 rfl (ec_tup (ac_cons (ec_add (ec_var 2 rfl (ec_int ⟨_, _, rfl, rfl, ac_cons (ec_var 3 rfl (ac_nil ⟨by show 2 ≤ 100000; omega, _, rfl, ?_, sc_nil (sc_nil ⟨some (.int (i : Int)), some (.str y), some (.str (Txt.stripChars y " ")), ?_⟩)⟩))⟩)))))
        · have := cntL_len (ys.take i) 0
          rw [List.length_map]
          rw [tl] at this
          have il2 : ys.length ≤ 1000 := sl
          omega
        · rw [yes, if_pos rfl] at ec
          show _ = [_, some (Sl.ow p1 (.l ((cntL 0 (ys.take (i + 1))).map cntD))), _, _, _]
          rw [ec, List.map_append]
          rfl
  · rintro ρ2 ⟨x2, x3, x4, rfl⟩
    have e : (enumD (strsD (Txt.split x "\n"))).length = ys.length := by unfold enumD; rw [enumF_len]; unfold strsD; rw [List.length_map]
    rw [e]
    refine sc_ret (ec_frz 1 rfl ?_)
    rw [List.take_length]
    exact hd
  , m_cnt⟩
end
end T34
namespace T34
open PySem PySem.Spec PyProof.Rows L2 Evl AL
/-! ### value_in, plain_in -/
structure OkS where
  s : Str
  ok : PyData.strOk s = true
theorem OkS.ext' {a b : OkS} (h : a.s = b.s) : a = b := by
  cases a; cases b
  cases h
  rfl
instance : DecidableEq OkS := fun a b => if h : a.s = b.s then .isTrue (OkS.ext' h) else .isFalse fun e => h (congrArg OkS.s e)
def kTick : OkS := ⟨"tick", by decide +kernel⟩
def kFall : OkS := ⟨"fall", by decide +kernel⟩
def kWake : OkS := ⟨"wake", by decide +kernel⟩
theorem in_three {a : OkS} {I : Decidable (a ∈ [kTick, kFall, kWake])} : @decide _ I = true ↔ (a.s = "tick" ∨ a.s = "fall" ∨ a.s = "wake") := by
  rw [decide_eq_true_iff]
  simp only [List.mem_cons, List.not_mem_nil, or_false]
  exact ⟨fun z => z.imp (congrArg OkS.s) fun z => z.imp (congrArg OkS.s) (congrArg OkS.s), fun z => z.imp (fun e => OkS.ext' e) fun z => z.imp (fun e => OkS.ext' e) fun e => OkS.ext' e⟩
def sD (a : OkS) : D := .str a.s
def YS : PyT sD 1 where
  f a := .str a.s
  py a := by unfold sD; rw [pyD]
  lay a := by rw [PyData.canLay0]; exact a.ok
  dep a := by rw [PyData.depth]; omega
  eq a b := by
    rw [PyData.eqv]
    by_cases h : a = b
    · subst h; simp
    · rw [decide_eq_false h]
      have : a.s ≠ b.s := fun e => h (OkS.ext' e)
      simp [this]
def YO : PyT oI 1 where
  f a := match a with
    | none => .none
    | some n => .int n
  py a := by cases a <;> simp [oI, pyD]
  lay a := by cases a <;> simp [PyData.canLay0]
  dep a := by cases a <;> simp [PyData.depth]
  eq a b := by
    cases a <;> cases b <;> simp [PyData.eqv]
    rename_i x y
    by_cases h : x = y <;> simp [h]
def Wd (x : Str) : Prop := x.length ≤ 10000 ∧ PyData.strOk x = true
def tailS (x : Str) : Str := ⟨((TL.tl x).drop 1).toArray⟩
theorem tailS_len (x : Str) : (tailS x).length ≤ x.length := by
  rw [TL.len_tl x, TL.len_tl (tailS x)]
  show ((TL.tl x).drop 1).length ≤ _
  rw [List.length_drop]; omega
def valIn (x : Str) : Option Int := if Txt.startswith x "-" = false then numIn x else match numIn (tailS x) with
  | none => none
  | some n => if n = 0 then none else some (-n)
def S_val (ds : List D) (Ψ : D → Prop) : Prop := ∃ x : Str, ds = [.str x] ∧ x.length ≤ 10000 ∧ Ψ (oI (valIn x))
theorem m_val : MonoF S_val := fun ds Φ Φ' g ⟨x, h1, h2, h3⟩ => ⟨x, h1, h2, g _ h3⟩
section
variable {P : Program} {w : World} {K : PySem.W.Frag} {mg : Str → Option Value} {base : Heap} {f : Addr} {fd : FuncData} {tp tv : Tok}
theorem c_val (F : FunN K "value_in" s_value_in f fd) (hm : mg "value_in" = some (.ref f)) (c1 : KF P w K mg base "number_in" 1 1 S_num) : KF P w K mg base "value_in" 2 1 S_val := ⟨by
  have nd : (["word", "number"] : List Str).Nodup := by decide +kernel
  refine cal_fn F hm (N := ["word", "number"]) (ps := ["word"]) ⟨rfl, rfl, rfl, nd, rfl, by decide +kernel, by decide +kernel⟩ rfl (fun _ _ _ _ _ _ us hl => match us, hl with | [_], _ => rfl) ?_
  rintro cdv A outer s H E hr ds Ψ hl ⟨x, rfl, xl, hd⟩
  have sz : x.length ≤ sizeLine := by rw [sizeLine_eq]; omega
  have tl := tailS_len x
  unfold valIn at hd
  refine sc_if (tc_not (tc_val (ec_starts (ec_var 0 rfl ⟨x, rfl, ec_str ⟨_, rfl, _, rfl, ?_⟩⟩))))
  cases e : Txt.startswith x "-" with
  | false =>
    rw [if_pos e] at hd
    exact ⟨fun _ => sc_ret (ec_cf c1.c hr (pass_0 passL) c1.m (ac_cons (ec_var 0 rfl (ac_nil ⟨rfl, x, rfl, by omega, hd⟩)))), (fun z => nomatch z)⟩
  | true =>
    rw [if_neg (by rw [e]; decide)] at hd
    refine ⟨(fun z => nomatch z), fun _ => sc_nil ?_⟩
    show SC _ _ _ _ _
    refine sc_set 1 (ec_cf c1.c hr (pass_0 passL) c1.m (ac_cons (ec_slSo (ec_var 0 rfl (ec_int ⟨x, 1, rfl, rfl, sz, ac_nil ⟨rfl, tailS x, rfl, by omega, ?_⟩⟩))))) nd
    refine sc_ret (ec_if (tc_w (wc_or (tc_isN (ec_var 1 rfl ?_)))))
    cases en : numIn (tailS x) with
    | none =>
      rw [en] at hd
      exact ⟨(fun z => nomatch z), fun _ => ⟨fun _ => ec_non hd, (fun z => nomatch z)⟩⟩
    | some n =>
      rw [en] at hd
      refine ⟨fun _ => wc_or1 (tc_eqS (ec_var 1 rfl (ec_int ⟨decide (n = 0), rfl, ?_⟩))), (fun z => nomatch z)⟩
      by_cases h0 : n = 0
      · rw [decide_eq_true h0]
        replace hd : Ψ (oI (if n = 0 then none else some (-n))) := hd
        rw [if_pos h0] at hd
        exact ⟨fun _ => ec_non hd, (fun z => nomatch z)⟩
      · rw [decide_eq_false h0]
        replace hd : Ψ (oI (if n = 0 then none else some (-n))) := hd
        rw [if_neg h0] at hd
        exact ⟨(fun z => nomatch z), fun _ => ec_neg (ec_var 1 rfl ⟨n, rfl, hd⟩)⟩
  , m_val⟩
end
/-! ### plain_in -/
def w0 (ws : List Str) : Str := ws.getD 0 ""
def nsOf (ws : List Str) : List (Option Int) := (ws.drop 1).map numIn
def nAt (ws : List Str) (i : Nat) : Option Int := (nsOf ws).getD i none
def plnD (ws : List Str) : D := if none ∈ nsOf ws then .non else if (w0 ws = "tick" ∨ w0 ws = "fall" ∨ w0 ws = "wake") ∧ (nsOf ws).length = 1 then .tup [.str (w0 ws), oI (nAt ws 0)] else
  if w0 ws = "hush" ∧ (nsOf ws).length = 2 ∧ nAt ws 0 ≠ nAt ws 1 then .tup [.str "hush", oI (nAt ws 0), oI (nAt ws 1)] else .non
structure WsOk (ws : List Str) : Prop where
  ne : ws ≠ []
  len : ws.length ≤ 1000
  wd : ∀ x ∈ ws, Wd x
theorem w0_at {ws : List Str} (h : ws ≠ []) : atI (strsD ws) 0 = some (.str (w0 ws)) ∧ w0 ws ∈ ws := by
  cases ws with
  | nil => exact absurd rfl h
  | cons x ws => exact ⟨atI_nat (j := 0) rfl, List.mem_cons_self⟩
theorem n_at {ws : List Str} {i : Nat} (h : i < (nsOf ws).length) : atI ((nsOf ws).map oI) (i : Int) = some (oI (nAt ws i)) := by
  refine atI_nat ?_
  unfold nAt
  rw [List.getElem?_map, List.getD_eq_getElem?_getD, List.getElem?_eq_getElem h]
  rfl
def S_pln (ds : List D) (Ψ : D → Prop) : Prop := ∃ ws : List Str, ds = [.lst (strsD ws)] ∧ WsOk ws ∧ Ψ (plnD ws)
theorem m_pln : MonoF S_pln := fun ds Φ Φ' g ⟨x, h1, h2, h3⟩ => ⟨x, h1, h2, g _ h3⟩
section
variable {P : Program} {w : World} {K : PySem.W.Frag} {mg : Str → Option Value} {base : Heap} {f : Addr} {fd : FuncData} {tp tv : Tok}
theorem c_pln (F : FunN K "plain_in" s_plain_in f fd) (hm : mg "plain_in" = some (.ref f)) (b : Blt mg) (c1 : KF P w K mg base "number_in" 1 1 S_num) : KF P w K mg base "plain_in" 2 1 S_pln := ⟨by
  have nd : (["words", "numbers", "word"] : List Str).Nodup := by decide +kernel
  refine cal_fn F hm (N := ["words", "numbers", "word"]) (ps := ["words"]) ⟨rfl, rfl, rfl, nd, rfl, by decide +kernel, by decide +kernel⟩ rfl (fun _ _ _ _ _ _ us hl => match us, hl with | [_], _ => rfl) ?_
  rintro cdv A outer s H E hr ds Ψ hl ⟨ws, rfl, ok, hd⟩
  obtain ⟨a0, m0⟩ := w0_at ok.ne
  obtain ⟨wl, wo⟩ := ok.wd _ m0
  have nl : (nsOf ws).length ≤ 1000 := by unfold nsOf; rw [List.length_map, List.length_drop]; have := ok.len; omega
  refine sc_M 1 (ws.drop 1) D.str (fun y => oI (numIn y)) [("word", 2)] [2] (ic_list (ec_slLo (ec_var 0 rfl (ec_int ⟨strsD ws, 1, rfl, rfl, _, rfl, ?_, ?_, rfl, fun y hy => ?_, fun p1 => ?_⟩)))) nd (by decide)
  · unfold strsD; rw [List.map_drop]
  · rw [List.length_drop]; have := ok.len; omega
  · have yo := ok.wd y (List.mem_of_mem_drop hy)
    intro s3 H3 C3 cl3 fp3
    refine gt_name 2 ?_ nd
    intro s4 H4 C4 cl4 fp4
    exact ec_cf c1.c (hr.mono (by omega)) (pass_0 passL) c1.m (ac_cons (ec_var 2 rfl (ac_nil ⟨rfl, y, rfl, by have := yo.1; omega, rfl, rfl⟩)))
  refine sc_frz 1 rfl ?_
  have en : (ws.drop 1).map (fun y => oI (numIn y)) = (nsOf ws).map oI := by unfold nsOf; rw [List.map_map]; rfl
  rw [en]
  show SC _ _ _ [some (.im (.lst (strsD ws))), some (.im (.lst ((nsOf ws).map oI))), none] _
  refine sc_if (tc_inY YO (u65 hr) (ec_non (ec_var 1 rfl ⟨none, nsOf ws, rfl, rfl, ?_⟩)))
  unfold plnD at hd
  refine ⟨fun z => ?_, fun z => sc_nil ?_⟩
  · have h0 : none ∈ nsOf ws := by simpa using z
    rw [if_pos h0] at hd
    exact sc_ret (ec_non hd)
  have h0 : ¬ none ∈ nsOf ws := by simpa using z
  rw [if_neg h0] at hd
  show SC _ _ _ _ _
  refine sc_if (tc_w (wc_and (tc_inYT YS (u65 hr) (ec_ix (ec_var 0 rfl (ec_int ⟨_, 0, .str (w0 ws), rfl, rfl, a0, ?_⟩))))))
  refine ec_tup (ac_cons (ec_str (ac_cons (ec_str (ac_cons (ec_str (ac_nil ⟨by show 3 ≤ 100000; omega, ⟨w0 ws, wo⟩, [kTick, kFall, kWake], rfl, rfl, ?_⟩)))))))
  have hush : ((w0 ws = "tick" ∨ w0 ws = "fall" ∨ w0 ws = "wake") ∧ (nsOf ws).length = 1 → False) → SC (bodyX P w K mg base ["words", "numbers", "word"] "plain_in" (defScope s_plain_in) f cdv A outer s H E) Z0 ((defBody s_plain_in).drop 3) [some (.im (.lst (strsD ws))), some (.im (.lst ((nsOf ws).map oI))), none] (OutP Ψ) := fun h1 => by
    rw [if_neg h1] at hd
    refine sc_if (tc_w (wc_and (tc_eqS (ec_ix (ec_var 0 rfl (ec_int ⟨_, 0, .str (w0 ws), rfl, rfl, a0, ec_str ⟨decide (w0 ws = "hush"), rfl, ?_⟩⟩))))))
    by_cases h2 : w0 ws = "hush"
    rotate_left
    · rw [if_neg fun z => h2 z.1] at hd
      rw [decide_eq_false h2]
      exact ⟨(fun z => nomatch z), fun _ => ⟨(fun z => nomatch z), fun _ => sc_nil (sc_ret (ec_non hd))⟩⟩
    rw [decide_eq_true h2]
    refine ⟨fun _ => wc_and (tc_eqS (ec_len (ac_cons (ec_var 1 rfl (ac_nil ⟨_, _, rfl, rfl, ec_int ⟨decide ((nsOf ws).length = 2), ?_, ?_⟩⟩))) b.len)), (fun z => nomatch z)⟩
    · rw [List.length_map]
      show some (decide (((nsOf ws).length : Int) = 2)) = _
      congr 1
      exact decide_eq_decide.mpr (by omega)
    by_cases h3 : (nsOf ws).length = 2
    rotate_left
    · rw [if_neg fun z => h3 z.2.1] at hd
      rw [decide_eq_false h3]
      exact ⟨(fun z => nomatch z), fun _ => ⟨(fun z => nomatch z), fun _ => sc_nil (sc_ret (ec_non hd))⟩⟩
    rw [decide_eq_true h3]
    have n0 := n_at (ws := ws) (i := 0) (by omega)
    have n1 := n_at (ws := ws) (i := 1) (by omega)
    refine ⟨fun _ => wc_and1 (tc_neY YO (u64 hr) (ec_ix (ec_var 1 rfl (ec_int ⟨_, 0, oI (nAt ws 0), rfl, rfl, n0, ec_ix (ec_var 1 rfl (ec_int ⟨_, 1, oI (nAt ws 1), rfl, rfl, n1, nAt ws 0, nAt ws 1, rfl, rfl, ?_⟩))⟩)))), (fun z => nomatch z)⟩
    by_cases h4 : nAt ws 0 = nAt ws 1
    · rw [if_neg fun z => z.2.2 h4] at hd
      refine ⟨fun z => by simp [h4] at z, fun _ => sc_nil (sc_ret (ec_non hd))⟩
    · rw [if_pos ⟨h2, h3, h4⟩] at hd
      refine ⟨fun _ => ?_, fun z => by simp [h4] at z⟩
      refine sc_ret ?_
      refine ec_tup (ac_cons (ec_str (ac_cons (ec_ix (ec_var 1 rfl (ec_int ⟨_, 0, oI (nAt ws 0), rfl, rfl, n0, ?_⟩))))))
      exact ac_cons (ec_ix (ec_var 1 rfl (ec_int ⟨_, 1, oI (nAt ws 1), rfl, rfl, n1, ac_nil ⟨by show 3 ≤ 100000; omega, hd⟩⟩)))
  refine ⟨fun z => wc_and1 (tc_eqS (ec_len (ac_cons (ec_var 1 rfl (ac_nil ⟨_, _, rfl, rfl, ec_int ⟨decide ((nsOf ws).length = 1), ?_, ?_⟩⟩))) b.len)), fun z => ⟨(fun z => nomatch z), fun _ => sc_nil (hush fun g => by rw [in_three.mpr g.1] at z; cases z)⟩⟩
  · rw [List.length_map]
    show some (decide (((nsOf ws).length : Int) = 1)) = _
    congr 1
    exact decide_eq_decide.mpr (by omega)
  have h1 := in_three.mp z
  by_cases h2 : (nsOf ws).length = 1
  · rw [if_pos ⟨h1, h2⟩] at hd
    have n0 := n_at (ws := ws) (i := 0) (by omega)
    rw [decide_eq_true h2]
    refine ⟨fun _ => ?_, (fun z => nomatch z)⟩
    refine sc_ret ?_
    refine ec_tup (ac_cons (ec_ix (ec_var 0 rfl (ec_int ⟨_, 0, .str (w0 ws), rfl, rfl, a0, ?_⟩))))
    exact ac_cons (ec_ix (ec_var 1 rfl (ec_int ⟨_, 0, oI (nAt ws 0), rfl, rfl, n0, ac_nil ⟨by show 2 ≤ 100000; omega, hd⟩⟩)))
  · rw [decide_eq_false h2]
    exact ⟨(fun z => nomatch z), fun _ => sc_nil (hush fun g => h2 g.2)⟩
  , m_pln⟩
end
end T34
namespace AL
open PySem PySem.Spec PyProof.Rows L2 Evl
/-! ### a dict of the module with text keys -/
section
variable {X : Cx} {Z : Zx} {a b : Expr} {ρ : En} {Φ : D → En → Prop} {Ψ : Bool → En → Prop} {p pos : Pos} {x : Str} {d : Addr} {es : Array DictEntry} {n : Nat}
theorem ix_kd (Dk : KDict X.K X.w d es n) : IxR X (fun x y H Q => ∃ (z : Str) (u0 : Value) (v0 : V), x = .ref d ∧ y = .str z ∧ PySem.W.nsIn X.K d z = some (some u0) ∧ RelV v0 u0 ∧ Q v0 H) := by
  intro value slice pins s σ H x y v u Q I rx ry h hs
  have hT : s.TypeIs v "dict" := by
    obtain ⟨z, u0, v0, rfl, _⟩ := h
    cases rx
    exact kd_type Dk I
  exact tail_any hT PySem.slot_dict_getitem.lookup (op_item_kd Dk pins s σ H x y v u Q I rx ry h) hs
/-- a not in x, x a dict of the module -/
theorem tc_kdni (Dk : KDict X.K X.w d es n) (hm : X.mg x = some (.ref d)) (h : EC X Z a ρ fun v ρ1 => ∃ (z : Str) (r : Option Value), v = .str z ∧ PySem.W.nsIn X.K d z = some r ∧ Ψ (!r.isSome) ρ1) (hg : Gl X x := by rfl) (hdb : (x == ("__debug__" : Str)) = false := by decide)
    (hk : behindInMarks .NotIn (.Name x p) = false := by rfl) : TC X Z (.Compare a [.NotIn] [.Name x p] pos) ρ Ψ := fun B G H σ o z Q q =>
  (pt_cmpR (op_notIn_kd Dk) p_wE (pe_glob (v := V.ref d) hg hm rfl hdb) hk).w (h B G H σ o z _ fun v ρ1 y B1 H1 ⟨t, r, hv, hn, hq⟩ e1 o1 r1 => by
    subst hv
    cases r1
    exact ⟨t, r, rfl, rfl, hn, _, rfl, q _ ρ1 B1 H1 hq e1 o1⟩)
/-- x[b], x a dict of the module; v0: what stands there -/
theorem ec_kdix (Dk : KDict X.K X.w d es n) (hm : X.mg x = some (.ref d)) (h : EC X Z b ρ fun v ρ1 => ∃ (z : Str) (u0 : Value) (v0 : V) (r : D), v = .str z ∧ PySem.W.nsIn X.K d z = some (some u0) ∧ RelV v0 u0 ∧ (∀ B : Hp, Rep X.K B v0 r) ∧ Φ r ρ1) (hg : Gl X x := by rfl) (hdb : (x == ("__debug__" : Str)) = false := by decide)
    (hs : PlainIx b := by exact fun _ _ => rfl) : EC X Z (.Subscript (.Name x p) b pos) ρ Φ := fun B G H σ o z Q q =>
  (pe_ix (ix_kd Dk) (pe_glob (v := V.ref d) hg hm rfl hdb) p_wE hs).w (h B G H σ o z _ fun v ρ1 y B1 H1 ⟨t, u0, v0, r, hv, hn, hr, hp, hq⟩ e1 o1 r1 => by
    subst hv
    cases r1
    exact ⟨t, u0, v0, rfl, rfl, hn, hr, q _ ρ1 _ B1 H1 hq e1 o1 (hp B1)⟩)
end
end AL
namespace T34
open PySem PySem.Spec PyProof.Rows L2 Evl AL
/-! ### hand_in -/
def hnD (a b c d : Str) : D := if none ∈ [numIn a, numIn b, numIn d] ∨ c ≠ "to" ∨ numIn b = some 0 ∨ numIn a = numIn d then .non else .tup [.str "hand", oI (numIn a), oI (numIn b), oI (numIn d)]
def S_hand (ds : List D) (Ψ : D → Prop) : Prop := ∃ a b c d : Str, ds = [.lst (strsD [a, b, c, d])] ∧ Wd a ∧ Wd b ∧ Wd c ∧ Wd d ∧ Ψ (hnD a b c d)
theorem m_hand : MonoF S_hand := fun ds Φ Φ' g ⟨a, b, c, d, h1, h2, h3, h4, h5, h6⟩ => ⟨a, b, c, d, h1, h2, h3, h4, h5, g _ h6⟩
section
variable {P : Program} {w : World} {K : PySem.W.Frag} {mg : Str → Option Value} {base : Heap} {f : Addr} {fd : FuncData} {tp tv : Tok}
theorem c_hand (F : FunN K "hand_in" s_hand_in f fd) (hm : mg "hand_in" = some (.ref f)) (c1 : KF P w K mg base "number_in" 1 1 S_num) : KF P w K mg base "hand_in" 2 1 S_hand := ⟨by
  have nd : (["words", "numbers"] : List Str).Nodup := by decide +kernel
  refine cal_fn F hm (N := ["words", "numbers"]) (ps := ["words"]) ⟨rfl, rfl, rfl, nd, rfl, by decide +kernel, by decide +kernel⟩ rfl (fun _ _ _ _ _ _ us hl => match us, hl with | [_], _ => rfl) ?_
  rintro cdv A outer s H E hr ds Ψ hl ⟨a, b, c, d, rfl, wa, wb, wc, wd, hd⟩
  refine sc_set 1 (ec_lst (ac_cons (ec_cf c1.c (hr.mono (by omega)) (pass_0 passL) c1.m (ac_cons (ec_ix (ec_var 0 rfl (ec_int ⟨_, 0, .str a, rfl, rfl, rfl, ac_nil ⟨rfl, a, rfl, by have := wa.1; omega, ?_⟩⟩))))))) nd
  refine ac_cons (ec_cf c1.c (hr.mono (by omega)) (pass_0 passL) c1.m (ac_cons (ec_ix (ec_var 0 rfl (ec_int ⟨_, 1, .str b, rfl, rfl, rfl, ac_nil ⟨rfl, b, rfl, by have := wb.1; omega, ?_⟩⟩)))))
  refine ac_cons (ec_cf c1.c (hr.mono (by omega)) (pass_0 passL) c1.m (ac_cons (ec_ix (ec_var 0 rfl (ec_int ⟨_, 3, .str d, rfl, rfl, rfl, ac_nil ⟨rfl, d, rfl, by have := wd.1; omega, ?_⟩⟩)))))
  refine ac_nil ⟨by show 3 ≤ 100000; omega, ?_⟩
  let ns : List (Option Int) := [numIn a, numIn b, numIn d]
  show SC _ _ _ [some (.im (.lst (strsD [a, b, c, d]))), some (.im (.lst (ns.map oI)))] _
  unfold hnD at hd
  refine sc_if (tc_w (wc_or (tc_inY YO (u65 hr) (ec_non (ec_var 1 rfl ⟨none, ns, rfl, rfl, ?_⟩)))))
  refine ⟨fun z => ?_, fun z => ?_⟩
  rotate_left
  · have h0 : none ∈ ns := by simpa using z
    rw [if_pos (.inl h0)] at hd
    exact ⟨fun _ => sc_ret (ec_non hd), (fun z => nomatch z)⟩
  have h0 : ¬ none ∈ ns := by simpa using z
  refine wc_or (tc_neS (ec_ix (ec_var 0 rfl (ec_int ⟨_, 2, .str c, rfl, rfl, rfl, ec_str ⟨decide (c = "to"), rfl, ?_⟩⟩))))
  by_cases h1 : c = "to"
  rotate_left
  · rw [if_pos (.inr (.inl h1))] at hd
    rw [decide_eq_false h1]
    exact ⟨(fun z => nomatch z), fun _ => ⟨fun _ => sc_ret (ec_non hd), (fun z => nomatch z)⟩⟩
  rw [decide_eq_true h1]
  refine ⟨fun _ => ?_, (fun z => nomatch z)⟩
  obtain ⟨y, hy⟩ : ∃ y, numIn b = some y := by
    cases e : numIn b with
    | none => exact absurd (show none ∈ ns by show none ∈ [numIn a, numIn b, numIn d]; rw [e]; simp) h0
    | some y => exact ⟨y, rfl⟩
  refine wc_or (tc_eqS (ec_ix (ec_var 1 rfl (ec_int ⟨_, 1, .int y, rfl, rfl, by show some (oI (numIn b)) = _; rw [hy]; rfl, ec_int ⟨decide (y = 0), rfl, ?_⟩⟩))))
  by_cases h2 : y = 0
  · rw [if_pos (.inr (.inr (.inl (by rw [hy, h2])))) ] at hd
    rw [decide_eq_true h2]
    exact ⟨(fun z => nomatch z), fun _ => ⟨fun _ => sc_ret (ec_non hd), (fun z => nomatch z)⟩⟩
  rw [decide_eq_false h2]
  refine ⟨fun _ => ?_, (fun z => nomatch z)⟩
  refine wc_or1 (tc_eqY YO (u64 hr) (ec_ix (ec_var 1 rfl (ec_int ⟨_, 0, oI (numIn a), rfl, rfl, rfl, ec_ix (ec_var 1 rfl (ec_int ⟨_, 2, oI (numIn d), rfl, rfl, rfl, numIn a, numIn d, rfl, rfl, ?_⟩))⟩))))
  by_cases h3 : numIn a = numIn d
  · rw [if_pos (.inr (.inr (.inr h3)))] at hd
    exact ⟨fun _ => sc_ret (ec_non hd), fun z => by simp [h3] at z⟩
  · rw [if_neg (fun z => z.elim h0 fun z => z.elim (fun z => z h1) fun z => z.elim (fun z => h2 (Option.some.inj (hy.symm.trans z))) h3)] at hd
    refine ⟨fun z => by simp [h3] at z, fun _ => sc_nil ?_⟩
    show SC _ _ _ _ _
    refine sc_ret ?_
    refine ec_tup (ac_cons (ec_str (ac_cons (ec_ix (ec_var 1 rfl (ec_int ⟨_, 0, oI (numIn a), rfl, rfl, rfl, ?_⟩))))))
    refine ac_cons (ec_ix (ec_var 1 rfl (ec_int ⟨_, 1, oI (numIn b), rfl, rfl, rfl, ?_⟩)))
    exact ac_cons (ec_ix (ec_var 1 rfl (ec_int ⟨_, 2, oI (numIn d), rfl, rfl, rfl, ac_nil ⟨by show 4 ≤ 100000; omega, hd⟩⟩)))
  , m_hand⟩
end
end T34
namespace AL
open PySem PySem.Spec PyProof.Rows L2 Evl
/-! ### f-strings -/
def JC (X : Cx) (Z : Zx) : List Expr → En → Str → (Str → En → Prop) → Prop
  | [], ρ, acc, Φ => Φ acc ρ
  | e :: es, ρ, acc, Φ => EC X Z e ρ fun d ρ1 => ∃ y : Str, d = .str y ∧ (acc ++ y).length ≤ sizeLine ∧ JC X Z es ρ1 (acc ++ y) Φ
section
variable {X : Cx} {Z : Zx} {e v1 v2 : Expr} {rest : List Expr} {ρ : En} {Φ : D → En → Prop} {pos : Pos}
theorem pj_all : ∀ es : List Expr, PJ X es (es.map (wE X))
  | [] => .nil
  | e :: es => .cons p_wE (pj_all es)
theorem jc_run {Φ : Str → En → Prop} : ∀ {es : List Expr} {ρ : En} {acc : Str} {B G H : Hp} {σ : L2.St} {Q : Str → Hp → Prop}, JC X Z es ρ acc Φ → Ok X.K B G H σ ρ → AL.RC X.K Z B G → (∀ out ρ' B' H', Φ out ρ' → Ex B B' → Ok X.K B' G H' σ ρ' → Q out H') → tJs (es.map (wE X)) acc σ H Q
  | [], ρ, acc, B, G, H, σ, Q, h, o, z, q => q acc ρ B H h (Ex.refl B) o
  | e :: es, ρ, acc, B, G, H, σ, Q, h, o, z, q => h B G H σ o z _ fun d ρ1 v B1 H1 ⟨y, hd, hl, hk⟩ e1 o1 r1 => by
    subst hd
    cases r1
    exact ⟨y, rfl, hl, jc_run hk o1 (z.up e1) fun out ρ' B' H' hp e2 o2 => q out ρ' B' H' hp (e1.trans e2) o2⟩
/-- f'..' of two parts or more -/
theorem ec_joined (h : JC X Z (v1 :: v2 :: rest) ρ Str.empty fun out ρ1 => Φ (.str out) ρ1) : EC X Z (.JoinedStr (v1 :: v2 :: rest) pos) ρ Φ := fun B G H σ o z Q q =>
  (pe_joined (pj_all (v1 :: v2 :: rest))).w (jc_run h o z fun out ρ' B' H' hp e1 o1 => q _ ρ' _ B' H' hp e1 o1 (.str out))
/-- {e}, an int -/
theorem ec_fmtI (h : EC X Z e ρ fun d ρ1 => ∃ i : Int, d = .int i ∧ i.natAbs.log2 < 1920 ∧ Φ (.str (toString i : String)) ρ1) : EC X Z (.FormattedValue e (-1) none pos) ρ Φ := fun B G H σ o z Q q =>
  (pe_fmt p_wE).w (h B G H σ o z _ fun d ρ1 v B1 H1 ⟨i, hd, hl, hk⟩ e1 o1 r1 => by
    subst hd
    cases r1
    exact .inr ⟨i, rfl, hl, q _ ρ1 _ B1 H1 hk e1 o1 (.str _)⟩)
end
end AL
namespace T34
open PySem PySem.Spec PyProof.Rows L2 Evl AL
/-! ### events and their texts -/
/-- a member of an event's row -/
inductive Vv
  | s (x : Str) | i (n : Int)
def vD : Vv → D
  | .s x => .str x | .i n => .int n
def vT : Vv → Str
  | .s x => x | .i n => (toString n : String)
inductive Dd
  | put (p : Nat) (v : Int) | get (p : Nat) | look | tour (v : Int) | propose (v : Int) | move (p : Nat) | addif (p : Nat) (v u : Int)
inductive Ev
  | tick (h : Nat) | fall (h : Nat) | wake (h : Nat) | hush (a c : Nat) | hand (a n c : Nat) | begin (h : Nat) (d : Dd)
def ddV : Dd → List Vv
  | .put p v => [.s "put", .i p, .i v] | .get p => [.s "get", .i p] | .look => [.s "look"] | .tour v => [.s "tour", .i v] | .propose v => [.s "propose", .i v] | .move p => [.s "move", .i p] | .addif p v u => [.s "add_if", .i p, .i v, .i u]
def ddD (d : Dd) : D := .tup ((ddV d).map vD)
def evD : Ev → D
  | .tick h => .tup [.str "tick", .int h] | .fall h => .tup [.str "fall", .int h] | .wake h => .tup [.str "wake", .int h] | .hush a c => .tup [.str "hush", .int a, .int c] | .hand a n c => .tup [.str "hand", .int a, .int n, .int c] | .begin h d => .tup [.str "begin", .int h, ddD d]
def numT (n : Int) : Str := (toString n : String)
/-- the words of an event -/
def evW : Ev → List Str
  | .tick h => ["tick", numT h] | .fall h => ["fall", numT h] | .wake h => ["wake", numT h] | .hush a c => ["hush", numT a, numT c] | .hand a n c => ["hand", numT a, numT n, "to", numT c] | .begin h d => "begin" :: numT h :: (ddV d).map vT
def NB (n : Int) : Prop := n.natAbs < 10 ^ 30
def DdOk : Dd → Prop
  | .put p v => NB p ∧ NB v | .get p => NB p | .look => True | .tour v => NB v | .propose v => NB v | .move p => NB p | .addif p v u => NB p ∧ NB v ∧ NB u
def EvOk : Ev → Prop
  | .tick h => NB h | .fall h => NB h | .wake h => NB h | .hush a c => NB a ∧ NB c ∧ a ≠ c | .hand a n c => NB a ∧ NB n ∧ NB c ∧ 1 ≤ n ∧ a ≠ c | .begin h d => NB h ∧ DdOk d
theorem NB.log {n : Int} (h : NB n) : n.natAbs.log2 < 1920 := by
  by_cases h0 : n.natAbs = 0
  · rw [h0]; decide +kernel
  · rw [Nat.log2_lt h0]
    exact Nat.lt_of_lt_of_le h (by decide +kernel)
def VOk : Vv → Prop
  | .s x => x.length ≤ 40 | .i n => NB n
theorem numT_len {n : Int} (h : NB n) : (numT n).length ≤ 40 := by
  have e := int_text_length_le10 (k := 30) (by decide) h
  show (Str.ofString (toString n)).length ≤ 40
  rw [PySem.ofString_length]
  omega
theorem vT_len {v : Vv} (h : VOk v) : (vT v).length ≤ 40 := by
  cases v with
  | s x => exact h
  | i n => exact numT_len h
theorem dd_ok {d : Dd} (h : DdOk d) : ∀ v ∈ ddV d, VOk v := by
  cases d <;> simp only [DdOk] at h <;> simp only [ddV, List.mem_cons, List.not_mem_nil, or_false] <;> rintro v hv <;>
    (first | (rcases hv with rfl | rfl | rfl | rfl) | (rcases hv with rfl | rfl | rfl) | (rcases hv with rfl | rfl) | (rcases hv with rfl)) <;>
    first | exact h | exact h.1 | exact h.2 | exact h.2.1 | exact h.2.2 | (show Str.length _ ≤ 40; decide +kernel)
theorem dd_len (d : Dd) : (ddV d).length ≤ 4 := by cases d <;> simp [ddV]
theorem sum_len {ws : List Str} {b : Nat} (h : ∀ x ∈ ws, x.length ≤ b) : (ws.map (·.length)).sum ≤ ws.length * b := by
  induction ws with
  | nil => simp
  | cons x ws ih =>
    have h1 := h x List.mem_cons_self
    have h2 := ih fun y hy => h y (List.mem_cons_of_mem _ hy)
    rw [List.map_cons, List.sum_cons, List.length_cons, Nat.succ_mul]
    omega
def evT (e : Ev) : Str := Txt.join " " (evW e)
section
variable {X : Cx} {Z : Zx} {e : Expr} {ρ : En} {Φ : D → En → Prop} {p pos : Pos}
/-- str(e), a member of an event -/
theorem ec_strV {v : Vv} (ok : VOk v) (hm : X.mg "str" = none) (h : EC X Z e ρ fun d ρ1 => d = vD v ∧ Φ (.str (vT v)) ρ1) (hg : Gl X "str" := by rfl)
    (he : starEach [e] X.env = (false, eval e X.env) :: starEach [] X.env := by rfl) (hpl : (backTo pos (starEach [] X.env)).any (·.1) = false := by rfl) : EC X Z (.Call (.Name "str" p) [e] [] pos) ρ Φ := by
  cases v with
  | s x => exact ec_cty SkE.call_str_str rfl hm (ac_cons (h.mono fun d ρ1 ⟨e1, k⟩ => by subst e1; exact ac_nil ⟨_, gb_strS, fun d' e2 => by subst e2; exact k⟩) (hs := he)) (he := he) (hpl := hpl) (hg := hg)
  | i n => exact ec_cty call_str_int rfl hm (ac_cons (h.mono fun d ρ1 ⟨e1, k⟩ => by subst e1; exact ac_nil ⟨_, gb_strI (NB.log ok), fun d' e2 => by subst e2; exact k⟩) (hs := he)) (he := he) (hpl := hpl) (hg := hg)
end
section
variable {P : Program} {w : World} {K : PySem.W.Frag} {mg : Str → Option Value} {base : Heap} {f : Addr} {fd : FuncData} {tp tv : Tok}
/-- an event as a row -/
def evV : Ev → List Vv
  | .tick h => [.s "tick", .i h] | .fall h => [.s "fall", .i h] | .wake h => [.s "wake", .i h] | .hush a c => [.s "hush", .i a, .i c] | .hand a n c => [.s "hand", .i a, .i n, .i c] | .begin h _ => [.s "begin", .i h]
def S_evt (ds : List D) (Ψ : D → Prop) : Prop := ∃ e : Ev, ds = [evD e] ∧ EvOk e ∧ Ψ (.str (evT e))
theorem m_evt : MonoF S_evt := fun ds Φ Φ' g ⟨e, h1, h2, h3⟩ => ⟨e, h1, h2, g _ h3⟩
abbrev Nev : List Str := ["event", "word", "value"]
theorem c_evt (F : FunN K "event_text" s_event_text f fd) (hm : mg "event_text" = some (.ref f)) (hstr : mg "str" = none) : KF P w K mg base "event_text" 1 1 S_evt := ⟨by
  have nd : Nev.Nodup := by decide +kernel
  refine cal_fn F hm (N := Nev) (ps := ["event"]) ⟨rfl, rfl, rfl, nd, rfl, by decide +kernel, by decide +kernel⟩ rfl (fun _ _ _ _ _ _ us hl => match us, hl with | [_], _ => rfl) ?_
  rintro cdv A outer s H E hr ds Ψ hl ⟨e, rfl, ok, hd⟩
  have plain : ∀ (k : Str) (vs : List Vv), decide (k = "begin") = false → decide (k = "hand") = false → (∀ v ∈ Vv.s k :: vs, VOk v) → vs.length ≤ 4 → Ψ (.str (Txt.join " " ((Vv.s k :: vs).map vT))) →
      SC (bodyX P w K mg base Nev "event_text" (defScope s_event_text) f cdv A outer s H E) Z0 (defBody s_event_text) (envD Nev.length [.tup ((Vv.s k :: vs).map vD)]) (OutP Ψ) := fun k vs k1 k2 vok vl hd => by
    refine sc_set 1 (ec_ix (ec_var 0 rfl (ec_int ⟨_, 0, .str k, rfl, rfl, atI_nat (j := 0) rfl, ?_⟩))) nd
    refine sc_if (tc_eqS (ec_var 1 rfl (ec_str ⟨_, rfl, ?_⟩)))
    rw [k1]
    refine ⟨(fun z => nomatch z), fun _ => sc_nil ?_⟩
    show SC _ _ _ _ _
    refine sc_if (tc_eqS (ec_var 1 rfl (ec_str ⟨_, rfl, ?_⟩)))
    rw [k2]
    refine ⟨(fun z => nomatch z), fun _ => sc_nil ?_⟩
    show SC _ _ _ [some (.im (.tup ((Vv.s k :: vs).map vD))), some (.im (.str k)), none] _
    refine sc_ret (ec_join (ec_str ⟨_, rfl, ec_fc (fc_M (Vv.s k :: vs) vD (fun v => .str (vT v)) [("value", 2)] [2] (ic_tup (ec_var 0 rfl ⟨_, rfl, rfl, ?_, rfl, fun v hv => ?_, ?_⟩)) nd (by decide))⟩))
    · rw [List.length_cons]; omega
    · intro s3 H3 C3 cl3 fp3
      refine gt_name 2 ?_ nd
      intro s4 H4 C4 cl4 fp4
      exact ec_strV (vok v hv) hstr (ec_var 2 rfl ⟨rfl, rfl, rfl⟩)
    · refine ⟨_, rfl, (Vv.s k :: vs).map vT, .inl ?_, ?_, hd⟩
      · unfold strsD; rw [List.map_map]; rfl
      · have h1 := sum_len (ws := (Vv.s k :: vs).map vT) (b := 40) fun x hx => by
          obtain ⟨v, hv, rfl⟩ := List.mem_map.mp hx
          exact vT_len (vok v hv)
        rw [List.length_map, List.length_cons] at h1
        rw [List.length_map, List.length_cons]
        have h2 : (" " : Str).length = 1 := by decide +kernel
        rw [h2]
        omega
  have vs1 : ∀ {k : Str} {a : Int}, k.length ≤ 40 → NB a → ∀ v ∈ [Vv.s k, .i a], VOk v := fun h1 h2 v hv => by
    rcases List.mem_cons.mp hv with rfl | hv
    · exact h1
    · rw [List.mem_singleton.mp hv]; exact h2
  cases e with
  | tick h => exact plain "tick" [.i h] (by decide +kernel) (by decide +kernel) (vs1 (by decide +kernel) ok) (by simp) hd
  | fall h => exact plain "fall" [.i h] (by decide +kernel) (by decide +kernel) (vs1 (by decide +kernel) ok) (by simp) hd
  | wake h => exact plain "wake" [.i h] (by decide +kernel) (by decide +kernel) (vs1 (by decide +kernel) ok) (by simp) hd
  | hush a c => exact plain "hush" [.i a, .i c] (by decide +kernel) (by decide +kernel) (fun v hv => by
      rcases List.mem_cons.mp hv with rfl | hv
      · show Str.length _ ≤ 40; decide +kernel
      · rcases List.mem_cons.mp hv with rfl | hv
        · exact ok.1
        · rw [List.mem_singleton.mp hv]; exact ok.2.1) (by simp) hd
  | hand a n c =>
    obtain ⟨o1, o2, o3, o4, o5⟩ := ok
    refine sc_set 1 (ec_ix (ec_var 0 rfl (ec_int ⟨[.str "hand", .int a, .int n, .int c], 0, .str "hand", rfl, rfl, rfl, ?_⟩))) nd
    refine sc_if (tc_eqS (ec_var 1 rfl (ec_str ⟨false, by decide +kernel, (fun z => nomatch z), fun _ => sc_nil ?_⟩)))
    show SC _ _ _ _ _
    refine sc_if (tc_eqS (ec_var 1 rfl (ec_str ⟨true, by decide +kernel, fun _ => ?_, (fun z => nomatch z)⟩)))
    have l1 := numT_len o1
    have l2 := numT_len o2
    have l3 := numT_len o3
    have add : ∀ {x y : Str} {p q : Nat}, x.length ≤ p → y.length ≤ q → (x ++ y).length ≤ p + q := fun h1 h2 => by rw [strLen_append]; omega
    have sz : ∀ {x : Str} {p : Nat}, x.length ≤ p → p ≤ 1000 → x.length ≤ sizeLine := fun h1 h2 => by rw [sizeLine_eq]; omega
    have q1 : (Str.empty ++ ("hand " : Str)).length ≤ 5 := by decide +kernel
    have q2 := add q1 l1
    have q3 := add q2 (show (" " : Str).length ≤ 1 by decide +kernel)
    have q4 := add q3 l2
    have q5 := add q4 (show (" to " : Str).length ≤ 4 by decide +kernel)
    have q6 := add q5 l3
    show SC _ _ _ [some (.im (.tup [.str "hand", .int a, .int n, .int c])), some (.im (.str "hand")), none] _
    refine sc_ret ?_
    refine ec_joined ?_
    unfold JC
    refine ec_str ⟨_, rfl, sz q1 (by omega), ?_⟩
    unfold JC
    refine ec_fmtI (ec_ix (ec_var 0 rfl (ec_int ⟨_, 1, .int a, rfl, rfl, rfl, _, rfl, NB.log o1, _, rfl, sz q2 (by omega), ?_⟩)))
    unfold JC
    refine ec_str ⟨_, rfl, sz q3 (by omega), ?_⟩
    unfold JC
    refine ec_fmtI (ec_ix (ec_var 0 rfl (ec_int ⟨_, 2, .int n, rfl, rfl, rfl, _, rfl, NB.log o2, _, rfl, sz q4 (by omega), ?_⟩)))
    unfold JC
    refine ec_str ⟨_, rfl, sz q5 (by omega), ?_⟩
    unfold JC
    refine ec_fmtI (ec_ix (ec_var 0 rfl (ec_int ⟨_, 3, .int c, rfl, rfl, rfl, _, rfl, NB.log o3, _, rfl, sz q6 (by omega), ?_⟩)))
    unfold JC
    have e : (((((Str.empty ++ ("hand " : Str)) ++ numT a) ++ (" " : Str)) ++ numT n) ++ (" to " : Str)) ++ numT c = evT (.hand a n c) := by
      refine TL.ext_tl ?_
      show _ = TL.tl (Txt.join " " [_, _, _, _, _])
      rw [TL.join_eq, TL.tl_join]
      simp only [TL.tl_append, List.map_cons, List.map_nil, TL.joinL]
      have a1 : TL.tl Str.empty = [] := by decide +kernel
      have a2 : TL.tl ("hand " : Str) = TL.tl ("hand" : Str) ++ TL.tl (" " : Str) := by decide +kernel
      have a3 : TL.tl (" to " : Str) = TL.tl (" " : Str) ++ (TL.tl ("to" : Str) ++ TL.tl (" " : Str)) := by decide +kernel
      rw [a1, a2, a3]
      simp
    show Ψ (.str ((((((Str.empty ++ ("hand " : Str)) ++ numT a) ++ (" " : Str)) ++ numT n) ++ (" to " : Str)) ++ numT c))
    rw [e]
    exact hd
  | begin h d =>
    obtain ⟨o1, o2⟩ := ok
    refine sc_set 1 (ec_ix (ec_var 0 rfl (ec_int ⟨[.str "begin", .int h, ddD d], 0, .str "begin", rfl, rfl, rfl, ?_⟩))) nd
    refine sc_if (tc_eqS (ec_var 1 rfl (ec_str ⟨true, by decide +kernel, fun _ => ?_, (fun z => nomatch z)⟩)))
    show SC _ _ _ [some (.im (.tup [.str "begin", .int h, ddD d])), some (.im (.str "begin")), none] _
    refine sc_ret ?_
    refine ec_join (ec_str ⟨_, rfl, ?_⟩)
    refine ec_cat (ec_lst (ac_cons (ec_var 1 rfl ?_)))
    refine ac_cons (ec_strV (v := .i h) o1 hstr (ec_ix (ec_var 0 rfl (ec_int ⟨_, 1, .int h, rfl, rfl, rfl, rfl, ac_nil ⟨by show 2 ≤ 100000; omega, ?_⟩⟩))))
    refine ec_fc (fc_M (ddV d) vD (fun v => .str (vT v)) [("value", 2)] [2] (ic_tup (ec_ix (ec_var 0 rfl (ec_int ⟨_, 2, ddD d, rfl, rfl, rfl, _, rfl, rfl, ?_, rfl, fun v hv => ?_, ?_⟩)))) nd (by decide))
    · have := dd_len d; omega
    · intro s3 H3 C3 cl3 fp3
      refine gt_name 2 ?_ nd
      intro s4 H4 C4 cl4 fp4
      exact ec_strV (dd_ok o2 v hv) hstr (ec_var 2 rfl ⟨rfl, rfl, rfl⟩)
    · have dl := dd_len d
      refine ⟨_, rfl, _, _, rfl, rfl, ?_, evW (.begin h d), .inl ?_, ?_, hd⟩
      · rw [List.length_map]; show 2 + _ ≤ _; omega
      · show D.lst (_ :: _ :: List.map _ _) = D.lst (_ :: _ :: List.map D.str (List.map vT _))
        rw [List.map_map]; rfl
      · have h1 := sum_len (ws := evW (.begin h d)) (b := 40) fun x hx => by
          rcases List.mem_cons.mp hx with rfl | hx
          · decide +kernel
          · rcases List.mem_cons.mp hx with rfl | hx
            · exact numT_len o1
            · obtain ⟨v, hv, rfl⟩ := List.mem_map.mp hx
              exact vT_len (dd_ok o2 v hv)
        have h3 : (evW (.begin h d)).length ≤ 6 := by show (List.map vT (ddV d)).length + 2 ≤ 6; rw [List.length_map]; omega
        have h2 : (" " : Str).length = 1 := by decide +kernel
        rw [h2]
        have h4 : (evW (.begin h d)).length * 40 ≤ 6 * 40 := Nat.mul_le_mul_right _ h3
        omega
  , m_evt⟩
end
end T34
namespace T34
open PySem PySem.Spec PyProof.Rows L2 Evl AL
/-! ### schedule_text, house_of_event -/
theorem evW_ok {e : Ev} (ok : EvOk e) : (evW e).length ≤ 6 ∧ ∀ x ∈ evW e, x.length ≤ 40 := by
  cases e with
  | tick h => exact ⟨by show 2 ≤ 6; omega, fun x hx => by
      rcases List.mem_cons.mp hx with rfl | hx
      · decide +kernel
      · rw [List.mem_singleton.mp hx]; exact numT_len ok⟩
  | fall h => exact ⟨by show 2 ≤ 6; omega, fun x hx => by
      rcases List.mem_cons.mp hx with rfl | hx
      · decide +kernel
      · rw [List.mem_singleton.mp hx]; exact numT_len ok⟩
  | wake h => exact ⟨by show 2 ≤ 6; omega, fun x hx => by
      rcases List.mem_cons.mp hx with rfl | hx
      · decide +kernel
      · rw [List.mem_singleton.mp hx]; exact numT_len ok⟩
  | hush a c => exact ⟨by show 3 ≤ 6; omega, fun x hx => by
      rcases List.mem_cons.mp hx with rfl | hx
      · decide +kernel
      rcases List.mem_cons.mp hx with rfl | hx
      · exact numT_len ok.1
      · rw [List.mem_singleton.mp hx]; exact numT_len ok.2.1⟩
  | hand a n c => exact ⟨by show 5 ≤ 6; omega, fun x hx => by
      rcases List.mem_cons.mp hx with rfl | hx
      · decide +kernel
      rcases List.mem_cons.mp hx with rfl | hx
      · exact numT_len ok.1
      rcases List.mem_cons.mp hx with rfl | hx
      · exact numT_len ok.2.1
      rcases List.mem_cons.mp hx with rfl | hx
      · decide +kernel
      · rw [List.mem_singleton.mp hx]; exact numT_len ok.2.2.1⟩
  | begin h d => exact ⟨by show (List.map vT (ddV d)).length + 2 ≤ 6; rw [List.length_map]; have := dd_len d; omega, fun x hx => by
      rcases List.mem_cons.mp hx with rfl | hx
      · decide +kernel
      rcases List.mem_cons.mp hx with rfl | hx
      · exact numT_len ok.1
      · obtain ⟨v, hv, rfl⟩ := List.mem_map.mp hx
        exact vT_len (dd_ok ok.2 v hv)⟩
theorem join_len {s : Str} : ∀ ws : List Str, (Txt.join s ws).length ≤ (ws.map (·.length)).sum + ws.length * s.length
  | [] => by rw [TL.join_eq, TL.len_tl, TL.tl_join]; simp [TL.joinL]
  | [x] => by rw [TL.join_eq, TL.len_tl, TL.tl_join]; simp [TL.joinL, TL.len_tl]
  | x :: y :: ws => by
    have ih := join_len (s := s) (y :: ws)
    rw [TL.join_eq, TL.len_tl, TL.tl_join] at ih ⊢
    simp only [List.map_cons, TL.joinL, List.length_append, List.sum_cons, List.length_cons, Nat.succ_mul] at ih ⊢
    rw [← TL.len_tl, ← TL.len_tl]
    omega
theorem evT_len {e : Ev} (ok : EvOk e) : (evT e).length ≤ 300 := by
  obtain ⟨h1, h2⟩ := evW_ok ok
  have h3 := sum_len h2
  have h4 := join_len (s := " ") (evW e)
  have h5 : (" " : Str).length = 1 := by decide +kernel
  rw [h5] at h4
  unfold evT
  omega
def S_sct (ds : List D) (Ψ : D → Prop) : Prop := ∃ es : List Ev, ds = [.lst (es.map evD)] ∧ es.length ≤ 100 ∧ (∀ e ∈ es, EvOk e) ∧ Ψ (.str (Txt.join "\n" (es.map evT)))
theorem m_sct : MonoF S_sct := fun ds Φ Φ' g ⟨e, h1, h2, h3, h4⟩ => ⟨e, h1, h2, h3, g _ h4⟩
def evH : Ev → Nat
  | .tick h => h | .fall h => h | .wake h => h | .hush a _ => a | .hand _ _ c => c | .begin h _ => h
def S_hoe (ds : List D) (Ψ : D → Prop) : Prop := ∃ e : Ev, ds = [evD e] ∧ Ψ (.int (evH e))
theorem m_hoe : MonoF S_hoe := fun ds Φ Φ' g ⟨e, h1, h2⟩ => ⟨e, h1, g _ h2⟩
section
variable {P : Program} {w : World} {K : PySem.W.Frag} {mg : Str → Option Value} {base : Heap} {f : Addr} {fd : FuncData} {tp tv : Tok}
theorem c_sct (F : FunN K "schedule_text" s_schedule_text f fd) (hm : mg "schedule_text" = some (.ref f)) (c1 : KF P w K mg base "event_text" 1 1 S_evt) : KF P w K mg base "schedule_text" 2 1 S_sct := ⟨by
  have nd : (["schedule", "event"] : List Str).Nodup := by decide +kernel
  refine cal_fn F hm (N := ["schedule", "event"]) (ps := ["schedule"]) ⟨rfl, rfl, rfl, nd, rfl, by decide +kernel, by decide +kernel⟩ rfl (fun _ _ _ _ _ _ us hl => match us, hl with | [_], _ => rfl) ?_
  rintro cdv A outer s H E hr ds Ψ hl ⟨es, rfl, l1, ok, hd⟩
  refine sc_ret ?_
  refine ec_join (ec_str ⟨_, rfl, ?_⟩)
  refine ec_fc (fc_M es evD (fun e => .str (evT e)) [("event", 1)] [1] (ic_list (ec_var 0 rfl ⟨_, rfl, rfl, by omega, rfl, fun e he => ?_, ?_⟩)) nd (by decide))
  · intro s3 H3 C3 cl3 fp3
    refine gt_name 1 ?_ nd
    intro s4 H4 C4 cl4 fp4
    exact ec_cf c1.c (hr.mono (by omega)) (pass_0 passL) c1.m (ac_cons (ec_var 1 rfl (ac_nil ⟨rfl, e, rfl, ok e he, rfl, rfl⟩)))
  refine ⟨_, rfl, es.map evT, .inl ?_, ?_, hd⟩
  · unfold strsD; rw [List.map_map]; rfl
  · have h1 := sum_len (ws := es.map evT) (b := 300) fun x hx => by
      obtain ⟨e, he, rfl⟩ := List.mem_map.mp hx
      exact evT_len (ok e he)
    rw [List.length_map] at h1 ⊢
    have h2 : ("\n" : Str).length = 1 := by decide +kernel
    rw [h2]
    omega
  , m_sct⟩
theorem c_hoe (F : FunN K "house_of_event" s_house_of_event f fd) (hm : mg "house_of_event" = some (.ref f)) : KF P w K mg base "house_of_event" 1 1 S_hoe := ⟨by
  have nd : (["event"] : List Str).Nodup := by decide +kernel
  refine cal_fn F hm (N := ["event"]) (ps := ["event"]) ⟨rfl, rfl, rfl, nd, rfl, by decide +kernel, by decide +kernel⟩ rfl (fun _ _ _ _ _ _ us hl => match us, hl with | [_], _ => rfl) ?_
  rintro cdv A outer s H E hr ds Ψ hl ⟨e, rfl, hd⟩
  refine sc_ret ?_
  refine ec_if ?_
  cases e with
  | hand a n c => exact tc_eqS (ec_ix (ec_var 0 rfl (ec_int ⟨[.str "hand", .int a, .int n, .int c], 0, .str "hand", rfl, rfl, rfl, ec_str ⟨true, by decide +kernel, fun _ => ec_ix (ec_var 0 rfl (ec_int ⟨[.str "hand", .int a, .int n, .int c], 3, .int c, rfl, rfl, rfl, hd⟩)), (fun z => nomatch z)⟩⟩)))
  | tick h => exact tc_eqS (ec_ix (ec_var 0 rfl (ec_int ⟨[.str "tick", .int h], 0, .str "tick", rfl, rfl, rfl, ec_str ⟨false, by decide +kernel, (fun z => nomatch z), fun _ => ec_ix (ec_var 0 rfl (ec_int ⟨[.str "tick", .int h], 1, .int h, rfl, rfl, rfl, hd⟩))⟩⟩)))
  | fall h => exact tc_eqS (ec_ix (ec_var 0 rfl (ec_int ⟨[.str "fall", .int h], 0, .str "fall", rfl, rfl, rfl, ec_str ⟨false, by decide +kernel, (fun z => nomatch z), fun _ => ec_ix (ec_var 0 rfl (ec_int ⟨[.str "fall", .int h], 1, .int h, rfl, rfl, rfl, hd⟩))⟩⟩)))
  | wake h => exact tc_eqS (ec_ix (ec_var 0 rfl (ec_int ⟨[.str "wake", .int h], 0, .str "wake", rfl, rfl, rfl, ec_str ⟨false, by decide +kernel, (fun z => nomatch z), fun _ => ec_ix (ec_var 0 rfl (ec_int ⟨[.str "wake", .int h], 1, .int h, rfl, rfl, rfl, hd⟩))⟩⟩)))
  | hush a c => exact tc_eqS (ec_ix (ec_var 0 rfl (ec_int ⟨[.str "hush", .int a, .int c], 0, .str "hush", rfl, rfl, rfl, ec_str ⟨false, by decide +kernel, (fun z => nomatch z), fun _ => ec_ix (ec_var 0 rfl (ec_int ⟨[.str "hush", .int a, .int c], 1, .int a, rfl, rfl, rfl, hd⟩))⟩⟩)))
  | begin h d => exact tc_eqS (ec_ix (ec_var 0 rfl (ec_int ⟨[.str "begin", .int h, ddD d], 0, .str "begin", rfl, rfl, rfl, ec_str ⟨false, by decide +kernel, (fun z => nomatch z), fun _ => ec_ix (ec_var 0 rfl (ec_int ⟨[.str "begin", .int h, ddD d], 1, .int h, rfl, rfl, rfl, hd⟩))⟩⟩)))
  , m_hoe⟩
end
end T34
namespace AL
/-! ### zip of a tuple and a list -/
section
open PySem RZ
variable {prog : Program} {w : World} {A : Around} {E : Value → Shared → Prop} {s : Shared} {z tI tO ia ib la lb : Addr} {m n : Nat} {us vs : Array Value} {u v c0 c1 : Value}
theorem zipM_item {R : Value → Shared → Prop} (ap : ZipApart z tI tO ia ib la lb) (gz : IsZip s.heap z tI tO .none) (gI : IsPair s.heap tI (.ref ia) (.ref ib)) (gO : IsPair s.heap tO c0 c1) (ga : s.heap.IsTupleIter ia la m) (gb : s.heap.IsListIter ib lb n)
    (sa : s.heap.IsTuple la us) (sb : s.heap.IsList lb vs) (eu : us[m]? = some u) (ev : vs[n]? = some v)
    (fin : ∀ h', IsZip h' z tI tO (rawInt s.heap.objs.size) → IsPair h' tO u v → h'.IsTupleIter ia la (m + 1) → h'.IsListIter ib lb (n + 1) → IsPair h' s.heap.objs.size u v → h'.objs.size = s.heap.objs.size + 1 →
      (∀ c o, c ≠ z → c ≠ tO → c ≠ ia → c ≠ ib → s.heap.get? c = some o → h'.get? c = some o) → R (.ref s.heap.objs.size) { s with heap := h' }) :
    wpAny (model prog w) A (Builtin.«zip.__next__» ⟨[.ref z], []⟩) (fun r s' => ∃ x, r = .done (.ret x) ∧ R x s') E s := by
  show wpAny _ _ (field (.ref z) 2 >>= _) _ _ _; refine wpAny_bind (wpAny_field gz rfl (x := .bool false) rfl ?_)
  show wpAny _ _ (field (.ref z) 3 >>= _) _ _ _; refine wpAny_bind (wpAny_field gz rfl (x := .ref tI) rfl (wpAny_bind (wpAny_seqItems gI rfl ?_)))
  show wpAny _ _ (Builtin.SmallTypes.ownedTupleIsFree (.ref z) >>= _) _ _ _; refine wpAny_bind ?_; unfold Builtin.SmallTypes.ownedTupleIsFree
  refine wpAny_bind (wpAny_field gz rfl (x := .none) rfl (wpAny_pure ?_)); simp only [if_true]
  refine wpAny_bind (wpAny_rule (wpAny_bind (wpAny_field gz rfl (x := .ref tO) rfl (wpAny_bind (wpAny_setField_rec gz (by simp) fun k1 z1 d1 => ?_)))))
  replace z1 : IsZip k1 z tI tO .ellipsis := z1
  refine wpAny_bind ?_; simp only [List.zipIdx_cons, List.zipIdx_nil, List.forIn_cons, List.forIn_nil]
  refine wpAny_bind (wpAny_bind (wpAny_onRaise ?_)); show wpAny _ _ (Builtin.SmallTypes.nextOf (.ref ia) >>= _) _ _ _
  refine wpAny_bind (nextOf_tuple_item (ga.extBut d1.extBut ap.i1z) (sa.extBut d1.extBut ap.l1z) eu fun k2 a2 d2 => wpAny_pure ?_)
  have o2 : IsPair k2 tO c0 c1 := d2.extBut _ _ ap.TOi1 (d1.extBut _ _ ap.TOz gO)
  refine wpAny_bind (wpAny_seqItems o2 rfl (wpAny_bind (wpAny_updateSeq_pair o2 fun k3 o3 d3 => ?_)))
  replace o3 : IsPair k3 tO u c1 := o3
  refine wpAny_bind (wpAny_letGo (wpAny_pure (wpAny_bind (wpAny_bind (wpAny_onRaise ?_))))); show wpAny _ _ (Builtin.SmallTypes.nextOf (.ref ib) >>= _) _ _ _
  have b3 : k3.IsListIter ib lb n := ((gb.extBut d1.extBut ap.i2z).extBut d2.extBut ap.i12.symm).extBut d3.extBut ap.TOi2.symm
  have s3 : k3.IsList lb vs := ((sb.extBut d1.extBut ap.l2z).extBut d2.extBut ap.l2i1).extBut d3.extBut ap.l2TO
  refine wpAny_bind (wpAny_nextOf_list_item b3 s3 ev fun k4 b4 d4 => wpAny_pure ?_)
  have o4 : IsPair k4 tO u c1 := d4.extBut _ _ ap.TOi2 o3
  refine wpAny_bind (wpAny_seqItems o4 rfl (wpAny_bind (wpAny_updateSeq_pair o4 fun k5 o5 d5 => ?_)))
  replace o5 : IsPair k5 tO u v := o5
  refine wpAny_bind (wpAny_letGo (wpAny_pure (wpAny_pure (wpAny_bind (wpAny_seqItems o5 rfl (wpAny_bind (wpAny_newTuple ?_)))))))
  have sz : k5.objs.size = s.heap.objs.size := by rw [d5.1, d4.1, d3.1, d2.1, d1.1]
  have z5 : IsZip k5 z tI tO .ellipsis := d5.extBut _ _ ap.TOz.symm (d4.extBut _ _ ap.i2z.symm (d3.extBut _ _ ap.TOz.symm (d2.extBut _ _ ap.i1z.symm z1)))
  have old : ∀ c o, c ≠ z → c ≠ tO → c ≠ ia → c ≠ ib → s.heap.get? c = some o → k5.get? c = some o := fun c o q1 q2 q3 q4 e =>
    d5.extBut _ _ q2 (d4.extBut _ _ q4 (d3.extBut _ _ q2 (d2.extBut _ _ q3 (d1.extBut _ _ q1 e))))
  have a5 : k5.IsTupleIter ia la (m + 1) := ((a2.extBut d3.extBut ap.TOi1.symm).extBut d4.extBut ap.i12).extBut d5.extBut ap.TOi1.symm
  have b5 : k5.IsListIter ib lb (n + 1) := b4.extBut d5.extBut ap.TOi2.symm
  have zlt : z < k5.objs.size := Heap.lt_size z5
  show wpAny _ _ (Builtin.SmallTypes.ownedTupleHandOut (.ref z) (.ref k5.objs.size) >>= _) _ _ _; refine wpAny_bind ?_; unfold Builtin.SmallTypes.ownedTupleHandOut
  have z6 : IsZip (k5.push { cls := .type "tuple", data := .seq #[u, v] }) z tI tO .ellipsis := Heap.get?_push_of_some _ z5
  refine wpAny_bind (wpAny_setField_rec z6 (by simp) fun k7 z7 d7 => ?_)
  replace z7 : IsZip k7 z tI tO (rawInt k5.objs.size) := z7
  refine wpAny_setField_rec z7 (by simp) fun k8 z8 d8 => ?_
  replace z8 : IsZip k8 z tI tO (rawInt k5.objs.size) := z8
  have up : ∀ c o, c ≠ z → k5.get? c = some o → k8.get? c = some o := fun c o q e => d8.extBut _ _ q (d7.extBut _ _ q (Heap.get?_push_of_some _ e))
  have new : IsPair k8 k5.objs.size u v := d8.extBut _ _ (Nat.ne_of_gt zlt) (d7.extBut _ _ (Nat.ne_of_gt zlt) (Heap.get?_push_size _ rfl))
  have sz8 : k8.objs.size = k5.objs.size + 1 := by rw [d8.1, d7.1, Heap.size_push]
  rw [sz] at z8 new sz8
  refine wpAny_pure ⟨_, rfl, ?_⟩
  show R (.ref k5.objs.size) _
  rw [sz]
  exact fin k8 z8 (up _ _ ap.TOz o5) (a5.at fun o e => up _ o ap.i1z e) (b5.at fun o e => up _ o ap.i2z e) new sz8 fun c o q1 q2 q3 q4 e => up c o q1 (old c o q1 q2 q3 q4 e)
theorem zipM_end {R : Fin → Shared → Prop} (hh : A.handled = none) (ap : ZipApart z tI tO ia ib la lb) (gz : IsZip s.heap z tI tO .none) (gI : IsPair s.heap tI (.ref ia) (.ref ib)) (gO : IsPair s.heap tO c0 c1) (ga : s.heap.IsTupleIter ia la m) (gb : s.heap.IsListIter ib lb n)
    (sa : s.heap.IsTuple la us) (sb : s.heap.IsList lb vs) (en : us[m]? = none ∨ vs[n]? = none)
    (fin : ∀ h' e, (∀ c o, c ≠ z → c ≠ tO → c ≠ ia → c ≠ ib → s.heap.get? c = some o → h'.get? c = some o) → (∃ o, h'.get? e = some o ∧ o.cls = .type "StopIteration") → E (.ref e) { s with heap := h' }) :
    wpAny (model prog w) A (Builtin.«zip.__next__» ⟨[.ref z], []⟩) R E s := by
  show wpAny _ _ (field (.ref z) 2 >>= _) _ _ _; refine wpAny_bind (wpAny_field gz rfl (x := .bool false) rfl ?_)
  show wpAny _ _ (field (.ref z) 3 >>= _) _ _ _; refine wpAny_bind (wpAny_field gz rfl (x := .ref tI) rfl (wpAny_bind (wpAny_seqItems gI rfl ?_)))
  show wpAny _ _ (Builtin.SmallTypes.ownedTupleIsFree (.ref z) >>= _) _ _ _; refine wpAny_bind ?_; unfold Builtin.SmallTypes.ownedTupleIsFree
  refine wpAny_bind (wpAny_field gz rfl (x := .none) rfl (wpAny_pure ?_)); simp only [if_true]
  refine wpAny_bind (wpAny_rule (wpAny_bind (wpAny_field gz rfl (x := .ref tO) rfl (wpAny_bind (wpAny_setField_rec gz (by simp) fun k1 z1 d1 => ?_)))))
  replace z1 : IsZip k1 z tI tO .ellipsis := z1
  refine wpAny_bind ?_; simp only [List.zipIdx_cons, List.zipIdx_nil, List.forIn_cons, List.forIn_nil]
  refine wpAny_bind (wpAny_bind (wpAny_onRaise ?_)); show wpAny _ _ (Builtin.SmallTypes.nextOf (.ref ia) >>= _) _ _ _
  have stop : ∀ {kx : Heap} {e : Addr}, IsZip kx z tI tO .ellipsis → (∀ c o, c ≠ z → c ≠ tO → c ≠ ia → c ≠ ib → s.heap.get? c = some o → kx.get? c = some o) → (∃ o, kx.get? e = some o ∧ o.cls = .type "StopIteration") →
      ∀ (k9 : Heap), Heap.SameBut z kx k9 → E (.ref e) { s with heap := k9 } := fun {kx e} zx old ⟨oe, ge, ce⟩ k9 d9 => by
    have ez : e ≠ z := fun q => by subst q; rw [zx] at ge; cases ge; simp at ce
    exact fin k9 e (fun c o q1 q2 q3 q4 q => d9.extBut _ _ q1 (old c o q1 q2 q3 q4 q)) ⟨oe, d9.extBut _ _ ez ge, ce⟩
  cases eu : us[m]? with
  | none =>
    refine wpAny_bind (nextOf_tuple_end hh (ga.extBut d1.extBut ap.i1z) (sa.extBut d1.extBut ap.l1z) eu fun k2 e d2 he => ?_)
    have z2 : IsZip k2 z tI tO .ellipsis := d2 _ _ ap.i1z.symm z1
    exact wpAny_setField_rec z2 (by simp) fun k9 _ d9 => stop z2 (fun c o q1 _ q3 _ q => d2 _ _ q3 (d1.extBut _ _ q1 q)) he k9 d9
  | some u =>
    have ev : vs[n]? = none := en.elim (fun q => by rw [eu] at q; cases q) id
    refine wpAny_bind (nextOf_tuple_item (ga.extBut d1.extBut ap.i1z) (sa.extBut d1.extBut ap.l1z) eu fun k2 a2 d2 => wpAny_pure ?_)
    have o2 : IsPair k2 tO c0 c1 := d2.extBut _ _ ap.TOi1 (d1.extBut _ _ ap.TOz gO)
    refine wpAny_bind (wpAny_seqItems o2 rfl (wpAny_bind (wpAny_updateSeq_pair o2 fun k3 o3 d3 => ?_)))
    refine wpAny_bind (wpAny_letGo (wpAny_pure (wpAny_bind (wpAny_bind (wpAny_onRaise ?_))))); show wpAny _ _ (Builtin.SmallTypes.nextOf (.ref ib) >>= _) _ _ _
    have b3 : k3.IsListIter ib lb n := ((gb.extBut d1.extBut ap.i2z).extBut d2.extBut ap.i12.symm).extBut d3.extBut ap.TOi2.symm
    have s3 : k3.IsList lb vs := ((sb.extBut d1.extBut ap.l2z).extBut d2.extBut ap.l2i1).extBut d3.extBut ap.l2TO
    refine wpAny_bind (wpAny_nextOf_list_end hh b3 s3 ev fun k4 e d4 he => ?_)
    have z4 : IsZip k4 z tI tO .ellipsis := d4 _ _ ap.i2z.symm (d3.extBut _ _ ap.TOz.symm (d2.extBut _ _ ap.i1z.symm z1))
    exact wpAny_setField_rec z4 (by simp) fun k9 _ d9 => stop z4 (fun c o q1 q2 q3 q4 q => d4 _ _ q4 (d3.extBut _ _ q2 (d2.extBut _ _ q3 (d1.extBut _ _ q1 q)))) he k9 d9
theorem nextM_item {R : Option Value → Shared → Prop} (ap : ZipApart z tI tO ia ib la lb) (gz : IsZip s.heap z tI tO .none) (gI : IsPair s.heap tI (.ref ia) (.ref ib)) (gO : IsPair s.heap tO c0 c1) (ga : s.heap.IsTupleIter ia la m) (gb : s.heap.IsListIter ib lb n)
    (sa : s.heap.IsTuple la us) (sb : s.heap.IsList lb vs) (eu : us[m]? = some u) (ev : vs[n]? = some v)
    (fin : ∀ h', IsZip h' z tI tO (rawInt s.heap.objs.size) → IsPair h' tO u v → h'.IsTupleIter ia la (m + 1) → h'.IsListIter ib lb (n + 1) → IsPair h' s.heap.objs.size u v → h'.objs.size = s.heap.objs.size + 1 →
      (∀ c o, c ≠ z → c ≠ tO → c ≠ ia → c ≠ ib → s.heap.get? c = some o → h'.get? c = some o) → R (some (.ref s.heap.objs.size)) { s with heap := h' }) : wpAny (model prog w) A (pyNext (.ref z)) R E s := by
  unfold pyNext
  exact wpAny_bind (wpAny_attempt (wpAny_callSpecial?_slot (name := Str.ofString "__next__") ⟨_, gz, rfl⟩ F.slot_zip_next (wpAny_call_entry F.slot_zip_next ⟨_, gz, rfl⟩ F.entry_zip_next
    (zipM_item ap gz gI gO ga gb sa sb eu ev fun h' q1 q2 q3 q4 q5 q6 q7 => wpAny_pure (fin h' q1 q2 q3 q4 q5 q6 q7)) (F.args_zip_next_1 _))))
theorem nextM_end {R : Option Value → Shared → Prop} (hh : A.handled = none) (ap : ZipApart z tI tO ia ib la lb) (gz : IsZip s.heap z tI tO .none) (gI : IsPair s.heap tI (.ref ia) (.ref ib)) (gO : IsPair s.heap tO c0 c1) (ga : s.heap.IsTupleIter ia la m) (gb : s.heap.IsListIter ib lb n)
    (sa : s.heap.IsTuple la us) (sb : s.heap.IsList lb vs) (en : us[m]? = none ∨ vs[n]? = none)
    (fin : ∀ h', (∀ c o, c ≠ z → c ≠ tO → c ≠ ia → c ≠ ib → s.heap.get? c = some o → h'.get? c = some o) → R none { s with heap := h' }) : wpAny (model prog w) A (pyNext (.ref z)) R E s := by
  unfold pyNext
  refine wpAny_bind (wpAny_attempt (wpAny_callSpecial?_slot (name := Str.ofString "__next__") ⟨_, gz, rfl⟩ F.slot_zip_next (wpAny_call_entry F.slot_zip_next ⟨_, gz, rfl⟩ F.entry_zip_next
    (zipM_end hh ap gz gI gO ga gb sa sb en fun h' e old ⟨o, ho, hc⟩ => wpAny_bind (wpAny_isInstance (T := "StopIteration") (b := true) ⟨o, ho, hc⟩ isSubtype_stop (wpAny_pure (fin _ old)))) (F.args_zip_next_1 _))))
end
end AL
namespace AL
open PySem PySem.Spec PyProof.Rows L2 Evl RZ
/-! ### zip of a tuple (of the module or not) and a list, as an iteration -/
/-- the tuple at a and the list at b as they stand at each turn -/
def ItM (K : PySem.W.Frag) (a b : Addr) : It :=
  ⟨fun i H => ∃ (xs ys : List V) (x y : V), SqT K H a xs ∧ SqL K H b ys ∧ xs[i]? = some x ∧ ys[i]? = some y,
    fun i H v H' => ∃ T x y, v = .ref T ∧ H T = none ∧ H' = upd H T (.tup [x, y]) ∧ (∀ xs, SqT K H a xs → xs[i]? = some x) ∧ ∀ ys, SqL K H b ys → ys[i]? = some y,
    fun i H => ∃ xs ys : List V, SqT K H a xs ∧ SqL K H b ys ∧ (xs.length ≤ i ∨ ys.length ≤ i)⟩
theorem turn_M {P : Program} {w : World} {K : PySem.W.Frag} {elts : List Expr} {kk : Nat} {tpos : Pos} {a b z tI tO ia ib : Addr} (ap : ZipApart z tI tO ia ib a b) :
    Turn P w K (.Tuple elts kk tpos) (ItM K a b) [z, tI, tO, ia, ib] z (fun i h => IsZip h z tI tO .none ∧ IsPair h tI (.ref ia) (.ref ib) ∧ (∃ x y, IsPair h tO x y) ∧ h.IsTupleIter ia a i ∧ h.IsListIter ib b i) where
  mem := by simp
  obj := fun i h st c hc => by
    obtain ⟨hz, hI, ⟨x, y, hO⟩, ⟨o1, e1, _, d1⟩, ⟨o2, e2, _, d2⟩⟩ := st
    simp only [List.mem_cons, List.not_mem_nil, or_false] at hc
    rcases hc with rfl | rfl | rfl | rfl | rfl
    · exact ⟨_, hz, fun v q => nomatch q⟩
    · exact ⟨_, hI, fun v q => nomatch q⟩
    · exact ⟨_, hO, fun v q => nomatch q⟩
    · exact ⟨o1, e1, fun v q => by rw [d1] at q; cases q⟩
    · exact ⟨o2, e2, fun v q => by rw [d2] at q; cases q⟩
  keep := fun i h h' st k => ⟨k z (by simp) _ st.1, k tI (by simp) _ st.2.1, (let ⟨x, y, q⟩ := st.2.2.1; ⟨x, y, k tO (by simp) _ q⟩), st.2.2.2.1.at fun o q => k ia (by simp) o q, st.2.2.2.2.at fun o q => k ib (by simp) o q⟩
  item := by
    intro X hP hw hK hc i pins s σ H E I hf st hg
    subst hP hw hK
    obtain ⟨hz, hI, ⟨x0, y0, hO⟩, ha, hb⟩ := st
    obtain ⟨xs, ys, x, y, sx, sy, gx, gy⟩ := hg
    obtain ⟨us, ru, pu, _⟩ := I.tuple sx
    obtain ⟨vs, rv, pv, _⟩ := I.list sy
    obtain ⟨u, eu, au⟩ := ru.get gx
    obtain ⟨v, ev, av⟩ := rv.get gy
    have zlt : z < s.heap.objs.size := Heap.lt_size hz
    refine nextM_item ap hz hI hO ha hb pu pv.isList (u := u) (v := v) (by simpa using eu) (by simpa using ev) fun h' z' O' a' b' nT sz old => ⟨_, rfl, wpAny_letOwnedTupleGo_zip (s := { s with heap := h' }) z' fun k zk sb => ?_⟩
    have nT' : k.get? s.heap.objs.size = some { cls := .type "tuple", data := .seq #[u, v] } := (sb.2 _ (Nat.ne_of_gt zlt)).trans nT
    have I1 : Inv X pins σ (upd H s.heap.objs.size (.tup [x, y])) { s with heap := k } :=
      I.turnedNew (t' := s.toks) (ch := [z, tI, tO, ia, ib]) (fun c o hn q => (sb.2 c (fun q' => hn (by simp [q']))).trans (old c o (fun q' => hn (by simp [q'])) (fun q' => hn (by simp [q'])) (fun q' => hn (by simp [q'])) (fun q' => hn (by simp [q'])) q)) hf (Nat.le_refl _)
        ⟨by show 2 ≤ sizeLine; decide, [u, v], .cons au (.cons av .nil), ⟨_, nT', rfl, _, rfl⟩⟩
    refine ⟨.ref s.heap.objs.size, _, I1, rfl, ⟨_, x, y, rfl, I.hok.fresh (Nat.le_refl _), rfl, fun l hl => by rw [I.tuple_inj hl sx]; exact gx, fun l hl => by rw [I.list_inj hl sy]; exact gy⟩, ⟨zk, ?_, ⟨u, v, ?_⟩, ?_, ?_⟩, fun c hcm => ?_⟩
    · exact (sb.2 _ ap.TIz).trans (old _ _ ap.TIz ap.TITO ap.TIi1 ap.TIi2 hI)
    · exact (sb.2 _ ap.TOz).trans O'
    · exact a'.at fun o q => (sb.2 _ ap.i1z).trans q
    · exact b'.at fun o q => (sb.2 _ ap.i2z).trans q
    · have lt : c < s.heap.objs.size := by
        simp only [List.mem_cons, List.not_mem_nil, or_false] at hcm
        rcases hcm with rfl | rfl | rfl | rfl | rfl
        · exact zlt
        · exact Heap.lt_size hI
        · exact Heap.lt_size hO
        · exact let ⟨_, q, _⟩ := ha; Heap.lt_size q
        · exact let ⟨_, q, _⟩ := hb; Heap.lt_size q
      rw [upd_ne (Nat.ne_of_lt lt)]
      exact (hf c hcm).1
  done := by
    intro X hP hw hK hc i pins s σ H E I hf st hg
    subst hP hw hK
    obtain ⟨hz, hI, ⟨x0, y0, hO⟩, ha, hb⟩ := st
    obtain ⟨xs, ys, sx, sy, hend⟩ := hg
    obtain ⟨us, ru, pu, _⟩ := I.tuple sx
    obtain ⟨vs, rv, pv, _⟩ := I.list sy
    have l1 := ru.length
    have l2 := rv.length
    exact nextM_end (I.ok.hd hc) ap hz hI hO ha hb pu pv.isList (hend.elim (fun q => .inl (by simp; omega)) fun q => .inr (by simp; omega)) fun h' old => ⟨rfl, I.turnedL (t' := s.toks) (ch := [z, tI, tO, ia, ib]) (fun c o hn q =>
      old c o (fun q' => hn (by simp [q'])) (fun q' => hn (by simp [q'])) (fun q' => hn (by simp [q'])) (fun q' => hn (by simp [q'])) q) hf⟩
  self := fun A i s Q E st h => wpAny_pyIter_zip st.1 h
def iM (K : PySem.W.Frag) (ta : TA) : TI := fun σ H R => ta σ H fun vs H1 => ∃ a b xs ys, vs = [.ref a, .ref b] ∧ SqT K H1 a xs ∧ SqL K H1 b ys ∧ R (ItM K a b) H1
theorem pi_M {X : Cx} {e e2 : Expr} {ta : TA} {p pos tpos : Pos} {elts : List Expr} {kk : Nat} (hg : Gl X "zip") (hm : X.mg "zip" = none) (ha : PA X [e, e2] ta)
    (hs : starEach [e, e2] X.env = (false, eval e X.env) :: starEach [e2] X.env := by rfl) (hpl : (backTo pos (starEach [e2] X.env)).any (·.1) = false := by rfl) :
    PI X (.Tuple elts kk tpos) (.Call (.Name "zip" p) [e, e2] [] pos) (iM X.K ta) := by
  refine ⟨fun pins s σ H R I h => ?_⟩
  refine Call_ (ld_blt I hg hm PyProof.Rows.boot_zip (PyProof.Rows.callWith_type1 (thn (ha.run pos pins s σ H _ I h) fun us s1 ⟨vs, H1, I1, r1, q1⟩ => ?_) hs hpl))
  obtain ⟨a, b, xs, ys, rfl, sx, sy, q1⟩ := q1
  obtain ⟨wu, ru, pu, _⟩ := I1.tuple sx
  obtain ⟨wv, rv, pv, _⟩ := I1.list sy
  cases r1 with
  | cons r rr =>
    cases rr with
    | cons r' rr =>
      cases rr
      cases r
      cases r'
      refine zip_begins2 (begins_tuple a wu.toArray) (begins_list b wv.toArray) pu pv.isList fun h' hz hI hO h1 h2 sz old => wpAny_pyIter_zip hz ?_
      have I2 : Inv X pins σ H1 { s1 with heap := h' } := I1.kept (t' := s1.toks) old
      have alt : a < s1.heap.objs.size := by obtain ⟨o, q, _⟩ := id pu; exact Heap.lt_size q
      refine ⟨s1.heap.objs.size + 4, [s1.heap.objs.size + 4, s1.heap.objs.size + 2, s1.heap.objs.size + 3, s1.heap.objs.size, s1.heap.objs.size + 1], _, _, H1, rfl, I2, turn_M (PySem.W.ktu_apart s1.heap.objs.size a b alt pv.lt), ⟨hz, hI, ⟨_, _, hO⟩, ⟨_, h1, rfl, rfl⟩, ⟨_, h2, rfl, rfl⟩⟩, fun c hcm => ?_, q1⟩
      have le : s1.heap.objs.size ≤ c := by
        simp only [List.mem_cons, List.not_mem_nil, or_false] at hcm
        rcases hcm with rfl | rfl | rfl | rfl | rfl <;> omega
      exact I1.fpOk le (I1.hok.fresh le)
theorem walks_M {K : PySem.W.Frag} {B : Hp} {x z : Addr} {xs zs : List V} {ds es : List D} (hq : SqT K B x xs) (r : Reps K B xs ds) (hq2 : SqL K B z zs) (r2 : Reps K B zs es) : Walks K B (ItM K x z) (zipD ds es) := fun i B2 G2 H2 σ2 ρ2 e o => by
  have p1 : SqT K H2 x xs := ex_t o.s.ex (ex_t e hq)
  have p2 : SqL K H2 z zs := ex_l o.s.ex (ex_l e hq2)
  refine ⟨fun d hd => ?_, fun hl => ⟨xs, zs, p1, p2, by rw [zipD_len] at hl; rw [r.length, r2.length]; omega⟩⟩
  rw [zipD_get] at hd
  cases h1 : ds[i]? with
  | none => rw [h1] at hd; cases hd
  | some a =>
    cases h2 : es[i]? with
    | none => rw [h1, h2] at hd; cases hd
    | some c =>
      rw [h1, h2] at hd
      cases hd
      obtain ⟨u, hu, ru⟩ := r.get' h1
      obtain ⟨w, hw, rw_⟩ := r2.get' h2
      refine ⟨⟨xs, zs, u, w, p1, p2, hu, hw⟩, fun v H' ⟨T, x', y', ev, hT, eH, hx', hy'⟩ => ?_⟩
      subst ev; subst eH
      have e1 : x' = u := by have z := hx' xs p1; rw [hu] at z; exact (Option.some.inj z).symm
      have e2 : y' = w := by have z := hy' zs p2; rw [hw] at z; exact (Option.some.inj z).symm
      subst e1; subst e2
      obtain ⟨e3, o3⟩ := o.grow (u := .tup [x', y']) hT
      exact ⟨_, e3, o3, .tup upd_same (.cons ((ru.up e).up e3) (.cons ((rw_.up e).up e3) .nil))⟩
section
variable {X : Cx} {Z : Zx} {e e2 : Expr} {ρ : En} {Φ : List D → En → Prop} {p pos tpos : Pos} {elts : List Expr} {kk : Nat}
/-- for x, y in zip(e, e2), a tuple of the module and a list -/
theorem ic_zipM (hm : X.mg "zip" = none) (h : AC X Z [e, e2] ρ fun ds ρ1 => ∃ as bs, ds = [.ktup as, .lst bs] ∧ Φ (zipD as bs) ρ1) (hg : Gl X "zip" := by rfl)
    (hs : starEach [e, e2] X.env = (false, eval e X.env) :: starEach [e2] X.env := by rfl) (hpl : (backTo pos (starEach [e2] X.env)).any (·.1) = false := by rfl) : IC X Z (.Tuple elts kk tpos) (.Call (.Name "zip" p) [e, e2] [] pos) ρ Φ := fun B G H σ o z R q =>
  (pi_M hg hm p_wA hs hpl).w (h B G H σ o z _ fun ds ρ1 vs B1 H1 ⟨as, bs, hd, h1⟩ e1 o1 r1 => by
    subst hd
    cases r1 with
    | cons r rs =>
      cases rs with
      | cons r' rs =>
        cases rs
        cases r with
        | ktup hq rr =>
          cases r' with
          | lst hq' rr' => exact ⟨_, _, _, _, rfl, ex_t o1.s.ex hq, ex_l o1.s.ex (sq_of hq'), q _ ρ1 _ B1 H1 h1 e1 o1 (walks_M hq rr (sq_of hq') rr')⟩)
end
end AL
namespace AL
open PySem PySem.Spec PyProof.Rows L2 Evl RZ
section
variable {X : Cx} {Z : Zx} {a b : Expr} {ρ : En} {Φ : D → En → Prop} {pos : Pos}
/-- a + b, two tuples -/
theorem ec_catT (h : EC X Z a ρ fun d ρ1 => EC X Z b ρ1 fun d' ρ2 => ∃ ds es, d = .tup ds ∧ d' = .tup es ∧ ds.length + es.length ≤ 100000 ∧ Φ (.tup (ds ++ es)) ρ2) : EC X Z (.BinOp a .Add b pos) ρ Φ := fun B G H σ o z Q q =>
  (pe_op op_catA p_wE p_wE).w (h B G H σ o z _ fun d ρ1 v B1 H1 h1 e1 o1 r1 => h1 B1 G H1 σ o1 (z.up e1) _ fun d' ρ2 y B2 H2 ⟨ds, es, hd, hd', hl, k⟩ e2 o2 r2 => by
    subst hd; subst hd'
    have r1' := r1.up e2
    cases r1' with
    | @tup p xs _ hq rr =>
      cases r2 with
      | @tup p2 ys _ hq2 rr2 =>
        refine ⟨_, _, _, _, rfl, rfl, ex_t o2.s.ex (st_of hq), ex_t o2.s.ex (st_of hq2), by rw [rr.length, rr2.length]; exact sz_of hl, fun hx => ?_, fun hx hy => ?_, fun hx hy q' hq' => ?_⟩
        · subst hx
          cases rr
          exact q _ ρ2 _ _ _ k (e1.trans e2) o2 (.tup hq2 rr2)
        · subst hy
          cases rr2
          rw [List.append_nil] at k
          exact q _ ρ2 _ _ _ k (e1.trans e2) o2 (.tup hq rr)
        · obtain ⟨e3, o3⟩ := o2.grow (u := .tup (xs ++ ys)) hq'
          exact q _ ρ2 _ _ _ k ((e1.trans e2).trans e3) o3 (.tup upd_same (Reps.app (rr.up e3) (rr2.up e3))))
end
end AL
namespace T34
open PySem PySem.Spec PyProof.Rows L2 Evl AL
/-! ### deed_in -/
def kP : Str := "place"
def kV : Str := "value"
def kindsOf (x : Str) : Option (List Str) := if x = "get" then some [kP] else if x = "put" then some [kP, kV] else if x = "look" then some [] else if x = "tour" then some [kV] else if x = "propose" then some [kV] else if x = "add_if" then some [kP, kV, kV] else if x = "move" then some [kP] else none
theorem kinds_len {x : Str} {ks : List Str} (h : kindsOf x = some ks) : ks.length ≤ 3 := by
  unfold kindsOf at h
  repeat' split at h
  all_goals first | (obtain rfl := Option.some.inj h; decide) | cases h
/-- what the dict of the module has at a word -/
def KindAt (K : PySem.W.Frag) (dd : Addr) (z : Str) : Prop := match kindsOf z with
  | none => PySem.W.nsIn K dd z = some none
  | some ks => ∃ (u0 : Value) (v0 : V), PySem.W.nsIn K dd z = some (some u0) ∧ RelV v0 u0 ∧ ∀ B : Hp, Rep K B v0 (.ktup (strsD ks))
def selV (r : Str × Str) : Option Int := if r.1 = "value" then valIn r.2 else numIn r.2
def numsOf (ks ws : List Str) : List (Option Int) := (ks.zip (ws.drop 1)).map selV
def dedN (ws : List Str) : Option (List (Option Int)) := match kindsOf (w0 ws) with
  | none => none
  | some ks => if ws.length ≠ ks.length + 1 then none else if none ∈ numsOf ks ws then none else some (numsOf ks ws)
def dedD (ws : List Str) : D := match dedN ws with
  | none => .non
  | some ns => .tup (.str (w0 ws) :: ns.map oI)
def pairSD (r : Str × Str) : D := .tup [.str r.1, .str r.2]
theorem zipD_strs : ∀ as bs : List Str, zipD (strsD as) (strsD bs) = (as.zip bs).map pairSD
  | [], bs => by cases bs <;> rfl
  | a :: as, [] => rfl
  | a :: as, b :: bs => by
    show D.tup [.str a, .str b] :: zipD (strsD as) (strsD bs) = _
    rw [zipD_strs as bs]; rfl
def S_ded (ds : List D) (Ψ : D → Prop) : Prop := ∃ ws : List Str, ds = [.lst (strsD ws)] ∧ WsOk ws ∧ Ψ (dedD ws)
theorem m_ded : MonoF S_ded := fun ds Φ Φ' g ⟨x, h1, h2, h3⟩ => ⟨x, h1, h2, g _ h3⟩
section
variable {P : Program} {w : World} {K : PySem.W.Frag} {mg : Str → Option Value} {base : Heap} {f : Addr} {fd : FuncData} {tV : Tok} {dd : Addr} {es : Array DictEntry} {nn : Nat}
theorem c_ded (F : FunN K "deed_in" s_deed_in f fd) (hm : mg "deed_in" = some (.ref f)) (b : Blt mg) (hz : mg "zip" = none) (hV : mg "VALUE" = some (.str "value" tV)) (hD : mg "DEEDS" = some (.ref dd)) (Dk : KDict K w dd es nn) (kd : ∀ z, KindAt K dd z)
    (c1 : KF P w K mg base "number_in" 1 1 S_num) (c2 : KF P w K mg base "value_in" 2 1 S_val) : KF P w K mg base "deed_in" 3 1 S_ded := ⟨by
  have nd : (["words", "kinds", "numbers", "kind", "word"] : List Str).Nodup := by decide +kernel
  refine cal_fn F hm (N := ["words", "kinds", "numbers", "kind", "word"]) (ps := ["words"]) ⟨rfl, rfl, rfl, nd, rfl, by decide +kernel, by decide +kernel⟩ rfl (fun _ _ _ _ _ _ us hl => match us, hl with | [_], _ => rfl) ?_
  rintro cdv A outer s H E hr ds Ψ hl ⟨ws, rfl, ok, hd⟩
  obtain ⟨a0, m0⟩ := w0_at ok.ne
  have hk := kd (w0 ws)
  have wl := ok.len
  unfold dedD dedN at hd
  unfold KindAt at hk
  refine sc_if (tc_kdni Dk hD (ec_ix (ec_var 0 rfl (ec_int ⟨_, 0, .str (w0 ws), rfl, rfl, a0, ?_⟩))))
  cases ek : kindsOf (w0 ws) with
  | none =>
    rw [ek] at hk hd
    exact ⟨w0 ws, none, rfl, hk, fun _ => sc_ret (ec_non hd), (fun z => nomatch z)⟩
  | some ks =>
    rw [ek] at hk hd
    obtain ⟨u0, v0, hn, hr0, hp⟩ := hk
    have kl := kinds_len ek
    refine ⟨w0 ws, some u0, rfl, hn, (fun z => nomatch z), fun _ => sc_nil ?_⟩
    show SC _ _ _ _ _
    refine sc_set 1 (ec_kdix Dk hD (ec_ix (ec_var 0 rfl (ec_int ⟨_, 0, .str (w0 ws), rfl, rfl, a0, w0 ws, u0, v0, .ktup (strsD ks), rfl, hn, hr0, hp, ?_⟩)))) nd
    have ll : (strsD ws).length = ws.length := by unfold strsD; rw [List.length_map]
    have lk : (strsD ks).length = ks.length := by unfold strsD; rw [List.length_map]
    refine sc_if (tc_neS (ec_len (ac_cons (ec_var 0 rfl (ac_nil ⟨_, _, rfl, rfl, ec_add (ec_len (ac_cons (ec_var 1 rfl (ac_nil ⟨_, _, rfl, rfl, ec_int ⟨_, _, rfl, rfl, ?_⟩⟩))) b.len)⟩))) b.len))
    refine ⟨decide ((ws.length : Int) = (ks.length : Int) + 1), by rw [ll, lk]; rfl, ?_⟩
    by_cases h1 : ws.length = ks.length + 1
    rotate_left
    · have e : (!decide ((ws.length : Int) = (ks.length : Int) + 1)) = true := by simp; omega
      replace hd : Ψ (match (if ws.length ≠ ks.length + 1 then none else if none ∈ numsOf ks ws then none else some (numsOf ks ws) : Option (List (Option Int))) with
        | none => .non
        | some ns => .tup (.str (w0 ws) :: ns.map oI)) := hd
      rw [if_pos h1] at hd
      exact ⟨fun _ => sc_ret (ec_non hd), fun z => absurd (e.symm.trans z) (by decide)⟩
    have e : (!decide ((ws.length : Int) = (ks.length : Int) + 1)) = false := by simp; omega
    replace hd : Ψ (match (if ws.length ≠ ks.length + 1 then none else if none ∈ numsOf ks ws then none else some (numsOf ks ws) : Option (List (Option Int))) with
        | none => .non
        | some ns => .tup (.str (w0 ws) :: ns.map oI)) := hd
    rw [if_neg (fun z => z h1)] at hd
    refine ⟨fun z => absurd (e.symm.trans z) (by decide), fun _ => sc_nil ?_⟩
    show SC _ _ _ _ _
    have zl : (ks.zip (ws.drop 1)).length ≤ 3 := by rw [List.length_zip]; omega
    refine sc_M 2 (ks.zip (ws.drop 1)) pairSD (fun r => oI (selV r)) [("kind", 3), ("word", 4)] [3, 4] (ic_zipM hz (ac_cons (ec_var 1 rfl (ac_cons (ec_slLo (ec_var 0 rfl (ec_int ⟨strsD ws, 1, rfl, rfl, ac_nil ⟨strsD ks, (strsD ws).drop 1, rfl, ?_, ?_, rfl, fun r hr' => ?_, fun p1 => ?_⟩⟩))))))) nd (by decide)
    · unfold strsD; rw [← List.map_drop]; exact zipD_strs ks (ws.drop 1)
    · omega
    · have yo := ok.wd r.2 (List.mem_of_mem_drop (List.of_mem_zip hr').2)
      intro s3 H3 C3 cl3 fp3
      refine gt_tup ⟨rfl, ⟨_, rfl⟩, rfl⟩ (gts_cons (gt_name 3 (gts_cons (gt_name 4 (gts_nil ?_) nd)) nd))
      intro s4 H4 C4 cl4 fp4
      refine ec_if (tc_eqS (ec_var 3 rfl (ec_gs hV ⟨decide (r.1 = "value"), rfl, ?_⟩)))
      unfold selV
      by_cases h2 : r.1 = "value"
      · rw [decide_eq_true h2, if_pos h2]
        exact ⟨fun _ => ec_cf c2.c (hr.mono (by omega)) (pass_0 passL) c2.m (ac_cons (ec_var 4 rfl (ac_nil ⟨rfl, r.2, rfl, by have := yo.1; omega, rfl, rfl⟩))), (fun z => nomatch z)⟩
      · rw [decide_eq_false h2, if_neg h2]
        exact ⟨(fun z => nomatch z), fun _ => ec_cf c1.c (hr.mono (by omega)) (pass_0 passL) c1.m (ac_cons (ec_var 4 rfl (ac_nil ⟨rfl, r.2, rfl, by have := yo.1; omega, rfl, rfl⟩)))⟩
    refine sc_frz 2 rfl ?_
    have en : (ks.zip (ws.drop 1)).map (fun r => oI (selV r)) = (numsOf ks ws).map oI := by unfold numsOf; rw [List.map_map]; rfl
    rw [en]
    show SC _ _ _ [some (.im (.lst (strsD ws))), some (.im (.ktup (strsD ks))), some (.im (.lst ((numsOf ks ws).map oI))), none, none] _
    refine sc_ret (ec_if (tc_inY YO (u65 hr) (ec_non (ec_var 2 rfl ⟨none, numsOf ks ws, rfl, rfl, ?_⟩))))
    refine ⟨fun z => ?_, fun z => ?_⟩
    · have h0 : none ∈ numsOf ks ws := by simpa using z
      rw [if_pos h0] at hd
      exact ec_non hd
    have h0 : ¬ none ∈ numsOf ks ws := by simpa using z
    rw [if_neg h0] at hd
    refine ec_catT (ec_tup (ac_cons (ec_ix (ec_var 0 rfl (ec_int ⟨_, 0, .str (w0 ws), rfl, rfl, a0, ac_nil ⟨by show 1 ≤ 100000; omega, ?_⟩⟩)))))
    refine ec_cty call_tuple_of boot_tuple b.tuple (ac_cons (ec_var 2 rfl (ac_nil ⟨_, gb_tuple rfl (fun _ h => nomatch h), ?_⟩)))
    rintro d rfl
    refine ⟨_, _, rfl, rfl, ?_, hd⟩
    have : (numsOf ks ws).length ≤ 3 := by unfold numsOf; rw [List.length_map]; exact zl
    rw [List.length_map]
    show 1 + _ ≤ _
    omega
  , m_ded⟩
end
end T34
/-! Errors whose field is line. -/
namespace AX
open PySem PySem.W PySem.Calls PyProof.Rows
section
variable {prog : Program} {w : World} {A : Around} {E : Value → Shared → Prop} {R : Result → Shared → Prop} {s : Shared} {K : Frag} {C fI : Addr} {q : Str}
theorem init_line (T : Cls1 K C fI "line") (I : Ini1 K fI q "line") {x t0 : Addr} {v : Value} (X : K.In s.heap) (hlim : s.heap.NoLimit) (hx : s.heap.get? x = some (excObj C t0 none .none)) (hroom : A.depth < recursionLimit)
    (hq : ∀ h' tk dx, End1 s.heap h' x C dx t0 "line" v → R (.ok (.ret .none)) { s with heap := h', toks := tk }) :
    codeAny (model prog w) A (.call (.ref fI) ⟨[.ref x, v], []⟩) R s := by
  obtain ⟨oc, od, doc, pm, an, cdv, ct, osl, p1, p2, q1, q2, q3, q4, ho, hcd⟩ := I.fn
  refine Att.call_fn (binds := [("self", .ref x), ("line", v)]) X hlim ho hcd hroom (BindsTo.of_eq (by first | rfl | with_unfolding_all rfl)) (by first | rfl | decide | with_unfolding_all rfl) (fun s1 IC => ?_) rfl rfl rfl
  obtain ⟨h1, tk1, rfl⟩ := IC.toInCall.same
  have k : ∀ b o, s.heap.get? b = some o → h1.get? b = some o := IC.toInCall.keep
  have hn := IC.toInCall.ns
  have X1 : K.In h1 := X.keeps k
  have hx1 := k _ _ hx
  show wpAny _ _ (execs _ _) _ _ _
  refine wpAny_execs_cons (plainObj_wpAny_Assign_Attribute ?_)
  refine loc1 (v := v) hn (by first | rfl | with_unfolding_all rfl | kernel_rfl) (loc1 (v := .ref x) hn (by first | rfl | with_unfolding_all rfl | kernel_rfl) ?_ rfl rfl (by decide)) rfl rfl (by decide)
  refine set_plain X1 (ox := excObj C t0 none .none) (od := none) ⟨hx1, rfl, rfl, trivial⟩ T.sa ?_
  refine store1 T (s := _) X1 hx1 (fun h3 tk3 dx k3 dn dne hx3 hn3 => ?_)
  show wpAny _ _ (execs _ _) _ _ _
  have z : s.heap.objs.size < h1.objs.size := hn.lt
  exact wpAny_execs_nil (hq h3 tk3 dx ⟨fun b o hb e => k3 b o hb (k b o e), hx3, Nat.le_of_lt (Nat.lt_of_lt_of_le z dn), dne, hn3⟩)
theorem made_line (T : Cls1 K C fI "line") (I : Ini1 K fI q "line") {v : Value} (X : K.In s.heap) (hlim : s.heap.NoLimit) (hroom : A.depth + 1 < recursionLimit)
    (hq : ∀ h' tk e d, Made1 s.heap h' e C d "line" v → R (.ok (.ret (.ref e))) { s with heap := h', toks := tk }) :
    codeAny (model prog w) A (.call (.ref C) ⟨[v], []⟩) R s := by
  obtain ⟨nm, N, qn, bs, bm, hdct, sn, sub, ab, col, dd, k0, k1, k2, k3, k5, hC, hT⟩ := excInit_of X T.xi
  obtain ⟨oI, hoI, hcI⟩ : ∃ oI, s.heap.get? fI = some oI ∧ oI.cls = .type "function" := by
    obtain ⟨o, ho, hc⟩ := Option.map_eq_some_iff.mp (show (K.lookup fI).map (·.cls) = some (.type "function") from beq_iff_eq.mp T.fn)
    exact ⟨o, X _ _ ho, hc⟩
  obtain ⟨hp, g, dr, tk, os⟩ := s
  have k : ∀ b o, hp.get? b = some o → ((hp.push (excTup [v])).push (excObj C hp.objs.size none .none)).get? b = some o := fun b o e => Heap.get?_push_of_some _ (Heap.get?_push_of_some _ e)
  have hget : ((hp.push (excTup [v])).push (excObj C hp.objs.size none .none)).get? (hp.objs.size + 1) = some (excObj C hp.objs.size none .none) := by heap_get
  refine PX.call_own F.excBase_Exception hT hC (looks_findIn X T.iC) (fun self => exc_bind hoI hcI self) (size1 v) ?_
  refine init_line (s := ⟨(hp.push (excTup [v])).push (excObj C hp.objs.size none .none), g, dr, tk, os⟩) T I (X.keeps k) (hlim.keeps k) hget ?_ fun h' tk' dx M => ?_
  · show A.depth + 1 < recursionLimit
    exact hroom
  · obtain ⟨k', hx, dn, dne, hns⟩ := M
    have old : ∀ b o, hp.get? b = some o → h'.get? b = some o := fun b o e => k' b o (Nat.ne_of_lt (Nat.lt_succ_of_lt (Heap.lt_size e))) (k b o e)
    have z : hp.objs.size + 1 + 1 ≤ dx := by
      have q := dn
      simp only [Heap.size_push] at q
      exact q
    exact ⟨rfl, hq h' tk' (hp.objs.size + 1) dx ⟨old, Nat.le_succ _, ⟨_, _, hx, rfl, rfl, rfl, rfl⟩, Nat.le_trans (Nat.le_trans (Nat.le_succ _) (Nat.le_succ _)) z, dne, hns⟩⟩
end
end AX
namespace AL
open PySem PySem.Spec PyProof.Rows L2 Evl
theorem relO_line {v : V} {v' : Value} (r : RelV v v') (g : Str) : RelO (List.lookup g [(("line" : Str), v)]) (if g = "line" then some v' else none) := by
  by_cases hw : g = "line"
  · subst hw
    rw [if_pos rfl]
    have q : List.lookup ("line" : Str) [(("line" : Str), v)] = some v := by simp [List.lookup]
    rw [q]
    exact r
  · rw [if_neg hw]
    have qw : (g == ("line" : Str)) = false := by simpa using hw
    have q2 : List.lookup g [(("line" : Str), v)] = none := by simp [List.lookup, qw]
    rw [q2]
    trivial
section
variable {X : Cx} {Z : Zx} {C fI : Addr} {q x : Str} {a : Expr} {ta : TA} {p pos pos2 : Pos} {k : Nat} {ρ : En} {O : Outs} {sts : List Stmt}
def tMk_line (C : Addr) (ta : TA) : L2.St → Hp → XK → Prop := fun σ H Q => ta σ H fun vs H1 => ∃ v, vs = [v] ∧ ∀ d, H1 d = none → Q (.ref C) (some d) (upd H1 d (.xd [(("line" : Str), v)]))
theorem pmk_line (T : AX.Cls1 X.K C fI "line") (I : AX.Ini1 X.K fI q "line") (hm : X.mg x = some (.ref C)) (hr : Room k X.A) (ha : PA X [a] ta) (hg : Gl X x) (hdb : (x == ("__debug__" : Str)) = false)
    (he : starEach (a :: []) X.env = (false, eval a X.env) :: starEach [] X.env) (hpl : (backTo pos (starEach [] X.env)).any (·.1) = false) :
    PMk X (.Call (.Name x p) [a] [] pos) (tMk_line C ta) := by
  intro pins s σ H Q I0 h
  refine wpAny_Call_Name_kw (ld_glob I0 hg hm ?_ hdb)
  refine PySem.W.callWith_K (h₀ := X.base) I0.ok.mod.kin T.kp (thn (ha.run pos pins s σ H _ I0 h) fun us s1 hh => ?_) he hpl
  obtain ⟨vs, H1, I1, r1, v, ev, q1⟩ := hh
  subst ev
  refine ⟨I1.kIn, ?_⟩
  cases r1 with
  | @cons _ v' _ _ rv rn =>
    cases rn
    show wpAny _ _ (call (.ref C) [v']) _ _ _
    have hlim := I1.nolimit
    obtain ⟨hp, g, dr, tk, os⟩ := s1
    refine wpAny_call (AX.made_line T I I1.kIn hlim (by have := hr.dp; omega) fun h' tk' e d M => ?_)
    show MkP X pins σ Q (.ref e) ⟨h', g, dr, tk', os⟩
    obtain ⟨oe, fv, hoe, hc, hd, hdat, h1⟩ := M.obj
    have hns := M.ns
    obtain ⟨G', g1, g2⟩ := restrict h' fun b => decide (b ≠ e)
    have gk : ∀ b, b ≠ e → G'.get? b = h'.get? b := fun b hb => g1 b (decide_eq_true hb)
    have ge : G'.get? e = none := g2 e (by simp)
    have old : ∀ b o, hp.get? b = some o → G'.get? b = some o := fun b o q => (gk b (Nat.ne_of_lt (Nat.lt_of_lt_of_le (Heap.lt_size q) M.new))).trans (M.keep b o q)
    have ob : ObjOk X.prog X.w (upd H1 d (.xd [(("line" : Str), v)])) G' d (.xd [(("line" : Str), v)]) :=
      ⟨_, hns.at (fun o q => (gk d M.dne).trans q), fun f => relO_line rv f⟩
    have J : Inv X pins σ (upd H1 d (.xd [(("line" : Str), v)])) ⟨G', g, dr, tk', os⟩ := I1.laid (t' := tk') old M.dbig ob
    refine ⟨e, oe, fv, ⟨G', g, dr, tk', os⟩, _, .ref C, some d, rfl, J, fun b o q => ?_, ge, hoe, ⟨hc, hd⟩, hdat, h1, ?_, rfl, I1.bare, raises_own T.sub T.ty, q1 d (I1.hok.fresh M.dbig)⟩
    · by_cases hb : b = e
      · have q' : G'.get? b = some o := q
        rw [hb, ge] at q'; cases q'
      · exact (gk b hb).symm.trans q
    · rw [upd_ne (Ne.symm M.dne)]
      exact I1.hok.fresh M.new
/-- raise X(e) -/
theorem sc_raise_line (T : AX.Cls1 X.K C fI "line") (I : AX.Ini1 X.K fI q "line") (hm : X.mg x = some (.ref C)) (hr : Room k X.A) (tk : Takes X Z.E) (h : EC X Z a ρ fun d ρ1 => Z.R C [("line", d)] ρ1) (hc : X.calm = true := by rfl) (hg : Gl X x := by rfl) (hdb : (x == ("__debug__" : Str)) = false := by decide)
    (he : starEach (a :: []) X.env = (false, eval a X.env) :: starEach [] X.env := by rfl) (hpl : (backTo pos (starEach [] X.env)).any (·.1) = false := by rfl) :
    SC X Z (.Raise (some (.Call (.Name x p) [a] [] pos)) none pos2 :: sts) ρ O :=
  sc_of (ps_raise hc tk (pmk_line T I hm hr (pa_cons p_wE pa_nil he) hg hdb he hpl)) fun B G H σ Dd o z s => h B G H σ o z _ fun d ρ1 v B1 H1 h1 e1 o1 r1 => ⟨v, rfl, fun dd hd => by
    obtain ⟨e2, of⟩ := o1.grow (u := .xd [(("line" : Str), v)]) hd
    exact z C _ (some dd) _ _ _ ρ1 h1 (e1.trans e2) of ⟨dd, _, rfl, upd_same, .cons (r1.up e2) .nil⟩⟩
end
end AL
namespace T34
open PySem PySem.Spec PyProof.Rows L2 Evl AL
/-! ### begin_in, event_in, schedule_from -/
def bgnD (ws : List Str) : D := if numIn (w0 ws) = none ∨ dedN (ws.drop 1) = none then .non else .tup [.str "begin", oI (numIn (w0 ws)), dedD (ws.drop 1)]
def evI (ws : List Str) : D := if w0 ws = "begin" ∧ 2 < ws.length then bgnD (ws.drop 1) else if w0 ws = "hand" ∧ ws.length = 5 then hnD (ws.getD 1 "") (ws.getD 2 "") (ws.getD 3 "") (ws.getD 4 "") else plnD ws
def S_bgn (ds : List D) (Ψ : D → Prop) : Prop := ∃ ws : List Str, ds = [.lst (strsD ws)] ∧ WsOk ws ∧ 2 ≤ ws.length ∧ Ψ (bgnD ws)
theorem m_bgn : MonoF S_bgn := fun ds Φ Φ' g ⟨x, h1, h2, h3, h4⟩ => ⟨x, h1, h2, h3, g _ h4⟩
def S_evi (ds : List D) (Ψ : D → Prop) : Prop := ∃ ws : List Str, ds = [.lst (strsD ws)] ∧ WsOk ws ∧ Ψ (evI ws)
theorem m_evi : MonoF S_evi := fun ds Φ Φ' g ⟨x, h1, h2, h3⟩ => ⟨x, h1, h2, g _ h3⟩
theorem WsOk.tail {ws : List Str} (h : WsOk ws) (l : 2 ≤ ws.length) : WsOk (ws.drop 1) := ⟨fun e => by have := congrArg List.length e; rw [List.length_drop] at this; simp at this; omega, by rw [List.length_drop]; have := h.len; omega, fun x hx => h.wd x (List.mem_of_mem_drop hx)⟩
theorem non_ded (ws : List Str) : isNonD (dedD ws) = decide (dedN ws = none) := by
  unfold dedD
  cases dedN ws <;> simp [isNonD]
theorem non_oI (o : Option Int) : isNonD (oI o) = decide (o = none) := by cases o <;> simp [isNonD, oI]
structure EF (K : PySem.W.Frag) (mg : Str → Option Value) (x : Str) (C : Addr) (fld : Str) : Prop where
  mg : mg x = some (.ref C)
  ci : ∃ fI q, AX.Cls1 K C fI fld ∧ AX.Ini1 K fI q fld
def WOk (y : Str) : Prop := y.length ≤ 10000 ∧ (Txt.split y " ").length ≤ 20000 ∧ WsOk (wordsIn y)
abbrev linesIn (x : Str) : List (Nat × Str) := cntL 0 (Txt.split x "\n")
def evAt (r : Nat × Str) : D := evI (wordsIn r.2)
structure SchOk (x : Str) : Prop where
  l0 : x.length ≤ 100000
  l1 : (Txt.split x "\n").length ≤ 1000
  l2 : ∀ y ∈ Txt.split x "\n", y.length ≤ 100000
  wo : ∀ r ∈ linesIn x, WOk r.2
def X_sch (BT : Addr) (ds : List D) (Ψ : D → Prop) (Er : Er) : Prop := ∃ x : Str, ds = [.str x] ∧ SchOk x ∧
  ((∃ (i : Nat) (r : Nat × Str), (linesIn x)[i]? = some r ∧ isNonD (evAt r) = true ∧ (∀ q ∈ (linesIn x).take i, isNonD (evAt q) = false) ∧ Er BT [("line", .int (r.1 : Int))]) ∨
    ((∀ q ∈ linesIn x, isNonD (evAt q) = false) ∧ Ψ (.tup ((linesIn x).map evAt))))
theorem mx_sch (BT : Addr) : MonoX (X_sch BT) := fun ds Φ Φ' Ψ Ψ' h g ⟨x, h1, h2, h3⟩ => ⟨x, h1, h2, h3.imp (fun ⟨i, r, a, b, c, d⟩ => ⟨i, r, a, b, c, g _ _ d⟩) fun ⟨a, b⟩ => ⟨a, h _ b⟩⟩
section
variable {P : Program} {w : World} {K : PySem.W.Frag} {mg : Str → Option Value} {base : Heap} {f BT : Addr} {fd : FuncData}
theorem c_bgn (F : FunN K "begin_in" s_begin_in f fd) (hm : mg "begin_in" = some (.ref f)) (c1 : KF P w K mg base "number_in" 1 1 S_num) (c2 : KF P w K mg base "deed_in" 3 1 S_ded) : KF P w K mg base "begin_in" 4 1 S_bgn := ⟨by
  have nd : (["words", "house", "deed"] : List Str).Nodup := by decide +kernel
  refine cal_fn F hm (N := ["words", "house", "deed"]) (ps := ["words"]) ⟨rfl, rfl, rfl, nd, rfl, by decide +kernel, by decide +kernel⟩ rfl (fun _ _ _ _ _ _ us hl => match us, hl with | [_], _ => rfl) ?_
  rintro cdv A outer s H E hr ds Ψ hl ⟨ws, rfl, ok, l2, hd⟩
  obtain ⟨a0, m0⟩ := w0_at ok.ne
  refine sc_set 1 (ec_cf c1.c (hr.mono (by omega)) (pass_0 passL) c1.m (ac_cons (ec_ix (ec_var 0 rfl (ec_int ⟨_, 0, .str (w0 ws), rfl, rfl, a0, ac_nil ⟨rfl, w0 ws, rfl, by have := (ok.wd _ m0).1; omega, ?_⟩⟩))))) nd
  refine sc_set 2 (ec_cf c2.c hr (pass_0 passL) c2.m (ac_cons (ec_slLo (ec_var 0 rfl (ec_int ⟨strsD ws, 1, rfl, rfl, ac_nil ⟨rfl, ws.drop 1, by unfold strsD; rw [List.map_drop], ok.tail l2, ?_⟩⟩))))) nd
  refine sc_ret (ec_if (tc_w (wc_or (tc_isN (ec_var 1 rfl ?_)))))
  unfold bgnD at hd
  rw [non_oI]
  by_cases h1 : numIn (w0 ws) = none
  · rw [if_pos (.inl h1)] at hd
    rw [decide_eq_true h1]
    exact ⟨(fun z => nomatch z), fun _ => ⟨fun _ => ec_non hd, (fun z => nomatch z)⟩⟩
  rw [decide_eq_false h1]
  refine ⟨fun _ => wc_or1 (tc_isN (ec_var 2 rfl ?_)), (fun z => nomatch z)⟩
  rw [non_ded]
  by_cases h2 : dedN (ws.drop 1) = none
  · rw [if_pos (.inr h2)] at hd
    rw [decide_eq_true h2]
    exact ⟨fun _ => ec_non hd, (fun z => nomatch z)⟩
  rw [decide_eq_false h2]
  rw [if_neg fun z => z.elim h1 h2] at hd
  exact ⟨(fun z => nomatch z), fun _ => ec_tup (ac_cons (ec_str (ac_cons (ec_var 1 rfl (ac_cons (ec_var 2 rfl (ac_nil ⟨by show 3 ≤ 100000; omega, hd⟩)))))))⟩
  , m_bgn⟩
theorem c_evi (F : FunN K "event_in" s_event_in f fd) (hm : mg "event_in" = some (.ref f)) (b : Blt mg) (c1 : KF P w K mg base "begin_in" 4 1 S_bgn) (c2 : KF P w K mg base "hand_in" 2 1 S_hand) (c3 : KF P w K mg base "plain_in" 2 1 S_pln) : KF P w K mg base "event_in" 5 1 S_evi := ⟨by
  have nd : (["words"] : List Str).Nodup := by decide +kernel
  refine cal_fn F hm (N := ["words"]) (ps := ["words"]) ⟨rfl, rfl, rfl, nd, rfl, by decide +kernel, by decide +kernel⟩ rfl (fun _ _ _ _ _ _ us hl => match us, hl with | [_], _ => rfl) ?_
  rintro cdv A outer s H E hr ds Ψ hl ⟨ws, rfl, ok, hd⟩
  obtain ⟨a0, m0⟩ := w0_at ok.ne
  have ll : (strsD ws).length = ws.length := by unfold strsD; rw [List.length_map]
  unfold evI at hd
  have drop1 : ∀ ws : List Str, strsD (ws.drop 1) = (strsD ws).drop 1 := fun ws => by unfold strsD; rw [List.map_drop]
  have rest : ¬ (w0 ws = "begin" ∧ 2 < ws.length) → SC (bodyX P w K mg base ["words"] "event_in" (defScope s_event_in) f cdv A outer s H E) Z0 ((defBody s_event_in).drop 1) [some (.im (.lst (strsD ws)))] (OutP Ψ) := fun h1 => by
    rw [if_neg h1] at hd
    have plain : ¬ (w0 ws = "hand" ∧ ws.length = 5) → SC (bodyX P w K mg base ["words"] "event_in" (defScope s_event_in) f cdv A outer s H E) Z0 ((defBody s_event_in).drop 2) [some (.im (.lst (strsD ws)))] (OutP Ψ) := fun h2 => by
      rw [if_neg h2] at hd
      exact sc_ret (ec_cf c3.c (hr.mono (by omega)) (pass_0 passL) c3.m (ac_cons (ec_var 0 rfl (ac_nil ⟨rfl, ws, rfl, ok, hd⟩))))
    refine sc_if (tc_w (wc_and (tc_eqS (ec_ix (ec_var 0 rfl (ec_int ⟨_, 0, .str (w0 ws), rfl, rfl, a0, ec_str ⟨decide (w0 ws = "hand"), rfl, ?_⟩⟩))))))
    by_cases h2 : w0 ws = "hand"
    rotate_left
    · rw [decide_eq_false h2]
      exact ⟨(fun z => nomatch z), fun _ => ⟨(fun z => nomatch z), fun _ => sc_nil (plain fun z => h2 z.1)⟩⟩
    rw [decide_eq_true h2]
    refine ⟨fun _ => wc_and1 (tc_eqS (ec_len (ac_cons (ec_var 0 rfl (ac_nil ⟨_, _, rfl, rfl, ec_int ⟨decide (ws.length = 5), ?_, ?_⟩⟩))) b.len)), (fun z => nomatch z)⟩
    · rw [ll]
      show some (decide ((ws.length : Int) = 5)) = _
      congr 1
      exact decide_eq_decide.mpr (by omega)
    by_cases h3 : ws.length = 5
    rotate_left
    · rw [decide_eq_false h3]
      exact ⟨(fun z => nomatch z), fun _ => sc_nil (plain fun z => h3 z.2)⟩
    rw [decide_eq_true h3]
    refine ⟨fun _ => ?_, (fun z => nomatch z)⟩
    rw [if_pos ⟨h2, h3⟩] at hd
    match ws, h3, ok, hd with
    | [a, x1, x2, x3, x4], _, ok, hd =>
      exact sc_ret (ec_cf c2.c (hr.mono (by omega)) (pass_0 passL) c2.m (ac_cons (ec_slLo (ec_var 0 rfl (ec_int ⟨strsD [a, x1, x2, x3, x4], 1, rfl, rfl, ac_nil ⟨rfl, x1, x2, x3, x4, rfl, ok.wd _ (by simp), ok.wd _ (by simp), ok.wd _ (by simp), ok.wd _ (by simp), hd⟩⟩)))))
  refine sc_if (tc_w (wc_and (tc_eqS (ec_ix (ec_var 0 rfl (ec_int ⟨_, 0, .str (w0 ws), rfl, rfl, a0, ec_str ⟨decide (w0 ws = "begin"), rfl, ?_⟩⟩))))))
  by_cases h2 : w0 ws = "begin"
  rotate_left
  · rw [decide_eq_false h2]
    exact ⟨(fun z => nomatch z), fun _ => ⟨(fun z => nomatch z), fun _ => sc_nil (rest fun z => h2 z.1)⟩⟩
  rw [decide_eq_true h2]
  refine ⟨fun _ => wc_and1 (tc_gt (ec_len (ac_cons (ec_var 0 rfl (ac_nil ⟨_, _, rfl, rfl, ec_int ⟨_, _, rfl, rfl, ?_⟩⟩))) b.len)), (fun z => nomatch z)⟩
  rw [ll]
  have e3 : decide ((2 : Int) < (ws.length : Int)) = decide (2 < ws.length) := decide_eq_decide.mpr (by omega)
  rw [e3]
  by_cases h3 : 2 < ws.length
  rotate_left
  · rw [decide_eq_false h3]
    exact ⟨(fun z => nomatch z), fun _ => sc_nil (rest fun z => h3 z.2)⟩
  rw [decide_eq_true h3]
  rw [if_pos ⟨h2, h3⟩] at hd
  exact ⟨fun _ => sc_ret (ec_cf c1.c hr (pass_0 passL) c1.m (ac_cons (ec_slLo (ec_var 0 rfl (ec_int ⟨strsD ws, 1, rfl, rfl, ac_nil ⟨rfl, ws.drop 1, (drop1 ws).symm ▸ rfl, ok.tail (by omega), by rw [List.length_drop]; omega, hd⟩⟩))))), (fun z => nomatch z)⟩
  , m_evi⟩
theorem cx_sch (F : FunN K "schedule_from" s_schedule_from f fd) (hm : mg "schedule_from" = some (.ref f)) (b : Blt mg) (e1 : EF K mg "BadText" BT "line") (c1 : KF P w K mg base "counted_lines" 1 1 S_cnt) (c2 : KF P w K mg base "words_in" 1 1 S_wordsIn) (c3 : KF P w K mg base "event_in" 5 1 S_evi) : KX P w K mg base "schedule_from" 6 1 (X_sch BT) := ⟨by
  obtain ⟨fI, q, X1, I1⟩ := e1.ci
  have nd : (["text", "events", "line", "told", "event"] : List Str).Nodup := by decide +kernel
  refine cal_fx F hm (N := ["text", "events", "line", "told", "event"]) (ps := ["text"]) ⟨rfl, rfl, rfl, nd, rfl, by decide +kernel, by decide +kernel⟩ rfl (fun _ _ _ _ _ _ us hl => match us, hl with | [_], _ => rfl) ?_
  rintro cdv A outer s H E hr tk ds Ψ Er hl ⟨x, rfl, ok, hd⟩
  refine sc_own 1 (fc_lst (ac_nil ⟨Nat.zero_le _, ?_⟩)) nd
  intro p1
  let rs := linesIn x
  have rl : rs.length ≤ 1000 := Nat.le_trans (cntL_len _ 0) ok.l1
  let St : Nat → Option D → Option D → Option D → En := fun i x2 x3 x4 => [some (.im (.str x)), some (.ow p1 (.l ((rs.take i).map evAt))), x2.map .im, x3.map .im, x4.map .im]
  refine sc_for (js := [2, 3]) (ic_list (ec_cf c1.c (hr.mono (by omega)) (pass_tk tk) c1.m (ac_cons (ec_var 0 rfl (ac_nil ⟨rfl, x, rfl, ok.l0, ok.l1, ok.l2, _, rfl, ?_⟩))))) (passes_of rfl)
  refine ⟨fun i ρ' => (∃ x2 x3 x4, ρ' = St i x2 x3 x4) ∧ ∀ q ∈ rs.take i, isNonD (evAt q) = false, ⟨⟨none, none, none, rfl⟩, fun q hq => by simp at hq⟩, ?_, ?_⟩
  · rintro i d ρi hi ⟨⟨x2, x3, x4, rfl⟩, good⟩
    rw [List.getElem?_map] at hi
    obtain ⟨r, hr', rfl⟩ := Option.map_eq_some_iff.mp hi
    have hrm : r ∈ rs := List.mem_of_getElem? hr'
    obtain ⟨w1, w2, w3⟩ := ok.wo r hrm
    have et : rs.take (i + 1) = rs.take i ++ [r] := by rw [List.take_add_one, show rs[i]? = some r from hr']; rfl
    have il : i < rs.length := (List.getElem?_eq_some_iff.mp hr').1
    refine gt_tup ⟨rfl, ⟨_, rfl⟩, rfl⟩ (gts_cons (gt_name 2 (gts_cons (gt_name 3 (gts_nil ?_) nd)) nd))
    refine sc_set 4 (ec_cf c3.c hr (pass_tk tk) c3.m (ac_cons (ec_cf c2.c (hr.mono (by omega)) (pass_tk tk) c2.m (ac_cons (ec_var 3 rfl (ac_nil ⟨rfl, r.2, rfl, w1, w2, ac_nil ⟨rfl, wordsIn r.2, rfl, w3, ?_⟩⟩)))))) nd
    refine sc_if (tc_isN (ec_var 4 rfl ?_))
    show (isNonD (evAt r) = true → _) ∧ (isNonD (evAt r) = false → _)
    refine ⟨fun bad => ?_, fun fine => sc_nil ?_⟩
    · rcases hd with ⟨j, q, hj, hq, ha, he⟩ | ⟨ha, _⟩
      rotate_left
      · rw [ha r hrm] at bad; cases bad
      have ej : j = i := by
        rcases Nat.lt_trichotomy j i with h | h | h
        · have : q ∈ rs.take i := List.mem_of_getElem? (i := j) (by rw [List.getElem?_take, if_pos h]; exact hj)
          rw [good q this] at hq; cases hq
        · exact h
        · have : r ∈ (linesIn x).take j := List.mem_of_getElem? (i := i) (by rw [List.getElem?_take, if_pos h]; exact hr')
          rw [ha r this] at bad; cases bad
      subst ej
      have eq : q = r := Option.some.inj (hj.symm.trans hr')
      subst eq
      exact sc_raise_line X1 I1 e1.mg hr tk (ec_var 2 rfl he)
    · show SC _ _ _ _ _
      refine sc_app 1 rfl (ec_var 4 rfl ⟨_, rfl, ?_, sc_nil ⟨⟨some (.int (r.1 : Int)), some (.str r.2), some (evAt r), ?_⟩, fun q hq => ?_⟩⟩)
      · rw [List.length_map, List.length_take]; omega
      · show _ = [_, some (Sl.ow p1 (.l ((rs.take (i + 1)).map evAt))), _, _, _]
        rw [et, List.map_append]; rfl
      · rw [et] at hq
        rcases List.mem_append.mp hq with h | h
        · exact good q h
        · rw [List.mem_singleton.mp h]; exact fine
  · rintro ρ' ⟨⟨x2, x3, x4, rfl⟩, good⟩
    rw [List.length_map, List.take_length] at good
    refine sc_ret (ec_cty call_tuple_of boot_tuple b.tuple (ac_cons (ec_frz 1 rfl (ac_nil ⟨_, gb_tuple rfl (fun _ h => nomatch h), ?_⟩))))
    rintro d rfl
    rcases hd with ⟨j, q, hj, hq, ha, he⟩ | ⟨_, hd⟩
    · rw [good q (List.mem_of_getElem? hj)] at hq; cases hq
    · rw [List.length_map, List.take_length]
      exact hd
  , mx_sch BT⟩
end
end T34
namespace T34
open PySem PySem.Spec PyProof.Rows L2 Evl AL
/-! ### numbers, values, deeds, events of the law -/
def LN (n : Nat) : Prop := n < 10 ^ 29 + 40
def LV (n : Int) : Prop := n.natAbs < 10 ^ 29 + 40
theorem LN.nb {n : Nat} (h : LN n) : NB (n : Int) := by unfold LN at h; unfold NB; omega
theorem LV.nb {n : Int} (h : LV n) : NB n := by unfold LV at h; unfold NB; omega
def S_lnum (o : OO) (ds : List D) (Ψ : D → OO → Prop) : Prop := ∃ l : List Int, o = .l (iL l) ∧ ds = [] ∧ ∀ (n : Nat) (l' : List Int), n < 10 ^ 29 + 30 → Ψ (natD n) (.l (iL l'))
theorem m_lnum : MonoO S_lnum := fun o ds Φ Φ' h ⟨l, h1, h2, h3⟩ => ⟨l, h1, h2, fun n l' a => h _ _ (h3 n l' a)⟩
def S_lval (o : OO) (ds : List D) (Ψ : D → OO → Prop) : Prop := ∃ l : List Int, o = .l (iL l) ∧ ds = [] ∧ ∀ (n : Int) (l' : List Int), LV n → Ψ (.int n) (.l (iL l'))
theorem m_lval : MonoO S_lval := fun o ds Φ Φ' h ⟨l, h1, h2, h3⟩ => ⟨l, h1, h2, fun n l' a => h _ _ (h3 n l' a)⟩
def S_lded (o : OO) (ds : List D) (Ψ : D → OO → Prop) : Prop := ∃ l : List Int, o = .l (iL l) ∧ ds = [] ∧ ∀ (d : Dd) (l' : List Int), DdOk d → Ψ (ddD d) (.l (iL l'))
theorem m_lded : MonoO S_lded := fun o ds Φ Φ' h ⟨l, h1, h2, h3⟩ => ⟨l, h1, h2, fun n l' a => h _ _ (h3 n l' a)⟩
def S_lev (o : OO) (ds : List D) (Ψ : D → OO → Prop) : Prop := ∃ l : List Int, o = .l (iL l) ∧ ds = [] ∧ ∀ (e : Ev) (l' : List Int), EvOk e → Ψ (evD e) (.l (iL l'))
theorem m_lev : MonoO S_lev := fun o ds Φ Φ' h ⟨l, h1, h2, h3⟩ => ⟨l, h1, h2, fun n l' a => h _ _ (h3 n l' a)⟩
section
variable {P : Program} {w : World} {K : PySem.W.Frag} {mg : Str → Option Value} {base : Heap} {f : Addr} {fd : FuncData}
theorem c_lnum (F : FunN K "_law_number" s__law_number f fd) (hm : mg "_law_number" = some (.ref f)) (c1 : KO P w K mg base "_law_take" 1 1 S_take) : KO P w K mg base "_law_number" 2 0 S_lnum := ⟨by
  have nd : (["pool", "word"] : List Str).Nodup := by decide +kernel
  refine cal_fo F hm (N := ["pool", "word"]) (ps := ["pool"]) ⟨rfl, rfl, rfl, nd, rfl, by decide +kernel, by decide +kernel⟩ rfl (fun _ _ _ _ _ _ us hl => match us, hl with | [_], _ => rfl) ?_
  rintro cdv A outer s H E hr a o ds Ψ hl ⟨l, rfl, rfl, hd⟩
  refine sc_set 1 (ec_co 0 rfl c1.c hr (pass_0 passL) c1.m (ac_cons (ec_int (ac_nil ⟨_, rfl, rfl, l, 4, rfl, rfl, by decide, fun r l1 r0 r1 => ?_⟩)))) nd
  refine sc_if (tc_eqS (ec_var 1 rfl (ec_int ⟨decide (r = 1), rfl, ?_⟩)))
  by_cases h1 : r = 1
  · rw [decide_eq_true h1]
    refine ⟨fun _ => ?_, (fun z => nomatch z)⟩
    refine sc_ret (ec_add (ec_int (ec_co 0 rfl c1.c hr (pass_0 passL) c1.m (ac_cons (ec_int (ac_nil ⟨_, rfl, rfl, l1, 30, rfl, rfl, by decide, fun r2 l2 h3 h4 => ⟨7, r2, rfl, rfl, _, rfl, ?_⟩⟩))))))
    have e : (7 + r2 : Int) = ((7 + r2.toNat : Nat) : Int) := by omega
    rw [e]; exact hd _ l2 (by omega)
  rw [decide_eq_false h1]
  refine ⟨(fun z => nomatch z), fun _ => sc_nil ?_⟩
  show SC _ _ _ _ _
  refine sc_if (tc_eqS (ec_var 1 rfl (ec_int ⟨decide (r = 2), rfl, ?_⟩)))
  by_cases h2 : r = 2
  · rw [decide_eq_true h2]
    refine ⟨fun _ => ?_, (fun z => nomatch z)⟩
    refine sc_ret (ec_add (ec_int (ec_co 0 rfl c1.c hr (pass_0 passL) c1.m (ac_cons (ec_int (ac_nil ⟨_, rfl, rfl, l1, 30, rfl, rfl, by decide, fun r2 l2 h3 h4 => ⟨990, r2, rfl, rfl, _, rfl, ?_⟩⟩))))))
    have e : (990 + r2 : Int) = ((990 + r2.toNat : Nat) : Int) := by omega
    rw [e]; exact hd _ l2 (by omega)
  rw [decide_eq_false h2]
  refine ⟨(fun z => nomatch z), fun _ => sc_nil ?_⟩
  show SC _ _ _ _ _
  refine sc_if (tc_eqS (ec_var 1 rfl (ec_int ⟨decide (r = 3), rfl, ?_⟩)))
  by_cases h5 : r = 3
  · rw [decide_eq_true h5]
    refine ⟨fun _ => ?_, (fun z => nomatch z)⟩
    refine sc_ret (ec_add (ec_pow (ec_int (ec_int ⟨10, 29, rfl, rfl, ⟨by decide, by decide, by decide⟩, ec_co 0 rfl c1.c hr (pass_0 passL) c1.m (ac_cons (ec_int (ac_nil ⟨_, rfl, rfl, l1, 30, rfl, rfl, by decide, fun r2 l2 h3 h4 => ⟨_, r2, rfl, rfl, _, rfl, ?_⟩⟩)))⟩))))
    have e : ((10 : Int) ^ (29 : Int).toNat + r2 : Int) = ((10 ^ 29 + r2.toNat : Nat) : Int) := by
      show (10 : Int) ^ 29 + r2 = _
      omega
    rw [e]; exact hd _ l2 (by omega)
  rw [decide_eq_false h5]
  refine ⟨(fun z => nomatch z), fun _ => sc_nil ?_⟩
  show SC _ _ _ _ _
  refine sc_ret (ec_co 0 rfl c1.c hr (pass_0 passL) c1.m (ac_cons (ec_int (ac_nil ⟨_, rfl, rfl, l1, 4, rfl, rfl, by decide, fun r2 l2 h3 h4 => ⟨_, rfl, ?_⟩⟩))))
  have e : r2 = ((r2.toNat : Nat) : Int) := by omega
  rw [e]; exact hd _ l2 (by omega)
  , m_lnum⟩
theorem c_lval (F : FunN K "_law_value" s__law_value f fd) (hm : mg "_law_value" = some (.ref f)) (c1 : KO P w K mg base "_law_take" 1 1 S_take) (c2 : KO P w K mg base "_law_number" 2 0 S_lnum) : KO P w K mg base "_law_value" 3 0 S_lval := ⟨by
  have nd : (["pool", "number"] : List Str).Nodup := by decide +kernel
  refine cal_fo F hm (N := ["pool", "number"]) (ps := ["pool"]) ⟨rfl, rfl, rfl, nd, rfl, by decide +kernel, by decide +kernel⟩ rfl (fun _ _ _ _ _ _ us hl => match us, hl with | [_], _ => rfl) ?_
  rintro cdv A outer s H E hr a o ds Ψ hl ⟨l, rfl, rfl, hd⟩
  refine sc_set 1 (ec_co 0 rfl c2.c hr (pass_0 passL) c2.m (ac_nil ⟨_, rfl, rfl, l, rfl, rfl, fun n l1 hn => ?_⟩)) nd
  refine sc_if (tc_eqS (ec_co 0 rfl c1.c (hr.mono (by omega)) (pass_0 passL) c1.m (ac_cons (ec_int (ac_nil ⟨_, rfl, rfl, l1, 3, rfl, rfl, by decide, fun r l2 r0 r1 => ec_int ⟨decide (r = 2), rfl, ?_⟩⟩)))))
  by_cases h1 : r = 2
  · rw [decide_eq_true h1]
    refine ⟨fun _ => ?_, (fun z => nomatch z)⟩
    exact sc_ret (ec_sub (ec_int (ec_var 1 rfl ⟨0, n, rfl, rfl, _, rfl, hd _ l2 (by unfold LV; omega)⟩)))
  · rw [decide_eq_false h1]
    refine ⟨(fun z => nomatch z), fun _ => sc_nil ?_⟩
    exact sc_ret (ec_var 1 rfl ⟨_, rfl, hd _ l2 (by unfold LV; omega)⟩)
  , m_lval⟩
theorem c_lded (F : FunN K "_law_deed" s__law_deed f fd) (hm : mg "_law_deed" = some (.ref f)) (c1 : KO P w K mg base "_law_take" 1 1 S_take) (c2 : KO P w K mg base "_law_number" 2 0 S_lnum) (c3 : KO P w K mg base "_law_value" 3 0 S_lval) : KO P w K mg base "_law_deed" 4 0 S_lded := ⟨by
  have nd : (["pool", "word"] : List Str).Nodup := by decide +kernel
  refine cal_fo F hm (N := ["pool", "word"]) (ps := ["pool"]) ⟨rfl, rfl, rfl, nd, rfl, by decide +kernel, by decide +kernel⟩ rfl (fun _ _ _ _ _ _ us hl => match us, hl with | [_], _ => rfl) ?_
  rintro cdv A outer s H E hr a o ds Ψ hl ⟨l, rfl, rfl, hd⟩
  refine sc_set 1 (ec_co 0 rfl c1.c (hr.mono (by omega)) (pass_0 passL) c1.m (ac_cons (ec_int (ac_nil ⟨_, rfl, rfl, l, 7, rfl, rfl, by decide, fun r l1 r0 r1 => ?_⟩)))) nd
  have ln : ∀ n : Nat, n < 10 ^ 29 + 30 → LN n := fun n h => by unfold LN; omega
  refine sc_if (tc_eqS (ec_var 1 rfl (ec_int ⟨decide (r = 0), rfl, ?_⟩)))
  by_cases h0 : r = 0
  · rw [decide_eq_true h0]
    refine ⟨fun _ => ?_, (fun z => nomatch z)⟩
    refine sc_ret (ec_tup (ac_cons (ec_str (ac_cons (ec_co 0 rfl c2.c (hr.mono (by omega)) (pass_0 passL) c2.m (ac_nil ⟨_, rfl, rfl, l1, rfl, rfl, fun n l2 hn => ?_⟩))))))
    exact ac_cons (ec_co 0 rfl c3.c hr (pass_0 passL) c3.m (ac_nil ⟨_, rfl, rfl, l2, rfl, rfl, fun v l3 hv => ac_nil ⟨by show 3 ≤ 100000; omega, _, rfl, hd (.put n v) l3 ⟨(ln n hn).nb, hv.nb⟩⟩⟩))
  rw [decide_eq_false h0]
  refine ⟨(fun z => nomatch z), fun _ => sc_nil ?_⟩
  show SC _ _ _ _ _
  refine sc_if (tc_eqS (ec_var 1 rfl (ec_int ⟨decide (r = 1), rfl, ?_⟩)))
  by_cases h1 : r = 1
  · rw [decide_eq_true h1]
    refine ⟨fun _ => ?_, (fun z => nomatch z)⟩
    exact sc_ret (ec_tup (ac_cons (ec_str (ac_cons (ec_co 0 rfl c2.c (hr.mono (by omega)) (pass_0 passL) c2.m (ac_nil ⟨_, rfl, rfl, l1, rfl, rfl, fun n l2 hn => ac_nil ⟨by show 2 ≤ 100000; omega, _, rfl, hd (.get n) l2 (ln n hn).nb⟩⟩))))))
  rw [decide_eq_false h1]
  refine ⟨(fun z => nomatch z), fun _ => sc_nil ?_⟩
  show SC _ _ _ _ _
  refine sc_if (tc_eqS (ec_var 1 rfl (ec_int ⟨decide (r = 2), rfl, ?_⟩)))
  by_cases h2 : r = 2
  · rw [decide_eq_true h2]
    refine ⟨fun _ => ?_, (fun z => nomatch z)⟩
    exact sc_ret (ec_tup (ac_cons (ec_str (ac_nil ⟨by show 1 ≤ 100000; omega, _, rfl, hd .look l1 trivial⟩))))
  rw [decide_eq_false h2]
  refine ⟨(fun z => nomatch z), fun _ => sc_nil ?_⟩
  show SC _ _ _ _ _
  refine sc_if (tc_eqS (ec_var 1 rfl (ec_int ⟨decide (r = 3), rfl, ?_⟩)))
  by_cases h3 : r = 3
  · rw [decide_eq_true h3]
    refine ⟨fun _ => ?_, (fun z => nomatch z)⟩
    exact sc_ret (ec_tup (ac_cons (ec_str (ac_cons (ec_co 0 rfl c3.c hr (pass_0 passL) c3.m (ac_nil ⟨_, rfl, rfl, l1, rfl, rfl, fun v l2 hv => ac_nil ⟨by show 2 ≤ 100000; omega, _, rfl, hd (.tour v) l2 hv.nb⟩⟩))))))
  rw [decide_eq_false h3]
  refine ⟨(fun z => nomatch z), fun _ => sc_nil ?_⟩
  show SC _ _ _ _ _
  refine sc_if (tc_eqS (ec_var 1 rfl (ec_int ⟨decide (r = 4), rfl, ?_⟩)))
  by_cases h4 : r = 4
  · rw [decide_eq_true h4]
    refine ⟨fun _ => ?_, (fun z => nomatch z)⟩
    exact sc_ret (ec_tup (ac_cons (ec_str (ac_cons (ec_co 0 rfl c3.c hr (pass_0 passL) c3.m (ac_nil ⟨_, rfl, rfl, l1, rfl, rfl, fun v l2 hv => ac_nil ⟨by show 2 ≤ 100000; omega, _, rfl, hd (.propose v) l2 hv.nb⟩⟩))))))
  rw [decide_eq_false h4]
  refine ⟨(fun z => nomatch z), fun _ => sc_nil ?_⟩
  show SC _ _ _ _ _
  refine sc_if (tc_eqS (ec_var 1 rfl (ec_int ⟨decide (r = 5), rfl, ?_⟩)))
  by_cases h5 : r = 5
  · rw [decide_eq_true h5]
    refine ⟨fun _ => ?_, (fun z => nomatch z)⟩
    exact sc_ret (ec_tup (ac_cons (ec_str (ac_cons (ec_co 0 rfl c2.c (hr.mono (by omega)) (pass_0 passL) c2.m (ac_nil ⟨_, rfl, rfl, l1, rfl, rfl, fun n l2 hn => ac_nil ⟨by show 2 ≤ 100000; omega, _, rfl, hd (.move n) l2 (ln n hn).nb⟩⟩))))))
  rw [decide_eq_false h5]
  refine ⟨(fun z => nomatch z), fun _ => sc_nil ?_⟩
  show SC _ _ _ _ _
  refine sc_ret (ec_tup (ac_cons (ec_str (ac_cons (ec_co 0 rfl c2.c (hr.mono (by omega)) (pass_0 passL) c2.m (ac_nil ⟨_, rfl, rfl, l1, rfl, rfl, fun n l2 hn => ?_⟩))))))
  refine ac_cons (ec_co 0 rfl c3.c hr (pass_0 passL) c3.m (ac_nil ⟨_, rfl, rfl, l2, rfl, rfl, fun v l3 hv => ?_⟩))
  exact ac_cons (ec_co 0 rfl c3.c hr (pass_0 passL) c3.m (ac_nil ⟨_, rfl, rfl, l3, rfl, rfl, fun u l4 hu => ac_nil ⟨by show 4 ≤ 100000; omega, _, rfl, hd (.addif n v u) l4 ⟨(ln n hn).nb, hv.nb, hu.nb⟩⟩⟩))
  , m_lded⟩
end
end T34
namespace T34
open PySem PySem.Spec PyProof.Rows L2 Evl AL
/-! ### _law_event, _law_words -/
def S_lwd (ds : List D) (Ψ : D → Prop) : Prop := ∃ e : Ev, ds = [evD e] ∧ EvOk e ∧ Ψ (.lst (strsD (evW e)))
theorem m_lwd : MonoF S_lwd := fun ds Φ Φ' g ⟨e, h1, h2, h3⟩ => ⟨e, h1, h2, g _ h3⟩
section
variable {X : Cx} {Z : Zx} {a b : Expr} {ρ : En} {Ψ : Bool → En → Prop} {pos : Pos}
theorem tc_orB {k1 k2 : Bool} (ha : ∀ Ψ' : Bool → En → Prop, Ψ' k1 ρ → TC X Z a ρ Ψ') (hb : ∀ Ψ' : Bool → En → Prop, Ψ' k2 ρ → TC X Z b ρ Ψ') (h : Ψ (k1 || k2) ρ) : TC X Z (.BoolOp .Or [a, b] pos) ρ Ψ :=
  tc_w (wc_or (ha _ ⟨fun e => wc_or1 (hb _ (by rw [e] at h; exact h)), fun e => by rw [e] at h; exact h⟩))
end
section
variable {P : Program} {w : World} {K : PySem.W.Frag} {mg : Str → Option Value} {base : Heap} {f : Addr} {fd : FuncData}
theorem c_lev (F : FunN K "_law_event" s__law_event f fd) (hm : mg "_law_event" = some (.ref f)) (c1 : KO P w K mg base "_law_take" 1 1 S_take) (c2 : KO P w K mg base "_law_number" 2 0 S_lnum) (c3 : KO P w K mg base "_law_deed" 4 0 S_lded) : KO P w K mg base "_law_event" 5 0 S_lev := ⟨by
  have nd : (["pool", "word", "house", "other"] : List Str).Nodup := by decide +kernel
  refine cal_fo F hm (N := ["pool", "word", "house", "other"]) (ps := ["pool"]) ⟨rfl, rfl, rfl, nd, rfl, by decide +kernel, by decide +kernel⟩ rfl (fun _ _ _ _ _ _ us hl => match us, hl with | [_], _ => rfl) ?_
  rintro cdv A outer s H E hr a o ds Ψ hl ⟨l, rfl, rfl, hd⟩
  have hr1 := hr.mono (show 1 ≤ 4 by omega)
  have hr2 := hr.mono (show 2 ≤ 4 by omega)
  refine sc_set 1 (ec_co 0 rfl c1.c hr1 (pass_0 passL) c1.m (ac_cons (ec_int (ac_nil ⟨_, rfl, rfl, l, 12, rfl, rfl, by decide, fun r l1 r0 r1 => ?_⟩)))) nd
  refine sc_set 2 (ec_co 0 rfl c2.c hr2 (pass_0 passL) c2.m (ac_nil ⟨_, rfl, rfl, l1, rfl, rfl, fun h l2 hh => ?_⟩)) nd
  refine sc_set 3 (ec_add (ec_add (ec_var 2 rfl (ec_int ⟨h, 1, rfl, rfl, ec_co 0 rfl c1.c hr1 (pass_0 passL) c1.m (ac_cons (ec_int (ac_nil ⟨_, rfl, rfl, l2, 5, rfl, rfl, by decide, fun t l3 t0 t1 => ⟨_, t, rfl, rfl, ?_⟩⟩)))⟩)))) nd
  have rest : ∀ (x y : Nat) (l4 : List Int), LN x → LN y → x ≠ y → SC (bodyX P w K mg base ["pool", "word", "house", "other"] "_law_event" (defScope s__law_event) f cdv A outer s H E) Z0 ((defBody s__law_event).drop 4) [some (.ow a (.l (iL l4))), some (.im (.int r)), some (.im (.int x)), some (.im (.int y))] (OutO a Ψ) := fun x y l4 hx hy hxy => by
    refine sc_if (tc_eqS (ec_var 1 rfl (ec_int ⟨decide (r = 1), rfl, ?_⟩)))
    by_cases h1 : r = 1
    · rw [decide_eq_true h1]
      exact ⟨fun _ => sc_ret (ec_tup (ac_cons (ec_str (ac_cons (ec_var 2 rfl (ac_nil ⟨by show 2 ≤ 100000; omega, _, rfl, hd (.tick x) l4 hx.nb⟩)))))), (fun z => nomatch z)⟩
    rw [decide_eq_false h1]
    refine ⟨(fun z => nomatch z), fun _ => sc_nil ?_⟩
    show SC _ _ _ _ _
    refine sc_if (tc_eqS (ec_var 1 rfl (ec_int ⟨decide (r = 2), rfl, ?_⟩)))
    by_cases h2 : r = 2
    · rw [decide_eq_true h2]
      exact ⟨fun _ => sc_ret (ec_tup (ac_cons (ec_str (ac_cons (ec_var 2 rfl (ac_nil ⟨by show 2 ≤ 100000; omega, _, rfl, hd (.fall x) l4 hx.nb⟩)))))), (fun z => nomatch z)⟩
    rw [decide_eq_false h2]
    refine ⟨(fun z => nomatch z), fun _ => sc_nil ?_⟩
    show SC _ _ _ _ _
    refine sc_if (tc_eqS (ec_var 1 rfl (ec_int ⟨decide (r = 3), rfl, ?_⟩)))
    by_cases h3 : r = 3
    · rw [decide_eq_true h3]
      exact ⟨fun _ => sc_ret (ec_tup (ac_cons (ec_str (ac_cons (ec_var 2 rfl (ac_nil ⟨by show 2 ≤ 100000; omega, _, rfl, hd (.wake x) l4 hx.nb⟩)))))), (fun z => nomatch z)⟩
    rw [decide_eq_false h3]
    refine ⟨(fun z => nomatch z), fun _ => sc_nil ?_⟩
    show SC _ _ _ _ _
    refine sc_if (tc_orB (k1 := decide (r = 4)) (k2 := decide (r = 5)) (fun _ q => tc_eqS (ec_var 1 rfl (ec_int ⟨_, rfl, q⟩))) (fun _ q => tc_eqS (ec_var 1 rfl (ec_int ⟨_, rfl, q⟩))) ?_)
    refine ⟨fun _ => ?_, fun _ => sc_nil ?_⟩
    · exact sc_ret (ec_tup (ac_cons (ec_str (ac_cons (ec_var 2 rfl (ac_cons (ec_var 3 rfl (ac_nil ⟨by show 3 ≤ 100000; omega, _, rfl, hd (.hush x y) l4 ⟨hx.nb, hy.nb, hxy⟩⟩))))))))
    show SC _ _ _ _ _
    refine sc_if (tc_orB (k1 := decide (r = 6)) (k2 := decide (r = 7)) (fun _ q => tc_eqS (ec_var 1 rfl (ec_int ⟨_, rfl, q⟩))) (fun _ q => tc_eqS (ec_var 1 rfl (ec_int ⟨_, rfl, q⟩))) ?_)
    refine ⟨fun _ => ?_, fun _ => sc_nil ?_⟩
    · refine sc_ret (ec_tup (ac_cons (ec_str (ac_cons (ec_var 2 rfl ?_)))))
      refine ac_cons (ec_add (ec_int (ec_co 0 rfl c2.c hr2 (pass_0 passL) c2.m (ac_nil ⟨_, rfl, rfl, l4, rfl, rfl, fun n l5 hn => ⟨1, n, rfl, rfl, ?_⟩⟩))))
      refine ac_cons (ec_var 3 rfl (ac_nil ⟨by show 4 ≤ 100000; omega, _, rfl, ?_⟩))
      have e : (1 + (n : Int)) = ((n + 1 : Nat) : Int) := by omega
      rw [e]
      exact hd (.hand x (n + 1) y) l5 ⟨hx.nb, LN.nb (show LN (n + 1) by unfold LN; omega), hy.nb, by omega, hxy⟩
    show SC _ _ _ _ _
    refine sc_ret (ec_tup (ac_cons (ec_str (ac_cons (ec_var 2 rfl ?_)))))
    exact ac_cons (ec_co 0 rfl c3.c hr (pass_0 passL) c3.m (ac_nil ⟨_, rfl, rfl, l4, rfl, rfl, fun d l5 hdd => ac_nil ⟨by show 3 ≤ 100000; omega, _, rfl, hd (.begin x d) l5 ⟨hx.nb, hdd⟩⟩⟩))
  have e1 : ((h : Int) + 1 + t) = ((h + 1 + t.toNat : Nat) : Int) := by omega
  have n1 : LN h := by unfold LN; omega
  have n2 : LN (h + 1 + t.toNat) := by unfold LN; omega
  refine sc_if (tc_eqS (ec_co 0 rfl c1.c hr1 (pass_0 passL) c1.m (ac_cons (ec_int (ac_nil ⟨_, rfl, rfl, l3, 2, rfl, rfl, by decide, fun u l4 u0 u1 => ec_int ⟨decide (u = 1), rfl, ?_⟩⟩)))))
  rw [e1]
  by_cases hu : u = 1
  · rw [decide_eq_true hu]
    refine ⟨fun _ => ?_, (fun z => nomatch z)⟩
    refine sc_par 2 3 ?_ nd
    refine ac_cons (ec_var 3 rfl (ac_cons (ec_var 2 rfl (ac_nil ⟨_, _, rfl, sc_nil ?_⟩))))
    exact rest _ _ l4 n2 n1 (by omega)
  · rw [decide_eq_false hu]
    exact ⟨(fun z => nomatch z), fun _ => sc_nil (rest _ _ l4 n1 n2 (by omega))⟩
  , m_lev⟩
theorem c_lwd (F : FunN K "_law_words" s__law_words f fd) (hm : mg "_law_words" = some (.ref f)) (hstr : mg "str" = none) : KF P w K mg base "_law_words" 1 1 S_lwd := ⟨by
  have nd : (["event", "part"] : List Str).Nodup := by decide +kernel
  refine cal_fn F hm (N := ["event", "part"]) (ps := ["event"]) ⟨rfl, rfl, rfl, nd, rfl, by decide +kernel, by decide +kernel⟩ rfl (fun _ _ _ _ _ _ us hl => match us, hl with | [_], _ => rfl) ?_
  rintro cdv A outer s H E hr ds Ψ hl ⟨e, rfl, ok, hd⟩
  have plain : ∀ (k : Str) (vs : List Vv), decide (k = "begin") = false → decide (k = "hand") = false → (∀ v ∈ Vv.s k :: vs, VOk v) → vs.length ≤ 4 → Ψ (.lst (strsD ((Vv.s k :: vs).map vT))) →
      SC (bodyX P w K mg base ["event", "part"] "_law_words" (defScope s__law_words) f cdv A outer s H E) Z0 (defBody s__law_words) (envD (["event", "part"] : List Str).length [.tup ((Vv.s k :: vs).map vD)]) (OutP Ψ) := fun k vs k1 k2 vok vl hd => by
    refine sc_if (tc_eqS (ec_ix (ec_var 0 rfl (ec_int ⟨_, 0, .str k, rfl, rfl, atI_nat (j := 0) rfl, ec_str ⟨_, rfl, ?_⟩⟩))))
    rw [k1]
    refine ⟨(fun z => nomatch z), fun _ => sc_nil ?_⟩
    show SC _ _ _ _ _
    refine sc_if (tc_eqS (ec_ix (ec_var 0 rfl (ec_int ⟨_, 0, .str k, rfl, rfl, atI_nat (j := 0) rfl, ec_str ⟨_, rfl, ?_⟩⟩))))
    rw [k2]
    refine ⟨(fun z => nomatch z), fun _ => sc_nil ?_⟩
    show SC _ _ _ [some (.im (.tup ((Vv.s k :: vs).map vD))), none] _
    refine sc_ret (ec_fc (fc_M (Vv.s k :: vs) vD (fun v => .str (vT v)) [("part", 1)] [1] (ic_tup (ec_var 0 rfl ⟨_, rfl, rfl, ?_, rfl, fun v hv => ?_, ?_⟩)) nd (by decide)))
    · rw [List.length_cons]; omega
    · intro s3 H3 C3 cl3 fp3
      refine gt_name 1 ?_ nd
      intro s4 H4 C4 cl4 fp4
      exact ec_strV (vok v hv) hstr (ec_var 1 rfl ⟨rfl, rfl, rfl⟩)
    · refine ⟨_, rfl, ?_⟩
      unfold strsD at hd
      rw [List.map_map] at hd
      exact hd
  have vs1 : ∀ {k : Str} {a : Int}, k.length ≤ 40 → NB a → ∀ v ∈ [Vv.s k, .i a], VOk v := fun h1 h2 v hv => by
    rcases List.mem_cons.mp hv with rfl | hv
    · exact h1
    · rw [List.mem_singleton.mp hv]; exact h2
  cases e with
  | tick h => exact plain "tick" [.i h] (by decide +kernel) (by decide +kernel) (vs1 (by decide +kernel) ok) (by simp) hd
  | fall h => exact plain "fall" [.i h] (by decide +kernel) (by decide +kernel) (vs1 (by decide +kernel) ok) (by simp) hd
  | wake h => exact plain "wake" [.i h] (by decide +kernel) (by decide +kernel) (vs1 (by decide +kernel) ok) (by simp) hd
  | hush a c => exact plain "hush" [.i a, .i c] (by decide +kernel) (by decide +kernel) (fun v hv => by
      rcases List.mem_cons.mp hv with rfl | hv
      · show Str.length _ ≤ 40; decide +kernel
      · rcases List.mem_cons.mp hv with rfl | hv
        · exact ok.1
        · rw [List.mem_singleton.mp hv]; exact ok.2.1) (by simp) hd
  | hand a n c =>
    obtain ⟨o1, o2, o3, o4, o5⟩ := ok
    refine sc_if (tc_eqS (ec_ix (ec_var 0 rfl (ec_int ⟨[.str "hand", .int a, .int n, .int c], 0, .str "hand", rfl, rfl, rfl, ec_str ⟨false, by decide +kernel, (fun z => nomatch z), fun _ => sc_nil ?_⟩⟩))))
    show SC _ _ _ _ _
    refine sc_if (tc_eqS (ec_ix (ec_var 0 rfl (ec_int ⟨[.str "hand", .int a, .int n, .int c], 0, .str "hand", rfl, rfl, rfl, ec_str ⟨true, by decide +kernel, fun _ => ?_, (fun z => nomatch z)⟩⟩))))
    show SC _ _ _ [some (.im (.tup [.str "hand", .int a, .int n, .int c])), none] _
    refine sc_ret (ec_lst (ac_cons (ec_str ?_)))
    refine ac_cons (ec_strV (v := .i a) o1 hstr (ec_ix (ec_var 0 rfl (ec_int ⟨_, 1, .int a, rfl, rfl, rfl, rfl, ?_⟩))))
    refine ac_cons (ec_strV (v := .i n) o2 hstr (ec_ix (ec_var 0 rfl (ec_int ⟨_, 2, .int n, rfl, rfl, rfl, rfl, ?_⟩))))
    refine ac_cons (ec_str ?_)
    exact ac_cons (ec_strV (v := .i c) o3 hstr (ec_ix (ec_var 0 rfl (ec_int ⟨_, 3, .int c, rfl, rfl, rfl, rfl, ac_nil ⟨by show 5 ≤ 100000; omega, hd⟩⟩))))
  | begin h d =>
    obtain ⟨o1, o2⟩ := ok
    refine sc_if (tc_eqS (ec_ix (ec_var 0 rfl (ec_int ⟨[.str "begin", .int h, ddD d], 0, .str "begin", rfl, rfl, rfl, ec_str ⟨true, by decide +kernel, fun _ => ?_, (fun z => nomatch z)⟩⟩))))
    show SC _ _ _ [some (.im (.tup [.str "begin", .int h, ddD d])), none] _
    refine sc_ret ?_
    refine ec_cat (ec_lst (ac_cons (ec_str ?_)))
    refine ac_cons (ec_strV (v := .i h) o1 hstr (ec_ix (ec_var 0 rfl (ec_int ⟨_, 1, .int h, rfl, rfl, rfl, rfl, ac_nil ⟨by show 2 ≤ 100000; omega, ?_⟩⟩))))
    refine ec_fc (fc_M (ddV d) vD (fun v => .str (vT v)) [("part", 1)] [1] (ic_tup (ec_ix (ec_var 0 rfl (ec_int ⟨_, 2, ddD d, rfl, rfl, rfl, _, rfl, rfl, ?_, rfl, fun v hv => ?_, ?_⟩)))) nd (by decide))
    · have := dd_len d; omega
    · intro s3 H3 C3 cl3 fp3
      refine gt_name 1 ?_ nd
      intro s4 H4 C4 cl4 fp4
      exact ec_strV (dd_ok o2 v hv) hstr (ec_var 1 rfl ⟨rfl, rfl, rfl⟩)
    · have dl := dd_len d
      refine ⟨_, rfl, _, _, rfl, rfl, ?_, ?_⟩
      · rw [List.length_map]; show 2 + _ ≤ _; omega
      · replace hd : Ψ (.lst (.str "begin" :: .str (numT h) :: ((ddV d).map vT).map D.str)) := hd
        rw [List.map_map] at hd
        exact hd
  , m_lwd⟩
end
end T34
namespace T34
open PySem PySem.Spec PyProof.Rows L2 Evl AL
/-! ### events as plain data; _law_kinds -/
structure PX (n : Nat) (d : D) (p : PyData) : Prop where
  py : pyD d = some p
  lay : PyData.canLay0 p = true
  dep : PyData.depth p ≤ n
  eq : PyData.eqv p p = true
theorem PX.int (i : Int) : PX 1 (.int i) (.int i) := ⟨by rw [pyD], by rw [PyData.canLay0], by rw [PyData.depth]; omega, by rw [PyData.eqv]; simp⟩
theorem PX.str {x : Str} (h : PyData.strOk x = true) : PX 1 (.str x) (.str x) := ⟨by rw [pyD], by rw [PyData.canLay0]; exact h, by rw [PyData.depth]; omega, by rw [PyData.eqv]; simp⟩
inductive PXs (n : Nat) : List D → List PyData → Prop
  | nil : PXs n [] []
  | cons {d p ds ps} : PX n d p → PXs n ds ps → PXs n (d :: ds) (p :: ps)
theorem PX.up {n m : Nat} {d : D} {p : PyData} (h : PX n d p) (l : n ≤ m) : PX m d p := ⟨h.py, h.lay, Nat.le_trans h.dep l, h.eq⟩
theorem PXs.all {n : Nat} : ∀ {ds : List D} {ps : List PyData}, PXs n ds ps → pyDs ds = some ps ∧ PyData.canLayAll0 ps = true ∧ PyData.depthAll ps ≤ n ∧ PyData.eqvAll ps ps = true
  | _, _, .nil => ⟨by rw [pyDs], by rw [PyData.canLayAll0], by rw [PyData.depthAll]; omega, by rw [PyData.eqvAll]⟩
  | _, _, .cons h t => by
    obtain ⟨a, b, c, d⟩ := t.all
    have := h.dep
    refine ⟨by rw [pyDs, h.py, a] <;> rfl, by rw [PyData.canLayAll0, h.lay, b] <;> rfl, by rw [PyData.depthAll]; omega, by rw [PyData.eqvAll, h.eq, d] <;> rfl⟩
theorem PXs.tup {n : Nat} {ds : List D} {ps : List PyData} (h : PXs n ds ps) : PX (n + 1) (.tup ds) (.tuple ps) := by
  obtain ⟨a, b, c, d⟩ := h.all
  exact ⟨by rw [pyD, a] <;> rfl, by rw [PyData.canLay0]; exact b, by rw [PyData.depth]; omega, by rw [PyData.eqv]; exact d⟩
theorem PX.shp {n : Nat} {d : D} {p : PyData} (h : PX n d p) (hn : n ≤ 20) : SeqAt.shaped p = true := by
  unfold SeqAt.shaped
  rw [Bool.and_eq_true, decide_eq_true_eq]
  have := h.dep
  exact ⟨h.lay, by omega⟩
def vPx : Vv → PyData
  | .s x => .str x | .i n => .int n
def Vk : Vv → Prop
  | .s x => PyData.strOk x = true | .i _ => True
theorem px_v {v : Vv} (h : Vk v) : PX 1 (vD v) (vPx v) := by cases v with
  | s x => exact PX.str h
  | i n => exact PX.int n
theorem pxs_v : ∀ {vs : List Vv}, (∀ v ∈ vs, Vk v) → PXs 1 (vs.map vD) (vs.map vPx)
  | [], _ => .nil
  | v :: vs, h => .cons (px_v (h v List.mem_cons_self)) (pxs_v fun u hu => h u (List.mem_cons_of_mem _ hu))
theorem dd_k (d : Dd) : ∀ v ∈ ddV d, Vk v := by
  cases d <;> simp only [ddV, List.mem_cons, List.not_mem_nil, or_false] <;> rintro v hv <;> (first | (rcases hv with rfl | rfl | rfl | rfl) | (rcases hv with rfl | rfl | rfl) | (rcases hv with rfl | rfl) | (rcases hv with rfl)) <;>
    first | trivial | (show PyData.strOk _ = true; decide +kernel)
theorem px_ev (e : Ev) : ∃ p, PX 3 (evD e) p := by
  have two : ∀ vs : List Vv, (∀ v ∈ vs, Vk v) → ∃ p, PX 3 (.tup (vs.map vD)) p := fun vs h => ⟨_, (pxs_v h).tup.up (by omega)⟩
  cases e with
  | tick h => exact two [.s "tick", .i h] (by simp [Vk]; decide +kernel)
  | fall h => exact two [.s "fall", .i h] (by simp [Vk]; decide +kernel)
  | wake h => exact two [.s "wake", .i h] (by simp [Vk]; decide +kernel)
  | hush a c => exact two [.s "hush", .i a, .i c] (by simp [Vk]; decide +kernel)
  | hand a n c => exact two [.s "hand", .i a, .i n, .i c] (by simp [Vk]; decide +kernel)
  | begin h d => exact ⟨_, (PXs.cons ((PX.str (by decide +kernel)).up (by omega)) (.cons ((PX.int h).up (by omega)) (.cons (pxs_v (dd_k d)).tup .nil))).tup⟩
def isStrD : D → Bool
  | .str _ => true | _ => false
theorem kit_strD : ∀ d : D, AL.isObj d = false → kitB (tyN d) "str" = some (isStrD d) := fun d h => by cases d <;> first | (simp [AL.isObj] at h; done) | (dsimp only [tyN, isStrD]; decide +kernel)
def evL : Ev → List D
  | .tick h => [.str "tick", .int h] | .fall h => [.str "fall", .int h] | .wake h => [.str "wake", .int h] | .hush a c => [.str "hush", .int a, .int c] | .hand a n c => [.str "hand", .int a, .int n, .int c] | .begin h d => [.str "begin", .int h, ddD d]
theorem evD_L (e : Ev) : evD e = .tup (evL e) := by cases e <;> rfl
theorem evL_mem {e : Ev} {d : D} (h : d ∈ evL e) : (∃ v : Vv, d = vD v) ∨ ∃ q : Dd, d = ddD q := by
  cases e with
  | begin h q =>
    simp only [evL, List.mem_cons, List.not_mem_nil, or_false] at h
    rcases h with rfl | rfl | rfl
    · exact .inl ⟨.s _, rfl⟩
    · exact .inl ⟨.i _, rfl⟩
    · exact .inr ⟨q, rfl⟩
  | hand a n c =>
    simp only [evL, List.mem_cons, List.not_mem_nil, or_false] at h
    rcases h with rfl | rfl | rfl | rfl
    · exact .inl ⟨.s _, rfl⟩
    all_goals exact .inl ⟨.i _, rfl⟩
  | hush a c =>
    simp only [evL, List.mem_cons, List.not_mem_nil, or_false] at h
    rcases h with rfl | rfl | rfl
    · exact .inl ⟨.s _, rfl⟩
    all_goals exact .inl ⟨.i _, rfl⟩
  | _ =>
    simp only [evL, List.mem_cons, List.not_mem_nil, or_false] at h
    rcases h with rfl | rfl
    · exact .inl ⟨.s _, rfl⟩
    · exact .inl ⟨.i _, rfl⟩
theorem evL_len (e : Ev) : (evL e).length ≤ 4 := by cases e <;> simp [evL]
def S_knd (ds : List D) (Ψ : D → Prop) : Prop := ∃ e : Ev, ds = [evD e] ∧ Ψ (.bl true)
theorem m_knd : MonoF S_knd := fun ds Φ Φ' g ⟨e, h1, h2⟩ => ⟨e, h1, g _ h2⟩
section
variable {P : Program} {w : World} {K : PySem.W.Frag} {mg : Str → Option Value} {base : Heap} {f : Addr} {fd : FuncData}
theorem c_knd (F : FunN K "_law_kinds" s__law_kinds f fd) (hm : mg "_law_kinds" = some (.ref f)) (b : Blt mg) (hstr : mg "str" = none) (c1 : KF P w K mg base "_law_int" 1 1 S_is_number) : KF P w K mg base "_law_kinds" 2 1 S_knd := ⟨by
  have nd : (["row", "part", "inner"] : List Str).Nodup := by decide +kernel
  refine cal_fn F hm (N := ["row", "part", "inner"]) (ps := ["row"]) ⟨rfl, rfl, rfl, nd, rfl, by decide +kernel, by decide +kernel⟩ rfl (fun _ _ _ _ _ _ us hl => match us, hl with | [_], _ => rfl) ?_
  rintro cdv A outer s H E hr ds Ψ hl ⟨e, rfl, hd⟩
  rw [evD_L]
  refine sc_if (tc_not (tc_val (ec_isi kit_tup rfl (ec_var 0 rfl ⟨rfl, _, rfl, ?_⟩) b.isi b.tuple)))
  refine ⟨(fun z => nomatch z), fun _ => sc_nil ?_⟩
  show SC _ _ _ _ _
  let St : Option D → Option D → En := fun x1 x2 => [some (.im (.tup (evL e))), x1.map .im, x2.map .im]
  refine sc_for (js := [1]) (ic_tup (ec_var 0 rfl ⟨_, rfl, ?_⟩)) (passes_of rfl)
  refine ⟨fun i ρ' => ∃ x1 x2, ρ' = St x1 x2, ⟨none, none, rfl⟩, ?_, ?_⟩
  · rintro i d ρi hi ⟨x1, x2, rfl⟩
    refine gt_name 1 ?_ nd
    rcases evL_mem (List.mem_of_getElem? hi) with ⟨v, rfl⟩ | ⟨q, rfl⟩
    · have ho : AL.isObj (vD v) = false := by cases v <;> rfl
      have ht : isTupD (vD v) = false := by cases v <;> rfl
      refine sc_if (tc_val (ec_isi kit_tup rfl (ec_var 1 rfl ⟨ho, _, rfl, ?_⟩) b.isi b.tuple))
      rw [ht]
      refine ⟨(fun z => nomatch z), fun _ => ?_⟩
      refine sc_if (tc_w (wc_and (tc_not (tc_val (ec_cf c1.c hr (pass_0 passL) c1.m (ac_cons (ec_var 1 rfl (ac_nil ⟨rfl, vD v, rfl, ho, _, rfl, ?_⟩))))))))
      cases v with
      | i n => exact ⟨(fun z => nomatch z), fun _ => ⟨(fun z => nomatch z), fun _ => sc_nil (sc_nil (sc_nil ⟨some (vD (.i n)), x2, rfl⟩))⟩⟩
      | s x =>
        refine ⟨fun _ => wc_and1 (tc_not (tc_val (ec_isi kit_strD rfl (ec_var 1 rfl ⟨rfl, _, rfl, ?_⟩) b.isi hstr))), (fun z => nomatch z)⟩
        exact ⟨(fun z => nomatch z), fun _ => sc_nil (sc_nil (sc_nil ⟨some (vD (.s x)), x2, rfl⟩))⟩
    · refine sc_if (tc_val (ec_isi kit_tup rfl (ec_var 1 rfl ⟨rfl, _, rfl, ?_⟩) b.isi b.tuple))
      refine ⟨fun _ => ?_, (fun z => nomatch z)⟩
      refine sc_for (js := [2]) (ic_tup (ec_var 1 rfl ⟨_, rfl, ?_⟩)) (passes_of rfl)
      refine ⟨fun i ρ' => ∃ x2, ρ' = St (some (ddD q)) x2, ⟨x2, rfl⟩, ?_, ?_⟩
      · rintro i d ρi hi ⟨x2, rfl⟩
        refine gt_name 2 ?_ nd
        rw [List.getElem?_map] at hi
        obtain ⟨v, _, rfl⟩ := Option.map_eq_some_iff.mp hi
        have ho : AL.isObj (vD v) = false := by cases v <;> rfl
        refine sc_if (tc_w (wc_and (tc_not (tc_val (ec_cf c1.c hr (pass_0 passL) c1.m (ac_cons (ec_var 2 rfl (ac_nil ⟨rfl, vD v, rfl, ho, _, rfl, ?_⟩))))))))
        cases v with
        | i n => exact ⟨(fun z => nomatch z), fun _ => ⟨(fun z => nomatch z), fun _ => sc_nil (sc_nil ⟨some (vD (.i n)), rfl⟩)⟩⟩
        | s x =>
          refine ⟨fun _ => wc_and1 (tc_not (tc_val (ec_isi kit_strD rfl (ec_var 2 rfl ⟨rfl, _, rfl, ?_⟩) b.isi hstr))), (fun z => nomatch z)⟩
          exact ⟨(fun z => nomatch z), fun _ => sc_nil (sc_nil ⟨some (vD (.s x)), rfl⟩)⟩
      · rintro ρ' ⟨x2, rfl⟩
        exact sc_nil (sc_nil ⟨_, _, rfl⟩)
  · rintro ρ' ⟨x1, x2, rfl⟩
    exact sc_ret (ec_bl hd)
  , m_knd⟩
end
end T34
namespace T34
open PySem PySem.Spec PyProof PyProof.Rows L2 Evl AL
/-! ### words of a line; bare lines -/
def isNe (l : List Nat) : Bool := !decide (l = [])
def wl (l : List Nat) : List (List Nat) := (TL.spl [32] 0 [] l).filter isNe
theorem tl_sp : TL.tl (" " : Str) = [32] := by decide +kernel
theorem tl_nl : TL.tl ("\n" : Str) = [10] := by decide +kernel
theorem tl_tab : TL.tl ("\t" : Str) = [9] := by decide +kernel
theorem tl_em : TL.tl ("" : Str) = [] := by decide +kernel
theorem wIn_tl (x : Str) : (wordsIn x).map TL.tl = wl (TL.tl x) := by
  have h := TL.split_spl x " " (by rw [tl_sp]; simp) (TL.kind_ok (by decide +kernel))
  rw [tl_sp] at h
  unfold wl
  rw [← h]
  unfold wordsIn
  induction Txt.split x " " with
  | nil => rfl
  | cons y ys ih =>
    have e : (!decide (y = "")) = isNe (TL.tl y) := by
      unfold isNe
      congr 1
      exact decide_eq_decide.mpr ⟨fun e => by rw [e]; exact tl_em, fun e => TL.ext_tl (e.trans tl_em.symm)⟩
    rw [List.filter_cons, e, List.map_cons, List.filter_cons]
    cases isNe (TL.tl y) <;> simp [ih]
theorem spl32 (acc r : List Nat) : TL.spl [32] 0 acc (32 :: r) = acc :: TL.spl [32] 0 [] r := TL.spl_hit (show TL.pre [32] (32 :: r) = true from TL.pre_self [32] r)
theorem spl_app : ∀ (p acc r : List Nat), TL.spl [32] 0 acc (p ++ 32 :: r) = TL.spl [32] 0 acc p ++ TL.spl [32] 0 [] r
  | [], acc, r => by
    rw [List.nil_append, spl32, TL.spl_nil]; rfl
  | c :: p, acc, r => by
    by_cases h : c = 32
    · subst h
      rw [List.cons_append, spl32, spl32, spl_app p [] r]; rfl
    · rw [List.cons_append, TL.spl_miss (TL.pre_of_head [] _ h), TL.spl_miss (TL.pre_of_head [] _ h), spl_app p _ r]
theorem wl_app (p r : List Nat) : wl (p ++ 32 :: r) = wl p ++ wl r := by unfold wl; rw [spl_app, List.filter_append]
theorem wl_nil : wl [] = [] := by unfold wl; rw [TL.spl_nil]; rfl
theorem wl_word {p : List Nat} (h : 32 ∉ p) (hn : p ≠ []) : wl p = [p] := by
  unfold wl
  rw [TL.spl_last1 h]
  simp [isNe, hn]
theorem wl_pad (p : List Nat) : ∀ k, wl (p ++ List.replicate k 32) = wl p
  | 0 => by simp
  | k + 1 => by
    have e : p ++ List.replicate (k + 1) 32 = (p ++ List.replicate k 32) ++ 32 :: [] := by rw [List.replicate_succ']; simp
    rw [e, wl_app, wl_pad p k, wl_nil, List.append_nil]
theorem wl_pads (k : Nat) : wl (List.replicate k 32) = [] := by have := wl_pad [] k; rw [List.nil_append] at this; rw [this, wl_nil]
/-- blanks ahead of a word -/
theorem wl_next {p q : List Nat} (k : Nat) (h : 32 ∉ q) (hn : q ≠ []) : wl (p ++ List.replicate (k + 1) 32 ++ q) = wl p ++ [q] := by
  have e : p ++ List.replicate (k + 1) 32 ++ q = (p ++ List.replicate k 32) ++ 32 :: q := by rw [List.replicate_succ']; simp
  rw [e, wl_app, wl_pad, wl_word h hn]
theorem wl_first {q : List Nat} (k : Nat) (h : 32 ∉ q) (hn : q ≠ []) : wl (List.replicate k 32 ++ q) = [q] := by
  cases k with
  | zero => exact wl_word h hn
  | succ k => have := wl_next (p := []) k h hn; rw [List.nil_append] at this; rw [this, wl_nil]; rfl
theorem wIn_of {x : Str} {ws : List Str} (h : wl (TL.tl x) = ws.map TL.tl) : wordsIn x = ws := TL.map_tl_inj ((wIn_tl x).trans h)
theorem wl_sub : ∀ (l : List Nat) {q : List Nat}, q ∈ TL.spl [32] 0 [] l → q.length ≤ l.length ∧ ∀ c ∈ q, c ∈ l := fun l => by
  have gen : ∀ (l acc : List Nat) (q : List Nat), q ∈ TL.spl [32] 0 acc l → q.length ≤ acc.length + l.length ∧ ∀ c ∈ q, c ∈ acc ∨ c ∈ l := by
    intro l
    induction l with
    | nil => intro acc q hq; rw [TL.spl_nil, List.mem_singleton] at hq; subst hq; exact ⟨by simp, fun c hc => .inl hc⟩
    | cons x l ih =>
      intro acc q hq
      by_cases h : x = 32
      · subst h
        rw [spl32] at hq
        rcases List.mem_cons.mp hq with rfl | hq
        · exact ⟨by omega, fun c hc => .inl hc⟩
        · obtain ⟨a, b⟩ := ih [] q hq
          exact ⟨by simp at a ⊢; omega, fun c hc => .inr ((b c hc).elim (fun z => nomatch z) (List.mem_cons_of_mem _))⟩
      · rw [TL.spl_miss (TL.pre_of_head [] _ h)] at hq
        obtain ⟨a, b⟩ := ih _ q hq
        refine ⟨by simp at a ⊢; omega, fun c hc => ?_⟩
        rcases b c hc with z | z
        · rcases List.mem_append.mp z with z | z
          · exact .inl z
          · rw [List.mem_singleton.mp z]; exact .inr List.mem_cons_self
        · exact .inr (List.mem_cons_of_mem _ z)
  intro q hq
  obtain ⟨a, b⟩ := gen l [] q hq
  exact ⟨by simpa using a, fun c hc => (b c hc).elim (fun z => nomatch z) id⟩
theorem spl_len : ∀ (l acc : List Nat), (TL.spl [32] 0 acc l).length ≤ l.length + 1
  | [], acc => by rw [TL.spl_nil]; simp
  | x :: l, acc => by
    by_cases h : x = 32
    · subst h
      rw [spl32]
      have := spl_len l []
      simp; omega
    · rw [TL.spl_miss (TL.pre_of_head [] _ h)]
      have := spl_len l (acc ++ [x])
      simp; omega
/-- a line of the law: short, small signs, no line's end -/
def Ln (x : Str) : Prop := x.length ≤ 900 ∧ ∀ c ∈ TL.tl x, c < 128 ∧ c ≠ 10
theorem ln_wok {x : Str} (h : Ln x) (hw : wordsIn x ≠ []) : WOk x := by
  have hs := TL.split_spl x " " (by rw [tl_sp]; simp) (TL.kind_ok (by decide +kernel))
  rw [tl_sp] at hs
  have hl : (Txt.split x " ").length ≤ x.length + 1 := by
    have := congrArg List.length hs
    rw [List.length_map] at this
    rw [this, TL.len_tl]
    exact spl_len _ _
  have h1 := h.1
  refine ⟨by omega, by omega, hw, ?_, fun y hy => ?_⟩
  · have : (wordsIn x).length ≤ (Txt.split x " ").length := List.length_filter_le _ _
    omega
  · have hm : TL.tl y ∈ TL.spl [32] 0 [] (TL.tl x) := by
      rw [← hs]; exact List.mem_map_of_mem (List.mem_filter.mp hy).1
    obtain ⟨a, b⟩ := wl_sub _ hm
    rw [← TL.len_tl, ← TL.len_tl] at a
    refine ⟨by omega, ?_⟩
    unfold PyData.strOk
    rw [Array.all_eq_true_iff_forall_mem]
    intro c hc
    have := (h.2 c (b c (Array.mem_toList_iff.mpr hc))).1
    exact decide_eq_true (by omega)
theorem goes_sp (c : Nat) : (" " : Str).cps.contains c = decide (c = 32) := by
  have e : (" " : Str).cps = #[32] := by decide +kernel
  rw [e]
  by_cases h : c = 32
  · subst h; simp
  · rw [decide_eq_false h]; simp [h]
theorem bare_of {x : Str} {k c : Nat} {R : List Nat} (h : TL.tl x = List.replicate k 32 ++ c :: R) (h1 : c ≠ 32) (h2 : c ≠ 35) : bareB x = true := by
  let g := (" " : Str).cps.contains
  have xl : x.length = k + 1 + R.length := by rw [TL.len_tl, h]; simp; omega
  have at_k : x.cps.getD k 0 = c := by
    rw [← getD_list]
    show (TL.tl x).getD k 0 = c
    rw [h, List.getD_eq_getElem?_getD, List.getElem?_append_right (by simp)]
    simp
  have below : ∀ j, j < k → x.cps.getD j 0 = 32 := fun j hj => by
    rw [← getD_list]
    show (TL.tl x).getD j 0 = 32
    rw [h, List.getD_eq_getElem?_getD, List.getElem?_append_left (by simpa using hj)]
    simp [hj]
  obtain ⟨a0, a1, a2⟩ := lo_facts g x
  have lo : stripLo g true x = k := by
    have u1 : ¬ k < stripLo g true x := fun z => by
      have := a1 k z
      rw [at_k, show g c = _ from goes_sp c, decide_eq_true_iff] at this
      exact h1 this
    have u2 : ¬ stripLo g true x < k := fun z => by
      rcases a2 with q | q
      · omega
      · rw [below _ z, show g 32 = _ from goes_sp 32] at q; cases q
    omega
  obtain ⟨b0, b1, b2, b3⟩ := hi_facts g x (stripLo g true x) a0
  rw [lo] at b0 b1 b2 b3
  have hi : k < stripHi g true x k := by
    refine Nat.lt_of_not_le fun z => ?_
    have := b2 k z (by omega)
    rw [at_k, show g c = _ from goes_sp c, decide_eq_true_iff] at this
    exact h1 this
  have e : Txt.stripChars x " " = Builtin.Str.strSub x k (stripHi g true x k) := by
    unfold Txt.stripChars
    rw [stripBy_eq, show stripLo ((" " : Str).cps.contains) true x = k from lo]
  have et : ∃ T, TL.tl (Txt.stripChars x " ") = c :: T := by
    rw [e, TL.tl_strSub, h, List.drop_append_of_le_length (by simp)]
    rw [List.drop_of_length_le (by simp), List.nil_append]
    obtain ⟨m, hm⟩ : ∃ m, stripHi g true x k - k = m + 1 := ⟨stripHi g true x k - k - 1, by omega⟩
    rw [hm]
    exact ⟨_, rfl⟩
  obtain ⟨T, et⟩ := et
  unfold bareB
  have n1 : ¬ Txt.stripChars x " " = "" := fun z => by rw [z, tl_em] at et; cases et
  have n2 : Txt.startswith (Txt.stripChars x " ") "#" = false := by
    unfold Txt.startswith
    rw [PySem.StrLaws.subAt_eq]
    have e1 : ("#" : Str).cps.toList = [35] := by decide +kernel
    have e2 : ("#" : Str).length = 1 := by decide +kernel
    have e3 : (Txt.stripChars x " ").cps.toList = c :: T := et
    rw [e1, e2, e3]
    simp [h2]
  rw [decide_eq_false n1, n2]; rfl
end T34
namespace T34
open PySem PySem.Spec PyProof PyProof.Rows L2 Evl AL
/-! ### numbers as words -/
theorem starts1 {x : Str} {y : Str} {s : Nat} (hy : TL.tl y = [s]) : Txt.startswith x y = true ↔ ∃ R, TL.tl x = s :: R := by
  have ly : y.length = 1 := by rw [TL.len_tl, hy]; rfl
  unfold Txt.startswith
  rw [PySem.StrLaws.subAt_eq, ly, show y.cps.toList = [s] from hy]
  cases hx : TL.tl x with
  | nil => rw [show x.cps.toList = [] from hx]; simp
  | cons c R =>
    have lx : x.length = R.length + 1 := by rw [TL.len_tl, hx]; rfl
    rw [show x.cps.toList = c :: R from hx, lx]
    by_cases h : c = s
    · subst h; simp
    · simp [h]
theorem tl_numN (n : Nat) : TL.tl (numT (n : Int)) = TL.numL n := TL.tl_num n
theorem tl_numM (n : Nat) : TL.tl (numT (Int.negSucc n)) = 45 :: TL.numL (n + 1) := by
  have e : (numT (Int.negSucc n)) = ("-" : Str) ++ numT ((n + 1 : Nat) : Int) := by
    show Str.ofString ("-" ++ toString (n + 1)) = Str.ofString "-" ++ Str.ofString (toString (n + 1))
    exact TL.ext_tl (by rw [TL.tl_append]; simp [TL.tl_ofString])
  rw [e, TL.tl_append, tl_numN]
  have : TL.tl ("-" : Str) = [45] := by decide +kernel
  rw [this]; rfl
theorem numL_head : ∀ n : Nat, ∃ c R, TL.numL n = c :: R ∧ (c = 48 → n = 0) := fun n => by
  induction n using Nat.strongRecOn with
  | _ n ih =>
    by_cases h : n < 10
    · exact ⟨48 + n, [], TL.numL_lt h, fun e => by omega⟩
    · obtain ⟨c, R, e, k⟩ := ih (n / 10) (by omega)
      refine ⟨c, R ++ [48 + n % 10], by rw [TL.numL_step (by omega), e]; rfl, fun z => ?_⟩
      have := k z
      omega
theorem num_nd {x : Str} (h : ∃ c ∈ TL.tl x, c < 48 ∨ 57 < c) : numIn x = none := by
  obtain ⟨c, hc, hd⟩ := h
  unfold numIn
  split
  · rfl
  · rw [if_pos]
    unfold digB
    rw [List.all_eq_false]
    refine ⟨c, hc, ?_⟩
    have : ¬ c ∈ cDig.cps.toList := fun z => by have := dig_iff.mp z; omega
    simpa using this
theorem num_num {n : Nat} (h : NB (n : Int)) : numIn (numT (n : Int)) = some (n : Int) := by
  have e := tl_numN n
  have h' : n < 10 ^ 30 := h
  have l : (numT (n : Int)).length ≤ 30 := by rw [TL.len_tl, e]; exact TL.numL_len (by decide) h'
  have ne : ¬ (numT (n : Int) = "" ∨ 30 < (numT (n : Int)).length) := fun z => z.elim (fun z => TL.numL_ne n (by rw [← e, z]; exact tl_em)) (by omega)
  have d : digB (numT (n : Int)) = true := by
    unfold digB
    rw [e, List.all_eq_true]
    exact fun c hc => decide_eq_true (dig_iff.mpr (TL.numL_digits n c hc))
  unfold numIn
  rw [if_neg ne, if_neg (by rw [d]; simp), if_neg, e, TL.numL_val]
  rintro ⟨z, z2⟩
  rw [starts1 (s := 48) (by decide +kernel), e] at z
  obtain ⟨R, z⟩ := z
  obtain ⟨c, R2, e2, k⟩ := numL_head n
  rw [e2] at z
  have : n = 0 := k (List.cons.inj z).1
  subst this
  exact z2 (by decide +kernel)
theorem val_num {n : Int} (h : NB n) : valIn (numT n) = some n := by
  cases n with
  | ofNat n =>
    have : Txt.startswith (numT (Int.ofNat n)) "-" = false := by
      rw [← Bool.not_eq_true, starts1 (s := 45) (by decide +kernel)]
      rintro ⟨R, z⟩
      have z' : TL.numL n = 45 :: R := (tl_numN n).symm.trans z
      have := TL.numL_digits n 45 (by rw [z']; exact List.mem_cons_self)
      omega
    unfold valIn
    rw [if_pos this]
    exact num_num h
  | negSucc n =>
    have e := tl_numM n
    have : ¬ Txt.startswith (numT (Int.negSucc n)) "-" = false := by
      rw [← Bool.not_eq_true, starts1 (s := 45) (by decide +kernel), e]; simp
    unfold valIn
    rw [if_neg this]
    have et : tailS (numT (Int.negSucc n)) = numT ((n + 1 : Nat) : Int) := TL.ext_tl (by rw [tl_numN]; show (TL.tl _).drop 1 = _; rw [e]; rfl)
    rw [et, num_num (show NB ((n + 1 : Nat) : Int) by exact h)]
    show (if ((n + 1 : Nat) : Int) = 0 then none else some (-((n + 1 : Nat) : Int))) = _
    rw [if_neg (by omega)]
    rfl
/-- a word of the law's -/
def Wc (w : Str) : Prop := TL.tl w ≠ [] ∧ w.length ≤ 40 ∧ ∀ c ∈ TL.tl w, 35 < c ∧ c < 128
theorem wc_num {n : Int} (h : NB n) : Wc (numT n) := by
  refine ⟨fun z => ?_, numT_len h, fun c hc => ?_⟩
  · cases n with
    | ofNat n => exact TL.numL_ne n ((tl_numN n).symm.trans z)
    | negSucc n => rw [tl_numM n] at z; cases z
  · cases n with
    | ofNat n =>
      have := TL.numL_digits n c (by rw [← tl_numN n]; exact hc)
      omega
    | negSucc n =>
      rw [tl_numM n] at hc
      rcases List.mem_cons.mp hc with rfl | hc
      · omega
      · have := TL.numL_digits (n + 1) c hc
        omega
def wcB (w : Str) : Bool := decide (TL.tl w ≠ []) && decide (w.length ≤ 40) && (TL.tl w).all fun c => decide (35 < c ∧ c < 128)
theorem wc_b {w : Str} (h : wcB w = true) : Wc w := by
  unfold wcB at h
  simp only [Bool.and_eq_true, decide_eq_true_eq, List.all_eq_true] at h
  exact ⟨h.1.1, h.1.2, fun c hc => h.2 c hc⟩
theorem evW_wc {e : Ev} (ok : EvOk e) : ∀ w ∈ evW e, Wc w := by
  have k : ∀ w, wcB w = true → Wc w := fun w => wc_b
  cases e with
  | tick h => intro w hw; simp only [evW, List.mem_cons, List.not_mem_nil, or_false] at hw; rcases hw with rfl | rfl; exact k _ (by decide +kernel); exact wc_num ok
  | fall h => intro w hw; simp only [evW, List.mem_cons, List.not_mem_nil, or_false] at hw; rcases hw with rfl | rfl; exact k _ (by decide +kernel); exact wc_num ok
  | wake h => intro w hw; simp only [evW, List.mem_cons, List.not_mem_nil, or_false] at hw; rcases hw with rfl | rfl; exact k _ (by decide +kernel); exact wc_num ok
  | hush a c => intro w hw; simp only [evW, List.mem_cons, List.not_mem_nil, or_false] at hw; rcases hw with rfl | rfl | rfl; exact k _ (by decide +kernel); exact wc_num ok.1; exact wc_num ok.2.1
  | hand a n c => intro w hw; simp only [evW, List.mem_cons, List.not_mem_nil, or_false] at hw; rcases hw with rfl | rfl | rfl | rfl | rfl; exact k _ (by decide +kernel); exact wc_num ok.1; exact wc_num ok.2.1; exact k _ (by decide +kernel); exact wc_num ok.2.2.1
  | begin h d =>
    intro w hw
    simp only [evW, List.mem_cons] at hw
    rcases hw with rfl | rfl | hw
    · exact k _ (by decide +kernel)
    · exact wc_num ok.1
    · obtain ⟨v, hv, rfl⟩ := List.mem_map.mp hw
      have o2 := ok.2
      cases d <;> simp only [DdOk] at o2 <;> simp only [ddV, List.mem_cons, List.not_mem_nil, or_false] at hv <;> (first | (rcases hv with rfl | rfl | rfl | rfl) | (rcases hv with rfl | rfl | rfl) | (rcases hv with rfl | rfl) | (rcases hv with rfl)) <;>
        first | exact wc_num o2 | exact wc_num o2.1 | exact wc_num o2.2 | exact wc_num o2.2.1 | exact wc_num o2.2.2 | exact k _ (by decide +kernel)
end T34
namespace T34
open PySem PySem.Spec PyProof PyProof.Rows L2 Evl AL
/-! ### events back from their words; spoiled words -/
theorem evI_pln {ws : List Str} (h1 : w0 ws ≠ "begin") (h2 : w0 ws ≠ "hand") : evI ws = plnD ws := by
  unfold evI
  rw [if_neg fun z => h1 z.1, if_neg fun z => h2 z.1]
theorem pln_bad {ws : List Str} (h : none ∈ nsOf ws) : plnD ws = .non := by unfold plnD; rw [if_pos h]
theorem pln_word {ws : List Str} (h1 : ¬ (w0 ws = "tick" ∨ w0 ws = "fall" ∨ w0 ws = "wake")) (h2 : w0 ws ≠ "hush") : plnD ws = .non := by
  unfold plnD
  split
  · rfl
  · rw [if_neg fun z => h1 z.1, if_neg fun z => h2 z.1]
theorem pln_one {k a : Str} (hk : k = "tick" ∨ k = "fall" ∨ k = "wake") : plnD [k, a] = match numIn a with
    | none => .non
    | some n => .tup [.str k, .int n] := by
  have e : nsOf [k, a] = [numIn a] := rfl
  cases h : numIn a with
  | none => exact pln_bad (by rw [e, h]; simp)
  | some n =>
    unfold plnD
    rw [e, h, if_neg (by simp), if_pos ⟨hk, rfl⟩]
    show D.tup [.str k, oI ((nsOf [k, a]).getD 0 none)] = _
    rw [e, h]; rfl
theorem one_tick : evI ["tick", a] = plnD ["tick", a] := evI_pln (by show ("tick" : Str) ≠ "begin"; decide +kernel) (by show ("tick" : Str) ≠ "hand"; decide +kernel)
theorem one_fall : evI ["fall", a] = plnD ["fall", a] := evI_pln (by show ("fall" : Str) ≠ "begin"; decide +kernel) (by show ("fall" : Str) ≠ "hand"; decide +kernel)
theorem one_wake : evI ["wake", a] = plnD ["wake", a] := evI_pln (by show ("wake" : Str) ≠ "begin"; decide +kernel) (by show ("wake" : Str) ≠ "hand"; decide +kernel)
theorem hush_of {a c : Str} : evI ["hush", a, c] = if none ∈ [numIn a, numIn c] ∨ numIn a = numIn c then .non else .tup [.str "hush", oI (numIn a), oI (numIn c)] := by
  rw [evI_pln (by show ("hush" : Str) ≠ "begin"; decide +kernel) (by show ("hush" : Str) ≠ "hand"; decide +kernel)]
  have e : nsOf ["hush", a, c] = [numIn a, numIn c] := rfl
  have k : ¬ ((("hush" : Str) = "tick" ∨ ("hush" : Str) = "fall" ∨ ("hush" : Str) = "wake") ∧ (nsOf ["hush", a, c]).length = 1) := fun z => by rw [e] at z; exact absurd z.2 (by simp)
  unfold plnD
  rw [e]
  by_cases h : none ∈ [numIn a, numIn c]
  · rw [if_pos h, if_pos (.inl h)]
  · rw [if_neg h, if_neg (by rw [e] at k; exact k)]
    by_cases h2 : numIn a = numIn c
    · rw [if_neg fun z => z.2.2 h2, if_pos (.inr h2)]
    · rw [if_pos ⟨rfl, rfl, h2⟩, if_neg fun z => z.elim h h2]; rfl
theorem hand_of {a b c d : Str} : evI ["hand", a, b, c, d] = hnD a b c d := by
  unfold evI
  rw [if_neg fun z => absurd z.1 (by show ¬ (("hand" : Str) = "begin"); decide +kernel), if_pos ⟨rfl, rfl⟩]
  rfl
theorem begin_of {h : Str} {x : Str} {ws : List Str} : evI ("begin" :: h :: x :: ws) = bgnD (h :: x :: ws) := by
  unfold evI
  rw [if_pos ⟨rfl, by simp⟩]; rfl
theorem bgn_of {h x : Str} {ws : List Str} : bgnD (h :: x :: ws) = if numIn h = none ∨ dedN (x :: ws) = none then .non else .tup [.str "begin", oI (numIn h), dedD (x :: ws)] := rfl
theorem kinds_get : kindsOf "get" = some [kP] := by decide +kernel
theorem kinds_put : kindsOf "put" = some [kP, kV] := by decide +kernel
theorem kinds_look : kindsOf "look" = some [] := by decide +kernel
theorem kinds_tour : kindsOf "tour" = some [kV] := by decide +kernel
theorem kinds_prop : kindsOf "propose" = some [kV] := by decide +kernel
theorem kinds_add : kindsOf "add_if" = some [kP, kV, kV] := by decide +kernel
theorem kinds_move : kindsOf "move" = some [kP] := by decide +kernel
theorem sel_P {x : Str} : selV (kP, x) = numIn x := by unfold selV; rw [if_neg (by show ¬ kP = "value"; decide +kernel)]
theorem sel_V {x : Str} : selV (kV, x) = valIn x := by unfold selV; rw [if_pos (by show kV = "value"; decide +kernel)]
theorem ded_of {x : Str} {ks ws : List Str} (h : kindsOf x = some ks) : dedN (x :: ws) = if ws.length ≠ ks.length then none else if none ∈ (ks.zip ws).map selV then none else some ((ks.zip ws).map selV) := by
  unfold dedN
  rw [show w0 (x :: ws) = x from rfl, h]
  show (if ws.length + 1 ≠ ks.length + 1 then none else if none ∈ (ks.zip ws).map selV then none else some ((ks.zip ws).map selV)) = _
  by_cases e : ws.length = ks.length
  · rw [if_neg (show ¬ (ws.length + 1 ≠ ks.length + 1) from fun z => z (by omega)), if_neg (show ¬ (ws.length ≠ ks.length) from fun z => z e)]
  · rw [if_pos (show ws.length + 1 ≠ ks.length + 1 from fun z => e (by omega)), if_pos (show ws.length ≠ ks.length from e)]
theorem ded_wd {d : Dd} (ok : DdOk d) : ∃ ns, dedN ((ddV d).map vT) = some ns ∧ .tup (.str (w0 ((ddV d).map vT)) :: ns.map oI) = ddD d := by
  cases d with
  | put p v => exact ⟨[some (p : Int), some v], by
      show dedN ("put" :: _) = _
      rw [ded_of kinds_put]
      show (if ([numT (p : Int), numT v] : List Str).length ≠ ([kP, kV] : List Str).length then none else if none ∈ [selV (kP, numT (p : Int)), selV (kV, numT v)] then none else some [selV (kP, numT (p : Int)), selV (kV, numT v)]) = _
      rw [sel_P, sel_V, num_num ok.1, val_num ok.2]; simp, rfl⟩
  | get p => exact ⟨[some (p : Int)], by
      show dedN ("get" :: _) = _
      rw [ded_of kinds_get]
      show (if ([numT (p : Int)] : List Str).length ≠ ([kP] : List Str).length then none else if none ∈ [selV (kP, numT (p : Int))] then none else some [selV (kP, numT (p : Int))]) = _
      rw [sel_P, num_num ok]; simp, rfl⟩
  | look => exact ⟨[], by show dedN ("look" :: _) = _; rw [ded_of kinds_look]; simp, rfl⟩
  | tour v => exact ⟨[some v], by
      show dedN ("tour" :: _) = _
      rw [ded_of kinds_tour]
      show (if ([numT v] : List Str).length ≠ ([kV] : List Str).length then none else if none ∈ [selV (kV, numT v)] then none else some [selV (kV, numT v)]) = _
      rw [sel_V, val_num ok]; simp, rfl⟩
  | propose v => exact ⟨[some v], by
      show dedN ("propose" :: _) = _
      rw [ded_of kinds_prop]
      show (if ([numT v] : List Str).length ≠ ([kV] : List Str).length then none else if none ∈ [selV (kV, numT v)] then none else some [selV (kV, numT v)]) = _
      rw [sel_V, val_num ok]; simp, rfl⟩
  | move p => exact ⟨[some (p : Int)], by
      show dedN ("move" :: _) = _
      rw [ded_of kinds_move]
      show (if ([numT (p : Int)] : List Str).length ≠ ([kP] : List Str).length then none else if none ∈ [selV (kP, numT (p : Int))] then none else some [selV (kP, numT (p : Int))]) = _
      rw [sel_P, num_num ok]; simp, rfl⟩
  | addif p v u => exact ⟨[some (p : Int), some v, some u], by
      show dedN ("add_if" :: _) = _
      rw [ded_of kinds_add]
      show (if ([numT (p : Int), numT v, numT u] : List Str).length ≠ ([kP, kV, kV] : List Str).length then none else if none ∈ [selV (kP, numT (p : Int)), selV (kV, numT v), selV (kV, numT u)] then none else some [selV (kP, numT (p : Int)), selV (kV, numT v), selV (kV, numT u)]) = _
      rw [sel_P, sel_V, sel_V, num_num ok.1, val_num ok.2.1, val_num ok.2.2]; simp, rfl⟩
theorem dd_cons (d : Dd) : ∃ x vs, (ddV d).map vT = x :: vs := by cases d <;> exact ⟨_, _, rfl⟩
/-- what event_in tells of the words of an event -/
def EvOk2 (e : Ev) : Prop := EvOk e ∧ match e with
  | .hand _ n _ => 1 ≤ n
  | _ => True
theorem evI_ev {e : Ev} (ok : EvOk e) : evI (evW e) = evD e := by
  cases e with
  | tick h => show evI ["tick", _] = _; rw [one_tick, pln_one (.inl rfl), num_num ok]; rfl
  | fall h => show evI ["fall", _] = _; rw [one_fall, pln_one (.inr (.inl rfl)), num_num ok]; rfl
  | wake h => show evI ["wake", _] = _; rw [one_wake, pln_one (.inr (.inr rfl)), num_num ok]; rfl
  | hush a c =>
    show evI ["hush", _, _] = _
    rw [hush_of, num_num ok.1, num_num ok.2.1, if_neg]
    · rfl
    · have := ok.2.2
      simp; omega
  | hand a n c =>
    show evI ["hand", _, _, _, _] = _
    rw [hand_of]
    unfold hnD
    rw [num_num ok.1, num_num ok.2.1, num_num ok.2.2.1, if_neg]
    · rfl
    · have h1 := ok.2.2.2.1
      have h2 := ok.2.2.2.2
      simp; omega
  | begin h d =>
    obtain ⟨x, vs, e⟩ := dd_cons d
    obtain ⟨ns, e1, e2⟩ := ded_wd ok.2
    show evI ("begin" :: numT h :: (ddV d).map vT) = _
    rw [e] at e1 e2 ⊢
    rw [begin_of, bgn_of, num_num ok.1, e1, if_neg (by simp)]
    unfold dedD
    rw [e1]
    show D.tup [.str "begin", .int h, .tup (.str (w0 (x :: vs)) :: ns.map oI)] = _
    rw [e2]; rfl
end T34
namespace T34
open PySem PySem.Spec PyProof PyProof.Rows L2 Evl AL
/-! ### joined words -/
theorem tl_joinT (y : Str) (ps : List Str) : TL.tl (Txt.join y ps) = TL.joinL (TL.tl y) (ps.map TL.tl) := by rw [TL.join_eq, TL.tl_join]
theorem joinL_tail (S q r : List Nat) : ∀ ps : List (List Nat), TL.joinL S (ps ++ [q]) ++ r = TL.joinL S (ps ++ [q ++ r])
  | [] => rfl
  | [p] => by show (p ++ (S ++ q)) ++ r = p ++ (S ++ (q ++ r)); simp
  | p :: p2 :: ps => by
    have ih := joinL_tail S q r (p2 :: ps)
    show (p ++ (S ++ TL.joinL S (p2 :: ps ++ [q]))) ++ r = p ++ (S ++ TL.joinL S (p2 :: ps ++ [q ++ r]))
    rw [← ih]; simp
theorem joinL_head (S c q : List Nat) : ∀ ps : List (List Nat), c ++ TL.joinL S (q :: ps) = TL.joinL S ((c ++ q) :: ps)
  | [] => rfl
  | p :: ps => by show c ++ (q ++ (S ++ TL.joinL S (p :: ps))) = (c ++ q) ++ (S ++ TL.joinL S (p :: ps)); simp
theorem joinL_mem {S : List Nat} {c : Nat} : ∀ {ps : List (List Nat)}, c ∈ TL.joinL S ps → c ∈ S ∨ ∃ p ∈ ps, c ∈ p
  | [], h => nomatch h
  | [p], h => .inr ⟨p, List.mem_cons_self, h⟩
  | p :: p2 :: ps, h => by
    have h' : c ∈ p ++ (S ++ TL.joinL S (p2 :: ps)) := h
    rcases List.mem_append.mp h' with h | h
    · exact .inr ⟨p, List.mem_cons_self, h⟩
    · rcases List.mem_append.mp h with h | h
      · exact .inl h
      · exact (joinL_mem h).imp id fun ⟨q, a, b⟩ => ⟨q, List.mem_cons_of_mem _ a, b⟩
theorem joinL_ne {S q : List Nat} (hq : q ≠ []) : ∀ ps : List (List Nat), ∃ R, TL.joinL S (q :: ps) = q ++ R
  | [] => ⟨[], by simp [TL.joinL]⟩
  | p :: ps => ⟨_, rfl⟩
/-- a list of words without blanks -/
def Ws (ps : List (List Nat)) : Prop := ∀ p ∈ ps, p ≠ [] ∧ ∀ c ∈ p, 35 < c
theorem wl_join {ps : List (List Nat)} (hn : ps ≠ []) (h : Ws ps) : wl (TL.joinL [32] ps) = ps := by
  unfold wl
  rw [TL.spl_join hn fun p hp z => by have := (h p hp).2 _ z; omega]
  exact List.filter_eq_self.mpr fun p hp => by unfold isNe; rw [decide_eq_false (h p hp).1]; rfl
theorem wl_two {q : List Nat} {ps : List (List Nat)} (hq : q ≠ [] ∧ ∀ c ∈ q, 35 < c) (hn : ps ≠ []) (h : Ws ps) : wl (q ++ 32 :: TL.joinL [32] ps) = q :: ps := by
  rw [wl_app, wl_word (fun z => by have := hq.2 _ z; omega) hq.1, wl_join hn h]; rfl
theorem ws_of {ws : List Str} (h : ∀ w ∈ ws, Wc w) : Ws (ws.map TL.tl) := fun p hp => by
  obtain ⟨w, hw, rfl⟩ := List.mem_map.mp hp
  exact ⟨(h w hw).1, fun c hc => ((h w hw).2.2 c hc).1⟩
theorem wIn_join {ws : List Str} (hn : ws ≠ []) (h : ∀ w ∈ ws, Wc w) : wordsIn (Txt.join " " ws) = ws := wIn_of (by rw [tl_joinT, tl_sp, wl_join (by simpa using hn) (ws_of h)])
theorem wc_app {a b : Str} (ha : TL.tl a ≠ [] ∨ TL.tl b ≠ []) (h1 : ∀ c ∈ TL.tl a, 35 < c) (h2 : ∀ c ∈ TL.tl b, 35 < c) : TL.tl (a ++ b) ≠ [] ∧ ∀ c ∈ TL.tl (a ++ b), 35 < c := by
  rw [TL.tl_append]
  exact ⟨fun z => by have := List.append_eq_nil_iff.mp z; exact ha.elim (fun q => q this.1) fun q => q this.2, fun c hc => (List.mem_append.mp hc).elim (h1 c) (h2 c)⟩
/-! ### a spoiled line -/
def last1 (ws : List Str) : Str := ws.getLastD ""
def spL (i : Nat) (ws : List Str) : Str := match i with
  | 0 => Txt.join " " ws ++ "x"
  | 1 => Txt.join " " (ws.take (ws.length - 1))
  | 2 => Txt.join " " ws ++ " 7"
  | 3 => w0 ws ++ " 0" ++ Txt.join " " (ws.drop 1)
  | 4 => w0 ws ++ " -" ++ Txt.join " " (ws.drop 1)
  | 5 => "x" ++ Txt.join " " ws
  | _ => Txt.join "\t" ws
def spW (i : Nat) (ws : List Str) : List Str := match i with
  | 0 => ws.take (ws.length - 1) ++ [last1 ws ++ "x"]
  | 1 => ws.take (ws.length - 1)
  | 2 => ws ++ [("7" : Str)]
  | 3 => w0 ws :: ("0" ++ ws.getD 1 "") :: ws.drop 2
  | 4 => w0 ws :: ("-" ++ ws.getD 1 "") :: ws.drop 2
  | 5 => ("x" ++ w0 ws) :: ws.drop 1
  | _ => [Txt.join "\t" ws]
theorem tl_x : TL.tl ("x" : Str) = [120] := by decide +kernel
theorem tl_7 : TL.tl (" 7" : Str) = [32, 55] := by decide +kernel
theorem tl_s0 : TL.tl (" 0" : Str) = [32, 48] := by decide +kernel
theorem tl_sm : TL.tl (" -" : Str) = [32, 45] := by decide +kernel
theorem tl_0 : TL.tl ("0" : Str) = [48] := by decide +kernel
theorem tl_m : TL.tl ("-" : Str) = [45] := by decide +kernel
theorem wIn_sp {ws : List Str} (h2 : 2 ≤ ws.length) (h : ∀ w ∈ ws, Wc w) (i : Nat) : wordsIn (spL i ws) = spW i ws := by
  have hn : ws ≠ [] := fun z => by rw [z] at h2; simp at h2
  obtain ⟨A, b, rfl⟩ : ∃ A b, ws = A ++ [b] := ⟨ws.dropLast, ws.getLast hn, (List.dropLast_concat_getLast hn).symm⟩
  have hA : A ≠ [] := fun z => by rw [z] at h2; simp at h2
  have wb := h b (by simp)
  have tk : (A ++ [b]).take ((A ++ [b]).length - 1) = A := by simp
  have lst : last1 (A ++ [b]) = b := by simp [last1]
  have wA : ∀ w ∈ A, Wc w := fun w hw => h w (List.mem_append_left _ hw)
  obtain ⟨a0, A', rfl⟩ : ∃ a0 A', A = a0 :: A' := by cases A with
    | nil => exact absurd rfl hA
    | cons a A => exact ⟨a, A, rfl⟩
  have wa := h a0 (by simp)
  have pa : TL.tl a0 ≠ [] ∧ ∀ c ∈ TL.tl a0, 35 < c := ⟨wa.1, fun c hc => (wa.2.2 c hc).1⟩
  obtain ⟨x1, R, e1⟩ : ∃ x1 R, A' ++ [b] = x1 :: R := by cases A' with
    | nil => exact ⟨_, _, rfl⟩
    | cons x A => exact ⟨_, _, rfl⟩
  have ew : a0 :: A' ++ [b] = a0 :: x1 :: R := by rw [List.cons_append, e1]
  have w1 := h x1 (by rw [ew]; simp)
  have wR : ∀ w ∈ R, Wc w := fun w hw => h w (by rw [ew]; simp [hw])
  refine wIn_of ?_
  match i with
  | 0 =>
    show wl (TL.tl (Txt.join " " (a0 :: A' ++ [b]) ++ "x")) = List.map TL.tl ((a0 :: A' ++ [b]).take ((a0 :: A' ++ [b]).length - 1) ++ [last1 (a0 :: A' ++ [b]) ++ "x"])
    rw [tk, lst, TL.tl_append, tl_joinT, tl_sp, List.map_append, List.map_singleton, joinL_tail, wl_join (by simp)]
    · rw [List.map_append, List.map_singleton, TL.tl_append]
    · intro p hp
      rcases List.mem_append.mp hp with hp | hp
      · exact ws_of wA p hp
      · rw [List.mem_singleton.mp hp, ← TL.tl_append]
        exact wc_app (.inl wb.1) (fun c hc => (wb.2.2 c hc).1) (by rw [tl_x]; simp)
  | 1 =>
    show wl (TL.tl (Txt.join " " ((a0 :: A' ++ [b]).take ((a0 :: A' ++ [b]).length - 1)))) = List.map TL.tl ((a0 :: A' ++ [b]).take ((a0 :: A' ++ [b]).length - 1))
    rw [tk, tl_joinT, tl_sp, wl_join (by simp) (ws_of wA)]
  | 2 =>
    show wl (TL.tl (Txt.join " " (a0 :: A' ++ [b]) ++ " 7")) = List.map TL.tl ((a0 :: A' ++ [b]) ++ [("7" : Str)])
    have e7 : TL.tl ("7" : Str) = [55] := by decide +kernel
    rw [TL.tl_append, tl_7, wl_app, tl_joinT, tl_sp, wl_join (by simp) (ws_of h), wl_word (by simp) (by simp), List.map_append (l₂ := [("7" : Str)]), List.map_singleton (a := ("7" : Str)), e7]
  | 3 =>
    rw [ew]
    show wl (TL.tl (a0 ++ " 0" ++ Txt.join " " (x1 :: R))) = List.map TL.tl (a0 :: ("0" ++ x1) :: R)
    rw [TL.tl_append, TL.tl_append, tl_s0, tl_joinT, tl_sp, List.append_assoc]
    show wl (TL.tl a0 ++ 32 :: ([48] ++ TL.joinL [32] (TL.tl x1 :: R.map TL.tl))) = _
    rw [joinL_head, wl_two pa (by simp)]
    · rw [List.map_cons, List.map_cons, TL.tl_append, tl_0]
    · intro p hp
      rcases List.mem_cons.mp hp with rfl | hp
      · rw [← tl_0, ← TL.tl_append]
        exact wc_app (.inr w1.1) (by rw [tl_0]; simp) fun c hc => (w1.2.2 c hc).1
      · exact ws_of wR p hp
  | 4 =>
    rw [ew]
    show wl (TL.tl (a0 ++ " -" ++ Txt.join " " (x1 :: R))) = List.map TL.tl (a0 :: ("-" ++ x1) :: R)
    rw [TL.tl_append, TL.tl_append, tl_sm, tl_joinT, tl_sp, List.append_assoc]
    show wl (TL.tl a0 ++ 32 :: ([45] ++ TL.joinL [32] (TL.tl x1 :: R.map TL.tl))) = _
    rw [joinL_head, wl_two pa (by simp)]
    · rw [List.map_cons, List.map_cons, TL.tl_append, tl_m]
    · intro p hp
      rcases List.mem_cons.mp hp with rfl | hp
      · rw [← tl_m, ← TL.tl_append]
        exact wc_app (.inr w1.1) (by rw [tl_m]; simp) fun c hc => (w1.2.2 c hc).1
      · exact ws_of wR p hp
  | 5 =>
    rw [ew]
    show wl (TL.tl ("x" ++ Txt.join " " (a0 :: x1 :: R))) = List.map TL.tl (("x" ++ a0) :: x1 :: R)
    rw [TL.tl_append, tl_x, tl_joinT, tl_sp, List.map_cons, joinL_head, wl_join (by simp)]
    · rw [List.map_cons (a := "x" ++ a0), TL.tl_append, tl_x]
    · intro p hp
      rcases List.mem_cons.mp hp with rfl | hp
      · rw [← tl_x, ← TL.tl_append]
        exact wc_app (.inr wa.1) (by rw [tl_x]; simp) fun c hc => (wa.2.2 c hc).1
      · exact ws_of (fun w hw => h w (by rw [ew]; exact List.mem_cons_of_mem _ hw)) p hp
  | i + 6 =>
    show wl (TL.tl (Txt.join "\t" (a0 :: A' ++ [b]))) = List.map TL.tl [Txt.join "\t" (a0 :: A' ++ [b])]
    rw [List.map_singleton, wl_word]
    · intro z
      rw [tl_joinT, tl_tab] at z
      rcases joinL_mem z with z | ⟨p, hp, hc⟩
      · simp at z
      · have := (ws_of h p hp).2 _ hc; omega
    · rw [tl_joinT, tl_tab]
      obtain ⟨Q, e⟩ := joinL_ne (S := [9]) wa.1 ((A' ++ [b]).map TL.tl)
      show TL.joinL [9] (TL.tl a0 :: (A' ++ [b]).map TL.tl) ≠ []
      rw [e]
      exact fun z => wa.1 (List.append_eq_nil_iff.mp z).1
end T34
namespace T34
open PySem PySem.Spec PyProof PyProof.Rows L2 Evl AL
/-! ### spoiled words give no event -/
theorem num_x (y : Str) : numIn (y ++ "x") = none := num_nd ⟨120, by rw [TL.tl_append, tl_x]; simp, .inr (by omega)⟩
theorem num_minus (y : Str) : numIn ("-" ++ y) = none := num_nd ⟨45, by rw [TL.tl_append, tl_m]; simp, .inl (by omega)⟩
theorem num_zero {y : Str} (h : TL.tl y ≠ []) : numIn ("0" ++ y) = none := by
  have e : TL.tl ("0" ++ y) = 48 :: TL.tl y := by rw [TL.tl_append, tl_0]; rfl
  unfold numIn
  split
  · rfl
  · split
    · rfl
    · rw [if_pos]
      refine ⟨(starts1 (s := 48) tl_0).mpr ⟨_, e⟩, fun z => ?_⟩
      rw [z, tl_0] at e
      exact h (List.cons.inj e).2.symm
theorem val_x (y : Str) : valIn (y ++ "x") = none := by
  unfold valIn
  split
  · exact num_x y
  · rename_i h
    rw [Bool.not_eq_false, starts1 (s := 45) tl_m] at h
    obtain ⟨R, h⟩ := h
    have hx : 120 ∈ R := by
      have : 120 ∈ TL.tl (y ++ "x") := by rw [TL.tl_append, tl_x]; simp
      rw [h] at this
      exact (List.mem_cons.mp this).elim (fun z => absurd z (by decide)) id
    have : numIn (tailS (y ++ "x")) = none := num_nd ⟨120, by show 120 ∈ (TL.tl (y ++ "x")).drop 1; rw [h]; exact hx, .inr (by omega)⟩
    rw [this]
theorem pln_non {ws : List Str} (h1 : w0 ws ≠ "begin") (h2 : w0 ws ≠ "hand") (h3 : ¬ (w0 ws = "tick" ∨ w0 ws = "fall" ∨ w0 ws = "wake")) (h4 : w0 ws ≠ "hush") : evI ws = .non := by
  rw [evI_pln h1 h2, pln_word h3 h4]
def kindB (x : Str) : Bool := decide (x ≠ "begin") && decide (x ≠ "hand") && decide (x ≠ "tick") && decide (x ≠ "fall") && decide (x ≠ "wake") && decide (x ≠ "hush")
theorem pln_b {ws : List Str} (h : kindB (w0 ws) = true) : evI ws = .non := by
  unfold kindB at h
  simp only [Bool.and_eq_true, decide_eq_true_eq] at h
  obtain ⟨⟨⟨⟨⟨a, b⟩, c⟩, d⟩, e⟩, f⟩ := h
  exact pln_non a b (fun z => z.elim c fun z => z.elim d e) f
theorem bgn_bad {h x : Str} {ws : List Str} (hb : numIn h = none ∨ dedN (x :: ws) = none) : evI ("begin" :: h :: x :: ws) = .non := by rw [begin_of, bgn_of, if_pos hb]
theorem ded_len {x : Str} {ks ws : List Str} (h : kindsOf x = some ks) (l : ws.length ≠ ks.length) : dedN (x :: ws) = none := by rw [ded_of h, if_pos l]
theorem ded_none {x : Str} {ks ws : List Str} (h : kindsOf x = some ks) (l : none ∈ (ks.zip ws).map selV) : dedN (x :: ws) = none := by
  rw [ded_of h, if_pos l]
  exact ite_self _
theorem ded_no {x : Str} {ws : List Str} (h : kindsOf x = none) : dedN (x :: ws) = none := by
  unfold dedN
  rw [show w0 (x :: ws) = x from rfl, h]
theorem tick_bad {k a : Str} (hk : k = "tick" ∨ k = "fall" ∨ k = "wake") (h : numIn a = none) : evI [k, a] = .non := by
  have e : evI [k, a] = plnD [k, a] := evI_pln (by show k ≠ "begin"; rcases hk with rfl | rfl | rfl <;> decide +kernel) (by show k ≠ "hand"; rcases hk with rfl | rfl | rfl <;> decide +kernel)
  rw [e, pln_one hk, h]
theorem pln_len {ws : List Str} (h1 : w0 ws ≠ "begin") (h2 : ¬ (w0 ws = "hand" ∧ ws.length = 5)) (h : (nsOf ws).length ≠ 1) (h3 : ¬ (w0 ws = "hush" ∧ (nsOf ws).length = 2)) : evI ws = .non := by
  unfold evI
  rw [if_neg fun z => h1 z.1, if_neg h2]
  unfold plnD
  split
  · rfl
  · rw [if_neg fun z => h z.2, if_neg fun z => h3 ⟨z.1, z.2.1⟩]
theorem nsOf_len (ws : List Str) : (nsOf ws).length = ws.length - 1 := by unfold nsOf; rw [List.length_map, List.length_drop]
theorem hand_bad {a b c d : Str} (h : numIn a = none ∨ numIn b = none ∨ numIn d = none) : evI ["hand", a, b, c, d] = .non := by
  rw [hand_of]
  unfold hnD
  rw [if_pos]
  refine .inl ?_
  rcases h with h | h | h <;> rw [h] <;> simp
theorem hush_bad {a c : Str} (h : numIn a = none ∨ numIn c = none) : evI ["hush", a, c] = .non := by
  rw [hush_of, if_pos]
  refine .inl ?_
  rcases h with h | h <;> rw [h] <;> simp
theorem tab_non {y : Str} (h : 9 ∈ TL.tl y) : evI [y] = .non := by
  have k : ∀ z : Str, (TL.tl z).contains 9 = false → y ≠ z := fun z hz e => by rw [e] at h; rw [List.contains_iff_mem.mpr h] at hz; cases hz
  refine pln_non (k _ (by decide +kernel)) (k _ (by decide +kernel)) (fun z => z.elim (k _ (by decide +kernel)) fun z => z.elim (k _ (by decide +kernel)) (k _ (by decide +kernel))) (k _ (by decide +kernel))
theorem sp_tab {ws : List Str} (h2 : 2 ≤ ws.length) : 9 ∈ TL.tl (Txt.join "\t" ws) := by
  match ws, h2 with
  | a :: b :: r, _ =>
    rw [tl_joinT, tl_tab]
    show 9 ∈ TL.tl a ++ ([9] ++ _)
    simp
theorem sp_non {e : Ev} (ok : EvOk e) (i : Nat) : evI (spW i (evW e)) = .non := by
  have ne : ∀ n : Nat, TL.tl (numT (n : Int)) ≠ [] := fun n => by rw [tl_numN]; exact TL.numL_ne n
  match i with
  | i + 6 =>
    refine tab_non (sp_tab ?_)
    cases e <;> simp [evW]
  | 5 =>
    refine pln_b ?_
    cases e with
    | tick h => show kindB ("x" ++ "tick") = true; decide +kernel
    | fall h => show kindB ("x" ++ "fall") = true; decide +kernel
    | wake h => show kindB ("x" ++ "wake") = true; decide +kernel
    | hush a c => show kindB ("x" ++ "hush") = true; decide +kernel
    | hand a n c => show kindB ("x" ++ "hand") = true; decide +kernel
    | begin h d => show kindB ("x" ++ "begin") = true; decide +kernel
  | 0 =>
    cases e with
    | tick h => exact tick_bad (.inl rfl) (num_x _)
    | fall h => exact tick_bad (.inr (.inl rfl)) (num_x _)
    | wake h => exact tick_bad (.inr (.inr rfl)) (num_x _)
    | hush a c => exact hush_bad (.inr (num_x _))
    | hand a n c => exact hand_bad (.inr (.inr (num_x _)))
    | begin h d =>
      cases d with
      | put p v => exact bgn_bad (.inr (ded_none kinds_put (by show none ∈ [_, selV (kV, _ ++ "x")]; rw [sel_V, val_x]; simp)))
      | get p => exact bgn_bad (.inr (ded_none kinds_get (by show none ∈ [selV (kP, _ ++ "x")]; rw [sel_P, num_x]; simp)))
      | look => exact bgn_bad (.inr (ded_no (by show kindsOf ("look" ++ "x") = none; decide +kernel)))
      | tour v => exact bgn_bad (.inr (ded_none kinds_tour (by show none ∈ [selV (kV, _ ++ "x")]; rw [sel_V, val_x]; simp)))
      | propose v => exact bgn_bad (.inr (ded_none kinds_prop (by show none ∈ [selV (kV, _ ++ "x")]; rw [sel_V, val_x]; simp)))
      | move p => exact bgn_bad (.inr (ded_none kinds_move (by show none ∈ [selV (kP, _ ++ "x")]; rw [sel_P, num_x]; simp)))
      | addif p v u => exact bgn_bad (.inr (ded_none kinds_add (by show none ∈ [selV (kP, numT p), selV (kV, numT v), selV (kV, numT u ++ "x")]; rw [sel_V (x := numT u ++ "x"), val_x]; simp)))
  | 1 =>
    cases e with
    | tick h => exact pln_len (by show ("tick" : Str) ≠ _; decide +kernel) (fun z => absurd z.2 (by show ¬ (1 = 5); omega)) (by rw [nsOf_len]; show 1 - 1 ≠ 1; omega) (fun z => absurd z.1 (by show ¬ (("tick" : Str) = _); decide +kernel))
    | fall h => exact pln_len (by show ("fall" : Str) ≠ _; decide +kernel) (fun z => absurd z.2 (by show ¬ (1 = 5); omega)) (by rw [nsOf_len]; show 1 - 1 ≠ 1; omega) (fun z => absurd z.1 (by show ¬ (("fall" : Str) = _); decide +kernel))
    | wake h => exact pln_len (by show ("wake" : Str) ≠ _; decide +kernel) (fun z => absurd z.2 (by show ¬ (1 = 5); omega)) (by rw [nsOf_len]; show 1 - 1 ≠ 1; omega) (fun z => absurd z.1 (by show ¬ (("wake" : Str) = _); decide +kernel))
    | hush a c =>
      refine (evI_pln (by show ("hush" : Str) ≠ _; decide +kernel) (by show ("hush" : Str) ≠ _; decide +kernel)).trans ?_
      unfold plnD
      split
      · rfl
      · rw [if_neg fun z => absurd z.1 (by show ¬ (("hush" : Str) = _ ∨ ("hush" : Str) = _ ∨ ("hush" : Str) = _); decide +kernel), if_neg fun z => absurd z.2.1 (by rw [nsOf_len]; show ¬ (2 - 1 = 2); omega)]
    | hand a n c => exact pln_len (by show ("hand" : Str) ≠ _; decide +kernel) (fun z => absurd z.2 (by show ¬ (4 = 5); omega)) (by rw [nsOf_len]; show 4 - 1 ≠ 1; omega) (fun z => absurd z.1 (by show ¬ (("hand" : Str) = _); decide +kernel))
    | begin h d =>
      cases d with
      | put p v => exact bgn_bad (.inr (ded_len kinds_put (by show ¬ (1 = 2); omega)))
      | get p => exact bgn_bad (.inr (ded_len kinds_get (by show ¬ (0 = 1); omega)))
      | look =>
        show evI ["begin", _] = .non
        unfold evI
        rw [if_neg fun z => absurd z.2 (by show ¬ (2 < 2); omega), if_neg fun z => absurd z.2 (by show ¬ (2 = 5); omega), pln_word]
        · show ¬ (("begin" : Str) = _ ∨ ("begin" : Str) = _ ∨ ("begin" : Str) = _); decide +kernel
        · show ("begin" : Str) ≠ _; decide +kernel
      | tour v => exact bgn_bad (.inr (ded_len kinds_tour (by show ¬ (0 = 1); omega)))
      | propose v => exact bgn_bad (.inr (ded_len kinds_prop (by show ¬ (0 = 1); omega)))
      | move p => exact bgn_bad (.inr (ded_len kinds_move (by show ¬ (0 = 1); omega)))
      | addif p v u => exact bgn_bad (.inr (ded_len kinds_add (by show ¬ (2 = 3); omega)))
  | 2 =>
    cases e with
    | tick h => exact pln_len (by show ("tick" : Str) ≠ _; decide +kernel) (fun z => absurd z.2 (by show ¬ (3 = 5); omega)) (by rw [nsOf_len]; show 3 - 1 ≠ 1; omega) (fun z => absurd z.1 (by show ¬ (("tick" : Str) = _); decide +kernel))
    | fall h => exact pln_len (by show ("fall" : Str) ≠ _; decide +kernel) (fun z => absurd z.2 (by show ¬ (3 = 5); omega)) (by rw [nsOf_len]; show 3 - 1 ≠ 1; omega) (fun z => absurd z.1 (by show ¬ (("fall" : Str) = _); decide +kernel))
    | wake h => exact pln_len (by show ("wake" : Str) ≠ _; decide +kernel) (fun z => absurd z.2 (by show ¬ (3 = 5); omega)) (by rw [nsOf_len]; show 3 - 1 ≠ 1; omega) (fun z => absurd z.1 (by show ¬ (("wake" : Str) = _); decide +kernel))
    | hush a c => exact pln_len (by show ("hush" : Str) ≠ _; decide +kernel) (fun z => absurd z.2 (by show ¬ (4 = 5); omega)) (by rw [nsOf_len]; show 4 - 1 ≠ 1; omega) (fun z => absurd z.2 (by rw [nsOf_len]; show ¬ (4 - 1 = 2); omega))
    | hand a n c => exact pln_len (by show ("hand" : Str) ≠ _; decide +kernel) (fun z => absurd z.2 (by show ¬ (6 = 5); omega)) (by rw [nsOf_len]; show 6 - 1 ≠ 1; omega) (fun z => absurd z.1 (by show ¬ (("hand" : Str) = _); decide +kernel))
    | begin h d =>
      cases d with
      | put p v => exact bgn_bad (.inr (ded_len kinds_put (by show ¬ (3 = 2); omega)))
      | get p => exact bgn_bad (.inr (ded_len kinds_get (by show ¬ (2 = 1); omega)))
      | look => exact bgn_bad (.inr (ded_len kinds_look (by show ¬ (1 = 0); omega)))
      | tour v => exact bgn_bad (.inr (ded_len kinds_tour (by show ¬ (2 = 1); omega)))
      | propose v => exact bgn_bad (.inr (ded_len kinds_prop (by show ¬ (2 = 1); omega)))
      | move p => exact bgn_bad (.inr (ded_len kinds_move (by show ¬ (2 = 1); omega)))
      | addif p v u => exact bgn_bad (.inr (ded_len kinds_add (by show ¬ (4 = 3); omega)))
  | 3 =>
    cases e with
    | tick h => exact tick_bad (.inl rfl) (num_zero (ne h))
    | fall h => exact tick_bad (.inr (.inl rfl)) (num_zero (ne h))
    | wake h => exact tick_bad (.inr (.inr rfl)) (num_zero (ne h))
    | hush a c => exact hush_bad (.inl (num_zero (ne a)))
    | hand a n c => exact hand_bad (.inl (num_zero (ne a)))
    | begin h d => cases d <;> exact bgn_bad (.inl (num_zero (ne h)))
  | 4 =>
    cases e with
    | tick h => exact tick_bad (.inl rfl) (num_minus _)
    | fall h => exact tick_bad (.inr (.inl rfl)) (num_minus _)
    | wake h => exact tick_bad (.inr (.inr rfl)) (num_minus _)
    | hush a c => exact hush_bad (.inl (num_minus _))
    | hand a n c => exact hand_bad (.inl (num_minus _))
    | begin h d => cases d <;> exact bgn_bad (.inl (num_minus _))
end T34
namespace T34
open PySem PySem.Spec PyProof PyProof.Rows L2 Evl AL
/-! ### lines and texts -/
def GoodL (ws : List Str) (L : Str) : Prop := Ln L ∧ bareB L = true ∧ wordsIn L = ws
structure BadL (L : Str) : Prop where
  ln : Ln L
  bare : bareB L = true
  ne : wordsIn L ≠ []
  non : isNonD (evI (wordsIn L)) = true
def SkipL (L : Str) : Prop := Ln L ∧ bareB L = false
theorem evW_two (e : Ev) : 2 ≤ (evW e).length := by cases e <;> simp [evW]
theorem w0_wc {e : Ev} (ok : EvOk e) : Wc (w0 (evW e)) := evW_wc ok _ (w0_at (by have := evW_two e; intro z; rw [z] at this; simp at this)).2
theorem bare_hd {L : Str} {R : List Nat} {w : Str} (hw : TL.tl w ≠ [] ∧ ∀ c ∈ TL.tl w, 35 < c) (k : Nat) (h : TL.tl L = List.replicate k 32 ++ (TL.tl w ++ R)) : bareB L = true := by
  obtain ⟨a, b⟩ := hw
  cases e : TL.tl w with
  | nil => exact absurd e a
  | cons c r =>
    rw [e] at h b
    have := b c List.mem_cons_self
    exact bare_of (k := k) (c := c) (R := r ++ R) (by rw [h]; rfl) (by omega) (by omega)
theorem joinL_len (S : List Nat) : ∀ (ps : List (List Nat)) (b : Nat), (∀ p ∈ ps, p.length ≤ b) → (TL.joinL S ps).length ≤ ps.length * (b + S.length)
  | [], b, _ => by simp [TL.joinL]
  | [p], b, h => by have := h p List.mem_cons_self; show p.length ≤ 1 * _; omega
  | p :: p2 :: ps, b, h => by
    have ih := joinL_len S (p2 :: ps) b fun q hq => h q (List.mem_cons_of_mem _ hq)
    have := h p List.mem_cons_self
    show (p ++ (S ++ TL.joinL S (p2 :: ps))).length ≤ ((p2 :: ps).length + 1) * _
    rw [List.length_append, List.length_append, Nat.succ_mul]
    omega
theorem join_ln {ws : List Str} {y : Str} {s : Nat} (hy : TL.tl y = [s]) (hs : s < 128 ∧ s ≠ 10) (l : ws.length ≤ 6) (h : ∀ w ∈ ws, Wc w) : (TL.tl (Txt.join y ws)).length ≤ 246 ∧ ∀ c ∈ TL.tl (Txt.join y ws), c < 128 ∧ c ≠ 10 := by
  rw [tl_joinT, hy]
  constructor
  · have := joinL_len [s] (ws.map TL.tl) 40 fun p hp => by
      obtain ⟨w, hw, rfl⟩ := List.mem_map.mp hp
      have := (h w hw).2.1
      rwa [TL.len_tl] at this
    rw [List.length_map, List.length_singleton] at this
    omega
  · intro c hc
    rcases joinL_mem hc with hc | ⟨p, hp, hc⟩
    · rw [List.mem_singleton.mp hc]; exact hs
    · obtain ⟨w, hw, rfl⟩ := List.mem_map.mp hp
      have := (h w hw).2.2 c hc; omega
theorem ln_app {a b : Str} {m n : Nat} (ha : (TL.tl a).length ≤ m ∧ ∀ c ∈ TL.tl a, c < 128 ∧ c ≠ 10) (hb : (TL.tl b).length ≤ n ∧ ∀ c ∈ TL.tl b, c < 128 ∧ c ≠ 10) : (TL.tl (a ++ b)).length ≤ m + n ∧ ∀ c ∈ TL.tl (a ++ b), c < 128 ∧ c ≠ 10 := by
  rw [TL.tl_append, List.length_append]
  exact ⟨by omega, fun c hc => (List.mem_append.mp hc).elim (ha.2 c) (hb.2 c)⟩
theorem ln_of {L : Str} {m : Nat} (h : (TL.tl L).length ≤ m ∧ ∀ c ∈ TL.tl L, c < 128 ∧ c ≠ 10) (l : m ≤ 900) : Ln L := ⟨by rw [TL.len_tl]; omega, h.2⟩
theorem wc_ln {w : Str} (h : Wc w) : (TL.tl w).length ≤ 40 ∧ ∀ c ∈ TL.tl w, c < 128 ∧ c ≠ 10 := ⟨by rw [← TL.len_tl]; exact h.2.1, fun c hc => by have := h.2.2 c hc; omega⟩
theorem sp_ln {ws : List Str} (h2 : 2 ≤ ws.length) (l : ws.length ≤ 6) (h : ∀ w ∈ ws, Wc w) (i : Nat) : Ln (spL i ws) ∧ bareB (spL i ws) = true := by
  have w00 := h _ (w0_at (ws := ws) (fun z => by rw [z] at h2; simp at h2)).2
  have hj : ∀ vs : List Str, vs.length ≤ 6 → (∀ w ∈ vs, Wc w) → _ := fun vs a b => join_ln (y := " ") tl_sp (by decide) a b
  have hd : ∀ (y : Str) (s : Nat) (vs : List Str), vs ≠ [] → TL.tl y = [s] → (∀ w ∈ vs, w ∈ ws) → w0 vs = w0 ws → ∃ R, TL.tl (Txt.join y vs) = TL.tl (w0 ws) ++ R := fun y s vs hn hy _ hw => by
    cases vs with
    | nil => exact absurd rfl hn
    | cons v vs =>
      rw [tl_joinT, hy, List.map_cons, ← hw]
      exact joinL_ne w00.1 _ |>.imp fun R e => by rw [← hw] at e; exact e
  have hne : ws ≠ [] := fun z => by rw [z] at h2; simp at h2
  have p0 : TL.tl (w0 ws) ≠ [] ∧ ∀ c ∈ TL.tl (w0 ws), 35 < c := ⟨w00.1, fun c hc => (w00.2.2 c hc).1⟩
  match i with
  | 0 =>
    obtain ⟨R, e⟩ := hd " " 32 ws hne tl_sp (fun _ z => z) rfl
    exact ⟨ln_of (ln_app (hj ws l h) (n := 1) ⟨by rw [tl_x]; decide, by rw [tl_x]; decide⟩) (by omega), bare_hd p0 0 (R := R ++ [120]) (by show TL.tl (Txt.join " " ws ++ "x") = _; rw [TL.tl_append, e, tl_x]; simp)⟩
  | 1 =>
    have hs : ∀ w ∈ ws.take (ws.length - 1), Wc w := fun w hw => h w (List.mem_of_mem_take hw)
    obtain ⟨R, e⟩ := hd " " 32 (ws.take (ws.length - 1)) (fun z => by have := congrArg List.length z; rw [List.length_take] at this; simp at this; omega) tl_sp (fun _ z => List.mem_of_mem_take z) (by
      match ws, h2 with
      | a :: b :: r, _ => rfl)
    exact ⟨ln_of (hj _ (by rw [List.length_take]; omega) hs) (by omega), bare_hd p0 0 (R := R) (by show TL.tl (Txt.join " " (ws.take (ws.length - 1))) = _; rw [e]; simp)⟩
  | 2 =>
    obtain ⟨R, e⟩ := hd " " 32 ws hne tl_sp (fun _ z => z) rfl
    exact ⟨ln_of (ln_app (hj ws l h) (n := 2) ⟨by rw [tl_7]; decide, by rw [tl_7]; decide⟩) (by omega), bare_hd p0 0 (R := R ++ [32, 55]) (by show TL.tl (Txt.join " " ws ++ " 7") = _; rw [TL.tl_append, e, tl_7]; simp)⟩
  | 3 =>
    have hs : ∀ w ∈ ws.drop 1, Wc w := fun w hw => h w (List.mem_of_mem_drop hw)
    exact ⟨ln_of (ln_app (ln_app (wc_ln w00) (n := 2) ⟨by rw [tl_s0]; decide, by rw [tl_s0]; decide⟩) (hj _ (by rw [List.length_drop]; omega) hs)) (by omega), bare_hd p0 0 (R := [32, 48] ++ TL.tl (Txt.join " " (ws.drop 1))) (by show TL.tl (w0 ws ++ " 0" ++ Txt.join " " (ws.drop 1)) = _; rw [TL.tl_append, TL.tl_append, tl_s0]; simp)⟩
  | 4 =>
    have hs : ∀ w ∈ ws.drop 1, Wc w := fun w hw => h w (List.mem_of_mem_drop hw)
    exact ⟨ln_of (ln_app (ln_app (wc_ln w00) (n := 2) ⟨by rw [tl_sm]; decide, by rw [tl_sm]; decide⟩) (hj _ (by rw [List.length_drop]; omega) hs)) (by omega), bare_hd p0 0 (R := [32, 45] ++ TL.tl (Txt.join " " (ws.drop 1))) (by show TL.tl (w0 ws ++ " -" ++ Txt.join " " (ws.drop 1)) = _; rw [TL.tl_append, TL.tl_append, tl_sm]; simp)⟩
  | 5 =>
    exact ⟨ln_of (ln_app (m := 1) ⟨by rw [tl_x]; decide, by rw [tl_x]; decide⟩ (hj ws l h)) (by omega), bare_of (k := 0) (c := 120) (R := TL.tl (Txt.join " " ws)) (by show TL.tl ("x" ++ Txt.join " " ws) = _; rw [TL.tl_append, tl_x]; rfl) (by decide) (by decide)⟩
  | i + 6 =>
    obtain ⟨R, e⟩ := hd "\t" 9 ws hne tl_tab (fun _ z => z) rfl
    exact ⟨ln_of (join_ln (y := "\t") tl_tab (by decide) l h) (by omega), bare_hd p0 0 (R := R) (by show TL.tl (Txt.join "\t" ws) = _; rw [e]; simp)⟩
theorem evW_six (e : Ev) : (evW e).length ≤ 6 := by
  cases e with
  | begin h d => cases d <;> simp [evW, ddV]
  | _ => simp [evW]
theorem spoil_bad {e : Ev} (ok : EvOk e) (i : Nat) : BadL (spL i (evW e)) := by
  obtain ⟨a, b⟩ := sp_ln (evW_two e) (evW_six e) (evW_wc ok) i
  have hw := wIn_sp (evW_two e) (evW_wc ok) i
  refine ⟨a, b, ?_, by rw [hw, sp_non ok i]; rfl⟩
  rw [hw]
  match i with
  | 0 => simp [spW]
  | 1 => intro z; have := congrArg List.length z; have h2 := evW_two e; simp [spW] at this; omega
  | 2 => simp [spW]
  | 3 => simp [spW]
  | 4 => simp [spW]
  | 5 => simp [spW]
  | i + 6 => simp [spW]
def badB (L : Str) : Bool := decide (L.length ≤ 900) && (TL.tl L).all (fun c => decide (c < 128 ∧ c ≠ 10)) && bareB L && !decide (wordsIn L = []) && isNonD (evI (wordsIn L))
theorem bad_b {L : Str} (h : badB L = true) : BadL L := by
  unfold badB at h
  simp only [Bool.and_eq_true, decide_eq_true_eq, List.all_eq_true, Bool.not_eq_true', decide_eq_false_iff_not] at h
  exact ⟨⟨h.1.1.1.1, fun c hc => h.1.1.1.2 c hc⟩, h.1.1.2, h.1.2, h.2⟩
def zeros : Str := Txt.mul "0" 30
def menuL : List Str := ["hand 1 0 to 2", "hand 1 2 to 1", "hush 1 1", "begin 0 put 1 -0", "begin 0 get -1", "begin 0 move -1", "tick 1" ++ zeros, "begin 0 put 0 - 5", "begin 0 tour +5", "begin 0 add_if 0 1"]
theorem menu_bad : ∀ L ∈ menuL, BadL L := by
  have h : menuL.all badB = true := by decide +kernel
  intro L hL
  exact bad_b (List.all_eq_true.mp h L hL)
def skipB (L : Str) : Bool := decide (L.length ≤ 900) && (TL.tl L).all (fun c => decide (c < 128 ∧ c ≠ 10)) && !bareB L
def skipsL : List Str := ["", "  ", "# tick 9", "   #", "#begin 0 look"]
theorem skips_skip : ∀ L ∈ skipsL, SkipL L := by
  have h : skipsL.all skipB = true := by decide +kernel
  intro L hL
  have := List.all_eq_true.mp h L hL
  unfold skipB at this
  simp only [Bool.and_eq_true, decide_eq_true_eq, List.all_eq_true, Bool.not_eq_true'] at this
  exact ⟨⟨this.1.1, fun c hc => this.1.2 c hc⟩, this.2⟩
end T34
namespace T34
open PySem PySem.Spec PyProof PyProof.Rows L2 Evl AL
/-! ### loose lines -/
def blk (n : Nat) : List Nat := List.replicate n 32
theorem tl_blk (n : Int) : TL.tl (Txt.mul " " n) = blk n.toNat := by
  have e : (" " : Str) = ⟨#[32]⟩ := TL.ext_tl tl_sp
  rw [e]
  exact mul_one_list 32 n
structure LS (ps : List Str) (l : List Nat) : Prop where
  w : wl l = ps.map TL.tl
  n : l.length ≤ 3 + 43 * ps.length
  c : ∀ c ∈ l, c = 32 ∨ (35 < c ∧ c < 128)
  h : match ps with
    | [] => ∃ k, l = blk k
    | p :: _ => ∃ k R, l = blk k ++ (TL.tl p ++ R)
theorem blk_mem {n c : Nat} (h : c ∈ blk n) : c = 32 := (List.mem_replicate.mp h).2
theorem ls_start {k : Nat} (h : k ≤ 3) : LS [] (blk k) := ⟨wl_pads k, by unfold blk; rw [List.length_replicate]; simp; omega, fun c hc => .inl (blk_mem hc), ⟨k, rfl⟩⟩
theorem ls_first {w : Str} {l : List Nat} (hw : Wc w) (s : LS [] l) : LS [w] (l ++ TL.tl w) := by
  obtain ⟨k, e⟩ := s.h
  have n := s.n
  have wn : (TL.tl w).length ≤ 40 := (wc_ln hw).1
  refine ⟨by rw [e]; exact wl_first k (fun z => by have := hw.2.2 _ z; omega) hw.1, by simp only [List.length_append, List.length_cons, List.length_nil] at n ⊢; omega, fun c hc => (List.mem_append.mp hc).elim (s.c c) fun z => .inr (hw.2.2 c z), ⟨k, [], by rw [e]; simp⟩⟩
theorem ls_next {p w : Str} {ps : List Str} {l : List Nat} {j : Nat} (hw : Wc w) (hj : j ≤ 2) (s : LS (p :: ps) l) : LS (p :: ps ++ [w]) (l ++ blk (j + 1) ++ TL.tl w) := by
  obtain ⟨k, R, e⟩ := s.h
  have n := s.n
  have wn : (TL.tl w).length ≤ 40 := (wc_ln hw).1
  refine ⟨?_, ?_, ?_, ⟨k, R ++ blk (j + 1) ++ TL.tl w, by rw [e]; simp⟩⟩
  · rw [show l ++ blk (j + 1) ++ TL.tl w = l ++ List.replicate (j + 1) 32 ++ TL.tl w from rfl, wl_next j (fun z => by have := hw.2.2 _ z; omega) hw.1, s.w]; simp
  · simp only [List.length_append, blk, List.length_replicate, List.length_cons, List.length_nil] at n ⊢; omega
  · intro c hc
    rcases List.mem_append.mp hc with hc | hc
    · exact (List.mem_append.mp hc).elim (s.c c) fun z => .inl (blk_mem z)
    · exact .inr (hw.2.2 c hc)
theorem ls_end {p : Str} {ps : List Str} {L : Str} {l : List Nat} {j : Nat} (hp : Wc p) (l6 : (p :: ps).length ≤ 6) (hj : j ≤ 3) (s : LS (p :: ps) l) (e : TL.tl L = l ++ blk j) : GoodL (p :: ps) L := by
  obtain ⟨k, R, e2⟩ := s.h
  have n := s.n
  refine ⟨⟨?_, fun c hc => ?_⟩, bare_hd (w := p) ⟨hp.1, fun c hc => (hp.2.2 c hc).1⟩ k (R := R ++ blk j) (by rw [e, e2]; simp [blk]), wIn_of ?_⟩
  · rw [TL.len_tl, e, List.length_append]
    simp only [blk, List.length_replicate] at n ⊢
    omega
  · rw [e] at hc
    rcases List.mem_append.mp hc with hc | hc
    · have := s.c c hc; omega
    · have := blk_mem hc; omega
  · rw [e, show l ++ blk j = l ++ List.replicate j 32 from rfl, wl_pad, s.w]
/-! ### texts of lines -/
theorem cntL_app : ∀ (a : List Str) (k : Nat) (b : List Str), cntL k (a ++ b) = cntL k a ++ cntL (k + a.length) b
  | [], k, b => rfl
  | x :: a, k, b => by
    show (if bareB x then (k + 1, x) :: cntL (k + 1) (a ++ b) else cntL (k + 1) (a ++ b)) = (if bareB x then (k + 1, x) :: cntL (k + 1) a else cntL (k + 1) a) ++ cntL (k + (a.length + 1)) b
    rw [cntL_app a (k + 1) b, show k + 1 + a.length = k + (a.length + 1) by omega]
    cases bareB x <;> rfl
def LnW (y : Str) : Prop := Ln y ∧ (bareB y = true → wordsIn y ≠ [])
theorem GoodL.lnw {ws : List Str} {L : Str} (g : GoodL ws L) (hn : ws ≠ []) : LnW L := ⟨g.1, fun _ => by rw [g.2.2]; exact hn⟩
theorem BadL.lnw {L : Str} (g : BadL L) : LnW L := ⟨g.ln, fun _ => g.ne⟩
theorem SkipL.lnw {L : Str} (g : SkipL L) : LnW L := ⟨g.1, fun z => by rw [g.2] at z; cases z⟩
theorem cnt_mem : ∀ {ys : List Str} {k : Nat} {r : Nat × Str}, r ∈ cntL k ys → r.2 ∈ ys ∧ bareB r.2 = true
  | [], _, _, h => nomatch h
  | y :: ys, k, r, h => by
    unfold cntL at h
    by_cases e : bareB y = true
    · rw [if_pos e] at h
      rcases List.mem_cons.mp h with rfl | h
      · exact ⟨List.mem_cons_self, e⟩
      · exact ⟨List.mem_cons_of_mem _ (cnt_mem h).1, (cnt_mem h).2⟩
    · rw [if_neg e] at h
      exact ⟨List.mem_cons_of_mem _ (cnt_mem h).1, (cnt_mem h).2⟩
theorem lines_join {ys : List Str} (h : ∀ y ∈ ys, LnW y) : linesIn (Txt.join "\n" ys) = cntL 0 ys ∧ (ys ≠ [] → Txt.split (Txt.join "\n" ys) "\n" = ys) := by
  by_cases hn : ys = []
  · subst hn
    exact ⟨by decide +kernel, fun z => absurd rfl z⟩
  · have e : Txt.split (Txt.join "\n" ys) "\n" = ys := by
      exact TL.split_join tl_nl (by decide +kernel) hn fun p hp z => by have := (h p hp).1.2 _ z; omega
    exact ⟨by unfold linesIn; rw [e], fun _ => e⟩
theorem sch_ok {ys : List Str} (h : ∀ y ∈ ys, LnW y) (l : ys.length ≤ 100) : SchOk (Txt.join "\n" ys) := by
  obtain ⟨e1, e2⟩ := lines_join h
  have hs : ∀ y ∈ Txt.split (Txt.join "\n" ys) "\n", y.length ≤ 900 := by
    by_cases hn : ys = []
    · subst hn; decide +kernel
    · rw [e2 hn]; exact fun y hy => (h y hy).1.1
  refine ⟨?_, ?_, fun y hy => by have := hs y hy; omega, fun r hr => ?_⟩
  · rw [TL.len_tl, tl_joinT, tl_nl]
    have := joinL_len [10] (ys.map TL.tl) 900 fun p hp => by
      obtain ⟨w, hw, rfl⟩ := List.mem_map.mp hp
      have := (h w hw).1.1
      rwa [TL.len_tl] at this
    rw [List.length_map, List.length_singleton] at this
    have h2 : ys.length * (900 + 1) ≤ 100 * 901 := Nat.mul_le_mul_right _ l
    omega
  · by_cases hn : ys = []
    · subst hn; decide +kernel
    · rw [e2 hn]; omega
  · rw [e1] at hr
    obtain ⟨a, b⟩ := cnt_mem hr
    exact ln_wok (h _ a).1 ((h _ a).2 b)
/-- lines that tell the events es -/
structure Gd (ys : List Str) (es : List Ev) : Prop where
  ln : ∀ y ∈ ys, LnW y
  ev : (cntL 0 ys).map (fun r => wordsIn r.2) = es.map evW
theorem gd_nil : Gd [] [] := ⟨(fun _ h => nomatch h), rfl⟩
theorem Gd.skip {ys : List Str} {es : List Ev} {y : Str} (g : Gd ys es) (s : SkipL y) : Gd (ys ++ [y]) es :=
  ⟨fun z hz => (List.mem_append.mp hz).elim (g.ln z) fun h => by rw [List.mem_singleton.mp h]; exact s.lnw, by rw [cntL_snoc, if_neg (by rw [s.2]; simp), List.append_nil]; exact g.ev⟩
theorem Gd.skips {es : List Ev} : ∀ {zs ys : List Str}, Gd ys es → (∀ z ∈ zs, SkipL z) → Gd (ys ++ zs) es
  | [], ys, g, _ => by rw [List.append_nil]; exact g
  | z :: zs, ys, g, h => by
    have := Gd.skips (g.skip (h z List.mem_cons_self)) fun q hq => h q (List.mem_cons_of_mem _ hq)
    rw [List.append_assoc] at this; exact this
theorem evW_ne (e : Ev) : evW e ≠ [] := fun z => by have := evW_two e; rw [z] at this; simp at this
theorem Gd.good {ys : List Str} {es : List Ev} {e : Ev} {y : Str} (g : Gd ys es) (s : GoodL (evW e) y) : Gd (ys ++ [y]) (es ++ [e]) :=
  ⟨fun z hz => (List.mem_append.mp hz).elim (g.ln z) fun h => by rw [List.mem_singleton.mp h]; exact s.lnw (evW_ne e), by
    rw [cntL_snoc, if_pos s.2.1, List.map_append, List.map_append, g.ev, List.map_singleton, List.map_singleton, s.2.2]⟩
theorem non_ev {e : Ev} : isNonD (evD e) = false := by cases e <;> rfl
theorem gd_at {ys : List Str} {es : List Ev} (g : Gd ys es) (ok : ∀ e ∈ es, EvOk e) : (cntL 0 ys).map evAt = es.map evD ∧ ∀ r ∈ cntL 0 ys, isNonD (evAt r) = false := by
  have h1 : (cntL 0 ys).map evAt = es.map evD := by
    have e1 : (cntL 0 ys).map evAt = ((cntL 0 ys).map fun r => wordsIn r.2).map evI := by rw [List.map_map]; rfl
    rw [e1, g.ev, List.map_map]
    exact List.map_congr_left fun e he => evI_ev (ok e he)
  refine ⟨h1, fun r hr => ?_⟩
  have : evAt r ∈ es.map evD := by rw [← h1]; exact List.mem_map_of_mem hr
  obtain ⟨e, _, q⟩ := List.mem_map.mp this
  rw [← q]; exact non_ev
theorem sch_good {BT : Addr} {ys : List Str} {es : List Ev} (g : Gd ys es) (ok : ∀ e ∈ es, EvOk e) (l : ys.length ≤ 100) {Ψ : D → Prop} {Er : Er} (h : Ψ (.tup (es.map evD))) : X_sch BT [.str (Txt.join "\n" ys)] Ψ Er := by
  obtain ⟨a, b⟩ := gd_at g ok
  refine ⟨_, rfl, sch_ok g.ln l, .inr ?_⟩
  rw [(lines_join g.ln).1]
  exact ⟨b, by rw [a]; exact h⟩
theorem sch_bad {BT : Addr} {y0 y1 : List Str} {y : Str} {es : List Ev} (g : Gd y0 es) (ok : ∀ e ∈ es, EvOk e) (hb : BadL y) (h1 : ∀ z ∈ y1, LnW z) (l : (y0 ++ [y] ++ y1).length ≤ 100) {Ψ : D → Prop} {Er : Er} (h : Er BT [("line", .int ((y0.length + 1 : Nat) : Int))]) : X_sch BT [.str (Txt.join "\n" (y0 ++ [y] ++ y1))] Ψ Er := by
  obtain ⟨a, b⟩ := gd_at g ok
  have hl : ∀ z ∈ y0 ++ [y] ++ y1, LnW z := fun z hz => by
    rcases List.mem_append.mp hz with hz | hz
    · exact (List.mem_append.mp hz).elim (g.ln z) fun q => by rw [List.mem_singleton.mp q]; exact hb.lnw
    · exact h1 z hz
  refine ⟨_, rfl, sch_ok hl l, .inl ⟨(cntL 0 y0).length, (y0.length + 1, y), ?_, hb.non, ?_, h⟩⟩
  all_goals rw [(lines_join hl).1, cntL_app, cntL_snoc, if_pos hb.bare]
  · rw [List.getElem?_append_left (by simp), List.getElem?_append_right (by simp)]
    simp
  · rw [List.take_append_of_le_length (by simp), List.take_append_of_le_length (Nat.le_refl _), List.take_length]
    exact b
end T34
namespace T34
open PySem PySem.Spec PyProof.Rows L2 Evl AL
/-! ### _law_back -/
def S_bck (ds : List D) (Ψ : D → Prop) : Prop := ∃ (ys : List Str) (es : List Ev), ds = [.str (Txt.join "\n" ys), .lst (es.map evD)] ∧ Gd ys es ∧ (∀ e ∈ es, EvOk e) ∧ ys.length ≤ 100 ∧ es.length ≤ 1000 ∧ Ψ (.bl true)
theorem m_bck : MonoF S_bck := fun ds Φ Φ' g ⟨a, b, h1, h2, h3, h4, h5, h6⟩ => ⟨a, b, h1, h2, h3, h4, h5, g _ h6⟩
theorem rng_nat {n i : Nat} {d : D} (h : (rngD 0 (n : Int).toNat)[i]? = some d) : i < n ∧ d = natD i := by
  rw [Int.toNat_natCast] at h
  obtain ⟨h1, h2⟩ := rngD_get h
  exact ⟨h1, by rw [h2, Int.zero_add]; rfl⟩
section
variable {P : Program} {w : World} {K : PySem.W.Frag} {mg : Str → Option Value} {base : Heap} {f BT : Addr} {fd : FuncData}
theorem c_bck (F : FunN K "_law_back" s__law_back f fd) (hm : mg "_law_back" = some (.ref f)) (b : Blt mg) (c1 : KX P w K mg base "schedule_from" 6 1 (X_sch BT)) (c2 : KF P w K mg base "_law_kinds" 2 1 S_knd) : KF P w K mg base "_law_back" 7 2 S_bck := ⟨by
  have nd : (["text", "events", "told", "at"] : List Str).Nodup := by decide +kernel
  refine cal_fn F hm (N := ["text", "events", "told", "at"]) (ps := ["text", "events"]) ⟨rfl, rfl, rfl, nd, rfl, by decide +kernel, by decide +kernel⟩ rfl (fun _ _ _ _ _ _ us hl => match us, hl with | [_, _], _ => rfl) ?_
  rintro cdv A outer s H E hr ds Ψ hl ⟨ys, es, rfl, g, ok, l1, l2, hd⟩
  refine sc_set 2 (ec_cx c1.c hr (pass_0 passL) c1.m (ac_cons (ec_var 0 rfl (ac_nil ⟨rfl, sch_good g ok l1 ?_⟩)))) nd
  have lm : (es.map evD).length = es.length := List.length_map ..
  refine sc_if (tc_w (wc_or (tc_not (tc_val (ec_isi kit_tup rfl (ec_var 2 rfl ⟨rfl, _, rfl, ?_⟩) b.isi b.tuple)))))
  refine ⟨fun _ => wc_or1 (tc_neS (ec_len (ac_cons (ec_var 2 rfl (ac_nil ⟨_, _, rfl, rfl, ec_len (ac_cons (ec_var 1 rfl (ac_nil ⟨_, _, rfl, rfl, true, ?_, ?_⟩))) b.len⟩))) b.len)), (fun z => nomatch z)⟩
  · show some (decide _) = _; simp
  refine ⟨(fun z => nomatch z), fun _ => sc_nil ?_⟩
  show SC _ _ _ _ _
  let St : Option D → En := fun x => [some (.im (.str (Txt.join "\n" ys))), some (.im (.lst (es.map evD))), some (.im (.tup (es.map evD))), x.map .im]
  refine sc_for (js := [3]) (ic_range (ec_len (ac_cons (ec_var 1 rfl (ac_nil ⟨_, _, rfl, rfl, es.length, ?_, ?_, ?_, ?_⟩))) b.len) b.range) (passes_of rfl)
  rotate_left 3
  · refine ⟨fun i ρ' => ∃ x, ρ' = St x, ⟨none, rfl⟩, ?_, ?_⟩
    · rintro i d ρi hi ⟨x, rfl⟩
      obtain ⟨hlt, rfl⟩ := rng_nat (n := es.length) hi
      refine gt_name 3 ?_ nd
      obtain ⟨e, he⟩ : ∃ e, es[i]? = some e := ⟨_, List.getElem?_eq_getElem hlt⟩
      have at_ : atI (es.map evD) (i : Int) = some (evD e) := atI_nat (by rw [List.getElem?_map, he]; rfl)
      obtain ⟨p, px⟩ := px_ev e
      refine sc_if (tc_w (wc_or (tc_not (tc_val (ec_cf c2.c (hr.mono (by omega)) (pass_0 passL) c2.m (ac_cons (ec_ix (ec_var 2 rfl (ec_var 3 rfl ⟨_, _, evD e, rfl, rfl, at_, ac_nil ⟨rfl, e, rfl, _, rfl, ?_⟩⟩)))))))))
      refine ⟨fun _ => wc_or1 (tc_neX (u64 hr) (ec_ix (ec_var 2 rfl (ec_var 3 rfl ⟨_, _, evD e, rfl, rfl, at_, ec_ix (ec_var 1 rfl (ec_var 3 rfl ⟨_, _, evD e, rfl, rfl, at_, p, rfl, px.py, px.shp (by omega), px.eq, ?_⟩))⟩)))), (fun z => nomatch z)⟩
      exact ⟨(fun z => nomatch z), fun _ => sc_nil (sc_nil ⟨some (natD i), rfl⟩)⟩
    · rintro ρ' ⟨x, rfl⟩
      exact sc_ret (ec_bl hd)
  · rw [lm]
  · omega
  · omega
  , m_bck⟩
end
end T34
namespace T34
open PySem PySem.Spec PyProof.Rows L2 Evl AL
/-! ### _law_loose -/
def S_loo (o : OO) (ds : List D) (Ψ : D → OO → Prop) : Prop := ∃ (l : List Int) (ws : List Str), o = .l (iL l) ∧ ds = [.lst (strsD ws)] ∧ ws ≠ [] ∧ ws.length ≤ 6 ∧ (∀ w ∈ ws, Wc w) ∧ ∀ (L : Str) (l' : List Int), GoodL ws L → Ψ (.str L) (.l (iL l'))
theorem m_loo : MonoO S_loo := fun o ds Φ Φ' h ⟨l, ws, h1, h2, h3, h4, h5, h6⟩ => ⟨l, ws, h1, h2, h3, h4, h5, fun L l' a => h _ _ (h6 L l' a)⟩
theorem len_sp : (" " : Str).length = 1 := by decide +kernel
theorem mul_sp {n : Int} (h0 : 0 ≤ n) (h1 : n ≤ 40) : MulOk " " n := by
  refine ⟨?_, fun a b => ?_, fun a b => ?_⟩
  · have e1 : decide (n < -(2 ^ 63 : Int)) = false := decide_eq_false (by omega)
    have e2 : decide (n ≥ 2 ^ 63) = false := decide_eq_false (by omega)
    rw [e1, e2]; rfl
  · rw [len_sp]
    have : (1 : Int) ≤ (2 ^ 63 - 1) / n := by
      rw [Int.le_ediv_iff_mul_le (by omega)]; omega
    omega
  · rw [len_sp]
    refine Bool.eq_false_iff.mpr fun z => ?_
    have z2 : (1 * n.toNat) > sizeLine := by simpa [Builtin.Str.tooLong] using z
    rw [sizeLine_eq] at z2
    omega
theorem blk_len (n : Nat) : (blk n).length = n := List.length_replicate ..
section
variable {P : Program} {w : World} {K : PySem.W.Frag} {mg : Str → Option Value} {base : Heap} {f BT : Addr} {fd : FuncData}
theorem c_loo (F : FunN K "_law_loose" s__law_loose f fd) (hm : mg "_law_loose" = some (.ref f)) (b : Blt mg) (c1 : KO P w K mg base "_law_take" 1 1 S_take) : KO P w K mg base "_law_loose" 2 1 S_loo := ⟨by
  have nd : (["pool", "words", "line", "at"] : List Str).Nodup := by decide +kernel
  refine cal_fo F hm (N := ["pool", "words", "line", "at"]) (ps := ["pool", "words"]) ⟨rfl, rfl, rfl, nd, rfl, by decide +kernel, by decide +kernel⟩ rfl (fun _ _ _ _ _ _ us hl => match us, hl with | [_, _], _ => rfl) ?_
  rintro cdv A outer s H E hr a o ds Ψ hl ⟨l, ws, rfl, rfl, hn, l6, wc, hd⟩
  have lw : (strsD ws).length = ws.length := by unfold strsD; rw [List.length_map]
  refine sc_set 2 (ec_mulS (ec_str (ec_co 0 rfl c1.c hr (pass_0 passL) c1.m (ac_cons (ec_int (ac_nil ⟨_, rfl, rfl, l, 3, rfl, rfl, by decide, fun r l1 r0 r1 => ⟨_, r, rfl, rfl, mul_sp r0 (by omega), ?_⟩⟩)))))) nd
  let St : List Int → Str → Option D → En := fun l L x => [some (.ow a (.l (iL l))), some (.im (.lst (strsD ws))), some (.im (.str L)), x.map .im]
  refine sc_for (js := [3]) (ic_range (ec_len (ac_cons (ec_var 1 rfl (ac_nil ⟨_, _, rfl, rfl, ws.length, by rw [lw], by omega, by omega, ?_⟩))) b.len) b.range) (passes_of rfl)
  refine ⟨fun i ρ' => ∃ l L x, ρ' = St l L x ∧ LS (ws.take i) (TL.tl L), ⟨l1, Txt.mul " " r, none, rfl, by rw [tl_blk]; exact ls_start (by omega)⟩, ?_, ?_⟩
  · rintro i d ρi hi ⟨l2, L, x, rfl, ls⟩
    obtain ⟨hlt, rfl⟩ := rng_nat (n := ws.length) hi
    obtain ⟨w1, hw⟩ : ∃ w1, ws[i]? = some w1 := ⟨_, List.getElem?_eq_getElem hlt⟩
    have hwc := wc w1 (List.mem_of_getElem? hw)
    have et : ws.take (i + 1) = ws.take i ++ [w1] := by rw [List.take_add_one, hw]; rfl
    have tkl : (ws.take i).length = i := by rw [List.length_take]; omega
    have at_ : atI (strsD ws) (i : Int) = some (.str w1) := atI_nat (by unfold strsD; rw [List.getElem?_map, hw]; rfl)
    have n0 := ls.n
    rw [tkl] at n0
    have wl1 := hwc.2.1
    refine gt_name 3 ?_ nd
    refine sc_if (tc_gt (ec_var 3 rfl (ec_int ⟨_, _, rfl, rfl, ?_⟩)))
    by_cases h0 : i = 0
    · subst h0
      refine ⟨fun z => absurd z (by decide), fun _ => sc_nil ?_⟩
      show SC _ _ _ _ _
      refine sc_set 2 (ec_addS (ec_var 2 rfl (ec_ix (ec_var 1 rfl (ec_var 3 rfl ⟨_, _, .str w1, rfl, rfl, at_, L, w1, rfl, rfl, ?_, ?_⟩))))) nd
      · have e2 : L.length = (TL.tl L).length := TL.len_tl L
        rw [sizeLine_eq]; omega
      · refine sc_nil ⟨l2, L ++ w1, some (natD 0), rfl, ?_⟩
        rw [TL.tl_append, et]
        exact ls_first hwc ls
    · have e : decide ((0 : Int) < (i : Int)) = true := decide_eq_true (by omega)
      rw [e]
      refine ⟨fun _ => ?_, (fun z => nomatch z)⟩
      refine sc_set 2 (ec_addS (ec_var 2 rfl (ec_mulS (ec_str (ec_add (ec_int ?_)))))) nd
      refine ec_co 0 rfl c1.c hr (pass_0 passL) c1.m (ac_cons (ec_int (ac_nil ⟨_, rfl, rfl, l2, 3, rfl, rfl, by decide, fun t l3 t0 t1 => ?_⟩)))
      have e1 : (Txt.mul " " (1 + t)).length = (1 + t).toNat := by rw [TL.len_tl, tl_blk, blk_len]
      have e2 : L.length = (TL.tl L).length := TL.len_tl L
      refine ⟨1, t, rfl, rfl, " ", 1 + t, rfl, rfl, mul_sp (by omega) (by omega), L, Txt.mul " " (1 + t), rfl, rfl, by rw [e1, e2, sizeLine_eq]; omega, sc_nil ?_⟩
      show SC _ _ _ _ _
      have e3 : (L ++ Txt.mul " " (1 + t)).length = L.length + (1 + t).toNat := by rw [strLen_append, e1]
      refine sc_set 2 (ec_addS (ec_var 2 rfl (ec_ix (ec_var 1 rfl (ec_var 3 rfl ⟨_, _, .str w1, rfl, rfl, at_, L ++ Txt.mul " " (1 + t), w1, rfl, rfl, by rw [e3, e2, sizeLine_eq]; omega, ?_⟩))))) nd
      refine sc_nil ⟨l3, L ++ Txt.mul " " (1 + t) ++ w1, some (natD i), rfl, ?_⟩
      rw [TL.tl_append, TL.tl_append, tl_blk, et, show (1 + t).toNat = t.toNat + 1 by omega]
      cases hw2 : ws.take i with
      | nil => rw [hw2] at tkl; simp at tkl; omega
      | cons p ps =>
        rw [hw2] at ls
        exact ls_next hwc (by omega) ls
  · rintro ρ' ⟨l2, L, x, rfl, ls⟩
    have el : (rngD 0 ((ws.length : Int)).toNat).length = ws.length := by unfold rngD; rw [List.length_map, List.length_range, Int.toNat_natCast]
    rw [el, List.take_length] at ls
    have n0 := ls.n
    have e2 : L.length = (TL.tl L).length := TL.len_tl L
    refine sc_ret (ec_addS (ec_var 2 rfl (ec_mulS (ec_str ?_))))
    refine ec_co 0 rfl c1.c hr (pass_0 passL) c1.m (ac_cons (ec_int (ac_nil ⟨_, rfl, rfl, l2, 3, rfl, rfl, by decide, fun t l3 t0 t1 => ?_⟩)))
    have e1 : (Txt.mul " " t).length = t.toNat := by rw [TL.len_tl, tl_blk, blk_len]
    refine ⟨" ", t, rfl, rfl, mul_sp t0 (by omega), L, Txt.mul " " t, rfl, rfl, by rw [e1, e2, sizeLine_eq]; omega, _, rfl, hd _ l3 ?_⟩
    match ws, hn, l6, wc, ls with
    | p :: ps, _, l6, wc, ls => exact ls_end (wc p List.mem_cons_self) l6 (j := t.toNat) (by omega) ls (by rw [TL.tl_append, tl_blk])
  , m_loo⟩
end
end T34
namespace T34
open PySem PySem.Spec PyProof.Rows L2 Evl AL
/-! ### _law_spoiled, _law_skipped -/
def S_spo (o : OO) (ds : List D) (Ψ : D → OO → Prop) : Prop := ∃ (l : List Int) (e : Ev), o = .l (iL l) ∧ ds = [.lst (strsD (evW e))] ∧ EvOk e ∧ ∀ (L : Str) (l' : List Int), BadL L → Ψ (.str L) (.l (iL l'))
theorem m_spo : MonoO S_spo := fun o ds Φ Φ' h ⟨l, e, h1, h2, h3, h4⟩ => ⟨l, e, h1, h2, h3, fun L l' a => h _ _ (h4 L l' a)⟩
def S_skp (o : OO) (ds : List D) (Ψ : D → OO → Prop) : Prop := ∃ l : List Int, o = .l (iL l) ∧ ds = [] ∧ ∀ (zs : List Str) (l' : List Int), (∀ z ∈ zs, SkipL z) → zs.length ≤ 2 → Ψ (.lst (strsD zs)) (.l (iL l'))
theorem m_skp : MonoO S_skp := fun o ds Φ Φ' h ⟨l, h1, h2, h3⟩ => ⟨l, h1, h2, fun zs l' a b => h _ _ (h3 zs l' a b)⟩
theorem strs_len (ws : List Str) : (strsD ws).length = ws.length := by unfold strsD; rw [List.length_map]
theorem evW_sum (e : Ev) (ok : EvOk e) {vs : List Str} (h : ∀ v ∈ vs, v ∈ evW e) (l : vs.length ≤ 6) {y : Str} (hy : y.length = 1) : (vs.map (·.length)).sum + vs.length * y.length ≤ 300 := by
  have h1 := sum_len (ws := vs) (b := 40) fun x hx => (evW_wc ok x (h x hx)).2.1
  have h2 : vs.length * 40 ≤ 6 * 40 := Nat.mul_le_mul_right _ l
  rw [hy]
  omega
theorem mul_0 (n : Int) (h0 : 0 ≤ n) (h1 : n ≤ 40) : MulOk "0" n := by
  have l1 : ("0" : Str).length = 1 := by decide +kernel
  have h := mul_sp h0 h1
  unfold MulOk at h ⊢
  rw [len_sp] at h
  rw [l1]
  exact h
section
variable {P : Program} {w : World} {K : PySem.W.Frag} {mg : Str → Option Value} {base : Heap} {f BT : Addr} {fd : FuncData}
theorem c_spo (F : FunN K "_law_spoiled" s__law_spoiled f fd) (hm : mg "_law_spoiled" = some (.ref f)) (b : Blt mg) (c1 : KO P w K mg base "_law_take" 1 1 S_take) : KO P w K mg base "_law_spoiled" 2 1 S_spo := ⟨by
  have nd : (["pool", "words", "plain", "word", "menu"] : List Str).Nodup := by decide +kernel
  refine cal_fo F hm (N := ["pool", "words", "plain", "word", "menu"]) (ps := ["pool", "words"]) ⟨rfl, rfl, rfl, nd, rfl, by decide +kernel, by decide +kernel⟩ rfl (fun _ _ _ _ _ _ us hl => match us, hl with | [_, _], _ => rfl) ?_
  rintro cdv A outer s H E hr a o ds Ψ hl ⟨l, e, rfl, rfl, ok, hd⟩
  let ws := evW e
  have l6 := evW_six e
  have l2 := evW_two e
  have lw := strs_len (evW e)
  have a0 := (w0_at (evW_ne e)).1
  have pl : (Txt.join " " ws).length ≤ 300 := evT_len ok
  have jl : ∀ vs : List Str, (∀ v ∈ vs, v ∈ evW e) → vs.length ≤ 6 → (Txt.join " " vs).length ≤ 300 := fun vs h1 h2 => Nat.le_trans (join_len vs) (evW_sum e ok h1 h2 len_sp)
  have w40 : (w0 (evW e)).length ≤ 40 := (w0_wc ok).2.1
  have dl : ((evW e).drop 1).length ≤ 6 := by rw [List.length_drop]; omega
  have dj := jl ((evW e).drop 1) (fun v hv => List.mem_of_mem_drop hv) dl
  have s2 : ∀ y : Str, y.length ≤ 2 → (w0 (evW e) ++ y).length ≤ 42 := fun y hy => by rw [strLen_append]; omega
  refine sc_set 2 (ec_join (ec_str ⟨_, rfl, ec_var 1 rfl ⟨ws, .inl rfl, Nat.le_trans (evW_sum e ok (fun _ h => h) l6 len_sp) (by omega), ?_⟩⟩)) nd
  refine sc_set 3 (ec_co 0 rfl c1.c hr (pass_0 passL) c1.m (ac_cons (ec_int (ac_nil ⟨_, rfl, rfl, l, 10, rfl, rfl, by decide, fun r l1 r0 r1 => ?_⟩)))) nd
  let R : En := [some (.ow a (.l (iL l1))), some (.im (.lst (strsD (evW e)))), some (.im (.str (Txt.join " " (evW e)))), some (.im (.int r)), none]
  have fin : ∀ i : Nat, Ψ (.str (spL i (evW e))) (.l (iL l1)) := fun i => hd _ l1 (spoil_bad ok i)
  refine sc_if (tc_eqS (ec_var 3 rfl (ec_int ⟨decide (r = 0), rfl, ?_⟩)))
  by_cases h0 : r = 0
  · rw [decide_eq_true h0]
    refine ⟨fun _ => ?_, (fun z => nomatch z)⟩
    exact sc_ret (ec_addS (ec_var 2 rfl (ec_str ⟨_, _, rfl, rfl, by show (Txt.join " " (evW e)).length + 1 ≤ _; rw [sizeLine_eq]; have : (Txt.join " " (evW e)).length ≤ 300 := pl; omega, _, rfl, fin 0⟩)))
  rw [decide_eq_false h0]
  refine ⟨(fun z => nomatch z), fun _ => sc_nil ?_⟩
  show SC _ _ _ R _
  refine sc_if (tc_eqS (ec_var 3 rfl (ec_int ⟨decide (r = 1), rfl, ?_⟩)))
  by_cases h1 : r = 1
  · rw [decide_eq_true h1]
    refine ⟨fun _ => ?_, (fun z => nomatch z)⟩
    refine sc_ret (ec_join (ec_str ⟨_, rfl, ec_slL (ec_var 1 rfl ?_)⟩))
    refine ec_sub (ec_len (ac_cons (ec_var 1 rfl (ac_nil ⟨_, _, rfl, rfl, ec_int ⟨_, _, rfl, rfl, ?_⟩⟩))) b.len)
    refine ⟨_, (evW e).length - 1, rfl, by rw [lw]; congr 1; omega, (evW e).take ((evW e).length - 1), .inl (by unfold strsD; rw [List.map_take]), ?_, _, rfl, fin 1⟩
    exact Nat.le_trans (evW_sum e ok (fun _ h => List.mem_of_mem_take h) (by rw [List.length_take]; omega) len_sp) (by omega)
  rw [decide_eq_false h1]
  refine ⟨(fun z => nomatch z), fun _ => sc_nil ?_⟩
  show SC _ _ _ R _
  refine sc_if (tc_eqS (ec_var 3 rfl (ec_int ⟨decide (r = 2), rfl, ?_⟩)))
  by_cases h2 : r = 2
  · rw [decide_eq_true h2]
    refine ⟨fun _ => ?_, (fun z => nomatch z)⟩
    exact sc_ret (ec_addS (ec_var 2 rfl (ec_str ⟨_, _, rfl, rfl, by show (Txt.join " " (evW e)).length + 2 ≤ _; rw [sizeLine_eq]; have : (Txt.join " " (evW e)).length ≤ 300 := pl; omega, _, rfl, fin 2⟩)))
  rw [decide_eq_false h2]
  refine ⟨(fun z => nomatch z), fun _ => sc_nil ?_⟩
  show SC _ _ _ R _
  refine sc_if (tc_eqS (ec_var 3 rfl (ec_int ⟨decide (r = 3), rfl, ?_⟩)))
  by_cases h3 : r = 3
  · rw [decide_eq_true h3]
    refine ⟨fun _ => ?_, (fun z => nomatch z)⟩
    refine sc_ret (ec_addS (ec_addS (ec_ix (ec_var 1 rfl (ec_int ⟨_, 0, .str (w0 (evW e)), rfl, rfl, a0, ?_⟩)))))
    refine ec_str ⟨_, _, rfl, rfl, by show (w0 (evW e)).length + 2 ≤ _; rw [sizeLine_eq]; omega, ?_⟩
    refine ec_join (ec_str ⟨_, rfl, ec_slLo (ec_var 1 rfl (ec_int ⟨_, 1, rfl, rfl, (evW e).drop 1, .inl (by unfold strsD; rw [List.map_drop]), ?_, ?_⟩))⟩)
    · exact Nat.le_trans (evW_sum e ok (fun _ h => List.mem_of_mem_drop h) dl len_sp) (by omega)
    · refine ⟨_, _, rfl, rfl, ?_, _, rfl, fin 3⟩
      have := s2 " 0" (by decide +kernel)
      rw [sizeLine_eq]; omega
  rw [decide_eq_false h3]
  refine ⟨(fun z => nomatch z), fun _ => sc_nil ?_⟩
  show SC _ _ _ R _
  refine sc_if (tc_eqS (ec_var 3 rfl (ec_int ⟨decide (r = 4), rfl, ?_⟩)))
  by_cases h4 : r = 4
  · rw [decide_eq_true h4]
    refine ⟨fun _ => ?_, (fun z => nomatch z)⟩
    refine sc_ret (ec_addS (ec_addS (ec_ix (ec_var 1 rfl (ec_int ⟨_, 0, .str (w0 (evW e)), rfl, rfl, a0, ?_⟩)))))
    refine ec_str ⟨_, _, rfl, rfl, by show (w0 (evW e)).length + 2 ≤ _; rw [sizeLine_eq]; omega, ?_⟩
    refine ec_join (ec_str ⟨_, rfl, ec_slLo (ec_var 1 rfl (ec_int ⟨_, 1, rfl, rfl, (evW e).drop 1, .inl (by unfold strsD; rw [List.map_drop]), ?_, ?_⟩))⟩)
    · exact Nat.le_trans (evW_sum e ok (fun _ h => List.mem_of_mem_drop h) dl len_sp) (by omega)
    · refine ⟨_, _, rfl, rfl, ?_, _, rfl, fin 4⟩
      have := s2 " -" (by decide +kernel)
      rw [sizeLine_eq]; omega
  rw [decide_eq_false h4]
  refine ⟨(fun z => nomatch z), fun _ => sc_nil ?_⟩
  show SC _ _ _ R _
  refine sc_if (tc_eqS (ec_var 3 rfl (ec_int ⟨decide (r = 5), rfl, ?_⟩)))
  by_cases h5 : r = 5
  · rw [decide_eq_true h5]
    refine ⟨fun _ => ?_, (fun z => nomatch z)⟩
    exact sc_ret (ec_addS (ec_str (ec_var 2 rfl ⟨_, _, rfl, rfl, by show 1 + (Txt.join " " (evW e)).length ≤ _; rw [sizeLine_eq]; have : (Txt.join " " (evW e)).length ≤ 300 := pl; omega, _, rfl, fin 5⟩)))
  rw [decide_eq_false h5]
  refine ⟨(fun z => nomatch z), fun _ => sc_nil ?_⟩
  show SC _ _ _ R _
  refine sc_if (tc_eqS (ec_var 3 rfl (ec_int ⟨decide (r = 6), rfl, ?_⟩)))
  by_cases h6 : r = 6
  · rw [decide_eq_true h6]
    refine ⟨fun _ => ?_, (fun z => nomatch z)⟩
    exact sc_ret (ec_join (ec_str ⟨_, rfl, ec_var 1 rfl ⟨evW e, .inl rfl, Nat.le_trans (evW_sum e ok (fun _ h => h) l6 (by decide +kernel)) (by omega), _, rfl, fin 6⟩⟩))
  rw [decide_eq_false h6]
  refine ⟨(fun z => nomatch z), fun _ => sc_nil ?_⟩
  show SC _ _ _ R _
  refine sc_set 4 ?_ nd
  refine ec_lst ?_
  refine ac_cons ?_
  refine ec_str ?_
  refine ac_cons ?_
  refine ec_str ?_
  refine ac_cons ?_
  refine ec_str ?_
  refine ac_cons ?_
  refine ec_str ?_
  refine ac_cons ?_
  refine ec_str ?_
  refine ac_nil ?_
  refine ⟨by show 5 ≤ 100000; omega, ?_⟩
  let m1 : List D := strsD ["hand 1 0 to 2", "hand 1 2 to 1", "hush 1 1", "begin 0 put 1 -0", "begin 0 get -1"]
  show SC _ _ _ [some (.ow a (.l (iL l1))), some (.im (.lst (strsD (evW e)))), some (.im (.str (Txt.join " " (evW e)))), some (.im (.int r)), some (.im (.lst m1))] _
  refine sc_set 4 ?_ nd
  refine ec_cat ?_
  refine ec_var 4 rfl ?_
  refine ec_lst ?_
  refine ac_cons ?_
  refine ec_str ?_
  refine ac_cons ?_
  refine ec_addS ?_
  refine ec_str ?_
  refine ec_mulS ?_
  refine ec_str ?_
  refine ec_int ?_
  refine ⟨"0", 30, rfl, rfl, mul_0 30 (by decide) (by decide), ?_⟩
  refine ⟨"tick 1", zeros, rfl, rfl, by rw [sizeLine_eq]; decide +kernel, ?_⟩
  refine ac_cons ?_
  refine ec_str ?_
  refine ac_cons ?_
  refine ec_str ?_
  refine ac_cons ?_
  refine ec_str ?_
  refine ac_nil ?_
  refine ⟨by show 5 ≤ 100000; omega, ?_⟩
  refine ⟨m1, _, rfl, rfl, by show 5 + 5 ≤ 100000; omega, ?_⟩
  show SC _ _ _ [some (.ow a (.l (iL l1))), some (.im (.lst (strsD (evW e)))), some (.im (.str (Txt.join " " (evW e)))), some (.im (.int r)), some (.im (.lst (strsD menuL)))] _
  refine sc_ret ?_
  refine ec_ix ?_
  refine ec_var 4 rfl ?_
  refine ec_co 0 rfl c1.c hr (pass_0 passL) c1.m (ac_cons (ec_int (ac_nil ⟨_, rfl, rfl, l1, 10, rfl, rfl, by decide, fun t l3 t0 t1 => ?_⟩)))
  obtain ⟨j, rfl⟩ := Int.eq_ofNat_of_zero_le t0
  have hj : j < menuL.length := by have : menuL.length = 10 := rfl; omega
  have gj : menuL[j]? = some menuL[j] := List.getElem?_eq_getElem hj
  exact ⟨_, _, .str menuL[j], rfl, rfl, atI_nat (by unfold strsD; rw [List.getElem?_map, gj]; rfl), _, rfl, hd _ l3 (menu_bad _ (List.getElem_mem hj))⟩
  , m_spo⟩
end
end T34
namespace T34
open PySem PySem.Spec PyProof.Rows L2 Evl AL
/-! ### _law_skipped -/
theorem back_hd {a : Addr} {o0 o1 : OO} {r : En} (h : ∀ x ∈ r, ∀ b o, x ≠ some (Sl.ow b o)) : BackE (some (.ow a o0) :: r) (some (.ow a o1) :: r) (some (.ow a o1) :: r) := by
  refine ⟨rfl, fun i d hd => ?_, fun i b o hd => ?_⟩
  · cases i with
    | zero => cases hd
    | succ i => exact hd
  · cases i with
    | zero =>
      cases hd
      exact ⟨rfl, o0, rfl⟩
    | succ i => exact absurd rfl (h _ (List.mem_of_getElem? (show r[i]? = _ from hd)) b o)
section
variable {P : Program} {w : World} {K : PySem.W.Frag} {mg : Str → Option Value} {base : Heap} {f BT : Addr} {fd : FuncData}
theorem c_skp (F : FunN K "_law_skipped" s__law_skipped f fd) (hm : mg "_law_skipped" = some (.ref f)) (b : Blt mg) (c1 : KO P w K mg base "_law_take" 1 1 S_take) : KO P w K mg base "_law_skipped" 2 0 S_skp := ⟨by
  have nd : (["pool", "menu", "k"] : List Str).Nodup := by decide +kernel
  refine cal_fo F hm (N := ["pool", "menu", "k"]) (ps := ["pool"]) ⟨rfl, rfl, rfl, nd, rfl, by decide +kernel, by decide +kernel⟩ rfl (fun _ _ _ _ _ _ us hl => match us, hl with | [_], _ => rfl) ?_
  rintro cdv A outer s H E hr a o ds Ψ hl ⟨l, rfl, rfl, hd⟩
  refine sc_set 1 ?_ nd
  refine ec_lst ?_
  refine ac_cons ?_
  refine ec_str ?_
  refine ac_cons ?_
  refine ec_str ?_
  refine ac_cons ?_
  refine ec_str ?_
  refine ac_cons ?_
  refine ec_str ?_
  refine ac_cons ?_
  refine ec_str ?_
  refine ac_nil ?_
  refine ⟨by show 5 ≤ 100000; omega, ?_⟩
  let Ev : List Int → En := fun l' => [some (.ow a (.l (iL l'))), some (.im (.lst (strsD skipsL))), none]
  have bk : ∀ l' l'', BackE (Ev l') (Ev l'') (Ev l'') := fun l' l'' => back_hd (fun x hx b o e => by
    subst e
    simp at hx)
  show SC _ _ _ (Ev l) _
  refine sc_ret ?_
  refine ec_fc ?_
  refine fc_lcR [("k", 2)] [2] ?_ nd (by decide)
  refine ic_range ?_ b.range
  refine ec_ix ?_
  refine ec_lst ?_
  refine ac_cons ?_
  refine ec_int ?_
  refine ac_cons ?_
  refine ec_int ?_
  refine ac_cons ?_
  refine ec_int ?_
  refine ac_cons ?_
  refine ec_int ?_
  refine ac_nil ?_
  refine ⟨by show 4 ≤ 100000; omega, ?_⟩
  refine ec_co 0 rfl c1.c hr (pass_0 passL) c1.m (ac_cons (ec_int (ac_nil ⟨_, rfl, rfl, l, 4, rfl, rfl, by decide, fun r l1 r0 r1 => ?_⟩)))
  obtain ⟨j, rfl⟩ := Int.eq_ofNat_of_zero_le r0
  obtain ⟨n, hg, h4⟩ : ∃ n : Nat, ([D.int 0, D.int 1, D.int 0, D.int 2] : List D)[j]? = some (natD n) ∧ n ≤ 2 := by
    have hj : j < 4 := by omega
    match j, hj with
    | 0, _ => exact ⟨0, rfl, by decide⟩
    | 1, _ => exact ⟨1, rfl, by decide⟩
    | 2, _ => exact ⟨0, rfl, by decide⟩
    | 3, _ => exact ⟨2, rfl, by decide⟩
  refine ⟨_, _, natD n, rfl, rfl, atI_nat hg, n, rfl, by omega, by omega, ?_⟩
  have lr : (rngD 0 (n : Int).toNat).length = n := by unfold rngD; rw [List.length_map, List.length_range, Int.toNat_natCast]
  refine ⟨fun i out ρi => ∃ (l' : List Int) (zs : List Str), out = strsD zs ∧ zs.length = i ∧ (∀ z ∈ zs, SkipL z) ∧ ρi = Ev l', ⟨l1, [], rfl, rfl, (fun c hc => nomatch hc), rfl⟩, ?_, ?_, ?_⟩
  · rintro i out ρi hi ⟨l', zs, rfl, rfl, _, rfl⟩
    rw [strs_len]; rw [lr] at hi; omega
  · rintro i d out ρi hid ⟨l', zs, rfl, rfl, hz, rfl⟩
    intro s3 H3 C3 cl3 fp3
    refine gt_name 2 ?_ nd
    intro s4 H4 C4 cl4 fp4
    refine ec_ix ?_
    refine ec_var 1 rfl ?_
    refine ec_co 0 rfl c1.c hr (pass_0 passL) c1.m (ac_cons (ec_int (ac_nil ⟨_, rfl, rfl, l', 5, rfl, rfl, by decide, fun t l3 t0 t1 => ?_⟩)))
    obtain ⟨m, rfl⟩ := Int.eq_ofNat_of_zero_le t0
    have hm5 : m < skipsL.length := by have : skipsL.length = 5 := rfl; omega
    have gm : skipsL[m]? = some skipsL[m] := List.getElem?_eq_getElem hm5
    refine ⟨_, _, .str skipsL[m], rfl, rfl, atI_nat (by unfold strsD; rw [List.getElem?_map, gm]; rfl), l3, zs ++ [skipsL[m]], by unfold strsD; rw [List.map_append]; rfl, by simp, fun z h => ?_, rfl⟩
    rcases List.mem_append.mp h with h | h
    · exact hz z h
    · rw [List.mem_singleton.mp h]; exact skips_skip _ (List.getElem_mem hm5)
  · rintro out ρ' ⟨l', zs, rfl, hlen, hz, rfl⟩
    rw [lr] at hlen
    exact ⟨Ev l', bk l1 l', strsD zs, rfl, _, rfl, hd zs l' hz (by omega)⟩
  , m_skp⟩
end
end T34
namespace T34
open PySem PySem.Spec PyProof.Rows L2 Evl AL
/-! ### _law_refused -/
section
variable {X : Cx} {Z : Zx} {e : Expr} {ρ : En} {Φ : D → En → Prop} {pos : Pos}
theorem ec_isB {c : Bool} {j pos'} (h : EC X Z e ρ fun d ρ1 => ∃ b, d = .bl b ∧ Φ (.bl (decide (b = c))) ρ1) : EC X Z (.Compare e [.Is] [.Constant (.bool c) j pos'] pos) ρ Φ := fun B G H σ o z Q q =>
  (pe_cmpR op_isBl p_wE pe_bl (nobehind _ (by decide) (by decide))).w (h B G H σ o z _ fun d ρ1 v B1 H1 ⟨b, hd, h1⟩ e1 o1 r1 => by
    subst hd; cases r1
    exact ⟨b, c, rfl, rfl, q _ ρ1 _ B1 H1 h1 e1 o1 (.bl _)⟩)
end
structure ErrT (K : PySem.W.Frag) (mg : Str → Option Value) (BT BN LE : Addr) : Prop where
  bt : EF K mg "BadText" BT "line"
  bn : mg "BadNumber" = some (.ref BN)
  le : mg "LinksError" = some (.ref LE)
  xf : XfC K BT
  ex : ExcC K BT
  own : PySem.W.exmOne K (.ref BT) (.ref BT) = some true
  kit : PySem.W.kitOne K (.ref BT) (.ref LE) = some true
  kit2 : PySem.W.kitOne K (.ref BT) (.ref BN) = some false
  no : PySem.W.findIn K (.ref BT) "line" = some none
structure Rf (y0 y1 : List Str) (y : Str) (es : List Ev) : Prop where
  g : Gd y0 es
  ok : ∀ e ∈ es, EvOk e
  b : BadL y
  l : ∀ z ∈ y1, LnW z
  n : (y0 ++ [y] ++ y1).length ≤ 100
def S_rfs (ds : List D) (Ψ : D → Prop) : Prop := ∃ (y0 y1 : List Str) (y : Str) (es : List Ev), ds = [.str (Txt.join "\n" (y0 ++ [y] ++ y1)), .int ((y0.length + 1 : Nat) : Int)] ∧ Rf y0 y1 y es ∧ Ψ (.bl true)
theorem m_rfs : MonoF S_rfs := fun ds Φ Φ' g ⟨a, b, c, d, h1, h2, h3⟩ => ⟨a, b, c, d, h1, h2, g _ h3⟩
section
variable {P : Program} {w : World} {K : PySem.W.Frag} {mg : Str → Option Value} {base : Heap} {f BT BN LE : Addr} {fd : FuncData}
theorem c_rfs (F : FunN K "_law_refused" s__law_refused f fd) (hm : mg "_law_refused" = some (.ref f)) (b : Blt mg) (ex : ErrT K mg BT BN LE) (c1 : KX P w K mg base "schedule_from" 6 1 (X_sch BT)) (c2 : KF P w K mg base "_law_int" 1 1 S_is_number) : KF P w K mg base "_law_refused" 7 2 S_rfs := ⟨by
  have nd : (["text", "due", "line", "other", "wrong"] : List Str).Nodup := by decide +kernel
  refine cal_fn F hm (N := ["text", "due", "line", "other", "wrong"]) (ps := ["text", "due"]) ⟨rfl, rfl, rfl, nd, rfl, by decide +kernel, by decide +kernel⟩ rfl (fun _ _ _ _ _ _ us hl => match us, hl with | [_, _], _ => rfl) ?_
  rintro cdv A outer s H E hr ds Ψ hl ⟨y0, y1, y, es, rfl, rf, hd⟩
  let k : Nat := y0.length + 1
  refine sc_set 2 (ec_non ?_) nd
  refine sc_set 3 (ec_non ?_) nd
  let R0 : En := [some (.im (.str (Txt.join "\n" (y0 ++ [y] ++ y1)))), some (.im (.int (k : Int))), some (.im .non), some (.im .non), none]
  refine sc_try 4 (fun Ce fs ρ' => Ce = BT ∧ fs = ([(("line" : Str), D.int (k : Int))] : List (Str × D)) ∧ ρ' = R0) rfl rfl nd rfl rfl ⟨rfl, by decide, .inl ex.bt.mg⟩ takes_0 ?_ ?_
  · intro E2 pn xe tk
    exact sc_expr (ec_cx c1.c hr (pass_tk tk) c1.m (ac_cons (ec_var 0 rfl (ac_nil ⟨rfl, sch_bad rf.g rf.ok rf.b rf.l rf.n ⟨rfl, rfl, rfl⟩⟩))))
  · rintro Ce fs ρ' ⟨rfl, rfl, rfl⟩
    refine ⟨true, ex.own, (fun z => nomatch z), fun _ a d oe pn hz hf => ?_⟩
    refine sc_set 2 (ec_excf 4 rfl ex.xf ex.no hz hf rfl ?_) nd
    refine sc_set 3 (ec_or (ec_exis 4 rfl ex.ex hz hf ex.kit2 ⟨false, rfl, fun _ => ec_one (ec_not (ec_exis 4 rfl ex.ex hz hf ex.kit ⟨_, rfl, ?_⟩ b.isi ex.le)), (fun z => nomatch z)⟩ b.isi ex.bn)) nd
    refine sc_nil ?_
    show SC _ _ _ [some (.im (.str (Txt.join "\n" (y0 ++ [y] ++ y1)))), some (.im (.int (k : Int))), some (.im (.int (k : Int))), some (.im (.bl false)), none] _
    refine sc_ret (ec_and (ec_cf c2.c (hr.mono (by omega)) (pass_0 passL) c2.m (ac_cons (ec_var 2 rfl (ac_nil ⟨rfl, _, rfl, rfl, true, rfl, fun _ => ?_, (fun z => nomatch z)⟩)))))
    refine ec_and (ec_eqS (ec_var 2 rfl (ec_var 1 rfl ⟨true, ?_, true, rfl, fun _ => ec_one (ec_isB (ec_var 3 rfl ⟨false, rfl, hd⟩)), (fun z => nomatch z)⟩)))
    show some (decide ((k : Int) = (k : Int))) = _
    simp
  , m_rfs⟩
end
end T34
namespace AL
open PySem PySem.Spec PyProof.Rows L2 Evl RZ
section
variable {X : Cx} {Z : Zx} {a b : Expr} {ρ : En} {Θ : OO → En → Prop} {pos : Pos}
/-- a + b, two lists, as a list of one's own -/
theorem fc_cat (h : EC X Z a ρ fun d ρ1 => EC X Z b ρ1 fun d' ρ2 => ∃ ds es, d = .lst ds ∧ d' = .lst es ∧ ds.length + es.length ≤ 100000 ∧ Θ (.l (ds ++ es)) ρ2) : FC X Z (.BinOp a .Add b pos) ρ Θ := fun B G H σ o z Q q =>
  (pe_op op_cat p_wE p_wE).w (h B G H σ o z _ fun d ρ1 v B1 H1 h1 e1 o1 r1 => h1 B1 G H1 σ o1 (z.up e1) _ fun d' ρ2 y B2 H2 ⟨ds, es, hd, hd', hl, k⟩ e2 o2 r2 => by
    subst hd; subst hd'
    have r1' := r1.up e2
    cases r1' with
    | @lst p xs _ hq rr =>
      cases r2 with
      | @lst p2 ys _ hq2 rr2 =>
        refine ⟨_, _, _, _, rfl, rfl, o2.s.ex _ _ hq, o2.s.ex _ _ hq2, by rw [rr.length, rr2.length]; exact sz_of hl, fun q' hq' => ?_⟩
        obtain ⟨o4, hb, hg, hn⟩ := o2.fresh (u := .lst (xs ++ ys)) hq'
        exact q _ ρ2 q' _ _ _ k (e1.trans e2) o4 hb hg upd_same hn (Reps.app rr rr2))
end
end AL
namespace T34
open PySem PySem.Spec PyProof.Rows L2 Evl AL
/-! ### _law_spoiled_right -/
def S_spr (o : OO) (ds : List D) (Ψ : D → OO → Prop) : Prop := ∃ (l : List Int) (es : List Ev), o = .l (iL l) ∧ ds = [.lst (es.map evD)] ∧ (∀ e ∈ es, EvOk e) ∧ es.length ≤ 6 ∧ ∀ l' : List Int, Ψ (.bl true) (.l (iL l'))
theorem m_spr : MonoO S_spr := fun o ds Φ Φ' h ⟨l, es, h1, h2, h3, h4, h5⟩ => ⟨l, es, h1, h2, h3, h4, fun l' => h _ _ (h5 l')⟩
/-- what the lines are ahead of event i, the event r being the first spoiled -/
structure SI (es : List Ev) (r i : Nat) (ys : List Str) (due : Nat) : Prop where
  n : ys.length ≤ 3 * i
  lo : i ≤ r → Gd ys (es.take i)
  hi : r < i → ∃ y0 y1 y, ys = y0 ++ [y] ++ y1 ∧ Gd y0 (es.take r) ∧ BadL y ∧ (∀ z ∈ y1, LnW z) ∧ due = y0.length + 1
theorem SI.next {es : List Ev} {r i due : Nat} {ys zs : List Str} {e : Ev} {y : Str} (s : SI es r i ys due) (he : es[i]? = some e) (hz : ∀ z ∈ zs, SkipL z) (z2 : zs.length ≤ 2)
    (h1 : i < r → GoodL (evW e) y) (h2 : i = r → BadL y) (h3 : r < i → LnW y) : SI es r (i + 1) (ys ++ zs ++ [y]) (if i = r then (ys ++ zs ++ [y]).length else due) := by
  have et : es.take (i + 1) = es.take i ++ [e] := by rw [List.take_add_one, he]; rfl
  refine ⟨by have := s.n; simp only [List.length_append, List.length_singleton]; omega, fun h => ?_, fun h => ?_⟩
  · rw [et]
    exact ((s.lo (by omega)).skips hz).good (h1 (by omega))
  · by_cases e1 : i = r
    · subst e1
      refine ⟨ys ++ zs, [], y, by simp, (s.lo (Nat.le_refl _)).skips hz, h2 rfl, (fun z hz => nomatch hz), ?_⟩
      rw [if_pos rfl]; simp; omega
    · obtain ⟨y0, y1, b, rfl, g, hb, hl, hd⟩ := s.hi (by omega)
      refine ⟨y0, y1 ++ zs ++ [y], b, by simp, g, hb, fun z hm => ?_, by rw [if_neg e1]; exact hd⟩
      rcases List.mem_append.mp hm with hm | hm
      · exact (List.mem_append.mp hm).elim (hl z) fun q => (hz z q).lnw
      · rw [List.mem_singleton.mp hm]; exact h3 (by omega)
theorem strs_snoc (ws : List Str) (L : Str) : strsD ws ++ [.str L] = strsD (ws ++ [L]) := by unfold strsD; rw [List.map_append]; rfl
section
variable {P : Program} {w : World} {K : PySem.W.Frag} {mg : Str → Option Value} {base : Heap} {f BT BN LE : Addr} {fd : FuncData}
theorem c_spr (F : FunN K "_law_spoiled_right" s__law_spoiled_right f fd) (hm : mg "_law_spoiled_right" = some (.ref f)) (b : Blt mg) (c1 : KO P w K mg base "_law_take" 1 1 S_take) (c2 : KO P w K mg base "_law_skipped" 2 0 S_skp) (c3 : KO P w K mg base "_law_spoiled" 2 1 S_spo) (c4 : KO P w K mg base "_law_loose" 2 1 S_loo)
    (c5 : KF P w K mg base "_law_words" 1 1 S_lwd) (c6 : KF P w K mg base "_law_refused" 7 2 S_rfs) : KO P w K mg base "_law_spoiled_right" 8 1 S_spr := ⟨by
  have nd : (["pool", "events", "first", "lines", "due", "at"] : List Str).Nodup := by decide +kernel
  refine cal_fo F hm (N := ["pool", "events", "first", "lines", "due", "at"]) (ps := ["pool", "events"]) ⟨rfl, rfl, rfl, nd, rfl, by decide +kernel, by decide +kernel⟩ rfl (fun _ _ _ _ _ _ us hl => match us, hl with | [_, _], _ => rfl) ?_
  rintro cdv A outer s H E hr a o ds Ψ hl ⟨l, es, rfl, rfl, ok, l6, hd⟩
  have hr1 := hr.mono (show 1 ≤ 7 by omega)
  have hr2 := hr.mono (show 2 ≤ 7 by omega)
  have rest : ∀ es : List Ev, (∀ e ∈ es, EvOk e) → es.length ≤ 6 → es ≠ [] → SC (bodyX P w K mg base ["pool", "events", "first", "lines", "due", "at"] "_law_spoiled_right" (defScope s__law_spoiled_right) f cdv A outer s H E) Z0 ((defBody s__law_spoiled_right).drop 1) [some (.ow a (.l (iL l))), some (.im (.lst (es.map evD))), none, none, none, none] (OutO a Ψ) := fun es ok l6 hne => by
    have lm : (es.map evD).length = es.length := List.length_map ..
    have ln0 : 0 < es.length := List.length_pos_iff.mpr hne
    refine sc_set 2 (ec_co 0 rfl c1.c hr1 (pass_0 passL) c1.m (ac_cons (ec_len (ac_cons (ec_var 1 rfl (ac_nil ⟨_, _, rfl, rfl, ac_nil ⟨_, rfl, rfl, l, (es.length : Int), rfl, by rw [lm], by omega, fun r l1 r0 r1 => ?_⟩⟩))) b.len))) nd
    obtain ⟨r, rfl⟩ := Int.eq_ofNat_of_zero_le r0
    have hrl : r < es.length := by omega
    refine sc_own 3 (fc_lst (ac_nil ⟨Nat.zero_le _, ?_⟩)) nd
    intro p0
    refine sc_set 4 (ec_int ?_) nd
    let St : List Int → Addr → List Str → Nat → Option D → En := fun l p ys due x => [some (.ow a (.l (iL l))), some (.im (.lst (es.map evD))), some (.im (.int (r : Int))), some (.ow p (.l (strsD ys))), some (.im (.int (due : Int))), x.map .im]
    refine sc_for (js := [5]) (ic_range (ec_len (ac_cons (ec_var 1 rfl (ac_nil ⟨_, _, rfl, rfl, es.length, by rw [lm], by omega, by omega, ?_⟩))) b.len) b.range) (passes_of rfl)
    refine ⟨fun i ρ' => ∃ l p ys due x, ρ' = St l p ys due x ∧ SI es r i ys due, ⟨l1, p0, [], 0, none, rfl, by simp, fun _ => by simpa using gd_nil, fun z => absurd z (by omega)⟩, ?_, ?_⟩
    · rintro i d ρi hi ⟨l2, p, ys, due, x, rfl, si⟩
      obtain ⟨hlt, rfl⟩ := rng_nat (n := es.length) hi
      obtain ⟨e, he⟩ : ∃ e, es[i]? = some e := ⟨_, List.getElem?_eq_getElem hlt⟩
      have oke := ok e (List.mem_of_getElem? he)
      have at_ : atI (es.map evD) (i : Int) = some (evD e) := atI_nat (by rw [List.getElem?_map, he]; rfl)
      have n3 := si.n
      refine gt_name 5 ?_ nd
      refine sc_own 3 (fc_cat (ec_frz 3 rfl (ec_co 0 rfl c2.c hr2 (pass_0 passL) c2.m (ac_nil ⟨_, rfl, rfl, l2, rfl, rfl, fun zs l3 hz z2 => ⟨_, _, rfl, rfl, by rw [strs_len, strs_len]; omega, ?_⟩⟩)))) nd
      intro p2
      have e1 : strsD ys ++ strsD zs = strsD (ys ++ zs) := by unfold strsD; rw [List.map_append]
      rw [e1]
      show SC _ _ _ (St l3 p2 (ys ++ zs) due (some (natD i))) _
      have l20 : (ys ++ zs).length ≤ 40 := by rw [List.length_append]; omega
      have eR : decide ((i : Int) = (r : Int)) = decide (i = r) := decide_eq_decide.mpr (by omega)
      have eG : decide ((r : Int) < (i : Int)) = decide (r < i) := decide_eq_decide.mpr (by omega)
      have wne := evW_ne e
      rcases Nat.lt_trichotomy i r with hc | hc | hc
      · refine sc_if (tc_w (wc_or (tc_eqS (ec_var 5 rfl (ec_var 2 rfl ⟨_, rfl, ?_⟩)))))
        rw [eR, decide_eq_false (by omega)]
        refine ⟨fun _ => wc_or1 (tc_w (wc_and (tc_gt (ec_var 5 rfl (ec_var 2 rfl ⟨_, _, rfl, rfl, ?_⟩))))), (fun z => nomatch z)⟩
        rw [eG, decide_eq_false (by omega)]
        refine ⟨(fun z => nomatch z), fun _ => ⟨(fun z => nomatch z), fun _ => ?_⟩⟩
        refine sc_app 3 rfl (ec_co 0 rfl c4.c hr2 (pass_0 passL) c4.m (ac_cons (ec_cf c5.c hr1 (pass_0 passL) c5.m (ac_cons (ec_ix (ec_var 1 rfl (ec_var 5 rfl ⟨_, _, evD e, rfl, rfl, at_, ac_nil ⟨rfl, e, rfl, oke, ac_nil ⟨_, rfl, rfl, l3, evW e, rfl, rfl, wne, evW_six e, evW_wc oke, fun L l4 g => ?_⟩⟩⟩)))))))
        refine ⟨_, rfl, by rw [strs_len]; omega, sc_nil ?_⟩
        rw [strs_snoc]
        have si2 := si.next (y := L) he hz z2 (fun _ => g) (fun z => absurd z (by omega)) (fun z => absurd z (by omega))
        rw [if_neg (by omega)] at si2
        show SC _ _ _ (St l4 p2 (ys ++ zs ++ [L]) due (some (natD i))) _
        refine sc_if (tc_eqS (ec_var 5 rfl (ec_var 2 rfl ⟨_, rfl, ?_⟩)))
        rw [eR, decide_eq_false (by omega)]
        exact ⟨(fun z => nomatch z), fun _ => sc_nil (sc_nil ⟨l4, p2, _, due, some (natD i), rfl, si2⟩)⟩
      · refine sc_if (tc_w (wc_or (tc_eqS (ec_var 5 rfl (ec_var 2 rfl ⟨_, rfl, ?_⟩)))))
        rw [eR, decide_eq_true hc]
        refine ⟨(fun z => nomatch z), fun _ => ⟨fun _ => ?_, (fun z => nomatch z)⟩⟩
        refine sc_app 3 rfl (ec_co 0 rfl c3.c hr2 (pass_0 passL) c3.m (ac_cons (ec_cf c5.c hr1 (pass_0 passL) c5.m (ac_cons (ec_ix (ec_var 1 rfl (ec_var 5 rfl ⟨_, _, evD e, rfl, rfl, at_, ac_nil ⟨rfl, e, rfl, oke, ac_nil ⟨_, rfl, rfl, l3, e, rfl, rfl, oke, fun L l4 g => ?_⟩⟩⟩)))))))
        refine ⟨_, rfl, by rw [strs_len]; omega, sc_nil ?_⟩
        rw [strs_snoc]
        have si2 := si.next (y := L) he hz z2 (fun z => absurd z (by omega)) (fun _ => g) (fun z => absurd z (by omega))
        rw [if_pos hc] at si2
        show SC _ _ _ (St l4 p2 (ys ++ zs ++ [L]) due (some (natD i))) _
        refine sc_if (tc_eqS (ec_var 5 rfl (ec_var 2 rfl ⟨_, rfl, ?_⟩)))
        rw [eR, decide_eq_true hc]
        refine ⟨fun _ => ?_, (fun z => nomatch z)⟩
        refine sc_set 4 (ec_lenO 3 rfl ?_ b.len) nd
        refine sc_nil (sc_nil ⟨l4, p2, _, (ys ++ zs ++ [L]).length, some (natD i), ?_, si2⟩)
        rw [strs_len]; rfl
      · refine sc_if (tc_w (wc_or (tc_eqS (ec_var 5 rfl (ec_var 2 rfl ⟨_, rfl, ?_⟩)))))
        rw [eR, decide_eq_false (by omega)]
        refine ⟨fun _ => wc_or1 (tc_w (wc_and (tc_gt (ec_var 5 rfl (ec_var 2 rfl ⟨_, _, rfl, rfl, ?_⟩))))), (fun z => nomatch z)⟩
        rw [eG, decide_eq_true hc]
        refine ⟨fun _ => wc_and1 (tc_eqS (ec_co 0 rfl c1.c hr1 (pass_0 passL) c1.m (ac_cons (ec_int (ac_nil ⟨_, rfl, rfl, l3, 3, rfl, rfl, by decide, fun t l4 t0 t1 => ec_int ⟨decide (t = 1), rfl, ?_⟩⟩))))), (fun z => nomatch z)⟩
        by_cases ht : t = 1
        · rw [decide_eq_true ht]
          refine ⟨fun _ => ?_, (fun z => nomatch z)⟩
          refine sc_app 3 rfl (ec_co 0 rfl c3.c hr2 (pass_0 passL) c3.m (ac_cons (ec_cf c5.c hr1 (pass_0 passL) c5.m (ac_cons (ec_ix (ec_var 1 rfl (ec_var 5 rfl ⟨_, _, evD e, rfl, rfl, at_, ac_nil ⟨rfl, e, rfl, oke, ac_nil ⟨_, rfl, rfl, l4, e, rfl, rfl, oke, fun L l5 g => ?_⟩⟩⟩)))))))
          refine ⟨_, rfl, by rw [strs_len]; omega, sc_nil ?_⟩
          rw [strs_snoc]
          have si2 := si.next (y := L) he hz z2 (fun z => absurd z (by omega)) (fun z => absurd z (by omega)) (fun _ => g.lnw)
          rw [if_neg (by omega)] at si2
          show SC _ _ _ (St l5 p2 (ys ++ zs ++ [L]) due (some (natD i))) _
          refine sc_if (tc_eqS (ec_var 5 rfl (ec_var 2 rfl ⟨_, rfl, ?_⟩)))
          rw [eR, decide_eq_false (by omega)]
          exact ⟨(fun z => nomatch z), fun _ => sc_nil (sc_nil ⟨l5, p2, _, due, some (natD i), rfl, si2⟩)⟩
        · rw [decide_eq_false ht]
          refine ⟨(fun z => nomatch z), fun _ => ?_⟩
          refine sc_app 3 rfl (ec_co 0 rfl c4.c hr2 (pass_0 passL) c4.m (ac_cons (ec_cf c5.c hr1 (pass_0 passL) c5.m (ac_cons (ec_ix (ec_var 1 rfl (ec_var 5 rfl ⟨_, _, evD e, rfl, rfl, at_, ac_nil ⟨rfl, e, rfl, oke, ac_nil ⟨_, rfl, rfl, l4, evW e, rfl, rfl, wne, evW_six e, evW_wc oke, fun L l5 g => ?_⟩⟩⟩)))))))
          refine ⟨_, rfl, by rw [strs_len]; omega, sc_nil ?_⟩
          rw [strs_snoc]
          have si2 := si.next (y := L) he hz z2 (fun z => absurd z (by omega)) (fun z => absurd z (by omega)) (fun _ => g.lnw wne)
          rw [if_neg (by omega)] at si2
          show SC _ _ _ (St l5 p2 (ys ++ zs ++ [L]) due (some (natD i))) _
          refine sc_if (tc_eqS (ec_var 5 rfl (ec_var 2 rfl ⟨_, rfl, ?_⟩)))
          rw [eR, decide_eq_false (by omega)]
          exact ⟨(fun z => nomatch z), fun _ => sc_nil (sc_nil ⟨l5, p2, _, due, some (natD i), rfl, si2⟩)⟩
    · rintro ρ' ⟨l2, p, ys, due, x, rfl, si⟩
      have el : (rngD 0 ((es.length : Int)).toNat).length = es.length := by unfold rngD; rw [List.length_map, List.length_range, Int.toNat_natCast]
      rw [el] at si
      obtain ⟨y0, y1, y, rfl, g, hb, hl, rfl⟩ := si.hi hrl
      have n3 := si.n
      refine sc_ret (ec_cf c6.c hr (pass_0 passL) c6.m (ac_cons (ec_join (ec_str ⟨_, rfl, ec_frz 3 rfl ⟨y0 ++ [y] ++ y1, .inl rfl, ?_, ac_cons (ec_var 4 rfl (ac_nil ⟨rfl, y0, y1, y, es.take r, rfl, ⟨g, fun e he => ok e (List.mem_of_mem_take he), hb, hl, by omega⟩, _, rfl, hd l2⟩))⟩⟩))))
      have h1 := sum_len (ws := y0 ++ [y] ++ y1) (b := 900) fun q hq => by
        rcases List.mem_append.mp hq with hq | hq
        · rcases List.mem_append.mp hq with hq | hq
          · exact (g.ln q hq).1.1
          · rw [List.mem_singleton.mp hq]; exact hb.ln.1
        · exact (hl q hq).1.1
      have h2 : ("\n" : Str).length = 1 := by decide +kernel
      rw [h2]
      omega
  refine sc_if (tc_eqS (ec_len (ac_cons (ec_var 1 rfl (ac_nil ⟨_, _, rfl, rfl, ec_int ⟨_, rfl, ?_⟩⟩))) b.len))
  cases es with
  | nil =>
    refine ⟨fun _ => ?_, (fun z => nomatch z)⟩
    refine sc_set 1 ?_ nd
    refine ec_lst ?_
    refine ac_cons ?_
    refine ec_tup ?_
    refine ac_cons ?_
    refine ec_str ?_
    refine ac_cons ?_
    refine ec_int ?_
    refine ac_nil ?_
    refine ⟨by show 2 ≤ 100000; omega, ?_⟩
    refine ac_nil ?_
    refine ⟨by show 1 ≤ 100000; omega, sc_nil ?_⟩
    exact rest [.tick 0] (fun e he => by rw [List.mem_singleton.mp he]; show NB 0; unfold NB; decide) (by simp) (by simp)
  | cons e0 es =>
    have e : decide ((((e0 :: es).map evD).length : Int) = 0) = false := decide_eq_false (by simp; omega)
    rw [e]
    exact ⟨(fun z => nomatch z), fun _ => sc_nil (rest (e0 :: es) ok l6 (by simp))⟩
  , m_spr⟩
end
end T34
namespace T34
open PySem PySem.Spec PyProof PyProof.Rows L2 Evl AL
/-! ### law -/
def S_law (ds : List D) (Ψ : D → Prop) : Prop := ∃ ns : List Int, ds = [.klst (iL ns)] ∧ ns.length ≤ 63 ∧ Ψ (.bl true)
theorem evT_good {e : Ev} (ok : EvOk e) : GoodL (evW e) (evT e) := by
  have hw := evW_wc ok
  have h2 := evW_two e
  refine ⟨ln_of (join_ln (y := " ") tl_sp (by decide) (evW_six e) hw) (by omega), ?_, wIn_join (evW_ne e) hw⟩
  have w00 := w0_wc ok
  match hv : evW e, evW_ne e with
  | v :: vs, _ =>
    have e0 : w0 (evW e) = v := by rw [hv]; rfl
    rw [e0] at w00
    obtain ⟨R, eR⟩ := joinL_ne (S := [32]) w00.1 (vs.map TL.tl)
    exact bare_hd (w := v) ⟨w00.1, fun c hc => (w00.2.2 c hc).1⟩ 0 (R := R) (by
      show TL.tl (Txt.join " " (evW e)) = _
      rw [hv, tl_joinT, tl_sp]
      exact eR)
theorem gd_plain {es : List Ev} (ok : ∀ e ∈ es, EvOk e) : Gd (es.map evT) es := by
  have : ∀ n, Gd ((es.take n).map evT) (es.take n) := fun n => by
    induction n with
    | zero => exact gd_nil
    | succ n ih =>
      cases he : es[n]? with
      | none => rw [List.take_add_one, he]; simpa using ih
      | some e =>
        rw [List.take_add_one, he, Option.toList_some, List.map_append]
        exact ih.good (evT_good (ok e (List.mem_of_getElem? he)))
  have h := this es.length
  rw [List.take_length] at h
  exact h
def sixL : List Str := ["hand 0 1 by 2", "begin", "hand 0 1 to", "tick", "begin 0 read 1", "rise 0"]
theorem six_bad : ∀ L ∈ sixL, BadL L := by
  have h : sixL.all badB = true := by decide +kernel
  intro L hL
  exact bad_b (List.all_eq_true.mp h L hL)
theorem tick0 : evT (.tick 0) = "tick 0" := by decide +kernel
theorem six_rf {L : Str} (h : L ∈ sixL) : Rf ["tick 0"] [] L [.tick 0] := by
  refine ⟨?_, fun e he => ?_, six_bad L h, (fun z hz => nomatch hz), by simp⟩
  · have := gd_plain (es := [.tick 0]) (fun e he => by rw [List.mem_singleton.mp he]; show NB 0; unfold NB; decide)
    rw [List.map_singleton, tick0] at this
    exact this
  · rw [List.mem_singleton.mp he]; show NB 0; unfold NB; decide
theorem six_txt (L : Str) : ("tick 0\n" : Str) ++ L = Txt.join "\n" ((["tick 0"] : List Str) ++ [L] ++ []) := by
  refine TL.ext_tl ?_
  rw [tl_joinT, tl_nl, TL.tl_append]
  have : TL.tl ("tick 0\n" : Str) = TL.tl ("tick 0" : Str) ++ [10] := by decide +kernel
  rw [this]
  show _ = TL.tl "tick 0" ++ ([10] ++ TL.tl L)
  simp
def ev1 : Ev → Int
  | .tick h => h | .fall h => h | .wake h => h | .hush a _ => a | .hand a _ _ => a | .begin h _ => h
theorem ev_at (e : Ev) : atI (evL e) 0 = some (.str (w0 (evW e))) ∧ atI (evL e) 1 = some (.int (ev1 e)) ∧ (w0 (evW e) ≠ "hand" → ev1 e = (evH e : Int)) ∧ (w0 (evW e) = "hand" → atI (evL e) 3 = some (.int (evH e : Int))) := by
  have no : ∀ k : Str, decide (k = "hand") = false → k = "hand" → ∀ P : Prop, P := fun k a b => absurd b (of_decide_eq_false a)
  cases e with
  | tick h => exact ⟨rfl, rfl, fun _ => rfl, fun z => no "tick" (by decide +kernel) z _⟩
  | fall h => exact ⟨rfl, rfl, fun _ => rfl, fun z => no "fall" (by decide +kernel) z _⟩
  | wake h => exact ⟨rfl, rfl, fun _ => rfl, fun z => no "wake" (by decide +kernel) z _⟩
  | hush a c => exact ⟨rfl, rfl, fun _ => rfl, fun z => no "hush" (by decide +kernel) z _⟩
  | hand a n c => exact ⟨rfl, rfl, fun z => absurd rfl z, fun _ => rfl⟩
  | begin h d => exact ⟨rfl, rfl, fun _ => rfl, fun z => no "begin" (by decide +kernel) z _⟩
section
variable {P : Program} {w : World} {K : PySem.W.Frag} {mg : Str → Option Value} {base : Heap} {f BT BN LE : Addr} {fd : FuncData}
abbrev NLaw : List Str := ["script", "pool", "events", "lines", "text", "loose", "at", "told", "due", "house", "line", "k", "event"]
theorem ok_law (F : FunN K "law" s_law f fd) (b : Blt mg) (hstr : mg "str" = none) (cP : KR P w K mg base "_law_pool" 1 1 S_pool) (cT : KO P w K mg base "_law_take" 1 1 S_take) (cE : KO P w K mg base "_law_event" 5 0 S_lev) (cW : KF P w K mg base "_law_words" 1 1 S_lwd)
    (cX : KF P w K mg base "schedule_text" 2 1 S_sct) (cB : KF P w K mg base "_law_back" 7 2 S_bck) (cS : KO P w K mg base "_law_skipped" 2 0 S_skp) (cL : KO P w K mg base "_law_loose" 2 1 S_loo) (cV : KF P w K mg base "event_text" 1 1 S_evt) (cH : KF P w K mg base "house_of_event" 1 1 S_hoe)
    (cI : KF P w K mg base "_law_int" 1 1 S_is_number) (cR : KF P w K mg base "_law_refused" 7 2 S_rfs) (cQ : KO P w K mg base "_law_spoiled_right" 8 1 S_spr) : FnOk P w K mg base (L2.CX P w) 9 f fd ["script"] (Csp K (PFn 1 S_law)) := by
  have nd : NLaw.Nodup := by decide +kernel
  refine ok_fn F (N := NLaw) (ps := ["script"]) ⟨rfl, rfl, rfl, nd, rfl, by decide +kernel, by decide +kernel⟩ rfl ?_
  rintro cdv A outer s H E hr ds Ψ hl ⟨ns, rfl, hns, hd⟩
  have hr1 := hr.mono (show 1 ≤ 8 by omega)
  have hr2 := hr.mono (show 2 ≤ 8 by omega)
  have hr7 := hr.mono (show 7 ≤ 8 by omega)
  refine sc_own 1 (fc_cr cP.c hr1 (pass_0 passL) cP.m (ac_cons (ec_var 0 rfl (ac_nil ⟨rfl, ns, rfl, hns, fun l0 _ => ?_⟩)))) nd
  intro p
  let Ev0 : List Int → En := fun l => [some (.im (.klst (iL ns))), some (.ow p (.l (iL l))), none, none, none, none, none, none, none, none, none, none, none]
  have bk : ∀ l' l'', BackE (Ev0 l') (Ev0 l'') (Ev0 l'') := fun l' l'' => by
    refine ⟨rfl, fun i d hd => ?_, fun i b o hd => ?_⟩
    · match i, hd with
      | 0, hd => exact hd
      | 1, hd => cases hd
      | i + 2, hd => exact hd
    · match i, hd with
      | 0, hd => cases hd
      | 1, hd => cases hd; exact ⟨rfl, _, rfl⟩
      | i + 2, hd => exact ⟨hd, _, hd⟩
  show SC _ _ _ (Ev0 l0) _

  refine sc_lcR 2 [("k", 11)] [11] ?_ nd (by decide)
  refine ic_range ?_ b.range
  refine ec_ix ?_
  refine ec_lst ?_
  refine ac_cons ?_
  refine ec_int ?_
  refine ac_cons ?_
  refine ec_int ?_
  refine ac_cons ?_
  refine ec_int ?_
  refine ac_cons ?_
  refine ec_int ?_
  refine ac_cons ?_
  refine ec_int ?_
  refine ac_cons ?_
  refine ec_int ?_
  refine ac_cons ?_
  refine ec_int ?_
  refine ac_nil ?_
  refine ⟨by show 7 ≤ 100000; omega, ?_⟩
  refine ec_co 1 rfl cT.c hr1 (pass_0 passL) cT.m (ac_cons (ec_int (ac_nil ⟨_, rfl, rfl, l0, 7, rfl, rfl, by decide, fun r l1 r0 r1 => ?_⟩)))
  obtain ⟨j, rfl⟩ := Int.eq_ofNat_of_zero_le r0
  obtain ⟨n, hg, h6⟩ : ∃ n : Nat, ([D.int 3, D.int 0, D.int 1, D.int 2, D.int 4, D.int 5, D.int 6] : List D)[j]? = some (natD n) ∧ n ≤ 6 := by
    have hj : j < 7 := by omega
    match j, hj with
    | 0, _ => exact ⟨3, rfl, by decide⟩
    | 1, _ => exact ⟨0, rfl, by decide⟩
    | 2, _ => exact ⟨1, rfl, by decide⟩
    | 3, _ => exact ⟨2, rfl, by decide⟩
    | 4, _ => exact ⟨4, rfl, by decide⟩
    | 5, _ => exact ⟨5, rfl, by decide⟩
    | 6, _ => exact ⟨6, rfl, by decide⟩
  refine ⟨_, _, natD n, rfl, rfl, atI_nat hg, n, rfl, by omega, by omega, ?_⟩
  have lr : (rngD 0 (n : Int).toNat).length = n := by unfold rngD; rw [List.length_map, List.length_range, Int.toNat_natCast]
  refine ⟨fun i out ρi => ∃ (l' : List Int) (es : List Ev), out = es.map evD ∧ es.length = i ∧ (∀ e ∈ es, EvOk e) ∧ ρi = Ev0 l', ⟨l1, [], rfl, rfl, (fun c hc => nomatch hc), rfl⟩, ?_, ?_, ?_⟩
  · rintro i out ρi hi ⟨l', es, rfl, rfl, _, rfl⟩
    rw [List.length_map]; rw [lr] at hi; omega
  · rintro i d out ρi hid ⟨l', es, rfl, rfl, hz, rfl⟩
    intro s3 H3 C3 cl3 fp3
    refine gt_name 11 ?_ nd
    intro s4 H4 C4 cl4 fp4
    refine ec_co 1 rfl cE.c (hr.mono (by omega)) (pass_0 passL) cE.m (ac_nil ⟨_, rfl, rfl, l', rfl, rfl, fun e l2 ok => ?_⟩)
    refine ⟨l2, es ++ [e], by rw [List.map_append]; rfl, by simp, fun z h => ?_, rfl⟩
    rcases List.mem_append.mp h with h | h
    · exact hz z h
    · rw [List.mem_singleton.mp h]; exact ok
  rintro out ρ' ⟨l2, es, rfl, hlen, ok, rfl⟩
  rw [lr] at hlen
  refine ⟨Ev0 l2, bk l1 l2, fun p2 => ?_⟩
  refine sc_frz 2 rfl ?_
  have l6 : es.length ≤ 6 := by omega
  have lm : (es.map evD).length = es.length := List.length_map ..
  let St : List Int → D → D → D → Option Sl → Option D → Option D → Option D → Option D → Option D → En := fun l ls tx es5 lo a t d h x => [some (.im (.klst (iL ns))), some (.ow p (.l (iL l))), some (.im es5), some (.im ls), some (.im tx), lo, a.map .im, t.map .im, d.map .im, h.map .im, x.map .im, none, none]
  let eD : D := .lst (es.map evD)
  let lD : D := .lst (strsD (es.map evT))
  let text : Str := Txt.join "\n" (es.map evT)
  have jl : ∀ vs : List Str, (∀ v ∈ vs, v.length ≤ 900) → vs.length ≤ 100 → (vs.map (·.length)).sum + vs.length * ("\n" : Str).length ≤ 16777216 := fun vs h1 h2 => by
    have h3 := sum_len h1
    have h4 : ("\n" : Str).length = 1 := by decide +kernel
    rw [h4]
    omega
  refine sc_M 3 es evD (fun e => .str (evT e)) [("event", 12)] [12] (ic_list (ec_var 2 rfl ⟨_, rfl, rfl, by omega, rfl, fun e he => ?_, fun p3 => ?_⟩)) nd (by decide)
  · intro s3 H3 C3 cl3 fp3
    refine gt_name 12 ?_ nd
    intro s4 H4 C4 cl4 fp4
    refine ec_join (ec_str ⟨_, rfl, ec_cf cW.c hr1 (pass_0 passL) cW.m (ac_cons (ec_var 12 rfl (ac_nil ⟨rfl, e, rfl, ok e he, evW e, .inl rfl, ?_, rfl, rfl⟩)))⟩)
    exact Nat.le_trans (evW_sum e (ok e he) (fun _ h => h) (evW_six e) len_sp) (by omega)
  refine sc_frz 3 rfl ?_
  refine sc_set 4 (ec_cf cX.c hr2 (pass_0 passL) cX.m (ac_cons (ec_cty call_list_of boot_list b.list (ac_cons (ec_var 2 rfl (ac_nil ⟨_, gb_list rfl, ?_⟩)))))) nd
  rintro d rfl
  refine ac_nil ⟨rfl, es, rfl, by omega, ok, ?_⟩
  have eL : es.map (fun e => (.str (evT e) : D)) = strsD (es.map evT) := by unfold strsD; rw [List.map_map]; rfl
  rw [eL]
  show SC _ _ _ (St l2 lD (.str text) eD none none none none none none) _
  refine sc_if (tc_w (wc_or (tc_not (tc_val (ec_isi kit_strD rfl (ec_var 4 rfl ⟨rfl, _, rfl, ?_⟩) b.isi hstr)))))
  refine ⟨fun _ => wc_or (tc_neS (ec_var 4 rfl (ec_join (ec_str ⟨_, rfl, ec_var 3 rfl ⟨es.map evT, .inl rfl, jl _ ?_ ?_, true, ?_, ?_⟩⟩)))), (fun z => nomatch z)⟩
  · intro v hv
    obtain ⟨e, he, rfl⟩ := List.mem_map.mp hv
    have := evT_len (ok e he); omega
  · rw [List.length_map]; omega
  · show some (decide (text = text)) = _; simp
  refine ⟨fun _ => wc_or1 (tc_not (tc_val (ec_cf cB.c hr7 (pass_0 passL) cB.m (ac_cons (ec_var 4 rfl (ac_cons (ec_var 2 rfl (ac_nil ⟨rfl, es.map evT, es, rfl, gd_plain ok, ok, by rw [List.length_map]; omega, by omega, _, rfl, ?_⟩)))))))), (fun z => nomatch z)⟩
  refine ⟨(fun z => nomatch z), fun _ => sc_nil ?_⟩
  show SC _ _ _ (St l2 lD (.str text) eD none none none none none none) _
  refine sc_own 5 (fc_lst (ac_nil ⟨Nat.zero_le _, ?_⟩)) nd
  intro p5
  refine sc_for (js := [6]) (ic_range (ec_len (ac_cons (ec_var 2 rfl (ac_nil ⟨_, _, rfl, rfl, es.length, by rw [lm], by omega, by omega, ?_⟩))) b.len) b.range) (passes_of rfl)
  refine ⟨fun i ρ' => ∃ (l : List Int) (q : Addr) (ys : List Str) (a t d h : Option D), ρ' = St l lD (.str text) eD (some (.ow q (.l (strsD ys)))) a t d h none ∧ Gd ys (es.take i) ∧ ys.length ≤ 3 * i, ⟨l2, p5, [], none, none, none, none, rfl, by simpa using gd_nil, by simp⟩, ?_, ?_⟩
  · rintro i d ρi hi ⟨l3, q, ys, a1, t1, d1, h1, rfl, g, n3⟩
    obtain ⟨hlt, rfl⟩ := rng_nat (n := es.length) hi
    obtain ⟨e, he⟩ : ∃ e, es[i]? = some e := ⟨_, List.getElem?_eq_getElem hlt⟩
    have oke := ok e (List.mem_of_getElem? he)
    have at_ : atI (es.map evD) (i : Int) = some (evD e) := atI_nat (by rw [List.getElem?_map, he]; rfl)
    have atL : atI (strsD (es.map evT)) (i : Int) = some (.str (evT e)) := atI_nat (by unfold strsD; rw [List.getElem?_map, List.getElem?_map, he]; rfl)
    have et : es.take (i + 1) = es.take i ++ [e] := by rw [List.take_add_one, he]; rfl
    obtain ⟨g0, g1, g2, g3⟩ := ev_at e
    refine gt_name 6 ?_ nd
    refine sc_own 5 (fc_cat (ec_frz 5 rfl (ec_co 1 rfl cS.c hr2 (pass_0 passL) cS.m (ac_nil ⟨_, rfl, rfl, l3, rfl, rfl, fun zs l4 hz z2 => ⟨_, _, rfl, rfl, by rw [strs_len, strs_len]; omega, ?_⟩⟩)))) nd
    intro q2
    have e1 : strsD ys ++ strsD zs = strsD (ys ++ zs) := by unfold strsD; rw [List.map_append]
    rw [e1]
    have l20 : (ys ++ zs).length ≤ 40 := by rw [List.length_append]; omega
    show SC _ _ _ (St l4 lD (.str text) eD (some (.ow q2 (.l (strsD (ys ++ zs))))) (some (natD i)) t1 d1 h1 none) _
    refine sc_app 5 rfl (ec_co 1 rfl cL.c hr2 (pass_0 passL) cL.m (ac_cons (ec_cf cW.c hr1 (pass_0 passL) cW.m (ac_cons (ec_ix (ec_var 2 rfl (ec_var 6 rfl ⟨_, _, evD e, rfl, rfl, at_, ac_nil ⟨rfl, e, rfl, oke, ac_nil ⟨_, rfl, rfl, l4, evW e, rfl, rfl, evW_ne e, evW_six e, evW_wc oke, fun L l5 gl => ?_⟩⟩⟩)))))))
    refine ⟨_, rfl, by rw [strs_len]; omega, ?_⟩
    rw [strs_snoc]
    have gd2 : Gd (ys ++ zs ++ [L]) (es.take (i + 1)) := by rw [et]; exact (g.skips hz).good gl
    show SC _ _ _ (St l5 lD (.str text) eD (some (.ow q2 (.l (strsD (ys ++ zs ++ [L]))))) (some (natD i)) t1 d1 h1 none) _
    refine sc_set 7 (ec_cf cV.c hr1 (pass_0 passL) cV.m (ac_cons (ec_ix (ec_var 2 rfl (ec_var 6 rfl ⟨_, _, evD e, rfl, rfl, at_, ac_nil ⟨rfl, e, rfl, oke, ?_⟩⟩))))) nd
    refine sc_set 8 (ec_ix (ec_ix (ec_var 2 rfl (ec_var 6 rfl ⟨_, _, evD e, rfl, rfl, at_, ec_int ⟨evL e, 1, .int (ev1 e), by rw [evD_L]; rfl, rfl, g1, ?_⟩⟩)))) nd
    show SC _ _ _ (St l5 lD (.str text) eD (some (.ow q2 (.l (strsD (ys ++ zs ++ [L]))))) (some (natD i)) (some (.str (evT e))) (some (.int (ev1 e))) h1 none) _
    refine sc_if (tc_eqS (ec_ix (ec_ix (ec_var 2 rfl (ec_var 6 rfl ⟨_, _, evD e, rfl, rfl, at_, ec_int ⟨evL e, 0, .str (w0 (evW e)), by rw [evD_L]; rfl, rfl, g0, ec_str ⟨decide (w0 (evW e) = "hand"), rfl, ?_⟩⟩⟩)))))
    by_cases hk : w0 (evW e) = "hand"
    · rw [decide_eq_true hk]
      refine ⟨fun _ => ?_, (fun z => nomatch z)⟩
      refine sc_set 8 (ec_ix (ec_ix (ec_var 2 rfl (ec_var 6 rfl ⟨_, _, evD e, rfl, rfl, at_, ec_int ⟨evL e, 3, .int (evH e : Int), by rw [evD_L]; rfl, rfl, g3 hk, sc_nil ?_⟩⟩)))) nd
      show SC _ _ _ (St l5 lD (.str text) eD (some (.ow q2 (.l (strsD (ys ++ zs ++ [L]))))) (some (natD i)) (some (.str (evT e))) (some (.int (evH e : Int))) h1 none) _
      refine sc_set 9 (ec_cf cH.c hr1 (pass_0 passL) cH.m (ac_cons (ec_ix (ec_var 2 rfl (ec_var 6 rfl ⟨_, _, evD e, rfl, rfl, at_, ac_nil ⟨rfl, e, rfl, ?_⟩⟩))))) nd
      show SC _ _ _ (St l5 lD (.str text) eD (some (.ow q2 (.l (strsD (ys ++ zs ++ [L]))))) (some (natD i)) (some (.str (evT e))) (some (.int (evH e : Int))) (some (.int (evH e : Int))) none) _
      refine sc_if (tc_w (wc_or (tc_not (tc_val (ec_isi kit_strD rfl (ec_var 7 rfl ⟨rfl, _, rfl, ?_⟩) b.isi hstr)))))
      refine ⟨fun _ => wc_or (tc_neS (ec_var 7 rfl (ec_ix (ec_var 3 rfl (ec_var 6 rfl ⟨_, _, .str (evT e), rfl, rfl, atL, true, by show some (decide _) = _; simp, ?_⟩))))), (fun z => nomatch z)⟩
      refine ⟨fun _ => wc_or (tc_not (tc_val (ec_cf cI.c hr1 (pass_0 passL) cI.m (ac_cons (ec_var 9 rfl (ac_nil ⟨rfl, _, rfl, rfl, _, rfl, ?_⟩)))))), (fun z => nomatch z)⟩
      refine ⟨fun _ => wc_or1 (tc_neS (ec_var 9 rfl (ec_var 8 rfl ⟨true, by show some (decide _) = _; simp, ?_⟩))), (fun z => nomatch z)⟩
      exact ⟨(fun z => nomatch z), fun _ => sc_nil (sc_nil ⟨l5, q2, ys ++ zs ++ [L], some (natD i), some (.str (evT e)), some (.int (evH e : Int)), some (.int (evH e : Int)), rfl, gd2, by simp only [List.length_append, List.length_singleton]; omega⟩)⟩
    · rw [decide_eq_false hk, g2 hk]
      refine ⟨(fun z => nomatch z), fun _ => sc_nil ?_⟩
      show SC _ _ _ (St l5 lD (.str text) eD (some (.ow q2 (.l (strsD (ys ++ zs ++ [L]))))) (some (natD i)) (some (.str (evT e))) (some (.int (evH e : Int))) h1 none) _
      refine sc_set 9 (ec_cf cH.c hr1 (pass_0 passL) cH.m (ac_cons (ec_ix (ec_var 2 rfl (ec_var 6 rfl ⟨_, _, evD e, rfl, rfl, at_, ac_nil ⟨rfl, e, rfl, ?_⟩⟩))))) nd
      show SC _ _ _ (St l5 lD (.str text) eD (some (.ow q2 (.l (strsD (ys ++ zs ++ [L]))))) (some (natD i)) (some (.str (evT e))) (some (.int (evH e : Int))) (some (.int (evH e : Int))) none) _
      refine sc_if (tc_w (wc_or (tc_not (tc_val (ec_isi kit_strD rfl (ec_var 7 rfl ⟨rfl, _, rfl, ?_⟩) b.isi hstr)))))
      refine ⟨fun _ => wc_or (tc_neS (ec_var 7 rfl (ec_ix (ec_var 3 rfl (ec_var 6 rfl ⟨_, _, .str (evT e), rfl, rfl, atL, true, by show some (decide _) = _; simp, ?_⟩))))), (fun z => nomatch z)⟩
      refine ⟨fun _ => wc_or (tc_not (tc_val (ec_cf cI.c hr1 (pass_0 passL) cI.m (ac_cons (ec_var 9 rfl (ac_nil ⟨rfl, _, rfl, rfl, _, rfl, ?_⟩)))))), (fun z => nomatch z)⟩
      refine ⟨fun _ => wc_or1 (tc_neS (ec_var 9 rfl (ec_var 8 rfl ⟨true, by show some (decide _) = _; simp, ?_⟩))), (fun z => nomatch z)⟩
      exact ⟨(fun z => nomatch z), fun _ => sc_nil (sc_nil ⟨l5, q2, ys ++ zs ++ [L], some (natD i), some (.str (evT e)), some (.int (evH e : Int)), some (.int (evH e : Int)), rfl, gd2, by simp only [List.length_append, List.length_singleton]; omega⟩)⟩
  · rintro ρ' ⟨l3, q, ys, a1, t1, d1, h1, rfl, g, n3⟩
    have el : (rngD 0 ((es.length : Int)).toNat).length = es.length := by unfold rngD; rw [List.length_map, List.length_range, Int.toNat_natCast]
    rw [el] at g n3
    rw [List.take_length] at g
    refine sc_own 5 (fc_cat (ec_frz 5 rfl (ec_co 1 rfl cS.c hr2 (pass_0 passL) cS.m (ac_nil ⟨_, rfl, rfl, l3, rfl, rfl, fun zs l4 hz z2 => ⟨_, _, rfl, rfl, by rw [strs_len, strs_len]; omega, ?_⟩⟩)))) nd
    intro q2
    have e1 : strsD ys ++ strsD zs = strsD (ys ++ zs) := by unfold strsD; rw [List.map_append]
    rw [e1]
    have l20 : (ys ++ zs).length ≤ 40 := by rw [List.length_append]; omega
    have gd2 : Gd (ys ++ zs) es := g.skips hz
    show SC _ _ _ (St l4 lD (.str text) eD (some (.ow q2 (.l (strsD (ys ++ zs))))) a1 t1 d1 h1 none) _
    refine sc_for (js := [10]) ?_ (passes_of rfl)
    refine ic_tup ?_
    refine ec_tup ?_
    refine ac_cons ?_
    refine ec_str ?_
    refine ac_cons ?_
    refine ec_str ?_
    refine ac_cons ?_
    refine ec_str ?_
    refine ac_cons ?_
    refine ec_str ?_
    refine ac_cons ?_
    refine ec_str ?_
    refine ac_cons ?_
    refine ec_str ?_
    refine ac_nil ?_
    refine ⟨by show 6 ≤ 100000; omega, strsD sixL, rfl, ?_⟩
    refine ⟨fun i ρ' => ∃ x : Option D, ρ' = St l4 lD (.str text) eD (some (.ow q2 (.l (strsD (ys ++ zs))))) a1 t1 d1 h1 x, ⟨none, rfl⟩, ?_, ?_⟩
    · rintro i d ρi hi ⟨x, rfl⟩
      unfold strsD at hi
      rw [List.getElem?_map] at hi
      obtain ⟨L, hL, rfl⟩ := Option.map_eq_some_iff.mp hi
      have hm6 := List.mem_of_getElem? hL
      have bl := (six_bad L hm6).ln.1
      have l7 : ("tick 0\n" : Str).length = 7 := by decide +kernel
      refine gt_name 10 ?_ nd
      refine sc_if (tc_not (tc_val (ec_cf cR.c hr7 (pass_0 passL) cR.m (ac_cons (ec_addS (ec_str (ec_var 10 rfl ⟨_, L, rfl, rfl, by rw [l7, sizeLine_eq]; omega, ac_cons (ec_int (ac_nil ⟨rfl, ["tick 0"], [], L, [.tick 0], ?_, six_rf hm6, _, rfl, ?_⟩))⟩)))))))
      · rw [six_txt]; rfl
      · exact ⟨(fun z => nomatch z), fun _ => sc_nil (sc_nil ⟨some (.str L), rfl⟩)⟩
    · rintro ρ' ⟨x, rfl⟩
      refine sc_ret (ec_and (ec_cf cB.c hr7 (pass_0 passL) cB.m (ac_cons (ec_join (ec_str ⟨_, rfl, ec_frz 5 rfl ⟨ys ++ zs, .inl rfl, jl _ (fun v hv => (gd2.ln v hv).1.1) (by omega), ac_cons (ec_var 2 rfl (ac_nil ⟨rfl, ys ++ zs, es, rfl, gd2, ok, by omega, by omega, true, rfl, fun _ => ?_, (fun z => nomatch z)⟩))⟩⟩)))))
      exact ec_one (ec_co 1 rfl cQ.c hr (pass_0 passL) cQ.m (ac_cons (ec_var 2 rfl (ac_nil ⟨_, rfl, rfl, l4, es, rfl, rfl, ok, l6, fun l5 => hd⟩))))
end
end T34
namespace T34
open PySem PySem.Spec PyProof.Rows L2 Evl AL
/-! ### the dict DEEDS -/
theorem reps_str {K : PySem.W.Frag} {B : Hp} : ∀ xs : List Str, Reps K B (xs.map V.str) (strsD xs)
  | [] => .nil
  | x :: r => .cons (.str x) (reps_str r)
theorem kindAt_ok {P : Params} {K : PySem.W.Frag} {dd : Addr} (h : He.dicW K dd = some (He.keysIn P ["get", "put", "look", "tour", "propose", "add_if", "move"]))
    (t : AH.tabB K dd [("get", ["place"]), ("put", ["place", "value"]), ("look", []), ("tour", ["value"]), ("propose", ["value"]), ("add_if", ["place", "value", "value"]), ("move", ["place"])] = true) (z : Str) : KindAt K dd z := by
  have yes : ∀ ks, (z, ks) ∈ ([("get", ["place"]), ("put", ["place", "value"]), ("look", []), ("tour", ["value"]), ("propose", ["value"]), ("add_if", ["place", "value", "value"]), ("move", ["place"])] : List (Str × List Str)) → ∃ (u0 : Value) (v0 : V), PySem.W.nsIn K dd z = some (some u0) ∧ RelV v0 u0 ∧ ∀ B : Hp, Rep K B v0 (.ktup (strsD ks)) := fun ks hm => by
    obtain ⟨a, e, q⟩ := AH.tabB_ok t hm
    exact ⟨.ref a, .ref a, e, rfl, fun B => .ktup (q B) (reps_str ks)⟩
  unfold KindAt kindsOf
  by_cases h1 : z = "get"
  · subst h1; exact yes _ (by simp [kP])
  by_cases h2 : z = "put"
  · subst h2; exact yes _ (by simp [kP, kV])
  by_cases h3 : z = "look"
  · subst h3; exact yes _ (by simp)
  by_cases h4 : z = "tour"
  · subst h4; exact yes _ (by simp [kV])
  by_cases h5 : z = "propose"
  · subst h5; exact yes _ (by simp [kV])
  by_cases h6 : z = "add_if"
  · subst h6; exact yes _ (by simp [kP, kV])
  by_cases h7 : z = "move"
  · subst h7; exact yes _ (by simp [kP])
  rw [if_neg h1, if_neg h2, if_neg h3, if_neg h4, if_neg h5, if_neg h6, if_neg h7]
  exact AH.nsIn_no h (by simp [h1, h2, h3, h4, h5, h6, h7])
end T34
/-! Errors of two fields, first and other. -/
namespace AX
open PySem PySem.W PySem.Calls PyProof.Rows
def iA2 (p1 p2 p3 : Pos) : Arguments := { posonlyargs := [], args := [{ arg := "self", annotation := none, pos := p1 }, { arg := "first", annotation := none, pos := p2 }, { arg := "other", annotation := none, pos := p3 }], vararg := none, kwonlyargs := [], kw_defaults := [], kwarg := none, defaults := [] }
def iB2 (q1 q2 q3 q4 r1 r2 r3 r4 : Pos) : List Stmt := [.Assign [.Attribute (.Name "self" q1) "first" q2] (.Name "first" q3) q4, .Assign [.Attribute (.Name "self" r1) "other" r2] (.Name "other" r3) r4]
def iS2 : Scope := { kind := .function, names := [(PySem.Str.ofString "self", .local), ("first", .local), ("other", .local)], isGenerator := false, isCoroutine := false, more := [] }
structure Ini2 (K : Frag) (fI : Addr) (q : Str) : Prop where
  fn : ∃ (oc : Value) (od : Option Addr) (doc pm : Value) (an : Option Addr) (cdv ct : Value) (osl : Array (Option Value)) (p1 p2 p3 q1 q2 q3 q4 r1 r2 r3 r4 : Pos),
    K.lookup fI = some ⟨oc, od, .func (fnOf "__init__" q (iA2 p1 p2 p3) (iB2 q1 q2 q3 q4 r1 r2 r3 r4) iS2 .none .none doc pm an cdv ct), osl⟩ ∧ codeIn K cdv q = true
section
variable {prog : Program} {w : World} {A : Around} {E : Value → Shared → Prop} {R : Result → Shared → Prop} {s : Shared} {K : Frag} {C fI : Addr} {q f : Str}
theorem store2 (T : Cls1 K C fI f) {x t0 dx : Addr} {v : Value} {tk : Tok} {m0 : Str → Option Value} {nl : List Str} (X : K.In s.heap) (hx : s.heap.get? x = some (excObj C t0 (some dx) .none)) (hne : dx ≠ x) (hns : s.heap.Ns1 dx m0) (hw : Within m0 nl) (hz : nl.length ≤ 1000)
    (hq : ∀ h' tk', (∀ b o, b ≠ dx → s.heap.get? b = some o → h'.get? b = some o) → h'.Ns1 dx (fun y => if y = f then some v else m0 y) → R (.ok (.ret .none)) { s with heap := h', toks := tk' }) :
    codeAny (model prog w) A (.call (.builtin "object.__setattr__") ⟨[.ref x, .str f tk, v], []⟩) R s := by
  obtain ⟨oD, esD, epD, hoD, hdD, _⟩ := hns.count hw
  refine osa_openX (od := some oD) F.store_Exception X ⟨hx, rfl, rfl, hoD⟩ T.xo T.tk fun b => ?_
  obtain ⟨⟨nm, bs, mro, ns, qn, dct, sn, sb, ab, col, del⟩, hc, hdd⟩ := any_some T.hd
  have cl : Looks (model prog w) s.heap (classData C) _ := looks_clsIn X hc
  dsimp only at hdd
  subst hdd
  obtain ⟨hp, g, d, tt, os⟩ := s
  unfold Builtin.ObjectAttr.storeInOwnDict Builtin.ObjectAttr.ownDictForStores
  repeat (first | with_reducible refine OEX.store_in_old hns hw hz ?_ | with_reducible refine wpAny_loadPart_at hx ?_ | with_reducible refine cl.at ?_ | wp_step)
  exact fun h' tk' hn' hs => hq h' tk' (fun b o hb ho => (hs.2 b hb).trans ho) hn'
structure End2 (h h' : Heap) (x C dx t1 : Addr) (v u : Value) : Prop where
  keep : ∀ b o, b ≠ x → h.get? b = some o → h'.get? b = some o
  obj : h'.get? x = some { cls := .ref C, dict := some dx, data := .fields #[.ref t1, .none, .none, .none, .bool false, .none] }
  dbig : h.objs.size ≤ dx
  dne : dx ≠ x
  ns : h'.Ns1 dx (fun y => if y = "other" then some u else if y = "first" then some v else none)
structure Made2 (h h' : Heap) (e C d : Addr) (v u : Value) : Prop where
  keep : ∀ b o, h.get? b = some o → h'.get? b = some o
  new : h.objs.size ≤ e
  obj : ∃ oe vs, h'.get? e = some oe ∧ oe.cls = .ref C ∧ oe.dict = some d ∧ oe.data = .fields vs ∧ vs[1]? = some .none
  dbig : h.objs.size ≤ d
  dne : d ≠ e
  ns : h'.Ns1 d (fun y => if y = "other" then some u else if y = "first" then some v else none)
theorem init2 (T : Cls1 K C fI "first") (T2 : Cls1 K C fI "other") (I : Ini2 K fI q) {x t0 : Addr} {v u : Value} (X : K.In s.heap) (hlim : s.heap.NoLimit) (hx : s.heap.get? x = some (excObj C t0 none .none)) (hk : K.lookup x = none) (hroom : A.depth < recursionLimit)
    (hq : ∀ h' tk dx, End2 s.heap h' x C dx t0 v u → R (.ok (.ret .none)) { s with heap := h', toks := tk }) :
    codeAny (model prog w) A (.call (.ref fI) ⟨[.ref x, v, u], []⟩) R s := by
  obtain ⟨oc, od, doc, pm, an, cdv, ct, osl, p1, p2, p3, q1, q2, q3, q4, r1, r2, r3, r4, ho, hcd⟩ := I.fn
  refine Att.call_fn (binds := [("self", .ref x), ("first", v), ("other", u)]) X hlim ho hcd hroom (BindsTo.of_eq (by first | rfl | with_unfolding_all rfl)) (by first | rfl | decide | with_unfolding_all rfl) (fun s1 IC => ?_) rfl rfl rfl
  obtain ⟨h1, tk1, rfl⟩ := IC.toInCall.same
  have k : ∀ b o, s.heap.get? b = some o → h1.get? b = some o := IC.toInCall.keep
  have hn := IC.toInCall.ns
  have X1 : K.In h1 := X.keeps k
  have hx1 := k _ _ hx
  have z : s.heap.objs.size < h1.objs.size := hn.lt
  have xl : x < s.heap.objs.size := Heap.lt_size hx
  show wpAny _ _ (execs _ _) _ _ _
  refine wpAny_execs_cons (plainObj_wpAny_Assign_Attribute ?_)
  refine loc1 (v := v) hn (by first | rfl | with_unfolding_all rfl | kernel_rfl) (loc1 (v := .ref x) hn (by first | rfl | with_unfolding_all rfl | kernel_rfl) ?_ rfl rfl (by decide)) rfl rfl (by decide)
  refine set_plain X1 (ox := excObj C t0 none .none) (od := none) ⟨hx1, rfl, rfl, trivial⟩ T.sa ?_
  refine store1 T (s := _) X1 hx1 (fun h3 tk3 dx k3 dn dne hx3 hn3 => ?_)
  show wpAny _ _ (execs _ _) _ _ _
  have old : ∀ b o, b ≠ x → s.heap.get? b = some o → h3.get? b = some o := fun b o hb e => k3 b o hb (k b o e)
  have dn' : h1.objs.size ≤ dx := dn
  have X3 : K.In h3 := fun b o e => k3 b o (fun z => by rw [z, hk] at e; cases e) (X1 b o e)
  have hn' := hn.at fun o e => k3 s.heap.objs.size o (Nat.ne_of_gt xl) e
  obtain ⟨oD, esD, epD, hoD, hdD, _⟩ := hn3.count (ns := ["first"]) (fun y hy => by
    by_cases hf : y = "first"
    · rw [hf]; exact List.mem_singleton.mpr rfl
    · simp [hf] at hy)
  refine wpAny_execs_cons (plainObj_wpAny_Assign_Attribute ?_)
  refine loc1 (v := u) hn' (by first | rfl | with_unfolding_all rfl | kernel_rfl) (loc1 (v := .ref x) hn' (by first | rfl | with_unfolding_all rfl | kernel_rfl) ?_ rfl rfl (by decide)) rfl rfl (by decide)
  refine set_plain X3 (ox := excObj C t0 (some dx) .none) (od := some oD) ⟨hx3, rfl, rfl, hoD⟩ T.sa ?_
  refine store2 T2 (s := _) X3 hx3 dne hn3 (nl := ["first"]) (fun y hy => by
    by_cases hf : y = "first"
    · rw [hf]; exact List.mem_singleton.mpr rfl
    · simp [hf] at hy) (by decide) (fun h4 tk4 k4 hn4 => ?_)
  show wpAny _ _ (execs _ _) _ _ _
  refine wpAny_execs_nil (hq h4 tk4 dx ⟨fun b o hb e => k4 b o (fun z => ?_) (old b o hb e), k4 x _ (Ne.symm dne) hx3, by omega, dne, hn4⟩)
  have l1 : dx < s.heap.objs.size := z ▸ Heap.lt_size e
  omega
theorem made2 (T : Cls1 K C fI "first") (T2 : Cls1 K C fI "other") (I : Ini2 K fI q) {v u : Value} (X : K.In s.heap) (hlim : s.heap.NoLimit) (hroom : A.depth + 1 < recursionLimit)
    (hq : ∀ h' tk e d, Made2 s.heap h' e C d v u → R (.ok (.ret (.ref e))) { s with heap := h', toks := tk }) :
    codeAny (model prog w) A (.call (.ref C) ⟨[v, u], []⟩) R s := by
  obtain ⟨nm, N, qn, bs, bm, hdct, sn, sub, ab, col, dd, k0, k1, k2, k3, k5, hC, hT⟩ := excInit_of X T.xi
  obtain ⟨oI, hoI, hcI⟩ : ∃ oI, s.heap.get? fI = some oI ∧ oI.cls = .type "function" := by
    obtain ⟨o, ho, hc⟩ := Option.map_eq_some_iff.mp (show (K.lookup fI).map (·.cls) = some (.type "function") from beq_iff_eq.mp T.fn)
    exact ⟨o, X _ _ ho, hc⟩
  obtain ⟨hp, g, dr, tk, os⟩ := s
  have hk : K.lookup (hp.objs.size + 1) = none := by
    cases z : K.lookup (hp.objs.size + 1) with
    | none => rfl
    | some o => exact absurd (Heap.lt_size (X _ _ z)) (by show ¬ hp.objs.size + 1 < hp.objs.size; omega)
  have k : ∀ b o, hp.get? b = some o → ((hp.push (excTup [v, u])).push (excObj C hp.objs.size none .none)).get? b = some o := fun b o e => Heap.get?_push_of_some _ (Heap.get?_push_of_some _ e)
  have hget : ((hp.push (excTup [v, u])).push (excObj C hp.objs.size none .none)).get? (hp.objs.size + 1) = some (excObj C hp.objs.size none .none) := by heap_get
  refine PX.call_own F.excBase_Exception hT hC (looks_findIn X T.iC) (fun self => exc_bind hoI hcI self) (by rw [sizeLine_eq]; exact (by decide : 2 ≤ 16777216)) ?_
  refine init2 (s := ⟨(hp.push (excTup [v, u])).push (excObj C hp.objs.size none .none), g, dr, tk, os⟩) T T2 I (X.keeps k) (hlim.keeps k) hget hk ?_ fun h' tk' dx M => ?_
  · show A.depth + 1 < recursionLimit
    exact hroom
  · obtain ⟨k', hx, dn, dne, hns⟩ := M
    have old : ∀ b o, hp.get? b = some o → h'.get? b = some o := fun b o e => k' b o (Nat.ne_of_lt (Nat.lt_succ_of_lt (Heap.lt_size e))) (k b o e)
    have z : hp.objs.size + 1 + 1 ≤ dx := by
      have q := dn
      simp only [Heap.size_push] at q
      exact q
    exact ⟨rfl, hq h' tk' (hp.objs.size + 1) dx ⟨old, Nat.le_succ _, ⟨_, _, hx, rfl, rfl, rfl, rfl⟩, Nat.le_trans (Nat.le_trans (Nat.le_succ _) (Nat.le_succ _)) z, dne, hns⟩⟩
end
end AX
namespace AL
open PySem PySem.Spec PyProof.Rows L2 Evl
def xd2 (v u : V) : HO := .xd [(("first" : Str), v), (("other" : Str), u)]
theorem relO2 {v u : V} {v' u' : Value} (r : RelV v v') (r2 : RelV u u') (g : Str) : RelO (List.lookup g [(("first" : Str), v), (("other" : Str), u)]) (if g = "other" then some u' else if g = "first" then some v' else none) := by
  by_cases ho : g = "other"
  · subst ho
    rw [if_pos rfl, show List.lookup ("other" : Str) [(("first" : Str), v), (("other" : Str), u)] = some u from rfl]
    exact r2
  · rw [if_neg ho]
    by_cases hw : g = "first"
    · subst hw
      rw [if_pos rfl, show List.lookup ("first" : Str) [(("first" : Str), v), (("other" : Str), u)] = some v from rfl]
      exact r
    · rw [if_neg hw]
      have q1 : (g == ("first" : Str)) = false := by simpa using hw
      have q2 : (g == ("other" : Str)) = false := by simpa using ho
      have q3 : List.lookup g [(("first" : Str), v), (("other" : Str), u)] = none := by simp [List.lookup, q1, q2]
      rw [q3]
      trivial
section
variable {X : Cx} {Z : Zx} {C fI : Addr} {q x : Str} {a b : Expr} {ta : TA} {p pos pos2 : Pos} {k : Nat} {ρ : En} {O : Outs} {sts : List Stmt}
def tMk2 (C : Addr) (ta : TA) : L2.St → Hp → XK → Prop := fun σ H Q => ta σ H fun vs H1 => ∃ v u, vs = [v, u] ∧ ∀ d, H1 d = none → Q (.ref C) (some d) (upd H1 d (xd2 v u))
theorem pmk2 (T : AX.Cls1 X.K C fI "first") (T2 : AX.Cls1 X.K C fI "other") (I : AX.Ini2 X.K fI q) (hm : X.mg x = some (.ref C)) (hr : Room k X.A) (ha : PA X [a, b] ta) (hg : Gl X x) (hdb : (x == ("__debug__" : Str)) = false)
    (he : starEach (a :: [b]) X.env = (false, eval a X.env) :: starEach [b] X.env) (hpl : (backTo pos (starEach [b] X.env)).any (·.1) = false) :
    PMk X (.Call (.Name x p) [a, b] [] pos) (tMk2 C ta) := by
  intro pins s σ H Q I0 h
  refine wpAny_Call_Name_kw (ld_glob I0 hg hm ?_ hdb)
  refine PySem.W.callWith_K (h₀ := X.base) I0.ok.mod.kin T.kp (thn (ha.run pos pins s σ H _ I0 h) fun us s1 hh => ?_) he hpl
  obtain ⟨vs, H1, I1, r1, v, u, ev, q1⟩ := hh
  subst ev
  refine ⟨I1.kIn, ?_⟩
  cases r1 with
  | @cons _ v' _ _ rv rn =>
  cases rn with
  | @cons _ u' _ _ ru rn2 =>
    cases rn2
    show wpAny _ _ (call (.ref C) [v', u']) _ _ _
    have hlim := I1.nolimit
    obtain ⟨hp, g, dr, tk, os⟩ := s1
    refine wpAny_call (AX.made2 T T2 I I1.kIn hlim (by have := hr.dp; omega) fun h' tk' e d M => ?_)
    show MkP X pins σ Q (.ref e) ⟨h', g, dr, tk', os⟩
    obtain ⟨oe, fv, hoe, hc, hd, hdat, h1⟩ := M.obj
    have hns := M.ns
    obtain ⟨G', g1, g2⟩ := restrict h' fun b => decide (b ≠ e)
    have gk : ∀ b, b ≠ e → G'.get? b = h'.get? b := fun b hb => g1 b (decide_eq_true hb)
    have ge : G'.get? e = none := g2 e (by simp)
    have old : ∀ b o, hp.get? b = some o → G'.get? b = some o := fun b o q => (gk b (Nat.ne_of_lt (Nat.lt_of_lt_of_le (Heap.lt_size q) M.new))).trans (M.keep b o q)
    have ob : ObjOk X.prog X.w (upd H1 d (xd2 v u)) G' d (xd2 v u) := ⟨_, hns.at (fun o q => (gk d M.dne).trans q), fun f => relO2 rv ru f⟩
    have J : Inv X pins σ (upd H1 d (xd2 v u)) ⟨G', g, dr, tk', os⟩ := I1.laid (t' := tk') old M.dbig ob
    refine ⟨e, oe, fv, ⟨G', g, dr, tk', os⟩, _, .ref C, some d, rfl, J, fun b o q => ?_, ge, hoe, ⟨hc, hd⟩, hdat, h1, ?_, rfl, I1.bare, raises_own T.sub T.ty, q1 d (I1.hok.fresh M.dbig)⟩
    · by_cases hb : b = e
      · have q' : G'.get? b = some o := q
        rw [hb, ge] at q'; cases q'
      · exact (gk b hb).symm.trans q
    · rw [upd_ne (Ne.symm M.dne)]
      exact I1.hok.fresh M.new
/-- raise X(a, b) -/
theorem sc_raise2 (T : AX.Cls1 X.K C fI "first") (T2 : AX.Cls1 X.K C fI "other") (I : AX.Ini2 X.K fI q) (hm : X.mg x = some (.ref C)) (hr : Room k X.A) (tk : Takes X Z.E) (h : AC X Z [a, b] ρ fun ds ρ1 => ∃ d1 d2, ds = [d1, d2] ∧ Z.R C [("first", d1), ("other", d2)] ρ1) (hc : X.calm = true := by rfl) (hg : Gl X x := by rfl) (hdb : (x == ("__debug__" : Str)) = false := by decide)
    (he : starEach (a :: [b]) X.env = (false, eval a X.env) :: starEach [b] X.env := by rfl) (hpl : (backTo pos (starEach [b] X.env)).any (·.1) = false := by rfl) :
    SC X Z (.Raise (some (.Call (.Name x p) [a, b] [] pos)) none pos2 :: sts) ρ O :=
  sc_of (ps_raise hc tk (pmk2 T T2 I hm hr p_wA hg hdb he hpl)) fun B G H σ Dd o z s => h B G H σ o z _ fun ds ρ1 vs B1 H1 ⟨d1, d2, e, h1⟩ e1 o1 r1 => by
    subst e
    cases r1 with
    | cons q1 r2 =>
      cases r2 with
      | cons q2 r3 =>
        cases r3
        refine ⟨_, _, rfl, fun dd hd => ?_⟩
        obtain ⟨e2, of⟩ := o1.grow (u := xd2 _ _) hd
        exact z C _ (some dd) _ _ _ ρ1 h1 (e1.trans e2) of ⟨dd, _, rfl, upd_same, .cons (q1.up e2) (.cons (q2.up e2) .nil)⟩
end
end AL
namespace AH
open PySem PySem.Spec PyProof.Rows L2
/-- the __init__ of an error with the fields first and other -/
theorem ini2_ok {K : PySem.W.Frag} {fI : Addr} {q : Str} {fd : FuncData} {p1 p2 p3 q1 q2 q3 q4 r1 r2 r3 r4 : Pos} (F : FunD K "__init__" q (AX.iA2 p1 p2 p3) (AX.iB2 q1 q2 q3 q4 r1 r2 r3 r4) AX.iS2 [] [] fI fd) (hk : kwB K fI = true) : AX.Ini2 K fI q := by
  obtain ⟨oc, od, dV, kV, doc, pm, an, cdv, ct, osl, rfl, lk, hcd, hd, _⟩ := F.ex
  have e1 : dV = .none := by
    rcases hd with ⟨_, h⟩ | ⟨h, _⟩
    · exact h
    · exact absurd rfl h
  have e2 : kV = .none := by
    unfold kwB at hk
    rw [lk] at hk
    exact beq_iff_eq.mp hk
  subst e1; subst e2
  exact ⟨oc, od, doc, pm, an, cdv, ct, osl, p1, p2, p3, q1, q2, q3, q4, r1, r2, r3, r4, lk, hcd⟩
end AH
namespace T34
open PySem PySem.Spec PyProof.Rows L2 AL
theorem facts {P : Program} {w : World} {K : PySem.W.Frag} {h : Heap} {mg : Str → Option Value} {f : Addr} (X : K.In h) (G : h.Ns mainGlobals mg) (hfa : mg ("law" : Str) = some (.ref f)) (c : He.SaysD fa fn K) (t : xt K = true) (tt : AH.SaysZ tbs w K) :
    ∃ fd : FuncData, (∀ (s : Shared) (v : Value), BindsTo s fd ⟨[v], []⟩ [("script", v)]) ∧ ∀ base : Heap, FnOk P w K mg base (L2.CX P w) 9 f fd ["script"] (Csp K (PFn 1 S_law)) := by
  unfold xt at t
  simp only [Bool.and_eq_true, decide_eq_true_eq] at t
  obtain ⟨tc_BadText, tk_BadText, tx_BadText, te_BadText, to_BadText, tl_BadText, tn_BadText, ty_get, ty_take, tq_bn, t_tab⟩ := t
  obtain ⟨d0, F0⟩ := c.def_ 0 (d := dd "number_in" s_number_in) rfl
  obtain ⟨d1, F1⟩ := c.def_ 1 (d := dd "words_in" s_words_in) rfl
  obtain ⟨d2, F2⟩ := c.def_ 2 (d := dd "counted_lines" s_counted_lines) rfl
  obtain ⟨d3, F3⟩ := c.def_ 3 (d := dd "value_in" s_value_in) rfl
  obtain ⟨d4, F4⟩ := c.def_ 4 (d := dd "plain_in" s_plain_in) rfl
  obtain ⟨d5, F5⟩ := c.def_ 5 (d := dd "hand_in" s_hand_in) rfl
  obtain ⟨d6, F6⟩ := c.def_ 6 (d := dd "event_text" s_event_text) rfl
  obtain ⟨d7, F7⟩ := c.def_ 7 (d := dd "schedule_text" s_schedule_text) rfl
  obtain ⟨d8, F8⟩ := c.def_ 8 (d := dd "house_of_event" s_house_of_event) rfl
  obtain ⟨d9, F9⟩ := c.def_ 9 (d := dd "deed_in" s_deed_in) rfl
  obtain ⟨d10, F10⟩ := c.def_ 10 (d := dd "begin_in" s_begin_in) rfl
  obtain ⟨d11, F11⟩ := c.def_ 11 (d := dd "event_in" s_event_in) rfl
  obtain ⟨d12, F12⟩ := c.def_ 12 (d := dd "schedule_from" s_schedule_from) rfl
  obtain ⟨d13, F13⟩ := c.def_ 13 (d := dd "_law_pool" s__law_pool) rfl
  obtain ⟨d14, F14⟩ := c.def_ 14 (d := dd "_law_take" s__law_take) rfl
  obtain ⟨d15, F15⟩ := c.def_ 15 (d := dd "_law_int" s__law_int) rfl
  obtain ⟨d16, F16⟩ := c.def_ 16 (d := dd "_law_number" s__law_number) rfl
  obtain ⟨d17, F17⟩ := c.def_ 17 (d := dd "_law_value" s__law_value) rfl
  obtain ⟨d18, F18⟩ := c.def_ 18 (d := dd "_law_deed" s__law_deed) rfl
  obtain ⟨d19, F19⟩ := c.def_ 19 (d := dd "_law_event" s__law_event) rfl
  obtain ⟨d20, F20⟩ := c.def_ 20 (d := dd "_law_words" s__law_words) rfl
  obtain ⟨d21, F21⟩ := c.def_ 21 (d := dd "_law_kinds" s__law_kinds) rfl
  obtain ⟨d22, F22⟩ := c.def_ 22 (d := dd "_law_back" s__law_back) rfl
  obtain ⟨d23, F23⟩ := c.def_ 23 (d := dd "_law_loose" s__law_loose) rfl
  obtain ⟨d24, F24⟩ := c.def_ 24 (d := dd "_law_spoiled" s__law_spoiled) rfl
  obtain ⟨d25, F25⟩ := c.def_ 25 (d := dd "_law_skipped" s__law_skipped) rfl
  obtain ⟨d26, F26⟩ := c.def_ 26 (d := dd "_law_refused" s__law_refused) rfl
  obtain ⟨d27, F27⟩ := c.def_ 27 (d := dd "_law_spoiled_right" s__law_spoiled_right) rfl
  obtain ⟨d28, F28⟩ := c.def_ 28 (d := dd "law" s_law) rfl
  obtain ⟨d29, F29⟩ := c.def_ 29 (d := dm "BadText" "__init__" "BadText.__init__" s_BadText___init__) rfl
  have e := hfa.symm.trans (He.glo_ok X G (c.fact 28 (f := .glo "law") rfl))
  cases e
  have bb := FunD.bindsA (ps := ["script"]) F28 fun _ _ _ _ _ _ us hl => match us, hl with | [_], _ => rfl
  have bl : Blt mg := ⟨He.free_ok X G (c.fact 33 (f := .free "isinstance") rfl), He.free_ok X G (c.fact 34 (f := .free "int") rfl), He.free_ok X G (c.fact 35 (f := .free "bool") rfl), He.free_ok X G (c.fact 36 (f := .free "list") rfl), He.free_ok X G (c.fact 37 (f := .free "tuple") rfl), He.free_ok X G (c.fact 38 (f := .free "len") rfl), He.free_ok X G (c.fact 39 (f := .free "range") rfl), He.free_ok X G (c.fact 40 (f := .free "sorted") rfl), He.free_ok X G (c.fact 41 (f := .free "set") rfl), He.free_ok X G (c.fact 42 (f := .free "any") rfl), He.free_ok X G (c.fact 43 (f := .free "all") rfl), He.free_ok X G (c.fact 44 (f := .free "enumerate") rfl)⟩
  have hmin := He.free_ok X G (c.fact 45 (f := .free "min") rfl)
  have hzip := He.free_ok X G (c.fact 46 (f := .free "zip") rfl)
  have hstr := He.free_ok X G (c.fact 47 (f := .free "str") rfl)
  have g := fun (i : Nat) (x : Str) (h : fa[i]? = some (.glo x)) => He.glo_ok X G (c.fact i (f := .glo x) h)
  have hBadText := g 29 "BadText" rfl
  have hDEEDS := g 30 "DEEDS" rfl
  have hBadNumber := g 31 "BadNumber" rfl
  have hLinksError := g 32 "LinksError" rfl
  obtain ⟨tok_MOST_DIGITS, vMOST_DIGITS⟩ := He.int_ok X G (c.fact 48 (f := .int "MOST_DIGITS" 30) rfl)
  obtain ⟨tok_VALUE, vVALUE⟩ := He.str_ok X G (c.fact 49 (f := .str "VALUE" "value") rfl)
  obtain ⟨tok_DIGITS, vDIGITS⟩ := He.str_ok X G (c.fact 50 (f := .str "DIGITS" "0123456789") rfl)
  have X_BadText := AX.clsB_ok tc_BadText
  have I_BadText : AX.Ini1 K (He.ma K (He.ga K "BadText") "__init__") "BadText.__init__" "line" := AH.ini_ok F29 tk_BadText
  have ef_BadText : EF K mg "BadText" (He.ga K "BadText") "line" := ⟨hBadText, _, _, X_BadText, I_BadText⟩
  have exT : ErrT K mg (He.ga K "BadText") (He.ga K "BadNumber") (He.ga K "LinksError") := ⟨ef_BadText, hBadNumber, hLinksError, xfB_ok tx_BadText, AH.exB_ok te_BadText, to_BadText, tl_BadText, tq_bn, tn_BadText⟩
  have zt := tt.dic 0
  obtain ⟨_, _, Dk⟩ := He.dicW_ok zt
  have kd := kindAt_ok zt t_tab
  refine ⟨d28, fun s v => bb s [v] rfl, fun base => ?_⟩
  have k_num := c_num (P := P) (w := w) (base := base) F0 (g 0 "number_in" rfl) bl vMOST_DIGITS vDIGITS
  have k_wds := c_wordsIn (P := P) (w := w) (base := base) F1 (g 1 "words_in" rfl) 
  have k_cnt := c_cnt (P := P) (w := w) (base := base) F2 (g 2 "counted_lines" rfl) bl
  have k_val := c_val (P := P) (w := w) (base := base) F3 (g 3 "value_in" rfl) k_num
  have k_pln := c_pln (P := P) (w := w) (base := base) F4 (g 4 "plain_in" rfl) bl k_num
  have k_hand := c_hand (P := P) (w := w) (base := base) F5 (g 5 "hand_in" rfl) k_num
  have k_evt := c_evt (P := P) (w := w) (base := base) F6 (g 6 "event_text" rfl) hstr
  have k_sct := c_sct (P := P) (w := w) (base := base) F7 (g 7 "schedule_text" rfl) k_evt
  have k_hoe := c_hoe (P := P) (w := w) (base := base) F8 (g 8 "house_of_event" rfl) 
  have k_ded := c_ded (P := P) (w := w) (base := base) F9 (g 9 "deed_in" rfl) bl hzip vVALUE hDEEDS Dk kd k_num k_val
  have k_bgn := c_bgn (P := P) (w := w) (base := base) F10 (g 10 "begin_in" rfl) k_num k_ded
  have k_evi := c_evi (P := P) (w := w) (base := base) F11 (g 11 "event_in" rfl) bl k_bgn k_hand k_pln
  have k_sch := cx_sch (P := P) (w := w) (base := base) F12 (g 12 "schedule_from" rfl) bl ef_BadText k_cnt k_wds k_evi
  have l_pool := c_pool (P := P) (w := w) (base := base) F13 (g 13 "_law_pool" rfl) bl hmin
  have l_take := c_take (P := P) (w := w) (base := base) F14 (g 14 "_law_take" rfl) bl
  have l_int := c_law_int (P := P) (w := w) (base := base) F15 (g 15 "_law_int" rfl) bl
  have l_num := c_lnum (P := P) (w := w) (base := base) F16 (g 16 "_law_number" rfl) ⟨l_take, m_take⟩
  have l_val := c_lval (P := P) (w := w) (base := base) F17 (g 17 "_law_value" rfl) ⟨l_take, m_take⟩ l_num
  have l_ded := c_lded (P := P) (w := w) (base := base) F18 (g 18 "_law_deed" rfl) ⟨l_take, m_take⟩ l_num l_val
  have l_ev := c_lev (P := P) (w := w) (base := base) F19 (g 19 "_law_event" rfl) ⟨l_take, m_take⟩ l_num l_ded
  have l_wd := c_lwd (P := P) (w := w) (base := base) F20 (g 20 "_law_words" rfl) hstr
  have l_knd := c_knd (P := P) (w := w) (base := base) F21 (g 21 "_law_kinds" rfl) bl hstr ⟨l_int, m_is_number⟩
  have l_bck := c_bck (P := P) (w := w) (base := base) F22 (g 22 "_law_back" rfl) bl k_sch l_knd
  have l_loo := c_loo (P := P) (w := w) (base := base) F23 (g 23 "_law_loose" rfl) bl ⟨l_take, m_take⟩
  have l_spo := c_spo (P := P) (w := w) (base := base) F24 (g 24 "_law_spoiled" rfl) bl ⟨l_take, m_take⟩
  have l_skp := c_skp (P := P) (w := w) (base := base) F25 (g 25 "_law_skipped" rfl) bl ⟨l_take, m_take⟩
  have l_rfs := c_rfs (P := P) (w := w) (base := base) F26 (g 26 "_law_refused" rfl) bl exT k_sch ⟨l_int, m_is_number⟩
  have l_spr := c_spr (P := P) (w := w) (base := base) F27 (g 27 "_law_spoiled_right" rfl) bl ⟨l_take, m_take⟩ l_skp l_spo l_loo l_wd l_rfs
  exact ok_law F28 bl hstr ⟨l_pool, m_pool⟩ ⟨l_take, m_take⟩ l_ev l_wd k_sct l_bck l_skp l_loo k_evt k_hoe ⟨l_int, m_is_number⟩ l_rfs l_spr
end T34
open PySem PySem.W PySem.Calls PyProof.Rows
theorem PySem.Challenge.cw_silentlinks_k34_schedule_texts_holds : PySem.Challenge.rw_silentlinks_k34_schedule_texts.Holds := by
  w_on; o_law
  refine HandSHeadRun.head_any (r := OpenLaw.row PySem.Challenge.rw_silentlinks_k34_schedule_texts) (q := view (OpenLaw.row PySem.Challenge.rw_silentlinks_k34_schedule_texts).prog [40]) (H := T34.hk) (ob := T34.ob) (M := 20000) (loose := T34.names) (d := HandSHeadRun.topDef (OpenLaw.row PySem.Challenge.rw_silentlinks_k34_schedule_texts).prog 40) (kwd := []) T34.ob_eq
    (by kernel_rfl) (fun s => by kernel_rfl) T34.run (by kernel_rfl) (by kernel_rfl) (by kernel_rfl) (by rfl) (by first | assumption | decide +kernel) (by decide +kernel) ⟨rfl, rfl, rfl, rfl, rfl, by decide +kernel⟩ ?hw ?hc
  case hw => w_witness2
  case hc =>
    refine LamX.walk_ofTsE (l := PySem.Challenge.rw_silentlinks_k34_schedule_texts) (n := 63) (k := 9) (x := "script") (CX := fun w => L2.CX (PySem.Challenge.rw_silentlinks_k34_schedule_texts).prog w) rfl (by decide) (by kernel_rfl) ⟨by first | rfl | decide, by decide, by decide⟩ ?F (fun w H s e s' z => AL.cx_no z)
    intro w mg fa h Y G hmg0
    obtain ⟨K, KX, c, t, tt⟩ := Y
    have hmg : mg ("law" : PySem.Str) = some (.ref fa) := by
      have e : (HandSHeadRun.topDef (OpenLaw.row PySem.Challenge.rw_silentlinks_k34_schedule_texts).prog 40).name = ("law" : PySem.Str) := by kernel_rfl
      rw [← e]
      exact hmg0
    obtain ⟨fd, hb, hF⟩ := T34.facts (P := (PySem.Challenge.rw_silentlinks_k34_schedule_texts).prog) (w := w) KX G hmg c t tt
    exact ⟨K, KX, fd, [], _, (fun p hp => nomatch hp), (fun p hp => nomatch hp), (fun p hp => nomatch hp), hb, fun H a ns hl _ _ hS => AL.csp_law (fun ns Ψ h1 h2 => ⟨ns, rfl, h1, h2⟩) H a ns hl hS, fun base _ _ _ => hF base⟩
