/- What the reference's Canon tells. -/
import Derived.Test.YtbeihgjonhgfmaaGreatDoorTgo
namespace Go.Proofs.YtbeihgjonhgfmaaGreatDoor
open Go.RowKit Go.Shelf
namespace G
def rv (done : List (List UInt8)) : List (List UInt8) → List UInt8 → Option (List UInt8)
  | [], out => some out
  | v :: vs, out => if variant v = false then none else if done.contains (v.map lo) then none else rv (done ++ [v.map lo]) vs (out ++ [45] ++ v.map lo)
theorem up_lo (c : UInt8) : up (lo c) = up c := by
  have := all_u8 (fun c => up (lo c) == up c) (by decide +kernel) c
  simpa using this
theorem map_up_lo (l : List UInt8) : (l.map lo).map up = l.map up := by
  rw [List.map_map]
  exact List.map_congr_left fun c _ => up_lo c
def PreOk (pre : List (List UInt8)) : Prop := ∀ p ∈ pre, p.length ≤ 3 ∨ (p.length = 4 ∧ p.all isL = true)
theorem var_pre {pre : List (List UInt8)} (h : PreOk pre) {v : List UInt8} (hv : variant v = true) : ¬ v.map lo ∈ pre := by
  intro hm
  simp only [variant, run, Bool.or_eq_true, Bool.and_eq_true, decide_eq_true_eq] at hv
  have hl : (v.map lo).length = v.length := by simp
  rcases h _ hm with h1 | ⟨h1, h2⟩
  · omega
  · rcases hv with hv | ⟨_, hd⟩
    · omega
    · cases v with
      | nil => simp at h1
      | cons c v =>
        rw [List.headD_cons] at hd
        rw [List.map_cons, List.all_cons, isL_lo] at h2
        have := all_u8 (fun c => !(isL c && isD c)) (by decide +kernel) c
        rw [Bool.and_eq_true] at h2
        rw [h2.1, hd] at this
        cases this
/-- No script and no region may come any more. -/
def Rest (k : Nat) (xs : List (List UInt8)) : Prop := ∀ x r, xs = x :: r → ¬ (k < 2 ∧ script x = true) ∧ ¬ (k < 3 ∧ region x = true)
theorem rv_walk : ∀ (xs : List (List UInt8)) (k : Nat) (pre done : List (List UInt8)), k ≠ 0 → Rest k xs → pre ≠ [] → PreOk pre → (walk k (pre ++ done) xs).map join = rv done xs (join (pre ++ done))
  | [], _, _, _, _, _, _, _ => rfl
  | v :: vs, k, pre, done, hk, hr, hp, ho => by
    obtain ⟨h1, h2⟩ := hr v vs rfl
    rw [walk, rv]
    cases hv : variant v with
    | false =>
      have : kind k v = 0 := by unfold kind; rw [if_neg hk, if_neg h1, if_neg h2, hv]; rfl
      rw [if_pos this, if_pos rfl]
      rfl
    | true =>
      have h4 : kind k v = 4 := by unfold kind; rw [if_neg hk, if_neg h1, if_neg h2, hv]; rfl
      have hf : form 4 v = v.map lo := by unfold form; rw [if_neg (by decide), if_neg (by decide)]
      rw [h4, hf, if_neg (show ¬ (4 : Nat) = 0 by decide), if_neg (show ¬ true = false by decide)]
      have hcc : (pre ++ done).contains (v.map lo) = done.contains (v.map lo) := by
        rw [Bool.eq_iff_iff]
        simp only [List.contains_iff_mem, List.mem_append]
        exact ⟨fun h => h.resolve_left (var_pre ho hv), .inr⟩
      rw [hcc]
      split
      · rfl
      · have := rv_walk vs 4 pre (done ++ [v.map lo]) (by decide) (fun x r _ => ⟨by omega, by omega⟩) hp ho
        rw [List.append_assoc, this, ← List.append_assoc, join_snoc _ (by simp [hp])]
        simp
section
variable {s x0 : List UInt8} {rest : List (List UInt8)} (h40 : s.length ≤ 40) (hr : ¬ s.map lo = rootB) (hc : cut s = x0 :: rest)
include h40 hr hc
theorem ref_none (h : lang x0 = false) : canon s = none := by
  unfold canon
  rw [if_neg (by omega), if_neg hr, hc, walk, if_pos (by unfold kind; rw [if_pos rfl, h]; rfl)]
  rfl
theorem ref_lang (h : lang x0 = true) : canon s = (walk 1 [x0.map lo] rest).map join := by
  have k1 : kind 0 x0 = 1 := by unfold kind; rw [if_pos rfl, h]; rfl
  unfold canon
  rw [if_neg (by omega), if_neg hr, hc, walk, k1, if_neg (by decide), if_neg (by simp)]
  rfl
end
theorem lang_len {x : List UInt8} (h : lang x = true) : 2 ≤ x.length ∧ x.length ≤ 3 ∧ x.all isL = true := by
  simp only [lang, run, Bool.and_eq_true, decide_eq_true_eq] at h
  exact ⟨h.1.1, h.1.2, h.2⟩
theorem script_len {x : List UInt8} (h : script x = true) : x.length = 4 ∧ x.all isL = true := by
  simp only [script, run, Bool.and_eq_true, decide_eq_true_eq] at h
  exact ⟨by omega, h.2⟩
theorem script_form {x : List UInt8} : form 2 x = (x.take 1).map up ++ (x.drop 1).map lo := by
  unfold form
  rw [if_pos rfl, ← List.map_take, map_up_lo, List.map_drop]
theorem region_len {x : List UInt8} (h : region x = true) : x.length ≤ 3 ∧ 2 ≤ x.length := by
  simp only [region, run, Bool.or_eq_true, Bool.and_eq_true, decide_eq_true_eq] at h
  rcases h with h | h <;> omega
theorem region_ne {x y : List UInt8} (hx : region x = true) (hy : lang y = true) : ¬ x.map up = y.map lo := by
  intro e
  obtain ⟨h2, _⟩ := region_len hx
  have h3 := (region_len hx).2
  simp only [region, run, Bool.or_eq_true, Bool.and_eq_true, decide_eq_true_eq] at hx
  have hyl := (lang_len hy).2.2
  cases x with
  | nil => simp at h3
  | cons c x =>
    cases y with
    | nil => simp at e
    | cons d y =>
      simp only [List.map_cons, List.cons.injEq] at e
      rw [List.all_cons, Bool.and_eq_true] at hyl
      have hd := all_u8 (fun d => !(isL d) || isLo (lo d)) (by decide +kernel) d
      rw [hyl.1] at hd
      have hc := all_u8 (fun c => !(isLo (up c))) (by decide +kernel) c
      rw [e.1] at hc
      simp at hd hc
      rw [hd] at hc
      cases hc
theorem kind1_script {x : List UInt8} (h : script x = true) : kind 1 x = 2 := by unfold kind; rw [if_neg (by decide), if_pos ⟨by decide, h⟩]
theorem kind_reg {x : List UInt8} {k : Nat} (hk : k = 1 ∨ k = 2) (h : region x = true) : kind k x = 3 := by
  have h1 := region_len h
  unfold kind
  rw [if_neg (by omega), if_neg (fun hh => by have := (script_len hh.2).1; omega), if_pos ⟨by omega, h⟩]
theorem form_reg (x : List UInt8) : form 3 x = x.map up := by unfold form; rw [if_neg (by decide), if_pos rfl, map_up_lo]
theorem lang_ok {x : List UInt8} (h : lang x = true) : (x.map lo).length ≤ 3 := by rw [List.length_map]; exact (lang_len h).2.1
theorem script_ok {x : List UInt8} (h : script x = true) : (form 2 x).length = 4 ∧ (form 2 x).all isL = true := by
  rw [form_len, form_all 2 x isL isL_lo isL_up]
  exact script_len h
theorem preOk_cons {p : List UInt8} {pre : List (List UInt8)} (h : p.length ≤ 3 ∨ (p.length = 4 ∧ p.all isL = true)) (hp : PreOk pre) : PreOk (p :: pre) := fun q hq => (List.mem_cons.1 hq).elim (fun e => by rw [e]; exact h) (hp q)
theorem preOk_nil : PreOk [] := fun q hq => by simp at hq
section
variable {s x0 : List UInt8} {rest : List (List UInt8)} (h40 : s.length ≤ 40) (hr : ¬ s.map lo = rootB) (hc : cut s = x0 :: rest) (hl : lang x0 = true)
include h40 hr hc hl
theorem ref_00 (h : Rest 1 rest) : canon s = rv [] rest (x0.map lo) := by
  rw [ref_lang h40 hr hc hl]
  have := rv_walk rest 1 [x0.map lo] [] (by decide) h (by simp) (preOk_cons (.inl (lang_ok hl)) preOk_nil)
  rw [List.append_nil] at this
  exact this
theorem ref_01 {x1 : List UInt8} {r1 : List (List UInt8)} (e : rest = x1 :: r1) (h : region x1 = true) : canon s = rv [] r1 (x0.map lo ++ [45] ++ x1.map up) := by
  rw [ref_lang h40 hr hc hl, e, walk, kind_reg (.inl rfl) h, form_reg, if_neg (by decide), if_neg (by simp [region_ne h hl])]
  have := rv_walk r1 3 [x0.map lo, x1.map up] [] (by decide) (fun x r _ => ⟨by omega, by omega⟩) (by simp) (preOk_cons (.inl (lang_ok hl)) (preOk_cons (.inl (by rw [List.length_map]; exact (region_len h).1)) preOk_nil))
  rw [List.append_nil] at this
  rw [show ([x0.map lo] ++ [x1.map up] : List (List UInt8)) = [x0.map lo, x1.map up] from rfl, this]
  simp [join]
theorem ref_1 {x1 : List UInt8} {r1 : List (List UInt8)} (e : rest = x1 :: r1) (h : script x1 = true) : canon s = (walk 2 [x0.map lo, form 2 x1] r1).map join := by
  have hn : ¬ form 2 x1 = x0.map lo := fun ee => by
    have h1 := (script_ok h).1
    have h2 := lang_ok hl
    rw [ee] at h1
    omega
  rw [ref_lang h40 hr hc hl, e, walk, kind1_script h, if_neg (by decide), if_neg (by simp [hn])]
  rfl
theorem ref_10 {x1 : List UInt8} {r1 : List (List UInt8)} (e : rest = x1 :: r1) (h : script x1 = true) (hn : Rest 2 r1) : canon s = rv [] r1 (x0.map lo ++ [45] ++ (x1.take 1).map up ++ (x1.drop 1).map lo) := by
  rw [ref_1 h40 hr hc hl e h]
  have := rv_walk r1 2 [x0.map lo, form 2 x1] [] (by decide) hn (by simp) (preOk_cons (.inl (lang_ok hl)) (preOk_cons (.inr (script_ok h)) preOk_nil))
  rw [List.append_nil] at this
  rw [this, script_form]
  simp [join]
theorem ref_11 {x1 x2 : List UInt8} {r2 : List (List UInt8)} (e : rest = x1 :: x2 :: r2) (h : script x1 = true) (h2 : region x2 = true) : canon s = rv [] r2 (x0.map lo ++ [45] ++ (x1.take 1).map up ++ (x1.drop 1).map lo ++ [45] ++ x2.map up) := by
  have hn : ¬ x2.map up = form 2 x1 := fun ee => by
    have h1 := (script_ok h).1
    have h3 := (region_len h2).1
    rw [← ee, List.length_map] at h1
    omega
  rw [ref_1 h40 hr hc hl e h, walk, kind_reg (.inr rfl) h2, form_reg, if_neg (by decide), if_neg (by simp [region_ne h2 hl, hn])]
  have := rv_walk r2 3 [x0.map lo, form 2 x1, x2.map up] [] (by decide) (fun x r _ => ⟨by omega, by omega⟩) (by simp) (preOk_cons (.inl (lang_ok hl)) (preOk_cons (.inr (script_ok h)) (preOk_cons (.inl (by rw [List.length_map]; exact (region_len h2).1)) preOk_nil)))
  rw [List.append_nil] at this
  rw [show ([x0.map lo, form 2 x1] ++ [x2.map up] : List (List UInt8)) = [x0.map lo, form 2 x1, x2.map up] from rfl, this, script_form]
  simp [join]
end
end G
end Go.Proofs.YtbeihgjonhgfmaaGreatDoor
