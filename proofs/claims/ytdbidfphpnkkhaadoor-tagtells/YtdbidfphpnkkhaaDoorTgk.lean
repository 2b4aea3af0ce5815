/- TagClimbs: turned texts; the walk up to root. -/
import Derived.Lib.ConvBytes
import Derived.Deep.LoopGhost
import Derived.Test.YtdbidfphpnkkhaaDoorTge
namespace Go.Proofs.YtdbidfphpnkkhaaDoor
open Go.RowKit Go.Shelf
namespace G
/-- Capitals small and the other way round; low lines for hyphens. -/
def tu (c : UInt8) : UInt8 := if isLo c then (c.toNat - 32).toUInt8 else if isUp c then (c.toNat + 32).toUInt8 else if c == 45 then 95 else c
theorem sep_tu (c : UInt8) : isSep (tu c) = isSep c := by
  have := all_u8 (fun c => isSep (tu c) == isSep c) (by decide +kernel) c
  simpa using this
theorem isL_tu (c : UInt8) : isL (tu c) = isL c := by
  have := all_u8 (fun c => isL (tu c) == isL c) (by decide +kernel) c
  simpa using this
theorem isD_tu (c : UInt8) : isD (tu c) = isD c := by
  have := all_u8 (fun c => isD (tu c) == isD c) (by decide +kernel) c
  simpa using this
theorem isA_tu (c : UInt8) : isA (tu c) = isA c := by unfold isA; rw [isL_tu, isD_tu]
theorem lo_tu {c : UInt8} (h : isA c = true) : lo (tu c) = lo c := by
  have := all_u8 (fun c => !(isA c) || lo (tu c) == lo c) (by decide +kernel) c
  simpa [h] using this
theorem lo_tu_let (c d : UInt8) (hd : isL d = true) : (lo (tu c) = d) ↔ (lo c = d) := by
  by_cases h : isA c = true
  · rw [lo_tu h]
  · have h1 := all_u8 (fun c => isA c || !(isL (lo (tu c)))) (by decide +kernel) c
    have h2 := all_u8 (fun c => isA c || !(isL (lo c))) (by decide +kernel) c
    simp [h] at h1 h2
    constructor
    · intro e; rw [e] at h1; rw [hd] at h1; cases h1
    · intro e; rw [e] at h2; rw [hd] at h2; cases h2
theorem cut_tu (l : List UInt8) : cut (l.map tu) = (cut l).map (List.map tu) := by
  induction l with
  | nil => rfl
  | cons c l ih =>
    rw [List.map_cons, cut, cut, sep_tu, ih]
    split
    · rfl
    · cases cut l <;> rfl
theorem run_tu (l : List UInt8) (a b : Nat) (p : UInt8 → Bool) (h : ∀ c, p (tu c) = p c) : run (l.map tu) a b p = run l a b p := by
  unfold run
  rw [List.length_map, List.all_map]
  congr 2
  funext c
  exact h c
theorem kind_tu (k : Nat) (l : List UInt8) : kind k (l.map tu) = kind k l := by
  have hh : isD ((l.map tu).headD 0) = isD (l.headD 0) := by
    cases l with
    | nil => rfl
    | cons c l => exact isD_tu c
  unfold kind lang script region variant
  rw [run_tu l 2 3 isL isL_tu, run_tu l 4 4 isL isL_tu, run_tu l 2 2 isL isL_tu, run_tu l 3 3 isD isD_tu, run_tu l 5 8 isA isA_tu, run_tu l 4 4 isA isA_tu, hh]
theorem form_tu {l : List UInt8} (k : Nat) (h : l.all isA = true) : form k (l.map tu) = form k l := by
  have : (l.map tu).map lo = l.map lo := by
    rw [List.map_map]
    refine List.map_congr_left fun c hc => ?_
    exact lo_tu (List.all_eq_true.1 h c hc)
  unfold form
  rw [this]
theorem walk_tu : ∀ (xs : List (List UInt8)) (k : Nat) (acc : List (List UInt8)), walk k acc (xs.map (List.map tu)) = walk k acc xs
  | [], _, _ => rfl
  | x :: xs, k, acc => by
    rw [List.map_cons, walk, walk, kind_tu]
    by_cases hk : kind k x = 0
    · rw [if_pos hk, if_pos hk]
    · rw [if_neg hk, if_neg hk, form_tu _ (kind_alnum hk).1]
      split
      · rfl
      · exact walk_tu xs _ _
theorem root_tu (l : List UInt8) : (l.map tu).map lo = rootB ↔ l.map lo = rootB := by
  have key : ∀ (l m : List UInt8), m.all isL = true → ((l.map tu).map lo = m ↔ l.map lo = m) := by
    intro l
    induction l with
    | nil => intro m _; rfl
    | cons c l ih =>
      intro m hm
      cases m with
      | nil => simp
      | cons d m =>
        simp only [List.all_cons, Bool.and_eq_true] at hm
        simp only [List.map_cons, List.cons.injEq]
        rw [lo_tu_let c d hm.1, ih m hm.2]
  exact key l rootB (by decide)
theorem canon_tu (s : List UInt8) : canon (s.map tu) = canon s := by
  unfold canon
  rw [List.length_map, cut_tu, walk_tu]
  simp only [root_tu]
/-- The steps up to root: so many as there are parts. -/
theorem climb {t : List UInt8} (h : isT t = true) (hr : t ≠ rootB) : isT (parent t) = true ∧ 1 ≤ (parts t).length ∧ (parent t ≠ rootB → (parts (parent t)).length + 1 = (parts t).length) := by
  obtain ⟨ps, hp, rfl, hl, hc⟩ := isT_cases h hr
  have hpt : parts (join ps) = ps := by unfold parts; rw [if_pos h, hc]
  rw [hpt]
  obtain ⟨x, xs, rfl, _⟩ := hp.first
  cases hxs : (x :: xs).reverse with
  | nil => simp at hxs
  | cons p qs =>
    have e : x :: xs = qs.reverse ++ [p] := by
      have := congrArg List.reverse hxs
      rw [List.reverse_reverse] at this
      rw [this]; simp
    rw [e] at hp hl ⊢
    by_cases hq : qs.reverse = []
    · rw [hq] at hp hl ⊢
      rw [List.nil_append] at hp hl ⊢
      rw [parent_one hp hl]
      exact ⟨root_isT, by simp, fun h => absurd rfl h⟩
    · obtain ⟨h1, h2, h3⟩ := parent_more hq hp hl
      rw [h1]
      have hi := isT_iff.2 (h2.canon h3)
      refine ⟨hi, by simp, fun _ => ?_⟩
      rw [show parts (join qs.reverse) = qs.reverse by unfold parts; rw [if_pos hi, h2.cut]]
      simp
end G
/-- A row of bytes that the call itself made. -/
def BR (g : Nat) (bs : List UInt8) (A : World) : Prop := ∃ (cs : Array Value) (fz : Nat × Nat), A.heap[g]? = some (.cells cs 5 fz) ∧ cs.size ≤ fz.1 ∧ bs.length ≤ cs.size ∧ ∀ i (h : i < bs.length), cs[i]? = some (U8 bs[i])
theorem BR.new (w : World) (s : List UInt8) : BR w.heap.size s (Lib.bytesWorld w 5 ⟨s.toArray⟩) := by
  refine ⟨_, _, Lib.bytesWorld_at_new w 5 ⟨s.toArray⟩, Nat.le_refl _, ?_, fun i hi => ?_⟩
  · simp [Lib.bytesCells]
  · have hi' : i < (⟨s.toArray⟩ : ByteArray).size := by rw [sz_tx]; exact hi
    have := Lib.bytesWorld_cell w 5 ⟨s.toArray⟩ i hi'
    simp only [World.cell?, Lib.bytesWorld_at_new, Option.isSome_none, Bool.false_eq_true, if_false] at this
    rw [this]
    simp [List.getD_eq_getElem?_getD, List.getElem?_eq_getElem hi]
theorem BR.cell {g : Nat} {bs : List UInt8} {A : World} (h : BR g bs A) {i : Nat} (hi : i < bs.length) : A.cell? ⟨g, i, none⟩ = some (U8 bs[i]) := by
  obtain ⟨cs, fz, h1, h2, h3, h4⟩ := h
  simp only [World.cell?, h1]
  exact h4 i hi
theorem BR.froz {g : Nat} {bs : List UInt8} {A : World} (h : BR g bs A) {i : Nat} (hi : i < bs.length) : A.frozen? ⟨g, i, none⟩ = false := by
  obtain ⟨cs, fz, h1, h2, h3, h4⟩ := h
  simp [World.frozen?, h1]
  omega
theorem BR.set {g : Nat} {bs : List UInt8} {A : World} (h : BR g bs A) {i : Nat} (hi : i < bs.length) (c : UInt8) : BR g (bs.set i c) (A.setCell ⟨g, i, none⟩ (U8 c)) := by
  obtain ⟨cs, fz, h1, h2, h3, h4⟩ := h
  refine ⟨cs.setIfInBounds i (U8 c), fz, by simp [World.setCell, Array.getElem?_modify, h1], by simpa using h2, by simpa using h3, fun j hj => ?_⟩
  rw [List.length_set] at hj
  rw [Array.getElem?_setIfInBounds]
  by_cases e : i = j
  · subst e
    rw [if_pos rfl, if_pos (by omega)]
    simp
  · rw [if_neg e, h4 j hj, List.getElem_set_ne e]
theorem BR.later {g : Nat} {bs : List UInt8} {A B : World} (h : BR g bs A) (hb : Below A.heap.size A B) : BR g bs B := by
  obtain ⟨cs, fz, h1, h2⟩ := h
  exact ⟨cs, fz, (hb.block g (Array.getElem?_eq_some_iff.1 h1).1).trans h1, h2⟩
theorem BR.conv {g : Nat} {bs : List UInt8} {A : World} (h : BR g bs A) (cap : Nat) : (convert 36 9 (.slice (some ⟨g, 0, none⟩) bs.length cap)).run Tryd.prog A = .ok (tx bs) A := by
  have := run_convert_bytes_arg (P := Tryd.prog) (w := A) 36 5 Tryd.underlying36 Tryd.underlying5 g 0 bs.length cap (bs.map fun c => (c.toNat : Int)) (by simp) (fun i hi => by
    have := h.cell hi
    rw [Nat.zero_add, this]
    simp [hi]) 9 Tryd.underlying9
  rw [this]
  simp [strOfNums, Function.comp_def]
theorem elem36 (w : World) : (sizeOf (Tryd.prog.elem 36)).run Tryd.prog w = .ok 1 w := by kernel_rfl
/-- Turned up to a place. -/
def upTo (f : UInt8 → UInt8) (s : List UInt8) (i : Nat) : List UInt8 := (s.map f).take i ++ s.drop i
theorem upTo_len (f : UInt8 → UInt8) (s : List UInt8) (i : Nat) (hi : i ≤ s.length) : (upTo f s i).length = s.length := by unfold upTo; simp; omega
theorem upTo_at' (f : UInt8 → UInt8) (s : List UInt8) (i : Nat) (hi : i < s.length) : (upTo f s i)[i]? = some s[i] := by
  unfold upTo
  rw [List.getElem?_append_right (by simp; omega)]
  have e1 : (List.take i (List.map f s)).length = i := by simp; omega
  rw [e1, Nat.sub_self, List.getElem?_drop, Nat.add_zero, List.getElem?_eq_getElem hi]
theorem upTo_at (f : UInt8 → UInt8) (s : List UInt8) (i : Nat) (hi : i < s.length) (h : i < (upTo f s i).length) : (upTo f s i)[i] = s[i] := by
  have := upTo_at' f s i hi
  rw [List.getElem?_eq_getElem h] at this
  exact Option.some.inj this
theorem upTo_set (f : UInt8 → UInt8) (s : List UInt8) (i : Nat) (hi : i < s.length) : (upTo f s i).set i (f s[i]) = upTo f s (i + 1) := by
  unfold upTo
  rw [List.set_append_right _ _ (by simp; omega)]
  have e1 : (List.take i (List.map f s)).length = i := by simp; omega
  rw [e1, Nat.sub_self, List.drop_eq_getElem_cons hi, List.set_cons_zero, List.take_succ_eq_append_getElem (by simpa using hi)]
  simp
theorem upTo_same (f : UInt8 → UInt8) (s : List UInt8) (i : Nat) (hi : i < s.length) (h : f s[i] = s[i]) : upTo f s (i + 1) = upTo f s i := by
  rw [← upTo_set f s i hi]
  have hl : i < (upTo f s i).length := by rw [upTo_len f s i (by omega)]; exact hi
  have := upTo_at f s i hi hl
  rw [h, ← this]
  simp
theorem upTo_all (f : UInt8 → UInt8) (s : List UInt8) : upTo f s s.length = s.map f := by
  unfold upTo
  rw [List.take_of_length_le (by simp), List.drop_length, List.append_nil]
theorem isLo_n {c : UInt8} : G.isLo c = true ↔ 97 ≤ c.toNat ∧ c.toNat ≤ 122 := by simp [G.isLo]
theorem isUp_n {c : UInt8} : G.isUp c = true ↔ 65 ≤ c.toNat ∧ c.toNat ≤ 90 := by simp [G.isUp]
theorem sub32 {c : UInt8} (h : 97 ≤ c.toNat) : (c.toNat : Int) - 32 = (((c.toNat - 32).toUInt8).toNat : Int) := by
  have := c.toNat_lt
  simp
  omega
theorem add32 {c : UInt8} (h : c.toNat ≤ 90) : (c.toNat : Int) + 32 = (((c.toNat + 32).toUInt8).toNat : Int) := by
  simp
  omega
set_option maxRecDepth 100000 in
set_option maxHeartbeats 2000000 in
theorem turned_any (s : List UInt8) (hs : s.length ≤ 100000) (w : World) : Calls Tryd.prog 17 #[tx s] w fun e w' => e = .returned (tx (s.map G.tu)) ∧ Below w.heap.size w w' := by
  have hcv := Lib.run_convert_string_bytes (P := Tryd.prog) w 9 36 5 ⟨s.toArray⟩ Tryd.underlying9 Tryd.underlying36 Tryd.underlying5
  rw [sz_tx] at hcv
  have hbw : Below w.heap.size w (Lib.bytesWorld w 5 ⟨s.toArray⟩) := ⟨rfl, rfl, rfl, by rw [Lib.bytesWorld_size]; omega, fun k hk => Lib.bytesWorld_at_old w 5 ⟨s.toArray⟩ k hk⟩
  have HB0 := hide (BR.new w s)
  generalize Lib.bytesWorld w 5 ⟨s.toArray⟩ = W0 at *
  generalize grownCap w s.length 0 5 = cap at *
  have es := elem36
  unfold tx
  go_enter Tryd.func17, Tryd.ntmps17
  go_wp2
  go_loopw [4] (fun u wr => ∃ i : Nat, u = .int .i64 (i : Int) ∧ i ≤ s.length ∧ Hid (BR w.heap.size (upTo G.tu s i) wr) ∧ Below w.heap.size w wr) (fun u _ => s.length - (intOf u).toNat)
  case atStart => exact ⟨0, rfl, by omega, hide (by have := HB0.out; unfold upTo; simpa using this), hbw⟩
  case round =>
    obtain ⟨i, rfl, hi, HR, hb⟩ := hrel
    clear HB0 hcv hbw
    by_cases hlt : i < s.length
    · have hul : i < (upTo G.tu s i).length := by rw [upTo_len _ _ _ hi]; exact hlt
      have cc := HR.out.cell hul
      have cf := HR.out.froz hul
      rw [upTo_at _ _ _ hlt] at cc
      have HS : Hid (∀ d : UInt8, G.tu s[i] = d → BR w.heap.size (upTo G.tu s (i + 1)) (wr.setCell ⟨w.heap.size, i, none⟩ (.int .u8 (d.toNat : Int)))) := hide (fun d hd => by
        have := HR.out.set hul d
        rw [← hd, upTo_set _ _ _ hlt] at this
        rw [← hd]
        exact this)
      have HN : Hid (G.tu s[i] = s[i] → BR w.heap.size (upTo G.tu s (i + 1)) wr) := hide (fun h => by rw [upTo_same _ _ _ hlt h]; exact HR.out)
      have HBS := hide (fun v => hb.setCell (p := ⟨w.heap.size, i, none⟩) (Nat.le_refl _) v)
      clear HR hul
      generalize s[i] = c at *
      have hcl := c.toNat_lt
      unfold U8 at cc
      by_cases h97 : 97 ≤ c.toNat
      · have g1 : decide ((97 : Int) ≤ (c.toNat : Int)) = true := decide_eq_true (by omega)
        by_cases h122 : c.toNat ≤ 122
        · have e1 := sub32 h97
          have HX := hide (HS.out (c.toNat - 32).toUInt8 (by unfold G.tu; rw [if_pos (isLo_n.2 ⟨h97, h122⟩)]))
          generalize (c.toNat - 32).toUInt8 = d at *
          clear HS HN
          go_wp2
          go_roundw
          case rel => exact ⟨i + 1, by go_num, by omega, HX, HBS.out _⟩
          case measure => simp [intOf]; omega
        · have HX := hide (HN.out (by
            unfold G.tu
            rw [if_neg (by rw [isLo_n]; omega), if_neg (by rw [isUp_n]; omega), if_neg]
            intro e
            have : c = 45 := by simpa using e
            rw [this] at h97
            exact absurd h97 (by decide)))
          have e45 : ((c.toNat : Int) == 45) = false := by simp; omega
          clear HS HN
          go_wp2
          go_roundw
          case rel => exact ⟨i + 1, by go_num, by omega, HX, hb⟩
          case measure => simp [intOf]; omega
      · by_cases h65 : 65 ≤ c.toNat
        · by_cases h90 : c.toNat ≤ 90
          · have e1 := add32 h90
            have HX := hide (HS.out (c.toNat + 32).toUInt8 (by unfold G.tu; rw [if_neg (by rw [isLo_n]; omega), if_pos (isUp_n.2 ⟨h65, h90⟩)]))
            generalize (c.toNat + 32).toUInt8 = d at *
            have hd2 : (d.toNat : Int) ≤ 122 := by omega
            clear HS HN
            go_wp2
            go_roundw
            case rel => exact ⟨i + 1, by go_num, by omega, HX, HBS.out _⟩
            case measure => simp [intOf]; omega
          · have HX := hide (HN.out (by
              unfold G.tu
              rw [if_neg (by rw [isLo_n]; omega), if_neg (by rw [isUp_n]; omega), if_neg]
              intro e
              have : c = 45 := by simpa using e
              rw [this] at h90
              exact absurd (show ¬ (45 : UInt8).toNat ≤ 90 from h90) (by decide)))
            have e45 : ((c.toNat : Int) == 45) = false := by simp; omega
            clear HS HN
            go_wp2
            go_roundw
            case rel => exact ⟨i + 1, by go_num, by omega, HX, hb⟩
            case measure => simp [intOf]; omega
        · by_cases h45 : c = 45
          · have HX := hide (HS.out 95 (by rw [h45]; rfl))
            have e45 : ((c.toNat : Int) == 45) = true := by rw [h45]; rfl
            simp only [show (((95 : UInt8).toNat : Nat) : Int) = 95 from rfl] at HX
            clear HS HN h45
            go_wp2
            go_roundw
            case rel => exact ⟨i + 1, by go_num, by omega, HX, HBS.out _⟩
            case measure => simp [intOf]; omega
          · have HX := hide (HN.out (by
              unfold G.tu
              rw [if_neg (by rw [isLo_n]; omega), if_neg (by rw [isUp_n]; omega), if_neg]
              intro e
              exact h45 (by simpa using e)))
            have e45 : ((c.toNat : Int) == 45) = false := by
              have := u8_eq c 45
              rw [decide_eq_false h45] at this
              exact this
            clear HS HN h45
            go_wp2
            go_roundw
            case rel => exact ⟨i + 1, by go_num, by omega, HX, hb⟩
            case measure => simp [intOf]; omega
    · obtain rfl : i = s.length := by omega
      have hcv2 := HR.out.conv cap
      rw [upTo_all, List.length_map] at hcv2
      unfold tx at hcv2
      clear HR
      go_wp2
      go_ret
      exact ⟨rfl, hb⟩
def rank (t : List UInt8) : Nat := if t = G.rootB then 0 else (G.parts t).length
set_option maxRecDepth 100000 in
set_option maxHeartbeats 4000000 in
theorem climbs_any (s : List UInt8) (hs : s.length ≤ 9223372036854775807) (w : World) (hA : AF w) : Calls Tryd.prog 4 #[tx s] w fun e W' => e = .returned (.bool true) ∧ Below w.heap.size w W' := by
  have hk := known_any w hA
  have hc1 := fun W (hW : AF W) => canon_any s hs W hW
  have HA := hide hA
  clear hA
  unfold tx at *
  go_enter Tryd.func4, Tryd.ntmps4
  go_wp2_with fail
  refine hk.mono ?_
  rintro e w1 ⟨rfl, b1⟩
  have A1 := hide (HA.out.later b1)
  clear HA hk
  go_wp2_with fail
  refine (hc1 w1 A1.out).mono ?_
  rintro e w2 ⟨hans, b2⟩
  have A2 := hide (A1.out.later b2)
  have B2 := hide (nx b1 b2)
  clear b1 b2 A1 hc1
  rcases hans with ⟨t, ht, rfl⟩ | ⟨ht, rfl⟩
  · have hT := G.isT_canon ht
    have hl40 : s.length ≤ 40 := by
      unfold G.canon at ht
      split at ht
      · cases ht
      · omega
    have htl : t.length ≤ 40 := by
      rcases G.canon_cases ht with h | ⟨_, _, _, h, _⟩
      · rw [h]; decide
      · exact h
    have h17 := turned_any s (by omega) w2
    have h9a := fun W (hW : AF W) => canon_ok (s := s.map G.tu) (t := t) (by rw [G.canon_tu]; exact ht) W hW
    have h9b := fun W (hW : AF W) => canon_ok (s := t) (t := t) (G.canon_canon ht) W hW
    have h11 := fun W (hW : AF W) => is_any t (by omega) W hW
    rw [hT] at h11
    have h15 := fun W (hW : AF W) => parts_any t (by omega) W hW
    have ett : (t == t) = true := by simp
    clear ht
    generalize s.map G.tu = s2 at *
    unfold tx at *
    go_wp2_with fail
    refine h17.mono ?_
    rintro e w3 ⟨rfl, b3⟩
    have A3 := hide (A2.out.later b3)
    have B3 := hide (nx B2.out b3)
    clear b3 A2 B2 h17
    go_wp2_with fail
    refine (h9a w3 A3.out).mono ?_
    rintro e w4 ⟨rfl, b4⟩
    have A4 := hide (A3.out.later b4)
    have B4 := hide (nx B3.out b4)
    clear b4 A3 B3 h9a
    go_wp2_with fail
    refine (h9b w4 A4.out).mono ?_
    rintro e w5 ⟨rfl, b5⟩
    have A5 := hide (A4.out.later b5)
    have B5 := hide (nx B4.out b5)
    clear b5 A4 B4 h9b
    go_wp2_with fail
    refine (h11 w5 A5.out).mono ?_
    rintro e w6 ⟨rfl, b6⟩
    have A6 := hide (A5.out.later b6)
    have B6 := hide (nx B5.out b6)
    clear b6 A5 B5 h11
    go_wp2_with fail
    refine (h15 w6 A6.out).mono ?_
    rintro e w7 ⟨u, rfl, ho, b7⟩
    obtain ⟨ao, cap, rfl, _, _⟩ := ho.rd
    have A7 := hide (A6.out.later b7)
    have B7 := hide (nx B6.out b7)
    clear b7 A6 B6 h15 ho
    have hpl : (G.parts t).length ≤ 41 := by
      have := size_parts t
      unfold G.parts
      rw [if_pos hT]
      omega
    obtain ⟨n, hn⟩ : ∃ n, (G.parts t).length = n := ⟨_, rfl⟩
    rw [hn] at hpl ⊢
    have HN := hide hn
    have HT := hide hT
    clear hn hT
    go_wp2
    go_loopg [3, 10] (rank t) (fun g v u wr => ∃ (q : List UInt8) (i : Nat), v = .string ⟨q.toArray⟩ ∧ u = .int .i64 (i : Int) ∧ i ≤ n ∧ q.length ≤ 40 ∧ Hid (G.isT q = true ∧ (q ≠ G.rootB → i + (G.parts q).length = n) ∧ g = rank q) ∧ Hid (AF wr) ∧ Hid (Below w.heap.size w wr))
    case atStart => exact ⟨t, 0, rfl, rfl, by omega, htl, hide ⟨HT.out, fun _ => by rw [HN.out]; omega, rfl⟩, A7, B7⟩
    case round =>
      obtain ⟨q, i, rfl, rfl, hin, hql, HQ, AW, BW⟩ := hrel
      clear A7 B7 HT HN
      by_cases hr : q = G.rootB
      · have e1 : (q == [114, 111, 111, 116]) = true := by rw [hr]; rfl
        clear hr
        go_wp2
        go_ret
        exact ⟨rfl, BW.out⟩
      · have e1 : (q == [114, 111, 111, 116]) = false := beq_eq_false_iff_ne.2 hr
        have HCL := hide (G.climb HQ.out.1 hr)
        have hsum := HQ.out.2.1 hr
        have HG : Hid (gk = (G.parts q).length) := hide (by rw [HQ.out.2.2]; unfold rank; rw [if_neg hr])
        have hpq1 : 1 ≤ (G.parts q).length := HCL.out.2.1
        have h13 := parent_any q (by omega) wr AW.out
        have hpp : (G.parent q).length ≤ 40 := by
          by_cases h : G.parent q = G.rootB
          · rw [h]; decide
          · obtain ⟨_, _, _, h4, _⟩ := G.isT_cases HCL.out.1 h
            exact h4
        have h11 := fun W (hW : AF W) => is_any (G.parent q) (by omega) W hW
        rw [HCL.out.1] at h11
        have h15a := fun W (hW : AF W) => parts_any (G.parent q) (by omega) W hW
        have h15b := fun W (hW : AF W) => parts_any q (by omega) W hW
        have HI : Hid (G.isT (G.parent q) = true) := hide HCL.out.1
        have HL : Hid (G.parent q ≠ G.rootB → (G.parts (G.parent q)).length + 1 = (G.parts q).length) := hide HCL.out.2.2
        have HRK : Hid (rank (G.parent q) = if G.parent q = G.rootB then 0 else (G.parts (G.parent q)).length) := hide rfl
        clear HCL HQ hr
        generalize G.parent q = p at *
        obtain ⟨m, hm⟩ : ∃ m, (G.parts q).length = m := ⟨_, rfl⟩
        rw [hm] at HL hsum hpq1 HG
        have HM := hide hm
        have HSUM := hide hsum
        have hni : i + 1 ≤ n := by omega
        have hm41 : m ≤ 41 := by omega
        have gin : decide ((n : Int) < (i : Int)) = false := decide_eq_false (by omega)
        clear hm hsum
        unfold tx at *
        go_wp2_with fail
        refine h13.mono ?_
        rintro e w8 ⟨rfl, b8⟩
        have A8 := hide (AW.out.later b8)
        have B8 := hide (nx BW.out b8)
        clear b8 AW BW h13
        go_wp2_with fail
        refine (h11 w8 A8.out).mono ?_
        rintro e w9 ⟨rfl, b9⟩
        have A9 := hide (A8.out.later b9)
        have B9 := hide (nx B8.out b9)
        clear b9 A8 B8 h11
        by_cases hpr : p = G.rootB
        · have e2 : (p == [114, 111, 111, 116]) = true := by rw [hpr]; rfl
          have HR0 : Hid (rank p = 0) := hide (by rw [HRK.out, if_pos hpr])
          have HP := hide hpr
          clear h15a h15b hpr
          go_wp2
          go_roundg 0
          case measure => have := HG.out; omega
          case rel => exact ⟨p, i + 1, rfl, by go_num, by omega, hpp, hide ⟨HI.out, fun h => absurd HP.out h, HR0.out.symm⟩, A9, B9⟩
        · have e2 : (p == [114, 111, 111, 116]) = false := beq_eq_false_iff_ne.2 hpr
          have hpm := HL.out hpr
          obtain ⟨m2, hm2⟩ : ∃ m2, (G.parts p).length = m2 := ⟨_, rfl⟩
          have HR0 : Hid (rank p = m2) := hide (by rw [HRK.out, if_neg hpr, hm2])
          rw [hm2] at hpm
          have HM2 := hide hm2
          have e3 : ((m2 : Int) == (m : Int) - 1) = true := by simp; omega
          have e4 : (m : Int) - 1 = (m2 : Int) := by omega
          have HPM := hide hpm
          clear hpr hm2 hpm HL HRK
          go_wp2_with fail
          refine (h15a w9 A9.out).mono ?_
          rintro e w10 ⟨u, rfl, ho, b10⟩
          obtain ⟨ao2, cap2, rfl, _, _⟩ := ho.rd
          have A10 := hide (A9.out.later b10)
          have B10 := hide (nx B9.out b10)
          clear b10 A9 B9 h15a ho
          rw [HM2.out]
          go_wp2_with fail
          refine (h15b w10 A10.out).mono ?_
          rintro e w11 ⟨u, rfl, ho, b11⟩
          obtain ⟨ao3, cap3, rfl, _, _⟩ := ho.rd
          have A11 := hide (A10.out.later b11)
          have B11 := hide (nx B10.out b11)
          clear b11 A10 B10 h15b ho
          rw [HM.out]
          go_wp2
          go_roundg m2
          case measure => have := HG.out; have := HPM.out; omega
          case rel => exact ⟨p, i + 1, rfl, by go_num, by omega, hpp, hide ⟨HI.out, fun _ => by rw [HM2.out]; have := HPM.out; have := HSUM.out; omega, HR0.out.symm⟩, A11, B11⟩
  · have hI : G.isT s = false := by
      cases h : G.isT s with
      | false => rfl
      | true => rw [G.isT_iff.1 h] at ht; cases ht
    have h13 := parent_any s hs w2 A2.out
    rw [G.parent_none hI] at h13
    clear ht hI
    unfold tx at *
    go_wp2_with fail
    refine h13.mono ?_
    rintro e w3 ⟨rfl, b3⟩
    have B3 := hide (nx B2.out b3)
    clear b3 B2 h13
    go_wp2
    go_ret
    exact ⟨rfl, B3.out⟩
end Go.Proofs.YtdbidfphpnkkhaaDoor
