/- Joined: UMeth UMethb Sbm Sbw. -/
import Derived.Laws.Bits64b
import Derived.Laws.Cover3
import Derived.Test.YtgngaldoemopjaaGreatDoorFUCutx
import Derived.Test.YtgngaldoemopjaaGreatDoorFSbo
import Derived.BigRegion
import Derived.Test.YtgngaldoemopjaaGreatDoorFURegu
namespace Go.Proofs.YtgngaldoemopjaaGreatDoor.U
open Go.RowKit Go.Shelf
def RdK (w : World) (acl : Option Addr) (ms : List Nat) (sets : Nat → List S.R) : Prop :=
 ∀ i (_ : i < ms.length), ∃ g off ao c, acl = some ⟨g, off, none⟩ ∧ w.cell? ⟨g, off + i * 2, none⟩ = some (.int .u64 ((ms[i] : Nat) : Int)) ∧ w.cell? ⟨g, off + i * 2 + 1, none⟩ = some (.slice ao (sets ms[i]).length c) ∧ RdR w ao (sets ms[i]) ∧ (ao = none → c = 0)
def RdP (w : World) (aps : Option Addr) (ps : List (Int × Nat)) : Prop :=
 ∀ i (_ : i < ps.length), ∃ g off, aps = some ⟨g, off, none⟩ ∧ w.cell? ⟨g, off + i * 2, none⟩ = some (.int .i32 ps[i].1) ∧ w.cell? ⟨g, off + i * 2 + 1, none⟩ = some (.int .i64 ((ps[i].2 : Nat) : Int))
def Hd (w : World) (pc : Nat) (v0 v1 v2 : Value) : Prop := ∃ cs ty, w.heap[pc]? = some (.cells cs ty (0, 0)) ∧ cs[0]? = some v0 ∧ cs[1]? = some v1 ∧ cs[2]? = some v2
theorem Hd.at0 {w : World} {pc : Nat} {v0 v1 v2 : Value} (h : Hd w pc v0 v1 v2) : w.cell? ⟨pc, 0, none⟩ = some v0 := let ⟨_, _, h1, h2, _⟩ := h; cell_at h1 h2
theorem Hd.at1 {w : World} {pc : Nat} {v0 v1 v2 : Value} (h : Hd w pc v0 v1 v2) : w.cell? ⟨pc, 1, none⟩ = some v1 := let ⟨_, _, h1, _, h2, _⟩ := h; cell_at h1 h2
theorem Hd.at2 {w : World} {pc : Nat} {v0 v1 v2 : Value} (h : Hd w pc v0 v1 v2) : w.cell? ⟨pc, 2, none⟩ = some v2 := let ⟨_, _, h1, _, _, h2⟩ := h; cell_at h1 h2
theorem Hd.lt {w : World} {pc : Nat} {v0 v1 v2 : Value} (h : Hd w pc v0 v1 v2) : pc < w.heap.size := let ⟨_, _, h1, _⟩ := h; (Array.getElem?_eq_some_iff.1 h1).1
theorem Hd.later {w w' : World} {pc : Nat} {v0 v1 v2 : Value} (h : Hd w pc v0 v1 v2) (hb : Below w.heap.size w w') : Hd w' pc v0 v1 v2 := let ⟨cs, ty, h1, h2⟩ := h; ⟨cs, ty, (hb.block pc (Array.getElem?_eq_some_iff.1 h1).1).trans h1, h2⟩
def Cl (w : World) (pc n : Nat) (ms : List Nat) (sets : Nat → List S.R) (ps : List (Int × Nat)) : Prop :=
 ∃ acl ccl aps cps, Hd w pc (.int .i64 (n : Int)) (.slice acl ms.length ccl) (.slice aps ps.length cps) ∧ RdK w acl ms sets ∧ RdP w aps ps
theorem Cl.later {w w' : World} {pc n : Nat} {ms : List Nat} {sets : Nat → List S.R} {ps : List (Int × Nat)} (h : Cl w pc n ms sets ps) (hb : Below w.heap.size w w') : Cl w' pc n ms sets ps := by
 obtain ⟨acl, ccl, aps, cps, h1, h2, h3⟩ := h
 refine ⟨acl, ccl, aps, cps, h1.later hb, fun i hi => ?_, fun i hi => ?_⟩
 · obtain ⟨g, off, ao, c, e, c1, c2, r, hn⟩ := h2 i hi
   exact ⟨g, off, ao, c, e, cell_later hb c1, cell_later hb c2, r.later hb, hn⟩
 · obtain ⟨g, off, e, c1, c2⟩ := h3 i hi
   exact ⟨g, off, e, cell_later hb c1, cell_later hb c2⟩
theorem cP_at (ps : List (Int × Nat)) (k : Nat) (h : k < ps.length) : (cP ps)[k * 2]? = some (.int .i32 ps[k].1) ∧ (cP ps)[k * 2 + 1]? = some (.int .i64 ((ps[k].2 : Nat) : Int)) := by
 induction ps generalizing k with
 | nil => simp at h
 | cons x ps ih =>
   cases k with
   | zero => simp [cP]
   | succ k =>
     have := ih k (by simpa using h)
     unfold cP at this ⊢
     rw [List.flatMap_cons, show (k + 1) * 2 = k * 2 + 2 by omega, show k * 2 + 2 + 1 = (k * 2 + 1) + 2 by omega]
     simpa using this
theorem own_slice {w : World} {B e s n : Nat} {v : Value} {xs : List Value} (h : w.ownsRow B e s v n xs) : ∃ ao c, v = .slice ao n c ∧ (ao = none → c = 0) ∧ (ao = none → n = 0) ∧ ∀ j u, xs[j]? = some u → ∃ g, ao = some ⟨g, 0, none⟩ ∧ w.cell? ⟨g, j, none⟩ = some u := by
 have hc := fun g => h.cells (g := g)
 obtain ⟨h0, ⟨h1, h2⟩ | ⟨g, cap, cur, rfl, _⟩⟩ := h
 · subst h2
   refine ⟨none, 0, h1, fun _ => rfl, fun _ => rfl, fun j u hu => ?_⟩
   have : xs = [] := List.eq_nil_of_length_eq_zero (by simpa using h0)
   rw [this] at hu
   simp at hu
 · refine ⟨_, cap, rfl, fun e => (by cases e), fun e => (by cases e), fun j u hu => ⟨g, rfl, ?_⟩⟩
   have := hc g rfl j u hu
   rw [Addr.add_mid, Nat.zero_add] at this
   exact this
theorem St.cl {w : World} {e0 n : Nat} {P : List (S.R × Nat)} {A : World} (h : St w e0 n P A) : Cl A w.heap.size n (msOf P) (setsOf P) (psOf (msOf P) P) ∧ Below w.heap.size w A := by
 obtain ⟨cs, vcl, vps, hms, hx⟩ := h
 refine ⟨?_, hx.below⟩
 obtain ⟨acl, ccl, rfl, _, hn1, h1⟩ := own_slice hx.rc
 obtain ⟨aps, cps, rfl, _, hn2, h2⟩ := own_slice hx.rp
 have hl : cs.length = (msOf P).length := by rw [← hms, List.length_map]
 refine ⟨acl, ccl, aps, cps, by rw [← hl]; exact ⟨_, _, hx.st, rfl, rfl, rfl⟩, fun i hi => ?_, fun i hi => ?_⟩
 · have hi' : i < cs.length := by omega
   obtain ⟨c1, c2⟩ := cC_at cs i hi'
   obtain ⟨g, rfl, d1⟩ := h1 _ _ c1
   obtain ⟨g', e, d2⟩ := h1 _ _ c2
   cases e
   have hm : cs[i].1 = (msOf P)[i] := by
     have : (cs.map (·.1))[i]'(by simpa using hi') = (msOf P)[i] := by simp only [hms]
     simpa using this
   have ho := hx.rs i hi'
   obtain ⟨ao, c, hv, _, hn, hr⟩ := OwnR.rd ho
   rw [hv] at d2
   rw [hm] at d1 d2 hr
   refine ⟨g, 0, ao, c, rfl, by rw [Nat.zero_add]; exact d1, by rw [Nat.zero_add]; exact d2, hr, ?_⟩
   obtain ⟨ao2, c2', hv2, hc0, _⟩ := own_slice ho
   rw [hv] at hv2
   cases hv2
   exact hc0
 · obtain ⟨c1, c2⟩ := cP_at _ i hi
   obtain ⟨g, rfl, d1⟩ := h2 _ _ c1
   obtain ⟨g', e, d2⟩ := h2 _ _ c2
   cases e
   exact ⟨g, 0, rfl, by rw [Nat.zero_add]; exact d1, by rw [Nat.zero_add]; exact d2⟩
section
variable {w : World} {pc n : Nat} {ms : List Nat} {sets : Nat → List S.R} {ps : List (Int × Nat)}
set_option maxHeartbeats 1000000 in
theorem clen_any (h : Cl w pc n ms sets ps) : Calls Tryz.prog 28 #[.pointer (some ⟨pc, 0, none⟩)] w fun e w' => e = .returned (.int .i64 (ms.length : Int)) ∧ w' = w := by
 obtain ⟨acl, ccl, aps, cps, h1, _, _⟩ := h
 have c1 : w.cell? ⟨pc, 1, none⟩ = some (.slice acl ms.length ccl) := h1.at1
 clear h1
 go_enter Tryz.func28, Tryz.ntmps28
 go_wp2
 go_ret
 exact ⟨rfl, rfl⟩
set_option maxHeartbeats 1000000 in
theorem sets_any (h : Cl w pc n ms sets ps) : Calls Tryz.prog 75 #[.pointer (some ⟨pc, 0, none⟩)] w fun e w' => e = .returned (.int .i64 (n : Int)) ∧ w' = w := by
 obtain ⟨acl, ccl, aps, cps, h1, _, _⟩ := h
 have c1 : w.cell? ⟨pc, 0, none⟩ = some (.int .i64 (n : Int)) := h1.at0
 clear h1
 go_enter Tryz.func75, Tryz.ntmps75
 go_wp2
 go_ret
 exact ⟨rfl, rfl⟩
set_option maxHeartbeats 2000000 in
theorem isClass_any (h : Cl w pc n ms sets ps) (j : Int) : Calls Tryz.prog 103 #[.pointer (some ⟨pc, 0, none⟩), .int .i64 j] w fun e w' => e = .returned (.bool (decide (0 ≤ j ∧ j < ms.length))) ∧ w' = w := by
 obtain ⟨acl, ccl, aps, cps, h1, _, _⟩ := h
 have c1 : w.cell? ⟨pc, 1, none⟩ = some (.slice acl ms.length ccl) := h1.at1
 clear h1
 go_enter Tryz.func103, Tryz.ntmps103
 by_cases h0 : 0 ≤ j
 · go_wp2
   go_ret
   exact ⟨by simp [h0], rfl⟩
 · have h0' : j < 0 := by omega
   go_wp2
   go_ret
   refine ⟨?_, rfl⟩
   rw [decide_eq_false (by omega : ¬ 0 ≤ j)]
   rfl
set_option maxHeartbeats 2000000 in
theorem mhas_any (m k : Nat) (hm : m < 2 ^ 64) (hk : k < 64) : Calls Tryz.prog 104 #[.int .u64 (m : Int), .int .i64 (k : Int)] w fun e w' => e = .returned (.bool (m.testBit k)) ∧ w' = w := by
 have hb : bits .and .u64 ((m : Int) / 2 ^ k) 1 = ((m / 2 ^ k % 2 : Nat) : Int) := by
   rw [show ((m : Int) / 2 ^ k) = ((m / 2 ^ k : Nat) : Int) by push_cast; rfl, show (1 : Int) = ((1 : Nat) : Int) from rfl, bits_and_u64_nat _ _ (Nat.lt_of_le_of_lt (Nat.div_le_self _ _) (by omega)) (by decide), Nat.and_one_is_mod]
 have he : (((m / 2 ^ k % 2 : Nat) : Int) == 1) = m.testBit k := by
   rw [Nat.testBit_eq_decide_div_mod_eq]
   generalize m / 2 ^ k % 2 = q
   by_cases h : q = 1
   · simp [h]
   · have : ¬ ((q : Int) = 1) := by omega
     simp [h, this]
 generalize hq : m / 2 ^ k % 2 = q at *
 go_enter Tryz.func104, Tryz.ntmps104
 go_wp2
 go_ret
 exact ⟨by rw [← he]; rfl, rfl⟩
set_option maxRecDepth 100000 in
set_option maxHeartbeats 4000000 in
theorem cin_any (h : Cl w pc n ms sets ps) (hms : ∀ m ∈ ms, m < 2 ^ 64) (hn : n ≤ 64) (j k : Int) : Calls Tryz.prog 76 #[.pointer (some ⟨pc, 0, none⟩), .int .i64 j, .int .i64 k] w fun e w' => (∃ b, e = .returned (.bool b) ∧ ((∃ i : Nat, ∃ hi : i < ms.length, j = (i : Int) ∧ 0 ≤ k ∧ k < n ∧ b = ms[i].testBit k.toNat) ∨ (¬ (0 ≤ j ∧ j < ms.length ∧ 0 ≤ k ∧ k < n) ∧ b = false))) ∧ w' = w := by
 have hcls := isClass_any h j
 obtain ⟨acl, ccl, aps, cps, h1, h2, _⟩ := h
 have c1 : w.cell? ⟨pc, 1, none⟩ = some (.slice acl ms.length ccl) := h1.at1
 have c0 : w.cell? ⟨pc, 0, none⟩ = some (.int .i64 (n : Int)) := h1.at0
 clear h1
 by_cases hj : 0 ≤ j ∧ j < ms.length
 · obtain ⟨i, rfl⟩ : ∃ i : Nat, j = (i : Int) := ⟨j.toNat, by omega⟩
   have hi : i < ms.length := by omega
   obtain ⟨g, off, ao, c, rfl, c2, c3, hr, _⟩ := h2 i hi
   rw [decide_eq_true hj] at hcls
   by_cases hk0 : 0 ≤ k
   · by_cases hkn : k < n
     · obtain ⟨q, rfl⟩ : ∃ q : Nat, k = (q : Int) := ⟨k.toNat, by omega⟩
       have hmh := mhas_any (w := w) ms[i] q (hms _ (List.getElem_mem hi)) (by omega)
       obtain ⟨m, hxs⟩ : ∃ m, m = ms[i] := ⟨_, rfl⟩
       rw [← hxs] at c2 hmh
       have HX := hide hxs
       clear h2 c3 hr hxs
       go_enter Tryz.func76, Tryz.ntmps76
       go_wp2_with (first
         | (go_at_call 103; refine hcls.mono ?_; clear hcls; rintro e w' ⟨rfl, rfl⟩)
         | (go_at_call 104; refine hmh.mono ?_; clear hmh; rintro e w' ⟨rfl, rfl⟩))
       go_ret
       exact ⟨⟨_, rfl, .inl ⟨i, hi, rfl, hk0, hkn, by rw [Int.toNat_natCast, ← HX.out]⟩⟩, rfl⟩
     · have hkn' : (n : Int) ≤ k := by omega
       clear h2 c2 c3 hr
       go_enter Tryz.func76, Tryz.ntmps76
       go_wp2_with (go_at_call 103; refine hcls.mono ?_; clear hcls; rintro e w' ⟨rfl, rfl⟩)
       go_ret
       exact ⟨⟨_, rfl, .inr ⟨by omega, rfl⟩⟩, rfl⟩
   · have hk0' : k < 0 := by omega
     clear h2 c2 c3 hr
     go_enter Tryz.func76, Tryz.ntmps76
     go_wp2_with (go_at_call 103; refine hcls.mono ?_; clear hcls; rintro e w' ⟨rfl, rfl⟩)
     go_ret
     exact ⟨⟨_, rfl, .inr ⟨by omega, rfl⟩⟩, rfl⟩
 · rw [decide_eq_false hj] at hcls
   go_enter Tryz.func76, Tryz.ntmps76
   go_wp2_with (go_at_call 103; refine hcls.mono ?_; clear hcls; rintro e w' ⟨rfl, rfl⟩)
   go_ret
   exact ⟨⟨_, rfl, .inr ⟨by omega, rfl⟩⟩, rfl⟩
end
end Go.Proofs.YtgngaldoemopjaaGreatDoor.U
namespace Go.Proofs.YtgngaldoemopjaaGreatDoor.U
open Go.RowKit Go.Shelf
set_option maxHeartbeats 2000000 in
theorem of1_any (f r : Int) (c : Nat) (w : World) : Calls Tryz.prog 57 #[.agg #[.int .i32 f, .int .i64 (c : Int)], .int .i32 r] w fun e w' => e = .returned (.int .i64 (if f ≤ r then -1 else 1)) ∧ Below w.heap.size w w' := by
 have hb := al1 w (.cells #[.int .i32 f, .int .i64 (c : Int)] 123)
 have hc := (cells_two (World.alloc_heap_new w (.cells #[.int .i32 f, .int .i64 (c : Int)] 123))).1
 by_cases h : f ≤ r
 · go_enter Tryz.func57, Tryz.ntmps57
   go_wp2
   go_ret
   exact ⟨rfl, hb⟩
 · have h' : r < f := by omega
   go_enter Tryz.func57, Tryz.ntmps57
   go_wp2
   go_ret
   exact ⟨rfl, hb⟩
theorem RdP.later {w w' : World} {aps : Option Addr} {ps : List (Int × Nat)} (h : RdP w aps ps) (hb : Below w.heap.size w w') : RdP w' aps ps := fun i hi => by
 obtain ⟨g, off, e, c1, c2⟩ := h i hi
 exact ⟨g, off, e, cell_later hb c1, cell_later hb c2⟩
def Cnt (ps : List (Int × Nat)) (r : Int) (k : Nat) : Prop := k ≤ ps.length ∧ (∀ i (h : i < ps.length), i < k → ps[i].1 ≤ r) ∧ (∀ i (h : i < ps.length), k ≤ i → r < ps[i].1)
set_option maxRecDepth 100000 in
set_option maxHeartbeats 4000000 in
theorem bsf_any (aps : Option Addr) (cps : Nat) (ps : List (Int × Nat)) (r : Int) (hl : ps.length ≤ 10000000) (hs : ps.Pairwise fun a b => a.1 < b.1) (w : World) (h : RdP w aps ps) :
   Calls Tryz.prog 56 #[.slice aps ps.length cps, .int .i32 r, .func (.func 57) #[] #[]] w fun e w' => ∃ (k : Nat) (v : Value), e = .returned (.tuple #[.int .i64 (k : Int), v]) ∧ Cnt ps r k ∧ Below w.heap.size w w' := by
 have hsm : ∀ i j (hi : i < ps.length) (hj : j < ps.length), i < j → ps[i].1 < ps[j].1 := fun i j hi hj hij => List.pairwise_iff_getElem.1 hs i j hi hj hij
 have HS := hide hsm
 clear hs hsm
 go_enter Tryz.func56, Tryz.ntmps56
 go_wp2
 go_loopw [9, 10] (fun v u wr => ∃ (i j : Nat), v = .int .i64 (i : Int) ∧ u = .int .i64 (j : Int) ∧ i ≤ j ∧ j ≤ ps.length ∧ Hid (∀ t (h : t < ps.length), t < i → ps[t].1 ≤ r) ∧ Hid (∀ t (h : t < ps.length), j ≤ t → r < ps[t].1) ∧ Below w.heap.size w wr) (fun v u _ => (intOf u).toNat - (intOf v).toNat)
 case atStart => exact ⟨0, ps.length, rfl, rfl, Nat.zero_le _, Nat.le_refl _, hide (fun t _ h => by omega), hide (fun t h h2 => by omega), Below.refl _ _⟩
 case round =>
   obtain ⟨i, j, rfl, rfl, h1, h2, HA, HB, hb⟩ := hrel
   by_cases hlt : i < j
   · have hm : (i + j) / 2 < ps.length := by omega
     obtain ⟨g, off, rfl, c1, c2⟩ := (h.later hb) ((i + j) / 2) hm
     have hi1 : i ≤ (i + j) / 2 := by omega
     have hi2 : (i + j) / 2 < j := by omega
     obtain ⟨fq, hfq⟩ : ∃ fq, fq = ps[(i + j) / 2].1 := ⟨_, rfl⟩
     obtain ⟨cq, hcq⟩ : ∃ cq, cq = ps[(i + j) / 2].2 := ⟨_, rfl⟩
     rw [← hfq] at c1
     rw [← hcq] at c2
     have HF := hide hfq
     clear hfq hcq
     have hcall := of1_any fq r cq wr
     by_cases hle : fq ≤ r
     · rw [if_pos hle] at hcall
       go_wp2_with (go_at_call 57; refine hcall.mono ?_; clear hcall; rintro e w2 ⟨rfl, hb2⟩)
       go_roundw
       case rel =>
         refine ⟨(i + j) / 2 + 1, j, by go_num, rfl, by omega, h2, hide (fun t ht htk => ?_), HB, nx hb hb2⟩
         rcases Nat.lt_or_ge t ((i + j) / 2) with h3 | h3
         · have := HS.out t ((i + j) / 2) ht hm h3
           rw [← HF.out] at this
           omega
         · obtain rfl : t = (i + j) / 2 := by omega
           rw [← HF.out]; exact hle
       case measure => simp [intOf]; omega
     · rw [if_neg hle] at hcall
       go_wp2_with (go_at_call 57; refine hcall.mono ?_; clear hcall; rintro e w2 ⟨rfl, hb2⟩)
       go_roundw
       case rel =>
         refine ⟨i, (i + j) / 2, rfl, by go_num, hi1, by omega, HA, hide (fun t ht htk => ?_), nx hb hb2⟩
         rcases Nat.lt_or_ge ((i + j) / 2) t with h3 | h3
         · have := HS.out ((i + j) / 2) t hm ht h3
           rw [← HF.out] at this
           omega
         · obtain rfl : t = (i + j) / 2 := by omega
           rw [← HF.out]; omega
       case measure => simp [intOf]; omega
   · obtain rfl : i = j := by omega
     have hcnt : Cnt ps r i := ⟨h2, HA.out, HB.out⟩
     have HC := hide hcnt
     clear hcnt
     by_cases hil : i < ps.length
     · obtain ⟨g, off, rfl, c1, c2⟩ := (h.later hb) i hil
       obtain ⟨fq, hfq⟩ : ∃ fq, fq = ps[i].1 := ⟨_, rfl⟩
       obtain ⟨cq, hcq⟩ : ∃ cq, cq = ps[i].2 := ⟨_, rfl⟩
       rw [← hfq] at c1
       rw [← hcq] at c2
       have hle : ¬ fq ≤ r := by have := HB.out i hil (Nat.le_refl _); omega
       clear hfq hcq
       have hcall := of1_any fq r cq wr
       rw [if_neg hle] at hcall
       go_wp2_with (go_at_call 57; refine hcall.mono ?_; clear hcall; rintro e w2 ⟨rfl, hb2⟩)
       go_ret2
       exact ⟨i, _, rfl, HC.out, nx hb hb2⟩
     · obtain rfl : i = ps.length := by omega
       go_wp2
       go_ret2
       exact ⟨ps.length, _, rfl, HC.out, hb⟩
set_option maxRecDepth 100000 in
set_option maxHeartbeats 4000000 in
theorem cof_any {w : World} {pc n : Nat} {ms : List Nat} {sets : Nat → List S.R} {ps : List (Int × Nat)} (h : Cl w pc n ms sets ps) (hl : ps.length ≤ 10000000) (hs : ps.Pairwise fun a b => a.1 < b.1) (r : Int) :
   Calls Tryz.prog 32 #[.pointer (some ⟨pc, 0, none⟩), .int .i32 r] w fun e w' => ∃ q : Int, e = .returned (.int .i64 q) ∧ Below w.heap.size w w' ∧ ((1114111 < r ∧ q = -1) ∨ (r ≤ 1114111 ∧ Cnt ps r 0 ∧ q = -1) ∨ (r ≤ 1114111 ∧ ∃ k, ∃ hk : k < ps.length, Cnt ps r (k + 1) ∧ q = (ps[k].2 : Int))) := by
 obtain ⟨acl, ccl, aps, cps, h1, _, h3⟩ := h
 have c1 : w.cell? ⟨pc, 2, none⟩ = some (.slice aps ps.length cps) := h1.at2
 by_cases hr : 1114111 < r
 · clear h1
   go_enter Tryz.func32, Tryz.ntmps32
   go_wp2
   go_ret
   exact ⟨-1, rfl, Below.refl _ _, .inl ⟨hr, rfl⟩⟩
 · have hr' : r ≤ 1114111 := by omega
   have hcall := bsf_any aps cps ps r hl hs w h3
   have hpl : pc < w.heap.size := h1.lt
   clear h1
   go_enter Tryz.func32, Tryz.ntmps32
   go_wp2_with fail
   go_at_call 56
   refine hcall.mono ?_
   clear hcall
   rintro e w2 ⟨k, v, rfl, hc, hb2⟩
   have c2 := cell_later hb2 c1
   have h4 := h3.later hb2
   clear c1 h3
   rcases k with _ | k
   · go_wp2
     go_ret
     exact ⟨-1, rfl, hb2, .inr (.inl ⟨hr', hc, rfl⟩)⟩
   · have hk : k < ps.length := by have := hc.1; omega
     obtain ⟨g, off, rfl, _, d2⟩ := h4 k hk
     obtain ⟨cq, hcq⟩ : ∃ cq, cq = ps[k].2 := ⟨_, rfl⟩
     rw [← hcq] at d2
     have HQ := hide hcq
     have HC := hide hc
     clear hcq hc h4
     go_wp2
     go_ret
     exact ⟨cq, rfl, hb2, .inr (.inr ⟨hr', k, hk, HC.out, by rw [HQ.out]⟩)⟩
end Go.Proofs.YtgngaldoemopjaaGreatDoor.U
namespace Go.Proofs.YtgngaldoemopjaaGreatDoor
open Go.RowKit Go.Shelf
attribute [local go_sem] Oper.semAt_some
namespace SB
theorem mod_step (m p : Nat) : m % 2 ^ (p + 1) = m % 2 ^ p ||| (if m.testBit p then 2 ^ p else 0) := by
 refine Nat.eq_of_testBit_eq fun j => ?_
 rw [Nat.testBit_or, Nat.testBit_mod_two_pow, Nat.testBit_mod_two_pow]
 by_cases hj : j < p
 · have h1 : j < p + 1 := by omega
   have h2 : j ≠ p := by omega
   cases m.testBit p
   · simp [hj, h1]
   · simp [hj, h1, Ne.symm h2]
 · by_cases e : j = p
   · subst e
     cases hm : m.testBit j
     · simp
     · simp
   · have h1 : ¬ j < p + 1 := by omega
     cases m.testBit p
     · simp [hj, h1]
     · simp [hj, h1, Ne.symm e]
def partU (n : Nat) (l : List Nat) : List Value := l.map (fun (x : Nat) => Value.int .u64 (x : Int)) ++ List.replicate (n - l.length) (.int .u64 0)
theorem partU_at {n : Nat} (l : List Nat) (x : Nat) : (partU n (l ++ [x]))[l.length]? = some (.int .u64 (x : Int)) := by
 unfold partU
 rw [List.map_append, List.append_assoc, List.getElem?_append_right (by simp)]
 simp
theorem partU_set {n : Nat} (l : List Nat) (x y : Nat) : (partU n (l ++ [x])).set l.length (.int .u64 (y : Int)) = partU n (l ++ [y]) := by
 unfold partU
 rw [List.map_append, List.map_append, List.append_assoc, List.append_assoc, List.set_append, if_neg (by simp)]
 simp
theorem partU_zero {n : Nat} {l : List Nat} (h : l.length < n) : partU n (l ++ [0]) = partU n l := by
 unfold partU
 obtain ⟨d, hd⟩ : ∃ d, n - l.length = d + 1 := ⟨n - l.length - 1, by omega⟩
 rw [List.length_append, hd, List.map_append, List.append_assoc, show n - (l.length + [0].length) = d by simp; omega, List.replicate_succ]
 rfl
theorem partU_full (l : List Nat) : partU l.length l = u64s l := by simp [partU, u64s]
end SB
theorem mk_u64s (n : Nat) (hn : n ≤ 1000000) (w : World) : (Instr.makeSlice 43 (.int .i64 (n : Int)) (.int .i64 (n : Int))).run Tryz.prog w = .ok (.slice (some ⟨w.heap.size, 0, none⟩) n n) (w.alloc (.cells (SB.partU n []).toArray 35)) := by
 obtain ⟨i0, hi0, hz0, hz1, hz2⟩ : ∃ i, Tryz.prog.info? 35 = some i ∧ i.zero = some (.int .u64 0) ∧ i.size = 1 ∧ i.bytes = 8 := by
   have h := info35U
   cases hi : Tryz.prog.info? 35 with
   | none => rw [hi] at h; cases h
   | some i => rw [hi] at h; simp at h; exact ⟨i, rfl, h.1, h.2.1, h.2.2⟩
 have := run_make (P := Tryz.prog) (w := w) 43 35 i0 (.int .u64 0) Tryz.underlying43 hi0 hz0 .i64 .i64 (n : Int) (n : Int) (by omega) (by omega) (by rw [hz2]; omega) (by omega)
 have e : madeCells (Value.int .u64 0).cells n = (SB.partU n []).toArray := by
   rw [← Array.toList_inj]
   exact (toList_madeCells_one _ n).trans (by simp [SB.partU])
 rw [this, hz1, Int.toNat_natCast, Nat.mul_one, e]
set_option maxRecDepth 100000 in
set_option maxHeartbeats 8000000 in
theorem members_any {w : World} {pc n : Nat} {ms : List Nat} {sets : Nat → List U.S.R} {ps : List (Int × Nat)} (h : U.Cl w pc n ms sets ps) (hms : ∀ m ∈ ms, m < 2 ^ 64) (hn : n ≤ 60) (hl : ms.length ≤ 700000) :
   Calls Tryz.prog 41 #[.pointer (some ⟨pc, 0, none⟩)] w fun e W => ∃ g, e = .returned (.slice (some ⟨g, 0, none⟩) ms.length ms.length) ∧ W.heap[g]? = some (.cells (SB.u64s (ms.map (· % 2 ^ n))).toArray 35 (0, 0)) ∧ Below w.heap.size w W := by
 have hcl := U.clen_any h
 have hmk := mk_u64s ms.length (by omega) w
 have b1 := al1 w (.cells (SB.partU ms.length []).toArray 35)
 have n1 := heap_alloc_new w (.cells (SB.partU ms.length []).toArray 35)
 obtain ⟨X, hX⟩ : ∃ X, w.alloc (.cells (SB.partU ms.length []).toArray 35) = X := ⟨_, rfl⟩
 rw [hX] at hmk b1 n1
 obtain ⟨g, hg⟩ : ∃ g, w.heap.size = g := ⟨_, rfl⟩
 rw [hg] at hmk n1
 have es := elemSize43
 have HC := hide (fun W (hb : Below w.heap.size w W) => U.Cl.later h hb)
 clear h hX
 go_enter Tryz.func41, Tryz.ntmps41
 go_wp2_with fail
 refine hcl.mono ?_
 rintro e W0 ⟨rfl, rfl⟩
 clear hcl
 go_wp2
 clear hmk
 go_loopw [11] (fun u wr => ∃ i : Nat, u = .int .i64 (i : Int) ∧ i ≤ ms.length ∧ Hid (wr.heap[g]? = some (.cells (SB.partU ms.length ((ms.take i).map (· % 2 ^ n))).toArray 35 (0, 0))) ∧ Below W0.heap.size W0 wr) (fun u _ => ms.length - (intOf u).toNat)
 case atStart => exact ⟨0, rfl, Nat.zero_le _, hide n1, b1⟩
 case round =>
   obtain ⟨i, rfl, hi, HR, hB⟩ := hrel
   by_cases hlt : i < ms.length
   · have hst := U.sets_any (HC.out wr hB)
     have hl1 : ((ms.take i).map (· % 2 ^ n)).length = i := by rw [List.length_map, List.length_take]; omega
     have HT : Hid ((ms.take (i + 1)).map (· % 2 ^ n) = (ms.take i).map (· % 2 ^ n) ++ [ms[i] % 2 ^ n]) := hide (by rw [List.take_succ_eq_append_getElem hlt, List.map_append]; rfl)
     have hm64 := hms ms[i] (List.getElem_mem hlt)
     obtain ⟨l, hle⟩ : ∃ l, (ms.take i).map (· % 2 ^ n) = l := ⟨_, rfl⟩
     rw [hle] at HR hl1 HT
     have HCI := hide (show ∀ W, Below W0.heap.size W0 W → ∀ p : Nat, p < n → Calls Tryz.prog 76 #[.pointer (some ⟨pc, 0, none⟩), .int .i64 (i : Int), .int .i64 (p : Int)] W fun e w' => e = .returned (.bool (ms[i].testBit p)) ∧ w' = W from fun W hb p hp => (U.cin_any (HC.out W hb) hms (by omega) (i : Int) (p : Int)).mono fun e w' ⟨⟨b, he, hc⟩, hw⟩ => by
       refine ⟨?_, hw⟩
       rcases hc with ⟨i', hi', e1, _, _, e2⟩ | ⟨hn, _⟩
       · obtain rfl : i = i' := by omega
         rw [he, e2, Int.toNat_natCast]
       · exact absurd ⟨by omega, by omega, by omega, by omega⟩ hn)
     generalize ms[i] = m at *
     clear hle
     go_wp2_with fail
     refine hst.mono ?_
     rintro e W1 ⟨rfl, rfl⟩
     clear hst
     go_wp2
     go_loopw [16] (fun u wr => ∃ p : Nat, u = .int .i64 (p : Int) ∧ p ≤ n ∧ Hid (wr.heap[g]? = some (.cells (SB.partU ms.length (l ++ [m % 2 ^ p])).toArray 35 (0, 0))) ∧ Below W0.heap.size W0 wr) (fun u _ => n - (intOf u).toNat)
     case atStart => exact ⟨0, rfl, Nat.zero_le _, hide (by rw [show m % 2 ^ 0 = 0 by rw [Nat.pow_zero, Nat.mod_one], SB.partU_zero (by omega)]; exact HR.out), hB⟩
     case round =>
       obtain ⟨p, rfl, hp, HQ, hBq⟩ := hrel
       by_cases hpl : p < n
       · have hin := HCI.out wr hBq p hpl
         have hlo : m % 2 ^ p < 2 ^ 64 := Nat.lt_of_le_of_lt (Nat.mod_le _ _) hm64
         have hST := SB.mod_step m p
         have h62 : (2 : Nat) ^ p < 2 ^ 62 := Nat.pow_lt_pow_right (by decide) (by omega)
         have ho := bits_or_u64_nat (m % 2 ^ p) (2 ^ p) hlo (Nat.lt_trans h62 (by decide))
         have hsh : IntKind.u64.wrap ((2 : Int) ^ p) = ((2 ^ p : Nat) : Int) := by
           rw [show ((2 : Int) ^ p) = ((2 ^ p : Nat) : Int) by simp]
           obtain ⟨q, hq⟩ : ∃ q, (2 : Nat) ^ p = q := ⟨_, rfl⟩
           rw [hq] at h62 ⊢
           rw [show (2 : Nat) ^ 62 = 4611686018427387904 from rfl] at h62
           exact IntWalk.u64_in _ ⟨by omega, by omega⟩
         have hp64 : (p : Int) ≤ 64 := by omega
         obtain ⟨x, hx⟩ : ∃ x, m % 2 ^ p = x := ⟨_, rfl⟩
         obtain ⟨q, hq⟩ : ∃ q, (2 : Nat) ^ p = q := ⟨_, rfl⟩
         rw [hx] at HQ ho hST
         rw [hq] at ho hsh hST
         have HSTp := hide hST
         clear hx hq h62 hlo hST hm64
         cases hb : m.testBit p
         · rw [hb] at hin HSTp
           clear ho hsh
           go_wp2_with fail
           refine hin.mono ?_
           rintro e W2 ⟨rfl, rfl⟩
           clear hin
           go_wp2
           go_roundw
           case rel => exact ⟨p + 1, by go_num, by omega, hide (by rw [HSTp.out]; simpa using HQ.out), hBq⟩
           case measure => simp [intOf] <;> omega
         · rw [hb] at hin HSTp
           have hrw := HQ.out
           have hci := cells_idx (i := i) hrw (by rw [← hl1]; exact SB.partU_at l x)
           have hfz : wr.frozen? ⟨g, i, none⟩ = false := U.frozen_at hrw
           have hsz : i < ms.length := hlt
           have hset := cells_set (i := i) (v := .int .u64 ((x ||| q : Nat) : Int)) hrw
           have hps := SB.partU_set (n := ms.length) l x (x ||| q)
           rw [hl1] at hps
           rw [hps] at hset
           have HSE := hide hset
           have HBS := hide (show Below W0.heap.size W0 (wr.setCell ⟨g, i, none⟩ (.int .u64 ((x ||| q : Nat) : Int))) from ⟨hBq.os, hBq.tape, hBq.output, by have := hBq.size; simp [World.setCell]; omega, fun j hj => (Below.heap_setCell _ _ _ _ (show j ≠ g by omega)).trans (hBq.block j hj)⟩)
           clear hrw hset hps
           go_wp2_with fail
           refine hin.mono ?_
           rintro e W2 ⟨rfl, rfl⟩
           clear hin
           go_wp2
           go_region
           go_wp2
           go_roundw
           case rel => exact ⟨p + 1, by go_num, by omega, hide (by rw [HSTp.out]; exact HSE.out), ⟨HBS.out.os, HBS.out.tape, HBS.out.output, HBS.out.size, HBS.out.block⟩⟩
           case measure => simp [intOf] <;> omega
       · obtain rfl : p = n := by omega
         go_wp2
         go_roundw
         case rel => exact ⟨i + 1, by go_num, by omega, hide (by rw [HT.out]; exact HQ.out), hBq⟩
         case measure => simp [intOf] <;> omega
   · obtain rfl : i = ms.length := by omega
     have HF := HR.out
     rw [List.take_length] at HF
     have hpf := SB.partU_full (ms.map (· % 2 ^ n))
     rw [List.length_map] at hpf
     rw [hpf] at HF
     have HF2 := hide HF
     clear HF hpf
     go_wp2
     go_ret
     exact ⟨g, rfl, HF2.out, hB⟩
end Go.Proofs.YtgngaldoemopjaaGreatDoor
namespace Go.Proofs.YtgngaldoemopjaaGreatDoor
open Go.RowKit Go.Shelf
attribute [local go_sem] Oper.semAt_some
def l3 (p : Value × List U.S.R) : U.L3 := match p.1 with
 | .slice a _ c => (a, c, p.2)
 | _ => (none, 0, p.2)
theorem l3_set (p : Value × List U.S.R) : (l3 p).2.2 = p.2 := by unfold l3; split <;> rfl
theorem OwnL.rds {W : World} {B : Nat} {v : Value} {l : List (Value × List U.S.R)} (h : OwnL W B v l) : ∃ ao c, v = .slice ao (l.map l3).length c ∧ (l.map l3).length ≤ c ∧ U.RdS W ao (l.map l3) := by
 have hr : ∀ p ∈ l, ∃ a c, p.1 = .slice a p.2.length c ∧ U.RdR W a p.2 := fun p hp => by
   obtain ⟨a, c, e, _, _, hr⟩ := (h.row p hp).rd
   exact ⟨a, c, e, hr⟩
 rw [List.length_map]
 obtain ⟨_, ⟨rfl, h2⟩ | ⟨g, cap, cur, rfl, hb, hg, hn, hm, hs, ht⟩⟩ := h.own
 · refine ⟨none, 0, by rw [h2], by omega, fun i hi => ?_⟩
   rw [List.length_map] at hi
   omega
 · refine ⟨_, _, rfl, hn, fun i hi => ?_⟩
   rw [List.length_map] at hi
   obtain ⟨a, c, e1, hr1⟩ := hr l[i] (List.getElem_mem hi)
   have e : (cur.toList.take (l.length * 1))[i]? = (l.map (·.1))[i]? := by rw [ht]
   rw [Nat.mul_one, List.getElem?_take, if_pos hi, List.getElem?_map, List.getElem?_eq_getElem hi, Option.map_some, e1] at e
   have e3 : (l.map l3)[i]'(by rw [List.length_map]; exact hi) = (a, c, l[i].2) := by rw [List.getElem_map]; unfold l3; rw [e1]
   refine ⟨g, 0, rfl, ?_, ?_⟩
   · rw [e3]
     simp only [World.cell?, hg, Nat.zero_add]
     rw [← Array.getElem?_toList]
     exact e
   · rw [e3]; exact hr1
theorem rdK_later {w w' : World} {acl : Option Addr} {ms : List Nat} {sets : Nat → List U.S.R} (h : U.RdK w acl ms sets) (hb : Below w.heap.size w w') : U.RdK w' acl ms sets := fun i hi => by
 obtain ⟨g, off, ao, c, e, c1, c2, r, hn⟩ := h i hi
 exact ⟨g, off, ao, c, e, cell_later hb c1, cell_later hb c2, r.later hb, hn⟩
theorem StW.rows {W : World} {B P M n : Nat} {bh : Nat → Nat} {ac : Nat → Bool} {fs L : List Nat} {v : Value} {l : List St3} (h : StW W B P M n bh ac fs L v l) (hl : l.length = L.length) :
   ∃ so sc, v = .slice so L.length sc ∧ ∀ j (hj : j < L.length), ∃ g gr, so = some ⟨g, 0, none⟩ ∧ W.cell? ⟨g, j * 3, none⟩ = some (.int .u64 (L[j] : Int)) ∧ W.cell? ⟨g, j * 3 + 1, none⟩ = some (.bool (ac L[j])) ∧ W.cell? ⟨g, j * 3 + 2, none⟩ = some (.slice (some ⟨gr, 0, none⟩) n n) ∧
     ∀ c (hc : c < fs.length), W.cell? ⟨gr, c, none⟩ = some (.int .i64 (L.idxOf (bh L[j] &&& fs[c]) : Int)) := by
 rcases h.own with ⟨_, ⟨rfl, h2⟩ | ⟨g, cap, cur, rfl, hb, hg, hn, hm, hs, ht⟩⟩
 · refine ⟨none, 0, by rw [← hl, h2], fun j hj => by omega⟩
 · refine ⟨some ⟨g, 0, none⟩, cap, by rw [hl], fun j hj => ?_⟩
   have hj' : j < l.length := by omega
   obtain ⟨h2, e1, e2⟩ := h.at_ j hj'
   obtain ⟨_, _, _, hrow, _⟩ := h.row l[j] (List.getElem_mem hj')
   obtain ⟨f0, f1, f2⟩ := flat3_at n l j hj'
   have key : ∀ q u, q < l.length * 3 → (flat3 n l)[q]? = some u → W.cell? ⟨g, q, none⟩ = some u := fun q u hq hu => by
     have e : (cur.toList.take (l.length * 3))[q]? = (flat3 n l)[q]? := by rw [ht]
     rw [List.getElem?_take, if_pos hq, hu] at e
     simp only [World.cell?, hg]
     rw [← Array.getElem?_toList]
     exact e
   refine ⟨g, l[j].g, rfl, by rw [← e1]; exact key _ _ (by omega) f0, by rw [← e2]; exact key _ _ (by omega) f1, key _ _ (by omega) f2, fun c hc => ?_⟩
   rw [e1] at hrow
   refine cells_idx hrow ?_
   unfold SB.rowI
   rw [List.getElem?_map, List.getElem?_map, List.getElem?_eq_getElem hc]
   rfl
def DAt (W : World) (D : Nat) (a : PA.Au) (ms : List Nat) (ps : List (Int × Nat)) (L : List Nat) : Prop :=
 ∃ sets so sc, U.Cl W D a.pl.length ms sets ps ∧ W.cell? ⟨D, 3, none⟩ = some (.slice so L.length sc) ∧
   ∀ j (h : j < L.length), ∃ g gr, so = some ⟨g, 0, none⟩ ∧ W.cell? ⟨g, j * 3, none⟩ = some (.int .u64 (L[j] : Int)) ∧ W.cell? ⟨g, j * 3 + 1, none⟩ = some (.bool (PA.acc a L[j])) ∧ W.cell? ⟨g, j * 3 + 2, none⟩ = some (.slice (some ⟨gr, 0, none⟩) ms.length ms.length) ∧
     ∀ c (hc : c < ms.length), W.cell? ⟨gr, c, none⟩ = some (.int .i64 (L.idxOf (PA.behind a L[j] &&& (ms[c] % 2 ^ a.pl.length)) : Int))
theorem DAt.later {W W' : World} {D : Nat} {a : PA.Au} {ms : List Nat} {ps : List (Int × Nat)} {L : List Nat} (h : DAt W D a ms ps L) (hb : Below W.heap.size W W') : DAt W' D a ms ps L := by
 obtain ⟨sets, so, sc, h1, h2, h3⟩ := h
 refine ⟨sets, so, sc, h1.later hb, cell_later hb h2, fun j hj => ?_⟩
 obtain ⟨g, gr, e, c0, c1, c2, h4⟩ := h3 j hj
 exact ⟨g, gr, e, cell_later hb c0, cell_later hb c1, cell_later hb c2, fun c hc => cell_later hb (h4 c hc)⟩
noncomputable def pcs (ls : List U.L3) : List (U.S.R × Nat) := U.pieces (U.endsZ ls)
namespace SB
def fsOf (a : PA.Au) (ms : List Nat) : List Nat := ms.map (· % 2 ^ a.pl.length)
end SB
theorem bh_lt {a : PA.Au} (hg : PA.Good a) (m : Nat) : PA.behind a m < 2 ^ 64 := PA.up (PA.behind_lt hg m) (by have := hg.len; omega)
theorem gr_ok (a : PA.Au) (ms : List Nat) (k : Nat) : ∀ m ∈ SB.gr (PA.behind a) (SB.fsOf a ms) k, m = PA.bg ∨ m < 2 ^ a.pl.length := by
 have hf : ∀ b f, f ∈ SB.fsOf a ms → b &&& f < 2 ^ a.pl.length := fun b f hf => by
   obtain ⟨m, _, rfl⟩ := List.mem_map.1 hf
   exact Nat.and_lt_two_pow _ (Nat.mod_lt _ (Nat.two_pow_pos _))
 exact SB.gr_mem (Q := fun m => m = PA.bg ∨ m < 2 ^ a.pl.length) (.inl rfl) (fun m _ f h => .inr (hf _ f h)) (fun f h => .inr (hf _ f h)) k
def AnsDN (a : PA.Au) (w : World) (e : Ending) (W : World) : Prop :=
 Below w.heap.size w W ∧ ∃ ls : List U.L3, ls.map (·.2.2) = a.pl.map (·.1) ∧
   ((e = .returned (.tuple #[.pointer none, .int .i64 140]) ∧ ∃ k, k < (SB.gr (PA.behind a) (SB.fsOf a (U.msOf (pcs ls))) k).length ∧ (∀ j ≤ k, (SB.gr (PA.behind a) (SB.fsOf a (U.msOf (pcs ls))) j).length ≤ 128) ∧ 128 < (SB.gr (PA.behind a) (SB.fsOf a (U.msOf (pcs ls))) (k + 1)).length) ∨
    (∃ D k, e = .returned (.tuple #[.pointer (some ⟨D, 0, none⟩), .int .i64 0]) ∧ (SB.gr (PA.behind a) (SB.fsOf a (U.msOf (pcs ls))) k).length = k ∧ (∀ j < k, j < (SB.gr (PA.behind a) (SB.fsOf a (U.msOf (pcs ls))) j).length) ∧ k ≤ 128 ∧
       DAt W D a (U.msOf (pcs ls)) (U.psOf (U.msOf (pcs ls)) (pcs ls)) (SB.gr (PA.behind a) (SB.fsOf a (U.msOf (pcs ls))) k)))
set_option maxRecDepth 100000 in
set_option maxHeartbeats 2000000 in
theorem snew_any {w : World} {B A : Nat} {a : PA.Au} (h : AutoAt w B A a.w a.pl) (hg : PA.Good a) (hd : Deb w) :
   Calls Tryz.prog 23 #[.pointer (some ⟨A, 0, none⟩)] w fun e W => AnsDN a w e W := by
 have hs := sets39 h hg
 have HA := hide (fun W (hb : Below w.heap.size w W) => (⟨h.later hb, hd.later hb⟩ : AutoAt W B A a.w a.pl ∧ Deb W))
 have hl60 := hg.len
 clear h hd
 go_enter Tryz.func23, Tryz.ntmps23
 go_wp2_with fail
 refine hs.mono ?_
 rintro e W1 ⟨v, l, rfl, hl, hO, hb1⟩
 obtain ⟨so, sc, rfl, hcap, hrd⟩ := hO.rds
 have hls : (l.map l3).map (·.2.2) = a.pl.map (·.1) := by
   rw [← hl, List.map_map]
   exact List.map_congr_left fun p _ => l3_set p
 obtain ⟨ls, hlse⟩ : ∃ ls, l.map l3 = ls := ⟨_, rfl⟩
 rw [hlse] at hls hcap hrd ⊢
 have hlen : ls.length = a.pl.length := by have := congrArg List.length hls; simpa using this
 have hl2 : ∀ p ∈ ls, p.2.2.length ≤ 5000 := fun p hp => by
   have h1 : p.2.2 ∈ a.pl.map (·.1) := by rw [← hls]; exact List.mem_map_of_mem (f := fun q : U.L3 => q.2.2) hp
   obtain ⟨q, hq, e⟩ := List.mem_map.1 h1
   have := hg.set q hq
   rw [← e]
   omega
 have hcut := U.cut_any so sc ls hcap hl2 W1 hrd
 have htk : ls.take 64 = ls := List.take_of_length_le (by omega)
 rw [htk] at hcut
 have HLS := hide hls
 have hz := U.endsZ_in ls (by omega)
 have hp2 := U.pieces_in hz
 have hzl := U.endsZ_length ls (by omega) hl2
 have hml := U.msOf_length (pcs ls)
 have hm64 : ∀ m ∈ U.msOf (pcs ls), m < 2 ^ 64 := fun m hm => by
   obtain ⟨p, hp, rfl⟩ := (U.msOf_mem _ _).1 hm
   exact (hp2.2 p hp).2.2.2
 have hmsl : (U.msOf (pcs ls)).length ≤ 700000 := by have := hp2.1; unfold pcs at hml ⊢; omega
 have HLEN := hide hlen
 clear hs hl hO hls hl2 htk hz hp2 hzl hml hlse hlen
 go_wp2_with fail
 refine hcut.mono ?_
 rintro e W2 ⟨rfl, e0, he0, hst⟩
 obtain ⟨hcl, hb2⟩ := hst.cl
 rw [show U.pieces (U.endsZ ls) = pcs ls from rfl, HLEN.out] at hcl
 have hB2 := nx hb1 hb2
 obtain ⟨pc, hpc⟩ : ∃ pc, W1.heap.size = pc := ⟨_, rfl⟩
 rw [hpc] at hcl
 have hmem := members_any hcl hm64 hl60 hmsl
 have HCL := hide hcl
 clear hcut hst he0 hcl
 rw [hpc]
 clear hpc
 go_wp2_with fail
 refine hmem.mono ?_
 rintro e W3 ⟨gm, rfl, hgm, hb3⟩
 have hB3 := nx hB2 hb3
 have hgl := (Array.getElem?_eq_some_iff.1 hgm).1
 have hfl : (SB.fsOf a (U.msOf (pcs ls))).length = (U.msOf (pcs ls)).length := by unfold SB.fsOf; rw [List.length_map]
 have hU : RdU W3 W3.heap.size (some ⟨gm, 0, none⟩) (SB.fsOf a (U.msOf (pcs ls))) := fun i hi => ⟨gm, 0, rfl, hgl, by
   rw [Nat.zero_add]
   refine cells_idx hgm ?_
   unfold SB.u64s
   rw [show (U.msOf (pcs ls)).map (· % 2 ^ a.pl.length) = SB.fsOf a (U.msOf (pcs ls)) from rfl, List.getElem?_map, List.getElem?_eq_getElem hi]
   rfl⟩
 have hso := statesOf_any W3 A (some ⟨gm, 0, none⟩) (U.msOf (pcs ls)).length (SB.fsOf a (U.msOf (pcs ls))) (PA.behind a) (PA.acc a) (by rw [hfl]; exact hmsl) hU
   (fun x hx => by
     obtain ⟨m, _, rfl⟩ := List.mem_map.1 hx
     exact Nat.lt_of_lt_of_le (Nat.mod_lt _ (Nat.two_pow_pos _)) (Nat.pow_le_pow_right (by decide) (by omega)))
   (bh_lt hg)
   (fun k m hm => by
     rcases gr_ok a _ k m hm with rfl | h1
     · decide
     · exact Nat.lt_of_lt_of_le h1 (Nat.pow_le_pow_right (by decide) (by omega)))
   (fun W hb m hm => AutoAt.accept (a := a) (HA.out W (nx hB3 hb)).1 hg m hm)
   (fun W P M vm L k c f hb hk j m hm => bhd_any (a := a) hk hl60 (fun i => by
       unfold PA.fol
       cases hi : a.pl[i]? with
       | none => exact Nat.two_pow_pos _
       | some p => exact PA.up (hg.fl p (List.mem_of_getElem? hi)) (by omega))
     (fun W' hb' => AutoAt.first (a := a) (HA.out W' (nx hB3 (nx hb hb'))).1)
     (fun W' hb' i hi => by
       have h1 := AutoAt.follow (a := a) (HA.out W' (nx hB3 (nx hb hb'))).1 (i : Int)
       have e : folI a (i : Int) = PA.fol a i := by unfold folI; rw [if_pos (by omega), Int.toNat_natCast]
       rw [e] at h1
       exact h1)
     (fun W' hb' => (HA.out W' (nx hB3 (nx hb hb'))).2) m (gr_ok a _ j m hm))
 rw [hfl] at hso
 clear hfl
 have HC3 := hide (HCL.out.later hb3)
 clear hmem hgm hU
 go_wp2_with fail
 refine hso.mono ?_
 rintro e W4 ⟨hans, hb4⟩
 have hB4 := nx hB3 hb4
 have HC4 := hide (HC3.out.later hb4)
 clear hso
 rcases hans with ⟨rfl, hbig⟩ | ⟨vs, k, l4, P, M, rfl, hk1, hkj, hk2, hk3, hW⟩
 · have HF := hide (show AnsDN a w (.returned (.tuple #[.pointer none, .int .i64 140])) W4 from ⟨hB4, ls, HLS.out, .inl ⟨rfl, hbig⟩⟩)
   clear hbig
   go_wp2
   exact bodyPost_ret (v := .tuple #[.pointer none, .int .i64 140]) (by simp [results, Tryz.results23, go_sem]) rfl HF.out
 · obtain ⟨so4, sc4, rfl, hrows⟩ := hW.rows (by rw [hk1, hk3])
   obtain ⟨acl, ccl, aps, cps, hHd, hK, hPs⟩ := HC4.out
   have c0 := hHd.at0
   have c1 := hHd.at1
   have c2 := hHd.at2
   have bD := al1 W4 (.cells #[.int .i64 (a.pl.length : Int), .slice acl (U.msOf (pcs ls)).length ccl, .slice aps (U.psOf (U.msOf (pcs ls)) (pcs ls)).length cps, .slice so4 (SB.gr (PA.behind a) (SB.fsOf a (U.msOf (pcs ls))) k).length sc4] 72)
   have nD := heap_alloc_new W4 (.cells #[.int .i64 (a.pl.length : Int), .slice acl (U.msOf (pcs ls)).length ccl, .slice aps (U.psOf (U.msOf (pcs ls)) (pcs ls)).length cps, .slice so4 (SB.gr (PA.behind a) (SB.fsOf a (U.msOf (pcs ls))) k).length sc4] 72)
   obtain ⟨X, hX⟩ : ∃ X, W4.alloc (.cells #[.int .i64 (a.pl.length : Int), .slice acl (U.msOf (pcs ls)).length ccl, .slice aps (U.psOf (U.msOf (pcs ls)) (pcs ls)).length cps, .slice so4 (SB.gr (PA.behind a) (SB.fsOf a (U.msOf (pcs ls))) k).length sc4] 72) = X := ⟨_, rfl⟩
   rw [hX] at bD nD
   have HF := hide (show AnsDN a w (.returned (.tuple #[.pointer (some ⟨W4.heap.size, 0, none⟩), .int .i64 0])) X from ⟨nx hB4 bD, ls, HLS.out, .inr ⟨_, k, rfl, hk1, hkj, hk2, _, so4, sc4, ⟨acl, ccl, aps, cps, ⟨_, _, nD, rfl, rfl, rfl⟩, rdK_later hK bD, U.RdP.later hPs bD⟩, U.cell_at nD rfl, fun j hj => by
     obtain ⟨g, gr, e, d0, d1, d2, d3⟩ := hrows j hj
     refine ⟨g, gr, e, cell_later bD d0, cell_later bD d1, cell_later bD d2, fun c hc => ?_⟩
     have hc2 : c < (SB.fsOf a (U.msOf (pcs ls))).length := by unfold SB.fsOf; rw [List.length_map]; exact hc
     have h5 := cell_later bD (d3 c hc2)
     have e6 : (SB.fsOf a (U.msOf (pcs ls)))[c] = (U.msOf (pcs ls))[c] % 2 ^ a.pl.length := by simp [SB.fsOf]
     rw [e6] at h5
     exact h5⟩⟩)
   clear hW hK hPs hHd hrows bD nD hk1 hkj hk2 hk3
   go_wp2
   exact bodyPost_ret (v := .tuple #[.pointer (some ⟨W4.heap.size, 0, none⟩), .int .i64 0]) (by simp [results, Tryz.results23, go_sem]) rfl HF.out
end Go.Proofs.YtgngaldoemopjaaGreatDoor
