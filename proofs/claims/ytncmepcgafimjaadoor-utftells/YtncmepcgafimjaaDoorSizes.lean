/- The walk of UtfSizes: it answers true whatever the number, and nothing that was there has turned. -/
import Derived.Test.YtncmepcgafimjaaDoorKnown
namespace Go.Proofs.YtncmepcgafimjaaDoor
open Go.RowKit

theorem encs_one (r : Int) : M.encs [r] = M.enc r := by unfold M.encs; simp
theorem rs_one (r : Int) : M.rs 0 (M.encs [r]) = [(0, (M.dec (M.encs [r])).1, M.ok (M.dec (M.encs [r])))] := by
  have hl := M.enc_length r
  have hd := M.dec_enc r []
  rw [List.append_nil] at hd
  rw [encs_one]
  have hne : M.enc r ≠ [] := by intro h; rw [h] at hl; simp at hl
  rw [M.rs_step 0 hne, hd.2.1, List.drop_length]
  rfl
theorem pts_one (r : Int) : M.pts (M.encs [r]) = [M.fix r] := by
  have := M.pts_encs [r] []
  rw [List.append_nil] at this
  rw [this]
  rfl
theorem sts_one (r : Int) : M.sts (M.encs [r]) = [0] := by unfold M.sts; rw [rs_one]; rfl

theorem sizes_cases (r : Int) : (r < 0 ∧ (M.encs [r]).length = 3 ∧ M.fix r = 65533) ∨ (0 ≤ r ∧ r ≤ 127 ∧ (M.encs [r]).length = 1 ∧ M.fix r = r) ∨ (128 ≤ r ∧ r ≤ 2047 ∧ (M.encs [r]).length = 2 ∧ M.fix r = r) ∨ (2048 ≤ r ∧ r ≤ 55295 ∧ (M.encs [r]).length = 3 ∧ M.fix r = r) ∨
    (55296 ≤ r ∧ r ≤ 57343 ∧ (M.encs [r]).length = 3 ∧ M.fix r = 65533) ∨ (57344 ≤ r ∧ r ≤ 65535 ∧ (M.encs [r]).length = 3 ∧ M.fix r = r) ∨ (65536 ≤ r ∧ r ≤ 1114111 ∧ (M.encs [r]).length = 4 ∧ M.fix r = r) ∨ (1114112 ≤ r ∧ (M.encs [r]).length = 3 ∧ M.fix r = 65533) := by
  rw [encs_one]
  unfold M.fix
  by_cases h0 : r < 0
  · exact .inl ⟨h0, by rw [M.enc_bad (by omega)]; rfl, if_neg (by omega)⟩
  by_cases h1 : r ≤ 127
  · exact .inr (.inl ⟨by omega, h1, by rw [M.enc_one (by omega) h1]; rfl, if_pos (by omega)⟩)
  by_cases h2 : r ≤ 2047
  · exact .inr (.inr (.inl ⟨by omega, h2, by rw [M.enc_two (by omega) h2]; rfl, if_pos (by omega)⟩))
  by_cases h3 : r ≤ 55295
  · exact .inr (.inr (.inr (.inl ⟨by omega, h3, by rw [M.enc_three (by omega)]; rfl, if_pos (by omega)⟩)))
  by_cases h4 : r ≤ 57343
  · exact .inr (.inr (.inr (.inr (.inl ⟨by omega, h4, by rw [M.enc_bad (by omega)]; rfl, if_neg (by omega)⟩))))
  by_cases h5 : r ≤ 65535
  · exact .inr (.inr (.inr (.inr (.inr (.inl ⟨by omega, h5, by rw [M.enc_three (by omega)]; rfl, if_pos (by omega)⟩)))))
  by_cases h6 : r ≤ 1114111
  · exact .inr (.inr (.inr (.inr (.inr (.inr (.inl ⟨by omega, h6, by rw [M.enc_four (by omega) h6]; rfl, if_pos (by omega)⟩))))))
  · exact .inr (.inr (.inr (.inr (.inr (.inr (.inr ⟨by omega, by rw [M.enc_bad (by omega)]; rfl, if_neg (by omega)⟩))))))

set_option maxHeartbeats 2000000 in
theorem sizes_any (r : Int) (hr0 : -2147483648 ≤ r) (hr1 : r ≤ 2147483647) (w : World) (ht : Tabs w) :
    Calls Tryd.prog 6 #[.int .i32 r] w fun e w' => e = .returned (.bool true) ∧ Below w.heap.size w w' := by
  have hcs := sizes_cases r
  have HP := hide (pts_one r)
  have HS := hide (sts_one r)
  have HG := hide (M.good_back [r])
  go_enter Tryd.func6, Tryd.ntmps6
  go_wp2_with fail
  refine (known_any w ht).mono ?_
  rintro e w1 ⟨rfl, hb1⟩
  go_wp2_with fail
  refine (bytes_any (some ⟨w1.heap.size, 0, none⟩) 1 [r] (by simp) (fun x hx => by rw [List.mem_singleton.1 hx]; exact ⟨hr0, hr1⟩) _ (rd_new _ _ _ _ _ rfl)).mono ?_
  rintro e w2 ⟨v2, rfl, ho2, hb2⟩
  obtain ⟨bs, hbs⟩ : ∃ bs, bs = M.encs [r] := ⟨_, rfl⟩
  rw [← hbs] at hcs ho2 HP HS HG
  clear hbs
  have hB2 : Below w.heap.size w w2 := (hb1.alloc hb1.size _).trans (hb2.mono (by have := hb1.size; simp; omega))
  clear hb1 hb2
  obtain ⟨ao, cap, rfl, hcap, hn, hrd⟩ := ho2.rd
  rw [cB_length] at hcap ⊢
  have hR := fun (h : bs.length ≤ 100000) => runes_any ao cap bs h hcap hn w2 (ht.later hB2) hrd
  have hGd := fun (w3 : World) (h : bs.length ≤ 100000) (hb : Below w2.heap.size w2 w3) => good_any ao cap bs h hcap hn w3 ((ht.later hB2).later hb) (hrd.later hb)
  rw [HP.out, HS.out] at hR
  rw [HG.out] at hGd
  clear ho2 hrd hcap hn HP HS HG
  generalize bs.length = n at *
  have hd0 : 0 ≤ r → decide (r < 0) = false := fun h => by simp; omega
  have hd1 : r ≤ 1114111 → decide (1114111 < r) = false := fun h => by simp; omega
  rcases hcs with ⟨h1, rfl, hy⟩ | ⟨h1, h2, rfl, hy⟩ | ⟨h1, h2, rfl, hy⟩ | ⟨h1, h2, rfl, hy⟩ | ⟨h1, h2, rfl, hy⟩ | ⟨h1, h2, rfl, hy⟩ | ⟨h1, h2, rfl, hy⟩ | ⟨h1, rfl, hy⟩
  all_goals
    rw [hy] at hR
    clear hy
    try have e0 := hd0 (by omega)
    try have e1 := hd1 (by omega)
    clear hd0 hd1
    go_wp2_with fail
    refine (hR (by omega)).mono ?_
    rintro e w3 ⟨v, u, rfl, hv, hu, hb3⟩
    clear hR
    obtain ⟨ao3, cap3, rfl, _, _, hr3⟩ := hv.rd
    obtain ⟨bo3, bcap3, rfl, _, _, hq3⟩ := hu.rd
    obtain ⟨b, off, rfl, c0⟩ := hr3.rune 0 (by simp)
    obtain ⟨b2, off2, rfl, d0⟩ := hq3.num 0 (by simp)
    simp only [cI_length, cN_length, List.length_cons, List.length_nil, Nat.reduceAdd, List.getElem_cons_zero, Nat.add_zero] at c0 d0 ⊢
    clear hr3 hq3 hv hu
    go_wp2_with fail
    refine (hGd w3 (by omega) hb3).mono ?_
    rintro e w4 ⟨rfl, hb4⟩
    go_wp2
    go_ret
    exact ⟨rfl, hB2.trans ((hb3.trans (hb4.mono hb3.size)).mono hB2.size)⟩
end Go.Proofs.YtncmepcgafimjaaDoor
