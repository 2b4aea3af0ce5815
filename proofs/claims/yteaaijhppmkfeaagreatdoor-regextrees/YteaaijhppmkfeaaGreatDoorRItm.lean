/- item of regex's reader. -/
import Derived.Test.YteaaijhppmkfeaaGreatDoorRSpn
import Derived.Test.YteaaijhppmkfeaaGreatDoorRJG
namespace Go.Proofs.YteaaijhppmkfeaaGreatDoor
open Go.RowKit
open E (T tk isS rpt beg)
theorem pset_any (s : List UInt8) (w : World) : Calls Tryz.prog 199 #[.string ⟨s.toArray⟩] w fun e W' => ∃ ao cap, e = .returned (.tuple #[.slice ao (U.tl s).length cap, .int .i64 (U.eNo (U.kn s))]) ∧ U.RdR W' ao (U.tl s) ∧ (ao = none → cap = 0) ∧ Below w.heap.size w W' := by
 have h := U.set_any ⟨s.toArray⟩ w
 rw [show (⟨s.toArray⟩ : ByteArray).toList = s from by rw [ByteArray.toList_eq]] at h
 exact h
set_option maxRecDepth 100000 in
set_option maxHeartbeats 2000000 in
theorem item_any {w : World} {R : Nat} {ao : Option Addr} {cap : Nat} {l : List E.Tok} {i o : Nat} (h : Rdr w R ao cap l i o) (hl : l.length ≤ 1000000) (hg : E.Good l) :
   Calls Tryz.prog 216 #[.pointer (some ⟨R, 0, none⟩)] w (AnsI (E.item l i) R ao cap l o w) := by
 have hn := next_any h
 have hsp := fun (W : World) (hR : Rdr W R ao cap l i o) (h4 : (tk l i).1.kind = 4) => span_any hR hl hg h4
 have HI : Hid (E.item l i = _) := hide (by unfold E.item; rfl)
 have hlt : (tk l i).1.kind = 5 → i < l.length := fun h5 => E.tk_lt (by omega)
 have hRl := h.lt
 generalize E.item l i = r at *
 generalize tk l i = t at *
 unfold tokV at hn
 by_cases h4 : t.1.kind = 4
 · have e4 : ((t.1.kind : Int) == 4) = true := by simp [h4]
   clear HI hlt
   go_enter Tryz.func216, Tryz.ntmps216
   go_wp2_with fail
   refine hn.mono ?_
   rintro e w1 ⟨rfl, hb1⟩
   have hB := nx hb1 (al1 w1 (.cells #[.int .i64 (t.1.kind : Int), .int .i64 (t.2 : Int), .string ⟨t.1.text.toArray⟩, .int .i32 t.1.r] 77))
   have hs := hsp _ (h.later hB) h4
   clear h4 hsp
   go_wp2_with fail
   refine hs.mono ?_
   rintro e w2 ⟨hk, ⟨s, j, sp, sc, rfl, rfl, hr, hn2, hR2⟩ | ⟨c, j, sp, sl, sc, rfl, rfl, hc, hR2⟩⟩
   · have HN := hide hn2
     have HK := hide ((Kp.of hB).nx hB.size hk)
     clear hn2 hk
     go_wp2
     exact bodyPost_ret (v := .tuple #[.slice sp s.length sc, .int .i64 0]) (by simp [results, Tryz.results216, go_sem]) rfl ⟨HK.out, .inl ⟨s, j, sp, sc, rfl, rfl, hr, HN.out, hR2⟩⟩
   · have HC := hide hc
     have HK := hide ((Kp.of hB).nx hB.size hk)
     clear hc hk
     go_wp2
     exact bodyPost_ret (v := .tuple #[.slice sp sl sc, .int .i64 (c : Int)]) (by simp [results, Tryz.results216, go_sem]) rfl ⟨HK.out, .inr ⟨c, j, sp, sl, sc, rfl, rfl, HC.out, hR2⟩⟩
 have e4 : ((t.1.kind : Int) == 4) = false := by simp; omega
 rw [if_neg h4] at HI
 clear h4 hsp
 by_cases h5 : t.1.kind = 5
 · have e5 : ((t.1.kind : Int) == 5) = true := by simp [h5]
   have hi := hlt h5
   rw [if_pos h5] at HI
   clear h5 hlt
   go_enter Tryz.func216, Tryz.ntmps216
   go_wp2_with fail
   refine hn.mono ?_
   rintro e w1 ⟨rfl, hb1⟩
   have hB := nx hb1 (al1 w1 (.cells #[.int .i64 (t.1.kind : Int), .int .i64 (t.2 : Int), .string ⟨t.1.text.toArray⟩, .int .i32 t.1.r] 77))
   have hps := pset_any t.1.text (w1.alloc (.cells #[.int .i64 (t.1.kind : Int), .int .i64 (t.2 : Int), .string ⟨t.1.text.toArray⟩, .int .i32 t.1.r] 77))
   cases hkn : U.kn t.1.text with
   | true =>
     rw [hkn] at hps HI
     rw [if_pos rfl] at HI
     generalize U.tl t.1.text = zs at *
     have HL : Hid (zs.length = zs.length) := hide rfl
     go_wp2_with fail
     refine hps.mono ?_
     rintro e w2 ⟨sp, sc, rfl, hr, hn2, hb2⟩
     have hB2 := nx hB hb2
     have hR2 := h.later hB2
     obtain ⟨c0, c1, c2⟩ := hR2.cells
     have f1 := hR2.frz 1
     have hR3 := hR2.put (i + 1)
     have HK := hide ((Kp.of hB2).set (p := ⟨R, 1, none⟩) (.inl rfl) (.int .i64 ((i + 1 : Nat) : Int)))
     have hr3 := rdr_but (W := w2.setCell ⟨R, 1, none⟩ (.int .i64 ((i + 1 : Nat) : Int))) hr (fun k _ hk => Below.heap_setCell _ _ _ _ hk) hR2.noI
     have HE : ((i + 1 : Nat) : Int) = (i : Int) + 1 := by omega
     rw [HE] at hR3 HK hr3
     have HN := hide hn2
     clear hn2 HE
     unfold U.eNo
     go_wp2
     exact bodyPost_ret (v := .tuple #[.slice sp zs.length sc, .int .i64 0]) (by simp [results, Tryz.results216, go_sem]) rfl ⟨HK.out, .inl ⟨zs, i + 1, sp, sc, HI.out, rfl, hr3, HN.out, hR3⟩⟩
   | false =>
     rw [hkn] at hps HI
     rw [if_neg (by decide)] at HI
     generalize U.tl t.1.text = zs at *
     go_wp2_with fail
     refine hps.mono ?_
     rintro e w2 ⟨sp, sc, rfl, hr, hn2, hb2⟩
     have hB2 := nx hB hb2
     have hR2 := h.later hB2
     clear hn2 hr
     unfold U.eNo
     go_wp2
     exact bodyPost_ret (v := .tuple #[.slice sp zs.length sc, .int .i64 50]) (by simp [results, Tryz.results216, go_sem]) rfl ⟨Kp.of hB2, .inr ⟨50, i, sp, zs.length, sc, HI.out, rfl, rfl, hR2⟩⟩
 · have e5 : ((t.1.kind : Int) == 5) = false := by simp; omega
   rw [if_neg h5] at HI
   clear h5 hlt
   go_enter Tryz.func216, Tryz.ntmps216
   go_wp2_with fail
   refine hn.mono ?_
   rintro e w1 ⟨rfl, hb1⟩
   have hB := nx hb1 (al1 w1 (.cells #[.int .i64 (t.1.kind : Int), .int .i64 (t.2 : Int), .string ⟨t.1.text.toArray⟩, .int .i32 t.1.r] 77))
   have hR2 := h.later hB
   go_wp2
   exact bodyPost_ret (v := .tuple #[.slice none 0 0, .int .i64 70]) (by simp [results, Tryz.results216, go_sem]) rfl ⟨Kp.of hB, .inr ⟨70, i, none, 0, 0, HI.out, rfl, rfl, hR2⟩⟩
end Go.Proofs.YteaaijhppmkfeaaGreatDoor
