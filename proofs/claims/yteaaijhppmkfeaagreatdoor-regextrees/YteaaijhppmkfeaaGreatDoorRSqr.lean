/- square of regex's reader. -/
import Derived.Test.YteaaijhppmkfeaaGreatDoorRItm
namespace Go.Proofs.YteaaijhppmkfeaaGreatDoor
open Go.RowKit
open E (T tk isS rpt beg)
def AnsN (r : E.Res) (R : Nat) (ao : Option Addr) (cap : Nat) (l : List E.Tok) (o : Nat) (w : World) (e : Ending) (w' : World) : Prop :=
 Kp w.heap.size R w w' ∧ ((∃ t j v, r = .ok (t, j) ∧ e = .returned (.tuple #[v, .int .i64 0]) ∧ TR w' (fun b => w.heap.size ≤ b) t v ∧ Rdr w' R ao cap l j o) ∨
   ∃ (c j : Nat) (d : ND) (o' : Nat), r = .error (c, j) ∧ e = .returned (.tuple #[d.v, .int .i64 (c : Int)]) ∧ (((c : Int) != 0) = true) ∧ Rdr w' R ao cap l j o')
def rdAt (w : World) (R : Nat) : Nat := match w.cell? ⟨R, 1, none⟩ with | some (.int _ n) => n.toNat | _ => 0
theorem Rdr.at_ {w : World} {R : Nat} {ao : Option Addr} {cap : Nat} {l : List E.Tok} {i o : Nat} (h : Rdr w R ao cap l i o) : rdAt w R = i := by
 unfold rdAt
 rw [h.cells.2.1]
 simp
theorem ownR_at {w W : World} {B : Nat} {e : TypeId} {v : Value} {xs : List U.S.R} (h : U.OwnR w B e v xs) (hs : ∀ k, B ≤ k → k < w.heap.size → W.heap[k]? = w.heap[k]?) : U.OwnR W B e v xs := by
 obtain ⟨h1, h2 | ⟨g, cp, cur, h3, h4, h5, h6⟩⟩ := h
 · exact ⟨h1, .inl h2⟩
 · exact ⟨h1, .inr ⟨g, cp, cur, h3, h4, (hs g h4 (Array.getElem?_eq_some_iff.1 h5).1).trans h5, h6⟩⟩
theorem info51k : (Tryz.prog.info? 69).map (fun i => (i.zero, i.size, i.bytes)) = some (some (.agg #[.int .i32 0, .int .i32 0]), 2, 8) := by kernel_rfl
theorem Rdr.below {w W : World} {R n : Nat} {ao : Option Addr} {cap : Nat} {l : List E.Tok} {i o : Nat} (h : Rdr w R ao cap l i o) (hb : Below n w W) (hn : R < n) : Rdr W R ao cap l i o :=
 ⟨(hb.block R hn).trans h.box, fun k hk => by
   obtain ⟨b, off, e, h0, h1, h2, h3⟩ := h.rd k hk
   have hlt := h.lo b off e
   have q : ∀ j, W.cell? ⟨b, j, none⟩ = w.cell? ⟨b, j, none⟩ := fun j => hb.cell (p := ⟨b, j, none⟩) (show b < n by omega)
   exact ⟨b, off, e, by rw [q]; exact h0, by rw [q]; exact h1, by rw [q]; exact h2, by rw [q]; exact h3⟩, h.lo⟩
theorem tr_set {W : World} {ok : Nat → Prop} {sp : Option Addr} {S : E.Rs} (a : Int) (sc : Nat) (hr : U.RdR W sp S) : TR W ok (.mk 1 a S [] []) (.agg #[.int .i64 1, .int .i64 a, .slice sp S.length sc, .string ⟨#[]⟩, .slice none 0 0]) := by
 rw [TR]
 exact ⟨sp, sc, none, 0, rfl, hr, Nat.le_refl _, by rw [KR]; trivial⟩
theorem roomN_noI {W : World} {b : Nat} (h : W.heap[b]? = some roomN) : NoI W b := noI_cells (cs := [_, _, _, _, _]) h rfl
theorem rdr_put {w : World} {sp : Option Addr} {s : E.Rs} {R : Nat} {v : Value} {j : Nat} (h : U.RdR w sp s) (hx : NoI w R) : U.RdR (w.setCell ⟨R, j, none⟩ v) sp s := rdr_but h (fun _ _ hk => Below.heap_setCell _ _ _ _ hk) hx
theorem rdr_putN {w : World} {sp : Option Addr} {s : E.Rs} {b : Nat} {v0 v1 v2 v3 v4 : Value} (h : U.RdR w sp s) (hx : NoI w b) : U.RdR (putN w b v0 v1 v2 v3 v4) sp s := rdr_but h (fun _ _ hk => putN_other hk) hx
theorem nE_cases (xs : E.Rs) : E.nE xs = 0 ∨ E.nE xs = 30 := by
 unfold E.nE
 split
 · exact .inl rfl
 · exact .inr rfl
theorem nL_len (xs : E.Rs) : (E.nL xs).length ≤ 200 := by
 unfold E.nL
 split
 · rename_i q; exact q.2
 · simp
theorem not_len (xs : E.Rs) : (U.S.not xs).length ≤ xs.length + 1 := by
 have h1 := U.S.gaps_length (U.S.set xs) 0
 have h2 := U.S.set_length xs
 unfold U.S.not
 omega
set_option maxRecDepth 100000 in
set_option maxHeartbeats 8000000 in
theorem square_any {w : World} {R : Nat} {ao : Option Addr} {cap : Nat} {l : List E.Tok} {i o : Nat} (h : Rdr w R ao cap l i o) (hl : l.length ≤ 40000) (hg : E.Good l) (hi : i < l.length) :
   Calls Tryz.prog 201 #[.pointer (some ⟨R, 0, none⟩)] w (AnsN (E.square l i) R ao cap l o w) := by
 have HI : Hid (E.square l i = _) := hide (by unfold E.square; rfl)
 generalize E.square l i = r at *
 have hRl := h.lt
 have h1 := h.later (al1 w roomN)
 have hn := next_any h1
 have hit := fun (W : World) (j : Nat) (hR : Rdr W R ao cap l j o) => item_any hR (by omega) hg
 obtain ⟨t, ht⟩ : ∃ t, tk l i = t := ⟨_, rfl⟩
 rw [ht] at hn HI
 clear ht
 unfold tokV at hn
 go_enter Tryz.func201, Tryz.ntmps201
 go_wp2_with fail
 refine hn.mono ?_
 rintro e w1 ⟨rfl, hb1⟩
 have hR1 := h1.later hb1
 obtain ⟨hr0, hbb⟩ := room_kept hb1
 obtain ⟨c0, c1, c2⟩ := hR1.cells
 have f1 := hR1.frz 1
 have hfl := field1 (t.1.kind : Int) (t.2 : Int) t.1.r ⟨t.1.text.toArray⟩
 have hR2 := hR1.put (i + 1)
 have hr2 := (Below.heap_setCell w1 ⟨R, 1, none⟩ (.int .i64 ((i + 1 : Nat) : Int)) w.heap.size (by show w.heap.size ≠ R; omega)).trans hr0
 have hk2 := (Kp.of (x := R) hbb).set (p := ⟨R, 1, none⟩) (.inl rfl) (.int .i64 ((i + 1 : Nat) : Int))
 have HE : ((i + 1 : Nat) : Int) = (i : Int) + 1 := by omega
 rw [HE] at hR2 hr2 hk2
 obtain ⟨w2, hw2⟩ : ∃ w2, w1.setCell ⟨R, 1, none⟩ (.int .i64 ((i : Int) + 1)) = w2 := ⟨_, rfl⟩
 rw [hw2] at hR2 hr2 hk2
 have htk := take_any hR2 (by omega) [94]
 have hst : isS (tk l (i + 1)) [94] = true → i + 1 < l.length := E.isS_lt
 generalize isS (tk l (i + 1)) [94] = nt at *
 go_wp2_with fail
 refine htk.mono ?_
 rintro e w3 ⟨rfl, hR3, hk3⟩
 have hr3 := hk3.keep hr2 (by omega)
 have hk3' := hk2.nx hk2.size hk3
 obtain ⟨j0, HJ⟩ : ∃ j0, Hid ((if nt = true then i + 1 + 1 else i + 1) = j0) := ⟨_, hide rfl⟩
 rw [HJ.out] at hR3
 have hj0 : j0 ≤ l.length := by
   have := HJ.out
   split at this
   · rename_i q; have := hst q; omega
   · omega
 have hsz3 : w.heap.size + 1 ≤ w3.heap.size := (Array.getElem?_eq_some_iff.1 hr3).1
 clear hr0 hr2 hk2 hk3 hR2 hR1 hbb hb1 h1 HE hst hn htk
 go_wp2
 go_loopw [6] (fun v wr => ∃ (j n : Nat) (acc : E.Rs), U.OwnR wr (w.heap.size + 1) 69 v acc ∧ Rdr wr R ao cap l j o ∧ Kp w.heap.size R w wr ∧ wr.heap[w.heap.size]? = some roomN ∧ w.heap.size + 1 ≤ wr.heap.size ∧ j ≤ l.length ∧ Hid (l.length - j < n) ∧ Hid (E.items (l.length + 1) l j0 [] = E.items n l j acc) ∧ acc.length ≤ 8 * j) (fun _ wr => l.length + 1 - rdAt wr R)
 case atStart => exact ⟨j0, l.length + 1, [], U.ownR_nil _ _ _, hR3, hk3', hr3, hsz3, hj0, hide (by omega), hide rfl, by simp⟩
 case round =>
   obtain ⟨j, n, acc, hown, hR, hk, hr0, hsz, hj, HN, HIt, hacc⟩ := hrel
   have hnx := next_any hR
   have HS := fun W => isSign_any (tk l j) [93] W
   obtain ⟨m, HM⟩ : ∃ m, Hid (n = m + 1) := ⟨n - 1, hide (by have := HN.out; omega)⟩
   have hlt93 : isS (tk l j) [93] = true → j < l.length := E.isS_lt
   have HI93 : Hid (E.items (l.length + 1) l j0 [] = if isS (tk l j) [93] = true then .ok (acc, j) else match E.item l j with | .error e => .error e | .ok (s, k) => E.items m l k (acc ++ s)) := hide (by rw [HIt.out, HM.out]; rfl)
   have hij := hit
   generalize tk l j = tj at *
   unfold tokV at hnx HS
   cases hq : isS tj [93] with
   | true =>
     rw [hq] at HS HI93 hlt93
     rw [if_pos rfl] at HI93
     have hjl := hlt93 rfl
     clear hit hij HIt HN HM hlt93 hq
     go_wp2_with fail
     refine hnx.mono ?_
     rintro e x1 ⟨rfl, hb1⟩
     go_wp2_with fail
     refine (HS _).mono ?_
     rintro e x2 ⟨rfl, hb2⟩
     have hB := nx hb1 hb2
     have hR2 := hR.later hB
     have hr2 := (hB.block w.heap.size (by omega)).trans hr0
     have hk2 := hk.nb hk.size hB
     have hown2 := ownR_at hown (fun k _ hk => hB.block k hk)
     obtain ⟨ap, cp, rfl, _, _, hrd⟩ := hown2.rd
     have hnm := U.norm_any ap cp acc (by omega) x2 hrd
     rw [normL_eq, normE_eq] at hnm
     clear hR hr0 hk hown hB hb1 hb2 hnx
     go_wp2_with fail
     refine hnm.mono ?_
     rintro e x3 ⟨sp, sc, rfl, hr3, _, hb3⟩
     have hR3' := hR2.later hb3
     have hr3' := (hb3.block w.heap.size (Array.getElem?_eq_some_iff.1 hr2).1).trans hr2
     have hk3b := hk2.nb hk2.size hb3
     clear hR2 hr2 hk2 hb3 hown2 hrd hnm
     have HLL := hide (nL_len acc)
     rcases nE_cases acc with hz | hz
     · cases nt with
       | false =>
         have HO : Hid (r = .ok (.mk 1 (t.2 : Int) (E.nL acc) [] [], j + 1)) := hide (by
           rw [HI.out]
           rw [show (if false = true then i + 2 else i + 1) = j0 from HJ.out, HI93.out]
           simp [E.finE, E.finS, hz])
         rw [hz]
         generalize E.nL acc = zs at *
         obtain ⟨z0, z1, z2⟩ := hR3'.cells
         have z3 := hR3'.frz 1
         have hRy := hR3'.put (j + 1)
         have hry := (Below.heap_setCell x3 ⟨R, 1, none⟩ (.int .i64 ((j + 1 : Nat) : Int)) w.heap.size (by show w.heap.size ≠ R; omega)).trans hr3'
         have hky := hk3b.set (p := ⟨R, 1, none⟩) (.inl rfl) (.int .i64 ((j + 1 : Nat) : Int))
         have hSy := rdr_put (j := 1) (v := .int .i64 ((j + 1 : Nat) : Int)) hr3 hR3'.noI
         have HE : ((j + 1 : Nat) : Int) = (j : Int) + 1 := by omega
         rw [HE] at hRy hry hky hSy
         clear HE
         obtain ⟨y, hy⟩ : ∃ y, x3.setCell ⟨R, 1, none⟩ (.int .i64 ((j : Int) + 1)) = y := ⟨_, rfl⟩
         rw [hy] at hRy hry hky hSy
         obtain ⟨q0, q1, q2, q3, q4⟩ := cells_five hry
         have g0 := frozen_row hry 0
         have g1 := frozen_row hry 1
         have g2 := frozen_row hry 2
         have g3 := frozen_row hry 3
         have g4 := frozen_row hry 4
         have HKY := hide hky
         have HSY := hide hSy
         clear hky hSy
         go_wp2
         obtain ⟨u0, u1, u2, u3, u4⟩ := cells_five (putN_box (v0 := .int .i64 1) (v1 := .int .i64 (t.2 : Int)) (v2 := .slice sp (zs).length sc) (v3 := .string ⟨#[]⟩) (v4 := .slice none 0 0) hry)
         exact bodyPost_ret (w := putN y w.heap.size _ _ _ _ _) (v := .tuple #[.agg #[.int .i64 1, .int .i64 (t.2 : Int), .slice sp (zs).length sc, .string ⟨#[]⟩, .slice none 0 0], .int .i64 0]) (by simp [results, Tryz.results201, go_sem, u0, u1, u2, u3, u4]) rfl ⟨putN_kp HKY.out (Nat.le_refl _), .inl ⟨_, j + 1, _, HO.out, rfl, tr_set _ _ (rdr_putN HSY.out (roomN_noI hry)), hRy.putN h.lt _ _ _ _ _⟩⟩
       | true =>
         have HO : Hid (r = if E.nE (U.S.not (E.nL acc)) = 0 then .ok (.mk 1 (t.2 : Int) (E.nL (U.S.not (E.nL acc))) [] [], j + 1) else .error (30, j)) := hide (by
           rw [HI.out]
           rw [show (if true = true then i + 2 else i + 1) = j0 from HJ.out, HI93.out]
           simp [E.finE, E.finS, hz])
         rw [hz]
         have hnot := U.not_any sp sc (E.nL acc) (by have := HLL.out; omega) x3 hr3
         have HL2 := hide (not_len (E.nL acc))
         generalize E.nL acc = zs at *
         generalize U.S.not zs = ns at *
         go_wp2_with fail
         refine hnot.mono ?_
         rintro e x4 ⟨np, nc, rfl, hr4, _, hb4⟩
         have hnm := U.norm_any np nc ns (by have := HLL.out; have := HL2.out; omega) x4 hr4
         rw [normL_eq, normE_eq] at hnm
         go_wp2_with fail
         refine hnm.mono ?_
         rintro e x5 ⟨mp, mc, rfl, hr5, _, hb5⟩
         have hB5 := nx hb4 hb5
         have hR5 := hR3'.later hB5
         have hr5' := (hB5.block w.heap.size (Array.getElem?_eq_some_iff.1 hr3').1).trans hr3'
         have hk5 := hk3b.nb hk3b.size hB5
         clear hk3b hr3' hR3' hB5 hb4 hb5 hnot hnm
         rcases nE_cases ns with hz2 | hz2
         · rw [hz2, if_pos rfl] at HO
           rw [hz2]
           generalize E.nL ns = ms at *
           obtain ⟨z0, z1, z2⟩ := hR5.cells
           have z3 := hR5.frz 1
           have hRy := hR5.put (j + 1)
           have hry := (Below.heap_setCell x5 ⟨R, 1, none⟩ (.int .i64 ((j + 1 : Nat) : Int)) w.heap.size (by show w.heap.size ≠ R; omega)).trans hr5'
           have hky := hk5.set (p := ⟨R, 1, none⟩) (.inl rfl) (.int .i64 ((j + 1 : Nat) : Int))
           have hSy := rdr_put (j := 1) (v := .int .i64 ((j + 1 : Nat) : Int)) hr5 hR5.noI
           have HE : ((j + 1 : Nat) : Int) = (j : Int) + 1 := by omega
           rw [HE] at hRy hry hky hSy
           clear HE
           obtain ⟨y, hy⟩ : ∃ y, x5.setCell ⟨R, 1, none⟩ (.int .i64 ((j : Int) + 1)) = y := ⟨_, rfl⟩
           rw [hy] at hRy hry hky hSy
           obtain ⟨q0, q1, q2, q3, q4⟩ := cells_five hry
           have g0 := frozen_row hry 0
           have g1 := frozen_row hry 1
           have g2 := frozen_row hry 2
           have g3 := frozen_row hry 3
           have g4 := frozen_row hry 4
           have HKY := hide hky
           have HSY := hide hSy
           clear hky hSy
           go_wp2
           obtain ⟨u0, u1, u2, u3, u4⟩ := cells_five (putN_box (v0 := .int .i64 1) (v1 := .int .i64 (t.2 : Int)) (v2 := .slice mp (ms).length mc) (v3 := .string ⟨#[]⟩) (v4 := .slice none 0 0) hry)
           exact bodyPost_ret (w := putN y w.heap.size _ _ _ _ _) (v := .tuple #[.agg #[.int .i64 1, .int .i64 (t.2 : Int), .slice mp (ms).length mc, .string ⟨#[]⟩, .slice none 0 0], .int .i64 0]) (by simp [results, Tryz.results201, go_sem, u0, u1, u2, u3, u4]) rfl ⟨putN_kp HKY.out (Nat.le_refl _), .inl ⟨_, j + 1, _, HO.out, rfl, tr_set _ _ (rdr_putN HSY.out (roomN_noI hry)), hRy.putN h.lt _ _ _ _ _⟩⟩
         · rw [hz2, if_neg (by decide)] at HO
           rw [hz2]
           have HCC : ((((30 : Nat) : Int)) != 0) = true := rfl
           obtain ⟨q0, q1, q2, q3, q4⟩ := cells_five hr5'
           have g0 := frozen_row hr5' 0
           have g1 := frozen_row hr5' 1
           have g2 := frozen_row hr5' 2
           have g3 := frozen_row hr5' 3
           have g4 := frozen_row hr5' 4
           have HKY := hide hk5
           have hRz := hide hR5
           clear hk5
           go_wp2
           obtain ⟨u0, u1, u2, u3, u4⟩ := cells_five (putN_box (v0 := .int .i64 0) (v1 := .int .i64 0) (v2 := .slice none 0 0) (v3 := .string ⟨#[]⟩) (v4 := .slice none 0 0) hr5')
           exact bodyPost_ret (w := putN x5 w.heap.size _ _ _ _ _) (v := .tuple #[zN, .int .i64 (30 : Int)]) (by unfold zN; simp [results, Tryz.results201, go_sem, u0, u1, u2, u3, u4]) rfl ⟨putN_kp HKY.out (Nat.le_refl _), .inr ⟨30, _, ⟨0, 0, none, 0, 0, ⟨#[]⟩, none, 0, 0⟩, o, HO.out, rfl, HCC, hRz.out.putN h.lt _ _ _ _ _⟩⟩
     · have HO : Hid (r = .error (30, j)) := hide (by
         rw [HI.out]
         rw [show (if nt = true then i + 2 else i + 1) = j0 from HJ.out, HI93.out]
         simp [E.finE, hz])
       rw [hz]
       have HCC : ((((30 : Nat) : Int)) != 0) = true := rfl
       obtain ⟨q0, q1, q2, q3, q4⟩ := cells_five hr3'
       have g0 := frozen_row hr3' 0
       have g1 := frozen_row hr3' 1
       have g2 := frozen_row hr3' 2
       have g3 := frozen_row hr3' 3
       have g4 := frozen_row hr3' 4
       have HKY := hide hk3b
       have hRz := hide hR3'
       clear hk3b
       go_wp2
       obtain ⟨u0, u1, u2, u3, u4⟩ := cells_five (putN_box (v0 := .int .i64 0) (v1 := .int .i64 0) (v2 := .slice none 0 0) (v3 := .string ⟨#[]⟩) (v4 := .slice none 0 0) hr3')
       exact bodyPost_ret (w := putN x3 w.heap.size _ _ _ _ _) (v := .tuple #[zN, .int .i64 (30 : Int)]) (by unfold zN; simp [results, Tryz.results201, go_sem, u0, u1, u2, u3, u4]) rfl ⟨putN_kp HKY.out (Nat.le_refl _), .inr ⟨30, _, ⟨0, 0, none, 0, 0, ⟨#[]⟩, none, 0, 0⟩, o, HO.out, rfl, HCC, hRz.out.putN h.lt _ _ _ _ _⟩⟩
   | false =>
     rw [hq] at HS HI93
     rw [if_neg (by decide)] at HI93
     clear hit HIt hlt93 hq
     go_wp2_with fail
     refine hnx.mono ?_
     rintro e x1 ⟨rfl, hb1⟩
     go_wp2_with fail
     refine (HS _).mono ?_
     rintro e x2 ⟨rfl, hb2⟩
     have hB := nx hb1 hb2
     have hR2 := hR.later hB
     have hr2 := (hB.block w.heap.size (by omega)).trans hr0
     have hk2 := hk.nb hk.size hB
     have hown2 := ownR_at hown (fun k _ hk => hB.block k hk)
     have hs2 := hB.size
     have hitx := hij x2 j hR2
     have HAT := hide hR.at_
     clear hR hr0 hk hown hB hb1 hb2 hnx hij
     go_wp2_with fail
     refine hitx.mono ?_
     rintro e x3 ⟨hk3, ⟨s, j', sp, sc, hitem, rfl, hr, hn2, hR3⟩ | ⟨c, j', sp, sl, sc, hitem, rfl, hc, hR3⟩⟩
     · have hfar := E.item_far hitem
       rw [hitem] at HI93
       have hr3 := hk3.keep hr2 (by omega)
       have hk3' := hk2.nx hk2.size hk3
       have hown3 := ownR_at hown2 (fun k hk hk' => hk3.block k hk' (by omega))
       have hs3 := hk3.size
       have HNM := hide HM.out
       have HNN := hide HN.out
       clear hk3 hr2 hk2 hown2 hitem hitx
       go_wp2_with (refine U.wpl_appR (T := 23) (e := 69) rfl info51k rfl _ _ rfl (w.heap.size + 1) _ acc sp s _ sc rfl rfl rfl hown3 (by omega) hr hn2 (by omega) ?_; intro v4 x4 hown4 hb4 hg4)
       have hR4 := hR3.below hb4 (by omega)
       have hr4 := (hb4.block w.heap.size (by omega)).trans hr3
       have hk4 := hk3'.trans ((Kp.of hb4).mono (by omega))
       have hs4 := hb4.size
       go_roundw
       case rel => exact ⟨j', m, acc ++ s, hown4, hR4, hk4, hr4, by omega, by omega, hide (by have := HNM.out; have := HNN.out; omega), HI93, by rw [List.length_append]; omega⟩
       case measure => rw [hR4.at_, HAT.out]; omega
     · have HO : Hid (r = .error (c, j')) := hide (by
         rw [HI.out]
         rw [show (if nt = true then i + 2 else i + 1) = j0 from HJ.out, HI93.out, hitem])
       have hr3 := hk3.keep hr2 (by omega)
       have hk3' := hk2.nx hk2.size hk3
       have HCC := hc
       clear hk3 hr2 hk2 hown2 hitem hitx
       obtain ⟨q0, q1, q2, q3, q4⟩ := cells_five hr3
       have g0 := frozen_row hr3 0
       have g1 := frozen_row hr3 1
       have g2 := frozen_row hr3 2
       have g3 := frozen_row hr3 3
       have g4 := frozen_row hr3 4
       have HKY := hide hk3'
       have hRz := hide hR3
       clear hk3'
       go_wp2
       obtain ⟨u0, u1, u2, u3, u4⟩ := cells_five (putN_box (v0 := .int .i64 0) (v1 := .int .i64 0) (v2 := .slice none 0 0) (v3 := .string ⟨#[]⟩) (v4 := .slice none 0 0) hr3)
       exact bodyPost_ret (w := putN x3 w.heap.size _ _ _ _ _) (v := .tuple #[zN, .int .i64 (c : Int)]) (by unfold zN; simp [results, Tryz.results201, go_sem, u0, u1, u2, u3, u4]) rfl ⟨putN_kp HKY.out (Nat.le_refl _), .inr ⟨c, _, ⟨0, 0, none, 0, 0, ⟨#[]⟩, none, 0, 0⟩, o, HO.out, rfl, HCC, hRz.out.putN h.lt _ _ _ _ _⟩⟩
end Go.Proofs.YteaaijhppmkfeaaGreatDoor
