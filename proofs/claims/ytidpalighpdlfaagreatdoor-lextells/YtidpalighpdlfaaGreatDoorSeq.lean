/- The iterator over a list of bytes: whatever a round does that keeps the bytes, it is told each sequence in its order, and no more once it says so. -/
import Derived.RangeFuncNested
import Derived.RangeFuncBound
import Derived.RangeFuncCalls
import Derived.RangeFuncLeaves
import Derived.RangeFuncBox
import Derived.Shelf.Abstract
import Derived.OwnWalkIn
import Derived.TacticsInMore
import Derived.LoopNIn
import Derived.LoopIn
import Derived.Maps.AppendAt
import Derived.Test.YtidpalighpdlfaaGreatDoorDec
namespace Go.Proofs.YtidpalighpdlfaaGreatDoor
open Go.RowKit Go.Shelf
attribute [local go_sem] Oper.semAt_some

/-- What a round is told. -/
def encS (x : M.Sq) : Array Value := #[.agg #[.int .i64 (x.1 : Int), .int .i32 (x.2.1 : Int), .bool x.2.2]]

/-- What the iterator reads: the box of its slice, the bytes, the library's tables. -/
structure St (Bn : Nat) (ao : Option Addr) (cap : Nat) (bs : List UInt8) (W : World) : Prop where
  box : W.cell? ⟨Bn, 0, none⟩ = some (.slice ao bs.length cap)
  rd : Rd W ao (cB bs)
  tabs : Tabs W
theorem St.kept {Bn : Nat} {ao : Option Addr} {cap : Nat} {bs : List UInt8} {W W' : World} {row : Option Nat} (h : St Bn ao cap bs W) (hg : W.grownBy W' row) (hr : ∀ r, row = some r → ∃ o : Obj, W.heap[r]? = some o ∧ o.isCells = false) : St Bn ao cap bs W' :=
  ⟨cell_kept h.box hg hr, fun i hi => let ⟨b, off, e, hc⟩ := h.rd i hi; ⟨b, off, e, cell_kept hc hg hr⟩,
    ⟨fun c hc => cell_kept (h.tabs.1 c hc) hg hr, fun i hi => ⟨cell_kept (h.tabs.2 i hi).1 hg hr, cell_kept (h.tabs.2 i hi).2 hg hr⟩⟩⟩

set_option maxRecDepth 100000 in
set_option maxHeartbeats 2000000 in
theorem seq1_in (n : Nat) (hn : 1 ≤ n) (l Bn : Nat) (ao : Option Addr) (cap : Nat) (bs : List UInt8) (hl : bs.length ≤ 1000000) (hcap : bs.length ≤ cap) (hnil : ao = none → cap = 0) (J Jx : List M.Sq → World → Prop)
    (W : World) (hJ : AbidesFrom W.heap.size J)
    (hY : ∀ pre x W1, J pre W1 → pre.length < (M.rs 0 bs).length → YieldAt Fence.wide (n - 1) Tryz.prog l (encS x) W1 fun e W' =>
      (e = .returned (.bool true) ∧ J (pre ++ [x]) W' ∧ (St Bn ao cap bs W1 → St Bn ao cap bs W')) ∨ (e = .returned (.bool false) ∧ Jx (pre ++ [x]) W'))
    (hS : St Bn ao cap bs W) (h0 : J [] W) :
    CallsIn Fence.wide n Tryz.prog 82 #[.func (.yield l) #[] #[], .pointer (some ⟨Bn, 0, none⟩)] W fun e W' => (∃ v, e = .returned v) ∧
      ((∃ ys, ys = M.rs 0 bs ∧ J ys W') ∨ (∃ pre, pre <+: M.rs 0 bs ∧ Jx pre W')) := by
  refine callsIn_of_wp Tryz.func82 rfl trivial ?_ rfl
  simp only [Tryz.ntmps82, List.size_toArray, List.length_cons, List.length_nil, Nat.reduceAdd, Nat.reduceSub, Array.replicate_succ, Array.replicate_zero, List.push_toArray, List.append_toArray, List.nil_append, List.cons_append]
  gi_wp2
  gi_loopw [3] (fun p wr => ∃ (pre : List M.Sq) (k : Nat), p = .int .i64 (k : Int) ∧ k ≤ bs.length ∧ Hid (M.rs 0 bs = pre ++ M.rs k (bs.drop k)) ∧ J pre wr ∧ St Bn ao cap bs wr)
    (fun p _ => bs.length - (intOf p).toNat)
  case atStart => exact ⟨[], 0, rfl, Nat.zero_le _, by rw [List.drop_zero]; exact rfl, h0, hS⟩
  case round =>
    obtain ⟨pre, k, rfl, hk, HP, hJs, hSs⟩ := hrel
    have hbox := hSs.box
    by_cases hlt : k < bs.length
    · obtain ⟨a1, c1, hr1, _, _, hcut⟩ := cut_from (T := 40) Tryz.underlying40 elemSize40 wr ao (cB bs) bs.length cap k (cB_length bs) hk hcap hnil hSs.rd
      obtain ⟨ds, hds⟩ : ∃ ds, ds = bs.drop k := ⟨_, rfl⟩
      have hdl : ds.length = bs.length - k := by rw [hds, List.length_drop]
      rw [show (cB bs).drop k = cB ds by rw [hds]; simp [cB]] at hr1
      rw [← hdl] at hcut
      have hne : ds ≠ [] := by intro e; rw [e] at hdl; simp at hdl; omega
      have hsz := M.dec_size hne
      have HQ : Hid (M.rs 0 bs = pre ++ ((k, (M.dec ds).1, M.ok (M.dec ds)) :: M.rs (k + (M.dec ds).2) (bs.drop (k + (M.dec ds).2)))) := by
        show _ = _
        rw [HP.out, ← hds, M.rs_step k hne, hds, List.drop_drop]
      clear HP
      have hD := decode_any a1 c1 ds hne wr hSs.tabs hr1
      have hd1 : k + ds.length ≤ bs.length := by omega
      have hpl : pre.length < (M.rs 0 bs).length := by rw [HQ.out, List.length_append, List.length_cons]; omega
      clear hds hne hdl
      generalize M.dec ds = d at *
      obtain ⟨p, m⟩ := d
      simp only at hsz hD HQ
      obtain ⟨hm1, hm2, hm4⟩ := hsz
      obtain ⟨g, hg⟩ : ∃ g, M.ok (p, m) = g := ⟨_, rfl⟩
      rw [hg] at HQ
      have HG : Hid (M.ok (p, m) = g) := hg
      clear hg
      have hnext : ∀ w2 : World, Below wr.heap.size wr w2 → ∃ fn tmps assign body, (Instr.yield l #[.agg #[.int .i64 (k : Int), .int .i32 (p : Int), .bool g]]).run Tryz.prog w2 = .ok (.round l fn tmps assign body) w2 ∧
          RoundIn Fence.wide (n - 1) Tryz.prog l fn tmps assign body w2 (fun e W' => (e = .returned (.bool true) ∧ J (pre ++ [(k, p, g)]) W' ∧ St Bn ao cap bs W') ∨ (e = .returned (.bool false) ∧ Jx (pre ++ [(k, p, g)]) W')) := by
        intro w2 hb2
        have hg2 := grown_below hb2 none
        have hJ2 : J pre w2 := hJ pre wr w2 none hJs hg2 (fun r e => by cases e)
        have hS2 : St Bn ao cap bs w2 := hSs.kept hg2 (fun r e => by cases e)
        obtain ⟨fn, tmps, assign, body, hy, hR⟩ := hY pre (k, p, g) w2 hJ2 hpl
        refine ⟨fn, tmps, assign, body, hy, hR.mono ?_⟩
        rintro e W' (⟨h1, h2, h3⟩ | h)
        · exact .inl ⟨h1, h2, h3 hS2⟩
        · exact .inr h
      clear hY hJs hSs hS h0 hJ hr1
      have hcase : (((p : Int) != 65533) = true ∧ g = true) ∨ (((p : Int) != 65533) = false ∧ decide ((1 : Int) < (m : Int)) = true ∧ g = true) ∨ (((p : Int) != 65533) = false ∧ decide ((1 : Int) < (m : Int)) = false ∧ g = false) := by
        rw [← HG.out]
        unfold M.ok
        by_cases h1 : p = 65533
        · by_cases h2 : 1 < m
          · exact .inr (.inl ⟨by simp; omega, by simp; omega, by simp [h2]⟩)
          · exact .inr (.inr ⟨by simp; omega, by simp; omega, by simp [h1, h2]⟩)
        · exact .inl ⟨by simp; omega, by simp [h1]⟩
      rcases hcase with ⟨hp, rfl⟩ | ⟨hp, hm, rfl⟩ | ⟨hp, hm, rfl⟩
      all_goals
        gi_wp2_with (refine ⟨trivial, ?_⟩; gi_at_call 83; refine (callsIn_wide.2 hD).mono ?_; rintro e w2 ⟨rfl, hb2⟩; obtain ⟨fn, tmps, assign, body, hy, hR⟩ := hnext w2 hb2)
        refine hR.mono ?_
        rintro e W3 (⟨rfl, hJ3, hS3⟩ | ⟨rfl, hJx3⟩)
        · gi_wp2
          go_roundw
          case rel => exact ⟨_, k + m, by go_num, by omega, by rw [List.append_assoc]; exact HQ, hJ3, hS3⟩
          case measure => simp [intOf]; omega
        · gi_wp2
          refine bodyPost_ret (results_none rfl _ _ _) rfl ?_
          exact ⟨⟨_, rfl⟩, .inr ⟨_, ⟨_, by rw [List.append_assoc]; exact HQ.out.symm⟩, hJx3⟩⟩
    · obtain rfl : k = bs.length := by omega
      have HE : Hid (M.rs 0 bs = pre) := by show _ = _; rw [HP.out, List.drop_length, M.rs_nil, List.append_nil]
      clear HP
      gi_wp2
      go_end0
      exact ⟨⟨_, rfl⟩, .inl ⟨_, HE.out.symm, hJs⟩⟩

set_option maxHeartbeats 1000000 in
theorem seq_in (n : Nat) (ao : Option Addr) (len cap : Nat) (w : World) :
    CallsIn Fence.wide n Tryz.prog 65 #[.slice ao len cap] w fun e w' => e = .returned (.func (.func 82) #[] #[.pointer (some ⟨w.heap.size, 0, none⟩)]) ∧ w' = w.alloc (.cells #[.slice ao len cap] 40) := by
  refine callsIn_of_wp Tryz.func65 rfl trivial ?_ rfl
  simp only [Tryz.ntmps65, List.size_toArray, List.length_cons, List.length_nil, Nat.reduceAdd, Nat.reduceSub, Array.replicate_succ, Array.replicate_zero, List.push_toArray, List.append_toArray, List.nil_append, List.cons_append]
  gi_wp2
  go_ret
  exact ⟨rfl, rfl⟩

theorem seq_stops (n : Nat) (hn : 1 ≤ n) (Bn : Nat) (ao : Option Addr) (cap : Nat) (bs : List UInt8) (hl : bs.length ≤ 1000000) (hcap : bs.length ≤ cap) (hnil : ao = none → cap = 0) (w : World) (hS : St Bn ao cap bs w) :
    SeqStopsK Fence.wide n Tryz.prog 82 #[.pointer (some ⟨Bn, 0, none⟩)] encS (fun A B => St Bn ao cap bs A → St Bn ao cap bs B) (fun ys => ys = M.rs 0 bs) (fun pre => pre <+: M.rs 0 bs) (M.rs 0 bs).length w := fun l J Jx W hW hJ _ hY h0 =>
  seq1_in n hn l Bn ao cap bs hl hcap hnil J Jx W hJ hY (hS.kept (grown_below hW none) (fun r e => by cases e)) h0
end Go.Proofs.YtidpalighpdlfaaGreatDoor
