/- The reference's add: a number put into a rising row. -/
import Derived.Laws.CopyOwn
import Derived.Laws.CopyRow
import Derived.Laws.IdiomCopy
import Derived.Test.YtbkcbclloemajaaRefn
import Derived.Test.YtbkcbclloemajaaCute
namespace Go.Proofs.Ytbkcbclloemajaa
open Go.RowKit Go.Shelf

abbrev I32 : Int → Value := Value.int .i32
theorem elemSize27 (w : World) : (sizeOf (Try.prog.elem 27)).run Try.prog w = .ok 1 w := by kernel_rfl
/-- l[k:]. -/
def cutP (g cap k : Nat) : Option Addr := if cap = k then some ⟨g, 0, none⟩ else some ⟨g, k, none⟩
set_option maxRecDepth 100000 in
theorem cut_from (g n cap k : Nat) (hk : k ≤ n) (wx : World) : (Instr.sliceAt 27 (.slice (some ⟨g, 0, none⟩) n cap) (some (.int .i64 (k : Int))) none none).run Try.prog wx = .ok (.slice (cutP g cap k) (n - k) (cap - k)) wx := by
  rw [run_sliceAt_slice (P := Try.prog) wx 27 _ _ _ _ Try.underlying27, run_slice_l (P := Try.prog) (w := wx) 27 (some ⟨g, 0, none⟩) n cap Try.underlying27 .i64 (k : Int) (by omega) (by omega), elemSize27]
  simp only [Result.andThen, sliced, Int.toNat_natCast, cutP, Option.map_some, Addr.add_mid, Nat.mul_one, Nat.zero_add]
theorem Reg.sl {P : Program} {w : World} {ρ : Operand → Value} {o : Oper} {t : TypeId} {x y : Operand} {vx vy u : Value} (hop : o.op = .slice t x (some y) none none) (hx : ρ x = vx) (hy : ρ y = vy) (h : (Instr.sliceAt t vx (some vy) none none).run P w = .ok u w) : (execOp ρ o).run P w = .ok (.value u) w := by
  obtain ⟨dst, op, type, pos, after, guard⟩ := o
  simp only at hop
  subst hop
  simp [execOp, hx, hy, h, Result.andThen]
theorem Reg.cpy {P : Program} {w w' : World} {ρ : Operand → Value} {o : Oper} {t u : TypeId} {x y : Operand} {vx vy v : Value} (hop : o.op = .call { callee := .builtin .copy, args := #[x, y], argTypes := #[t, u] }) (hx : ρ x = vx) (hy : ρ y = vy)
    (h : (Builtin.copy_ #[t, u] o.type #[vx, vy]).run P w = .ok v w') : (execOp ρ o).run P w = .ok (.value v) w' := by
  obtain ⟨dst, op, type, pos, after, guard⟩ := o
  simp only at hop h
  subst hop
  simp [execOp, resolve, invoke, builtin, hx, hy, h, Result.andThen]
theorem Reg.adI {w : World} {ρ : Operand → Value} {o : Oper} {x y : Operand} {m n c : Int} (hop : o.op = .binOp .add 3 x y 3) (hx : ρ x = .int .i64 m) (hy : ρ y = .int .i64 n) (h : IntKind.i64.wrap (m + n) = c) : (execOp ρ o).run Try.prog w = .ok (.value (.int .i64 c)) w := by
  obtain ⟨dst, op, type, pos, after, guard⟩ := o
  simp only at hop
  subst hop
  simp [execOp, hx, hy, eqGuard, h, go_sem]

theorem ins_mem (ty : TypeId) {w : World} {g n cap i : Nat} {cur : Array Value} {fs : List Int} {z : Value} (hn : n = fs.length) (hg : w.heap[g]? = some (.cells cur 21 (0, 0))) (htk : cur.toList.take (n + 1) = fs.map I32 ++ [z]) (hsz : cur.size = cap) (hle : n + 1 ≤ cap) (hi : i ≤ n) :
    ∃ v w' cur' z', (Builtin.copy_ #[27, 27] ty #[.slice (cutP g cap (i + 1)) (n + 1 - (i + 1)) (cap - (i + 1)), .slice (cutP g cap i) (n + 1 - i) (cap - i)]).run Try.prog w = .ok v w' ∧ w'.heap[g]? = some (.cells cur' 21 (0, 0)) ∧ cur'.size = cap ∧ cur'.toList.take (n + 1) = (fs.take i).map I32 ++ z' :: (fs.drop i).map I32 ∧ Chg (fun k => k = g) w w' := by
  subst hn
  by_cases hin : i = fs.length
  · subst hin
    refine ⟨_, w, cur, z, run_copy_none w 27 27 ty 21 _ _ _ _ _ _ Try.underlying27 (by kernel_rfl) (by simp), hg, hsz, ?_, ⟨rfl, rfl, rfl, Nat.le_refl _, fun _ _ _ => rfl⟩⟩
    rw [htk, List.take_length, List.drop_length]
    rfl
  · have hlt : i < fs.length := by omega
    have e1 : cutP g cap (i + 1) = some ⟨g, i + 1, none⟩ := by unfold cutP; rw [if_neg (by omega)]
    have e2 : cutP g cap i = some ⟨g, i, none⟩ := by unfold cutP; rw [if_neg (by omega)]
    have hcs : ((fs.drop i).map I32).length = fs.length - i := by simp
    have hcur : ∀ j (hj : j < fs.length), cur[j]? = some (I32 fs[j]) := fun j hj => by
      have h1 : (cur.toList.take (fs.length + 1))[j]? = (fs.map I32 ++ [z])[j]? := by rw [htk]
      rw [List.getElem?_take, if_pos (by omega), List.getElem?_append_left (by simpa using hj)] at h1
      simpa [hj] using h1
    have hrun := run_copy_row (P := Try.prog) w 27 27 ty 21 g (i + 1) (fs.length + 1 - (i + 1)) (cap - (i + 1)) ⟨g, i, none⟩ (fs.length + 1 - i) (cap - i) cur 21 ((fs.drop i).map I32) Try.underlying27 (by kernel_rfl) hg
      (by rw [hcs]; show _ = min _ _; omega)
      (fun j v hv => by
        have hj : j < fs.length - i := by
          have := (List.getElem?_eq_some_iff.1 hv).1
          rw [hcs] at this
          exact this
        rw [Addr.add_mid]
        refine cell_at hg ?_
        rw [hcur (i + j) (by omega), ← hv]
        simp [List.getElem?_drop, List.getElem?_eq_getElem (show i + j < fs.length by omega)])
      (by rw [hcs]; omega) (fun v hv => by obtain ⟨x, _, rfl⟩ := List.mem_map.1 hv; rfl)
    rw [e1, e2]
    refine ⟨_, _, _, I32 fs[i], hrun, setRow_heap w g cur _ 21 _ hg, ?_, ?_, ⟨rfl, rfl, rfl, by simp [World.setRow], fun k hk hne => setRow_other w g k _ hne⟩⟩
    · simp
      omega
    · have e3 : cur.toList.take (i + 1) = (fs.take i).map I32 ++ [I32 fs[i]] := by
        have : cur.toList.take (i + 1) = (cur.toList.take (fs.length + 1)).take (i + 1) := by rw [List.take_take, Nat.min_eq_left (by omega)]
        rw [this, htk, List.take_append_of_le_length (by rw [List.length_map]; omega), List.take_succ_eq_append_getElem (by rw [List.length_map]; exact hlt), List.getElem_map, List.map_take]
      simp only [List.append_assoc]
      rw [← List.append_assoc, List.take_append_of_le_length (by rw [List.length_append, hcs, List.length_take]; simp; omega), List.take_of_length_le (by rw [List.length_append, hcs, List.length_take]; simp; omega), e3]
      simp
theorem ins_store {w : World} {B g n cap i : Nat} {cur : Array Value} {fs : List Int} {z : Value} (r : Int) (hn : n = fs.length) (hi : i ≤ n) (hB : B ≤ g) (hg : w.heap[g]? = some (.cells cur 21 (0, 0))) (hsz : cur.size = cap) (hle : n + 1 ≤ cap) (hmx : cap ≤ maxLen) (htk : cur.toList.take (n + 1) = (fs.take i).map I32 ++ z :: (fs.drop i).map I32) :
    OwnI (w.setCell ⟨g, i, none⟩ (I32 r)) B (.slice (some ⟨g, 0, none⟩) (n + 1) cap) (fs.take i ++ r :: fs.drop i) ∧ Chg (fun k => k = g) w (w.setCell ⟨g, i, none⟩ (I32 r)) := by
  subst hn
  refine ⟨?_, chg_set w g i _⟩
  have hl : (fs.take i ++ r :: fs.drop i).length = fs.length + 1 := by simp; omega
  unfold OwnI
  rw [hl]
  refine ⟨by simp; omega, .inr ⟨g, cap, _, rfl, hB, (set_at _ hg), hle, hmx, by simp [hsz], ?_⟩⟩
  rw [Nat.mul_one, Array.toList_setIfInBounds, List.take_set, htk, List.set_append_right _ _ (by simp; omega)]
  simp only [List.length_map, List.length_take, Nat.min_eq_left hi, Nat.sub_self, List.set_cons_zero, List.map_append, List.map_cons]

theorem one_new (w : World) (x : Value) (t : TypeId) : ∀ j u, [x][j]? = some u → (w.alloc (.cells #[x] t)).cell? ((⟨w.heap.size, 0, none⟩ : Addr).add j) = some u := by
  intro j u hj
  rw [Addr.add_mid]
  match j, hj with
  | 0, hj => simp at hj; subst hj; exact (Boxed.new w t x).cell
  | j + 1, hj => simp at hj

set_option maxRecDepth 100000 in
set_option maxHeartbeats 4000000 in
theorem add_any (v : Value) (fs : List Int) (r : Int) (B : Nat) (w : World) (ho : OwnI w B v fs) (hB : B ≤ w.heap.size) (hlen : fs.length ≤ 100000) (hr : fs.Pairwise (· < ·)) :
    Calls Try.prog 27 #[v, .int .i32 r] w fun e w' => ∃ v' fs', e = .returned v' ∧ OwnI w' B v' fs' ∧ Ins fs r fs' ∧ Chg (fun k => some k = v.ownBlock) w w' := by
  obtain ⟨i0, hi, hz0, hz1, hz2⟩ := info_parts2 info21
  obtain ⟨ao, cap, rfl, hxx, hrd⟩ := ho.rd
  clear hxx
  obtain ⟨n, hn⟩ : ∃ n, fs.length = n := ⟨_, rfl⟩
  have HN : Hid (n = fs.length) := hide hn.symm
  have HR := hide hr
  have hO : w.ownsRow B 21 1 (.slice ao n cap) n (fs.map (Value.int .i32)) := by have h := ho; unfold OwnI at h; rw [hn] at h; exact h
  have HOW := hide ho
  rw [hn] at hlen HOW ⊢
  clear hn hr ho
  go_enter Try.func27, Try.ntmps27
  go_wp2
  go_loopw [5] (fun u wr => ∃ i : Nat, u = .int .i64 (i : Int) ∧ i ≤ n ∧ Hid (∀ x ∈ fs.take i, x < r) ∧ wr = w) (fun u _ => n - (intOf u).toNat)
  case atStart => exact ⟨0, rfl, Nat.zero_le _, hide (fun x hx => by simp at hx), by first | rfl | trivial⟩
  case round =>
    obtain ⟨i, rfl, hin, HL, rfl⟩ := hrel
    by_cases hlt : i < n
    · have hlf : i < fs.length := by rw [← HN.out]; exact hlt
      obtain ⟨b, off, rfl, hd⟩ := hrd i hlf
      have HX : Hid (fs.take (i + 1) = fs.take i ++ [fs[i]]) := hide (List.take_succ_eq_append_getElem hlf)
      have HD : Hid (∀ q, q < fs[i] → ∀ x ∈ fs.drop i, q < x) := hide fun q hq => rise_drop HR.out hlf hq
      have HM := hide (List.getElem_mem hlf)
      generalize fs[i] = x at *
      by_cases h1 : x < r
      · go_wp2
        go_roundw
        case rel => exact ⟨i + 1, by go_num, by omega, hide (fun y hy => by rw [HX.out] at hy; exact (List.mem_append.1 hy).elim (HL.out y) (fun h => by simp at h; omega)), by first | rfl | trivial⟩
        case measure => simp [intOf]; omega
      · by_cases h2 : x = r
        · subst h2
          have HINS := hide (ins_same HR.out HM.out)
          go_wp2
          go_ret
          exact ⟨_, rfl, fs, HOW.out, HINS.out, ⟨rfl, rfl, rfl, Nat.le_refl _, fun _ _ _ => rfl⟩⟩
        · have h3 : r < x := by omega
          have h2b : (x == r) = false := by simpa using h2
          have HINS := hide (ins_at HR.out i HL.out (HD.out r h3))
          clear hrd
          go_wp2_with (at_builtin; (refine wpList_append_own_at _ rfl _ _ 27 rfl B 21 i0 (.int .i32 0) 1 4 Try.underlying27 hi hz0 hz1 hz2 rfl (by decide) _ _ _ rfl (hO.alloc _) ⟨wr.heap.size, 0, none⟩ 1 1 [.int .i32 0] rfl rfl (one_new _ _ _) (by simp [Value.oneCell']) (by unfold maxLen; omega) (by omega) (by simp; omega) ?_; intro v1 w1 hown' hgrow _ hat; obtain ⟨hxl, ⟨hv, hn0⟩ | ⟨g, cap1, cur, rfl, hBg, hg, hle, hmx, hsz, htk⟩⟩ := hown'; (exact absurd hn0 (by omega))))
          rw [Nat.mul_one] at hsz htk
          have hch1 : Chg (fun k => some k = Value.ownBlock (.slice (some ⟨b, off, none⟩) n cap)) wr w1 := ⟨hgrow.os, hgrow.tape, hgrow.output, Nat.le_trans (by simp) hgrow.size, fun k hk hne => (hgrow.block k (by simp; omega) hne).trans (Below.heap_alloc _ _ _ hk)⟩
          have hgg : g < wr.heap.size → some g = Value.ownBlock (.slice (some ⟨b, off, none⟩) n cap) := fun h => hat.elim (fun e => e) (fun e => by simp [Value.ownBlock] at e; omega)
          obtain ⟨vc, w2, cur2, z2, hcp, hg2, hsz2, htk2, hch2⟩ := ins_mem 3 (w := w1.drew) HN.out hg htk hsz hle hin
          have hii : IntKind.i64.wrap ((i : Int) + 1) = ((i + 1 : Nat) : Int) := by simp [IntKind.wrap, IntKind.bits, IntKind.signed]; omega
          refine Reg.start (B := B) (by kernel_rfl) ?_
          refine Reg.take (fun _ _ _ _ _ h => h) 0 _ 36 (.slice (some ⟨g, 0, none⟩) (n + 1) cap1) rfl (by kernel_rfl) (by kernel_rfl) (by kernel_rfl) rfl (by kernel_rfl) (by kernel_rfl) (fun _ _ => Reg.mv rfl rfl) ?_
          refine Reg.take (fun _ _ _ _ _ h => h) 1 _ 37 (.int .i64 (i : Int)) rfl (by kernel_rfl) (by kernel_rfl) (by kernel_rfl) rfl (by kernel_rfl) (by kernel_rfl) (fun _ _ => Reg.mv rfl rfl) ?_
          refine Reg.take (fun _ _ _ _ _ h => h) 2 _ 38 (.int .i64 ((i + 1 : Nat) : Int)) rfl (by kernel_rfl) (by kernel_rfl) (by kernel_rfl) rfl (by kernel_rfl) (by kernel_rfl) (fun _ _ => Reg.adI rfl rfl rfl hii) ?_
          refine Reg.take (fun _ _ _ _ _ h => h) 3 _ 39 (.slice (cutP g cap1 (i + 1)) (n + 1 - (i + 1)) (cap1 - (i + 1))) rfl (by kernel_rfl) (by kernel_rfl) (by kernel_rfl) rfl (by kernel_rfl) (by kernel_rfl) (fun w' _ => Reg.sl rfl rfl rfl (cut_from g (n + 1) cap1 (i + 1) (by omega) w')) ?_
          refine Reg.take (fun _ _ _ _ _ h => h) 4 _ 40 (.slice (some ⟨g, 0, none⟩) (n + 1) cap1) rfl (by kernel_rfl) (by kernel_rfl) (by kernel_rfl) rfl (by kernel_rfl) (by kernel_rfl) (fun _ _ => Reg.mv rfl rfl) ?_
          refine Reg.take (fun _ _ _ _ _ h => h) 5 _ 41 (.int .i64 (i : Int)) rfl (by kernel_rfl) (by kernel_rfl) (by kernel_rfl) rfl (by kernel_rfl) (by kernel_rfl) (fun _ _ => Reg.mv rfl rfl) ?_
          refine Reg.take (fun _ _ _ _ _ h => h) 6 _ 42 (.slice (cutP g cap1 i) (n + 1 - i) (cap1 - i)) rfl (by kernel_rfl) (by kernel_rfl) (by kernel_rfl) rfl (by kernel_rfl) (by kernel_rfl) (fun w' _ => Reg.sl rfl rfl rfl (cut_from g (n + 1) cap1 i (by omega) w')) ?_
          refine Reg.only 7 _ 43 rfl (by kernel_rfl) rfl (by kernel_rfl) rfl ⟨vc, w2, B, Reg.cpy rfl rfl rfl hcp, Nat.le_refl _, ⟨hch2.os, hch2.tape, hch2.output, hch2.size, fun k hk => hch2.block k (by have := (Array.getElem?_eq_some_iff.1 hg).1; show k < w1.heap.size; omega) (by omega)⟩, ?_⟩
          refine Reg.done (by kernel_rfl) ?_
          simp only [Reg.ov, Act.put, List.setIfInBounds_toArray, List.set_cons_succ, List.set_cons_zero]
          have hc2 : w2.cell? ⟨g, i, none⟩ = some z2 := cell_at hg2 (by have h1 : (cur2.toList.take (n + 1))[i]? = ((fs.take i).map I32 ++ z2 :: (fs.drop i).map I32)[i]? := (by rw [htk2]); rw [List.getElem?_take, if_pos (by omega), List.getElem?_append_right (by simp; omega)] at h1; simpa [Nat.min_eq_left (show i ≤ fs.length by have := HN.out; omega)] using h1)
          have hf2 : w2.frozen? ⟨g, i, none⟩ = false := frozen_at hg2
          obtain ⟨hO3, hch3⟩ := ins_store r HN.out hin hBg hg2 hsz2 hle hmx htk2
          clear hcp hg2 htk2 hsz2 hg htk hsz hxl
          go_wp2
          go_ret
          refine ⟨_, _, rfl, hO3, HINS.out, ?_⟩
          have hch12 : Chg (fun k => k = g) w1 w2 := ⟨hch2.os, hch2.tape, hch2.output, hch2.size, hch2.block⟩
          refine ((hch1.trans hch12).trans hch3).mono fun k hk hkk => ?_
          rcases hkk with (h | h) | h
          · exact h
          · rw [h]; exact hgg (h ▸ hk)
          · rw [h]; exact hgg (h ▸ hk)
    · obtain rfl : i = n := by omega
      have HINS := hide (ins_at HR.out i HL.out (fun x hx => by rw [HN.out, List.drop_length] at hx; cases hx))
      clear hrd
      go_wp2_with (at_builtin; (refine wpList_append_own_at _ rfl _ _ 27 rfl B 21 i0 (.int .i32 0) 1 4 Try.underlying27 hi hz0 hz1 hz2 rfl (by decide) _ _ _ rfl (hO.alloc _) ⟨wr.heap.size, 0, none⟩ 1 1 [.int .i32 0] rfl rfl (one_new _ _ _) (by simp [Value.oneCell']) (by unfold maxLen; omega) (by omega) (by simp; omega) ?_; intro v1 w1 hown' hgrow _ hat; obtain ⟨hxl, ⟨hv, hn0⟩ | ⟨g, cap1, cur, rfl, hBg, hg, hle, hmx, hsz, htk⟩⟩ := hown'; (exact absurd hn0 (by omega))))
      rw [Nat.mul_one] at hsz htk
      have hch1 : Chg (fun k => some k = Value.ownBlock (.slice ao i cap)) wr w1 := ⟨hgrow.os, hgrow.tape, hgrow.output, Nat.le_trans (by simp) hgrow.size, fun k hk hne => (hgrow.block k (by simp; omega) hne).trans (Below.heap_alloc _ _ _ hk)⟩
      have hgg : g < wr.heap.size → some g = Value.ownBlock (.slice ao i cap) := fun h => hat.elim (fun e => e) (fun e => by simp [Value.ownBlock] at e; omega)
      obtain ⟨vc, w2, cur2, z2, hcp, hg2, hsz2, htk2, hch2⟩ := ins_mem 3 (w := w1.drew) HN.out hg htk hsz hle hin
      have hii : IntKind.i64.wrap ((i : Int) + 1) = ((i + 1 : Nat) : Int) := by simp [IntKind.wrap, IntKind.bits, IntKind.signed]; omega
      refine Reg.start (B := B) (by kernel_rfl) ?_
      refine Reg.take (fun _ _ _ _ _ h => h) 0 _ 36 (.slice (some ⟨g, 0, none⟩) (i + 1) cap1) rfl (by kernel_rfl) (by kernel_rfl) (by kernel_rfl) rfl (by kernel_rfl) (by kernel_rfl) (fun _ _ => Reg.mv rfl rfl) ?_
      refine Reg.take (fun _ _ _ _ _ h => h) 1 _ 37 (.int .i64 (i : Int)) rfl (by kernel_rfl) (by kernel_rfl) (by kernel_rfl) rfl (by kernel_rfl) (by kernel_rfl) (fun _ _ => Reg.mv rfl rfl) ?_
      refine Reg.take (fun _ _ _ _ _ h => h) 2 _ 38 (.int .i64 ((i + 1 : Nat) : Int)) rfl (by kernel_rfl) (by kernel_rfl) (by kernel_rfl) rfl (by kernel_rfl) (by kernel_rfl) (fun _ _ => Reg.adI rfl rfl rfl hii) ?_
      refine Reg.take (fun _ _ _ _ _ h => h) 3 _ 39 (.slice (cutP g cap1 (i + 1)) (i + 1 - (i + 1)) (cap1 - (i + 1))) rfl (by kernel_rfl) (by kernel_rfl) (by kernel_rfl) rfl (by kernel_rfl) (by kernel_rfl) (fun w' _ => Reg.sl rfl rfl rfl (cut_from g (i + 1) cap1 (i + 1) (by omega) w')) ?_
      refine Reg.take (fun _ _ _ _ _ h => h) 4 _ 40 (.slice (some ⟨g, 0, none⟩) (i + 1) cap1) rfl (by kernel_rfl) (by kernel_rfl) (by kernel_rfl) rfl (by kernel_rfl) (by kernel_rfl) (fun _ _ => Reg.mv rfl rfl) ?_
      refine Reg.take (fun _ _ _ _ _ h => h) 5 _ 41 (.int .i64 (i : Int)) rfl (by kernel_rfl) (by kernel_rfl) (by kernel_rfl) rfl (by kernel_rfl) (by kernel_rfl) (fun _ _ => Reg.mv rfl rfl) ?_
      refine Reg.take (fun _ _ _ _ _ h => h) 6 _ 42 (.slice (cutP g cap1 i) (i + 1 - i) (cap1 - i)) rfl (by kernel_rfl) (by kernel_rfl) (by kernel_rfl) rfl (by kernel_rfl) (by kernel_rfl) (fun w' _ => Reg.sl rfl rfl rfl (cut_from g (i + 1) cap1 i (by omega) w')) ?_
      refine Reg.only 7 _ 43 rfl (by kernel_rfl) rfl (by kernel_rfl) rfl ⟨vc, w2, B, Reg.cpy rfl rfl rfl hcp, Nat.le_refl _, ⟨hch2.os, hch2.tape, hch2.output, hch2.size, fun k hk => hch2.block k (by have := (Array.getElem?_eq_some_iff.1 hg).1; show k < w1.heap.size; omega) (by omega)⟩, ?_⟩
      refine Reg.done (by kernel_rfl) ?_
      simp only [Reg.ov, Act.put, List.setIfInBounds_toArray, List.set_cons_succ, List.set_cons_zero]
      have hc2 : w2.cell? ⟨g, i, none⟩ = some z2 := cell_at hg2 (by have h1 : (cur2.toList.take (i + 1))[i]? = ((fs.take i).map I32 ++ z2 :: (fs.drop i).map I32)[i]? := (by rw [htk2]); rw [List.getElem?_take, if_pos (by omega), List.getElem?_append_right (by simp; omega)] at h1; simpa [Nat.min_eq_left (show i ≤ fs.length by have := HN.out; omega)] using h1)
      have hf2 : w2.frozen? ⟨g, i, none⟩ = false := frozen_at hg2
      obtain ⟨hO3, hch3⟩ := ins_store r HN.out (Nat.le_refl _) hBg hg2 hsz2 hle hmx htk2
      clear hcp hg2 htk2 hsz2 hg htk hsz hxl
      go_wp2
      go_ret
      refine ⟨_, _, rfl, hO3, HINS.out, ?_⟩
      have hch12 : Chg (fun k => k = g) w1 w2 := ⟨hch2.os, hch2.tape, hch2.output, hch2.size, hch2.block⟩
      refine ((hch1.trans hch12).trans hch3).mono fun k hk hkk => ?_
      rcases hkk with (h | h) | h
      · exact h
      · rw [h]; exact hgg (h ▸ hk)
      · rw [h]; exact hgg (h ▸ hk)
end Go.Proofs.Ytbkcbclloemajaa
