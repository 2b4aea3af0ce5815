/- strings.IndexAny at the two signs between subtags, of whatever bytes. -/
import Derived.Shelf.Strings.IndexAnyAll
import Derived.Shelf.Small.Strs
import Derived.Lib.DecodeN
import Derived.Lib.OthersKept
import Derived.Deep.LoopGhost
import Derived.Deep.QuietTactic
import Derived.BigQuiet
import Derived.WalkSmall
import Derived.WalkMore
import Derived.Test.YtbeihgjonhgfmaaGreatDoorTgu
namespace Go.Proofs.YtbeihgjonhgfmaaGreatDoor
open Go.Shelf Go.RowKit
def lays153_ren : Go.Shelf.Ren := ⟨fun | 153 => 61 | 152 => 86 | 226 => 87 | 227 => 88 | 228 => 89 | 137 => 105 | 119 => 106 | 224 => 107 | 225 => 108 | 217 => 126 | 266 => 135 | n => n, fun | 9 => 9 | 3 => 3 | 4 => 4 | 5 => 5 | 21 => 21 | 117 => 126 | 116 => 125 | 0 => 0 | 46 => 50 | 124 => 146 | n => n, fun | n => n⟩
theorem lays153 : Go.Proofs.Lays.n153 Tryz.prog lays153_ren := {
  mixed := by kernel_rfl
  f119 := Tryz.func106.trans (congrArg some (by kernel_rfl))
  f137 := Tryz.func105.trans (congrArg some (by kernel_rfl))
  f152 := Tryz.func86.trans (congrArg some (by kernel_rfl))
  f153 := Tryz.func61.trans (congrArg some (by kernel_rfl))
  f217 := Tryz.func126.trans (congrArg some (by kernel_rfl))
  f224 := Tryz.func107.trans (congrArg some (by kernel_rfl))
  f225 := Tryz.func108.trans (congrArg some (by kernel_rfl))
  f226 := Tryz.func87.trans (congrArg some (by kernel_rfl))
  f227 := Tryz.func88.trans (congrArg some (by kernel_rfl))
  f228 := Tryz.func89.trans (congrArg some (by kernel_rfl))
  f266 := Tryz.func135.trans (congrArg some (by kernel_rfl))
  t0 := Tryz.underlying0
  a0 := Tryz.isAgg0
  z0 := Tryz.sizeOf0
  v0 := Tryz.zeroValue0
  t3 := Tryz.underlying3
  a3 := Tryz.isAgg3
  z3 := Tryz.sizeOf3
  v3 := Tryz.zeroValue3
  t4 := Tryz.underlying4
  a4 := Tryz.isAgg4
  z4 := Tryz.sizeOf4
  v4 := Tryz.zeroValue4
  t5 := Tryz.underlying5
  a5 := Tryz.isAgg5
  z5 := Tryz.sizeOf5
  v5 := Tryz.zeroValue5
  t9 := Tryz.underlying9
  a9 := Tryz.isAgg9
  z9 := Tryz.sizeOf9
  v9 := Tryz.zeroValue9
  t21 := Tryz.underlying21
  a21 := Tryz.isAgg21
  z21 := Tryz.sizeOf21
  v21 := Tryz.zeroValue21
  t46 := Tryz.underlying50
  a46 := Tryz.isAgg50
  z46 := Tryz.sizeOf50
  v46 := Tryz.zeroValue50
  t116 := Tryz.underlying125
  a116 := Tryz.isAgg125
  z116 := Tryz.sizeOf125
  t117 := Tryz.underlying126
  a117 := Tryz.isAgg126
  z117 := Tryz.sizeOf126
  v117 := Tryz.zeroValue126
  t124 := Tryz.underlying146
  a124 := Tryz.isAgg146
  z124 := Tryz.sizeOf146
  v124 := Tryz.zeroValue146 }
def lays152_ren : Go.Shelf.Ren := ⟨fun | 152 => 86 | 137 => 105 | 119 => 106 | 224 => 107 | 225 => 108 | 217 => 126 | 266 => 135 | n => n, fun | 9 => 9 | 21 => 21 | 3 => 3 | 4 => 4 | 5 => 5 | 0 => 0 | 46 => 50 | n => n, fun | n => n⟩
theorem lays152 : Go.Proofs.Lays.n152 Tryz.prog lays152_ren := {
  mixed := by kernel_rfl
  f119 := Tryz.func106.trans (congrArg some (by kernel_rfl))
  f137 := Tryz.func105.trans (congrArg some (by kernel_rfl))
  f152 := Tryz.func86.trans (congrArg some (by kernel_rfl))
  f217 := Tryz.func126.trans (congrArg some (by kernel_rfl))
  f224 := Tryz.func107.trans (congrArg some (by kernel_rfl))
  f225 := Tryz.func108.trans (congrArg some (by kernel_rfl))
  f266 := Tryz.func135.trans (congrArg some (by kernel_rfl))
  t0 := Tryz.underlying0
  a0 := Tryz.isAgg0
  z0 := Tryz.sizeOf0
  v0 := Tryz.zeroValue0
  t3 := Tryz.underlying3
  a3 := Tryz.isAgg3
  z3 := Tryz.sizeOf3
  v3 := Tryz.zeroValue3
  t4 := Tryz.underlying4
  a4 := Tryz.isAgg4
  z4 := Tryz.sizeOf4
  v4 := Tryz.zeroValue4
  t5 := Tryz.underlying5
  a5 := Tryz.isAgg5
  z5 := Tryz.sizeOf5
  v5 := Tryz.zeroValue5
  t9 := Tryz.underlying9
  a9 := Tryz.isAgg9
  z9 := Tryz.sizeOf9
  v9 := Tryz.zeroValue9
  t21 := Tryz.underlying21
  a21 := Tryz.isAgg21
  z21 := Tryz.sizeOf21
  v21 := Tryz.zeroValue21
  t46 := Tryz.underlying50
  a46 := Tryz.isAgg50
  z46 := Tryz.sizeOf50
  v46 := Tryz.zeroValue50 }
def lays137_ren : Go.Shelf.Ren := ⟨fun | 137 => 105 | 217 => 126 | 266 => 135 | n => n, fun | 9 => 9 | 5 => 5 | 3 => 3 | n => n, fun | n => n⟩
theorem lays137 : Go.Proofs.Lays.n137 Tryz.prog lays137_ren := {
  mixed := by kernel_rfl
  f137 := Tryz.func105.trans (congrArg some (by kernel_rfl))
  f217 := Tryz.func126.trans (congrArg some (by kernel_rfl))
  f266 := Tryz.func135.trans (congrArg some (by kernel_rfl))
  t3 := Tryz.underlying3
  a3 := Tryz.isAgg3
  z3 := Tryz.sizeOf3
  v3 := Tryz.zeroValue3
  t5 := Tryz.underlying5
  a5 := Tryz.isAgg5
  z5 := Tryz.sizeOf5
  v5 := Tryz.zeroValue5
  t9 := Tryz.underlying9
  a9 := Tryz.isAgg9
  z9 := Tryz.sizeOf9
  v9 := Tryz.zeroValue9 }

/-- What a sequence that doesn't begin below 128 is read as. -/
theorem dec_high (s : ByteArray) (i : Nat) (hi : i < (bts s).length) (h : 128 ≤ (bts s)[i].toNat) : ∃ r n : Nat, Utf8.decode s i = (r, n) ∧ 128 ≤ r ∧ r ≤ 1114111 ∧ (r < 55296 ∨ 57344 ≤ r) ∧ 1 ≤ n ∧ i + n ≤ s.size ∧ ∀ j c, i ≤ j → j < i + n → (bts s)[j]? = some c → 128 ≤ c.toNat := by
  have hg : ∀ k, k < s.size → (bts s)[k]? = some (s.get! k) := by
    intro k hk
    have hk2 : k < (bts s).length := hk
    rw [List.getElem?_eq_getElem hk2]
    simp [bts, ByteArray.get!, getElem!_pos, hk]
  have h0 : (bts s)[i] = s.get! i := by
    have := hg i hi
    rw [List.getElem?_eq_getElem hi] at this
    exact Option.some.inj this
  rw [h0] at h
  have hj : ∀ k c, i + k < s.size → (bts s)[i + k]? = some c → c = s.get! (i + k) := fun k c hk hc => by
    rw [hg _ hk] at hc; exact (Option.some.inj hc).symm
  rw [Lib.decode_at]
  have b1 := (s.get! (i + 1)).toNat_lt
  have b2 := (s.get! (i + 2)).toNat_lt
  have b3 := (s.get! (i + 3)).toNat_lt
  have b0 := (s.get! i).toNat_lt
  have hi2 : i < s.size := hi
  have key : ∀ n, i + n ≤ s.size → (1 < n → 128 ≤ (s.get! (i + 1)).toNat) → (2 < n → 128 ≤ (s.get! (i + 2)).toNat) → (3 < n → 128 ≤ (s.get! (i + 3)).toNat) → n ≤ 4 → ∀ j c, i ≤ j → j < i + n → (bts s)[j]? = some c → 128 ≤ c.toNat := by
    intro n hn k1 k2 k3 n4 j c h1 h2 hc
    obtain ⟨k, rfl⟩ : ∃ k, j = i + k := ⟨j - i, by omega⟩
    have := hj k c (by omega) hc
    subst this
    match k, h2 with
    | 0, _ => exact h
    | 1, h2 => exact k1 (by omega)
    | 2, h2 => exact k2 (by omega)
    | 3, h2 => exact k3 (by omega)
    | k + 4, h2 => omega
  unfold Lib.decodeN
  rw [if_neg (by omega)]
  split
  · split
    · exact ⟨_, _, rfl, by omega, by omega, by omega, by omega, by omega, key 2 (by omega) (fun _ => by omega) (fun h => by omega) (fun h => by omega) (by omega)⟩
    · exact ⟨_, _, rfl, by omega, by omega, by omega, by omega, by omega, key 1 (by omega) (fun h => by omega) (fun h => by omega) (fun h => by omega) (by omega)⟩
  · split
    · split
      · exact ⟨_, _, rfl, by omega, by omega, by omega, by omega, by omega, key 3 (by omega) (fun _ => by omega) (fun _ => by omega) (fun h => by omega) (by omega)⟩
      · exact ⟨_, _, rfl, by omega, by omega, by omega, by omega, by omega, key 1 (by omega) (fun h => by omega) (fun h => by omega) (fun h => by omega) (by omega)⟩
    · split
      · split
        · exact ⟨_, _, rfl, by omega, by omega, by omega, by omega, by omega, key 4 (by omega) (fun _ => by omega) (fun _ => by omega) (fun _ => by omega) (by omega)⟩
        · exact ⟨_, _, rfl, by omega, by omega, by omega, by omega, by omega, key 1 (by omega) (fun h => by omega) (fun h => by omega) (fun h => by omega) (by omega)⟩
      · exact ⟨_, _, rfl, by omega, by omega, by omega, by omega, by omega, key 1 (by omega) (fun h => by omega) (fun h => by omega) (fun h => by omega) (by omega)⟩
theorem enc_two {r : Nat} (h : 128 ≤ r) (h2 : r < 2048) : ∃ a b : UInt8, Utf8.encode (r : Int) = ⟨#[a, b]⟩ ∧ 128 ≤ b.toNat := by
  refine ⟨UInt8.ofNat (0xC0 + r / 64), UInt8.ofNat (0x80 + r % 64), ?_, ?_⟩
  · have hv : Utf8.valid (r : Int) = true := by simp [Utf8.valid]; omega
    unfold Utf8.encode
    simp only [hv, if_true, Int.toNat_natCast]
    rw [if_neg (by omega), if_pos (by omega)]
  · simp
    omega
theorem enc_more {r : Nat} (h : 2048 ≤ r) (hr : r ≤ 1114111) (hs : r < 55296 ∨ 57344 ≤ r) : 3 ≤ (Utf8.encode (r : Int)).size ∧ (Utf8.encode (r : Int)).size ≤ 4 := by
  have hv : Utf8.valid (r : Int) = true := by simp [Utf8.valid]; omega
  unfold Utf8.encode
  simp only [hv, if_true, Int.toNat_natCast]
  rw [if_neg (by omega), if_neg (by omega)]
  split
  · exact ⟨(by show 3 ≤ 3; omega), (by show 3 ≤ 4; omega)⟩
  · exact ⟨(by show 3 ≤ 4; omega), (by show 4 ≤ 4; omega)⟩
theorem valid_any (r : Nat) (h : 128 ≤ r) (hr : r ≤ 1114111) (hs : r < 55296 ∨ 57344 ≤ r) (w : World) : Calls Tryz.prog 106 #[.int .i32 (r : Int)] w fun e w' => e = .returned (.bool true) ∧ w' = w := by
  have g0 : decide ((0 : Int) ≤ (r : Int)) = true := decide_eq_true (by omega)
  by_cases h1 : r < 55296
  · have g1 : decide ((r : Int) < 55296) = true := decide_eq_true (by omega)
    clear hs
    go_enter Tryz.func106, Tryz.ntmps106
    go_wp2
    go_ret
    exact ⟨rfl, rfl⟩
  · have g1 : decide ((r : Int) < 55296) = false := decide_eq_false (by omega)
    have g2 : decide ((57343 : Int) < (r : Int)) = true := decide_eq_true (by omega)
    have g3 : decide ((r : Int) ≤ 1114111) = true := decide_eq_true (by omega)
    clear hs
    go_enter Tryz.func106, Tryz.ntmps106
    go_wp2
    go_ret
    exact ⟨rfl, rfl⟩
theorem ixS {w : World} {ρ : Operand → Value} {o : Oper} {x y : Operand} {s : ByteArray} {i : Nat} {c : UInt8} (hop : o.op = .index 9 x y) (hx : ρ x = .string s) (hy : ρ y = .int .i64 (i : Int)) (hc : ∀ h, s[i]'h = c) (hi : i < s.size) : (execOp ρ o).run Tryz.prog w = .ok (.value (.int .u8 (c.toNat : Int))) w := by
  obtain ⟨dst, op, type, pos, after, guard⟩ := o
  simp only at hop
  subst hop
  have h2 : (i : Int) < (s.size : Int) := by omega
  simp [execOp, hx, hy, go_sem, hi, hc]
theorem neU {w : World} {ρ : Operand → Value} {o : Oper} {t t' : TypeId} {x y : Operand} {a b : UInt8} (hop : o.op = .binOp .neq t x y t') (hx : ρ x = .int .u8 (a.toNat : Int)) (hy : ρ y = .int .u8 (b.toNat : Int)) (h : ((a.toNat : Int) == (b.toNat : Int)) = false) : (execOp ρ o).run Tryz.prog w = .ok (.value (.bool true)) w := by
  obtain ⟨dst, op, type, pos, after, guard⟩ := o
  simp only at hop
  subst hop
  simp [execOp, hx, hy, eqGuard, go_sem]
  exact fun e => by rw [e] at h; simp at h
theorem inBlock_ret (n : Nat) (Q : Exit → Act → World → Prop) (a : Act) (w : World) : Exit.inBlock n Q .ret a w = Q .ret a w := rfl
theorem then_ret (K : Act → World → Prop) (Q : Exit → Act → World → Prop) (a : Act) (w : World) : Exit.then K Q .ret a w = Q .ret a w := rfl
abbrev seps : ByteArray := ⟨#[45, 95]⟩
theorem ibyte_none (c : UInt8) (w : World) : Calls Tryz.prog 105 #[.string ⟨#[]⟩, .int .u8 (c.toNat : Int)] w fun e w' => e = .returned (.int .i64 (-1)) ∧ w' = w := Any.strings_IndexByte lays137 ⟨#[]⟩ (c.toNat : Int) w
set_option maxRecDepth 100000 in
set_option maxHeartbeats 2000000 in
theorem irune_bad (w : World) : Calls Tryz.prog 86 #[.string seps, .int .i32 65533] w fun e w' => e = .returned (.int .i64 (-1)) ∧ Below w.heap.size w w' := by
  go_enter Tryz.func86, Tryz.ntmps86
  go_wp2
  go_loopg [5, 6] 2 (fun g _ _ wx => ∃ i : Nat, i + g = 2 ∧ wx = w.iter seps i)
  case atStart => exact ⟨0, by omega, rfl⟩
  case round =>
    obtain ⟨i, hig, rfl⟩ := hrel
    match i, hig with
    | 0, hig =>
      obtain rfl : gk = 2 := by omega
      have hnx := fun ty => run_next_ascii (P := Tryz.prog) w seps 0 ty (by decide) (by decide)
      rw [show (seps[0]'(by decide)).toNat = 45 from rfl] at hnx
      clear hig
      go_wp2
      go_roundg 1
      case measure => omega
      case rel => exact ⟨1, by omega, rfl⟩
    | 1, hig =>
      obtain rfl : gk = 1 := by omega
      have hnx := fun ty => run_next_ascii (P := Tryz.prog) w seps 1 ty (by decide) (by decide)
      rw [show (seps[1]'(by decide)).toNat = 95 from rfl] at hnx
      clear hig
      go_wp2
      go_roundg 0
      case measure => omega
      case rel => exact ⟨2, by omega, rfl⟩
    | 2, hig =>
      have hnx := fun ty => run_next_end (P := Tryz.prog) w seps 2 ty (by decide)
      clear hig
      go_wp2
      go_ret
      exact ⟨rfl, al1 w _⟩
    | i + 3, hig => omega
set_option maxRecDepth 100000 in
set_option maxHeartbeats 2000000 in
theorem irune_high (r : Nat) (h : 128 ≤ r) (hr : r ≤ 1114111) (hs : r < 55296 ∨ 57344 ≤ r) (w : World) : Calls Tryz.prog 86 #[.string seps, .int .i32 (r : Int)] w fun e w' => e = .returned (.int .i64 (-1)) ∧ Below w.heap.size w w' := by
  by_cases hb : r = 65533
  · subst hb; exact irune_bad w
  · have hv := valid_any r h hr hs w
    have g0 : decide ((0 : Int) ≤ (r : Int)) = true := decide_eq_true (by omega)
    have g1 : decide ((r : Int) < 128) = false := decide_eq_false (by omega)
    have g2 : ((r : Int) == 65533) = false := by simp; omega
    by_cases h2 : r < 2048
    · obtain ⟨a, b, he, hb2⟩ := enc_two h h2
      have hib := ibyte_none b w
      have hne : ((95 : Int) == (b.toNat : Int)) = false := by simp; omega
      clear hs hr h hb h2
      go_enter Tryz.func86, Tryz.ntmps86
      go_wp2_with fail
      refine hv.mono ?_
      rintro e w1 ⟨rfl, rfl⟩
      go_wp2
      go_step3
      go_wp2
      go_loopw [9, 10] (fun u v wr => u = .int .i64 1 ∧ v = .int .i64 0 ∧ wr = w1) (fun _ _ _ => 0)
      case atStart => exact ⟨rfl, rfl, rfl⟩
      case round =>
        obtain ⟨rfl, rfl, rfl⟩ := hrel
        go_wp2
        go_step3
        go_wp2
        refine Reg.start (B := wr.drew.heap.size) (by kernel_rfl) ?_
        refine Reg.take (fun _ _ _ _ _ h => h) 0 _ 27 (.string seps) rfl (by kernel_rfl) (by kernel_rfl) (by kernel_rfl) rfl (by kernel_rfl) (by kernel_rfl) (fun _ _ => by kernel_rfl) ?_
        refine Reg.take (fun _ _ _ _ _ h => h) 1 _ 28 (.int .i64 1) rfl (by kernel_rfl) (by kernel_rfl) (by kernel_rfl) rfl (by kernel_rfl) (by kernel_rfl) (fun _ _ => by kernel_rfl) ?_
        refine Reg.take (fun _ _ _ _ _ h => h) 2 _ 29 (.int .u8 95) rfl (by kernel_rfl) (by kernel_rfl) (by kernel_rfl) rfl (by kernel_rfl) (by kernel_rfl) (fun _ _ => ixS (s := seps) (i := 1) (c := 95) rfl (by kernel_rfl) (by kernel_rfl) (fun _ => rfl) (by decide)) ?_
        refine Reg.take (fun _ _ _ _ _ h => h) 3 _ 30 (.string ⟨#[a, b]⟩) rfl (by kernel_rfl) (by kernel_rfl) (by kernel_rfl) rfl (by kernel_rfl) (by kernel_rfl) (fun _ _ => by kernel_rfl) ?_
        refine Reg.take (fun _ _ _ _ _ h => h) 4 _ 31 (.int .i64 1) rfl (by kernel_rfl) (by kernel_rfl) (by kernel_rfl) rfl (by kernel_rfl) (by kernel_rfl) (fun _ _ => by kernel_rfl) ?_
        refine Reg.take (fun _ _ _ _ _ h => h) 5 _ 32 (.int .u8 (b.toNat : Int)) rfl (by kernel_rfl) (by kernel_rfl) (by kernel_rfl) rfl (by kernel_rfl) (by kernel_rfl) (fun _ _ => ixS (s := ⟨#[a, b]⟩) (i := 1) (c := b) rfl (by kernel_rfl) (by kernel_rfl) (fun _ => rfl) (by show 1 < 2; omega)) ?_
        refine Reg.take (fun _ _ _ _ _ h => h) 6 _ 33 (.bool true) rfl (by kernel_rfl) (by kernel_rfl) (by kernel_rfl) rfl (by kernel_rfl) (by kernel_rfl) (fun _ _ => neU (a := 95) (b := b) rfl (by kernel_rfl) (by kernel_rfl) hne) ?_
        refine Reg.done (by kernel_rfl) ?_
        simp only [Reg.ov, Act.put, List.setIfInBounds_toArray, List.set_cons_succ, List.set_cons_zero]
        go_wp2
        refine Reg.start (B := wr.drew.drew.heap.size) (by kernel_rfl) ?_
        refine Reg.take (fun _ _ _ _ _ h => h) 0 _ 34 (.string seps) rfl (by kernel_rfl) (by kernel_rfl) (by kernel_rfl) rfl (by kernel_rfl) (by kernel_rfl) (fun _ _ => by kernel_rfl) ?_
        refine Reg.take (fun _ _ _ _ _ h => h) 1 _ 35 (.int .i64 1) rfl (by kernel_rfl) (by kernel_rfl) (by kernel_rfl) rfl (by kernel_rfl) (by kernel_rfl) (fun _ _ => by kernel_rfl) ?_
        refine Reg.take (fun _ _ _ _ _ h => h) 2 _ 36 (.int .i64 2) rfl (by kernel_rfl) (by kernel_rfl) (by kernel_rfl) rfl (by kernel_rfl) (by kernel_rfl) (fun _ _ => by kernel_rfl) ?_
        refine Reg.take (fun _ _ _ _ _ h => h) 3 _ 37 (.string ⟨#[]⟩) rfl (by kernel_rfl) (by kernel_rfl) (by kernel_rfl) rfl (by kernel_rfl) (by kernel_rfl) (fun _ _ => slF (s := seps) (t := ⟨#[]⟩) (a := 2) rfl (by kernel_rfl) (by kernel_rfl) (by decide) rfl) ?_
        refine Reg.take (fun _ _ _ _ _ h => h) 4 _ 38 (.string ⟨#[a, b]⟩) rfl (by kernel_rfl) (by kernel_rfl) (by kernel_rfl) rfl (by kernel_rfl) (by kernel_rfl) (fun _ _ => by kernel_rfl) ?_
        refine Reg.take (fun _ _ _ _ _ h => h) 5 _ 39 (.int .i64 1) rfl (by kernel_rfl) (by kernel_rfl) (by kernel_rfl) rfl (by kernel_rfl) (by kernel_rfl) (fun _ _ => by kernel_rfl) ?_
        refine Reg.take (fun _ _ _ _ _ h => h) 6 _ 40 (.int .u8 (b.toNat : Int)) rfl (by kernel_rfl) (by kernel_rfl) (by kernel_rfl) rfl (by kernel_rfl) (by kernel_rfl) (fun _ _ => ixS (s := ⟨#[a, b]⟩) (i := 1) (c := b) rfl (by kernel_rfl) (by kernel_rfl) (fun _ => rfl) (by show 1 < 2; omega)) ?_
        refine Reg.call 7 _ 41 105 _ _ #[.string ⟨#[]⟩, .int .u8 (b.toNat : Int)] rfl (by kernel_rfl) rfl (by kernel_rfl) (by kernel_rfl) rfl (by kernel_rfl) (by kernel_rfl) (ibyte_none b _) ?_
        rintro e w2 ⟨rfl, rfl⟩
        refine ⟨_, _, rfl, Nat.le_refl _, Below.refl _ _, ?_⟩
        refine Reg.take (fun _ _ _ _ _ h => h) 8 _ 11 (.int .i64 (-1)) rfl (by kernel_rfl) (by kernel_rfl) (by kernel_rfl) rfl (by kernel_rfl) (by kernel_rfl) (fun _ _ => by kernel_rfl) ?_
        refine Reg.done (by kernel_rfl) ?_
        simp only [Reg.ov, Act.put, List.setIfInBounds_toArray, List.set_cons_succ, List.set_cons_zero]
        go_wp2
        simp (config := { zetaDelta := true }) only [Exit.noGoto_ret, inBlock_ret, then_ret]
        go_ret
        exact ⟨rfl, (Below.refl _ _).drew.drew⟩
    · have hsz := enc_more (Nat.le_of_not_lt h2) hr hs
      generalize hen : Utf8.encode (r : Int) = en at *
      have g3 : (en.size : Int) - 1 ≥ 2 := by omega
      obtain ⟨q, hq⟩ : ∃ q : Nat, q = en.size - 1 := ⟨_, rfl⟩
      have g4 : (en.size : Int) - 1 = (q : Int) := by omega
      have g5 : decide ((q : Int) < 2) = false := decide_eq_false (by omega)
      have g6 : 2 ≤ q := by omega
      have z3 := hsz.1
      have z4 := hsz.2
      clear hs hr h hb h2 hsz g3 hq
      go_enter Tryz.func86, Tryz.ntmps86
      go_wp2_with fail
      refine hv.mono ?_
      rintro e w1 ⟨rfl, rfl⟩
      go_wp2
      go_step3
      go_wp2
      go_loopw [9, 10] (fun u v wr => u = .int .i64 (q : Int) ∧ v = .int .i64 0 ∧ wr = w1) (fun _ _ _ => 0)
      case atStart => exact ⟨rfl, rfl, rfl⟩
      case round =>
        obtain ⟨rfl, rfl, rfl⟩ := hrel
        go_wp2
        simp only [Exit.noGoto_ret]
        go_ret
        exact ⟨rfl, Below.refl _ _⟩
theorem irune_low (c : UInt8) (h : c.toNat < 128) (w : World) : Calls Tryz.prog 86 #[.string seps, .int .i32 (c.toNat : Int)] w fun e w' => e = .returned (.int .i64 (Lib.indexByte [45, 95] c)) ∧ w' = w := by
  have := Any.strings_IndexRune_ascii lays152 seps (c.toNat : Int) w (by omega) (by omega)
  rw [show ((c.toNat : Int)).toNat.toUInt8 = c by simp] at this
  exact this
theorem sua_any (n : Int) (w : World) : Calls Tryz.prog 87 #[.int .i64 n] w fun e w' => e = .returned (.bool (decide (8 < n))) ∧ w' = w := by
  go_enter Tryz.func87, Tryz.ntmps87
  go_wp2
  go_ret
  exact ⟨rfl, rfl⟩
theorem sep_high {c : UInt8} (h : 128 ≤ c.toNat) : ([45, 95] : List UInt8).contains c = false := by
  have := G.all_u8 (fun c => decide (c.toNat < 128) || !(([45, 95] : List UInt8).contains c)) (by decide +kernel) c
  rw [decide_eq_false (by omega), Bool.false_or] at this
  simpa using this
set_option maxRecDepth 100000 in
set_option maxHeartbeats 1000000 in
theorem iany_short (s : ByteArray) (h8 : s.size ≤ 8) (w : World) : Calls Tryz.prog 61 #[.string s, .string seps] w fun e w' => e = .returned (.int .i64 (Lib.indexAny (bts s) [45, 95])) ∧ Below w.heap.size w w' := by
  have hsu := sua_any (s.size : Int) w
  rw [decide_eq_false (show ¬ (8 : Int) < (s.size : Int) by omega)] at hsu
  go_enter Tryz.func61, Tryz.ntmps61
  go_wp2_with fail
  refine hsu.mono ?_
  rintro e w1 ⟨rfl, rfl⟩
  go_wp2
  go_loopg [9, 10] s.size (fun g _ _ wx => ∃ i : Nat, i + g = s.size ∧ wx.heap[w1.heap.size]? = some (.stringIter s i) ∧ Below w1.heap.size w1 wx ∧ Hid (Lib.NoAny (bts s) [45, 95] i))
  case atStart => exact ⟨0, by omega, World.iter_heap _ _ _, al1 _ _, hide (Lib.NoAny.zero _ _)⟩
  case round =>
    obtain ⟨i, hig, hk, hb, HN⟩ := hrel
    by_cases hi : i < s.size
    · have hl : i < (bts s).length := hi
      have hx := fun j hj h => idx_at (s := s) hl j hj h
      have HG : Hid ((bts s)[i]? = some (bts s)[i]) := hide (List.getElem?_eq_getElem hl)
      have HD := hide (dec_high s i hl)
      generalize (bts s)[i] = c at *
      have hx2 : ∀ h, s[i]'h = c := fun h => hx (i : Int) rfl h
      clear hx
      by_cases hc : c.toNat < 128
      · have hnx := fun ty => Lib.run_next_ascii_at (P := Tryz.prog) wr w1.heap.size s i ty hk hi (by rw [hx2]; exact hc)
        rw [hx2] at hnx
        have hk2 := Lib.iterAt_heap wr w1.heap.size s i (i + 1) hk
        have hb2 := Lib.below_iterAt hb (Nat.le_refl _) s (i + 1)
        obtain ⟨W1, hW1⟩ : ∃ W1, wr.iterAt w1.heap.size s (i + 1) = W1 := ⟨_, rfl⟩
        rw [hW1] at hnx hk2 hb2
        have hir := irune_low c hc W1
        have HC := hide (Lib.contains_iff_indexByte [45, 95] c)
        clear hW1 hk hb HD hx2
        cases hin : ([45, 95] : List UInt8).contains c with
        | false =>
          have HE : Hid (Lib.indexByte [45, 95] c < 0) := hide (by
            have := HC.out
            rw [hin] at this
            have h2 := of_decide_eq_false this.symm
            omega)
          have hlt := HE.out
          have g0 : decide ((0 : Int) ≤ Lib.indexByte [45, 95] c) = false := decide_eq_false (by omega)
          generalize Lib.indexByte [45, 95] c = q at *
          clear HC HE
          go_wp2_with fail
          refine hir.mono ?_
          rintro e w2 ⟨rfl, rfl⟩
          go_wp2
          go_roundg (gk - 1)
          case measure => omega
          case rel => exact ⟨i + 1, by omega, hk2, hb2, hide (HN.out.succ HG.out hin)⟩
        | true =>
          have HE : Hid (0 ≤ Lib.indexByte [45, 95] c) := hide (by
            have := HC.out
            rw [hin] at this
            exact of_decide_eq_true this.symm)
          have hlt := HE.out
          have g0 : decide ((0 : Int) ≤ Lib.indexByte [45, 95] c) = true := decide_eq_true (by omega)
          have HA : Hid (Lib.indexAny (bts s) [45, 95] = (i : Int)) := hide (Lib.indexAny_hit HN.out HG.out hin)
          generalize Lib.indexByte [45, 95] c = q at *
          clear HC HE HN
          go_wp2_with fail
          refine hir.mono ?_
          rintro e w2 ⟨rfl, rfl⟩
          go_wp2
          go_ret
          exact ⟨by rw [HA.out]; rfl, hb2⟩
      · obtain ⟨r, n, e1, e2, e3, e4, e5, e6, e7⟩ := HD.out (by omega)
        have hnx := fun ty => Lib.run_next_any_at (P := Tryz.prog) wr w1.heap.size s i ty hk hi
        rw [e1] at hnx
        have hk2 := Lib.iterAt_heap wr w1.heap.size s i (i + n) hk
        have hb2 := Lib.below_iterAt hb (Nat.le_refl _) s (i + n)
        simp only at hnx
        obtain ⟨W1, hW1⟩ : ∃ W1, wr.iterAt w1.heap.size s (i + n) = W1 := ⟨_, rfl⟩
        rw [hW1] at hnx hk2 hb2
        have hir := irune_high r e2 e3 e4 W1
        have HN2 : Hid (Lib.NoAny (bts s) [45, 95] (i + n)) := hide (fun j b hj hb => by
          by_cases hji : j < i
          · exact HN.out j b hji hb
          · exact sep_high (e7 j b (by omega) hj hb))
        have hz : w1.heap.size < W1.heap.size := (Array.getElem?_eq_some_iff.1 hk2).1
        clear hW1 hk hb HD hx2 HN e7 e4 e2 e3 e1 HG
        go_wp2_with fail
        refine hir.mono ?_
        rintro e w2 ⟨rfl, hb3⟩
        go_wp2
        go_roundg (gk - n)
        case measure => omega
        case rel => exact ⟨i + n, by omega, (hb3.block _ hz).trans hk2, nx hb2 hb3, HN2⟩
    · have hnx := fun ty => Lib.run_next_end_at (P := Tryz.prog) wr w1.heap.size s i ty hk hi
      have HA : Hid (Lib.indexAny (bts s) [45, 95] = -1) := hide (Lib.indexAny_none (by rw [bts_len, show s.size = i by omega]; exact HN.out))
      clear HN hk
      go_wp2
      go_ret
      exact ⟨by rw [HA.out]; rfl, hb⟩
theorem iany_any (s : ByteArray) (hs : s.size ≤ 100000) (w : World) : Calls Tryz.prog 61 #[.string s, .string seps] w fun e w' => e = .returned (.int .i64 (Lib.indexAny (bts s) [45, 95])) ∧ Below w.heap.size w w' := by
  by_cases h8 : s.size ≤ 8
  · exact iany_short s h8 w
  · refine (show Calls Tryz.prog 61 #[.string s, .string seps] w _ from Any.strings_IndexAny_long lays153 (fun w => by kernel_rfl) (by kernel_rfl) s seps w (by decide) (by omega) (by omega) (by decide) ?_).mono ?_
    · intro j b hb
      have : b ∈ ([45, 95] : List UInt8) := List.mem_of_getElem? hb
      simp at this
      rcases this with rfl | rfl <;> decide
    · rintro e w' ⟨rfl, rfl⟩
      exact ⟨rfl, nx (al1 _ _) (al1 _ _)⟩
/-- What it tells: nothing parts, or the first sign that does. -/
theorem iany_cases (l : List UInt8) : (Lib.indexAny l [45, 95] = -1 ∧ G.cut l = [l]) ∨ ∃ i : Nat, i < l.length ∧ Lib.indexAny l [45, 95] = (i : Int) ∧ G.cut l = l.take i :: G.cut (l.drop (i + 1)) := by
  have hsc : ∀ c : UInt8, ([45, 95] : List UInt8).contains c = G.isSep c := fun c => by
    have := G.all_u8 (fun c => (([45, 95] : List UInt8).contains c) == G.isSep c) (by decide +kernel) c
    simpa using this
  by_cases h : G.noSep l
  · exact .inl ⟨Lib.indexAny_none (fun j b _ hb => by rw [hsc]; exact h b (List.mem_of_getElem? hb)), G.cut_nosep h⟩
  · obtain ⟨i, hi, h1, h2⟩ : ∃ i, ∃ hi : i < l.length, G.noSep (l.take i) ∧ G.isSep l[i] = true := by
      clear hsc
      induction l with
      | nil => exact absurd (fun c hc => by simp at hc) h
      | cons c l ih =>
        cases hc : G.isSep c with
        | true => exact ⟨0, by simp, fun c hc => by simp at hc, hc⟩
        | false =>
          obtain ⟨i, hi, h1, h2⟩ := ih (fun hn => h (fun d hd => (List.mem_cons.1 hd).elim (fun e => by rw [e]; exact hc) (hn d)))
          exact ⟨i + 1, by simp; omega, fun d hd => by
            rw [List.take_succ_cons] at hd
            exact (List.mem_cons.1 hd).elim (fun e => by rw [e]; exact hc) (h1 d), by simpa using h2⟩
    refine .inr ⟨i, hi, Lib.indexAny_hit (x := l[i]) (fun j b hj hb => ?_) (List.getElem?_eq_getElem hi) (by rw [hsc]; exact h2), ?_⟩
    · rw [hsc]
      refine h1 b ?_
      have : (l.take i)[j]? = some b := by rw [List.getElem?_take, if_pos hj]; exact hb
      exact List.mem_of_getElem? this
    · have e : l = l.take i ++ l[i] :: l.drop (i + 1) := by rw [← List.drop_eq_getElem_cons hi, List.take_append_drop]
      have := G.cut_at (r := l.drop (i + 1)) h1 h2
      rw [← e] at this
      exact this
end Go.Proofs.YtbeihgjonhgfmaaGreatDoor
