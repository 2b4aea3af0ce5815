/- append(v, b...) as a step of a plain region; torn sequences. -/
import Derived.Test.YtncmepcgafimjaaDoorSizes
namespace Go.Proofs.YtncmepcgafimjaaDoor
open Go.RowKit

theorem wpl_app8 {w : World} {ops : Array Oper} {rest : List Oper} {o : Oper} {a : Act} {Q : Exit → Act → World → Prop} (hgd : o.guard = none) (s x : Operand)
    (hop : o.op = .call { callee := .builtin .append, args := #[s, x], argTypes := #[22, 22] })
    (B : Nat) (v : Value) (bs : List UInt8) (ao : Option Addr) (xs : List UInt8) (n cap : Nat) (hxl : n = xs.length) (hs : a.eval s = v) (hx : a.eval x = .slice ao n cap)
    (ho : Own w B 5 v (cB bs)) (hB : B ≤ w.heap.size) (hr : Rd w ao (cB xs)) (hn : ao = none → cap = 0) (hlen : bs.length + xs.length ≤ 10000000)
    (h : ∀ v' w', Own w' B 5 v' (cB (bs ++ xs)) → Below B w w' → wpList Tryd.prog ops Q rest (a.put o.dst v') w') : wpList Tryd.prog ops Q (o :: rest) a w := by
  subst hxl
  refine wpList_plain hgd fun K hK => ?_
  obtain ⟨v', w', hrun, h1, h2⟩ := app8 w B v (cB bs) ao xs cap o.type ho hB hr hn (by rw [cB_length]; exact hlen)
  rw [← cB_append] at h1
  unfold Oper.wp
  simp [execOp, hop, resolve, invoke, builtin, hs, hx, hrun, Result.andThen]
  exact hK _ _ (h v' w' h1 h2)
theorem wpl_app32 {w : World} {ops : Array Oper} {rest : List Oper} {o : Oper} {a : Act} {Q : Exit → Act → World → Prop} (hgd : o.guard = none) (s x : Operand)
    (hop : o.op = .call { callee := .builtin .append, args := #[s, x], argTypes := #[23, 23] })
    (B : Nat) (v : Value) (bs : List Int) (ao : Option Addr) (xs : List Int) (n cap : Nat) (hxl : n = xs.length) (hs : a.eval s = v) (hx : a.eval x = .slice ao n cap)
    (ho : Own w B 21 v (cI bs)) (hB : B ≤ w.heap.size) (hr : Rd w ao (cI xs)) (hn : ao = none → cap = 0) (hlen : bs.length + xs.length ≤ 10000000)
    (h : ∀ v' w', Own w' B 21 v' (cI (bs ++ xs)) → Below B w w' → wpList Tryd.prog ops Q rest (a.put o.dst v') w') : wpList Tryd.prog ops Q (o :: rest) a w := by
  subst hxl
  refine wpList_plain hgd fun K hK => ?_
  obtain ⟨v', w', hrun, h1, h2⟩ := app32 w B v (cI bs) ao xs cap o.type ho hB hr hn (by rw [cI_length]; exact hlen)
  rw [← cI_append] at h1
  unfold Oper.wp
  simp [execOp, hop, resolve, invoke, builtin, hs, hx, hrun, Result.andThen]
  exact hK _ _ (h v' w' h1 h2)

namespace M
open Go.Lib
theorem rs_bad (st : Nat) (a : UInt8) (l : List UInt8) (h : dec (a :: l) = (65533, 1)) : rs st (a :: l) = (st, 65533, false) :: rs (st + 1) l := by
  rw [rs_step st (by simp), h]
  rfl
theorem dec_cont (a : UInt8) (l : List UInt8) (h : 128 ≤ a.toNat ∧ a.toNat < 192) : dec (a :: l) = (65533, 1) := by
  rw [dec_one]
  unfold decodeN
  rw [if_neg (by omega), if_neg (by omega), if_neg (by omega), if_neg (by omega)]
theorem dec_torn1 (a t : UInt8) (h : 128 ≤ a.toNat) (ht : t.toNat < 128) : dec [a, t] = (65533, 1) := by
  rw [dec_two]
  unfold decodeN
  rw [if_neg (by omega), if_neg (by omega), if_neg (by omega), if_neg (by omega)]
theorem dec_torn2 (a b t : UInt8) (h : 224 ≤ a.toNat) (ht : t.toNat < 128) : dec [a, b, t] = (65533, 1) := by
  rw [dec_three]
  unfold decodeN
  rw [if_neg (by omega), if_neg (by omega), if_neg (by omega), if_neg (by omega)]
theorem dec_torn3 (a b c t : UInt8) (h : 240 ≤ a.toNat) (ht : t.toNat < 128) : dec [a, b, c, t] = (65533, 1) := by
  rw [dec_four]
  unfold decodeN
  rw [if_neg (by omega), if_neg (by omega), if_neg (by omega), if_neg (by omega)]
theorem rs_ascii (st : Nat) (t : UInt8) (ht : t.toNat < 128) : rs st [t] = [(st, t.toNat, true)] := by
  have h : dec [t] = (t.toNat, 1) := by
    rw [dec_one]
    unfold decodeN
    rw [if_pos ht]
  rw [rs_step st (by simp), h]
  simp only [List.drop_succ_cons, List.drop_zero, rs_nil]
  have : ok (t.toNat, 1) = true := by simp [ok]; omega
  rw [this]

/-- A sequence cut short. -/
theorem torn (r : Int) (k : Nat) (hk : k < (enc r).length) (t : UInt8) (ht : t.toNat < 128) : rs 0 ((enc r).take k ++ [t]) = (List.range k).map (fun i => (i, 65533, false)) ++ [(k, t.toNat, true)] := by
  have zero : rs 0 ((enc r).take 0 ++ [t]) = (List.range 0).map (fun i => (i, 65533, false)) ++ [(0, t.toNat, true)] := rs_ascii 0 t ht
  have one : ∀ (a : UInt8), 128 ≤ a.toNat → rs 0 [a, t] = (List.range 1).map (fun i => (i, 65533, false)) ++ [(1, t.toNat, true)] := by
    intro a ha
    rw [rs_bad 0 a [t] (dec_torn1 a t ha ht), rs_ascii _ t ht]
    rfl
  have two : ∀ (a b : UInt8), 224 ≤ a.toNat → (128 ≤ b.toNat ∧ b.toNat < 192) → rs 0 [a, b, t] = (List.range 2).map (fun i => (i, 65533, false)) ++ [(2, t.toNat, true)] := by
    intro a b ha hb
    rw [rs_bad 0 a _ (dec_torn2 a b t ha ht), rs_bad _ b _ (dec_cont b _ hb), rs_ascii _ t ht]
    rfl
  have three : ∀ (a b c : UInt8), 240 ≤ a.toNat → (128 ≤ b.toNat ∧ b.toNat < 192) → (128 ≤ c.toNat ∧ c.toNat < 192) → rs 0 [a, b, c, t] = (List.range 3).map (fun i => (i, 65533, false)) ++ [(3, t.toNat, true)] := by
    intro a b c ha hb hc
    rw [rs_bad 0 a _ (dec_torn3 a b c t ha ht), rs_bad _ b _ (dec_cont b _ hb), rs_bad _ c _ (dec_cont c _ hc), rs_ascii _ t ht]
    rfl
  have u : ∀ n : Int, 0 ≤ n → n < 256 → (n.toNat.toUInt8).toNat = n.toNat := by
    intro n h0 h1
    rw [Nat.toUInt8, UInt8.toNat_ofNat']
    omega
  by_cases h1 : 0 ≤ r ∧ r ≤ 127
  · rw [enc_one h1.1 h1.2] at hk
    obtain rfl : k = 0 := by simp at hk; omega
    exact zero
  by_cases h2 : 128 ≤ r ∧ r ≤ 2047
  · rw [enc_two h2.1 h2.2] at hk ⊢
    rw [enc_two h2.1 h2.2] at zero
    match k, hk with
    | 0, _ => exact zero
    | 1, _ => exact one _ (by rw [u _ (by omega) (by omega)]; omega)
    | (k + 2), hk => exact absurd hk (by simp only [List.length_cons, List.length_nil]; omega)
  by_cases h3 : (2048 ≤ r ∧ r < 55296) ∨ (57343 < r ∧ r ≤ 65535)
  · rw [enc_three h3] at hk ⊢
    rw [enc_three h3] at zero
    match k, hk with
    | 0, _ => exact zero
    | 1, _ => exact one _ (by rw [u _ (by omega) (by omega)]; omega)
    | 2, _ => exact two _ _ (by rw [u _ (by omega) (by omega)]; omega) (by rw [u _ (by omega) (by omega)]; omega)
    | (k + 3), hk => exact absurd hk (by simp only [List.length_cons, List.length_nil]; omega)
  by_cases h4 : 65536 ≤ r ∧ r ≤ 1114111
  · rw [enc_four h4.1 h4.2] at hk ⊢
    rw [enc_four h4.1 h4.2] at zero
    match k, hk with
    | 0, _ => exact zero
    | 1, _ => exact one _ (by rw [u _ (by omega) (by omega)]; omega)
    | 2, _ => exact two _ _ (by rw [u _ (by omega) (by omega)]; omega) (by rw [u _ (by omega) (by omega)]; omega)
    | 3, _ => exact three _ _ _ (by rw [u _ (by omega) (by omega)]; omega) (by rw [u _ (by omega) (by omega)]; omega) (by rw [u _ (by omega) (by omega)]; omega)
    | (k + 4), hk => exact absurd hk (by simp only [List.length_cons, List.length_nil]; omega)
  · have hb : r < 0 ∨ (55296 ≤ r ∧ r ≤ 57343) ∨ 1114111 < r := by omega
    rw [enc_bad hb] at hk ⊢
    rw [enc_bad hb] at zero
    match k, hk with
    | 0, _ => exact zero
    | 1, _ => exact one _ (by decide)
    | 2, _ => exact two _ _ (by decide) (by decide)
    | (k + 3), hk => exact absurd hk (by simp only [List.length_cons, List.length_nil]; omega)
end M
end Go.Proofs.YtncmepcgafimjaaDoor
