/- Joined: Itr Plt UEv UMapx UOrd. -/
import Derived.Test.YtgngaldoemopjaaGreatDoorFUHas
import Derived.Sort.QuietIn
import Derived.Test.YtgngaldoemopjaaGreatDoorFPlo
import Derived.Test.YtgngaldoemopjaaGreatDoorFUIs
import Derived.Test.YtgngaldoemopjaaGreatDoorFJB
import Derived.Maps.OwnSet
import Derived.Maps.OwnIn
import Derived.Maps.RangeWalk
import Derived.Sort.MapsRangeIn
import Derived.Sort.KeysCollected
import Derived.WalkKit
import Derived.WalkSpells
import Derived.WalkLawsBesides
import Derived.WalkSmall
import Derived.BigGuard
import Derived.BigCall
import Derived.CellFam
import Derived.Deep.Draws
import Derived.Deep.QuietTactic
import Derived.BigQuiet
import Derived.Sort.AtCall
import Derived.Sort.Row
import Derived.Sort.LotA
import Derived.Sort.LotB
import Derived.Sort.LotC
import Derived.Sort.LotD3
import Derived.Sort.WalkA
import Derived.Sort.WalkB3
import Derived.Test.YtgngaldoemopjaaGreatDoorProg
namespace Go.Proofs.YtgngaldoemopjaaGreatDoor
open Go.RowKit Go.Shelf
attribute [local go_sem] Oper.semAt_some
def RdC32 (w : World) (ao : Option Addr) (xs : List Int) : Prop := ∀ i (h : i < xs.length), ∃ b off, ao = some ⟨b, off, none⟩ ∧ w.cell? ⟨b, off + i, none⟩ = some (.int .i32 xs[i])
theorem RdC32.later {w wx : World} {ao : Option Addr} {xs : List Int} (h : RdC32 w ao xs) (hb : Below w.heap.size w wx) : RdC32 wx ao xs := fun i hi =>
 let ⟨b, off, e, h1⟩ := h i hi
 ⟨b, off, e, cell_later hb h1⟩
end Go.Proofs.YtgngaldoemopjaaGreatDoor
namespace Go.Proofs.YtgngaldoemopjaaGreatDoor
open Go.RowKit Go.Shelf
attribute [local go_sem] Oper.semAt_some
open E (T)
namespace PA
structure Good (a : Au) : Prop where
 fl : ∀ p ∈ a.pl, p.2 < 2 ^ a.pl.length
 f : a.w.f < 2 ^ a.pl.length
 l : a.w.l < 2 ^ a.pl.length
 len : a.pl.length ≤ 60
 set : ∀ p ∈ a.pl, p.1.length ≤ 200
theorem join_set {f t : Nat} {st : List Pl} (h : ∀ p ∈ st, p.1.length ≤ 200) : ∀ p ∈ join f t st, p.1.length ≤ 200 := by
 intro p hp
 obtain ⟨i, hi, rfl⟩ := List.mem_iff_getElem.1 hp
 rw [join_length] at hi
 rw [join_get f t st i hi]
 split
 · exact h st[i] (List.getElem_mem hi)
 · exact h st[i] (List.getElem_mem hi)
def Sg (g : Tf) : Prop := ∀ st, (∀ p ∈ st, p.1.length ≤ 200) → ∀ p ∈ (g st).1, p.1.length ≤ 200
theorem sg_step {g h : Tf} (hg : Sg g) (hh : Sg h) (k : Int) (s : List U.S.R) (hs : s.length ≤ 200) : Sg (step k s g h) := by
 intro st hst
 unfold step
 split
 · intro p hp
   rcases List.mem_append.1 hp with h1 | h1
   · exact hst p h1
   · rw [List.mem_singleton.1 h1]; exact hs
 split
 · exact join_set (hh _ (hg _ hst))
 split
 · exact hh _ (hg _ hst)
 split
 · exact join_set (hg _ hst)
 split
 · exact join_set (hg _ hst)
 split
 · exact hg _ hst
 · exact hst
theorem sg_nil : Sg nil := fun _ h => h
theorem sg_add : ∀ (n : Nat) (t : T), SizeOf.sizeOf t < n → Okt t → Sg (add t)
 | 0, _, h, _ => absurd h (Nat.not_lt_zero _)
 | n + 1, .mk k a s nm ks, h, ho => by
   have ih : ∀ x ∈ ks, Sg (add x) := fun x hx => sg_add n x (by
     have := List.sizeOf_lt_of_mem hx
     simp at h
     omega) (okt_kid ho hx)
   have hk : ∀ i, Sg ((ks.map add).getD i nil) := fun i => by
     rw [List.getD_eq_getElem?_getD, List.getElem?_map]
     cases hi : ks[i]? with
     | none => exact sg_nil
     | some x => exact ih x (List.mem_of_getElem? hi)
   rw [add_mk]
   exact sg_step (hk 0) (hk 1) k s (okt_self ho).2
theorem good_auto {t : T} (h : Acc t) (hc : ct t ≤ 60) : Good (auto t) := by
 have ho := okt_of h.1
 have hl := auto_len ho
 exact ⟨auto_fl ho, (auto_f ho).1, (auto_f ho).2, by omega, sg_add _ t (Nat.lt_succ_self _) ho [] (fun p hp => by cases hp)⟩
noncomputable def allB (a : Au) (xs : List Int) : Bool := acc a (xs.foldl (fun s r => stp a s r) bg)
theorem behind_zero (a : Au) : behind a 0 = 0 := by
 refine Nat.eq_of_testBit_eq fun j => ?_
 unfold behind
 rw [orL_bit]
 simp
theorem stp_zero (a : Au) (r : Int) : stp a 0 r = 0 := by
 refine Nat.eq_of_testBit_eq fun j => ?_
 unfold stp
 rw [orL_bit, behind_zero]
 simp
theorem fold_zero (a : Au) : ∀ xs : List Int, xs.foldl (fun s r => stp a s r) 0 = 0
 | [] => rfl
 | x :: xs => by rw [List.foldl_cons, stp_zero, fold_zero a xs]
theorem acc_zero (a : Au) : acc a 0 = false := by simp [acc]
theorem behind_lt {a : Au} (h : Good a) (s : Nat) : behind a s < 2 ^ a.pl.length := by
 refine orL_lt _ _ (by split; exact h.f; exact Nat.two_pow_pos _) fun i _ => ?_
 split
 · unfold fol
   cases hi : a.pl[i]? with
   | none => exact Nat.two_pow_pos _
   | some p => exact h.fl p (List.mem_of_getElem? hi)
 · exact Nat.two_pow_pos _
end PA
section
variable {w : World} {B A : Nat} {a : PA.Au}
theorem AutoAt.accept (h : AutoAt w B A a.w a.pl) (hg : PA.Good a) (s : Nat) (hs : s < 2 ^ 64) :
   Calls Tryz.prog 25 #[.pointer (some ⟨A, 0, none⟩), .int .u64 (s : Int)] w fun e W => e = .returned (.bool (PA.acc a s)) ∧ W = w := by
 obtain ⟨v, qs, hq, h⟩ := h
 have hl := hg.len
 exact accept_any h (PA.up hg.l (by omega)) s hs
theorem AutoAt.len (h : AutoAt w B A a.w a.pl) : Calls Tryz.prog 70 #[.pointer (some ⟨A, 0, none⟩)] w fun e W => e = .returned (.int .i64 (a.pl.length : Int)) ∧ W = w := by
 obtain ⟨v, qs, hq, h⟩ := h
 rw [← hq, List.length_map]
 exact len_any h
theorem AutoAt.first (h : AutoAt w B A a.w a.pl) : Calls Tryz.prog 134 #[.pointer (some ⟨A, 0, none⟩)] w fun e W => e = .returned (.int .u64 (a.w.f : Int)) ∧ W = w := let ⟨_, _, _, h⟩ := h; first_any h
def folI (a : PA.Au) (i : Int) : Nat := if 0 ≤ i ∧ i < a.pl.length then PA.fol a i.toNat else 0
theorem AutoAt.follow (h : AutoAt w B A a.w a.pl) (i : Int) : Calls Tryz.prog 77 #[.pointer (some ⟨A, 0, none⟩), .int .i64 i] w fun e W => e = .returned (.int .u64 (folI a i : Int)) ∧ W = w := by
 obtain ⟨v, qs, hq, h⟩ := h
 have : folQ qs i = folI a i := by
   unfold folQ folI PA.fol
   rw [← hq, List.length_map, List.getElem?_map, Option.map_map]
   rfl
 rw [← this]
 exact follow_any h i
end
end Go.Proofs.YtgngaldoemopjaaGreatDoor
namespace Go.Proofs.YtgngaldoemopjaaGreatDoor
open Go.RowKit Go.Shelf
open E (T isS)
attribute [local go_sem] Oper.semAt_some
namespace PA
def nodeC (t : T) : Bool := decide ((t.kids.length : Int) = E.kidsOf t.kind) && ((decide (t.kind = 1) && (decide (t.name = []) && (match t.set with | [r] => decide (0 ≤ r.1) && (decide (r.1 ≤ r.2) && decide (r.2 ≤ 1114111)) | _ => false))) || (decide (3 ≤ t.kind) && (decide (t.kind ≤ 8) && (decide (t.set = []) && decide (t.name = [])))))
def treeC (t : T) : Bool := decide ((E.pre t t).length ≤ 400) && (E.pre t t).all fun p => nodeC p.1
theorem nodeC_ok {t : T} (h : nodeC t = true) : E.NodeOk t ∧ E.NodeB t ∧ t.kind ≠ 2 := by
 unfold nodeC at h
 simp only [Bool.and_eq_true, Bool.or_eq_true, decide_eq_true_eq] at h
 obtain ⟨h1, ⟨h2, h3, h4⟩ | ⟨h2, h3, h4, h5⟩⟩ := h
 · have hk0 : t.kids.length = 0 := by rw [h2, show E.kidsOf 1 = 0 from by decide] at h1; omega
   split at h4
   · rename_i r hr
     simp only [Bool.and_eq_true, decide_eq_true_eq] at h4
     obtain ⟨a, b, c⟩ := h4
     refine ⟨⟨h1, .inl ⟨h2, h3, by rw [hr]; simp, by rw [hr]; exact U.S.canon_one ((U.S.good_iff _).2 ⟨a, b, c⟩)⟩⟩, ⟨?_, by rw [h3]; decide, by rw [hr]; simp, by omega⟩, by omega⟩
     intro q hq
     rw [hr] at hq
     obtain rfl := List.mem_singleton.1 hq
     omega
   · cases h4
 · have hk2 : t.kids.length ≤ 2 := by
     unfold E.kidsOf at h1
     split at h1
     · omega
     · split at h1 <;> omega
   exact ⟨⟨h1, .inr (.inr ⟨h2, h3, h4, h5⟩)⟩, ⟨by rw [h4]; simp, by rw [h5]; decide, by rw [h4]; decide, by omega⟩, by omega⟩
theorem names_none {t : T} (h : ∀ p ∈ E.pre t t, p.1.kind ≠ 2) : E.nmL t = [] := by
 have : E.vnk (E.pre t t) = [] := by
   unfold E.vnk
   rw [List.map_eq_nil_iff, List.filter_eq_nil_iff]
   intro p hp
   simpa using h p hp
 unfold E.nmL
 rw [this]
 simp
 rfl
theorem treeC_ok {t : T} (h : treeC t = true) : Acc t ∧ (∀ p ∈ E.pre t t, E.NodeB p.1) ∧ (E.pre t t).length ≤ 1000000 := by
 unfold treeC at h
 simp only [Bool.and_eq_true, decide_eq_true_eq, List.all_eq_true] at h
 exact ⟨⟨⟨h.1, fun p hp => (nodeC_ok (h.2 p hp)).1⟩, names_none fun p hp => (nodeC_ok (h.2 p hp)).2.2⟩, fun p hp => (nodeC_ok (h.2 p hp)).2.1, by omega⟩
end PA
def lightC (s : List UInt8) : Bool := match X.scan 0 s with | .ok l => l.all fun x => !(decide (x.1.kind = 5)) && (!(isS x [91]) && !(isS x [46])) | .error _ => true
theorem light_of {s : List UInt8} (h : lightC s = true) : ∀ l, X.scan 0 s = .ok l → ∀ x ∈ l, x.1.kind ≠ 5 ∧ isS x [91] = false ∧ isS x [46] = false := by
 intro l hl x hx
 unfold lightC at h
 rw [hl] at h
 have := List.all_eq_true.1 h x hx
 simpa using this
theorem AnsP.ok {t : T} {w w' : World} {e : Ending} (h : AnsP (.ok t) w e w') : Below w.heap.size w w' ∧ ∃ d : ND, e = .returned (.tuple #[d.v, .int .i64 0, .int .i64 0]) ∧ TR w' (fun _ => True) t d.v := by
 obtain ⟨hb, ⟨t', v, h1, h2, h3⟩ | ⟨c, k, h1, _⟩⟩ := h
 · cases h1
   have h4 := TR.mono (ok' := fun _ => True) (fun _ _ _ => trivial) t h3
   obtain ⟨d, rfl, _⟩ := h4.nd
   exact ⟨hb, d, h2, h4⟩
 · cases h1
end Go.Proofs.YtgngaldoemopjaaGreatDoor
namespace Go.Proofs.YtgngaldoemopjaaGreatDoor.U
def evN (L : List (Int × Nat)) : Int → Option Nat := L.foldl (fun f p x => if x = p.1 then some ((f p.1).getD 0 ^^^ 2 ^ p.2) else f x) (fun _ => none)
theorem evN_nil : evN [] = fun _ => none := rfl
theorem evN_snoc (L : List (Int × Nat)) (a : Int) (i : Nat) : evN (L ++ [(a, i)]) = fun x => if x = a then some ((evN L a).getD 0 ^^^ 2 ^ i) else evN L x := by
 unfold evN
 rw [List.foldl_append]
 rfl
theorem evN_some (L : List (Int × Nat)) (x : Int) : (evN L x).isSome = true ↔ ∃ i, (x, i) ∈ L := by
 rcases List.eq_nil_or_concat L with rfl | ⟨L', ⟨a, i⟩, rfl⟩
 · simp [evN_nil]
 · rw [List.concat_eq_append, evN_snoc]
   have ih := evN_some L' x
   by_cases h : x = a
   · subst h
     simp
   · simp [h, ih]
termination_by L.length
decreasing_by simp_all
theorem evN_bit (L : List (Int × Nat)) (x : Int) (j : Nat) : ((evN L x).getD 0).testBit j = decide ((L.filter fun p => p.1 == x && p.2 == j).length % 2 = 1) := by
 rcases List.eq_nil_or_concat L with rfl | ⟨L', ⟨a, i⟩, rfl⟩
 · simp [evN_nil]
 · rw [List.concat_eq_append, evN_snoc, List.filter_append, List.length_append]
   have ih := evN_bit L' x j
   by_cases h : x = a
   · subst h
     simp only [if_true, Option.getD_some, Nat.testBit_xor, ih, Nat.testBit_two_pow]
     by_cases hj : i = j
     · subst hj
       simp only [List.filter_cons, List.filter_nil, beq_self_eq_true, Bool.and_self, if_true, List.length_cons, List.length_nil, decide_true, Bool.bne_true]
       generalize (List.filter (fun p => p.1 == x && p.2 == i) L').length = m
       by_cases hm : m % 2 = 1
       · simp [hm, show ¬ (m + 1) % 2 = 1 by omega]
       · simp [hm, show (m + 1) % 2 = 1 by omega]
     · simp [hj]
   · have h2 : ¬ a = x := fun e => h e.symm
     simp [h, h2, ih]
termination_by L.length
decreasing_by simp_all
theorem evN_lt (L : List (Int × Nat)) (n : Nat) (h : ∀ p ∈ L, p.2 < n) (x : Int) : (evN L x).getD 0 < 2 ^ n := by
 rcases List.eq_nil_or_concat L with rfl | ⟨L', ⟨a, i⟩, rfl⟩
 · simp [evN_nil]
   exact Nat.two_pow_pos n
 · rw [List.concat_eq_append] at h ⊢
   rw [evN_snoc]
   have ih := fun x => evN_lt L' n (fun p hp => h p (by simp [hp])) x
   have hi : i < n := h (a, i) (by simp)
   by_cases e : x = a
   · simp only [e, if_true, Option.getD_some]
     exact Nat.xor_lt_two_pow (ih a) (Nat.pow_lt_pow_right (by omega) hi)
   · simp only [e, if_false]
     exact ih x
termination_by L.length
decreasing_by simp_all
def evR (i : Nat) (zs : List S.R) : List (Int × Nat) := zs.flatMap fun r => [(r.1, i), (r.2 + 1, i)]
theorem evR_snoc (i : Nat) (zs : List S.R) (r : S.R) : evR i (zs ++ [r]) = evR i zs ++ [(r.1, i)] ++ [(r.2 + 1, i)] := by simp [evR]
theorem evR_take (i : Nat) (zs : List S.R) (k : Nat) (h : k < zs.length) : evR i (zs.take (k + 1)) = evR i (zs.take k) ++ [(zs[k].1, i)] ++ [(zs[k].2 + 1, i)] := by
 rw [← List.take_append_getElem h, evR_snoc]
theorem evR_length (i : Nat) (zs : List S.R) : (evR i zs).length = 2 * zs.length := by
 induction zs with
 | nil => rfl
 | cons z zs ih => simp [evR] at ih ⊢; omega
theorem evR_mem {i : Nat} {zs : List S.R} {p : Int × Nat} (h : p ∈ evR i zs) : p.2 = i ∧ ∃ r ∈ zs, p.1 = r.1 ∨ p.1 = r.2 + 1 := by
 obtain ⟨r, hr, h1⟩ := List.mem_flatMap.1 h
 simp at h1
 rcases h1 with rfl | rfl
 · exact ⟨rfl, r, hr, .inl rfl⟩
 · exact ⟨rfl, r, hr, .inr rfl⟩
noncomputable def evT (T : List (List S.R)) (n : Nat) : List (Int × Nat) := (List.range n).flatMap fun i => evR i (S.set (T.getD i []))
theorem evT_zero (T : List (List S.R)) : evT T 0 = [] := rfl
theorem evT_succ (T : List (List S.R)) (n : Nat) : evT T (n + 1) = evT T n ++ evR n (S.set (T.getD n [])) := by
 unfold evT
 rw [List.range_succ, List.flatMap_append]
 simp
theorem evT_lt {T : List (List S.R)} {n : Nat} {p : Int × Nat} (h : p ∈ evT T n) : p.2 < n := by
 obtain ⟨i, hi, h1⟩ := List.mem_flatMap.1 h
 rw [(evR_mem h1).1]
 simpa using hi
theorem evT_length {T : List (List S.R)} {m : Nat} (hT : ∀ x ∈ T, x.length ≤ m) (n : Nat) : (evT T n).length ≤ n * (2 * m) := by
 induction n with
 | zero => simp [evT_zero]
 | succ n ih =>
   rw [evT_succ, List.length_append, evR_length]
   have : (S.set (T.getD n [])).length ≤ m := by
     refine Nat.le_trans (S.set_length _) ?_
     by_cases h : n < T.length
     · rw [List.getD_eq_getElem?_getD, List.getElem?_eq_getElem h]
       exact hT _ (List.getElem_mem h)
     · rw [List.getD_eq_getElem?_getD, List.getElem?_eq_none (by omega)]
       simp
   rw [Nat.add_mul]
   omega
def insK (x : Int) : List Int → List Int
 | [] => [x]
 | y :: l => if x < y then x :: y :: l else if x = y then y :: l else y :: insK x l
def ksOf (L : List (Int × Nat)) : List Int := L.foldr (fun p l => insK p.1 l) []
theorem insK_mem (x z : Int) : ∀ l, z ∈ insK x l ↔ z = x ∨ z ∈ l
 | [] => by simp [insK]
 | y :: l => by
   unfold insK
   split
   · simp
   · split
     · rename_i h; subst h; simp
     · simp [insK_mem x z l]
       constructor
       · rintro (h | h | h)
         · exact .inr (.inl h)
         · exact .inl h
         · exact .inr (.inr h)
       · rintro (h | h | h)
         · exact .inr (.inl h)
         · exact .inl h
         · exact .inr (.inr h)
theorem insK_sorted (x : Int) : ∀ l : List Int, l.Pairwise (· < ·) → (insK x l).Pairwise (· < ·)
 | [], _ => by simp [insK]
 | y :: l, h => by
   have h1 := List.pairwise_cons.1 h
   unfold insK
   split
   · rename_i hx
     refine List.pairwise_cons.2 ⟨fun z hz => ?_, h⟩
     rcases List.mem_cons.1 hz with rfl | hz
     · exact hx
     · have := h1.1 z hz; omega
   · split
     · exact h
     · refine List.pairwise_cons.2 ⟨fun z hz => ?_, insK_sorted x l h1.2⟩
       rcases (insK_mem x z l).1 hz with rfl | hz
       · omega
       · exact h1.1 z hz
theorem ksOf_mem (L : List (Int × Nat)) (x : Int) : x ∈ ksOf L ↔ ∃ i, (x, i) ∈ L := by
 induction L with
 | nil => simp [ksOf]
 | cons p L ih =>
   have : ksOf (p :: L) = insK p.1 (ksOf L) := rfl
   rw [this, insK_mem, ih]
   constructor
   · rintro (rfl | ⟨i, hi⟩)
     · exact ⟨p.2, by simp⟩
     · exact ⟨i, by simp [hi]⟩
   · rintro ⟨i, hi⟩
     rcases List.mem_cons.1 hi with h | h
     · exact .inl (by rw [← h])
     · exact .inr ⟨i, h⟩
theorem ksOf_sorted (L : List (Int × Nat)) : (ksOf L).Pairwise (· < ·) := by
 induction L with
 | nil => exact List.Pairwise.nil
 | cons p L ih => exact insK_sorted p.1 _ ih
theorem sorted_unique {l m : List Int} (h1 : l.Pairwise (· < ·)) (h2 : m.Pairwise (· < ·)) (h : ∀ x, x ∈ l ↔ x ∈ m) : l = m := by
 have n1 : l.Nodup := h1.imp fun hab e => by omega
 have n2 : m.Nodup := h2.imp fun hab e => by omega
 exact ((List.perm_ext_iff_of_nodup n1 n2).2 h).eq_of_pairwise (le := fun a b => a < b) (fun a b _ _ h1 h2 => by omega) h1 h2
end Go.Proofs.YtgngaldoemopjaaGreatDoor.U
namespace Go.Proofs.YtgngaldoemopjaaGreatDoor.U
open Go.RowKit Go.Shelf
def Mp (w : World) (k : TypeId) (qk : IntKind) (e : TypeId) (qe : IntKind) (b n : Nat) (f : Int → Option Int) : Prop :=
 ∃ D : DataW Unit, w.ownsMap Tryz.prog k (plainElem Tryz.prog e) b n D ∧ ∀ x, (Lit.int qk x).wf = true → Maps.has D (.int qk x) = (f x).isSome ∧ D.atKey (.int qk x) (.lit (.int qe 0)) = .lit (.int qe ((f x).getD 0))
section
variable {w : World} {k : TypeId} {qk : IntKind} {e : TypeId} {qe : IntKind} {b n : Nat} {f : Int → Option Int}
theorem Mp.made (w : World) : Mp (w.alloc (.map #[] 0)) k qk e qe w.heap.size 0 (fun _ => none) :=
 ⟨_, World.ownsMap_made w Tryz.prog k _, fun _ _ => ⟨rfl, rfl⟩⟩
theorem Mp.lt (h : Mp w k qk e qe b n f) : b < w.heap.size := by obtain ⟨D, h1, _⟩ := h; exact h1.lt
theorem Mp.kept {w' : World} (h : Mp w k qk e qe b n f) (hb : w'.heap[b]? = w.heap[b]?) : Mp w' k qk e qe b n f := by
 obtain ⟨D, ⟨es, clock, h1, h2⟩, h3⟩ := h
 exact ⟨D, ⟨es, clock, hb.trans h1, h2⟩, h3⟩
theorem Mp.later {w' : World} (h : Mp w k qk e qe b n f) (hb : Below w.heap.size w w') : Mp w' k qk e qe b n f := h.kept (hb.block b h.lt)
theorem Mp.isMap (h : Mp w k qk e qe b n f) : ∃ es c, w.heap[b]? = some (.map es c) := by
 obtain ⟨D, ⟨es, clock, h1, _⟩, _⟩ := h
 exact ⟨es, clock, h1⟩
theorem Mp.look {t : TypeId} (h : Mp w k qk e qe b n f) (hk : Tryz.prog.underlying k = some (.int qk)) (ht : Tryz.prog.underlying t = some (.map k e)) (he : Tryz.prog.underlying e = some (.int qe)) (hz : (zeroValue e).run Tryz.prog w = .ok (.int qe 0) w) {x : Int} (hx : (Lit.int qk x).wf = true) :
   (Instr.lookup t (.map (some b)) (.int qk x) false).run Tryz.prog w = .ok (.int qe ((f x).getD 0)) w := by
 obtain ⟨D, h1, h2⟩ := h
 obtain ⟨c, hr, ha, _⟩ := h1.lookup_int (Maps.int_keyed hk) ht he hz (Maps.keyOf_int_mk hk hx)
 rw [(h2 x hx).2] at ha
 cases ha
 exact hr
theorem Mp.lookOk {t : TypeId} (h : Mp w k qk e qe b n f) (hk : Tryz.prog.underlying k = some (.int qk)) (ht : Tryz.prog.underlying t = some (.map k e)) (he : Tryz.prog.underlying e = some (.int qe)) (hz : (zeroValue e).run Tryz.prog w = .ok (.int qe 0) w) {x : Int} (hx : (Lit.int qk x).wf = true) :
   (Instr.lookup t (.map (some b)) (.int qk x) true).run Tryz.prog w = .ok (.tuple #[.int qe ((f x).getD 0), .bool (f x).isSome]) w := by
 obtain ⟨D, h1, h2⟩ := h
 have hw0 : (Lit.int qe 0).wf = true := by cases qe <;> decide
 obtain ⟨v, ps, hr, hv⟩ := h1.look_ok (Maps.int_keyed hk) ht hz (plainElem_int he hw0) (Maps.keyOf_int_mk hk hx)
 rw [(h2 x hx).1] at hr
 rw [(h2 x hx).2] at hv
 obtain ⟨c, rfl, hc, _⟩ := plainElem_int_inv he hv
 simp only [Prod.mk.injEq] at hc
 cases hc.1
 exact hr
def upd (f : Int → Option Int) (x v : Int) : Int → Option Int := fun y => if y = x then some v else f y
theorem Mp.store {t : TypeId} (h : Mp w k qk e qe b n f) (hk : Tryz.prog.underlying k = some (.int qk)) (ht : Tryz.prog.underlying t = some (.map k e)) (he : Tryz.prog.underlying e = some (.int qe)) (hn : n < maxLen) {x v : Int} (hx : (Lit.int qk x).wf = true) (hv : (Lit.int qe v).wf = true) :
   ∃ w', (Instr.mapUpdate t (.map (some b)) (.int qk x) (.int qe v)).run Tryz.prog w = .ok () w' ∧ Mp w' k qk e qe b (n + 1) (upd f x v) ∧ w.grownBy w' (some b) ∧ w'.heap.size = w.heap.size := by
 obtain ⟨D, h1, h2⟩ := h
 have hkey := Maps.keyOf_int_mk (P := Tryz.prog) hk hx
 obtain ⟨w', hr, h3, h4⟩ := h1.store (Maps.int_keyed hk) ht hn hkey (plainElem_int he hv)
 have hsz : w'.heap.size = w.heap.size := by
   obtain ⟨_, _, _, _, _, rfl⟩ := h4
   simp [Go.ChangeMaps.setBlock]
 refine ⟨w', hr, ⟨_, h3, fun y hy => ?_⟩, h4.grown, hsz⟩
 have hkl : WideAt.IsKeyLit (.int qk x) := ⟨⟩
 by_cases hyx : y = x
 · subst hyx
   simp [upd, Maps.has_put_same h1.isMap hkl, Maps.atKey_put_same h1.isMap hkl]
 · have hne : (Lit.int qk y) ≠ (Lit.int qk x) := fun e => hyx (by cases e; rfl)
   rw [Maps.has_put_other hne, Maps.atKey_put_other hne]
   simp [upd, hyx, h2 y hy]
end
end Go.Proofs.YtgngaldoemopjaaGreatDoor.U
namespace Go.Proofs.YtgngaldoemopjaaGreatDoor.U
open Go.RowKit
structure Rw (w0 : World) (b off : Nat) (d : Array Int) (W : World) : Prop where
 cell : ∀ j, j < d.size → W.cell? ⟨b, off + j, none⟩ = some (.int .i32 d[j]!)
 froz : ∀ j, j < d.size → W.frozen? ⟨b, off + j, none⟩ = false
 grown : w0.grownBy W (some b)
 lt : b < w0.heap.size
 rest : ∃ c0 c t fr, w0.heap[b]? = some (.cells c0 t fr) ∧ W.heap[b]? = some (.cells c t fr) ∧ c.size = c0.size
theorem Rw.start {w : World} {b off : Nat} {d : Array Int} {c : Array Value} {t : TypeId} {fr : Nat × Nat} (hb : w.heap[b]? = some (.cells c t fr))
   (h1 : ∀ j, j < d.size → w.cell? ⟨b, off + j, none⟩ = some (.int .i32 d[j]!)) (h2 : ∀ j, j < d.size → w.frozen? ⟨b, off + j, none⟩ = false) : Rw w b off d w :=
 ⟨h1, h2, ⟨rfl, rfl, rfl, Nat.le_refl _, fun _ _ _ => rfl⟩, (Array.getElem?_eq_some_iff.1 hb).1, c, c, t, fr, hb, hb, rfl⟩
theorem Rw.draw {w0 : World} {b off : Nat} {d : Array Int} {W : World} (h : Rw w0 b off d W) (n : Nat) : Rw w0 b off d (W.drewN n) :=
 ⟨h.cell, h.froz, ⟨h.grown.os, h.grown.tape, h.grown.output, h.grown.size, h.grown.block⟩, h.lt, h.rest⟩
theorem Rw.draw1 {w0 : World} {b off : Nat} {d : Array Int} {W : World} (h : Rw w0 b off d W) : Rw w0 b off d W.drew :=
 ⟨h.cell, h.froz, ⟨h.grown.os, h.grown.tape, h.grown.output, h.grown.size, h.grown.block⟩, h.lt, h.rest⟩
theorem Rw.later {w0 : World} {b off : Nat} {d : Array Int} {W W' : World} (h : Rw w0 b off d W) (hg : RowKit.Below w0.heap.size W W') : Rw w0 b off d W' := by
 obtain ⟨c0, c, t, fr, h1, h2, h3⟩ := h.rest
 have hb := hg.block b h.lt
 exact ⟨fun j hj => (World.cell?_of_block (a := ⟨b, off + j, none⟩) hb).trans (h.cell j hj), fun j hj => (World.frozen?_of_block (a := ⟨b, off + j, none⟩) hb).trans (h.froz j hj),
   ⟨hg.os.trans h.grown.os, hg.tape.trans h.grown.tape, hg.output.trans h.grown.output, Nat.le_trans h.grown.size hg.size, fun k hk hn => (hg.block k hk).trans (h.grown.block k hk hn)⟩, h.lt,
   c0, c, t, fr, h1, hb.trans h2, h3⟩
theorem Rw.alloc {w0 : World} {b off : Nat} {d : Array Int} {W : World} (h : Rw w0 b off d W) (o : Obj) : Rw w0 b off d (W.alloc o) :=
 h.later ((RowKit.Below.refl _ W).alloc h.grown.size o)
theorem Rw.set {w0 : World} {b off : Nat} {d : Array Int} {W : World} (h : Rw w0 b off d W) {i : Nat} (hi : i < d.size) (x : Int) :
   Rw w0 b off (d.setIfInBounds i x) (W.setCell ⟨b, off + i, none⟩ (.int .i32 x)) := by
 obtain ⟨c0, c, t, fr, h1, h2, h3⟩ := h.rest
 rw [Sort.setCell_eq]
 have hs : (d.setIfInBounds i x).size = d.size := Array.size_setIfInBounds
 have hci : ∀ j, j < d.size → c[off + j]? = some (.int .i32 d[j]!) := by
   intro j hj
   have := h.cell j hj
   simp [World.cell?, h2] at this
   exact this
 refine ⟨fun j hj => ?_, fun j hj => ?_, ⟨h.grown.os, h.grown.tape, h.grown.output, by simp [Sort.mapBlock]; exact h.grown.size, fun k hk hn => ?_⟩, h.lt, c0, c.setIfInBounds (off + i) (.int .i32 x), t, fr, h1, ?_, by simpa using h3⟩
 · rw [hs] at hj
   rw [Sort.cell?_mapBlock W b _ _ h2, Array.getElem?_setIfInBounds]
   by_cases hij : off + i = off + j
   · obtain rfl : i = j := by omega
     have hlt : off + i < c.size := (Array.getElem?_eq_some_iff.1 (hci i hi)).1
     rw [if_pos rfl, if_pos hlt, Sort.getElem!_set_same d i x hi]
   · rw [if_neg hij, hci j hj, Sort.getElem!_set_other d i j x (by omega)]
 · rw [hs] at hj
   rw [Sort.frozen?_mapBlock]
   exact h.froz j hj
 · have hne : b ≠ k := fun e => hn (by rw [e])
   rw [← h.grown.block k hk hn]
   simp [Sort.mapBlock, Array.getElem?_modify, hne]
 · simp [Sort.mapBlock, Array.getElem?_modify, h2, Sort.onCells]
theorem Rw.swap {w0 : World} {b off : Nat} {d : Array Int} {W : World} (h : Rw w0 b off d W) {i j : Nat} (hi : i < d.size) (hj : j < d.size) {x y : Int} (hx : x = d[j]!) (hy : y = d[i]!) :
   Rw w0 b off (Sort.swp d i j) ((W.setCell ⟨b, off + i, none⟩ (.int .i32 x)).setCell ⟨b, off + j, none⟩ (.int .i32 y)).drew := by
 subst hx hy
 exact ((h.set hi _).set (by rw [Array.size_setIfInBounds]; exact hj) _).draw1
theorem Rw.fam {w0 : World} {b off : Nat} {d : Array Int} {W : World} (h : Rw w0 b off d W) {n : Nat} (hn : d.size = n) :
   ∃ G : Nat → Int, Hid (∀ t, G t = d[t]!) ∧ (∀ t, t < n → W.cell? ⟨b, off + t, none⟩ = some (.int .i32 (G t))) ∧ ∀ t, t < n → W.frozen? ⟨b, off + t, none⟩ = false := by
 subst hn
 exact ⟨fun t => d[t]!, fun _ => rfl, h.cell, h.froz⟩
set_option maxHeartbeats 1000000 in
theorem nan_any (x : Int) (w : World) : Calls Tryz.prog 217 #[.int .i32 x] w fun e w' => e = .returned (.bool false) ∧ w' = w := by
 go_enter Tryz.func217, Tryz.ntmps217
 go_wp2
 go_ret
 exact ⟨by simp, rfl⟩
set_option maxHeartbeats 1000000 in
theorem less_any (x y : Int) (w : World) : Calls Tryz.prog 204 #[.int .i32 x, .int .i32 y] w fun e w' => e = .returned (.bool (Sort.ltInt x y)) ∧ w' = w := by
 go_enter Tryz.func204, Tryz.ntmps204
 go_wp2_with (go_at_call 217; refine (nan_any _ _).mono ?_; rintro e w' ⟨rfl, rfl⟩)
 go_ret
 exact ⟨rfl, rfl⟩
theorem hid {p : Prop} (h : p) : Hid p := h
set_option maxRecDepth 100000 in
set_option maxHeartbeats 4000000 in
theorem ins_any (w0 : World) (b off cap : Nat) (d : Array Int) (i0 j0 : Nat) (W : World) (h : Rw w0 b off d W) (hij : i0 ≤ j0) (hj : j0 ≤ d.size) (hs : d.size ≤ 1000000) :
   Calls Tryz.prog 198 #[.slice (some ⟨b, off, none⟩) d.size cap, .int .i64 i0, .int .i64 j0] W fun e W' => e = .returned (.tuple #[]) ∧ Rw w0 b off (Sort.insertionSort Sort.ltInt d i0 j0) W' := by
 have hn : Hid (d.size = d.size) := rfl
 generalize hN : d.size = N at hj hs hn ⊢
 go_enter Tryz.func198, Tryz.ntmps198
 go_wp2
 go_loopw [6] (fun v wr => ∃ (i : Nat) (dk : Array Int), v = .int .i64 (i : Int) ∧ i0 < i ∧ i ≤ j0 + 1 ∧ Hid (dk.size = N) ∧ Rw w0 b off dk wr ∧ Hid (Sort.insOuter Sort.ltInt i0 j0 i dk = Sort.insertionSort Sort.ltInt d i0 j0)) (fun v _ => j0 + 1 - (intOf v).toNat)
 case atStart => exact ⟨i0 + 1, d, by go_num, by omega, by omega, hN, h, rfl⟩
 case round =>
   obtain ⟨i, dk, rfl, h1, h2, hk, hr, HO⟩ := hrel
   by_cases hlt : i < j0
   · go_wp2
     go_loopw [7] (fun v wq => ∃ (j : Nat) (dj : Array Int), v = .int .i64 (j : Int) ∧ i0 ≤ j ∧ j ≤ i ∧ Hid (dj.size = N) ∧ Rw w0 b off dj wq ∧ Hid (Sort.insInner Sort.ltInt i0 j dj = Sort.insInner Sort.ltInt i0 i dk)) (fun v _ => (intOf v).toNat)
     case atStart => exact ⟨i, dk, rfl, by omega, Nat.le_refl _, hk, hr, rfl⟩
     case round =>
       obtain ⟨j, dj, rfl, h3, h4, hk2, hr2, HI⟩ := hrel
       obtain ⟨G, HG, hc, hf⟩ := hr2.fam hk2.out
       have out : Hid ((j ≤ i0 ∨ Sort.ltInt (G j) (G (j - 1)) = false) → Sort.insOuter Sort.ltInt i0 j0 (i + 1) dj = Sort.insertionSort Sort.ltInt d i0 j0) := by
         refine hid fun hs => ?_
         rw [← HO.out, Proofs.insOuter_go _ _ _ _ _ hlt, ← HI.out, Proofs.insInner_stop _ _ _ _ (by rw [← HG.out, ← HG.out]; exact hs)]
       by_cases hja : i0 < j
       · go_wp2_with fail
         go_big_quiet (first | (go_at_call 204; refine Calls.quiet_of_same (less_any _ _ _)))
         go_wp2_with fail
         · have hl : Hid (Sort.ltInt (G j) (G (j - 1)) = true) := by assumption
           replace hr2 := hr2.draw nq
           replace hc : ∀ t, t < N → (wr.drewN nq).cell? ⟨b, off + t, none⟩ = some (.int .i32 (G t)) := hc
           replace hf : ∀ t, t < N → (wr.drewN nq).frozen? ⟨b, off + t, none⟩ = false := hf
           generalize wr.drewN nq = wq at *
           go_region
           have hr3 := hr2.swap (i := j) (j := j - 1) (by rw [hk2.out]; omega) (by rw [hk2.out]; omega) (HG.out (j - 1)) (HG.out j)
           generalize ((wq.setCell ⟨b, off + j, none⟩ (.int .i32 (G (j - 1)))).setCell ⟨b, off + (j - 1), none⟩ (.int .i32 (G j))).drew = wn at *
           go_wp2
           go_roundw
           case rel => exact ⟨j - 1, Sort.swp dj j (j - 1), by go_num, by omega, by omega, hid (by rw [Sort.size_swp]; exact hk2.out), hr3, hid (by rw [← HI.out, Proofs.insInner_go _ _ _ _ hja (by rw [← HG.out, ← HG.out]; exact hl.out)])⟩
           case measure => simp [intOf]; omega
         · have hl : Sort.ltInt (G j) (G (j - 1)) = false := by assumption
           go_wp2
           go_roundw
           case rel => exact ⟨i + 1, dj, by go_num, by omega, by omega, hk2, hr2.draw nq, out.out (.inr hl)⟩
           case measure => simp [intOf]; omega
       · have hd : decide ((i0 : Int) < (j : Int)) = false := by simp; omega
         go_wp2_with fail
         go_big_quiet (first | (go_at_call 204; refine Calls.quiet_of_same (less_any _ _ _)))
         go_wp2
         go_roundw
         case rel => exact ⟨i + 1, dj, by go_num, by omega, by omega, hk2, hr2.draw nq, out.out (.inl (by omega))⟩
         case measure => simp [intOf]; omega
   · go_wp2
     go_end0
     refine ⟨rfl, ?_⟩
     rw [← HO.out, Proofs.insOuter_stop _ _ _ _ _ hlt]
     exact hr
end Go.Proofs.YtgngaldoemopjaaGreatDoor.U
