/- Joined: Sww Wbt Bsb. -/
import Derived.Test.YtgngaldoemopjaaGreatDoorFSwi
import Derived.Test.YtgngaldoemopjaaGreatDoorFSwd
import Derived.Test.YtgngaldoemopjaaGreatDoorRows
import Derived.Test.YtgngaldoemopjaaGreatDoorFJE
import Derived.Test.YtgngaldoemopjaaGreatDoorFPlb
import Derived.ProofKit
import Derived.LaidMore
import Derived.Lay
import Derived.OpenShut
import Derived.Stop.Joined
import Derived.Lib.LaidU8T
import Derived.Lib.LaidTab
namespace Go.Proofs.YtgngaldoemopjaaGreatDoor
open Go.RowKit Go.Shelf
open E (T isS)
attribute [local go_sem] Oper.semAt_some
def Stuck (P : Prop) : Prop := P
theorem unst {P : Prop} (h : Stuck P) : P := h
def lks (bs : List UInt8) : List Nat := bs.map fun b => b.toNat % 26
def lcI (ks : List Nat) : List Int := ks.map fun k => ((97 + k : Nat) : Int)
def ddk (ks : List Nat) : List Nat := ks.foldl (fun q k => if q.contains k then q else q ++ [k]) []
theorem lks_snoc (bs : List UInt8) (b : UInt8) : lks (bs ++ [b]) = lks bs ++ [b.toNat % 26] := by simp [lks]
theorem lks_len (bs : List UInt8) : (lks bs).length = bs.length := by simp [lks]
theorem lcI_len (ks : List Nat) : (lcI ks).length = ks.length := by simp [lcI]
theorem lcI_snoc (ks : List Nat) (k : Nat) : lcI (ks ++ [k]) = lcI ks ++ [((97 + k : Nat) : Int)] := by simp [lcI]
theorem lks_lt {bs : List UInt8} : ∀ k ∈ lks bs, k < 26 := by
 intro k hk
 obtain ⟨b, _, rfl⟩ := List.mem_map.1 hk
 exact Nat.mod_lt _ (by decide)
theorem ddk_snoc (ks : List Nat) (k : Nat) : ddk (ks ++ [k]) = if (ddk ks).contains k then ddk ks else ddk ks ++ [k] := by
 unfold ddk
 rw [List.foldl_append]
 rfl
theorem ddk_ok : ∀ (n : Nat) (ks : List Nat), ks.length = n → (ddk ks).Nodup ∧ (∀ c, c ∈ ddk ks ↔ c ∈ ks) ∧ (ddk ks).length ≤ ks.length
 | 0, ks, h => by
   obtain rfl := List.eq_nil_of_length_eq_zero h
   exact ⟨List.nodup_nil, fun c => Iff.rfl, Nat.le_refl _⟩
 | n + 1, ks, h => by
   obtain ⟨b, c, rfl⟩ : ∃ b c, ks = b ++ [c] := ⟨ks.dropLast, ks.getLast (by rintro rfl; cases h), (List.dropLast_concat_getLast _).symm⟩
   obtain ⟨h1, h2, h3⟩ := ddk_ok n b (by simpa using h)
   rw [ddk_snoc]
   by_cases hc : (ddk b).contains c = true
   · rw [if_pos hc]
     have hc2 : c ∈ b := (h2 c).1 (by simpa using hc)
     refine ⟨h1, fun x => ?_, by simp; omega⟩
     rw [h2, List.mem_append, List.mem_singleton]
     exact ⟨.inl, fun h => h.elim id (fun e => e ▸ hc2)⟩
   · rw [if_neg hc]
     have hc2 : c ∉ ddk b := by simpa using hc
     refine ⟨?_, fun x => ?_, by simp; omega⟩
     · rw [List.nodup_append]
       exact ⟨h1, by simp, fun x hx y hy => by rw [List.mem_singleton.1 hy]; rintro rfl; exact hc2 hx⟩
     · rw [List.mem_append, List.mem_append, h2]
theorem wtx_snoc (ks : List Nat) (k : Nat) : PA.wtx (ks ++ [k]) = PA.wtx ks ++ [39, UInt8.ofNat (97 + k)] := by simp [PA.wtx]
theorem wtx_len : ∀ ks : List Nat, (PA.wtx ks).length = 2 * ks.length
 | [] => rfl
 | k :: ks => by
   have := wtx_len ks
   unfold PA.wtx at this ⊢
   rw [List.flatMap_cons, List.length_append, this]
   simp; omega
theorem bts_ap (a b : ByteArray) : bts (a ++ b) = bts a ++ bts b := by
 unfold bts
 simp
theorem rdc_of {w : World} {ao : Option Addr} {xs : List Int} (h : Rd w ao (cI xs)) : RdC32 w ao xs := fun i hi => h.rune i hi
structure Mks (W : World) (B : Nat) (f : Nat → Bool) : Prop where
 cell : ∀ i, i < 26 → W.cell? ⟨B, i, none⟩ = some (.bool (f i))
 free : ∀ i, W.frozen? ⟨B, i, none⟩ = false
abbrev fl26 : Array Value := #[Value.bool false, Value.bool false, Value.bool false, Value.bool false, Value.bool false, Value.bool false, Value.bool false, Value.bool false, Value.bool false, Value.bool false, Value.bool false, Value.bool false, Value.bool false, Value.bool false, Value.bool false, Value.bool false, Value.bool false, Value.bool false, Value.bool false, Value.bool false, Value.bool false, Value.bool false, Value.bool false, Value.bool false, Value.bool false, Value.bool false]
theorem mks_new (w : World) : Mks (w.alloc (.cells fl26 64)) w.heap.size (fun _ => false) := by
 have h := heap_alloc_new w (.cells fl26 64)
 constructor
 · intro i hi
   unfold World.cell?
   simp only [h]
   rw [show fl26 = (List.replicate 26 (Value.bool false)).toArray by rfl]
   rw [List.getElem?_toArray, List.getElem?_replicate, if_pos hi]
   rfl
 · intro i
   unfold World.frozen?
   simp only [h]
   simp
theorem Mks.later {W W' : World} {B : Nat} {f : Nat → Bool} (h : Mks W B f) (hs : W'.heap[B]? = W.heap[B]?) : Mks W' B f :=
 ⟨fun i hi => by rw [← h.cell i hi]; simp only [World.cell?, hs], fun i => by rw [← h.free i]; simp only [World.frozen?, hs]⟩
theorem Mks.set {W : World} {B e : Nat} {f : Nat → Bool} (h : Mks W B f) (he : e < 26) : Mks (W.setCell ⟨B, e, none⟩ (.bool true)) B (fun c => f c || c == e) := by
 constructor
 · intro i hi
   by_cases hie : i = e
   · subst hie
     rw [World.cell?_setCell_same _ _ _ (h.cell i hi)]
     simp
   · rw [World.cell?_setCell_other _ _ _ _ (by intro h; cases h; exact hie rfl)]
     rw [h.cell i hi]
     have : (i == e) = false := by simp [hie]
     rw [this, Bool.or_false]
 · intro i
   have := h.free i
   unfold World.frozen? at this ⊢
   simp only [World.setCell, Array.getElem?_modify]
   cases hb : W.heap[B]? with
   | none => simp
   | some o => rw [hb] at this; cases o <;> simp_all
theorem grown_set (W : World) (p : Addr) (v : Value) : W.grownBy (W.setCell p v) (some p.block) :=
 ⟨rfl, rfl, rfl, by simp [World.setCell], fun k _ hk => Below.heap_setCell _ _ _ k (fun e => hk (by rw [e]))⟩
theorem cv1 (w : World) (n y : Nat) (h : y < 256) (hn : w.heap.size = n) : (convert 63 9 (.slice (some ⟨n, 0, none⟩) 1 1)).run Tryz.prog (w.alloc (.cells #[.int .u8 (y : Int)] 5)) = .ok (.string ⟨#[UInt8.ofNat y]⟩) (w.alloc (.cells #[.int .u8 (y : Int)] 5)) := by
 subst hn
 have := conv_any (w.alloc (.cells #[.int .u8 (y : Int)] 5)) (some ⟨w.heap.size, 0, none⟩) [UInt8.ofNat y] 1 (rd_new _ _ _ _ _ (by
   simp [cB]; omega))
 exact this
structure Wd (w wr : World) (B : Nat) (bs : List UInt8) (A : ByteArray) (v : Value) : Prop where
 tx : bts A = PA.wtx (lks bs)
 row : O32 wr (B + 1) v (lcI (lks bs))
 arr : Mks wr B fun c => (ddk (lks bs)).contains c
 lt : B < wr.heap.size
 bl : Below w.heap.size w wr
theorem wd_A {w wr : World} {B : Nat} {bs : List UInt8} {A : ByteArray} {v : Value} (h : Wd w wr B bs A v) : A.size = 2 * bs.length := by
 rw [← bts_len, h.tx, wtx_len, lks_len]
theorem cI_take (xs : List Int) (k : Nat) : cI (xs.take k) = (cI xs).take k := by simp [cI, List.map_take]
theorem wd_next {w wr w3 : World} {B : Nat} {bs : List UInt8} {A : ByteArray} {v v3 : Value} {o1 o2 : Obj} (h : Wd w wr B bs A v) (hB : w.heap.size ≤ B) (x : UInt8) {e : Nat} (he : x.toNat % 26 = e)
   (h3 : O32 w3 (B + 1) v3 (lcI (lks bs) ++ [((97 + e : Nat) : Int)])) (hb : Below (B + 1) ((wr.alloc o1).alloc o2) w3) :
   w3.cell? ⟨B, e, none⟩ = some (.bool ((ddk (lks bs)).contains e)) ∧ w3.frozen? ⟨B, e, none⟩ = false ∧
   ((ddk (lks bs)).contains e = true → Wd w w3 B (bs ++ [x]) (A ++ ⟨#[39]⟩ ++ ⟨#[UInt8.ofNat (97 + e)]⟩) v3 ∧ ddk (lks (bs ++ [x])) = ddk (lks bs)) ∧
   ((ddk (lks bs)).contains e = false → Wd w (w3.setCell ⟨B, e, none⟩ (.bool true)) B (bs ++ [x]) (A ++ ⟨#[39]⟩ ++ ⟨#[UInt8.ofNat (97 + e)]⟩) v3 ∧ ddk (lks (bs ++ [x])) = ddk (lks bs) ++ [e]) := by
 have he26 : e < 26 := by rw [← he]; exact Nat.mod_lt _ (by decide)
 have hb1 := al1 wr o1
 have hb2 := al1 (wr.alloc o1) o2
 have hlt2 : B < (wr.alloc o1).heap.size := Nat.lt_of_lt_of_le h.lt hb1.size
 have hlt3 : B < ((wr.alloc o1).alloc o2).heap.size := Nat.lt_of_lt_of_le hlt2 hb2.size
 have hk : w3.heap[B]? = wr.heap[B]? := (hb.block B (by omega)).trans ((hb2.block B hlt2).trans (hb1.block B h.lt))
 have hm := h.arr.later hk
 have hbl : Below w.heap.size w w3 := (nx h.bl (nx hb1 hb2)).trans (hb.mono (by omega))
 have hlt : B < w3.heap.size := Nat.lt_of_lt_of_le hlt3 hb.size
 have htx : bts (A ++ ⟨#[39]⟩ ++ ⟨#[UInt8.ofNat (97 + e)]⟩) = PA.wtx (lks (bs ++ [x])) := by
   rw [bts_ap, bts_ap, h.tx, lks_snoc, wtx_snoc, he, List.append_assoc]
   rfl
 have hrow : O32 w3 (B + 1) v3 (lcI (lks (bs ++ [x]))) := by
   rw [lks_snoc, lcI_snoc, he]
   exact h3
 have hdd : ddk (lks (bs ++ [x])) = if (ddk (lks bs)).contains e then ddk (lks bs) else ddk (lks bs) ++ [e] := by rw [lks_snoc, ddk_snoc, he]
 refine ⟨hm.cell e he26, hm.free e, fun hc => ?_, fun hc => ?_⟩
 · rw [if_pos hc] at hdd
   exact ⟨⟨htx, hrow, by rw [hdd]; exact hm, hlt, hbl⟩, hdd⟩
 · rw [if_neg (by rw [hc]; decide)] at hdd
   have h4 := hm.set he26
   refine ⟨⟨htx, ?_, ?_, by simpa [World.setCell] using hlt, hbl.setCell (p := ⟨B, e, none⟩) hB _⟩, hdd⟩
   · exact hrow.kept (grown_set w3 ⟨B, e, none⟩ _) (fun g hg e2 => by
       have h5 := hrow.own.block g hg
       obtain rfl : B = g := Option.some.inj e2
       omega)
   · rw [hdd]
     have : (fun c => (ddk (lks bs) ++ [e]).contains c) = fun c => ((ddk (lks bs)).contains c || c == e) := by
       funext c
       rw [Bool.eq_iff_iff]
       simp
     rw [this]
     exact h4
theorem lcI_b (bs : List UInt8) : ∀ c ∈ lcI (lks bs), 0 < c ∧ c ≤ 1114111 := by
 intro c hc
 obtain ⟨k, hk, rfl⟩ := List.mem_map.1 hc
 have := lks_lt k hk
 omega
theorem lcI_inj (a b : Nat) (h : ((97 + a : Nat) : Int) = ((97 + b : Nat) : Int)) : a = b := by omega
theorem lcI_dd (bs : List UInt8) : (lcI (ddk (lks bs))).Nodup ∧ ∀ c, c ∈ lcI (ddk (lks bs)) ↔ c ∈ lcI (lks bs) := by
 obtain ⟨h1, h2, _⟩ := ddk_ok _ (lks bs) rfl
 refine ⟨?_, fun c => ?_⟩
 · unfold lcI
   rw [List.Nodup, List.pairwise_map]
   exact h1.imp fun h e => h (lcI_inj _ _ e)
 · unfold lcI
   rw [List.mem_map, List.mem_map]
   exact ⟨fun ⟨k, hk, e⟩ => ⟨k, (h2 k).1 hk, e⟩, fun ⟨k, hk, e⟩ => ⟨k, (h2 k).2 hk, e⟩⟩
set_option maxRecDepth 100000 in
set_option maxHeartbeats 1500000 in
theorem sword_any (ao : Option Addr) (bs : List UInt8) (cap : Nat) (w : World) (hR : Rd w ao (cB bs)) (hlen : bs.length ≤ 9223372036854775807) (ht : Tabs w) (hd : Deb w) : Calls Tryz.prog 7 #[.slice ao bs.length cap] w fun e w' => e = .returned (.bool true) ∧ Below w.heap.size w w' := by
 have es := elemSize39
 have hk := known14_any w ht hd
 go_enter Tryz.func7, Tryz.ntmps7
 go_wp2_with fail
 refine hk.mono ?_
 rintro e w1 ⟨rfl, hb1⟩
 clear hk
 by_cases h50 : 50 < bs.length
 · have g : decide (50 < (bs.length : Int)) = true := decide_eq_true (by omega)
   go_wp2
   go_ret
   exact ⟨rfl, hb1⟩
 have g : decide (50 < (bs.length : Int)) = false := decide_eq_false (by omega)
 by_cases h0 : bs.length = 0
 · have g0 : ((bs.length : Int) == 0) = true := beq_iff_eq.2 (by omega)
   go_wp2
   go_ret
   exact ⟨rfl, hb1⟩
 have g0 : ((bs.length : Int) == 0) = false := beq_eq_false_iff_ne.2 (by omega)
 go_wp2
 have HM := mks_new w1
 have hbA := nx hb1 (al1 w1 (.cells fl26 64))
 have hBs : w.heap.size ≤ w1.heap.size := hb1.size
 have hBn : w1.heap.size < (w1.alloc (.cells fl26 64)).heap.size := (Array.getElem?_eq_some_iff.1 (heap_alloc_new w1 (.cells fl26 64))).1
 have HW0 : Hid (Wd w (w1.alloc (.cells fl26 64)) w1.heap.size [] ⟨#[]⟩ (.slice none 0 0)) := hide ⟨rfl, O32.nil _ _, HM, hBn, hbA⟩
 clear HM hbA hBn
 unfold fl26 at HW0
 generalize hB : w1.heap.size = B at *
 go_loopw [3, 5, 6, 7, 8] (fun p q x u _ wr => ∃ (i m : Nat) (A : ByteArray), p = .string A ∧ x = .int .i64 (m : Int) ∧ u = .int .i64 (i : Int) ∧ i ≤ bs.length ∧ m ≤ i ∧ Hid (Wd w wr B (bs.take i) A q) ∧ Hid ((ddk (lks (bs.take i))).length = m)) (fun _ _ _ u _ _ => bs.length - (intOf u).toNat)
 case atStart => exact ⟨0, 0, _, rfl, rfl, rfl, Nat.zero_le _, Nat.zero_le _, HW0, hide rfl⟩
 case round =>
   obtain ⟨i, m, A, rfl, rfl, rfl, hi, hmi, HW, HM⟩ := hrel
   have hbr := HW.out.bl
   have hBr := HW.out.lt
   have hAs : A.size ≤ 100 := by
     rw [wd_A HW.out, List.length_take]; omega
   have hA2 : ∀ c : ByteArray, (A ++ c).size = A.size + c.size := fun c => ByteArray.size_append
   by_cases hlt : i < bs.length
   · have hRi := hR.later hbr
     obtain ⟨b, off, rfl, hc⟩ := hRi.byte i hlt
     have hx := bs[i].toNat_lt
     have HT : Hid (bs.take (i + 1) = bs.take i ++ [bs[i]]) := hide (List.take_succ_eq_append_getElem hlt)
     generalize hxe : bs[i] = x at *
     obtain ⟨e, hee⟩ : ∃ e : Nat, x.toNat % 26 = e := ⟨_, rfl⟩
     have hm : (x.toNat : Int) % 26 = (e : Int) := by omega
     have he26 : e < 26 := by omega
     have HLE := hide hee
     obtain ⟨y, hy⟩ : ∃ y : Nat, 97 + e = y := ⟨_, rfl⟩
     have ha : 97 + (e : Int) = (y : Int) := by omega
     have hyb : y < 256 := by omega
     have HY := hide hy
     clear hy hee
     have hcv := cv1 wr wr.heap.size y hyb rfl
     have s1 : (wr.alloc (.cells #[.int .u8 (y : Int)] 5)).heap.size = wr.heap.size + 1 := by simp
     have HO := hide ((HW.out.row.later (al1 wr (.cells #[.int .u8 (y : Int)] 5))).later (al1 (wr.alloc (.cells #[.int .u8 (y : Int)] 5)) (.cells #[.int .i32 (y : Int)] 21)))
     clear hRi
     go_wp2_with (first
       | (at_builtin; refine wpl_app32 rfl _ _ rfl (B + 1) _ (lcI (lks (bs.take i))) (y : Int) (wr.heap.size + 1) rfl rfl HO.out (by simp; omega) (by rw [← s1]; exact cell_new1 _ _ _) (by rw [lcI_len, lks_len, List.length_take]; omega) ?_; intro v3 w3 hv3 hb3 hg3; refine unst ?_))
     have hv4 : O32 w3 (B + 1) v3 (lcI (lks (bs.take i)) ++ [((97 + e : Nat) : Int)]) := by rw [show ((97 + e : Nat) : Int) = (y : Int) by rw [HY.out]]; exact hv3
     obtain ⟨k1, k2, k3, k4⟩ := wd_next HW.out hBs x HLE.out hv4 hb3
     rw [HY.out] at k3 k4
     cases hcn : (ddk (lks (bs.take i))).contains e with
     | true =>
       rw [hcn] at k1
       obtain ⟨k5, k6⟩ := k3 hcn
       rw [← HT.out] at k5 k6
       have HK5 := hide k5
       have HK6 : Hid ((ddk (lks (bs.take (i + 1)))).length = m) := hide (by rw [k6]; exact HM.out)
       clear k3 k4 k5 k6 HW hv3 hv4 hb3 hg3 HO HT HM
       unfold Stuck
       go_wp2
       go_roundw
       case rel => exact ⟨i + 1, m, _, rfl, rfl, by go_num, by omega, by omega, HK5, HK6⟩
       case measure => simp [intOf] <;> omega
     | false =>
       rw [hcn] at k1
       obtain ⟨k5, k6⟩ := k4 hcn
       rw [← HT.out] at k5 k6
       have HK5 := hide k5
       have HK6 : Hid ((ddk (lks (bs.take (i + 1)))).length = m + 1) := hide (by rw [k6, List.length_append, HM.out]; rfl)
       clear k3 k4 k5 k6 HW hv3 hv4 hb3 hg3 HO HT HM
       unfold Stuck
       go_wp2
       go_roundw
       case rel => exact ⟨i + 1, m + 1, _, rfl, by go_num, by go_num, by omega, by omega, HK5, HK6⟩
       case measure => simp [intOf] <;> omega
   · obtain rfl : i = bs.length := by omega
     rw [List.take_length] at HW HM
     obtain ⟨⟨t, hpt, hWd⟩, hlx⟩ := PA.word_parse (ks := lks bs) lks_lt (by rw [lks_len]; omega)
     have hcb := lcI_b bs
     have hcl : (lcI (lks bs)).length = bs.length := by rw [lcI_len, lks_len]
     have hql : (cI (lcI (lks bs))).length = bs.length := by rw [cI_length, hcl]
     have hpa := parse_light A (by omega) (by rw [HW.out.tx]; exact hlx) wr (ht.later hbr)
     rw [HW.out.tx, hpt] at hpa
     have HWD : Hid (PA.IsW (lcI (lks bs)) t) := hide hWd
     have HOW := hide HW.out.row
     obtain ⟨a1, c1, rfl, hcap, hnil, hrd⟩ := HOW.out.own.rd
     rw [hql] at hcap HOW ⊢
     have HRD := hide hrd
     have HBr := hide hbr
     clear hWd hpt hlx HW hrd HW0
     go_wp2_with fail
     refine hpa.mono ?_
     intro e w2 ha
     obtain ⟨hb2, d, rfl, htr⟩ := ha.ok
     have a2 := al1 w2 (.cells #[.int .i64 d.k, .int .i64 d.a, .slice d.sp d.sl d.sc, .string d.n, .slice d.kp d.kl d.kc] 25)
     have n2 := heap_alloc_new w2 (.cells #[.int .i64 d.k, .int .i64 d.a, .slice d.sp d.sl d.sc, .string d.n, .slice d.kp d.kl d.kc] 25)
     have B2 := nx hb2 a2
     obtain ⟨hac, hnb, hps⟩ := PA.treeC_ok (PA.isW_treeC HWD.out hcb (by omega))
     have hct := PA.isW_ct HWD.out
     have HAC : Hid (PA.Acc t ∧ PA.ct t ≤ 60) := hide ⟨hac, by rw [hct]; omega⟩
     have hN := dfa_any t d (w2.alloc (.cells #[.int .i64 d.k, .int .i64 d.a, .slice d.sp d.sl d.sc, .string d.n, .slice d.kp d.kl d.kc] 25)) (ht.later (nx HBr.out B2)) (hd.later (nx HBr.out B2)) (TR.later (fun k hk => a2.block k hk) _ htr) hps hnb
     obtain ⟨q0, q1, q2, q3, q4⟩ := cells_five n2
     have HB2 := hide B2
     clear hpa ha htr a2 n2 hac hnb hps hct hb2 hbr hBr B2
     unfold ND.v at hN ⊢
     go_wp2_with fail
     refine hN.mono ?_
     intro e W3 hw
     obtain ⟨hb3, ⟨hno, _⟩ | ⟨_, _, W0, hans⟩⟩ := hw
     · exact absurd HAC.out hno
     have HB3 := hide (nx HB2.out hb3)
     obtain ⟨_, D, ls, L, hls, rfl, hD, hL, hms, hF⟩ := word_out HWD.out hcb (by omega) (lcI_dd bs).1 (lcI_dd bs).2 hans
     have hg := PA.good_auto HAC.out.1 HAC.out.2
     have hl60 := hg.len
     have hlen2 : ls.length = (PA.auto t).pl.length := by have := congrArg List.length hls; simpa using this
     have hpl : (U.psOf (U.msOf (pcs ls)) (pcs ls)).length ≤ 10000000 := by
       have hl2 : ∀ p ∈ ls, p.2.2.length ≤ 5000 := fun p hp => by
         have h1 : p.2.2 ∈ (PA.auto t).pl.map (·.1) := by rw [← hls]; exact List.mem_map_of_mem (f := fun q : U.L3 => q.2.2) hp
         obtain ⟨q, hq, e⟩ := List.mem_map.1 h1
         have := hg.set q hq
         rw [← e]
         omega
       have hz := U.endsZ_in ls (by omega)
       have hp2 := (U.pieces_in hz).1
       have hzl := U.endsZ_length ls (by omega) hl2
       unfold U.psOf pcs
       rw [List.length_map]
       omega
     have hl64 : ls.length ≤ 64 := by omega
     have HALL := hide (fun (W : World) (hD : DAt W D (PA.auto t) (U.msOf (pcs ls)) (U.psOf (U.msOf (pcs ls)) (pcs ls)) L) (ao : Option Addr) (cap : Nat) (xs : List Int) (hx : RdC32 W ao xs) (hl : xs.length ≤ 1000000) => sall_any hD hF hl64 hpl ao cap xs hx hl)
     have HD := hide hD
     have k1 := dlen_any hD
     have k2 := dcls_any hD
     rw [hL, hcl] at k1
     rw [hms, lcI_len, HM.out] at k2
     have hau := PA.isW_auto HWD.out
     have HT1 : Hid (PA.allB (PA.auto t) (lcI (lks bs)) = true) := hide (by rw [hau]; exact PA.word_all hcb (by omega) (by omega))
     have HT2 : Hid (∀ j, j < bs.length → PA.allB (PA.auto t) ((lcI (lks bs)).take j) = false) := hide (fun j hj => by rw [hau]; exact PA.word_part hcb (by omega) (by omega))
     have HT3 : Hid (PA.allB (PA.auto t) (lcI (lks bs) ++ [97]) = false) := hide (by rw [hau]; exact PA.word_more hcb (by omega) (by omega) 97)
     have k3 := HALL.out W3 HD.out a1 c1 (lcI (lks bs)) (rdc_of (HRD.out.later HB3.out)) (by omega)
     rw [hcl, HT1.out] at k3
     have HRD3 := hide (HRD.out.later HB3.out)
     have HOW3 := hide (HOW.out.later HB3.out)
     have HBX := hide (nx HBr.out HB3.out)
     clear hN q0 q1 q2 q3 q4 hb3 hans hls hD hL hms hF hg hl60 hlen2 hpl hl64 hau hcb
     go_wp2_with fail
     refine k1.mono ?_
     rintro e W4 ⟨rfl, rfl⟩
     go_wp2_with fail
     refine k2.mono ?_
     rintro e W5 ⟨rfl, rfl⟩
     go_wp2_with fail
     refine k3.mono ?_
     rintro e W6 ⟨rfl, hb6⟩
     have HB6 := hide hb6
     clear k1 k2 k3 hb6
     go_wp2
     go_loopw [14] (fun u wv => ∃ j : Nat, u = .int .i64 (j : Int) ∧ j ≤ bs.length ∧ Below W6.heap.size W6 wv) (fun u _ => bs.length - (intOf u).toNat)
     case atStart => exact ⟨0, rfl, Nat.zero_le _, Below.refl _ _⟩
     case round =>
       obtain ⟨j, rfl, hj, hBv⟩ := hrel
       have hBv3 := nx HB6.out hBv
       by_cases hjl : j < bs.length
       · have hrv := HRD3.out.later hBv3
         obtain ⟨a5, c5, hrd5, hkc5, hn5, hcut⟩ := cut_to (T := 39) Tryz.underlying39 elemSize39 wr a1 (cI (lcI (lks bs))) bs.length c1 j hj hcap hnil hrv
         have hcut2 := hcut wr
         have k4 := HALL.out wr (HD.out.later hBv3) a5 c5 ((lcI (lks bs)).take j) (rdc_of (by rw [cI_take]; exact hrd5)) (by rw [List.length_take]; omega)
         rw [HT2.out j hjl, List.length_take, hcl, Nat.min_eq_left hj] at k4
         clear hcut hrd5 hrv
         go_wp2_with fail
         refine k4.mono ?_
         rintro e W7 ⟨rfl, hb7⟩
         have hBn := nx hBv hb7
         clear k4 hb7 hcut2
         go_wp2
         go_roundw
         case rel => exact ⟨j + 1, by go_num, by omega, hBn⟩
         case measure => simp [intOf] <;> omega
       · obtain rfl : j = bs.length := by omega
         have HOv := hide ((HOW3.out.later hBv3).later (al1 wr (.cells #[.int .i32 97] 21)))
         have hsz : B + 1 ≤ (wr.alloc (.cells #[.int .i32 97] 21)).heap.size := by
           obtain ⟨g, hg⟩ : ∃ g, a1 = some g := by
             cases ha : a1 with
             | none => have := hnil ha; omega
             | some g => exact ⟨g, rfl⟩
           have h8 := World.ownsRow.lt HOv.out.own g.block (by rw [hg]; rfl)
           omega
         go_wp2_with (first
           | (at_builtin; refine wpl_app32 rfl _ _ rfl (B + 1) _ (lcI (lks bs)) 97 wr.heap.size rfl rfl HOv.out hsz (cell_new1 _ _ _) (by omega) ?_; intro v3 w3 hv3 hb3 hg3; refine unst ?_))
         have hl7 : (lcI (lks bs) ++ [97]).length = bs.length + 1 := by simp [hcl]
         obtain ⟨a7, c7, e7, _, _, hrd7⟩ := hv3.own.rd
         rw [cI_length, hl7] at e7
         subst e7
         obtain ⟨g7, hg7⟩ : ∃ g7, a1 = some g7 := by
           cases ha : a1 with
           | none => have := hnil ha; omega
           | some g7 => exact ⟨g7, rfl⟩
         have htn := ((HD.out.later hBv3).later (al1 wr (.cells #[.int .i32 97] 21))).turn (U.msOf_nodup _) (hg3 g7.block (by rw [hg7]; rfl))
         have k5 := HALL.out w3 htn a7 c7 (lcI (lks bs) ++ [97]) (rdc_of hrd7) (by omega)
         rw [HT3.out, hl7] at k5
         have hbz : Below w.heap.size w w3 := (nx (nx HBX.out hBv3) (al1 wr (.cells #[.int .i32 97] 21))).trans (hb3.mono (by omega))
         clear hrd7 htn hg3 hb3 hv3
         unfold Stuck
         go_wp2_with fail
         refine k5.mono ?_
         rintro e W8 ⟨rfl, hb8⟩
         have hbn := nx hbz hb8
         clear k5 hb8 hbz
         go_wp2
         go_ret
         exact ⟨rfl, hbn⟩
end Go.Proofs.YtgngaldoemopjaaGreatDoor
namespace Go.Proofs.YtgngaldoemopjaaGreatDoor
open Go.ChangeShapes Go.WideShapes Go.ChangeAt Go.RowKit
theorem own : ownKnob Tryz.prog.godebug = none := by kernel_rfl
theorem laidOut : laidOutB Tryz.prog = true := by kernel_rfl
def tabsRen : Go.Shelf.Ren := ⟨fun n => n, fun | 5 => 5 | 119 => 298 | 138 => 300 | 139 => 301 | n => n, fun | 3 => 2 | 4 => 3 | n => n⟩
theorem tabsTypes : U8Types Tryz.prog tabsRen := { t5 := Tryz.underlying5, t119 := Tryz.underlying298, t138 := Tryz.underlying300, t139 := Tryz.underlying301 }
theorem tabsExtra : U8Extra Tryz.prog tabsRen := { n3 := by kernel_rfl, n4 := by kernel_rfl, y3 := by kernel_rfl, y4 := by kernel_rfl, c5 := by kernel_rfl, c119 := by kernel_rfl, c138 := by kernel_rfl }
set_option maxRecDepth 100000 in
theorem first_eq : Rows.laid_unicode_utf8_first = Lib.firstData := by kernel_rfl
theorem accept_eq : (Rows.laid_unicode_utf8_acceptRanges : DataW Unit) = Lib.acceptData := by kernel_rfl
def laid2 : List (String × DataW Unit) := [("math/bits.deBruijn32tab", Rows.laid_math_bits_deBruijn32tab), ("math/bits.deBruijn64tab", Rows.laid_math_bits_deBruijn64tab), ("internal/strconv.uint64pow10", Rows.laid_internal_strconv_uint64pow10), ("unicode/utf8.acceptRanges", Rows.laid_unicode_utf8_acceptRanges), ("strconv.ErrRange", Rows.laid_strconv_ErrRange), ("strconv.ErrSyntax", Rows.laid_strconv_ErrSyntax), ("unicode/utf8.first", Rows.laid_unicode_utf8_first)]
set_option maxRecDepth 100000 in
theorem laid_met2 (os : Os) (args : Array Value) : laidMetH Tryz.prog laid2 ((World.laidAll Tryz.prog os laid2).forCall (fun _ _ => 0) ⟨#[], args, []⟩).memory := by
 rw [MakeChecks.laidMetH_plain _ _ _ (by kernel_rfl)]
 exact laidMet_laidAll _ (by kernel_rfl) (by kernel_rfl)
theorem tabs_of_laid2 {W : World} (h : laidMetH Tryz.prog laid2 W) : Tabs W := by
 rw [MakeChecks.laidMetH_plain _ _ _ (by kernel_rfl)] at h
 have h1 := Lib.laidMet.reads h (n := "unicode/utf8.first") (d := Rows.laid_unicode_utf8_first) (by simp [laid2])
 have h2 := Lib.laidMet.reads h (n := "unicode/utf8.acceptRanges") (d := Rows.laid_unicode_utf8_acceptRanges) (by simp [laid2])
 rw [first_eq] at h1
 rw [accept_eq] at h2
 exact utf8Tabs_of_readsT tabsTypes tabsExtra h1 h2
def deb64 : List Int := [0, 1, 56, 2, 57, 49, 28, 3, 61, 58, 42, 50, 38, 29, 17, 4, 62, 47, 59, 36, 45, 43, 51, 22, 53, 39, 33, 30, 24, 18, 12, 5, 63, 55, 48, 27, 60, 41, 37, 16, 46, 35, 44, 21, 52, 32, 23, 11, 54, 26, 40, 15, 34, 20, 31, 10, 25, 14, 19, 9, 13, 8, 7, 6]
theorem deb_eq : (Rows.laid_math_bits_deBruijn64tab : DataW Unit) = Lib.tabData .u8 deb64 := by kernel_rfl
theorem deb_tab : ∀ j, j < 64 → deb64[j]? = some ((Lib.deBruijn64tab.getD j 0 : Nat) : Int) := by decide
theorem deb_len : Lib.deBruijn64tab.length = 64 := by decide
theorem deb_of_laid {W : World} (h : laidMetH Tryz.prog laid2 W) : Deb W := by
 rw [MakeChecks.laidMetH_plain _ _ _ (by kernel_rfl)] at h
 have h1 := Lib.laidMet.reads h (n := "math/bits.deBruijn64tab") (d := Rows.laid_math_bits_deBruijn64tab) (by simp [laid2])
 rw [deb_eq] at h1
 obtain ⟨g, t, cs, fuel, p, hg, hty, hvar, hd⟩ := h1
 obtain rfl := Option.some.inj ((show Tryz.prog.globalNamed "math/bits.deBruijn64tab" = some 0 by kernel_rfl).symm.trans hg)
 obtain rfl := Option.some.inj ((show (Tryz.prog.globals[0]?).map (·.type) = some 187 by kernel_rfl).symm.trans hty)
 have hcs := Lib.cells_of_tab (n := 64) Tryz.underlying187 Tryz.underlying5 (by kernel_rfl) (by kernel_rfl) hd
 intro j hj
 rw [deb_len] at hj
 have := World.var?_cell hg hvar j
 rw [this, ← Array.getElem?_toList, hcs, List.getElem?_map, deb_tab j hj]
 rfl
end Go.Proofs.YtgngaldoemopjaaGreatDoor
namespace Go.Proofs.YtgngaldoemopjaaGreatDoor
open Go.ChangeShapes Go.WideShapes Go.ChangeAt Go.RowKit
theorem rd_of_trod {H : Type} {enc : TypeId × Value → H} {W : World} {base : Nat} {sp : Nat → Bool} {held : Bool} {a0 : Option Addr} {len cap : Nat} {d : DataW H} {p : List MemPlace}
   (h : DataW.Trod enc Tryz.prog W base sp held 63 (.slice a0 len cap) d p) : ∃ bs : List UInt8, len = bs.length ∧ bs.length ≤ cap ∧ bs.length ≤ 9223372036854775807 ∧ (Rd W a0 (cB bs) ∧ (a0 = none → cap = 0)) := by
 obtain ⟨fuel, hf⟩ := h
 rcases open_ints Tryz.underlying63 Tryz.underlying5 (by kernel_rfl) hf with ⟨hcs, _⟩ | ⟨x, l, c, zs, hcs, _, hl, hm, hz, _, hcell, hwz⟩
 · simp [Value.cells] at hcs
   obtain ⟨rfl, rfl, rfl⟩ := hcs
   exact ⟨[], rfl, Nat.zero_le _, Nat.zero_le _, (fun i h => by simp [cB] at h), fun _ => rfl⟩
 · simp [Value.cells] at hcs
   obtain ⟨rfl, rfl, rfl⟩ := hcs
   have hzl : len ≤ zs.length := by split at hz <;> omega
   refine ⟨(zs.take len).map fun z => UInt8.ofNat z.toNat, by simp; omega, by simp; omega, by simp; unfold maxLen at hm; omega, ?_, fun e => by cases e⟩
   intro i hi
   rw [cB_length] at hi
   have hi' : i < len := by simp at hi; omega
   obtain ⟨b, off, rfl, hc⟩ := ints_at hcell (show 0 < zs.length by omega)
   refine ⟨b, off, rfl, ?_⟩
   have hiz : i < zs.length := by omega
   rw [hc i hiz]
   have hb := bounds_u8 (hwz zs[i] (List.getElem_mem hiz))
   simp only [cB, List.getD_eq_getElem?_getD, List.getElem?_eq_getElem hiz, Option.getD_some, List.getElem_map, List.getElem_take, UInt8.toNat_ofNat']
   congr 2
   omega
end Go.Proofs.YtgngaldoemopjaaGreatDoor
