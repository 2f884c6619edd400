/-
  What slices.SortedFunc and Ids answer is proved here: the names of the ops that wait, in their order.
-/
import Derived.Test.YtaojeanoojnknaaDoorPart33
import Derived.Test.YtaojeanoojnknaaDoorPart2
import Derived.Shelf.SlSortCmp.NoneTotal
namespace Go.Proofs.YtaojeanoojnknaaDoor
open Go.RowKit Go.Shelf Go.Lib Go.Sort
set_option linter.unusedVariables false
set_option maxRecDepth 100000

abbrev odP (x y : Int × Int) : Int := od x.1 x.2 y.1 y.2
theorem ltOf_od (x y : Int × Int) : ltOf odP x y = klB x y := by
  unfold ltOf
  rw [Bool.eq_iff_iff, decide_eq_true_iff, klB_iff]
  exact od_lt x y
theorem swo_od : SWO (ltOf odP) where
  irrefl x := by rw [ltOf_od, klB_no]; exact kl_irrefl x
  trans x y z h1 h2 := by rw [ltOf_od, klB_iff] at *; exact kl_trans h1 h2
  ntrans x y z h1 h2 := by
    rw [ltOf_od, klB_no] at *
    unfold kl at *
    omega
theorem tot_od (x y : Int × Int) (h1 : ltOf odP x y = false) (h2 : ltOf odP y x = false) : x = y := by
  rw [ltOf_od, klB_no] at h1 h2
  by_cases h : x = y
  · exact h
  · rcases kl_total h with k | k
    · exact absurd k h1
    · exact absurd k h2
theorem cmp_lays (blk off size : Nat) (w : World) : CmpLays Tryd.prog 51 #[] idc 2 odP blk off size w := by
  intro m os dk _ x y
  refine (oi_world x.1 x.2 y.1 y.2 (sortWorldK idc 2 w blk off m dk os)).mono ?_
  rintro e w' ⟨he, a, b, hw⟩
  refine ⟨he, 1, #[ido 38 x.1 x.2] ++ #[ido 38 y.1 y.2] ++ #[ido 3 a b], ?_⟩
  rw [hw, alloc_eq_grow, alloc_eq_grow, alloc_eq_grow, grow_grow, grow_grow, drew_grow]
  rfl
theorem flat_ids (xs : List (Int × Int)) : flatK idc 2 xs.toArray = (xs.flatMap idc).toArray := by
  have hl := flat_length idc 2 (fun _ => rfl) xs
  refine ext_get! (by simp [hl]) fun t ht => ?_
  have ht' : t < xs.length * 2 := by simpa using ht
  rw [get_flatK _ _ _ t (by simpa using ht')]
  have hx : t / 2 < xs.length := by omega
  have k := flat_at idc 2 (fun _ => rfl) xs (t / 2) (t % 2) hx (by omega)
  rw [show t / 2 * 2 + t % 2 = t from by omega] at k
  rw [getElem!_pos (xs.flatMap idc).toArray t (by simp [hl]; omega)]
  have e1 : (xs.toArray)[t / 2]! = xs[t / 2] := by rw [getElem!_pos xs.toArray (t / 2) (by simpa using hx)]; simp
  rw [e1, getElem!_pos (idc xs[t / 2]) (t % 2) (by simp; omega)]
  have k2 := k
  rw [List.getElem?_eq_getElem (by omega), List.getElem?_eq_getElem (by simp; omega)] at k2
  simpa using (Option.some.inj k2).symm
theorem holds_ids {w : World} {g cap : Nat} {xs : List (Int × Int)} {B : Nat} {n : Nat} (h : w.ownsRow B 38 2 (.slice (some ⟨g, 0, none⟩) n cap) xs.length (xs.flatMap idc)) : HoldsK idc 2 w g 0 xs.toArray := by
  unfold HoldsK
  rw [flat_ids]
  intro j hj
  have hj' : j < (xs.flatMap idc).length := by simpa using hj
  have hl := flat_length idc 2 (fun _ => rfl) xs
  rcases h.2 with ⟨e, _⟩ | ⟨g', cap', cur, e, _, hg, _, _, _, ht⟩
  · cases e
  · simp only [Value.slice.injEq, Option.some.injEq, Addr.mk.injEq, and_true] at e
    obtain ⟨rfl, rfl, rfl⟩ := e
    rw [getElem!_pos _ j hj]
    have k : (cur.toList.take (xs.length * 2))[j]? = (xs.flatMap idc)[j]? := by rw [ht]
    rw [List.getElem?_take_of_lt (by omega), List.getElem?_eq_getElem hj'] at k
    refine ⟨?_, frozen_of_row w g (0 + j) _ _ hg⟩
    rw [cell_of_row w g (0 + j) _ _ _ hg, Nat.zero_add, ← Array.getElem?_toList, k]
    simp
theorem ns_holds {w : World} {g cap : Nat} {xs : List (Int × Int)} (h : HoldsK idc 2 w g 0 xs.toArray) (h1 : xs.length ≤ cap) (h2 : cap ≤ maxLen) : Ns w (.slice (some ⟨g, 0, none⟩) xs.length cap) xs := by
  unfold HoldsK at h
  rw [flat_ids] at h
  refine ⟨flat_length idc 2 (fun _ => rfl) xs, some ⟨g, 0, none⟩, cap, rfl, h1, h2, (fun e => by cases e), fun j u hu => ⟨g, 0, rfl, ?_⟩⟩
  have hj := (List.getElem?_eq_some_iff.1 hu).1
  have k := (h j (by simpa using hj)).1
  rw [getElem!_pos _ j (by simpa using hj)] at k
  rw [k]
  obtain ⟨_, e⟩ := List.getElem?_eq_some_iff.1 hu
  simp [e]
theorem sort_grown {w : World} {g n : Nat} {os : Array Obj} (d : Array (Int × Int)) : w.grownBy (sortWorldK idc 2 w g 0 n d os) (some g) := by
  unfold sortWorldK putRowK
  refine ⟨rfl, rfl, rfl, by simp, fun k hk hne => ?_⟩
  rw [heap_grow_old _ _ (by simpa using hk)]
  have : g ≠ k := fun e => hne (by rw [e])
  simp [putRow, mapBlock, Sort.ahead, Array.getElem?_modify, this]

theorem sortfunc_any (g cap : Nat) (xs : List (Int × Int)) (B : Nat) (w : World) (h : w.ownsRow B 38 2 (.slice (some ⟨g, 0, none⟩) xs.length cap) xs.length (xs.flatMap idc)) (hB : B ≤ w.heap.size) (hl : xs.length ≤ 1000000) :
    Calls Tryd.prog 67 #[.slice (some ⟨g, 0, none⟩) xs.length cap, .func (.func 51) #[] #[]] w fun e w' => e = .returned (.tuple #[]) ∧ Ns w' (.slice (some ⟨g, 0, none⟩) xs.length cap) (xs.mergeSort fun x y => !(ltOf odP) y x) ∧ Below B w w' := by
  have hlt := (h.lt g rfl).2
  have hb := (h.lt g rfl).1
  have hc : xs.length ≤ cap ∧ cap ≤ maxLen := by
    rcases h.2 with ⟨e, _⟩ | ⟨g', cap', cur, e, _, _, h1, h2, _⟩
    · cases e
    · have e3 : cap = cap' := by simp at e; omega
      subst e3
      exact ⟨h1, h2⟩
  have hH := holds_ids h
  have hs := AnyQ.slices_SortFunc_total Tryd.sortIds 2 Tryd.isAgg38 Tryd.sizeOf38 idc (fun _ => rfl) (fun x v hv => by simp at hv; rcases hv with rfl | rfl <;> rfl) odP swo_od 51 #[] g 0 cap xs.toArray w (enters_of Tryd.func51 (by kernel_rfl) rfl)
    (cmp_lays g 0 xs.toArray.size w) hH hlt (by simp; omega) tot_od
  rw [show xs.toArray.size = xs.length from by simp] at hs
  refine Calls.mono hs ?_
  rintro e w' ⟨he, n, os, hw⟩
  have hz : (xs.mergeSort fun x y => !(ltOf odP) y x).length = xs.length := List.length_mergeSort _
  refine ⟨he, ?_, ?_⟩
  · have k := holdsK_sortWorldK_c idc 2 w g 0 xs.toArray (xs.mergeSort fun x y => !(ltOf odP) y x).toArray n os hH hlt (by simp)
    rw [← hz]
    refine ns_holds ?_ (by omega) hc.2
    rw [hw]
    exact k
  · rw [hw]
    have gr := sort_grown (w := w) (g := g) (n := n) (os := os) (xs.mergeSort fun x y => !(ltOf odP) y x).toArray
    exact (Below.refl B w).grown gr hB (fun k e => by cases e; exact hb)

set_option maxHeartbeats 1000000 in
theorem sortedfunc_any (Bm mb : Nat) (L : List Ent) (es : Array MapEntry) (c : Nat) (w : World) (hb : Bm < w.heap.size) (hm : w.cell? ⟨Bm, 0, none⟩ = some (.map (some mb))) (hM : Mp w mb L es c) (hL : L.length ≤ 1000000) :
    Calls Tryd.prog 49 #[.func (.func 68) #[] #[.pointer (some ⟨Bm, 0, none⟩)], .func (.func 51) #[] #[]] w fun e w' =>
      ∃ (v : Value) (xs : List (Int × Int)), e = .returned v ∧ (Ns w' v (xs.mergeSort fun x y => !(ltOf odP) y x) ∧ xs.Perm (L.map (·.1))) ∧ Below w.heap.size w w' := by
  have HC := hid (collect_any Bm mb L es c w hb hm hM hL)
  have HL := hid hL
  clear hM hm hb
  go_enter Tryd.func49, Tryd.ntmps49
  go_wp2_with fail
  refine HC.out.mono ?_
  rintro e w2 ⟨v, xs, rfl, hp, ho, hb2⟩
  have hxl : xs.length ≤ 1000000 := by have := hp.length_eq; simp at this; have := HL.out; omega
  have HP := hid hp
  have HB := hid hb2
  have HO := hid ho
  rcases ho.2 with ⟨rfl, hz⟩ | ⟨g, cap, cur, rfl, _, _, _, _, _, _⟩
  · have hss : xs = [] := List.eq_nil_of_length_eq_zero hz
    have HN := hid (AnyF.slices_SortFunc_none Tryd.sortIds none 0 (.func (.func 51) #[] #[]) w2)
    clear hp hb2 ho hz HC
    go_wp2_with fail
    refine Calls.mono HN.out ?_
    rintro e w3 ⟨rfl, rfl⟩
    go_wp2
    go_ret
    refine ⟨.slice none 0 0, xs, rfl, ⟨?_, HP.out⟩, HB.out⟩
    rw [hss, show ([] : List (Int × Int)).mergeSort (fun x y => !(ltOf odP) y x) = [] from by simp]
    exact Sl.nil 2 w3
  · have HN := hid (sortfunc_any g cap xs w.heap.size w2 HO.out HB.out.size hxl)
    clear hp hb2 ho HC
    obtain ⟨n, hn⟩ : ∃ n, xs.length = n := ⟨_, rfl⟩
    rw [hn] at HN hxl ⊢
    clear hn HO
    go_wp2_with fail
    refine HN.out.mono ?_
    rintro e w3 ⟨rfl, hns, hb3⟩
    have HB3 := hid (HB.out.trans hb3)
    have HNS := hid hns
    clear hns hb3 HN
    go_wp2
    go_ret
    exact ⟨_, xs, rfl, ⟨HNS.out, HP.out⟩, HB3.out⟩

theorem sorted_ids {xs : List (Int × Int)} {l : List Opn} (hp : xs.Perm (l.map ido2)) (hs : Srted l) : (xs.mergeSort fun x y => !(ltOf odP) y x) = l.map ido2 := by
  refine List.Perm.eq_of_pairwise (le := fun x y => ¬ kl y x) (fun a b _ _ h1 h2 => ?_) ?_ ?_ ((List.mergeSort_perm _ _).trans hp)
  · by_cases h : a = b
    · exact h
    · rcases kl_total h with k | k
      · exact absurd k h2
      · exact absurd k h1
  · have := List.pairwise_mergeSort (le := fun x y : Int × Int => !(ltOf odP) y x) (fun a b c h1 h2 => by
      simp only [ltOf_od, Bool.not_eq_true', klB_no] at *
      unfold kl at *; omega) (fun a b => by
      simp only [ltOf_od, Bool.or_eq_true, Bool.not_eq_true', klB_no]
      unfold kl; omega) xs
    refine this.imp ?_
    intro a b h
    simpa [ltOf_od, klB_no] using h
  · rw [List.pairwise_map]
    refine hs.imp ?_
    intro a b h k
    exact kl_irrefl _ (kl_trans h k)

theorem mkeys_any (mb : Nat) (w : World) : Calls Tryd.prog 50 #[.map (some mb)] w fun e w' =>
    e = .returned (.func (.func 68) #[] #[.pointer (some ⟨w.heap.size, 0, none⟩)]) ∧ w' = w.alloc (.cells #[.map (some mb)] 77) := by
  go_enter Tryd.func50, Tryd.ntmps50
  go_wp2_with fail
  go_ret
  exact ⟨rfl, rfl⟩

set_option maxHeartbeats 1000000 in
theorem ids_any {N bb mb : Nat} {l : List Opn} {w : World} (h : Bu N w bb mb l) (hl : l.length ≤ 1000000) :
    Calls Tryd.prog 25 #[.pointer (some ⟨bb, 0, none⟩)] w fun e w' => ∃ v, e = .returned v ∧ Ns w' v (l.map ido2) ∧ Below w.heap.size w w' := by
  have c0 := h.cell
  obtain ⟨m, es, c, hM, ho, hp⟩ := h.mp
  have hA := ba w (.cells #[.map (some mb)] 77)
  have HS := hid (sortedfunc_any w.heap.size mb (ents m) es c (w.alloc (.cells #[.map (some mb)] 77)) (by simp) (by rw [cell_of_row _ _ 0 _ _ _ (heap_alloc_new w _)]; rfl) (hM.below hA) (by have := hp.length_eq; simp at this; simp; omega))
  have HA := hid hA
  have HW := hid h.wl.1
  have HP := hid (perm_ids hp)
  clear hM ho hp hA h
  go_enter Tryd.func25, Tryd.ntmps25
  go_wp2_with (first | (go_at_call 50; refine (mkeys_any mb w).mono ?_; rintro e w2 ⟨rfl, rfl⟩) | go_at_call 49; refine HS.out.mono ?_; rintro e w3 ⟨v, xs, rfl, ⟨hn, hx⟩, hb⟩; have HNS := hid hn; have HX := hid hx; have HB := hid hb; clear hn hx hb)
  go_ret
  refine ⟨_, rfl, ?_, bt HA.out HB.out⟩
  have := HNS.out
  rwa [sorted_ids (HX.out.trans HP.out) HW.out] at this

end Go.Proofs.YtaojeanoojnknaaDoor
