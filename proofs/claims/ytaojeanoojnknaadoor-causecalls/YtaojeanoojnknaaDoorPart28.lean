/-
  Parts of the proof, one behind the other; what each proves stands at its head.
-/
import Derived.Test.YtaojeanoojnknaaDoorPart26
import Derived.Test.YtaojeanoojnknaaDoorPart7
import Derived.Test.YtaojeanoojnknaaDoorPart27
import Derived.Test.YtaojeanoojnknaaDoorPart15

/-
  Buffers in memory: 'Bu N w bb mb l': block bb is a buffer whose map lies in block mb and holds the ops l, each with cuts of the buffer's own, in blocks from N on.
-/
namespace Go.Proofs.YtaojeanoojnknaaDoor
open Go.RowKit
set_option linter.unusedVariables false
set_option maxRecDepth 100000

abbrev ents (m : List (Opn × Value)) : List Ent := m.map fun p => (ido2 p.1, opv p.1 p.2)
/-- Ops with cuts of their own. -/
structure Ow9 (N : Nat) (w : World) (m : List (Opn × Value)) : Prop where
  cuts : ∀ p ∈ m, Cs w p.2 p.1.cuts
  far : ∀ p ∈ m, ∀ k, p.2.ownBlock = some k → N ≤ k
theorem Cs.frm {S : Nat → Prop} {w w' : World} {v : Value} {l : List Ct} (h : Cs w v l) (hf : Fr S w w') (hn : ∀ k, v.ownBlock = some k → ¬ S k) : Cs w' v l := Sl.kept h fun k hk hl => hf.block k hl (hn k hk)
theorem Ow9.fr {S : Nat → Prop} {N : Nat} {w w' : World} {m : List (Opn × Value)} (h : Ow9 N w m) (hf : Fr S w w') (hn : ∀ k, N ≤ k → ¬ S k) : Ow9 N w' m :=
  ⟨fun p hp => (h.cuts p hp).frm hf fun k hk => hn k (h.far p hp k hk), h.far⟩
structure Bu (N : Nat) (w : World) (bb mb : Nat) (l : List Opn) : Prop where
  at' : w.heap[bb]? = some (.cells #[.map (some mb)] 79 (0, 0))
  mp : ∃ m es c, Mp w mb (ents m) es c ∧ Ow9 N w m ∧ (m.map (·.1)).Perm l
  wl : Wl l
  lt : 2 ≤ bb ∧ 2 ≤ mb ∧ bb < N ∧ mb < N ∧ bb ≠ mb
theorem Bu.blt {N : Nat} {w : World} {bb mb : Nat} {l : List Opn} (h : Bu N w bb mb l) : bb < w.heap.size := (Array.getElem?_eq_some_iff.1 h.at').1
theorem Bu.mlt {N : Nat} {w : World} {bb mb : Nat} {l : List Opn} (h : Bu N w bb mb l) : mb < w.heap.size := by
  obtain ⟨m, es, c, hm, _⟩ := h.mp
  exact hm.lt
theorem Bu.fr {S : Nat → Prop} {N : Nat} {w w' : World} {bb mb : Nat} {l : List Opn} (h : Bu N w bb mb l) (hf : Fr S w w') (h1 : ¬ S bb) (h2 : ¬ S mb) (h3 : ∀ k, N ≤ k → ¬ S k) : Bu N w' bb mb l := by
  refine ⟨by rw [hf.block bb h.blt h1]; exact h.at', ?_, h.wl, h.lt⟩
  obtain ⟨m, es, c, hm, ho, hp⟩ := h.mp
  exact ⟨m, es, c, hm.kept (hf.block mb hm.lt h2), ho.fr hf h3, hp⟩
theorem Bu.below {N : Nat} {w w' : World} {bb mb : Nat} {l : List Opn} (h : Bu N w bb mb l) (hb : Below w.heap.size w w') : Bu N w' bb mb l :=
  h.fr (S := fun _ => False) (Fr.of_below hb) (fun e => e) (fun e => e) (fun _ _ e => e)
theorem Bu.up {N M : Nat} {w : World} {bb mb : Nat} (h : Bu N w bb mb []) (hM : N ≤ M) : Bu M w bb mb [] := by
  refine ⟨h.at', ?_, h.wl, ⟨h.lt.1, h.lt.2.1, by have := h.lt; omega, by have := h.lt; omega, h.lt.2.2.2.2⟩⟩
  obtain ⟨m, es, c, hm, ho, hp⟩ := h.mp
  have : m = [] := by
    have := hp.length_eq
    simpa using this
  subst this
  exact ⟨[], es, c, hm, ⟨fun p hp => by simp at hp, fun p hp => by simp at hp⟩, hp⟩
theorem Bu.cell {N : Nat} {w : World} {bb mb : Nat} {l : List Opn} (h : Bu N w bb mb l) : w.cell? ⟨bb, 0, none⟩ = some (.map (some mb)) := cell_of_row w bb 0 _ _ _ h.at'

/-- A change of the map alone. -/
theorem Fr.put (w : World) (b : Nat) (o : Obj) : Fr (fun k => k = b) w (w.putObj b o) := ⟨rfl, rfl, rfl, by simp, fun k _ hn => World.putObj_heap_other hn⟩
theorem lay_fr {w w' : World} {b : Nat} (h : Lay w) (hf : Fr (fun k => k = b) w w') (hb : 2 ≤ b) (h2 : 2 ≤ w.heap.size) : Lay w' := by
  have k : Below 2 w w' := ⟨hf.os, hf.tape, hf.output, hf.size, fun i hi => hf.block i (by omega) (by omega)⟩
  have c : ∀ (b : Nat) (off : Nat) (v : Value), b < 2 → w.cell? ⟨b, off, none⟩ = some v → w'.cell? ⟨b, off, none⟩ = some v := fun b off v hb hc => (k.cell (p := ⟨b, off, none⟩) hb).trans hc
  exact ⟨c _ _ _ (by decide) h.r0, c _ _ _ (by decide) h.r1, c _ _ _ (by decide) h.t0, c _ _ _ (by decide) h.t1⟩

theorem perm_ids {m : List (Opn × Value)} {l : List Opn} (h : (m.map (·.1)).Perm l) : ((ents m).map (·.1)).Perm (l.map ido2) := by
  have := h.map ido2
  rwa [List.map_map] at this ⊢
theorem ents_nodup {m : List (Opn × Value)} {l : List Opn} (h : (m.map (·.1)).Perm l) (hs : Srted l) : ((ents m).map (·.1)).Nodup := (perm_ids h).nodup_iff.2 (srted_nodup hs)

theorem erase_perm {α : Type} : ∀ (l : List α) (j : Nat) (h : j < l.length), (l[j] :: l.eraseIdx j).Perm l
  | [], _, h => absurd h (Nat.not_lt_zero _)
  | _ :: _, 0, _ => List.Perm.refl _
  | x :: l, j + 1, h => (List.Perm.swap x _ _).trans ((erase_perm l j (by simpa using h)).cons x)
/-- One op more. -/
theorem Bu.put {N : Nat} {w : World} {bb mb : Nat} {l : List Opn} {V : List Int} (h : Bu N w bb mb l) {m : List (Opn × Value)} {es : Array MapEntry} {c : Nat} (hm : Mp w mb (ents m) es c) (ho : Ow9 N w m) (hp : (m.map (·.1)).Perm l)
    {o : Opn} {u : Value} (hr : rightO o = true) (hn : ido2 o ∉ l.map ido2) (hc : Cs w u o.cuts) (hu : ∀ k, u.ownBlock = some k → N ≤ k) :
    Bu N (w.putObj mb (.map (es.push ⟨idv o.ir o.im, opv o u, c⟩) (c + 1))) bb mb (insO o l) := by
  have hf := Fr.put w mb (.map (es.push ⟨idv o.ir o.im, opv o u, c⟩) (c + 1))
  have hN := h.lt
  refine ⟨by rw [hf.block bb h.blt (by omega)]; exact h.at', ?_, h.wl.ins hr, h.lt⟩
  refine ⟨m ++ [(o, u)], es.push ⟨idv o.ir o.im, opv o u, c⟩, c + 1, ?_, ?_, ?_⟩
  · have := hm.put o.ir o.im (opv o u)
    unfold ents
    rw [List.map_append]
    exact this
  · refine ⟨fun p q => ?_, fun p q => ?_⟩
    · rcases List.mem_append.1 q with q | q
      · exact (ho.cuts p q).frm hf fun k hk e => by have := ho.far p q k hk; omega
      · obtain rfl := List.mem_singleton.1 q
        exact hc.frm hf fun k hk e => by have := hu k hk; omega
    · rcases List.mem_append.1 q with q | q
      · exact ho.far p q
      · obtain rfl := List.mem_singleton.1 q
        exact hu
  · rw [List.map_append]
    exact ((List.perm_append_comm).trans (hp.cons o)).trans (ins_perm h.wl.1 hn).symm
/-- What is right is small. -/
theorem right_small {o : Opn} (h : rightO o = true) : o.fine ∧ o.cuts.length ≤ 16 := by
  have hp := (right_parts h).2
  refine ⟨⟨?_, ?_⟩, ?_⟩
  · have g := hp 2 (by decide)
    unfold goodF at g
    split at g
    · have e := tx_length o.key
      simp [rightF, K.right] at g
      omega
    · simp only [noughtF, decide_eq_true_eq] at g; omega
  · have g := hp 6 (by decide)
    unfold goodF at g
    split at g
    · simp [rightF] at g; omega
    · simp only [noughtF, decide_eq_true_eq] at g; omega
  · have g := hp 7 (by decide)
    unfold goodF at g
    split at g
    · simp [rightF] at g; omega
    · simp [noughtF] at g; simp [g]

end Go.Proofs.YtaojeanoojnknaaDoor

/-
  What slices.ContainsFunc answers of names and what a vector lacks is proved here.
-/
namespace Go.Proofs.YtaojeanoojnknaaDoor
open Go.RowKit
set_option linter.unusedVariables false
set_option maxRecDepth 100000

/-- Where a vector's place is kept. -/
abbrev Vp (w : World) (p vb : Nat) : Prop := ∃ T, w.heap[p]? = some (.cells #[.pointer (some ⟨vb, 0, none⟩)] T (0, 0))
theorem Vp.below {w w' : World} {p vb : Nat} (h : Vp w p vb) (hb : Below w.heap.size w w') : Vp w' p vb := by
  obtain ⟨T, h⟩ := h
  exact ⟨T, by rw [hb.block p (heap_lt h)]; exact h⟩
theorem Vp.cell {w : World} {p vb : Nat} (h : Vp w p vb) : w.cell? ⟨p, 0, none⟩ = some (.pointer (some ⟨vb, 0, none⟩)) := by
  obtain ⟨T, h⟩ := h
  rw [cell_of_row w p 0 _ T _ h]
  rfl

theorem lacks_any (p vb : Nat) (V : List Int) (r n : Int) (w : World) (hp : Vp w p vb) (hV : Vc w vb V) :
    Calls Tryd.prog 38 #[idv r n, .pointer (some ⟨p, 0, none⟩)] w fun e w' => e = .returned (.bool (!hasV V r n)) ∧ Below w.heap.size w w' := by
  have HA := hid (ba w (ido 38 r n))
  have HH := hid (has_any vb V r n (w.alloc (ido 38 r n)) (hV.below HA.out))
  have c0 := (hp.below HA.out).cell
  obtain ⟨b, hb⟩ : ∃ b, hasV V r n = b := ⟨_, rfl⟩
  rw [hb] at HH ⊢
  clear hb hp hV
  go_enter Tryd.func38, Tryd.ntmps38
  go_wp2_with fail
  refine HH.out.mono ?_
  rintro e w2 ⟨rfl, b2⟩
  have HB := hid (bt HA.out b2)
  clear b2
  go_wp2
  go_ret
  exact ⟨rfl, HB.out⟩

def lackN (V : List Int) (l : List (Int × Int)) : Bool := l.any fun x => !hasV V x.1 x.2

set_option maxHeartbeats 1000000 in
theorem nindex_any (p vb : Nat) (V : List Int) (v : Value) (l : List (Int × Int)) (w : World) (hp : Vp w p vb) (hV : Vc w vb V) (hl : Ns w v l) :
    Calls Tryd.prog 58 #[v, .func (.func 38) #[] #[.pointer (some ⟨p, 0, none⟩)]] w fun e w' => (∃ k : Int, e = .returned (.int .i64 k) ∧ decide (0 ≤ k) = lackN V l) ∧ Below w.heap.size w w' := by
  obtain ⟨a, c, rfl, _, _⟩ := hl.form
  obtain ⟨n, hn⟩ : ∃ n, l.length = n := ⟨_, rfl⟩
  have HN := hid hn
  have HL := hid hl
  have HP := hid hp
  have HV := hid hV
  have hm := HL.out.len
  unfold maxLen at hm
  rw [hn] at HL hm ⊢
  clear hl hp hV hn
  go_enter Tryd.func58, Tryd.ntmps58
  go_wp2
  go_loopw [5, 8] (fun _ i wr => ∃ k : Nat, i = .int .i64 k ∧ k ≤ n ∧ (∀ x ∈ l.take k, hasV V x.1 x.2 = true) ∧ Below w.heap.size w wr) (fun _ i _ => n - (intOf i).toNat)
  case atStart => exact ⟨0, rfl, Nat.zero_le _, by simp, Below.refl _ _⟩
  case round =>
    obtain ⟨k, rfl, hk, hall, hb⟩ := hrel
    have HB := hid hb
    have HALL := hid hall
    clear hb hall
    by_cases hlt : k < n
    · have hlt' : (k : Int) < (n : Int) := by omega
      have hx : k < l.length := by rw [HN.out]; exact hlt
      obtain ⟨b, off, c', e1, _, _, hbl, hc⟩ := HL.out.inv (by rw [HN.out]; omega)
      rw [HN.out] at e1
      simp only [Value.slice.injEq] at e1
      obtain ⟨rfl, -, rfl⟩ := e1
      have hc := hc k hx
      obtain ⟨⟨r, m⟩, hq⟩ : ∃ q, l[k] = q := ⟨_, rfl⟩
      rw [hq] at hc
      have HQ := hid hq
      have c0 := (HB.out.cell (p := ⟨b, off + k * 2, none⟩) hbl).trans hc.1
      have c1 := (HB.out.cell (p := ⟨b, off + k * 2 + 1, none⟩) hbl).trans hc.2
      have HC := hid (lacks_any p vb V r m wr (HP.out.below HB.out) (HV.out.below HB.out))
      clear hc hq
      cases hh : hasV V r m
      · rw [hh] at HC
        have HH := hid hh
        clear hh
        go_wp2_with fail
        refine HC.out.mono ?_
        rintro e w2 ⟨rfl, b2⟩
        have HB2 := hid (bt HB.out b2)
        clear b2 HC
        go_wp2
        go_ret
        refine ⟨⟨_, rfl, ?_⟩, HB2.out⟩
        have : lackN V l = true := by
          unfold lackN
          rw [List.any_eq_true]
          exact ⟨(r, m), by rw [← HQ.out]; exact List.getElem_mem hx, by simp [HH.out]⟩
        rw [this]
        simp
      · rw [hh] at HC
        have HH := hid hh
        clear hh
        go_wp2_with fail
        refine HC.out.mono ?_
        rintro e w2 ⟨rfl, b2⟩
        have HB2 := hid (bt HB.out b2)
        clear b2 HC
        go_wp2
        go_roundw
        case rel =>
          refine ⟨k + 1, by go_num, hlt, ?_, HB2.out⟩
          intro x hx'
          rw [List.take_succ_eq_append_getElem hx, List.mem_append, List.mem_singleton] at hx'
          rcases hx' with hx' | rfl
          · exact HALL.out x hx'
          · rw [HQ.out]; exact HH.out
        case measure => simp [intOf]; omega
    · have hlt' : ¬ (k : Int) < (n : Int) := by omega
      go_wp2
      go_ret
      refine ⟨⟨_, rfl, ?_⟩, HB.out⟩
      have : lackN V l = false := by
        unfold lackN
        rw [List.any_eq_false]
        intro x hx
        have := HALL.out x (by rw [List.take_of_length_le (by rw [HN.out]; omega)]; exact hx)
        simp [this]
      rw [this]
      simp

theorem ncontains_any (p vb : Nat) (V : List Int) (v : Value) (l : List (Int × Int)) (w : World) (hp : Vp w p vb) (hV : Vc w vb V) (hl : Ns w v l) :
    Calls Tryd.prog 40 #[v, .func (.func 38) #[] #[.pointer (some ⟨p, 0, none⟩)]] w fun e w' => e = .returned (.bool (lackN V l)) ∧ Below w.heap.size w w' := by
  obtain ⟨a, c, hv, _, _⟩ := hl.form
  have HI := hid (nindex_any p vb V v l w hp hV hl)
  obtain ⟨z, hz⟩ : ∃ z, lackN V l = z := ⟨_, rfl⟩
  rw [hz] at HI ⊢
  clear hz hl hp hV
  subst hv
  go_enter Tryd.func40, Tryd.ntmps40
  go_wp2_with fail
  refine HI.out.mono ?_
  rintro e w2 ⟨⟨k, rfl, hk⟩, b2⟩
  have HB := hid b2
  have HK := hid hk
  clear b2 hk HI
  go_wp2
  go_ret
  exact ⟨by rw [← HK.out]; rfl, HB.out⟩

end Go.Proofs.YtaojeanoojnknaaDoor
