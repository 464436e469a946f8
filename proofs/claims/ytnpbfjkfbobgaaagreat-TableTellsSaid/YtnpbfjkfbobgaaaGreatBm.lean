/-
  postilionlaw15.awake.
-/
import Derived.Test.YtnpbfjkfbobgaaaGreatBj
namespace Go.Proofs.YtnpbfjkfbobgaaaGreat
open Go.RowKit
set_option linter.unusedVariables false
set_option linter.unusedSimpArgs false
namespace PM
def tp : Te := ⟨⟨#[112]⟩, 8, 0, 0, ⟨#[]⟩⟩
def ap : At := ⟨⟨#[112]⟩, 1, 5, ⟨#[]⟩⟩
def aq : At := ⟨⟨#[113]⟩, 1, 5, ⟨#[]⟩⟩
theorem ap_l : (⟨#[112]⟩ : ByteArray).toList = [112] := by rw [ByteArray.toList_eq]
theorem aq_l : (⟨#[113]⟩ : ByteArray).toList = [113] := by rw [ByteArray.toList_eq]
theorem one_l : insL ⟨1, 7, [tp]⟩ [] = [⟨1, 7, [tp]⟩] := rfl
theorem none_l : applyL 3 ⟨1, 7, []⟩ [⟨1, 7, [tp]⟩] = [] := by
  unfold applyL
  rw [if_neg (by decide), if_pos rfl]
  rfl
theorem all_1 : allL [⟨1, 7, [tp]⟩] [1] = [[tp]] := by
  unfold allL
  rw [List.filter_cons_of_pos (by decide), List.filter_nil]
  rfl
theorem all_2 : allL [⟨1, 7, [tp]⟩] [2] = [] := by
  unfold allL
  rw [List.filter_cons_of_neg (by decide), List.filter_nil]
  rfl
theorem red_1 : redL [[tp]] = [[tp]] := by simp [redL, sv]
theorem red_0 : redL [] = [] := rfl
theorem mt_p : anyM [[tp]] [ap] = true := by
  unfold anyM matchB holdsB tp ap
  simp
  decide
theorem mt_q : anyM [[tp]] [aq] = false := by
  unfold anyM matchB holdsB tp aq
  simp [ap_l, aq_l]
theorem flt : [[ap], [aq]].filter (anyM [[tp]]) = [[ap]] := by
  rw [List.filter_cons_of_pos mt_p, List.filter_cons_of_neg (by rw [mt_q]; decide), List.filter_nil]
end PM
namespace PM
theorem em_bk {α : Type} {e : α → List Value} {c : Nat} {w : World} {g : Nat} {cs : Array Value} {T : TypeId} (he : ∀ x, (e x).length = c) (h : BK w g cs T) (l : List α) (n : Nat) (hn : n = l.length) (hl : l.length ≤ maxLen) (hcs : cs = (l.flatMap e).toArray) : EM e c w (.slice (some ⟨g, 0, none⟩) n n) l := by
  subst hn hcs
  refine ⟨_, l.length, rfl, Nat.le_refl _, hl, fun _ => ⟨g, 0, rfl, fun i y hi j u hu => ?_⟩⟩
  rw [Nat.zero_add, h.cell]
  have := flat_get he l i y hi j u hu
  simpa using this
theorem es_bk {w : World} {g : Nat} {cs : Array Value} {T : TypeId} (h : BK w g cs T) (l : List Int) (n : Nat) (hn : n = l.length) (hl : l.length ≤ maxLen) (hcs : cs = (l.map iv).toArray) : ES iv w (.slice (some ⟨g, 0, none⟩) n n) l := by
  subst hn hcs
  exact .inr (.inl ⟨g, 0, l.length, rfl, Nat.le_refl _, hl, fun i x hi => by
    rw [Nat.zero_add, h.cell]
    simp [hi]⟩)
theorem RR.lits15 {α : Type} {R : World → List Value → α → Prop} (hL : Lasts R) (W : World) (E : TypeId) (vs : List Value) (l : List α) (n : Nat) (cs : Array Value) (hn : n = l.length) (hv : vs.length = l.length) (hcs : cs = vs.toArray) (hl : l.length ≤ maxLen) (h1 : ∀ v ∈ vs, v.oneCell' = true)
    (hR : ∀ (i : Nat) (v : Value) (x : α), vs[i]? = some v → l[i]? = some x → R W [v] x) : RR R 1 (W.alloc (.cells cs E)) (.slice (some ⟨W.heap.size, 0, none⟩) n n) l := by
  subst hn hcs
  have hb : Below W.heap.size W (W.alloc (.cells vs.toArray E)) := (Below.refl _ _).alloc (Nat.le_refl _) _
  refine ⟨vs.attach.map (fun v => ce1 v.1 (h1 v.1 v.2)), ⟨_, l.length, by simp [hv], by simp [hv], hl, fun _ => ⟨W.heap.size, 0, rfl, fun i c hi j u hu => ?_⟩⟩, by simp [hv], fun i c x hi hx => ?_⟩
  · rw [List.getElem?_map] at hi
    cases hvi : vs.attach[i]? with
    | none => simp [hvi] at hi
    | some v =>
      simp [hvi] at hi
      subst hi
      have hvv : vs[i]? = some v.1 := by
        have := congrArg (Option.map Subtype.val) hvi
        rw [← List.getElem?_map, List.attach_map_subtype_val] at this
        exact this
      match j, hu with
      | 0, hu =>
        simp [ceL, ce1] at hu
        subst hu
        rw [World.cell?_alloc_at (w := W) vs.toArray E W.heap.size _ rfl]
        simpa using hvv
      | j + 1, hu => simp [ceL, ce1] at hu
  · rw [List.getElem?_map] at hi
    cases hvi : vs.attach[i]? with
    | none => simp [hvi] at hi
    | some v =>
      simp [hvi] at hi
      subst hi
      have hvv : vs[i]? = some v.1 := by
        have := congrArg (Option.map Subtype.val) hvi
        rw [← List.getElem?_map, List.attach_map_subtype_val] at this
        exact this
      exact hL _ _ _ _ hb (hR i _ x hvv hx)
end PM
set_option maxRecDepth 100000 in
set_option maxHeartbeats 8000000 in
theorem awake15_any (w : World) :
    Calls Tryz.prog 4 #[] w fun e w' => e = .returned (.bool true) ∧ Below w.heap.size w w' := by
  go_enter Tryz.func4, Tryz.ntmps4
  go_upto_region 2 with fail
  obtain ⟨g1, hg1⟩ : ∃ g, g = w.heap.size := ⟨_, rfl⟩
  obtain ⟨w1, hw1⟩ : ∃ W, W = w.alloc (.cells #[.string ⟨#[112]⟩, .int .i64 8, .int .i64 0, .int .i64 0, .string ⟨#[]⟩] 50) := ⟨_, rfl⟩
  have bw1 : Below w.heap.size w w1 := by rw [hw1]; exact (Below.refl _ _).alloc (Nat.le_refl _) _
  have sw1 : w.heap.size + 1 = w1.heap.size := by rw [hw1]; simp
  have kg1 : PM.BK w1 g1 #[.string ⟨#[112]⟩, .int .i64 8, .int .i64 0, .int .i64 0, .string ⟨#[]⟩] 50 := by rw [hw1, hg1]; exact PM.BK.new _ _ _
  obtain ⟨g2, hg2⟩ : ∃ g, g = w1.heap.size := ⟨_, rfl⟩
  obtain ⟨w2, hw2⟩ : ∃ W, W = w1.alloc (.cells #[.int .i64 2, .int .i64 0, .int .u64 0, .int .u64 0, .int .i64 1, .int .u64 7, .slice (some ⟨g1, 0, none⟩) 1 1, .slice none 0 0] 31) := ⟨_, rfl⟩
  have bw2 : Below w1.heap.size w1 w2 := by rw [hw2]; exact (Below.refl _ _).alloc (Nat.le_refl _) _
  have sw2 : w1.heap.size + 1 = w2.heap.size := by rw [hw2]; simp
  have kg2 : PM.BK w2 g2 #[.int .i64 2, .int .i64 0, .int .u64 0, .int .u64 0, .int .i64 1, .int .u64 7, .slice (some ⟨g1, 0, none⟩) 1 1, .slice none 0 0] 31 := by rw [hw2, hg2]; exact PM.BK.new _ _ _
  have hT : PM.TV w1 (.slice (some ⟨g1, 0, none⟩) 1 1) [PM.tp] := PM.em_bk PM.teL_len kg1 [PM.tp] 1 rfl (by decide) rfl
  try rw [← hw1]
  try rw [sw1]
  try rw [← hg1]
  try rw [← hw2]
  try rw [sw2]
  try rw [← hg2]
  clear hg1 hw1 sw1
  clear hg2 hw2 sw2
  have hBB := PM.hid (PM.chain bw1 bw2)
  replace hT := hT.keep bw2
  clear bw1 bw2 kg1
  have c0 : w2.cell? ⟨g2, 0, none⟩ = some (.int .i64 2) := kg2.cell 0
  have c1 : w2.cell? ⟨g2, 1, none⟩ = some (.int .i64 0) := kg2.cell 1
  have c2 : w2.cell? ⟨g2, 2, none⟩ = some (.int .u64 0) := kg2.cell 2
  have c3 : w2.cell? ⟨g2, 3, none⟩ = some (.int .u64 0) := kg2.cell 3
  have c4 : w2.cell? ⟨g2, 4, none⟩ = some (.int .i64 1) := kg2.cell 4
  have c5 : w2.cell? ⟨g2, 5, none⟩ = some (.int .u64 7) := kg2.cell 5
  have c6 : w2.cell? ⟨g2, 6, none⟩ = some (.slice (some ⟨g1, 0, none⟩) 1 1) := kg2.cell 6
  have c7 : w2.cell? ⟨g2, 7, none⟩ = some (.slice none 0 0) := kg2.cell 7
  have ha := apply15_any (.slice none 0 0) [] 2 0 0 0 1 7 (some ⟨g1, 0, none⟩) 1 1 (.slice none 0 0) [PM.tp] w2 rfl (PM.RR.nil _) ⟨by decide, fun x h => by cases h⟩ List.Pairwise.nil hT (by decide)
  rw [show PM.applyL 2 ⟨1, 7, [PM.tp]⟩ [] = [⟨1, 7, [PM.tp]⟩] from rfl] at ha
  go_wp2_with fail
  refine ha.mono ?_
  clear ha
  rintro e w3 ⟨u1, rfl, ho1, hb⟩
  clear c0 c1 c2 c3 c4 c5 c6 c7 kg2 hT
  replace hBB := PM.hid (PM.chain hBB.out hb)
  clear hb
  have h1 : PM.SbL w3 u1 [⟨1, 7, [PM.tp]⟩] := ho1.rr.imp fun cs x h => PM.sbO_sbR h
  clear ho1
  have hss : PM.sbsS [⟨1, 7, [PM.tp]⟩] := ⟨by decide, fun x h => by simp at h; subst h; decide⟩
  have hrs : PM.Rise [⟨1, 7, [PM.tp]⟩] := List.pairwise_singleton _ _
  have ha := apply15_any u1 [⟨1, 7, [PM.tp]⟩] 3 0 0 0 1 7 none 0 0 (.slice none 0 0) [] w3 rfl h1 hss hrs (PM.EM.nil _) (by decide)
  rw [PM.none_l] at ha
  go_wp2_with fail
  refine ha.mono ?_
  clear ha
  rintro e w4 ⟨u2, rfl, ho2, hb⟩
  replace hBB := PM.hid (PM.chain hBB.out hb)
  replace h1 := PM.SbL.keep h1 hb
  obtain ⟨na, nc, hu2⟩ := ho2.rr.len
  have hu2' : u2 = .slice na 0 nc := hu2
  subst hu2'
  clear hb ho2 hu2
  go_wp2_with fail
  refine (int_any _ _).mono ?_
  rintro e w5 ⟨rfl, hb⟩
  replace hBB := PM.hid (PM.chain hBB.out hb)
  replace h1 := PM.SbL.keep h1 hb
  clear hb
  go_wp2_with fail
  obtain ⟨g3, hg3⟩ : ∃ g, g = w5.heap.size := ⟨_, rfl⟩
  obtain ⟨w6, hw6⟩ : ∃ W, W = w5.alloc (.cells #[.string ⟨#[112]⟩, .int .i64 1, .int .i64 5, .string ⟨#[]⟩] 53) := ⟨_, rfl⟩
  have bw6 : Below w5.heap.size w5 w6 := by rw [hw6]; exact (Below.refl _ _).alloc (Nat.le_refl _) _
  have sw6 : w5.heap.size + 1 = w6.heap.size := by rw [hw6]; simp
  have kg3 : PM.BK w6 g3 #[.string ⟨#[112]⟩, .int .i64 1, .int .i64 5, .string ⟨#[]⟩] 53 := by rw [hw6, hg3]; exact PM.BK.new _ _ _
  try rw [← hw6]
  try rw [sw6]
  try rw [← hg3]
  clear hg3 hw6 sw6
  have hE1 : PM.EV w6 (.slice (some ⟨g3, 0, none⟩) 1 1) [PM.ap] := PM.EM.ev (PM.em_bk PM.attL_len kg3 [PM.ap] 1 rfl (by decide) rfl)
  replace hBB := PM.hid (PM.chain hBB.out bw6)
  replace h1 := PM.SbL.keep h1 bw6
  clear bw6
  refine (int_any _ _).mono ?_
  rintro e w7 ⟨rfl, hb⟩
  replace hBB := PM.hid (PM.chain hBB.out hb)
  replace h1 := PM.SbL.keep h1 hb
  replace hE1 := hE1.keep hb
  clear hb kg3
  go_upto_region 5 with fail
  obtain ⟨g4, hg4⟩ : ∃ g, g = w7.heap.size := ⟨_, rfl⟩
  obtain ⟨w8, hw8⟩ : ∃ W, W = w7.alloc (.cells #[.string ⟨#[113]⟩, .int .i64 1, .int .i64 5, .string ⟨#[]⟩] 53) := ⟨_, rfl⟩
  have bw8 : Below w7.heap.size w7 w8 := by rw [hw8]; exact (Below.refl _ _).alloc (Nat.le_refl _) _
  have sw8 : w7.heap.size + 1 = w8.heap.size := by rw [hw8]; simp
  have kg4 : PM.BK w8 g4 #[.string ⟨#[113]⟩, .int .i64 1, .int .i64 5, .string ⟨#[]⟩] 53 := by rw [hw8, hg4]; exact PM.BK.new _ _ _
  obtain ⟨g5, hg5⟩ : ∃ g, g = w8.heap.size := ⟨_, rfl⟩
  obtain ⟨w9, hw9⟩ : ∃ W, W = w8.alloc (.cells #[.slice (some ⟨g3, 0, none⟩) 1 1, .slice (some ⟨g4, 0, none⟩) 1 1] 55) := ⟨_, rfl⟩
  have bw9 : Below w8.heap.size w8 w9 := by rw [hw9]; exact (Below.refl _ _).alloc (Nat.le_refl _) _
  have sw9 : w8.heap.size + 1 = w9.heap.size := by rw [hw9]; simp
  have kg5 : PM.BK w9 g5 #[.slice (some ⟨g3, 0, none⟩) 1 1, .slice (some ⟨g4, 0, none⟩) 1 1] 55 := by rw [hw9, hg5]; exact PM.BK.new _ _ _
  obtain ⟨g6, hg6⟩ : ∃ g, g = w9.heap.size := ⟨_, rfl⟩
  obtain ⟨w10, hw10⟩ : ∃ W, W = w9.alloc (.cells #[.int .i64 1, .int .i64 0, .int .u64 0, .int .u64 0, .int .i64 0, .int .u64 0, .slice none 0 0, .slice (some ⟨g5, 0, none⟩) 2 2] 31) := ⟨_, rfl⟩
  have bw10 : Below w9.heap.size w9 w10 := by rw [hw10]; exact (Below.refl _ _).alloc (Nat.le_refl _) _
  have sw10 : w9.heap.size + 1 = w10.heap.size := by rw [hw10]; simp
  have kg6 : PM.BK w10 g6 #[.int .i64 1, .int .i64 0, .int .u64 0, .int .u64 0, .int .i64 0, .int .u64 0, .slice none 0 0, .slice (some ⟨g5, 0, none⟩) 2 2] 31 := by rw [hw10, hg6]; exact PM.BK.new _ _ _
  have hE2 : PM.EV w8 (.slice (some ⟨g4, 0, none⟩) 1 1) [PM.aq] := PM.EM.ev (PM.em_bk PM.attL_len kg4 [PM.aq] 1 rfl (by decide) rfl)
  replace hE1 := hE1.keep bw8
  have hEL : PM.EVL w9 (.slice (some ⟨g5, 0, none⟩) 2 2) [[PM.ap], [PM.aq]] := by
    rw [hw9, hg5]
    refine PM.RR.lits15 PM.evR_lasts w8 _ [.slice (some ⟨g3, 0, none⟩) 1 1, .slice (some ⟨g4, 0, none⟩) 1 1] _ 2 _ rfl rfl rfl (by decide) (by intro v hv; simp at hv; rcases hv with rfl | rfl <;> rfl) ?_
    intro i v x hi hx
    match i, hi, hx with
    | 0, hi, hx => simp at hi hx; subst hi hx; exact ⟨_, rfl, hE1⟩
    | 1, hi, hx => simp at hi hx; subst hi hx; exact ⟨_, rfl, hE2⟩
    | i + 2, hi, hx => simp at hi
  try rw [← hw8]
  try rw [sw8]
  try rw [← hg4]
  try rw [← hw9]
  try rw [sw9]
  try rw [← hg5]
  try rw [← hw10]
  try rw [sw10]
  try rw [← hg6]
  clear hg4 hw8 sw8
  clear hg5 hw9 sw9
  clear hg6 hw10 sw10
  replace hEL := PM.EVL.keepO bw10 hEL
  replace h1 := PM.SbL.keep h1 (PM.chain (PM.chain bw8 bw9) bw10)
  replace hBB := PM.hid (PM.chain hBB.out (PM.chain (PM.chain bw8 bw9) bw10))
  clear bw8 bw9 bw10 kg4 kg5 hE1 hE2
  have hs2 : ([[PM.ap], [PM.aq]] : List (List PM.At)).length ≤ 1000 ∧ ∀ e ∈ ([[PM.ap], [PM.aq]] : List (List PM.At)), e.length ≤ 1000 := ⟨by decide, fun e h => by simp at h; rcases h with rfl | rfl <;> decide⟩
  have hb15 := batch15_any u1 1 [⟨1, 7, [PM.tp]⟩] 1 0 0 0 0 0 [] [[PM.ap], [PM.aq]] none 0 0 (some ⟨g5, 0, none⟩) 2 2 w10 rfl h1 (by decide) hEL hs2
  rw [show PM.batchL [⟨1, 7, [PM.tp]⟩] 1 ⟨1, ⟨0, 0, 0⟩, 0, 0, [], [[PM.ap], [PM.aq]]⟩ = [[PM.ap]] from by unfold PM.batchL; rw [if_pos rfl, PM.all_1, PM.flt]] at hb15
  have c0 : w10.cell? ⟨g6, 0, none⟩ = some (.int .i64 1) := kg6.cell 0
  have c1 : w10.cell? ⟨g6, 1, none⟩ = some (.int .i64 0) := kg6.cell 1
  have c2 : w10.cell? ⟨g6, 2, none⟩ = some (.int .u64 0) := kg6.cell 2
  have c3 : w10.cell? ⟨g6, 3, none⟩ = some (.int .u64 0) := kg6.cell 3
  have c4 : w10.cell? ⟨g6, 4, none⟩ = some (.int .i64 0) := kg6.cell 4
  have c5 : w10.cell? ⟨g6, 5, none⟩ = some (.int .u64 0) := kg6.cell 5
  have c6 : w10.cell? ⟨g6, 6, none⟩ = some (.slice none 0 0) := kg6.cell 6
  have c7 : w10.cell? ⟨g6, 7, none⟩ = some (.slice (some ⟨g5, 0, none⟩) 2 2) := kg6.cell 7
  go_wp2_with fail
  refine hb15.mono ?_
  clear hb15
  rintro e w11 ⟨u3, rfl, ho3, hb⟩
  clear c0 c1 c2 c3 c4 c5 c6 c7
  replace kg6 := kg6.keep hb
  replace hEL := PM.EVL.keepO hb hEL
  replace h1 := PM.SbL.keep h1 hb
  replace hBB := PM.hid (PM.chain hBB.out hb)
  have h3 : PM.EVL w11 u3 [[PM.ap]] := ho3.rr.imp fun cs x ⟨v, q1, q2⟩ => ⟨v, q1, (q2.em PM.attL_len).ev⟩
  clear hb ho3
  have c0 : ∀ o, (w11.alloc o).cell? ⟨g6, 0, none⟩ = some (.int .i64 1) := fun o => PM.cellA ((Below.refl _ _).alloc (Nat.le_refl _) o) (kg6.cell 0)
  have c1 : ∀ o, (w11.alloc o).cell? ⟨g6, 1, none⟩ = some (.int .i64 0) := fun o => PM.cellA ((Below.refl _ _).alloc (Nat.le_refl _) o) (kg6.cell 1)
  have c2 : ∀ o, (w11.alloc o).cell? ⟨g6, 2, none⟩ = some (.int .u64 0) := fun o => PM.cellA ((Below.refl _ _).alloc (Nat.le_refl _) o) (kg6.cell 2)
  have c3 : ∀ o, (w11.alloc o).cell? ⟨g6, 3, none⟩ = some (.int .u64 0) := fun o => PM.cellA ((Below.refl _ _).alloc (Nat.le_refl _) o) (kg6.cell 3)
  have c4 : ∀ o, (w11.alloc o).cell? ⟨g6, 4, none⟩ = some (.int .i64 0) := fun o => PM.cellA ((Below.refl _ _).alloc (Nat.le_refl _) o) (kg6.cell 4)
  have c5 : ∀ o, (w11.alloc o).cell? ⟨g6, 5, none⟩ = some (.int .u64 0) := fun o => PM.cellA ((Below.refl _ _).alloc (Nat.le_refl _) o) (kg6.cell 5)
  have c6 : ∀ o, (w11.alloc o).cell? ⟨g6, 6, none⟩ = some (.slice none 0 0) := fun o => PM.cellA ((Below.refl _ _).alloc (Nat.le_refl _) o) (kg6.cell 6)
  have c7 : ∀ o, (w11.alloc o).cell? ⟨g6, 7, none⟩ = some (.slice (some ⟨g5, 0, none⟩) 2 2) := fun o => PM.cellA ((Below.refl _ _).alloc (Nat.le_refl _) o) (kg6.cell 7)
  go_wp2_with fail
  obtain ⟨g7, hg7⟩ : ∃ g, g = w11.heap.size := ⟨_, rfl⟩
  obtain ⟨w12, hw12⟩ : ∃ W, W = w11.alloc (.cells #[.int .i64 1] 3) := ⟨_, rfl⟩
  have bw12 : Below w11.heap.size w11 w12 := by rw [hw12]; exact (Below.refl _ _).alloc (Nat.le_refl _) _
  have sw12 : w11.heap.size + 1 = w12.heap.size := by rw [hw12]; simp
  have kg7 : PM.BK w12 g7 #[.int .i64 1] 3 := by rw [hw12, hg7]; exact PM.BK.new _ _ _
  try rw [← hw12]
  try rw [sw12]
  try rw [← hg7]
  clear hg7 hw12 sw12
  have hI1 : PM.ES PM.iv w12 (.slice (some ⟨g7, 0, none⟩) 1 1) [1] := PM.es_bk kg7 [1] 1 rfl (by decide) rfl
  replace kg6 := kg6.keep bw12
  replace hEL := PM.EVL.keepO bw12 hEL
  replace h1 := PM.SbL.keep h1 bw12
  replace h3 := PM.EVL.keepO bw12 h3
  replace hBB := PM.hid (PM.chain hBB.out bw12)
  clear bw12
  have hc15 := cut15_any u1 (some ⟨g7, 0, none⟩) 1 1 [⟨1, 7, [PM.tp]⟩] [1] 1 0 0 0 0 0 [] [[PM.ap], [PM.aq]] none 0 0 (some ⟨g5, 0, none⟩) 2 2 w12 rfl rfl h1 (by decide) (fun x h => by simp at h; subst h; decide) hI1 (PM.EM.nil _) hEL ⟨by decide, hs2.1, hs2.2⟩
  rw [show PM.cutE (PM.redL (PM.allL [⟨1, 7, [PM.tp]⟩] [1])) ⟨1, ⟨0, 0, 0⟩, 0, 0, [], [[PM.ap], [PM.aq]]⟩ = ⟨1, ⟨0, 0, 0⟩, 0, 0, [], [[PM.ap]]⟩ from by unfold PM.cutE; rw [if_pos rfl, PM.all_1, PM.red_1]; simp only [PM.flt]] at hc15
  refine hc15.mono ?_
  clear hc15 c0 c1 c2 c3 c4 c5 c6 c7 kg6 hEL
  rintro e w13 ⟨us, rfl, hoc, hb⟩
  replace h1 := PM.SbL.keep h1 hb
  replace h3 := PM.EVL.keepO hb h3
  replace hBB := PM.hid (PM.chain hBB.out hb)
  obtain ⟨cf, ce, hcs, hcf, hce⟩ := hoc
  obtain ⟨cfa, cfc, hcfe⟩ := (hcf.em PM.teL_len).len
  obtain ⟨cea, cec, hcee⟩ := hce.rr.len
  have hcf' : cf = .slice cfa 0 cfc := hcfe
  have hce' : ce = .slice cea 1 cec := hcee
  subst hcf' hce'
  unfold PM.enC at hcs
  subst hcs
  clear hb hcf hce hcfe hcee kg7 hI1
  obtain ⟨ua1, uc1, hu1⟩ := PM.RR.len h1
  have hu1' : u1 = .slice ua1 1 uc1 := hu1
  subst hu1'
  obtain ⟨b1, o1, hbe, hce1⟩ := PM.RR.opn h1 (by decide)
  subst hbe
  obtain ⟨cs1, hl1, fv1, hcs1, -⟩ := hce1 0 _ rfl
  rw [hcs1] at hl1
  have d1 : w13.cell? ⟨b1, o1 + 1, none⟩ = some (.int .u64 7) := by have := hl1 1 _ rfl; simpa using this
  clear hce1 hl1 hcs1 hu1
  obtain ⟨ua3, uc3, hu3⟩ := PM.RR.len h3
  have hu3' : u3 = .slice ua3 1 uc3 := hu3
  subst hu3'
  obtain ⟨b3, o3, hbe, hce3⟩ := PM.RR.opn h3 (by decide)
  subst hbe
  obtain ⟨cs3, hl3, ev3, hcs3, hev⟩ := hce3 0 _ rfl
  rw [hcs3] at hl3
  have hev2 := hev
  obtain ⟨ea3, ec3, hee, -, -, hop⟩ := hev2
  have hee' : ev3 = .slice ea3 1 ec3 := hee
  subst hee'
  obtain ⟨b4, o4, hbe, hat⟩ := hop (by decide)
  subst hbe
  have d3 : w13.cell? ⟨b3, o3, none⟩ = some (.slice (some ⟨b4, o4, none⟩) 1 ec3) := by have := hl3 0 _ rfl; simpa using this
  have d4 : w13.cell? ⟨b4, o4, none⟩ = some (.string ⟨#[112]⟩) := by have := (hat 0 _ rfl).1; simpa [PM.ap] using this
  clear hce3 hl3 hcs3 hu3 hev hee hop hat
  go_upto_region 7 with fail
  obtain ⟨g8, hg8⟩ : ∃ g, g = w13.heap.size := ⟨_, rfl⟩
  obtain ⟨w14, hw14⟩ : ∃ W, W = w13.alloc (.cells #[.int .i64 1, .int .i64 0, .int .u64 0, .int .u64 0, .int .i64 0, .int .u64 0, .slice cfa 0 cfc, .slice cea 1 cec] 31) := ⟨_, rfl⟩
  have bw14 : Below w13.heap.size w13 w14 := by rw [hw14]; exact (Below.refl _ _).alloc (Nat.le_refl _) _
  have sw14 : w13.heap.size + 1 = w14.heap.size := by rw [hw14]; simp
  have kg8 : PM.BK w14 g8 #[.int .i64 1, .int .i64 0, .int .u64 0, .int .u64 0, .int .i64 0, .int .u64 0, .slice cfa 0 cfc, .slice cea 1 cec] 31 := by rw [hw14, hg8]; exact PM.BK.new _ _ _
  try rw [← hw14]
  try rw [sw14]
  try rw [← hg8]
  clear hg8 hw14 sw14
  replace d1 := PM.cellA bw14 d1
  replace d3 := PM.cellA bw14 d3
  replace d4 := PM.cellA bw14 d4
  replace h1 := PM.SbL.keep h1 bw14
  replace hBB := PM.hid (PM.chain hBB.out bw14)
  have h1h := PM.hid h1
  clear bw14 h1 h3 hss hrs hs2
  have c0 : w14.cell? ⟨g8, 0, none⟩ = some (.int .i64 1) := kg8.cell 0
  have c1 : w14.cell? ⟨g8, 1, none⟩ = some (.int .i64 0) := kg8.cell 1
  have c2 : w14.cell? ⟨g8, 2, none⟩ = some (.int .u64 0) := kg8.cell 2
  have c3 : w14.cell? ⟨g8, 3, none⟩ = some (.int .u64 0) := kg8.cell 3
  have c4 : w14.cell? ⟨g8, 4, none⟩ = some (.int .i64 0) := kg8.cell 4
  have c5 : w14.cell? ⟨g8, 5, none⟩ = some (.int .u64 0) := kg8.cell 5
  have c6 : w14.cell? ⟨g8, 6, none⟩ = some (.slice cfa 0 cfc) := kg8.cell 6
  have c7 : w14.cell? ⟨g8, 7, none⟩ = some (.slice cea 1 cec) := kg8.cell 7
  clear kg8
  go_wp2_with fail
  clear c0 c1 c2 c3 c4 c5 c6 c7 d1 d3 d4
  obtain ⟨g9, hg9⟩ : ∃ g, g = w14.heap.size := ⟨_, rfl⟩
  obtain ⟨w15, hw15⟩ : ∃ W, W = w14.alloc (.cells #[.int .i64 1] 3) := ⟨_, rfl⟩
  have bw15 : Below w14.heap.size w14 w15 := by rw [hw15]; exact (Below.refl _ _).alloc (Nat.le_refl _) _
  have sw15 : w14.heap.size + 1 = w15.heap.size := by rw [hw15]; simp
  have kg9 : PM.BK w15 g9 #[.int .i64 1] 3 := by rw [hw15, hg9]; exact PM.BK.new _ _ _
  try rw [← hw15]
  try rw [sw15]
  try rw [← hg9]
  clear hg9 hw15 sw15
  have hI1 : PM.ES PM.iv w15 (.slice (some ⟨g9, 0, none⟩) 1 1) [1] := PM.es_bk kg9 [1] 1 rfl (by decide) rfl
  replace h1h := PM.hid (PM.SbL.keep h1h.out bw15)
  replace hBB := PM.hid (PM.chain hBB.out bw15)
  clear bw15 kg9
  have hf := Filters15_any (.slice (some ⟨b1, o1, none⟩) 1 uc1) (some ⟨g9, 0, none⟩) 1 1 [⟨1, 7, [PM.tp]⟩] [1] w15 h1h.out (by decide) (fun x h => by simp at h; subst h; decide) hI1
  rw [PM.all_1, PM.red_1] at hf
  refine hf.mono ?_
  clear hf hI1
  rintro e w16 ⟨u4, rfl, ho, hb⟩
  obtain ⟨fa4, fc4, hu4⟩ := ho.rr.len
  have hu4' : u4 = .slice fa4 1 fc4 := hu4
  subst hu4'
  replace h1h := PM.hid (PM.SbL.keep h1h.out hb)
  replace hBB := PM.hid (PM.chain hBB.out hb)
  clear hb ho hu4
  go_wp2_with fail
  obtain ⟨g10, hg10⟩ : ∃ g, g = w16.heap.size := ⟨_, rfl⟩
  obtain ⟨w17, hw17⟩ : ∃ W, W = w16.alloc (.cells #[.int .i64 2] 3) := ⟨_, rfl⟩
  have bw17 : Below w16.heap.size w16 w17 := by rw [hw17]; exact (Below.refl _ _).alloc (Nat.le_refl _) _
  have sw17 : w16.heap.size + 1 = w17.heap.size := by rw [hw17]; simp
  have kg10 : PM.BK w17 g10 #[.int .i64 2] 3 := by rw [hw17, hg10]; exact PM.BK.new _ _ _
  try rw [← hw17]
  try rw [sw17]
  try rw [← hg10]
  clear hg10 hw17 sw17
  have hI1 : PM.ES PM.iv w17 (.slice (some ⟨g10, 0, none⟩) 1 1) [2] := PM.es_bk kg10 [2] 1 rfl (by decide) rfl
  replace h1h := PM.hid (PM.SbL.keep h1h.out bw17)
  replace hBB := PM.hid (PM.chain hBB.out bw17)
  clear bw17 kg10
  have hf := Filters15_any (.slice (some ⟨b1, o1, none⟩) 1 uc1) (some ⟨g10, 0, none⟩) 1 1 [⟨1, 7, [PM.tp]⟩] [2] w17 h1h.out (by decide) (fun x h => by simp at h; subst h; decide) hI1
  rw [PM.all_2, PM.red_0] at hf
  refine hf.mono ?_
  clear hf hI1
  rintro e w18 ⟨u5, rfl, ho, hb⟩
  obtain ⟨fa5, fc5, hu5⟩ := ho.rr.len
  have hu5' : u5 = .slice fa5 0 fc5 := hu5
  subst hu5'
  replace hBB := PM.hid (PM.chain hBB.out hb)
  clear hb ho hu5 h1h
  go_wp2_with fail
  go_ret
  exact ⟨by first | rfl | simp, hBB.out⟩
end Go.Proofs.YtnpbfjkfbobgaaaGreat
