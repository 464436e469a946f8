/-
  CONTRACT of postilionref18.Promise.
-/
import Derived.Test.YtjninckmgkaliaaZa
import Derived.Test.YtjninckmgkaliaaWa
namespace Go.Proofs.Ytjninckmgkaliaa
open Go.RowKit
set_option linter.unusedVariables false
set_option linter.unusedSimpArgs false
namespace PM
/-- an entry as it reads in an elder world -/
def eR (w0 : World) (w : World) (cs : List Value) (x : En) : Prop := enR w0 cs x
theorem eR_lasts (w0 : World) : Lasts (eR w0) := fun W w cs x hb h => h
theorem eR_stays (w0 : World) (E : TypeId) : Stays (eR w0) E := fun w w' cs x row hg ht h => h
end PM
set_option maxRecDepth 100000 in
set_option maxHeartbeats 8000000 in
theorem rprom18_any (lf : Nat) (a0 : Option Addr) (n0 c0 : Nat) (a1 : Option Addr) (n1 c1 : Nat) (a2 : Option Addr) (n2 c2 : Nat) (v : Value) (l ls ps : List PM.En) (ab : List PM.Id) (w : World) (hs : PM.StR w (.slice a0 n0 c0) (.slice a1 n1 c1) (.slice a2 n2 c2) ls ps ab) (hn1 : n1 ≤ 1000) (hv : PM.EnL w v l) (hlen : l.length ≤ 1000) :
    Calls Try.prog 12 #[.agg #[.int .u64 (lf : Int), .slice a0 n0 c0, .slice a1 n1 c1, .slice a2 n2 c2], v] w fun e w' => ∃ u r, e = .returned (.tuple #[u, r]) ∧ PM.OR (PM.eR w) 8 50 w.heap.size w' u (PM.prm (PM.kn ls ps ab) n1 l).1 ∧ PM.OM PM.idL 3 30 w.heap.size w' r (PM.prm (PM.kn ls ps ab) n1 l).2 ∧ Below w.heap.size w w' := by
  obtain ⟨va, vc, rfl⟩ := hv.len
  obtain ⟨N, hN⟩ : ∃ N, N = l.length := ⟨_, rfl⟩
  have hNh := PM.hid hN
  rw [← hN] at hv hlen ⊢
  obtain ⟨g, hg⟩ : ∃ g, g = w.heap.size := ⟨_, rfl⟩
  obtain ⟨w1, hw1⟩ : ∃ W, W = w.alloc (.cells #[.int .u64 (lf : Int), .slice a0 n0 c0, .slice a1 n1 c1, .slice a2 n2 c2] 27) := ⟨_, rfl⟩
  have hal : Below w.heap.size w w1 := by rw [hw1]; exact (Below.refl _ _).alloc (Nat.le_refl _) _
  have kg : PM.BK w1 g #[.int .u64 (lf : Int), .slice a0 n0 c0, .slice a1 n1 c1, .slice a2 n2 c2] 27 := by rw [hw1, hg]; exact PM.BK.new _ _ _
  have hBB := PM.hid hal
  have hsh := PM.hid hs
  have hvh := PM.hid hv
  have hdk := PM.hid kg
  clear hal hs hv hN kg
  go_enter Try.func12, Try.ntmps12
  go_upto_region 1 with fail
  rw [← hw1, ← hg]
  clear hw1 hg
  go_wp2_with fail
  go_loopw [6, 7, 8, 9, 10, 11, 12, 13, 14] (fun sp sr ix _ _ _ _ _ _ wr => ∃ k : Nat, ix = .int .i64 k ∧ k ≤ N ∧ Hid (PM.OR (PM.eR w) 8 50 w.heap.size wr sp (PM.prm (PM.kn ls ps ab) n1 (l.take k)).1 ∧ PM.OM PM.idL 3 30 w.heap.size wr sr (PM.prm (PM.kn ls ps ab) n1 (l.take k)).2 ∧ PM.BK wr g #[.int .u64 (lf : Int), .slice a0 n0 c0, .slice a1 n1 c1, .slice a2 n2 c2] 27 ∧ Below w.heap.size w wr)) (fun _ _ ix _ _ _ _ _ _ _ => N - (intOf ix).toNat)
  case atStart => exact ⟨0, rfl, by omega, PM.hid ⟨PM.OR.nilrow _, PM.OM.nilrow _, hdk.out, hBB.out⟩⟩
  case round =>
    obtain ⟨k, rfl, hk, hin⟩ := hrel
    obtain ⟨hO, hI, hG, hB⟩ := hin.out
    clear hin
    have hpl := PM.prm_len (PM.kn ls ps ab) n1 (l.take k)
    have hkl : (l.take k).length = k := by rw [List.length_take]; rw [← hNh.out]; omega
    rw [hkl] at hpl
    obtain ⟨st, hst⟩ : ∃ st, st = PM.prm (PM.kn ls ps ab) n1 (l.take k) := ⟨_, rfl⟩
    rw [← hst] at hO hI hpl
    have hph := PM.hid hst
    clear hst hkl
    obtain ⟨p, r⟩ := st
    simp only at hO hI hpl
    obtain ⟨pa, pc, hpe⟩ := hO.rr.len
    obtain ⟨ra, rc, hre⟩ := (hI.em PM.idL_len).len
    subst hpe hre
    obtain ⟨P, hP⟩ : ∃ P, P = p.length := ⟨_, rfl⟩
    obtain ⟨Q, hQ⟩ : ∃ P, P = r.length := ⟨_, rfl⟩
    rw [← hP] at hO hpl ⊢
    rw [← hQ] at hI hpl ⊢
    have hPh := PM.hid hP
    have hQh := PM.hid hQ
    clear hP hQ hBB
    have hBB := PM.hid hB
    clear hB
    by_cases hlt : k < N
    · obtain ⟨z, hz⟩ : ∃ z, l[k]? = some z := ⟨l[k]'(by rw [← hNh.out]; exact hlt), List.getElem?_eq_getElem _⟩
      obtain ⟨b, off, hbe, hce⟩ := PM.RR.opn hvh.out (by rw [← hNh.out]; omega)
      subst hbe
      obtain ⟨cs, hl0, hR⟩ := hce k z hz
      obtain ⟨fa, fc, ea, ec, hcs, hzf, hze⟩ := PM.enR_open hR
      rw [hcs] at hl0 hR
      obtain ⟨zF, hzF⟩ : ∃ P, P = z.fil.length := ⟨_, rfl⟩
      obtain ⟨zE, hzE⟩ : ∃ P, P = z.evs.length := ⟨_, rfl⟩
      rw [← hzF, ← hzE] at hl0 hR
      have zl := PM.hid hl0
      have zR := PM.hid hR
      have hzh := PM.hid hz
      clear hz hce hl0 hR hcs cs hzf hze hzF hzE
      have d0 : wr.cell? ⟨b, off + k * 8 + 1, none⟩ = some (.int .i64 z.id.br) := (zl.out.keep hBB.out) 1 _ rfl
      have d1 : wr.cell? ⟨b, off + k * 8 + 2, none⟩ = some (.int .u64 (z.id.life : Int)) := (zl.out.keep hBB.out) 2 _ rfl
      have d2 : wr.cell? ⟨b, off + k * 8 + 3, none⟩ = some (.int .u64 (z.id.ser : Int)) := (zl.out.keep hBB.out) 3 _ rfl
      go_upto_region 7 with fail
      obtain ⟨gx, hgx⟩ : ∃ g, g = wr.heap.size := ⟨_, rfl⟩
      obtain ⟨w3, hw3⟩ : ∃ W, W = wr.alloc (.cells #[.int .i64 z.id.br, .int .u64 (z.id.life : Int), .int .u64 (z.id.ser : Int)] 30) := ⟨_, rfl⟩
      have hBn : Below wr.heap.size wr w3 := by rw [hw3]; exact (Below.refl _ _).alloc (Nat.le_refl _) _
      have kx : PM.BK w3 gx #[.int .i64 z.id.br, .int .u64 (z.id.life : Int), .int .u64 (z.id.ser : Int)] 30 := by rw [hw3, hgx]; exact PM.BK.new _ _ _
      rw [← hw3, ← hgx]
      clear hw3 hgx
      clear d0 d1 d2
      replace hO := PM.OR.keep (PM.eR_lasts _) hBn hO
      replace hI := hI.keep hBn
      replace hG := hG.keep hBn
      replace hBB := PM.hid (PM.chain hBB.out hBn)
      clear hBn
      have s0 : w3.cell? ⟨g, 0, none⟩ = some (.int .u64 (lf : Int)) := hG.cell 0
      have s1 : w3.cell? ⟨g, 1, none⟩ = some (.slice a0 n0 c0) := hG.cell 1
      have s2 : w3.cell? ⟨g, 2, none⟩ = some (.slice a1 n1 c1) := hG.cell 2
      have s3 : w3.cell? ⟨g, 3, none⟩ = some (.slice a2 n2 c2) := hG.cell 3
      have x0 : w3.cell? ⟨gx, 0, none⟩ = some (.int .i64 z.id.br) := kx.cell 0
      have x1 : w3.cell? ⟨gx, 1, none⟩ = some (.int .u64 (z.id.life : Int)) := kx.cell 1
      have x2 : w3.cell? ⟨gx, 2, none⟩ = some (.int .u64 (z.id.ser : Int)) := kx.cell 2
      go_wp2_with fail
      refine (rhas_any lf a0 n0 c0 a1 n1 c1 a2 n2 c2 z.id ls w3 (PM.EnL.keep hsh.out.1 hBB.out)).mono ?_
      rintro e w4 ⟨rfl, hBn⟩
      clear s0 s1 s2 s3 x0 x1 x2
      replace hO := PM.OR.keep (PM.eR_lasts _) hBn hO
      replace hI := hI.keep hBn
      replace hG := hG.keep hBn
      replace kx := kx.keep hBn
      replace hBB := PM.hid (PM.chain hBB.out hBn)
      clear hBn
      have s0 : w4.cell? ⟨g, 0, none⟩ = some (.int .u64 (lf : Int)) := hG.cell 0
      have s1 : w4.cell? ⟨g, 1, none⟩ = some (.slice a0 n0 c0) := hG.cell 1
      have s2 : w4.cell? ⟨g, 2, none⟩ = some (.slice a1 n1 c1) := hG.cell 2
      have s3 : w4.cell? ⟨g, 3, none⟩ = some (.slice a2 n2 c2) := hG.cell 3
      have x0 : w4.cell? ⟨gx, 0, none⟩ = some (.int .i64 z.id.br) := kx.cell 0
      have x1 : w4.cell? ⟨gx, 1, none⟩ = some (.int .u64 (z.id.life : Int)) := kx.cell 1
      have x2 : w4.cell? ⟨gx, 2, none⟩ = some (.int .u64 (z.id.ser : Int)) := kx.cell 2
      go_wp2_with fail
      refine (rprom_any lf a0 n0 c0 a1 n1 c1 a2 n2 c2 z.id ps w4 (PM.EnL.keep hsh.out.2.1 hBB.out)).mono ?_
      rintro e w5 ⟨rfl, hBn⟩
      clear s0 s1 s2 s3 x0 x1 x2
      replace hO := PM.OR.keep (PM.eR_lasts _) hBn hO
      replace hI := hI.keep hBn
      replace hG := hG.keep hBn
      replace kx := kx.keep hBn
      replace hBB := PM.hid (PM.chain hBB.out hBn)
      clear hBn
      have s0 : w5.cell? ⟨g, 0, none⟩ = some (.int .u64 (lf : Int)) := hG.cell 0
      have s1 : w5.cell? ⟨g, 1, none⟩ = some (.slice a0 n0 c0) := hG.cell 1
      have s2 : w5.cell? ⟨g, 2, none⟩ = some (.slice a1 n1 c1) := hG.cell 2
      have s3 : w5.cell? ⟨g, 3, none⟩ = some (.slice a2 n2 c2) := hG.cell 3
      have x0 : w5.cell? ⟨gx, 0, none⟩ = some (.int .i64 z.id.br) := kx.cell 0
      have x1 : w5.cell? ⟨gx, 1, none⟩ = some (.int .u64 (z.id.life : Int)) := kx.cell 1
      have x2 : w5.cell? ⟨gx, 2, none⟩ = some (.int .u64 (z.id.ser : Int)) := kx.cell 2
      go_wp2_with fail
      refine (rabort_any lf a0 n0 c0 a1 n1 c1 a2 n2 c2 z.id ab w5 (hsh.out.2.2.keep hBB.out)).mono ?_
      rintro e w6 ⟨rfl, hBn⟩
      clear s0 s1 s2 s3 x0 x1 x2
      replace hO := PM.OR.keep (PM.eR_lasts _) hBn hO
      replace hI := hI.keep hBn
      replace hG := hG.keep hBn
      replace kx := kx.keep hBn
      replace hBB := PM.hid (PM.chain hBB.out hBn)
      clear hBn
      have s0 : w6.cell? ⟨g, 0, none⟩ = some (.int .u64 (lf : Int)) := hG.cell 0
      have s1 : w6.cell? ⟨g, 1, none⟩ = some (.slice a0 n0 c0) := hG.cell 1
      have s2 : w6.cell? ⟨g, 2, none⟩ = some (.slice a1 n1 c1) := hG.cell 2
      have s3 : w6.cell? ⟨g, 3, none⟩ = some (.slice a2 n2 c2) := hG.cell 3
      have x0 : w6.cell? ⟨gx, 0, none⟩ = some (.int .i64 z.id.br) := kx.cell 0
      have x1 : w6.cell? ⟨gx, 1, none⟩ = some (.int .u64 (z.id.life : Int)) := kx.cell 1
      have x2 : w6.cell? ⟨gx, 2, none⟩ = some (.int .u64 (z.id.ser : Int)) := kx.cell 2
      go_wp2_with fail
      refine (rof_any _ z.id p w6 (hO.rr.imp fun cs x h => PM.enR_lasts _ _ _ _ hBB.out h)).mono ?_
      rintro e w7 ⟨rfl, hBn⟩
      clear s0 s1 s2 s3 x0 x1 x2
      replace hO := PM.OR.keep (PM.eR_lasts _) hBn hO
      replace hI := hI.keep hBn
      replace hG := hG.keep hBn
      replace kx := kx.keep hBn
      replace hBB := PM.hid (PM.chain hBB.out hBn)
      clear hBn
      have s0 : w7.cell? ⟨g, 0, none⟩ = some (.int .u64 (lf : Int)) := hG.cell 0
      have s1 : w7.cell? ⟨g, 1, none⟩ = some (.slice a0 n0 c0) := hG.cell 1
      have s2 : w7.cell? ⟨g, 2, none⟩ = some (.slice a1 n1 c1) := hG.cell 2
      have s3 : w7.cell? ⟨g, 3, none⟩ = some (.slice a2 n2 c2) := hG.cell 3
      have x0 : w7.cell? ⟨gx, 0, none⟩ = some (.int .i64 z.id.br) := kx.cell 0
      have x1 : w7.cell? ⟨gx, 1, none⟩ = some (.int .u64 (z.id.life : Int)) := kx.cell 1
      have x2 : w7.cell? ⟨gx, 2, none⟩ = some (.int .u64 (z.id.ser : Int)) := kx.cell 2
      go_wp2_with fail
      refine (rin_any _ z.id r w7 (hI.em PM.idL_len)).mono ?_
      rintro e w8 ⟨rfl, hBn⟩
      clear s0 s1 s2 s3 x0 x1 x2
      replace hO := PM.OR.keep (PM.eR_lasts _) hBn hO
      replace hI := hI.keep hBn
      replace hG := hG.keep hBn
      replace kx := kx.keep hBn
      replace hBB := PM.hid (PM.chain hBB.out hBn)
      clear hBn
      have hkn : Hid (PM.kn ls ps ab z.id = (PM.hasE ls z.id || PM.hasE ps z.id || PM.hasI ab z.id)) := PM.hid rfl
      cases e1 : PM.hasE ls z.id
      case true =>
        have hsk : Hid (PM.prm1 (PM.kn ls ps ab) n1 (p, r) z = (p, r)) := PM.hid (PM.prm1_known (by rw [hkn.out, e1]; rfl))
        have hin2 := PM.hid (And.intro hO (And.intro hI (And.intro hG hBB.out)))
        replace e1 := PM.hid e1
        clear hO hI hG kx e1
        go_wp2_with fail
        exact ⟨⟨k + 1, by go_num, by omega, PM.hid (by rw [PM.prm_snoc hzh.out, ← hph.out, hsk.out]; exact hin2.out)⟩, by simp only [intOf]; omega⟩
      cases e2 : PM.hasE ps z.id
      case true =>
        have hsk : Hid (PM.prm1 (PM.kn ls ps ab) n1 (p, r) z = (p, r)) := PM.hid (PM.prm1_known (by rw [hkn.out, e1, e2]; rfl))
        have hin2 := PM.hid (And.intro hO (And.intro hI (And.intro hG hBB.out)))
        clear hO hI hG kx e1 e2
        go_wp2_with fail
        exact ⟨⟨k + 1, by go_num, by omega, PM.hid (by rw [PM.prm_snoc hzh.out, ← hph.out, hsk.out]; exact hin2.out)⟩, by simp only [intOf]; omega⟩
      cases e3 : PM.hasI ab z.id
      case true =>
        have hsk : Hid (PM.prm1 (PM.kn ls ps ab) n1 (p, r) z = (p, r)) := PM.hid (PM.prm1_known (by rw [hkn.out, e1, e2, e3]; rfl))
        have hin2 := PM.hid (And.intro hO (And.intro hI (And.intro hG hBB.out)))
        clear hO hI hG kx e1 e2 e3
        go_wp2_with fail
        exact ⟨⟨k + 1, by go_num, by omega, PM.hid (by rw [PM.prm_snoc hzh.out, ← hph.out, hsk.out]; exact hin2.out)⟩, by simp only [intOf]; omega⟩
      cases e4 : PM.hasE p z.id
      case true =>
        have hsk : Hid (PM.prm1 (PM.kn ls ps ab) n1 (p, r) z = (p, r)) := PM.hid (PM.prm1_seen (by rw [e4]; rfl))
        have hin2 := PM.hid (And.intro hO (And.intro hI (And.intro hG hBB.out)))
        clear hO hI hG kx e1 e2 e3 e4
        go_wp2_with fail
        exact ⟨⟨k + 1, by go_num, by omega, PM.hid (by rw [PM.prm_snoc hzh.out, ← hph.out, hsk.out]; exact hin2.out)⟩, by simp only [intOf]; omega⟩
      cases e5 : PM.hasI r z.id
      case true =>
        have hsk : Hid (PM.prm1 (PM.kn ls ps ab) n1 (p, r) z = (p, r)) := PM.hid (PM.prm1_seen (by rw [e4, e5]; rfl))
        have hin2 := PM.hid (And.intro hO (And.intro hI (And.intro hG hBB.out)))
        clear hO hI hG kx e1 e2 e3 e4 e5
        go_wp2_with fail
        exact ⟨⟨k + 1, by go_num, by omega, PM.hid (by rw [PM.prm_snoc hzh.out, ← hph.out, hsk.out]; exact hin2.out)⟩, by simp only [intOf]; omega⟩
      have hno := PM.hid (And.intro (show (PM.hasE p z.id || PM.hasI r z.id) = false by rw [e4, e5]; rfl) (show PM.kn ls ps ab z.id = false by rw [hkn.out, e1, e2, e3]; rfl))
      clear e1 e2 e3 e4 e5 hkn
      have s0 : w8.cell? ⟨g, 0, none⟩ = some (.int .u64 (lf : Int)) := hG.cell 0
      have s1 : w8.cell? ⟨g, 1, none⟩ = some (.slice a0 n0 c0) := hG.cell 1
      have s2 : w8.cell? ⟨g, 2, none⟩ = some (.slice a1 n1 c1) := hG.cell 2
      have s3 : w8.cell? ⟨g, 3, none⟩ = some (.slice a2 n2 c2) := hG.cell 3
      have d0 : w8.cell? ⟨b, off + k * 8, none⟩ = some (.int .i64 z.kind) := (zl.out.keep hBB.out) 0 _ rfl
      have d1 : w8.cell? ⟨b, off + k * 8 + 1, none⟩ = some (.int .i64 z.id.br) := (zl.out.keep hBB.out) 1 _ rfl
      have d2 : w8.cell? ⟨b, off + k * 8 + 2, none⟩ = some (.int .u64 (z.id.life : Int)) := (zl.out.keep hBB.out) 2 _ rfl
      have d3 : w8.cell? ⟨b, off + k * 8 + 3, none⟩ = some (.int .u64 (z.id.ser : Int)) := (zl.out.keep hBB.out) 3 _ rfl
      have d4 : w8.cell? ⟨b, off + k * 8 + 4, none⟩ = some (.int .i64 z.client) := (zl.out.keep hBB.out) 4 _ rfl
      have d5 : w8.cell? ⟨b, off + k * 8 + 5, none⟩ = some (.int .u64 (z.sub : Int)) := (zl.out.keep hBB.out) 5 _ rfl
      have d6 : w8.cell? ⟨b, off + k * 8 + 6, none⟩ = some (.slice fa zF fc) := (zl.out.keep hBB.out) 6 _ rfl
      have d7 : w8.cell? ⟨b, off + k * 8 + 7, none⟩ = some (.slice ea zE ec) := (zl.out.keep hBB.out) 7 _ rfl
      have x0 : w8.cell? ⟨gx, 0, none⟩ = some (.int .i64 z.id.br) := kx.cell 0
      have x1 : w8.cell? ⟨gx, 1, none⟩ = some (.int .u64 (z.id.life : Int)) := kx.cell 1
      have x2 : w8.cell? ⟨gx, 2, none⟩ = some (.int .u64 (z.id.ser : Int)) := kx.cell 2
      clear kx
      have hwn : IntKind.i64.wrap ((n1 : Int) + (P : Int)) = (n1 : Int) + (P : Int) := by rw [IntKind.wrap_i64]; omega
      by_cases h6 : n1 + P < 6
      · have h6' : decide ((n1 : Int) + (P : Int) < 6) = true := by simp; omega
        have hl16 : (p.length + 1) * 96 ≤ 140737488355328 := by rw [← hPh.out]; omega
        have hl17 : p.length + 1 ≤ maxLen := by rw [← hPh.out]; unfold maxLen; omega
        have hsz := hBB.out.size
        have hrt := hO.rt
        rw [hPh.out] at hO
        have hRy : PM.eR w w8 (PM.enCe z fa zF fc ea zE ec).1 z := zR.out
        go_wp2_with (at_builtin; rw [hPh.out]; go_loud (refine PM.wpList_or1 tyEnO (PM.eR_stays _ _) (PM.eR_lasts _) w.heap.size w8 rfl _ _ rfl _ p z (PM.enCe z fa zF fc ea zE ec) _ rfl rfl rfl rfl hRy hO hl16 hl17 hsz ?_); intro v' w' t1 t2 t3; rw [← hPh.out] at t3; have hE := PM.hid (And.intro t1 (And.intro (hBB.out.trans t2) t3)); clear t1 t2 t3 hRy hsz hO)
        refine ⟨⟨k + 1, by go_num, by omega, PM.hid ?_⟩, by simp only [intOf]; omega⟩
        rw [PM.prm_snoc hzh.out, ← hph.out, PM.prm1_in hno.out.1 hno.out.2 (by rw [← hPh.out]; exact h6)]
        exact ⟨hE.out.1, PM.OM.stays (by decide) hI hE.out.2.2 hrt, hG.grown hE.out.2.2 hrt (by decide), hE.out.2.1⟩
      · have h6' : decide ((n1 : Int) + (P : Int) < 6) = false := by simp; omega
        have hl16 : (r.length + 1) * 24 ≤ 140737488355328 := by rw [← hQh.out]; omega
        have hl17 : r.length + 1 ≤ maxLen := by rw [← hQh.out]; unfold maxLen; omega
        have hsz := hBB.out.size
        have hrt := hI.rt
        rw [hQh.out] at hI
        go_wp2_with (at_builtin; rw [hQh.out]; go_loud (refine PM.wpList_em1 (e := PM.idL) tyIdO PM.idL_len PM.idL_one w.heap.size w8 rfl _ _ rfl _ r z.id _ rfl rfl rfl rfl hI hl16 hl17 hsz ?_); intro v' w' t1 t2 t3 t4; rw [← hQh.out] at t3; have hE := PM.hid (And.intro t1 (And.intro (hBB.out.trans t2) t3)); clear t1 t2 t3 t4 hsz hI)
        refine ⟨⟨k + 1, by go_num, by omega, PM.hid ?_⟩, by simp only [intOf]; omega⟩
        rw [PM.prm_snoc hzh.out, ← hph.out, PM.prm1_out hno.out.1 hno.out.2 (by rw [← hPh.out]; exact h6)]
        exact ⟨hO.stays (PM.eR_stays _ _) (by decide) hE.out.2.2 hrt, hE.out.1, hG.grown hE.out.2.2 hrt (by decide), hE.out.2.1⟩
    · obtain rfl : k = N := by omega
      have hfin := PM.hid (And.intro hO (And.intro hI hBB.out))
      clear hO hI hG hBB
      have htk : Hid (PM.prm (PM.kn ls ps ab) n1 l = (p, r)) := PM.hid (by
        have := hph.out
        rw [hNh.out, List.take_length] at this
        exact this.symm)
      go_wp2_with fail
      go_ret2
      exact ⟨_, _, rfl, by rw [htk.out]; exact hfin.out.1, by rw [htk.out]; exact hfin.out.2.1, hfin.out.2.2⟩
end Go.Proofs.Ytjninckmgkaliaa
