/-
  The parts that the statement needs, 4 of 4.
-/
import Derived.Test.YtblnmffeinabcaaV5033
namespace Go.Ev
open Go.Proofs
open Go.IntWalk
set_option linter.unusedVariables false
set_option linter.unusedSimpArgs false
set_option maxRecDepth 100000
set_option maxHeartbeats 2000000
theorem k503_ok : k503.ok Try.prog := by
  intro x hx
  obtain ⟨⟨⟨ap, np, mp, tp, vp, _⟩, o, _⟩, ⟨⟨al, nl, ml, tl, _⟩, rp, fi, _⟩, ⟨b0, b1, ⟨au, nu, mu, tu, _⟩, ⟨aw, nw, mw, tw, _⟩, _⟩, _⟩ := x
  obtain ⟨h1, h2⟩ := a503 ap np mp tp vp o al nl ml tl rp fi b0 b1 au nu mu tu aw nw mw tw (s503 ap np mp tp vp o al nl ml tl rp fi b0 b1 au nu mu tu aw nw mw tw (of_dec hx rfl))
  exact ⟨⟨400, (by decide : 4 + 1 + 0 ≤ 400), h1⟩, h2⟩
theorem pre503 {x : SsI k503.ss} (hx : ssFits k503.ss x) : k503.pre (ssj k503.ss x) = true := by
  obtain ⟨⟨⟨n, t, v, u'⟩, o, u2⟩, ⟨⟨n2, t2, u3⟩, r, g, u4⟩, ⟨b0, b1, ⟨n3, t3, u6⟩, ⟨n4, t4, u7⟩, u5⟩, u''⟩ := x
  obtain ⟨⟨⟨hn, ht, hv, -⟩, ho, -⟩, ⟨⟨hn2, ht2, -⟩, hr, hg, -⟩, ⟨hb0, hb1, ⟨hn3, ht3, -⟩, ⟨hn4, ht4, -⟩, -⟩, -⟩ := hx
  exact decide_eq_true ⟨⟨⟨Nat.le_of_eq (Nat.zero_add _), Nat.le_of_eq (Nat.zero_add _)⟩, bytes_mk ht3, bytes_mk ht4⟩, ⟨Nat.le_of_eq (Nat.zero_add _), Nat.le_of_eq (Nat.zero_add _)⟩, ⟨bytes_mk ht, bytes_mk hv⟩, bytes_mk ht2, hr, hg⟩
end Go.Ev
