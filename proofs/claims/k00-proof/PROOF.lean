import PyProof.Rows.All
import Wide.All
import OpenK.AllK
import Wide.FinOn
import HandS.ForExc
import HandS.Gcd
import HandS.Wide
import HandS.FStr
import HandS.IsInst
import HandS.Defaults
import HandS.MakeKw
import HandS.MakeKwOnly
import HandS.ExcIs
import HandS.SlotsOwn
import HandS.OwnEq
import HandS.CallRecv
import PySem.Challenge.RW_lostleast_k00_fractions
set_option Elab.async false
set_option linter.all false
set_option maxRecDepth 100000
set_option maxHeartbeats 4000000
/-! Fractions in lowest terms, Euclid's loop, and bounds: plain integers. -/
namespace K0
/-- the greatest common divisor, as the program asks for it -/
def G (n d : Int) : Int := ((Nat.gcd n.natAbs d.natAbs : Nat) : Int)
def rn (n d : Int) : Int := n / G n d
def rd (n d : Int) : Int := d / G n d
theorem G_pos {n d : Int} (h : 0 < d) : 0 < G n d := by
  unfold G
  have h1 : 0 < d.natAbs := by omega
  have := Nat.gcd_pos_of_pos_right n.natAbs h1
  omega
theorem G_dvd_l (n d : Int) : G n d ∣ n := by
  unfold G
  exact Int.ofNat_dvd_left.mpr (Nat.gcd_dvd_left _ _)
theorem G_dvd_r (n d : Int) : G n d ∣ d := by
  unfold G
  exact Int.ofNat_dvd_left.mpr (Nat.gcd_dvd_right _ _)
theorem n_eq (n d : Int) : n = G n d * rn n d := by
  unfold rn
  exact (Int.mul_ediv_cancel' (G_dvd_l n d)).symm
theorem d_eq (n d : Int) : d = G n d * rd n d := by
  unfold rd
  exact (Int.mul_ediv_cancel' (G_dvd_r n d)).symm
theorem rd_pos {n d : Int} (h : 0 < d) : 0 < rd n d := by
  have h1 := G_pos (n := n) h
  have h2 := d_eq n d
  rcases Int.lt_trichotomy (rd n d) 0 with h3 | h3 | h3
  · have := Int.mul_neg_of_pos_of_neg h1 h3
    omega
  · rw [h3, Int.mul_zero] at h2
    omega
  · exact h3
theorem G_scale {k : Int} (hk : 0 < k) (x y : Int) : G (k * x) (k * y) = k * G x y := by
  unfold G
  rw [Int.natAbs_mul, Int.natAbs_mul, Nat.gcd_mul_left]
  have : ((k.natAbs : Nat) : Int) = k := by omega
  rw [Int.natCast_mul, this]
theorem rn_scale {k : Int} (hk : 0 < k) (x y : Int) : rn (k * x) (k * y) = rn x y := by
  unfold rn
  rw [G_scale hk, Int.mul_ediv_mul_of_pos _ _ hk]
theorem rd_scale {k : Int} (hk : 0 < k) (x y : Int) : rd (k * x) (k * y) = rd x y := by
  unfold rd
  rw [G_scale hk, Int.mul_ediv_mul_of_pos _ _ hk]
theorem pos2 {n d m e : Int} (h : 0 < d) (h' : 0 < e) : 0 < G n d * G m e := Int.mul_pos (G_pos h) (G_pos h')
/-- what a product of two of the four parts is -/
theorem cross (g h a b : Int) : g * a * (h * b) = g * h * (a * b) := by
  rw [Int.mul_assoc, Int.mul_assoc, Int.mul_left_comm a h b]
section
variable {n d m e : Int}
theorem den_eq : d * e = G n d * G m e * (rd n d * rd m e) := by
  have h1 := d_eq n d
  have h2 := d_eq m e
  rw [← cross, ← h1, ← h2]
theorem ne_eq : n * e = G n d * G m e * (rn n d * rd m e) := by
  have h1 := n_eq n d
  have h2 := d_eq m e
  rw [← cross, ← h1, ← h2]
theorem md_eq : m * d = G n d * G m e * (rn m e * rd n d) := by
  have h1 := n_eq m e
  have h2 := d_eq n d
  rw [Int.mul_comm (G n d) (G m e), ← cross, ← h1, ← h2]
theorem nm_eq : n * m = G n d * G m e * (rn n d * rn m e) := by
  have h1 := n_eq n d
  have h2 := n_eq m e
  rw [← cross, ← h1, ← h2]
theorem add_n : n * e + m * d = G n d * G m e * (rn n d * rd m e + rn m e * rd n d) := by
  rw [Int.mul_add, ← ne_eq, ← md_eq]
theorem sub_n : n * e - m * d = G n d * G m e * (rn n d * rd m e - rn m e * rd n d) := by
  rw [Int.mul_sub, ← ne_eq, ← md_eq]
/-- the sum of two fractions in lowest terms, made so again -/
theorem add_ok (h : 0 < d) (h' : 0 < e) : rn (rn n d * rd m e + rn m e * rd n d) (rd n d * rd m e) = rn (n * e + m * d) (d * e) ∧ rd (rn n d * rd m e + rn m e * rd n d) (rd n d * rd m e) = rd (n * e + m * d) (d * e) := by
  have e1 : n * e + m * d = _ := add_n (n := n) (d := d) (m := m) (e := e)
  have e2 : d * e = _ := den_eq (n := n) (d := d) (m := m) (e := e)
  rw [e1, e2, rn_scale (pos2 h h'), rd_scale (pos2 h h')]
  exact ⟨rfl, rfl⟩
theorem sub_ok (h : 0 < d) (h' : 0 < e) : rn (rn n d * rd m e - rn m e * rd n d) (rd n d * rd m e) = rn (n * e - m * d) (d * e) ∧ rd (rn n d * rd m e - rn m e * rd n d) (rd n d * rd m e) = rd (n * e - m * d) (d * e) := by
  have e1 : n * e - m * d = _ := sub_n (n := n) (d := d) (m := m) (e := e)
  have e2 : d * e = _ := den_eq (n := n) (d := d) (m := m) (e := e)
  rw [e1, e2, rn_scale (pos2 h h'), rd_scale (pos2 h h')]
  exact ⟨rfl, rfl⟩
theorem mul_ok (h : 0 < d) (h' : 0 < e) : rn (rn n d * rn m e) (rd n d * rd m e) = rn (n * m) (d * e) ∧ rd (rn n d * rn m e) (rd n d * rd m e) = rd (n * m) (d * e) := by
  have e1 : n * m = _ := nm_eq (n := n) (d := d) (m := m) (e := e)
  have e2 : d * e = _ := den_eq (n := n) (d := d) (m := m) (e := e)
  rw [e1, e2, rn_scale (pos2 h h'), rd_scale (pos2 h h')]
  exact ⟨rfl, rfl⟩
theorem less_ok (h : 0 < d) (h' : 0 < e) : (rn n d * rd m e < rn m e * rd n d) ↔ (n * e < m * d) := by
  have e1 : n * e = _ := ne_eq (n := n) (d := d) (m := m) (e := e)
  have e2 : m * d = _ := md_eq (n := n) (d := d) (m := m) (e := e)
  have hp := pos2 (n := n) (m := m) h h'
  rw [e1, e2]
  exact ⟨fun q => Int.mul_lt_mul_of_pos_left q hp, fun q => Int.lt_of_mul_lt_mul_left q (Int.le_of_lt hp)⟩
theorem rn_zero (h : 0 < d) : rn n d = 0 ↔ n = 0 := by
  constructor
  · intro q
    have := n_eq n d
    rw [q, Int.mul_zero] at this
    exact this
  · intro q
    unfold rn
    rw [q, Int.zero_ediv]
theorem rn_sign (h : 0 < d) : 0 < rn n d ↔ 0 < n := by
  have h1 := n_eq n d
  have hg := G_pos (n := n) h
  constructor
  · intro q
    rw [h1]
    exact Int.mul_pos hg q
  · intro q
    rcases Int.lt_trichotomy (rn n d) 0 with h3 | h3 | h3
    · have := Int.mul_neg_of_pos_of_neg hg h3
      omega
    · rw [h3, Int.mul_zero] at h1
      omega
    · exact h3
/-- the sign of a number that is not 0 -/
def sg (m : Int) : Int := if 0 < m then 1 else -1
theorem sg_rn (h : 0 < d) : sg (rn n d) = sg n := by
  unfold sg
  by_cases q : 0 < n
  · rw [if_pos q, if_pos ((rn_sign h).mpr q)]
  · rw [if_neg q, if_neg fun z => q ((rn_sign h).mp z)]
theorem sg_abs {x : Int} (h : x ≠ 0) : x * sg x = if x < 0 then 0 - x else x := by
  unfold sg
  by_cases q : 0 < x
  · rw [if_pos q, if_neg (by omega)]
    omega
  · rw [if_neg q, if_pos (by omega)]
    omega
/-- the quotient -/
theorem over_ok (h : 0 < d) (h' : 0 < e) (hm : m ≠ 0) :
    rn (sg (rn m e) * rn n d * rd m e) (rd n d * (if rn m e < 0 then 0 - rn m e else rn m e)) = rn (n * e * sg m) (d * m * sg m) ∧ rd (sg (rn m e) * rn n d * rd m e) (rd n d * (if rn m e < 0 then 0 - rn m e else rn m e)) = rd (n * e * sg m) (d * m * sg m) ∧
      0 < rd n d * (if rn m e < 0 then 0 - rn m e else rn m e) ∧ 0 < d * m * sg m := by
  have hp := pos2 (n := n) (m := m) h h'
  have hz : rn m e ≠ 0 := fun z => hm ((rn_zero h').mp z)
  have es := sg_rn (n := m) h'
  rw [← sg_abs hz, es]
  have e1 : n * e * sg m = G n d * G m e * (sg m * rn n d * rd m e) := by
    rw [ne_eq (n := n) (d := d) (m := m) (e := e), Int.mul_assoc (G n d * G m e), Int.mul_comm _ (sg m), Int.mul_assoc (sg m)]
  have e2 : d * m * sg m = G n d * G m e * (rd n d * (rn m e * sg m)) := by
    have q : d * m = G n d * G m e * (rd n d * rn m e) := by
      have h1 := d_eq n d
      have h2 := n_eq m e
      rw [← cross, ← h1, ← h2]
    rw [q, Int.mul_assoc (G n d * G m e), Int.mul_assoc (rd n d)]
  have hs : 0 < rn m e * sg m := by
    rw [← es, sg_abs hz]
    split <;> omega
  have h3 : 0 < rd n d * (rn m e * sg m) := Int.mul_pos (rd_pos h) hs
  rw [e1, e2, rn_scale hp, rd_scale hp]
  exact ⟨rfl, rfl, h3, Int.mul_pos hp h3⟩
end
/-! ### Euclid's loop -/
/-- behind i turns of at most 4000: a, b ≥ 0, their divisor is g, and b falls -/
structure Eu (g : Nat) (i : Nat) (a b : Nat) : Prop where
  gc : Nat.gcd a b = g
  ms : (i = 0 ∧ b < 2 ^ 1000) ∨ (0 < i ∧ b < a ∧ a * b * 2 ^ (i - 1) < 2 ^ 2000)
theorem Eu.start {a b : Nat} (h : b < 2 ^ 1000) : Eu (Nat.gcd a b) 0 a b := ⟨rfl, .inl ⟨rfl, h⟩⟩
theorem Eu.turn {g i a b : Nat} (E : Eu g i a b) (hb : b ≠ 0) : Eu g (i + 1) b (a % b) := by
  have hb' : 0 < b := Nat.pos_of_ne_zero hb
  have hl : a % b < b := Nat.mod_lt _ hb'
  refine ⟨?_, .inr ⟨Nat.succ_pos _, hl, ?_⟩⟩
  · rw [← E.gc, Nat.gcd_comm a b, Nat.gcd_rec b a, Nat.gcd_comm]
  · rw [Nat.add_sub_cancel]
    rcases E.ms with ⟨e, h⟩ | ⟨hi, hba, h⟩
    · rw [e]
      have h1 : b * (a % b) < 2 ^ 1000 * 2 ^ 1000 := Nat.mul_lt_mul'' h (Nat.lt_trans hl h)
      rw [← Nat.pow_add] at h1
      rw [Nat.pow_zero, Nat.mul_one]
      exact h1
    · have e1 : i = (i - 1) + 1 := by omega
      have h2 : (a % b) * 2 ≤ a := by
        have h3 := Nat.div_add_mod a b
        have h4 : 1 ≤ a / b := (Nat.le_div_iff_mul_le hb').mpr (by omega)
        have h5 : b * 1 ≤ b * (a / b) := Nat.mul_le_mul_left b h4
        omega
      have h6 : b * (a % b) * 2 ^ i ≤ a * b * 2 ^ (i - 1) := by
        have : b * (a % b) * 2 ^ i = b * ((a % b) * 2) * 2 ^ (i - 1) := by
          have q : 2 ^ i = 2 * 2 ^ (i - 1) := by
            rw [e1, Nat.pow_succ, Nat.add_sub_cancel, Nat.mul_comm]
          rw [q, ← Nat.mul_assoc, Nat.mul_assoc b (a % b) 2]
        rw [this, Nat.mul_comm a b]
        exact Nat.mul_le_mul_right _ (Nat.mul_le_mul_left b h2)
      exact Nat.lt_of_le_of_lt h6 h
theorem Eu.out {g a b : Nat} (E : Eu g 4000 a b) : b = 0 := by
  rcases E.ms with ⟨e, _⟩ | ⟨_, hba, h⟩
  · cases e
  · rcases Nat.eq_zero_or_pos b with q | q
    · exact q
    · have h1 : 1 ≤ a * b := Nat.mul_pos (by omega) q
      have h2 : 1 * 2 ^ (4000 - 1) ≤ a * b * 2 ^ (4000 - 1) := Nat.mul_le_mul_right _ h1
      have h3 : (2 : Nat) ^ 2000 ≤ 2 ^ (4000 - 1) := Nat.pow_le_pow_right (by decide) (by decide)
      omega
theorem Eu.fin {g i a : Nat} (E : Eu g i a 0) : a = g := by
  have := E.gc
  rw [Nat.gcd_zero_right] at this
  exact this
/-! ### bounds -/
/-- a number of less than k bits -/
def Bd (k : Nat) (x : Int) : Prop := x.natAbs < 2 ^ k
theorem Bd.le {j k : Nat} {x : Int} (h : Bd j x) (hjk : j ≤ k) : Bd k x := Nat.lt_of_lt_of_le h (Nat.pow_le_pow_right (by decide) hjk)
theorem Bd.mul {j k : Nat} {x y : Int} (h : Bd j x) (h' : Bd k y) : Bd (j + k) (x * y) := by
  unfold Bd
  rw [Int.natAbs_mul, Nat.pow_add]
  exact Nat.mul_lt_mul'' h h'
theorem Bd.add {k : Nat} {x y : Int} (h : Bd k x) (h' : Bd k y) : Bd (k + 1) (x + y) := by
  unfold Bd at *
  rw [Nat.pow_succ]
  omega
theorem Bd.sub {k : Nat} {x y : Int} (h : Bd k x) (h' : Bd k y) : Bd (k + 1) (x - y) := by
  unfold Bd at *
  rw [Nat.pow_succ]
  omega
theorem Bd.of_abs {k : Nat} {x y : Int} (h : Bd k x) (e : y.natAbs ≤ x.natAbs) : Bd k y := Nat.lt_of_le_of_lt e h
theorem div_abs {g q n : Int} (hg : 0 < g) (e : n = g * q) : q.natAbs ≤ n.natAbs := by
  rw [e, Int.natAbs_mul]
  exact Nat.le_mul_of_pos_left _ (by omega)
theorem Bd.rn {k : Nat} {n d : Int} (h : 0 < d) (hn : Bd k n) : Bd k (rn n d) := hn.of_abs (div_abs (G_pos h) (n_eq n d))
theorem Bd.rd {k : Nat} {n d : Int} (h : 0 < d) (hn : Bd k d) : Bd k (rd n d) := hn.of_abs (div_abs (G_pos (n := n) h) (d_eq n d))
theorem Bd.G {k : Nat} {n d : Int} (h : 0 < d) (hn : Bd k d) : Bd k (G n d) := by
  refine hn.of_abs (div_abs (g := K0.rd n d) (rd_pos h) ?_)
  rw [Int.mul_comm]
  exact d_eq n d
theorem Bd.sg {k : Nat} {n m : Int} (h : Bd k n) : Bd k (n * sg m) ∧ Bd k (sg m * n) := by
  unfold K0.sg
  constructor
  · split
    · rwa [Int.mul_one]
    · refine h.of_abs ?_
      rw [Int.natAbs_mul]
      show n.natAbs * 1 ≤ _
      omega
  · split
    · rwa [Int.one_mul]
    · refine h.of_abs ?_
      rw [Int.natAbs_mul]
      show 1 * n.natAbs ≤ _
      omega
theorem Bd.of_small {x : Int} {k : Nat} (h : x.natAbs < 1073741824) (hk : 30 ≤ k) : Bd k x := Bd.le (j := 30) (by unfold Bd; exact Nat.lt_of_lt_of_le h (by decide)) hk
end K0

/-! Own operators, == and str() of plain instances; making and methods within a try; isinstance of a caught error by a tuple of classes. -/
namespace K0
open PySem PySem.Spec PyProof.Rows L2
section
variable {X : Cx} {CX : CXT} {k : Nat} {f C : Addr} {fd : FuncData} {ps : List Str} {sp : Sp} {E : XK}
def rOwnB (C : Addr) (sp : Sp) (E : XK) : R2 := fun x y H Q => ∃ a dx fs b dy gs, x = .ref a ∧ y = .ref b ∧ H a = some (.ins C dx fs) ∧ H b = some (.ins C dy gs) ∧ sp [x, y] H Q E
theorem op_ownB {op : Operator} (F : FnOk X.prog X.w X.K X.mg X.base CX k f fd ps sp) (hr : Room k X.A) (hc : PySem.W.selfFirst X.K C = true)
    (hs : PySem.W.findIn X.K (.ref C) (PySem.dunder op.info.2) = some (some (.ref f))) (hf : PySem.W.isFn X.K (.ref f) = true) (hb : Binds X.K fd ps []) (hx : Passes CX X E) : OpR X (binaryOp op) (rOwnB C sp E) := by
  intro pins s σ H x y v u Q I rx ry h
  obtain ⟨a, dx, fs, b, dy, gs, rfl, rfl, ha, hb', q⟩ := h
  cases (show v = Value.ref a from rx)
  cases (show u = Value.ref b from ry)
  obtain ⟨mA, J, _⟩ := ins_get I.hok ha
  obtain ⟨mB, J', _⟩ := ins_get I.hok hb'
  obtain ⟨od, J, _⟩ := J.look
  obtain ⟨od', J', _⟩ := J'.look
  obtain ⟨m, hF⟩ := I.fr
  refine PySem.W.binop_K hF I.ok.mod.kin J J'.type hc hs hf ?_
  refine wpAny_mono (run_fn (us := [.ref a, .ref b]) (vs := [.ref a, .ref b]) (ds := []) (dvs := []) F hr hb .nil hx I (.cons rfl (.cons rfl .nil)) q) (fun w s' z => ?_) fun _ _ x => x
  obtain ⟨z', H', I', rz, qz⟩ := z
  exact SlX.cmpback rz ⟨z', H', I', rz, qz⟩
theorem op_ownE (F : FnOk X.prog X.w X.K X.mg X.base CX k f fd ps sp) (hr : Room k X.A)
    (hs : PySem.W.findIn X.K (.ref C) "__eq__" = some (some (.ref f))) (hf : PySem.W.isFn X.K (.ref f) = true) (hb : Binds X.K fd ps []) (hx : Passes CX X E) : OpR X (compareOp .Eq) (rOwnB C sp E) := by
  intro pins s σ H x y v u Q I rx ry h
  obtain ⟨a, dx, fs, b, dy, gs, rfl, rfl, ha, hb', q⟩ := h
  cases (show v = Value.ref a from rx)
  cases (show u = Value.ref b from ry)
  obtain ⟨mA, J, _⟩ := ins_get I.hok ha
  obtain ⟨mB, J', _⟩ := ins_get I.hok hb'
  obtain ⟨od, J, _⟩ := J.look
  obtain ⟨od', J', _⟩ := J'.look
  obtain ⟨m, hF⟩ := I.fr
  show wpAny (model X.prog X.w) X.A (richCompare .Eq (.ref a) (.ref b)) _ _ _
  refine PySem.W.cmp_K (op := .Eq) (tb := .ref C) hr.units0 hF I.ok.mod.kin J J'.type (by simp [PySem.W.notFirst]) hs hf ?_
  refine wpAny_mono (run_fn (us := [.ref a, .ref b]) (vs := [.ref a, .ref b]) (ds := []) (dvs := []) F hr hb .nil hx I (.cons rfl (.cons rfl .nil)) q) (fun w s' z => ?_) fun _ _ x => x
  obtain ⟨z', H', I', rz, qz⟩ := z
  exact SlX.cmpback rz ⟨z', H', I', rz, qz⟩
def rStrOwn (C : Addr) (sp : Sp) (E : XK) : List V → Hp → VK → Prop := fun xs H Q => ∃ a dx fs, xs = [.ref a] ∧ H a = some (.ins C dx fs) ∧ sp [.ref a] H (fun z H' => ∃ y, z = .str y ∧ Q z H') E
theorem call_strOwn (F : FnOk X.prog X.w X.K X.mg X.base CX k f fd ps sp) (hr : Room (k + 2) X.A)
    (hs : PySem.W.findIn X.K (.ref C) "__str__" = some (some (.ref f))) (hf : PySem.W.isFn X.K (.ref f) = true) (hb : Binds X.K fd ps []) (hx : Passes CX X E) : CallR X (.type "str") (rStrOwn C sp E) := by
  intro pins s σ H xs us Q I r h
  obtain ⟨a, dx, fs, rfl, ha, q⟩ := h
  obtain ⟨u, rfl, ru⟩ := r.one
  cases (show u = Value.ref a from ru)
  obtain ⟨mA, J, _⟩ := ins_get I.hok ha
  obtain ⟨od, J, _⟩ := J.look
  have hr2 : Room k X.A.in1.in1 := (show Room (k + 1) X.A.in1 from Room.in1 hr).in1
  have hl := F.len _ _ _ _ q
  refine PySem.W.kso_call hr2.units0 I.kIn J hs hf (wpAny_call (codeAny_mono (F.run X.A.in1.in1 X.stack s H ⟨[.ref a], []⟩ [.ref a] [.ref a] _ E hr2 I.env0.in1.in1 (by
    have := hb s [.ref a] I.kIn (by simpa using hl)
    simpa using this) (.cons rfl .nil) q) fun r s' hq => ?_))
  cases r with
  | error e => exact hx pins σ H s e s' I hq
  | ok fl =>
    cases fl with
    | ret w =>
      obtain ⟨z, H', I', rz, y, ez, qz⟩ := I.after hq
      subst ez
      obtain ⟨t, e⟩ := (show ∃ t, w = Value.str y t from rz)
      cases e
      exact ⟨.str y, H', I', ⟨t, rfl⟩, qz⟩
    | next => exact False.elim hq
    | brk => exact False.elim hq
    | cont => exact False.elim hq
end
/-! ### within a try: what is wished at the slots -/
section
variable {X : Cx} {CX : CXT} {k : Nat} {f C : Addr} {fd : FuncData} {ps : List Str} {sp : Sp} {dvs : List V} {ds : List Value} {E : L2.St → XK} {x m : Str} {p pos apos : Pos} {e o : Expr} {es : List Expr} {ta : TE} {t : TA}
def tMakeS (C : Addr) (sp : Sp) (E : L2.St → XK) (t : TA) : TE := fun σ H Q => t σ H fun vs H1 => ∀ x dx, H1 x = none → H1 dx = none → dx ≠ x →
  sp (.ref x :: vs) (upd (upd H1 dx (.own x)) x (.ins C dx [])) (fun v H2 => v = .non ∧ Q (.ref x) H2) (E σ)
def tMethS (C : Addr) (m : Str) (sp : Sp) (E : L2.St → XK) (ta : TE) (t : TA) : TE := fun σ H Q => ta σ H fun x H1 => ∃ a dx fs, x = .ref a ∧ H1 a = some (.ins C dx fs) ∧ fs.lookup m = none ∧
  t σ H1 fun vs H2 => sp (x :: vs) H2 Q (E σ)
theorem run_makeS {pins : List (Addr × Obj)} {σ : L2.St} {H : Hp} {s : Shared} {Q : VK} {us : List Value} {vs : List V} (M : Mk X.K C f) (F : FnOk X.prog X.w X.K X.mg X.base CX k f fd ps sp) (hr : Room (k + 1) X.A) (hb : Binds X.K fd ps [])
    (hx : PassesAt CX X σ (E σ)) (I : Inv X pins σ H s) (r : Vals vs us)
    (h : ∀ x dx, H x = none → H dx = none → dx ≠ x → sp (.ref x :: vs) (upd (upd H dx (.own x)) x (.ins C dx [])) (fun v H2 => v = .non ∧ Q (.ref x) H2) (E σ)) :
    wpAny (model X.prog X.w) X.A (call (.ref C) us) (EP X pins σ Q) X.xe s := by
  have hq := h (s.heap.objs.size + 1) s.heap.objs.size (I.hok.fresh (Nat.le_succ _)) (I.hok.fresh (Nat.le_refl _)) (Nat.ne_of_lt (Nat.lt_succ_self _))
  have I2 := Inv.made (C := C) I
  have r2 : Vals (V.ref (s.heap.objs.size + 1) :: vs) (Value.ref (s.heap.objs.size + 1) :: us) := .cons rfl r
  have hl : (Value.ref (s.heap.objs.size + 1) :: us ++ []).length = ps.length := by
    have e := r2.length
    rw [F.len _ _ _ _ hq] at e
    rw [List.append_nil]
    exact e.symm
  have hB := hb { s with heap := _ } (Value.ref (s.heap.objs.size + 1) :: us) I2.kIn hl
  rw [List.append_nil] at hB
  refine wpAny_call (make_map (f := f) I.kIn M.makes M.init (beq_iff_eq.mp M.fn) (codeAny_mono (F.run _ X.stack _ _ ⟨Value.ref (s.heap.objs.size + 1) :: us, []⟩ (Value.ref (s.heap.objs.size + 1) :: us) _ _ (E σ) (hr.make C us [])
    (I2.env0.make C us []) hB r2 hq) fun r s' hq' => ?_))
  cases r with
  | error e => exact hx pins _ _ e s' I2 hq'
  | ok fl =>
    cases fl with
    | ret u =>
      obtain ⟨v, H', I3, rv, ev, q3⟩ := I2.after hq'
      subst ev
      exact ⟨rv, ⟨V.ref (s.heap.objs.size + 1), H', I3, rfl, q3⟩⟩
    | next => exact False.elim hq'
    | brk => exact False.elim hq'
    | cont => exact False.elim hq'
theorem pe_makeS (M : Mk X.K C f) (F : FnOk X.prog X.w X.K X.mg X.base CX k f fd ps sp) (hr : Room (k + 1) X.A) (hg : Gl X x) (hm : X.mg x = some (.ref C)) (hb : Binds X.K fd ps []) (hx : ∀ σ, PassesAt CX X σ (E σ))
    (ha : PA X (e :: es) t) (hdb : (x == ("__debug__" : Str)) = false := by decide) (he : starEach (e :: es) X.env = (false, eval e X.env) :: starEach es X.env := by rfl) (hpl : (backTo pos (starEach es X.env)).any (·.1) = false := by rfl) :
    PE X (.Call (.Name x p) (e :: es) [] pos) (tMakeS C sp E t) := by
  refine ⟨fun pins s σ H Q I h => ?_⟩
  refine wpAny_Call_Name_kw (ld_glob I hg hm ?_ hdb)
  refine PySem.W.callWith_K (h₀ := X.base) I.ok.mod.kin M.kp (thn (ha.run pos pins s σ H _ I h) fun us s1 ⟨vs, H1, I1, r, q⟩ => ⟨I1.kIn, ?_⟩) he hpl
  exact run_makeS M F hr hb (hx σ) I1 r q
theorem pe_methS {pl : Sem Bool} (he : PE X o ta) (c : Cls X.K C) (hm : Meth X.K C m f) (F : FnOk X.prog X.w X.K X.mg X.base CX k f fd ps sp) (hr : Room k X.A) (hb : Binds X.K fd ps []) (hx : ∀ σ, PassesAt CX X σ (E σ)) (ha : PA X (e :: es) t)
    (hst : starEach (e :: es) X.env = (false, eval e X.env) :: starEach es X.env := by rfl) (hpl : (backTo pos (starEach es X.env)).any (·.1) = false := by rfl)
    (ht : eval (.Call (.Attribute o m apos) (e :: es) [] pos) X.env = (do
      let ov ← eval o X.env
      standAt apos.atName
      let (f, first) ← holding [ov] (getMethod ov m pl)
      callWith pos f first (backTo pos (starEach (e :: es) X.env)) (backToKw pos (keywordEach [] X.env))) := by rfl) :
    PE X (.Call (.Attribute o m apos) (e :: es) [] pos) (tMethS C m sp E ta t) := by
  refine ⟨fun pins s σ H Q I h => ?_⟩
  refine PySem.W.methodCall_KW (pl := pl) (thn (he.run pins s σ H _ I h) fun u s1 ⟨x, H1, I1, rx, a, dx, fs, ex, ea, l, q⟩ => ?_) ht
  subst ex
  obtain rfl : u = Value.ref a := rx
  refine getmeth_ok I1 ea c hm l ?_
  refine PySem.W.callWith_K (first := [.ref a]) (h₀ := X.base) I.ok.mod.kin hm.kp (thn (ha.run pos pins s1 σ H1 _ I1 q) fun us s2 ⟨vs, H2, I2, r, q2⟩ => ⟨I2.kIn, ?_⟩) hst hpl
  exact run_fnS (us := .ref a :: us) (vs := .ref a :: vs) F hr hb (hx σ) I2 (.cons rfl r) q2
end
/-! ### the error that a suite holds -/
def rIsE1 (K : PySem.W.Frag) (D a : Addr) (cls : Value) (d : Option Addr) : List V → Hp → VK → Prop := fun xs H Q => cls = .ref D ∧ d = none ∧ rIsE K D a xs H Q
theorem call_isE1 {X : Cx} {a D : Addr} {oe : Obj} {pn : List (Addr × Obj)} {cls : Value} {d : Option Addr} (C : ExcC X.K D) (hz : Zc cls d oe) (hf : ∃ vs, oe.data = .fields vs) : CallR (X.suite a ((a, oe) :: pn)) (.builtin "isinstance") (rIsE1 X.K D a cls d) := by
  intro pins s σ H xs us Q I r h
  obtain ⟨rfl, rfl, h⟩ := h
  exact call_isE C hz hf pins s σ H xs us Q I r h
def rIsET (K : PySem.W.Frag) (D a : Addr) (cls : Value) (d : Option Addr) : List V → Hp → VK → Prop := fun xs H Q => cls = .ref D ∧ d = none ∧ ∃ (tp : Addr) (cs : List V) (us : List Value) (b : Bool), xs = [.ref a, .ref tp] ∧ H tp = some (.tup cs) ∧ Paired ClsV cs us ∧ PySem.W.kitAny K (.ref D) us = some b ∧ Q (.bl b) H
theorem call_isET {X : Cx} {a D : Addr} {oe : Obj} {pn : List (Addr × Obj)} {cls : Value} {d : Option Addr} (C : ExcC X.K D) (hz : Zc cls d oe) (hf : ∃ vs, oe.data = .fields vs) : CallR (X.suite a ((a, oe) :: pn)) (.builtin "isinstance") (rIsET X.K D a cls d) := by
  intro pins s σ H xs us Q I r h
  obtain ⟨rfl, rfl, tp, cs, ws, b, rfl, hT, k, e, q⟩ := h
  obtain ⟨u1, u2, rfl, r1, r2⟩ := vals2 r
  cases (show u1 = Value.ref a from r1)
  cases (show u2 = Value.ref tp from r2)
  obtain ⟨hget, _⟩ := I.pin (a, oe) (List.mem_append.mpr (.inl List.mem_cons_self))
  obtain ⟨vs, hv⟩ := hf
  have J : PySem.W.InstAt s.heap a oe D none := by
    obtain ⟨oc, od, oda, osl⟩ := oe
    obtain ⟨h1, h2⟩ := hz
    dsimp only at h1 h2 hv
    subst h1 h2 hv
    exact ⟨hget, rfl, rfl, trivial⟩
  obtain ⟨_, its, rv, o, h1, h2, n, h3⟩ := (show ObjOk X.prog X.w H s.heap tp (.tup cs) from I.hok tp _ hT)
  have e3 := ClsV.all k rv
  subst e3
  obtain ⟨oc, od, dt, sl⟩ := o
  simp only at h2 h3
  subst h2 h3
  exact PySem.W.kia_tup (PySem.W.handS_kitx_exc C.hg C.hk C.hs C.hd C.ha C.hn C.ht C.hm) I.kIn J h1 e (fun z => nomatch z) fun tk => ⟨.bl b, H, I.kept (t' := tk) fun _ _ z => z, rfl, q⟩
end K0

namespace K0
open PySem PySem.Spec PyProof.Rows L2
/-! ### the text by places -/
def top (i : Nat) : Stmt := PySem.Challenge.pw_lostleast_k00_fractions.main.body.getD i (.Pass ⟨0, 0, 0, 0⟩)
abbrev sInit : Stmt := inClass (top 11) 0
abbrev sAdd : Stmt := inClass (top 11) 1
abbrev sSub : Stmt := inClass (top 11) 2
abbrev sMul : Stmt := inClass (top 11) 3
abbrev sEq : Stmt := inClass (top 11) 4
abbrev sStr : Stmt := inClass (top 11) 5
abbrev sLess : Stmt := inClass (top 11) 6
abbrev sOver : Stmt := inClass (top 11) 7
/-! ### a fraction's fields -/
theorem nd : ¬ (("num" : Str) = "den") := by decide +kernel
def rf (n d : Int) : List (Str × V) := putF "den" (.int d) (putF "num" (.int n) [])
theorem rf_num (n d : Int) : (rf n d).lookup ("num" : Str) = some (.int n) := by
  unfold rf
  rw [lookup_putF, if_neg nd, lookup_putF, if_pos rfl]
theorem rf_den (n d : Int) : (rf n d).lookup ("den" : Str) = some (.int d) := by
  unfold rf
  rw [lookup_putF, if_pos rfl]
theorem rf_no (n d : Int) {m : Str} (h1 : ¬ m = "den") (h2 : ¬ m = "num") : (rf n d).lookup m = none := by
  unfold rf
  rw [lookup_putF, if_neg h1, lookup_putF, if_neg h2]
  all_goals rfl
def RatAt (C : Addr) (H : Hp) (a : Addr) (n d : Int) : Prop := ∃ dx, H a = some (.ins C dx (rf n d))
theorem RatAt.same {C a : Addr} {n d : Int} {H H' : Hp} (h : RatAt C H a n d) (s : Same H H') : RatAt C H' a n d := by
  obtain ⟨dx, e⟩ := h
  exact ⟨dx, s _ _ e⟩
theorem rf_put1 (n d : Int) : putF "den" (.int d) (putF "num" (.int n) []) = rf n d := rfl
def bmV : List Value := [.type "ValueError", .type "Exception", .type "BaseException", .type "object"]
/-- what the text's own classes and built-ins are -/
structure Txt (K : PySem.W.Frag) (mg : Str → Option Value) (C BR : Addr) : Prop where
  cl : Cls K C
  nN : NoAttr K C "num"
  nD : NoAttr K C "den"
  mgC : mg "Ratio" = some (.ref C)
  si : SlX.SIsi K C
  gcd : mg "gcd" = some (.builtin "math.gcd")
  gP : mg "BadRatio" = some (.ref BR)
  xP : PySem.W.excIn K BR bmV "ValueError.__new__" = true
  kP : PySem.W.keepIn K (.ref BR) = true
  bP : PySem.W.subIn K (.ref BR) (.type "BaseException") = some true
  tP : PySem.W.typeIn K (.ref BR) = some (.type "type")
  isi : mg "isinstance" = none
  int : mg "int" = none
  str : mg "str" = none
  len : mg "len" = none
  list : mg "list" = none
  tuple : mg "tuple" = none
  bool : mg "bool" = none
  range : mg "range" = none
  abs : mg "abs" = none
theorem kit_self {K : PySem.W.Frag} {t : Value} : PySem.W.kitOne K t t = some true := by
  unfold PySem.W.kitOne
  rw [if_pos (by simp)]
/-! ### promises of the class's methods -/
def spInit (C BR : Addr) : Sp := fun vs H Q E => ∃ (p dx : Addr) (n d : Int), vs = [.ref p, .int n, .int d] ∧ H p = some (.ins C dx []) ∧ Bd 8000 d ∧ (d ≤ 0 → E (.ref BR) none H) ∧
  (0 < d → ∀ H' : Hp, RatAt C H' p (rn n d) (rd n d) → (∀ b o, H b = some o → b ≠ p → H' b = some o) → Q .non H')
/-- +, -, *: a new fraction of N and D in lowest terms -/
def spBin (C : Addr) (N D : Int → Int → Int → Int → Int) : Sp := fun vs H Q _ => ∃ (a b : Addr) (n d m e : Int), vs = [.ref a, .ref b] ∧ RatAt C H a n d ∧ RatAt C H b m e ∧ Bd 1000 n ∧ Bd 1000 d ∧ Bd 1000 m ∧ Bd 1000 e ∧ 0 < d ∧ 0 < e ∧
  ∀ (x : Addr) (H' : Hp), Same H H' → RatAt C H' x (rn (N n d m e) (D n d m e)) (rd (N n d m e) (D n d m e)) → Q (.ref x) H'
def spEq (C : Addr) : Sp := fun vs H Q _ => ∃ (a b : Addr) (n d m e : Int), vs = [.ref a, .ref b] ∧ RatAt C H a n d ∧ RatAt C H b m e ∧ Q (.bl (decide (n = m) && decide (d = e))) H
def spLess (C : Addr) : Sp := fun vs H Q _ => ∃ (a b : Addr) (n d m e : Int), vs = [.ref a, .ref b] ∧ RatAt C H a n d ∧ RatAt C H b m e ∧ Bd 1000 n ∧ Bd 1000 d ∧ Bd 1000 m ∧ Bd 1000 e ∧ Q (.bl (decide (n * e < m * d))) H
/-- a number's text; a fraction's -/
def nt (n : Int) : Str := toString n
def ft (n d : Int) : Str := if d = 1 then nt n else nt n ++ "/" ++ nt d
def spStr (C : Addr) : Sp := fun vs H Q _ => ∃ (a : Addr) (n d : Int), vs = [.ref a] ∧ RatAt C H a n d ∧ Bd 1000 n ∧ Bd 1000 d ∧ Q (.str (ft n d)) H
def spOver (C BR : Addr) : Sp := fun vs H Q E => ∃ (a b : Addr) (n d m e : Int), vs = [.ref a, .ref b] ∧ RatAt C H a n d ∧ RatAt C H b m e ∧ Bd 1000 n ∧ Bd 1000 d ∧ Bd 1000 m ∧ Bd 1000 e ∧ 0 < d ∧ 0 < e ∧
  (m = 0 → E (.ref BR) none H) ∧
  (m ≠ 0 → ∀ (x : Addr) (H' : Hp), Same H H' → RatAt C H' x (rn (sg m * n * e) (d * (if m < 0 then 0 - m else m))) (rd (sg m * n * e) (d * (if m < 0 then 0 - m else m))) → Q (.ref x) H')
section
variable {P : Program} {w : World} {K : PySem.W.Frag} {mg : Str → Option Value} {base : Heap} {C BR : Addr}
/-! ### __init__ -/
theorem scI : FnScope ["self", "num", "den", "common"] ["self", "num", "den"] (defScope sInit) := ⟨rfl, rfl, rfl, by decide +kernel, rfl, by decide +kernel, by decide +kernel⟩
theorem ok_init {f : Addr} {fd : FuncData} (F : FunD K "__init__" "Ratio.__init__" (defArgs sInit) (defBody sInit) (defScope sInit) [.int 1] [] f fd) (T : Txt K mg C BR) :
    FnOk P w K mg base (L2.CX P w) 1 f fd ["self", "num", "den"] (spInit C BR) := by
  refine F.ok scI (fun vs H Q E h => ?_) (fun cdv A outer s H vs Q E hr h => ?_)
  · obtain ⟨p, dx, n, d, rfl, _⟩ := h
    rfl
  · obtain ⟨p, dx, n, d, rfl, hp, hb, hE, hQ⟩ := h
    refine ⟨_, pss_cons (ps_if (pt_cmpR op_le (pv 2) pe_int (nomark _)) (pss_one (ps_raise rfl (takes_of rfl rfl rfl rfl) (pmk_own PySem.F.excBase_ValueError T.xP T.gP T.kP (raises_own T.bP T.tP) rfl))) pss_nil)
      (pss_cons (ps_set (i := 3) scI.nd rfl (Or.inl rfl) (pe_callBfun cr_gcd rfl T.gcd (pa_cons (pv 1) (pa_cons (pv 2) pa_nil))))
      (pss_cons (ps_fld (pv 0) (pe_op op_fdivW (pv 1) (pv 3)) rfl)
      (pss_one (ps_fld (pv 0) (pe_op op_fdivW (pv 2) (pv 3)) rfl)))), ?_⟩
    refine ⟨_, rfl, _, _, rfl, rfl, _, rfl, ite2 (fun z => ?_) (fun z => ?_)⟩
    · exact hE (of_decide_eq_true z)
    · have hd : 0 < d := by
        have q : ¬ d ≤ 0 := fun q => z (decide_eq_true q)
        omega
      have hg := G_pos (n := n) hd
      have hB := wide_div (i := n) hg (Bd.G (n := n) hd hb) (by decide) (by decide)
      have hB2 := wide_div (i := d) hg (Bd.G (n := n) hd hb) (by decide) (by decide)
      refine ⟨_, rfl, _, rfl, n, d, rfl, ?_⟩
      refine ⟨_, rfl, _, rfl, n, G n d, rfl, rfl, hB, _, rfl, p, C, dx, [], rfl, hp, T.cl, T.nN, (by show 0 < 1000; decide), ?_⟩
      refine ⟨_, rfl, _, rfl, d, G n d, rfl, rfl, hB2, _, rfl, p, C, dx, _, rfl, upd_same, T.cl, T.nD, (by show 1 < 1000; decide), ?_⟩
      exact hQ hd _ ⟨dx, upd_same⟩ fun b o e hb' => by rw [upd_ne hb', upd_ne hb']; exact e
/-! ### +, -, * -/
abbrev nAdd : Int → Int → Int → Int → Int := fun n d m e => n * e + m * d
abbrev nSub : Int → Int → Int → Int → Int := fun n d m e => n * e - m * d
abbrev nMul : Int → Int → Int → Int → Int := fun n _ m _ => n * m
abbrev nDen : Int → Int → Int → Int → Int := fun _ d _ e => d * e
theorem big (h : Bd 1000 x) (h' : Bd 1000 y) : CMulW x y := wide_mul h h' (by decide) (by decide) (by decide)
theorem scAd : FnScope ["self", "other"] ["self", "other"] (defScope sAdd) := ⟨rfl, rfl, rfl, by decide +kernel, rfl, by decide +kernel, by decide +kernel⟩
theorem scSu : FnScope ["self", "other"] ["self", "other"] (defScope sSub) := ⟨rfl, rfl, rfl, by decide +kernel, rfl, by decide +kernel, by decide +kernel⟩
theorem scMu : FnScope ["self", "other"] ["self", "other"] (defScope sMul) := ⟨rfl, rfl, rfl, by decide +kernel, rfl, by decide +kernel, by decide +kernel⟩
theorem made {H : Hp} {x dx : Addr} (nx : H x = none) (nd : H dx = none) : Same H (upd (upd H dx (.own x)) x (.ins C dx [])) := fun b o e => by
  rw [upd_ne (ne_of_none e nx), upd_ne (ne_of_none e nd)]
  exact e
theorem ok_add {f fI : Addr} {fd fdI : FuncData} (F : Fun K "__add__" "Ratio.__add__" sAdd f fd) (T : Txt K mg C BR) (M : Mk K C fI) (G : FnOk P w K mg base (L2.CX P w) 1 fI fdI ["self", "num", "den"] (spInit C BR)) (bI : Binds K fdI ["self", "num", "den"] []) :
    FnOk P w K mg base CX0 3 f fd ["self", "other"] (spBin C nAdd nDen) := by
  refine F.ok scAd (fun vs H Q E h => ?_) (fun cdv A outer s H vs Q E hr h => ?_)
  · obtain ⟨a, b, n, d, m, e, rfl, _⟩ := h
    rfl
  · obtain ⟨a, b, n, d, m, e, rfl, ⟨da, ha⟩, ⟨db, hb⟩, bn, bd, bm, be, hd, he, k⟩ := h
    refine ⟨_, pss_one (ps_ret (pe_make M G hr rfl T.mgC bI .nil passL (pa_cons (pe_op op_add (pe_op op_mulW (pe_fld (pv 0) rfl) (pe_fld (pv 1) rfl)) (pe_op op_mulW (pe_fld (pv 1) rfl) (pe_fld (pv 0) rfl)))
      (pa_cons (pe_op op_mulW (pe_fld (pv 0) rfl) (pe_fld (pv 1) rfl)) pa_nil)))), ?_⟩
    refine ⟨_, rfl, a, C, da, _, _, rfl, ha, T.cl, T.nN, rf_num _ _, _, rfl, b, C, db, _, _, rfl, hb, T.cl, T.nD, rf_den _ _, n, e, rfl, rfl, big bn be, ?_⟩
    refine ⟨_, rfl, b, C, db, _, _, rfl, hb, T.cl, T.nN, rf_num _ _, _, rfl, a, C, da, _, _, rfl, ha, T.cl, T.nD, rf_den _ _, m, d, rfl, rfl, big bm bd, _, _, rfl, rfl, ?_⟩
    refine ⟨_, rfl, a, C, da, _, _, rfl, ha, T.cl, T.nD, rf_den _ _, _, rfl, b, C, db, _, _, rfl, hb, T.cl, T.nD, rf_den _ _, d, e, rfl, rfl, big bd be, ?_⟩
    intro x dx nx ndx nex
    refine ⟨x, dx, n * e + m * d, d * e, rfl, upd_same, (bd.mul be).le (by decide), fun z => ?_, fun _ H' hR kp => ⟨rfl, ?_⟩⟩
    · have := Int.mul_pos hd he
      omega
    · exact k x H' (Same.made nx ndx kp) hR
theorem ok_sub {f fI : Addr} {fd fdI : FuncData} (F : Fun K "__sub__" "Ratio.__sub__" sSub f fd) (T : Txt K mg C BR) (M : Mk K C fI) (G : FnOk P w K mg base (L2.CX P w) 1 fI fdI ["self", "num", "den"] (spInit C BR)) (bI : Binds K fdI ["self", "num", "den"] []) :
    FnOk P w K mg base CX0 3 f fd ["self", "other"] (spBin C nSub nDen) := by
  refine F.ok scSu (fun vs H Q E h => ?_) (fun cdv A outer s H vs Q E hr h => ?_)
  · obtain ⟨a, b, n, d, m, e, rfl, _⟩ := h
    rfl
  · obtain ⟨a, b, n, d, m, e, rfl, ⟨da, ha⟩, ⟨db, hb⟩, bn, bd, bm, be, hd, he, k⟩ := h
    refine ⟨_, pss_one (ps_ret (pe_make M G hr rfl T.mgC bI .nil passL (pa_cons (pe_op op_sub (pe_op op_mulW (pe_fld (pv 0) rfl) (pe_fld (pv 1) rfl)) (pe_op op_mulW (pe_fld (pv 1) rfl) (pe_fld (pv 0) rfl)))
      (pa_cons (pe_op op_mulW (pe_fld (pv 0) rfl) (pe_fld (pv 1) rfl)) pa_nil)))), ?_⟩
    refine ⟨_, rfl, a, C, da, _, _, rfl, ha, T.cl, T.nN, rf_num _ _, _, rfl, b, C, db, _, _, rfl, hb, T.cl, T.nD, rf_den _ _, n, e, rfl, rfl, big bn be, ?_⟩
    refine ⟨_, rfl, b, C, db, _, _, rfl, hb, T.cl, T.nN, rf_num _ _, _, rfl, a, C, da, _, _, rfl, ha, T.cl, T.nD, rf_den _ _, m, d, rfl, rfl, big bm bd, _, _, rfl, rfl, ?_⟩
    refine ⟨_, rfl, a, C, da, _, _, rfl, ha, T.cl, T.nD, rf_den _ _, _, rfl, b, C, db, _, _, rfl, hb, T.cl, T.nD, rf_den _ _, d, e, rfl, rfl, big bd be, ?_⟩
    intro x dx nx ndx nex
    refine ⟨x, dx, n * e - m * d, d * e, rfl, upd_same, (bd.mul be).le (by decide), fun z => ?_, fun _ H' hR kp => ⟨rfl, ?_⟩⟩
    · have := Int.mul_pos hd he
      omega
    · exact k x H' (Same.made nx ndx kp) hR
theorem ok_mul {f fI : Addr} {fd fdI : FuncData} (F : Fun K "__mul__" "Ratio.__mul__" sMul f fd) (T : Txt K mg C BR) (M : Mk K C fI) (G : FnOk P w K mg base (L2.CX P w) 1 fI fdI ["self", "num", "den"] (spInit C BR)) (bI : Binds K fdI ["self", "num", "den"] []) :
    FnOk P w K mg base CX0 3 f fd ["self", "other"] (spBin C nMul nDen) := by
  refine F.ok scMu (fun vs H Q E h => ?_) (fun cdv A outer s H vs Q E hr h => ?_)
  · obtain ⟨a, b, n, d, m, e, rfl, _⟩ := h
    rfl
  · obtain ⟨a, b, n, d, m, e, rfl, ⟨da, ha⟩, ⟨db, hb⟩, bn, bd, bm, be, hd, he, k⟩ := h
    refine ⟨_, pss_one (ps_ret (pe_make M G hr rfl T.mgC bI .nil passL (pa_cons (pe_op op_mulW (pe_fld (pv 0) rfl) (pe_fld (pv 1) rfl))
      (pa_cons (pe_op op_mulW (pe_fld (pv 0) rfl) (pe_fld (pv 1) rfl)) pa_nil)))), ?_⟩
    refine ⟨_, rfl, a, C, da, _, _, rfl, ha, T.cl, T.nN, rf_num _ _, _, rfl, b, C, db, _, _, rfl, hb, T.cl, T.nN, rf_num _ _, n, m, rfl, rfl, big bn bm, ?_⟩
    refine ⟨_, rfl, a, C, da, _, _, rfl, ha, T.cl, T.nD, rf_den _ _, _, rfl, b, C, db, _, _, rfl, hb, T.cl, T.nD, rf_den _ _, d, e, rfl, rfl, big bd be, ?_⟩
    intro x dx nx ndx nex
    refine ⟨x, dx, n * m, d * e, rfl, upd_same, (bd.mul be).le (by decide), fun z => ?_, fun _ H' hR kp => ⟨rfl, ?_⟩⟩
    · have := Int.mul_pos hd he
      omega
    · exact k x H' (Same.made nx ndx kp) hR
/-! ### == , less, str -/
theorem scE : FnScope ["self", "other"] ["self", "other"] (defScope sEq) := ⟨rfl, rfl, rfl, by decide +kernel, rfl, by decide +kernel, by decide +kernel⟩
theorem ok_eq {f : Addr} {fd : FuncData} (F : Fun K "__eq__" "Ratio.__eq__" sEq f fd) (T : Txt K mg C BR) : FnOk P w K mg base CX0 1 f fd ["self", "other"] (spEq C) := by
  refine F.ok scE (fun vs H Q E h => ?_) (fun cdv A outer s H vs Q E hr h => ?_)
  · obtain ⟨a, b, n, d, m, e, rfl, _⟩ := h
    rfl
  · obtain ⟨a, b, n, d, m, e, rfl, ⟨da, ha⟩, ⟨db, hb⟩, k⟩ := h
    refine ⟨_, pss_one (ps_ret (pe_and (pe_callB call_isi (by rfl) T.isi (by decide +kernel) (pa_cons (pv 1) (pa_cons (pe_glob (v := .ref C) rfl T.mgC rfl) pa_nil)))
      (pe_and (pe_cmpR op_eq (pe_fld (pv 0) rfl) (pe_fld (pv 1) rfl) (nomark _)) (pe_one (pe_cmpR op_eq (pe_fld (pv 0) rfl) (pe_fld (pv 1) rfl) (nomark _)))))), ?_⟩
    refine ⟨_, rfl, .ref b, .ref C, .ref C, .ref C, true, rfl, .own C, .base (.ins hb T.cl T.si.ca T.si.cn T.si.ct T.si.cm), kit_self, _, rfl, iteT ?_⟩
    refine ⟨_, rfl, a, C, da, _, _, rfl, ha, T.cl, T.nN, rf_num _ _, _, rfl, b, C, db, _, _, rfl, hb, T.cl, T.nN, rf_num _ _, rfl, _, rfl, ite2 (fun z => ?_) (fun z => ?_)⟩
    · have e1 : n = m := V.int.inj (of_decide_eq_true z)
      refine ⟨_, rfl, a, C, da, _, _, rfl, ha, T.cl, T.nD, rf_den _ _, _, rfl, b, C, db, _, _, rfl, hb, T.cl, T.nD, rf_den _ _, rfl, ?_⟩
      rw [decide_eq_true e1, Bool.true_and] at k
      rw [dec_int]
      exact k
    · have e1 : ¬ n = m := fun q => z (decide_eq_true (by rw [q]))
      rw [decide_eq_false e1, Bool.false_and] at k
      exact k
theorem scLe : FnScope ["self", "other"] ["self", "other"] (defScope sLess) := ⟨rfl, rfl, rfl, by decide +kernel, rfl, by decide +kernel, by decide +kernel⟩
theorem ok_less {f : Addr} {fd : FuncData} (F : Fun K "less" "Ratio.less" sLess f fd) (T : Txt K mg C BR) : FnOk P w K mg base CX0 1 f fd ["self", "other"] (spLess C) := by
  refine F.ok scLe (fun vs H Q E h => ?_) (fun cdv A outer s H vs Q E hr h => ?_)
  · obtain ⟨a, b, n, d, m, e, rfl, _⟩ := h
    rfl
  · obtain ⟨a, b, n, d, m, e, rfl, ⟨da, ha⟩, ⟨db, hb⟩, bn, bd, bm, be, k⟩ := h
    refine ⟨_, pss_one (ps_ret (pe_cmpR op_lt (pe_op op_mulW (pe_fld (pv 0) rfl) (pe_fld (pv 1) rfl)) (pe_op op_mulW (pe_fld (pv 1) rfl) (pe_fld (pv 0) rfl)) (nomark _))), ?_⟩
    refine ⟨_, rfl, a, C, da, _, _, rfl, ha, T.cl, T.nN, rf_num _ _, _, rfl, b, C, db, _, _, rfl, hb, T.cl, T.nD, rf_den _ _, n, e, rfl, rfl, big bn be, ?_⟩
    refine ⟨_, rfl, b, C, db, _, _, rfl, hb, T.cl, T.nN, rf_num _ _, _, rfl, a, C, da, _, _, rfl, ha, T.cl, T.nD, rf_den _ _, m, d, rfl, rfl, big bm bd, _, _, rfl, rfl, k⟩
theorem scSt : FnScope ["self"] ["self"] (defScope sStr) := ⟨rfl, rfl, rfl, by decide +kernel, rfl, by decide +kernel, by decide +kernel⟩
theorem log_ok {x : Int} (h : Bd 1000 x) : x.natAbs.log2 < 1920 := Nat.lt_of_lt_of_le (PySem.Flt.log2_lt_of (by decide) h) (by decide)
/-- a number's text is short -/
theorem nt_len {x : Int} (h : Bd 1000 x) : (nt x).length ≤ 1001 := by
  have e := PySem.int_text_length_le (a := x) (k := 1000) (by decide) (PySem.Flt.log2_lt_of (by decide) h)
  unfold nt
  rw [PySem.ofString_length]
  exact e
theorem fitsN {z : Nat} (h : z ≤ 3000) : z ≤ sizeLine := Nat.le_trans h (by decide)
theorem slash : Str.length ("/" : Str) ≤ 1 := by decide
theorem ok_str {f : Addr} {fd : FuncData} (F : Fun K "__str__" "Ratio.__str__" sStr f fd) (T : Txt K mg C BR) : FnOk P w K mg base CX0 1 f fd ["self"] (spStr C) := by
  refine F.ok scSt (fun vs H Q E h => ?_) (fun cdv A outer s H vs Q E hr h => ?_)
  · obtain ⟨a, n, d, rfl, _⟩ := h
    rfl
  · obtain ⟨a, n, d, rfl, ⟨da, ha⟩, bn, bd, k⟩ := h
    refine ⟨_, pss_cons (ps_if (pt_cmpR op_eq (pe_fld (pv 0) rfl) pe_int (nomark _)) (pss_one (ps_ret (pe_callTy call_str_int (by rfl) T.str (by decide +kernel) (pa_cons (pe_fld (pv 0) rfl) pa_nil)))) pss_nil)
      (pss_one (ps_ret (pe_joined (.cons (pe_fmt (pe_fld (pv 0) rfl)) (.cons pe_str (.cons (pe_fmt (pe_fld (pv 0) rfl)) .nil)))))), ?_⟩
    refine ⟨_, rfl, a, C, da, _, _, rfl, ha, T.cl, T.nD, rf_den _ _, rfl, _, rfl, ite2 (fun z => ?_) (fun z => ?_)⟩
    · have e1 : d = 1 := V.int.inj (of_decide_eq_true z)
      refine ⟨_, rfl, a, C, da, _, _, rfl, ha, T.cl, T.nN, rf_num _ _, n, rfl, log_ok bn, ?_⟩
      unfold ft at k
      rw [if_pos e1] at k
      exact k
    · have e1 : ¬ d = 1 := fun q => z (decide_eq_true (by rw [q]))
      unfold ft at k
      rw [if_neg e1] at k
      refine ⟨_, rfl, a, C, da, _, _, rfl, ha, T.cl, T.nN, rf_num _ _, .inr ⟨n, rfl, log_ok bn, _, rfl, ?_, _, rfl, ?_, ?_⟩⟩
      · rw [Str.empty_append]
        exact fitsN (Nat.le_trans (nt_len bn) (by decide))
      · rw [Str.empty_append, Str.length_append]
        have h1 := nt_len bn
        have h3 := slash
        exact fitsN (Nat.le_trans (Nat.add_le_add h1 h3) (by decide))
      · refine ⟨_, rfl, a, C, da, _, _, rfl, ha, T.cl, T.nD, rf_den _ _, .inr ⟨d, rfl, log_ok bd, _, rfl, ?_, ?_⟩⟩
        · rw [Str.empty_append, Str.length_append, Str.length_append]
          have h1 := nt_len bn
          have h2 := nt_len bd
          exact fitsN (Nat.le_trans (Nat.add_le_add (Nat.add_le_add h1 slash) h2) (by decide))
        · rw [Str.empty_append]
          exact k
/-! ### over -/
theorem scOv : FnScope ["self", "other", "sign"] ["self", "other"] (defScope sOver) := ⟨rfl, rfl, rfl, by decide +kernel, rfl, by decide +kernel, by decide +kernel⟩
theorem ok_over {f fI : Addr} {fd fdI : FuncData} (F : Fun K "over" "Ratio.over" sOver f fd) (T : Txt K mg C BR) (M : Mk K C fI) (G : FnOk P w K mg base (L2.CX P w) 1 fI fdI ["self", "num", "den"] (spInit C BR)) (bI : Binds K fdI ["self", "num", "den"] []) :
    FnOk P w K mg base (L2.CX P w) 3 f fd ["self", "other"] (spOver C BR) := by
  refine F.okX scOv (fun vs H Q E h => ?_) (fun cdv A outer s H vs Q E hr h => ?_)
  · obtain ⟨a, b, n, d, m, e, rfl, _⟩ := h
    rfl
  · obtain ⟨a, b, n, d, m, e, rfl, ⟨da, ha⟩, ⟨db, hb⟩, bn, bd, bm, be, hd, he, kE, k⟩ := h
    refine ⟨_, pss_cons (ps_if (pt_cmpR op_eq (pe_fld (pv 1) rfl) pe_int (nomark _)) (pss_one (ps_raise rfl (takes_of rfl rfl rfl rfl) (pmk_own PySem.F.excBase_ValueError T.xP T.gP T.kP (raises_own T.bP T.tP) rfl))) pss_nil)
      (pss_cons (ps_set (i := 2) scOv.nd rfl (Or.inl rfl) (pe_ifExp (pt_cmpR op_gt (pe_fld (pv 1) rfl) pe_int (nomark _)) pe_int (pe_un un_neg pe_int)))
      (pss_one (ps_ret (pe_make M G hr rfl T.mgC bI .nil (E := E) (fun _ _ _ _ _ _ I c => takes_of (X := cxOf (L2.CX P w) P w K mg base ["self", "other", "sign"] "Ratio.over" (defScope sOver) f cdv A outer s H E) rfl rfl rfl rfl _ _ (XE.of_call I (fun _ _ _ h => h) c))
        (pa_cons (pe_op op_mulW (pe_op op_mulW (pv 2) (pe_fld (pv 0) rfl)) (pe_fld (pv 1) rfl))
        (pa_cons (pe_op op_mulW (pe_fld (pv 0) rfl) (pe_callB call_abs (by rfl) T.abs (by decide +kernel) (pa_cons (pe_fld (pv 1) rfl) pa_nil))) pa_nil)))))), ?_⟩
    refine ⟨_, rfl, b, C, db, _, _, rfl, hb, T.cl, T.nN, rf_num _ _, rfl, _, rfl, ite2 (fun z => ?_) (fun z => ?_)⟩
    · exact kE (V.int.inj (of_decide_eq_true z))
    · have hm : m ≠ 0 := fun q => z (decide_eq_true (by rw [q]))
      have kk := k hm
      have ba : Bd 1000 (if m < 0 then 0 - m else m) := bm.of_abs (by split <;> omega)
      have hp : 0 < (if m < 0 then 0 - m else m) := by split <;> omega
      have fin : ∀ σ', σ' = [some (V.ref a), some (V.ref b), some (V.int (sg m))] → tRet (tMake C (spInit C BR) [] E
        (tCons (tOp (rI CMulW fun i j => .int (i * j)) (tOp (rI CMulW fun i j => .int (i * j)) (tVar 2) (tFld K (tVar 0) "num")) (tFld K (tVar 1) "den"))
        (tCons (tOp (rI CMulW fun i j => .int (i * j)) (tFld K (tVar 0) "den") (tCB (fun xs H Q => ∃ i, xs = [.int i] ∧ Q (.int (if i < 0 then -i else i)) H) (tCons (tFld K (tVar 1) "num") tNil))) tNil))) { nx := fun _ H' => Q .non H', rt := Q } σ' H := by
        rintro σ' rfl
        have b1 : Bd 1000 (sg m) := by
          unfold sg
          split <;> exact Bd.of_small (by decide) (by decide)
        have b2 : Bd 2000 (sg m * n) := (b1.mul bn).le (by decide)
        have e1 : (if m < 0 then -m else m) = (if m < 0 then 0 - m else m) := by split <;> omega
        refine ⟨_, rfl, _, rfl, a, C, da, _, _, rfl, ha, T.cl, T.nN, rf_num _ _, sg m, n, rfl, rfl, big b1 bn, ?_⟩
        refine ⟨_, rfl, b, C, db, _, _, rfl, hb, T.cl, T.nD, rf_den _ _, _, _, rfl, rfl, wide_mul b2 be (by decide) (by decide) (by decide), ?_⟩
        refine ⟨_, rfl, a, C, da, _, _, rfl, ha, T.cl, T.nD, rf_den _ _, _, rfl, b, C, db, _, _, rfl, hb, T.cl, T.nN, rf_num _ _, m, rfl, d, _, rfl, rfl, big bd (e1 ▸ ba), ?_⟩
        intro x dx nx ndx nex
        refine ⟨x, dx, sg m * n * e, d * (if m < 0 then -m else m), rfl, upd_same, ?_, fun z => ?_, fun _ H' hR kp => ⟨rfl, ?_⟩⟩
        · rw [e1]
          exact (bd.mul ba).le (by decide)
        · rw [e1] at z
          have := Int.mul_pos hd hp
          omega
        · rw [e1] at hR
          exact kk x H' (Same.made nx ndx kp) hR
      refine ⟨_, rfl, b, C, db, _, _, rfl, hb, T.cl, T.nN, rf_num _ _, _, _, rfl, rfl, _, rfl, ite2 (fun z => ?_) (fun z => ?_)⟩
      · have hs : sg m = 1 := if_pos (of_decide_eq_true z)
        exact fin _ (by rw [hs]; rfl)
      · have hs : sg m = -1 := if_neg fun q => z (decide_eq_true q)
        exact ⟨_, rfl, fin _ (by rw [hs]; rfl)⟩
end
end K0

namespace K0
open PySem PySem.Spec PyProof.Rows L2
abbrev sPool : Stmt := top 13
abbrev sDraw : Stmt := top 14
abbrev sSame : Stmt := top 15
abbrev sRed : Stmt := top 16
abbrev sPlus : Stmt := top 17
abbrev sMinus : Stmt := top 18
abbrev sTimes : Stmt := top 19
abbrev sBelow : Stmt := top 20
abbrev sIs : Stmt := top 21
abbrev sRef : Stmt := top 22
abbrev sPair : Stmt := top 23
abbrev sLaw : Stmt := top 24
/-! ### the pool that numbers are drawn from -/
def L6 (q : Addr) (i c s t b : Int) : List V := [.ref q, .int i, .int c, .int s, .int t, .int b]
theorem l6_ix {q : Addr} {i c s t b : Int} {k : Int} {j : Nat} (h : ixN 6 k = some j) : ixN (L6 q i c s t b).length k = some j := h
structure PoolV (H : Hp) (p q : Addr) (ns : List Int) (i c s t b : Int) : Prop where
  ne : p ≠ q
  hp : H p = some (.lst (L6 q i c s t b))
  hq : H q = some (.lst (ns.map V.int))
  i0 : 0 ≤ i
  s0 : 0 ≤ s
  s1 : s < 2147483648
def PoolAt (H : Hp) (p : Addr) : Prop := ∃ q ns i c s t b, PoolV H p q ns i c s t b
/-- all but the pool is as it was -/
def Kp (p : Addr) (H H' : Hp) : Prop := ∀ b o, H b = some o → b ≠ p → H' b = some o
theorem Kp.refl (p : Addr) (H : Hp) : Kp p H H := fun _ _ e _ => e
theorem Kp.trans {p : Addr} {H H1 H2 : Hp} (a : Kp p H H1) (b : Kp p H1 H2) : Kp p H H2 := fun c o e h => b c o (a c o e h) h
theorem Kp.upd {p : Addr} {H : Hp} {o : HO} : Kp p H (upd H p o) := fun b u e h => by rw [upd_ne h]; exact e
theorem Kp.same {p : Addr} {H H' : Hp} (s : Same H H') : Kp p H H' := fun b o e _ => s b o e
theorem Same.upd {H : Hp} {p : Addr} {o : HO} (h : H p = none) : Same H (upd H p o) := fun b u e => by rw [upd_ne (ne_of_none e h)]; exact e
theorem PoolV.set {H : Hp} {p q : Addr} {ns : List Int} {i c s t b i' c' s' t' b' : Int} (P : PoolV H p q ns i c s t b) (hi : 0 ≤ i') (hs : 0 ≤ s') (hs' : s' < 2147483648) :
    PoolV (upd H p (.lst (L6 q i' c' s' t' b'))) p q ns i' c' s' t' b' := ⟨P.ne, upd_same, by rw [upd_ne P.ne.symm]; exact P.hq, hi, hs, hs'⟩
theorem PoolAt.same {H H' : Hp} {p : Addr} (P : PoolAt H p) (s : Same H H') : PoolAt H' p := by
  obtain ⟨q, ns, i, c, z, t, b, P⟩ := P
  exact ⟨q, ns, i, c, z, t, b, P.ne, s _ _ P.hp, s _ _ P.hq, P.i0, P.s0, P.s1⟩
def spPool (K : PySem.W.Frag) : Sp := fun vs H Q _ => ∃ (a : Addr) (ns : List Int) (b : Int), vs = [.ref a, .int b] ∧ SqL K H a (ns.map V.int) ∧ ∀ (p : Addr) (H' : Hp), Same H H' → H p = none → PoolAt H' p → Q (.ref p) H'
def spDraw : Sp := fun vs H Q _ => ∃ (p : Addr) (n : Int), vs = [.ref p, .int n] ∧ PoolAt H p ∧ 0 < n ∧ n < 1073741824 ∧ ∀ (v : Int) (H' : Hp), 0 ≤ v → v < n → PoolAt H' p → Kp p H H' → Q (.int v) H'
section
variable {P : Program} {w : World} {K : PySem.W.Frag} {mg : Str → Option Value} {base : Heap} {C BR : Addr}
theorem scPo : FnScope ["script", "budget"] ["script", "budget"] (defScope sPool) := ⟨rfl, rfl, rfl, by decide +kernel, rfl, by decide +kernel, by decide +kernel⟩
theorem ok_pool {f : Addr} {fd : FuncData} (F : Fun K "_law_pool" "_law_pool" sPool f fd) (T : Txt K mg C BR) : FnOk P w K mg base CX0 1 f fd ["script", "budget"] (spPool K) := by
  refine F.ok scPo (fun vs H Q E h => ?_) (fun cdv A outer s H vs Q E hr h => ?_)
  · obtain ⟨a, ns, b, rfl, _⟩ := h
    rfl
  · obtain ⟨a, ns, b, rfl, hS, k⟩ := h
    refine ⟨_, pss_one (ps_ret (pe_lst (pa_cons (pe_callTy call_list_of (by rfl) T.list (by decide +kernel) (pa_cons (pv 0) pa_nil)) (pa_cons pe_int (pa_cons pe_int (pa_cons pe_int (pa_cons pe_int (pa_cons (pv 1) pa_nil)))))))), ?_⟩
    refine ⟨_, rfl, a, _, rfl, .inl hS, fun l hl => ⟨_, rfl, (by show 6 ≤ sizeLine; decide), fun p hp => ?_⟩⟩
    have h1 : Same H (upd H l (.lst (ns.map V.int))) := Same.upd hl
    have nlp : l ≠ p := fun e => by
      rw [← e, upd_same] at hp
      cases hp
    have h2 := Same.upd (o := .lst (L6 l 0 0 1 0 b)) hp
    exact k p _ (h1.trans h2) (h1.free hp) ⟨l, ns, 0, 0, 1, 0, b, nlp.symm, upd_same, by rw [upd_ne nlp]; exact upd_same, by decide, by decide, by decide⟩
theorem scD : FnScope ["pool", "size", "cell", "value"] ["pool", "size"] (defScope sDraw) := ⟨rfl, rfl, rfl, by decide +kernel, rfl, by decide +kernel, by decide +kernel⟩
theorem ok_draw {f : Addr} {fd : FuncData} (F : Fun K "_law_draw" "_law_draw" sDraw f fd) (T : Txt K mg C BR) : FnOk P w K mg base CX0 1 f fd ["pool", "size"] spDraw := by
  refine F.ok scD (fun vs H Q E h => ?_) (fun cdv A outer s H vs Q E hr h => ?_)
  · obtain ⟨p, n, rfl, _⟩ := h
    rfl
  · obtain ⟨p, n, rfl, PA, hn, hn2, k⟩ := h
    have at_ : ∀ {q : Addr} {i c s t b : Int} {j : Nat} {v : V}, (L6 q i c s t b)[j]? = some v → atI (L6 q i c s t b) (j : Int) = some v := fun h => atI_nat h
    have hrest : ∃ t, PSs (cxOf CX0 P w K mg base ["pool", "size", "cell", "value"] "_law_draw" (defScope sDraw) f cdv A outer s H E).nox ((defBody sDraw).drop 1) t ∧
        ∀ (σ' : L2.St) (H' : Hp), (∃ v2 v3, σ' = [some (.ref p), some (.int n), v2, v3]) → PoolAt H' p → Kp p H H' → t { nx := fun _ H' => Q .non H', rt := Q } σ' H' := by
      refine ⟨_, pss_cons (ps_if (pt_cmpR op_gt (pe_ix ix_list (pv 0) pe_int (fun _ _ => rfl)) pe_int (nomark _))
          (pss_cons (ps_set (i := 3) scD.nd rfl (Or.inl rfl) (pe_op op_mod (pe_callTy call_int1 (by rfl) T.int (by decide +kernel) (pa_cons (pe_ix ix_list (pv 0) pe_int (fun _ _ => rfl)) pa_nil)) (pv 1)))
          (pss_cons (ps_asg (pe_op op_fdivN (pe_ix ix_list (pv 0) pe_int (fun _ _ => rfl)) (pv 1)) (pg_sub (pv 0) pe_int set_list))
          (pss_cons (ps_asg pe_int (pg_sub (pv 0) pe_int set_list))
          (pss_one (ps_ret (pv 3)))))) pss_nil)
        (pss_cons (ps_asg (pe_op op_sub (pe_ix ix_list (pv 0) pe_int (fun _ _ => rfl)) pe_int) (pg_sub (pv 0) pe_int set_list))
        (pss_cons (ps_asg (pe_op op_mod (pe_callTy call_int1 (by rfl) T.int (by decide +kernel) (pa_cons (pe_op op_add (pe_op op_mul (pe_ix ix_list (pv 0) pe_int (fun _ _ => rfl)) pe_int) pe_int) pa_nil)) pe_int) (pg_sub (pv 0) pe_int set_list))
        (pss_one (ps_ret (pe_op op_mod (pe_op op_mod (pe_callTy call_int1 (by rfl) T.int (by decide +kernel) (pa_cons (pe_op op_add (pe_op op_mul (pe_ix ix_list (pv 0) pe_int (fun _ _ => rfl)) pe_int) pe_int) pa_nil)) pe_int) (pv 1)))))), ?_⟩
      rintro σ' H' ⟨v2, v3, rfl⟩ ⟨q, ns, i, c, z, t, b, PV⟩ kp
      refine ⟨_, rfl, p, _, _, _, rfl, rfl, SqL.of PV.hp, at_ (j := 2) rfl, _, _, rfl, rfl, _, rfl, ite2 (fun _ => ?_) (fun _ => ?_)⟩
      · refine ⟨_, rfl, p, _, _, _, rfl, rfl, SqL.of PV.hp, at_ (j := 2) rfl, .inl ⟨_, rfl, _, rfl, _, _, rfl, rfl, hn, ?_⟩⟩
        refine ⟨_, rfl, p, _, _, _, rfl, rfl, SqL.of PV.hp, at_ (j := 2) rfl, _, rfl, _, _, rfl, rfl, ⟨by omega, by omega⟩, _, rfl, p, _, _, _, rfl, rfl, PV.hp, l6_ix (k := 2) (j := 2) (by decide), ?_⟩
        have PV2 := PV.set (i' := i) (c' := c.fdiv n) (s' := z) (t' := t) (b' := b) PV.i0 PV.s0 PV.s1
        refine ⟨_, rfl, p, _, _, _, rfl, rfl, PV2.hp, l6_ix (k := 4) (j := 4) (by decide), ?_⟩
        have PV3 := PV2.set (i' := i) (c' := c.fdiv n) (s' := z) (t' := 0) (b' := b) PV.i0 PV.s0 PV.s1
        exact ⟨_, rfl, k _ _ (Int.emod_nonneg _ (by omega)) (Int.emod_lt_of_pos _ hn) ⟨_, _, _, _, _, _, _, PV3⟩ ((kp.trans Kp.upd).trans Kp.upd)⟩
      · refine ⟨_, rfl, p, _, _, _, rfl, rfl, SqL.of PV.hp, at_ (j := 4) rfl, _, _, rfl, rfl, _, rfl, p, _, _, _, rfl, rfl, PV.hp, l6_ix (k := 4) (j := 4) (by decide), ?_⟩
        have PV2 := PV.set (i' := i) (c' := c) (s' := z) (t' := t - 1) (b' := b) PV.i0 PV.s0 PV.s1
        refine ⟨_, rfl, p, _, _, _, rfl, rfl, SqL.of PV2.hp, at_ (j := 3) rfl, _, _, rfl, rfl, .inl ⟨by have := PV.s0; omega, by have := PV.s1; omega⟩, _, _, rfl, rfl, .inl ⟨_, rfl, _, _, rfl, rfl, (by show (0 : Int) < 2147483647; decide), ?_⟩⟩
        have h0 : (0 : Int) ≤ (z * 48271 + 12345) % 2147483647 := Int.emod_nonneg _ (by decide)
        have h1 : (z * 48271 + 12345) % 2147483647 < 2147483647 := Int.emod_lt_of_pos _ (by decide)
        refine ⟨_, rfl, p, _, _, _, rfl, rfl, PV2.hp, l6_ix (k := 3) (j := 3) (by decide), ?_⟩
        have PV3 := PV2.set (i' := i) (c' := c) (s' := (z * 48271 + 12345) % 2147483647) (t' := t - 1) (b' := b) PV.i0 h0 (by omega)
        refine ⟨_, rfl, p, _, _, _, rfl, rfl, SqL.of PV3.hp, at_ (j := 3) rfl, _, _, rfl, rfl, .inl ⟨by omega, by omega⟩, _, _, rfl, rfl, .inl ⟨_, rfl, _, _, rfl, rfl, (by show (0 : Int) < 2147483647; decide), _, rfl, _, _, rfl, rfl, hn, ?_⟩⟩
        exact k _ _ (Int.emod_nonneg _ (by omega)) (Int.emod_lt_of_pos _ hn) ⟨_, _, _, _, _, _, _, PV3⟩ ((kp.trans Kp.upd).trans Kp.upd)
    obtain ⟨t, ht, rest⟩ := hrest
    refine ⟨_, pss_cons (ps_if (PW.pt (pw_and (pt_cmpR op_le (pe_ix ix_list (pv 0) pe_int (fun _ _ => rfl)) pe_int (nomark _)) (pw_and (pt_cmpR op_le (pe_ix ix_list (pv 0) pe_int (fun _ _ => rfl)) pe_int (nomark _))
        (pw_and1 (pt_cmpR op_lt (pe_ix ix_list (pv 0) pe_int (fun _ _ => rfl)) (pe_callB call_len_seq (by rfl) T.len PySem.boot_len (pa_cons (pe_ix ix_list (pv 0) pe_int (fun _ _ => rfl)) pa_nil)) (nomark _))))))
        (pss_cons (ps_set (i := 2) scD.nd rfl (Or.inl rfl) (pe_ix ix_list (pe_ix ix_list (pv 0) pe_int (fun _ _ => rfl)) (pe_ix ix_list (pv 0) pe_int (fun _ _ => rfl)) (fun _ _ => rfl)))
        (pss_cons (ps_asg (pe_op op_add (pe_ix ix_list (pv 0) pe_int (fun _ _ => rfl)) pe_int) (pg_sub (pv 0) pe_int set_list))
        (pss_cons (ps_asg (pe_op op_mod (pe_callTy call_int1 (by rfl) T.int (by decide +kernel) (pa_cons (pe_op op_add (pe_op op_mul (pe_ix ix_list (pv 0) pe_int (fun _ _ => rfl)) pe_int) (pv 2)) pa_nil)) pe_int) (pg_sub (pv 0) pe_int set_list))
        (pss_cons (ps_asg pe_int (pg_sub (pv 0) pe_int set_list))
        (pss_one (ps_if (pt_cmpR op_ge (pv 2) (pe_op op_pow pe_int pe_int) (nomark _)) (pss_one (ps_asg (pv 2) (pg_sub (pv 0) pe_int set_list))) pss_nil)))))) pss_nil) ht, ?_⟩
    obtain ⟨q, ns, i, c, z, tt, b, PV⟩ := id PA
    refine ⟨_, rfl, p, _, _, _, rfl, rfl, SqL.of PV.hp, at_ (j := 2) rfl, _, _, rfl, rfl, _, rfl, ite2 (fun _ => ?_) (fun _ => iteF (rest _ _ ⟨_, _, rfl⟩ PA (Kp.refl _ _)))⟩
    refine ⟨_, rfl, p, _, _, _, rfl, rfl, SqL.of PV.hp, at_ (j := 4) rfl, _, _, rfl, rfl, _, rfl, ite2 (fun _ => ?_) (fun _ => iteF (rest _ _ ⟨_, _, rfl⟩ PA (Kp.refl _ _)))⟩
    refine ⟨_, rfl, p, _, _, _, rfl, rfl, SqL.of PV.hp, at_ (j := 1) rfl, _, rfl, p, _, _, _, rfl, rfl, SqL.of PV.hp, at_ (j := 0) rfl, q, _, rfl, .inl (SqL.of PV.hq), _, _, rfl, rfl, _, rfl, ite2 (fun y => ?_) (fun _ => rest _ _ ⟨_, _, rfl⟩ PA (Kp.refl _ _))⟩
    have hi := of_decide_eq_true y
    obtain ⟨j, rfl⟩ : ∃ j : Nat, i = (j : Int) := ⟨i.toNat, by have := PV.i0; omega⟩
    have hj : j < ns.length := by
      rw [List.length_map] at hi
      omega
    have g : (ns.map V.int)[j]? = some (V.int ns[j]) := by
      rw [List.getElem?_map, List.getElem?_eq_getElem hj]
      rfl
    -- cell = pool[0][pool[1]]
    refine ⟨_, rfl, p, _, _, _, rfl, rfl, SqL.of PV.hp, at_ (j := 0) rfl, _, rfl, p, _, _, _, rfl, rfl, SqL.of PV.hp, at_ (j := 1) rfl, q, _, _, _, rfl, rfl, SqL.of PV.hq, atI_nat g, ?_⟩
    -- pool[1] = pool[1] + 1
    refine ⟨_, rfl, p, _, _, _, rfl, rfl, SqL.of PV.hp, at_ (j := 1) rfl, _, _, rfl, rfl, _, rfl, p, _, _, _, rfl, rfl, PV.hp, l6_ix (k := 1) (j := 1) (by decide), ?_⟩
    have PV2 := PV.set (i' := (j : Int) + 1) (c' := c) (s' := z) (t' := tt) (b' := b) (by omega) PV.s0 PV.s1
    -- pool[3] = ..
    refine ⟨_, rfl, p, _, _, _, rfl, rfl, SqL.of PV2.hp, at_ (j := 3) rfl, _, _, rfl, rfl, .inl ⟨by have := PV.s0; omega, by have := PV.s1; omega⟩, _, rfl, _, _, rfl, rfl, .inl ⟨_, rfl, _, _, rfl, rfl, (by show (0 : Int) < 2147483647; decide), ?_⟩⟩
    have h0 : (0 : Int) ≤ (z * 31 + ns[j]) % 2147483647 := Int.emod_nonneg _ (by decide)
    have h1 : (z * 31 + ns[j]) % 2147483647 < 2147483647 := Int.emod_lt_of_pos _ (by decide)
    refine ⟨_, rfl, p, _, _, _, rfl, rfl, PV2.hp, l6_ix (k := 3) (j := 3) (by decide), ?_⟩
    have PV3 := PV2.set (i' := (j : Int) + 1) (c' := c) (s' := (z * 31 + ns[j]) % 2147483647) (t' := tt) (b' := b) (by omega) h0 (by omega)
    -- pool[4] = 7
    refine ⟨_, rfl, p, _, _, _, rfl, rfl, PV3.hp, l6_ix (k := 4) (j := 4) (by decide), ?_⟩
    have PV4 := PV3.set (i' := (j : Int) + 1) (c' := c) (s' := (z * 31 + ns[j]) % 2147483647) (t' := 7) (b' := b) (by omega) h0 (by omega)
    have kp4 := ((Kp.upd (p := p) (H := H) (o := .lst (L6 q ((j : Int) + 1) c z tt b))).trans (Kp.upd (o := .lst (L6 q ((j : Int) + 1) c ((z * 31 + ns[j]) % 2147483647) tt b)))).trans (Kp.upd (o := .lst (L6 q ((j : Int) + 1) c ((z * 31 + ns[j]) % 2147483647) 7 b)))
    refine ⟨_, rfl, _, _, rfl, rfl, ⟨by decide, by decide, by decide⟩, _, _, rfl, rfl, _, rfl, ite2 (fun _ => ?_) (fun _ => rest _ _ ⟨_, _, rfl⟩ ⟨_, _, _, _, _, _, _, PV4⟩ kp4)⟩
    refine ⟨_, rfl, _, rfl, p, _, _, _, rfl, rfl, PV4.hp, l6_ix (k := 2) (j := 2) (by decide), ?_⟩
    have PV5 := PV4.set (i' := (j : Int) + 1) (c' := ns[j]) (s' := (z * 31 + ns[j]) % 2147483647) (t' := 7) (b' := b) (by omega) h0 (by omega)
    exact rest _ _ ⟨_, _, rfl⟩ ⟨_, _, _, _, _, _, _, PV5⟩ (kp4.trans Kp.upd)
end
end K0

namespace K0
open PySem PySem.Spec PyProof.Rows L2
/-! ### _law_same: asked of what is the same -/
inductive Flat : V → Prop where
  | int (i : Int) : Flat (.int i)
  | bl (b : Bool) : Flat (.bl b)
  | str (z : Str) : Flat (.str z)
def spSame0 : Sp := fun vs H Q _ => ∃ x : V, vs = [x, x] ∧ Flat x ∧ Q (.bl true) H
def spSame1 : Sp := fun vs H Q _ => ∃ (a b : Addr) (n d : Int), vs = [.ref a, .ref b] ∧ H a = some (.lst [.int n, .int d]) ∧ H b = some (.lst [.int n, .int d]) ∧ Q (.bl true) H
def spRed : Sp := fun vs H Q _ => ∃ (n d : Int), vs = [.int n, .int d] ∧ 0 < d ∧ Bd 1000 d ∧ ∀ (t : Addr) (H' : Hp), Same H H' → H t = none → H' t = some (.tup [.int (rn n d), .int (rd n d)]) → Q (.ref t) H'
def spRed2 (N D : Int → Int → Int → Int → Int) : Sp := fun vs H Q _ => ∃ (a b : Addr) (n d m e : Int), vs = [.ref a, .ref b] ∧ H a = some (.tup [.int n, .int d]) ∧ H b = some (.tup [.int m, .int e]) ∧ Bd 400 n ∧ Bd 400 d ∧ Bd 400 m ∧ Bd 400 e ∧ 0 < d ∧ 0 < e ∧
  ∀ (t : Addr) (H' : Hp), Same H H' → H t = none → H' t = some (.tup [.int (rn (N n d m e) (D n d m e)), .int (rd (N n d m e) (D n d m e))]) → Q (.ref t) H'
def spBelow : Sp := fun vs H Q _ => ∃ (a b : Addr) (n d m e : Int), vs = [.ref a, .ref b] ∧ H a = some (.tup [.int n, .int d]) ∧ H b = some (.tup [.int m, .int e]) ∧ Bd 400 n ∧ Bd 400 d ∧ Bd 400 m ∧ Bd 400 e ∧ Q (.bl (decide (n * e < m * d))) H
def spIs (C : Addr) : Sp := fun vs H Q _ => ∃ (a t : Addr) (n d : Int), vs = [.ref a, .ref t] ∧ RatAt C H a n d ∧ H t = some (.tup [.int n, .int d]) ∧ ∀ H' : Hp, Same H H' → Q (.bl true) H'
theorem tyI {K : PySem.W.Frag} {H : Hp} {i : Int} : TyX K H (.int i) (.type "int") := .base (.int i)
theorem tyB {K : PySem.W.Frag} {H : Hp} {b : Bool} : TyX K H (.bl b) (.type "bool") := .base (.bl b)
theorem tyS {K : PySem.W.Frag} {H : Hp} {z : Str} : TyX K H (.str z) (.type "str") := .base (.str z)
theorem tyL {K : PySem.W.Frag} {H : Hp} {a : Addr} {xs : List V} (e : H a = some (.lst xs)) : TyX K H (.ref a) (.type "list") := .base (.lst e)
section
variable {P : Program} {w : World} {K : PySem.W.Frag} {mg : Str → Option Value} {base : Heap} {C BR : Addr}
theorem scSa : FnScope ["actual", "due", "k"] ["actual", "due"] (defScope sSame) := ⟨rfl, rfl, rfl, by decide +kernel, rfl, by decide +kernel, by decide +kernel⟩
theorem ok_same0 {f : Addr} {fd : FuncData} (F : Fun K "_law_same" "_law_same" sSame f fd) (T : Txt K mg C BR) : FnOk P w K mg base CX0 1 f fd ["actual", "due"] spSame0 := by
  refine F.ok scSa (fun vs H Q E h => ?_) (fun cdv A outer s H vs Q E hr h => ?_)
  · obtain ⟨x, rfl, _⟩ := h
    rfl
  · obtain ⟨x, rfl, hx, k⟩ := h
    have one : ∀ (i : Nat) (n : Str) (m : String), True := fun _ _ _ => trivial
    refine ⟨_, pss_cons (ps_if (PW.pt (pw_or (pt_val (pe_callB call_isi (by rfl) T.isi (by decide +kernel) (pa_cons (pv 1) (pa_cons (pe_bltn (v := .ty "tuple") (by rfl) T.tuple (by decide +kernel) rfl) pa_nil))))
          (pw_or1 (pt_val (pe_callB call_isi (by rfl) T.isi (by decide +kernel) (pa_cons (pv 1) (pa_cons (pe_bltn (v := .ty "list") (by rfl) T.list (by decide +kernel) rfl) pa_nil)))))))
        (pss_cons ps_never (pss_cons ps_never (pss_cons ps_never (pss_one ps_never)))) pss_nil)
      (pss_cons (ps_if (PW.pt (pw_or (pt_cmpR op_isN (pv 1) pe_non (nomark _)) (pw_or1 (pt_val (pe_callB call_isi (by rfl) T.isi (by decide +kernel) (pa_cons (pv 1) (pa_cons (pe_bltn (v := .ty "bool") (by rfl) T.bool (by decide +kernel) rfl) pa_nil)))))))
        (pss_one (ps_ret (pe_and (pe_cmpR op_eq (pe_cmpR op_isN (pv 0) pe_non (nomark _)) (pe_cmpR op_isN (pv 1) pe_non (nomark _)) (nomark _))
          (pe_and (pe_or (pe_cmpR op_isN (pv 1) pe_non (nomark _)) (pe_one (pe_callB call_isi (by rfl) T.isi (by decide +kernel) (pa_cons (pv 0) (pa_cons (pe_bltn (v := .ty "bool") (by rfl) T.bool (by decide +kernel) rfl) pa_nil)))))
            (pe_one (pe_cmpR op_eq (pv 0) (pv 1) (nomark _))))))) pss_nil)
      (pss_cons (ps_if (pt_val (pe_callB call_isi (by rfl) T.isi (by decide +kernel) (pa_cons (pv 1) (pa_cons (pe_bltn (v := .ty "int") (by rfl) T.int (by decide +kernel) rfl) pa_nil))))
        (pss_one (ps_ret (pe_and (pe_callB call_isi (by rfl) T.isi (by decide +kernel) (pa_cons (pv 0) (pa_cons (pe_bltn (v := .ty "int") (by rfl) T.int (by decide +kernel) rfl) pa_nil)))
          (pe_and (pe_not (pe_callB call_isi (by rfl) T.isi (by decide +kernel) (pa_cons (pv 0) (pa_cons (pe_bltn (v := .ty "bool") (by rfl) T.bool (by decide +kernel) rfl) pa_nil))))
            (pe_one (pe_cmpR op_eq (pv 0) (pv 1) (nomark _))))))) pss_nil)
      (pss_one (ps_ret (pe_and (pe_callB call_isi (by rfl) T.isi (by decide +kernel) (pa_cons (pv 0) (pa_cons (pe_bltn (v := .ty "str") (by rfl) T.str (by decide +kernel) rfl) pa_nil)))
          (pe_one (pe_cmpR op_eq (pv 0) (pv 1) (nomark _)))))))), ?_⟩
    cases hx with
    | int i =>
      refine ⟨_, rfl, _, _, _, _, false, rfl, .ty "tuple", tyI, kit_ty (by decide +kernel), _, rfl, iteF ⟨_, rfl, _, _, _, _, false, rfl, .ty "list", tyI, kit_ty (by decide +kernel), _, rfl, iteF ?_⟩⟩
      refine ⟨_, rfl, rfl, _, rfl, iteF ⟨_, rfl, _, _, _, _, false, rfl, .ty "bool", tyI, kit_ty (by decide +kernel), _, rfl, iteF ?_⟩⟩
      refine ⟨_, rfl, _, _, _, _, true, rfl, .ty "int", tyI, kit_self, _, rfl, iteT ?_⟩
      refine ⟨_, rfl, _, _, _, _, true, rfl, .ty "int", tyI, kit_self, _, rfl, iteT ⟨_, rfl, _, _, _, _, false, rfl, .ty "bool", tyI, kit_ty (by decide +kernel), _, rfl, _, rfl, iteT ⟨_, rfl, _, rfl, rfl, ?_⟩⟩⟩
      rw [decide_eq_true rfl]
      exact k
    | bl b =>
      refine ⟨_, rfl, _, _, _, _, false, rfl, .ty "tuple", tyB, kit_ty (by decide +kernel), _, rfl, iteF ⟨_, rfl, _, _, _, _, false, rfl, .ty "list", tyB, kit_ty (by decide +kernel), _, rfl, iteF ?_⟩⟩
      refine ⟨_, rfl, rfl, _, rfl, iteF ⟨_, rfl, _, _, _, _, true, rfl, .ty "bool", tyB, kit_self, _, rfl, iteT ?_⟩⟩
      refine ⟨_, rfl, rfl, _, rfl, rfl, rfl, _, rfl, iteT ⟨_, rfl, rfl, _, rfl, iteF ⟨_, rfl, _, _, _, _, true, rfl, .ty "bool", tyB, kit_self, _, rfl, iteT ⟨_, rfl, _, rfl, rfl, ?_⟩⟩⟩⟩
      rw [decide_eq_true rfl]
      exact k
    | str z =>
      refine ⟨_, rfl, _, _, _, _, false, rfl, .ty "tuple", tyS, kit_ty (by decide +kernel), _, rfl, iteF ⟨_, rfl, _, _, _, _, false, rfl, .ty "list", tyS, kit_ty (by decide +kernel), _, rfl, iteF ?_⟩⟩
      refine ⟨_, rfl, rfl, _, rfl, iteF ⟨_, rfl, _, _, _, _, false, rfl, .ty "bool", tyS, kit_ty (by decide +kernel), _, rfl, iteF ?_⟩⟩
      refine ⟨_, rfl, _, _, _, _, false, rfl, .ty "int", tyS, kit_ty (by decide +kernel), _, rfl, iteF ?_⟩
      refine ⟨_, rfl, _, _, _, _, true, rfl, .ty "str", tyS, kit_self, _, rfl, iteT ⟨_, rfl, _, rfl, rfl, ?_⟩⟩
      rw [decide_eq_true rfl]
      exact k
end
end K0

namespace K0
open PySem PySem.Spec PyProof.Rows L2
section
variable {P : Program} {w : World} {K : PySem.W.Frag} {mg : Str → Option Value} {base : Heap} {C BR : Addr}
theorem ok_same1 {f : Addr} {fd : FuncData} (F : Fun K "_law_same" "_law_same" sSame f fd) (T : Txt K mg C BR) (gS : mg "_law_same" = some (.ref f)) (bS : Binds K fd ["actual", "due"] []) : FnOk P w K mg base CX0 2 f fd ["actual", "due"] spSame1 := by
  have G0 : FnOk P w K mg base CX0 1 f fd ["actual", "due"] spSame0 := ok_same0 F T
  refine F.ok scSa (fun vs H Q E h => ?_) (fun cdv A outer s H vs Q E hr h => ?_)
  · obtain ⟨a, b, n, d, rfl, _⟩ := h
    rfl
  · obtain ⟨a, b, n, d, rfl, ha, hb, k⟩ := h
    refine ⟨_, pss_cons (ps_if (PW.pt (pw_or (pt_val (pe_callB call_isi (by rfl) T.isi (by decide +kernel) (pa_cons (pv 1) (pa_cons (pe_bltn (v := .ty "tuple") (by rfl) T.tuple (by decide +kernel) rfl) pa_nil))))
          (pw_or1 (pt_val (pe_callB call_isi (by rfl) T.isi (by decide +kernel) (pa_cons (pv 1) (pa_cons (pe_bltn (v := .ty "list") (by rfl) T.list (by decide +kernel) rfl) pa_nil)))))))
        (pss_cons (ps_if (PW.pt (pw_or
            (pt_cmpR op_ne (pe_callB call_isi (by rfl) T.isi (by decide +kernel) (pa_cons (pv 1) (pa_cons (pe_bltn (v := .ty "tuple") (by rfl) T.tuple (by decide +kernel) rfl) pa_nil))) (pe_callB call_isi (by rfl) T.isi (by decide +kernel) (pa_cons (pv 0) (pa_cons (pe_bltn (v := .ty "tuple") (by rfl) T.tuple (by decide +kernel) rfl) pa_nil))) (nomark _))
            (pw_or1 (pt_cmpR op_ne (pe_callB call_isi (by rfl) T.isi (by decide +kernel) (pa_cons (pv 1) (pa_cons (pe_bltn (v := .ty "list") (by rfl) T.list (by decide +kernel) rfl) pa_nil))) (pe_callB call_isi (by rfl) T.isi (by decide +kernel) (pa_cons (pv 0) (pa_cons (pe_bltn (v := .ty "list") (by rfl) T.list (by decide +kernel) rfl) pa_nil))) (nomark _)))))
            (pss_one (ps_ret pe_bl)) pss_nil)
        (pss_cons (ps_if (pt_cmpR op_ne (pe_callB call_len_seq (by rfl) T.len PySem.boot_len (pa_cons (pv 0) pa_nil)) (pe_callB call_len_seq (by rfl) T.len PySem.boot_len (pa_cons (pv 1) pa_nil)) (nomark _)) (pss_one (ps_ret pe_bl)) pss_nil)
        (pss_cons (ps_for PassesOwn.never rfl (pi_range1 rfl T.range (pa_cons (pe_callB call_len_seq (by rfl) T.len PySem.boot_len (pa_cons (pv 1) pa_nil)) pa_nil)) (pg_name (i := 2) scSa.nd rfl (Or.inl rfl))
          (pss_one (ps_if (pt_not (pt_val (pe_call G0 hr (by rfl) gS F.kp bS .nil pass0 (pa_cons (pe_ix ix_list (pv 0) (pv 2) (fun _ _ => rfl)) (pa_cons (pe_ix ix_list (pv 1) (pv 2) (fun _ _ => rfl)) pa_nil))))) (pss_one (ps_ret pe_bl)) pss_nil)))
        (pss_one (ps_ret pe_bl))))) pss_nil)
      (pss_cons ps_never (pss_cons ps_never (pss_one ps_never))), ?_⟩
    refine ⟨_, rfl, _, _, _, _, false, rfl, .ty "tuple", tyL hb, kit_ty (by decide +kernel), _, rfl, iteF ⟨_, rfl, _, _, _, _, true, rfl, .ty "list", tyL hb, kit_self, _, rfl, iteT ?_⟩⟩
    refine ⟨_, rfl, _, _, _, _, false, rfl, .ty "tuple", tyL hb, kit_ty (by decide +kernel), _, rfl, _, _, _, _, false, rfl, .ty "tuple", tyL ha, kit_ty (by decide +kernel), rfl, _, rfl, iteF ?_⟩
    refine ⟨_, rfl, _, _, _, _, true, rfl, .ty "list", tyL hb, kit_self, _, rfl, _, _, _, _, true, rfl, .ty "list", tyL ha, kit_self, rfl, _, rfl, iteF ?_⟩
    refine ⟨_, rfl, a, _, rfl, .inl (SqL.of ha), _, rfl, b, _, rfl, .inl (SqL.of hb), rfl, _, rfl, iteF ?_⟩
    refine ⟨_, rfl, b, _, rfl, .inl (SqL.of hb), 2, rfl, by decide, by decide, for_range (lo := 0) (n := 2) (fun i σ H2 => (∃ v2, σ = [some (.ref a), some (.ref b), v2]) ∧ H2 = H) ⟨⟨_, rfl⟩, rfl⟩ ?_ ?_⟩
    · rintro i σ H2 hi ⟨⟨v2, rfl⟩, rfl⟩
      obtain ⟨v, hv, fv⟩ : ∃ v, ([V.int n, V.int d] : List V)[i]? = some v ∧ Flat v := by
        match i, hi with
        | 0, _ => exact ⟨_, rfl, .int n⟩
        | 1, _ => exact ⟨_, rfl, .int d⟩
      have hv' : atI [V.int n, V.int d] (0 + (i : Int)) = some v := by
        rw [Int.zero_add]
        exact atI_nat hv
      refine ⟨_, rfl, _, rfl, a, _, _, _, rfl, rfl, SqL.of ha, hv', _, rfl, _, rfl, b, _, _, _, rfl, rfl, SqL.of hb, hv', v, rfl, fv, _, rfl, iteF ⟨⟨_, rfl⟩, rfl⟩⟩
    · rintro σ H2 ⟨⟨v2, rfl⟩, rfl⟩
      exact k
/-! ### Euclid -/
theorem scRe : FnScope ["num", "den", "a", "b", "k"] ["num", "den"] (defScope sRed) := ⟨rfl, rfl, rfl, by decide +kernel, rfl, by decide +kernel, by decide +kernel⟩
theorem ok_red {f : Addr} {fd : FuncData} (F : Fun K "_law_less" "_law_less" sRed f fd) (T : Txt K mg C BR) : FnOk P w K mg base CX0 1 f fd ["num", "den"] spRed := by
  refine F.ok scRe (fun vs H Q E h => ?_) (fun cdv A outer s H vs Q E hr h => ?_)
  · obtain ⟨n, d, rfl, _⟩ := h
    rfl
  · obtain ⟨n, d, rfl, hd, bd, k⟩ := h
    have hrest : ∃ t, PSs (cxOf CX0 P w K mg base ["num", "den", "a", "b", "k"] "_law_less" (defScope sRed) f cdv A outer s H E).nox ((defBody sRed).drop 3) t ∧
        ∀ (σ' : L2.St), (∃ v3 v4, σ' = [some (.int n), some (.int d), some (.int (G n d)), v3, v4]) → t { nx := fun _ H' => Q .non H', rt := Q } σ' H := by
      refine ⟨_, pss_one (ps_ret (pe_tup (pa_cons (pe_op op_fdivW (pv 0) (pv 2)) (pa_cons (pe_op op_fdivW (pv 1) (pv 2)) pa_nil)))), ?_⟩
      rintro σ' ⟨v3, v4, rfl⟩
      have hg := G_pos (n := n) hd
      have bg : Bd 1000 (G n d) := Bd.G hd bd
      refine ⟨_, rfl, _, rfl, n, G n d, rfl, rfl, wide_div hg bg (by decide) (by decide), _, rfl, _, rfl, d, G n d, rfl, rfl, wide_div hg bg (by decide) (by decide), (by show 2 ≤ sizeLine; decide), fun p hp => ?_⟩
      exact k p _ (Same.upd hp) hp upd_same
    obtain ⟨t, ht, rest⟩ := hrest
    refine ⟨_, pss_cons (ps_set (i := 2) scRe.nd rfl (Or.inl rfl) (pe_callB call_abs (by rfl) T.abs (by decide +kernel) (pa_cons (pv 0) pa_nil)))
      (pss_cons (ps_set (i := 3) scRe.nd rfl (Or.inl rfl) (pv 1))
      (pss_cons (ps_for PassesOwn.never rfl (pi_range1 rfl T.range (pa_cons pe_int pa_nil)) (pg_name (i := 4) scRe.nd rfl (Or.inl rfl))
        (pss_cons (ps_if (pt_cmpR op_eq (pv 3) pe_int (nomark _)) (pss_one ps_break) pss_nil)
        (pss_one (ps_par (i := 2) (j := 3) (by rfl) scRe.nd rfl rfl (by decide) rfl rfl (pa_cons (pv 3) (pa_cons (pe_op op_mod (pe_callTy call_int1 (by rfl) T.int (by decide +kernel) (pa_cons (pv 2) pa_nil)) (pv 3)) pa_nil)) (by rfl))))) ht)), ?_⟩
    have ea : (if n < 0 then -n else n) = (n.natAbs : Int) := by split <;> omega
    refine ⟨_, rfl, n, rfl, _, rfl, 4000, rfl, by decide, by decide, for_range (lo := 0) (n := 4000) (fun i σ H2 => (∃ (A B : Nat) (v4 : Option V), σ = [some (.int n), some (.int d), some (.int (A : Int)), some (.int (B : Int)), v4] ∧ Eu (Nat.gcd n.natAbs d.natAbs) i A B) ∧ H2 = H) ?_ ?_ ?_⟩
    · refine ⟨⟨n.natAbs, d.natAbs, none, ?_, Eu.start bd⟩, rfl⟩
      have ed : d = (d.natAbs : Int) := by omega
      rw [← ea, ← ed]
      rfl
    · rintro i σ H2 hi ⟨⟨A, B, v4, rfl, eu⟩, rfl⟩
      refine ⟨_, rfl, rfl, _, rfl, ite2 (fun z => ?_) (fun z => ?_)⟩
      · have eB : B = 0 := by
          have := V.int.inj (of_decide_eq_true z)
          omega
        subst eB
        have eA := eu.fin
        subst eA
        exact rest _ ⟨_, _, rfl⟩
      · have nB : B ≠ 0 := fun q => z (decide_eq_true (by rw [q]; rfl))
        refine ⟨_, rfl, _, rfl, .inl ⟨_, rfl, _, rfl, _, _, rfl, rfl, (by show (0 : Int) < (B : Int); omega), _, _, rfl, ⟨B, A % B, some (V.int (0 + (i : Int))), ?_, eu.turn nB⟩, rfl⟩⟩
        rw [Int.natCast_emod]
        rfl
    · rintro σ H2 ⟨⟨A, B, v4, rfl, eu⟩, rfl⟩
      have eB := eu.out
      subst eB
      have eA := eu.fin
      subst eA
      exact rest _ ⟨_, _, rfl⟩
theorem scPl : FnScope ["one", "other"] ["one", "other"] (defScope sPlus) := ⟨rfl, rfl, rfl, by decide +kernel, rfl, by decide +kernel, by decide +kernel⟩
theorem ok_plus {f fL : Addr} {fd fdL : FuncData} (F : Fun K "_law_plus" "_law_plus" sPlus f fd) (G : FnOk P w K mg base CX0 1 fL fdL ["num", "den"] spRed) (gL : mg "_law_less" = some (.ref fL)) (kL : PySem.W.keepIn K (.ref fL) = true) (bL : Binds K fdL ["num", "den"] []) :
    FnOk P w K mg base CX0 2 f fd ["one", "other"] (spRed2 nAdd nDen) := by
  refine F.ok scPl (fun vs H Q E h => ?_) (fun cdv A outer s H vs Q E hr h => ?_)
  · obtain ⟨a, b, n, d, m, e, rfl, _⟩ := h
    rfl
  · obtain ⟨a, b, n, d, m, e, rfl, ha, hb, bn, bd, bm, be, hd, he, k⟩ := h
    have i0 : ∀ {x y : Int}, atI [V.int x, V.int y] 0 = some (V.int x) := fun {x y} => atI_nat (j := 0) rfl
    have i1 : ∀ {x y : Int}, atI [V.int x, V.int y] 1 = some (V.int y) := fun {x y} => atI_nat (j := 1) rfl
    have big4 : ∀ {x y : Int}, Bd 400 x → Bd 400 y → CMulW x y := fun h h' => wide_mul h h' (by decide) (by decide) (by decide)
    refine ⟨_, pss_one (ps_ret (pe_call G hr (by rfl) gL kL bL .nil pass0 (pa_cons (pe_op op_add (pe_op op_mulW (pe_ix ix_tup (pv 0) pe_int (fun _ _ => rfl)) (pe_ix ix_tup (pv 1) pe_int (fun _ _ => rfl))) (pe_op op_mulW (pe_ix ix_tup (pv 1) pe_int (fun _ _ => rfl)) (pe_ix ix_tup (pv 0) pe_int (fun _ _ => rfl)))) (pa_cons (pe_op op_mulW (pe_ix ix_tup (pv 0) pe_int (fun _ _ => rfl)) (pe_ix ix_tup (pv 1) pe_int (fun _ _ => rfl))) pa_nil)))), ?_⟩
    refine ⟨_, rfl, a, _, _, _, rfl, rfl, SqT.of ha, i0, _, rfl, b, _, _, _, rfl, rfl, SqT.of hb, i1, n, e, rfl, rfl, big4 bn be, ?_⟩
    refine ⟨_, rfl, b, _, _, _, rfl, rfl, SqT.of hb, i0, _, rfl, a, _, _, _, rfl, rfl, SqT.of ha, i1, m, d, rfl, rfl, big4 bm bd, _, _, rfl, rfl, ?_⟩
    refine ⟨_, rfl, a, _, _, _, rfl, rfl, SqT.of ha, i1, _, rfl, b, _, _, _, rfl, rfl, SqT.of hb, i1, d, e, rfl, rfl, big4 bd be, ?_⟩
    exact ⟨_, _, rfl, Int.mul_pos hd he, (bd.mul be).le (by decide), k⟩
theorem scMi : FnScope ["one", "other"] ["one", "other"] (defScope sMinus) := ⟨rfl, rfl, rfl, by decide +kernel, rfl, by decide +kernel, by decide +kernel⟩
theorem ok_minus {f fL : Addr} {fd fdL : FuncData} (F : Fun K "_law_minus" "_law_minus" sMinus f fd) (G : FnOk P w K mg base CX0 1 fL fdL ["num", "den"] spRed) (gL : mg "_law_less" = some (.ref fL)) (kL : PySem.W.keepIn K (.ref fL) = true) (bL : Binds K fdL ["num", "den"] []) :
    FnOk P w K mg base CX0 2 f fd ["one", "other"] (spRed2 nSub nDen) := by
  refine F.ok scMi (fun vs H Q E h => ?_) (fun cdv A outer s H vs Q E hr h => ?_)
  · obtain ⟨a, b, n, d, m, e, rfl, _⟩ := h
    rfl
  · obtain ⟨a, b, n, d, m, e, rfl, ha, hb, bn, bd, bm, be, hd, he, k⟩ := h
    have i0 : ∀ {x y : Int}, atI [V.int x, V.int y] 0 = some (V.int x) := fun {x y} => atI_nat (j := 0) rfl
    have i1 : ∀ {x y : Int}, atI [V.int x, V.int y] 1 = some (V.int y) := fun {x y} => atI_nat (j := 1) rfl
    have big4 : ∀ {x y : Int}, Bd 400 x → Bd 400 y → CMulW x y := fun h h' => wide_mul h h' (by decide) (by decide) (by decide)
    refine ⟨_, pss_one (ps_ret (pe_call G hr (by rfl) gL kL bL .nil pass0 (pa_cons (pe_op op_sub (pe_op op_mulW (pe_ix ix_tup (pv 0) pe_int (fun _ _ => rfl)) (pe_ix ix_tup (pv 1) pe_int (fun _ _ => rfl))) (pe_op op_mulW (pe_ix ix_tup (pv 1) pe_int (fun _ _ => rfl)) (pe_ix ix_tup (pv 0) pe_int (fun _ _ => rfl)))) (pa_cons (pe_op op_mulW (pe_ix ix_tup (pv 0) pe_int (fun _ _ => rfl)) (pe_ix ix_tup (pv 1) pe_int (fun _ _ => rfl))) pa_nil)))), ?_⟩
    refine ⟨_, rfl, a, _, _, _, rfl, rfl, SqT.of ha, i0, _, rfl, b, _, _, _, rfl, rfl, SqT.of hb, i1, n, e, rfl, rfl, big4 bn be, ?_⟩
    refine ⟨_, rfl, b, _, _, _, rfl, rfl, SqT.of hb, i0, _, rfl, a, _, _, _, rfl, rfl, SqT.of ha, i1, m, d, rfl, rfl, big4 bm bd, _, _, rfl, rfl, ?_⟩
    refine ⟨_, rfl, a, _, _, _, rfl, rfl, SqT.of ha, i1, _, rfl, b, _, _, _, rfl, rfl, SqT.of hb, i1, d, e, rfl, rfl, big4 bd be, ?_⟩
    exact ⟨_, _, rfl, Int.mul_pos hd he, (bd.mul be).le (by decide), k⟩
theorem scTi : FnScope ["one", "other"] ["one", "other"] (defScope sTimes) := ⟨rfl, rfl, rfl, by decide +kernel, rfl, by decide +kernel, by decide +kernel⟩
theorem ok_times {f fL : Addr} {fd fdL : FuncData} (F : Fun K "_law_times" "_law_times" sTimes f fd) (G : FnOk P w K mg base CX0 1 fL fdL ["num", "den"] spRed) (gL : mg "_law_less" = some (.ref fL)) (kL : PySem.W.keepIn K (.ref fL) = true) (bL : Binds K fdL ["num", "den"] []) :
    FnOk P w K mg base CX0 2 f fd ["one", "other"] (spRed2 nMul nDen) := by
  refine F.ok scTi (fun vs H Q E h => ?_) (fun cdv A outer s H vs Q E hr h => ?_)
  · obtain ⟨a, b, n, d, m, e, rfl, _⟩ := h
    rfl
  · obtain ⟨a, b, n, d, m, e, rfl, ha, hb, bn, bd, bm, be, hd, he, k⟩ := h
    have i0 : ∀ {x y : Int}, atI [V.int x, V.int y] 0 = some (V.int x) := fun {x y} => atI_nat (j := 0) rfl
    have i1 : ∀ {x y : Int}, atI [V.int x, V.int y] 1 = some (V.int y) := fun {x y} => atI_nat (j := 1) rfl
    have big4 : ∀ {x y : Int}, Bd 400 x → Bd 400 y → CMulW x y := fun h h' => wide_mul h h' (by decide) (by decide) (by decide)
    refine ⟨_, pss_one (ps_ret (pe_call G hr (by rfl) gL kL bL .nil pass0 (pa_cons (pe_op op_mulW (pe_ix ix_tup (pv 0) pe_int (fun _ _ => rfl)) (pe_ix ix_tup (pv 1) pe_int (fun _ _ => rfl))) (pa_cons (pe_op op_mulW (pe_ix ix_tup (pv 0) pe_int (fun _ _ => rfl)) (pe_ix ix_tup (pv 1) pe_int (fun _ _ => rfl))) pa_nil)))), ?_⟩
    refine ⟨_, rfl, a, _, _, _, rfl, rfl, SqT.of ha, i0, _, rfl, b, _, _, _, rfl, rfl, SqT.of hb, i0, n, m, rfl, rfl, big4 bn bm, ?_⟩
    refine ⟨_, rfl, a, _, _, _, rfl, rfl, SqT.of ha, i1, _, rfl, b, _, _, _, rfl, rfl, SqT.of hb, i1, d, e, rfl, rfl, big4 bd be, ?_⟩
    exact ⟨_, _, rfl, Int.mul_pos hd he, (bd.mul be).le (by decide), k⟩
theorem scBe : FnScope ["one", "other"] ["one", "other"] (defScope sBelow) := ⟨rfl, rfl, rfl, by decide +kernel, rfl, by decide +kernel, by decide +kernel⟩
theorem ok_below {f : Addr} {fd : FuncData} (F : Fun K "_law_below" "_law_below" sBelow f fd) : FnOk P w K mg base CX0 1 f fd ["one", "other"] spBelow := by
  refine F.ok scBe (fun vs H Q E h => ?_) (fun cdv A outer s H vs Q E hr h => ?_)
  · obtain ⟨a, b, n, d, m, e, rfl, _⟩ := h
    rfl
  · obtain ⟨a, b, n, d, m, e, rfl, ha, hb, bn, bd, bm, be, k⟩ := h
    have i0 : ∀ {x y : Int}, atI [V.int x, V.int y] 0 = some (V.int x) := fun {x y} => atI_nat (j := 0) rfl
    have i1 : ∀ {x y : Int}, atI [V.int x, V.int y] 1 = some (V.int y) := fun {x y} => atI_nat (j := 1) rfl
    have big4 : ∀ {x y : Int}, Bd 400 x → Bd 400 y → CMulW x y := fun h h' => wide_mul h h' (by decide) (by decide) (by decide)
    refine ⟨_, pss_one (ps_ret (pe_cmpR op_lt (pe_op op_mulW (pe_ix ix_tup (pv 0) pe_int (fun _ _ => rfl)) (pe_ix ix_tup (pv 1) pe_int (fun _ _ => rfl))) (pe_op op_mulW (pe_ix ix_tup (pv 1) pe_int (fun _ _ => rfl)) (pe_ix ix_tup (pv 0) pe_int (fun _ _ => rfl))) (nomark _))), ?_⟩
    refine ⟨_, rfl, a, _, _, _, rfl, rfl, SqT.of ha, i0, _, rfl, b, _, _, _, rfl, rfl, SqT.of hb, i1, n, e, rfl, rfl, big4 bn be, ?_⟩
    exact ⟨_, rfl, b, _, _, _, rfl, rfl, SqT.of hb, i0, _, rfl, a, _, _, _, rfl, rfl, SqT.of ha, i1, m, d, rfl, rfl, big4 bm bd, _, _, rfl, rfl, k⟩
theorem scIs : FnScope ["ratio", "due"] ["ratio", "due"] (defScope sIs) := ⟨rfl, rfl, rfl, by decide +kernel, rfl, by decide +kernel, by decide +kernel⟩
theorem ok_is {f fS : Addr} {fd fdS : FuncData} (F : Fun K "_law_is" "_law_is" sIs f fd) (T : Txt K mg C BR) (G : FnOk P w K mg base CX0 2 fS fdS ["actual", "due"] spSame1) (gS : mg "_law_same" = some (.ref fS)) (kS : PySem.W.keepIn K (.ref fS) = true) (bS : Binds K fdS ["actual", "due"] []) :
    FnOk P w K mg base CX0 3 f fd ["ratio", "due"] (spIs C) := by
  refine F.ok scIs (fun vs H Q E h => ?_) (fun cdv A outer s H vs Q E hr h => ?_)
  · obtain ⟨a, b, n, d, rfl, _⟩ := h
    rfl
  · obtain ⟨a, t, n, d, rfl, ⟨da, ha⟩, ht, k⟩ := h
    refine ⟨_, pss_one (ps_ret (pe_and (pe_callB call_isi (by rfl) T.isi (by decide +kernel) (pa_cons (pv 0) (pa_cons (pe_glob (v := .ref C) rfl T.mgC rfl) pa_nil)))
      (pe_one (pe_call G hr (by rfl) gS kS bS .nil pass0 (pa_cons (pe_lst (pa_cons (pe_fld (pv 0) rfl) (pa_cons (pe_fld (pv 0) rfl) pa_nil)))
        (pa_cons (pe_callTy call_list_of (by rfl) T.list (by decide +kernel) (pa_cons (pv 1) pa_nil)) pa_nil)))))), ?_⟩
    refine ⟨_, rfl, .ref a, .ref C, .ref C, .ref C, true, rfl, .own C, .base (.ins ha T.cl T.si.ca T.si.cn T.si.ct T.si.cm), kit_self, _, rfl, iteT ?_⟩
    refine ⟨_, rfl, a, C, da, _, _, rfl, ha, T.cl, T.nN, rf_num _ _, _, rfl, a, C, da, _, _, rfl, ha, T.cl, T.nD, rf_den _ _, (by show 2 ≤ sizeLine; decide), fun p hp => ?_⟩
    have s1 := Same.upd (o := .lst [.int n, .int d]) hp
    refine ⟨_, rfl, t, _, rfl, .inr (SqT.of (s1 _ _ ht)), fun l hl => ?_⟩
    have npl : p ≠ l := fun e => by
      rw [← e, upd_same] at hl
      cases hl
    exact ⟨p, l, n, d, rfl, by rw [upd_ne npl]; exact upd_same, upd_same, k _ (s1.trans (Same.upd hl))⟩
end
end K0

namespace K0
open PySem PySem.Spec PyProof.Rows L2
/-- what the suite asks of the classes of errors -/
structure TxE (K : PySem.W.Frag) (mg : Str → Option Value) (BR LE c1 c2 c3 c4 c5 c6 : Addr) : Prop where
  EC : ExcC K BR
  gLE : mg "LossError" = some (.ref LE)
  te : PySem.W.exmOne K (.ref BR) (.ref LE) = some true
  g1 : mg "BadPaper" = some (.ref c1)
  g2 : mg "BadPlan" = some (.ref c2)
  g3 : mg "BadText" = some (.ref c3)
  g4 : mg "NoPlan" = some (.ref c4)
  g5 : mg "NoShare" = some (.ref c5)
  g6 : mg "TooLarge" = some (.ref c6)
  k1 : PySem.W.kitOne K (.ref BR) (.ref c1) = some false
  k2 : PySem.W.kitOne K (.ref BR) (.ref c2) = some false
  k3 : PySem.W.kitOne K (.ref BR) (.ref c3) = some false
  k4 : PySem.W.kitOne K (.ref BR) (.ref c4) = some false
  k5 : PySem.W.kitOne K (.ref BR) (.ref c5) = some false
  k6 : PySem.W.kitOne K (.ref BR) (.ref c6) = some false
  ve : mg "ValueError" = none
  kV : PySem.W.kitOne K (.ref BR) (.type "ValueError") = some true
def spRef : Sp := fun vs H Q _ => ∃ (t : Addr) (n d : Int) (o : V), vs = [.ref t, o] ∧ H t = some (.tup [.int n, .int d]) ∧ Bd 1000 n ∧ Bd 1000 d ∧
  ((o = .non ∧ d ≤ 0) ∨ ∃ (u : Addr) (m e : Int), o = .ref u ∧ H u = some (.tup [.int m, .int e]) ∧ 0 < d ∧ 0 < e ∧ m = 0 ∧ Bd 1000 e) ∧ ∀ H' : Hp, Same H H' → Q (.bl true) H'
def tMk (K : PySem.W.Frag) (C BR : Addr) (W : WX) (i : Nat) : TE := tMakeS C (spInit C BR) (WE W) (tCons (tOp (rIxT K) (tVar i) (tC (.int 0))) (tCons (tOp (rIxT K) (tVar i) (tC (.int 1))) tNil))
def tRefB (K : PySem.W.Frag) (C BR : Addr) (W : WX) : TS := tIfS (tTest (tOp (fun x y H Q => y = .non ∧ Q (.bl (decide (x = .non))) H) (tVar 1) (tC .non))) (tDrop (tMk K C BR W 0)) (tDrop (tMethS C "over" (spOver C BR) (WE W) (tMk K C BR W 0) (tCons (tMk K C BR W 1) tNil)))
def tRefS (K : PySem.W.Frag) (BR c1 c2 c3 c4 c5 c6 a : Addr) (cls : Value) (d : Option Addr) : TS :=
  tRet (tAndV (tCB (rIsE1 K BR a cls d) (tCons (tVar 2) (tCons (tC (.ref BR)) tNil)))
    (tAndV (tNotV (tCB (rIsET K BR a cls d) (tCons (tVar 2) (tCons (tTup (tCons (tC (.ref c1)) (tCons (tC (.ref c2)) (tCons (tC (.ref c3)) (tCons (tC (.ref c4)) (tCons (tC (.ref c5)) (tCons (tC (.ref c6)) tNil))))))) tNil))))
      (tCB (rIsE1 K BR a cls d) (tCons (tVar 2) (tCons (tC (.ty "ValueError")) tNil)))))
section
variable {P : Program} {w : World} {K : PySem.W.Frag} {mg : Str → Option Value} {base : Heap} {C BR LE c1 c2 c3 c4 c5 c6 : Addr}
theorem scRf : FnScope ["one", "other", "e"] ["one", "other"] (defScope sRef) := ⟨rfl, rfl, rfl, by decide +kernel, rfl, by decide +kernel, by decide +kernel⟩
/-- the suite's answer -/
theorem suite_ok (T : Txt K mg C BR) (TE : TxE K mg BR LE c1 c2 c3 c4 c5 c6) {a : Addr} {D : Ends} {x y : Option V} {H : Hp} (k : ∀ H', Same H H' → D.rt (.bl true) H') : tRefS K BR c1 c2 c3 c4 c5 c6 a (.ref BR) none D [x, y, some (.ref a)] H := by
  refine ⟨_, rfl, rfl, rfl, .ref BR, .ref BR, true, rfl, fun u r => r, kit_self, _, rfl, iteT ?_⟩
  refine ⟨_, rfl, (by show 6 ≤ sizeLine; decide), fun p hp => ⟨rfl, rfl, p, _, [.ref c1, .ref c2, .ref c3, .ref c4, .ref c5, .ref c6], false, rfl, upd_same, .cons (.own _) (.cons (.own _) (.cons (.own _) (.cons (.own _) (.cons (.own _) (.cons (.own _) .nil))))), ?_, _, rfl, _, rfl, iteT ?_⟩⟩
  · exact kitAny_cons TE.k1 (fun _ => kitAny_cons TE.k2 (fun _ => kitAny_cons TE.k3 (fun _ => kitAny_cons TE.k4 (fun _ => kitAny_cons TE.k5 (fun _ => kitAny_cons TE.k6 (fun _ => kitAny_nil) nofun) nofun) nofun) nofun) nofun) nofun
  · exact ⟨_, rfl, rfl, rfl, .ty "ValueError", .type "ValueError", true, rfl, fun u r => r, TE.kV, k _ (Same.upd hp)⟩
theorem ok_ref {f fI fO : Addr} {fd fdI fdO : FuncData} (F : Fun K "_law_refused" "_law_refused" sRef f fd) (T : Txt K mg C BR) (TE : TxE K mg BR LE c1 c2 c3 c4 c5 c6) (M : Mk K C fI)
    (G : FnOk P w K mg base (L2.CX P w) 1 fI fdI ["self", "num", "den"] (spInit C BR)) (bI : Binds K fdI ["self", "num", "den"] [])
    (GO : FnOk P w K mg base (L2.CX P w) 3 fO fdO ["self", "other"] (spOver C BR)) (bO : Binds K fdO ["self", "other"] []) (mO : Meth K C "over" fO) :
    FnOk P w K mg base CX0 4 f fd ["one", "other"] spRef := by
  refine F.ok scRf (fun vs H Q E h => ?_) (fun cdv A outer s H vs Q E hr h => ?_)
  · obtain ⟨t, n, d, o, rfl, _⟩ := h
    rfl
  · obtain ⟨t, n, d, o, rfl, ht, bn, bd, ho, k⟩ := h
    have hr2 : Room 2 _ := hr.mono (by decide)
    have i0 : ∀ {x y : Int}, atI [V.int x, V.int y] 0 = some (V.int x) := fun {x y} => atI_nat (j := 0) rfl
    have i1 : ∀ {x y : Int}, atI [V.int x, V.int y] 1 = some (V.int y) := fun {x y} => atI_nat (j := 1) rfl
    refine ⟨_, pss_cons (ps_try_as (i := 2) (tb := tRefB K C BR) (ts := tRefS K BR c1 c2 c3 c4 c5 c6) (Wout := fun _ _ _ _ => False) rfl rfl scRf.nd rfl rfl ⟨rfl, by decide, Or.inl TE.gLE⟩ takes0
        (fun W pn xe tk _ => pss_one (ps_if (pt_cmpR op_isN (pv 1) pe_non (nomark _))
          (pss_one (ps_expr (by exact (pe_makeS M G hr2 rfl T.mgC bI (fun σ => passAt tk σ) (pa_cons (pe_ix ix_tup (pv 0) pe_int (fun _ _ => rfl)) (pa_cons (pe_ix ix_tup (pv 0) pe_int (fun _ _ => rfl)) pa_nil))))))
          (pss_one (ps_expr (by exact (pe_methS (pe_makeS M G hr2 rfl T.mgC bI (fun σ => passAt tk σ) (pa_cons (pe_ix ix_tup (pv 0) pe_int (fun _ _ => rfl)) (pa_cons (pe_ix ix_tup (pv 0) pe_int (fun _ _ => rfl)) pa_nil))) T.cl mO GO hr bO (fun σ => passAt tk σ)
            (pa_cons (pe_makeS M G hr2 rfl T.mgC bI (fun σ => passAt tk σ) (pa_cons (pe_ix ix_tup (pv 1) pe_int (fun _ _ => rfl)) (pa_cons (pe_ix ix_tup (pv 1) pe_int (fun _ _ => rfl)) pa_nil))) pa_nil)))))))
        (fun a oe cls d pn hz hf => pss_one (ps_ret (pe_and (pe_callB (call_isE1 TE.EC hz hf) (by rfl) T.isi (by decide +kernel) (pa_cons (pv 2) (pa_cons (pe_glob (v := .ref BR) rfl T.gP rfl) pa_nil)))
          (pe_and (pe_not (pe_callB (call_isET TE.EC hz hf) (by rfl) T.isi (by decide +kernel) (pa_cons (pv 2) (pa_cons (pe_tup (pa_cons (pe_glob (v := .ref c1) rfl TE.g1 rfl) (pa_cons (pe_glob (v := .ref c2) rfl TE.g2 rfl) (pa_cons (pe_glob (v := .ref c3) rfl TE.g3 rfl)
              (pa_cons (pe_glob (v := .ref c4) rfl TE.g4 rfl) (pa_cons (pe_glob (v := .ref c5) rfl TE.g5 rfl) (pa_cons (pe_glob (v := .ref c6) rfl TE.g6 rfl) pa_nil))))))) pa_nil))))
            (pe_one (pe_callB (call_isE1 TE.EC hz hf) (by rfl) T.isi (by decide +kernel) (pa_cons (pv 2) (pa_cons (pe_bltn (v := .ty "ValueError") (by rfl) TE.ve (by decide +kernel) rfl) pa_nil)))))))))
      (pss_one (ps_ret pe_bl)), ?_⟩
    rcases ho with ⟨rfl, hd⟩ | ⟨u, m, e, rfl, hu, hd, he, hm, be⟩
    · refine ⟨_, rfl, rfl, _, rfl, iteT ⟨_, rfl, t, _, _, _, rfl, rfl, SqT.of ht, i0, _, rfl, t, _, _, _, rfl, rfl, SqT.of ht, i1, fun x dx nx ndx nex => ?_⟩⟩
      refine ⟨x, dx, n, d, rfl, upd_same, bd.le (by decide), fun _ => ⟨true, TE.te, fun _ a ha => ?_, fun q => nomatch q⟩, fun q => by omega⟩
      exact suite_ok T TE fun H' s => k H' ((made nx ndx).trans s)
    · refine ⟨_, rfl, rfl, _, rfl, iteF ⟨_, rfl, t, _, _, _, rfl, rfl, SqT.of ht, i0, _, rfl, t, _, _, _, rfl, rfl, SqT.of ht, i1, fun x dx nx ndx nex => ?_⟩⟩
      refine ⟨x, dx, n, d, rfl, upd_same, bd.le (by decide), fun q => by omega, fun _ H1 hR kp => ⟨rfl, ?_⟩⟩
      have s1 : Same H H1 := Same.made nx ndx kp
      obtain ⟨dy, hx⟩ := id hR
      refine ⟨x, dy, _, rfl, hx, rf_no _ _ (by decide +kernel) (by decide +kernel), _, rfl, u, _, _, _, rfl, rfl, SqT.of (s1 _ _ hu), i0, _, rfl, u, _, _, _, rfl, rfl, SqT.of (s1 _ _ hu), i1, fun y dz ny ndz nez => ?_⟩
      refine ⟨y, dz, m, e, rfl, upd_same, be.le (by decide), fun q => by omega, fun _ H2 hR2 kp2 => ⟨rfl, ?_⟩⟩
      have s2 : Same H1 H2 := Same.made ny ndz kp2
      have bz : Bd 1000 m := by rw [hm]; exact Bd.of_small (by decide) (by decide)
      refine ⟨x, y, _, _, _, _, rfl, hR.same s2, hR2, bn.rn hd, Bd.rd hd bd, bz.rn he, Bd.rd he be, rd_pos hd, rd_pos he, fun _ => ⟨true, TE.te, fun _ a ha => ?_, fun q => nomatch q⟩, fun q => absurd ((rn_zero he).mpr hm) q⟩
      exact suite_ok T TE fun H' s => k H' ((s1.trans s2).trans s)
end
end K0

namespace K0
open PySem PySem.Spec PyProof.Rows L2
def spPair : Sp := fun vs H Q _ => ∃ (p : Addr), vs = [.ref p] ∧ PoolAt H p ∧ ∀ (t : Addr) (H' : Hp) (n d : Int), Kp p H H' → PoolAt H' p → H' t = some (.tup [.int n, .int d]) → Bd 300 n → Bd 300 d → 0 < d → Q (.ref t) H'
theorem at3 {a b c v : Int} (h0 : 0 ≤ v) (h3 : v < 3) : ∃ i, atI [V.int a, V.int b, V.int c] v = some (.int i) ∧ (i = a ∨ i = b ∨ i = c) := by
  obtain ⟨j, rfl⟩ : ∃ j : Nat, v = (j : Int) := ⟨v.toNat, by omega⟩
  match j, h3 with
  | 0, _ => exact ⟨a, atI_nat rfl, .inl rfl⟩
  | 1, _ => exact ⟨b, atI_nat rfl, .inr (.inl rfl)⟩
  | 2, _ => exact ⟨c, atI_nat rfl, .inr (.inr rfl)⟩
  | j + 3, h => exact absurd h (by omega)
theorem at2 {a b v : Int} (h0 : 0 ≤ v) (h3 : v < 2) : ∃ i, atI [V.int a, V.int b] v = some (.int i) ∧ (i = a ∨ i = b) := by
  obtain ⟨j, rfl⟩ : ∃ j : Nat, v = (j : Int) := ⟨v.toNat, by omega⟩
  match j, h3 with
  | 0, _ => exact ⟨a, atI_nat rfl, .inl rfl⟩
  | 1, _ => exact ⟨b, atI_nat rfl, .inr rfl⟩
  | j + 2, h => exact absurd h (by omega)
theorem PoolAt.ne {H : Hp} {p t : Addr} {xs : List V} (P : PoolAt H p) (h : H t = some (.tup xs)) : t ≠ p := by
  obtain ⟨q, ns, i, c, z, tt, b, P⟩ := P
  exact ne_of h P.hp (by intro z; cases z)
theorem PoolAt.ne0 {H : Hp} {p t : Addr} (P : PoolAt H p) (h : H t = none) : t ≠ p := by
  obtain ⟨q, ns, i, c, z, tt, b, P⟩ := P
  exact (ne_of_none P.hp h).symm
section
variable {P : Program} {w : World} {K : PySem.W.Frag} {mg : Str → Option Value} {base : Heap} {C BR : Addr}
theorem scPa : FnScope ["pool", "one", "two", "k", "num"] ["pool"] (defScope sPair) := ⟨rfl, rfl, rfl, by decide +kernel, rfl, by decide +kernel, by decide +kernel⟩
theorem ok_pair {f fD : Addr} {fd fdD : FuncData} (F : Fun K "_law_pair" "_law_pair" sPair f fd) (T : Txt K mg C BR) (G : FnOk P w K mg base CX0 1 fD fdD ["pool", "size"] spDraw) (gD : mg "_law_draw" = some (.ref fD)) (kD : PySem.W.keepIn K (.ref fD) = true) (bD : Binds K fdD ["pool", "size"] []) :
    FnOk P w K mg base CX0 2 f fd ["pool"] spPair := by
  refine F.ok scPa (fun vs H Q E h => ?_) (fun cdv A outer s H vs Q E hr h => ?_)
  · obtain ⟨p, rfl, _⟩ := h
    rfl
  · obtain ⟨p, rfl, PA, k⟩ := h
    refine ⟨_, pss_cons (ps_if (pt_cmpR op_eq (pe_call G hr (by rfl) gD kD bD .nil pass0 (pa_cons (pv 0) (pa_cons pe_int pa_nil))) pe_int (nomark _))
        (pss_cons (ps_set (i := 1) scPa.nd rfl (Or.inl rfl) pe_int)
        (pss_cons (ps_set (i := 2) scPa.nd rfl (Or.inl rfl) pe_int)
        (pss_cons (ps_for PassesOwn.never rfl (pi_range1 rfl T.range (pa_cons (pe_call G hr (by rfl) gD kD bD .nil pass0 (pa_cons (pv 0) (pa_cons pe_int pa_nil))) pa_nil)) (pg_name (i := 3) scPa.nd rfl (Or.inl rfl))
          (pss_one (ps_par (i := 1) (j := 2) (by rfl) scPa.nd rfl rfl (by decide) rfl rfl (pa_cons (pv 2) (pa_cons (pe_op op_add (pv 1) (pv 2)) pa_nil)) (by rfl))))
        (pss_one (ps_ret (pe_tup (pa_cons (pe_ix ix_tup (pe_tup (pa_cons (pv 1) (pa_cons (pe_op op_sub pe_int (pv 1)) (pa_cons (pe_op op_mulW (pv 2) pe_int) pa_nil)))) (pe_call G hr (by rfl) gD kD bD .nil pass0 (pa_cons (pv 0) (pa_cons pe_int pa_nil))) (fun _ _ => rfl))
          (pa_cons (pv 2) pa_nil)))))))) pss_nil)
      (pss_cons (ps_set (i := 4) scPa.nd rfl (Or.inl rfl) (pe_op op_sub (pe_call G hr (by rfl) gD kD bD .nil pass0 (pa_cons (pv 0) (pa_cons pe_int pa_nil))) pe_int))
      (pss_one (ps_ret (pe_tup (pa_cons (pe_ix ix_tup (pe_tup (pa_cons (pv 4) (pa_cons (pe_op op_sub (pe_call G hr (by rfl) gD kD bD .nil pass0 (pa_cons (pv 0) (pa_cons pe_int pa_nil))) pe_int) (pa_cons pe_int pa_nil)))) (pe_call G hr (by rfl) gD kD bD .nil pass0 (pa_cons (pv 0) (pa_cons pe_int pa_nil))) (fun _ _ => rfl))
        (pa_cons (pe_op op_add pe_int (pe_ix ix_tup (pe_tup (pa_cons (pe_call G hr (by rfl) gD kD bD .nil pass0 (pa_cons (pv 0) (pa_cons pe_int pa_nil))) (pa_cons (pe_call G hr (by rfl) gD kD bD .nil pass0 (pa_cons (pv 0) (pa_cons pe_int pa_nil))) pa_nil)))
          (pe_call G hr (by rfl) gD kD bD .nil pass0 (pa_cons (pv 0) (pa_cons pe_int pa_nil))) (fun _ _ => rfl))) pa_nil)))))), ?_⟩
    refine ⟨_, rfl, p, 12, rfl, PA, by decide, by decide, fun v H1 _ _ P1 k1 => ⟨rfl, _, rfl, ite2 (fun _ => ?_) (fun _ => ?_)⟩⟩
    · -- Fibonacci's row
      refine ⟨_, rfl, p, 284, rfl, P1, by decide, by decide, fun v H2 v0 v1 P2 k2 => ⟨v, rfl, by omega, by omega, for_range (lo := 0) (n := v.toNat) (fun i σ H' => (∃ (x y : Int) (v3 : Option V), σ = [some (.ref p), some (.int x), some (.int y), v3, none] ∧ 0 < x ∧ 0 < y ∧ Bd (i + 1) x ∧ Bd (i + 1) y) ∧ H' = H2) ?_ ?_ ?_⟩⟩
      · exact ⟨⟨1, 1, none, rfl, by decide, by decide, (by show (1 : Int).natAbs < 2 ^ (0 + 1); decide), (by show (1 : Int).natAbs < 2 ^ (0 + 1); decide)⟩, rfl⟩
      · rintro i σ H' hi ⟨⟨x, y, v3, rfl, x0, y0, bx, by'⟩, rfl⟩
        refine ⟨_, rfl, _, rfl, _, rfl, _, _, rfl, rfl, _, _, rfl, ⟨y, x + y, some (V.int (0 + (i : Int))), rfl, y0, by omega, by'.le (by omega), bx.add by'⟩, rfl⟩
      · rintro σ H' ⟨⟨x, y, v3, rfl, x0, y0, bx, by'⟩, rfl⟩
        have hN : v.toNat + 1 ≤ 290 := by omega
        have bx' : Bd 290 x := bx.le hN
        have by'' : Bd 290 y := by'.le hN
        have b7 : Bd 300 (y * 7) := (by''.mul (show Bd 3 7 by show (7 : Int).natAbs < 2 ^ 3; decide)).le (by decide)
        refine ⟨_, rfl, _, rfl, _, _, rfl, rfl, _, rfl, _, _, rfl, rfl, wide_mul by'' (show Bd 3 7 by show (7 : Int).natAbs < 2 ^ 3; decide) (by decide) (by decide) (by decide), (by show 3 ≤ sizeLine; decide), fun tp htp => ?_⟩
        have s1 := Same.upd (o := .tup [.int x, .int (0 - x), .int (y * 7)]) htp
        refine ⟨_, rfl, p, 3, rfl, P2.same s1, by decide, by decide, fun v' H3 u0 u1 P3 k3 => ?_⟩
        have e3 : H3 tp = some (.tup [.int x, .int (0 - x), .int (y * 7)]) := k3 _ _ upd_same (P2.ne0 htp)
        obtain ⟨i, hi, ci⟩ := at3 (a := x) (b := 0 - x) (c := y * 7) u0 u1
        refine ⟨tp, _, _, _, rfl, rfl, SqT.of e3, hi, _, rfl, (by show 2 ≤ sizeLine; decide), fun r hr' => ?_⟩
        have s2 := Same.upd (o := .tup [.int i, .int y]) hr'
        refine k r _ i y (((k1.trans k2).trans ((Kp.same s1).trans k3)).trans (Kp.same s2)) (P3.same s2) upd_same ?_ (by''.le (by decide)) y0
        rcases ci with rfl | rfl | rfl
        · exact bx'.le (by decide)
        · exact (bx'.of_abs (by omega)).le (by decide)
        · exact b7
    · refine ⟨_, rfl, p, 2000001, rfl, P1, by decide, by decide, fun v H2 v0 v1 P2 k2 => ⟨_, _, rfl, rfl, ?_⟩⟩
      refine ⟨_, rfl, _, rfl, p, 9, rfl, P2, by decide, by decide, fun v' H3 u0 u1 P3 k3 => ⟨_, _, rfl, rfl, (by show 3 ≤ sizeLine; decide), fun tp htp => ?_⟩⟩
      have s1 := Same.upd (o := .tup [.int (v - 1000000), .int (v' - 4), .int 0]) htp
      refine ⟨_, rfl, p, 3, rfl, P3.same s1, by decide, by decide, fun v2 H4 w0 w1 P4 k4 => ?_⟩
      have e3 : H4 tp = some (.tup [.int (v - 1000000), .int (v' - 4), .int 0]) := k4 _ _ upd_same (P3.ne0 htp)
      obtain ⟨i, hi, ci⟩ := at3 (a := v - 1000000) (b := v' - 4) (c := 0) w0 w1
      refine ⟨tp, _, _, _, rfl, rfl, SqT.of e3, hi, ?_⟩
      refine ⟨_, rfl, p, 1000, rfl, P4, by decide, by decide, fun x5 H5 a0 a1 P5 k5 => ⟨_, rfl, p, 6, rfl, P5, by decide, by decide, fun x6 H6 b0 b1 P6 k6 => ⟨(by show 2 ≤ sizeLine; decide), fun tq htq => ?_⟩⟩⟩
      have s2 := Same.upd (o := .tup [.int x5, .int x6]) htq
      refine ⟨_, rfl, p, 2, rfl, P6.same s2, by decide, by decide, fun x7 H7 d0 d1 P7 k7 => ?_⟩
      have e7 : H7 tq = some (.tup [.int x5, .int x6]) := k7 _ _ upd_same (P6.ne0 htq)
      obtain ⟨j, hj, cj⟩ := at2 (a := x5) (b := x6) d0 d1
      refine ⟨tq, _, _, _, rfl, rfl, SqT.of e7, hj, _, _, rfl, rfl, (by show 2 ≤ sizeLine; decide), fun r hr' => ?_⟩
      have s3 := Same.upd (o := .tup [.int i, .int (1 + j)]) hr'
      have hj1 : 0 ≤ j ∧ j < 1000 := by rcases cj with rfl | rfl <;> omega
      refine k r _ i (1 + j) (((((k1.trans k2).trans k3).trans ((Kp.same s1).trans k4)).trans ((k5.trans k6).trans ((Kp.same s2).trans k7))).trans (Kp.same s3)) (P7.same s3) upd_same (Bd.of_small ?_ (by decide)) (Bd.of_small (by omega) (by decide)) (by omega)
      rcases ci with rfl | rfl | rfl <;> omega
end
end K0

namespace K0
open PySem PySem.Spec PyProof.Rows L2
def forBody : Stmt → List Stmt
  | .For _ _ b _ _ => b
  | _ => []
abbrev sTurn : List Stmt := forBody ((defBody sLaw).getD 1 (.Pass ⟨0, 0, 0, 0⟩))
abbrev sTurn2 : List Stmt := forBody ((defBody sLaw).getD 2 (.Pass ⟨0, 0, 0, 0⟩))
abbrev NL : List Str := ["script", "pool", "turn", "one", "other", "a", "b", "due", "text", "sign", "num", "den"]
theorem scL : FnScope NL ["script"] (defScope sLaw) := ⟨rfl, rfl, rfl, by decide +kernel, rfl, by decide +kernel, by decide +kernel⟩
/-- a def that stands in the module, and what it promises -/
def Callee (P : Program) (w : World) (K : PySem.W.Frag) (mg : Str → Option Value) (base : Heap) (k : Nat) (x : Str) (ps : List Str) (sp : Sp) : Prop :=
  ∃ f fd, FnOk P w K mg base CX0 k f fd ps sp ∧ mg x = some (.ref f) ∧ PySem.W.keepIn K (.ref f) = true ∧ Binds K fd ps []
def Dunder (P : Program) (w : World) (K : PySem.W.Frag) (mg : Str → Option Value) (base : Heap) (C : Addr) (k : Nat) (x : Str) (ps : List Str) (sp : Sp) : Prop :=
  ∃ f fd, FnOk P w K mg base CX0 k f fd ps sp ∧ PySem.W.findIn K (.ref C) x = some (some (.ref f)) ∧ PySem.W.isFn K (.ref f) = true ∧ PySem.W.keepIn K (.ref f) = true ∧ Binds K fd ps []
structure Fns (P : Program) (w : World) (K : PySem.W.Frag) (mg : Str → Option Value) (base : Heap) (C BR : Addr) : Prop where
  pool : Callee P w K mg base 1 "_law_pool" ["script", "budget"] (spPool K)
  draw : Callee P w K mg base 1 "_law_draw" ["pool", "size"] spDraw
  same : Callee P w K mg base 1 "_law_same" ["actual", "due"] spSame0
  red : Callee P w K mg base 1 "_law_less" ["num", "den"] spRed
  plus : Callee P w K mg base 2 "_law_plus" ["one", "other"] (spRed2 nAdd nDen)
  minus : Callee P w K mg base 2 "_law_minus" ["one", "other"] (spRed2 nSub nDen)
  times : Callee P w K mg base 2 "_law_times" ["one", "other"] (spRed2 nMul nDen)
  below : Callee P w K mg base 1 "_law_below" ["one", "other"] spBelow
  is : Callee P w K mg base 3 "_law_is" ["ratio", "due"] (spIs C)
  ref : Callee P w K mg base 4 "_law_refused" ["one", "other"] spRef
  pair : Callee P w K mg base 2 "_law_pair" ["pool"] spPair
  add : Dunder P w K mg base C 3 "__add__" ["self", "other"] (spBin C nAdd nDen)
  sub : Dunder P w K mg base C 3 "__sub__" ["self", "other"] (spBin C nSub nDen)
  mul : Dunder P w K mg base C 3 "__mul__" ["self", "other"] (spBin C nMul nDen)
  eq : Dunder P w K mg base C 1 "__eq__" ["self", "other"] (spEq C)
  str : Dunder P w K mg base C 1 "__str__" ["self"] (spStr C)
  less : Dunder P w K mg base C 1 "less" ["self", "other"] (spLess C)
  over : ∃ f fd, FnOk P w K mg base (L2.CX P w) 3 f fd ["self", "other"] (spOver C BR) ∧ Meth K C "over" f ∧ Binds K fd ["self", "other"] []
  sf : PySem.W.selfFirst K C = true
  make : ∃ f fd ds, Mk K C f ∧ FnOk P w K mg base (L2.CX P w) 1 f fd ["self", "num", "den"] (spInit C BR) ∧ Binds K fd ["self", "num", "den"] [] ∧
    (Vals [V.int 1] ds ∧ Binds K fd ["self", "num", "den"] ds) ∧
    KBn K fd ["self", "num", "den"] 2 ["den"] (fun us ws => us ++ ws) (fun vs zs => vs ++ zs) ∧
    KBn K fd ["self", "num", "den"] 1 ["den", "num"] (fun us ws => us ++ ws.reverse) (fun vs zs => vs ++ zs.reverse)
/-- the state at a turn's statements -/
structure Tn (H : Hp) (p t1 t2 : Addr) (n d m e : Int) : Prop where
  P : PoolAt H p
  h1 : H t1 = some (.tup [.int n, .int d])
  h2 : H t2 = some (.tup [.int m, .int e])
  bn : Bd 300 n
  bd : Bd 300 d
  bm : Bd 300 m
  be : Bd 300 e
  hd : 0 < d
  he : 0 < e
theorem Tn.same {H H' : Hp} {p t1 t2 : Addr} {n d m e : Int} (T : Tn H p t1 t2 n d m e) (s : Same H H') : Tn H' p t1 t2 n d m e := ⟨T.P.same s, s _ _ T.h1, s _ _ T.h2, T.bn, T.bd, T.bm, T.be, T.hd, T.he⟩
theorem i0 {x y : Int} : atI [V.int x, V.int y] 0 = some (V.int x) := atI_nat (j := 0) rfl
theorem i1 {x y : Int} : atI [V.int x, V.int y] 1 = some (V.int y) := atI_nat (j := 1) rfl
/-- a turn's end -/
def LoopP (a p : Addr) (σ : L2.St) (H : Hp) : Prop := PoolAt H p ∧ ∃ v2 v3 v4 v5 v6 v7 v8 v9 v10 v11 : Option V, σ = [some (.ref a), some (.ref p), v2, v3, v4, v5, v6, v7, v8, v9, v10, v11]
abbrev XL (P : Program) (w : World) (K : PySem.W.Frag) (mg : Str → Option Value) (base : Heap) (f : Addr) (cdv : Value) (A : Around) (outer : List Env) (s : Shared) (H : Hp) (E : XK) : Cx := (cxOf CX0 P w K mg base NL "law" (defScope sLaw) f cdv A outer s H E).nox
section
variable {P : Program} {w : World} {K : PySem.W.Frag} {mg : Str → Option Value} {base : Heap} {C BR : Addr} {f : Addr} {cdv : Value} {A : Around} {outer : List Env} {s : Shared} {H : Hp} {E : XK}
/-- the last test of a turn -/
theorem tail14 (T : Txt K mg C BR) (Fn : Fns P w K mg base C BR) (hr : Room 4 (XL P w K mg base f cdv A outer s H E).A) : ∃ t, PSs (XL P w K mg base f cdv A outer s H E) (sTurn.drop 14) t ∧
    ∀ (D : Ends) (sc p t1 t2 xa xb du : Addr) (n d m e : Int) (v2 v8 v9 v10 v11 : Option V) (H' : Hp), Tn H' p t1 t2 n d m e → RatAt C H' xa (rn n d) (rd n d) → RatAt C H' xb (rn m e) (rd m e) → H' du = some (.tup [.int (rn n d), .int (rd n d)]) →
      (∀ σ' H'', LoopP sc p σ' H'' → D.nx σ' H'') → t D [some (.ref sc), some (.ref p), v2, some (.ref t1), some (.ref t2), some (.ref xa), some (.ref xb), some (.ref du), v8, v9, v10, v11] H' := by
  obtain ⟨fI, fdI, GI, gI, kI, bI⟩ := Fn.is
  obtain ⟨fR, fdR, GR, gR, kR, bR⟩ := Fn.red
  obtain ⟨fS, fdS, GS, gS, kS, bS⟩ := Fn.same
  obtain ⟨fB, fdB, GB, gB, kB, bB⟩ := Fn.below
  obtain ⟨fL, fdL, GL, aL, nL, kL, bL⟩ := Fn.less
  have hr3 : Room 3 _ := hr.mono (by decide)
  have hr1 : Room 1 _ := hr.mono (by decide)
  refine ⟨_, pss_one (ps_if (PW.pt (pw_or (pt_not (pt_val (pe_call GI hr3 (by rfl) gI kI bI .nil pass0 (pa_cons (pv 5) (pa_cons (pv 7) pa_nil)))))
      (pw_or (pt_not (pt_val (pe_call GI hr3 (by rfl) gI kI bI .nil pass0 (pa_cons (pv 6) (pa_cons (pe_call GR hr1 (by rfl) gR kR bR .nil pass0 (pa_cons (pe_ix ix_tup (pv 4) pe_int (fun _ _ => rfl)) (pa_cons (pe_ix ix_tup (pv 4) pe_int (fun _ _ => rfl)) pa_nil))) pa_nil)))))
      (pw_or1 (pt_not (pt_val (pe_call GS hr1 (by rfl) gS kS bS .nil pass0 (pa_cons (pe_meth (pv 5) T.cl ⟨aL, nL, kL⟩ GL hr1 bL .nil pass0 (pa_cons (pv 6) pa_nil)) (pa_cons (pe_call GB hr1 (by rfl) gB kB bB .nil pass0 (pa_cons (pv 3) (pa_cons (pv 4) pa_nil))) pa_nil)))))))))
    (pss_one (ps_ret pe_bl)) pss_nil), ?_⟩
  intro D sc p t1 t2 xa xb du n d m e v2 v8 v9 v10 v11 H' Z ra rb hdu k
  refine ⟨_, rfl, _, rfl, xa, du, _, _, rfl, ra, hdu, fun H1 s1 => ⟨_, rfl, iteF ?_⟩⟩
  have Z1 := Z.same s1
  refine ⟨_, rfl, _, rfl, t2, _, _, _, rfl, rfl, SqT.of Z1.h2, i0, _, rfl, t2, _, _, _, rfl, rfl, SqT.of Z1.h2, i1, m, e, rfl, Z.he, Z.be.le (by decide), fun t H2 s2 nt ht => ?_⟩
  refine ⟨xb, t, _, _, rfl, (rb.same s1).same s2, ht, fun H3 s3 => ⟨_, rfl, iteF ?_⟩⟩
  have s13 := (s1.trans s2).trans s3
  have Z3 := Z.same s13
  have ra3 := ra.same s13
  have rb3 := rb.same s13
  obtain ⟨da, ha⟩ := id ra3
  refine ⟨_, rfl, xa, da, _, rfl, ha, rf_no _ _ (by decide +kernel) (by decide +kernel), _, rfl, xa, xb, _, _, _, _, rfl, ra3, rb3, (Z.bn.rn Z.hd).le (by decide), (Bd.rd Z.hd Z.bd).le (by decide), (Z.bm.rn Z.he).le (by decide), (Bd.rd Z.he Z.be).le (by decide), ?_⟩
  refine ⟨_, rfl, _, rfl, t1, t2, n, d, m, e, rfl, Z3.h1, Z3.h2, Z.bn.le (by decide), Z.bd.le (by decide), Z.bm.le (by decide), Z.be.le (by decide), ?_⟩
  have q : decide (rn n d * rd m e < rn m e * rd n d) = decide (n * e < m * d) := decide_eq_decide.mpr (less_ok Z.hd Z.he)
  refine ⟨.bl (decide (n * e < m * d)), by rw [q]; rfl, .bl _, _, rfl, iteF ?_⟩
  exact k _ _ ⟨Z3.P, _, _, _, _, _, _, _, _, _, _, rfl⟩
theorem eqv2 {a b c d : Int} : PyData.eqv (.tuple [.int a, .int b]) (.tuple [.int c, .int d]) = (decide (a = c) && decide (b = d)) := by
  show (a == c && (b == d && true)) = _
  rw [Bool.and_true]
  rfl
/-- the tests between the text and the last one -/
theorem tail9 (T : Txt K mg C BR) (Fn : Fns P w K mg base C BR) (hr : Room 4 (XL P w K mg base f cdv A outer s H E).A) : ∃ t, PSs (XL P w K mg base f cdv A outer s H E) (sTurn.drop 9) t ∧
    ∀ (D : Ends) (sc p t1 t2 xa xb du : Addr) (n d m e : Int) (v2 v9 v10 v11 : Option V) (H' : Hp), Tn H' p t1 t2 n d m e → RatAt C H' xa (rn n d) (rd n d) → RatAt C H' xb (rn m e) (rd m e) → H' du = some (.tup [.int (rn n d), .int (rd n d)]) →
      (∀ σ' H'', LoopP sc p σ' H'' → D.nx σ' H'') → t D [some (.ref sc), some (.ref p), v2, some (.ref t1), some (.ref t2), some (.ref xa), some (.ref xb), some (.ref du), some (.str (ft (rn n d) (rd n d))), v9, v10, v11] H' := by
  obtain ⟨tt, ht14, q14⟩ := tail14 (f := f) (cdv := cdv) (A := A) (outer := outer) (s := s) (H := H) (E := E) T Fn hr
  obtain ⟨fI, fdI, GI, gI, kI, bI⟩ := Fn.is
  obtain ⟨fR, fdR, GR, gR, kR, bR⟩ := Fn.red
  obtain ⟨fS, fdS, GS, gS, kS, bS⟩ := Fn.same
  obtain ⟨fB, fdB, GB, gB, kB, bB⟩ := Fn.below
  obtain ⟨fL, fdL, GL, aL, nL, kL, bL⟩ := Fn.less
  obtain ⟨fP, fdP, GP, gP, kP, bP⟩ := Fn.plus
  obtain ⟨fM, fdM, GM, gM, kM, bM⟩ := Fn.minus
  obtain ⟨fT, fdT, GT, gT, kT, bT⟩ := Fn.times
  obtain ⟨fF, fdF, GF, gF, kF, bF⟩ := Fn.ref
  obtain ⟨fA, fdA, GA, aA, nA, kA, bA⟩ := Fn.add
  obtain ⟨fU, fdU, GU, aU, nU, kU, bU⟩ := Fn.sub
  obtain ⟨fX, fdX, GX, aX, nX, kX, bX⟩ := Fn.mul
  obtain ⟨fQ, fdQ, GQ, aQ, nQ, kQ, bQ⟩ := Fn.eq
  obtain ⟨fW, fdW, GW, aW, nW, kW, bW⟩ := Fn.str
  obtain ⟨fO, fdO, GO, mO, bO⟩ := Fn.over
  have hr3 : Room 3 _ := hr.mono (by decide)
  have hr2 : Room 2 _ := hr.mono (by decide)
  have hr1 : Room 1 _ := hr.mono (by decide)
  refine ⟨_, pss_cons (ps_if (PW.pt (pw_or (pt_not (pt_val (pe_call GI hr3 (by rfl) gI kI bI .nil pass0 (pa_cons (pv 5) (pa_cons (pv 7) pa_nil)))))
      (pw_or (pt_not (pt_val (pe_call GS hr1 (by rfl) gS kS bS .nil pass0 (pa_cons (pe_callTy (call_strOwn GW hr3 aW nW bW pass0) (by rfl) T.str (by decide +kernel) (pa_cons (pv 5) pa_nil)) (pa_cons (pv 8) pa_nil)))))
      (pw_or1 (pt_not (pt_val (pe_call GI hr3 (by rfl) gI kI bI .nil pass0 (pa_cons (pe_op (op_ownB GA hr3 Fn.sf aA nA bA pass0) (pv 5) (pv 6)) (pa_cons (pe_call GP hr2 (by rfl) gP kP bP .nil pass0 (pa_cons (pv 3) (pa_cons (pv 4) pa_nil))) pa_nil)))))))))
      (pss_one (ps_ret pe_bl)) pss_nil)
    (pss_cons (ps_if (PW.pt (pw_or (pt_not (pt_val (pe_call GI hr3 (by rfl) gI kI bI .nil pass0 (pa_cons (pe_op (op_ownB GU hr3 Fn.sf aU nU bU pass0) (pv 5) (pv 6)) (pa_cons (pe_call GM hr2 (by rfl) gM kM bM .nil pass0 (pa_cons (pv 3) (pa_cons (pv 4) pa_nil))) pa_nil)))))
      (pw_or1 (pt_not (pt_val (pe_call GI hr3 (by rfl) gI kI bI .nil pass0 (pa_cons (pe_op (op_ownB GX hr3 Fn.sf aX nX bX pass0) (pv 5) (pv 6)) (pa_cons (pe_call GT hr2 (by rfl) gT kT bT .nil pass0 (pa_cons (pv 3) (pa_cons (pv 4) pa_nil))) pa_nil))))))))
      (pss_one (ps_ret pe_bl)) pss_nil)
    (pss_cons (ps_if (PW.pt (pw_or (pt_not (pt_val (pe_call GS hr1 (by rfl) gS kS bS .nil pass0 (pa_cons (pe_meth (pv 5) T.cl ⟨aL, nL, kL⟩ GL hr1 bL .nil pass0 (pa_cons (pv 6) pa_nil)) (pa_cons (pe_call GB hr1 (by rfl) gB kB bB .nil pass0 (pa_cons (pv 3) (pa_cons (pv 4) pa_nil))) pa_nil)))))
      (pw_or1 (pt_not (pt_val (pe_call GS hr1 (by rfl) gS kS bS .nil pass0 (pa_cons (pe_cmpR (op_ownE GQ hr1 aQ nQ bQ pass0) (pv 5) (pv 6) (nomark _))
        (pa_cons (pe_cmpR (op_eqD hr.units) (pe_call GR hr1 (by rfl) gR kR bR .nil pass0 (pa_cons (pe_ix ix_tup (pv 4) pe_int (fun _ _ => rfl)) (pa_cons (pe_ix ix_tup (pv 4) pe_int (fun _ _ => rfl)) pa_nil))) (pv 7) (nomark _)) pa_nil))))))))
      (pss_one (ps_ret pe_bl)) pss_nil)
    (pss_cons (ps_set (i := 9) scL.nd rfl (Or.inl rfl) (pe_op op_sub pe_int (pe_op op_mul pe_int (pe_callTy call_int1 (by rfl) T.int (by decide +kernel) (pa_cons (pe_cmpR op_lt (pe_ix ix_tup (pv 4) pe_int (fun _ _ => rfl)) pe_int (nomark _)) pa_nil)))))
    (pss_cons (ps_if (pt_cmpR op_eq (pe_ix ix_tup (pv 4) pe_int (fun _ _ => rfl)) pe_int (nomark _))
      (pss_one (ps_if (pt_not (pt_val (pe_call GF hr (by rfl) gF kF bF .nil pass0 (pa_cons (pv 3) (pa_cons (pv 4) pa_nil))))) (pss_one (ps_ret pe_bl)) pss_nil))
      (pss_one (ps_if (pt_not (pt_val (pe_call GI hr3 (by rfl) gI kI bI .nil pass0 (pa_cons (pe_meth (pv 5) T.cl mO GO hr3 bO .nil passL (pa_cons (pv 6) pa_nil))
        (pa_cons (pe_call GR hr1 (by rfl) gR kR bR .nil pass0 (pa_cons (pe_op op_mulW (pe_op op_mulW (pe_ix ix_tup (pv 3) pe_int (fun _ _ => rfl)) (pe_ix ix_tup (pv 4) pe_int (fun _ _ => rfl))) (pv 9))
          (pa_cons (pe_op op_mulW (pe_op op_mulW (pe_ix ix_tup (pv 3) pe_int (fun _ _ => rfl)) (pe_ix ix_tup (pv 4) pe_int (fun _ _ => rfl))) (pv 9)) pa_nil))) pa_nil))))) (pss_one (ps_ret pe_bl)) pss_nil)))
    ht14)))), ?_⟩
  intro D sc p t1 t2 xa xb du n d m e v2 v9 v10 v11 H' Z ra rb hdu k
  have bn := Z.bn.rn Z.hd
  have bd := Bd.rd (n := n) Z.hd Z.bd
  have bm := Z.bm.rn Z.he
  have be := Bd.rd (n := m) Z.he Z.be
  -- not _law_is(a, due) or ..
  refine ⟨_, rfl, _, rfl, xa, du, _, _, rfl, ra, hdu, fun H1 s1 => ⟨_, rfl, iteF ?_⟩⟩
  obtain ⟨dx1, hx1⟩ := id (ra.same s1)
  refine ⟨_, rfl, xa, dx1, _, rfl, hx1, xa, _, _, rfl, ra.same s1, bn.le (by decide), bd.le (by decide), _, rfl, _, rfl, _, rfl, .str _, _, rfl, iteF ?_⟩
  have Z1 := Z.same s1
  obtain ⟨dy1, hy1⟩ := id (rb.same s1)
  refine ⟨_, rfl, _, rfl, xa, dx1, _, xb, dy1, _, rfl, rfl, hx1, hy1, xa, xb, _, _, _, _, rfl, ra.same s1, rb.same s1, bn.le (by decide), bd.le (by decide), bm.le (by decide), be.le (by decide), rd_pos Z.hd, rd_pos Z.he, fun x H2 s2 hR => ?_⟩
  have Z2 := Z1.same s2
  refine ⟨_, rfl, _, rfl, t1, t2, n, d, m, e, rfl, Z2.h1, Z2.h2, Z.bn.le (by decide), Z.bd.le (by decide), Z.bm.le (by decide), Z.be.le (by decide), Z.hd, Z.he, fun t H3 s3 nt ht => ?_⟩
  have qa := add_ok (n := n) (m := m) Z.hd Z.he
  have hR' : RatAt C H2 x (rn (n * e + m * d) (d * e)) (rd (n * e + m * d) (d * e)) := by
    rw [← qa.1, ← qa.2]
    exact hR
  refine ⟨x, t, _, _, rfl, hR'.same s3, ht, fun H4 s4 => ⟨_, rfl, iteF ?_⟩⟩
  -- the second test
  have s14 := ((s1.trans s2).trans s3).trans s4
  have Z4 := Z.same s14
  obtain ⟨dx4, hx4⟩ := id (ra.same s14)
  obtain ⟨dy4, hy4⟩ := id (rb.same s14)
  refine ⟨_, rfl, _, rfl, xa, dx4, _, xb, dy4, _, rfl, rfl, hx4, hy4, xa, xb, _, _, _, _, rfl, ra.same s14, rb.same s14, bn.le (by decide), bd.le (by decide), bm.le (by decide), be.le (by decide), rd_pos Z.hd, rd_pos Z.he, fun x5 H5 s5 hR5 => ?_⟩
  have Z5 := Z4.same s5
  refine ⟨_, rfl, _, rfl, t1, t2, n, d, m, e, rfl, Z5.h1, Z5.h2, Z.bn.le (by decide), Z.bd.le (by decide), Z.bm.le (by decide), Z.be.le (by decide), Z.hd, Z.he, fun t6 H6 s6 nt6 ht6 => ?_⟩
  have qs := sub_ok (n := n) (m := m) Z.hd Z.he
  have hR5' : RatAt C H5 x5 (rn (n * e - m * d) (d * e)) (rd (n * e - m * d) (d * e)) := by
    rw [← qs.1, ← qs.2]
    exact hR5
  refine ⟨x5, t6, _, _, rfl, hR5'.same s6, ht6, fun H7 s7 => ⟨_, rfl, iteF ?_⟩⟩
  have s17 := ((s14.trans s5).trans s6).trans s7
  have Z7 := Z.same s17
  obtain ⟨dx7, hx7⟩ := id (ra.same s17)
  obtain ⟨dy7, hy7⟩ := id (rb.same s17)
  refine ⟨_, rfl, _, rfl, xa, dx7, _, xb, dy7, _, rfl, rfl, hx7, hy7, xa, xb, _, _, _, _, rfl, ra.same s17, rb.same s17, bn.le (by decide), bd.le (by decide), bm.le (by decide), be.le (by decide), rd_pos Z.hd, rd_pos Z.he, fun x8 H8 s8 hR8 => ?_⟩
  have Z8 := Z7.same s8
  refine ⟨_, rfl, _, rfl, t1, t2, n, d, m, e, rfl, Z8.h1, Z8.h2, Z.bn.le (by decide), Z.bd.le (by decide), Z.bm.le (by decide), Z.be.le (by decide), Z.hd, Z.he, fun t9 H9 s9 nt9 ht9 => ?_⟩
  have qm := mul_ok (n := n) (m := m) Z.hd Z.he
  have hR8' : RatAt C H8 x8 (rn (n * m) (d * e)) (rd (n * m) (d * e)) := by
    rw [← qm.1, ← qm.2]
    exact hR8
  refine ⟨x8, t9, _, _, rfl, hR8'.same s9, ht9, fun H10 s10 => ⟨_, rfl, iteF ?_⟩⟩
  -- the third test
  have s110 := ((s17.trans s8).trans s9).trans s10
  have Z10 := Z.same s110
  obtain ⟨dx10, hx10⟩ := id (ra.same s110)
  obtain ⟨dy10, hy10⟩ := id (rb.same s110)
  refine ⟨_, rfl, xa, dx10, _, rfl, hx10, rf_no _ _ (by decide +kernel) (by decide +kernel), _, rfl, xa, xb, _, _, _, _, rfl, ra.same s110, rb.same s110, bn.le (by decide), bd.le (by decide), bm.le (by decide), be.le (by decide), ?_⟩
  refine ⟨_, rfl, _, rfl, t1, t2, n, d, m, e, rfl, Z10.h1, Z10.h2, Z.bn.le (by decide), Z.bd.le (by decide), Z.bm.le (by decide), Z.be.le (by decide), ?_⟩
  have ql : decide (rn n d * rd m e < rn m e * rd n d) = decide (n * e < m * d) := decide_eq_decide.mpr (less_ok Z.hd Z.he)
  refine ⟨.bl (decide (n * e < m * d)), by rw [ql]; rfl, .bl _, _, rfl, iteF ?_⟩
  refine ⟨_, rfl, _, rfl, xa, dx10, _, xb, dy10, _, rfl, rfl, hx10, hy10, xa, xb, _, _, _, _, rfl, ra.same s110, rb.same s110, ?_⟩
  refine ⟨_, rfl, t2, _, _, _, rfl, rfl, SqT.of Z10.h2, i0, _, rfl, t2, _, _, _, rfl, rfl, SqT.of Z10.h2, i1, m, e, rfl, Z.he, Z.be.le (by decide), fun t11 H11 s11 nt11 ht11 => ?_⟩
  have s111 := s110.trans s11
  refine ⟨_, rfl, .tuple [.int (rn m e), .int (rd m e)], .tuple [.int (rn n d), .int (rd n d)], .tup (SqT.of ht11) (.cons (.int _) (.cons (.int _) .nil)), .tup (SqT.of (s111 _ _ hdu)) (.cons (.int _) (.cons (.int _) .nil)), rfl, rfl, ?_⟩
  have qe : (decide (rn n d = rn m e) && decide (rd n d = rd m e)) = PyData.eqv (.tuple [.int (rn m e), .int (rd m e)]) (.tuple [.int (rn n d), .int (rd n d)]) := by
    rw [eqv2, decide_eq_decide.mpr (eq_comm (a := rn n d)), decide_eq_decide.mpr (eq_comm (a := rd n d))]
  refine ⟨.bl (PyData.eqv (.tuple [.int (rn m e), .int (rd m e)]) (.tuple [.int (rn n d), .int (rd n d)])), by rw [← qe]; rfl, .bl _, _, rfl, iteF ?_⟩
  -- sign
  have Z11 := Z.same s111
  refine ⟨_, rfl, t2, _, _, _, rfl, rfl, SqT.of Z11.h2, i0, _, _, rfl, rfl, .inr ⟨_, rfl, 2, _, rfl, rfl, .inl ⟨by decide, by decide⟩, 1, _, rfl, rfl, ?_⟩⟩
  -- other[0] == 0
  refine ⟨_, rfl, t2, _, _, _, rfl, rfl, SqT.of Z11.h2, i0, rfl, _, rfl, ite2 (fun z => ?_) (fun z => ?_)⟩
  · have em : m = 0 := V.int.inj (of_decide_eq_true z)
    refine ⟨_, rfl, _, rfl, t1, n, d, _, rfl, Z11.h1, Z.bn.le (by decide), Z.bd.le (by decide), .inr ⟨t2, m, e, rfl, Z11.h2, Z.hd, Z.he, em, Z.be.le (by decide)⟩, fun H12 s12 => ⟨_, rfl, iteF ?_⟩⟩
    exact q14 _ _ _ _ _ _ _ _ _ _ _ _ _ _ _ _ _ _ (Z11.same s12) ((ra.same s111).same s12) ((rb.same s111).same s12) (s12 _ _ (s111 _ _ hdu)) k
  · have hm : m ≠ 0 := fun q => z (decide_eq_true (by rw [q]))
    have es : (1 - 2 * (if decide (m < 0) = true then (1 : Int) else 0)) = sg m := by
      unfold sg
      by_cases hm0 : m < 0
      · rw [if_pos (decide_eq_true hm0), if_neg (by omega)]
        decide
      · rw [if_neg (by simpa using hm0), if_pos (by omega)]
        decide
    have b1 : Bd 40 (sg m) := by
      unfold sg
      split <;> exact Bd.of_small (by decide) (by decide)
    obtain ⟨dx11, hx11⟩ := id (ra.same s111)
    obtain ⟨w1, w2, w3, w4⟩ := over_ok (n := n) (m := m) Z.hd Z.he hm
    refine ⟨_, rfl, xa, dx11, _, rfl, hx11, rf_no _ _ (by decide +kernel) (by decide +kernel), _, rfl, xa, xb, _, _, _, _, rfl, ra.same s111, rb.same s111, bn.le (by decide), bd.le (by decide), bm.le (by decide), be.le (by decide), rd_pos Z.hd, rd_pos Z.he,
      fun q => absurd ((rn_zero Z.he).mp q) hm, fun _ x12 H12 s12 hR12 => ?_⟩
    have Z12 := Z11.same s12
    have hR12' : RatAt C H12 x12 (rn (n * e * sg m) (d * m * sg m)) (rd (n * e * sg m) (d * m * sg m)) := by
      rw [← w1, ← w2]
      exact hR12
    have bne : Bd 600 (n * e) := Z.bn.mul Z.be
    have bdm : Bd 600 (d * m) := Z.bd.mul Z.bm
    have b1' : Bd 40 (1 - 2 * (if decide (m < 0) = true then (1 : Int) else 0)) := by rw [es]; exact b1
    refine ⟨_, rfl, t1, _, _, _, rfl, rfl, SqT.of Z12.h1, i0, _, rfl, t2, _, _, _, rfl, rfl, SqT.of Z12.h2, i1, n, e, rfl, rfl, wide_mul Z.bn Z.be (by decide) (by decide) (by decide), _, rfl, n * e, _, rfl, rfl, wide_mul bne b1' (by decide) (by decide) (by decide), ?_⟩
    refine ⟨_, rfl, t1, _, _, _, rfl, rfl, SqT.of Z12.h1, i1, _, rfl, t2, _, _, _, rfl, rfl, SqT.of Z12.h2, i0, d, m, rfl, rfl, wide_mul Z.bd Z.bm (by decide) (by decide) (by decide), _, rfl, d * m, _, rfl, rfl, wide_mul bdm b1' (by decide) (by decide) (by decide), ?_⟩
    refine ⟨n * e * sg m, d * m * sg m, by rw [← es]; rfl, w4, (bdm.mul b1).le (by decide), fun t13 H13 s13 nt13 ht13 => ?_⟩
    refine ⟨x12, t13, _, _, rfl, hR12'.same s13, ht13, fun H14 s14' => ⟨_, rfl, iteF ?_⟩⟩
    have s1x := (s12.trans s13).trans s14'
    exact q14 _ _ _ _ _ _ _ _ _ _ _ _ _ _ _ _ _ _ (Z11.same s1x) ((ra.same s111).same s1x) ((rb.same s111).same s1x) (s1x _ _ (s111 _ _ hdu)) k
end
end K0

namespace K0
open PySem PySem.Spec PyProof.Rows L2
def nt' (n d : Int) : Str := nt n ++ "/" ++ nt d
section
variable {P : Program} {w : World} {K : PySem.W.Frag} {mg : Str → Option Value} {base : Heap} {C BR : Addr} {f : Addr} {cdv : Value} {A : Around} {outer : List Env} {s : Shared} {H : Hp} {E : XK}
/-- from the second fraction to the text -/
theorem tail5 (T : Txt K mg C BR) (Fn : Fns P w K mg base C BR) (hr : Room 4 (XL P w K mg base f cdv A outer s H E).A) : ∃ t, PSs (XL P w K mg base f cdv A outer s H E) (sTurn.drop 5) t ∧
    ∀ (D : Ends) (sc p t1 t2 xa : Addr) (n d m e : Int) (v2 v6 v7 v8 v9 v10 v11 : Option V) (H' : Hp), Tn H' p t1 t2 n d m e → RatAt C H' xa (rn n d) (rd n d) →
      (∀ σ' H'', LoopP sc p σ' H'' → D.nx σ' H'') → t D [some (.ref sc), some (.ref p), v2, some (.ref t1), some (.ref t2), some (.ref xa), v6, v7, v8, v9, v10, v11] H' := by
  obtain ⟨tt, ht9, q9⟩ := tail9 (f := f) (cdv := cdv) (A := A) (outer := outer) (s := s) (H := H) (E := E) T Fn hr
  obtain ⟨fR, fdR, GR, gR, kR, bR⟩ := Fn.red
  obtain ⟨fC, fdC, dsC, MC, GC, bC, _, _, _⟩ := Fn.make
  have hr2 : Room 2 _ := hr.mono (by decide)
  have hr1 : Room 1 _ := hr.mono (by decide)
  refine ⟨_, pss_cons (ps_set (i := 6) scL.nd rfl (Or.inl rfl) (pe_make MC GC hr2 rfl T.mgC bC .nil passL (pa_cons (pe_ix ix_tup (pv 4) pe_int (fun _ _ => rfl)) (pa_cons (pe_ix ix_tup (pv 4) pe_int (fun _ _ => rfl)) pa_nil))))
    (pss_cons (ps_set (i := 7) scL.nd rfl (Or.inl rfl) (pe_call GR hr1 (by rfl) gR kR bR .nil pass0 (pa_cons (pe_ix ix_tup (pv 3) pe_int (fun _ _ => rfl)) (pa_cons (pe_ix ix_tup (pv 3) pe_int (fun _ _ => rfl)) pa_nil))))
    (pss_cons (ps_set (i := 8) scL.nd rfl (Or.inl rfl) (pe_callTy call_str_int (by rfl) T.str (by decide +kernel) (pa_cons (pe_ix ix_tup (pv 7) pe_int (fun _ _ => rfl)) pa_nil)))
    (pss_cons (ps_if (pt_cmpR op_gt (pe_ix ix_tup (pv 7) pe_int (fun _ _ => rfl)) pe_int (nomark _))
      (pss_one (ps_set (i := 8) scL.nd rfl (Or.inl rfl) (pe_op op_add_str (pe_op op_add_str (pv 8) pe_str) (pe_callTy call_str_int (by rfl) T.str (by decide +kernel) (pa_cons (pe_ix ix_tup (pv 7) pe_int (fun _ _ => rfl)) pa_nil))))) pss_nil) ht9))), ?_⟩
  intro D sc p t1 t2 xa n d m e v2 v6 v7 v8 v9 v10 v11 H' Z ra k
  have bn : Bd 1000 (rn n d) := (Z.bn.rn Z.hd).le (by decide)
  have bd : Bd 1000 (rd n d) := (Bd.rd (n := n) Z.hd Z.bd).le (by decide)
  have pd : 0 < rd n d := rd_pos Z.hd
  refine ⟨_, rfl, t2, _, _, _, rfl, rfl, SqT.of Z.h2, i0, _, rfl, t2, _, _, _, rfl, rfl, SqT.of Z.h2, i1, fun x dx nx ndx nex => ?_⟩
  refine ⟨x, dx, m, e, rfl, upd_same, Z.be.le (by decide), fun q => absurd Z.he (by omega), fun _ H1 rb kp => ⟨rfl, ?_⟩⟩
  have s1 : Same H' H1 := Same.made nx ndx kp
  have Z1 := Z.same s1
  refine ⟨_, rfl, t1, _, _, _, rfl, rfl, SqT.of Z1.h1, i0, _, rfl, t1, _, _, _, rfl, rfl, SqT.of Z1.h1, i1, n, d, rfl, Z.hd, Z.bd.le (by decide), fun t H2 s2 ntt ht => ?_⟩
  have Z2 := Z1.same s2
  refine ⟨_, rfl, t, _, _, _, rfl, rfl, SqT.of ht, i0, _, rfl, log_ok bn, ?_⟩
  refine ⟨_, rfl, t, _, _, _, rfl, rfl, SqT.of ht, i1, _, _, rfl, rfl, _, rfl, ite2 (fun z => ?_) (fun z => ?_)⟩
  · have h1 : 1 < rd n d := of_decide_eq_true z
    have ef : nt' (rn n d) (rd n d) = ft (rn n d) (rd n d) := by
      unfold nt' ft
      rw [if_neg (by omega)]
    refine ⟨_, rfl, nt (rn n d), ("/" : Str), rfl, rfl, fitsN (Nat.le_trans (Nat.add_le_add (nt_len bn) slash) (by decide)), _, rfl, t, _, _, _, rfl, rfl, SqT.of ht, i1, _, rfl, log_ok bd, nt (rn n d) ++ ("/" : Str), nt (rd n d), rfl, rfl, ?_, ?_⟩
    · rw [Str.length_append]
      exact fitsN (Nat.le_trans (Nat.add_le_add (Nat.add_le_add (nt_len bn) slash) (nt_len bd)) (by decide))
    · have q := q9 D sc p t1 t2 xa x t n d m e v2 v9 v10 v11 H2 Z2 ((ra.same s1).same s2) (rb.same s2) ht k
      rw [← ef] at q
      exact q
  · have h1 : rd n d = 1 := by
      have : ¬ 1 < rd n d := fun q => z (decide_eq_true q)
      omega
    have ef : nt (rn n d) = ft (rn n d) (rd n d) := by
      unfold ft
      rw [if_pos h1]
    have q := q9 D sc p t1 t2 xa x t n d m e v2 v9 v10 v11 H2 Z2 ((ra.same s1).same s2) (rb.same s2) ht k
    rw [← ef] at q
    exact q
/-- the second keyword way -/
theorem tail4 (T : Txt K mg C BR) (Fn : Fns P w K mg base C BR) (hr : Room 4 (XL P w K mg base f cdv A outer s H E).A) : ∃ t, PSs (XL P w K mg base f cdv A outer s H E) (sTurn.drop 4) t ∧
    ∀ (D : Ends) (sc p t1 t2 xa : Addr) (n d m e tv : Int) (v6 v7 v8 v9 v10 v11 : Option V) (H' : Hp), Tn H' p t1 t2 n d m e → RatAt C H' xa (rn n d) (rd n d) →
      (∀ σ' H'', LoopP sc p σ' H'' → D.nx σ' H'') → t D [some (.ref sc), some (.ref p), some (.int tv), some (.ref t1), some (.ref t2), some (.ref xa), v6, v7, v8, v9, v10, v11] H' := by
  obtain ⟨tt, ht5, q5⟩ := tail5 (f := f) (cdv := cdv) (A := A) (outer := outer) (s := s) (H := H) (E := E) T Fn hr
  obtain ⟨fC, fdC, dsC, MC, GC, _, _, _, kb⟩ := Fn.make
  have hr2 : Room 2 _ := hr.mono (by decide)
  refine ⟨_, pss_cons (ps_if (pt_cmpR op_eq (pv 2) pe_int (nomark _))
      (pss_one (ps_set (i := 5) scL.nd rfl (Or.inl rfl) (pe_makeK0 MC GC hr2 rfl T.mgC kb passL (pk_cons (pe_ix ix_tup (pv 3) pe_int (fun _ _ => rfl)) (pk_cons (pe_ix ix_tup (pv 3) pe_int (fun _ _ => rfl)) pk_nil))))) pss_nil) ht5, ?_⟩
  intro D sc p t1 t2 xa n d m e tv v6 v7 v8 v9 v10 v11 H' Z ra k
  refine ⟨_, rfl, rfl, _, rfl, ite2 (fun _ => ?_) (fun _ => q5 D sc p t1 t2 xa n d m e _ v6 v7 v8 v9 v10 v11 H' Z ra k)⟩
  refine ⟨_, rfl, t1, _, _, _, rfl, rfl, SqT.of Z.h1, i1, _, rfl, t1, _, _, _, rfl, rfl, SqT.of Z.h1, i0, rfl, rfl, fun x dx nx ndx nex => ?_⟩
  refine ⟨x, dx, n, d, rfl, upd_same, Z.bd.le (by decide), fun q => absurd Z.hd (by omega), fun _ H1 rb kp => ⟨rfl, ?_⟩⟩
  have s1 : Same H' H1 := Same.made nx ndx kp
  exact q5 D sc p t1 t2 x n d m e _ v6 v7 v8 v9 v10 v11 H1 (Z.same s1) rb k
/-- a whole turn -/
theorem turn_ok (T : Txt K mg C BR) (Fn : Fns P w K mg base C BR) (hr : Room 4 (XL P w K mg base f cdv A outer s H E).A) : ∃ t, PSs (XL P w K mg base f cdv A outer s H E) sTurn t ∧
    ∀ (D : Ends) (sc p : Addr) (tv : Int) (v3 v4 v5 v6 v7 v8 v9 v10 v11 : Option V) (H' : Hp), PoolAt H' p →
      (∀ σ' H'', LoopP sc p σ' H'' → D.nx σ' H'') → t D [some (.ref sc), some (.ref p), some (.int tv), v3, v4, v5, v6, v7, v8, v9, v10, v11] H' := by
  obtain ⟨tt, ht4, q4⟩ := tail4 (f := f) (cdv := cdv) (A := A) (outer := outer) (s := s) (H := H) (E := E) T Fn hr
  obtain ⟨fC, fdC, dsC, MC, GC, bC, _, kb, _⟩ := Fn.make
  obtain ⟨fD, fdD, GD, gD, kD, bD⟩ := Fn.draw
  obtain ⟨fP, fdP, GP, gP, kP, bP⟩ := Fn.pair
  have hr2 : Room 2 _ := hr.mono (by decide)
  have hr1 : Room 1 _ := hr.mono (by decide)
  refine ⟨_, pss_cons (ps_set (i := 3) scL.nd rfl (Or.inl rfl) (pe_call GP hr2 (by rfl) gP kP bP .nil pass0 (pa_cons (pv 1) pa_nil)))
    (pss_cons (ps_set (i := 4) scL.nd rfl (Or.inl rfl) (pe_ix ix_tup (pe_tup (pa_cons (pe_call GP hr2 (by rfl) gP kP bP .nil pass0 (pa_cons (pv 1) pa_nil)) (pa_cons (pv 3) pa_nil)))
      (pe_callTy call_int1 (by rfl) T.int (by decide +kernel) (pa_cons (pe_cmpR op_eq (pe_call GD hr1 (by rfl) gD kD bD .nil pass0 (pa_cons (pv 1) (pa_cons pe_int pa_nil))) pe_int (nomark _)) pa_nil)) (fun _ _ => rfl)))
    (pss_cons (ps_set (i := 5) scL.nd rfl (Or.inl rfl) (pe_make MC GC hr2 rfl T.mgC bC .nil passL (pa_cons (pe_ix ix_tup (pv 3) pe_int (fun _ _ => rfl)) (pa_cons (pe_ix ix_tup (pv 3) pe_int (fun _ _ => rfl)) pa_nil))))
    (pss_cons (ps_if (pt_cmpR op_eq (pv 2) pe_int (nomark _))
      (pss_one (ps_set (i := 5) scL.nd rfl (Or.inl rfl) (pe_makeN MC GC hr2 rfl T.mgC kb passL (pa_cons (pe_ix ix_tup (pv 3) pe_int (fun _ _ => rfl)) pa_nil) (pk_cons (pe_ix ix_tup (pv 3) pe_int (fun _ _ => rfl)) pk_nil)))) pss_nil) ht4))), ?_⟩
  intro D sc p tv v3 v4 v5 v6 v7 v8 v9 v10 v11 H' PA k
  refine ⟨_, rfl, p, rfl, PA, fun t1 H1 n d k1 P1 h1 bn bd hd => ?_⟩
  refine ⟨_, rfl, p, rfl, P1, fun t2 H2 m e k2 P2 h2 bm be he => ?_⟩
  have h1' := k2 _ _ h1 (P1.ne h1)
  refine ⟨_, rfl, (by show 2 ≤ sizeLine; decide), fun tp htp => ?_⟩
  have s1 := Same.upd (o := .tup [.ref t2, .ref t1]) htp
  refine ⟨_, rfl, p, 5, rfl, P2.same s1, by decide, by decide, fun v H3 u0 u1 P3 k3 => ⟨rfl, .inr ⟨_, rfl, ?_⟩⟩⟩
  have e3 : H3 tp = some (.tup [.ref t2, .ref t1]) := k3 _ _ upd_same (P2.ne0 htp)
  have f1 : H3 t1 = some (.tup [.int n, .int d]) := k3 _ _ (s1 _ _ h1') (P2.ne h1')
  have f2 : H3 t2 = some (.tup [.int m, .int e]) := k3 _ _ (s1 _ _ h2) (P2.ne h2)
  -- whichever other it is
  have go : ∀ (t2' : Addr) (m' e' : Int), H3 t2' = some (.tup [.int m', .int e']) → Bd 300 m' → Bd 300 e' → 0 < e' → _ := fun t2' m' e' hz bm' be' he' => (show Tn H3 p t1 t2' n d m' e' from ⟨P3, f1, hz, bn, bd, bm', be', hd, he'⟩)
  have run : ∀ (t2' : Addr) (m' e' : Int), Tn H3 p t1 t2' n d m' e' → tAsg (tMake C (spInit C BR) [] E0 (tCons (tOp (rIxT K) (tVar 3) (tC (.int 0))) (tCons (tOp (rIxT K) (tVar 3) (tC (.int 1))) tNil))) (gName 5)
      { D with nx := fun σ' H'' => tSeq (tIfS (tTest (tOp rEq (tVar 2) (tC (.int 1)))) (tAsg (tMakeN C 1 1 (spInit C BR) (fun vs zs => vs ++ zs) E0 (tCons (tOp (rIxT K) (tVar 3) (tC (.int 0))) tNil) (tCons (tOp (rIxT K) (tVar 3) (tC (.int 1))) tNil)) (gName 5)) tNext) tt D σ' H'' }
      [some (.ref sc), some (.ref p), some (.int tv), some (.ref t1), some (.ref t2'), v5, v6, v7, v8, v9, v10, v11] H3 := by
    intro t2' m' e' Z
    refine ⟨_, rfl, t1, _, _, _, rfl, rfl, SqT.of Z.h1, i0, _, rfl, t1, _, _, _, rfl, rfl, SqT.of Z.h1, i1, fun x dx nx ndx nex => ?_⟩
    refine ⟨x, dx, n, d, rfl, upd_same, Z.bd.le (by decide), fun q => absurd Z.hd (by omega), fun _ H4 ra kp => ⟨rfl, ?_⟩⟩
    have s4 : Same H3 H4 := Same.made nx ndx kp
    have Z4 := Z.same s4
    refine ⟨_, rfl, rfl, _, rfl, ite2 (fun _ => ?_) (fun _ => q4 D sc p t1 t2' x n d m' e' tv v6 v7 v8 v9 v10 v11 H4 Z4 ra k)⟩
    refine ⟨_, rfl, t1, _, _, _, rfl, rfl, SqT.of Z4.h1, i0, _, rfl, t1, _, _, _, rfl, rfl, SqT.of Z4.h1, i1, rfl, rfl, fun x5 dx5 nx5 ndx5 nex5 => ?_⟩
    refine ⟨x5, dx5, n, d, rfl, upd_same, Z.bd.le (by decide), fun q => absurd Z.hd (by omega), fun _ H5 rb kp5 => ⟨rfl, ?_⟩⟩
    have s5 : Same H4 H5 := Same.made nx5 ndx5 kp5
    exact q4 D sc p t1 t2' x5 n d m' e' tv v6 v7 v8 v9 v10 v11 H5 (Z4.same s5) rb k
  by_cases hv : v = 0
  · have ei : (if decide (V.int v = V.int 0) = true then (1 : Int) else 0) = 1 := if_pos (decide_eq_true (by rw [hv]))
    refine ⟨tp, [.ref t2, .ref t1], _, .ref t1, rfl, by rw [ei]; rfl, SqT.of e3, atI_nat (j := 1) rfl, ?_⟩
    exact run t1 n d ⟨P3, f1, f1, bn, bd, bn, bd, hd, hd⟩
  · have ei : (if decide (V.int v = V.int 0) = true then (1 : Int) else 0) = 0 := if_neg fun q => hv (V.int.inj (of_decide_eq_true q))
    refine ⟨tp, [.ref t2, .ref t1], _, .ref t2, rfl, by rw [ei]; rfl, SqT.of e3, atI_nat (j := 0) rfl, ?_⟩
    exact run t2 m e ⟨P3, f1, f2, bn, bd, bm, be, hd, he⟩
end
end K0

namespace K0
open PySem PySem.Spec PyProof.Rows L2
def spLaw (K : PySem.W.Frag) : Sp := fun vs H Q _ => ∃ (a : Addr) (ns : List Int), vs = [.ref a] ∧ SqL K H a (ns.map V.int) ∧ ns.length ≤ 63 ∧ ∀ H', Q (.bl true) H'
theorem at3' {a b c v : Int} (h0 : 0 ≤ v) (h3 : v < 3) : ∃ i, atI [V.int a, V.int b, V.int c] v = some (.int i) ∧ (i = a ∨ i = b ∨ i = c) := at3 h0 h3
section
variable {P : Program} {w : World} {K : PySem.W.Frag} {mg : Str → Option Value} {base : Heap} {C BR : Addr} {f : Addr} {cdv : Value} {A : Around} {outer : List Env} {s : Shared} {H : Hp} {E : XK}
/-- a turn of the second loop -/
theorem turn2_ok (T : Txt K mg C BR) (Fn : Fns P w K mg base C BR) (hr : Room 4 (XL P w K mg base f cdv A outer s H E).A) : ∃ t, PSs (XL P w K mg base f cdv A outer s H E) sTurn2 t ∧
    ∀ (D : Ends) (sc p : Addr) (i : Nat) (v3 v4 v5 v6 v7 v8 v9 v10 v11 : Option V) (H' : Hp), i < 2 → PoolAt H' p →
      (∀ σ' H'', LoopP sc p σ' H'' → D.nx σ' H'') → t D [some (.ref sc), some (.ref p), some (.int (0 + (i : Int))), v3, v4, v5, v6, v7, v8, v9, v10, v11] H' := by
  obtain ⟨fD, fdD, GD, gD, kD, bD⟩ := Fn.draw
  obtain ⟨fP, fdP, GP, gP, kP, bP⟩ := Fn.pair
  obtain ⟨fF, fdF, GF, gF, kF, bF⟩ := Fn.ref
  have hr2 : Room 2 _ := hr.mono (by decide)
  have hr1 : Room 1 _ := hr.mono (by decide)
  refine ⟨_, pss_cons (ps_set (i := 10) scL.nd rfl (Or.inl rfl) (pe_ix ix_tup (pe_tup (pa_cons (pe_op op_sub (pe_call GD hr1 (by rfl) gD kD bD .nil pass0 (pa_cons (pv 1) (pa_cons pe_int pa_nil))) pe_int)
        (pa_cons (pe_ix ix_tup (pe_call GP hr2 (by rfl) gP kP bP .nil pass0 (pa_cons (pv 1) pa_nil)) pe_int (fun _ _ => rfl)) pa_nil))) (pe_call GD hr1 (by rfl) gD kD bD .nil pass0 (pa_cons (pv 1) (pa_cons pe_int pa_nil))) (fun _ _ => rfl)))
    (pss_cons (ps_set (i := 11) scL.nd rfl (Or.inl rfl) (pe_ix ix_tup (pe_tup (pa_cons (pe_call GD hr1 (by rfl) gD kD bD .nil pass0 (pa_cons (pv 1) (pa_cons pe_int pa_nil))) (pa_cons (pe_call GD hr1 (by rfl) gD kD bD .nil pass0 (pa_cons (pv 1) (pa_cons pe_int pa_nil)))
        (pa_cons (pe_op op_pow pe_int pe_int) pa_nil))))
      (pe_op op_add (pv 2) (pe_callTy call_int1 (by rfl) T.int (by decide +kernel) (pa_cons (pe_and (pe_cmpR op_eq (pe_call GD hr1 (by rfl) gD kD bD .nil pass0 (pa_cons (pv 1) (pa_cons pe_int pa_nil))) pe_int (nomark _)) (pe_one (pe_cmpR op_eq (pv 2) pe_int (nomark _)))) pa_nil))) (fun _ _ => rfl)))
    (pss_one (ps_if (pt_not (pt_val (pe_call GF hr (by rfl) gF kF bF .nil pass0 (pa_cons (pe_tup (pa_cons (pv 10) (pa_cons (pe_op op_sub pe_int (pv 11)) pa_nil))) (pa_cons pe_non pa_nil))))) (pss_one (ps_ret pe_bl)) pss_nil))), ?_⟩
  intro D sc p i v3 v4 v5 v6 v7 v8 v9 v10 v11 H' hi PA k
  refine ⟨_, rfl, p, 9, rfl, PA, by decide, by decide, fun v H1 a0 a1 P1 k1 => ⟨_, _, rfl, rfl, ?_⟩⟩
  refine ⟨_, rfl, p, rfl, P1, fun t1 H2 n d k2 P2 h1 bn bd hd => ⟨t1, _, _, _, rfl, rfl, SqT.of h1, i0, (by show 2 ≤ sizeLine; decide), fun tp htp => ?_⟩⟩
  have s1 := Same.upd (o := .tup [.int (v - 4), .int n]) htp
  refine ⟨_, rfl, p, 2, rfl, P2.same s1, by decide, by decide, fun u H3 b0 b1 P3 k3 => ?_⟩
  have e3 : H3 tp = some (.tup [.int (v - 4), .int n]) := k3 _ _ upd_same (P2.ne0 htp)
  obtain ⟨x, hx, cx⟩ := at2 (a := v - 4) (b := n) b0 b1
  have bx : Bd 300 x := by
    rcases cx with rfl | rfl
    · exact Bd.of_small (by omega) (by decide)
    · exact bn
  refine ⟨tp, _, _, _, rfl, rfl, SqT.of e3, hx, ?_⟩
  refine ⟨_, rfl, p, 3, rfl, P3, by decide, by decide, fun y1 H4 c0 c1 P4 k4 => ⟨_, rfl, p, 1001, rfl, P4, by decide, by decide, fun y2 H5 d0 d1 P5 k5 => ⟨_, _, rfl, rfl, ⟨by decide, by decide, by decide⟩, (by show 3 ≤ sizeLine; decide), fun tq htq => ?_⟩⟩⟩
  have s2 := Same.upd (o := .tup [.int y1, .int y2, .int (10 ^ (20 : Int).toNat)]) htq
  refine ⟨_, rfl, ?_⟩
  have fin : ∀ (g : Int) (H7 : Hp), 0 ≤ g → g < 3 → PoolAt H7 p → H7 tq = some (.tup [.int y1, .int y2, .int (10 ^ (20 : Int).toNat)]) → ∃ j, atI [V.int y1, V.int y2, V.int (10 ^ (20 : Int).toNat)] g = some (.int j) ∧ 0 ≤ j ∧ Bd 300 j := by
    intro g H7 g0 g1 P7 e7
    obtain ⟨j, hj, cj⟩ := at3 (a := y1) (b := y2) (c := 10 ^ (20 : Int).toNat) g0 g1
    refine ⟨j, hj, ?_⟩
    rcases cj with rfl | rfl | rfl
    · exact ⟨c0, Bd.of_small (by omega) (by decide)⟩
    · exact ⟨d0, Bd.of_small (by omega) (by decide)⟩
    · exact ⟨by decide, Bd.le (j := 70) (by show ((10 : Int) ^ (20 : Int).toNat).natAbs < 2 ^ 70; decide) (by decide)⟩
  refine ⟨_, rfl, p, 6, rfl, P5.same s2, by decide, by decide, fun z H6 f0 f1 P6 k6 => ⟨rfl, _, rfl, ?_⟩⟩
  have e6 : H6 tq = some (.tup [.int y1, .int y2, .int (10 ^ (20 : Int).toNat)]) := k6 _ _ upd_same (P5.ne0 htq)
  have last : ∀ (g j : Int) (hj : atI [V.int y1, V.int y2, V.int (10 ^ (20 : Int).toNat)] g = some (.int j)) (j0 : 0 ≤ j) (bj : Bd 300 j), ∀ tp' : Addr, H6 tp' = none → PoolAt (upd H6 tp' (.tup [.int x, .int (0 - j)])) p ∧ (upd H6 tp' (.tup [.int x, .int (0 - j)])) tp' = some (.tup [.int x, .int (0 - j)]) := fun g j _ _ _ tp' h => ⟨P6.same (Same.upd h), upd_same⟩
  refine ite2 (fun hz => ?_) (fun hz => ?_)
  · refine ⟨_, rfl, rfl, .inr ⟨_, rfl, _, _, rfl, rfl, ?_⟩⟩
    have hg0 : 0 ≤ 0 + (i : Int) + (if decide (V.int (0 + (i : Int)) = V.int 1) = true then (1 : Int) else 0) := by split <;> omega
    have hg1 : 0 + (i : Int) + (if decide (V.int (0 + (i : Int)) = V.int 1) = true then (1 : Int) else 0) < 3 := by split <;> omega
    obtain ⟨j, hj, j0, bj⟩ := fin _ H6 hg0 hg1 P6 e6
    refine ⟨tq, _, _, _, rfl, rfl, SqT.of e6, hj, ?_⟩
    refine ⟨_, rfl, _, rfl, _, _, rfl, rfl, (by show 2 ≤ sizeLine; decide), fun tr htr => ?_⟩
    obtain ⟨PL, hL⟩ := last _ j hj j0 bj tr htr
    refine ⟨tr, x, 0 - j, .non, rfl, hL, bx.le (by decide), (bj.of_abs (by omega)).le (by decide), .inl ⟨rfl, by omega⟩, fun H8 s8 => ⟨_, rfl, iteF ?_⟩⟩
    exact k _ _ ⟨PL.same s8, _, _, _, _, _, _, _, _, _, _, rfl⟩
  · refine .inr ⟨_, rfl, _, _, rfl, rfl, ?_⟩
    have hg0 : 0 ≤ 0 + (i : Int) + (if false = true then (1 : Int) else 0) := by rw [if_neg Bool.false_ne_true]; omega
    have hg1 : 0 + (i : Int) + (if false = true then (1 : Int) else 0) < 3 := by rw [if_neg Bool.false_ne_true]; omega
    obtain ⟨j, hj, j0, bj⟩ := fin _ H6 hg0 hg1 P6 e6
    refine ⟨tq, _, _, _, rfl, rfl, SqT.of e6, hj, ?_⟩
    refine ⟨_, rfl, _, rfl, _, _, rfl, rfl, (by show 2 ≤ sizeLine; decide), fun tr htr => ?_⟩
    obtain ⟨PL, hL⟩ := last _ j hj j0 bj tr htr
    refine ⟨tr, x, 0 - j, .non, rfl, hL, bx.le (by decide), (bj.of_abs (by omega)).le (by decide), .inl ⟨rfl, by omega⟩, fun H8 s8 => ⟨_, rfl, iteF ?_⟩⟩
    exact k _ _ ⟨PL.same s8, _, _, _, _, _, _, _, _, _, _, rfl⟩
theorem ok_law {fd : FuncData} (F : Fun K "law" "law" sLaw f fd) (T : Txt K mg C BR) (Fn : Fns P w K mg base C BR) : FnOk P w K mg base CX0 5 f fd ["script"] (spLaw K) := by
  refine F.ok scL (fun vs H Q E h => ?_) (fun cdv A outer s H vs Q E hr h => ?_)
  · obtain ⟨a, ns, rfl, _⟩ := h
    rfl
  · obtain ⟨a, ns, rfl, hS, hlen, q⟩ := h
    obtain ⟨t1, ht1, q1⟩ := turn_ok (f := f) (cdv := cdv) (A := A) (outer := outer) (s := s) (H := H) (E := E) T Fn hr
    obtain ⟨t2, ht2, q2⟩ := turn2_ok (f := f) (cdv := cdv) (A := A) (outer := outer) (s := s) (H := H) (E := E) T Fn hr
    obtain ⟨fL, fdL, GL, gL, kL, bL⟩ := Fn.pool
    obtain ⟨fI, fdI, GI, gI, kI, bI⟩ := Fn.is
    obtain ⟨fC, fdC, dsC, MC, GC, _, ⟨vd, bd⟩, _, _⟩ := Fn.make
    have hr3 : Room 3 _ := hr.mono (by decide)
    have hr2 : Room 2 _ := hr.mono (by decide)
    have hr1 : Room 1 _ := hr.mono (by decide)
    refine ⟨_, pss_cons (ps_set (i := 1) scL.nd rfl (Or.inl rfl) (pe_call GL hr1 (by rfl) gL kL bL .nil pass0 (pa_cons (pv 0) (pa_cons pe_int pa_nil))))
      (pss_cons (ps_for PassesOwn.never rfl (pi_range1 rfl T.range (pa_cons pe_int pa_nil)) (pg_name (i := 2) scL.nd rfl (Or.inl rfl)) ht1)
      (pss_cons (ps_for PassesOwn.never rfl (pi_range1 rfl T.range (pa_cons pe_int pa_nil)) (pg_name (i := 2) scL.nd rfl (Or.inl rfl)) ht2)
      (pss_one (ps_ret (pe_call GI hr3 (by rfl) gI kI bI .nil pass0 (pa_cons (pe_make MC GC hr2 rfl T.mgC bd vd passL (pa_cons pe_int pa_nil)) (pa_cons (pe_tup (pa_cons pe_int (pa_cons pe_int pa_nil))) pa_nil))))))), ?_⟩
    refine ⟨_, rfl, a, ns, 0, rfl, hS, fun p H1 s1 np P1 => ?_⟩
    refine ⟨4, rfl, by decide, by decide, for_range (lo := 0) (n := 4) (fun i σ H' => LoopP a p σ H') ⟨P1, _, _, _, _, _, _, _, _, _, _, rfl⟩ ?_ ?_⟩
    · rintro i σ H' hi ⟨P', v2, v3, v4, v5, v6, v7, v8, v9, v10, v11, rfl⟩
      exact q1 _ a p _ v3 v4 v5 v6 v7 v8 v9 v10 v11 H' P' fun σ' H'' h => h
    · rintro σ H' ⟨P', v2, v3, v4, v5, v6, v7, v8, v9, v10, v11, rfl⟩
      refine ⟨2, rfl, by decide, by decide, for_range (lo := 0) (n := 2) (fun i σ H' => LoopP a p σ H') ⟨P', _, _, _, _, _, _, _, _, _, _, rfl⟩ ?_ ?_⟩
      · rintro i σ H' hi ⟨P', v2, v3, v4, v5, v6, v7, v8, v9, v10, v11, rfl⟩
        exact q2 _ a p i v3 v4 v5 v6 v7 v8 v9 v10 v11 H' hi P' fun σ' H'' h => h
      · rintro σ H' ⟨P', v2, v3, v4, v5, v6, v7, v8, v9, v10, v11, rfl⟩
        intro x dx nx ndx nex
        refine ⟨x, dx, 7, 1, rfl, upd_same, Bd.of_small (by decide) (by decide), fun q => absurd q (by decide), fun _ H2 hR kp => ⟨rfl, ?_⟩⟩
        refine ⟨(by show 2 ≤ sizeLine; decide), fun tp htp => ?_⟩
        have e1 : rn 7 1 = 7 := by decide +kernel
        have e2 : rd 7 1 = 1 := by decide +kernel
        rw [e1, e2] at hR
        exact ⟨x, tp, 7, 1, rfl, hR.same (Same.upd htp), upd_same, fun H3 s3 => q H3⟩
end

end K0

namespace K0
open PySem PySem.Spec PyProof.Rows L2
theorem kit_cl {K : PySem.W.Frag} {BR c : Addr} {b : Bool} (n : ((Value.ref BR) == (Value.ref c)) = false) (i : PySem.W.isClsIn K c = true) (t : PySem.W.typeIn K (.ref c) = some (.type "type")) (h : PySem.W.subIn K (.ref BR) (.ref c) = some b) : PySem.W.kitOne K (.ref BR) (.ref c) = some b := by
  have i' : (PySem.W.clsIn K c).isSome = true := i
  unfold PySem.W.kitOne
  rw [n, if_neg Bool.false_ne_true]
  show (if ((PySem.W.clsIn K c).isSome && PySem.W.typeIn K (.ref c) == some (.type "type")) = true then PySem.W.subIn K (.ref BR) (.ref c) else none) = some b
  rw [i', t, if_pos (by rfl)]
  exact h
theorem kit_bt {K : PySem.W.Frag} {BR : Addr} {T : String} {b : Bool} (m : PySem.W.kitMeta T = true) (h : PySem.W.subIn K (.ref BR) (.type T) = some b) : PySem.W.kitOne K (.ref BR) (.type T) = some b := by
  unfold PySem.W.kitOne
  rw [show ((Value.ref BR) == (Value.type T)) = false from by simp, if_neg Bool.false_ne_true]
  show (if PySem.W.kitMeta T = true then PySem.W.subIn K (.ref BR) (.type T) else none) = some b
  rw [if_pos m]
  exact h

theorem all_mk {l : PySem.W.OpenLaw} {w : World} {K : PySem.W.Frag} {h : Heap} {mg : Str → Option Value} {fa C BR LE TD c_1 c_2 c_3 c_4 c_5 c_6 : Addr} (X : K.In h) (G : h.Ns mainGlobals mg) (hfa : mg "law" = some (.ref fa))
    {ocT : Value} {odT : Option Addr} {tkT : Tok} {nT : Nat} {slT : Array (Option Value)}
    {oc0 kV0 dc0 pm0 cd0 ct0 : Value} {od0 an0 : Option Addr} {sl0 : Array (Option Value)} {f0 : Addr}
    {oc1 kV1 dc1 pm1 cd1 ct1 : Value} {od1 an1 : Option Addr} {sl1 : Array (Option Value)} {f1 : Addr}
    {oc2 kV2 dc2 pm2 cd2 ct2 : Value} {od2 an2 : Option Addr} {sl2 : Array (Option Value)} {f2 : Addr}
    {oc3 kV3 dc3 pm3 cd3 ct3 : Value} {od3 an3 : Option Addr} {sl3 : Array (Option Value)} {f3 : Addr}
    {oc4 kV4 dc4 pm4 cd4 ct4 : Value} {od4 an4 : Option Addr} {sl4 : Array (Option Value)} {f4 : Addr}
    {oc5 kV5 dc5 pm5 cd5 ct5 : Value} {od5 an5 : Option Addr} {sl5 : Array (Option Value)} {f5 : Addr}
    {oc6 kV6 dc6 pm6 cd6 ct6 : Value} {od6 an6 : Option Addr} {sl6 : Array (Option Value)} {f6 : Addr}
    {oc7 kV7 dc7 pm7 cd7 ct7 : Value} {od7 an7 : Option Addr} {sl7 : Array (Option Value)} {f7 : Addr}
    {oc11 kV11 dc11 pm11 cd11 ct11 : Value} {od11 an11 : Option Addr} {sl11 : Array (Option Value)} {f11 : Addr}
    {oc12 kV12 dc12 pm12 cd12 ct12 : Value} {od12 an12 : Option Addr} {sl12 : Array (Option Value)} {f12 : Addr}
    {oc13 kV13 dc13 pm13 cd13 ct13 : Value} {od13 an13 : Option Addr} {sl13 : Array (Option Value)} {f13 : Addr}
    {oc14 kV14 dc14 pm14 cd14 ct14 : Value} {od14 an14 : Option Addr} {sl14 : Array (Option Value)} {f14 : Addr}
    {oc15 kV15 dc15 pm15 cd15 ct15 : Value} {od15 an15 : Option Addr} {sl15 : Array (Option Value)} {f15 : Addr}
    {oc16 kV16 dc16 pm16 cd16 ct16 : Value} {od16 an16 : Option Addr} {sl16 : Array (Option Value)} {f16 : Addr}
    {oc17 kV17 dc17 pm17 cd17 ct17 : Value} {od17 an17 : Option Addr} {sl17 : Array (Option Value)} {f17 : Addr}
    {oc18 kV18 dc18 pm18 cd18 ct18 : Value} {od18 an18 : Option Addr} {sl18 : Array (Option Value)} {f18 : Addr}
    {oc19 kV19 dc19 pm19 cd19 ct19 : Value} {od19 an19 : Option Addr} {sl19 : Array (Option Value)} {f19 : Addr}
    {oc20 kV20 dc20 pm20 cd20 ct20 : Value} {od20 an20 : Option Addr} {sl20 : Array (Option Value)} {f20 : Addr}
    {oc21 kV21 dc21 pm21 cd21 ct21 : Value} {od21 an21 : Option Addr} {sl21 : Array (Option Value)} {f21 : Addr}
    {oc22 kV22 dc22 pm22 cd22 ct22 : Value} {od22 an22 : Option Addr} {sl22 : Array (Option Value)} {f22 : Addr}
    (aC : PySem.W.nsIn K mainGlobals "Ratio" = some (some (.ref C)))
    (a0 : PySem.W.findIn K (.ref C) "__init__" = some (some (.ref f0)))
    (i0 : PySem.W.isFn K (.ref f0) = true)
    (l0 : K.lookup f0 = some ⟨oc0, od0, .func (PySem.W.fnOf "__init__" "Ratio.__init__" (defArgs sInit) (defBody sInit) (defScope sInit) (.ref TD) kV0 dc0 pm0 an0 cd0 ct0), sl0⟩)
    (c0 : PySem.W.codeIn K cd0 "Ratio.__init__" = true)
    (k0 : PySem.W.keepIn K (.ref f0) = true)
    (lT : K.lookup TD = some ⟨ocT, odT, .seq #[.int 1 tkT] nT, slT⟩)
    (a1 : PySem.W.findIn K (.ref C) "__add__" = some (some (.ref f1)))
    (i1 : PySem.W.isFn K (.ref f1) = true)
    (l1 : K.lookup f1 = some ⟨oc1, od1, .func (PySem.W.fnOf "__add__" "Ratio.__add__" (defArgs sAdd) (defBody sAdd) (defScope sAdd) .none kV1 dc1 pm1 an1 cd1 ct1), sl1⟩)
    (c1 : PySem.W.codeIn K cd1 "Ratio.__add__" = true)
    (k1 : PySem.W.keepIn K (.ref f1) = true)
    (a2 : PySem.W.findIn K (.ref C) "__sub__" = some (some (.ref f2)))
    (i2 : PySem.W.isFn K (.ref f2) = true)
    (l2 : K.lookup f2 = some ⟨oc2, od2, .func (PySem.W.fnOf "__sub__" "Ratio.__sub__" (defArgs sSub) (defBody sSub) (defScope sSub) .none kV2 dc2 pm2 an2 cd2 ct2), sl2⟩)
    (c2 : PySem.W.codeIn K cd2 "Ratio.__sub__" = true)
    (k2 : PySem.W.keepIn K (.ref f2) = true)
    (a3 : PySem.W.findIn K (.ref C) "__mul__" = some (some (.ref f3)))
    (i3 : PySem.W.isFn K (.ref f3) = true)
    (l3 : K.lookup f3 = some ⟨oc3, od3, .func (PySem.W.fnOf "__mul__" "Ratio.__mul__" (defArgs sMul) (defBody sMul) (defScope sMul) .none kV3 dc3 pm3 an3 cd3 ct3), sl3⟩)
    (c3 : PySem.W.codeIn K cd3 "Ratio.__mul__" = true)
    (k3 : PySem.W.keepIn K (.ref f3) = true)
    (a4 : PySem.W.findIn K (.ref C) "__eq__" = some (some (.ref f4)))
    (i4 : PySem.W.isFn K (.ref f4) = true)
    (l4 : K.lookup f4 = some ⟨oc4, od4, .func (PySem.W.fnOf "__eq__" "Ratio.__eq__" (defArgs sEq) (defBody sEq) (defScope sEq) .none kV4 dc4 pm4 an4 cd4 ct4), sl4⟩)
    (c4 : PySem.W.codeIn K cd4 "Ratio.__eq__" = true)
    (k4 : PySem.W.keepIn K (.ref f4) = true)
    (a5 : PySem.W.findIn K (.ref C) "__str__" = some (some (.ref f5)))
    (i5 : PySem.W.isFn K (.ref f5) = true)
    (l5 : K.lookup f5 = some ⟨oc5, od5, .func (PySem.W.fnOf "__str__" "Ratio.__str__" (defArgs sStr) (defBody sStr) (defScope sStr) .none kV5 dc5 pm5 an5 cd5 ct5), sl5⟩)
    (c5 : PySem.W.codeIn K cd5 "Ratio.__str__" = true)
    (k5 : PySem.W.keepIn K (.ref f5) = true)
    (a6 : PySem.W.findIn K (.ref C) "less" = some (some (.ref f6)))
    (i6 : PySem.W.isFn K (.ref f6) = true)
    (l6 : K.lookup f6 = some ⟨oc6, od6, .func (PySem.W.fnOf "less" "Ratio.less" (defArgs sLess) (defBody sLess) (defScope sLess) .none kV6 dc6 pm6 an6 cd6 ct6), sl6⟩)
    (c6 : PySem.W.codeIn K cd6 "Ratio.less" = true)
    (k6 : PySem.W.keepIn K (.ref f6) = true)
    (a7 : PySem.W.findIn K (.ref C) "over" = some (some (.ref f7)))
    (i7 : PySem.W.isFn K (.ref f7) = true)
    (l7 : K.lookup f7 = some ⟨oc7, od7, .func (PySem.W.fnOf "over" "Ratio.over" (defArgs sOver) (defBody sOver) (defScope sOver) .none kV7 dc7 pm7 an7 cd7 ct7), sl7⟩)
    (c7 : PySem.W.codeIn K cd7 "Ratio.over" = true)
    (k7 : PySem.W.keepIn K (.ref f7) = true)
    (a11 : PySem.W.nsIn K mainGlobals "_law_pool" = some (some (.ref f11)))
    (l11 : K.lookup f11 = some ⟨oc11, od11, .func (PySem.W.fnOf "_law_pool" "_law_pool" (defArgs sPool) (defBody sPool) (defScope sPool) .none kV11 dc11 pm11 an11 cd11 ct11), sl11⟩)
    (c11 : PySem.W.codeIn K cd11 "_law_pool" = true)
    (k11 : PySem.W.keepIn K (.ref f11) = true)
    (a12 : PySem.W.nsIn K mainGlobals "_law_draw" = some (some (.ref f12)))
    (l12 : K.lookup f12 = some ⟨oc12, od12, .func (PySem.W.fnOf "_law_draw" "_law_draw" (defArgs sDraw) (defBody sDraw) (defScope sDraw) .none kV12 dc12 pm12 an12 cd12 ct12), sl12⟩)
    (c12 : PySem.W.codeIn K cd12 "_law_draw" = true)
    (k12 : PySem.W.keepIn K (.ref f12) = true)
    (a13 : PySem.W.nsIn K mainGlobals "_law_same" = some (some (.ref f13)))
    (l13 : K.lookup f13 = some ⟨oc13, od13, .func (PySem.W.fnOf "_law_same" "_law_same" (defArgs sSame) (defBody sSame) (defScope sSame) .none kV13 dc13 pm13 an13 cd13 ct13), sl13⟩)
    (c13 : PySem.W.codeIn K cd13 "_law_same" = true)
    (k13 : PySem.W.keepIn K (.ref f13) = true)
    (a14 : PySem.W.nsIn K mainGlobals "_law_less" = some (some (.ref f14)))
    (l14 : K.lookup f14 = some ⟨oc14, od14, .func (PySem.W.fnOf "_law_less" "_law_less" (defArgs sRed) (defBody sRed) (defScope sRed) .none kV14 dc14 pm14 an14 cd14 ct14), sl14⟩)
    (c14 : PySem.W.codeIn K cd14 "_law_less" = true)
    (k14 : PySem.W.keepIn K (.ref f14) = true)
    (a15 : PySem.W.nsIn K mainGlobals "_law_plus" = some (some (.ref f15)))
    (l15 : K.lookup f15 = some ⟨oc15, od15, .func (PySem.W.fnOf "_law_plus" "_law_plus" (defArgs sPlus) (defBody sPlus) (defScope sPlus) .none kV15 dc15 pm15 an15 cd15 ct15), sl15⟩)
    (c15 : PySem.W.codeIn K cd15 "_law_plus" = true)
    (k15 : PySem.W.keepIn K (.ref f15) = true)
    (a16 : PySem.W.nsIn K mainGlobals "_law_minus" = some (some (.ref f16)))
    (l16 : K.lookup f16 = some ⟨oc16, od16, .func (PySem.W.fnOf "_law_minus" "_law_minus" (defArgs sMinus) (defBody sMinus) (defScope sMinus) .none kV16 dc16 pm16 an16 cd16 ct16), sl16⟩)
    (c16 : PySem.W.codeIn K cd16 "_law_minus" = true)
    (k16 : PySem.W.keepIn K (.ref f16) = true)
    (a17 : PySem.W.nsIn K mainGlobals "_law_times" = some (some (.ref f17)))
    (l17 : K.lookup f17 = some ⟨oc17, od17, .func (PySem.W.fnOf "_law_times" "_law_times" (defArgs sTimes) (defBody sTimes) (defScope sTimes) .none kV17 dc17 pm17 an17 cd17 ct17), sl17⟩)
    (c17 : PySem.W.codeIn K cd17 "_law_times" = true)
    (k17 : PySem.W.keepIn K (.ref f17) = true)
    (a18 : PySem.W.nsIn K mainGlobals "_law_below" = some (some (.ref f18)))
    (l18 : K.lookup f18 = some ⟨oc18, od18, .func (PySem.W.fnOf "_law_below" "_law_below" (defArgs sBelow) (defBody sBelow) (defScope sBelow) .none kV18 dc18 pm18 an18 cd18 ct18), sl18⟩)
    (c18 : PySem.W.codeIn K cd18 "_law_below" = true)
    (k18 : PySem.W.keepIn K (.ref f18) = true)
    (a19 : PySem.W.nsIn K mainGlobals "_law_is" = some (some (.ref f19)))
    (l19 : K.lookup f19 = some ⟨oc19, od19, .func (PySem.W.fnOf "_law_is" "_law_is" (defArgs sIs) (defBody sIs) (defScope sIs) .none kV19 dc19 pm19 an19 cd19 ct19), sl19⟩)
    (c19 : PySem.W.codeIn K cd19 "_law_is" = true)
    (k19 : PySem.W.keepIn K (.ref f19) = true)
    (a20 : PySem.W.nsIn K mainGlobals "_law_refused" = some (some (.ref f20)))
    (l20 : K.lookup f20 = some ⟨oc20, od20, .func (PySem.W.fnOf "_law_refused" "_law_refused" (defArgs sRef) (defBody sRef) (defScope sRef) .none kV20 dc20 pm20 an20 cd20 ct20), sl20⟩)
    (c20 : PySem.W.codeIn K cd20 "_law_refused" = true)
    (k20 : PySem.W.keepIn K (.ref f20) = true)
    (a21 : PySem.W.nsIn K mainGlobals "_law_pair" = some (some (.ref f21)))
    (l21 : K.lookup f21 = some ⟨oc21, od21, .func (PySem.W.fnOf "_law_pair" "_law_pair" (defArgs sPair) (defBody sPair) (defScope sPair) .none kV21 dc21 pm21 an21 cd21 ct21), sl21⟩)
    (c21 : PySem.W.codeIn K cd21 "_law_pair" = true)
    (k21 : PySem.W.keepIn K (.ref f21) = true)
    (a22 : PySem.W.nsIn K mainGlobals "law" = some (some (.ref f22)))
    (l22 : K.lookup f22 = some ⟨oc22, od22, .func (PySem.W.fnOf "law" "law" (defArgs sLaw) (defBody sLaw) (defScope sLaw) .none kV22 dc22 pm22 an22 cd22 ct22), sl22⟩)
    (c22 : PySem.W.codeIn K cd22 "law" = true)
    (k22 : PySem.W.keepIn K (.ref f22) = true)
    (pgC : PySem.W.plainGet K C Str.empty = true)
    (hdC : PySem.W.hasDictIn K C = true)
    (poC : PySem.W.plainOver K C = true)
    (saC : PySem.W.findIn K (.ref C) "__setattr__" = some (some (.builtin "object.__setattr__")))
    (mkC : PySem.W.makesIn K C = true)
    (kcC : PySem.W.keepIn K (.ref C) = true)
    (sfC : PySem.W.selfFirst K C = true)
    (nNum : PySem.W.findIn K (.ref C) "num" = some none)
    (nDen : PySem.W.findIn K (.ref C) "den" = some none)
    (caC : PySem.W.findIn K (.ref C) "__class__" = some (some (.builtin "object.__class__")))
    (cn : PySem.W.specialIn K (.builtin "object.__class__") "__get__" = some (some (.builtin "getset_descriptor.__get__")))
    (ct : PySem.W.takesIn K (.builtin "object.__class__") = some true)
    (cmC : PySem.W.mroIn K C (.type "object") = some true)
    (gg : PySem.W.nsIn K mainGlobals "gcd" = some (some (.builtin "math.gcd")))
    (z_isinstance : PySem.W.nsIn K mainGlobals "isinstance" = some none)
    (z_int : PySem.W.nsIn K mainGlobals "int" = some none)
    (z_str : PySem.W.nsIn K mainGlobals "str" = some none)
    (z_len : PySem.W.nsIn K mainGlobals "len" = some none)
    (z_list : PySem.W.nsIn K mainGlobals "list" = some none)
    (z_tuple : PySem.W.nsIn K mainGlobals "tuple" = some none)
    (z_bool : PySem.W.nsIn K mainGlobals "bool" = some none)
    (z_range : PySem.W.nsIn K mainGlobals "range" = some none)
    (z_abs : PySem.W.nsIn K mainGlobals "abs" = some none)
    (z_ValueError : PySem.W.nsIn K mainGlobals "ValueError" = some none)
    (aB : PySem.W.nsIn K mainGlobals "BadRatio" = some (some (.ref BR)))
    (xB : PySem.W.excIn K BR bmV "ValueError.__new__" = true)
    (kB : PySem.W.keepIn K (.ref BR) = true)
    (bB : PySem.W.subIn K (.ref BR) (.type "BaseException") = some true)
    (tB : PySem.W.typeIn K (.ref BR) = some (.type "type"))
    (gaB : PySem.W.findIn K (.ref BR) "__getattribute__" = some (some (.builtin "BaseException.__getattribute__")))
    (gtB : PySem.W.findIn K (.ref BR) "__getattr__" = some none)
    (hdB : PySem.W.hasDictIn K BR = true)
    (caB : PySem.W.findIn K (.ref BR) "__class__" = some (some (.builtin "object.__class__")))
    (cmB : PySem.W.mroIn K BR (.type "object") = some true)
    (vB : PySem.W.subIn K (.ref BR) (.type "ValueError") = some true)
    (aL : PySem.W.nsIn K mainGlobals "LossError" = some (some (.ref LE)))
    (bL : PySem.W.subIn K (.ref LE) (.type "BaseException") = some true)
    (hdL : PySem.W.hasDictIn K LE = true)
    (tL : PySem.W.typeIn K (.ref LE) = some (.type "type"))
    (sL : PySem.W.subIn K (.ref BR) (.ref LE) = some true)
    (e1 : PySem.W.nsIn K mainGlobals "BadPaper" = some (some (.ref c_1)))
    (ec1 : PySem.W.isClsIn K c_1 = true)
    (et1 : PySem.W.typeIn K (.ref c_1) = some (.type "type"))
    (es1 : PySem.W.subIn K (.ref BR) (.ref c_1) = some false)
    (en1 : ((Value.ref BR) == (Value.ref c_1)) = false)
    (e2 : PySem.W.nsIn K mainGlobals "BadPlan" = some (some (.ref c_2)))
    (ec2 : PySem.W.isClsIn K c_2 = true)
    (et2 : PySem.W.typeIn K (.ref c_2) = some (.type "type"))
    (es2 : PySem.W.subIn K (.ref BR) (.ref c_2) = some false)
    (en2 : ((Value.ref BR) == (Value.ref c_2)) = false)
    (e3 : PySem.W.nsIn K mainGlobals "BadText" = some (some (.ref c_3)))
    (ec3 : PySem.W.isClsIn K c_3 = true)
    (et3 : PySem.W.typeIn K (.ref c_3) = some (.type "type"))
    (es3 : PySem.W.subIn K (.ref BR) (.ref c_3) = some false)
    (en3 : ((Value.ref BR) == (Value.ref c_3)) = false)
    (e4 : PySem.W.nsIn K mainGlobals "NoPlan" = some (some (.ref c_4)))
    (ec4 : PySem.W.isClsIn K c_4 = true)
    (et4 : PySem.W.typeIn K (.ref c_4) = some (.type "type"))
    (es4 : PySem.W.subIn K (.ref BR) (.ref c_4) = some false)
    (en4 : ((Value.ref BR) == (Value.ref c_4)) = false)
    (e5 : PySem.W.nsIn K mainGlobals "NoShare" = some (some (.ref c_5)))
    (ec5 : PySem.W.isClsIn K c_5 = true)
    (et5 : PySem.W.typeIn K (.ref c_5) = some (.type "type"))
    (es5 : PySem.W.subIn K (.ref BR) (.ref c_5) = some false)
    (en5 : ((Value.ref BR) == (Value.ref c_5)) = false)
    (e6 : PySem.W.nsIn K mainGlobals "TooLarge" = some (some (.ref c_6)))
    (ec6 : PySem.W.isClsIn K c_6 = true)
    (et6 : PySem.W.typeIn K (.ref c_6) = some (.type "type"))
    (es6 : PySem.W.subIn K (.ref BR) (.ref c_6) = some false)
    (en6 : ((Value.ref BR) == (Value.ref c_6)) = false)
    : ∃ fd : FuncData, (∀ (s : Shared) (v : Value), BindsTo s fd ⟨[v], []⟩ [("script", v)]) ∧ ∀ base : Heap, K.In base → base.Ns mainGlobals mg → FnOk l.prog w K mg base CX0 5 fa fd ["script"] (spLaw K) := by
  have e := hfa.symm.trans (PySem.W.mg_of X G a22)
  cases e
  have T : Txt K mg C BR := ⟨⟨pgC, hdC, poC, saC⟩, nNum, nDen, PySem.W.mg_of X G aC, ⟨caC, cn, ct, cmC⟩, PySem.W.mg_of X G gg, PySem.W.mg_of X G aB, xB, kB, bB, tB, PySem.W.mg_none_of X G z_isinstance, PySem.W.mg_none_of X G z_int, PySem.W.mg_none_of X G z_str, PySem.W.mg_none_of X G z_len, PySem.W.mg_none_of X G z_list, PySem.W.mg_none_of X G z_tuple, PySem.W.mg_none_of X G z_bool, PySem.W.mg_none_of X G z_range, PySem.W.mg_none_of X G z_abs⟩
  have TE : TxE K mg BR LE c_1 c_2 c_3 c_4 c_5 c_6 := ⟨⟨gaB, gtB, bB, hdB, caB, cn, ct, cmB⟩, PySem.W.mg_of X G aL, PySem.W.exm_ref bL hdL tL sL, PySem.W.mg_of X G e1, PySem.W.mg_of X G e2, PySem.W.mg_of X G e3, PySem.W.mg_of X G e4, PySem.W.mg_of X G e5, PySem.W.mg_of X G e6, kit_cl en1 ec1 et1 es1, kit_cl en2 ec2 et2 es2, kit_cl en3 ec3 et3 es3, kit_cl en4 ec4 et4 es4, kit_cl en5 ec5 et5 es5, kit_cl en6 ec6 et6 es6, PySem.W.mg_none_of X G z_ValueError, kit_bt (by decide +kernel) vB⟩
  have F0 : FunD K "__init__" "Ratio.__init__" (defArgs sInit) (defBody sInit) (defScope sInit) [.int 1] [] f0 (PySem.W.fnOf "__init__" "Ratio.__init__" (defArgs sInit) (defBody sInit) (defScope sInit) (.ref TD) kV0 dc0 pm0 an0 cd0 ct0) :=
    ⟨⟨oc0, od0, .ref TD, kV0, dc0, pm0, an0, cd0, ct0, sl0, rfl, l0, c0, .inr ⟨(fun z => nomatch z), TD, _, [.int 1 tkT], nT, rfl, lT, rfl, .cons ⟨tkT, rfl⟩ .nil⟩, .inl rfl⟩, k0⟩
  have M : Mk K C f0 := ⟨mkC, a0, i0, kcC⟩
  have bI : Binds K (PySem.W.fnOf "__init__" "Ratio.__init__" (defArgs sInit) (defBody sInit) (defScope sInit) (.ref TD) kV0 dc0 pm0 an0 cd0 ct0) ["self", "num", "den"] [] := by
    obtain ⟨ds, v, b⟩ := F0.binds1 (ps := ["self", "num", "den"]) 3 1 (fun z => nomatch z) rfl fun T kV doc pm an cdv ct us its hl hi => match us, its, hl, hi with | [_, _, _], [_], _, _ => ⟨_, rfl, rfl⟩
    have e := v.zero
    subst e
    exact b
  obtain ⟨ds1, v1, b1'⟩ := F0.binds1 (ps := ["self", "num", "den"]) 2 0 (fun z => nomatch z) rfl fun T kV doc pm an cdv ct us its hl hi => match us, its, hl, hi with | [_, _], [_], _, _ => ⟨_, rfl, rfl⟩
  obtain ⟨_, kb1⟩ := F0.kbindsD (ps := ["self", "num", "den"]) 2 ["den"] (fun us _ ws => us ++ ws) (fun z => nomatch z) (fun r1 _ r3 => r1.append r3) fun T kV doc pm an cdv ct us its ws hl hi hw => match us, its, ws, hl, hi, hw with | [_, _], [_], [_], _, _, _ => ⟨_, rfl, rfl⟩
  obtain ⟨_, kb2⟩ := F0.kbindsD (ps := ["self", "num", "den"]) 1 ["den", "num"] (fun us _ ws => us ++ ws.reverse) (fun z => nomatch z) (fun r1 _ r3 => r1.append r3.reverse) fun T kV doc pm an cdv ct us its ws hl hi hw => match us, its, ws, hl, hi, hw with | [_], [_], [_, _], _, _, _ => ⟨_, rfl, rfl⟩
  have F1 := fun_mk (st := sAdd) l1 c1 k1
  have b1 := F1.binds (ps := ["self", "other"]) fun _ _ _ _ _ _ us hl => match us, hl with | [_, _], _ => rfl
  have F2 := fun_mk (st := sSub) l2 c2 k2
  have b2 := F2.binds (ps := ["self", "other"]) fun _ _ _ _ _ _ us hl => match us, hl with | [_, _], _ => rfl
  have F3 := fun_mk (st := sMul) l3 c3 k3
  have b3 := F3.binds (ps := ["self", "other"]) fun _ _ _ _ _ _ us hl => match us, hl with | [_, _], _ => rfl
  have F4 := fun_mk (st := sEq) l4 c4 k4
  have b4 := F4.binds (ps := ["self", "other"]) fun _ _ _ _ _ _ us hl => match us, hl with | [_, _], _ => rfl
  have F5 := fun_mk (st := sStr) l5 c5 k5
  have b5 := F5.binds (ps := ["self"]) fun _ _ _ _ _ _ us hl => match us, hl with | [_], _ => rfl
  have F6 := fun_mk (st := sLess) l6 c6 k6
  have b6 := F6.binds (ps := ["self", "other"]) fun _ _ _ _ _ _ us hl => match us, hl with | [_, _], _ => rfl
  have F7 := fun_mk (st := sOver) l7 c7 k7
  have b7 := F7.binds (ps := ["self", "other"]) fun _ _ _ _ _ _ us hl => match us, hl with | [_, _], _ => rfl
  have F11 := fun_mk (st := sPool) l11 c11 k11
  have b11 := F11.binds (ps := ["script", "budget"]) fun _ _ _ _ _ _ us hl => match us, hl with | [_, _], _ => rfl
  have F12 := fun_mk (st := sDraw) l12 c12 k12
  have b12 := F12.binds (ps := ["pool", "size"]) fun _ _ _ _ _ _ us hl => match us, hl with | [_, _], _ => rfl
  have F13 := fun_mk (st := sSame) l13 c13 k13
  have b13 := F13.binds (ps := ["actual", "due"]) fun _ _ _ _ _ _ us hl => match us, hl with | [_, _], _ => rfl
  have F14 := fun_mk (st := sRed) l14 c14 k14
  have b14 := F14.binds (ps := ["num", "den"]) fun _ _ _ _ _ _ us hl => match us, hl with | [_, _], _ => rfl
  have F15 := fun_mk (st := sPlus) l15 c15 k15
  have b15 := F15.binds (ps := ["one", "other"]) fun _ _ _ _ _ _ us hl => match us, hl with | [_, _], _ => rfl
  have F16 := fun_mk (st := sMinus) l16 c16 k16
  have b16 := F16.binds (ps := ["one", "other"]) fun _ _ _ _ _ _ us hl => match us, hl with | [_, _], _ => rfl
  have F17 := fun_mk (st := sTimes) l17 c17 k17
  have b17 := F17.binds (ps := ["one", "other"]) fun _ _ _ _ _ _ us hl => match us, hl with | [_, _], _ => rfl
  have F18 := fun_mk (st := sBelow) l18 c18 k18
  have b18 := F18.binds (ps := ["one", "other"]) fun _ _ _ _ _ _ us hl => match us, hl with | [_, _], _ => rfl
  have F19 := fun_mk (st := sIs) l19 c19 k19
  have b19 := F19.binds (ps := ["ratio", "due"]) fun _ _ _ _ _ _ us hl => match us, hl with | [_, _], _ => rfl
  have F20 := fun_mk (st := sRef) l20 c20 k20
  have b20 := F20.binds (ps := ["one", "other"]) fun _ _ _ _ _ _ us hl => match us, hl with | [_, _], _ => rfl
  have F21 := fun_mk (st := sPair) l21 c21 k21
  have b21 := F21.binds (ps := ["pool"]) fun _ _ _ _ _ _ us hl => match us, hl with | [_], _ => rfl
  have F22 := fun_mk (st := sLaw) l22 c22 k22
  refine ⟨PySem.W.fnOf "law" "law" (defArgs sLaw) (defBody sLaw) (defScope sLaw) .none kV22 dc22 pm22 an22 cd22 ct22, fun s v => .of_eq rfl, fun base _ _ => ok_law F22 T ?_⟩
  have GI := ok_init (P := l.prog) (w := w) (base := base) F0 T
  have GO := ok_over (P := l.prog) (w := w) (base := base) F7 T M GI bI
  have GR := ok_red (P := l.prog) (w := w) (base := base) F14 T
  have GD := ok_draw (P := l.prog) (w := w) (base := base) F12 T
  have GS := ok_same1 (P := l.prog) (w := w) (base := base) F13 T (PySem.W.mg_of X G a13) b13
  exact { pool := ⟨_, _, ok_pool F11 T, (PySem.W.mg_of X G a11), k11, b11⟩,
           draw := ⟨_, _, GD, (PySem.W.mg_of X G a12), k12, b12⟩,
           same := ⟨_, _, ok_same0 F13 T, (PySem.W.mg_of X G a13), k13, b13⟩,
           red := ⟨_, _, GR, (PySem.W.mg_of X G a14), k14, b14⟩,
           plus := ⟨_, _, ok_plus F15 GR (PySem.W.mg_of X G a14) k14 b14, (PySem.W.mg_of X G a15), k15, b15⟩,
           minus := ⟨_, _, ok_minus F16 GR (PySem.W.mg_of X G a14) k14 b14, (PySem.W.mg_of X G a16), k16, b16⟩,
           times := ⟨_, _, ok_times F17 GR (PySem.W.mg_of X G a14) k14 b14, (PySem.W.mg_of X G a17), k17, b17⟩,
           below := ⟨_, _, ok_below F18, (PySem.W.mg_of X G a18), k18, b18⟩,
           is := ⟨_, _, ok_is F19 T GS (PySem.W.mg_of X G a13) k13 b13, (PySem.W.mg_of X G a19), k19, b19⟩,
           ref := ⟨_, _, ok_ref F20 T TE M GI bI GO b7 ⟨a7, i7, k7⟩, (PySem.W.mg_of X G a20), k20, b20⟩,
           pair := ⟨_, _, ok_pair F21 T GD (PySem.W.mg_of X G a12) k12 b12, (PySem.W.mg_of X G a21), k21, b21⟩,
           add := ⟨_, _, ok_add F1 T M GI bI, a1, i1, k1, b1⟩,
           sub := ⟨_, _, ok_sub F2 T M GI bI, a2, i2, k2, b2⟩,
           mul := ⟨_, _, ok_mul F3 T M GI bI, a3, i3, k3, b3⟩,
           eq := ⟨_, _, ok_eq F4 T, a4, i4, k4, b4⟩,
           str := ⟨_, _, ok_str F5 T, a5, i5, k5, b5⟩,
           less := ⟨_, _, ok_less F6 T, a6, i6, k6, b6⟩,
           over := ⟨_, _, GO, ⟨a7, i7, k7⟩, b7⟩,
           sf := sfC,
           make := ⟨_, _, ds1, M, GI, bI, ⟨v1, b1'⟩, kb1, kb2⟩ }
end K0

open PySem PySem.W PyProof.Rows
set_option maxRecDepth 100000 in
set_option maxHeartbeats 0 in
theorem PySem.Challenge.cw_lostleast_k00_fractions_holds : PySem.Challenge.rw_lostleast_k00_fractions.Holds := by
  w_on; o_law; k_head; (case hw => w_witness2)
  k_fill
  refine L2.walk_of (l := PySem.Challenge.rw_lostleast_k00_fractions) (n := 63) (k := 5) (x := "script") (CX := fun _ => L2.CX0) (sp := fun w => K0.spLaw _) rfl (by decide) rfl ⟨rfl, by decide, by decide⟩ (fun w h Y => PySem.W.kIn_of Y) ?F (fun _ _ a ns hl _ hS => ⟨a, ns, rfl, hS, hl, fun _ => rfl⟩) (fun _ _ _ _ _ h => h)
  case F =>
    intro w mg fa h KX G hmg
    refine' K0.all_mk KX G hmg ?aC ?a0 ?i0 ?l0 ?c0 ?k0 ?lT ?a1 ?i1 ?l1 ?c1 ?k1 ?a2 ?i2 ?l2 ?c2 ?k2 ?a3 ?i3 ?l3 ?c3 ?k3 ?a4 ?i4 ?l4 ?c4 ?k4 ?a5 ?i5 ?l5 ?c5 ?k5 ?a6 ?i6 ?l6 ?c6 ?k6 ?a7 ?i7 ?l7 ?c7 ?k7 ?a11 ?l11 ?c11 ?k11 ?a12 ?l12 ?c12 ?k12 ?a13 ?l13 ?c13 ?k13 ?a14 ?l14 ?c14 ?k14 ?a15 ?l15 ?c15 ?k15 ?a16 ?l16 ?c16 ?k16 ?a17 ?l17 ?c17 ?k17 ?a18 ?l18 ?c18 ?k18 ?a19 ?l19 ?c19 ?k19 ?a20 ?l20 ?c20 ?k20 ?a21 ?l21 ?c21 ?k21 ?a22 ?l22 ?c22 ?k22 ?pgC ?hdC ?poC ?saC ?mkC ?kcC ?sfC ?nNum ?nDen ?caC ?cn ?ct ?cmC ?gg ?z_isinstance ?z_int ?z_str ?z_len ?z_list ?z_tuple ?z_bool ?z_range ?z_abs ?z_ValueError ?aB ?xB ?kB ?bB ?tB ?gaB ?gtB ?hdB ?caB ?cmB ?vB ?aL ?bL ?hdL ?tL ?sL ?e1 ?ec1 ?et1 ?es1 ?en1 ?e2 ?ec2 ?et2 ?es2 ?en2 ?e3 ?ec3 ?et3 ?es3 ?en3 ?e4 ?ec4 ?et4 ?es4 ?en4 ?e5 ?ec5 ?et5 ?es5 ?en5 ?e6 ?ec6 ?et6 ?es6 ?en6
    (case aC => k_is)
    (case a0 => k_is)
    (case i0 => k_is)
    (case l0 => k_is)
    (case c0 => k_is)
    (case k0 => k_is)
    (case lT => k_is)
    (case a1 => k_is)
    (case i1 => k_is)
    (case l1 => k_is)
    (case c1 => k_is)
    (case k1 => k_is)
    (case a2 => k_is)
    (case i2 => k_is)
    (case l2 => k_is)
    (case c2 => k_is)
    (case k2 => k_is)
    (case a3 => k_is)
    (case i3 => k_is)
    (case l3 => k_is)
    (case c3 => k_is)
    (case k3 => k_is)
    (case a4 => k_is)
    (case i4 => k_is)
    (case l4 => k_is)
    (case c4 => k_is)
    (case k4 => k_is)
    (case a5 => k_is)
    (case i5 => k_is)
    (case l5 => k_is)
    (case c5 => k_is)
    (case k5 => k_is)
    (case a6 => k_is)
    (case i6 => k_is)
    (case l6 => k_is)
    (case c6 => k_is)
    (case k6 => k_is)
    (case a7 => k_is)
    (case i7 => k_is)
    (case l7 => k_is)
    (case c7 => k_is)
    (case k7 => k_is)
    (case a11 => k_is)
    (case l11 => k_is)
    (case c11 => k_is)
    (case k11 => k_is)
    (case a12 => k_is)
    (case l12 => k_is)
    (case c12 => k_is)
    (case k12 => k_is)
    (case a13 => k_is)
    (case l13 => k_is)
    (case c13 => k_is)
    (case k13 => k_is)
    (case a14 => k_is)
    (case l14 => k_is)
    (case c14 => k_is)
    (case k14 => k_is)
    (case a15 => k_is)
    (case l15 => k_is)
    (case c15 => k_is)
    (case k15 => k_is)
    (case a16 => k_is)
    (case l16 => k_is)
    (case c16 => k_is)
    (case k16 => k_is)
    (case a17 => k_is)
    (case l17 => k_is)
    (case c17 => k_is)
    (case k17 => k_is)
    (case a18 => k_is)
    (case l18 => k_is)
    (case c18 => k_is)
    (case k18 => k_is)
    (case a19 => k_is)
    (case l19 => k_is)
    (case c19 => k_is)
    (case k19 => k_is)
    (case a20 => k_is)
    (case l20 => k_is)
    (case c20 => k_is)
    (case k20 => k_is)
    (case a21 => k_is)
    (case l21 => k_is)
    (case c21 => k_is)
    (case k21 => k_is)
    (case a22 => k_is)
    (case l22 => k_is)
    (case c22 => k_is)
    (case k22 => k_is)
    (case pgC => k_is)
    (case hdC => k_is)
    (case poC => k_is)
    (case saC => k_is)
    (case mkC => k_is)
    (case kcC => k_is)
    (case sfC => k_is)
    (case nNum => k_is)
    (case nDen => k_is)
    (case caC => k_is)
    (case cn => k_is)
    (case ct => k_is)
    (case cmC => k_is)
    (case gg => k_is)
    (case z_isinstance => k_is)
    (case z_int => k_is)
    (case z_str => k_is)
    (case z_len => k_is)
    (case z_list => k_is)
    (case z_tuple => k_is)
    (case z_bool => k_is)
    (case z_range => k_is)
    (case z_abs => k_is)
    (case z_ValueError => k_is)
    (case aB => k_is)
    (case xB => k_exc)
    (case kB => k_is)
    (case bB => k_is)
    (case tB => k_is)
    (case gaB => k_is)
    (case gtB => k_is)
    (case hdB => k_is)
    (case caB => k_is)
    (case cmB => k_is)
    (case vB => k_is)
    (case aL => k_is)
    (case bL => k_is)
    (case hdL => k_is)
    (case tL => k_is)
    (case sL => k_is)
    (case e1 => k_is)
    (case ec1 => k_is)
    (case et1 => k_is)
    (case es1 => k_is)
    (case en1 => decide)
    (case e2 => k_is)
    (case ec2 => k_is)
    (case et2 => k_is)
    (case es2 => k_is)
    (case en2 => decide)
    (case e3 => k_is)
    (case ec3 => k_is)
    (case et3 => k_is)
    (case es3 => k_is)
    (case en3 => decide)
    (case e4 => k_is)
    (case ec4 => k_is)
    (case et4 => k_is)
    (case es4 => k_is)
    (case en4 => decide)
    (case e5 => k_is)
    (case ec5 => k_is)
    (case et5 => k_is)
    (case es5 => k_is)
    (case en5 => decide)
    (case e6 => k_is)
    (case ec6 => k_is)
    (case et6 => k_is)
    (case es6 => k_is)
    (case en6 => decide)

