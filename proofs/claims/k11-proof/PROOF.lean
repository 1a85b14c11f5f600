import PyProof.Rows.All
import Wide.All
import OpenK.AllK
import Wide.FinOn
import HandS.ForExc
import HandS.Gcd
import HandS.Wide
import HandS.FStr
import HandS.IsInst
import HandS.Defaults
import HandS.MakeKw
import HandS.MakeKwOnly
import HandS.ExcIs
import HandS.SlotsOwn
import HandS.OwnEq
import HandS.CallRecv
import HandS.ExcInit
import KE.KDictKeyed
import HandS.Small
import HandS.Deep
import HandS.Comp
import HandS.Iter
import HandS.Dict
import KE.KEqDict
import KE.KIsAll
import HandS.HotCalls
import HandS.ForMost
import HandS.ExcInitHot
import HandS.Hot
import PyProof.TupleIter
import HandS.Walk
import HandS.Zip
import HandS.More
import HandS.Style
import KE.KStateDown
import HandS.Head0
import HandS.Head1
import HandS.Head2
import HandS.HeadEnd
import HandS.HeadHook1
import HandS.HeadHook2
import HandS.Head3
import HandS.Head4
import PySem.Challenge.RW_lostleast_k11_plans
set_option linter.all false
/-! Fractions in lowest terms, Euclid's loop, and bounds: plain integers. -/
namespace K0
/-- the greatest common divisor, as the program asks for it -/
def G (n d : Int) : Int := ((Nat.gcd n.natAbs d.natAbs : Nat) : Int)
def rn (n d : Int) : Int := n / G n d
def rd (n d : Int) : Int := d / G n d
theorem G_pos {n d : Int} (h : 0 < d) : 0 < G n d := by
  unfold G
  have h1 : 0 < d.natAbs := by omega
  have := Nat.gcd_pos_of_pos_right n.natAbs h1
  omega
theorem G_dvd_l (n d : Int) : G n d ∣ n := by
  unfold G
  exact Int.ofNat_dvd_left.mpr (Nat.gcd_dvd_left _ _)
theorem G_dvd_r (n d : Int) : G n d ∣ d := by
  unfold G
  exact Int.ofNat_dvd_left.mpr (Nat.gcd_dvd_right _ _)
theorem n_eq (n d : Int) : n = G n d * rn n d := by
  unfold rn
  exact (Int.mul_ediv_cancel' (G_dvd_l n d)).symm
theorem d_eq (n d : Int) : d = G n d * rd n d := by
  unfold rd
  exact (Int.mul_ediv_cancel' (G_dvd_r n d)).symm
theorem rd_pos {n d : Int} (h : 0 < d) : 0 < rd n d := by
  have h1 := G_pos (n := n) h
  have h2 := d_eq n d
  rcases Int.lt_trichotomy (rd n d) 0 with h3 | h3 | h3
  · have := Int.mul_neg_of_pos_of_neg h1 h3
    omega
  · rw [h3, Int.mul_zero] at h2
    omega
  · exact h3
theorem G_scale {k : Int} (hk : 0 < k) (x y : Int) : G (k * x) (k * y) = k * G x y := by
  unfold G
  rw [Int.natAbs_mul, Int.natAbs_mul, Nat.gcd_mul_left]
  have : ((k.natAbs : Nat) : Int) = k := by omega
  rw [Int.natCast_mul, this]
theorem rn_scale {k : Int} (hk : 0 < k) (x y : Int) : rn (k * x) (k * y) = rn x y := by
  unfold rn
  rw [G_scale hk, Int.mul_ediv_mul_of_pos _ _ hk]
theorem rd_scale {k : Int} (hk : 0 < k) (x y : Int) : rd (k * x) (k * y) = rd x y := by
  unfold rd
  rw [G_scale hk, Int.mul_ediv_mul_of_pos _ _ hk]
theorem pos2 {n d m e : Int} (h : 0 < d) (h' : 0 < e) : 0 < G n d * G m e := Int.mul_pos (G_pos h) (G_pos h')
/-- what a product of two of the four parts is -/
theorem cross (g h a b : Int) : g * a * (h * b) = g * h * (a * b) := by
  rw [Int.mul_assoc, Int.mul_assoc, Int.mul_left_comm a h b]
section
variable {n d m e : Int}
theorem den_eq : d * e = G n d * G m e * (rd n d * rd m e) := by
  have h1 := d_eq n d
  have h2 := d_eq m e
  rw [← cross, ← h1, ← h2]
theorem ne_eq : n * e = G n d * G m e * (rn n d * rd m e) := by
  have h1 := n_eq n d
  have h2 := d_eq m e
  rw [← cross, ← h1, ← h2]
theorem md_eq : m * d = G n d * G m e * (rn m e * rd n d) := by
  have h1 := n_eq m e
  have h2 := d_eq n d
  rw [Int.mul_comm (G n d) (G m e), ← cross, ← h1, ← h2]
theorem nm_eq : n * m = G n d * G m e * (rn n d * rn m e) := by
  have h1 := n_eq n d
  have h2 := n_eq m e
  rw [← cross, ← h1, ← h2]
theorem add_n : n * e + m * d = G n d * G m e * (rn n d * rd m e + rn m e * rd n d) := by
  rw [Int.mul_add, ← ne_eq, ← md_eq]
theorem sub_n : n * e - m * d = G n d * G m e * (rn n d * rd m e - rn m e * rd n d) := by
  rw [Int.mul_sub, ← ne_eq, ← md_eq]
/-- the sum of two fractions in lowest terms, made so again -/
theorem add_ok (h : 0 < d) (h' : 0 < e) : rn (rn n d * rd m e + rn m e * rd n d) (rd n d * rd m e) = rn (n * e + m * d) (d * e) ∧ rd (rn n d * rd m e + rn m e * rd n d) (rd n d * rd m e) = rd (n * e + m * d) (d * e) := by
  have e1 : n * e + m * d = _ := add_n (n := n) (d := d) (m := m) (e := e)
  have e2 : d * e = _ := den_eq (n := n) (d := d) (m := m) (e := e)
  rw [e1, e2, rn_scale (pos2 h h'), rd_scale (pos2 h h')]
  exact ⟨rfl, rfl⟩
theorem sub_ok (h : 0 < d) (h' : 0 < e) : rn (rn n d * rd m e - rn m e * rd n d) (rd n d * rd m e) = rn (n * e - m * d) (d * e) ∧ rd (rn n d * rd m e - rn m e * rd n d) (rd n d * rd m e) = rd (n * e - m * d) (d * e) := by
  have e1 : n * e - m * d = _ := sub_n (n := n) (d := d) (m := m) (e := e)
  have e2 : d * e = _ := den_eq (n := n) (d := d) (m := m) (e := e)
  rw [e1, e2, rn_scale (pos2 h h'), rd_scale (pos2 h h')]
  exact ⟨rfl, rfl⟩
theorem mul_ok (h : 0 < d) (h' : 0 < e) : rn (rn n d * rn m e) (rd n d * rd m e) = rn (n * m) (d * e) ∧ rd (rn n d * rn m e) (rd n d * rd m e) = rd (n * m) (d * e) := by
  have e1 : n * m = _ := nm_eq (n := n) (d := d) (m := m) (e := e)
  have e2 : d * e = _ := den_eq (n := n) (d := d) (m := m) (e := e)
  rw [e1, e2, rn_scale (pos2 h h'), rd_scale (pos2 h h')]
  exact ⟨rfl, rfl⟩
theorem less_ok (h : 0 < d) (h' : 0 < e) : (rn n d * rd m e < rn m e * rd n d) ↔ (n * e < m * d) := by
  have e1 : n * e = _ := ne_eq (n := n) (d := d) (m := m) (e := e)
  have e2 : m * d = _ := md_eq (n := n) (d := d) (m := m) (e := e)
  have hp := pos2 (n := n) (m := m) h h'
  rw [e1, e2]
  exact ⟨fun q => Int.mul_lt_mul_of_pos_left q hp, fun q => Int.lt_of_mul_lt_mul_left q (Int.le_of_lt hp)⟩
theorem rn_zero (h : 0 < d) : rn n d = 0 ↔ n = 0 := by
  constructor
  · intro q
    have := n_eq n d
    rw [q, Int.mul_zero] at this
    exact this
  · intro q
    unfold rn
    rw [q, Int.zero_ediv]
theorem rn_sign (h : 0 < d) : 0 < rn n d ↔ 0 < n := by
  have h1 := n_eq n d
  have hg := G_pos (n := n) h
  constructor
  · intro q
    rw [h1]
    exact Int.mul_pos hg q
  · intro q
    rcases Int.lt_trichotomy (rn n d) 0 with h3 | h3 | h3
    · have := Int.mul_neg_of_pos_of_neg hg h3
      omega
    · rw [h3, Int.mul_zero] at h1
      omega
    · exact h3
/-- the sign of a number that is not 0 -/
def sg (m : Int) : Int := if 0 < m then 1 else -1
theorem sg_rn (h : 0 < d) : sg (rn n d) = sg n := by
  unfold sg
  by_cases q : 0 < n
  · rw [if_pos q, if_pos ((rn_sign h).mpr q)]
  · rw [if_neg q, if_neg fun z => q ((rn_sign h).mp z)]
theorem sg_abs {x : Int} (h : x ≠ 0) : x * sg x = if x < 0 then 0 - x else x := by
  unfold sg
  by_cases q : 0 < x
  · rw [if_pos q, if_neg (by omega)]
    omega
  · rw [if_neg q, if_pos (by omega)]
    omega
/-- the quotient -/
theorem over_ok (h : 0 < d) (h' : 0 < e) (hm : m ≠ 0) :
    rn (sg (rn m e) * rn n d * rd m e) (rd n d * (if rn m e < 0 then 0 - rn m e else rn m e)) = rn (n * e * sg m) (d * m * sg m) ∧ rd (sg (rn m e) * rn n d * rd m e) (rd n d * (if rn m e < 0 then 0 - rn m e else rn m e)) = rd (n * e * sg m) (d * m * sg m) ∧
      0 < rd n d * (if rn m e < 0 then 0 - rn m e else rn m e) ∧ 0 < d * m * sg m := by
  have hp := pos2 (n := n) (m := m) h h'
  have hz : rn m e ≠ 0 := fun z => hm ((rn_zero h').mp z)
  have es := sg_rn (n := m) h'
  rw [← sg_abs hz, es]
  have e1 : n * e * sg m = G n d * G m e * (sg m * rn n d * rd m e) := by
    rw [ne_eq (n := n) (d := d) (m := m) (e := e), Int.mul_assoc (G n d * G m e), Int.mul_comm _ (sg m), Int.mul_assoc (sg m)]
  have e2 : d * m * sg m = G n d * G m e * (rd n d * (rn m e * sg m)) := by
    have q : d * m = G n d * G m e * (rd n d * rn m e) := by
      have h1 := d_eq n d
      have h2 := n_eq m e
      rw [← cross, ← h1, ← h2]
    rw [q, Int.mul_assoc (G n d * G m e), Int.mul_assoc (rd n d)]
  have hs : 0 < rn m e * sg m := by
    rw [← es, sg_abs hz]
    split <;> omega
  have h3 : 0 < rd n d * (rn m e * sg m) := Int.mul_pos (rd_pos h) hs
  rw [e1, e2, rn_scale hp, rd_scale hp]
  exact ⟨rfl, rfl, h3, Int.mul_pos hp h3⟩
end
/-! ### Euclid's loop -/
/-- behind i turns of at most 4000: a, b ≥ 0, their divisor is g, and b falls -/
structure Eu (g : Nat) (i : Nat) (a b : Nat) : Prop where
  gc : Nat.gcd a b = g
  ms : (i = 0 ∧ b < 2 ^ 1000) ∨ (0 < i ∧ b < a ∧ a * b * 2 ^ (i - 1) < 2 ^ 2000)
theorem Eu.start {a b : Nat} (h : b < 2 ^ 1000) : Eu (Nat.gcd a b) 0 a b := ⟨rfl, .inl ⟨rfl, h⟩⟩
theorem Eu.turn {g i a b : Nat} (E : Eu g i a b) (hb : b ≠ 0) : Eu g (i + 1) b (a % b) := by
  have hb' : 0 < b := Nat.pos_of_ne_zero hb
  have hl : a % b < b := Nat.mod_lt _ hb'
  refine ⟨?_, .inr ⟨Nat.succ_pos _, hl, ?_⟩⟩
  · rw [← E.gc, Nat.gcd_comm a b, Nat.gcd_rec b a, Nat.gcd_comm]
  · rw [Nat.add_sub_cancel]
    rcases E.ms with ⟨e, h⟩ | ⟨hi, hba, h⟩
    · rw [e]
      have h1 : b * (a % b) < 2 ^ 1000 * 2 ^ 1000 := Nat.mul_lt_mul'' h (Nat.lt_trans hl h)
      rw [← Nat.pow_add] at h1
      rw [Nat.pow_zero, Nat.mul_one]
      exact h1
    · have e1 : i = (i - 1) + 1 := by omega
      have h2 : (a % b) * 2 ≤ a := by
        have h3 := Nat.div_add_mod a b
        have h4 : 1 ≤ a / b := (Nat.le_div_iff_mul_le hb').mpr (by omega)
        have h5 : b * 1 ≤ b * (a / b) := Nat.mul_le_mul_left b h4
        omega
      have h6 : b * (a % b) * 2 ^ i ≤ a * b * 2 ^ (i - 1) := by
        have : b * (a % b) * 2 ^ i = b * ((a % b) * 2) * 2 ^ (i - 1) := by
          have q : 2 ^ i = 2 * 2 ^ (i - 1) := by
            rw [e1, Nat.pow_succ, Nat.add_sub_cancel, Nat.mul_comm]
          rw [q, ← Nat.mul_assoc, Nat.mul_assoc b (a % b) 2]
        rw [this, Nat.mul_comm a b]
        exact Nat.mul_le_mul_right _ (Nat.mul_le_mul_left b h2)
      exact Nat.lt_of_le_of_lt h6 h
theorem Eu.out {g a b : Nat} (E : Eu g 4000 a b) : b = 0 := by
  rcases E.ms with ⟨e, _⟩ | ⟨_, hba, h⟩
  · cases e
  · rcases Nat.eq_zero_or_pos b with q | q
    · exact q
    · have h1 : 1 ≤ a * b := Nat.mul_pos (by omega) q
      have h2 : 1 * 2 ^ (4000 - 1) ≤ a * b * 2 ^ (4000 - 1) := Nat.mul_le_mul_right _ h1
      have h3 : (2 : Nat) ^ 2000 ≤ 2 ^ (4000 - 1) := Nat.pow_le_pow_right (by decide) (by decide)
      omega
theorem Eu.fin {g i a : Nat} (E : Eu g i a 0) : a = g := by
  have := E.gc
  rw [Nat.gcd_zero_right] at this
  exact this
/-! ### bounds -/
/-- a number of less than k bits -/
def Bd (k : Nat) (x : Int) : Prop := x.natAbs < 2 ^ k
theorem Bd.le {j k : Nat} {x : Int} (h : Bd j x) (hjk : j ≤ k) : Bd k x := Nat.lt_of_lt_of_le h (Nat.pow_le_pow_right (by decide) hjk)
theorem Bd.mul {j k : Nat} {x y : Int} (h : Bd j x) (h' : Bd k y) : Bd (j + k) (x * y) := by
  unfold Bd
  rw [Int.natAbs_mul, Nat.pow_add]
  exact Nat.mul_lt_mul'' h h'
theorem Bd.add {k : Nat} {x y : Int} (h : Bd k x) (h' : Bd k y) : Bd (k + 1) (x + y) := by
  unfold Bd at *
  rw [Nat.pow_succ]
  omega
theorem Bd.sub {k : Nat} {x y : Int} (h : Bd k x) (h' : Bd k y) : Bd (k + 1) (x - y) := by
  unfold Bd at *
  rw [Nat.pow_succ]
  omega
theorem Bd.of_abs {k : Nat} {x y : Int} (h : Bd k x) (e : y.natAbs ≤ x.natAbs) : Bd k y := Nat.lt_of_le_of_lt e h
theorem div_abs {g q n : Int} (hg : 0 < g) (e : n = g * q) : q.natAbs ≤ n.natAbs := by
  rw [e, Int.natAbs_mul]
  exact Nat.le_mul_of_pos_left _ (by omega)
theorem Bd.rn {k : Nat} {n d : Int} (h : 0 < d) (hn : Bd k n) : Bd k (rn n d) := hn.of_abs (div_abs (G_pos h) (n_eq n d))
theorem Bd.rd {k : Nat} {n d : Int} (h : 0 < d) (hn : Bd k d) : Bd k (rd n d) := hn.of_abs (div_abs (G_pos (n := n) h) (d_eq n d))
theorem Bd.G {k : Nat} {n d : Int} (h : 0 < d) (hn : Bd k d) : Bd k (G n d) := by
  refine hn.of_abs (div_abs (g := K0.rd n d) (rd_pos h) ?_)
  rw [Int.mul_comm]
  exact d_eq n d
theorem Bd.sg {k : Nat} {n m : Int} (h : Bd k n) : Bd k (n * sg m) ∧ Bd k (sg m * n) := by
  unfold K0.sg
  constructor
  · split
    · rwa [Int.mul_one]
    · refine h.of_abs ?_
      rw [Int.natAbs_mul]
      show n.natAbs * 1 ≤ _
      omega
  · split
    · rwa [Int.one_mul]
    · refine h.of_abs ?_
      rw [Int.natAbs_mul]
      show 1 * n.natAbs ≤ _
      omega
theorem Bd.of_small {x : Int} {k : Nat} (h : x.natAbs < 1073741824) (hk : 30 ≤ k) : Bd k x := Bd.le (j := 30) (by unfold Bd; exact Nat.lt_of_lt_of_le h (by decide)) hk
end K0

set_option Elab.async false
set_option linter.all false
set_option maxRecDepth 100000
set_option maxHeartbeats 4000000
/-! Own operators, == and str() of plain instances; making and methods within a try; isinstance of a caught error by a tuple of classes. -/
namespace K0
open PySem PySem.Spec PyProof.Rows L2
section
variable {X : Cx} {CX : CXT} {k : Nat} {f C : Addr} {fd : FuncData} {ps : List Str} {sp : Sp} {E : XK}
def rOwnB (C : Addr) (sp : Sp) (E : XK) : R2 := fun x y H Q => ∃ a dx fs b dy gs, x = .ref a ∧ y = .ref b ∧ H a = some (.ins C dx fs) ∧ H b = some (.ins C dy gs) ∧ sp [x, y] H Q E
theorem op_ownB {op : Operator} (F : FnOk X.prog X.w X.K X.mg X.base CX k f fd ps sp) (hr : Room k X.A) (hc : PySem.W.selfFirst X.K C = true)
    (hs : PySem.W.findIn X.K (.ref C) (PySem.dunder op.info.2) = some (some (.ref f))) (hf : PySem.W.isFn X.K (.ref f) = true) (hb : Binds X.K fd ps []) (hx : Passes CX X E) : OpR X (binaryOp op) (rOwnB C sp E) := by
  intro pins s σ H x y v u Q I rx ry h
  obtain ⟨a, dx, fs, b, dy, gs, rfl, rfl, ha, hb', q⟩ := h
  cases (show v = Value.ref a from rx)
  cases (show u = Value.ref b from ry)
  obtain ⟨mA, J, _⟩ := ins_get I.hok ha
  obtain ⟨mB, J', _⟩ := ins_get I.hok hb'
  obtain ⟨od, J, _⟩ := J.look
  obtain ⟨od', J', _⟩ := J'.look
  obtain ⟨m, hF⟩ := I.fr
  refine PySem.W.binop_K hF I.ok.mod.kin J J'.type hc hs hf ?_
  refine wpAny_mono (run_fn (us := [.ref a, .ref b]) (vs := [.ref a, .ref b]) (ds := []) (dvs := []) F hr hb .nil hx I (.cons rfl (.cons rfl .nil)) q) (fun w s' z => ?_) fun _ _ x => x
  obtain ⟨z', H', I', rz, qz⟩ := z
  exact SlX.cmpback rz ⟨z', H', I', rz, qz⟩
theorem op_ownE (F : FnOk X.prog X.w X.K X.mg X.base CX k f fd ps sp) (hr : Room k X.A)
    (hs : PySem.W.findIn X.K (.ref C) "__eq__" = some (some (.ref f))) (hf : PySem.W.isFn X.K (.ref f) = true) (hb : Binds X.K fd ps []) (hx : Passes CX X E) : OpR X (compareOp .Eq) (rOwnB C sp E) := by
  intro pins s σ H x y v u Q I rx ry h
  obtain ⟨a, dx, fs, b, dy, gs, rfl, rfl, ha, hb', q⟩ := h
  cases (show v = Value.ref a from rx)
  cases (show u = Value.ref b from ry)
  obtain ⟨mA, J, _⟩ := ins_get I.hok ha
  obtain ⟨mB, J', _⟩ := ins_get I.hok hb'
  obtain ⟨od, J, _⟩ := J.look
  obtain ⟨od', J', _⟩ := J'.look
  obtain ⟨m, hF⟩ := I.fr
  show wpAny (model X.prog X.w) X.A (richCompare .Eq (.ref a) (.ref b)) _ _ _
  refine PySem.W.cmp_K (op := .Eq) (tb := .ref C) hr.units0 hF I.ok.mod.kin J J'.type (by simp [PySem.W.notFirst]) hs hf ?_
  refine wpAny_mono (run_fn (us := [.ref a, .ref b]) (vs := [.ref a, .ref b]) (ds := []) (dvs := []) F hr hb .nil hx I (.cons rfl (.cons rfl .nil)) q) (fun w s' z => ?_) fun _ _ x => x
  obtain ⟨z', H', I', rz, qz⟩ := z
  exact SlX.cmpback rz ⟨z', H', I', rz, qz⟩
def rStrOwn (C : Addr) (sp : Sp) (E : XK) : List V → Hp → VK → Prop := fun xs H Q => ∃ a dx fs, xs = [.ref a] ∧ H a = some (.ins C dx fs) ∧ sp [.ref a] H (fun z H' => ∃ y, z = .str y ∧ Q z H') E
theorem call_strOwn (F : FnOk X.prog X.w X.K X.mg X.base CX k f fd ps sp) (hr : Room (k + 2) X.A)
    (hs : PySem.W.findIn X.K (.ref C) "__str__" = some (some (.ref f))) (hf : PySem.W.isFn X.K (.ref f) = true) (hb : Binds X.K fd ps []) (hx : Passes CX X E) : CallR X (.type "str") (rStrOwn C sp E) := by
  intro pins s σ H xs us Q I r h
  obtain ⟨a, dx, fs, rfl, ha, q⟩ := h
  obtain ⟨u, rfl, ru⟩ := r.one
  cases (show u = Value.ref a from ru)
  obtain ⟨mA, J, _⟩ := ins_get I.hok ha
  obtain ⟨od, J, _⟩ := J.look
  have hr2 : Room k X.A.in1.in1 := (show Room (k + 1) X.A.in1 from Room.in1 hr).in1
  have hl := F.len _ _ _ _ q
  refine PySem.W.kso_call hr2.units0 I.kIn J hs hf (wpAny_call (codeAny_mono (F.run X.A.in1.in1 X.stack s H ⟨[.ref a], []⟩ [.ref a] [.ref a] _ E hr2 I.env0.in1.in1 (by
    have := hb s [.ref a] I.kIn (by simpa using hl)
    simpa using this) (.cons rfl .nil) q) fun r s' hq => ?_))
  cases r with
  | error e => exact hx pins σ H s e s' I hq
  | ok fl =>
    cases fl with
    | ret w =>
      obtain ⟨z, H', I', rz, y, ez, qz⟩ := I.after hq
      subst ez
      obtain ⟨t, e⟩ := (show ∃ t, w = Value.str y t from rz)
      cases e
      exact ⟨.str y, H', I', ⟨t, rfl⟩, qz⟩
    | next => exact False.elim hq
    | brk => exact False.elim hq
    | cont => exact False.elim hq
end
/-! ### within a try: what is wished at the slots -/
section
variable {X : Cx} {CX : CXT} {k : Nat} {f C : Addr} {fd : FuncData} {ps : List Str} {sp : Sp} {dvs : List V} {ds : List Value} {E : L2.St → XK} {x m : Str} {p pos apos : Pos} {e o : Expr} {es : List Expr} {ta : TE} {t : TA}
def tMakeS (C : Addr) (sp : Sp) (E : L2.St → XK) (t : TA) : TE := fun σ H Q => t σ H fun vs H1 => ∀ x dx, H1 x = none → H1 dx = none → dx ≠ x →
  sp (.ref x :: vs) (upd (upd H1 dx (.own x)) x (.ins C dx [])) (fun v H2 => v = .non ∧ Q (.ref x) H2) (E σ)
def tMethS (C : Addr) (m : Str) (sp : Sp) (E : L2.St → XK) (ta : TE) (t : TA) : TE := fun σ H Q => ta σ H fun x H1 => ∃ a dx fs, x = .ref a ∧ H1 a = some (.ins C dx fs) ∧ fs.lookup m = none ∧
  t σ H1 fun vs H2 => sp (x :: vs) H2 Q (E σ)
theorem run_makeS {pins : List (Addr × Obj)} {σ : L2.St} {H : Hp} {s : Shared} {Q : VK} {us : List Value} {vs : List V} (M : Mk X.K C f) (F : FnOk X.prog X.w X.K X.mg X.base CX k f fd ps sp) (hr : Room (k + 1) X.A) (hb : Binds X.K fd ps [])
    (hx : PassesAt CX X σ (E σ)) (I : Inv X pins σ H s) (r : Vals vs us)
    (h : ∀ x dx, H x = none → H dx = none → dx ≠ x → sp (.ref x :: vs) (upd (upd H dx (.own x)) x (.ins C dx [])) (fun v H2 => v = .non ∧ Q (.ref x) H2) (E σ)) :
    wpAny (model X.prog X.w) X.A (call (.ref C) us) (EP X pins σ Q) X.xe s := by
  have hq := h (s.heap.objs.size + 1) s.heap.objs.size (I.hok.fresh (Nat.le_succ _)) (I.hok.fresh (Nat.le_refl _)) (Nat.ne_of_lt (Nat.lt_succ_self _))
  have I2 := Inv.made (C := C) I
  have r2 : Vals (V.ref (s.heap.objs.size + 1) :: vs) (Value.ref (s.heap.objs.size + 1) :: us) := .cons rfl r
  have hl : (Value.ref (s.heap.objs.size + 1) :: us ++ []).length = ps.length := by
    have e := r2.length
    rw [F.len _ _ _ _ hq] at e
    rw [List.append_nil]
    exact e.symm
  have hB := hb { s with heap := _ } (Value.ref (s.heap.objs.size + 1) :: us) I2.kIn hl
  rw [List.append_nil] at hB
  refine wpAny_call (make_map (f := f) I.kIn M.makes M.init (beq_iff_eq.mp M.fn) (codeAny_mono (F.run _ X.stack _ _ ⟨Value.ref (s.heap.objs.size + 1) :: us, []⟩ (Value.ref (s.heap.objs.size + 1) :: us) _ _ (E σ) (hr.make C us [])
    (I2.env0.make C us []) hB r2 hq) fun r s' hq' => ?_))
  cases r with
  | error e => exact hx pins _ _ e s' I2 hq'
  | ok fl =>
    cases fl with
    | ret u =>
      obtain ⟨v, H', I3, rv, ev, q3⟩ := I2.after hq'
      subst ev
      exact ⟨rv, ⟨V.ref (s.heap.objs.size + 1), H', I3, rfl, q3⟩⟩
    | next => exact False.elim hq'
    | brk => exact False.elim hq'
    | cont => exact False.elim hq'
theorem pe_makeS (M : Mk X.K C f) (F : FnOk X.prog X.w X.K X.mg X.base CX k f fd ps sp) (hr : Room (k + 1) X.A) (hg : Gl X x) (hm : X.mg x = some (.ref C)) (hb : Binds X.K fd ps []) (hx : ∀ σ, PassesAt CX X σ (E σ))
    (ha : PA X (e :: es) t) (hdb : (x == ("__debug__" : Str)) = false := by decide) (he : starEach (e :: es) X.env = (false, eval e X.env) :: starEach es X.env := by rfl) (hpl : (backTo pos (starEach es X.env)).any (·.1) = false := by rfl) :
    PE X (.Call (.Name x p) (e :: es) [] pos) (tMakeS C sp E t) := by
  refine ⟨fun pins s σ H Q I h => ?_⟩
  refine wpAny_Call_Name_kw (ld_glob I hg hm ?_ hdb)
  refine PySem.W.callWith_K (h₀ := X.base) I.ok.mod.kin M.kp (thn (ha.run pos pins s σ H _ I h) fun us s1 ⟨vs, H1, I1, r, q⟩ => ⟨I1.kIn, ?_⟩) he hpl
  exact run_makeS M F hr hb (hx σ) I1 r q
theorem pe_methS {pl : Sem Bool} (he : PE X o ta) (c : Cls X.K C) (hm : Meth X.K C m f) (F : FnOk X.prog X.w X.K X.mg X.base CX k f fd ps sp) (hr : Room k X.A) (hb : Binds X.K fd ps []) (hx : ∀ σ, PassesAt CX X σ (E σ)) (ha : PA X (e :: es) t)
    (hst : starEach (e :: es) X.env = (false, eval e X.env) :: starEach es X.env := by rfl) (hpl : (backTo pos (starEach es X.env)).any (·.1) = false := by rfl)
    (ht : eval (.Call (.Attribute o m apos) (e :: es) [] pos) X.env = (do
      let ov ← eval o X.env
      standAt apos.atName
      let (f, first) ← holding [ov] (getMethod ov m pl)
      callWith pos f first (backTo pos (starEach (e :: es) X.env)) (backToKw pos (keywordEach [] X.env))) := by rfl) :
    PE X (.Call (.Attribute o m apos) (e :: es) [] pos) (tMethS C m sp E ta t) := by
  refine ⟨fun pins s σ H Q I h => ?_⟩
  refine PySem.W.methodCall_KW (pl := pl) (thn (he.run pins s σ H _ I h) fun u s1 ⟨x, H1, I1, rx, a, dx, fs, ex, ea, l, q⟩ => ?_) ht
  subst ex
  obtain rfl : u = Value.ref a := rx
  refine getmeth_ok I1 ea c hm l ?_
  refine PySem.W.callWith_K (first := [.ref a]) (h₀ := X.base) I.ok.mod.kin hm.kp (thn (ha.run pos pins s1 σ H1 _ I1 q) fun us s2 ⟨vs, H2, I2, r, q2⟩ => ⟨I2.kIn, ?_⟩) hst hpl
  exact run_fnS (us := .ref a :: us) (vs := .ref a :: vs) F hr hb (hx σ) I2 (.cons rfl r) q2
end
/-! ### the error that a suite holds -/
def rIsE1 (K : PySem.W.Frag) (D a : Addr) (cls : Value) (d : Option Addr) : List V → Hp → VK → Prop := fun xs H Q => cls = .ref D ∧ d = none ∧ rIsE K D a xs H Q
theorem call_isE1 {X : Cx} {a D : Addr} {oe : Obj} {pn : List (Addr × Obj)} {cls : Value} {d : Option Addr} (C : ExcC X.K D) (hz : Zc cls d oe) (hf : ∃ vs, oe.data = .fields vs) : CallR (X.suite a ((a, oe) :: pn)) (.builtin "isinstance") (rIsE1 X.K D a cls d) := by
  intro pins s σ H xs us Q I r h
  obtain ⟨rfl, rfl, h⟩ := h
  exact call_isE C hz hf pins s σ H xs us Q I r h
def rIsET (K : PySem.W.Frag) (D a : Addr) (cls : Value) (d : Option Addr) : List V → Hp → VK → Prop := fun xs H Q => cls = .ref D ∧ d = none ∧ ∃ (tp : Addr) (cs : List V) (us : List Value) (b : Bool), xs = [.ref a, .ref tp] ∧ H tp = some (.tup cs) ∧ Paired ClsV cs us ∧ PySem.W.kitAny K (.ref D) us = some b ∧ Q (.bl b) H
theorem call_isET {X : Cx} {a D : Addr} {oe : Obj} {pn : List (Addr × Obj)} {cls : Value} {d : Option Addr} (C : ExcC X.K D) (hz : Zc cls d oe) (hf : ∃ vs, oe.data = .fields vs) : CallR (X.suite a ((a, oe) :: pn)) (.builtin "isinstance") (rIsET X.K D a cls d) := by
  intro pins s σ H xs us Q I r h
  obtain ⟨rfl, rfl, tp, cs, ws, b, rfl, hT, k, e, q⟩ := h
  obtain ⟨u1, u2, rfl, r1, r2⟩ := vals2 r
  cases (show u1 = Value.ref a from r1)
  cases (show u2 = Value.ref tp from r2)
  obtain ⟨hget, _⟩ := I.pin (a, oe) (List.mem_append.mpr (.inl List.mem_cons_self))
  obtain ⟨vs, hv⟩ := hf
  have J : PySem.W.InstAt s.heap a oe D none := by
    obtain ⟨oc, od, oda, osl⟩ := oe
    obtain ⟨h1, h2⟩ := hz
    dsimp only at h1 h2 hv
    subst h1 h2 hv
    exact ⟨hget, rfl, rfl, trivial⟩
  obtain ⟨_, its, rv, o, h1, h2, n, h3⟩ := (show ObjOk X.prog X.w H s.heap tp (.tup cs) from I.hok tp _ hT)
  have e3 := ClsV.all k rv
  subst e3
  obtain ⟨oc, od, dt, sl⟩ := o
  simp only at h2 h3
  subst h2 h3
  exact PySem.W.kia_tup (PySem.W.handS_kitx_exc C.hg C.hk C.hs C.hd C.ha C.hn C.ht C.hm) I.kIn J h1 e (fun z => nomatch z) fun tk => ⟨.bl b, H, I.kept (t' := tk) fun _ _ z => z, rfl, q⟩
end K0

set_option Elab.async false
set_option linter.all false
set_option maxRecDepth 100000
set_option maxHeartbeats 4000000
namespace K0
open PySem PySem.Spec PyProof.Rows L2
/-! ### the text by places -/
def top (i : Nat) : Stmt := PySem.Challenge.pw_lostleast_k11_plans.main.body.getD i (.Pass ⟨0, 0, 0, 0⟩)
abbrev sInit : Stmt := inClass (top 12) 0
abbrev sAdd : Stmt := inClass (top 12) 1
abbrev sSub : Stmt := inClass (top 12) 2
abbrev sMul : Stmt := inClass (top 12) 3
abbrev sEq : Stmt := inClass (top 12) 4
abbrev sStr : Stmt := inClass (top 12) 5
abbrev sLess : Stmt := inClass (top 12) 6
/-! ### a fraction's fields -/
theorem nd : ¬ (("num" : Str) = "den") := by decide +kernel
def rf (n d : Int) : List (Str × V) := putF "den" (.int d) (putF "num" (.int n) [])
theorem rf_num (n d : Int) : (rf n d).lookup ("num" : Str) = some (.int n) := by
  unfold rf
  rw [lookup_putF, if_neg nd, lookup_putF, if_pos rfl]
theorem rf_den (n d : Int) : (rf n d).lookup ("den" : Str) = some (.int d) := by
  unfold rf
  rw [lookup_putF, if_pos rfl]
theorem rf_no (n d : Int) {m : Str} (h1 : ¬ m = "den") (h2 : ¬ m = "num") : (rf n d).lookup m = none := by
  unfold rf
  rw [lookup_putF, if_neg h1, lookup_putF, if_neg h2]
  all_goals rfl
def RatAt (C : Addr) (H : Hp) (a : Addr) (n d : Int) : Prop := ∃ dx, H a = some (.ins C dx (rf n d))
theorem RatAt.same {C a : Addr} {n d : Int} {H H' : Hp} (h : RatAt C H a n d) (s : Same H H') : RatAt C H' a n d := by
  obtain ⟨dx, e⟩ := h
  exact ⟨dx, s _ _ e⟩
theorem rf_put1 (n d : Int) : putF "den" (.int d) (putF "num" (.int n) []) = rf n d := rfl
def bmV : List Value := [.type "ValueError", .type "Exception", .type "BaseException", .type "object"]
/-- what the text's own classes and built-ins are -/
structure Txt (K : PySem.W.Frag) (mg : Str → Option Value) (C BR : Addr) : Prop where
  cl : Cls K C
  nN : NoAttr K C "num"
  nD : NoAttr K C "den"
  mgC : mg "Ratio" = some (.ref C)
  si : SlX.SIsi K C
  gcd : mg "gcd" = some (.builtin "math.gcd")
  gP : mg "BadRatio" = some (.ref BR)
  xP : PySem.W.excIn K BR bmV "ValueError.__new__" = true
  kP : PySem.W.keepIn K (.ref BR) = true
  bP : PySem.W.subIn K (.ref BR) (.type "BaseException") = some true
  tP : PySem.W.typeIn K (.ref BR) = some (.type "type")
  isi : mg "isinstance" = none
  int : mg "int" = none
  str : mg "str" = none
  len : mg "len" = none
  list : mg "list" = none
  tuple : mg "tuple" = none
  bool : mg "bool" = none
  range : mg "range" = none
  abs : mg "abs" = none
theorem kit_self {K : PySem.W.Frag} {t : Value} : PySem.W.kitOne K t t = some true := by
  unfold PySem.W.kitOne
  rw [if_pos (by simp)]
/-! ### promises of the class's methods -/
def spInit (C BR : Addr) : Sp := fun vs H Q E => ∃ (p dx : Addr) (n d : Int), vs = [.ref p, .int n, .int d] ∧ H p = some (.ins C dx []) ∧ Bd 8000 d ∧ (d ≤ 0 → E (.ref BR) none H) ∧
  (0 < d → ∀ H' : Hp, RatAt C H' p (rn n d) (rd n d) → (∀ b o, H b = some o → b ≠ p → H' b = some o) → Q .non H')
/-- +, -, *: a new fraction of N and D in lowest terms -/
def spBin (C : Addr) (N D : Int → Int → Int → Int → Int) : Sp := fun vs H Q _ => ∃ (a b : Addr) (n d m e : Int), vs = [.ref a, .ref b] ∧ RatAt C H a n d ∧ RatAt C H b m e ∧ Bd 1000 n ∧ Bd 1000 d ∧ Bd 1000 m ∧ Bd 1000 e ∧ 0 < d ∧ 0 < e ∧
  ∀ (x : Addr) (H' : Hp), Same H H' → RatAt C H' x (rn (N n d m e) (D n d m e)) (rd (N n d m e) (D n d m e)) → Q (.ref x) H'
def spEq (C : Addr) : Sp := fun vs H Q _ => ∃ (a b : Addr) (n d m e : Int), vs = [.ref a, .ref b] ∧ RatAt C H a n d ∧ RatAt C H b m e ∧ Q (.bl (decide (n = m) && decide (d = e))) H
def spLess (C : Addr) : Sp := fun vs H Q _ => ∃ (a b : Addr) (n d m e : Int), vs = [.ref a, .ref b] ∧ RatAt C H a n d ∧ RatAt C H b m e ∧ Bd 1000 n ∧ Bd 1000 d ∧ Bd 1000 m ∧ Bd 1000 e ∧ Q (.bl (decide (n * e < m * d))) H
/-- a number's text; a fraction's -/
def nt (n : Int) : Str := toString n
def ft (n d : Int) : Str := if d = 1 then nt n else nt n ++ "/" ++ nt d
def spStr (C : Addr) : Sp := fun vs H Q _ => ∃ (a : Addr) (n d : Int), vs = [.ref a] ∧ RatAt C H a n d ∧ Bd 1000 n ∧ Bd 1000 d ∧ Q (.str (ft n d)) H
def spOver (C BR : Addr) : Sp := fun vs H Q E => ∃ (a b : Addr) (n d m e : Int), vs = [.ref a, .ref b] ∧ RatAt C H a n d ∧ RatAt C H b m e ∧ Bd 1000 n ∧ Bd 1000 d ∧ Bd 1000 m ∧ Bd 1000 e ∧ 0 < d ∧ 0 < e ∧
  (m = 0 → E (.ref BR) none H) ∧
  (m ≠ 0 → ∀ (x : Addr) (H' : Hp), Same H H' → RatAt C H' x (rn (sg m * n * e) (d * (if m < 0 then 0 - m else m))) (rd (sg m * n * e) (d * (if m < 0 then 0 - m else m))) → Q (.ref x) H')
section
variable {P : Program} {w : World} {K : PySem.W.Frag} {mg : Str → Option Value} {base : Heap} {C BR : Addr}
/-! ### __init__ -/
theorem scI : FnScope ["self", "num", "den", "common"] ["self", "num", "den"] (defScope sInit) := ⟨rfl, rfl, rfl, by decide +kernel, rfl, by decide +kernel, by decide +kernel⟩
theorem ok_init {f : Addr} {fd : FuncData} (F : FunD K "__init__" "Ratio.__init__" (defArgs sInit) (defBody sInit) (defScope sInit) [.int 1] [] f fd) (T : Txt K mg C BR) :
    FnOk P w K mg base (L2.CX P w) 1 f fd ["self", "num", "den"] (spInit C BR) := by
  refine F.ok scI (fun vs H Q E h => ?_) (fun cdv A outer s H vs Q E hr h => ?_)
  · obtain ⟨p, dx, n, d, rfl, _⟩ := h
    rfl
  · obtain ⟨p, dx, n, d, rfl, hp, hb, hE, hQ⟩ := h
    refine ⟨_, pss_cons (ps_if (pt_cmpR op_le (pv 2) pe_int (nomark _)) (pss_one (ps_raise rfl (takes_of rfl rfl rfl rfl) (pmk_own PySem.F.excBase_ValueError T.xP T.gP T.kP (raises_own T.bP T.tP) rfl))) pss_nil)
      (pss_cons (ps_set (i := 3) scI.nd rfl (Or.inl rfl) (pe_callBfun cr_gcd rfl T.gcd (pa_cons (pv 1) (pa_cons (pv 2) pa_nil))))
      (pss_cons (ps_fld (pv 0) (pe_op op_fdivW (pv 1) (pv 3)) rfl)
      (pss_one (ps_fld (pv 0) (pe_op op_fdivW (pv 2) (pv 3)) rfl)))), ?_⟩
    refine ⟨_, rfl, _, _, rfl, rfl, _, rfl, ite2 (fun z => ?_) (fun z => ?_)⟩
    · exact hE (of_decide_eq_true z)
    · have hd : 0 < d := by
        have q : ¬ d ≤ 0 := fun q => z (decide_eq_true q)
        omega
      have hg := G_pos (n := n) hd
      have hB := wide_div (i := n) hg (Bd.G (n := n) hd hb) (by decide) (by decide)
      have hB2 := wide_div (i := d) hg (Bd.G (n := n) hd hb) (by decide) (by decide)
      refine ⟨_, rfl, _, rfl, n, d, rfl, ?_⟩
      refine ⟨_, rfl, _, rfl, n, G n d, rfl, rfl, hB, _, rfl, p, C, dx, [], rfl, hp, T.cl, T.nN, (by show 0 < 1000; decide), ?_⟩
      refine ⟨_, rfl, _, rfl, d, G n d, rfl, rfl, hB2, _, rfl, p, C, dx, _, rfl, upd_same, T.cl, T.nD, (by show 1 < 1000; decide), ?_⟩
      exact hQ hd _ ⟨dx, upd_same⟩ fun b o e hb' => by rw [upd_ne hb', upd_ne hb']; exact e
/-! ### +, -, * -/
abbrev nAdd : Int → Int → Int → Int → Int := fun n d m e => n * e + m * d
abbrev nSub : Int → Int → Int → Int → Int := fun n d m e => n * e - m * d
abbrev nMul : Int → Int → Int → Int → Int := fun n _ m _ => n * m
abbrev nDen : Int → Int → Int → Int → Int := fun _ d _ e => d * e
theorem big (h : Bd 1000 x) (h' : Bd 1000 y) : CMulW x y := wide_mul h h' (by decide) (by decide) (by decide)
theorem scAd : FnScope ["self", "other"] ["self", "other"] (defScope sAdd) := ⟨rfl, rfl, rfl, by decide +kernel, rfl, by decide +kernel, by decide +kernel⟩
theorem scSu : FnScope ["self", "other"] ["self", "other"] (defScope sSub) := ⟨rfl, rfl, rfl, by decide +kernel, rfl, by decide +kernel, by decide +kernel⟩
theorem scMu : FnScope ["self", "other"] ["self", "other"] (defScope sMul) := ⟨rfl, rfl, rfl, by decide +kernel, rfl, by decide +kernel, by decide +kernel⟩
theorem made {H : Hp} {x dx : Addr} (nx : H x = none) (nd : H dx = none) : Same H (upd (upd H dx (.own x)) x (.ins C dx [])) := fun b o e => by
  rw [upd_ne (ne_of_none e nx), upd_ne (ne_of_none e nd)]
  exact e
theorem ok_add {f fI : Addr} {fd fdI : FuncData} (F : Fun K "__add__" "Ratio.__add__" sAdd f fd) (T : Txt K mg C BR) (M : Mk K C fI) (G : FnOk P w K mg base (L2.CX P w) 1 fI fdI ["self", "num", "den"] (spInit C BR)) (bI : Binds K fdI ["self", "num", "den"] []) :
    FnOk P w K mg base CX0 3 f fd ["self", "other"] (spBin C nAdd nDen) := by
  refine F.ok scAd (fun vs H Q E h => ?_) (fun cdv A outer s H vs Q E hr h => ?_)
  · obtain ⟨a, b, n, d, m, e, rfl, _⟩ := h
    rfl
  · obtain ⟨a, b, n, d, m, e, rfl, ⟨da, ha⟩, ⟨db, hb⟩, bn, bd, bm, be, hd, he, k⟩ := h
    refine ⟨_, pss_one (ps_ret (pe_make M G hr rfl T.mgC bI .nil passL (pa_cons (pe_op op_add (pe_op op_mulW (pe_fld (pv 0) rfl) (pe_fld (pv 1) rfl)) (pe_op op_mulW (pe_fld (pv 1) rfl) (pe_fld (pv 0) rfl)))
      (pa_cons (pe_op op_mulW (pe_fld (pv 0) rfl) (pe_fld (pv 1) rfl)) pa_nil)))), ?_⟩
    refine ⟨_, rfl, a, C, da, _, _, rfl, ha, T.cl, T.nN, rf_num _ _, _, rfl, b, C, db, _, _, rfl, hb, T.cl, T.nD, rf_den _ _, n, e, rfl, rfl, big bn be, ?_⟩
    refine ⟨_, rfl, b, C, db, _, _, rfl, hb, T.cl, T.nN, rf_num _ _, _, rfl, a, C, da, _, _, rfl, ha, T.cl, T.nD, rf_den _ _, m, d, rfl, rfl, big bm bd, _, _, rfl, rfl, ?_⟩
    refine ⟨_, rfl, a, C, da, _, _, rfl, ha, T.cl, T.nD, rf_den _ _, _, rfl, b, C, db, _, _, rfl, hb, T.cl, T.nD, rf_den _ _, d, e, rfl, rfl, big bd be, ?_⟩
    intro x dx nx ndx nex
    refine ⟨x, dx, n * e + m * d, d * e, rfl, upd_same, (bd.mul be).le (by decide), fun z => ?_, fun _ H' hR kp => ⟨rfl, ?_⟩⟩
    · have := Int.mul_pos hd he
      omega
    · exact k x H' (Same.made nx ndx kp) hR
theorem ok_sub {f fI : Addr} {fd fdI : FuncData} (F : Fun K "__sub__" "Ratio.__sub__" sSub f fd) (T : Txt K mg C BR) (M : Mk K C fI) (G : FnOk P w K mg base (L2.CX P w) 1 fI fdI ["self", "num", "den"] (spInit C BR)) (bI : Binds K fdI ["self", "num", "den"] []) :
    FnOk P w K mg base CX0 3 f fd ["self", "other"] (spBin C nSub nDen) := by
  refine F.ok scSu (fun vs H Q E h => ?_) (fun cdv A outer s H vs Q E hr h => ?_)
  · obtain ⟨a, b, n, d, m, e, rfl, _⟩ := h
    rfl
  · obtain ⟨a, b, n, d, m, e, rfl, ⟨da, ha⟩, ⟨db, hb⟩, bn, bd, bm, be, hd, he, k⟩ := h
    refine ⟨_, pss_one (ps_ret (pe_make M G hr rfl T.mgC bI .nil passL (pa_cons (pe_op op_sub (pe_op op_mulW (pe_fld (pv 0) rfl) (pe_fld (pv 1) rfl)) (pe_op op_mulW (pe_fld (pv 1) rfl) (pe_fld (pv 0) rfl)))
      (pa_cons (pe_op op_mulW (pe_fld (pv 0) rfl) (pe_fld (pv 1) rfl)) pa_nil)))), ?_⟩
    refine ⟨_, rfl, a, C, da, _, _, rfl, ha, T.cl, T.nN, rf_num _ _, _, rfl, b, C, db, _, _, rfl, hb, T.cl, T.nD, rf_den _ _, n, e, rfl, rfl, big bn be, ?_⟩
    refine ⟨_, rfl, b, C, db, _, _, rfl, hb, T.cl, T.nN, rf_num _ _, _, rfl, a, C, da, _, _, rfl, ha, T.cl, T.nD, rf_den _ _, m, d, rfl, rfl, big bm bd, _, _, rfl, rfl, ?_⟩
    refine ⟨_, rfl, a, C, da, _, _, rfl, ha, T.cl, T.nD, rf_den _ _, _, rfl, b, C, db, _, _, rfl, hb, T.cl, T.nD, rf_den _ _, d, e, rfl, rfl, big bd be, ?_⟩
    intro x dx nx ndx nex
    refine ⟨x, dx, n * e - m * d, d * e, rfl, upd_same, (bd.mul be).le (by decide), fun z => ?_, fun _ H' hR kp => ⟨rfl, ?_⟩⟩
    · have := Int.mul_pos hd he
      omega
    · exact k x H' (Same.made nx ndx kp) hR
theorem ok_mul {f fI : Addr} {fd fdI : FuncData} (F : Fun K "__mul__" "Ratio.__mul__" sMul f fd) (T : Txt K mg C BR) (M : Mk K C fI) (G : FnOk P w K mg base (L2.CX P w) 1 fI fdI ["self", "num", "den"] (spInit C BR)) (bI : Binds K fdI ["self", "num", "den"] []) :
    FnOk P w K mg base CX0 3 f fd ["self", "other"] (spBin C nMul nDen) := by
  refine F.ok scMu (fun vs H Q E h => ?_) (fun cdv A outer s H vs Q E hr h => ?_)
  · obtain ⟨a, b, n, d, m, e, rfl, _⟩ := h
    rfl
  · obtain ⟨a, b, n, d, m, e, rfl, ⟨da, ha⟩, ⟨db, hb⟩, bn, bd, bm, be, hd, he, k⟩ := h
    refine ⟨_, pss_one (ps_ret (pe_make M G hr rfl T.mgC bI .nil passL (pa_cons (pe_op op_mulW (pe_fld (pv 0) rfl) (pe_fld (pv 1) rfl))
      (pa_cons (pe_op op_mulW (pe_fld (pv 0) rfl) (pe_fld (pv 1) rfl)) pa_nil)))), ?_⟩
    refine ⟨_, rfl, a, C, da, _, _, rfl, ha, T.cl, T.nN, rf_num _ _, _, rfl, b, C, db, _, _, rfl, hb, T.cl, T.nN, rf_num _ _, n, m, rfl, rfl, big bn bm, ?_⟩
    refine ⟨_, rfl, a, C, da, _, _, rfl, ha, T.cl, T.nD, rf_den _ _, _, rfl, b, C, db, _, _, rfl, hb, T.cl, T.nD, rf_den _ _, d, e, rfl, rfl, big bd be, ?_⟩
    intro x dx nx ndx nex
    refine ⟨x, dx, n * m, d * e, rfl, upd_same, (bd.mul be).le (by decide), fun z => ?_, fun _ H' hR kp => ⟨rfl, ?_⟩⟩
    · have := Int.mul_pos hd he
      omega
    · exact k x H' (Same.made nx ndx kp) hR
/-! ### == , less, str -/
theorem scE : FnScope ["self", "other"] ["self", "other"] (defScope sEq) := ⟨rfl, rfl, rfl, by decide +kernel, rfl, by decide +kernel, by decide +kernel⟩
theorem ok_eq {f : Addr} {fd : FuncData} (F : Fun K "__eq__" "Ratio.__eq__" sEq f fd) (T : Txt K mg C BR) : FnOk P w K mg base CX0 1 f fd ["self", "other"] (spEq C) := by
  refine F.ok scE (fun vs H Q E h => ?_) (fun cdv A outer s H vs Q E hr h => ?_)
  · obtain ⟨a, b, n, d, m, e, rfl, _⟩ := h
    rfl
  · obtain ⟨a, b, n, d, m, e, rfl, ⟨da, ha⟩, ⟨db, hb⟩, k⟩ := h
    refine ⟨_, pss_one (ps_ret (pe_and (pe_callB call_isi (by rfl) T.isi (by decide +kernel) (pa_cons (pv 1) (pa_cons (pe_glob (v := .ref C) rfl T.mgC rfl) pa_nil)))
      (pe_and (pe_cmpR op_eq (pe_fld (pv 0) rfl) (pe_fld (pv 1) rfl) (nomark _)) (pe_one (pe_cmpR op_eq (pe_fld (pv 0) rfl) (pe_fld (pv 1) rfl) (nomark _)))))), ?_⟩
    refine ⟨_, rfl, .ref b, .ref C, .ref C, .ref C, true, rfl, .own C, .base (.ins hb T.cl T.si.ca T.si.cn T.si.ct T.si.cm), kit_self, _, rfl, iteT ?_⟩
    refine ⟨_, rfl, a, C, da, _, _, rfl, ha, T.cl, T.nN, rf_num _ _, _, rfl, b, C, db, _, _, rfl, hb, T.cl, T.nN, rf_num _ _, rfl, _, rfl, ite2 (fun z => ?_) (fun z => ?_)⟩
    · have e1 : n = m := V.int.inj (of_decide_eq_true z)
      refine ⟨_, rfl, a, C, da, _, _, rfl, ha, T.cl, T.nD, rf_den _ _, _, rfl, b, C, db, _, _, rfl, hb, T.cl, T.nD, rf_den _ _, rfl, ?_⟩
      rw [decide_eq_true e1, Bool.true_and] at k
      rw [dec_int]
      exact k
    · have e1 : ¬ n = m := fun q => z (decide_eq_true (by rw [q]))
      rw [decide_eq_false e1, Bool.false_and] at k
      exact k
theorem scLe : FnScope ["self", "other"] ["self", "other"] (defScope sLess) := ⟨rfl, rfl, rfl, by decide +kernel, rfl, by decide +kernel, by decide +kernel⟩
theorem ok_less {f : Addr} {fd : FuncData} (F : Fun K "less" "Ratio.less" sLess f fd) (T : Txt K mg C BR) : FnOk P w K mg base CX0 1 f fd ["self", "other"] (spLess C) := by
  refine F.ok scLe (fun vs H Q E h => ?_) (fun cdv A outer s H vs Q E hr h => ?_)
  · obtain ⟨a, b, n, d, m, e, rfl, _⟩ := h
    rfl
  · obtain ⟨a, b, n, d, m, e, rfl, ⟨da, ha⟩, ⟨db, hb⟩, bn, bd, bm, be, k⟩ := h
    refine ⟨_, pss_one (ps_ret (pe_cmpR op_lt (pe_op op_mulW (pe_fld (pv 0) rfl) (pe_fld (pv 1) rfl)) (pe_op op_mulW (pe_fld (pv 1) rfl) (pe_fld (pv 0) rfl)) (nomark _))), ?_⟩
    refine ⟨_, rfl, a, C, da, _, _, rfl, ha, T.cl, T.nN, rf_num _ _, _, rfl, b, C, db, _, _, rfl, hb, T.cl, T.nD, rf_den _ _, n, e, rfl, rfl, big bn be, ?_⟩
    refine ⟨_, rfl, b, C, db, _, _, rfl, hb, T.cl, T.nN, rf_num _ _, _, rfl, a, C, da, _, _, rfl, ha, T.cl, T.nD, rf_den _ _, m, d, rfl, rfl, big bm bd, _, _, rfl, rfl, k⟩
theorem scSt : FnScope ["self"] ["self"] (defScope sStr) := ⟨rfl, rfl, rfl, by decide +kernel, rfl, by decide +kernel, by decide +kernel⟩
theorem log_ok {x : Int} (h : Bd 1000 x) : x.natAbs.log2 < 1920 := Nat.lt_of_lt_of_le (PySem.Flt.log2_lt_of (by decide) h) (by decide)
/-- a number's text is short -/
theorem nt_len {x : Int} (h : Bd 1000 x) : (nt x).length ≤ 1001 := by
  have e := PySem.int_text_length_le (a := x) (k := 1000) (by decide) (PySem.Flt.log2_lt_of (by decide) h)
  unfold nt
  rw [PySem.ofString_length]
  exact e
theorem fitsN {z : Nat} (h : z ≤ 3000) : z ≤ sizeLine := Nat.le_trans h (by decide)
theorem slash : Str.length ("/" : Str) ≤ 1 := by decide
theorem ok_str {f : Addr} {fd : FuncData} (F : Fun K "__str__" "Ratio.__str__" sStr f fd) (T : Txt K mg C BR) : FnOk P w K mg base CX0 1 f fd ["self"] (spStr C) := by
  refine F.ok scSt (fun vs H Q E h => ?_) (fun cdv A outer s H vs Q E hr h => ?_)
  · obtain ⟨a, n, d, rfl, _⟩ := h
    rfl
  · obtain ⟨a, n, d, rfl, ⟨da, ha⟩, bn, bd, k⟩ := h
    refine ⟨_, pss_cons (ps_if (pt_cmpR op_eq (pe_fld (pv 0) rfl) pe_int (nomark _)) (pss_one (ps_ret (pe_callTy call_str_int (by rfl) T.str (by decide +kernel) (pa_cons (pe_fld (pv 0) rfl) pa_nil)))) pss_nil)
      (pss_one (ps_ret (pe_joined (.cons (pe_fmt (pe_fld (pv 0) rfl)) (.cons pe_str (.cons (pe_fmt (pe_fld (pv 0) rfl)) .nil)))))), ?_⟩
    refine ⟨_, rfl, a, C, da, _, _, rfl, ha, T.cl, T.nD, rf_den _ _, rfl, _, rfl, ite2 (fun z => ?_) (fun z => ?_)⟩
    · have e1 : d = 1 := V.int.inj (of_decide_eq_true z)
      refine ⟨_, rfl, a, C, da, _, _, rfl, ha, T.cl, T.nN, rf_num _ _, n, rfl, log_ok bn, ?_⟩
      unfold ft at k
      rw [if_pos e1] at k
      exact k
    · have e1 : ¬ d = 1 := fun q => z (decide_eq_true (by rw [q]))
      unfold ft at k
      rw [if_neg e1] at k
      refine ⟨_, rfl, a, C, da, _, _, rfl, ha, T.cl, T.nN, rf_num _ _, .inr ⟨n, rfl, log_ok bn, _, rfl, ?_, _, rfl, ?_, ?_⟩⟩
      · rw [Str.empty_append]
        exact fitsN (Nat.le_trans (nt_len bn) (by decide))
      · rw [Str.empty_append, Str.length_append]
        have h1 := nt_len bn
        have h3 := slash
        exact fitsN (Nat.le_trans (Nat.add_le_add h1 h3) (by decide))
      · refine ⟨_, rfl, a, C, da, _, _, rfl, ha, T.cl, T.nD, rf_den _ _, .inr ⟨d, rfl, log_ok bd, _, rfl, ?_, ?_⟩⟩
        · rw [Str.empty_append, Str.length_append, Str.length_append]
          have h1 := nt_len bn
          have h2 := nt_len bd
          exact fitsN (Nat.le_trans (Nat.add_le_add (Nat.add_le_add h1 slash) h2) (by decide))
        · rw [Str.empty_append]
          exact k
end
end K0

set_option Elab.async false
set_option linter.all false
set_option maxRecDepth 100000
set_option maxHeartbeats 4000000
/-! An own error below an own error: its __init__ calls the base's by name. -/
namespace Kx
open PySem PySem.Spec PyProof.Rows L2
/-- what the written part says of the base class at B, so that B.__init__ may be called with an instance of a class below it -/
structure BaseC (K : PySem.W.Frag) (B : Addr) : Prop where
  ga : PySem.W.specialIn K (.ref B) "__getattribute__" = some (some (.builtin "type.__getattribute__"))
  rd : PySem.W.readsIn K B (.type "type") = true
  it : PySem.W.findCls K (.ref B) (.type "type") "__init__" = some (.val (.builtin "ValueError.__init__"))
section
variable {X : Cx} {e : Expr} {es : List Expr} {ta : TA} {x : Str} {B : Addr} {p1 p2 pos : Pos}
theorem pe_binit {pl : Sem Bool} (T : BaseC X.K B) (hg : Gl X x) (hm : X.mg x = some (.ref B)) (ha : PA X (e :: es) ta)
    (hc : eval (.Call (.Attribute (.Name x p1) "__init__" p2) (e :: es) [] pos) X.env = (do
      let ov ← eval (.Name x p1) X.env
      standAt p2.atName
      let (f, first) ← holding [ov] (getMethod ov "__init__" pl)
      callWith pos f first (backTo pos (starEach (e :: es) X.env)) (backToKw pos (keywordEach [] X.env))) := by rfl)
    (hdb : (x == ("__debug__" : Str)) = false := by decide)
    (he : starEach (e :: es) X.env = (false, eval e X.env) :: starEach es X.env := by rfl) (hpl : (backTo pos (starEach es X.env)).any (·.1) = false := by rfl) :
    PE X (.Call (.Attribute (.Name x p1) "__init__" p2) (e :: es) [] pos) (tVeI X.K ta) := by
  refine ⟨fun pins s σ H Q I h => ?_⟩
  refine PySem.W.methodCall_KW (ld_glob I hg hm ?_ hdb) hc
  refine PySem.W.method_cls I.kIn T.ga ?_
  refine PySem.W.cls_value I.kIn T.rd T.it (by decide +kernel) ?_
  show wpAny _ _ (callWith pos (Value.builtin "ValueError.__init__") [] (backTo pos (starEach (e :: es) X.env)) []) _ _ _
  refine PyProof.Rows.callWith_method1 (thn (ha.run pos pins _ σ H _ (I.tok _) h) fun us s1 hh => ?_) he hpl
  obtain ⟨vs, H1, I1, r1, a, C, ws, ev, hl, TC, ea, q⟩ := hh
  subst ev
  cases r1 with
  | @cons _ u0 _ ur ra rw' =>
    obtain rfl : u0 = Value.ref a := ra
    have hlen : ur.length ≤ sizeLine := Nat.le_trans (Nat.le_of_eq (Paired.length rw').symm) (Nat.le_trans hl (by decide))
    exact oinit_ok TC I1 ea hlen fun s' J => ⟨.non, H1, J, rfl, q⟩
end
/-- the promise of `def __init__(self, at): B.__init__(self, f'..'); self.at = at` -/
def spErr (C : Addr) (f : Str) : Sp := fun vs H Q _ => ∃ (a : Addr) (n : Int), vs = [.ref a, .int n] ∧ H a = some (exo a C none) ∧ n.natAbs < 2 ^ 64 ∧
  ∀ dx, H dx = none → dx ≠ a → Q .non (upd (upd H dx (exd dx [(f, .int n)])) a (exo a C (some dx)))
end Kx

set_option Elab.async false
set_option linter.all false
set_option maxRecDepth 100000
set_option maxHeartbeats 2000000
/-! Dicts whose keys are tuples of tuples, numbers and texts, in the hand layer. -/
namespace Kd
open PySem PySem.Spec PyProof.Rows L2
/-! ### keys as they stand in the abstract heap -/
mutual
inductive Nest (H : Hp) : NestedKey → V → Prop where
  | none : Nest H .none .non
  | num (i : Int) : Nest H (.num i) (.int i)
  | text (z : Str) : Nest H (.text z) (.str z)
  | tup {a : Addr} {vs : List V} {ks : List NestedKey} (h : H a = some (.tup vs)) (r : NestL H ks vs) : Nest H (.tup ks) (.ref a)
inductive NestL (H : Hp) : List NestedKey → List V → Prop where
  | nil : NestL H [] []
  | cons {k : NestedKey} {v : V} {ks : List NestedKey} {vs : List V} (h : Nest H k v) (r : NestL H ks vs) : NestL H (k :: ks) (v :: vs)
end
mutual
theorem Nest.keep {H H' : Hp} (e : ∀ a xs, H a = some (.tup xs) → H' a = some (.tup xs)) : ∀ {k : NestedKey} {v : V}, Nest H k v → Nest H' k v
  | _, _, .none => .none
  | _, _, .num i => .num i
  | _, _, .text z => .text z
  | _, _, .tup h r => .tup (e _ _ h) (NestL.keep e r)
theorem NestL.keep {H H' : Hp} (e : ∀ a xs, H a = some (.tup xs) → H' a = some (.tup xs)) : ∀ {ks : List NestedKey} {vs : List V}, NestL H ks vs → NestL H' ks vs
  | _, _, .nil => .nil
  | _, _, .cons h r => .cons (Nest.keep e h) (NestL.keep e r)
end
section
variable {P : Program} {w : World} {H : Hp} {h : Heap}
mutual
theorem Nest.is (ok : HOk P w H h) : ∀ {k : NestedKey} {v : V} {u : Value}, Nest H k v → RelV v u → NestedIs h k u
  | _, _, u, .none, r => by
    cases (show u = Value.none from r)
    exact .none
  | _, _, u, .num i, r => by
    obtain ⟨t, e⟩ := (show ∃ t, u = Value.int i t from r)
    rw [e]
    exact .int i t
  | _, _, u, .text z, r => by
    obtain ⟨t, e⟩ := (show ∃ t, u = Value.str z t from r)
    rw [e]
    exact .text z t
  | _, _, u, .tup (a := a) (vs := vs) e n, r => by
    cases (show u = Value.ref a from r)
    obtain ⟨_, its, rv, ⟨o, h1, h2, k, h3⟩⟩ := (show ObjOk P w H h a (.tup vs) from ok a _ e)
    exact .tup h1 h2 h3 (NestL.is ok n rv)
theorem NestL.is (ok : HOk P w H h) : ∀ {ks : List NestedKey} {vs : List V} {us : List Value}, NestL H ks vs → Vals vs us → NestedAll h ks us
  | _, _, _, .nil, r => by
    cases r
    exact .nil
  | _, _, _, .cons n m, r => by
    cases r with
    | cons a b => exact .cons (Nest.is ok n a) (NestL.is ok m b)
end
end
/-! ### the dict: what stands at its address -/
def rawD (d : Addr) (es : Array DictEntry) (ep : Nat) : Heap → Prop := fun h => ∃ o, h.get? d = some o ∧ o.ExactDict ∧ o.data = .dict es ep
/-- the keys in order, each with where its tuple stands, and the value -/
abbrev Kvs := List (NestedKey × Addr × V)
def rel (p : NestedKey × Addr × V) (q : NestedKey × Addr × Value) : Prop := p.1 = q.1 ∧ p.2.1 = q.2.1 ∧ RelV p.2.2 q.2.2
structure KDD (P : Program) (w : World) (H : Hp) (d : Addr) (kvs : Kvs) (es : Array DictEntry) (ep : Nat) (xs : List (NestedKey × Addr × Value)) : Prop where
  at_ : H d = some (.ext (rawD d es ep))
  es_ : es.toList = xs.map (entryOfKey (nestedKind P w))
  rel_ : Paired rel kvs xs
/-- a dict of such keys at d -/
structure KD (P : Program) (w : World) (H : Hp) (d : Addr) (kvs : Kvs) : Prop where
  nd : (kvs.map (·.1)).Nodup
  key : ∀ p ∈ kvs, Nest H p.1 (.ref p.2.1) ∧ p.1.depth ≤ 8
  sys : (d == sysModules) = false
  len : kvs.length ≤ 100000
  ok : ∃ es ep xs, KDD P w H d kvs es ep xs
theorem KD.keep {P : Program} {w : World} {H H' : Hp} {d : Addr} {kvs : Kvs} (k : KD P w H d kvs) (e : ∀ a xs, H a = some (.tup xs) → H' a = some (.tup xs)) (hd : H' d = H d) : KD P w H' d kvs := by
  obtain ⟨es, ep, xs, q⟩ := k.ok
  exact ⟨k.nd, fun p hp => ⟨(k.key p hp).1.keep e, (k.key p hp).2⟩, k.sys, k.len, es, ep, xs, by rw [hd]; exact q.at_, q.es_, q.rel_⟩
theorem KD.same {P : Program} {w : World} {H H' : Hp} {d : Addr} {kvs : Kvs} (k : KD P w H d kvs) (s : Same H H') : KD P w H' d kvs := by
  obtain ⟨es, ep, xs, q⟩ := id k.ok
  exact k.keep (fun a xs e => s _ _ e) (by rw [q.at_, s _ _ q.at_])
theorem paired_fst {kvs : Kvs} {xs : List (NestedKey × Addr × Value)} (r : Paired rel kvs xs) : xs.map (·.1) = kvs.map (·.1) := by
  induction r with
  | nil => rfl
  | cons a _ ih => rw [List.map_cons, List.map_cons, ih, a.1]
theorem paired_len {kvs : Kvs} {xs : List (NestedKey × Addr × Value)} (r : Paired rel kvs xs) : xs.length = kvs.length := by
  induction r with
  | nil => rfl
  | cons a _ ih => rw [List.length_cons, List.length_cons, ih]
theorem paired_mem {kvs : Kvs} {xs : List (NestedKey × Addr × Value)} (r : Paired rel kvs xs) : ∀ x ∈ xs, ∃ p ∈ kvs, rel p x := by
  induction r with
  | nil => exact fun x hx => nomatch hx
  | cons a _ ih =>
    intro x hx
    rcases List.mem_cons.mp hx with rfl | hx
    · exact ⟨_, List.mem_cons_self .., a⟩
    · obtain ⟨p, hp, q⟩ := ih x hx
      exact ⟨p, List.mem_cons_of_mem _ hp, q⟩
/-- what is in the dict -/
theorem KD.heap {P : Program} {w : World} {H : Hp} {h : Heap} {d : Addr} {kvs : Kvs} (k : KD P w H d kvs) (ok : HOk P w H h) : ∃ xs, Paired rel kvs xs ∧ Heap.DictOfH (nestedKind P w) h d xs := by
  obtain ⟨es, ep, xs, q⟩ := k.ok
  obtain ⟨⟨o, h1, h2, h3⟩, _, _⟩ := (show ObjOk P w H h d (.ext (rawD d es ep)) from ok d _ q.at_)
  refine ⟨xs, q.rel_, o, es, ep, h1, h2, h3, q.es_, fun x hx => ?_, by rw [paired_fst q.rel_]; exact k.nd⟩
  obtain ⟨p, hp, e1, e2, _⟩ := paired_mem q.rel_ x hx
  obtain ⟨n1, n2⟩ := k.key p hp
  rw [← e1, ← e2]
  exact ⟨n1.is ok rfl, n2⟩
/-- a new empty one -/
def tDNewX : TE := fun _ H Q => ∀ p, H p = none → (p == sysModules) = false → Q (.ref p) (upd H p (.ext (rawD p #[] 0)))
theorem pe_dnewX {X : Cx} {pos : Pos} : PE X (.Dict [] [] pos) tDNewX := ⟨fun pins s σ H Q I h => by
  have g : (s.heap.push { cls := .type "dict", data := .dict #[] }).get? s.heap.objs.size = some { cls := .type "dict", data := .dict #[] } := Heap.get?_push_size _ rfl
  have hm : (s.heap.objs.size == sysModules) = false := beq_eq_false_iff_ne.mpr (Nat.ne_of_gt I.big)
  exact wpAny_Dict_empty ⟨.ref s.heap.objs.size, _, I.laid (a := s.heap.objs.size) (o := .ext (rawD s.heap.objs.size #[] 0)) (t' := s.toks) (fun _ _ q => Heap.get?_push_of_some _ q) (Nat.le_refl _)
    ⟨⟨_, g, ⟨rfl, rfl, rfl⟩, rfl⟩, ⟨_, g⟩, fun _ _ ⟨o', q1, q2⟩ kk => ⟨o', kk _ q1, q2⟩⟩, rfl, h _ (I.hok.fresh (Nat.le_refl _)) hm⟩⟩
theorem KD.new {P : Program} {w : World} {H : Hp} {p : Addr} (h : H p = some (.ext (rawD p #[] 0))) (hm : (p == sysModules) = false) : KD P w H p [] :=
  ⟨List.nodup_nil, (fun x hx => nomatch hx), hm, Nat.zero_le _, #[], 0, [], h, rfl, .nil⟩
def atK (kvs : Kvs) (k : NestedKey) : Option V := (kvs.find? fun p => decide (p.1 = k)).map (·.2.2)
theorem find_rel {kvs : Kvs} {xs : List (NestedKey × Addr × Value)} (r : Paired rel kvs xs) (k : NestedKey) : (atK kvs k = none ∧ atKey xs k = none) ∨ ∃ v p, atK kvs k = some v ∧ atKey xs k = some p ∧ RelV v p.2 := by
  induction r with
  | nil => exact .inl ⟨rfl, rfl⟩
  | cons a r ih =>
    rename_i p x ps ys
    unfold atK atKey at *
    rw [List.find?_cons, List.find?_cons, ← a.1]
    by_cases e : p.1 = k
    · rw [decide_eq_true e]
      exact .inr ⟨_, _, rfl, rfl, a.2.2⟩
    · rw [decide_eq_false e]
      exact ih
section
variable {X : Cx}
/-- k in d -/
def rInK (P : Program) (w : World) : R2 := fun x y H Q => ∃ (a d : Addr) (k : NestedKey) (kvs : Kvs), x = .ref a ∧ y = .ref d ∧ KD P w H d kvs ∧ Nest H k (.ref a) ∧ k.depth ≤ 8 ∧ Q (.bl (atK kvs k).isSome) H
theorem op_inK (hu : X.A.units + 64 < cLine) : OpR X (compareOp .In) (rInK X.prog X.w) := by
  intro pins s σ H x y v u Q I rx ry h
  obtain ⟨a, d, k, kvs, rfl, rfl, kd, n, hk, q⟩ := h
  cases (show v = Value.ref a from rx)
  cases (show u = Value.ref d from ry)
  obtain ⟨xs, r, D⟩ := kd.heap I.hok
  refine wpAny_in_heap (knd := nestedKind X.prog X.w) (k := k) (by show X.A.units + 1 + 8 < cLine; omega) ⟨n.is I.hok rfl, hk⟩ kd.sys D ⟨.bl (atK kvs k).isSome, H, I.kept (t' := _) fun _ _ z => z, ?_, q⟩
  rcases find_rel r k with ⟨e1, e2⟩ | ⟨v, p, e1, e2, _⟩
  · rw [e1, e2]
    rfl
  · rw [e1, e2]
    rfl
end
def putKv (kvs : Kvs) (k : NestedKey) (a : Addr) (v : V) : Kvs := if (atK kvs k).isSome = true then kvs.map fun p => if p.1 = k then (p.1, p.2.1, v) else p else kvs ++ [(k, a, v)]
theorem paired_map {kvs : Kvs} {xs : List (NestedKey × Addr × Value)} {k : NestedKey} {v : V} {u : Value} (rv : RelV v u) (r : Paired rel kvs xs) : Paired rel (kvs.map fun p => if p.1 = k then (p.1, p.2.1, v) else p) (xs.map (putAt k u)) := by
  induction r with
  | nil => exact .nil
  | cons a _ ih =>
    rw [List.map_cons, List.map_cons]
    refine .cons ?_ ih
    unfold putAt
    rw [← a.1]
    split
    · exact ⟨rfl, a.2.1, rv⟩
    · exact a
theorem paired_snoc {kvs : Kvs} {xs : List (NestedKey × Addr × Value)} {p : NestedKey × Addr × V} {q : NestedKey × Addr × Value} (r : Paired rel kvs xs) (h : rel p q) : Paired rel (kvs ++ [p]) (xs ++ [q]) := by
  induction r with
  | nil => exact .cons h .nil
  | cons a _ ih => exact .cons a ih
theorem paired_put {kvs : Kvs} {xs : List (NestedKey × Addr × Value)} {k : NestedKey} {a : Addr} {v : V} {u : Value} (rv : RelV v u) (r : Paired rel kvs xs) : Paired rel (putKv kvs k a v) (storedH xs k a u) := by
  unfold putKv storedH
  rcases find_rel r k with ⟨e1, e2⟩ | ⟨v', p, e1, e2, _⟩
  · rw [e1, e2]
    exact paired_snoc r ⟨rfl, rfl, rv⟩
  · rw [e1, e2]
    exact paired_map rv r
theorem len_put (kvs : Kvs) (k : NestedKey) (a : Addr) (v : V) : (putKv kvs k a v).length ≤ kvs.length + 1 := by
  unfold putKv
  split
  · rw [List.length_map]
    exact Nat.le_succ _
  · rw [List.length_append, List.length_singleton]
    exact Nat.le_refl _
theorem mem_put {kvs : Kvs} {k : NestedKey} {a : Addr} {v : V} : ∀ p ∈ putKv kvs k a v, (∃ q ∈ kvs, q.1 = p.1 ∧ q.2.1 = p.2.1) ∨ (p.1 = k ∧ p.2.1 = a) := by
  intro p hp
  unfold putKv at hp
  split at hp
  · obtain ⟨q, hq, rfl⟩ := List.mem_map.mp hp
    refine .inl ⟨q, hq, ?_⟩
    split <;> exact ⟨rfl, rfl⟩
  · rcases List.mem_append.mp hp with hp | hp
    · exact .inl ⟨p, hp, rfl, rfl⟩
    · rw [List.mem_singleton.mp hp]
      exact .inr ⟨rfl, rfl⟩
section
variable {X : Cx}
/-- d[k] = v -/
def rSetK (P : Program) (w : World) : V → V → V → Hp → (Hp → Prop) → Prop := fun o i v H Q => ∃ (a d : Addr) (k : NestedKey) (kvs : Kvs), o = .ref d ∧ i = .ref a ∧ KD P w H d kvs ∧ Nest H k (.ref a) ∧ k.depth ≤ 8 ∧ kvs.length < 100000 ∧
  ∀ H', KD P w H' d (putKv kvs k a v) → (∀ b, b ≠ d → H' b = H b) → Q H'
theorem KD.mut {P : Program} {w : World} {H : Hp} {d : Addr} {kvs : Kvs} (k : KD P w H d kvs) : Mut (H d) ∧ ∀ xs, H d ≠ some (.tup xs) := by
  obtain ⟨es, ep, xs, q⟩ := k.ok
  rw [q.at_]
  exact ⟨trivial, fun xs z => nomatch z⟩
theorem set_K (hu : X.A.units + 64 < cLine) : PSet X (rSetK X.prog X.w) := by
  intro pins s σ H o i v ov iv u Q I ro ri rv h
  obtain ⟨a, d, k, kvs, rfl, rfl, kd, n, hk, hl, q⟩ := h
  cases (show ov = Value.ref d from ro)
  cases (show iv = Value.ref a from ri)
  obtain ⟨xs, r, D⟩ := kd.heap I.hok
  obtain ⟨hm, nt⟩ := kd.mut
  refine wpAny_setItem_heap (knd := nestedKind X.prog X.w) (k := k) (by show X.A.units + 1 + 8 < cLine; omega) ⟨n.is I.hok rfl, hk⟩ D (fun h' D' hs => ?_) (by rw [paired_len r]; exact Nat.le_trans (Nat.le_of_lt hl) (by decide))
  obtain ⟨ob, es, ep, h1, h2, h3, h4, h5, h6⟩ := D'
  have rp := paired_put (k := k) (a := a) rv r
  have e0 : ∀ b xs, H b = some (.tup xs) → upd H d (.ext (rawD d es ep)) b = some (.tup xs) := fun b xs e => by
    rw [upd_ne (fun z => nt xs (by rw [← z]; exact e))]
    exact e
  refine ⟨upd H d (.ext (rawD d es ep)), d_write I hm hs ⟨ob, h1⟩ ⟨⟨ob, h1, h2, h3⟩, ⟨ob, h1⟩, fun _ _ ⟨o', q1, q2⟩ kk => ⟨o', kk _ q1, q2⟩⟩, q _ ⟨?_, fun p hp => ?_, kd.sys, ?_, es, ep, _, upd_same, h4, rp⟩ fun b hb => upd_ne hb⟩
  · rw [← paired_fst rp]
    exact h6
  · rcases mem_put p hp with ⟨p', hp', e1, e2⟩ | ⟨e1, e2⟩
    · rw [← e1, ← e2]
      exact ⟨(kd.key p' hp').1.keep e0, (kd.key p' hp').2⟩
    · rw [e1, e2]
      exact ⟨n.keep e0, hk⟩
  · have := len_put kvs k a v
    omega
/-- d[k] -/
def rIxK (P : Program) (w : World) : R2 := fun x y H Q => ∃ (a d : Addr) (k : NestedKey) (kvs : Kvs) (v : V), x = .ref d ∧ y = .ref a ∧ KD P w H d kvs ∧ Nest H k (.ref a) ∧ k.depth ≤ 8 ∧ atK kvs k = some v ∧ Q v H
theorem ix_K (hu : X.A.units + 64 < cLine) : IxR X (rIxK X.prog X.w) := by
  intro value slice pins s σ H x y v u Q I rx ry h hs
  obtain ⟨a, d, k, kvs, r, rfl, rfl, kd, n, hk, e, q⟩ := h
  cases (show v = Value.ref d from rx)
  cases (show u = Value.ref a from ry)
  obtain ⟨xs, rr, D⟩ := kd.heap I.hok
  rcases find_rel rr k with ⟨e1, _⟩ | ⟨v', p, e1, e2, rv⟩
  · rw [e] at e1
    cases e1
  · rw [e] at e1
    cases e1
    exact tail_any D.typeIs PySem.F.slot_dict_getitem.lookup (wpAny_getItem_heap (knd := nestedKind X.prog X.w) (k := k) (by show X.A.units + 1 + 8 < cLine; omega) ⟨n.is I.hok rfl, hk⟩ D e2 ⟨r, H, I.kept (t' := _) fun _ _ z => z, rv, q⟩) hs
/-- k not in d -/
def rNinK (P : Program) (w : World) : R2 := fun x y H Q => ∃ (a d : Addr) (k : NestedKey) (kvs : Kvs), x = .ref a ∧ y = .ref d ∧ KD P w H d kvs ∧ Nest H k (.ref a) ∧ k.depth ≤ 8 ∧ Q (.bl !(atK kvs k).isSome) H
theorem op_ninK (hu : X.A.units + 64 < cLine) : OpR X (compareOp .NotIn) (rNinK X.prog X.w) := by
  intro pins s σ H x y v u Q I rx ry h
  obtain ⟨a, d, k, kvs, rfl, rfl, kd, n, hk, q⟩ := h
  cases (show v = Value.ref a from rx)
  cases (show u = Value.ref d from ry)
  obtain ⟨xs, r, D⟩ := kd.heap I.hok
  refine PyProof.Rows.wpAny_notIn_heap (knd := nestedKind X.prog X.w) (k := k) (by show X.A.units + 1 + 8 < cLine; omega) ⟨n.is I.hok rfl, hk⟩ kd.sys D ⟨.bl (!(atK kvs k).isSome), H, I.kept (t' := _) fun _ _ z => z, ?_, q⟩
  rcases find_rel r k with ⟨e1, e2⟩ | ⟨v, p, e1, e2, _⟩
  · rw [e1, e2]
    rfl
  · rw [e1, e2]
    rfl
end
end Kd

set_option Elab.async false
set_option linter.all false
set_option maxRecDepth 100000
set_option maxHeartbeats 2000000
/-! Dicts with keys of nested tuples: walked, made of pairs, compared; keys as data. -/
namespace Kd
open PySem PySem.Spec PyProof.Rows L2
/-! ### keys are data -/
mutual
theorem Nest.dp {K : PySem.W.Frag} {H : Hp} : ∀ {k : NestedKey} {v : V}, Nest H k v → Dp K H v k.data
  | _, _, .none => .non
  | _, _, .num i => .int i
  | _, _, .text z => .str z
  | _, _, .tup h r => .tup (SqT.of h) (NestL.dp r)
theorem NestL.dp {K : PySem.W.Frag} {H : Hp} : ∀ {ks : List NestedKey} {vs : List V}, NestL H ks vs → DpAll K H vs (NestedKey.datas ks)
  | _, _, .nil => .nil
  | _, _, .cons h r => .cons (Nest.dp h) (NestL.dp r)
end
mutual
theorem Nest.det {H : Hp} : ∀ {k k' : NestedKey} {v : V}, Nest H k v → Nest H k' v → k = k'
  | _, _, _, .none, h => by cases h; rfl
  | _, _, _, .num i, h => by cases h; rfl
  | _, _, _, .text z, h => by cases h; rfl
  | _, _, _, .tup e r, h => by
    cases h with
    | tup e' r' =>
      rw [e] at e'
      injection e' with e'
      injection e' with e'
      subst e'
      rw [NestL.det r r']
theorem NestL.det {H : Hp} : ∀ {ks ks' : List NestedKey} {vs : List V}, NestL H ks vs → NestL H ks' vs → ks = ks'
  | _, _, _, .nil, h => by cases h; rfl
  | _, _, _, .cons a r, h => by
    cases h with
    | cons a' r' => rw [Nest.det a a', NestL.det r r']
end
mutual
theorem eqv_beq : ∀ a b : NestedKey, PyData.eqv a.data b.data = NestedKey.beq a b
  | .none, .none => rfl
  | .none, .num _ => rfl
  | .none, .text _ => rfl
  | .none, .tup _ => rfl
  | .num _, .none => rfl
  | .num i, .num j => by
    show (i == j) = decide (i = j)
    by_cases h : i = j <;> simp [h]
  | .num _, .text _ => rfl
  | .num _, .tup _ => rfl
  | .text _, .none => rfl
  | .text _, .num _ => rfl
  | .text x, .text y => by
    show (x == y) = decide (x = y)
    by_cases h : x = y <;> simp [h]
  | .text _, .tup _ => rfl
  | .tup _, .none => rfl
  | .tup _, .num _ => rfl
  | .tup _, .text _ => rfl
  | .tup as, .tup bs => by
    show PyData.eqvAll (NestedKey.datas as) (NestedKey.datas bs) = NestedKey.beqAll as bs
    exact eqv_beqAll as bs
theorem eqv_beqAll : ∀ as bs : List NestedKey, PyData.eqvAll (NestedKey.datas as) (NestedKey.datas bs) = NestedKey.beqAll as bs
  | [], [] => rfl
  | [], _ :: _ => rfl
  | _ :: _, [] => rfl
  | a :: as, b :: bs => by
    show (PyData.eqv a.data b.data && PyData.eqvAll (NestedKey.datas as) (NestedKey.datas bs)) = (NestedKey.beq a b && NestedKey.beqAll as bs)
    rw [eqv_beq a b, eqv_beqAll as bs]
end
theorem eqv_key (a b : NestedKey) : PyData.eqv a.data b.data = decide (a = b) := by
  rw [eqv_beq, NestedKey.decide_eq]
/-! ### walked -/
/-- the keys in order: the tuples that stand in the dict -/
def ItKD (d : Addr) (es : Array DictEntry) (ep : Nat) (kvs : Kvs) : It :=
  ⟨fun i H => H d = some (.ext (rawD d es ep)) ∧ i < kvs.length, fun i H x H' => H' = H ∧ ∃ p, kvs[i]? = some p ∧ x = .ref p.2.1, fun i H => H d = some (.ext (rawD d es ep)) ∧ kvs.length ≤ i⟩
theorem KDD.entry {P : Program} {w : World} {H : Hp} {d : Addr} {kvs : Kvs} {es : Array DictEntry} {ep : Nat} {xs : List (NestedKey × Addr × Value)} (q : KDD P w H d kvs es ep xs) :
    es.size = kvs.length ∧ ∀ (i : Nat) (p : NestedKey × Addr × V), kvs[i]? = some p → ∃ (en : DictEntry) (u : Value), es[i]? = some en ∧ en.key = .ref p.2.1 ∧ en.val = u ∧ RelV p.2.2 u := by
  refine ⟨?_, fun i p hp => ?_⟩
  · rw [size_of_entries q.es_, paired_len q.rel_]
  · obtain ⟨x, hx, e1, e2, e3⟩ := paired_get q.rel_ hp
    have := entry_at q.es_ i
    rw [hx] at this
    exact ⟨_, _, this, by rw [e2]; rfl, rfl, e3⟩
theorem turn_kd {P : Program} {w : World} {K : PySem.W.Frag} {tg : Expr} {d : Addr} {es : Array DictEntry} {ep : Nat} {kvs : Kvs} (it : Addr) (hsz : es.size = kvs.length)
    (ent : ∀ (i : Nat) (p : NestedKey × Addr × V), kvs[i]? = some p → ∃ (en : DictEntry) (u : Value), es[i]? = some en ∧ en.key = .ref p.2.1 ∧ en.val = u ∧ RelV p.2.2 u) : Turn P w K tg (ItKD d es ep kvs) [it] it (fun i h => h.IsKeyIter it d i kvs.length ep) where
  mem := by simp
  obj := fun i h st b hb => by
    have e : b = it := by simpa using hb
    subst e
    obtain ⟨oi, e, c, dd⟩ := st
    exact ⟨oi, e, fun v z => by rw [dd] at z; cases z⟩
  keep := fun i h h' st k => st.at fun oi e => k it (by simp) oi e
  item := by
    intro X hP hw hK hc i pins s σ H E I hf st hg
    subst hP hw hK
    obtain ⟨hd, hi⟩ := hg
    obtain ⟨f0, f1, f2, f3, f4, f5⟩ := hf it (by simp)
    obtain ⟨⟨o, hgd, hx, hdt⟩, _, _⟩ := (show ObjOk X.prog X.w H s.heap d (.ext (rawD d es ep)) from I.hok d _ hd)
    obtain ⟨p, hp⟩ : ∃ p, kvs[i]? = some p := ⟨kvs[i], List.getElem?_eq_getElem hi⟩
    obtain ⟨en, u, hen, hkey, _, _⟩ := ent i p hp
    refine next_key_item st hgd hdt hsz hen fun h' st' sb => ?_
    have I1 : Inv X pins σ H { s with heap := h' } := I.turned (t' := s.toks) (fun b ob hb e => (sb.2 b hb).trans e) f0 f1 f3 f4 f5
    obtain ⟨oi, e, c, dd⟩ := id st'
    exact ⟨en.key, rfl, go_of (s := { s with heap := h' }) e c dd (by decide) ⟨.ref p.2.1, H, I1, hkey, ⟨rfl, p, hp, rfl⟩, st', fun b hb => (hf b hb).1⟩⟩
  done := by
    intro X hP hw hK hc i pins s σ H E I hf st hg
    subst hP hw hK
    obtain ⟨hd, hi⟩ := hg
    obtain ⟨f0, f1, f2, f3, f4, f5⟩ := hf it (by simp)
    obtain ⟨⟨o, hgd, hx, hdt⟩, _, _⟩ := (show ObjOk X.prog X.w H s.heap d (.ext (rawD d es ep)) from I.hok d _ hd)
    exact next_key_end (I.ok.hd hc) st hgd hdt hsz hi fun h' eb => ⟨rfl, I.turned (t' := s.toks) (fun b ob hb e => eb b ob hb e) f0 f1 f3 f4 f5⟩
  self := fun A i s Q E st h => by
    refine wpAny_pyIter_slot st.typeIs PySem.F.slot_dict_keyiterator_iter (wpAny_call_entry PySem.F.slot_dict_keyiterator_iter st.typeIs PySem.F.entry_dict_keyiterator_iter ?_ (PySem.F.args_dict_keyiterator_iter_1 _))
    show wpAny _ _ (ret (.ref it)) _ _ s
    exact wpAny_pure ⟨_, rfl, "dict_keyiterator", _, st.typeIs, PySem.F.slot_dict_keyiterator_next.lookup, h⟩
def iKD (P : Program) (w : World) (td : TE) : TI := fun σ H R => td σ H fun x H1 => ∃ (d : Addr) (kvs : Kvs), x = .ref d ∧ KD P w H1 d kvs ∧ ∀ es ep, H1 d = some (.ext (rawD d es ep)) → R (ItKD d es ep kvs) H1
theorem pi_kd {X : Cx} {tg e : Expr} {td : TE} (he : PE X e td) : PI X tg e (iKD X.prog X.w td) := by
  refine ⟨fun pins s σ H R I h => ?_⟩
  refine thn (he.run pins s σ H _ I h) fun u s1 ⟨x, H1, I1, rx, d, kvs, ex, kd, q⟩ => ?_
  subst ex
  obtain rfl : u = Value.ref d := rx
  obtain ⟨es, ep, xs, kq⟩ := kd.ok
  obtain ⟨hsz, ent⟩ := kq.entry
  obtain ⟨⟨o, hgd, hx, hdt⟩, _, _⟩ := (show ObjOk X.prog X.w H1 s1.heap d (.ext (rawD d es ep)) from I1.hok d _ kq.at_)
  refine iter_keys kd.sys hgd hx hdt (pi_one (tk := s1.toks) I1 _ (turn_kd _ hsz ent) ⟨_, Heap.get?_push_size _ rfl, rfl, ?_⟩ (q es ep kq.at_))
  rw [hsz] <;> rfl
/-- a comprehension over such a dict -/
theorem lc_kd {d : Addr} {es : Array DictEntry} {ep : Nat} {kvs : Kvs} {g : TG} {tt : TT} {te : TE} {vs : List Nat} {σ : L2.St} {H1 : Hp} {D : Addr} {Qd : Hp → Prop} (Pv : Nat → Hp → Prop) (h0 : Pv 0 (upd H1 D (.lst []))) (hl : ∀ i H, i ≤ kvs.length → Pv i H → H d = some (.ext (rawD d es ep)))
    (hs : ∀ i p H, kvs[i]? = some p → Pv i H → g (.ref p.2.1) (wipe σ vs) H fun σ2 H2 => wipe σ2 vs = wipe σ vs ∧ tt σ2 H2 fun b H3 =>
      if b = true then te σ2 H3 fun y H4 => ∃ acc, H4 D = some (.lst acc) ∧ acc.length < sizeLine ∧ Pv (i + 1) (upd H4 D (.lst (acc ++ [y]))) else Pv (i + 1) H3) (hd : ∀ H, Pv kvs.length H → Qd H) :
    ∃ W : Nat → Nat → Hp → Prop, (∃ m, W 0 m (upd H1 D (.lst []))) ∧ ∀ i m H, W i m H →
      ((ItKD d es ep kvs).stop i H ∧ Qd H) ∨ ((ItKD d es ep kvs).go i H ∧ ∃ Nx : Hp → Prop, (∀ H', Nx H' → ∃ m', m' < m ∧ W (i + 1) m' H') ∧ ∀ x H', (ItKD d es ep kvs).yld i H x H' → g x (wipe σ vs) H' fun σ2 H2 => wipe σ2 vs = wipe σ vs ∧ tt σ2 H2 fun b H3 =>
        if b = true then te σ2 H3 fun y H4 => ∃ acc, H4 D = some (.lst acc) ∧ acc.length < sizeLine ∧ Nx (upd H4 D (.lst (acc ++ [y]))) else Nx H3) := by
  refine ⟨fun i m H => m = kvs.length - i ∧ i ≤ kvs.length ∧ Pv i H, ⟨kvs.length, by simp, Nat.zero_le _, h0⟩, ?_⟩
  rintro i m H ⟨rfl, hi, p⟩
  have q := hl i H hi p
  by_cases hlt : i < kvs.length
  · refine .inr ⟨⟨q, hlt⟩, Pv (i + 1), fun H' p' => ⟨kvs.length - (i + 1), by omega, rfl, hlt, p'⟩, fun x H' y => ?_⟩
    obtain ⟨e, pp, hp, rfl⟩ := y
    subst e
    exact hs i pp _ hp p
  · have e : i = kvs.length := by omega
    subst e
    exact .inl ⟨⟨q, Nat.le_refl _⟩, hd H p⟩
theorem for_kd {d : Addr} {es : Array DictEntry} {ep : Nat} {kvs : Kvs} {g : TG} {tb : TS} {D : Ends} {σ : L2.St} {H : Hp} (Pv : Nat → L2.St → Hp → Prop) (h0 : Pv 0 σ H) (hl : ∀ i σ H, i ≤ kvs.length → Pv i σ H → H d = some (.ext (rawD d es ep)))
    (hs : ∀ i p σ H, kvs[i]? = some p → Pv i σ H → g (.ref p.2.1) σ H fun σ2 H2 => tb { D with nx := Pv (i + 1), ct := Pv (i + 1), bk := D.nx } σ2 H2) (hd : ∀ σ H, Pv kvs.length σ H → D.nx σ H) :
    ∃ W : Nat → Nat → L2.St → Hp → Prop, (∃ m, W 0 m σ H) ∧ ∀ i m σ H, W i m σ H →
      ((ItKD d es ep kvs).stop i H ∧ D.nx σ H) ∨ ((ItKD d es ep kvs).go i H ∧ ∃ N : L2.St → Hp → Prop, (∀ σ' H', N σ' H' → ∃ m', m' < m ∧ W (i + 1) m' σ' H') ∧ ∀ x H', (ItKD d es ep kvs).yld i H x H' → g x σ H' fun σ2 H2 => tb { D with nx := N, ct := N, bk := D.nx } σ2 H2) := by
  refine ⟨fun i m σ H => m = kvs.length - i ∧ i ≤ kvs.length ∧ Pv i σ H, ⟨kvs.length, by simp, Nat.zero_le _, h0⟩, ?_⟩
  rintro i m σ H ⟨rfl, hi, p⟩
  have q := hl i σ H hi p
  by_cases hlt : i < kvs.length
  · refine .inr ⟨⟨q, hlt⟩, Pv (i + 1), fun σ' H' p' => ⟨kvs.length - (i + 1), by omega, rfl, hlt, p'⟩, fun x H' y => ?_⟩
    obtain ⟨e, pp, hp, rfl⟩ := y
    subst e
    exact hs i pp σ _ hp p
  · have e : i = kvs.length := by omega
    subst e
    exact .inl ⟨⟨q, Nat.le_refl _⟩, hd σ H p⟩
/-! ### dict(pairs) -/
def mergeKv (kvs ps : Kvs) : Kvs := ps.foldl (fun acc p => putKv acc p.1 p.2.1 p.2.2) kvs
theorem paired_merge {ps : Kvs} {qs : List (NestedKey × Addr × Value)} (r : Paired rel ps qs) : ∀ {kvs : Kvs} {xs : List (NestedKey × Addr × Value)}, Paired rel kvs xs → Paired rel (mergeKv kvs ps) (storedAllH xs qs) := by
  induction r with
  | nil => exact fun h => h
  | cons a r ih =>
    intro kvs xs h
    obtain ⟨e1, e2, e3⟩ := a
    show Paired rel (mergeKv (putKv kvs _ _ _) _) (storedAllH (storedH xs _ _ _) _)
    rw [← e1, ← e2]
    exact ih (paired_put e3 h)
theorem len_merge : ∀ (ps kvs : Kvs), (mergeKv kvs ps).length ≤ kvs.length + ps.length
  | [], kvs => Nat.le_refl _
  | p :: ps, kvs => by
    have h1 := len_merge ps (putKv kvs p.1 p.2.1 p.2.2)
    have h2 := len_put kvs p.1 p.2.1 p.2.2
    show (mergeKv (putKv kvs p.1 p.2.1 p.2.2) ps).length ≤ _
    rw [List.length_cons]
    omega
theorem mem_merge {R : NestedKey → Addr → Prop} : ∀ (ps kvs : Kvs), (∀ p ∈ kvs, R p.1 p.2.1) → (∀ p ∈ ps, R p.1 p.2.1) → ∀ p ∈ mergeKv kvs ps, R p.1 p.2.1
  | [], kvs, h, _ => h
  | q :: ps, kvs, h, h2 => by
    refine mem_merge ps (putKv kvs q.1 q.2.1 q.2.2) (fun p hp => ?_) fun p hp => h2 p (List.mem_cons_of_mem _ hp)
    rcases mem_put p hp with ⟨p', hp', e1, e2⟩ | ⟨e1, e2⟩
    · rw [← e1, ← e2]
      exact h p' hp'
    · rw [e1, e2]
      exact h2 q (List.mem_cons_self ..)
theorem relP_of {X : Cx} {pins : List (Addr × Obj)} {σ : L2.St} {H : Hp} {s : Shared} (I : L2.Inv X pins σ H s) : ∀ {Ts : List Addr} {ps : Kvs}, Paired (fun T p => SqT X.K H T [.ref p.2.1, p.2.2]) Ts ps →
    ∃ qs : List (NestedKey × Addr × Value), Paired rel ps qs ∧ qs.length = Ts.length ∧ ∀ (j : Nat) (q : NestedKey × Addr × Value), qs[j]? = some q → ∃ T, Ts[j]? = some T ∧ IsTup s.heap T #[.ref q.2.1, q.2.2]
  | _, _, .nil => ⟨[], .nil, rfl, fun j q e => by simp at e⟩
  | _, _, .cons (a := T) (b := p) h t => by
    obtain ⟨qs, r, hl, hp⟩ := relP_of I t
    obtain ⟨its, rv, ht, _⟩ := I.tuple h
    obtain ⟨u, y, ei, ru, ry⟩ := vals2 rv
    subst ei
    cases (show u = Value.ref p.2.1 from ru)
    refine ⟨(p.1, p.2.1, y) :: qs, .cons ⟨rfl, rfl, ry⟩ r, by simp [hl], fun j q e => ?_⟩
    cases j with
    | zero =>
      simp only [List.getElem?_cons_zero, Option.some.injEq] at e
      subst e
      exact ⟨T, rfl, ht⟩
    | succ j =>
      simp only [List.getElem?_cons_succ] at e ⊢
      exact hp j q e
def rDictN (P : Program) (w : World) (K : PySem.W.Frag) : List V → Hp → VK → Prop := fun xs H Q => ∃ (a : Addr) (Ts : List Addr) (ps : Kvs), xs = [.ref a] ∧ SqL K H a (Ts.map V.ref) ∧ Paired (fun T p => SqT K H T [.ref p.2.1, p.2.2]) Ts ps ∧ (∀ p ∈ ps, Nest H p.1 (.ref p.2.1) ∧ p.1.depth ≤ 8) ∧ ps.length ≤ 100000 ∧
  ∀ (d : Addr) (H' : Hp), H d = none → Same H H' → KD P w H' d (mergeKv [] ps) → Q (.ref d) H'
theorem call_dictN {X : Cx} (hcalm : X.calm = true) (hu : X.A.units + 64 < cLine) : CallR X (.type "dict") (rDictN X.prog X.w X.K) := by
  intro pins s σ H xs us Q I r q
  obtain ⟨a, Ts, ps, ex, hq, hp, hkey, hlen, q⟩ := q
  subst ex
  obtain ⟨u, eu, rx⟩ := vals1 r
  subst eu
  cases rx
  obtain ⟨its, rv, pl, hz⟩ := I.list hq
  have ei := refs_at rv
  subst ei
  obtain ⟨qs, rr, hl, hqs⟩ := relP_of I hp
  obtain ⟨o, n, ho, hc, hd, hdat⟩ := pl
  have hlT : Ts.length = ps.length := hp.length
  let prs : List (Value × Value) := qs.map fun q => (Value.ref q.2.1, q.2.2)
  have hpl : prs.length = ps.length := by rw [List.length_map, hl, hlT]
  have PA := PairArg.list (prog := X.prog) (w := X.w) a (Ts.map Value.ref).toArray (fun j => Ts.getD j 0) prs
  have ok : PlainSeq "list" s.heap a (Ts.map Value.ref).toArray ∧ PairItems s.heap (Ts.map Value.ref).toArray (fun j => Ts.getD j 0) prs := by
    refine ⟨⟨o, n, ho, hc, hd, hdat⟩, by rw [hpl, ← hlT]; simp, fun j k v e => ?_⟩
    obtain ⟨q', e1, e2⟩ := Option.map_eq_some_iff.mp ((List.getElem?_map ..).symm.trans (show prs[j]? = some (k, v) from e))
    cases e2
    obtain ⟨T, hT, it⟩ := hqs j q' e1
    have hg : Ts.getD j 0 = T := by rw [List.getD_eq_getElem?_getD, hT]; rfl
    refine ⟨?_, ?_⟩
    · show (Ts.map Value.ref).toArray[j]? = some (.ref (Ts.getD j 0))
      rw [hg]
      simp [hT]
    · show PairAt s.heap (Ts.getD j 0) _ _
      rw [hg]
      exact .inl it
  have hkN : ∀ x ∈ qs, (nestedKind X.prog X.w).is s.heap x.1 x.2.1 := fun x hx => by
    obtain ⟨p, hp, e1, e2, _⟩ := paired_mem rr x hx
    obtain ⟨n1, n2⟩ := hkey p hp
    rw [← e1, ← e2]
    exact ⟨n1.is I.hok rfl, n2⟩
  have hqp : qs.length = ps.length := by rw [hl, hlT]
  refine call_dict_pairsH (knd := nestedKind X.prog X.w) (ps := qs) PA (I.ok.hd hcalm) (by show X.A.units + 1 + 1 + 8 < cLine; omega) ok ⟨by rw [hpl, hqp], fun i key v e => ?_⟩ (fun h' hk x hx => ?_) (by rw [hpl]; exact Nat.le_trans hlen (by decide)) fun h' tk hd' hk => ?_
  · obtain ⟨q', e1, e2⟩ := Option.map_eq_some_iff.mp ((List.getElem?_map ..).symm.trans (show prs[i]? = some (key, v) from e))
    cases e2
    exact ⟨q'.1, q'.2.1, e1, rfl⟩
  · exact nestedKind_stays.stays (fun b ob vs n hb _ => hk b ob (Nat.ne_of_lt (Heap.lt_size hb)) (by simp) hb) (hkN x hx)
  · have hm : (s.heap.objs.size == sysModules) = false := beq_eq_false_iff_ne.mpr (Nat.ne_of_gt I.big)
    obtain ⟨ob, es, ep, h1, h2, h3, h4, h5, h6⟩ := hd'
    have rp := paired_merge rr (kvs := []) (xs := []) .nil
    have hn : H s.heap.objs.size = none := I.hok.fresh (Nat.le_refl _)
    have e0 : ∀ b xs, H b = some (.tup xs) → upd H s.heap.objs.size (.ext (rawD s.heap.objs.size es ep)) b = some (.tup xs) := fun b xs e => by
      rw [upd_ne (ne_of_none e hn)]
      exact e
    refine ⟨.ref s.heap.objs.size, upd H s.heap.objs.size (.ext (rawD s.heap.objs.size es ep)), I.laid (t' := tk) (fun b u e => hk b u (by simp) e) (Nat.le_refl _) ⟨⟨ob, h1, h2, h3⟩, ⟨ob, h1⟩, fun _ _ ⟨o', q1, q2⟩ kk => ⟨o', kk _ q1, q2⟩⟩, rfl, q _ _ hn (fun b o' e => ?_) ⟨?_, fun p hp' => ?_, hm, ?_, es, ep, _, upd_same, h4, rp⟩⟩
    · rw [upd_ne (ne_of_none e hn)]
      exact e
    · rw [← paired_fst rp]
      exact h6
    · obtain ⟨n1, n2⟩ := mem_merge (R := fun k a => Nest H k (.ref a) ∧ k.depth ≤ 8) ps [] (fun x hx => nomatch hx) hkey p hp'
      exact ⟨n1.keep e0, n2⟩
    · have := len_merge ps []
      rw [List.length_nil] at this
      omega
/-! ### == of two such dicts whose values are data -/
def isData (K : PySem.W.Frag) (H : Hp) (p : NestedKey × Addr × V) (q : NestedKey × PyData) : Prop := p.1 = q.1 ∧ Dp K H p.2.2 q.2 ∧ SeqAt.shaped q.2 = true
def lookD (kb : List (NestedKey × PyData)) (k : NestedKey) : Option PyData := (kb.find? fun p => decide (p.1 = k)).map (·.2)
def hitsD (kb : List (NestedKey × PyData)) : List (NestedKey × PyData) → Bool
  | [] => true
  | q :: r => (match lookD kb q.1 with | none => false | some e => PyData.eqv q.2 e) && hitsD kb r
def eqD (ka kb : List (NestedKey × PyData)) : Bool := (ka.length == kb.length) && hitsD kb ka
theorem look_rel {K : PySem.W.Frag} {H : Hp} {kvs : Kvs} {ds : List (NestedKey × PyData)} (r : Paired (isData K H) kvs ds) (k : NestedKey) : (atK kvs k = none ∧ lookD ds k = none) ∨ ∃ v d, atK kvs k = some v ∧ lookD ds k = some d ∧ Dp K H v d ∧ SeqAt.shaped d = true := by
  induction r with
  | nil => exact .inl ⟨rfl, rfl⟩
  | cons a r ih =>
    unfold atK lookD at *
    rw [List.find?_cons, List.find?_cons, ← a.1]
    rename_i p q ps qs
    by_cases e : p.1 = k
    · rw [decide_eq_true e]
      exact .inr ⟨_, _, rfl, rfl, a.2.1, a.2.2⟩
    · rw [decide_eq_false e]
      exact ih
theorem find_at {kvs : Kvs} {xs : List (NestedKey × Addr × Value)} (r : Paired rel kvs xs) (nd : (kvs.map (·.1)).Nodup) (k : NestedKey) : (atK kvs k = none ∧ ∀ (j : Nat) (p : Addr × Value), xs[j]? ≠ some (k, p)) ∨
    ∃ v, atK kvs k = some v ∧ ∀ (j : Nat) (p : Addr × Value), xs[j]? = some (k, p) → RelV v p.2 := by
  induction r with
  | nil => exact .inl ⟨rfl, fun j p z => by simp at z⟩
  | cons a r ih =>
    rename_i p x ps ys
    rw [List.map_cons, List.nodup_cons] at nd
    unfold atK
    rw [List.find?_cons]
    by_cases e : p.1 = k
    · rw [decide_eq_true e]
      refine .inr ⟨_, rfl, fun j q hq => ?_⟩
      cases j with
      | zero =>
        simp only [List.getElem?_cons_zero, Option.some.injEq] at hq
        have h3 := a.2.2
        rw [hq] at h3
        exact h3
      | succ j =>
        exfalso
        simp only [List.getElem?_cons_succ] at hq
        have hm := List.mem_of_getElem? hq
        obtain ⟨p', hp', e1, _⟩ := paired_mem r _ hm
        exact nd.1 (List.mem_map.mpr ⟨p', hp', by rw [e1, e]⟩)
    · rw [decide_eq_false e]
      rcases ih nd.2 with ⟨h1, h2⟩ | ⟨v, h1, h2⟩
      · refine .inl ⟨h1, fun j q hq => ?_⟩
        cases j with
        | zero =>
          simp only [List.getElem?_cons_zero, Option.some.injEq] at hq
          have := a.1
          rw [hq] at this
          exact e this
        | succ j => exact h2 j q (by simpa using hq)
      · refine .inr ⟨v, h1, fun j q hq => ?_⟩
        cases j with
        | zero =>
          simp only [List.getElem?_cons_zero, Option.some.injEq] at hq
          have := a.1
          rw [hq] at this
          exact absurd this e
        | succ j => exact h2 j q (by simpa using hq)
theorem same_pairsN {X : Cx} {pins : List (Addr × Obj)} {σ : L2.St} {H : Hp} {s : Shared} {E : Value → Shared → Prop} (I : L2.Inv X pins σ H s) {A : Around} {nm : String} {a b : Addr} {ka kb : Kvs} {da db : List (NestedKey × PyData)} {Q : Bool → Shared → Prop} (hu : A.units + 64 < cLine)
    (kA : KD X.prog X.w H a ka) (kB : KD X.prog X.w H b kb) (rA : Paired (isData X.K H) ka da) (rB : Paired (isData X.K H) kb db) (h : Q (eqD da db) s) :
    wpAny (model X.prog X.w) A (Builtin.Dict.samePairs nm a b) Q E s := by
  obtain ⟨xa, ra, oa, es, ep, hoa, _, hda, hea, hia, hna⟩ := kA.heap I.hok
  obtain ⟨xb, rb, ob, es', ep', hob, _, hdb, heb, hib, hnb⟩ := kB.heap I.hok
  have hla : es.size = da.length := by rw [size_of_entries hea, paired_len ra, rA.length]
  have hlb : es'.size = db.length := by rw [size_of_entries heb, paired_len rb, rB.length]
  unfold eqD at h
  rw [← hla, ← hlb] at h
  unfold Builtin.Dict.samePairs Builtin.Dict.showsAll
  rw [if_neg (show ¬ (a == sysModules) = true by rw [kA.sys]; exact Bool.false_ne_true), if_neg (show ¬ (b == sysModules) = true by rw [kB.sys]; exact Bool.false_ne_true)]
  refine wpAny_bind (wpAny_pure (wpAny_bind (wpAny_pure ?_)))
  refine wpAny_bind (wpAny_dictEntries hoa hda ?_)
  dsimp only
  refine wpAny_bind (wpAny_dictEntries hob hdb ?_)
  by_cases hsz : es.size = es'.size
  case neg =>
    rw [if_pos (by simpa using hsz)]
    have hbf : (es.size == es'.size) = false := by simpa using hsz
    rw [hbf, Bool.false_and] at h
    exact wpAny_bind (wpAny_rule (wpAny_pure h))
  case pos =>
    have h' : Q (hitsD db da) s := by simpa [hsz] using h
    rw [if_neg (by rw [hsz]; simp)]
    refine wpAny_bind (wpAny_dictEpoch hoa hda ?_)
    refine wpAny_bind ?_
    rw [Std.Legacy.Range.forIn_eq_forIn_range']
    simp only [Std.Legacy.Range.size, Nat.sub_zero, Nat.add_sub_cancel, Nat.div_one]
    refine wpAny_forIn_list _
      (fun rest q s' => s' = s ∧ q = (none, ()) ∧ ∃ i, rest = List.range' i (es.size - i) ∧ i ≤ es.size ∧ hitsD db da = hitsD db (da.drop i))
      _ ?_ ?_ _ _ ⟨rfl, rfl, 0, by simp, Nat.zero_le _, rfl⟩
    · rintro x rest q s' ⟨rfl, rfl, i, hr, hi, hpre⟩
      have hlt : i < es.size := by
        rcases Nat.lt_or_ge i es.size with h | h
        · exact h
        · rw [Nat.sub_eq_zero_of_le h] at hr; simp at hr
      obtain ⟨rfl, hrest⟩ : x = i ∧ rest = List.range' (i + 1) (es.size - (i + 1)) := by
        have e : es.size - i = (es.size - (i + 1)) + 1 := by omega
        rw [e, List.range'_succ] at hr
        injection hr with h1 h2
        exact ⟨h1, h2⟩
      refine wpAny_bind (wpAny_dictEntries hoa hda ?_)
      rw [Array.getElem?_eq_getElem hlt]
      have hda' : x < da.length := by omega
      have hdrop : da.drop x = da[x] :: da.drop (x + 1) := List.drop_eq_getElem_cons hda'
      have hka' : x < ka.length := by rw [rA.length]; exact hda'
      obtain ⟨qd, hqd, e1, dp1, sh1⟩ := paired_get rA (List.getElem?_eq_getElem hka')
      have eqd : qd = da[x] := by
        rw [List.getElem?_eq_getElem hda'] at hqd
        exact (Option.some.inj hqd).symm
      obtain ⟨xv, hxv, f1, f2, f3⟩ := paired_get ra (List.getElem?_eq_getElem hka')
      have hent := entry_at hea x
      rw [hxv, Array.getElem?_eq_getElem hlt] at hent
      have hent : es[x] = entryOfKey (nestedKind X.prog X.w) xv := Option.some.inj hent
      rw [hdrop] at hpre
      have hkx := hia xv (List.mem_of_getElem? hxv)
      show wpAny _ _ (holding [es[x].key, es[x].val] _ >>= _) _ _ _
      rw [hent]
      obtain ⟨as, rd1⟩ := Dp.reads I qd.2 _ xv.2.2 dp1 f3
      have ekey : xv.1 = qd.1 := by rw [← f1, e1]
      refine wpAny_bind (wpAny_holding (wpAny_bind (wpAny_dictFind_heap (knd := nestedKind X.prog X.w) (k := xv.1) (by show A.units + 8 < cLine; omega) hkx hob hdb heb hib hnb (fun hno => ?_) (fun j p hj => ?_))))
      · have hn : lookD db qd.1 = none := by
          rcases find_at rb kB.nd qd.1 with ⟨z1, _⟩ | ⟨v, z1, z2⟩
          · rcases look_rel rB qd.1 with ⟨_, y⟩ | ⟨v', d', y, _⟩
            · exact y
            · rw [z1] at y; cases y
          · exfalso
            obtain ⟨p', hp', hv⟩ : ∃ p' ∈ kb, p'.1 = qd.1 := by
              unfold atK at z1
              obtain ⟨p', hf, _⟩ := Option.map_eq_some_iff.mp z1
              exact ⟨p', List.mem_of_find?_eq_some hf, by simpa using List.find?_some hf⟩
            obtain ⟨j, hj⟩ := List.getElem?_of_mem hp'
            obtain ⟨x', hx', g1, _⟩ := paired_get rb hj
            exact hno j x'.2 (by rw [hx', ekey, ← hv, g1])
        rw [← eqd] at hpre
        have hf : hitsD db da = false := by
          rw [hpre]
          show ((match lookD db qd.1 with | none => false | some e => PyData.eqv qd.2 e) && _) = false
          rw [hn]
          rfl
        rw [hf] at h'
        refine wpAny_pure ?_
        show wpAny _ _ (if (!false) = true then _ else _) _ _ _
        rw [if_pos (by decide)]
        exact wpAny_pure (wpAny_pure h')
      · have hjlt : j < es'.size := by
          have := (List.getElem?_eq_some_iff.mp hj).1
          rw [size_of_entries heb]
          exact this
        have hent' := entry_at heb j
        rw [hj, Array.getElem?_eq_getElem hjlt] at hent'
        have hent' : es'[j] = entryOfKey (nestedKind X.prog X.w) (xv.1, p) := Option.some.inj hent'
        refine wpAny_bind (wpAny_dictEntries hob hdb ?_)
        rw [Array.getElem?_eq_getElem hjlt]
        obtain ⟨v', d', y1, y2, y3, y4⟩ : ∃ v' d', atK kb qd.1 = some v' ∧ lookD db qd.1 = some d' ∧ Dp X.K H v' d' ∧ SeqAt.shaped d' = true := by
          rcases look_rel rB qd.1 with ⟨y, _⟩ | y
          · exfalso
            rcases find_at rb kB.nd qd.1 with ⟨_, z⟩ | ⟨v, z1, _⟩
            · exact z j p (by rw [hj, ekey])
            · rw [y] at z1; cases z1
          · exact y
        have rv : RelV v' p.2 := by
          rcases find_at rb kB.nd qd.1 with ⟨z, _⟩ | ⟨v, z1, z2⟩
          · rw [y1] at z; cases z
          · rw [y1] at z1
            cases z1
            exact z2 j p (by rw [hj, ekey])
        obtain ⟨bs, rd2⟩ := Dp.reads I d' _ p.2 y3 rv
        have eqat := SeqAt.eqAt_reads qd.2 d' A s' xv.2.2 p.2 as bs rd1 rd2 (SeqAt.canLay_of_shaped sh1) (SeqAt.canLay_of_shaped y4) (SeqAt.room_of_shaped sh1 hu)
        rw [← eqd] at hpre
        have hstep : hitsD db da = (PyData.eqv qd.2 d' && hitsD db (da.drop (x + 1))) := by
          rw [hpre]
          show ((match lookD db qd.1 with | none => false | some e => PyData.eqv qd.2 e) && _) = _
          rw [y2]
        show wpAny _ _ (holding [es'[j].val] (eqBool _ es'[j].val)) _ _ _
        rw [hent']
        refine wpAny_holding (eqat X.prog X.w _ _ ?_)
        cases e : PyData.eqv qd.2 d' with
        | false =>
          rw [e, Bool.false_and] at hstep
          rw [hstep] at h'
          show wpAny _ _ (if (!false) = true then _ else _) _ _ _
          rw [if_pos (by decide)]
          exact wpAny_pure (wpAny_pure h')
        | true =>
          rw [e, Bool.true_and] at hstep
          show wpAny _ _ (if (!true) = true then _ else _) _ _ _
          rw [if_neg (by decide)]
          refine wpAny_bind (wpAny_dictEpoch hoa hda ?_)
          rw [if_neg (by simp)]
          exact wpAny_pure ⟨rfl, rfl, x + 1, hrest, hlt, hstep⟩
    · rintro q s' ⟨rfl, rfl, i, hr, hi, hpre⟩
      have hin : i = es.size := by
        rcases Nat.lt_or_ge i es.size with h | h
        · have e : es.size - i = (es.size - (i + 1)) + 1 := by omega
          rw [e, List.range'_succ] at hr; exact nomatch hr
        · exact Nat.le_antisymm hi h
      refine wpAny_pure ?_
      rw [hin, hla, List.drop_length] at hpre
      rw [hpre] at h'
      exact h'
def rEqDN (P : Program) (w : World) (K : PySem.W.Frag) : R2 := fun x y H Q => ∃ (a b : Addr) (ka kb : Kvs) (da db : List (NestedKey × PyData)), x = .ref a ∧ y = .ref b ∧ KD P w H a ka ∧ KD P w H b kb ∧ Paired (isData K H) ka da ∧ Paired (isData K H) kb db ∧ Q (.bl (eqD da db)) H
theorem op_eqDN {X : Cx} (hu : X.A.units + 65 < cLine) : OpR X (compareOp .Eq) (rEqDN X.prog X.w X.K) := by
  intro pins s σ H x y v u Q I rx ry h
  obtain ⟨a, b, ka, kb, da, db, rfl, rfl, kA, kB, rA, rB, q⟩ := h
  cases (show v = Value.ref a from rx)
  cases (show u = Value.ref b from ry)
  obtain ⟨xa, _, DA⟩ := kA.heap I.hok
  obtain ⟨xb, _, DB⟩ := kB.heap I.hok
  refine wpAny_richCompare_same_room (op := .Eq) DA.typeIs DB.typeIs PySem.F.slot_dict_eq (wpAny_call_entry PySem.F.slot_dict_eq DA.typeIs PySem.F.entry_dict_eq ?_ (PySem.F.args_dict_eq_2 _ _)) (by omega)
  show wpAny _ _ (Builtin.Dict.dictSlotArgs "__eq__" ⟨[.ref a, .ref b], []⟩ >>= _) _ _ s
  refine wpAny_bind ?_
  unfold Builtin.Dict.dictSlotArgs
  refine wpAny_bind (wpAny_notOrdered_dict DA.typeIs ?_)
  show wpAny _ _ (pure (Value.ref a, Value.ref b)) _ _ s
  refine wpAny_pure ?_
  refine wpAny_bind (wpAny_isInstance (T := "dict") DB.typeIs PySem.F.sub_dict_dict ?_)
  simp only [Bool.not_true, Bool.false_eq_true, if_false]
  refine wpAny_bind (wpAny_pure (wpAny_bind (wpAny_pure ?_)))
  refine wpAny_bind (same_pairsN I (by show X.A.units + 1 + 64 < cLine; omega) kA kB rA rB ?_)
  refine wpAny_pure ⟨_, rfl, ?_, ?_⟩
  · exact fun x => nomatch x
  · refine ⟨.bl (eqD da db), H, I, ?_, q⟩
    show _ = Value.bool (eqD da db)
    simp
end Kd

set_option Elab.async false
set_option linter.all false
set_option maxRecDepth 100000
set_option maxHeartbeats 2000000
/-! == of lists and tuples whose parts compare by methods of one's own: either answer. -/
namespace Ke
open PySem PySem.Spec PyProof.Rows L2
section
variable {prog : Program} {w : World} {A : Around}
def Two (l b : Addr) (N : Nat) (s : Shared) : Prop := ∃ (items items2 : Array Value) (n n2 : Nat), s.heap.get? l = some { cls := .type "list", data := .seq items n } ∧ s.heap.get? b = some { cls := .type "list", data := .seq items2 n2 } ∧ items.size = N ∧ items2.size = N
def ListB (prog : Program) (w : World) (A : Around) (E : Value → Shared → Prop) (l b : Addr) (N : Nat) (I : Nat → Shared → Prop) (F : Shared → Prop) : Prop := ∀ (i : Nat) (s : Shared), I i s →
  ∃ (items items2 : Array Value) (n n2 : Nat), s.heap.get? l = some { cls := .type "list", data := .seq items n } ∧ s.heap.get? b = some { cls := .type "list", data := .seq items2 n2 } ∧ items.size = N ∧ items2.size = N ∧
    ∀ (h1 : i < items.size) (h2 : i < items2.size), wpAny (model prog w) A.in1 (eqBool items[i] items2[i]) (fun r s' => (r = true ∧ I (i + 1) s') ∨ (r = false ∧ Two l b N s' ∧ F s')) E s
theorem items_at {E : Value → Shared → Prop} {l : Addr} {items : Array Value} {n : Nat} {Q : Array Value → Shared → Prop} {s : Shared} (h : s.heap.get? l = some { cls := .type "list", data := .seq items n }) (q : Q items s) : wpAny (model prog w) A (Builtin.List.listItems (.ref l)) Q E s := by
  obtain ⟨hp, g, d, tk, os⟩ := s
  exact wpAny_bind (wpAny_bind (wpAny_load' h (wpAny_pure (wpAny_pure q))))
theorem eq_loopB {R : Result → Shared → Prop} (l b : Addr) (N : Nat) (I : Nat → Shared → Prop) (F : Shared → Prop) (hl : ListB prog w A (fun e s' => R (.error e) s') l b N I F) (fin : ∀ s, I N s → R (.ok (.ret (.bool true))) s) (finF : ∀ s, F s → R (.ok (.ret (.bool false))) s) :
    ∀ (k i : Nat), N - i = k → i ≤ N → ∀ s, I i s → wpAny (model prog w) A.in1 (Builtin.«list.__eq__.loop» { pos := [.ref l, .ref b, rawInt (i : Int), rawInt 2] }) (GQ.FinOf prog w A R) (fun e s' => R (.error e) s') s := by
  intro k
  induction k with
  | zero =>
    intro i hk hi s h
    obtain ⟨items, items2, n, n2, e1, e2, z1, z2, _⟩ := hl i s h
    have hi' : i = N := by omega
    refine wpAny_bind (items_at e1 (wpAny_bind (items_at e2 ?_)))
    have h1 : items[(i : Int).toNat]? = none := by
      rw [show (i : Int).toNat = i from rfl]
      exact Array.getElem?_eq_none (by omega)
    have h2 : items2[(i : Int).toNat]? = none := by
      rw [show (i : Int).toNat = i from rfl]
      exact Array.getElem?_eq_none (by omega)
    rw [h1, h2]
    refine wpAny_bind (items_at e1 (wpAny_bind (items_at e2 (wpAny_pure ?_))))
    show R (.ok (.ret (.bool (items.size == items2.size)))) s
    rw [z1, z2, beq_self_eq_true]
    exact fin s (hi' ▸ h)
  | succ k ih =>
    intro i hk hi s h
    obtain ⟨items, items2, n, n2, e1, e2, z1, z2, turn⟩ := hl i s h
    refine wpAny_bind (items_at e1 (wpAny_bind (items_at e2 ?_)))
    have l1 : i < items.size := by omega
    have l2 : i < items2.size := by omega
    have h1 : items[(i : Int).toNat]? = some items[i] := getElem?_pos items i l1
    have h2 : items2[(i : Int).toNat]? = some items2[i] := getElem?_pos items2 i l2
    rw [h1, h2]
    refine wpAny_bind (wpAny_mono (turn l1 l2) (fun r s2 hh => ?_) fun _ _ z => z)
    rcases hh with ⟨rfl, h3⟩ | ⟨rfl, ⟨i1, i2, m1, m2, t1, t2, y1, y2⟩, h3⟩
    · refine wpAny_ite_true rfl (wpAny_pure ?_)
      refine ⟨plainId_quiet MeetsSeq3.plain_eq_loop _, codeAny_builtin MeetsSeq3.entry_eq_loop ?_⟩
      rw [Around.under_plainId MeetsSeq3.plain_eq_loop]
      exact ih (i + 1) (by omega) (by omega) s2 h3
    · rw [if_neg Bool.false_ne_true]
      refine wpAny_bind (items_at t1 (wpAny_bind (items_at t2 ?_)))
      have g1 : i1[(i : Int).toNat]? = some i1[i] := getElem?_pos i1 i (by omega)
      have g2 : i2[(i : Int).toNat]? = some i2[i] := getElem?_pos i2 i (by omega)
      rw [g1, g2]
      exact wpAny_pure (finF s2 h3)
theorem list_eqB {R : Result → Shared → Prop} (l b : Addr) (N : Nat) (I : Nat → Shared → Prop) (F : Shared → Prop) (hl : ListB prog w A (fun e s' => R (.error e) s') l b N I F) (fin : ∀ s, I N s → R (.ok (.ret (.bool true))) s) (finF : ∀ s, F s → R (.ok (.ret (.bool false))) s) {s : Shared} (h : I 0 s) :
    wpAny (model prog w) A.in1 (Builtin.«list.__eq__» { pos := [.ref l, .ref b] }) (GQ.FinOf prog w A R) (fun e s' => R (.error e) s') s := by
  obtain ⟨items, items2, n, n2, e1, e2, z1, z2, _⟩ := hl 0 s h
  have hrec := eq_loopB l b N I F hl fin finF (N - 0) 0 rfl (Nat.zero_le N) s h
  have f3 := AutoSeq1.sub_list_list
  refine wpAny_bind (wpAny_of_eq (a := ((Value.ref l : Value), [Value.ref b])) rfl ?_)
  obtain ⟨hp, g, d, tk, os⟩ := s
  refine wpAny_bind (wpAny_bind (wpAny_bind (wpAny_loadPart' e2 (wpAny_pure (wpAny_of_eq f3 ?_)))))
  refine wpAny_ite_false (by decide) (wpAny_ite_true (by decide) (wpAny_bind (items_at e1 (wpAny_bind (items_at e2 ?_)))))
  have hne : ¬ ((items.size != items2.size) = true) := by rw [z1, z2]; simp
  refine wpAny_ite_false (by simpa using hne) (wpAny_pure ?_)
  refine ⟨plainId_quiet MeetsSeq3.plain_eq_loop _, codeAny_builtin MeetsSeq3.entry_eq_loop ?_⟩
  rw [Around.under_plainId MeetsSeq3.plain_eq_loop]
  exact hrec
/-- of two lengths -/
theorem list_neB {R : Result → Shared → Prop} (l b : Addr) {items items2 : Array Value} {n n2 : Nat} {s : Shared} (e1 : s.heap.get? l = some { cls := .type "list", data := .seq items n }) (e2 : s.heap.get? b = some { cls := .type "list", data := .seq items2 n2 }) (hz : items.size ≠ items2.size) (fin : R (.ok (.ret (.bool false))) s) :
    wpAny (model prog w) A.in1 (Builtin.«list.__eq__» { pos := [.ref l, .ref b] }) (GQ.FinOf prog w A R) (fun e s' => R (.error e) s') s := by
  have f3 := AutoSeq1.sub_list_list
  refine wpAny_bind (wpAny_of_eq (a := ((Value.ref l : Value), [Value.ref b])) rfl ?_)
  obtain ⟨hp, g, d, tk, os⟩ := s
  refine wpAny_bind (wpAny_bind (wpAny_bind (wpAny_loadPart' e2 (wpAny_pure (wpAny_of_eq f3 ?_)))))
  refine wpAny_ite_false (by decide) (wpAny_ite_true (by decide) (wpAny_bind (items_at e1 (wpAny_bind (items_at e2 ?_)))))
  refine wpAny_ite_true (by simpa using hz) ?_
  refine wpAny_bind (wpAny_rule ?_)
  refine wpAny_of_eq (a := Fin.done (.ret (.bool false))) rfl ?_
  exact fin
theorem rc_listB {E : Value → Shared → Prop} {s : Shared} {l b : Addr} {N : Nat} {Q : Value → Shared → Prop} (hu : A.units < cLine) (I : Nat → Shared → Prop) (F : Shared → Prop) (hl : ListB prog w A E l b N I F) (fin : ∀ s, I N s → Q (.bool true) s) (finF : ∀ s, F s → Q (.bool false) s) (h : I 0 s) :
    wpAny (model prog w) A (richCompare .Eq (.ref l) (.ref b)) Q E s := by
  obtain ⟨items, items2, n, n2, e1, e2, _⟩ := hl 0 s h
  exact wpAny_richCompare_same_room ⟨_, e1, rfl⟩ ⟨_, e2, rfl⟩ PySem.F.slot_list_eq (GQ.call_here PySem.F.slot_list_eq ⟨_, e1, rfl⟩ PySem.F.entry_list_eq (PySem.F.args_list_eq_2 (.ref l) (.ref b)) (list_eqB l b N I F hl (fun s' q => ⟨nofun, fin s' q⟩) (fun s' q => ⟨nofun, finF s' q⟩) h)) hu
theorem rc_listN {E : Value → Shared → Prop} {s : Shared} {l b : Addr} {items items2 : Array Value} {n n2 : Nat} {Q : Value → Shared → Prop} (hu : A.units < cLine) (e1 : s.heap.get? l = some { cls := .type "list", data := .seq items n }) (e2 : s.heap.get? b = some { cls := .type "list", data := .seq items2 n2 }) (hz : items.size ≠ items2.size) (fin : Q (.bool false) s) :
    wpAny (model prog w) A (richCompare .Eq (.ref l) (.ref b)) Q E s :=
  wpAny_richCompare_same_room ⟨_, e1, rfl⟩ ⟨_, e2, rfl⟩ PySem.F.slot_list_eq (GQ.call_here PySem.F.slot_list_eq ⟨_, e1, rfl⟩ PySem.F.entry_list_eq (PySem.F.args_list_eq_2 (.ref l) (.ref b)) (list_neB l b e1 e2 hz ⟨nofun, fin⟩)) hu
/-! ### tuples -/
theorem titems_at {E : Value → Shared → Prop} {l : Addr} {o : Obj} {items : Array Value} {n : Nat} {Q : Array Value → Shared → Prop} {s : Shared} (h : s.heap.get? l = some o) (ho : o.data = .seq items n) (q : Q items s) : wpAny (model prog w) A (Builtin.Tuple.tupleItemsOf (.ref l)) Q E s := by
  obtain ⟨hp, g, d, tk, os⟩ := s
  obtain ⟨c, dd, dt, sl⟩ := o
  cases ho
  exact wpAny_bind (wpAny_bind (wpAny_load' h (wpAny_pure (wpAny_pure q))))
theorem tup_eqB {R : Result → Shared → Prop} (l b : Addr) {o o2 : Obj} {items items2 : Array Value} {n n2 : Nat} (I : Nat → Shared → Prop) (F : Shared → Prop)
    (turn : ∀ (i : Nat) (h1 : i < items.size) (h2 : i < items2.size) (s : Shared), I i s → wpAny (model prog w) A.in1 (eqBool items[i] items2[i]) (fun r s' => (r = true ∧ I (i + 1) s') ∨ (r = false ∧ F s')) (fun e s' => R (.error e) s') s)
    (fin : ∀ s, I (min items.size items2.size) s → R (.ok (.ret (.bool (items.size == items2.size)))) s) (finF : ∀ s, F s → R (.ok (.ret (.bool false))) s) {s : Shared}
    (e1 : s.heap.get? l = some o) (c1 : o.cls = .type "tuple") (d1 : o.data = .seq items n) (e2 : s.heap.get? b = some o2) (c2 : o2.cls = .type "tuple") (d2 : o2.data = .seq items2 n2) (h : I 0 s) :
    wpAny (model prog w) A.in1 (Builtin.«tuple.__eq__» { pos := [.ref l, .ref b] }) (GQ.FinOf prog w A R) (fun e s' => R (.error e) s') s := by
  have f2 := AutoSeq1.sub_tuple_tuple
  refine wpAny_bind (wpAny_of_eq (a := ((Value.ref l : Value), [Value.ref b])) rfl ?_)
  obtain ⟨hp, g, d, tk, os⟩ := s
  refine wpAny_bind (wpAny_bind (wpAny_bind (wpAny_loadPart' e2 (wpAny_pure ?_))))
  rw [c2]
  refine wpAny_of_eq f2 (wpAny_ite_false (by decide) (wpAny_bind (titems_at e1 d1 (wpAny_bind (titems_at e2 d2 ?_)))))
  have hZ : (items.toList.zip items2.toList).length = min items.size items2.size := by rw [List.length_zip, Array.length_toList, Array.length_toList]
  refine wpAny_bind (wpAny_forIn_list _ (fun rest b s' => b.1 = none ∧ ∃ i, rest = (items.toList.zip items2.toList).drop i ∧ i ≤ min items.size items2.size ∧ I i s') _ ?_ ?_ _ _ ⟨rfl, 0, rfl, Nat.zero_le _, h⟩)
  · rintro ⟨x, y⟩ rest ⟨b1, b2⟩ s' ⟨hb, i, hr, hi, hI⟩
    have hlt : i < (items.toList.zip items2.toList).length := by
      refine Nat.lt_of_not_le fun z => ?_
      rw [List.drop_of_length_le z] at hr
      cases hr
    have l1 : i < items.size := by omega
    have l2 : i < items2.size := by omega
    rw [List.drop_eq_getElem_cons hlt, List.getElem_zip] at hr
    obtain ⟨hxy, hrest⟩ := List.cons.inj hr
    obtain ⟨rfl, rfl⟩ := Prod.mk.inj hxy
    refine wpAny_bind (wpAny_mono (turn i l1 l2 s' hI) (fun r s2 hh => ?_) fun _ _ z => z)
    rcases hh with ⟨rfl, h3⟩ | ⟨rfl, h3⟩
    · exact wpAny_ite_false (by decide) (wpAny_pure ⟨rfl, i + 1, hrest, by omega, h3⟩)
    · exact wpAny_ite_true (by decide) (wpAny_bind (wpAny_pure (wpAny_pure (wpAny_pure (finF s2 h3)))))
  · rintro ⟨b1, b2⟩ s' ⟨hb, i, hr, hi, hI⟩
    cases hb
    have hi2 : i = min items.size items2.size := by
      have := congrArg List.length hr
      rw [List.length_drop, hZ] at this
      have : 0 = min items.size items2.size - i := this
      omega
    exact wpAny_pure (fin s' (hi2 ▸ hI))
theorem rc_tupB {E : Value → Shared → Prop} {s : Shared} {l b : Addr} {items items2 : Array Value} {Q : Value → Shared → Prop} (hu : A.units < cLine) (I : Nat → Shared → Prop) (F : Shared → Prop) (e1 : s.heap.IsTuple l items) (e2 : s.heap.IsTuple b items2)
    (turn : ∀ (i : Nat) (h1 : i < items.size) (h2 : i < items2.size) (s : Shared), I i s → wpAny (model prog w) A.in1 (eqBool items[i] items2[i]) (fun r s' => (r = true ∧ I (i + 1) s') ∨ (r = false ∧ F s')) E s)
    (fin : ∀ s, I (min items.size items2.size) s → Q (.bool (items.size == items2.size)) s) (finF : ∀ s, F s → Q (.bool false) s) (h : I 0 s) : wpAny (model prog w) A (richCompare .Eq (.ref l) (.ref b)) Q E s := by
  obtain ⟨o1, g1, c1, n1, d1⟩ := e1
  obtain ⟨o2, g2, c2, n2, d2⟩ := e2
  exact wpAny_richCompare_same_room ⟨_, g1, c1⟩ ⟨_, g2, c2⟩ PySem.F.slot_tuple_eq (GQ.call_here PySem.F.slot_tuple_eq ⟨_, g1, c1⟩ PySem.F.entry_tuple_eq (PySem.F.args_tuple_eq_2 (.ref l) (.ref b)) (tup_eqB l b I F turn (fun s' q => ⟨nofun, fin s' q⟩) (fun s' q => ⟨nofun, finF s' q⟩) g1 c1 d1 g2 c2 d2 h)) hu
end
end Ke

set_option Elab.async false
set_option linter.all false
set_option maxRecDepth 100000
set_option maxHeartbeats 2000000
namespace Ke
open PySem PySem.Spec PyProof.Rows L2
/-- when x == y gives b -/
abbrev Eqb := V → V → Hp → Bool → Prop
def MonB (D : Eqb) : Prop := ∀ x y H H' b, Ext H H' → D x y H b → D x y H' b
def RcB (X : Cx) (n : Nat) (D : Eqb) : Prop := ∀ (A : Around) (pins : List (Addr × Obj)) (s : Shared) (σ : L2.St) (H : Hp) (x y : V) (u v : Value) (b : Bool), Sub X n A → L2.Inv X pins σ H s → RelV x u → RelV y v → D x y H b →
  wpAny (model X.prog X.w) A (richCompare .Eq u v) (fun r s' => r = .bool b ∧ ∃ H', L2.Inv X pins σ H' s' ∧ Ext H H') X.xe s
def EqB (X : Cx) (n : Nat) (D : Eqb) : Prop := ∀ (A : Around) (pins : List (Addr × Obj)) (s : Shared) (σ : L2.St) (H : Hp) (x y : V) (u v : Value) (b : Bool), Sub X n A → L2.Inv X pins σ H s → RelV x u → RelV y v → D x y H b →
  wpAny (model X.prog X.w) A (eqBool u v) (fun r s' => r = b ∧ ∃ H', L2.Inv X pins σ H' s' ∧ Ext H H') X.xe s
/-- what is the same thing is equal -/
def SelfB (D : Eqb) : Prop := (∀ x y H b, D x y H b → ∃ a c, x = .ref a ∧ y = .ref c) ∧ ∀ a H b, D (.ref a) (.ref a) H b → b = true
theorem RcB.eqB {X : Cx} {n : Nat} {D : Eqb} (h : RcB X n D) (hr : SelfB D) : EqB X n D := by
  intro A pins s σ H x y u v b sb I rx ry d
  obtain ⟨a, c, rfl, rfl⟩ := hr.1 x y H b d
  cases (show u = Value.ref a from rx)
  cases (show v = Value.ref c from ry)
  by_cases hab : a = c
  · subst hab
    rw [hr.2 a H b d]
    exact SeqAt.EqAt.same (.ref a) X.prog X.w X.xe _ ⟨rfl, H, I, Ext.rfl'⟩
  · exact GQ.eqBool_refG hab (wpAny_mono (h A pins s σ H (.ref a) (.ref c) _ _ b sb I rfl rfl d) (fun r s' q => ⟨b, q.1, rfl, q.2⟩) fun _ _ z => z)
theorem op_eqB {X : Cx} {n : Nat} {D : Eqb} (h : RcB X n D) (hr : Room n X.A) : OpR X (compareOp .Eq) (fun x y H Q => ∃ b, D x y H b ∧ ∀ H', Ext H H' → Q (.bl b) H') := by
  intro pins s σ H x y v u Q I rx ry ⟨b, d, q⟩
  refine wpAny_mono (h X.A pins s σ H x y v u b ⟨hr, rfl⟩ I rx ry d) (fun r s' z => ?_) fun _ _ z => z
  obtain ⟨rfl, H', I', e⟩ := z
  exact ⟨.bl b, H', I', rfl, q H' e⟩
/-- part by part -/
inductive EqL (D : Eqb) (H : Hp) : List V → List V → Bool → Prop where
  | nil : EqL D H [] [] true
  | nilC (y : V) (ys : List V) : EqL D H [] (y :: ys) false
  | consN (x : V) (xs : List V) : EqL D H (x :: xs) [] false
  | same {x y : V} {xs ys : List V} {b : Bool} (h : D x y H true) (r : EqL D H xs ys b) : EqL D H (x :: xs) (y :: ys) b
  | diff {x y : V} {xs ys : List V} (h : D x y H false) : EqL D H (x :: xs) (y :: ys) false
theorem EqL.mon {D : Eqb} (m : MonB D) {H H' : Hp} (e : Ext H H') {xs ys : List V} {b : Bool} (h : EqL D H xs ys b) : EqL D H' xs ys b := by
  induction h with
  | nil => exact .nil
  | nilC y ys => exact .nilC y ys
  | consN x xs => exact .consN x xs
  | same h _ ih => exact .same (m _ _ _ _ _ e h) ih
  | diff h => exact .diff (m _ _ _ _ _ e h)
theorem EqL.end_ {D : Eqb} {H : Hp} {xs ys : List V} {b : Bool} (h : EqL D H (xs.drop (min xs.length ys.length)) (ys.drop (min xs.length ys.length)) b) : b = (xs.length == ys.length) := by
  rcases Nat.lt_trichotomy xs.length ys.length with q | q | q
  · rw [Nat.min_eq_left (Nat.le_of_lt q), List.drop_length] at h
    have : (xs.length == ys.length) = false := by simpa using (Nat.ne_of_lt q)
    rw [this]
    generalize hz : ys.drop xs.length = zs at h
    cases h with
    | nil =>
      have := congrArg List.length hz
      rw [List.length_drop] at this
      have : ys.length - xs.length = 0 := this
      omega
    | nilC y zs => rfl
  · rw [q, Nat.min_self, List.drop_length, ← q, List.drop_length] at h
    rw [q, beq_self_eq_true]
    cases h
    rfl
  · rw [Nat.min_eq_right (Nat.le_of_lt q), List.drop_length] at h
    have : (xs.length == ys.length) = false := by simpa using (Nat.ne_of_gt q)
    rw [this]
    generalize hz : xs.drop ys.length = zs at h
    cases h with
    | nil =>
      have := congrArg List.length hz
      rw [List.length_drop] at this
      have : xs.length - ys.length = 0 := this
      omega
    | consN y zs => rfl
theorem EqL.at_ {D : Eqb} {H : Hp} {xs ys : List V} {b : Bool} {i : Nat} (h : EqL D H (xs.drop i) (ys.drop i) b) (h1 : i < xs.length) (h2 : i < ys.length) : (D xs[i] ys[i] H true ∧ EqL D H (xs.drop (i + 1)) (ys.drop (i + 1)) b) ∨ (D xs[i] ys[i] H false ∧ b = false) := by
  rw [List.drop_eq_getElem_cons h1, List.drop_eq_getElem_cons h2] at h
  cases h with
  | same h r => exact .inl ⟨h, r⟩
  | diff h => exact .inr ⟨h, rfl⟩
/-- the invariant of the walk -/
def LoopB (X : Cx) (pins : List (Addr × Obj)) (σ : L2.St) (H : Hp) (s' : Shared) : Prop := ∃ H', L2.Inv X pins σ H' s' ∧ Ext H H'
theorem turnB {X : Cx} {n : Nat} {D : Eqb} (m : MonB D) (h : EqB X n D) {A : Around} (sb : Sub X n A) {pins : List (Addr × Obj)} {σ : L2.St} {H : Hp} {xs ys : List V} {b : Bool} {us vs : List Value} (r1 : Vals xs us) (r2 : Vals ys vs) {i : Nat} (l1 : i < us.length) (l2 : i < vs.length) {s' : Shared}
    (q : (∃ H', L2.Inv X pins σ H' s' ∧ Ext H H') ∧ EqL D H (xs.drop i) (ys.drop i) b) :
    wpAny (model X.prog X.w) A (eqBool us[i] vs[i]) (fun r s2 => (r = true ∧ LoopB X pins σ H s2 ∧ EqL D H (xs.drop (i + 1)) (ys.drop (i + 1)) b) ∨ (r = false ∧ LoopB X pins σ H s2 ∧ b = false)) X.xe s' := by
  obtain ⟨⟨H1, I1, e1⟩, el⟩ := q
  have l1' : i < xs.length := by rw [r1.length]; exact l1
  have l2' : i < ys.length := by rw [r2.length]; exact l2
  obtain ⟨u, hu, ru⟩ := r1.get (List.getElem?_eq_getElem l1')
  obtain ⟨v, hv, rv⟩ := r2.get (List.getElem?_eq_getElem l2')
  rw [List.getElem?_eq_getElem l1] at hu
  rw [List.getElem?_eq_getElem l2] at hv
  cases hu
  cases hv
  rcases el.at_ l1' l2' with ⟨d, r⟩ | ⟨d, rfl⟩
  · refine wpAny_mono (h A pins s' σ H1 _ _ _ _ true sb I1 ru rv (m _ _ _ _ _ e1 d)) (fun r' s2 z => ?_) fun _ _ z => z
    obtain ⟨rfl, H2, I2, e2⟩ := z
    exact .inl ⟨rfl, ⟨H2, I2, e1.trans e2⟩, r⟩
  · refine wpAny_mono (h A pins s' σ H1 _ _ _ _ false sb I1 ru rv (m _ _ _ _ _ e1 d)) (fun r' s2 z => ?_) fun _ _ z => z
    obtain ⟨rfl, H2, I2, e2⟩ := z
    exact .inr ⟨rfl, ⟨H2, I2, e1.trans e2⟩, rfl⟩
section
variable {X : Cx}
def DTupB (K : PySem.W.Frag) (D : Eqb) : Eqb := fun x y H b => ∃ a c xs ys, x = .ref a ∧ y = .ref c ∧ SqT K H a xs ∧ SqT K H c ys ∧ EqL D H xs ys b
def DListB (D : Eqb) : Eqb := fun x y H b => ∃ a c xs ys, x = .ref a ∧ y = .ref c ∧ H a = some (.lst xs) ∧ H c = some (.lst ys) ∧ ((xs.length = ys.length ∧ EqL D H xs ys b) ∨ (xs.length ≠ ys.length ∧ b = false))
theorem monTup {K : PySem.W.Frag} {D : Eqb} (m : MonB D) : MonB (DTupB K D) := fun x y H H' b e ⟨a, c, xs, ys, ex, ey, h1, h2, r⟩ => ⟨a, c, xs, ys, ex, ey, h1.ext e, h2.ext e, r.mon m e⟩
theorem monList {D : Eqb} (m : MonB D) : MonB (DListB D) := fun x y H H' b e ⟨a, c, xs, ys, ex, ey, h1, h2, r⟩ => ⟨a, c, xs, ys, ex, ey, e _ _ h1, e _ _ h2, r.elim (fun ⟨z, q⟩ => .inl ⟨z, q.mon m e⟩) .inr⟩
theorem rcB_tup {n : Nat} {D : Eqb} (m : MonB D) (h : EqB X n D) : RcB X (n + 1) (DTupB X.K D) := by
  intro A pins s σ H x y u v b sb I rx ry d
  obtain ⟨a, c, xs, ys, rfl, rfl, ha, hc, el⟩ := d
  cases (show u = Value.ref a from rx)
  cases (show v = Value.ref c from ry)
  obtain ⟨us, r1, t1, _⟩ := I.tuple ha
  obtain ⟨vs, r2, t2, _⟩ := I.tuple hc
  refine rc_tupB sb.room.units0 (fun i s' => LoopB X pins σ H s' ∧ EqL D H (xs.drop i) (ys.drop i) b) (fun s' => LoopB X pins σ H s' ∧ b = false) t1 t2 (fun i h1 h2 s' q => ?_) (fun s' q => ?_) (fun s' q => ?_) ⟨⟨H, I, Ext.rfl'⟩, el⟩
  · refine wpAny_mono (turnB m h sb.in1 r1 r2 (by simpa using h1) (by simpa using h2) q) (fun r s2 z => ?_) fun _ _ z => z
    rcases z with ⟨e, z1, z2⟩ | ⟨e, z1, z2⟩
    · exact .inl ⟨e, z1, z2⟩
    · exact .inr ⟨e, z1, z2⟩
  · obtain ⟨⟨H1, I1, e1⟩, el1⟩ := q
    have hz : min us.toArray.size vs.toArray.size = min xs.length ys.length := by rw [List.size_toArray, List.size_toArray, r1.length, r2.length]
    rw [hz] at el1
    refine ⟨?_, H1, I1, e1⟩
    rw [el1.end_, List.size_toArray, List.size_toArray, r1.length, r2.length]
  · obtain ⟨⟨H1, I1, e1⟩, rfl⟩ := q
    exact ⟨rfl, H1, I1, e1⟩
theorem rcB_list {n : Nat} {D : Eqb} (m : MonB D) (h : EqB X n D) : RcB X (n + 1) (DListB D) := by
  intro A pins s σ H x y u v b sb I rx ry d
  obtain ⟨a, c, xs, ys, rfl, rfl, ha, hc, el⟩ := d
  cases (show u = Value.ref a from rx)
  cases (show v = Value.ref c from ry)
  rcases el with ⟨hl, el⟩ | ⟨hl, rfl⟩
  · refine rc_listB (N := xs.length) sb.room.units0 (fun i s' => LoopB X pins σ H s' ∧ EqL D H (xs.drop i) (ys.drop i) b) (fun s' => LoopB X pins σ H s' ∧ b = false) (fun i s' q => ?_) (fun s' q => ?_) (fun s' q => ?_) ⟨⟨H, I, Ext.rfl'⟩, el⟩
    · obtain ⟨⟨H1, I1, e1⟩, el1⟩ := id q
      obtain ⟨_, us, k1, r1, g1⟩ := I1.hok a _ (e1 _ _ ha)
      obtain ⟨_, vs, k2, r2, g2⟩ := I1.hok c _ (e1 _ _ hc)
      refine ⟨us.toArray, vs.toArray, k1, k2, g1, g2, by rw [List.size_toArray, r1.length], by rw [List.size_toArray, ← r2.length, hl], fun h1 h2 => ?_⟩
      refine wpAny_mono (turnB m h sb.in1 r1 r2 (by simpa using h1) (by simpa using h2) q) (fun r s2 z => ?_) fun _ _ z => z
      rcases z with ⟨e, z1, z2⟩ | ⟨e, z1, z2⟩
      · exact .inl ⟨e, z1, z2⟩
      · refine .inr ⟨e, ?_, z1, z2⟩
        obtain ⟨H2, I2, e2⟩ := z1
        obtain ⟨_, us, k1, r1, g1⟩ := I2.hok a _ (e2 _ _ ha)
        obtain ⟨_, vs, k2, r2, g2⟩ := I2.hok c _ (e2 _ _ hc)
        exact ⟨us.toArray, vs.toArray, k1, k2, g1, g2, by rw [List.size_toArray, r1.length], by rw [List.size_toArray, ← r2.length, hl]⟩
    · obtain ⟨⟨H1, I1, e1⟩, el1⟩ := q
      rw [show xs.drop xs.length = [] from List.drop_length, show ys.drop xs.length = [] from by rw [hl]; exact List.drop_length] at el1
      cases el1
      exact ⟨rfl, H1, I1, e1⟩
    · obtain ⟨⟨H1, I1, e1⟩, rfl⟩ := q
      exact ⟨rfl, H1, I1, e1⟩
  · obtain ⟨_, us, k1, r1, g1⟩ := I.hok a _ ha
    obtain ⟨_, vs, k2, r2, g2⟩ := I.hok c _ hc
    exact rc_listN sb.room.units0 g1 g2 (by rw [List.size_toArray, List.size_toArray, ← r1.length, ← r2.length]; exact hl) ⟨rfl, H, I, Ext.rfl'⟩
end
end Ke

set_option Elab.async false
set_option linter.all false
set_option maxRecDepth 100000
set_option maxHeartbeats 2000000
namespace Ke
open PySem PySem.Spec PyProof.Rows L2
/-! ### by an __eq__ of one's own, and of data -/
section
variable {X : Cx}
def DInsB (C : Addr) (R : Addr → Addr → Hp → Bool → Prop) : Eqb := fun x y H b => ∃ a c dx dy fs gs, x = .ref a ∧ y = .ref c ∧ H a = some (.ins C dx fs) ∧ H c = some (.ins C dy gs) ∧ R a c H b
def spEqB (R : Addr → Addr → Hp → Bool → Prop) : Sp := fun vs H Q _ => ∃ a c b, vs = [.ref a, .ref c] ∧ R a c H b ∧ ∀ H', Ext H H' → Q (.bl b) H'
theorem monIns {C : Addr} {R : Addr → Addr → Hp → Bool → Prop} (m : ∀ a c H H' b, Ext H H' → R a c H b → R a c H' b) : MonB (DInsB C R) := fun x y H H' b e ⟨a, c, dx, dy, fs, gs, ex, ey, h1, h2, r⟩ => ⟨a, c, dx, dy, fs, gs, ex, ey, e _ _ h1, e _ _ h2, m _ _ _ _ _ e r⟩
theorem rcB_ins {CX : CXT} {n : Nat} {f C : Addr} {fd : FuncData} {ps : List Str} {R : Addr → Addr → Hp → Bool → Prop} {E : XK} (F : FnOk X.prog X.w X.K X.mg X.base CX n f fd ps (spEqB R)) (hs : PySem.W.findIn X.K (.ref C) "__eq__" = some (some (.ref f))) (hf : PySem.W.isFn X.K (.ref f) = true) (hb : L2.Binds X.K fd ps []) (hx : Passes CX X E) :
    RcB X n (DInsB C R) := by
  intro A pins s σ H x y u v b sb I rx ry d
  obtain ⟨a, c, dx, dy, fs, gs, rfl, rfl, ha, hc, r⟩ := d
  cases (show u = Value.ref a from rx)
  cases (show v = Value.ref c from ry)
  obtain ⟨mA, J, _⟩ := ins_get I.hok ha
  obtain ⟨mB, J', _⟩ := ins_get I.hok hc
  obtain ⟨od, J, _⟩ := J.look
  obtain ⟨od', J', _⟩ := J'.look
  obtain ⟨m, hF⟩ := I.fr
  refine PySem.W.cmp_K (op := .Eq) (tb := .ref C) sb.room.units0 hF I.ok.mod.kin J J'.type (by simp [PySem.W.notFirst]) hs hf ?_
  have e0 : Env0 X.prog X.w X.K X.mg X.base A X.stack s H := { Inv.env0 I with frames := by rw [sb.fr]; exact (Inv.env0 I).frames }
  have sp : spEqB R [.ref a, .ref c] H (fun z H' => z = .bl b ∧ Ext H H') E := ⟨a, c, b, rfl, r, fun H' e => ⟨rfl, e⟩⟩
  have hl := F.len _ _ _ _ sp
  have bb := hb s [.ref a, .ref c] (Inv.kIn I) (by rw [List.append_nil]; exact hl)
  rw [List.append_nil] at bb
  refine wpAny_call (codeAny_mono (F.run A X.stack s H { pos := [.ref a, .ref c] } [.ref a, .ref c] [.ref a, .ref c] _ E sb.room e0 bb (.cons rfl (.cons rfl .nil)) sp) fun r s' hq => ?_)
  cases r with
  | error e => exact hx pins σ H s e s' I hq
  | ok fl =>
    cases fl with
    | ret u =>
      obtain ⟨z, H', I', rz, rfl, e⟩ := Inv.after I hq
      exact SlX.cmpback rz ⟨rz, H', I', e⟩
    | next => exact hq.elim
    | brk => exact hq.elim
    | cont => exact hq.elim
mutual
theorem dpExt {K : PySem.W.Frag} {H H' : Hp} (e : Ext H H') : ∀ {v : V} {d : PyData}, Dp K H v d → Dp K H' v d
  | _, _, .non => .non
  | _, _, .bl b => .bl b
  | _, _, .int i => .int i
  | _, _, .str z => .str z
  | _, _, .lst h r => .lst (h.ext e) (dpAllExt e r)
  | _, _, .tup h r => .tup (h.ext e) (dpAllExt e r)
theorem dpAllExt {K : PySem.W.Frag} {H H' : Hp} (e : Ext H H') : ∀ {vs : List V} {ds : List PyData}, DpAll K H vs ds → DpAll K H' vs ds
  | _, _, .nil => .nil
  | _, _, .cons h r => .cons (dpExt e h) (dpAllExt e r)
end
/-- data at two places -/
def DDatB (K : PySem.W.Frag) : Eqb := fun x y H b => ∃ a c d e, x = .ref a ∧ y = .ref c ∧ Dp K H x d ∧ Dp K H y e ∧ SeqAt.shaped d = true ∧ SeqAt.shaped e = true ∧ b = PyData.eqv d e ∧ (a = c → b = true)
theorem monDat {K : PySem.W.Frag} : MonB (DDatB K) := fun x y H H' b e ⟨a, c, d, d', ex, ey, h1, h2, z⟩ => ⟨a, c, d, d', ex, ey, dpExt e h1, dpExt e h2, z⟩
theorem selfDat {K : PySem.W.Frag} : SelfB (DDatB K) := ⟨fun x y H b ⟨a, c, _, _, ex, ey, _⟩ => ⟨a, c, ex, ey⟩, fun a H b ⟨_, _, _, _, ex, ey, _, _, _, _, _, z⟩ => z (by cases ex; cases ey; rfl)⟩
theorem rcB_dat {n : Nat} : RcB X n (DDatB X.K) := by
  intro A pins s σ H x y u v b sb I rx ry d
  obtain ⟨a, c, d, e, rfl, rfl, h1, h2, s1, s2, rfl, _⟩ := d
  obtain ⟨as, r1⟩ := Dp.reads I d _ u h1 rx
  obtain ⟨bs, r2⟩ := Dp.reads I e _ v h2 ry
  exact SeqAt.compareEq_shaped r1 r2 s1 s2 (by have := sb.room.un; omega) ⟨rfl, H, I, Ext.rfl'⟩
theorem monOr {D D' : Eqb} (m : MonB D) (m' : MonB D') : MonB (fun x y H b => D x y H b ∨ D' x y H b) := fun x y H H' b e d => d.elim (fun d => .inl (m _ _ _ _ _ e d)) fun d => .inr (m' _ _ _ _ _ e d)
theorem EqB.or {n : Nat} {D D' : Eqb} (h : EqB X n D) (h' : EqB X n D') : EqB X n (fun x y H b => D x y H b ∨ D' x y H b) := fun A pins s σ H x y u v b sb I rx ry d => d.elim (h A pins s σ H x y u v b sb I rx ry) (h' A pins s σ H x y u v b sb I rx ry)
theorem RcB.or {n : Nat} {D D' : Eqb} (h : RcB X n D) (h' : RcB X n D') : RcB X n (fun x y H b => D x y H b ∨ D' x y H b) := fun A pins s σ H x y u v b sb I rx ry d => d.elim (h A pins s σ H x y u v b sb I rx ry) (h' A pins s σ H x y u v b sb I rx ry)
end
end Ke

set_option Elab.async false
set_option linter.all false
set_option maxRecDepth 100000
set_option maxHeartbeats 4000000
namespace K0
open PySem PySem.Spec PyProof.Rows L2
abbrev sLots : Stmt := top 15
abbrev sOneL : Stmt := top 16
abbrev sSure : Stmt := top 17
abbrev sPI : Stmt := inClass (top 14) 0
abbrev sPE : Stmt := inClass (top 14) 1
abbrev sPEn : Stmt := inClass (top 14) 2
/-! ### sums of fractions over one denominator -/
theorem sum_rn {S w W : Int} (h : 0 < W) : rn (rn S W * rd w W + rn w W * rd S W) (rd S W * rd w W) = rn (S + w) W ∧ rd (rn S W * rd w W + rn w W * rd S W) (rd S W * rd w W) = rd (S + w) W := by
  obtain ⟨h1, h2⟩ := add_ok (n := S) (m := w) h h
  rw [h1, h2, show S * W + w * W = W * (S + w) by rw [Int.mul_add, Int.mul_comm S, Int.mul_comm w]]
  exact ⟨rn_scale h _ _, rd_scale h _ _⟩
theorem is_one {S W : Int} (h : 0 < W) : (decide (rn S W = rn 1 1) && decide (rd S W = rd 1 1)) = decide (S = W) := by
  have e1 : rn 1 1 = 1 := by decide +kernel
  have e2 : rd 1 1 = 1 := by decide +kernel
  rw [e1, e2]
  by_cases q : S = W
  · subst q
    have := rn_scale h 1 1
    rw [Int.mul_one, e1] at this
    have t2 := rd_scale h 1 1
    rw [Int.mul_one, e2] at t2
    rw [this, t2]
    simp
  · rw [decide_eq_false q]
    by_cases a : rn S W = 1
    · by_cases b : rd S W = 1
      · exfalso
        have h1 := n_eq S W
        have h2 := d_eq S W
        rw [a, Int.mul_one] at h1
        rw [b, Int.mul_one] at h2
        exact q (h1.trans h2.symm)
      · rw [decide_eq_false b, Bool.and_false]
    · rw [decide_eq_false a, Bool.false_and]
theorem PI.or {X : Cx} {tg e : Expr} {a b : TI} (h : PI X tg e a) (h' : PI X tg e b) : PI X tg e (fun σ H R => a σ H R ∨ b σ H R) := ⟨fun pins s σ H R I q => q.elim (h.run pins s σ H R I) (h'.run pins s σ H R I)⟩
/-- fractions of the weights ws over W, in lowest terms -/
structure Lots (C : Addr) (H : Hp) (as : List Addr) (ws : List Int) (W : Int) : Prop where
  len : as.length = ws.length
  at_ : ∀ (i : Nat) (a : Addr) (w : Int), as[i]? = some a → ws[i]? = some w → RatAt C H a (rn w W) (rd w W)
  pos : 0 < W
  big : W ≤ 1000000
  small : ∀ w ∈ ws, w.natAbs ≤ 1000000
  few : ws.length ≤ 100
theorem Lots.same {C : Addr} {H H' : Hp} {as : List Addr} {ws : List Int} {W : Int} (l : Lots C H as ws W) (s : Same H H') : Lots C H' as ws W := ⟨l.len, fun i a w h1 h2 => (l.at_ i a w h1 h2).same s, l.pos, l.big, l.small, l.few⟩
theorem sum_small {ws : List Int} (h : ∀ w ∈ ws, w.natAbs ≤ 1000000) : ws.sum.natAbs ≤ 1000000 * ws.length := by
  induction ws with
  | nil => exact Nat.le_refl _
  | cons w r ih =>
    have h1 := h w (List.mem_cons_self ..)
    have h2 := ih fun x hx => h x (List.mem_cons_of_mem _ hx)
    rw [List.sum_cons, List.length_cons]
    have := Int.natAbs_add_le w r.sum
    omega
def lotsB (ws : List Int) (W : Int) : Bool := ws.all (fun w => decide (0 ≤ w)) && decide (ws.sum = W)
def SeqR (K : PySem.W.Frag) (H : Hp) (l : Addr) (as : List Addr) : Prop := SqL K H l (as.map V.ref) ∨ SqT K H l (as.map V.ref)
def spLots (K : PySem.W.Frag) (C : Addr) : Sp := fun vs H Q _ => ∃ (l : Addr) (as : List Addr) (ws : List Int) (W : Int), vs = [.ref l] ∧ SeqR K H l as ∧ Lots C H as ws W ∧ ∀ H', Same H H' → Q (.bl (lotsB ws W)) H'
section
variable {P : Program} {w : World} {K : PySem.W.Frag} {mg : Str → Option Value} {base : Heap} {C BR : Addr}
theorem scLt : FnScope ["ratios", "total", "ratio"] ["ratios"] (defScope sLots) := ⟨rfl, rfl, rfl, by decide +kernel, rfl, by decide +kernel, by decide +kernel⟩
theorem ok_lots {f fI fA fE : Addr} {fd fdI fdA fdE : FuncData} {ds : List Value} (F : Fun K "are_lots" "are_lots" sLots f fd) (T : Txt K mg C BR) (M : Mk K C fI) (sf : PySem.W.selfFirst K C = true)
    (G : FnOk P w K mg base (L2.CX P w) 1 fI fdI ["self", "num", "den"] (spInit C BR)) (bD : Binds K fdI ["self", "num", "den"] ds) (vD : Vals [.int 1] ds)
    (GA : FnOk P w K mg base CX0 3 fA fdA ["self", "other"] (spBin C nAdd nDen)) (aA : PySem.W.findIn K (.ref C) "__add__" = some (some (.ref fA))) (iA : PySem.W.isFn K (.ref fA) = true) (bA : Binds K fdA ["self", "other"] [])
    (GE : FnOk P w K mg base CX0 1 fE fdE ["self", "other"] (spEq C)) (aE : PySem.W.findIn K (.ref C) "__eq__" = some (some (.ref fE))) (iE : PySem.W.isFn K (.ref fE) = true) (bE : Binds K fdE ["self", "other"] []) :
    FnOk P w K mg base CX0 4 f fd ["ratios"] (spLots K C) := by
  refine F.ok scLt (fun vs H Q E h => ?_) (fun cdv A outer s H vs Q E hr h => ?_)
  · obtain ⟨l, as, ws, W, rfl, _⟩ := h
    rfl
  · obtain ⟨l, as, ws, W, rfl, sq, L, q⟩ := h
    have hr1 : Room 1 _ := hr.mono (by decide)
    have hr2 : Room 2 _ := hr.mono (by decide)
    refine ⟨_, pss_cons (ps_set (i := 1) scLt.nd rfl (Or.inl rfl) (pe_make M G hr2 rfl T.mgC bD vD passL (pa_cons pe_int pa_nil)))
      (pss_cons (ps_for PassesOwn.never rfl (PI.or (pi_list (pv 0)) (pi_tup (pv 0))) (pg_name (i := 2) scLt.nd rfl (Or.inl rfl))
        (pss_cons (ps_if (pt_cmpR op_lt (pe_fld (pv 2) rfl) pe_int (nomark _)) (pss_one (ps_ret pe_bl)) pss_nil)
        (pss_one (ps_set (i := 1) scLt.nd rfl (Or.inl rfl) (pe_op (op_ownB GA hr sf aA iA bA pass0) (pv 1) (pv 2))))))
      (pss_one (ps_ret (pe_cmpR (op_ownE GE hr1 aE iE bE pass0) (pv 1) (pe_make M G hr2 rfl T.mgC bD vD passL (pa_cons pe_int pa_nil)) (nomark _))))), ?_⟩
    intro x dx nx ndx nex
    refine ⟨x, dx, 0, 1, rfl, upd_same, Bd.of_small (by decide) (by decide), fun z => absurd z (by decide), fun _ H1 hR kp => ⟨rfl, ?_⟩⟩
    have s1 : Same H H1 := Same.made nx ndx kp
    have e0 : rn 0 1 = rn 0 W ∧ rd 0 1 = rd 0 W := by
      have h1 := rn_scale L.pos 0 1
      have h2 := rd_scale L.pos 0 1
      rw [Int.mul_zero, Int.mul_one] at h1 h2
      exact ⟨h1.symm, h2.symm⟩
    rw [e0.1, e0.2] at hR
    have bs : ∀ i : Nat, ((ws.take i).sum).natAbs < 1073741824 := fun i => by
      have h1 := sum_small (ws := ws.take i) fun w hw => L.small w (List.mem_of_mem_take hw)
      have h2 : (ws.take i).length ≤ 100 := by rw [List.length_take]; exact Nat.le_trans (Nat.min_le_right ..) L.few
      omega
    have bW : W.natAbs < 1073741824 := by have := L.pos; have := L.big; omega
    let Pv : Nat → L2.St → Hp → Prop := fun i σ H' => (∃ v2 t, σ = [some (.ref l), some (.ref t), v2] ∧ RatAt C H' t (rn (ws.take i).sum W) (rd (ws.take i).sum W)) ∧ Same H H' ∧ ∀ w ∈ ws.take i, 0 ≤ w
    have h0 : Pv 0 [some (.ref l), some (.ref x), none] H1 := ⟨⟨none, x, rfl, hR⟩, s1, fun w hw => by rw [List.take_zero] at hw; exact nomatch hw⟩
    rcases sq with sq | sq
    · refine .inl ⟨_, rfl, l, rfl, ⟨_, sq.ext s1⟩, for_list Pv h0 (fun i σ H2 _ h => sq.ext h.2.1) ?_ ?_⟩
      · rintro i x σ H2 hx ⟨⟨v2, t, rfl, ht⟩, s2, hp⟩
        rw [List.getElem?_map] at hx
        obtain ⟨a, hxa, rfl⟩ := Option.map_eq_some_iff.mp hx
        have hil : i < as.length := (List.getElem?_eq_some_iff.mp hxa).1
        have hiw : i < ws.length := by rw [← L.len]; exact hil
        have hw : ws[i]? = some ws[i] := List.getElem?_eq_getElem hiw
        have ea := ((L.same s2).at_ i a ws[i] hxa hw)
        have hwm := List.getElem_mem hiw
        have hws := L.small _ hwm
        obtain ⟨da, ea⟩ := id ea
        refine ⟨_, rfl, a, C, da, _, _, rfl, ea, T.cl, T.nN, rf_num _ _, _, _, rfl, rfl, _, rfl, ite2 (fun z => ?_) (fun z => ?_)⟩
        · have z := of_decide_eq_true z
          have hneg : ws[i] < 0 := by
            refine Int.not_le.mp fun z2 => ?_
            have h1 := n_eq ws[i] W
            have h2 := G_pos (n := ws[i]) L.pos
            have h3 : K0.G ws[i] W * rn ws[i] W < 0 := Int.mul_neg_of_pos_of_neg h2 z
            omega
          have : lotsB ws W = false := by
            unfold lotsB
            have : (ws.all fun w => decide (0 ≤ w)) = false := List.all_eq_false.mpr ⟨ws[i], hwm, by simpa using hneg⟩
            rw [this, Bool.false_and]
          rw [this] at q
          exact q _ s2
        · have hnn : 0 ≤ ws[i] := by
            refine Int.not_lt.mp fun z2 => z (decide_eq_true ?_)
            have h1 := n_eq ws[i] W
            have h2 := G_pos (n := ws[i]) L.pos
            refine Int.not_le.mp fun z3 => ?_
            have := Int.mul_nonneg (Int.le_of_lt h2) z3
            omega
          have hb : ws[i].natAbs < 1073741824 := by omega
          obtain ⟨dt, et⟩ := id ht
          refine ⟨_, rfl, _, rfl, t, dt, _, a, da, _, rfl, rfl, et, ea, t, a, _, _, _, _, rfl, ht, ⟨da, ea⟩, (Bd.of_small (bs i) (by decide)).rn L.pos, Bd.rd L.pos (Bd.of_small bW (by decide)), (Bd.of_small hb (by decide)).rn L.pos, Bd.rd L.pos (Bd.of_small bW (by decide)), rd_pos L.pos, rd_pos L.pos, fun t2 H3 s3 h3 => ?_⟩
          have hsum : (ws.take (i + 1)).sum = (ws.take i).sum + ws[i] := by
            rw [List.take_succ_eq_append_getElem hiw, List.sum_append, List.sum_cons, List.sum_nil, Int.add_zero]
          obtain ⟨r1, r2⟩ := sum_rn (S := (ws.take i).sum) (w := ws[i]) L.pos
          have h3 : RatAt C H3 t2 (rn (ws.take (i + 1)).sum W) (rd (ws.take (i + 1)).sum W) := by
            rw [hsum, ← r1, ← r2]
            exact h3
          refine ⟨⟨_, t2, rfl, h3⟩, s2.trans s3, fun w hw => ?_⟩
          rw [List.take_succ_eq_append_getElem hiw] at hw
          rcases List.mem_append.mp hw with hw | hw
          · exact hp w hw
          · rw [List.mem_singleton.mp hw]
            exact hnn
      · rintro σ H2 ⟨⟨v2, t, rfl, ht⟩, s2, hp⟩
        rw [List.length_map, L.len, List.take_length] at ht hp
        refine ⟨_, rfl, fun y dy ny ndy ney => ?_⟩
        refine ⟨y, dy, 1, 1, rfl, upd_same, Bd.of_small (by decide) (by decide), fun z => absurd z (by decide), fun _ H3 h3 kp => ⟨rfl, ?_⟩⟩
        have s3 : Same H2 H3 := Same.made ny ndy kp
        obtain ⟨dt, et⟩ := ht.same s3
        obtain ⟨d3, e3⟩ := id h3
        refine ⟨t, dt, _, y, d3, _, rfl, rfl, et, e3, t, y, _, _, _, _, rfl, ⟨dt, et⟩, h3, ?_⟩
        rw [is_one L.pos]
        have : lotsB ws W = decide (ws.sum = W) := by
          unfold lotsB
          have : (ws.all fun w => decide (0 ≤ w)) = true := List.all_eq_true.mpr fun w hw => decide_eq_true (hp w hw)
          rw [this, Bool.true_and]
        rw [← this]
        exact q _ (s2.trans s3)
    · refine .inr ⟨_, rfl, l, rfl, ⟨_, sq.ext s1⟩, for_tup Pv h0 (fun i σ H2 _ h => sq.ext h.2.1) ?_ ?_⟩
      · rintro i x σ H2 hx ⟨⟨v2, t, rfl, ht⟩, s2, hp⟩
        rw [List.getElem?_map] at hx
        obtain ⟨a, hxa, rfl⟩ := Option.map_eq_some_iff.mp hx
        have hil : i < as.length := (List.getElem?_eq_some_iff.mp hxa).1
        have hiw : i < ws.length := by rw [← L.len]; exact hil
        have hw : ws[i]? = some ws[i] := List.getElem?_eq_getElem hiw
        have ea := ((L.same s2).at_ i a ws[i] hxa hw)
        have hwm := List.getElem_mem hiw
        have hws := L.small _ hwm
        obtain ⟨da, ea⟩ := id ea
        refine ⟨_, rfl, a, C, da, _, _, rfl, ea, T.cl, T.nN, rf_num _ _, _, _, rfl, rfl, _, rfl, ite2 (fun z => ?_) (fun z => ?_)⟩
        · have z := of_decide_eq_true z
          have hneg : ws[i] < 0 := by
            refine Int.not_le.mp fun z2 => ?_
            have h1 := n_eq ws[i] W
            have h2 := G_pos (n := ws[i]) L.pos
            have h3 : K0.G ws[i] W * rn ws[i] W < 0 := Int.mul_neg_of_pos_of_neg h2 z
            omega
          have : lotsB ws W = false := by
            unfold lotsB
            have : (ws.all fun w => decide (0 ≤ w)) = false := List.all_eq_false.mpr ⟨ws[i], hwm, by simpa using hneg⟩
            rw [this, Bool.false_and]
          rw [this] at q
          exact q _ s2
        · have hnn : 0 ≤ ws[i] := by
            refine Int.not_lt.mp fun z2 => z (decide_eq_true ?_)
            have h1 := n_eq ws[i] W
            have h2 := G_pos (n := ws[i]) L.pos
            refine Int.not_le.mp fun z3 => ?_
            have := Int.mul_nonneg (Int.le_of_lt h2) z3
            omega
          have hb : ws[i].natAbs < 1073741824 := by omega
          obtain ⟨dt, et⟩ := id ht
          refine ⟨_, rfl, _, rfl, t, dt, _, a, da, _, rfl, rfl, et, ea, t, a, _, _, _, _, rfl, ht, ⟨da, ea⟩, (Bd.of_small (bs i) (by decide)).rn L.pos, Bd.rd L.pos (Bd.of_small bW (by decide)), (Bd.of_small hb (by decide)).rn L.pos, Bd.rd L.pos (Bd.of_small bW (by decide)), rd_pos L.pos, rd_pos L.pos, fun t2 H3 s3 h3 => ?_⟩
          have hsum : (ws.take (i + 1)).sum = (ws.take i).sum + ws[i] := by
            rw [List.take_succ_eq_append_getElem hiw, List.sum_append, List.sum_cons, List.sum_nil, Int.add_zero]
          obtain ⟨r1, r2⟩ := sum_rn (S := (ws.take i).sum) (w := ws[i]) L.pos
          have h3 : RatAt C H3 t2 (rn (ws.take (i + 1)).sum W) (rd (ws.take (i + 1)).sum W) := by
            rw [hsum, ← r1, ← r2]
            exact h3
          refine ⟨⟨_, t2, rfl, h3⟩, s2.trans s3, fun w hw => ?_⟩
          rw [List.take_succ_eq_append_getElem hiw] at hw
          rcases List.mem_append.mp hw with hw | hw
          · exact hp w hw
          · rw [List.mem_singleton.mp hw]
            exact hnn
      · rintro σ H2 ⟨⟨v2, t, rfl, ht⟩, s2, hp⟩
        rw [List.length_map, L.len, List.take_length] at ht hp
        refine ⟨_, rfl, fun y dy ny ndy ney => ?_⟩
        refine ⟨y, dy, 1, 1, rfl, upd_same, Bd.of_small (by decide) (by decide), fun z => absurd z (by decide), fun _ H3 h3 kp => ⟨rfl, ?_⟩⟩
        have s3 : Same H2 H3 := Same.made ny ndy kp
        obtain ⟨dt, et⟩ := ht.same s3
        obtain ⟨d3, e3⟩ := id h3
        refine ⟨t, dt, _, y, d3, _, rfl, rfl, et, e3, t, y, _, _, _, _, rfl, ⟨dt, et⟩, h3, ?_⟩
        rw [is_one L.pos]
        have : lotsB ws W = decide (ws.sum = W) := by
          unfold lotsB
          have : (ws.all fun w => decide (0 ≤ w)) = true := List.all_eq_true.mpr fun w hw => decide_eq_true (hp w hw)
          rw [this, Bool.true_and]
        rw [← this]
        exact q _ (s2.trans s3)
end
end K0

set_option Elab.async false
set_option linter.all false
set_option maxRecDepth 100000
set_option maxHeartbeats 4000000
namespace K0
open PySem PySem.Spec PyProof.Rows L2 Ke
/-! ### == of plans' entries -/
def RatR (C : Addr) : Addr → Addr → Hp → Bool → Prop := fun a c H b => ∃ n d m e, RatAt C H a n d ∧ RatAt C H c m e ∧ b = (decide (n = m) && decide (d = e))
/-- of two things at places; a thing is equal to itself -/
def DRef (D : Eqb) : Eqb := fun x y H b => (∃ a c, x = .ref a ∧ y = .ref c ∧ (a = c → b = true)) ∧ D x y H b
theorem selfRef (D : Eqb) : SelfB (DRef D) := ⟨fun x y H b ⟨⟨a, c, ex, ey, _⟩, _⟩ => ⟨a, c, ex, ey⟩, fun a H b ⟨⟨_, _, ex, ey, z⟩, _⟩ => z (by cases ex; cases ey; rfl)⟩
theorem monRef {D : Eqb} (m : MonB D) : MonB (DRef D) := fun x y H H' b e ⟨z, d⟩ => ⟨z, m _ _ _ _ _ e d⟩
theorem rcRef {X : Cx} {n : Nat} {D : Eqb} (h : RcB X n D) : RcB X n (DRef D) := fun A pins s σ H x y u v b sb I rx ry d => h A pins s σ H x y u v b sb I rx ry d.2
theorem rcMore {X : Cx} {n m : Nat} {D : Eqb} (h : RcB X n D) (hm : n ≤ m) : RcB X m D := fun A pins s σ H x y u v b sb I rx ry d => h A pins s σ H x y u v b ⟨sb.room.mono hm, sb.fr⟩ I rx ry d
theorem rf_inj {n d m e : Int} (h : rf n d = rf m e) : n = m ∧ d = e := by
  have h1 := rf_num n d
  have h2 := rf_den n d
  rw [h, rf_num] at h1
  rw [h, rf_den] at h2
  cases h1
  cases h2
  exact ⟨rfl, rfl⟩
theorem rat_det {C a : Addr} {H : Hp} {n d m e : Int} (h : RatAt C H a n d) (h' : RatAt C H a m e) : n = m ∧ d = e := by
  obtain ⟨dx, e1⟩ := h
  obtain ⟨dy, e2⟩ := h'
  rw [e1] at e2
  injection e2 with e2
  injection e2 with _ _ e3
  exact rf_inj e3
abbrev DRat (C : Addr) : Eqb := DRef (DInsB C (RatR C))
abbrev DLots (K : PySem.W.Frag) (C : Addr) : Eqb := DRef (DTupB K (DRat C))
abbrev DPart (K : PySem.W.Frag) (C : Addr) : Eqb := fun x y H b => DDatB K x y H b ∨ DLots K C x y H b
abbrev DEnt (K : PySem.W.Frag) (C : Addr) : Eqb := DRef (DTupB K (DPart K C))
theorem monRat {C : Addr} : MonB (DRat C) := monRef (monIns fun a c H H' b e ⟨n, d, m, e', h1, h2, z⟩ => ⟨n, d, m, e', h1.same e, h2.same e, z⟩)
theorem monPart {K : PySem.W.Frag} {C : Addr} : MonB (DPart K C) := monOr monDat (monRef (monTup monRat))
theorem selfPart {K : PySem.W.Frag} {C : Addr} : SelfB (DPart K C) := ⟨fun x y H b d => d.elim (selfDat.1 x y H b) ((selfRef _).1 x y H b), fun a H b d => d.elim (selfDat.2 a H b) ((selfRef _).2 a H b)⟩
section
variable {X : Cx} {C f : Addr} {fd : FuncData}
theorem rc_entries {E : XK} (F : FnOk X.prog X.w X.K X.mg X.base CX0 1 f fd ["self", "other"] (spEq C)) (hs : PySem.W.findIn X.K (.ref C) "__eq__" = some (some (.ref f))) (hf : PySem.W.isFn X.K (.ref f) = true) (hb : L2.Binds X.K fd ["self", "other"] []) (hx : Passes CX0 X E) :
    RcB X 4 (DListB (DEnt X.K C)) := by
  have F2 : FnOk X.prog X.w X.K X.mg X.base CX0 1 f fd ["self", "other"] (spEqB (RatR C)) := by
    refine ⟨fun vs H Q E ⟨a, c, b, e, _⟩ => by rw [e]; rfl, fun A outer s H args us vs Q E hr e0 hb hv ⟨a, c, b, e, ⟨n, d, m, e', h1, h2, hb'⟩, q⟩ => F.run A outer s H args us vs Q E hr e0 hb hv ⟨a, c, n, d, m, e', e, h1, h2, ?_⟩⟩
    rw [← hb']
    exact q H Ext.rfl'
  have r1 : RcB X 1 (DRat C) := rcRef (rcB_ins F2 hs hf hb hx)
  have r2 : RcB X 2 (DLots X.K C) := rcRef (rcB_tup monRat (r1.eqB (selfRef _)))
  have r3 : RcB X 3 (DEnt X.K C) := rcRef (rcB_tup monPart ((RcB.or rcB_dat r2).eqB selfPart))
  exact rcB_list (monRef (monTup monPart)) (r3.eqB (selfRef _))
end
/-- an entry: its tuple, its view's and its lots' place, the lots' places and values -/
structure Ent where
  e : Addr
  va : Addr
  la : Addr
  key : NestedKey
  as : List Addr
  lots : List (Int × Int)
structure EntOk (K : PySem.W.Frag) (C : Addr) (H : Hp) (x : Ent) : Prop where
  he : H x.e = some (.tup [.ref x.va, .ref x.la])
  hv : Kd.Nest H x.key (.ref x.va)
  sv : SeqAt.shaped x.key.data = true
  dv : x.key.depth ≤ 8
  hl : H x.la = some (.tup (x.as.map V.ref))
  len : x.as.length = x.lots.length
  rat : ∀ (i : Nat) (a : Addr) (q : Int × Int), x.as[i]? = some a → x.lots[i]? = some q → RatAt C H a q.1 q.2
def entEq (x y : Ent) : Bool := decide (x.key = y.key) && decide (x.lots = y.lots)
theorem refl_shaped {d : PyData} (h : SeqAt.shaped d = true) : PyData.eqv d d = true := by
  unfold SeqAt.shaped at h
  exact PySem.SeqAt.eqv_refl d (Bool.and_eq_true_iff.mp h).1
theorem eql_rat {C : Addr} {H : Hp} : ∀ {as cs : List Addr} {ls ms : List (Int × Int)}, as.length = ls.length → cs.length = ms.length → (∀ (i : Nat) (a : Addr) (q : Int × Int), as[i]? = some a → ls[i]? = some q → RatAt C H a q.1 q.2) → (∀ (i : Nat) (a : Addr) (q : Int × Int), cs[i]? = some a → ms[i]? = some q → RatAt C H a q.1 q.2) →
    EqL (DRat C) H (as.map V.ref) (cs.map V.ref) (decide (ls = ms))
  | [], [], [], [], _, _, _, _ => .nil
  | [], c :: cs, [], m :: ms, _, _, _, _ => .nilC _ _
  | a :: as, [], l :: ls, [], _, _, _, _ => .consN _ _
  | a :: as, c :: cs, l :: ls, m :: ms, h1, h2, r1, r2 => by
    have ra := r1 0 a l rfl rfl
    have rc := r2 0 c m rfl rfl
    have ih := eql_rat (C := C) (H := H) (as := as) (cs := cs) (ls := ls) (ms := ms) (by simpa using h1) (by simpa using h2) (fun i a q x y => r1 (i + 1) a q x y) (fun i a q x y => r2 (i + 1) a q x y)
    obtain ⟨dx, ea⟩ := id ra
    obtain ⟨dy, ec⟩ := id rc
    by_cases z : l = m
    · subst z
      rw [show decide (l :: ls = l :: ms) = decide (ls = ms) from by by_cases w : ls = ms <;> simp [w]]
      exact .same ⟨⟨a, c, rfl, rfl, fun _ => rfl⟩, a, c, dx, dy, _, _, rfl, rfl, ea, ec, _, _, _, _, ra, rc, by simp⟩ ih
    · rw [decide_eq_false (fun w => z (List.cons.inj w).1)]
      refine .diff ⟨⟨a, c, rfl, rfl, fun w => ?_⟩, a, c, dx, dy, _, _, rfl, rfl, ea, ec, _, _, _, _, ra, rc, ?_⟩
      · subst w
        obtain ⟨e1, e2⟩ := rat_det ra rc
        exact absurd (Prod.ext e1 e2) z
      · by_cases w : l.1 = m.1
        · rw [decide_eq_false (fun w2 => z (Prod.ext w w2)), Bool.and_false]
        · rw [decide_eq_false w, Bool.false_and]
theorem ref_inj : ∀ {as cs : List Addr}, as.map V.ref = cs.map V.ref → as = cs
  | [], [], _ => rfl
  | a :: as, c :: cs, h => by
    obtain ⟨h1, h2⟩ := List.cons.inj h
    cases h1
    rw [ref_inj h2]
theorem lots_det {C : Addr} {H : Hp} : ∀ {as : List Addr} {ls ms : List (Int × Int)}, as.length = ls.length → as.length = ms.length → (∀ (i : Nat) (a : Addr) (q : Int × Int), as[i]? = some a → ls[i]? = some q → RatAt C H a q.1 q.2) → (∀ (i : Nat) (a : Addr) (q : Int × Int), as[i]? = some a → ms[i]? = some q → RatAt C H a q.1 q.2) → ls = ms
  | [], [], [], _, _, _, _ => rfl
  | a :: as, l :: ls, m :: ms, h1, h2, r1, r2 => by
    obtain ⟨e1, e2⟩ := rat_det (r1 0 a l rfl rfl) (r2 0 a m rfl rfl)
    rw [Prod.ext e1 e2, lots_det (as := as) (ls := ls) (ms := ms) (by simpa using h1) (by simpa using h2) (fun i a q x y => r1 (i + 1) a q x y) (fun i a q x y => r2 (i + 1) a q x y)]
theorem ent_lots {K : PySem.W.Frag} {C : Addr} {H : Hp} {x y : Ent} (hx : EntOk K C H x) (hy : EntOk K C H y) (h : x.la = y.la) : x.lots = y.lots := by
  have e := hx.hl
  rw [h, hy.hl] at e
  injection e with e
  injection e with e
  have e := ref_inj e
  exact lots_det (as := x.as) hx.len (by rw [← e]; exact hy.len) hx.rat (by rw [← e]; exact hy.rat)
theorem ent_same {K : PySem.W.Frag} {C : Addr} {H : Hp} {x y : Ent} (hx : EntOk K C H x) (hy : EntOk K C H y) (h : x.e = y.e) : entEq x y = true := by
  have e := hx.he
  rw [h, hy.he] at e
  injection e with e
  injection e with e
  have e1 : V.ref y.va = V.ref x.va := (List.cons.inj e).1
  have e2 : V.ref y.la = V.ref x.la := (List.cons.inj (List.cons.inj e).2).1
  unfold entEq
  have hv : y.va = x.va := by injection e1
  have hl : y.la = x.la := by injection e2
  have hk : x.key = y.key := Kd.Nest.det hx.hv (by rw [← hv]; exact hy.hv)
  rw [decide_eq_true hk, ent_lots hx hy hl.symm, decide_eq_true rfl]
  rfl
theorem eql_ent {K : PySem.W.Frag} {C : Addr} {H : Hp} {x y : Ent} (hx : EntOk K C H x) (hy : EntOk K C H y) : DEnt K C (.ref x.e) (.ref y.e) H (entEq x y) := by
  refine ⟨⟨x.e, y.e, rfl, rfl, ent_same hx hy⟩, x.e, y.e, _, _, rfl, rfl, SqT.of hx.he, SqT.of hy.he, ?_⟩
  unfold entEq
  have d1 : ∀ b, b = decide (x.key = y.key) → DPart K C (.ref x.va) (.ref y.va) H b := fun b hb => .inl ⟨x.va, y.va, _, _, rfl, rfl, hx.hv.dp, hy.hv.dp, hx.sv, hy.sv, by rw [hb, Kd.eqv_key], fun z => by
    have hk : x.key = y.key := Kd.Nest.det hx.hv (by rw [z]; exact hy.hv)
    rw [hb, decide_eq_true hk]⟩
  have d2 : DPart K C (.ref x.la) (.ref y.la) H (decide (x.lots = y.lots)) := .inr ⟨⟨x.la, y.la, rfl, rfl, fun z => decide_eq_true (ent_lots hx hy z)⟩, x.la, y.la, _, _, rfl, rfl, SqT.of hx.hl, SqT.of hy.hl, eql_rat hx.len hy.len hx.rat hy.rat⟩
  cases he : decide (x.key = y.key) with
  | false => exact .diff (d1 false he.symm)
  | true =>
    rw [Bool.true_and]
    refine .same (d1 true he.symm) ?_
    cases hd : decide (x.lots = y.lots) with
    | false =>
      rw [hd] at d2
      exact .diff d2
    | true =>
      rw [hd] at d2
      exact .same d2 .nil
def rowsEq : List Ent → List Ent → Bool
  | [], [] => true
  | x :: xs, y :: ys => entEq x y && rowsEq xs ys
  | _, _ => false
theorem eql_rows {K : PySem.W.Frag} {C : Addr} {H : Hp} : ∀ {xs ys : List Ent}, (∀ x ∈ xs, EntOk K C H x) → (∀ y ∈ ys, EntOk K C H y) → EqL (DEnt K C) H (xs.map fun x => V.ref x.e) (ys.map fun x => V.ref x.e) (rowsEq xs ys)
  | [], [], _, _ => .nil
  | [], y :: ys, _, _ => .nilC _ _
  | x :: xs, [], _, _ => .consN _ _
  | x :: xs, y :: ys, h1, h2 => by
    have d := eql_ent (h1 x (List.mem_cons_self ..)) (h2 y (List.mem_cons_self ..))
    have ih := eql_rows (fun z hz => h1 z (List.mem_cons_of_mem _ hz)) (fun z hz => h2 z (List.mem_cons_of_mem _ hz))
    show EqL (DEnt K C) H _ _ (entEq x y && rowsEq xs ys)
    cases he : entEq x y with
    | true =>
      rw [he] at d
      rw [Bool.true_and]
      exact .same d ih
    | false =>
      rw [he] at d
      exact .diff d
end K0

set_option Elab.async false
set_option linter.all false
set_option maxRecDepth 100000
set_option maxHeartbeats 4000000
namespace K0
open PySem PySem.Spec PyProof.Rows L2 Ke
/-! ### plans -/
structure TxP (K : PySem.W.Frag) (mg : Str → Option Value) (CP : Addr) : Prop where
  cl : Cls K CP
  nE : NoAttr K CP "_entries"
  nP : NoAttr K CP "_places"
  mgP : mg "Plan" = some (.ref CP)
  si : SlX.SIsi K CP
  isi : mg "isinstance" = none
  list : mg "list" = none
  tuple : mg "tuple" = none
  len : mg "len" = none
  range : mg "range" = none
  zip : mg "zip" = none
theorem nEP : ¬ (("_entries" : Str) = "_places") := by decide +kernel
/-- a plan's attributes -/
def pf (l d : Addr) : List (Str × V) := putF "_places" (.ref d) (putF "_entries" (.ref l) [])
theorem pf_e (l d : Addr) : (pf l d).lookup ("_entries" : Str) = some (.ref l) := by
  unfold pf
  rw [lookup_putF, if_neg nEP, lookup_putF, if_pos rfl]
theorem pf_p (l d : Addr) : (pf l d).lookup ("_places" : Str) = some (.ref d) := by
  unfold pf
  rw [lookup_putF, if_pos rfl]
theorem pf_no {l d : Addr} {m : Str} (h1 : ¬ m = "_places") (h2 : ¬ m = "_entries") : (pf l d).lookup m = none := by
  unfold pf
  rw [lookup_putF, if_neg h1, lookup_putF, if_neg h2]
  rfl
structure PlanAt (K : PySem.W.Frag) (C CP : Addr) (H : Hp) (p : Addr) (es : List Ent) : Prop where
  ex : ∃ dx l d, H p = some (.ins CP dx (pf l d)) ∧ H l = some (.lst (es.map fun x => V.ref x.e))
  ok : ∀ x ∈ es, EntOk K C H x
theorem EntOk.ext {K : PySem.W.Frag} {C : Addr} {H H' : Hp} {x : Ent} (h : EntOk K C H x) (e : Ext H H') : EntOk K C H' x := ⟨e _ _ h.he, h.hv.keep fun a xs z => e _ _ z, h.sv, h.dv, e _ _ h.hl, h.len, fun i a q h1 h2 => (h.rat i a q h1 h2).same e⟩
theorem PlanAt.ext {K : PySem.W.Frag} {C CP : Addr} {H H' : Hp} {p : Addr} {es : List Ent} (h : PlanAt K C CP H p es) (e : Ext H H') : PlanAt K C CP H' p es := by
  obtain ⟨⟨dx, l, d, h1, h3⟩, ok⟩ := h
  exact ⟨⟨dx, l, d, e _ _ h1, e _ _ h3⟩, fun x hx => (ok x hx).ext e⟩
def spPEq (K : PySem.W.Frag) (C CP : Addr) : Sp := fun vs H Q _ => ∃ (p p2 : Addr) (xs ys : List Ent), vs = [.ref p, .ref p2] ∧ PlanAt K C CP H p xs ∧ PlanAt K C CP H p2 ys ∧ ∀ H', Ext H H' → Q (.bl (rowsEq xs ys)) H'
/-- the list of the entries, new -/
def spEnt (K : PySem.W.Frag) (C CP : Addr) : Sp := fun vs H Q _ => ∃ (p : Addr) (xs : List Ent), vs = [.ref p] ∧ PlanAt K C CP H p xs ∧ ∀ (l : Addr) (H' : Hp), Same H H' → H l = none → H' l = some (.lst (xs.map fun x => V.ref x.e)) → Q (.ref l) H'
theorem rows_ne : ∀ {xs ys : List Ent}, xs.length ≠ ys.length → rowsEq xs ys = false
  | [], [], h => absurd rfl h
  | [], _ :: _, _ => rfl
  | _ :: _, [], _ => rfl
  | x :: xs, y :: ys, h => by
    show (entEq x y && rowsEq xs ys) = false
    rw [rows_ne (xs := xs) (ys := ys) fun z => h (by rw [List.length_cons, List.length_cons, z]), Bool.and_false]
section
variable {P : Program} {w : World} {K : PySem.W.Frag} {mg : Str → Option Value} {base : Heap} {C CP : Addr}
theorem scPE : FnScope ["self", "other"] ["self", "other"] (defScope sPE) := ⟨rfl, rfl, rfl, by decide +kernel, rfl, by decide +kernel, by decide +kernel⟩
theorem ok_peq {f fE : Addr} {fd fdE : FuncData} (F : Fun K "__eq__" "Plan.__eq__" sPE f fd) (T : TxP K mg CP) (GE : FnOk P w K mg base CX0 1 fE fdE ["self", "other"] (spEq C)) (aE : PySem.W.findIn K (.ref C) "__eq__" = some (some (.ref fE))) (iE : PySem.W.isFn K (.ref fE) = true) (bE : Binds K fdE ["self", "other"] []) :
    FnOk P w K mg base CX0 5 f fd ["self", "other"] (spPEq K C CP) := by
  refine F.ok scPE (fun vs H Q E h => ?_) (fun cdv A outer s H vs Q E hr h => ?_)
  · obtain ⟨p, p2, xs, ys, rfl, _⟩ := h
    rfl
  · obtain ⟨p, p2, xs, ys, rfl, ⟨⟨dx, l, d, h1, h3⟩, ok1⟩, ⟨⟨dy, m, d2, g1, g3⟩, ok2⟩, q⟩ := h
    refine ⟨_, pss_one (ps_ret (pe_and (pe_callB call_isi (by rfl) T.isi (by decide +kernel) (pa_cons (pv 1) (pa_cons (pe_glob (v := .ref CP) rfl T.mgP rfl) pa_nil)))
      (pe_one (pe_cmpR (op_eqB (rc_entries (E := E0) GE aE iE bE pass0) hr) (pe_fld (pv 0) rfl) (pe_fld (pv 1) rfl) (nomark _))))), ?_⟩
    refine ⟨_, rfl, .ref p2, .ref CP, .ref CP, .ref CP, true, rfl, .own CP, .base (.ins g1 T.cl T.si.ca T.si.cn T.si.ct T.si.cm), kit_self, _, rfl, iteT ?_⟩
    refine ⟨_, rfl, p, CP, dx, _, _, rfl, h1, T.cl, T.nE, pf_e _ _, _, rfl, p2, CP, dy, _, _, rfl, g1, T.cl, T.nE, pf_e _ _, rowsEq xs ys, ⟨l, m, _, _, rfl, rfl, h3, g3, ?_⟩, q⟩
    have el := eql_rows ok1 ok2
    by_cases hl : xs.length = ys.length
    · exact .inl ⟨by rw [List.length_map, List.length_map, hl], el⟩
    · refine .inr ⟨by rw [List.length_map, List.length_map]; exact hl, ?_⟩
      exact rows_ne hl
theorem scEn : FnScope ["self"] ["self"] (defScope sPEn) := ⟨rfl, rfl, rfl, by decide +kernel, rfl, by decide +kernel, by decide +kernel⟩
theorem ok_pent {f : Addr} {fd : FuncData} (F : Fun K "entries" "Plan.entries" sPEn f fd) (T : TxP K mg CP) : FnOk P w K mg base CX0 1 f fd ["self"] (spEnt K C CP) := by
  refine F.ok scEn (fun vs H Q E h => ?_) (fun cdv A outer s H vs Q E hr h => ?_)
  · obtain ⟨p, xs, rfl, _⟩ := h
    rfl
  · obtain ⟨p, xs, rfl, ⟨⟨dx, l, d, h1, h3⟩, ok1⟩, q⟩ := h
    refine ⟨_, pss_one (ps_ret (pe_callTy call_list_of (by rfl) T.list (by decide +kernel) (pa_cons (pe_fld (pv 0) rfl) pa_nil))), ?_⟩
    exact ⟨_, rfl, p, CP, dx, _, _, rfl, h1, T.cl, T.nE, pf_e _ _, l, _, rfl, .inl (SqL.of h3), fun c hc => q c _ (Ext.upd hc) hc upd_same⟩
end
end K0

set_option Elab.async false
set_option linter.all false
set_option maxRecDepth 100000
set_option maxHeartbeats 4000000
/-! isinstance, and a field, of a caught error that has a dict of its own. -/
namespace Kx
open PySem PySem.W PySem.Spec PySem.Calls PyProof.Rows L2
section
variable {prog : Program} {w : World} {A : Around} {E : Value → Shared → Prop} {s : Shared} {K : Frag} {x D : Addr} {ox : Obj} {od : Option Obj}
theorem find_dsc {C : Addr} {name : Str} {a g : Value} (c1 : (clsIn K C).isSome = true) (c2 : findIn K (.ref C) name = some (some a)) (c3 : specialIn K a "__get__" = some (some g)) (c4 : takesIn K a = some true) : findObj K C od name = some (.bind g a) := by
  obtain ⟨cd, e⟩ := Option.isSome_iff_exists.mp c1
  unfold findObj
  rw [e, Option.bind_some, c2, Option.bind_some] ; simp [c3, c4]
theorem cls_of_err {Q : Option Value → Shared → Prop} (C : ExcC K D) (X : K.In s.heap) (I : InstAt s.heap x ox D od) (q : Q (some (.ref D)) { s with toks := s.toks + 1 }) : wpAny (model prog w) A (getAttr? (.ref x) "__class__") Q E s := by
  have hfo : findObj K D od "__class__" = some (.bind (.builtin "getset_descriptor.__get__") (.builtin "object.__class__")) := find_dsc (by obtain ⟨_, e, _⟩ := any_some C.hd; rw [e]; rfl) C.ha C.hn C.ht
  obtain ⟨hp, gg, dd, tk, os⟩ := s
  have la := I.type (M := model prog w) ; have lb := looks_findIn (M := model prog w) X C.hg ; have lc := looks_findIn (M := model prog w) X C.hk ; have ld := looks_find (M := model prog w) X I hfo
  have isb : Looks (model prog w) hp (isInstance (.ref x) (.type "BaseException")) true := la.andThen (looks_subIn X C.hs)
  have f0 : (false && onTheHeap (Value.builtin "BaseException.__getattribute__")) = false := rfl
  have f1 : (onTheHeap (Value.ref D) && Value.builtin "BaseException.__getattribute__" == Value.builtin "object.__getattribute__") = false := by rw [show (Value.builtin "BaseException.__getattribute__" == Value.builtin "object.__getattribute__") = false from by decide +kernel, Bool.and_false]
  unfold getAttr? getAttrBy? getAttrBy
  refine wpAny_bind (wpAny_mkText (wpAny_bind (wpAny_attempt (wpAny_holding (wpAny_bind (la.at (wpAny_bind (lb.at ?_)))))))) ; show wpAny _ _ (if (onTheHeap (Value.ref D) && Value.builtin "BaseException.__getattribute__" == Value.builtin "object.__getattribute__") = true then _ else _) _ _ _
  rw [f1, if_neg Bool.false_ne_true]
  unfold getAttrByItsOwn hookBefore
  refine wpAny_bind ?_ ; rw [if_pos (show onTheHeap (Value.ref D) = true from rfl)]
  refine lc.at ?_ ; refine wpAny_bind (wpAny_attempt (wpAny_holding ?_))
  unfold callGetattribute ; rw [f0, if_neg Bool.false_ne_true]
  unfold boundAndCalled ; rw [PySem.F.excAttr_ValueError.ga.bind (.ref x)]
  refine wpAny_bind (wpAny_pure ?_) ; show wpAny _ _ (call (.builtin "BaseException.__getattribute__") [.ref x, .str "__class__" tk]) _ _ _
  refine wpAny_call (codeAny_call_builtin PySem.F.excAttr_ValueError.ga.plain PySem.F.entry_bexc_ga ?_)
  refine @check_slot (model prog w) _ _ ⟨hp, gg, dd, tk + 1, os⟩ "BaseException.__getattribute__" "BaseException" "__getattribute__" (.ref x) [.str "__class__" tk] [] _ (by decide +kernel) (by decide +kernel) isb (PySem.F.args_bexc_ga (.ref x) (.str "__class__" tk)) ?_
  unfold Builtin.«object.__getattribute__»
  refine wpAny_bind (wpAny_of_eq (a := ((Value.ref x : Value), [Value.str "__class__" tk])) (by first | rfl | (simp only [slotArgs]; rfl)) ?_) ; refine wpAny_bind (wpAny_pure (wpAny_bind (la.at (wpAny_bind (ld.at ?_)))))
  show wpAny _ _ (holding [Value.builtin "object.__class__"] (call (.builtin "getset_descriptor.__get__") [.builtin "object.__class__", .ref x, .ref D]) >>= ret) _ _ _
  refine wpAny_bind (wpAny_holding (wpAny_call (class_get (s := ⟨hp, gg, dd, tk + 1, os⟩) (ox := ox) (od := od) X I C.hm ?_))) ; refine wpAny_pure ?_
  show wpAny _ _ (handedOut (.ref D)) _ _ _
  rw [handedOut_of (v := .ref D) rfl]
  first | exact wpAny_pure (wpAny_pure q) | exact wpAny_pure q | exact wpAny_pure (wpAny_bind (wpAny_pure (wpAny_pure q)))
theorem kit_of_err (C : ExcC K D) : KitX K (.ref x) (.ref D) (fun h => InstAt h x ox D od) where
  ty := fun M h X I => I.type
  it := fun M h X I => by
    obtain ⟨cd, e, _⟩ := any_some C.hd ; unfold clsIn at e
    split at e
    · rename_i _ _ _ _ ho
      intro A' Q' E' s' k q ; unfold isType loadHead
      exact wpAny_bind (wpAny_loadPart (k _ _ (X _ _ ho)) (wpAny_pure q))
    · cases e
  ne := fun h tp dd its n sl X ht => by
    obtain ⟨cd, e, _⟩ := any_some C.hd ; refine Bool.eq_false_iff.mpr fun q => ?_
    have same : D = tp := Value.ref.inj (beq_iff_eq.mp q) ; subst same ; unfold clsIn at e
    split at e
    · rename_i _ _ _ _ ho
      have z := (X _ _ ho).symm.trans ht ; cases z
    · cases e
  ca := fun X I k => cls_of_err C X I k
end
end Kx
namespace Kx
open PySem PySem.Spec PyProof.Rows L2
section
variable {X : Cx} {a D : Addr} {oe : Obj} {pn : List (Addr × Obj)} {cls : Value} {d : Option Addr}
/-- how the caught error stands: its class, its dict's one field -/
theorem err_inst {s : Shared} {H : Hp} {f : Str} {v : V} (hz : Zc cls d oe) (hf : ∃ vs, oe.data = .fields vs) {dd : Addr} (ec : cls = .ref D) (ed : d = some dd) (ha : s.heap.get? a = some oe) (hok : ObjOk X.prog X.w H s.heap dd (.xd [(f, v)])) :
    ∃ od u, PySem.W.InstAt s.heap a oe D (some od) ∧ PySem.W.lookIn f od = some (some u) ∧ RelV v u := by
  obtain ⟨mA, hns, hr⟩ := hok
  obtain ⟨od, ho, hl⟩ := lookIn_ns hns
  have l : List.lookup f [(f, v)] = some v := by simp [List.lookup]
  obtain ⟨u, hu, ru⟩ := RelO.some_of (v := v) (o := mA f) (by rw [← l]; exact hr f)
  obtain ⟨vs, hd⟩ := hf
  refine ⟨od, u, ⟨ha, by rw [hz.1, ec], by unfold PySem.W.notCls; rw [hd] <;> rfl, by rw [hz.2, ed]; exact ho⟩, by rw [hl, hu], ru⟩
def rErr1 (K : PySem.W.Frag) (D a : Addr) (f : Str) (cls : Value) (d : Option Addr) : List V → Hp → VK → Prop := fun xs H Q => ∃ (dd : Addr) (v c : V) (cv : Value) (b : Bool), cls = .ref D ∧ d = some dd ∧ H dd = some (.xd [(f, v)]) ∧ xs = [.ref a, c] ∧ (∀ u, RelV c u → u = cv) ∧ PySem.W.kitOne K (.ref D) cv = some b ∧ Q (.bl b) H
theorem call_err1 {f : Str} (C : ExcC X.K D) (hz : Zc cls d oe) (hf : ∃ vs, oe.data = .fields vs) : CallR (X.suite a ((a, oe) :: pn)) (.builtin "isinstance") (rErr1 X.K D a f cls d) := by
  intro pins s σ H xs us Q I r h
  obtain ⟨dd, v, c, cv, b, ec, ed, hd, rfl, hcv, e, q⟩ := h
  obtain ⟨u1, u2, rfl, r1, r2⟩ := vals2 r
  cases (show u1 = Value.ref a from r1)
  have e2 := hcv _ r2
  subst e2
  obtain ⟨ha, _⟩ := I.pin (a, oe) (List.mem_append.mpr (.inl List.mem_cons_self))
  obtain ⟨od, u, J, _, _⟩ := err_inst (X := X) hz hf ec ed ha (I.hok dd _ hd)
  exact PySem.W.kia_one (kit_of_err C) I.kIn J e (fun z => nomatch z) fun tk => ⟨.bl b, H, I.kept (t' := tk) fun _ _ z => z, rfl, q⟩
def rErrT (K : PySem.W.Frag) (D a : Addr) (f : Str) (cls : Value) (d : Option Addr) : List V → Hp → VK → Prop := fun xs H Q => ∃ (dd : Addr) (v : V) (tp : Addr) (cs : List V) (us : List Value) (b : Bool), cls = .ref D ∧ d = some dd ∧ H dd = some (.xd [(f, v)]) ∧ xs = [.ref a, .ref tp] ∧ H tp = some (.tup cs) ∧ Paired ClsV cs us ∧ PySem.W.kitAny K (.ref D) us = some b ∧ Q (.bl b) H
theorem call_errT {f : Str} (C : ExcC X.K D) (hz : Zc cls d oe) (hf : ∃ vs, oe.data = .fields vs) : CallR (X.suite a ((a, oe) :: pn)) (.builtin "isinstance") (rErrT X.K D a f cls d) := by
  intro pins s σ H xs us Q I r h
  obtain ⟨dd, v, tp, cs, ws, b, ec, ed, hd, rfl, hT, k, e, q⟩ := h
  obtain ⟨u1, u2, rfl, r1, r2⟩ := vals2 r
  cases (show u1 = Value.ref a from r1)
  cases (show u2 = Value.ref tp from r2)
  obtain ⟨ha, _⟩ := I.pin (a, oe) (List.mem_append.mpr (.inl List.mem_cons_self))
  obtain ⟨od, u, J, _, _⟩ := err_inst (X := X) hz hf ec ed ha (I.hok dd _ hd)
  obtain ⟨_, its, rv, o, h1, h2, n, h3⟩ := (show ObjOk X.prog X.w H s.heap tp (.tup cs) from I.hok tp _ hT)
  have e3 := ClsV.all k rv
  subst e3
  obtain ⟨oc, oD, dt, sl⟩ := o
  simp only at h2 h3
  subst h2 h3
  exact PySem.W.kia_tup (kit_of_err C) I.kIn J h1 e (fun z => nomatch z) fun tk => ⟨.bl b, H, I.kept (t' := tk) fun _ _ z => z, rfl, q⟩
/-- e.f of the caught error -/
def tErrF (D a : Addr) (f : Str) (cls : Value) (d : Option Addr) (te : TE) : TE := fun σ H Q => te σ H fun x H1 => ∃ (dd : Addr) (v : V), x = .ref a ∧ cls = .ref D ∧ d = some dd ∧ H1 dd = some (.xd [(f, v)]) ∧ Q v H1
theorem pe_errF {f : Str} {e : Expr} {te : TE} {pos : Pos} (C : ExcC X.K D) (no : PySem.W.findIn X.K (.ref D) f = some none) (hz : Zc cls d oe) (hf : ∃ vs, oe.data = .fields vs) (he : PE (X.suite a ((a, oe) :: pn)) e te)
    (hb : attributeBase e f X.env (eval e X.env) = eval e X.env := by rfl) : PE (X.suite a ((a, oe) :: pn)) (.Attribute e f pos) (tErrF D a f cls d te) := by
  refine ⟨fun pins s σ H Q I h => attr_of hb (thn (he.run pins s σ H _ I h) fun u s1 hh => ?_)⟩
  obtain ⟨x, H1, I1, rx, dd, v, ex, ec, ed, ea, q⟩ := hh
  subst ex
  obtain rfl : u = Value.ref a := rx
  obtain ⟨ha, _⟩ := I1.pin (a, oe) (List.mem_append_left _ List.mem_cons_self)
  obtain ⟨od, y, J, hl, ry⟩ := err_inst (X := X) hz hf ec ed ha (I1.hok dd _ ea)
  exact HandSPX.exc_get I1.kIn J C.hg C.hk C.hs (PySem.W.findObj_own C.hd no rfl hl) (handed_of ry) ⟨v, H1, I1.tok _, ry, q⟩
end
end Kx

set_option Elab.async false
set_option linter.all false
set_option maxRecDepth 100000
set_option maxHeartbeats 4000000
/-! A call of a def in an except suite, where nothing is known of the caught error's context: for defs that raise nothing. -/
namespace Kx
open PySem PySem.Spec PyProof.Rows L2
structure FnW (P : Program) (w : World) (K : PySem.W.Frag) (mg : Str → Option Value) (base : Heap) (CX : CXT) (k : Nat) (f : Addr) (fd : FuncData) (ps : List Str) (sp : Sp) : Prop where
  len : ∀ vs H Q E, sp vs H Q E → vs.length = ps.length
  run : ∀ (A : Around) (outer : List Env) (s : Shared) (H : Hp) (args : Args) (us : List Value) (vs : List V) (Q : VK) (E : XK) (p : Addr × Obj), L2H.RoomH k A → L2H.PinOk outer H s p → Env0 P w K mg base A outer s H → BindsTo s fd args (ps.zip us) → Vals vs us → sp vs H Q E →
    codeAny (model P w) A (.call (.ref f) args) (CR CX outer P w H s Q E) s
theorem fn_ofW {CX : CXT} {P : Program} {w : World} {K : PySem.W.Frag} {mg : Str → Option Value} {base : Heap} {k : Nat} {f : Addr} {name qual : Str} {params : Arguments} {body : List Stmt} {scope : Scope} {dV kV doc pm cdv ct oc : Value} {an od : Option Addr} {osl : Array (Option Value)} {N ps : List Str} {sp : Sp}
    (lk : List.lookup f K = some ⟨oc, od, .func (PySem.W.fnOf name qual params body scope dV kV doc pm an cdv ct), osl⟩) (hcd : PySem.W.codeIn K cdv qual = true) (S : FnScope N ps scope) (len : ∀ vs H Q E, sp vs H Q E → vs.length = ps.length)
    (hbody : ∀ (A : Around) (outer : List Env) (s : Shared) (H : Hp) (vs : List V) (Q : VK) (E : XK) (p : Addr × Obj), L2H.RoomH k (A.deeper (envOfC qual scope s.heap.objs.size f cdv)) → sp vs H Q E →
      ∃ t, PSs (L2H.cxH CX P w K mg base N qual scope f cdv A outer s H E p) body t ∧ t { nx := fun _ H' => Q .non H', rt := Q } (L2.start N vs) H) :
    FnW P w K mg base CX (k + 1) f (PySem.W.fnOf name qual params body scope dV kV doc pm an cdv ct) ps sp := by
  refine ⟨len, fun A outer s H args us vs Q E p hr hpin e0 hb r hsp => ?_⟩
  have hl := len vs H Q E hsp
  have KX := PySem.W.Frag.In.keeps e0.mod.kin fun b o e => (e0.bs b o e).left
  have lim := Heap.NoLimit.keeps e0.mod.nolimit fun b o e => (e0.bs b o e).left
  refine codeAny_call_function (L2H.RoomH.depth hr) (KX f _ lk) rfl S.co S.gen rfl (PySem.W.codeRec_of KX hcd) (hb _ _ _ _ (wpAny_newFunctionEnv_cells S.kind (fun x hy => ?_) fun env he s1 x => ?_))
  · obtain ⟨n, v⟩ := x
    exact (S.par n (List.of_mem_zip hy).left).elim (fun q => Or.inl q) fun q => Or.inr ⟨q, PySem.W.cellsFrom_some scope.names (s.heap.objs.size + 1) [] (Or.inl q)⟩
  · subst he
    refine ⟨Heap.NoLimit.keeps lim x.toInCall.keep, codeAny_func ?_⟩
    obtain ⟨t, ht, hq⟩ := hbody A outer s H vs Q E p (L2H.RoomH.deeper hr (envOfC qual scope s.heap.objs.size f cdv)) hsp
    have I := L2H.inv_startH (CX := CX) (E := E) S hpin e0 hl r x
    refine wpAny_mono (ht.run [] s1 (L2.start N vs) H _ I hq) (fun fl s' hs => ?_) fun e s' hs => hs
    cases fl with
    | next =>
      obtain ⟨σ', H', J, q⟩ := hs
      exact ⟨.non, H', J.os, J.bare, J.base, J.hok, rfl, q⟩
    | brk =>
      obtain ⟨_, _, _, q⟩ := hs
      exact q.elim
    | cont =>
      obtain ⟨_, _, _, q⟩ := hs
      exact q.elim
    | ret u =>
      obtain ⟨v, σ', H', J, rv, q⟩ := hs
      exact ⟨_, H', J.os, J.bare, J.base, J.hok, rv, q⟩
section
variable {X : Cx} {CX : CXT} {k : Nat} {f : Addr} {fd : FuncData} {ps : List Str} {sp : Sp}
theorem run_fnW {E : L2.St → XK} {pins : List (Addr × Obj)} {σ : L2.St} {H : Hp} {s : Shared} {Q : VK} {us : List Value} {vs : List V} (F : FnW X.prog X.w X.K X.mg X.base CX k f fd ps sp) (hr : L2H.RoomH k X.A) (hc : ∃ p, p ∈ X.pn) (hb : L2.Binds X.K fd ps []) (hx : PassesAt CX X σ (E σ)) (I : L2.Inv X pins σ H s) (r : Vals vs us) (h : sp vs H Q (E σ)) :
    wpAny (model X.prog X.w) X.A (call (.ref f) us) (EP X pins σ Q) X.xe s := by
  obtain ⟨p, hp⟩ := hc
  have hl : us.length = ps.length := by rw [← r.length]; exact F.len vs H Q (E σ) h
  have b := hb s us (Inv.kIn I) (by rw [List.append_nil]; exact hl)
  rw [List.append_nil] at b
  have P1 := I.pin p (List.mem_append_left pins hp)
  have hpin : L2H.PinOk X.stack H s p := ⟨P1.1, P1.2.1, fun hm => (List.mem_cons.mp (Inv.stkSub I p.fst hm)).elim P1.2.2.1 P1.2.2.2.1, P1.2.2.2.2⟩
  refine wpAny_call (codeAny_mono (F.run X.A X.stack s H { pos := us } us vs Q (E σ) p hr hpin (Inv.env0 I) b r h) fun r s' hq => ?_)
  cases r with
  | error e => exact hx pins H s e s' I hq
  | ok fl =>
    cases fl with
    | ret u => exact Inv.after I hq
    | next => exact hq.elim
    | brk => exact hq.elim
    | cont => exact hq.elim
theorem pe_callW {E : L2.St → XK} {x : Str} {q pos : Pos} {e : Expr} {es : List Expr} {t : TA} (F : FnW X.prog X.w X.K X.mg X.base CX k f fd ps sp) (hr : L2H.RoomH k X.A) (hc : ∃ p, p ∈ X.pn) (hg : Gl X x) (hm : X.mg x = some (.ref f)) (hk : PySem.W.keepIn X.K (.ref f) = true)
    (hb : L2.Binds X.K fd ps []) (hx : ∀ σ, PassesAt CX X σ (E σ)) (ha : PA X (e :: es) t) (hdb : (x == "__debug__") = false := by rfl) (he : starEach (e :: es) X.env = (false, eval e X.env) :: starEach es X.env := by rfl) (hpl : ((backTo pos (starEach es X.env)).any fun x => x.fst) = false := by rfl) :
    PE X (.Call (.Name x q) (e :: es) [] pos) (tCallS sp E t) :=
  ⟨fun pins s σ H Q I h => wpAny_Call_Name_kw (ld_glob I hg hm (PySem.W.callWith_K I.ok.mod.kin hk (thn (ha.run pos pins s σ H (fun vs H1 => sp vs H1 Q (E σ)) I h) fun us s1 x => by
    obtain ⟨vs, H1, I1, r, q⟩ := x
    exact ⟨Inv.kIn I1, run_fnW F hr hc hb (hx σ) I1 r q⟩) he hpl) hdb)⟩
end
end Kx

set_option Elab.async false
set_option linter.all false
set_option maxRecDepth 100000
set_option maxHeartbeats 4000000
/-! Walks of lists, targets that are tuples and comprehensions while an error is handled whose context is None. -/
namespace Kh
open PySem PySem.Spec PyProof.Rows L2 HotX
/-! ### the ends of a list's and a tuple's walk -/
section
variable {prog : Program} {w : World} {A : Around} {E : Value → Shared → Prop} {s : Shared}
/-- a StopIteration that is raised and caught at once, while x1 is handled -/
theorem stop_hot {x1 it : Addr} {f : Obj → Obj} {Q : Option Value → Shared → Prop} {s0 : Shared} (hot : HotAt A x1 s.heap) (hx : x1 ≠ it) (hs0 : s0 = { s with heap := s.heap.update it f })
    (hQ : ∀ h', Heap.ExtBut it s.heap h' → Q none { s with heap := h' }) :
    wpAny (model prog w) A.in1 (Builtin.SmallTypes.stopIteration : Sem Fin) (fun _ _ => False)
      (fun e s' => wpAny (model prog w) A (isInstance e (.type "StopIteration")) (fun b s'' => b = true ∧ Q none s'') E s') s0 := by
  subst hs0
  obtain ⟨hh, o1, vs1, h1, d1, c1⟩ := hot
  show wpAny _ _ (newExc (.type "StopIteration") [] >>= _) _ _ _
  refine wpAny_bind ?_
  simp only [newExc, newTuple]
  refine wpAny_bind (wpAny_newObj_type ?_ (by size_fits))
  refine wpAny_bind (m := firstArgMember _ _) (wpAny_of_eq (a := Value.none) (by first | rfl | (simp only [firstArgMember]; rfl)) ?_)
  refine wpAny_newObj_type ?_ (by size_fits)
  have e1 : (s.heap.update it f).get? x1 = some o1 := (Heap.get?_update_other _ _ (Ne.symm hx)).trans h1
  refine raiseNew_hot (x1 := x1) ⟨hh, o1, vs1, Heap.get?_push_of_some _ (Heap.get?_push_of_some _ e1), d1, c1⟩ (Nat.ne_of_lt (Heap.lt_size (Heap.get?_push_of_some _ e1))) (Heap.get?_push_size _ rfl) rfl (by first | (simp; done) | (simp; omega) | (simp only [Array.size_append]; simp; omega)) ?_
  refine wpAny_isInstance (T := "StopIteration") (b := true) ⟨_, Heap.get?_update_self _ (Heap.get?_push_size _ rfl) rfl, rfl⟩ isSubtype_stop ⟨rfl, hQ _ fun b o hb e => ?_⟩
  have e2 : (s.heap.update it f).get? b = some o := (Heap.get?_update_other _ _ (Ne.symm hb)).trans e
  rw [Heap.get?_update_other _ _ (Nat.ne_of_gt (Heap.lt_size (Heap.get?_push_of_some _ e2)))]
  exact Heap.get?_push_of_some _ (Heap.get?_push_of_some _ e2)
theorem list_end {it l x1 : Addr} {i : Nat} {items : Array Value} {Q : Option Value → Shared → Prop} (hot : HotAt A x1 s.heap) (hx : x1 ≠ it) (hit : s.heap.IsListIter it l i) (hl : s.heap.IsList l items) (hi : items[i]? = none)
    (hQ : ∀ h', Heap.ExtBut it s.heap h' → Q none { s with heap := h' }) : wpAny (model prog w) A (pyNext (.ref it)) Q E s := by
  obtain ⟨o, ho, hc, hd⟩ := id hit
  obtain ⟨ol, hol, _, nl, hdl⟩ := hl
  unfold pyNext
  refine wpAny_bind (wpAny_attempt (wpAny_callSpecial?_slot (name := Str.ofString "__next__") hit.typeIs slot_listiter_next
    (wpAny_call_entry slot_listiter_next hit.typeIs entry_listiter_next ?_ (args_listiter_next _))))
  show wpAny _ _ (field (.ref it) 0 >>= _) _ _ s
  refine wpAny_bind (wpAny_field ho hd (x := .ref l) rfl ?_)
  show wpAny _ _ (if (Value.ref l == Value.none) = true then _ else _) _ _ s
  rw [if_neg (show ¬ ((Value.ref l == Value.none) = true) from Bool.false_ne_true)]
  show wpAny _ _ (field (.ref it) 1 >>= _) _ _ s
  refine wpAny_bind (wpAny_field ho hd (x := .int i 0) rfl ?_)
  show wpAny _ _ (seqItems? (.ref l) >>= _) _ _ s
  refine wpAny_bind (wpAny_seqItems hol hdl ?_)
  simp only [Int.toNat_natCast, hi]
  refine wpAny_bind (wpAny_rule (wpAny_bind (wpAny_setField ho hd (by simp) ?_)))
  refine wpAny_mono (stop_hot (E := E) hot hx rfl hQ) (fun _ _ z => False.elim z) fun e s' z => ?_
  refine wpAny_bind (wpAny_mono z (fun b s'' y => ?_) fun _ _ y => y)
  obtain ⟨rfl, y⟩ := y
  exact wpAny_pure y
theorem tuple_end {it t x1 : Addr} {i : Nat} {items : Array Value} {Q : Option Value → Shared → Prop} (hot : HotAt A x1 s.heap) (hx : x1 ≠ it) (hit : s.heap.IsTupleIter it t i) (ht : s.heap.IsTuple t items) (hi : items[i]? = none)
    (hQ : ∀ h', Heap.ExtBut it s.heap h' → Q none { s with heap := h' }) : wpAny (model prog w) A (pyNext (.ref it)) Q E s := by
  obtain ⟨o, ho, hc, hd⟩ := id hit
  obtain ⟨ol, hol, _, nl, hdl⟩ := ht
  unfold pyNext
  refine wpAny_bind (wpAny_attempt (wpAny_callSpecial?_slot (name := Str.ofString "__next__") hit.typeIs PySem.F.slot_tuple_iterator_next
    (wpAny_call_entry PySem.F.slot_tuple_iterator_next hit.typeIs PySem.F.entry_tuple_iterator_next ?_ (PySem.F.args_tuple_iterator_next_1 _))))
  show wpAny _ _ (field (.ref it) 0 >>= _) _ _ s
  refine wpAny_bind (wpAny_field ho hd (x := .ref t) rfl ?_)
  show wpAny _ _ (if (Value.ref t == Value.none) = true then _ else _) _ _ s
  rw [if_neg (show ¬ ((Value.ref t == Value.none) = true) from Bool.false_ne_true)]
  show wpAny _ _ (field (.ref it) 1 >>= _) _ _ s
  refine wpAny_bind (wpAny_field ho hd (x := .int i 0) rfl ?_)
  show wpAny _ _ (seqItems? (.ref t) >>= _) _ _ s
  refine wpAny_bind (wpAny_seqItems hol hdl ?_)
  simp only [Int.toNat_natCast, hi]
  refine wpAny_bind (wpAny_rule (wpAny_bind (wpAny_setField ho hd (by simp) ?_)))
  refine wpAny_mono (stop_hot (E := E) hot hx rfl hQ) (fun _ _ z => False.elim z) fun e s' z => ?_
  refine wpAny_bind (wpAny_mono z (fun b s'' y => ?_) fun _ _ y => y)
  obtain ⟨rfl, y⟩ := y
  exact wpAny_pure y
theorem unpack_hot {t x1 : Addr} {items : Array Value} {env : Env} {elts : List Expr} {k : Nat} {pos : Pos} {Q : Unit → Shared → Prop} (hot : HotAt A x1 s.heap) (ht : s.heap.IsTuple t items)
    (hn : (assignEach elts env).length = items.size) (hstar : (assignEach elts env).findIdx? (·.1) = none)
    (h : ∀ h', Heap.ExtBut s.heap.objs.size s.heap h' → wpAny (model prog w) A (assignInOrder ((assignEach elts env).map (·.2)) items.toList) Q E { s with heap := h' }) :
    wpAny (model prog w) A (assign (.Tuple elts k pos) env (.ref t)) Q E s := by
  have hlt : t ≠ s.heap.objs.size := by obtain ⟨o, ho, _⟩ := ht; exact Nat.ne_of_lt (Heap.lt_size ho)
  have hx : x1 ≠ s.heap.objs.size := by obtain ⟨_, o, _, ho, _⟩ := id hot; exact Nat.ne_of_lt (Heap.lt_size ho)
  rw [assign_Tuple]
  refine wpAny_bind (wpAny_standAt ?_)
  unfold unpack
  rw [hn, hstar]
  refine wpAny_bind (wpAny_holding ?_)
  unfold unpackItems
  refine wpAny_bind ?_
  unfold notIterableAtAll
  refine wpAny_bind (wpAny_specialOf ht.typeIs PySem.F.slot_tuple_iter.lookup ?_)
  refine wpAny_pure ?_
  simp only [Bool.false_eq_true, if_false]
  refine wpAny_bind (wpAny_holding (wpAny_pyIter_tuple ht ?_))
  refine wpAny_bind (wpAny_holding (wpAny_draw_tuple hlt items.size 0 _ _ ⟨_, Heap.get?_push_size _ rfl, rfl, rfl⟩ (ht.push _) (by omega) fun h₁ hit₁ hs₁ => ?_))
  rw [List.drop_zero, List.take_of_length_le (by simp), if_neg (by simp)]
  obtain ⟨hh, o1, vs1, g1, d1, c1⟩ := hot
  have hot2 : HotAt A x1 h₁ := ⟨hh, o1, vs1, hs₁.extBut x1 o1 hx (Heap.get?_push_of_some _ g1), d1, c1⟩
  refine wpAny_bind (wpAny_holding (tuple_end hot2 hx hit₁ ((ht.push _).extBut hs₁.extBut hlt) (by simp) fun h₂ he₂ => ?_))
  simp only [Option.isSome_none, Bool.false_eq_true, if_false]
  exact wpAny_pure (h h₂ fun b o hb e => he₂ b o hb (hs₁.extBut b o hb (Heap.get?_push_of_some _ e)))
end
end Kh

set_option Elab.async false
set_option linter.all false
set_option maxRecDepth 100000
set_option maxHeartbeats 4000000
namespace Kh
open PySem PySem.Spec PyProof.Rows L2 HotX L2H
/-- the handled error stands in the entry's state, out of reach; its context is None -/
def HotI (X : Cx) : Prop := ∃ (x1 : Addr) (o : Obj) (vs : Array Value), X.A.handled = some (.ref x1) ∧ o.data = .fields vs ∧ vs[2]? = some .none ∧ X.s_0.heap.get? x1 = some o ∧ X.H_0 x1 = none ∧ x1 ∉ X.ex ∧ x1 ∉ X.fs
theorem HotI.at_ {X : Cx} {pins : List (Addr × Obj)} {σ : L2.St} {H : Hp} {s : Shared} (h : HotI X) (I : L2.Inv X pins σ H s) : ∃ x1, HotAt X.A x1 s.heap ∧ H x1 = none ∧ x1 ∉ X.ex ∧ x1 ∉ X.fs ∧ x1 ≠ X.env.locals ∧ x1 < X.s_0.heap.objs.size := by
  obtain ⟨x1, o, vs, h1, h2, h3, h4, h5, h6, h7⟩ := h
  exact ⟨x1, ⟨h1, o, vs, I.base.keep x1 o h4 h5 h7 h6, h2, h3⟩, I.base.free x1 o h4 h5 h6, h6, h7, Nat.ne_of_lt (Nat.lt_of_lt_of_le (Heap.lt_size h4) I.ok.above), Heap.lt_size h4⟩
theorem HotI.ne {X : Cx} {pins : List (Addr × Obj)} {H : Hp} {b x1 : Addr} (hx : x1 ∉ X.ex) (hl : x1 < X.s_0.heap.objs.size) (f : FpOk X pins H b) : x1 ≠ b := fun e => by
  rcases f.2.2.2.1 with z | z
  · exact hx (e ▸ z)
  · exact Nat.not_lt.mpr z (e ▸ hl)
/-- .. and it does at a comprehension's entry -/
theorem HotI.blk {X : Cx} {pins : List (Addr × Obj)} {σ : L2.St} {H : Hp} {s : Shared} {scope : Scope} {ce : Env} {fp : List Addr} (h : HotI X) (I : L2.Inv X pins σ H s) (hf : ∀ b ∈ fp, FpOk X pins H b) : HotI (X.blk s H scope ce fp) := by
  obtain ⟨x1, ⟨hh, o, vs, g, d, c⟩, n, he, hs, hl, hlt⟩ := h.at_ I
  refine ⟨x1, o, vs, hh, d, c, g, n, fun hb => HotI.ne he hlt (hf x1 hb) rfl, fun hb => ?_⟩
  have hb : x1 ∈ frs X.stack := hb
  rcases I.ok.stk with z | ⟨z, z2⟩
  · rw [z] at hb
    exact hs hb
  · rw [z] at hb
    obtain ⟨e, he2, q⟩ := List.mem_filterMap.mp hb
    rcases List.mem_cons.mp he2 with rfl | he2
    · rw [z2] at q
      exact hl (Option.some.inj q).symm
    · exact hs (List.mem_filterMap.mpr ⟨e, he2, q⟩)
/-! ### what is walked -/
structure TurnI (P : Program) (w : World) (K : PySem.W.Frag) (tg : Expr) (J : It) (fp : List Addr) (it : Addr) (tn : Nat → Heap → Prop) : Prop where
  mem : it ∈ fp
  obj : ∀ i h, tn i h → ∀ b ∈ fp, ∃ o, h.get? b = some o ∧ ∀ v, o.data ≠ .cell v
  keep : ∀ i h h', tn i h → (∀ b ∈ fp, ∀ o, h.get? b = some o → h'.get? b = some o) → tn i h'
  item : ∀ (X : Cx), X.prog = P → X.w = w → X.K = K → ∀ (i : Nat) (pins : List (Addr × Obj)) (s : Shared) (σ : L2.St) (H : Hp) (E : Value → Shared → Prop), L2.Inv X pins σ H s → (∀ b ∈ fp, FpOk X pins H b) → tn i s.heap → J.go i H →
    wpAny (model P w) X.A (pyNext (.ref it)) (fun r s1 => ∃ u, r = some u ∧
      wpAny (model P w) X.A (letOwnedTupleGo tg (.ref it) u) (fun _ s2 => ∃ x H', L2.Inv X pins σ H' s2 ∧ RelV x u ∧ J.yld i H x H' ∧ tn (i + 1) s2.heap ∧ ∀ b ∈ fp, H' b = none) E s1) E s
  done : ∀ (X : Cx), X.prog = P → X.w = w → X.K = K → HotI X → ∀ (i : Nat) (pins : List (Addr × Obj)) (s : Shared) (σ : L2.St) (H : Hp) (E : Value → Shared → Prop), L2.Inv X pins σ H s → (∀ b ∈ fp, FpOk X pins H b) → tn i s.heap → J.stop i H →
    wpAny (model P w) X.A (pyNext (.ref it)) (fun r s1 => r = none ∧ L2.Inv X pins σ H s1) E s
  self : ∀ (A : Around) (i : Nat) (s : Shared) (Q : Value → Shared → Prop) (E : Value → Shared → Prop), tn i s.heap → Q (.ref it) s → wpAny (model P w) A (pyIter (.ref it)) Q E s
theorem turn_listI {P : Program} {w : World} {K : PySem.W.Frag} {tg : Expr} (a it : Addr) : TurnI P w K tg (Itl K a) [it] it (fun i h => h.IsListIter it a i) where
  mem := List.mem_singleton.mpr rfl
  obj := fun i h st b hb => by
    cases List.mem_singleton.mp hb
    obtain ⟨o, e, c, d⟩ := st
    exact ⟨o, e, fun v z => by rw [d] at z; cases z⟩
  keep := fun i h h' st k => st.at fun o e => k it (List.mem_singleton.mpr rfl) o e
  item := by
    intro X hP hw hK i pins s σ H E I hf st hg
    cases hP; cases hw; cases hK
    obtain ⟨xs, x, hq, hx⟩ := hg
    obtain ⟨its, rv, p, hz⟩ := I.list hq
    obtain ⟨u, hu, ru⟩ := rv.get hx
    obtain ⟨f0, f1, f2, f3, f4, f5⟩ := hf it (List.mem_singleton.mpr rfl)
    refine wpAny_pyNext_list_item st p.isList (x := u) (by simpa using hu) fun h' st' sb => ?_
    have I1 : L2.Inv X pins σ H { s with heap := h' } := I.turned (t' := s.toks) (fun b o hb e => (sb.2 b hb).trans e) f0 f1 f3 f4 f5
    obtain ⟨o, e, c, d⟩ := id st'
    exact ⟨u, rfl, go_of (s := { s with heap := h' }) e c d (by decide) ⟨x, H, I1, ru, ⟨rfl, fun ys hy => by rw [I.list_inj hy hq]; exact hx⟩, st', fun b hb => (hf b hb).1⟩⟩
  done := by
    intro X hP hw hK hot i pins s σ H E I hf st hg
    cases hP; cases hw; cases hK
    obtain ⟨xs, hq, hx⟩ := hg
    obtain ⟨its, rv, p, hz⟩ := I.list hq
    have fi := hf it (List.mem_singleton.mpr rfl)
    obtain ⟨f0, f1, f2, f3, f4, f5⟩ := id fi
    obtain ⟨x1, ha, _, he, _, _, hlt⟩ := hot.at_ I
    have hl := rv.length
    exact list_end ha (HotI.ne he hlt fi) st p.isList (by simp; omega) fun h' eb => ⟨rfl, I.turned (t' := s.toks) (fun b o hb e => eb b o hb e) f0 f1 f3 f4 f5⟩
  self := fun _ _ _ _ _ st h => wpAny_pyIter_listiter st h
def PIEI (X : Cx) (pins : List (Addr × Obj)) (σ : L2.St) (tg : Expr) (R : It → Hp → Prop) (itv : Value) (s2 : Shared) : Prop :=
  ∃ (it : Addr) (fp : List Addr) (tn : Nat → Heap → Prop) (J : It) (H' : Hp), itv = .ref it ∧ L2.Inv X pins σ H' s2 ∧ TurnI X.prog X.w X.K tg J fp it tn ∧ tn 0 s2.heap ∧ (∀ b ∈ fp, FpOk X pins H' b) ∧ R J H'
structure PII (X : Cx) (tg iter : Expr) (wi : TI) : Prop where
  run : ∀ (pins : List (Addr × Obj)) (s : Shared) (σ : L2.St) (H : Hp) (R : It → Hp → Prop), L2.Inv X pins σ H s → wi σ H R →
    wpAny (model X.prog X.w) X.A (eval iter X.env) (fun v s1 => wpAny (model X.prog X.w) X.A (pyIter v) (PIEI X pins σ tg R) X.xe s1) X.xe s
theorem pi_listI {X : Cx} {tg l : Expr} {tl : TE} (hl : PE X l tl) : PII X tg l (iList X.K tl) := by
  refine ⟨fun pins s σ H R I h => ?_⟩
  refine thn (hl.run pins s σ H _ I h) fun v s1 ⟨x, H1, I1, r1, q1⟩ => ?_
  obtain ⟨a, e, ⟨xs, hq⟩, q⟩ := q1
  subst e
  cases r1
  obtain ⟨its, rv, p, hz⟩ := I1.list hq
  refine wpAny_pyIter_list p.isList ⟨s1.heap.objs.size, [s1.heap.objs.size], _, _, H1, rfl, I1.kept (t' := s1.toks) fun b o e => Heap.get?_push_of_some _ e, turn_listI a _, ⟨_, Heap.get?_push_size _ rfl, rfl, rfl⟩, fun b hb => ?_, q⟩
  cases List.mem_singleton.mp hb
  exact I1.fpOk (Nat.le_refl _) (I1.hok.fresh (Nat.le_refl _))
/-- a target that is a tuple -/
theorem pg_tupI {X : Cx} {es : List Expr} {k : Nat} {t : TGs} {n : Nat} {pos : Pos} (hot : HotI X) (h : PGs X es t)
    (hn : (assignEach es X.env).length = n := by rfl) (hst : (assignEach es X.env).findIdx? (·.1) = none := by rfl) : PG X (.Tuple es k pos) (gTup X.K n t) := by
  refine ⟨fun pins s σ H v u Q I r hw => ?_⟩
  obtain ⟨a, xs, e1, hq, hl, hw⟩ := hw
  subst e1
  cases r
  obtain ⟨its, rv, ht, hz⟩ := I.tuple hq
  obtain ⟨x1, ha, _⟩ := hot.at_ I
  refine unpack_hot ha ht (by simp [hn, ← hl, rv.length]) hst fun h' hx => ?_
  have I1 : L2.Inv X pins σ H { s with heap := h' } := I.kept (t' := s.toks) fun b o e => hx b o (Nat.ne_of_lt (Heap.lt_size e)) e
  exact h.run pins _ σ H xs _ Q I1 (by simpa using rv) hw
/-! ### a comprehension -/
section
variable {X : Cx}
theorem lc_hot {pins : List (Addr × Obj)} {s : Shared} {σ : L2.St} {H : Hp} {Q : VK} {elt tg iter : Expr} {ifs : List Expr} {scope : Scope} {own : List (Str × Nat)} {pos pos' : Pos} {wi : TI} {g : TG} {tt : TT} {te : TE} {use : Option (Value → Sem Unit)} {Qf : Value → Shared → Prop}
    (hot : HotI X) (hN : X.N.Nodup) (I : L2.Inv X pins σ H s) (hi : PII X tg iter wi) (ok : BlkOk X.N X.env.scope scope own)
    (hg : ∀ (s : Shared) (H : Hp) (C : Addr) (cl : List (Str × Addr)) (fp : List Addr), HotI (X.blk s H scope (compEnvC scope cl C X.env) fp) → PG (X.blk s H scope (compEnvC scope cl C X.env) fp) tg g)
    (ht : ∀ (s : Shared) (H : Hp) (C : Addr) (cl : List (Str × Addr)) (fp : List Addr), HotI (X.blk s H scope (compEnvC scope cl C X.env) fp) → PTs (X.blk s H scope (compEnvC scope cl C X.env) fp) ifs tt)
    (he : ∀ (s : Shared) (H : Hp) (C : Addr) (cl : List (Str × Addr)) (fp : List Addr), HotI (X.blk s H scope (compEnvC scope cl C X.env) fp) → PE (X.blk s H scope (compEnvC scope cl C X.env) fp) elt te) (hs : ∀ x, foldedSetIterable iter X.env x = pure x)
    (h : tLc wi g tt te (own.map (·.2)) σ H Q)
    (hRR : ∀ D C s' m H', L2.Inv X pins σ H' s' → Q (.ref D) H' → s'.heap.Ns C m → FpOk X pins H' C → compPost (model X.prog X.w) X.A X.xe use Qf (.ref D) C (.ok .next) s') :
    wpAny (model X.prog X.w) X.A (comprehension (.ListComp elt [⟨tg, iter, ifs, 0⟩] scope pos) scope X.env pos' (newList []) false (eval iter X.env) use) Qf X.xe s := by
  have hfree : ∀ y ∈ scope.names, y.2 = .free → ∃ c, X.env.cells.lookup y.1 = some c := fun y hy e => (ok.free y hy e).elim (fun k => I.ok.has _ (.inl k)) fun k => I.ok.has _ (.inr k)
  refine wpAny_comprehension_free (use := use) rfl hs (closure_ok hfree) ok.kind (fun y hy e => by rw [ok.uniq y hy, e]) (thn (hi.run pins s σ H _ I h) fun xv s1 hx => thn hx fun itv s2 h2 => ?_)
  obtain ⟨it, fp, tn, J, H2, rfl, I2, T, st2, f2, q⟩ := h2
  refine wpAny_newObj_type (newEnv_comp ?_) (Nat.zero_le _)
  generalize hD : s2.heap.objs.size = D
  have hDn : H2 D = none := I2.hok.fresh (Nat.le_of_eq hD)
  obtain ⟨W, ⟨m0, w0⟩, turn⟩ := q D hDn
  have sz : ∀ b ∈ fp, b < s2.heap.objs.size := fun b hb => let ⟨_, e, _⟩ := T.obj _ _ st2 b hb; Heap.lt_size e
  generalize hs3 : ({ s2 with heap := s2.heap.push { cls := .type "list", data := .seq ([] : List Value).toArray } } : Shared) = s3
  have h3 : s3.heap = s2.heap.push { cls := .type "list", data := .seq ([] : List Value).toArray } := by rw [← hs3]
  have I3 : L2.Inv X pins σ (upd H2 D (.lst [])) s3 := by
    rw [← hs3]
    refine I2.laid (t' := s2.toks) (fun b o e => Heap.get?_push_of_some _ e) (Nat.le_of_eq hD) ⟨Nat.zero_le _, [], 0, .nil, ?_⟩
    rw [← hD]
    exact Heap.get?_push_size _ rfl
  have f3 : ∀ b ∈ fp, FpOk X pins (upd H2 D (.lst [])) b := fun b hb => ⟨by rw [upd_ne (by rw [← hD]; exact Nat.ne_of_lt (sz b hb))]; exact (f2 b hb).1, (f2 b hb).2⟩
  have l3 : ∀ b ∈ fp, b < s3.heap.objs.size := fun b hb => by
    rw [h3, Heap.size_push]
    exact Nat.lt_succ_of_lt (sz b hb)
  have st3 : tn 0 s3.heap := T.keep _ _ _ st2 fun b _ o e => by
    rw [h3]
    exact Heap.get?_push_of_some _ e
  have I4 := block_start I3 ok hN fun b hb => ⟨f3 b hb, l3 b hb⟩
  have hotB := HotI.blk (scope := scope) (ce := compEnvC scope (cellsFrom (s3.heap.objs.size + 1) scope.names (cloFrom X.env.cells scope.names [])) s3.heap.objs.size X.env) hot I3 f3
  have pg := hg s3 (upd H2 D (.lst [])) s3.heap.objs.size (cellsFrom (s3.heap.objs.size + 1) scope.names (cloFrom X.env.cells scope.names [])) fp hotB
  have pt := ht s3 (upd H2 D (.lst [])) s3.heap.objs.size (cellsFrom (s3.heap.objs.size + 1) scope.names (cloFrom X.env.cells scope.names [])) fp hotB
  have pe := he s3 (upd H2 D (.lst [])) s3.heap.objs.size (cellsFrom (s3.heap.objs.size + 1) scope.names (cloFrom X.env.cells scope.names [])) fp hotB
  show codeAny _ _ (.compStart (.ListComp elt [⟨tg, iter, ifs, 0⟩] scope pos) 0 (.ref it) (.ref D) (compEnvC scope (cellsFrom (s3.heap.objs.size + 1) scope.names (cloFrom X.env.cells scope.names [])) s3.heap.objs.size X.env)) (compPost (model X.prog X.w) X.A X.xe use Qf (.ref D) s3.heap.objs.size) { s3 with heap := pushCells (s3.heap.push { cls := .type "dict", data := .dict #[] }) scope.names }
  generalize hce : compEnvC scope (cellsFrom (s3.heap.objs.size + 1) scope.names (cloFrom X.env.cells scope.names [])) s3.heap.objs.size X.env = ce at I4 pg pt pe hotB ⊢
  have cL : ce.locals = s3.heap.objs.size := by
    rw [← hce]
    rfl
  generalize hH3 : upd H2 D (.lst []) = H3 at I3 I4 pg pt pe w0 f3 hotB
  generalize hs4 : ({ s3 with heap := pushCells (s3.heap.push { cls := .type "dict", data := .dict #[] }) scope.names } : Shared) = s4 at I4 ⊢
  have st4 : tn 0 s4.heap := T.keep _ _ _ st3 fun b _ o e => by
    rw [← hs4]
    exact pushCells_keeps _ _ _ _ (Heap.get?_push_of_some _ e)
  have stat : ∀ {σ' : L2.St} {H' : Hp} {s' : Shared}, L2.Inv (X.blk s3 H3 scope ce fp) [] σ' H' s' → (∀ b ∈ fp, H' b = none) → ∀ b ∈ fp, FpOk (X.blk s3 H3 scope ce fp) [] H' b := fun I' hn b hb =>
    ⟨hn b hb, (I'.ok.exf b hb).1, I'.ok.exfs b hb, .inl hb, fun x c e => (I'.ok.exf b hb).2 x c e, fun p hp => nomatch hp⟩
  have loop : codeAny (model X.prog X.w) X.A (.compLoop (.ListComp elt [⟨tg, iter, ifs, 0⟩] scope pos) 0 (.ref it) (.ref D) ce) (compPost (model X.prog X.w) X.A X.xe use Qf (.ref D) s3.heap.objs.size) s4 := by
    refine compLoop_any (fun n s' => ∃ i H', L2.Inv (X.blk s3 H3 scope ce fp) [] (wipe σ (own.map (·.2))) H' s' ∧ tn i s'.heap ∧ (∀ b ∈ fp, H' b = none) ∧ W i n H') ?_ m0 ⟨0, H3, I4, st4, fun b hb => (f3 b hb).1, w0⟩
    rintro n s5 ⟨i, H5, I5, st5, n5, w5⟩
    rcases turn i n H5 w5 with ⟨stop, qq⟩ | ⟨go, Nx, hNx, step⟩
    · refine thnF (T.done (X.blk s3 H3 scope ce fp) rfl rfl rfl hotB i [] s5 _ H5 (fun _ _ => False) I5 (stat I5 n5) st5 stop) fun r s6 ⟨hr, I6⟩ => ?_
      subst hr
      have I7 : L2.Inv X pins σ H5 s6 := I3.call' (ch := fp) I6.os I6.base I6.hok I6.bare fun b hb => ⟨(f3 b hb).2.2.2.1, (f3 b hb).2.1, (f3 b hb).2.2.2.2.1, (f3 b hb).2.2.2.2.2⟩
      have nC : H5 s3.heap.objs.size = none := cL ▸ I6.free
      obtain ⟨m, hn, _⟩ := I6.loc
      exact hRR D s3.heap.objs.size s6 m H5 I7 qq (cL ▸ hn) (I3.fpOk (Nat.le_refl _) nC)
    · refine thnF (T.item (X.blk s3 H3 scope ce fp) rfl rfl rfl i [] s5 _ H5 (fun _ _ => False) I5 (stat I5 n5) st5 go) fun r s6 ⟨u, hr, h6⟩ => ?_
      subst hr
      refine thnF h6 fun _ s7 ⟨x, H7, I7, r7, y7, st7, n7⟩ => ?_
      refine thnF (pg.run _ s7 _ H7 x u _ (I7.pinned (stat I7 n7) (T.obj _ _ st7)) r7 (step x H7 y7)) fun _ s8 ⟨σ8, H8, I8, hw8, q8⟩ => ?_
      refine thnF (pt.run _ s8 σ8 H8 _ I8 q8) fun b s9 ⟨H9, I9, q9⟩ => ?_
      have fin : ∀ {s' : Shared} {H' : Hp}, L2.Inv (X.blk s3 H3 scope ce fp) ([] ++ pinsAt fp s7.heap) σ8 H' s' → Nx H' → ∃ m, m < n ∧ ∃ i H', L2.Inv (X.blk s3 H3 scope ce fp) [] (wipe σ (own.map (·.2))) H' s' ∧ tn i s'.heap ∧ (∀ b ∈ fp, H' b = none) ∧ W i m H' := fun {s' H'} I' nx => by
        obtain ⟨m', hm, w'⟩ := hNx H' nx
        have pin' : ∀ b ∈ fp, ∀ o, s7.heap.get? b = some o → s'.heap.get? b = some o ∧ H' b = none := fun b hb o e =>
          let z := I'.pin (b, o) (List.mem_append_right _ (List.mem_append_right _ (mem_pinsAt hb e)))
          ⟨z.1, z.2.1⟩
        refine ⟨m', hm, i + 1, H', (I'.unpinned (pins := [])).weak (by rw [← hw8, wipe_length]) (fun j v e => ?_), T.keep _ _ _ st7 fun b hb o e => (pin' b hb o e).1, fun b hb => ?_, w'⟩
        · rw [← hw8] at e
          exact (wipe_some e).1
        · obtain ⟨o, e, _⟩ := T.obj _ _ st7 b hb
          exact (pin' b hb o e).2
      cases b with
      | false =>
        simp only [Bool.false_eq_true, if_false] at q9 ⊢
        exact fin I9 q9
      | true =>
        simp only [if_true] at q9 ⊢
        refine thnF (pe.run _ s9 σ8 H9 _ I9 q9) fun z s10 ⟨yv, H10, I10, r10, acc, hD10, hz10, nx⟩ => ?_
        exact app_ok (X := X.blk s3 H3 scope ce fp) I10 hD10 hz10 r10 fun s11 I11 => fin I11 nx
  exact codeAny_compStart_list loop (T.self X.A 0 _ _ _ st4 loop)
theorem pe_lcI {elt tg iter : Expr} {ifs : List Expr} {scope : Scope} {own : List (Str × Nat)} {pos : Pos} {wi : TI} {g : TG} {tt : TT} {te : TE} (hot : HotI X) (hN : X.N.Nodup) (hi : PII X tg iter wi) (ok : BlkOk X.N X.env.scope scope own)
    (hg : ∀ (s : Shared) (H : Hp) (C : Addr) (cl : List (Str × Addr)) (fp : List Addr), HotI (X.blk s H scope (compEnvC scope cl C X.env) fp) → PG (X.blk s H scope (compEnvC scope cl C X.env) fp) tg g)
    (ht : ∀ (s : Shared) (H : Hp) (C : Addr) (cl : List (Str × Addr)) (fp : List Addr), HotI (X.blk s H scope (compEnvC scope cl C X.env) fp) → PTs (X.blk s H scope (compEnvC scope cl C X.env) fp) ifs tt)
    (he : ∀ (s : Shared) (H : Hp) (C : Addr) (cl : List (Str × Addr)) (fp : List Addr), HotI (X.blk s H scope (compEnvC scope cl C X.env) fp) → PE (X.blk s H scope (compEnvC scope cl C X.env) fp) elt te) (hs : ∀ x, foldedSetIterable iter X.env x = pure x := by intro _; rfl) :
    PE X (.ListComp elt [⟨tg, iter, ifs, 0⟩] scope pos) (tLc wi g tt te (own.map (·.2))) := by
  refine ⟨fun pins s σ H Q I h => ?_⟩
  rw [eval_ListComp]
  refine lc_hot hot hN I hi ok hg ht he hs h fun D C s' m H' I' q hn f => ⟨m, hn, fun h'' sb => ?_⟩
  obtain ⟨f0, f1, f2, f3, f4, f5⟩ := f
  exact ⟨.ref D, H', I'.turned (t' := s'.toks) (fun b o hb e => (sb.2 b hb).trans e) f0 f1 f3 f4 f5, rfl, q⟩
end
/-! ### defs called there -/
theorem fn_ofI {CX : CXT} {P : Program} {w : World} {K : PySem.W.Frag} {mg : Str → Option Value} {base : Heap} {k : Nat} {f : Addr} {name qual : Str} {params : Arguments} {body : List Stmt} {scope : Scope} {dV kV doc pm cdv ct oc : Value} {an od : Option Addr} {osl : Array (Option Value)} {N ps : List Str} {sp : Sp}
    (lk : List.lookup f K = some ⟨oc, od, .func (PySem.W.fnOf name qual params body scope dV kV doc pm an cdv ct), osl⟩) (hcd : PySem.W.codeIn K cdv qual = true) (S : FnScope N ps scope) (len : ∀ vs H Q E, sp vs H Q E → vs.length = ps.length)
    (hbody : ∀ (A : Around) (outer : List Env) (s : Shared) (H : Hp) (vs : List V) (Q : VK) (E : XK) (p : Addr × Obj), HotI (cxH CX P w K mg base N qual scope f cdv A outer s H E p) → RoomH k (A.deeper (envOfC qual scope s.heap.objs.size f cdv)) → sp vs H Q E →
      ∃ t, PSs (cxH CX P w K mg base N qual scope f cdv A outer s H E p) body t ∧ t { nx := fun _ H' => Q .non H', rt := Q } (L2.start N vs) H) :
    FnH P w K mg base CX (k + 1) f (PySem.W.fnOf name qual params body scope dV kV doc pm an cdv ct) ps sp := by
  refine ⟨len, fun A outer s H args us vs Q E p hr hot hpin e0 hb r hsp => ?_⟩
  have KX := PySem.W.Frag.In.keeps e0.mod.kin fun b o e => (e0.bs b o e).left
  have lim := Heap.NoLimit.keeps e0.mod.nolimit fun b o e => (e0.bs b o e).left
  refine codeAny_call_function (RoomH.depth hr) (KX f _ lk) rfl S.co S.gen rfl (PySem.W.codeRec_of KX hcd) (hb _ _ _ _ (wpAny_newFunctionEnv_cells S.kind (fun x hy => ?_) fun env he s1 x => ?_))
  · obtain ⟨n, v⟩ := x
    exact (S.par n (List.of_mem_zip hy).left).elim (fun q => Or.inl q) fun q => Or.inr ⟨q, PySem.W.cellsFrom_some scope.names (s.heap.objs.size + 1) [] (Or.inl q)⟩
  · subst he
    refine ⟨Heap.NoLimit.keeps lim x.toInCall.keep, codeAny_func ?_⟩
    have hI : HotI (cxH CX P w K mg base N qual scope f cdv A outer s H E p) := by
      obtain ⟨hh, vs1, e1, c1⟩ := hot
      exact ⟨p.1, p.2, vs1, hh, e1, c1, hpin.get, hpin.free, (fun z => nomatch z), hpin.nofs⟩
    obtain ⟨t, ht, hq⟩ := hbody A outer s H vs Q E p hI (RoomH.deeper hr (envOfC qual scope s.heap.objs.size f cdv)) hsp
    have I := inv_startH (CX := CX) (E := E) S hpin e0 (len vs H Q E hsp) r x
    refine wpAny_mono (ht.run [] s1 (L2.start N vs) H _ I hq) (fun fl s' hs => ?_) fun e s' hs => hs
    cases fl with
    | next =>
      obtain ⟨σ', H', J, q⟩ := hs
      exact ⟨.non, H', J.os, J.bare, J.base, J.hok, rfl, q⟩
    | brk =>
      obtain ⟨_, _, _, q⟩ := hs
      exact q.elim
    | cont =>
      obtain ⟨_, _, _, q⟩ := hs
      exact q.elim
    | ret u =>
      obtain ⟨v, σ', H', J, rv, q⟩ := hs
      exact ⟨_, H', J.os, J.bare, J.base, J.hok, rv, q⟩
end Kh

set_option Elab.async false
set_option linter.all false
set_option maxRecDepth 100000
set_option maxHeartbeats 4000000
namespace Kh
open PySem PySem.Spec PyProof.Rows L2
/-! ### errors whose context is None -/
theorem passN {X : Cx} : Passes (L2N.CX X.prog X.w) X E0 := fun _ _ _ _ _ _ _ h => by
  obtain ⟨_, _, _, _, _, _, _, _, _, _, _, _, z⟩ := h
  exact z.elim
theorem takes0N {X : Cx} : L2N.Takes X (fun _ _ _ _ => False) := fun _ _ x => by
  obtain ⟨_, _, _, _, _, _, _, _, _, _, _, _, _, _, _, _, z⟩ := x
  exact z.elim
section
variable {P : Program} {w : World} {K : PySem.W.Frag} {mg : Str → Option Value} {base : Heap}
theorem Fun.okN {x qual : Str} {st : Stmt} {f : Addr} {fd : FuncData} {N ps : List Str} {k : Nat} {sp : Sp} (F : Fun K x qual st f fd) (S : FnScope N ps (defScope st)) (len : ∀ vs H Q E, sp vs H Q E → vs.length = ps.length)
    (hb : ∀ (cdv : Value) (A : Around) (outer : List Env) (s : Shared) (H : Hp) (vs : List V) (Q : VK) (E : XK), Room k (A.deeper (envOfC qual (defScope st) s.heap.objs.size f cdv)) → sp vs H Q E →
      ∃ t, PSs (cxOf (L2N.CX P w) P w K mg base N qual (defScope st) f cdv A outer s H E) (defBody st) t ∧ t { nx := fun _ H' => Q .non H', rt := Q } (L2.start N vs) H) : FnOk P w K mg base (L2N.CX P w) (k + 1) f fd ps sp := by
  obtain ⟨oc, od, kV, doc, pm, an, cdv, ct, osl, e, lk, hcd⟩ := F.ex
  subst e
  exact fn_of lk hcd S len fun A outer s H vs Q E => hb cdv A outer s H vs Q E
/-- a def of the text that is called while an error is handled -/
theorem Fun.okI {x qual : Str} {st : Stmt} {f : Addr} {fd : FuncData} {N ps : List Str} {k : Nat} {sp : Sp} (F : Fun K x qual st f fd) (S : FnScope N ps (defScope st)) (len : ∀ vs H Q E, sp vs H Q E → vs.length = ps.length)
    (hb : ∀ (cdv : Value) (A : Around) (outer : List Env) (s : Shared) (H : Hp) (vs : List V) (Q : VK) (E : XK) (p : Addr × Obj), HotI (L2H.cxH CX0 P w K mg base N qual (defScope st) f cdv A outer s H E p) → L2H.RoomH k (A.deeper (envOfC qual (defScope st) s.heap.objs.size f cdv)) → sp vs H Q E →
      ∃ t, PSs (L2H.cxH CX0 P w K mg base N qual (defScope st) f cdv A outer s H E p) (defBody st) t ∧ t { nx := fun _ H' => Q .non H', rt := Q } (L2.start N vs) H) : L2H.FnH P w K mg base CX0 (k + 1) f fd ps sp := by
  obtain ⟨oc, od, kV, doc, pm, an, cdv, ct, osl, e, lk, hcd⟩ := F.ex
  subst e
  exact fn_ofI lk hcd S len fun A outer s H vs Q E p => hb cdv A outer s H vs Q E p
end
section
variable {X : Cx} {e : Expr} {es : List Expr} {ta : TA}
/-- C(e, ..) of an error with an __init__ of its own -/
theorem pmk_oexN {CX : CXT} {x : Str} {C fI : Addr} {k : Nat} {fd : FuncData} {ps : List Str} {sp : Sp} {p pos : Pos} (T : OexC X.K C) (iC : PySem.W.findIn X.K (.ref C) "__init__" = some (some (.ref fI))) (tI : PySem.W.typeIn X.K (.ref fI) = some (.type "function"))
    (F1 : FnOk X.prog X.w X.K X.mg X.base CX k fI fd ps sp) (hr : Room (k + 1) X.A) (hb : L2.Binds X.K fd ps []) (hx : Passes CX X (fun _ _ _ => False)) (hg : Gl X x) (hm : X.mg x = some (.ref C)) (ha : PA X (e :: es) ta)
    (hdb : (x == ("__debug__" : Str)) = false := by decide) (he : starEach (e :: es) X.env = (false, eval e X.env) :: starEach es X.env := by rfl) (hpl : (backTo pos (starEach es X.env)).any (·.1) = false := by rfl) :
    L2N.PMk X (.Call (.Name x p) (e :: es) [] pos) (tMkO C sp [] ta) := by
  intro pins s σ H Q I h
  obtain ⟨nm, q, N, bs, bm, sn, sub, ab, col, dd, k0, k1, k2, k3, k5, hC, hbm⟩ := T.cls
  refine wpAny_Call_Name_kw (ld_glob I hg hm ?_ hdb)
  refine PySem.W.callWith_K (h₀ := X.base) I.ok.mod.kin T.kC (thn (ha.run pos pins s σ H _ I h) fun us s1 ⟨vs, H1, I1, r1, hz, q1⟩ => ⟨I1.kIn, ?_⟩) he hpl
  show wpAny _ _ (call (.ref C) us) _ _ _
  obtain ⟨hp, g, dr, tk, os⟩ := s1
  generalize hA : hp.objs.size + 1 = a
  have hsz : hp.objs.size ≤ a := by omega
  have hq := q1 a (I1.hok.fresh hsz)
  rw [List.append_nil] at hq
  have kk : ∀ b o, hp.get? b = some o → ((hp.push (PySem.W.kdv_tup us)).push (PySem.HandSPX.excO C hp.objs.size)).get? b = some o := fun b o e => Heap.get?_push_of_some _ (Heap.get?_push_of_some _ e)
  have hget : ((hp.push (PySem.W.kdv_tup us)).push (PySem.HandSPX.excO C hp.objs.size)).get? a = some (PySem.HandSPX.excO C hp.objs.size) := by
    rw [← hA]
    heap_get
  have I2 : L2.Inv X pins σ (upd H1 a (exo a C none)) ⟨(hp.push (PySem.W.kdv_tup us)).push (PySem.HandSPX.excO C hp.objs.size), g, dr, tk, os⟩ := I1.laid (t' := tk) (o := exo a C none) kk hsz (exo_ok hget)
  have r2 : Vals (V.ref a :: vs) (Value.ref a :: us) := .cons rfl r1
  have hl : (Value.ref a :: us ++ []).length = ps.length := by
    rw [List.append_nil, ← F1.len _ _ _ _ hq]
    exact r2.length.symm
  have hus : us.length ≤ sizeLine := by
    rw [← Paired.length r1, sizeLine_eq]
    omega
  have b2 := hb _ (Value.ref a :: us) I2.kIn hl
  rw [List.append_nil] at b2
  subst hA
  refine wpAny_call (PySem.HandSPX.call_own PySem.F.excBase_ValueError (fun Y => PySem.HandSPX.refsVE_contains Y bm hbm) (I1.kIn _ _ hC) (PySem.W.looks_findIn I1.kIn iC) (fun self => PySem.W.bind_fn I1.kIn self tI) hus
    (codeAny_mono (F1.run _ X.stack _ _ ⟨_, []⟩ _ _ _ (fun _ _ _ => False) (hr.make C us []) (I2.env0.make C us []) b2 r2 hq) fun r s' hq' => ?_))
  cases r with
  | error er => exact hx pins σ _ _ er s' I2 hq'
  | ok fl =>
    cases fl with
    | ret u =>
      obtain ⟨v, H2, os2, bare2, un2, hok2, rv, ev, d, fs, ea, ed, hd1, q2⟩ := hq'
      subst ev
      obtain ⟨h2, g2, d2, t2, os'⟩ := s'
      obtain ⟨t0, G, J, kG, ge, hoe, na⟩ := mk_end0 (d2 := d2) (t2 := t2) I1 hsz kk un2 hok2 os2 bare2 ea ed hd1
      exact ⟨rv, _, _, _, ⟨G, g2, d2, t2, os'⟩, _, .ref C, some d, rfl, J, kG, ge, hoe, ⟨rfl, rfl, fun vs hv => by cases hv; rfl⟩, rfl, rfl, na, rfl, bare2, raises_own T.exC T.tyC, q2⟩
    | next => exact hq'.elim
    | brk => exact hq'.elim
    | cont => exact hq'.elim
end
end Kh

set_option Elab.async false
set_option linter.all false
set_option maxRecDepth 100000
set_option maxHeartbeats 4000000
namespace K0
open PySem PySem.Spec PyProof.Rows L2 Ke Kx Kd Kh
abbrev sBP : Stmt := inClass (top 5) 0
theorem same_upd {H : Hp} {p : Addr} {o : HO} (h : H p = none) : Same H (upd H p o) := fun b u e => by rw [upd_ne (ne_of_none e h)]; exact e
theorem tYesI {σ : L2.St} {H : Hp} {A B : Hp → Prop} (h : A H) : tYes σ H (fun b H3 => if b = true then A H3 else B H3) := by
  show (if true = true then A H else B H)
  rw [if_pos rfl]
  exact h
/-! ### entries to be -/
/-- its tuple, its view's place and key, its lots' place, their places, their weights over a whole -/
structure Row where
  e : Addr
  va : Addr
  key : NestedKey
  la : Addr
  as : List Addr
  ws : List Int
  W : Int
def Row.lots (r : Row) : List (Int × Int) := r.ws.map fun w => (rn w r.W, rd w r.W)
structure RowOk (K : PySem.W.Frag) (C : Addr) (H : Hp) (r : Row) : Prop where
  he : H r.e = some (.tup [.ref r.va, .ref r.la])
  hv : Nest H r.key (.ref r.va)
  sv : SeqAt.shaped r.key.data = true
  dv : r.key.depth ≤ 8
  hl : H r.la = some (.lst (r.as.map V.ref)) ∨ H r.la = some (.tup (r.as.map V.ref))
  lt : Lots C H r.as r.ws r.W
theorem RowOk.ext {K : PySem.W.Frag} {C : Addr} {H H' : Hp} {r : Row} (h : RowOk K C H r) (e : Same H H') : RowOk K C H' r :=
  ⟨e _ _ h.he, h.hv.keep fun a xs z => e _ _ z, h.sv, h.dv, h.hl.imp (e _ _) (e _ _), h.lt.same e⟩
/-- all but a new object p is as it was -/
theorem RowOk.but {K : PySem.W.Frag} {C : Addr} {H H' : Hp} {r : Row} {p : Addr} {dx D : Addr} (h : RowOk K C H r) (hp : H p = some (.ins D dx [])) (e : ∀ b o, H b = some o → b ≠ p → H' b = some o) : RowOk K C H' r := by
  have nt : ∀ b xs, H b = some (.tup xs) → H' b = some (.tup xs) := fun b xs z => e _ _ z (fun q => by rw [q, hp] at z; cases z)
  have nl : ∀ b xs, H b = some (.lst xs) → H' b = some (.lst xs) := fun b xs z => e _ _ z (fun q => by rw [q, hp] at z; cases z)
  refine ⟨nt _ _ h.he, h.hv.keep nt, h.sv, h.dv, h.hl.imp (nl _ _) (nt _ _), h.lt.len, fun i a w h1 h2 => ?_, h.lt.pos, h.lt.big, h.lt.small, h.lt.few⟩
  obtain ⟨da, ea⟩ := h.lt.at_ i a w h1 h2
  refine ⟨da, e _ _ ea fun q => ?_⟩
  rw [q, hp] at ea
  injection ea with ea
  injection ea with _ _ e3
  have := rf_num (rn w r.W) (rd w r.W)
  rw [← e3] at this
  cases this
def rowBad (seen : List NestedKey) (r : Row) : Bool := seen.any (fun k => decide (k = r.key)) || !lotsB r.ws r.W
/-- the first one that is not valid -/
def badFrom (seen : List NestedKey) (n : Nat) : List Row → Option Nat
  | [] => none
  | r :: rs => if rowBad seen r = true then some n else badFrom (seen ++ [r.key]) (n + 1) rs
def EntOf (r : Row) (x : Ent) : Prop := x.key = r.key ∧ x.va = r.va ∧ x.lots = r.lots ∧ x.as = r.as
def plKv (n : Nat) : List Row → Kvs
  | [] => []
  | r :: rs => (r.key, r.va, .int (n : Int)) :: plKv (n + 1) rs
theorem plKv_len (n : Nat) : ∀ rs : List Row, (plKv n rs).length = rs.length
  | [] => rfl
  | r :: rs => by
    show (plKv (n + 1) rs).length + 1 = rs.length + 1
    rw [plKv_len (n + 1) rs]
theorem plKv_snoc (n : Nat) (r : Row) : ∀ rs : List Row, plKv n (rs ++ [r]) = plKv n rs ++ [(r.key, r.va, .int ((n + rs.length : Nat) : Int))]
  | [] => rfl
  | x :: rs => by
    show (x.key, x.va, V.int (n : Int)) :: plKv (n + 1) (rs ++ [r]) = (x.key, x.va, V.int (n : Int)) :: (plKv (n + 1) rs ++ _)
    rw [plKv_snoc (n + 1) r rs, show n + 1 + rs.length = n + (x :: rs).length by rw [List.length_cons]; omega]
theorem atK_any (k : NestedKey) : ∀ (n : Nat) (rs : List Row), (atK (plKv n rs) k).isSome = (rs.map (·.key)).any (fun x => decide (x = k))
  | _, [] => rfl
  | n, r :: rs => by
    have ih := atK_any k (n + 1) rs
    rw [List.map_cons, List.any_cons, ← ih]
    show (Option.map (·.2.2) (List.find? (fun p => decide (p.1 = k)) ((r.key, r.va, V.int (n : Int)) :: plKv (n + 1) rs))).isSome = _
    rw [List.find?_cons]
    by_cases e : r.key = k
    · simp [e]
    · simp [e, atK]
/-! ### the errors' own __init__, plans' -/
structure TxB (K : PySem.W.Frag) (mg : Str → Option Value) (LE BP fB : Addr) : Prop where
  mgL : mg "LossError" = some (.ref LE)
  mgB : mg "BadPlan" = some (.ref BP)
  bl : BaseC K LE
  ox : OexC K BP
  nB : PySem.W.findIn K (.ref BP) "at" = some none
  iB : PySem.W.findIn K (.ref BP) "__init__" = some (some (.ref fB))
  tB : PySem.W.typeIn K (.ref fB) = some (.type "function")
def ErrPl (BP : Addr) (E : XK) (p : Addr) (H : Hp) (i : Nat) : Prop := ∀ d H', (∀ b o, H b = some o → b ≠ p → H' b = some o) → H' d = some (.xd [(("at" : Str), .int (i : Int))]) → E (.ref BP) (some d) H'
/-- the places of its views -/
def PlacesAt (P : Program) (w : World) (CP : Addr) (H : Hp) (p : Addr) (rs : List Row) : Prop := ∃ dx fs d, H p = some (.ins CP dx fs) ∧ fs.lookup ("_places" : Str) = some (.ref d) ∧ KD P w H d (plKv 0 rs)
def spPlan (P : Program) (w : World) (K : PySem.W.Frag) (C CP BP : Addr) : Sp := fun vs H Q E => ∃ (p dx l : Addr) (rs : List Row), vs = [.ref p, .ref l] ∧ H p = some (.ins CP dx []) ∧ H l = some (.lst (rs.map fun r => V.ref r.e)) ∧ (∀ r ∈ rs, RowOk K C H r) ∧ rs.length ≤ 1000 ∧
  (∀ n, badFrom [] 0 rs = some n → ErrPl BP E p H n) ∧
  (badFrom [] 0 rs = none → ∀ (H' : Hp) (xs : List Ent), PlanAt K C CP H' p xs → Paired EntOf rs xs → PlacesAt P w CP H' p rs → (∀ b o, H b = some o → b ≠ p → H' b = some o) → Q .non H')
section
variable {P : Program} {w : World} {K : PySem.W.Frag} {mg : Str → Option Value} {base : Heap} {C BR CP LE BP fB : Addr}
theorem scBP : FnScope ["self", "at"] ["self", "at"] (defScope sBP) := ⟨rfl, rfl, rfl, by decide +kernel, rfl, by decide +kernel, by decide +kernel⟩
theorem ok_bp {fd : FuncData} (F : Fun K "__init__" "BadPlan.__init__" sBP fB fd) (T : TxB K mg LE BP fB) : FnOk P w K mg base CX0 1 fB fd ["self", "at"] (spErr BP "at") := by
  refine F.ok scBP (fun vs H Q E h => ?_) (fun cdv A outer s H vs Q E hr h => ?_)
  · obtain ⟨a, n, rfl, _⟩ := h
    rfl
  · obtain ⟨a, n, rfl, ha, hn, k⟩ := h
    refine ⟨_, pss_cons (ps_expr (pe_binit T.bl rfl T.mgL (pa_cons (pv 0) (pa_cons (pe_joined (.cons pe_str (.cons (pe_fmt (pv 1)) (.cons pe_str .nil)))) pa_nil))))
      (pss_one (ps_ost (pv 0) (pv 1))), ?_⟩
    have hb : n.natAbs.log2 < 64 := PySem.Flt.log2_lt_of (by decide) hn
    have hz : (Str.ofString (toString n)).length ≤ 65 := by
      have := PySem.int_text_length_le (a := n) (k := 64) (by decide) hb
      rw [PySem.ofString_length]
      exact this
    have l1 : Str.length ("entry " : Str) ≤ 40 := by decide +kernel
    have l2 : Str.length (" makes no plan" : Str) ≤ 40 := by decide +kernel
    refine ⟨_, rfl, _, rfl, ?_, _, rfl, .inr ⟨n, rfl, Nat.lt_trans hb (by decide), _, rfl, ?_, _, rfl, ?_, ?_⟩⟩
    · rw [Str.empty_append]
      exact Nat.le_trans l1 (by decide)
    · rw [Str.empty_append, Str.length_append]
      exact Nat.le_trans (Nat.add_le_add l1 hz) (by decide)
    · rw [Str.empty_append, Str.length_append, Str.length_append]
      exact Nat.le_trans (Nat.add_le_add (Nat.add_le_add l1 hz) l2) (by decide)
    · exact ⟨a, BP, _, rfl, (by show 1 ≤ 1000; decide), T.ox, ha, _, rfl, _, rfl, a, BP, rfl, T.ox, T.nB, .inl ⟨ha, fun dx n1 n2 => k dx n1 n2⟩⟩
theorem scPI : FnScope ["self", "entries", "view", "lots"] ["self", "entries"] (defScope sPI) := ⟨rfl, rfl, rfl, by decide +kernel, rfl, by decide +kernel, by decide +kernel⟩
end
end K0

set_option Elab.async false
set_option linter.all false
set_option maxRecDepth 100000
set_option maxHeartbeats 4000000
namespace K0
open PySem PySem.Spec PyProof.Rows L2 Ke Kx Kd Kh
theorem paired_snoc2 {α β : Type} {R : α → β → Prop} {xs : List α} {ys : List β} {x : α} {y : β} (r : Paired R xs ys) (h : R x y) : Paired R (xs ++ [x]) (ys ++ [y]) := by
  induction r with
  | nil => exact .cons h .nil
  | cons a _ ih => exact .cons a ih
theorem EntOk.keep {K : PySem.W.Frag} {C : Addr} {H H' : Hp} {x : Ent} (h : EntOk K C H x) (nt : ∀ b xs, H b = some (.tup xs) → H' b = some (.tup xs)) (ni : ∀ b D dx fs, H b = some (.ins D dx fs) → H' b = some (.ins D dx fs)) : EntOk K C H' x :=
  ⟨nt _ _ h.he, h.hv.keep nt, h.sv, h.dv, nt _ _ h.hl, h.len, fun i a q h1 h2 => by
    obtain ⟨da, ea⟩ := h.rat i a q h1 h2
    exact ⟨da, ni _ _ _ _ ea⟩⟩
theorem lots_get {C : Addr} {H : Hp} {r : Row} (L : Lots C H r.as r.ws r.W) : r.as.length = r.lots.length ∧ ∀ (i : Nat) (a : Addr) (q : Int × Int), r.as[i]? = some a → r.lots[i]? = some q → RatAt C H a q.1 q.2 := by
  refine ⟨by rw [L.len]; exact (List.length_map ..).symm, fun i a q h1 h2 => ?_⟩
  unfold Row.lots at h2
  obtain ⟨w, hw, rfl⟩ := Option.map_eq_some_iff.mp ((List.getElem?_map ..).symm.trans h2)
  exact L.at_ i a w h1 hw
section
variable {P : Program} {w : World} {K : PySem.W.Frag} {mg : Str → Option Value} {base : Heap} {C BR CP LE BP fB : Addr}
theorem ok_pinit {f fL : Addr} {fd fdL fdB : FuncData} (F : Fun K "__init__" "Plan.__init__" sPI f fd) (T : TxP K mg CP) (TB : TxB K mg LE BP fB) (GB : FnOk P w K mg base CX0 1 fB fdB ["self", "at"] (spErr BP "at")) (bB : L2.Binds K fdB ["self", "at"] [])
    (GL : FnOk P w K mg base CX0 4 fL fdL ["ratios"] (spLots K C)) (gL : mg "are_lots" = some (.ref fL)) (kL : PySem.W.keepIn K (.ref fL) = true) (bL : L2.Binds K fdL ["ratios"] []) :
    FnOk P w K mg base (L2N.CX P w) 5 f fd ["self", "entries"] (spPlan P w K C CP BP) := by
  refine Kh.Fun.okN F scPI (fun vs H Q E h => ?_) (fun cdv A outer s H vs Q E hr h => ?_)
  · obtain ⟨p, dx, l, rs, rfl, _⟩ := h
    rfl
  · obtain ⟨p, dx, l, rs, rfl, hp, hl, hrs, hz, hE, hQ⟩ := h
    have hr1 : Room 2 _ := hr.mono (by decide)
    have hr4 : Room 4 _ := hr.mono (by decide)
    have hu64 : (A.deeper (envOfC "Plan.__init__" (defScope sPI) s.heap.objs.size f cdv)).units + 64 < cLine := by have := hr.un; omega
    refine ⟨_, pss_cons (ps_fld (pv 0) (pe_lst pa_nil) rfl)
      (pss_cons (ps_fld (pv 0) pe_dnewX rfl)
      (pss_one (ps_for (passes_of rfl) rfl (pi_list (pv 1)) (pg_tup (by rfl) (pgs_cons (pg_name (i := 2) scPI.nd rfl (Or.inl rfl)) (pgs_cons (pg_name (i := 3) scPI.nd rfl (Or.inl rfl)) pgs_nil)))
        (pss_cons (ps_if (PW.pt (pw_or (pt_cmpR (op_inK hu64) (pv 2) (pe_fld (pv 0) rfl) rfl) (pw_or1 (pt_not (pt_val (pe_call GL hr4 (by rfl) gL kL bL .nil pass0 (pa_cons (pv 3) pa_nil)))))))
          (pss_one (L2N.ps_raise rfl (L2N.takes_of rfl rfl rfl rfl) (pmk_oexN TB.ox TB.iB TB.tB GB hr1 bB pass0 rfl TB.mgB (pa_cons (pe_callB call_len_seq (by rfl) T.len PySem.boot_len (pa_cons (pe_fld (pv 0) rfl) pa_nil)) pa_nil)))) pss_nil)
        (pss_cons (ps_asg (pe_callB call_len_seq (by rfl) T.len PySem.boot_len (pa_cons (pe_fld (pv 0) rfl) pa_nil)) (pg_sub (pe_fld (pv 0) rfl) (pv 2) (set_K hu64)))
        (pss_one (ps_expr (pe_bm PySem.F.plainAttrs_list PySem.F.slot_list_append PySem.F.type_list_append mt_append (pe_fld (pv 0) rfl) (pa_cons (pe_tup (pa_cons (pv 2) (pa_cons (pe_callTy call_tuple_of (by rfl) T.tuple (by decide +kernel) (pa_cons (pv 3) pa_nil)) pa_nil))) pa_nil))))))))), ?_⟩
    refine ⟨Nat.zero_le _, fun m hm => ?_⟩
    have n1 : p ≠ m := ne_of_none hp hm
    refine ⟨_, rfl, p, CP, dx, [], rfl, by rw [upd_ne n1]; exact hp, T.cl, T.nE, (by show 0 < 1000; decide), ?_⟩
    intro d hd hds
    have n2 : p ≠ d := fun e => by
      rw [← e, upd_same] at hd
      cases hd
    have n3 : m ≠ d := fun e => by
      rw [← e, upd_ne n1.symm, upd_same] at hd
      cases hd
    have hd0 : H d = none := by
      rw [upd_ne n2.symm, upd_ne n3.symm] at hd
      exact hd
    refine ⟨_, rfl, p, CP, dx, _, rfl, by rw [upd_ne n2]; exact upd_same, T.cl, T.nP, (by show 1 < 1000; decide), ?_⟩
    have nlp : l ≠ p := ne_of hl hp (by intro z; cases z)
    have nlm : l ≠ m := ne_of_none hl hm
    have nld : l ≠ d := ne_of_none hl hd0
    let Pv : Nat → L2.St → Hp → Prop := fun i σ H' => (∃ v2 v3, σ = [some (.ref p), some (.ref l), v2, v3]) ∧ (∃ xs : List Ent, H' m = some (.lst (xs.map fun x => V.ref x.e)) ∧ Paired EntOf (rs.take i) xs ∧ ∀ x ∈ xs, EntOk K C H' x) ∧ H' p = some (.ins CP dx (pf m d)) ∧ KD P w H' d (plKv 0 (rs.take i)) ∧
      (∀ b o, H b = some o → b ≠ p → H' b = some o) ∧ badFrom [] 0 rs = badFrom ((rs.take i).map (·.key)) i (rs.drop i)
    refine ⟨_, rfl, l, rfl, ⟨rs.map fun r => V.ref r.e, SqL.of ?_⟩, for_list (xs := rs.map fun r => V.ref r.e) Pv ⟨⟨_, _, rfl⟩, ⟨[], ?_, .nil, fun x hx => nomatch hx⟩, upd_same, KD.new ?_ hds, ?_, rfl⟩ (fun i σ H2 _ h => SqL.of (h.2.2.2.2.1 l _ hl nlp)) ?_ ?_⟩
    · rw [upd_ne nlp, upd_ne nld, upd_ne nlp, upd_ne nlm]
      exact hl
    · rw [upd_ne n1.symm, upd_ne n3, upd_ne n1.symm, upd_same]
      rfl
    · rw [upd_ne n2.symm, upd_same]
    · intro b o e hb
      rw [upd_ne hb, upd_ne (ne_of_none e hd0), upd_ne hb, upd_ne (ne_of_none e hm)]
      exact e
    · rintro i x σ H2 hx ⟨⟨v2, v3, rfl⟩, ⟨xs, hm2, pr, oks⟩, hp2, kd, kp, bad⟩
      rw [List.getElem?_map] at hx
      obtain ⟨r, hr0, rfl⟩ := Option.map_eq_some_iff.mp hx
      have hil : i < rs.length := (List.getElem?_eq_some_iff.mp hr0).1
      have hri : rs[i] = r := (List.getElem?_eq_some_iff.mp hr0).2
      have hdrop : rs.drop i = r :: rs.drop (i + 1) := by rw [List.drop_eq_getElem_cons hil, hri]
      have htake : rs.take (i + 1) = rs.take i ++ [r] := by rw [List.take_succ_eq_append_getElem hil, hri]
      have R0 := hrs r (List.mem_of_getElem? hr0)
      have nt : ∀ b ys, H b = some (.tup ys) → H2 b = some (.tup ys) := fun b ys z => kp _ _ z (fun q => by rw [q, hp] at z; cases z)
      have nl : ∀ b ys, H b = some (.lst ys) → H2 b = some (.lst ys) := fun b ys z => kp _ _ z (fun q => by rw [q, hp] at z; cases z)
      have R2 := R0.but hp kp
      refine ⟨r.e, _, rfl, SqT.of (nt _ _ R0.he), rfl, ?_⟩
      refine ⟨_, _, rfl, _, _, rfl, rfl, _, rfl, _, rfl, p, CP, dx, _, _, rfl, hp2, T.cl, T.nP, pf_p _ _, r.va, d, r.key, _, rfl, rfl, kd, R2.hv, R0.dv, _, rfl, ?_⟩
      rw [atK_any]
      have eb : rowBad ((rs.take i).map (·.key)) r = (((rs.take i).map (·.key)).any (fun x => decide (x = r.key)) || !lotsB r.ws r.W) := rfl
      have hlen : (xs.map fun x => V.ref x.e).length = i := by
        rw [List.length_map, ← pr.length, List.length_take]
        omega
      cases hin : ((rs.take i).map (·.key)).any (fun x => decide (x = r.key)) with
      | true =>
        have hbad : badFrom [] 0 rs = some i := by
          rw [bad, hdrop]
          show (if rowBad _ r = true then some i else _) = some i
          rw [eb, hin, Bool.true_or, if_pos rfl]
        refine iteT (iteT ?_)
        refine ⟨_, rfl, p, CP, dx, _, _, rfl,  hp2, T.cl, T.nE, pf_e _ _, m, _, rfl, .inl (SqL.of hm2), (by show 1 ≤ 1000; decide), fun a na => ?_⟩
        refine ⟨a, _, rfl, upd_same, by rw [hlen]; omega, fun d2 nd ne => ⟨rfl, d2, _, upd_same, by rw [upd_ne ne]; exact upd_same, ?_, ?_⟩⟩
        · rw [upd_ne ne] at nd
          exact nd
        · have nd' : H2 d2 = none := by
            rw [upd_ne ne] at nd
            exact nd
          rw [hlen]
          refine hE i hbad d2 _ (fun b o q hb => ?_) upd_same
          have q := kp b o q hb
          have q1 : b ≠ d2 := ne_of_none q nd'
          have q2 : b ≠ a := ne_of_none q na
          rw [upd_ne q1, del_ne q2, upd_ne q2, upd_ne q1, upd_ne q2]
          exact q
      | false =>
        refine iteF ⟨_, rfl, r.la, r.as, r.ws, r.W, rfl, R2.hl.imp SqL.of SqT.of, R2.lt, fun H3 s3 => ?_⟩
        refine ⟨_, rfl, ?_⟩
        cases hb2 : lotsB r.ws r.W with
        | false =>
          have hbad : badFrom [] 0 rs = some i := by
            rw [bad, hdrop]
            show (if rowBad _ r = true then some i else _) = some i
            rw [eb, hin, hb2]
            rfl
          refine iteT ?_
          refine ⟨_, rfl, p, CP, dx, _, _, rfl, s3 _ _ hp2, T.cl, T.nE, pf_e _ _, m, _, rfl, .inl (SqL.of (s3 _ _ hm2)), (by show 1 ≤ 1000; decide), fun a na => ?_⟩
          refine ⟨a, _, rfl, upd_same, by rw [hlen]; omega, fun d2 nd ne => ⟨rfl, d2, _, upd_same, by rw [upd_ne ne]; exact upd_same, ?_, ?_⟩⟩
          · rw [upd_ne ne] at nd
            exact nd
          · have nd' : H3 d2 = none := by
              rw [upd_ne ne] at nd
              exact nd
            rw [hlen]
            refine hE i hbad d2 _ (fun b o q hb => ?_) upd_same
            have q := s3 _ _ (kp b o q hb)
            have q1 : b ≠ d2 := ne_of_none q nd'
            have q2 : b ≠ a := ne_of_none q na
            rw [upd_ne q1, del_ne q2, upd_ne q2, upd_ne q1, upd_ne q2]
            exact q
        | true =>
          refine iteF ?_
          have R3 := R2.ext s3
          have hm3 := s3 _ _ hm2
          have hp3 := s3 _ _ hp2
          have kd3 := kd.same s3
          refine ⟨_, rfl, p, CP, dx, _, _, rfl, hp3, T.cl, T.nE, pf_e _ _, m, _, rfl, .inl (SqL.of hm3), ?_⟩
          refine ⟨_, rfl, p, CP, dx, _, _, rfl, hp3, T.cl, T.nP, pf_p _ _, _, rfl, r.va, d, r.key, _, rfl, rfl, kd3, R3.hv, R0.dv, by rw [plKv_len, List.length_take]; omega, fun H4 kd4 e4 => ?_⟩
          have hput : putKv (plKv 0 (rs.take i)) r.key r.va (V.int ((xs.map fun x => V.ref x.e).length : Int)) = plKv 0 (rs.take (i + 1)) := by
            unfold putKv
            rw [atK_any, hin, if_neg Bool.false_ne_true, htake, plKv_snoc, hlen, List.length_take, Nat.zero_add, Nat.min_eq_left (Nat.le_of_lt hil)]
          rw [hput] at kd4
          have nm4 : H4 m = H3 m := e4 m n3
          have hm4 : H4 m = some (.lst (xs.map fun x => V.ref x.e)) := by rw [nm4, hm3]
          have hp4 : H4 p = some (.ins CP dx (pf m d)) := by rw [e4 p n2, hp3]
          obtain ⟨es, ep, xq, kq⟩ := id kd3.ok
          have nt4 : ∀ b ys, H3 b = some (.tup ys) → H4 b = some (.tup ys) := fun b ys z => by
            rw [e4 b (fun q => by rw [q, kq.at_] at z; cases z)]
            exact z
          have nl4 : ∀ b ys, H3 b = some (.lst ys) → H4 b = some (.lst ys) := fun b ys z => by
            rw [e4 b (fun q => by rw [q, kq.at_] at z; cases z)]
            exact z
          have ni4 : ∀ b D dy fs, H3 b = some (.ins D dy fs) → H4 b = some (.ins D dy fs) := fun b D dy fs z => by
            rw [e4 b (fun q => by rw [q, kq.at_] at z; cases z)]
            exact z
          have fin : ∀ (la : Addr) (H5 : Hp) (e2 : Addr), Same H4 H5 → H5 la = some (.tup (r.as.map V.ref)) → H5 e2 = none → Pv (i + 1) [some (.ref p), some (.ref l), some (.ref r.va), some (.ref r.la)] (upd (upd H5 e2 (.tup [.ref r.va, .ref la])) m (.lst ((xs.map fun x => V.ref x.e) ++ [.ref e2]))) := by
            intro la H5 e2 s5 hla he2
            have hm5 := s5 _ _ hm4
            have hp5 := s5 _ _ hp4
            have s6 : Same H4 (upd H5 e2 (.tup [.ref r.va, .ref la])) := s5.trans (same_upd he2)
            have hm6 := s6 _ _ hm4
            have n6 : ∀ b o, H4 b = some o → b ≠ m → upd (upd H5 e2 (.tup [.ref r.va, .ref la])) m (.lst ((xs.map fun x => V.ref x.e) ++ [.ref e2])) b = some o := fun b o z hb => by
              rw [upd_ne hb]
              exact s6 _ _ z
            have nt6 : ∀ b ys, H4 b = some (.tup ys) → upd (upd H5 e2 (.tup [.ref r.va, .ref la])) m (.lst ((xs.map fun x => V.ref x.e) ++ [.ref e2])) b = some (.tup ys) := fun b ys z => n6 b _ z (fun q => by rw [q, hm4] at z; cases z)
            have ni6 : ∀ b D dy fs, H4 b = some (.ins D dy fs) → upd (upd H5 e2 (.tup [.ref r.va, .ref la])) m (.lst ((xs.map fun x => V.ref x.e) ++ [.ref e2])) b = some (.ins D dy fs) := fun b D dy fs z => n6 b _ z (fun q => by rw [q, hm4] at z; cases z)
            have ne2 : e2 ≠ m := (ne_of_none hm5 he2).symm
            refine ⟨⟨_, _, rfl⟩, ⟨xs ++ [⟨e2, r.va, la, r.key, r.as, r.lots⟩], ?_, ?_, ?_⟩, ni6 _ _ _ _ hp4, ?_, ?_, ?_⟩
            · rw [List.map_append]
              exact upd_same
            · rw [htake]
              exact paired_snoc2 pr ⟨rfl, rfl, rfl, rfl⟩
            · intro x hx
              rcases List.mem_append.mp hx with hx | hx
              · exact (oks x hx).keep (fun b ys z => nt6 _ _ (nt4 _ _ (s3 _ _ z))) (fun b D dy fs z => ni6 _ _ _ _ (ni4 _ _ _ _ (s3 _ _ z)))
              · rw [List.mem_singleton.mp hx]
                obtain ⟨g1, g2⟩ := lots_get R3.lt
                refine ⟨by rw [upd_ne ne2]; exact upd_same, R3.hv.keep fun b ys z => nt6 _ _ (nt4 _ _ z), R0.sv, R0.dv, ?_, g1, fun j a q h1 h2 => ?_⟩
                · show upd (upd H5 e2 _) m _ la = _
                  rw [upd_ne (fun q => by rw [q, hm5] at hla; cases hla), upd_ne (ne_of_none hla he2)]
                  exact hla
                · obtain ⟨da, ea⟩ := g2 j a q h1 h2
                  exact ⟨da, ni6 _ _ _ _ (ni4 _ _ _ _ ea)⟩
            · refine (kd4.same s6).keep (fun b ys z => ?_) (upd_ne n3.symm)
              rw [upd_ne (fun q => by rw [q, hm6] at z; cases z)]
              exact z
            · intro b o z hb
              have z2 := s3 _ _ (kp b o z hb)
              have nbd : b ≠ d := ne_of_none z hd0
              have nbm : b ≠ m := ne_of_none z hm
              exact n6 b o (by rw [e4 b nbd]; exact z2) nbm
            · rw [bad, hdrop, htake, List.map_append]
              show (if rowBad _ r = true then _ else _) = _
              rw [eb, hin, hb2]
              rfl
          refine ⟨_, rfl, p, CP, dx, _, _, rfl, hp4, T.cl, T.nE, pf_e _ _, .inl ⟨rfl, _, SqL.of hm4⟩, _, rfl, _, rfl, r.la, r.as.map V.ref, rfl, ?_⟩
          rcases R3.hl with hl3 | hl3
          · refine .inl ⟨SqL.of (nl4 _ _ hl3), fun t ht => ?_⟩
            have hm5 : upd H4 t (.tup (r.as.map V.ref)) m = some (.lst (xs.map fun x => V.ref x.e)) := by
              rw [upd_ne (ne_of_none hm4 ht)]
              exact hm4
            refine ⟨by show 2 ≤ sizeLine; decide, fun e2 he2 => ?_⟩
            have hm6 : upd (upd H4 t (.tup (r.as.map V.ref))) e2 (.tup [.ref r.va, .ref t]) m = some (.lst (xs.map fun x => V.ref x.e)) := by
              rw [upd_ne (ne_of_none hm5 he2)]
              exact hm5
            refine ⟨m, _, _, rfl, rfl, hm6, by rw [hlen]; exact Nat.lt_of_le_of_lt (Nat.le_of_lt hil) (Nat.lt_of_le_of_lt hz (by decide)), ?_⟩
            exact fin t (upd H4 t (.tup (r.as.map V.ref))) e2 (same_upd ht) upd_same he2
          · refine .inr ⟨SqT.of (nt4 _ _ hl3), ?_⟩
            refine ⟨by show 2 ≤ sizeLine; decide, fun e2 he2 => ?_⟩
            have hm6 : upd H4 e2 (.tup [.ref r.va, .ref r.la]) m = some (.lst (xs.map fun x => V.ref x.e)) := by
              rw [upd_ne (ne_of_none hm4 he2)]
              exact hm4
            refine ⟨m, _, _, rfl, rfl, hm6, by rw [hlen]; exact Nat.lt_of_le_of_lt (Nat.le_of_lt hil) (Nat.lt_of_le_of_lt hz (by decide)), ?_⟩
            exact fin r.la H4 e2 (Same.refl _) (nt4 _ _ hl3) he2
    · rintro σ H2 ⟨⟨v2, v3, rfl⟩, ⟨xs, hm2, pr, oks⟩, hp2, kd, kp, bad⟩
      rw [List.length_map, List.take_length] at pr
      rw [List.length_map, List.take_length] at kd
      rw [List.length_map, List.drop_length] at bad
      refine hQ bad H2 xs ⟨⟨dx, m, d, hp2, hm2⟩, oks⟩ pr ⟨dx, _, d, hp2, pf_p _ _, kd⟩ kp
end
end K0

set_option Elab.async false
set_option linter.all false
set_option maxRecDepth 100000
set_option maxHeartbeats 4000000
namespace K0
open PySem PySem.Spec PyProof.Rows L2 Ke Kx Kd Kh
/-! ### lots for one move; plans that make given moves -/
def oneW (m n : Int) : List Int := (List.range n.toNat).map fun i : Nat => if (i : Int) = m then 1 else 0
theorem oneW_len (m n : Int) : (oneW m n).length = n.toNat := by
  unfold oneW
  rw [List.length_map, List.length_range]
theorem oneW_mem {m n w : Int} (h : w ∈ oneW m n) : w = 0 ∨ w = 1 := by
  unfold oneW at h
  obtain ⟨i, _, rfl⟩ := List.mem_map.mp h
  split
  · exact .inr rfl
  · exact .inl rfl
theorem sum_one (m : Int) : ∀ n : Nat, ((List.range n).map fun i : Nat => if (i : Int) = m then (1 : Int) else 0).sum = if 0 ≤ m ∧ m < n then 1 else 0
  | 0 => by
    rw [if_neg (by omega)]
    rfl
  | n + 1 => by
    rw [List.range_succ, List.map_append, List.sum_append, sum_one m n, List.map_cons, List.map_nil, List.sum_cons, List.sum_nil, Int.add_zero]
    by_cases h : (n : Int) = m
    · rw [if_pos h, if_neg (by omega), if_pos (by omega)]
      rfl
    · rw [if_neg h, Int.add_zero]
      by_cases h2 : 0 ≤ m ∧ m < n
      · rw [if_pos h2, if_pos (by omega)]
      · rw [if_neg h2, if_neg (by omega)]
theorem oneW_lots {m n : Int} (h0 : 0 ≤ m) (h1 : m < n) : lotsB (oneW m n) 1 = true := by
  unfold lotsB
  refine Bool.and_eq_true_iff.mpr ⟨List.all_eq_true.mpr fun w hw => decide_eq_true ?_, decide_eq_true ?_⟩
  · rcases oneW_mem hw with h | h <;> omega
  · unfold oneW
    rw [sum_one, if_pos (by omega)]
def spOne (C : Addr) : Sp := fun vs H Q _ => ∃ (m n : Int), vs = [.int m, .int n] ∧ 0 ≤ n ∧ n ≤ 100 ∧ ∀ (t : Addr) (as : List Addr) (H' : Hp), Same H H' → H' t = some (.tup (as.map V.ref)) → Lots C H' as (oneW m n) 1 → Q (.ref t) H'
section
variable {P : Program} {w : World} {K : PySem.W.Frag} {mg : Str → Option Value} {base : Heap} {C BR CP LE BP fB : Addr}
theorem scOL : FnScope ["move", "moves", "at"] ["move", "moves"] (defScope sOneL) := ⟨rfl, rfl, rfl, by decide +kernel, rfl, by decide +kernel, by decide +kernel⟩
theorem ok_onel {f fI : Addr} {fd fdI : FuncData} {ds : List Value} (F : Fun K "one_lot" "one_lot" sOneL f fd) (T : Txt K mg C BR) (TP : TxP K mg CP) (M : Mk K C fI)
    (G : FnOk P w K mg base (L2.CX P w) 1 fI fdI ["self", "num", "den"] (spInit C BR)) (bD : L2.Binds K fdI ["self", "num", "den"] ds) (vD : Vals [.int 1] ds) :
    FnOk P w K mg base CX0 3 f fd ["move", "moves"] (spOne C) := by
  refine F.ok scOL (fun vs H Q E h => ?_) (fun cdv A outer s H vs Q E hr h => ?_)
  · obtain ⟨m, n, rfl, _⟩ := h
    rfl
  · obtain ⟨m, n, rfl, hn, hn2, q⟩ := h
    refine ⟨_, pss_one (ps_ret (pe_callTy call_tuple_of (by rfl) TP.tuple (by decide +kernel) (pa_cons (pe_lc (own := [("at", 2)]) (g := gName 2) (tt := tYes) rfl scOL.nd (pi_range1 rfl TP.range (pa_cons (pv 1) pa_nil)) (blkOk_by (N := ["move", "moves", "at"]) (sc := defScope sOneL) (by decide +kernel))
      (fun _ _ _ _ _ => pg_name (i := 2) scOL.nd rfl (Or.inl rfl)) (fun _ _ _ _ _ => pts_nil) (fun _ _ _ _ _ => pe_ifExp (pt_cmpR op_eq (pv 2) (pv 0) (nomark _)) (pe_make M G hr rfl T.mgC bD vD passL (pa_cons pe_int pa_nil)) (pe_make M G hr rfl T.mgC bD vD passL (pa_cons pe_int pa_nil)))) pa_nil))), ?_⟩
    refine ⟨_, rfl, n, rfl, by omega, by omega, fun D hD => ?_⟩
    refine lc_range (lo := 0) (n := n.toNat) (fun i H' => ∃ as : List Addr, as.length = i ∧ H' D = some (.lst (as.map V.ref)) ∧ (∀ (j : Nat) (a : Addr), as[j]? = some a → RatAt C H' a (rn (if (j : Int) = m then 1 else 0) 1) (rd (if (j : Int) = m then 1 else 0) 1)) ∧ Same H H') ⟨[], rfl, upd_same, fun j a z => by simp at z, same_upd hD⟩ ?_ ?_
    · rintro i H' hi ⟨as, hl, eD, hr', s'⟩
      refine ⟨rfl, tYesI ?_⟩
      have step : ∀ (v : Int) (x dx : Addr) (H2 : Hp), v = (if (i : Int) = m then 1 else 0) → H' x = none → H' dx = none → RatAt C H2 x (rn v 1) (rd v 1) → (∀ b o, upd (upd H' dx (.own x)) x (.ins C dx []) b = some o → b ≠ x → H2 b = some o) →
          ∃ acc, H2 D = some (.lst acc) ∧ acc.length < sizeLine ∧ ∃ as : List Addr, as.length = i + 1 ∧ upd H2 D (.lst (acc ++ [V.ref x])) D = some (.lst (as.map V.ref)) ∧ (∀ (j : Nat) (a : Addr), as[j]? = some a → RatAt C (upd H2 D (.lst (acc ++ [V.ref x]))) a (rn (if (j : Int) = m then 1 else 0) 1) (rd (if (j : Int) = m then 1 else 0) 1)) ∧ Same H (upd H2 D (.lst (acc ++ [V.ref x]))) := by
        intro v x dx H2 hv nx nd hR kp
        have s2 : Same H' H2 := Same.made nx nd kp
        have eD2 := s2 _ _ eD
        have ni : ∀ b D' dy fs, H2 b = some (.ins D' dy fs) → upd H2 D (.lst (as.map V.ref ++ [V.ref x])) b = some (.ins D' dy fs) := fun b D' dy fs z => by
          rw [upd_ne (fun q => by rw [q, eD2] at z; cases z)]
          exact z
        refine ⟨as.map V.ref, eD2, by rw [List.length_map, hl]; exact Nat.lt_of_lt_of_le (show i < 101 by omega) (by decide), as ++ [x], by rw [List.length_append, hl]; rfl, by rw [upd_same, List.map_append]; rfl, fun j a ha => ?_, fun b o z => ?_⟩
        · by_cases hj : j < as.length
          · rw [List.getElem?_append_left hj] at ha
            obtain ⟨da, ea⟩ := (hr' j a ha).same s2
            exact ⟨da, ni _ _ _ _ ea⟩
          · rw [List.getElem?_append_right (by omega)] at ha
            have hj2 : j - as.length = 0 := by
              have := (List.getElem?_eq_some_iff.mp ha).1
              rw [List.length_singleton] at this
              omega
            rw [hj2] at ha
            have hax : x = a := by simpa using ha
            have hji : j = i := by omega
            rw [← hax, hji]
            obtain ⟨da, ea⟩ := hR
            rw [hv] at ea
            exact ⟨da, ni _ _ _ _ ea⟩
        · rw [upd_ne (ne_of_none z hD)]
          exact s2 _ _ (s' _ _ z)
      refine ⟨_, rfl, _, rfl, rfl, _, rfl, ite2 (fun z => ?_) (fun z => ?_)⟩
      · have z : (i : Int) = m := by
          have := V.int.inj (of_decide_eq_true z)
          omega
        intro x dx nx ndx nex
        refine ⟨x, dx, 1, 1, rfl, upd_same, Bd.of_small (by decide) (by decide), fun z => absurd z (by decide), fun _ H2 hR kp => ⟨rfl, ?_⟩⟩
        exact step 1 x dx H2 (by rw [if_pos z]) nx ndx hR kp
      · have z : ¬ (i : Int) = m := fun e => z (decide_eq_true (by rw [← e, Int.zero_add]))
        intro x dx nx ndx nex
        refine ⟨x, dx, 0, 1, rfl, upd_same, Bd.of_small (by decide) (by decide), fun z => absurd z (by decide), fun _ H2 hR kp => ⟨rfl, ?_⟩⟩
        exact step 0 x dx H2 (by rw [if_neg z]) nx ndx hR kp
    · rintro H' ⟨as, hl, eD, hr', s'⟩
      refine ⟨D, as.map V.ref, rfl, .inl ⟨SqL.of eD, fun t ht => ?_⟩⟩
      refine q t as _ (s'.trans (same_upd ht)) upd_same ⟨by rw [hl, oneW_len], fun i a w ha hw => ?_, by decide, by decide, fun w hw => ?_, by rw [oneW_len]; omega⟩
      · have := (hr' i a ha).same (same_upd (o := .tup (as.map V.ref)) ht)
        unfold oneW at hw
        obtain ⟨k, hk, e⟩ := Option.map_eq_some_iff.mp ((List.getElem?_map ..).symm.trans hw)
        have hk2 : k = i := by
          have := List.getElem?_eq_some_iff.mp hk
          obtain ⟨_, e2⟩ := this
          rw [List.getElem_range] at e2
          exact e2.symm
        rw [← e, hk2]
        exact this
      · rcases oneW_mem hw with h | h <;> rw [h] <;> decide
end
end K0

set_option Elab.async false
set_option linter.all false
set_option maxRecDepth 100000
set_option maxHeartbeats 4000000
namespace K0
open PySem PySem.Spec PyProof.Rows L2 Ke Kx Kd Kh
/-- a view with its number of moves: the pair's tuple, the view's place and key, the number -/
structure Vw where
  t : Addr
  va : Addr
  key : NestedKey
  n : Int
structure VwOk (H : Hp) (v : Vw) : Prop where
  ht : H v.t = some (.tup [.ref v.va, .int v.n])
  hv : Nest H v.key (.ref v.va)
  sv : SeqAt.shaped v.key.data = true
  dv : v.key.depth ≤ 8
  n0 : 1 ≤ v.n
  n1 : v.n ≤ 100
theorem VwOk.ext {H H' : Hp} {v : Vw} (h : VwOk H v) (e : Same H H') : VwOk H' v := ⟨e _ _ h.ht, h.hv.keep fun a xs z => e _ _ z, h.sv, h.dv, h.n0, h.n1⟩
/-- all but the list at D is as it was -/
theorem RowOk.keepD {K : PySem.W.Frag} {C : Addr} {H H' : Hp} {r : Row} {D : Addr} {acc : List V} (h : RowOk K C H r) (hD : H D = some (.lst acc)) (hn : r.la ≠ D) (e : ∀ b o, H b = some o → b ≠ D → H' b = some o) : RowOk K C H' r := by
  have nt : ∀ b xs, H b = some (.tup xs) → H' b = some (.tup xs) := fun b xs z => e _ _ z (fun q => by rw [q, hD] at z; cases z)
  refine ⟨nt _ _ h.he, h.hv.keep nt, h.sv, h.dv, h.hl.imp (fun z => e _ _ z hn) (nt _ _), h.lt.len, fun i a w h1 h2 => ?_, h.lt.pos, h.lt.big, h.lt.small, h.lt.few⟩
  obtain ⟨da, ea⟩ := h.lt.at_ i a w h1 h2
  exact ⟨da, e _ _ ea (fun q => by rw [q, hD] at ea; cases ea)⟩
theorem badFrom_none : ∀ (rs : List Row) (seen : List NestedKey) (n : Nat), (∀ r ∈ rs, lotsB r.ws r.W = true) → (seen ++ rs.map (·.key)).Nodup → badFrom seen n rs = none
  | [], _, _, _, _ => rfl
  | r :: rs, seen, n, h1, h2 => by
    have hb : rowBad seen r = false := by
      unfold rowBad
      rw [h1 r (List.mem_cons_self ..), Bool.not_true, Bool.or_false]
      refine List.any_eq_false.mpr fun k hk => ?_
      have h3 := (List.nodup_append.mp h2).2.2 k hk r.key (by rw [List.map_cons]; exact List.mem_cons_self ..)
      simpa using h3
    show (if rowBad seen r = true then some n else badFrom (seen ++ [r.key]) (n + 1) rs) = none
    rw [hb, if_neg Bool.false_ne_true]
    exact badFrom_none rs (seen ++ [r.key]) (n + 1) (fun x hx => h1 x (List.mem_cons_of_mem _ hx)) (by rw [List.append_assoc]; exact h2)
/-- the entries of a plan that makes the moves ms at the views vs -/
def SureR (vs : List Vw) (ms : List Int) (rs : List Row) : Prop := ∀ (j : Nat) (r : Row), rs[j]? = some r → ∃ v m, vs[j]? = some v ∧ ms[j]? = some m ∧ r.key = v.key ∧ r.ws = oneW m v.n ∧ r.W = 1
def spSure (P : Program) (w : World) (K : PySem.W.Frag) (C CP : Addr) : Sp := fun vs H Q _ => ∃ (lv lm : Addr) (ws : List Vw) (ms : List Int), vs = [.ref lv, .ref lm] ∧ SqL K H lv (ws.map fun v => V.ref v.t) ∧ SqL K H lm (ms.map V.int) ∧ (∀ v ∈ ws, VwOk H v) ∧ ws.length = ms.length ∧ ws.length ≤ 1000 ∧
  (∀ (j : Nat) v m, ws[j]? = some v → ms[j]? = some m → 0 ≤ m ∧ m < v.n) ∧ (ws.map (·.key)).Nodup ∧
  ∀ (p : Addr) (H' : Hp) (rs : List Row) (xs : List Ent), Same H H' → PlanAt K C CP H' p xs → Paired EntOf rs xs → rs.length = ws.length → SureR ws ms rs → PlacesAt P w CP H' p rs → Q (.ref p) H'
section
variable {P : Program} {w : World} {K : PySem.W.Frag} {mg : Str → Option Value} {base : Heap} {C BR CP LE BP fB : Addr}
theorem scSur : FnScope ["views", "moves", "view", "many", "move"] ["views", "moves"] (defScope sSure) := ⟨rfl, rfl, rfl, by decide +kernel, rfl, by decide +kernel, by decide +kernel⟩
theorem ok_sure {f fO fI : Addr} {fd fdO fdI : FuncData} (F : Fun K "sure" "sure" sSure f fd) (TP : TxP K mg CP) (M : Mk K CP fI) (G : FnOk P w K mg base (L2N.CX P w) 5 fI fdI ["self", "entries"] (spPlan P w K C CP BP)) (bI : L2.Binds K fdI ["self", "entries"] [])
    (GO : FnOk P w K mg base CX0 3 fO fdO ["move", "moves"] (spOne C)) (gO : mg "one_lot" = some (.ref fO)) (kO : PySem.W.keepIn K (.ref fO) = true) (bO : L2.Binds K fdO ["move", "moves"] []) :
    FnOk P w K mg base CX0 7 f fd ["views", "moves"] (spSure P w K C CP) := by
  refine F.ok scSur (fun vs H Q E h => ?_) (fun cdv A outer s H vs Q E hr h => ?_)
  · obtain ⟨lv, lm, ws, ms, rfl, _⟩ := h
    rfl
  · obtain ⟨lv, lm, ws, ms, rfl, hlv, hlm, hws, hlen, hz, hmv, hnd, q⟩ := h
    have hr3 : Room 3 _ := hr.mono (by decide)
    refine ⟨_, pss_one (ps_ret (pe_make M G hr rfl TP.mgP bI .nil passN (pa_cons (pe_lc (own := [("view", 2), ("many", 3), ("move", 4)]) (g := gTup K 2 (gCons (gTup K 2 (gCons (gName 2) (gCons (gName 3) gNil))) (gCons (gName 4) gNil))) (tt := tYes) rfl scSur.nd (pi_zip (by rfl) TP.zip (pa_cons (pv 0) (pa_cons (pv 1) pa_nil))) (blkOk_by (N := ["views", "moves", "view", "many", "move"]) (sc := defScope sSure) (by decide +kernel))
      (fun _ _ _ _ _ => pg_tup rfl (pgs_cons (pg_tup rfl (pgs_cons (pg_name (i := 2) scSur.nd rfl (Or.inl rfl)) (pgs_cons (pg_name (i := 3) scSur.nd rfl (Or.inl rfl)) pgs_nil))) (pgs_cons (pg_name (i := 4) scSur.nd rfl (Or.inl rfl)) pgs_nil))) (fun _ _ _ _ _ => pts_nil)
      (fun _ _ _ _ _ => pe_tup (pa_cons (pv 2) (pa_cons (pe_call GO hr3 (by rfl) gO kO bO .nil pass0 (pa_cons (pv 4) (pa_cons (pv 3) pa_nil))) pa_nil)))) pa_nil))), ?_⟩
    refine ⟨_, rfl, _, rfl, lv, lm, _, _, rfl, hlv, hlm, fun D hD => ?_⟩
    have hmin : min (ws.map fun v => V.ref v.t).length (ms.map V.int).length = ws.length := by rw [List.length_map, List.length_map, ← hlen, Nat.min_self]
    refine lc_it (walk_zip (n := ws.length) hmin.symm) (fun i H' => ∃ rs : List Row, rs.length = i ∧ H' D = some (.lst (rs.map fun r => V.ref r.e)) ∧ (∀ r ∈ rs, RowOk K C H' r ∧ r.la ≠ D) ∧ SureR ws ms rs ∧ Same H H') ⟨[], rfl, upd_same, (fun r hr => nomatch hr), (fun j r z => by simp at z), same_upd hD⟩ (fun i H' _ ⟨rs, _, _, _, _, s'⟩ => ⟨hlv.ext s', hlm.ext s'⟩) ?_ ?_
    · rintro i x H' H2 hi ⟨rs, hl, eD, hrs, sr, s'⟩ ⟨T, x1, y1, rfl, hT, rfl, e1, e2⟩
      have e1 : (ws.map fun v => V.ref v.t)[i]? = some x1 := e1
      have e2 : (ms.map V.int)[i]? = some y1 := e2
      obtain ⟨v, hv, rfl⟩ := Option.map_eq_some_iff.mp ((List.getElem?_map ..).symm.trans e1)
      obtain ⟨m, hm, rfl⟩ := Option.map_eq_some_iff.mp ((List.getElem?_map ..).symm.trans e2)
      have V0 := (hws v (List.mem_of_getElem? hv)).ext (s'.trans (same_upd (o := .tup [V.ref v.t, V.int m]) hT))
      have s1 : Same H' (upd H' T (.tup [V.ref v.t, V.int m])) := same_upd hT
      obtain ⟨m0, m1⟩ := hmv i v m hv hm
      refine ⟨T, _, rfl, SqT.of upd_same, rfl, _, _, rfl, v.t, _, rfl, SqT.of V0.ht, rfl, _, _, rfl, _, _, rfl, rfl, _, _, rfl, rfl, rfl, tYesI ?_⟩
      refine ⟨_, rfl, _, rfl, _, rfl, m, v.n, rfl, by have := V0.n0; omega, V0.n1, fun t as H3 s3 ht L => ⟨by show 2 ≤ sizeLine; decide, fun e2 he2 => ?_⟩⟩
      have s4 : Same H' (upd H3 e2 (.tup [.ref v.va, .ref t])) := (s1.trans s3).trans (same_upd he2)
      have V4 := V0.ext (s3.trans (same_upd (o := .tup [.ref v.va, .ref t]) he2))
      have eD4 := s4 _ _ eD
      have kD : ∀ b o, upd H3 e2 (.tup [.ref v.va, .ref t]) b = some o → b ≠ D → upd (upd H3 e2 (.tup [.ref v.va, .ref t])) D (.lst (rs.map (fun r => V.ref r.e) ++ [V.ref e2])) b = some o := fun b o z hb => by rw [upd_ne hb]; exact z
      have ht4 : upd H3 e2 (.tup [.ref v.va, .ref t]) t = some (.tup (as.map V.ref)) := by rw [upd_ne (ne_of_none ht he2)]; exact ht
      have htD : t ≠ D := ne_of ht4 eD4 (by intro z; cases z)
      have R4 : RowOk K C (upd H3 e2 (.tup [.ref v.va, .ref t])) ⟨e2, v.va, v.key, t, as, oneW m v.n, 1⟩ := ⟨upd_same, V4.hv, V4.sv, V4.dv, .inr ht4, L.same (same_upd he2)⟩
      refine ⟨_, eD4, by rw [List.length_map, hl]; exact Nat.lt_of_lt_of_le (show i < 1001 by omega) (by decide), rs ++ [⟨e2, v.va, v.key, t, as, oneW m v.n, 1⟩], by rw [List.length_append, hl]; rfl, by rw [upd_same, List.map_append]; rfl, fun r hr => ?_, fun j r hj => ?_, fun b o z => ?_⟩
      · rcases List.mem_append.mp hr with hr | hr
        · exact ⟨((hrs r hr).1.ext s4).keepD eD4 (hrs r hr).2 kD, (hrs r hr).2⟩
        · rw [List.mem_singleton.mp hr]
          exact ⟨R4.keepD eD4 htD kD, htD⟩
      · by_cases hj2 : j < rs.length
        · rw [List.getElem?_append_left hj2] at hj
          exact sr j r hj
        · rw [List.getElem?_append_right (by omega)] at hj
          have hj3 : j - rs.length = 0 := by
            have := (List.getElem?_eq_some_iff.mp hj).1
            rw [List.length_singleton] at this
            omega
          rw [hj3] at hj
          have hax : (⟨e2, v.va, v.key, t, as, oneW m v.n, 1⟩ : Row) = r := by simpa using hj
          have hji : j = i := by omega
          subst hax
          exact ⟨v, m, by rw [hji]; exact hv, by rw [hji]; exact hm, rfl, rfl, rfl⟩
      · rw [upd_ne (ne_of_none z hD)]
        exact s4 _ _ (s' _ _ z)
    · rintro H' ⟨rs, hl, eD, hrs, sr, s'⟩
      intro p dx np ndx ndp
      have sp : Same H' (upd (upd H' dx (.own p)) p (.ins CP dx [])) := fun b o z => by
        rw [upd_ne (ne_of_none z np), upd_ne (ne_of_none z ndx)]
        exact z
      refine ⟨p, dx, D, rs, rfl, upd_same, sp _ _ eD, fun r hr => (hrs r hr).1.ext sp, by omega, fun n hb => ?_, fun hb H2 xs PA pr PL kp => ⟨rfl, ?_⟩⟩
      · have : badFrom [] 0 rs = none := by
          refine badFrom_none rs [] 0 (fun r hr => ?_) ?_
          · obtain ⟨j, hj⟩ := List.getElem?_of_mem hr
            obtain ⟨v, m, hv, hm, _, e1, e2⟩ := sr j r hj
            obtain ⟨m0, m1⟩ := hmv j v m hv hm
            rw [e1, e2]
            exact oneW_lots m0 m1
          · have : rs.map (·.key) = ws.map (·.key) := by
              refine List.ext_getElem? fun j => ?_
              rw [List.getElem?_map, List.getElem?_map]
              by_cases hj : j < rs.length
              · obtain ⟨v, m, hv, _, e, _⟩ := sr j rs[j] (List.getElem?_eq_getElem hj)
                rw [List.getElem?_eq_getElem hj, hv]
                exact congrArg some e
              · rw [List.getElem?_eq_none (by omega), List.getElem?_eq_none (by omega)]
                rfl
            rw [List.nil_append, this]
            exact hnd
        rw [this] at hb
        cases hb
      · exact q p H2 rs xs (s'.trans (Same.made np ndx kp)) PA pr hl sr PL
end
end K0

set_option Elab.async false
set_option linter.all false
set_option maxRecDepth 100000
set_option maxHeartbeats 4000000
/-! The law's helpers: the pool, _law_same, _law_less. -/
namespace K0
open PySem PySem.Spec PyProof.Rows L2 Kx Kh
abbrev sPool : Stmt := top 19
abbrev sDraw : Stmt := top 20
abbrev sSame : Stmt := top 21
abbrev sRed : Stmt := top 22
abbrev sMade : Stmt := top 23
abbrev sWts : Stmt := top 24
abbrev sTold : Stmt := top 25
abbrev sKept : Stmt := top 26
abbrev sLSure : Stmt := top 27
abbrev sLaw : Stmt := top 28
/-- how a def stands that others call -/
structure Fn0 (P : Program) (w : World) (K : PySem.W.Frag) (mg : Str → Option Value) (base : Heap) (k : Nat) (x : Str) (ps : List Str) (sp : Sp) (f : Addr) (fd : FuncData) : Prop where
  ok : FnOk P w K mg base CX0 k f fd ps sp
  gl : mg x = some (.ref f)
  kp : PySem.W.keepIn K (.ref f) = true
  bd : L2.Binds K fd ps []
theorem kit_same {K : PySem.W.Frag} {t : Value} : PySem.W.kitOne K t t = some true := kit_self
structure TxL (mg : Str → Option Value) : Prop where
  isi : mg "isinstance" = none
  int : mg "int" = none
  str : mg "str" = none
  len : mg "len" = none
  list : mg "list" = none
  tuple : mg "tuple" = none
  bool : mg "bool" = none
  range : mg "range" = none
/-! ### the pool that numbers are drawn from -/
def L6 (q : Addr) (i c s t b : Int) : List V := [.ref q, .int i, .int c, .int s, .int t, .int b]
theorem l6_ix {q : Addr} {i c s t b : Int} {k : Int} {j : Nat} (h : ixN 6 k = some j) : ixN (L6 q i c s t b).length k = some j := h
structure PoolV (H : Hp) (p q : Addr) (ns : List Int) (i c s t b : Int) : Prop where
  ne : p ≠ q
  hp : H p = some (.lst (L6 q i c s t b))
  hq : H q = some (.lst (ns.map V.int))
  i0 : 0 ≤ i
  s0 : 0 ≤ s
  s1 : s < 2147483648
def PoolAt (H : Hp) (p : Addr) (b : Int) : Prop := ∃ q ns i c s t, PoolV H p q ns i c s t b
/-- all but the pool is as it was; the pool's cells stand where they stood -/
structure Kp (p : Addr) (H H' : Hp) : Prop where
  all : ∀ b o, H b = some o → b ≠ p → H' b = some o
  hd : ∀ q r, H p = some (.lst (.ref q :: r)) → ∃ r', H' p = some (.lst (.ref q :: r'))
instance {p : Addr} {H H' : Hp} : CoeFun (Kp p H H') (fun _ => ∀ b o, H b = some o → b ≠ p → H' b = some o) := ⟨Kp.all⟩
theorem Kp.refl (p : Addr) (H : Hp) : Kp p H H := ⟨fun _ _ e _ => e, fun q r e => ⟨r, e⟩⟩
theorem Kp.trans {p : Addr} {H H1 H2 : Hp} (a : Kp p H H1) (b : Kp p H1 H2) : Kp p H H2 := ⟨fun c o e h => b.all c o (a.all c o e h) h, fun q r e => by
  obtain ⟨r1, e1⟩ := a.hd q r e
  exact b.hd q r1 e1⟩
theorem Kp.same {p : Addr} {H H' : Hp} (s : Same H H') : Kp p H H' := ⟨fun b o e _ => s b o e, fun q r e => ⟨r, s _ _ e⟩⟩
theorem PoolV.kp {H : Hp} {p q : Addr} {ns : List Int} {i c s t b i' c' s' t' b' : Int} (P : PoolV H p q ns i c s t b) : Kp p H (upd H p (.lst (L6 q i' c' s' t' b'))) :=
  ⟨fun b u e h => by rw [upd_ne h]; exact e, fun x r e => by
    rw [P.hp] at e
    injection e with e
    injection e with e
    injection e with e _
    injection e with e
    exact ⟨[.int i', .int c', .int s', .int t', .int b'], by rw [upd_same, ← e]; rfl⟩⟩
theorem PoolV.set {H : Hp} {p q : Addr} {ns : List Int} {i c s t b i' c' s' t' b' : Int} (P : PoolV H p q ns i c s t b) (hi : 0 ≤ i') (hs : 0 ≤ s') (hs' : s' < 2147483648) :
    PoolV (upd H p (.lst (L6 q i' c' s' t' b'))) p q ns i' c' s' t' b' := ⟨P.ne, upd_same, by rw [upd_ne P.ne.symm]; exact P.hq, hi, hs, hs'⟩
theorem PoolAt.same {H H' : Hp} {p : Addr} {b : Int} (P : PoolAt H p b) (s : Same H H') : PoolAt H' p b := by
  obtain ⟨q, ns, i, c, z, t, P⟩ := P
  exact ⟨q, ns, i, c, z, t, P.ne, s _ _ P.hp, s _ _ P.hq, P.i0, P.s0, P.s1⟩
def spPool (K : PySem.W.Frag) : Sp := fun vs H Q _ => ∃ (a : Addr) (ns : List Int) (b : Int), vs = [.ref a, .int b] ∧ SqL K H a (ns.map V.int) ∧ ∀ (p : Addr) (H' : Hp), Same H H' → H p = none → PoolAt H' p b → Q (.ref p) H'
def spDraw : Sp := fun vs H Q _ => ∃ (p : Addr) (n b : Int), vs = [.ref p, .int n] ∧ PoolAt H p b ∧ 0 < n ∧ n < 1073741824 ∧ ∀ (v : Int) (H' : Hp), 0 ≤ v → v < n → PoolAt H' p b → Kp p H H' → Q (.int v) H'
section
variable {P : Program} {w : World} {K : PySem.W.Frag} {mg : Str → Option Value} {base : Heap} {C : Addr}
theorem scPo : FnScope ["script", "budget"] ["script", "budget"] (defScope sPool) := ⟨rfl, rfl, rfl, by decide +kernel, rfl, by decide +kernel, by decide +kernel⟩
theorem ok_pool {f : Addr} {fd : FuncData} (F : Fun K "_law_pool" "_law_pool" sPool f fd) (T : TxL mg) : FnOk P w K mg base CX0 1 f fd ["script", "budget"] (spPool K) := by
  refine F.ok scPo (fun vs H Q E h => ?_) (fun cdv A outer s H vs Q E hr h => ?_)
  · obtain ⟨a, ns, b, rfl, _⟩ := h
    rfl
  · obtain ⟨a, ns, b, rfl, hS, k⟩ := h
    refine ⟨_, pss_one (ps_ret (pe_lst (pa_cons (pe_callTy call_list_of (by rfl) T.list (by decide +kernel) (pa_cons (pv 0) pa_nil)) (pa_cons pe_int (pa_cons pe_int (pa_cons pe_int (pa_cons pe_int (pa_cons (pv 1) pa_nil)))))))), ?_⟩
    refine ⟨_, rfl, a, _, rfl, .inl hS, fun l hl => ⟨_, rfl, (by show 6 ≤ sizeLine; decide), fun p hp => ?_⟩⟩
    have h1 : Same H (upd H l (.lst (ns.map V.int))) := same_upd hl
    have nlp : l ≠ p := fun e => by
      rw [← e, upd_same] at hp
      cases hp
    have h2 := same_upd (o := .lst (L6 l 0 0 1 0 b)) hp
    exact k p _ (h1.trans h2) (h1.free hp) ⟨l, ns, 0, 0, 1, 0, nlp.symm, upd_same, by rw [upd_ne nlp]; exact upd_same, by decide, by decide, by decide⟩
theorem scD : FnScope ["pool", "size", "cell", "value"] ["pool", "size"] (defScope sDraw) := ⟨rfl, rfl, rfl, by decide +kernel, rfl, by decide +kernel, by decide +kernel⟩
theorem ok_draw {f : Addr} {fd : FuncData} (F : Fun K "_law_draw" "_law_draw" sDraw f fd) (T : TxL mg) : FnOk P w K mg base CX0 1 f fd ["pool", "size"] spDraw := by
  refine F.ok scD (fun vs H Q E h => ?_) (fun cdv A outer s H vs Q E hr h => ?_)
  · obtain ⟨p, n, b0, rfl, _⟩ := h
    rfl
  · obtain ⟨p, n, b, rfl, PA, hn, hn2, k⟩ := h
    have at_ : ∀ {q : Addr} {i c s t b : Int} {j : Nat} {v : V}, (L6 q i c s t b)[j]? = some v → atI (L6 q i c s t b) (j : Int) = some v := fun h => atI_nat h
    have hrest : ∃ t, PSs (cxOf CX0 P w K mg base ["pool", "size", "cell", "value"] "_law_draw" (defScope sDraw) f cdv A outer s H E).nox ((defBody sDraw).drop 1) t ∧
        ∀ (σ' : L2.St) (H' : Hp), (∃ v2 v3, σ' = [some (.ref p), some (.int n), v2, v3]) → PoolAt H' p b → Kp p H H' → t { nx := fun _ H' => Q .non H', rt := Q } σ' H' := by
      refine ⟨_, pss_cons (ps_if (pt_cmpR op_gt (pe_ix ix_list (pv 0) pe_int (fun _ _ => rfl)) pe_int (nomark _))
          (pss_cons (ps_set (i := 3) scD.nd rfl (Or.inl rfl) (pe_op op_mod (pe_callTy call_int1 (by rfl) T.int (by decide +kernel) (pa_cons (pe_ix ix_list (pv 0) pe_int (fun _ _ => rfl)) pa_nil)) (pv 1)))
          (pss_cons (ps_asg (pe_op op_fdivN (pe_ix ix_list (pv 0) pe_int (fun _ _ => rfl)) (pv 1)) (pg_sub (pv 0) pe_int set_list))
          (pss_cons (ps_asg pe_int (pg_sub (pv 0) pe_int set_list))
          (pss_one (ps_ret (pv 3)))))) pss_nil)
        (pss_cons (ps_asg (pe_op op_sub (pe_ix ix_list (pv 0) pe_int (fun _ _ => rfl)) pe_int) (pg_sub (pv 0) pe_int set_list))
        (pss_cons (ps_asg (pe_op op_mod (pe_callTy call_int1 (by rfl) T.int (by decide +kernel) (pa_cons (pe_op op_add (pe_op op_mul (pe_ix ix_list (pv 0) pe_int (fun _ _ => rfl)) pe_int) pe_int) pa_nil)) pe_int) (pg_sub (pv 0) pe_int set_list))
        (pss_one (ps_ret (pe_op op_mod (pe_op op_mod (pe_callTy call_int1 (by rfl) T.int (by decide +kernel) (pa_cons (pe_op op_add (pe_op op_mul (pe_ix ix_list (pv 0) pe_int (fun _ _ => rfl)) pe_int) pe_int) pa_nil)) pe_int) (pv 1)))))), ?_⟩
      rintro σ' H' ⟨v2, v3, rfl⟩ ⟨q, ns, i, c, z, t, PV⟩ kp
      refine ⟨_, rfl, p, _, _, _, rfl, rfl, SqL.of PV.hp, at_ (j := 2) rfl, _, _, rfl, rfl, _, rfl, ite2 (fun _ => ?_) (fun _ => ?_)⟩
      · refine ⟨_, rfl, p, _, _, _, rfl, rfl, SqL.of PV.hp, at_ (j := 2) rfl, .inl ⟨_, rfl, _, rfl, _, _, rfl, rfl, hn, ?_⟩⟩
        refine ⟨_, rfl, p, _, _, _, rfl, rfl, SqL.of PV.hp, at_ (j := 2) rfl, _, rfl, _, _, rfl, rfl, ⟨by omega, by omega⟩, _, rfl, p, _, _, _, rfl, rfl, PV.hp, l6_ix (k := 2) (j := 2) (by decide), ?_⟩
        have PV2 := PV.set (i' := i) (c' := c.fdiv n) (s' := z) (t' := t) (b' := b) PV.i0 PV.s0 PV.s1
        refine ⟨_, rfl, p, _, _, _, rfl, rfl, PV2.hp, l6_ix (k := 4) (j := 4) (by decide), ?_⟩
        have PV3 := PV2.set (i' := i) (c' := c.fdiv n) (s' := z) (t' := 0) (b' := b) PV.i0 PV.s0 PV.s1
        exact ⟨_, rfl, k _ _ (Int.emod_nonneg _ (by omega)) (Int.emod_lt_of_pos _ hn) ⟨_, _, _, _, _, _, PV3⟩ ((kp.trans PV.kp).trans PV2.kp)⟩
      · refine ⟨_, rfl, p, _, _, _, rfl, rfl, SqL.of PV.hp, at_ (j := 4) rfl, _, _, rfl, rfl, _, rfl, p, _, _, _, rfl, rfl, PV.hp, l6_ix (k := 4) (j := 4) (by decide), ?_⟩
        have PV2 := PV.set (i' := i) (c' := c) (s' := z) (t' := t - 1) (b' := b) PV.i0 PV.s0 PV.s1
        refine ⟨_, rfl, p, _, _, _, rfl, rfl, SqL.of PV2.hp, at_ (j := 3) rfl, _, _, rfl, rfl, .inl ⟨by have := PV.s0; omega, by have := PV.s1; omega⟩, _, _, rfl, rfl, .inl ⟨_, rfl, _, _, rfl, rfl, (by show (0 : Int) < 2147483647; decide), ?_⟩⟩
        have h0 : (0 : Int) ≤ (z * 48271 + 12345) % 2147483647 := Int.emod_nonneg _ (by decide)
        have h1 : (z * 48271 + 12345) % 2147483647 < 2147483647 := Int.emod_lt_of_pos _ (by decide)
        refine ⟨_, rfl, p, _, _, _, rfl, rfl, PV2.hp, l6_ix (k := 3) (j := 3) (by decide), ?_⟩
        have PV3 := PV2.set (i' := i) (c' := c) (s' := (z * 48271 + 12345) % 2147483647) (t' := t - 1) (b' := b) PV.i0 h0 (by omega)
        refine ⟨_, rfl, p, _, _, _, rfl, rfl, SqL.of PV3.hp, at_ (j := 3) rfl, _, _, rfl, rfl, .inl ⟨by omega, by omega⟩, _, _, rfl, rfl, .inl ⟨_, rfl, _, _, rfl, rfl, (by show (0 : Int) < 2147483647; decide), _, rfl, _, _, rfl, rfl, hn, ?_⟩⟩
        exact k _ _ (Int.emod_nonneg _ (by omega)) (Int.emod_lt_of_pos _ hn) ⟨_, _, _, _, _, _, PV3⟩ ((kp.trans PV.kp).trans PV2.kp)
    obtain ⟨t, ht, rest⟩ := hrest
    refine ⟨_, pss_cons (ps_if (PW.pt (pw_and (pt_cmpR op_le (pe_ix ix_list (pv 0) pe_int (fun _ _ => rfl)) pe_int (nomark _)) (pw_and (pt_cmpR op_le (pe_ix ix_list (pv 0) pe_int (fun _ _ => rfl)) pe_int (nomark _))
        (pw_and1 (pt_cmpR op_lt (pe_ix ix_list (pv 0) pe_int (fun _ _ => rfl)) (pe_callB call_len_seq (by rfl) T.len PySem.boot_len (pa_cons (pe_ix ix_list (pv 0) pe_int (fun _ _ => rfl)) pa_nil)) (nomark _))))))
        (pss_cons (ps_set (i := 2) scD.nd rfl (Or.inl rfl) (pe_ix ix_list (pe_ix ix_list (pv 0) pe_int (fun _ _ => rfl)) (pe_ix ix_list (pv 0) pe_int (fun _ _ => rfl)) (fun _ _ => rfl)))
        (pss_cons (ps_asg (pe_op op_add (pe_ix ix_list (pv 0) pe_int (fun _ _ => rfl)) pe_int) (pg_sub (pv 0) pe_int set_list))
        (pss_cons (ps_asg (pe_op op_mod (pe_callTy call_int1 (by rfl) T.int (by decide +kernel) (pa_cons (pe_op op_add (pe_op op_mul (pe_ix ix_list (pv 0) pe_int (fun _ _ => rfl)) pe_int) (pv 2)) pa_nil)) pe_int) (pg_sub (pv 0) pe_int set_list))
        (pss_cons (ps_asg pe_int (pg_sub (pv 0) pe_int set_list))
        (pss_one (ps_if (pt_cmpR op_ge (pv 2) (pe_op op_pow pe_int pe_int) (nomark _)) (pss_one (ps_asg (pv 2) (pg_sub (pv 0) pe_int set_list))) pss_nil)))))) pss_nil) ht, ?_⟩
    obtain ⟨q, ns, i, c, z, tt, PV⟩ := id PA
    refine ⟨_, rfl, p, _, _, _, rfl, rfl, SqL.of PV.hp, at_ (j := 2) rfl, _, _, rfl, rfl, _, rfl, ite2 (fun _ => ?_) (fun _ => iteF (rest _ _ ⟨_, _, rfl⟩ PA (Kp.refl _ _)))⟩
    refine ⟨_, rfl, p, _, _, _, rfl, rfl, SqL.of PV.hp, at_ (j := 4) rfl, _, _, rfl, rfl, _, rfl, ite2 (fun _ => ?_) (fun _ => iteF (rest _ _ ⟨_, _, rfl⟩ PA (Kp.refl _ _)))⟩
    refine ⟨_, rfl, p, _, _, _, rfl, rfl, SqL.of PV.hp, at_ (j := 1) rfl, _, rfl, p, _, _, _, rfl, rfl, SqL.of PV.hp, at_ (j := 0) rfl, q, _, rfl, .inl (SqL.of PV.hq), _, _, rfl, rfl, _, rfl, ite2 (fun y => ?_) (fun _ => rest _ _ ⟨_, _, rfl⟩ PA (Kp.refl _ _))⟩
    have hi := of_decide_eq_true y
    obtain ⟨j, rfl⟩ : ∃ j : Nat, i = (j : Int) := ⟨i.toNat, by have := PV.i0; omega⟩
    have hj : j < ns.length := by
      rw [List.length_map] at hi
      omega
    have g : (ns.map V.int)[j]? = some (V.int ns[j]) := by
      rw [List.getElem?_map, List.getElem?_eq_getElem hj]
      rfl
    -- cell = pool[0][pool[1]]
    refine ⟨_, rfl, p, _, _, _, rfl, rfl, SqL.of PV.hp, at_ (j := 0) rfl, _, rfl, p, _, _, _, rfl, rfl, SqL.of PV.hp, at_ (j := 1) rfl, q, _, _, _, rfl, rfl, SqL.of PV.hq, atI_nat g, ?_⟩
    -- pool[1] = pool[1] + 1
    refine ⟨_, rfl, p, _, _, _, rfl, rfl, SqL.of PV.hp, at_ (j := 1) rfl, _, _, rfl, rfl, _, rfl, p, _, _, _, rfl, rfl, PV.hp, l6_ix (k := 1) (j := 1) (by decide), ?_⟩
    have PV2 := PV.set (i' := (j : Int) + 1) (c' := c) (s' := z) (t' := tt) (b' := b) (by omega) PV.s0 PV.s1
    -- pool[3] = ..
    refine ⟨_, rfl, p, _, _, _, rfl, rfl, SqL.of PV2.hp, at_ (j := 3) rfl, _, _, rfl, rfl, .inl ⟨by have := PV.s0; omega, by have := PV.s1; omega⟩, _, rfl, _, _, rfl, rfl, .inl ⟨_, rfl, _, _, rfl, rfl, (by show (0 : Int) < 2147483647; decide), ?_⟩⟩
    have h0 : (0 : Int) ≤ (z * 31 + ns[j]) % 2147483647 := Int.emod_nonneg _ (by decide)
    have h1 : (z * 31 + ns[j]) % 2147483647 < 2147483647 := Int.emod_lt_of_pos _ (by decide)
    refine ⟨_, rfl, p, _, _, _, rfl, rfl, PV2.hp, l6_ix (k := 3) (j := 3) (by decide), ?_⟩
    have PV3 := PV2.set (i' := (j : Int) + 1) (c' := c) (s' := (z * 31 + ns[j]) % 2147483647) (t' := tt) (b' := b) (by omega) h0 (by omega)
    -- pool[4] = 7
    refine ⟨_, rfl, p, _, _, _, rfl, rfl, PV3.hp, l6_ix (k := 4) (j := 4) (by decide), ?_⟩
    have PV4 := PV3.set (i' := (j : Int) + 1) (c' := c) (s' := (z * 31 + ns[j]) % 2147483647) (t' := 7) (b' := b) (by omega) h0 (by omega)
    have kp4 := ((PV.kp (i' := (j : Int) + 1) (c' := c) (s' := z) (t' := tt) (b' := b)).trans (PV2.kp (i' := (j : Int) + 1) (c' := c) (s' := (z * 31 + ns[j]) % 2147483647) (t' := tt) (b' := b))).trans (PV3.kp (i' := (j : Int) + 1) (c' := c) (s' := (z * 31 + ns[j]) % 2147483647) (t' := 7) (b' := b))
    refine ⟨_, rfl, _, _, rfl, rfl, ⟨by decide, by decide, by decide⟩, _, _, rfl, rfl, _, rfl, ite2 (fun _ => ?_) (fun _ => rest _ _ ⟨_, _, rfl⟩ ⟨_, _, _, _, _, _, PV4⟩ kp4)⟩
    refine ⟨_, rfl, _, rfl, p, _, _, _, rfl, rfl, PV4.hp, l6_ix (k := 2) (j := 2) (by decide), ?_⟩
    have PV5 := PV4.set (i' := (j : Int) + 1) (c' := ns[j]) (s' := (z * 31 + ns[j]) % 2147483647) (t' := 7) (b' := b) (by omega) h0 (by omega)
    exact rest _ _ ⟨_, _, rfl⟩ ⟨_, _, _, _, _, _, PV5⟩ (kp4.trans PV4.kp)
end
theorem atV {xs : List V} {v : Int} (h0 : 0 ≤ v) (h1 : v < xs.length) : ∃ x, x ∈ xs ∧ atI xs v = some x := by
  obtain ⟨j, rfl⟩ : ∃ j : Nat, v = (j : Int) := ⟨v.toNat, by omega⟩
  have hj : j < xs.length := by omega
  exact ⟨xs[j], List.getElem_mem hj, atI_nat (List.getElem?_eq_getElem hj)⟩
theorem atS {xs : List Str} {v : Int} (h0 : 0 ≤ v) (h1 : v < xs.length) : ∃ x, x ∈ xs ∧ atI (xs.map V.str) v = some (.str x) := by
  obtain ⟨y, hy, e⟩ := atV (xs := xs.map V.str) h0 (by rw [List.length_map]; exact h1)
  obtain ⟨x, hx, rfl⟩ := List.mem_map.mp hy
  exact ⟨x, hx, e⟩
theorem atN {xs : List Int} {v : Int} (h0 : 0 ≤ v) (h1 : v < xs.length) : ∃ x, x ∈ xs ∧ atI (xs.map V.int) v = some (.int x) := by
  obtain ⟨y, hy, e⟩ := atV (xs := xs.map V.int) h0 (by rw [List.length_map]; exact h1)
  obtain ⟨x, hx, rfl⟩ := List.mem_map.mp hy
  exact ⟨x, hx, e⟩
theorem PoolAt.ne0 {H : Hp} {p t : Addr} {b : Int} (P : PoolAt H p b) (h : H t = none) : t ≠ p := by
  obtain ⟨q, ns, i, c, z, tt, P⟩ := P
  exact (ne_of_none P.hp h).symm
theorem PoolAt.neT {H : Hp} {p t : Addr} {b : Int} {xs : List V} (P : PoolAt H p b) (h : H t = some (.tup xs)) : t ≠ p := by
  obtain ⟨q, ns, i, c, z, tt, P⟩ := P
  exact ne_of h P.hp (by intro z; cases z)
theorem PoolAt.own {H0 H : Hp} {p G : Addr} {b b' : Int} {o : HO} (P0 : PoolAt H0 p b) (hG : H0 G = none) (k : Kp p H0 H) (P : PoolAt H p b') : PoolAt (upd H G o) p b' := by
  have nGp : G ≠ p := P0.ne0 hG
  obtain ⟨q0, ns0, i0, c0, z0, t0, PV0⟩ := P0
  obtain ⟨qq, xs, ii, c, z, t, PV⟩ := P
  obtain ⟨r', e'⟩ := k.hd _ _ PV0.hp
  have nq : qq ≠ G := fun e => by
    have h := PV.hp
    rw [e'] at h
    injection h with h
    injection h with h
    injection h with h _
    injection h with h
    have h1 := PV0.hq
    rw [h, e, hG] at h1
    cases h1
  exact ⟨qq, xs, ii, c, z, t, PV.ne, by rw [upd_ne nGp.symm]; exact PV.hp, by rw [upd_ne nq]; exact PV.hq, PV.i0, PV.s0, PV.s1⟩
theorem Kp.own {H0 H : Hp} {p G : Addr} {b : Int} {o : HO} (P0 : PoolAt H0 p b) (hG : H0 G = none) (k : Kp p H0 H) : Kp p H0 (upd H G o) := ⟨fun c u e h => by
  rw [upd_ne (ne_of_none e hG)]
  exact k _ _ e h, fun x r e => by
  rw [upd_ne (P0.ne0 hG).symm]
  exact k.hd x r e⟩
/-! ### _law_same: asked of what is the same -/
inductive Flat : V → Prop where
  | int (i : Int) : Flat (.int i)
  | bl (b : Bool) : Flat (.bl b)
  | str (z : Str) : Flat (.str z)
inductive Sd (H : Hp) : Nat → V → V → Prop where
  | flat (n : Nat) {x : V} (h : Flat x) : Sd H n x x
  | tup (n : Nat) {a b : Addr} {xs ys : List V} (ha : H a = some (.tup xs)) (hb : H b = some (.tup ys)) (hl : xs.length = ys.length) (hz : ys.length ≤ 200000) (h : ∀ (i : Nat) (x y : V), xs[i]? = some x → ys[i]? = some y → Sd H n x y) : Sd H (n + 1) (.ref a) (.ref b)
  | lst (n : Nat) {a b : Addr} {xs ys : List V} (ha : H a = some (.lst xs)) (hb : H b = some (.lst ys)) (hl : xs.length = ys.length) (hz : ys.length ≤ 200000) (h : ∀ (i : Nat) (x y : V), xs[i]? = some x → ys[i]? = some y → Sd H n x y) : Sd H (n + 1) (.ref a) (.ref b)
def spSame (n : Nat) : Sp := fun vs H Q _ => ∃ x y, vs = [x, y] ∧ Sd H n x y ∧ Q (.bl true) H
theorem tyI {K : PySem.W.Frag} {H : Hp} {i : Int} : TyX K H (.int i) (.type "int") := .base (.int i)
theorem tyB {K : PySem.W.Frag} {H : Hp} {b : Bool} : TyX K H (.bl b) (.type "bool") := .base (.bl b)
theorem tyS {K : PySem.W.Frag} {H : Hp} {z : Str} : TyX K H (.str z) (.type "str") := .base (.str z)
theorem tyL {K : PySem.W.Frag} {H : Hp} {a : Addr} {xs : List V} (e : H a = some (.lst xs)) : TyX K H (.ref a) (.type "list") := .base (.lst e)
theorem tyT {K : PySem.W.Frag} {H : Hp} {a : Addr} {xs : List V} (e : H a = some (.tup xs)) : TyX K H (.ref a) (.type "tuple") := .base (.tup e)
section
variable {P : Program} {w : World} {K : PySem.W.Frag} {mg : Str → Option Value} {base : Heap}
theorem scSa : FnScope ["actual", "due", "k"] ["actual", "due"] (defScope sSame) := ⟨rfl, rfl, rfl, by decide +kernel, rfl, by decide +kernel, by decide +kernel⟩
theorem same_flat {f : Addr} (T : TxL mg) {cdv : Value} {A : Around} {outer : List Env} {s : Shared} {H0 : Hp} {E : XK} :
    ∃ t, PSs (cxOf CX0 P w K mg base ["actual", "due", "k"] "_law_same" (defScope sSame) f cdv A outer s H0 E).nox ((defBody sSame).drop 1) t ∧ ∀ (x : V) (v2 : Option V) (D : Ends) (H : Hp), Flat x → D.rt (.bl true) H → t D [some x, some x, v2] H := by
  refine ⟨_, pss_cons (ps_if (PW.pt (pw_or (pt_cmpR op_isN (pv 1) pe_non (nomark _)) (pw_or1 (pt_val (pe_callB call_isi (by rfl) T.isi (by decide +kernel) (pa_cons (pv 1) (pa_cons (pe_bltn (v := .ty "bool") (by rfl) T.bool (by decide +kernel) rfl) pa_nil)))))))
        (pss_one (ps_ret (pe_and (pe_cmpR op_eq (pe_cmpR op_isN (pv 0) pe_non (nomark _)) (pe_cmpR op_isN (pv 1) pe_non (nomark _)) (nomark _))
          (pe_and (pe_or (pe_cmpR op_isN (pv 1) pe_non (nomark _)) (pe_one (pe_callB call_isi (by rfl) T.isi (by decide +kernel) (pa_cons (pv 0) (pa_cons (pe_bltn (v := .ty "bool") (by rfl) T.bool (by decide +kernel) rfl) pa_nil)))))
            (pe_one (pe_cmpR op_eq (pv 0) (pv 1) (nomark _))))))) pss_nil)
      (pss_cons (ps_if (pt_val (pe_callB call_isi (by rfl) T.isi (by decide +kernel) (pa_cons (pv 1) (pa_cons (pe_bltn (v := .ty "int") (by rfl) T.int (by decide +kernel) rfl) pa_nil))))
        (pss_one (ps_ret (pe_and (pe_callB call_isi (by rfl) T.isi (by decide +kernel) (pa_cons (pv 0) (pa_cons (pe_bltn (v := .ty "int") (by rfl) T.int (by decide +kernel) rfl) pa_nil)))
          (pe_and (pe_not (pe_callB call_isi (by rfl) T.isi (by decide +kernel) (pa_cons (pv 0) (pa_cons (pe_bltn (v := .ty "bool") (by rfl) T.bool (by decide +kernel) rfl) pa_nil))))
            (pe_one (pe_cmpR op_eq (pv 0) (pv 1) (nomark _))))))) pss_nil)
      (pss_one (ps_ret (pe_and (pe_callB call_isi (by rfl) T.isi (by decide +kernel) (pa_cons (pv 0) (pa_cons (pe_bltn (v := .ty "str") (by rfl) T.str (by decide +kernel) rfl) pa_nil)))
          (pe_one (pe_cmpR op_eq (pv 0) (pv 1) (nomark _))))))), fun x v2 D H hx k => ?_⟩
  cases hx with
  | int i =>
    refine ⟨_, rfl, rfl, _, rfl, iteF ⟨_, rfl, _, _, _, _, false, rfl, .ty "bool", tyI, kit_ty (by decide +kernel), _, rfl, iteF ?_⟩⟩
    refine ⟨_, rfl, _, _, _, _, true, rfl, .ty "int", tyI, kit_same, _, rfl, iteT ?_⟩
    refine ⟨_, rfl, _, _, _, _, true, rfl, .ty "int", tyI, kit_same, _, rfl, iteT ⟨_, rfl, _, _, _, _, false, rfl, .ty "bool", tyI, kit_ty (by decide +kernel), _, rfl, _, rfl, iteT ⟨_, rfl, _, rfl, rfl, ?_⟩⟩⟩
    rw [decide_eq_true rfl]
    exact k
  | bl b =>
    refine ⟨_, rfl, rfl, _, rfl, iteF ⟨_, rfl, _, _, _, _, true, rfl, .ty "bool", tyB, kit_same, _, rfl, iteT ?_⟩⟩
    refine ⟨_, rfl, rfl, _, rfl, rfl, rfl, _, rfl, iteT ⟨_, rfl, rfl, _, rfl, iteF ⟨_, rfl, _, _, _, _, true, rfl, .ty "bool", tyB, kit_same, _, rfl, iteT ⟨_, rfl, _, rfl, rfl, ?_⟩⟩⟩⟩
    rw [decide_eq_true rfl]
    exact k
  | str z =>
    refine ⟨_, rfl, rfl, _, rfl, iteF ⟨_, rfl, _, _, _, _, false, rfl, .ty "bool", tyS, kit_ty (by decide +kernel), _, rfl, iteF ?_⟩⟩
    refine ⟨_, rfl, _, _, _, _, false, rfl, .ty "int", tyS, kit_ty (by decide +kernel), _, rfl, iteF ?_⟩
    refine ⟨_, rfl, _, _, _, _, true, rfl, .ty "str", tyS, kit_same, _, rfl, iteT ⟨_, rfl, _, rfl, rfl, ?_⟩⟩
    rw [decide_eq_true rfl]
    exact k
def fT : {H : Hp} → {x : V} → Flat x → Prop := fun _ => True
theorem flat_ty {H : Hp} {x : V} (h : Flat x) : ∃ t : String, TyX K H x (.type t) ∧ PySem.W.kitOne K (.type t) (.type "tuple") = some false ∧ PySem.W.kitOne K (.type t) (.type "list") = some false := by
  cases h with
  | int i => exact ⟨"int", tyI, kit_ty (by decide +kernel), kit_ty (by decide +kernel)⟩
  | bl b => exact ⟨"bool", tyB, kit_ty (by decide +kernel), kit_ty (by decide +kernel)⟩
  | str z => exact ⟨"str", tyS, kit_ty (by decide +kernel), kit_ty (by decide +kernel)⟩
theorem ok_same0 {f : Addr} {fd : FuncData} (F : Fun K "_law_same" "_law_same" sSame f fd) (T : TxL mg) : FnOk P w K mg base CX0 1 f fd ["actual", "due"] (spSame 0) := by
  refine F.ok scSa (fun vs H Q E h => ?_) (fun cdv A outer s H vs Q E hr h => ?_)
  · obtain ⟨x, y, rfl, _⟩ := h
    rfl
  · obtain ⟨x, y, rfl, hs, q⟩ := h
    obtain ⟨t, ht, rest⟩ := same_flat (P := P) (w := w) (K := K) (base := base) (f := f) (cdv := cdv) (A := A) (outer := outer) (s := s) (H0 := H) (E := E) T
    refine ⟨_, pss_cons (ps_if (PW.pt (pw_or (pt_val (pe_callB call_isi (by rfl) T.isi (by decide +kernel) (pa_cons (pv 1) (pa_cons (pe_bltn (v := .ty "tuple") (by rfl) T.tuple (by decide +kernel) rfl) pa_nil))))
          (pw_or1 (pt_val (pe_callB call_isi (by rfl) T.isi (by decide +kernel) (pa_cons (pv 1) (pa_cons (pe_bltn (v := .ty "list") (by rfl) T.list (by decide +kernel) rfl) pa_nil)))))))
        (pss_cons ps_never (pss_cons ps_never (pss_cons ps_never (pss_one ps_never)))) pss_nil) ht, ?_⟩
    cases hs with
    | flat _ hx =>
      obtain ⟨ty, h1, h2, h3⟩ := flat_ty (K := K) (H := H) hx
      refine ⟨_, rfl, _, _, _, _, false, rfl, .ty "tuple", h1, h2, _, rfl, iteF ⟨_, rfl, _, _, _, _, false, rfl, .ty "list", h1, h3, _, rfl, iteF (rest _ _ _ _ hx q)⟩⟩
theorem ok_sameS {f : Addr} {fd : FuncData} {k n : Nat} (F : Fun K "_law_same" "_law_same" sSame f fd) (T : TxL mg) (G : Fn0 P w K mg base k "_law_same" ["actual", "due"] (spSame n) f fd) : FnOk P w K mg base CX0 (k + 1) f fd ["actual", "due"] (spSame (n + 1)) := by
  refine F.ok scSa (fun vs H Q E h => ?_) (fun cdv A outer s H vs Q E hr h => ?_)
  · obtain ⟨x, y, rfl, _⟩ := h
    rfl
  · obtain ⟨x, y, rfl, hs, q⟩ := h
    obtain ⟨t, ht, rest⟩ := same_flat (P := P) (w := w) (K := K) (base := base) (f := f) (cdv := cdv) (A := A) (outer := outer) (s := s) (H0 := H) (E := E) T
    refine ⟨_, pss_cons (ps_if (PW.pt (pw_or (pt_val (pe_callB call_isi (by rfl) T.isi (by decide +kernel) (pa_cons (pv 1) (pa_cons (pe_bltn (v := .ty "tuple") (by rfl) T.tuple (by decide +kernel) rfl) pa_nil))))
          (pw_or1 (pt_val (pe_callB call_isi (by rfl) T.isi (by decide +kernel) (pa_cons (pv 1) (pa_cons (pe_bltn (v := .ty "list") (by rfl) T.list (by decide +kernel) rfl) pa_nil)))))))
        (pss_cons (ps_if (PW.pt (pw_or
            (pt_cmpR op_ne (pe_callB call_isi (by rfl) T.isi (by decide +kernel) (pa_cons (pv 1) (pa_cons (pe_bltn (v := .ty "tuple") (by rfl) T.tuple (by decide +kernel) rfl) pa_nil))) (pe_callB call_isi (by rfl) T.isi (by decide +kernel) (pa_cons (pv 0) (pa_cons (pe_bltn (v := .ty "tuple") (by rfl) T.tuple (by decide +kernel) rfl) pa_nil))) (nomark _))
            (pw_or1 (pt_cmpR op_ne (pe_callB call_isi (by rfl) T.isi (by decide +kernel) (pa_cons (pv 1) (pa_cons (pe_bltn (v := .ty "list") (by rfl) T.list (by decide +kernel) rfl) pa_nil))) (pe_callB call_isi (by rfl) T.isi (by decide +kernel) (pa_cons (pv 0) (pa_cons (pe_bltn (v := .ty "list") (by rfl) T.list (by decide +kernel) rfl) pa_nil))) (nomark _)))))
            (pss_one (ps_ret pe_bl)) pss_nil)
        (pss_cons (ps_if (pt_cmpR op_ne (pe_callB call_len_seq (by rfl) T.len PySem.boot_len (pa_cons (pv 0) pa_nil)) (pe_callB call_len_seq (by rfl) T.len PySem.boot_len (pa_cons (pv 1) pa_nil)) (nomark _)) (pss_one (ps_ret pe_bl)) pss_nil)
        (pss_cons (ps_for PassesOwn.never rfl (pi_range1 rfl T.range (pa_cons (pe_callB call_len_seq (by rfl) T.len PySem.boot_len (pa_cons (pv 1) pa_nil)) pa_nil)) (pg_name (i := 2) scSa.nd rfl (Or.inl rfl))
          (pss_one (ps_if (pt_not (pt_val (pe_call G.ok hr (by rfl) G.gl G.kp G.bd .nil pass0 (pa_cons (pe_ix ix_seq (pv 0) (pv 2) (fun _ _ => rfl)) (pa_cons (pe_ix ix_seq (pv 1) (pv 2) (fun _ _ => rfl)) pa_nil))))) (pss_one (ps_ret pe_bl)) pss_nil)))
        (pss_one (ps_ret pe_bl))))) pss_nil) ht, ?_⟩
    cases hs with
    | flat _ hx =>
      obtain ⟨ty, h1, h2, h3⟩ := flat_ty (K := K) (H := H) hx
      refine ⟨_, rfl, _, _, _, _, false, rfl, .ty "tuple", h1, h2, _, rfl, iteF ⟨_, rfl, _, _, _, _, false, rfl, .ty "list", h1, h3, _, rfl, iteF (rest _ _ _ _ hx q)⟩⟩
    | @lst _ a b xs ys ha hb hl hz h =>
      refine ⟨_, rfl, _, _, _, _, false, rfl, .ty "tuple", tyL hb, kit_ty (by decide +kernel), _, rfl, iteF ⟨_, rfl, _, _, _, _, true, rfl, .ty "list", tyL hb, kit_same, _, rfl, iteT ?_⟩⟩
      refine ⟨_, rfl, _, _, _, _, false, rfl, .ty "tuple", tyL hb, kit_ty (by decide +kernel), _, rfl, _, _, _, _, false, rfl, .ty "tuple", tyL ha, kit_ty (by decide +kernel), rfl, _, rfl, iteF ?_⟩
      refine ⟨_, rfl, _, _, _, _, true, rfl, .ty "list", tyL hb, kit_same, _, rfl, _, _, _, _, true, rfl, .ty "list", tyL ha, kit_same, rfl, _, rfl, iteF ?_⟩
      refine ⟨_, rfl, a, _, rfl, .inl (SqL.of ha), _, rfl, b, _, rfl, .inl (SqL.of hb), rfl, _, rfl, ?_⟩
      rw [hl, decide_eq_true rfl]
      refine iteF ⟨_, rfl, b, _, rfl, .inl (SqL.of hb), (ys.length : Int), rfl, by omega, by omega, for_range (lo := 0) (n := (ys.length : Int).toNat) (fun i σ H2 => (∃ v2, σ = [some (.ref a), some (.ref b), v2]) ∧ H2 = H) ⟨⟨_, rfl⟩, rfl⟩ ?_ ?_⟩
      · rintro i σ H2 hi ⟨⟨v2, rfl⟩, rfl⟩
        have h2 : i < ys.length := by omega
        have h1 : i < xs.length := by omega
        have ex := List.getElem?_eq_getElem h1
        have ey := List.getElem?_eq_getElem h2
        refine ⟨_, rfl, _, rfl, .inl ⟨a, _, _, _, rfl, rfl, SqL.of ha, by rw [Int.zero_add]; exact atI_nat ex, _, rfl, _, rfl, .inl ⟨b, _, _, _, rfl, rfl, SqL.of hb, by rw [Int.zero_add]; exact atI_nat ey, _, _, rfl, h i _ _ ex ey, _, rfl, iteF ⟨⟨_, rfl⟩, rfl⟩⟩⟩⟩
      · rintro σ H2 ⟨⟨v2, rfl⟩, rfl⟩
        exact q
    | @tup _ a b xs ys ha hb hl hz h =>
      refine ⟨_, rfl, _, _, _, _, true, rfl, .ty "tuple", tyT hb, kit_same, _, rfl, iteT ?_⟩
      refine ⟨_, rfl, _, _, _, _, true, rfl, .ty "tuple", tyT hb, kit_same, _, rfl, _, _, _, _, true, rfl, .ty "tuple", tyT ha, kit_same, rfl, _, rfl, iteF ?_⟩
      refine ⟨_, rfl, _, _, _, _, false, rfl, .ty "list", tyT hb, kit_ty (by decide +kernel), _, rfl, _, _, _, _, false, rfl, .ty "list", tyT ha, kit_ty (by decide +kernel), rfl, _, rfl, iteF ?_⟩
      refine ⟨_, rfl, a, _, rfl, .inr (SqT.of ha), _, rfl, b, _, rfl, .inr (SqT.of hb), rfl, _, rfl, ?_⟩
      rw [hl, decide_eq_true rfl]
      refine iteF ⟨_, rfl, b, _, rfl, .inr (SqT.of hb), (ys.length : Int), rfl, by omega, by omega, for_range (lo := 0) (n := (ys.length : Int).toNat) (fun i σ H2 => (∃ v2, σ = [some (.ref a), some (.ref b), v2]) ∧ H2 = H) ⟨⟨_, rfl⟩, rfl⟩ ?_ ?_⟩
      · rintro i σ H2 hi ⟨⟨v2, rfl⟩, rfl⟩
        have h2 : i < ys.length := by omega
        have h1 : i < xs.length := by omega
        have ex := List.getElem?_eq_getElem h1
        have ey := List.getElem?_eq_getElem h2
        refine ⟨_, rfl, _, rfl, .inr (.inl ⟨a, _, _, _, rfl, rfl, SqT.of ha, by rw [Int.zero_add]; exact atI_nat ex, _, rfl, _, rfl, .inr (.inl ⟨b, _, _, _, rfl, rfl, SqT.of hb, by rw [Int.zero_add]; exact atI_nat ey, _, _, rfl, h i _ _ ex ey, _, rfl, iteF ⟨⟨_, rfl⟩, rfl⟩⟩)⟩)⟩
      · rintro σ H2 ⟨⟨v2, rfl⟩, rfl⟩
        exact q
theorem ok_sameH {f : Addr} {fd : FuncData} (F : Fun K "_law_same" "_law_same" sSame f fd) (T : TxL mg) : FnW P w K mg base CX0 1 f fd ["actual", "due"] (spSame 0) := by
  obtain ⟨oc, od, kV, doc, pm, an, cdv, ct, osl, rfl, lk, hcd⟩ := F.ex
  refine fn_ofW lk hcd scSa (fun vs H Q E h => ?_) (fun A outer s H vs Q E p hr h => ?_)
  · obtain ⟨x, y, rfl, _⟩ := h
    rfl
  · obtain ⟨x, y, rfl, hs, q⟩ := h
    refine ⟨_, pss_cons (ps_if (PW.pt (pw_or (pt_val (pe_callB call_isi (by rfl) T.isi (by decide +kernel) (pa_cons (pv 1) (pa_cons (pe_bltn (v := .ty "tuple") (by rfl) T.tuple (by decide +kernel) rfl) pa_nil))))
          (pw_or1 (pt_val (pe_callB call_isi (by rfl) T.isi (by decide +kernel) (pa_cons (pv 1) (pa_cons (pe_bltn (v := .ty "list") (by rfl) T.list (by decide +kernel) rfl) pa_nil)))))))
        (pss_cons ps_never (pss_cons ps_never (pss_cons ps_never (pss_one ps_never)))) pss_nil)
      (pss_cons (ps_if (PW.pt (pw_or (pt_cmpR op_isN (pv 1) pe_non (nomark _)) (pw_or1 (pt_val (pe_callB call_isi (by rfl) T.isi (by decide +kernel) (pa_cons (pv 1) (pa_cons (pe_bltn (v := .ty "bool") (by rfl) T.bool (by decide +kernel) rfl) pa_nil)))))))
        (pss_one (ps_ret (pe_and (pe_cmpR op_eq (pe_cmpR op_isN (pv 0) pe_non (nomark _)) (pe_cmpR op_isN (pv 1) pe_non (nomark _)) (nomark _))
          (pe_and (pe_or (pe_cmpR op_isN (pv 1) pe_non (nomark _)) (pe_one (pe_callB call_isi (by rfl) T.isi (by decide +kernel) (pa_cons (pv 0) (pa_cons (pe_bltn (v := .ty "bool") (by rfl) T.bool (by decide +kernel) rfl) pa_nil)))))
            (pe_one (pe_cmpR op_eq (pv 0) (pv 1) (nomark _))))))) pss_nil)
      (pss_cons (ps_if (pt_val (pe_callB call_isi (by rfl) T.isi (by decide +kernel) (pa_cons (pv 1) (pa_cons (pe_bltn (v := .ty "int") (by rfl) T.int (by decide +kernel) rfl) pa_nil))))
        (pss_one (ps_ret (pe_and (pe_callB call_isi (by rfl) T.isi (by decide +kernel) (pa_cons (pv 0) (pa_cons (pe_bltn (v := .ty "int") (by rfl) T.int (by decide +kernel) rfl) pa_nil)))
          (pe_and (pe_not (pe_callB call_isi (by rfl) T.isi (by decide +kernel) (pa_cons (pv 0) (pa_cons (pe_bltn (v := .ty "bool") (by rfl) T.bool (by decide +kernel) rfl) pa_nil))))
            (pe_one (pe_cmpR op_eq (pv 0) (pv 1) (nomark _))))))) pss_nil)
      (pss_one (ps_ret (pe_and (pe_callB call_isi (by rfl) T.isi (by decide +kernel) (pa_cons (pv 0) (pa_cons (pe_bltn (v := .ty "str") (by rfl) T.str (by decide +kernel) rfl) pa_nil)))
          (pe_one (pe_cmpR op_eq (pv 0) (pv 1) (nomark _)))))))), ?_⟩
    cases hs with
    | flat _ hx =>
      cases hx with
      | int i =>
        refine ⟨_, rfl, _, _, _, _, false, rfl, .ty "tuple", tyI, kit_ty (by decide +kernel), _, rfl, iteF ⟨_, rfl, _, _, _, _, false, rfl, .ty "list", tyI, kit_ty (by decide +kernel), _, rfl, iteF ?_⟩⟩
        refine ⟨_, rfl, rfl, _, rfl, iteF ⟨_, rfl, _, _, _, _, false, rfl, .ty "bool", tyI, kit_ty (by decide +kernel), _, rfl, iteF ?_⟩⟩
        refine ⟨_, rfl, _, _, _, _, true, rfl, .ty "int", tyI, kit_same, _, rfl, iteT ?_⟩
        refine ⟨_, rfl, _, _, _, _, true, rfl, .ty "int", tyI, kit_same, _, rfl, iteT ⟨_, rfl, _, _, _, _, false, rfl, .ty "bool", tyI, kit_ty (by decide +kernel), _, rfl, _, rfl, iteT ⟨_, rfl, _, rfl, rfl, ?_⟩⟩⟩
        rw [decide_eq_true rfl]
        exact q
      | bl b =>
        refine ⟨_, rfl, _, _, _, _, false, rfl, .ty "tuple", tyB, kit_ty (by decide +kernel), _, rfl, iteF ⟨_, rfl, _, _, _, _, false, rfl, .ty "list", tyB, kit_ty (by decide +kernel), _, rfl, iteF ?_⟩⟩
        refine ⟨_, rfl, rfl, _, rfl, iteF ⟨_, rfl, _, _, _, _, true, rfl, .ty "bool", tyB, kit_same, _, rfl, iteT ?_⟩⟩
        refine ⟨_, rfl, rfl, _, rfl, rfl, rfl, _, rfl, iteT ⟨_, rfl, rfl, _, rfl, iteF ⟨_, rfl, _, _, _, _, true, rfl, .ty "bool", tyB, kit_same, _, rfl, iteT ⟨_, rfl, _, rfl, rfl, ?_⟩⟩⟩⟩
        rw [decide_eq_true rfl]
        exact q
      | str z =>
        refine ⟨_, rfl, _, _, _, _, false, rfl, .ty "tuple", tyS, kit_ty (by decide +kernel), _, rfl, iteF ⟨_, rfl, _, _, _, _, false, rfl, .ty "list", tyS, kit_ty (by decide +kernel), _, rfl, iteF ?_⟩⟩
        refine ⟨_, rfl, rfl, _, rfl, iteF ⟨_, rfl, _, _, _, _, false, rfl, .ty "bool", tyS, kit_ty (by decide +kernel), _, rfl, iteF ?_⟩⟩
        refine ⟨_, rfl, _, _, _, _, false, rfl, .ty "int", tyS, kit_ty (by decide +kernel), _, rfl, iteF ?_⟩
        refine ⟨_, rfl, _, _, _, _, true, rfl, .ty "str", tyS, kit_same, _, rfl, iteT ⟨_, rfl, _, rfl, rfl, ?_⟩⟩
        rw [decide_eq_true rfl]
        exact q
end
/-! ### Euclid -/
def spRed : Sp := fun vs H Q _ => ∃ (n d : Int), vs = [.int n, .int d] ∧ 0 < d ∧ Bd 1000 d ∧ ∀ (t : Addr) (H' : Hp), Same H H' → H t = none → H' t = some (.tup [.int (rn n d), .int (rd n d)]) → Q (.ref t) H'
section
variable {P : Program} {w : World} {K : PySem.W.Frag} {mg : Str → Option Value} {base : Heap} {C BR : Addr}
theorem scRe : FnScope ["num", "den", "a", "b", "k"] ["num", "den"] (defScope sRed) := ⟨rfl, rfl, rfl, by decide +kernel, rfl, by decide +kernel, by decide +kernel⟩
theorem ok_red {f : Addr} {fd : FuncData} (F : Fun K "_law_less" "_law_less" sRed f fd) (T : Txt K mg C BR) : FnOk P w K mg base CX0 1 f fd ["num", "den"] spRed := by
  refine F.ok scRe (fun vs H Q E h => ?_) (fun cdv A outer s H vs Q E hr h => ?_)
  · obtain ⟨n, d, rfl, _⟩ := h
    rfl
  · obtain ⟨n, d, rfl, hd, bd, k⟩ := h
    have hrest : ∃ t, PSs (cxOf CX0 P w K mg base ["num", "den", "a", "b", "k"] "_law_less" (defScope sRed) f cdv A outer s H E).nox ((defBody sRed).drop 3) t ∧
        ∀ (σ' : L2.St), (∃ v3 v4, σ' = [some (.int n), some (.int d), some (.int (G n d)), v3, v4]) → t { nx := fun _ H' => Q .non H', rt := Q } σ' H := by
      refine ⟨_, pss_one (ps_ret (pe_tup (pa_cons (pe_op op_fdivW (pv 0) (pv 2)) (pa_cons (pe_op op_fdivW (pv 1) (pv 2)) pa_nil)))), ?_⟩
      rintro σ' ⟨v3, v4, rfl⟩
      have hg := G_pos (n := n) hd
      have bg : Bd 1000 (G n d) := Bd.G hd bd
      refine ⟨_, rfl, _, rfl, n, G n d, rfl, rfl, wide_div hg bg (by decide) (by decide), _, rfl, _, rfl, d, G n d, rfl, rfl, wide_div hg bg (by decide) (by decide), (by show 2 ≤ sizeLine; decide), fun p hp => ?_⟩
      exact k p _ (same_upd hp) hp upd_same
    obtain ⟨t, ht, rest⟩ := hrest
    refine ⟨_, pss_cons (ps_set (i := 2) scRe.nd rfl (Or.inl rfl) (pe_callB call_abs (by rfl) T.abs (by decide +kernel) (pa_cons (pv 0) pa_nil)))
      (pss_cons (ps_set (i := 3) scRe.nd rfl (Or.inl rfl) (pv 1))
      (pss_cons (ps_for PassesOwn.never rfl (pi_range1 rfl T.range (pa_cons pe_int pa_nil)) (pg_name (i := 4) scRe.nd rfl (Or.inl rfl))
        (pss_cons (ps_if (pt_cmpR op_eq (pv 3) pe_int (nomark _)) (pss_one ps_break) pss_nil)
        (pss_one (ps_par (i := 2) (j := 3) (by rfl) scRe.nd rfl rfl (by decide) rfl rfl (pa_cons (pv 3) (pa_cons (pe_op op_mod (pe_callTy call_int1 (by rfl) T.int (by decide +kernel) (pa_cons (pv 2) pa_nil)) (pv 3)) pa_nil)) (by rfl))))) ht)), ?_⟩
    have ea : (if n < 0 then -n else n) = (n.natAbs : Int) := by split <;> omega
    refine ⟨_, rfl, n, rfl, _, rfl, 4000, rfl, by decide, by decide, for_range (lo := 0) (n := 4000) (fun i σ H2 => (∃ (A B : Nat) (v4 : Option V), σ = [some (.int n), some (.int d), some (.int (A : Int)), some (.int (B : Int)), v4] ∧ Eu (Nat.gcd n.natAbs d.natAbs) i A B) ∧ H2 = H) ?_ ?_ ?_⟩
    · refine ⟨⟨n.natAbs, d.natAbs, none, ?_, Eu.start bd⟩, rfl⟩
      have ed : d = (d.natAbs : Int) := by omega
      rw [← ea, ← ed]
      rfl
    · rintro i σ H2 hi ⟨⟨A, B, v4, rfl, eu⟩, rfl⟩
      refine ⟨_, rfl, rfl, _, rfl, ite2 (fun z => ?_) (fun z => ?_)⟩
      · have eB : B = 0 := by
          have := V.int.inj (of_decide_eq_true z)
          omega
        subst eB
        have eA := eu.fin
        subst eA
        exact rest _ ⟨_, _, rfl⟩
      · have nB : B ≠ 0 := fun q => z (decide_eq_true (by rw [q]; rfl))
        refine ⟨_, rfl, _, rfl, .inl ⟨_, rfl, _, rfl, _, _, rfl, rfl, (by show (0 : Int) < (B : Int); omega), _, _, rfl, ⟨B, A % B, some (V.int (0 + (i : Int))), ?_, eu.turn nB⟩, rfl⟩⟩
        rw [Int.natCast_emod]
        rfl
    · rintro σ H2 ⟨⟨A, B, v4, rfl, eu⟩, rfl⟩
      have eB := eu.out
      subst eB
      have eA := eu.fin
      subst eA
      exact rest _ ⟨_, _, rfl⟩
end
end K0

set_option Elab.async false
set_option linter.all false
set_option maxRecDepth 100000
set_option maxHeartbeats 4000000
namespace K0
open PySem PySem.Spec PyProof.Rows L2 Kx Kh Kd
theorem ix_tupK {X : Cx} {K : PySem.W.Frag} (h : X.K = K) : IxR X (rIxT K) := by
  subst h
  exact ix_tup
theorem ix_listK {X : Cx} {K : PySem.W.Frag} (h : X.K = K) : IxR X (rIxL K) := by
  subst h
  exact ix_list
theorem ix_KF {X : Cx} {P : Program} {w : World} (h1 : X.prog = P) (h2 : X.w = w) (hu : X.A.units + 64 < cLine) : IxR X (rIxK P w) := by
  subst h1 h2
  exact ix_K hu
theorem pi_listK {X : Cx} {K : PySem.W.Frag} {tg l : Expr} {tl : TE} (h : X.K = K) (hl : PE X l tl) : PI X tg l (iList K tl) := by
  subst h
  exact pi_list hl
theorem pi_tupK {X : Cx} {K : PySem.W.Frag} {tg l : Expr} {tl : TE} (h : X.K = K) (hl : PE X l tl) : PI X tg l (iTup K tl) := by
  subst h
  exact pi_tup hl
theorem call_isiK {X : Cx} {K : PySem.W.Frag} (h : X.K = K) : CallR X (.builtin "isinstance") (rIsi K) := by
  subst h
  exact call_isi
def rLof (K : PySem.W.Frag) : List V → Hp → VK → Prop := fun xs H Q => ∃ p ys, xs = [.ref p] ∧ (SqL K H p ys ∨ SqT K H p ys) ∧ ∀ l, H l = none → Q (.ref l) (upd H l (.lst ys))
theorem call_list_ofK {X : Cx} {K : PySem.W.Frag} (h : X.K = K) : CallR X (.type "list") (rLof K) := by
  subst h
  exact call_list_of
theorem pe_fldK {X : Cx} {K : PySem.W.Frag} {e : Expr} {f : Str} {pos : Pos} {ta : TE} (h : X.K = K) (he : PE X e ta) (hb : attributeBase e f X.env (eval e X.env) = eval e X.env) : PE X (.Attribute e f pos) (tFld K ta f) := by
  subst h
  exact pe_fld he hb
/-! ### fractions made of pairs -/
theorem rn_rn {w W : Int} (h : 0 < W) : rn (rn w W) (rd w W) = rn w W ∧ rd (rn w W) (rd w W) = rd w W := by
  have h1 := n_eq w W
  have h2 := d_eq w W
  have hg := G_pos (n := w) h
  have e1 := rn_scale hg (rn w W) (rd w W)
  have e2 := rd_scale hg (rn w W) (rd w W)
  rw [← h1, ← h2] at e1 e2
  exact ⟨e1.symm, e2.symm⟩
/-- a pair of numbers at t -/
def PairT (H : Hp) (t : Addr) (q : Int × Int) : Prop := H t = some (.tup [.int q.1, .int q.2])
theorem get_snoc {α : Type} {xs : List α} {x y : α} {j : Nat} (h : (xs ++ [x])[j]? = some y) : (j < xs.length ∧ xs[j]? = some y) ∨ (j = xs.length ∧ x = y) := by
  by_cases hj : j < xs.length
  · rw [List.getElem?_append_left hj] at h
    exact .inl ⟨hj, h⟩
  · rw [List.getElem?_append_right (by omega)] at h
    have hj2 : j - xs.length = 0 := by
      have := (List.getElem?_eq_some_iff.mp h).1
      rw [List.length_singleton] at this
      omega
    rw [hj2] at h
    exact .inr ⟨by omega, by simpa using h⟩
theorem wipe_two {σ : L2.St} {i1 i2 : Nat} (v w : V) (hn : i1 ≠ i2) : wipe (((wipe σ [i1, i2]).set i1 (some v)).set i2 (some w)) [i1, i2] = wipe σ [i1, i2] := by
  show ((((((σ.set i2 none).set i1 none).set i1 (some v)).set i2 (some w)).set i2 none).set i1 none) = ((σ.set i2 none).set i1 none)
  refine List.ext_getElem? fun k => ?_
  by_cases h1 : i1 = k
  · subst h1
    simp [List.getElem?_set]
  · by_cases h2 : i2 = k
    · subst h2
      simp [List.getElem?_set, h1]
    · simp [List.getElem?_set, h1, h2]
theorem lc_rats {K : PySem.W.Frag} {C BR : Addr} {J : It} {Gp : Hp → Prop} {ts : List Addr} {prs : List (Int × Int)} {E : XK} {i1 i2 : Nat} {σ : L2.St} {H1 : Hp} {D : Addr} {Qd : Hp → Prop} (w : Walk J prs.length Gp (YAt (ts.map V.ref))) (hts : ts.length = prs.length) (hz : prs.length ≤ 100000)
    (ht : ∀ (j : Nat) t q, ts[j]? = some t → prs[j]? = some q → PairT H1 t q) (hp : ∀ q ∈ prs, 0 < q.2 ∧ Bd 8000 q.2) (hn : i1 ≠ i2) (h1 : i1 < σ.length) (h2 : i2 < σ.length) (hD : H1 D = none) (hG : ∀ H', Same H1 H' → Gp H')
    (hQ : ∀ (as : List Addr) (H' : Hp), as.length = prs.length → H' D = some (.lst (as.map V.ref)) → (∀ (j : Nat) a q, as[j]? = some a → prs[j]? = some q → RatAt C H' a (rn q.1 q.2) (rd q.1 q.2)) → Same H1 H' → Qd H') :
    ∃ W : Nat → Nat → Hp → Prop, (∃ m, W 0 m (upd H1 D (.lst []))) ∧ ∀ i m H, W i m H →
      (J.stop i H ∧ Qd H) ∨ (J.go i H ∧ ∃ Nx : Hp → Prop, (∀ H', Nx H' → ∃ m', m' < m ∧ W (i + 1) m' H') ∧ ∀ x H', J.yld i H x H' → gTup K 2 (gCons (gName i1) (gCons (gName i2) gNil)) x (wipe σ [i1, i2]) H' fun σ2 H2 => wipe σ2 [i1, i2] = wipe σ [i1, i2] ∧ tYes σ2 H2 fun b H3 =>
        if b = true then tMake C (spInit C BR) [] E (tCons (tVar i1) (tCons (tVar i2) tNil)) σ2 H3 fun y H4 => ∃ acc, H4 D = some (.lst acc) ∧ acc.length < sizeLine ∧ Nx (upd H4 D (.lst (acc ++ [y]))) else Nx H3) := by
  refine lc_it w (fun i H' => ∃ as : List Addr, as.length = i ∧ H' D = some (.lst (as.map V.ref)) ∧ (∀ (j : Nat) a q, as[j]? = some a → prs[j]? = some q → RatAt C H' a (rn q.1 q.2) (rd q.1 q.2)) ∧ Same H1 H') ⟨[], rfl, upd_same, fun j a q z => by simp at z, same_upd hD⟩ (fun i H' _ ⟨_, _, _, _, s'⟩ => hG H' s') ?_ ?_
  · rintro i x H0 H' hi ⟨as, hl, eD, hr, s'⟩ ⟨rfl, hx⟩
    obtain ⟨t, htt, rfl⟩ := Option.map_eq_some_iff.mp ((List.getElem?_map ..).symm.trans hx)
    have hq := List.getElem?_eq_getElem hi
    have hpt := s' _ _ (ht i t _ htt hq)
    obtain ⟨d0, bd⟩ := hp _ (List.getElem_mem hi)
    have l1 : i1 < (wipe σ [i1, i2]).length := by rw [wipe_length]; exact h1
    have l2 : i2 < (wipe σ [i1, i2]).length := by rw [wipe_length]; exact h2
    have g1 : (((wipe σ [i1, i2]).set i1 (some (V.int prs[i].1))).set i2 (some (V.int prs[i].2)))[i1]? = some (some (V.int prs[i].1)) := by
      rw [List.getElem?_set_ne (Ne.symm hn), List.getElem?_set_self l1]
    have g2 : (((wipe σ [i1, i2]).set i1 (some (V.int prs[i].1))).set i2 (some (V.int prs[i].2)))[i2]? = some (some (V.int prs[i].2)) := by
      rw [List.getElem?_set_self (by rw [List.length_set]; exact l2)]
    refine ⟨t, _, rfl, SqT.of hpt, rfl, _, _, rfl, _, _, rfl, rfl, ?_, tYesI ?_⟩
    · exact wipe_two _ _ hn
    · refine ⟨_, g1, _, g2, fun y dy ny ndy ney => ?_⟩
      refine ⟨y, dy, prs[i].1, prs[i].2, rfl, upd_same, bd, fun z => absurd d0 (by omega), fun _ H3 hR kp => ⟨rfl, ?_⟩⟩
      have s3 : Same H' H3 := Same.made ny ndy kp
      have eD3 := s3 _ _ eD
      have ni : ∀ b D' dz fs, H3 b = some (.ins D' dz fs) → upd H3 D (.lst (as.map V.ref ++ [V.ref y])) b = some (.ins D' dz fs) := fun b D' dz fs z => by
        rw [upd_ne (fun q => by rw [q, eD3] at z; cases z)]
        exact z
      refine ⟨_, eD3, by rw [List.length_map, hl]; exact Nat.lt_of_lt_of_le hi (Nat.le_trans hz (by decide)), as ++ [y], by rw [List.length_append, hl]; rfl, by rw [upd_same, List.map_append]; rfl, fun j a q ha hq2 => ?_, fun b o z => ?_⟩
      · rcases get_snoc ha with ⟨hj, ha⟩ | ⟨hj, rfl⟩
        · obtain ⟨da, ea⟩ := (hr j a q ha hq2).same s3
          exact ⟨da, ni _ _ _ _ ea⟩
        · rw [hj, hl, hq] at hq2
          cases hq2
          obtain ⟨da, ea⟩ := hR
          exact ⟨da, ni _ _ _ _ ea⟩
      · rw [upd_ne (ne_of_none z hD)]
        exact s3 _ _ (s' _ _ z)
  · rintro H' ⟨as, hl, eD, hr, s'⟩
    exact hQ as H' hl eD hr s'
theorem wipe_one {σ : L2.St} {i : Nat} (v : V) : wipe ((wipe σ [i]).set i (some v)) [i] = wipe σ [i] := by
  show (((σ.set i none).set i (some v)).set i none) = σ.set i none
  rw [List.set_set, List.set_set]
/-- pairs made of fractions -/
theorem lc_pairs {K : PySem.W.Frag} {mg : Str → Option Value} {C BR : Addr} (T : Txt K mg C BR) {J : It} {n : Nat} {Gp : Hp → Prop} {as : List Addr} {qs : List (Int × Int)} {i1 : Nat} {σ : L2.St} {H1 : Hp} {D : Addr} {Qd : Hp → Prop} (w : Walk J n Gp (YAt (as.map V.ref))) (hn : n = qs.length) (hts : as.length = qs.length) (hz : qs.length ≤ 100000)
    (ht : ∀ (j : Nat) a q, as[j]? = some a → qs[j]? = some q → RatAt C H1 a q.1 q.2) (h1 : i1 < σ.length) (hD : H1 D = none) (hG : ∀ H', Same H1 H' → Gp H')
    (hQ : ∀ (ts : List Addr) (H' : Hp), ts.length = qs.length → H' D = some (.lst (ts.map V.ref)) → (∀ (j : Nat) t q, ts[j]? = some t → qs[j]? = some q → PairT H' t q) → Same H1 H' → Qd H') :
    ∃ W : Nat → Nat → Hp → Prop, (∃ m, W 0 m (upd H1 D (.lst []))) ∧ ∀ i m H, W i m H →
      (J.stop i H ∧ Qd H) ∨ (J.go i H ∧ ∃ Nx : Hp → Prop, (∀ H', Nx H' → ∃ m', m' < m ∧ W (i + 1) m' H') ∧ ∀ x H', J.yld i H x H' → gName i1 x (wipe σ [i1]) H' fun σ2 H2 => wipe σ2 [i1] = wipe σ [i1] ∧ tYes σ2 H2 fun b H3 =>
        if b = true then tTup (tCons (tFld K (tVar i1) "num") (tCons (tFld K (tVar i1) "den") tNil)) σ2 H3 fun y H4 => ∃ acc, H4 D = some (.lst acc) ∧ acc.length < sizeLine ∧ Nx (upd H4 D (.lst (acc ++ [y]))) else Nx H3) := by
  subst hn
  refine lc_it w (fun i H' => ∃ ts : List Addr, ts.length = i ∧ H' D = some (.lst (ts.map V.ref)) ∧ (∀ (j : Nat) t q, ts[j]? = some t → qs[j]? = some q → PairT H' t q) ∧ Same H1 H') ⟨[], rfl, upd_same, (fun j a q z => by simp at z), same_upd hD⟩ (fun i H' _ ⟨_, _, _, _, s'⟩ => hG H' s') ?_ ?_
  · rintro i x H0 H' hi ⟨ts, hl, eD, hr, s'⟩ ⟨rfl, hx⟩
    obtain ⟨a, haa, rfl⟩ := Option.map_eq_some_iff.mp ((List.getElem?_map ..).symm.trans hx)
    have hq := List.getElem?_eq_getElem hi
    obtain ⟨da, ea⟩ := (ht i a _ haa hq).same s'
    have g1 : ((wipe σ [i1]).set i1 (some (V.ref a)))[i1]? = some (some (V.ref a)) := List.getElem?_set_self (by rw [wipe_length]; exact h1)
    refine ⟨wipe_one _, tYesI ⟨_, g1, a, C, da, _, _, rfl, ea, T.cl, T.nN, rf_num _ _, _, g1, a, C, da, _, _, rfl, ea, T.cl, T.nD, rf_den _ _, by show 2 ≤ sizeLine; decide, fun e he => ?_⟩⟩
    have s3 := same_upd (o := .tup [V.int qs[i].1, V.int qs[i].2]) he
    have eD3 := s3 _ _ eD
    have nt : ∀ b ys, upd H' e (.tup [V.int qs[i].1, V.int qs[i].2]) b = some (.tup ys) → upd (upd H' e (.tup [V.int qs[i].1, V.int qs[i].2])) D (.lst (ts.map V.ref ++ [V.ref e])) b = some (.tup ys) := fun b ys z => by
      rw [upd_ne (fun q => by rw [q, eD3] at z; cases z)]
      exact z
    refine ⟨_, eD3, by rw [List.length_map, hl]; exact Nat.lt_of_lt_of_le hi (Nat.le_trans hz (by decide)), ts ++ [e], by rw [List.length_append, hl]; rfl, by rw [upd_same, List.map_append]; rfl, fun j t q hj hq2 => ?_, fun b o z => ?_⟩
    · rcases get_snoc hj with ⟨_, hj2⟩ | ⟨hj2, rfl⟩
      · exact nt _ _ (s3 _ _ (hr j t q hj2 hq2))
      · rw [hj2, hl, hq] at hq2
        cases hq2
        exact nt _ _ upd_same
    · rw [upd_ne (ne_of_none z hD)]
      exact s3 _ _ (s' _ _ z)
  · rintro H' ⟨ts, hl, eD, hr, s'⟩
    exact hQ ts H' hl eD hr s'
end K0

set_option Elab.async false
set_option linter.all false
set_option maxRecDepth 100000
set_option maxHeartbeats 4000000
namespace K0
open PySem PySem.Spec PyProof.Rows L2 Kx Kh Kd
/-- pairs in lowest terms of the weights ws over W, in the list l -/
structure Prs (H : Hp) (l : Addr) (ws : List Int) (W : Int) : Prop where
  at_ : ∃ ts : List Addr, H l = some (.lst (ts.map V.ref)) ∧ ts.length = ws.length ∧ ∀ (j : Nat) t w, ts[j]? = some t → ws[j]? = some w → PairT H t (rn w W, rd w W)
  pos : 0 < W
  big : W ≤ 1000000
  small : ∀ w ∈ ws, w.natAbs ≤ 1000000
  few : ws.length ≤ 100
theorem Prs.same {H H' : Hp} {l : Addr} {ws : List Int} {W : Int} (h : Prs H l ws W) (s : Same H H') : Prs H' l ws W := by
  obtain ⟨ts, h1, h2, h3⟩ := h.at_
  exact ⟨⟨ts, s _ _ h1, h2, fun j t w a b => s _ _ (h3 j t w a b)⟩, h.pos, h.big, h.small, h.few⟩
/-- a row of a dict of plans' data -/
structure DR where
  key : NestedKey
  va : Addr
  l : Addr
  ws : List Int
  W : Int
structure DROk (H : Hp) (r : DR) : Prop where
  hv : Nest H r.key (.ref r.va)
  sv : SeqAt.shaped r.key.data = true
  dv : r.key.depth ≤ 8
  pr : Prs H r.l r.ws r.W
theorem DROk.same {H H' : Hp} {r : DR} (h : DROk H r) (s : Same H H') : DROk H' r := ⟨h.hv.keep fun a xs z => s _ _ z, h.sv, h.dv, h.pr.same s⟩
def DR.kv (r : DR) : NestedKey × Addr × V := (r.key, r.va, .ref r.l)
def DR.lots (r : DR) : List (Int × Int) := r.ws.map fun w => (rn w r.W, rd w r.W)
def spMade (P : Program) (w : World) (K : PySem.W.Frag) (C CP : Addr) : Sp := fun vs H Q _ => ∃ (d : Addr) (rs : List DR), vs = [.ref d] ∧ KD P w H d (rs.map DR.kv) ∧ (∀ r ∈ rs, DROk H r ∧ lotsB r.ws r.W = true) ∧ rs.length ≤ 1000 ∧
  ∀ (p : Addr) (H' : Hp) (xs : List Ent), Same H H' → PlanAt K C CP H' p xs → Paired (fun r x => x.key = r.key ∧ x.lots = r.lots) rs xs → Q (.ref p) H'
theorem atK_get {kvs : Kvs} (nd : (kvs.map (·.1)).Nodup) : ∀ {i : Nat} {p : NestedKey × Addr × V}, kvs[i]? = some p → atK kvs p.1 = some p.2.2 := by
  induction kvs with
  | nil => exact fun h => by simp at h
  | cons q r ih =>
    intro i p h
    rw [List.map_cons, List.nodup_cons] at nd
    unfold atK
    rw [List.find?_cons]
    cases i with
    | zero =>
      simp only [List.getElem?_cons_zero, Option.some.injEq] at h
      rw [h, decide_eq_true rfl]
      rfl
    | succ j =>
      simp only [List.getElem?_cons_succ] at h
      have hne : ¬ q.1 = p.1 := fun e => nd.1 (by rw [e]; exact List.mem_map.mpr ⟨p, List.mem_of_getElem? h, rfl⟩)
      rw [decide_eq_false hne]
      exact ih nd.2 h
theorem paired_of {α β : Type} {R : α → β → Prop} : ∀ {xs : List α} {ys : List β}, xs.length = ys.length → (∀ (j : Nat) x y, xs[j]? = some x → ys[j]? = some y → R x y) → Paired R xs ys
  | [], [], _, _ => .nil
  | x :: xs, y :: ys, h, f => .cons (f 0 x y rfl rfl) (paired_of (by simpa using h) fun j a b h1 h2 => f (j + 1) a b (by simpa using h1) (by simpa using h2))
theorem paired_both {α β : Type} {R : α → β → Prop} {xs : List α} {ys : List β} (h : Paired R xs ys) : ∀ {j : Nat} {x : α} {y : β}, xs[j]? = some x → ys[j]? = some y → R x y := by
  intro j x y hx hy
  obtain ⟨z, hz, r⟩ := paired_get h hx
  rw [hy] at hz
  cases hz
  exact r
/-- lots of the program made of the pairs of a dict's row -/
theorem lots_of {C : Addr} {H H' : Hp} {l : Addr} {ws : List Int} {W : Int} {as : List Addr} (p : Prs H l ws W) (hl : as.length = (ws.map fun w => (rn w W, rd w W)).length)
    (hr : ∀ (j : Nat) a (q : Int × Int), as[j]? = some a → (ws.map fun w => (rn w W, rd w W))[j]? = some q → RatAt C H' a (rn q.1 q.2) (rd q.1 q.2)) : Lots C H' as ws W := by
  refine ⟨by rw [hl, List.length_map], fun i a w ha hw => ?_, p.pos, p.big, p.small, p.few⟩
  have h1 := hr i a (rn w W, rd w W) ha (by rw [List.getElem?_map, hw]; rfl)
  obtain ⟨e1, e2⟩ := rn_rn (w := w) p.pos
  have h1 : RatAt C H' a (rn (rn w W) (rd w W)) (rd (rn w W) (rd w W)) := h1
  rw [e1, e2] at h1
  exact h1
theorem bd_rd {w W : Int} (h0 : 0 < W) (h : W ≤ 1000000) : 0 < rd w W ∧ Bd 8000 (rd w W) :=
  ⟨rd_pos h0, (Bd.rd h0 (Bd.of_small (by omega) (by decide) : Bd 1000 W)).le (by decide)⟩
section
variable {P : Program} {w : World} {K : PySem.W.Frag} {mg : Str → Option Value} {base : Heap} {C BR CP LE BP fB : Addr}
theorem scMP : FnScope ["plan", "view", "num", "den"] ["plan"] (defScope sMade) := ⟨rfl, rfl, rfl, by decide +kernel, rfl, by decide +kernel, by decide +kernel⟩
theorem ok_made {f fI fR : Addr} {fd fdI fdR : FuncData} {ds : List Value} (F : Fun K "_law_made_plan" "_law_made_plan" sMade f fd) (T : Txt K mg C BR) (TP : TxP K mg CP) (M : Mk K CP fI) (G : FnOk P w K mg base (L2N.CX P w) 5 fI fdI ["self", "entries"] (spPlan P w K C CP BP)) (bI : L2.Binds K fdI ["self", "entries"] [])
    (MR : Mk K C fR) (GR : FnOk P w K mg base (L2.CX P w) 1 fR fdR ["self", "num", "den"] (spInit C BR)) (bR : L2.Binds K fdR ["self", "num", "den"] []) :
    FnOk P w K mg base CX0 7 f fd ["plan"] (spMade P w K C CP) := by
  refine F.ok scMP (fun vs H Q E h => ?_) (fun cdv A outer s H vs Q E hr h => ?_)
  · obtain ⟨d, rs, rfl, _⟩ := h
    rfl
  · obtain ⟨d, rs, rfl, kd, hrs, hz, q⟩ := h
    have hr2 : Room 2 _ := hr.mono (by decide)
    have hu64 : (A.deeper (envOfC "_law_made_plan" (defScope sMade) s.heap.objs.size f cdv)).units + 64 < cLine := by have := hr.un; omega
    refine ⟨_, pss_one (ps_ret (pe_make M G hr rfl TP.mgP bI .nil passN (pa_cons (pe_lc (own := [("view", 1)]) (g := gName 1) (tt := tYes) (te := tTup (tCons (tVar 1) (tCons (tLc (iList K (tOp (rIxK P w) (tVar 0) (tVar 1))) (gTup K 2 (gCons (gName 2) (gCons (gName 3) gNil))) tYes (tMake C (spInit C BR) [] E0 (tCons (tVar 2) (tCons (tVar 3) tNil))) [2, 3]) tNil))) rfl scMP.nd (pi_kd (pv 0)) (blkOk_by (N := ["plan", "view", "num", "den"]) (sc := defScope sMade) (by decide +kernel))
      (fun _ _ _ _ _ => pg_name (i := 1) scMP.nd rfl (Or.inl rfl)) (fun _ _ _ _ _ => pts_nil)
      (fun _ _ _ _ _ => pe_tup (pa_cons (pv 1) (pa_cons (pe_lc (own := [("num", 2), ("den", 3)]) (g := gTup K 2 (gCons (gName 2) (gCons (gName 3) gNil))) (tt := tYes) (wi := iList K (tOp (rIxK P w) (tVar 0) (tVar 1))) (te := tMake C (spInit C BR) [] E0 (tCons (tVar 2) (tCons (tVar 3) tNil))) rfl scMP.nd (pi_listK (by rfl) (pe_ix (ix_KF (P := P) (w := w) (by rfl) (by rfl) hu64) (pv 0) (pv 1) (fun _ _ => rfl))) (blkOk_by (N := ["plan", "view", "num", "den"]) (sc := relS { kind := .function, names := [((".0" : Str), .local), ("view", .local), ("plan", .free)], isGenerator := false, isCoroutine := false } (defScope sMade)) (by decide +kernel))
        (fun _ _ _ _ _ => pg_tup rfl (pgs_cons (pg_name (i := 2) scMP.nd rfl (Or.inl rfl)) (pgs_cons (pg_name (i := 3) scMP.nd rfl (Or.inl rfl)) pgs_nil))) (fun _ _ _ _ _ => pts_nil)
        (fun _ _ _ _ _ => pe_make MR GR hr2 rfl T.mgC bR .nil passL (pa_cons (pv 2) (pa_cons (pv 3) pa_nil)))) pa_nil)))) pa_nil))), ?_⟩
    refine ⟨_, rfl, d, _, rfl, kd, fun es ep hd D hD => ?_⟩
    have R0 : ∀ (j : Nat) x, rs[j]? = some x → DROk H x ∧ lotsB x.ws x.W = true := fun j x hx => hrs x (List.mem_of_getElem? hx)
    refine lc_kd (d := d) (es := es) (ep := ep) (kvs := rs.map DR.kv) (fun i H' => ∃ rows : List Row, rows.length = i ∧ H' D = some (.lst (rows.map fun r => V.ref r.e)) ∧ (∀ r ∈ rows, RowOk K C H' r ∧ r.la ≠ D) ∧ (∀ (j : Nat) r x, rows[j]? = some r → rs[j]? = some x → r.key = x.key ∧ r.ws = x.ws ∧ r.W = x.W) ∧ Same H H')
      ⟨[], rfl, upd_same, (fun r hr => nomatch hr), (fun j r x z => by simp at z), same_upd hD⟩ (fun i H' _ ⟨_, _, _, _, _, s'⟩ => s' _ _ hd) ?_ ?_
    · rintro i p H' hp ⟨rows, hl, eD, hrow, rel, s'⟩
      obtain ⟨x, hx, rfl⟩ := Option.map_eq_some_iff.mp ((List.getElem?_map ..).symm.trans hp)
      obtain ⟨X0, lx⟩ := R0 i x hx
      have X1 := X0.same s'
      obtain ⟨ts, hts, hlen, hpt⟩ := X1.pr.at_
      have hil : i < rs.length := (List.getElem?_eq_some_iff.mp hx).1
      have hlt : ts.length = (x.ws.map fun w => (rn w x.W, rd w x.W)).length := by rw [hlen, List.length_map]
      refine ⟨rfl, tYesI ⟨_, rfl, _, rfl, _, rfl, x.va, d, x.key, _, .ref x.l, rfl, rfl, kd.same s', X1.hv, X1.dv, atK_get kd.nd hp, x.l, rfl, ⟨_, SqL.of hts⟩, fun D2 hD2 => ?_⟩⟩
      refine lc_rats (ts := ts) (prs := x.ws.map fun w => (rn w x.W, rd w x.W)) (by rw [← hlt]; have w := walk_list (K := K) (a := x.l) (xs := ts.map V.ref); rw [List.length_map] at w; exact w) hlt (by rw [List.length_map]; have := X1.pr.few; omega) (fun j t q h1 h2 => ?_) (fun q hq => ?_) (by decide) (by show 2 < 4; decide) (by show 3 < 4; decide) hD2 (fun H2 s2 => SqL.of (s2 _ _ hts)) fun as H3 hal eD2 hR s3 => ?_
      · obtain ⟨w, hw, rfl⟩ := Option.map_eq_some_iff.mp ((List.getElem?_map ..).symm.trans h2)
        exact hpt j t w h1 hw
      · obtain ⟨w, hw, rfl⟩ := List.mem_map.mp hq
        exact bd_rd X1.pr.pos X1.pr.big
      · refine ⟨by show 2 ≤ sizeLine; decide, fun e2 he2 => ?_⟩
        have L3 := lots_of (X1.pr.same s3) hal hR
        have s4 : Same H' (upd H3 e2 (.tup [.ref x.va, .ref D2])) := s3.trans (same_upd he2)
        have X4 := X1.same s4
        have eD4 := s4 _ _ eD
        have hDD : D2 ≠ D := fun e => by rw [e, eD] at hD2; cases hD2
        have kD : ∀ b o, upd H3 e2 (.tup [.ref x.va, .ref D2]) b = some o → b ≠ D → upd (upd H3 e2 (.tup [.ref x.va, .ref D2])) D (.lst (rows.map (fun r => V.ref r.e) ++ [V.ref e2])) b = some o := fun b o z hb => by rw [upd_ne hb]; exact z
        have hla : upd H3 e2 (.tup [.ref x.va, .ref D2]) D2 = some (.lst (as.map V.ref)) := by rw [upd_ne (ne_of_none eD2 he2)]; exact eD2
        have R4 : RowOk K C (upd H3 e2 (.tup [.ref x.va, .ref D2])) ⟨e2, x.va, x.key, D2, as, x.ws, x.W⟩ := ⟨upd_same, X4.hv, X4.sv, X4.dv, .inl hla, L3.same (same_upd he2)⟩
        refine ⟨_, eD4, by rw [List.length_map, hl]; exact Nat.lt_of_lt_of_le (show i < 1001 by omega) (by decide), rows ++ [⟨e2, x.va, x.key, D2, as, x.ws, x.W⟩], by rw [List.length_append, hl]; rfl, by rw [upd_same, List.map_append]; rfl, fun r hr => ?_, fun j r y hj hy => ?_, fun b o z => ?_⟩
        · rcases List.mem_append.mp hr with hr | hr
          · exact ⟨((hrow r hr).1.ext s4).keepD eD4 (hrow r hr).2 kD, (hrow r hr).2⟩
          · rw [List.mem_singleton.mp hr]
            exact ⟨R4.keepD eD4 hDD kD, hDD⟩
        · rcases get_snoc hj with ⟨_, hj2⟩ | ⟨hj2, rfl⟩
          · exact rel j r y hj2 hy
          · rw [hj2, hl, hx] at hy
            cases hy
            exact ⟨rfl, rfl, rfl⟩
        · rw [upd_ne (ne_of_none z hD)]
          exact s4 _ _ (s' _ _ z)
    · rintro H' ⟨rows, hl, eD, hrow, rel, s'⟩
      rw [List.length_map] at hl
      intro p dx np ndx ndp
      have sp : Same H' (upd (upd H' dx (.own p)) p (.ins CP dx [])) := fun b o z => by
        rw [upd_ne (ne_of_none z np), upd_ne (ne_of_none z ndx)]
        exact z
      have hkeys : rows.map (·.key) = (rs.map DR.kv).map (·.1) := by
        rw [List.map_map]
        refine List.ext_getElem? fun j => ?_
        rw [List.getElem?_map, List.getElem?_map]
        by_cases hj : j < rs.length
        · obtain ⟨e, _⟩ := rel j rows[j] rs[j] (List.getElem?_eq_getElem (by omega)) (List.getElem?_eq_getElem hj)
          rw [List.getElem?_eq_getElem hj, List.getElem?_eq_getElem (by omega)]
          exact congrArg some e
        · rw [List.getElem?_eq_none (by omega), List.getElem?_eq_none (by omega)]
          rfl
      have hgood : badFrom [] 0 rows = none := by
        refine badFrom_none rows [] 0 (fun r hr => ?_) (by rw [List.nil_append, hkeys]; exact kd.nd)
        obtain ⟨j, hj⟩ := List.getElem?_of_mem hr
        have hj2 : j < rs.length := by
          have := (List.getElem?_eq_some_iff.mp hj).1
          omega
        obtain ⟨_, e1, e2⟩ := rel j r rs[j] hj (List.getElem?_eq_getElem hj2)
        rw [e1, e2]
        exact (R0 j rs[j] (List.getElem?_eq_getElem hj2)).2
      refine ⟨p, dx, D, rows, rfl, upd_same, sp _ _ eD, fun r hr => (hrow r hr).1.ext sp, by omega, fun n hb => ?_, fun hb H2 xs PA pr PL kp => ⟨rfl, ?_⟩⟩
      · rw [hgood] at hb
        cases hb
      · refine q p H2 xs (s'.trans (Same.made np ndx kp)) PA (paired_of (by rw [← hl, pr.length]) fun j x y hx hy => ?_)
        have hj : j < rows.length := by
          have := (List.getElem?_eq_some_iff.mp hx).1
          omega
        obtain ⟨e1, e2, e3⟩ := rel j rows[j] x (List.getElem?_eq_getElem hj) hx
        obtain ⟨f1, _, f3, _⟩ := paired_both pr (List.getElem?_eq_getElem hj) hy
        refine ⟨f1.trans e1, f3.trans ?_⟩
        unfold Row.lots DR.lots
        rw [e2, e3]
end
end K0

set_option Elab.async false
set_option linter.all false
set_option maxRecDepth 100000
set_option maxHeartbeats 4000000
namespace K0
open PySem PySem.Spec PyProof.Rows L2 Kx Kh Kd
structure TxQ (mg : Str → Option Value) : Prop where
  sum : mg "sum" = none
  max : mg "max" = none
  min : mg "min" = none
  dict : mg "dict" = none
/-- a list of numbers of one's own beside the pool -/
structure WS (H0 H' : Hp) (p l : Addr) (b : Int) (ns : List Int) : Prop where
  pool : PoolAt H' p b
  kp : Kp p H0 H'
  hl : H' l = some (.lst (ns.map V.int))
theorem WS.draw {H0 H1 H2 : Hp} {p l : Addr} {b : Int} {ns : List Int} (h : WS H0 H1 p l b ns) (hn : l ≠ p) (P : PoolAt H2 p b) (k : Kp p H1 H2) : WS H0 H2 p l b ns := ⟨P, h.kp.trans k, k _ _ h.hl hn⟩
theorem WS.set {H0 H1 : Hp} {p l : Addr} {b : Int} {ns : List Int} (h : WS H0 H1 p l b ns) (P0 : PoolAt H0 p b) (hn : H0 l = none) (ms : List Int) : WS H0 (upd H1 l (.lst (ms.map V.int))) p l b ms :=
  ⟨PoolAt.own P0 hn h.kp h.pool, Kp.own P0 hn h.kp, upd_same⟩
theorem WS.same {H0 H1 H2 : Hp} {p l : Addr} {b : Int} {ns : List Int} (h : WS H0 H1 p l b ns) (s : Same H1 H2) : WS H0 H2 p l b ns := ⟨h.pool.same s, h.kp.trans (Kp.same s), s _ _ h.hl⟩
/-- small numbers -/
def Sm (m : Nat) (ns : List Int) : Prop := ∀ w ∈ ns, w.natAbs ≤ m
theorem Sm.set {m : Nat} {ns : List Int} {j : Nat} {x : Int} (h : Sm m ns) (hx : x.natAbs ≤ m) : Sm m (ns.set j x) := fun w hw => by
  rcases List.mem_or_eq_of_mem_set hw with hw | rfl
  · exact h w hw
  · exact hx
theorem Sm.mono {m n : Nat} {ns : List Int} (h : Sm m ns) (hm : m ≤ n) : Sm n ns := fun w hw => Nat.le_trans (h w hw) hm
theorem int_set (ns : List Int) (j : Nat) (x : Int) : (ns.map V.int).set j (.int x) = (ns.set j x).map V.int := by rw [List.map_set]
theorem ixN_of {n : Nat} {k : Int} (h0 : 0 ≤ k) (h1 : k < n) : ixN n k = some k.toNat := by
  unfold ixN
  rw [if_pos h0, if_pos h1]
theorem at_of {ns : List Int} {k : Int} (h0 : 0 ≤ k) (h1 : k < ns.length) : ∃ x, x ∈ ns ∧ atI (ns.map V.int) k = some (.int x) := atN h0 h1
theorem sum_bound : ∀ {ns : List Int}, (∀ w ∈ ns, 0 ≤ w ∧ w ≤ 4) → 0 ≤ ns.sum ∧ ns.sum ≤ 4 * (ns.length : Int)
  | [], _ => by simp
  | x :: xs, h => by
    obtain ⟨h1, h2⟩ := h x (List.mem_cons_self ..)
    obtain ⟨h3, h4⟩ := sum_bound fun w hw => h w (List.mem_cons_of_mem _ hw)
    rw [List.sum_cons, List.length_cons]
    omega
theorem Kp.free {H H' : Hp} {p l : Addr} {b : Int} (k : Kp p H H') (P : PoolAt H' p b) (h : H' l = none) : H l = none := by
  cases e : H l with
  | none => rfl
  | some o =>
    rw [k.all l o e (P.ne0 h)] at h
    cases h
theorem WS.ini {H : Hp} {p l : Addr} {b : Int} (P : PoolAt H p b) (h : H l = none) : WS H (upd H l (.lst [])) p l b [] := ⟨P.same (same_upd h), Kp.same (same_upd h), upd_same⟩
theorem WS.from {H0 H1 H2 : Hp} {p l : Addr} {b : Int} {ns : List Int} (h : WS H1 H2 p l b ns) (k : Kp p H0 H1) : WS H0 H2 p l b ns := ⟨h.pool, k.trans h.kp, h.hl⟩
def spWts : Sp := fun vs H Q _ => ∃ (p : Addr) (b : Int), vs = [.ref p] ∧ PoolAt H p b ∧ ∀ (t l : Addr) (ws : List Int) (W : Int) (H' : Hp), H' t = some (.tup [.ref l, .int W]) → H l = none → 1 ≤ W → W ≤ 1000 → ws.length ≤ 10 → Sm 1000 ws → WS H H' p l b ws → Q (.ref t) H'
section
variable {P : Program} {w : World} {K : PySem.W.Frag} {mg : Str → Option Value} {base : Heap} {fD : Addr} {dD : FuncData}
theorem scW : FnScope ["pool", "weights", "whole", "way", "at", "less", "others", "part", "first", "second", "k"] ["pool"] (defScope sWts) := ⟨rfl, rfl, rfl, by decide +kernel, rfl, by decide +kernel, by decide +kernel⟩
theorem ok_wts {f : Addr} {fd : FuncData} (F : Fun K "_law_weights" "_law_weights" sWts f fd) (T : TxL mg) (TQ : TxQ mg) (D1 : Fn0 P w K mg base 1 "_law_draw" ["pool", "size"] spDraw fD dD) : FnOk P w K mg base CX0 2 f fd ["pool"] spWts := by
  refine F.ok scW (fun vs H Q E h => ?_) (fun cdv A outer s H vs Q E hr h => ?_)
  · obtain ⟨p, b, rfl, _⟩ := h
    rfl
  · obtain ⟨p, b, rfl, P0, q⟩ := h
    have hrest6 : ∃ t, PSs (cxOf CX0 P w K mg base ["pool", "weights", "whole", "way", "at", "less", "others", "part", "first", "second", "k"] "_law_weights" (defScope sWts) f cdv A outer s H E).nox ((defBody sWts).drop 6) t ∧
        ∀ (H' : Hp) (l : Addr) (ws : List Int) (W : Int) (v3 v4 v5 v6 v7 v8 v9 v10 : Option V) (y : Int), v3 = some (.int y) → H l = none → 1 ≤ W → W ≤ 20 → ws.length ≤ 10 → Sm 1000 ws → WS H H' p l b ws → t { nx := fun _ H' => Q .non H', rt := Q } [some (.ref p), some (.ref l), some (.int W), v3, v4, v5, v6, v7, v8, v9, v10] H' := by
      refine ⟨_, pss_cons (ps_if (pt_cmpR op_eq (pv 3) pe_int (nomark _))
          (pss_one (ps_set (i := 2) scW.nd rfl (Or.inl rfl) (pe_callB (call_max2 rfl) (by rfl) TQ.max (by decide +kernel) (pa_cons pe_int (pa_cons (pe_op op_add (pv 2) (pe_ix ix_tup (pe_tup (pa_cons pe_int (pa_cons (pe_un un_neg pe_int) (pa_cons (pv 2) (pa_cons (pe_op op_sub pe_int (pe_op op_fdivN (pv 2) pe_int)) pa_nil)))) ) (pe_call D1.ok hr (by rfl) D1.gl D1.kp D1.bd .nil pass0 (pa_cons (pv 0) (pa_cons pe_int pa_nil))) (fun _ _ => rfl))) pa_nil))))) pss_nil)
        (pss_one (ps_ret (pe_tup (pa_cons (pv 1) (pa_cons (pv 2) pa_nil))))), ?_⟩
      rintro H' l ws W v3 v4 v5 v6 v7 v8 v9 v10 y rfl hl hW hW2 hz hs ws'
      have fin : ∀ (H2 : Hp) (W2 : Int), 1 ≤ W2 → W2 ≤ 1000 → WS H H2 p l b ws → tRet (tTup (tCons (tVar 1) (tCons (tVar 2) tNil))) { nx := fun _ H' => Q .non H', rt := Q } [some (.ref p), some (.ref l), some (.int W2), some (.int y), v4, v5, v6, v7, v8, v9, v10] H2 := by
        intro H2 W2 h1 h2 w2
        refine ⟨_, rfl, _, rfl, by show 2 ≤ sizeLine; decide, fun t ht => ?_⟩
        exact q t l ws W2 _ upd_same hl h1 h2 hz hs (w2.same (same_upd ht))
      refine ⟨_, rfl, rfl, _, rfl, ite2 (fun _ => ?_) (fun _ => fin H' W hW (by omega) ws')⟩
      refine ⟨_, rfl, _, rfl, _, rfl, _, rfl, _, _, rfl, rfl, ⟨by decide, by decide⟩, _, _, rfl, rfl, by show 4 ≤ sizeLine; decide, fun tp htp => ?_⟩
      have lp := P0.ne0 hl
      have w1 := ws'.same (same_upd (o := .tup [.int 1, .int (-1), .int W, .int (0 - W.fdiv 2)]) htp)
      refine ⟨_, rfl, p, 4, b, rfl, w1.pool, by decide, by decide, fun j H2 j0 j1 P2 k2 => ?_⟩
      have w2 := w1.draw lp P2 k2
      have etp : H2 tp = some (.tup [.int 1, .int (-1), .int W, .int (0 - W.fdiv 2)]) := k2 _ _ upd_same (ws'.pool.ne0 htp)
      obtain ⟨n, hn, en⟩ := atN (xs := [1, -1, W, 0 - W.fdiv 2]) j0 j1
      refine ⟨tp, _, _, _, rfl, rfl, SqT.of etp, en, _, _, rfl, rfl, _, _, rfl, ?_⟩
      have hfd : W.fdiv 2 = W / 2 := Int.fdiv_eq_ediv_of_nonneg W (by decide)
      have hb : n ≤ 20 := by
        simp only [List.mem_cons, List.not_mem_nil, or_false] at hn
        rcases hn with rfl | rfl | rfl | rfl <;> omega
      refine fin H2 _ ?_ ?_ w2 <;> split <;> omega
    obtain ⟨t6, ht6, rest6⟩ := hrest6
    have hr1 : Room 1 _ := hr
    have dr : ∀ {e : Expr} {te : TE} {p1 p2 p3 : Pos}, True := fun {_ _ _ _ _} => trivial
    refine ⟨_, pss_cons (ps_setLc (i := 1) (own := [("k", 10)]) (g := gName 10) (tt := tYes) rfl scW.nd rfl rfl (sw_true rfl rfl rfl (by decide +kernel)) (pi_range1 rfl T.range (pa_cons (pe_op op_add pe_int (pe_call D1.ok hr (by rfl) D1.gl D1.kp D1.bd .nil pass0 (pa_cons (pv 0) (pa_cons pe_int pa_nil)))) pa_nil)) (blkOk_by (N := ["pool", "weights", "whole", "way", "at", "less", "others", "part", "first", "second", "k"]) (sc := defScope sWts) (by decide +kernel))
        (fun _ _ _ _ _ => pg_name (i := 10) scW.nd rfl (Or.inl rfl)) (fun _ _ _ _ _ => pts_nil) (fun _ _ _ _ _ => pe_call D1.ok hr (by rfl) D1.gl D1.kp D1.bd .nil pass0 (pa_cons (pv 0) (pa_cons pe_int pa_nil))))
      (pss_cons (ps_asg (pe_op op_add (pe_ix ix_list (pv 1) pe_int (fun _ _ => rfl)) (pe_callTy call_int1 (by rfl) T.int (by decide +kernel) (pa_cons (pe_cmpR op_eq (pe_callB (cr_sum rfl) (by rfl) TQ.sum (by decide +kernel) (pa_cons (pv 1) pa_nil)) pe_int (nomark _)) pa_nil))) (pg_sub (pv 1) pe_int set_list))
      (pss_cons (ps_set (i := 2) scW.nd rfl (Or.inl rfl) (pe_callB (cr_sum rfl) (by rfl) TQ.sum (by decide +kernel) (pa_cons (pv 1) pa_nil)))
      (pss_cons (ps_set (i := 3) scW.nd rfl (Or.inl rfl) (pe_call D1.ok hr (by rfl) D1.gl D1.kp D1.bd .nil pass0 (pa_cons (pv 0) (pa_cons pe_int pa_nil))))
      (pss_cons (ps_if (pt_cmpR op_eq (pv 3) pe_int (nomark _)) (pss_one (ps_ret (pe_tup (pa_cons (pe_lst pa_nil) (pa_cons pe_int pa_nil))))) pss_nil)
      (pss_cons (ps_if (pt_cmpR op_eq (pv 3) pe_int (nomark _))
        (pss_cons (ps_set (i := 4) scW.nd rfl (Or.inr rfl) (pe_call D1.ok hr (by rfl) D1.gl D1.kp D1.bd .nil pass0 (pa_cons (pv 0) (pa_cons (pe_op op_add (pe_callB call_len_seq (by rfl) T.len PySem.boot_len (pa_cons (pv 1) pa_nil)) pe_int) pa_nil))))
        (pss_cons (ps_set (i := 5) scW.nd rfl (Or.inl rfl) (pe_op op_add pe_int (pe_call D1.ok hr (by rfl) D1.gl D1.kp D1.bd .nil pass0 (pa_cons (pv 0) (pa_cons (pe_op op_mul pe_int (pv 2)) pa_nil)))))
        (pss_cons (ps_expr (pe_bm PySem.F.plainAttrs_list PySem.F.slot_list_insert PySem.F.type_list_insert mt_insert (pv 1) (pa_cons (pv 4) (pa_cons (pe_op op_sub pe_int (pv 5)) pa_nil))))
        (pss_cons (ps_setLc (i := 6) (own := [("k", 10)]) (g := gName 10) rfl scW.nd rfl rfl (sw_true rfl rfl rfl (by decide +kernel)) (pi_range1 rfl T.range (pa_cons (pe_callB call_len_seq (by rfl) T.len PySem.boot_len (pa_cons (pv 1) pa_nil)) pa_nil)) (blkOk_by (N := ["pool", "weights", "whole", "way", "at", "less", "others", "part", "first", "second", "k"]) (sc := defScope sWts) (by decide +kernel))
          (fun _ _ _ _ _ => pg_name (i := 10) scW.nd rfl (Or.inl rfl)) (fun _ _ _ _ _ => pts_one (pt_cmpR op_ne (pv 10) (pv 4) (nomark _))) (fun _ _ _ _ _ => pv 10))
        (pss_cons (ps_set (i := 7) scW.nd rfl (Or.inl rfl) (pe_call D1.ok hr (by rfl) D1.gl D1.kp D1.bd .nil pass0 (pa_cons (pv 0) (pa_cons (pe_op op_add (pv 5) pe_int) pa_nil))))
        (pss_cons (ps_set (i := 8) scW.nd rfl (Or.inl rfl) (pe_ix ix_list (pv 6) (pe_call D1.ok hr (by rfl) D1.gl D1.kp D1.bd .nil pass0 (pa_cons (pv 0) (pa_cons (pe_callB call_len_seq (by rfl) T.len PySem.boot_len (pa_cons (pv 6) pa_nil)) pa_nil))) (fun _ _ => rfl)))
        (pss_cons (ps_asg (pe_op op_add (pe_ix ix_list (pv 1) (pv 8) (fun _ _ => rfl)) (pv 7)) (pg_sub (pv 1) (pv 8) set_list))
        (pss_cons (ps_set (i := 9) scW.nd rfl (Or.inl rfl) (pe_ix ix_list (pv 6) (pe_call D1.ok hr (by rfl) D1.gl D1.kp D1.bd .nil pass0 (pa_cons (pv 0) (pa_cons (pe_callB call_len_seq (by rfl) T.len PySem.boot_len (pa_cons (pv 6) pa_nil)) pa_nil))) (fun _ _ => rfl)))
        (pss_one (ps_asg (pe_op op_sub (pe_op op_add (pe_ix ix_list (pv 1) (pv 9) (fun _ _ => rfl)) (pv 5)) (pv 7)) (pg_sub (pv 1) (pv 9) set_list))))))))))) pss_nil) ht6))))), ?_⟩
    -- the weights
    refine ⟨_, rfl, p, 4, b, rfl, P0, by decide, by decide, fun c H1 c0 c1 P1 k1 => ⟨_, _, rfl, rfl, 1 + c, rfl, by omega, by omega, fun l hl1 => ?_⟩⟩
    have hl0 := Kp.free k1 P1 hl1
    have lp := P1.ne0 hl1
    refine lc_range (lo := 0) (n := (1 + c).toNat) (fun i H' => ∃ ns : List Int, ns.length = i ∧ (∀ w ∈ ns, 0 ≤ w ∧ w ≤ 3) ∧ WS H1 H' p l b ns) ⟨[], rfl, (fun w hw => nomatch hw), WS.ini P1 hl1⟩ ?_ ?_
    · rintro i H2 hi ⟨ns, hlen, hb, w2⟩
      refine ⟨rfl, tYesI ⟨_, rfl, p, 4, b, rfl, w2.pool, by decide, by decide, fun v H3 v0 v1 P3 k3 => ?_⟩⟩
      have w3 := w2.draw lp P3 k3
      have w4 := w3.set P1 hl1 (ns ++ [v])
      refine ⟨_, w3.hl, by rw [List.length_map, hlen]; exact Nat.lt_of_lt_of_le (show i < 5 by omega) (by decide), ns ++ [v], by rw [List.length_append, hlen]; rfl, fun w hw => ?_, ?_⟩
      · rcases List.mem_append.mp hw with hw | hw
        · exact hb w hw
        · rw [List.mem_singleton.mp hw]
          omega
      · rw [List.map_append] at w4
        exact w4
    · rintro H2 ⟨ns, hlen, hb, w2⟩
      obtain ⟨n0, r, rfl⟩ : ∃ n0 r, ns = n0 :: r := by
        cases ns with
        | nil =>
          rw [List.length_nil] at hlen
          omega
        | cons a r => exact ⟨a, r, rfl⟩
      have w2 := w2.from k1
      have hin : ixN ((n0 :: r).map V.int).length 0 = some 0 := ixN_of (by decide) (by rw [List.length_map, List.length_cons]; omega)
      refine ⟨_, rfl, l, _, _, _, rfl, rfl, SqL.of w2.hl, atI_nat (j := 0) rfl, _, rfl, l, _, rfl, SqL.of w2.hl, rfl, .inr ⟨_, rfl, _, _, rfl, rfl, _, rfl, l, _, _, 0, rfl, rfl, w2.hl, hin, ?_⟩⟩
      obtain ⟨X, hX⟩ : ∃ X, X = n0 + (if decide (V.int (n0 :: r).sum = V.int 0) = true then (1 : Int) else 0) := ⟨_, rfl⟩
      have hsum0 := sum_bound (ns := n0 :: r) fun w hw => ⟨(hb w hw).1, by have := (hb w hw).2; omega⟩
      have hns : ∀ w ∈ X :: r, 0 ≤ w ∧ w ≤ 4 := by
        intro w hw
        rcases List.mem_cons.mp hw with rfl | hw
        · have := hb n0 (List.mem_cons_self ..)
          rw [hX]
          split <;> omega
        · have := hb w (List.mem_cons_of_mem _ hw)
          omega
      have hlenX : (X :: r).length ≤ 4 := by
        rw [List.length_cons] at hlen ⊢
        omega
      have hW : 1 ≤ (X :: r).sum ∧ (X :: r).sum ≤ 16 := by
        have h1 := sum_bound hns
        refine ⟨?_, by omega⟩
        rw [List.sum_cons] at h1 ⊢
        rw [List.sum_cons] at hsum0 hX
        by_cases z : n0 + r.sum = 0
        · rw [if_pos (decide_eq_true (by rw [z]))] at hX
          omega
        · rw [if_neg (fun e => z (V.int.inj (of_decide_eq_true e)))] at hX
          omega
      have hsm : Sm 1000 (X :: r) := fun w hw => by have := hns w hw; omega
      have hset : ((n0 :: r).map V.int).set 0 (V.int (n0 + b2i (decide (V.int (n0 :: r).sum = V.int 0)))) = (X :: r).map V.int := by
        rw [hX]
        show V.int _ :: _ = V.int _ :: _
        congr 2
      show tSeq _ _ _ _ (upd H2 l (.lst (((n0 :: r).map V.int).set 0 (V.int (n0 + b2i (decide (V.int (n0 :: r).sum = V.int 0)))))))
      rw [hset]
      have w3 := w2.set P0 hl0 (X :: r)
      generalize hns' : X :: r = ns at *
      refine ⟨_, rfl, l, ns, rfl, SqL.of w3.hl, ?_⟩
      refine ⟨_, rfl, p, 14, b, rfl, w3.pool, by decide, by decide, fun y H4 y0 y1 P4 k4 => ?_⟩
      have w4 := w3.draw lp P4 k4
      refine ⟨_, rfl, rfl, _, rfl, ite2 (fun _ => ?_) (fun _ => ?_)⟩
      · refine ⟨Nat.zero_le _, fun e he => ⟨by show 2 ≤ sizeLine; decide, fun t ht => ?_⟩⟩
        have s1 := same_upd (o := .lst []) he
        have s2 := same_upd (o := .tup [.ref e, .int 1]) ht
        exact q t e [] 1 _ upd_same (Kp.free w4.kp w4.pool he) (by decide) (by decide) (by decide) (fun w hw => nomatch hw) ⟨(w4.pool.same s1).same s2, w4.kp.trans ((Kp.same s1).trans (Kp.same s2)), s2 _ _ upd_same⟩
      · refine ⟨_, rfl, rfl, _, rfl, ite2 (fun _ => ?_) (fun _ => rest6 H4 l ns ns.sum _ _ _ _ _ _ _ _ y rfl hl0 hW.1 (by omega) (by omega) hsm w4)⟩
        -- at
        refine ⟨_, rfl, _, rfl, l, _, rfl, .inl (SqL.of w4.hl), _, _, rfl, rfl, p, _, b, rfl, w4.pool, by rw [List.length_map]; omega, by rw [List.length_map]; omega, fun a H5 a0 a1 P5 k5 => ?_⟩
        rw [List.length_map] at a1
        have w5 := w4.draw lp P5 k5
        -- less
        refine ⟨_, rfl, _, rfl, _, _, rfl, rfl, .inl ⟨by decide, by decide⟩, p, _, b, rfl, w5.pool, by omega, by omega, fun z H6 z0 z1 P6 k6 => ⟨_, _, rfl, rfl, ?_⟩⟩
        have w6 := w5.draw lp P6 k6
        -- insert
        refine ⟨_, rfl, .inl ⟨rfl, _, SqL.of w6.hl⟩, _, rfl, _, rfl, _, _, rfl, rfl, l, _, a, _, rfl, rfl, w6.hl, by rw [List.length_map]; exact Nat.lt_of_lt_of_le (show ns.length < 5 by omega) (by decide), a0, by omega, ?_⟩
        have hmap : (ns.map V.int).take a.toNat ++ [V.int (0 - (1 + z))] ++ (ns.map V.int).drop a.toNat = (ns.take a.toNat ++ [0 - (1 + z)] ++ ns.drop a.toNat).map V.int := by
          rw [List.map_append, List.map_append, List.map_take, List.map_drop]
          rfl
        rw [hmap]
        generalize hm : ns.take a.toNat ++ [0 - (1 + z)] ++ ns.drop a.toNat = ms
        have hml : ms.length = ns.length + 1 := by
          rw [← hm, List.length_append, List.length_append, List.length_take, List.length_drop, List.length_singleton]
          omega
        have hms : Sm 100 ms := by
          intro w hw
          rw [← hm] at hw
          rcases List.mem_append.mp hw with hw | hw
          · rcases List.mem_append.mp hw with hw | hw
            · have := hns w (List.mem_of_mem_take hw)
              omega
            · rw [List.mem_singleton.mp hw]
              omega
          · have := hns w (List.mem_of_mem_drop hw)
            omega
        have hnl : 1 ≤ ns.length := by
          rw [← hns', List.length_cons]
          omega
        have w7 := w6.set P0 hl0 ms
        -- others
        refine ⟨_, rfl, l, _, rfl, .inl (SqL.of w7.hl), _, rfl, by rw [List.length_map]; omega, by rw [List.length_map]; omega, fun D hD => ?_⟩
        have hDl : D ≠ l := (ne_of_none w7.hl hD).symm
        have hDp : D ≠ p := w7.pool.ne0 hD
        have w7D := w7.same (same_upd (o := .lst []) hD)
        refine lc_range (lo := 0) (n := ((ms.map V.int).length : Int).toNat) (fun i H' => ∃ os : List Int, H' D = some (.lst (os.map V.int)) ∧ (∀ o ∈ os, 0 ≤ o ∧ o < (ms.length : Int)) ∧ os.length ≤ i ∧ (1 ≤ os.length ∨ i = 0 ∨ (i = 1 ∧ a = 0)) ∧ WS H H' p l b ms) ⟨[], upd_same, (fun o ho => nomatch ho), Nat.le_refl _, .inr (.inl rfl), w7D⟩ ?_ ?_
        · rintro i H8 hi ⟨os, eD, ho, hol, hone, w8⟩
          rw [List.length_map] at hi
          have hi : i < ms.length := by omega
          refine ⟨rfl, _, rfl, _, rfl, rfl, _, rfl, ?_⟩
          rw [Int.zero_add]
          by_cases hia : (i : Int) = a
          · rw [show (!decide (V.int (i : Int) = V.int a)) = false by rw [decide_eq_true (by rw [hia])]; rfl]
            refine iteF ⟨os, eD, ho, by omega, ?_, w8⟩
            rcases hone with h | h | h
            · exact .inl h
            · exact .inr (.inr (by omega))
            · omega
          · rw [show (!decide (V.int (i : Int) = V.int a)) = true by rw [decide_eq_false (fun e => hia (V.int.inj e))]; rfl]
            refine iteT ⟨_, rfl, _, eD, by rw [List.length_map]; exact Nat.lt_of_lt_of_le (show os.length < 10 by omega) (by decide), os ++ [(i : Int)], by rw [upd_same, List.map_append]; rfl, fun o hoo => ?_, by rw [List.length_append, List.length_singleton]; omega, .inl (by rw [List.length_append, List.length_singleton]; omega), ?_⟩
            · rcases List.mem_append.mp hoo with hoo | hoo
              · exact ho o hoo
              · rw [List.mem_singleton.mp hoo]
                omega
            · have hD0 := Kp.free w7.kp w7.pool hD
              exact ⟨PoolAt.own P0 hD0 w8.kp w8.pool, Kp.own P0 hD0 w8.kp, by rw [upd_ne hDl.symm]; exact w8.hl⟩
        · rintro H8 ⟨os, eD, ho, hol, hone, w8⟩
          have hone : 1 ≤ os.length := by
            rw [List.length_map] at hone hol
            rcases hone with h | h | h <;> omega
          have hol5 : os.length ≤ 5 := by
            rw [List.length_map] at hol
            omega
          -- part
          refine ⟨_, rfl, _, rfl, _, _, rfl, rfl, p, _, b, rfl, w8.pool, by omega, by omega, fun pt H9 p0 p1 P9 k9 => ?_⟩
          have w9 := w8.draw lp P9 k9
          have eD9 := k9 _ _ eD hDp
          -- first
          refine ⟨_, rfl, _, rfl, _, rfl, D, _, rfl, .inl (SqL.of eD9), p, _, b, rfl, w9.pool, by rw [List.length_map]; omega, by rw [List.length_map]; omega, fun f1 H10 f0 f1' P10 k10 => ?_⟩
          rw [List.length_map] at f1'
          have w10 := w9.draw lp P10 k10
          have eD10 := k10 _ _ eD9 hDp
          obtain ⟨o1, ho1, eo1⟩ := atN (xs := os) f0 f1'
          obtain ⟨o10, o11⟩ := ho o1 ho1
          refine ⟨D, _, _, _, rfl, rfl, SqL.of eD10, eo1, ?_⟩
          obtain ⟨x1, hx1, ex1⟩ := atN (xs := ms) o10 o11
          have hb1 := hms x1 hx1
          refine ⟨_, rfl, _, rfl, l, _, _, _, rfl, rfl, SqL.of w10.hl, ex1, _, rfl, _, _, rfl, rfl, _, rfl, _, rfl, l, _, o1, _, rfl, rfl, w10.hl, ixN_of o10 (by rw [List.length_map]; exact o11), ?_⟩
          rw [int_set]
          have w11 := w10.set P0 hl0 (ms.set o1.toNat (x1 + pt))
          have hms2 : Sm 300 (ms.set o1.toNat (x1 + pt)) := (hms.mono (by decide)).set (by omega)
          have hml2 : (ms.set o1.toNat (x1 + pt)).length = ms.length := List.length_set
          generalize hm2 : ms.set o1.toNat (x1 + pt) = ms2 at *
          have eD11 : upd H10 l (.lst (ms2.map V.int)) D = some (.lst (os.map V.int)) := by
            rw [upd_ne hDl]
            exact eD10
          -- second
          refine ⟨_, rfl, _, rfl, _, rfl, D, _, rfl, .inl (SqL.of eD11), p, _, b, rfl, w11.pool, by rw [List.length_map]; omega, by rw [List.length_map]; omega, fun g1 H12 g0 g1' P12 k12 => ?_⟩
          rw [List.length_map] at g1'
          have w12 := w11.draw lp P12 k12
          have eD12 := k12 _ _ eD11 hDp
          obtain ⟨o2, ho2, eo2⟩ := atN (xs := os) g0 g1'
          obtain ⟨o20, o21⟩ := ho o2 ho2
          refine ⟨D, _, _, _, rfl, rfl, SqL.of eD12, eo2, ?_⟩
          obtain ⟨x2, hx2, ex2⟩ := atN (xs := ms2) o20 (by omega)
          have hb2 := hms2 x2 hx2
          refine ⟨_, rfl, _, rfl, l, _, _, _, rfl, rfl, SqL.of w12.hl, ex2, _, rfl, _, _, rfl, rfl, _, rfl, _, _, rfl, rfl, _, rfl, _, rfl, l, _, o2, _, rfl, rfl, w12.hl, ixN_of o20 (by rw [List.length_map]; omega), ?_⟩
          rw [int_set]
          exact rest6 _ l (ms2.set o2.toNat (x2 + (1 + z) - pt)) ns.sum _ _ _ _ _ _ _ _ y rfl hl0 hW.1 (by omega) (by rw [List.length_set]; omega) ((hms2.mono (by decide)).set (by omega)) (w12.set P0 hl0 _)
end
end K0

set_option Elab.async false
set_option linter.all false
set_option maxRecDepth 100000
set_option maxHeartbeats 4000000
namespace K0
open PySem PySem.Spec PyProof.Rows L2 Kx Kh Kd
/-! ### what stands as keys stand -/
def pairK (q : Int × Int) : NestedKey := .tup [.num q.1, .num q.2]
def entK (k : NestedKey) (qs : List (Int × Int)) : NestedKey := .tup [k, .tup (qs.map pairK)]
theorem nestPair {H : Hp} {t : Addr} {q : Int × Int} (h : PairT H t q) : Nest H (pairK q) (.ref t) := .tup h (.cons (.num _) (.cons (.num _) .nil))
theorem nestPairs {H : Hp} : ∀ {ts : List Addr} {qs : List (Int × Int)}, ts.length = qs.length → (∀ (j : Nat) t q, ts[j]? = some t → qs[j]? = some q → PairT H t q) → NestL H (qs.map pairK) (ts.map V.ref)
  | [], [], _, _ => .nil
  | t :: ts, q :: qs, h, f => .cons (nestPair (f 0 t q rfl rfl)) (nestPairs (by simpa using h) fun j a b h1 h2 => f (j + 1) a b (by simpa using h1) (by simpa using h2))
end K0
namespace Kd
open PySem PySem.Spec PyProof.Rows L2
theorem NestL.snoc {H : Hp} {k : NestedKey} {v : V} : ∀ {ks : List NestedKey} {vs : List V}, NestL H ks vs → Nest H k v → NestL H (ks ++ [k]) (vs ++ [v])
  | [], [], .nil, h => .cons h .nil
  | _ :: _, _ :: _, .cons a r, h => .cons a (NestL.snoc r h)
theorem NestL.length {H : Hp} : ∀ {ks : List NestedKey} {vs : List V}, NestL H ks vs → ks.length = vs.length
  | [], [], .nil => rfl
  | _ :: _, _ :: _, .cons a r => by rw [List.length_cons, List.length_cons, NestL.length r]
theorem NestL.get {H : Hp} : ∀ {ks : List NestedKey} {vs : List V}, NestL H ks vs → ∀ {i : Nat} {k : NestedKey} {v : V}, ks[i]? = some k → vs[i]? = some v → Nest H k v
  | _ :: _, _ :: _, .cons a r, 0, _, _, h1, h2 => by cases h1; cases h2; exact a
  | _ :: _, _ :: _, .cons a r, i + 1, _, _, h1, h2 => NestL.get r (by simpa using h1) (by simpa using h2)
end Kd
namespace K0
open PySem PySem.Spec PyProof.Rows L2 Kx Kh Kd
/-- keys that may be compared: no None, not too wide -/
inductive Okk : Nat → NestedKey → Prop where
  | num (n : Nat) (i : Int) : Okk n (.num i)
  | text (n : Nat) (z : Str) : Okk n (.text z)
  | tup (n : Nat) (ks : List NestedKey) (hl : ks.length ≤ 200000) (h : ∀ k ∈ ks, Okk n k) : Okk (n + 1) (.tup ks)
theorem Okk.mono : ∀ {n : Nat} {k : NestedKey}, Okk n k → ∀ {m : Nat}, n ≤ m → Okk m k := by
  intro n k h
  induction h with
  | num n i => exact fun _ => .num _ i
  | text n z => exact fun _ => .text _ z
  | tup n ks hl h ih =>
    intro m hm
    obtain ⟨m', rfl⟩ : ∃ m', m = m' + 1 := ⟨m - 1, by omega⟩
    exact .tup m' ks hl fun k hk => ih k hk (by omega)
theorem sd_nest {H : Hp} : ∀ {n : Nat} {k : NestedKey}, Okk n k → ∀ {v u : V}, Nest H k v → Nest H k u → Sd H n v u := by
  intro n k h
  induction h with
  | num n i =>
    intro v u a b
    cases a
    cases b
    exact .flat n (.int i)
  | text n z =>
    intro v u a b
    cases a
    cases b
    exact .flat n (.str z)
  | tup n ks hl h ih =>
    intro v u a b
    cases a with
    | tup ea ra =>
      cases b with
      | tup eb rb =>
        have l1 := ra.length
        have l2 := rb.length
        refine .tup n ea eb (by omega) (by omega) fun i x y hx hy => ?_
        have hi : i < ks.length := by
          have := (List.getElem?_eq_some_iff.mp hx).1
          omega
        exact ih _ (List.getElem_mem hi) (ra.get (List.getElem?_eq_getElem hi) hx) (rb.get (List.getElem?_eq_getElem hi) hy)
theorem sd_list {H : Hp} {n : Nat} {ks : List NestedKey} {a b : Addr} {xs ys : List V} (h : ∀ k ∈ ks, Okk n k) (hl : ks.length ≤ 200000) (ha : H a = some (.lst xs)) (hb : H b = some (.lst ys)) (ra : NestL H ks xs) (rb : NestL H ks ys) : Sd H (n + 1) (.ref a) (.ref b) := by
  have l1 := ra.length
  have l2 := rb.length
  refine .lst n ha hb (by omega) (by omega) fun i x y hx hy => ?_
  have hi : i < ks.length := by
    have := (List.getElem?_eq_some_iff.mp hx).1
    omega
  exact sd_nest (h _ (List.getElem_mem hi)) (ra.get (List.getElem?_eq_getElem hi) hx) (rb.get (List.getElem?_eq_getElem hi) hy)
theorem okk_ent {k : NestedKey} {qs : List (Int × Int)} {n : Nat} (h : Okk n k) (hn : 2 ≤ n) (hq : qs.length ≤ 200000) : Okk (n + 1) (entK k qs) := by
  refine .tup n _ (by show 2 ≤ 200000; decide) fun x hx => ?_
  simp only [List.mem_cons, List.not_mem_nil, or_false] at hx
  rcases hx with rfl | rfl
  · exact h
  · obtain ⟨m, rfl⟩ : ∃ m, n = m + 1 := ⟨n - 1, by omega⟩
    refine .tup m _ (by rw [List.length_map]; exact hq) fun y hy => ?_
    obtain ⟨q, _, rfl⟩ := List.mem_map.mp hy
    obtain ⟨m', rfl⟩ : ∃ m', m = m' + 1 := ⟨m - 1, by omega⟩
    refine .tup m' _ (by show 2 ≤ 200000; decide) fun z hz => ?_
    simp only [List.mem_cons, List.not_mem_nil, or_false] at hz
    rcases hz with rfl | rfl
    · exact .num _ _
    · exact .num _ _
/-! ### _law_told -/
def spTold (K : PySem.W.Frag) (C CP : Addr) : Sp := fun vs H Q _ => ∃ (p : Addr) (xs : List Ent), vs = [.ref p] ∧ PlanAt K C CP H p xs ∧ xs.length ≤ 1000 ∧ (∀ x ∈ xs, x.lots.length ≤ 1000) ∧ ∀ (r : Addr) (us : List V) (H' : Hp), Same H H' → H r = none → H' r = some (.lst us) → NestL H' (xs.map fun x => entK x.key x.lots) us → Q (.ref r) H'
section
variable {P : Program} {w : World} {K : PySem.W.Frag} {mg : Str → Option Value} {base : Heap} {C BR CP : Addr}
theorem scTo : FnScope ["plan", "found", "rows", "entry", "lot"] ["plan"] (defScope sTold) := ⟨rfl, rfl, rfl, by decide +kernel, rfl, by decide +kernel, by decide +kernel⟩
theorem ok_told {f fE : Addr} {fd fdE : FuncData} (F : Fun K "_law_told" "_law_told" sTold f fd) (T : Txt K mg C BR) (TL : TxL mg) (TP : TxP K mg CP) (GE : FnOk P w K mg base CX0 1 fE fdE ["self"] (spEnt K C CP)) (mE : Meth K CP "entries" fE) (bE : L2.Binds K fdE ["self"] []) :
    FnOk P w K mg base CX0 2 f fd ["plan"] (spTold K C CP) := by
  refine F.ok scTo (fun vs H Q E h => ?_) (fun cdv A outer s H vs Q E hr h => ?_)
  · obtain ⟨p, xs, rfl, _⟩ := h
    rfl
  · obtain ⟨p, xs, rfl, PA, hz, hlz, q⟩ := h
    obtain ⟨⟨dx, m, d, hp, hm⟩, oks⟩ := id PA
    refine ⟨_, pss_cons (ps_set (i := 1) scTo.nd rfl (Or.inl rfl) (pe_meth0 (pv 0) TP.cl mE GE hr bE .nil pass0))
      (pss_cons (ps_if (pt_not (pt_val (pe_callB call_isi (by rfl) TL.isi (by decide +kernel) (pa_cons (pv 1) (pa_cons (pe_bltn (v := .ty "list") (by rfl) TL.list (by decide +kernel) rfl) pa_nil))))) (pss_one (ps_ret pe_non)) pss_nil)
      (pss_cons (ps_set (i := 2) scTo.nd rfl (Or.inl rfl) (pe_lst pa_nil))
      (pss_cons (ps_for PassesOwn.never rfl (pi_list (pv 1)) (pg_name (i := 3) scTo.nd rfl (Or.inl rfl))
        (pss_cons (ps_if (PW.pt (pw_or (pt_not (pt_val (pe_callB call_isi (by rfl) TL.isi (by decide +kernel) (pa_cons (pv 3) (pa_cons (pe_bltn (v := .ty "tuple") (by rfl) TL.tuple (by decide +kernel) rfl) pa_nil)))))
            (pw_or1 (pt_not (pt_val (pe_callB call_isi (by rfl) TL.isi (by decide +kernel) (pa_cons (pe_ix ix_tup (pv 3) pe_int (fun _ _ => rfl)) (pa_cons (pe_bltn (v := .ty "tuple") (by rfl) TL.tuple (by decide +kernel) rfl) pa_nil)))))))) (pss_one (ps_ret pe_non)) pss_nil)
        (pss_one (ps_expr (pe_bm PySem.F.plainAttrs_list PySem.F.slot_list_append PySem.F.type_list_append mt_append (pv 2) (pa_cons (pe_tup (pa_cons (pe_ix ix_tup (pv 3) pe_int (fun _ _ => rfl)) (pa_cons (pe_callTy call_tuple_of (by rfl) TL.tuple (by decide +kernel) (pa_cons
          (pe_lc (own := [("lot", 4)]) (g := gName 4) (tt := tYes) (te := tTup (tCons (tFld K (tVar 4) "num") (tCons (tFld K (tVar 4) "den") tNil))) rfl scTo.nd (pi_tup (pe_ix ix_tup (pv 3) pe_int (fun _ _ => rfl))) (blkOk_by (N := ["plan", "found", "rows", "entry", "lot"]) (sc := defScope sTold) (by decide +kernel)) (fun _ _ _ _ _ => pg_name (i := 4) scTo.nd rfl (Or.inl rfl)) (fun _ _ _ _ _ => pts_nil) (fun _ _ _ _ _ => pe_tup (pa_cons (pe_fldK (by rfl) (pv 4) rfl) (pa_cons (pe_fldK (by rfl) (pv 4) rfl) pa_nil)))) pa_nil)) pa_nil))) pa_nil))))))
      (pss_one (ps_ret (pv 2)))))), ?_⟩
    refine ⟨_, rfl, p, dx, _, rfl, hp, pf_no (by decide +kernel) (by decide +kernel), p, xs, rfl, PA, fun l H1 s1 nl hl => ?_⟩
    refine ⟨_, rfl, _, _, _, _, true, rfl, .ty "list", tyL hl, kit_same, _, rfl, iteF ⟨Nat.zero_le _, fun r hrn => ?_⟩⟩
    have hlr : l ≠ r := ne_of_none hl hrn
    have s2 : Same H (upd H1 r (.lst [])) := s1.trans (same_upd hrn)
    have hr0 : H r = none := by
      cases e : H r with
      | none => rfl
      | some o =>
        rw [s1 _ _ e] at hrn
        cases hrn
    refine ⟨_, rfl, l, rfl, ⟨xs.map fun x => V.ref x.e, SqL.of (by rw [upd_ne hlr]; exact hl)⟩, for_list (xs := xs.map fun x => V.ref x.e) (fun i σ H' => (∃ v3, σ = [some (.ref p), some (.ref l), some (.ref r), v3, none]) ∧ (∃ us, H' r = some (.lst us) ∧ NestL H' ((xs.take i).map fun x => entK x.key x.lots) us) ∧ H' l = some (.lst (xs.map fun x => V.ref x.e)) ∧ Same H H')
      ⟨⟨_, rfl⟩, ⟨[], upd_same, .nil⟩, by rw [upd_ne hlr]; exact hl, s2⟩ (fun i σ H' _ h => SqL.of h.2.2.1) ?_ ?_⟩
    · rintro i y σ H2 hy ⟨⟨v3, rfl⟩, ⟨us, hus, nus⟩, hl2, s3⟩
      obtain ⟨x, hx, rfl⟩ := Option.map_eq_some_iff.mp ((List.getElem?_map ..).symm.trans hy)
      have X := (oks x (List.mem_of_getElem? hx)).ext (fun b o z => s3 _ _ z)
      have il : i < xs.length := (List.getElem?_eq_some_iff.mp hx).1
      have eix : ∀ {k : Nat} {v : V}, ([V.ref x.va, V.ref x.la] : List V)[k]? = some v → atI [V.ref x.va, V.ref x.la] (k : Int) = some v := fun h => atI_nat h
      refine ⟨_, rfl, _, _, _, _, true, rfl, .ty "tuple", tyT X.he, kit_same, _, rfl, iteF ⟨_, rfl, x.e, _, _, _, rfl, rfl, SqT.of X.he, eix (k := 1) rfl, _, _, _, _, true, rfl, .ty "tuple", tyT X.hl, kit_same, _, rfl, iteF ?_⟩⟩
      refine ⟨_, rfl, .inl ⟨rfl, _, SqL.of hus⟩, _, rfl, x.e, _, _, _, rfl, rfl, SqT.of X.he, eix (k := 0) rfl, _, rfl, x.e, _, _, _, rfl, rfl, SqT.of X.he, eix (k := 1) rfl, x.la, rfl, ⟨_, SqT.of X.hl⟩, fun D hD => ?_⟩
      have hlx := hlz x (List.mem_of_getElem? hx)
      refine lc_pairs T (n := x.as.length) (as := x.as) (qs := x.lots) (by have w := walk_tup (K := K) (a := x.la) (xs := x.as.map V.ref); rw [List.length_map] at w; exact w) X.len X.len (by omega) X.rat (by show 4 < 5; decide) hD (fun H' s' => SqT.of (s' _ _ X.hl)) fun ts H3 htl hD3 hts s4 => ?_
      refine ⟨D, _, rfl, .inl ⟨SqL.of hD3, fun t ht => ⟨by show 2 ≤ sizeLine; decide, fun e he => ?_⟩⟩⟩
      have s5 : Same H2 (upd (upd H3 t (.tup (ts.map V.ref))) e (.tup [.ref x.va, .ref t])) := s4.trans ((same_upd ht).trans (same_upd he))
      have hus5 := s5 _ _ hus
      have hlen : us.length = i := by
        rw [← nus.length, List.length_map, List.length_take]
        omega
      refine ⟨r, _, _, rfl, rfl, hus5, by rw [hlen]; exact Nat.lt_of_lt_of_le (show i < 1001 by omega) (by decide), ⟨_, rfl⟩, ⟨us ++ [V.ref e], upd_same, ?_⟩, ?_, fun b o z => ?_⟩
      · have nt : ∀ b ys, upd (upd H3 t (.tup (ts.map V.ref))) e (.tup [.ref x.va, .ref t]) b = some (.tup ys) → upd (upd (upd H3 t (.tup (ts.map V.ref))) e (.tup [.ref x.va, .ref t])) r (.lst (us ++ [V.ref e])) b = some (.tup ys) := fun b ys z => by
          rw [upd_ne (fun q => by rw [q, hus5] at z; cases z)]
          exact z
        have htk : (xs.take (i + 1)).map (fun x => entK x.key x.lots) = (xs.take i).map (fun x => entK x.key x.lots) ++ [entK x.key x.lots] := by
          rw [List.take_succ_eq_append_getElem il, List.map_append, (List.getElem?_eq_some_iff.mp hx).2]
          rfl
        rw [htk]
        refine (NestL.keep (fun a ys z => nt _ _ (s5 _ _ z)) nus).snoc (.tup (nt _ _ upd_same) (.cons (X.hv.keep fun a ys z => nt _ _ (s5 _ _ z)) (.cons (.tup (nt _ _ ?_) (NestL.keep (fun a ys z => nt _ _ ((same_upd ht).trans (same_upd he) _ _ z)) (nestPairs htl hts))) .nil)))
        rw [upd_ne (ne_of_none upd_same he), upd_same]
      · have nrl : l ≠ r := hlr
        rw [upd_ne nrl]
        exact s5 _ _ hl2
      · rw [upd_ne (ne_of_none z hr0)]
        exact s5 _ _ (s3 _ _ z)
    · rintro σ H2 ⟨⟨v3, rfl⟩, ⟨us, hus, nus⟩, hl2, s3⟩
      rw [List.length_map, List.take_length] at nus
      exact ⟨_, rfl, q r us H2 s3 hr0 hus nus⟩
end
end K0

set_option Elab.async false
set_option linter.all false
set_option maxRecDepth 100000
set_option maxHeartbeats 4000000
namespace K0
open PySem PySem.Spec PyProof.Rows L2 Kx Kh Kd
/-! ### _law_kept -/
def pairD (q : Int × Int) : PyData := .tuple [.int q.1, .int q.2]
def keptR (r : Row) : PyData := .tuple [r.key.data, .list (r.lots.map pairD), .bool true]
def keptD (rs : List Row) : PyData := .list (rs.map keptR)
structure KeptE (H : Hp) (D e : Addr) (r : Row) : Prop where
  ex : ∃ (b : Addr) (ts : List Addr), H e = some (.tup [.ref r.va, .ref b, .bl true]) ∧ b ≠ D ∧ H b = some (.lst (ts.map V.ref)) ∧ ts.length = r.lots.length ∧ ∀ (j : Nat) t q, ts[j]? = some t → r.lots[j]? = some q → PairT H t q
  hv : Nest H r.key (.ref r.va)
theorem KeptE.keep {H H' : Hp} {D e : Addr} {r : Row} {acc : List V} (h : KeptE H D e r) (hD : H D = some (.lst acc)) (k : ∀ b o, H b = some o → b ≠ D → H' b = some o) : KeptE H' D e r := by
  have nt : ∀ b xs, H b = some (.tup xs) → H' b = some (.tup xs) := fun b xs z => k _ _ z (fun q => by rw [q, hD] at z; cases z)
  obtain ⟨b, ts, h1, h2, h3, h4, h5⟩ := h.ex
  exact ⟨⟨b, ts, nt _ _ h1, h2, k _ _ h3 h2, h4, fun j t q a c => nt _ _ (h5 j t q a c)⟩, h.hv.keep nt⟩
theorem KeptE.same {H H' : Hp} {D e : Addr} {r : Row} (h : KeptE H D e r) (s : Same H H') : KeptE H' D e r := by
  obtain ⟨b, ts, h1, h2, h3, h4, h5⟩ := h.ex
  exact ⟨⟨b, ts, s _ _ h1, h2, s _ _ h3, h4, fun j t q a c => s _ _ (h5 j t q a c)⟩, h.hv.keep fun a xs z => s _ _ z⟩
theorem dpPairs {K : PySem.W.Frag} {H : Hp} : ∀ {ts : List Addr} {qs : List (Int × Int)}, ts.length = qs.length → (∀ (j : Nat) t q, ts[j]? = some t → qs[j]? = some q → PairT H t q) → DpAll K H (ts.map V.ref) (qs.map pairD)
  | [], [], _, _ => .nil
  | t :: ts, q :: qs, h, f => .cons (.tup (SqT.of (f 0 t q rfl rfl)) (.cons (.int _) (.cons (.int _) .nil))) (dpPairs (by simpa using h) fun j a b h1 h2 => f (j + 1) a b (by simpa using h1) (by simpa using h2))
theorem KeptE.dp {K : PySem.W.Frag} {H : Hp} {D e : Addr} {r : Row} (h : KeptE H D e r) : Dp K H (.ref e) (keptR r) := by
  obtain ⟨b, ts, h1, h2, h3, h4, h5⟩ := h.ex
  exact .tup (SqT.of h1) (.cons h.hv.dp (.cons (.lst (SqL.of h3) (dpPairs h4 h5)) (.cons (.bl true) .nil)))
theorem dpKept {K : PySem.W.Frag} {H : Hp} {D : Addr} : ∀ {es : List Addr} {rs : List Row}, es.length = rs.length → (∀ (j : Nat) e r, es[j]? = some e → rs[j]? = some r → KeptE H D e r) → DpAll K H (es.map V.ref) (rs.map keptR)
  | [], [], _, _ => .nil
  | e :: es, r :: rs, h, f => .cons (f 0 e r rfl rfl).dp (dpKept (by simpa using h) fun j a b h1 h2 => f (j + 1) a b (by simpa using h1) (by simpa using h2))
theorem canLay_list {ds : List PyData} (h : ∀ d ∈ ds, d.canLay0 = true) : PyData.canLayAll0 ds = true := by
  induction ds with
  | nil => rfl
  | cons a r ih =>
    show (a.canLay0 && PyData.canLayAll0 r) = true
    rw [h a (List.mem_cons_self ..), ih fun d hd => h d (List.mem_cons_of_mem _ hd)]
    rfl
theorem depth_list {ds : List PyData} {n : Nat} (h : ∀ d ∈ ds, d.depth ≤ n) : PyData.depthAll ds ≤ n := by
  induction ds with
  | nil => exact Nat.zero_le _
  | cons a r ih =>
    show max a.depth (PyData.depthAll r) ≤ n
    exact Nat.max_le.mpr ⟨h a (List.mem_cons_self ..), ih fun d hd => h d (List.mem_cons_of_mem _ hd)⟩
theorem shapedPair (q : Int × Int) : (pairD q).canLay0 = true ∧ (pairD q).depth ≤ 2 := ⟨rfl, by show 1 + max 0 (max 0 0) ≤ 2; decide⟩
mutual
theorem depth_data : ∀ k : NestedKey, k.data.depth ≤ k.depth
  | .none => Nat.zero_le _
  | .num _ => Nat.zero_le _
  | .text _ => Nat.zero_le _
  | .tup ks => by
    show PyData.depthAll (NestedKey.datas ks) + 1 ≤ NestedKey.depthAll ks + 1
    exact Nat.succ_le_succ (depth_datas ks)
theorem depth_datas : ∀ ks : List NestedKey, PyData.depthAll (NestedKey.datas ks) ≤ NestedKey.depthAll ks
  | [] => Nat.le_refl _
  | k :: ks => by
    show max k.data.depth (PyData.depthAll (NestedKey.datas ks)) ≤ max k.depth (NestedKey.depthAll ks)
    have h1 := depth_data k
    have h2 := depth_datas ks
    omega
end
theorem shapedKept {rs : List Row} (h : ∀ r ∈ rs, SeqAt.shaped r.key.data = true ∧ r.key.data.depth ≤ 50) : SeqAt.shaped (keptD rs) = true := by
  have hr : ∀ d ∈ rs.map keptR, d.canLay0 = true ∧ d.depth ≤ 60 := by
    intro d hd
    obtain ⟨r, hr, rfl⟩ := List.mem_map.mp hd
    obtain ⟨h1, h2⟩ := h r hr
    have c1 := SeqAt.canLay_of_shaped h1
    have c2 : PyData.canLayAll0 (r.lots.map pairD) = true := canLay_list fun d hd => by
      obtain ⟨q, _, rfl⟩ := List.mem_map.mp hd
      exact (shapedPair q).1
    have d2 : PyData.depthAll (r.lots.map pairD) ≤ 2 := depth_list fun d hd => by
      obtain ⟨q, _, rfl⟩ := List.mem_map.mp hd
      exact (shapedPair q).2
    refine ⟨?_, ?_⟩
    · show (r.key.data.canLay0 && (PyData.canLayAll0 (r.lots.map pairD) && (true && true))) = true
      rw [c1, c2]
      rfl
    · show max r.key.data.depth (max (PyData.depthAll (r.lots.map pairD) + 1) (max 0 0)) + 1 ≤ 60
      omega
  unfold SeqAt.shaped keptD
  refine Bool.and_eq_true_iff.mpr ⟨canLay_list fun d hd => (hr d hd).1, decide_eq_true ?_⟩
  have := depth_list fun d hd => (hr d hd).2
  show PyData.depthAll (rs.map keptR) + 1 ≤ 64
  omega
/-- the comprehension of _law_kept -/
def tKept (K : PySem.W.Frag) : TE := tLc (iList K (tVar 0)) (gTup K 2 (gCons (gName 1) (gCons (gName 2) gNil))) tYes (tTup (tCons (tVar 1) (tCons (tLc (iList K (tCB (rLof K) (tCons (tVar 2) tNil))) (gName 3) tYes (tTup (tCons (tFld K (tVar 3) "num") (tCons (tFld K (tVar 3) "den") tNil))) [3]) (tCons (tCB (rIsi K) (tCons (tVar 2) (tCons (tC (.ty "list")) tNil))) tNil)))) [1, 2]
theorem kept_read {K : PySem.W.Frag} {mg : Str → Option Value} {C BR : Addr} (T : Txt K mg C BR) {l : Addr} {rs : List Row} {H : Hp} {Q : VK} (hl : SqL K H l (rs.map fun r => V.ref r.e)) (hr : ∀ r ∈ rs, RowOk K C H r ∧ H r.la = some (.lst (r.as.map V.ref))) (hz : rs.length ≤ 1000)
    (q : ∀ (D : Addr) (H' : Hp), Same H H' → H D = none → Dp K H' (.ref D) (keptD rs) → Q (.ref D) H') : tKept K [some (.ref l), none, none, none] H Q := by
  refine ⟨_, rfl, l, rfl, ⟨_, hl⟩, fun D hD => ?_⟩
  have w := walk_list (K := K) (a := l) (xs := rs.map fun r => V.ref r.e)
  rw [List.length_map] at w
  refine lc_it w (fun i H' => ∃ es : List Addr, es.length = i ∧ H' D = some (.lst (es.map V.ref)) ∧ (∀ (j : Nat) e r, es[j]? = some e → rs[j]? = some r → KeptE H' D e r) ∧ Same H H') ⟨[], rfl, upd_same, (fun j a q z => by simp at z), same_upd hD⟩ (fun i H' _ ⟨_, _, _, _, s'⟩ => hl.ext s') ?_ ?_
  · rintro i x H0 H' hi ⟨es, hel, eD, hk, s'⟩ ⟨rfl, hx⟩
    obtain ⟨r, hrr, rfl⟩ := Option.map_eq_some_iff.mp ((List.getElem?_map ..).symm.trans hx)
    obtain ⟨R, hla⟩ := hr r (List.mem_of_getElem? hrr)
    have R1 := R.ext s'
    have hla1 := s' _ _ hla
    obtain ⟨g1, g2⟩ := lots_get R1.lt
    refine ⟨r.e, _, rfl, SqT.of R1.he, rfl, _, _, rfl, _, _, rfl, rfl, rfl, tYesI ⟨_, rfl, _, rfl, r.la, r.as.map V.ref, rfl, .inl (SqL.of hla1), fun l2 hl2 => ?_⟩⟩
    have s2 : Same H' (upd H' l2 (.lst (r.as.map V.ref))) := same_upd hl2
    refine ⟨l2, rfl, ⟨r.as.map V.ref, SqL.of upd_same⟩, fun D2 hD2 => ?_⟩
    have hfew := R1.lt.few
    have hlen : r.lots.length = r.ws.length := List.length_map ..
    refine lc_pairs T (n := r.as.length) (as := r.as) (qs := r.lots) (by have w := walk_list (K := K) (a := l2) (xs := r.as.map V.ref); rw [List.length_map] at w; exact w) g1 g1 (by omega) (fun j a q h1 h2 => (g2 j a q h1 h2).same s2) (by show 3 < 4; decide) hD2 (fun H2 s3 => SqL.of (s3 _ _ upd_same)) fun ts H3 htl hD3 hts s3 => ?_
    have s4 := s2.trans s3
    have hla3 := s4 _ _ hla1
    refine ⟨_, rfl, _, _, _, _, true, rfl, .ty "list", tyL hla3, kit_same, by show 3 ≤ sizeLine; decide, fun e he => ?_⟩
    have s5 : Same H' (upd H3 e (.tup [.ref r.va, .ref D2, .bl true])) := s4.trans (same_upd he)
    have eD5 := s5 _ _ eD
    have hDD : D2 ≠ D := fun z => by
      rw [z, s2 _ _ eD] at hD2
      cases hD2
    have kD : ∀ b o, upd H3 e (.tup [.ref r.va, .ref D2, .bl true]) b = some o → b ≠ D → upd (upd H3 e (.tup [.ref r.va, .ref D2, .bl true])) D (.lst (es.map V.ref ++ [V.ref e])) b = some o := fun b o z hb => by rw [upd_ne hb]; exact z
    have KE5 : KeptE (upd H3 e (.tup [.ref r.va, .ref D2, .bl true])) D e r := ⟨⟨D2, ts, upd_same, hDD, by rw [upd_ne (ne_of_none hD3 he)]; exact hD3, htl, fun j t q a c => same_upd he _ _ (hts j t q a c)⟩, R1.hv.keep fun a xs z => s5 _ _ z⟩
    refine ⟨_, eD5, by rw [List.length_map, hel]; exact Nat.lt_of_lt_of_le (show i < 1001 by omega) (by decide), es ++ [e], by rw [List.length_append, hel]; rfl, by rw [upd_same, List.map_append]; rfl, fun j e2 r2 hj hr2 => ?_, fun b o z => ?_⟩
    · rcases get_snoc hj with ⟨_, hj2⟩ | ⟨hj2, rfl⟩
      · exact ((hk j e2 r2 hj2 hr2).same s5).keep eD5 kD
      · rw [hj2, hel, hrr] at hr2
        cases hr2
        exact KE5.keep eD5 kD
    · rw [upd_ne (ne_of_none z hD)]
      exact s5 _ _ (s' _ _ z)
  · rintro H' ⟨es, hel, eD, hk, s'⟩
    exact q D H' s' hD (.lst (SqL.of eD) (dpKept hel hk))
def spKept (K : PySem.W.Frag) (C : Addr) : Sp := fun vs H Q _ => ∃ (l : Addr) (rs : List Row), vs = [.ref l] ∧ SqL K H l (rs.map fun r => V.ref r.e) ∧ (∀ r ∈ rs, RowOk K C H r ∧ H r.la = some (.lst (r.as.map V.ref))) ∧ rs.length ≤ 1000 ∧ ∀ (D : Addr) (H' : Hp), Same H H' → H D = none → Dp K H' (.ref D) (keptD rs) → Q (.ref D) H'
section
variable {P : Program} {w : World} {K : PySem.W.Frag} {mg : Str → Option Value} {base : Heap} {C BR CP : Addr}
theorem scKe : FnScope ["entries", "view", "lots", "lot"] ["entries"] (defScope sKept) := ⟨rfl, rfl, rfl, by decide +kernel, rfl, by decide +kernel, by decide +kernel⟩
theorem ok_kept {f : Addr} {fd : FuncData} (F : Fun K "_law_kept" "_law_kept" sKept f fd) (T : Txt K mg C BR) (TL : TxL mg) : FnOk P w K mg base CX0 1 f fd ["entries"] (spKept K C) := by
  refine F.ok scKe (fun vs H Q E h => ?_) (fun cdv A outer s H vs Q E hr h => ?_)
  · obtain ⟨l, rs, rfl, _⟩ := h
    rfl
  · obtain ⟨l, rs, rfl, hl, hrs, hz, q⟩ := h
    refine ⟨_, pss_one (ps_ret (te := tKept K) (pe_lc (own := [("view", 1), ("lots", 2)]) (g := gTup K 2 (gCons (gName 1) (gCons (gName 2) gNil))) (tt := tYes) (wi := iList K (tVar 0))
      (te := tTup (tCons (tVar 1) (tCons (tLc (iList K (tCB (rLof K) (tCons (tVar 2) tNil))) (gName 3) tYes (tTup (tCons (tFld K (tVar 3) "num") (tCons (tFld K (tVar 3) "den") tNil))) [3]) (tCons (tCB (rIsi K) (tCons (tVar 2) (tCons (tC (.ty "list")) tNil))) tNil)))) rfl scKe.nd (pi_listK (by rfl) (pv 0)) (blkOk_by (N := ["entries", "view", "lots", "lot"]) (sc := defScope sKept) (by decide +kernel))
      (fun _ _ _ _ _ => pg_tup rfl (pgs_cons (pg_name (i := 1) scKe.nd rfl (Or.inl rfl)) (pgs_cons (pg_name (i := 2) scKe.nd rfl (Or.inl rfl)) pgs_nil))) (fun _ _ _ _ _ => pts_nil)
      (fun _ _ _ _ _ => pe_tup (pa_cons (pv 1) (pa_cons (pe_lc (own := [("lot", 3)]) (g := gName 3) (tt := tYes) (wi := iList K (tCB (rLof K) (tCons (tVar 2) tNil))) (te := tTup (tCons (tFld K (tVar 3) "num") (tCons (tFld K (tVar 3) "den") tNil))) rfl scKe.nd (pi_listK (by rfl) (pe_callTy (call_list_ofK (by rfl)) (by rfl) TL.list (by decide +kernel) (pa_cons (pv 2) pa_nil))) (blkOk_by (N := ["entries", "view", "lots", "lot"]) (sc := relS { kind := .function, names := [((".0" : Str), .local), ("view", .local), ("lots", .local), ("list", .globalImplicit), ("isinstance", .globalImplicit)], isGenerator := false, isCoroutine := false } (defScope sKept)) (by decide +kernel))
          (fun _ _ _ _ _ => pg_name (i := 3) scKe.nd rfl (Or.inl rfl)) (fun _ _ _ _ _ => pts_nil) (fun _ _ _ _ _ => pe_tup (pa_cons (pe_fldK (by rfl) (pv 3) rfl) (pa_cons (pe_fldK (by rfl) (pv 3) rfl) pa_nil))))
        (pa_cons (pe_callB (call_isiK (by rfl)) (by rfl) TL.isi (by decide +kernel) (pa_cons (pv 2) (pa_cons (pe_bltn (v := .ty "list") (by rfl) TL.list (by decide +kernel) rfl) pa_nil))) pa_nil)))))), ?_⟩
    exact kept_read T hl hrs hz q
theorem pi_listIK {X : Cx} {tg l : Expr} {tl : TE} {K : PySem.W.Frag} (h : X.K = K) (hl : PE X l tl) : PII X tg l (iList K tl) := by
  subst h
  exact pi_listI hl
theorem ok_keptH {f : Addr} {fd : FuncData} (F : Fun K "_law_kept" "_law_kept" sKept f fd) (T : Txt K mg C BR) (TL : TxL mg) : L2H.FnH P w K mg base CX0 1 f fd ["entries"] (spKept K C) := by
  refine Kh.Fun.okI F scKe (fun vs H Q E h => ?_) (fun cdv A outer s H vs Q E p hot hr h => ?_)
  · obtain ⟨l, rs, rfl, _⟩ := h
    rfl
  · obtain ⟨l, rs, rfl, hl, hrs, hz, q⟩ := h
    refine ⟨_, pss_one (ps_ret (te := tKept K) (pe_lcI (own := [("view", 1), ("lots", 2)]) (g := gTup K 2 (gCons (gName 1) (gCons (gName 2) gNil))) (tt := tYes) (wi := iList K (tVar 0))
      (te := tTup (tCons (tVar 1) (tCons (tLc (iList K (tCB (rLof K) (tCons (tVar 2) tNil))) (gName 3) tYes (tTup (tCons (tFld K (tVar 3) "num") (tCons (tFld K (tVar 3) "den") tNil))) [3]) (tCons (tCB (rIsi K) (tCons (tVar 2) (tCons (tC (.ty "list")) tNil))) tNil)))) hot scKe.nd (pi_listIK (by rfl) (pv 0)) (blkOk_by (N := ["entries", "view", "lots", "lot"]) (sc := defScope sKept) (by decide +kernel))
      (fun _ _ _ _ _ hot2 => pg_tupI hot2 (pgs_cons (pg_name (i := 1) scKe.nd rfl (Or.inl rfl)) (pgs_cons (pg_name (i := 2) scKe.nd rfl (Or.inl rfl)) pgs_nil))) (fun _ _ _ _ _ _ => pts_nil)
      (fun _ _ _ _ _ hot2 => pe_tup (pa_cons (pv 1) (pa_cons (pe_lcI (own := [("lot", 3)]) (g := gName 3) (tt := tYes) (wi := iList K (tCB (rLof K) (tCons (tVar 2) tNil))) (te := tTup (tCons (tFld K (tVar 3) "num") (tCons (tFld K (tVar 3) "den") tNil))) hot2 scKe.nd (pi_listIK (by rfl) (pe_callTy (call_list_ofK (by rfl)) (by rfl) TL.list (by decide +kernel) (pa_cons (pv 2) pa_nil))) (blkOk_by (N := ["entries", "view", "lots", "lot"]) (sc := relS { kind := .function, names := [((".0" : Str), .local), ("view", .local), ("lots", .local), ("list", .globalImplicit), ("isinstance", .globalImplicit)], isGenerator := false, isCoroutine := false } (defScope sKept)) (by decide +kernel))
          (fun _ _ _ _ _ _ => pg_name (i := 3) scKe.nd rfl (Or.inl rfl)) (fun _ _ _ _ _ _ => pts_nil) (fun _ _ _ _ _ _ => pe_tup (pa_cons (pe_fldK (by rfl) (pv 3) rfl) (pa_cons (pe_fldK (by rfl) (pv 3) rfl) pa_nil))))
        (pa_cons (pe_callB (call_isiK (by rfl)) (by rfl) TL.isi (by decide +kernel) (pa_cons (pv 2) (pa_cons (pe_bltn (v := .ty "list") (by rfl) TL.list (by decide +kernel) rfl) pa_nil))) pa_nil)))))), ?_⟩
    exact kept_read T hl hrs hz q
end
end K0

set_option Elab.async false
set_option linter.all false
set_option maxRecDepth 100000
set_option maxHeartbeats 4000000
namespace K0
open PySem PySem.Spec PyProof.Rows L2 Kx Kh Kd
/-! ### helpers of the law's drawing of views -/
/-- a list of the law's beside the pool -/
structure LS (H0 H' : Hp) (p l : Addr) (b : Int) (vs : List V) : Prop where
  pool : PoolAt H' p b
  kp : Kp p H0 H'
  hl : H' l = some (.lst vs)
theorem LS.draw {H0 H1 H2 : Hp} {p l : Addr} {b : Int} {vs : List V} (h : LS H0 H1 p l b vs) (hn : l ≠ p) (P : PoolAt H2 p b) (k : Kp p H1 H2) : LS H0 H2 p l b vs := ⟨P, h.kp.trans k, k _ _ h.hl hn⟩
theorem LS.set {H0 H1 : Hp} {p l : Addr} {b : Int} {vs : List V} (h : LS H0 H1 p l b vs) (P0 : PoolAt H0 p b) (hn : H0 l = none) (us : List V) : LS H0 (upd H1 l (.lst us)) p l b us :=
  ⟨PoolAt.own P0 hn h.kp h.pool, Kp.own P0 hn h.kp, upd_same⟩
theorem LS.same {H0 H1 H2 : Hp} {p l : Addr} {b : Int} {vs : List V} (h : LS H0 H1 p l b vs) (s : Same H1 H2) : LS H0 H2 p l b vs := ⟨h.pool.same s, h.kp.trans (Kp.same s), s _ _ h.hl⟩
theorem LS.ini {H0 : Hp} {p l : Addr} {b : Int} (P0 : PoolAt H0 p b) (hn : H0 l = none) : LS H0 (upd H0 l (.lst [])) p l b [] := ⟨P0.same (same_upd hn), Kp.same (same_upd hn), upd_same⟩
/-- tuples stay -/
def TK (H H' : Hp) : Prop := ∀ a xs, H a = some (.tup xs) → H' a = some (.tup xs)
theorem TK.kp {H H' : Hp} {p : Addr} {b : Int} (P : PoolAt H p b) (k : Kp p H H') : TK H H' := fun a xs z => k _ _ z (P.neT z)
theorem TK.same {H H' : Hp} (s : Same H H') : TK H H' := fun a xs z => s _ _ z
theorem TK.lst {H : Hp} {l : Addr} {vs us : List V} (h : H l = some (.lst vs)) : TK H (upd H l (.lst us)) := fun a xs z => by
  rw [upd_ne (fun q => by rw [q, h] at z; cases z)]
  exact z
theorem TK.trans {H H1 H2 : Hp} (a : TK H H1) (b : TK H1 H2) : TK H H2 := fun c xs z => b _ _ (a _ _ z)
theorem VwOk.tk {H H' : Hp} {v : Vw} (h : VwOk H v) (e : TK H H') : VwOk H' v := ⟨e _ _ h.ht, h.hv.keep e, h.sv, h.dv, h.n0, h.n1⟩
theorem PairT.tk {H H' : Hp} {t : Addr} {q : Int × Int} (h : PairT H t q) (e : TK H H') : PairT H' t q := e _ _ h
/-- keys as the law draws them -/
inductive Okt : Nat → NestedKey → Prop where
  | num (n : Nat) (i : Int) : Okt n (.num i)
  | text (n : Nat) (z : Str) (h : PyData.strOk z = true) : Okt n (.text z)
  | tup (n : Nat) (ks : List NestedKey) (hl : ks.length ≤ 200000) (h : ∀ k ∈ ks, Okt n k) : Okt (n + 1) (.tup ks)
theorem Okt.okk : ∀ {n : Nat} {k : NestedKey}, Okt n k → Okk n k := by
  intro n k h
  induction h with
  | num n i => exact .num _ _
  | text n z h => exact .text _ _
  | tup n ks hl h ih => exact .tup n ks hl ih
theorem okt_deep : ∀ {n : Nat} {k : NestedKey}, Okt n k → k.data.canLay0 = true ∧ k.depth ≤ n := by
  intro n k h
  induction h with
  | num n i => exact ⟨rfl, Nat.zero_le _⟩
  | text n z h => exact ⟨h, Nat.zero_le _⟩
  | tup n ks hl h ih =>
    have h1 : ∀ ks : List NestedKey, (∀ k ∈ ks, k.data.canLay0 = true ∧ k.depth ≤ n) → PyData.canLayAll0 (NestedKey.datas ks) = true ∧ NestedKey.depthAll ks ≤ n := by
      intro ks
      induction ks with
      | nil => exact fun _ => ⟨rfl, Nat.zero_le _⟩
      | cons k ks ih2 =>
        intro hk
        obtain ⟨a1, a2⟩ := hk k (List.mem_cons_self ..)
        obtain ⟨b1, b2⟩ := ih2 fun x hx => hk x (List.mem_cons_of_mem _ hx)
        refine ⟨?_, ?_⟩
        · show (k.data.canLay0 && PyData.canLayAll0 (NestedKey.datas ks)) = true
          rw [a1, b1]
          rfl
        · show max k.depth (NestedKey.depthAll ks) ≤ n
          omega
    obtain ⟨c1, c2⟩ := h1 ks ih
    exact ⟨c1, by show NestedKey.depthAll ks + 1 ≤ n + 1; omega⟩
theorem okt_shaped {n : Nat} {k : NestedKey} (h : Okt n k) (hn : n ≤ 8) : SeqAt.shaped k.data = true ∧ k.depth ≤ 8 := by
  obtain ⟨h1, h2⟩ := okt_deep h
  have h3 := depth_data k
  exact ⟨Bool.and_eq_true_iff.mpr ⟨h1, decide_eq_true (by omega)⟩, by omega⟩
def askK (j n : Int) : NestedKey := .tup [.text "asked", .num j, .num n]
def shK (i : Int) : NestedKey := .tup [.text "shown", .num i]
def didK (i : Int) : NestedKey := .tup [.text "did", .num i]
theorem oktAsk (j n : Int) : Okt 1 (askK j n) := .tup 0 _ (by show 3 ≤ 200000; decide) fun k hk => by
  simp only [List.mem_cons, List.not_mem_nil, or_false] at hk
  rcases hk with rfl | rfl | rfl
  · exact .text _ _ (by decide +kernel)
  · exact .num _ _
  · exact .num _ _
theorem oktSh (i : Int) : Okt 1 (shK i) := .tup 0 _ (by show 2 ≤ 200000; decide) fun k hk => by
  simp only [List.mem_cons, List.not_mem_nil, or_false] at hk
  rcases hk with rfl | rfl
  · exact .text _ _ (by decide +kernel)
  · exact .num _ _
theorem oktDid (i : Int) : Okt 1 (didK i) := .tup 0 _ (by show 2 ≤ 200000; decide) fun k hk => by
  simp only [List.mem_cons, List.not_mem_nil, or_false] at hk
  rcases hk with rfl | rfl
  · exact .text _ _ (by decide +kernel)
  · exact .num _ _
/-- a view that ends with the j-th question -/
def AskV (j : Int) (k : NestedKey) : Prop := ∃ pre n, k = .tup (pre ++ [askK j n]) ∧ pre.length ≤ 2 ∧ ∀ x ∈ pre, Okt 1 x
theorem AskV.okt {j : Int} {k : NestedKey} (h : AskV j k) : Okt 2 k := by
  obtain ⟨pre, n, rfl, hl, hp⟩ := h
  refine .tup 1 _ (by rw [List.length_append, List.length_singleton]; omega) fun x hx => ?_
  rcases List.mem_append.mp hx with hx | hx
  · exact hp x hx
  · rw [List.mem_singleton.mp hx]
    exact oktAsk j n
theorem AskV.inj {i j : Int} {k : NestedKey} (h : AskV i k) (h' : AskV j k) : i = j := by
  obtain ⟨pre, n, rfl, _⟩ := h
  obtain ⟨pre', n', e, _⟩ := h'
  injection e with e
  have e2 := (List.append_inj' e rfl).2
  injection e2 with e2 _
  injection e2 with e2
  injection e2 with _ e2
  injection e2 with e2 _
  injection e2
theorem asks_nodup {ws : List Vw} (h : ∀ (j : Nat) v, ws[j]? = some v → AskV (j : Int) v.key) : (ws.map (·.key)).Nodup := by
  refine List.pairwise_iff_getElem.mpr fun i j hi hj hij e => ?_
  rw [List.length_map] at hi hj
  rw [List.getElem_map, List.getElem_map] at e
  have a1 := h i _ (List.getElem?_eq_getElem hi)
  rw [e] at a1
  have := a1.inj (h j _ (List.getElem?_eq_getElem hj))
  omega
theorem rn1 (w : Int) : rn w 1 = w ∧ rd w 1 = 1 := by
  have hg : G w 1 = 1 := by
    have h1 := Int.le_of_dvd (by decide) (G_dvd_r w 1)
    have h2 : 0 < G w 1 := G_pos (by decide)
    omega
  have h1 := n_eq w 1
  have h2 := d_eq w 1
  rw [hg, Int.one_mul] at h1 h2
  exact ⟨h1.symm, h2.symm⟩
def oneP (m n : Int) : List (Int × Int) := (oneW m n).map fun w => (rn w 1, rd w 1)
theorem oneP_len (m n : Int) : (oneP m n).length = n.toNat := by
  unfold oneP
  rw [List.length_map, oneW_len]
theorem oneP_get {m n : Int} {j : Nat} {q : Int × Int} (h : (oneP m n)[j]? = some q) : q = (if (j : Int) = m then 1 else 0, 1) := by
  unfold oneP oneW at h
  rw [List.getElem?_map, List.getElem?_map] at h
  have hj : j < (List.range n.toNat).length := by
    cases e : (List.range n.toNat)[j]? with
    | none =>
      rw [e] at h
      cases h
    | some x => exact (List.getElem?_eq_some_iff.mp e).1
  rw [List.getElem?_eq_getElem hj, List.getElem_range] at h
  simp only [Option.map_some, Option.some.injEq] at h
  rw [← h, (rn1 _).1, (rn1 _).2]
/-- what is due of a view: the entry, its lots' tuple, their pairs -/
structure DE where
  e : Addr
  la : Addr
  ts : List Addr
structure DueOk (H : Hp) (v : Vw) (m : Int) (x : DE) : Prop where
  he : H x.e = some (.tup [.ref v.va, .ref x.la])
  hl : H x.la = some (.tup (x.ts.map V.ref))
  len : x.ts.length = (oneP m v.n).length
  pr : ∀ (j : Nat) t q, x.ts[j]? = some t → (oneP m v.n)[j]? = some q → PairT H t q
theorem DueOk.tk {H H' : Hp} {v : Vw} {m : Int} {x : DE} (h : DueOk H v m x) (e : TK H H') : DueOk H' v m x := ⟨e _ _ h.he, e _ _ h.hl, h.len, fun j t q a b => e _ _ (h.pr j t q a b)⟩
theorem DueOk.nest {H : Hp} {v : Vw} {m : Int} {x : DE} (h : DueOk H v m x) (hv : VwOk H v) : Nest H (entK v.key (oneP m v.n)) (.ref x.e) := .tup h.he (.cons hv.hv (.cons (.tup h.hl (nestPairs h.len h.pr)) .nil))
theorem due_nest {H : Hp} : ∀ {ws : List Vw} {ms : List Int} {ds : List DE}, (∀ v ∈ ws, VwOk H v) → ds.length = ws.length → ms.length = ws.length → (∀ (j : Nat) v m x, ws[j]? = some v → ms[j]? = some m → ds[j]? = some x → DueOk H v m x) → NestL H ((ws.zip ms).map fun q => entK q.1.key (oneP q.2 q.1.n)) (ds.map fun x => V.ref x.e)
  | [], [], [], _, _, _, _ => .nil
  | v :: ws, m :: ms, x :: ds, h, h1, h2, f => .cons ((f 0 v m x rfl rfl rfl).nest (h v (List.mem_cons_self ..))) (due_nest (fun u hu => h u (List.mem_cons_of_mem _ hu)) (by simpa using h1) (by simpa using h2) fun j a b c e1 e2 e3 => f (j + 1) a b c (by simpa using e1) (by simpa using e2) (by simpa using e3))
/-- two lists of entries with the same keys and lots -/
theorem rows_eq : ∀ {xs ys : List Ent}, xs.length = ys.length → (∀ (j : Nat) x y, xs[j]? = some x → ys[j]? = some y → x.key = y.key ∧ x.lots = y.lots) → rowsEq xs ys = true
  | [], [], _, _ => rfl
  | x :: xs, y :: ys, h, f => by
    obtain ⟨e1, e2⟩ := f 0 x y rfl rfl
    show (entEq x y && rowsEq xs ys) = true
    rw [rows_eq (xs := xs) (ys := ys) (by simpa using h) fun j a b h1 h2 => f (j + 1) a b (by simpa using h1) (by simpa using h2)]
    unfold entEq
    rw [e1, e2, decide_eq_true rfl, decide_eq_true rfl]
    rfl
theorem sure_good {vs : List Vw} {ms : List Int} {rs : List Row} (sr : SureR vs ms rs) (hl : rs.length = vs.length) (hm : ∀ (j : Nat) v m, vs[j]? = some v → ms[j]? = some m → 0 ≤ m ∧ m < v.n) (nd : (vs.map (·.key)).Nodup) : badFrom [] 0 rs = none := by
  refine badFrom_none rs [] 0 (fun r hr => ?_) ?_
  · obtain ⟨j, hj⟩ := List.getElem?_of_mem hr
    obtain ⟨v, m, hv, hm2, _, e1, e2⟩ := sr j r hj
    obtain ⟨m0, m1⟩ := hm j v m hv hm2
    rw [e1, e2]
    exact oneW_lots m0 m1
  · have : rs.map (·.key) = vs.map (·.key) := by
      refine List.ext_getElem? fun j => ?_
      rw [List.getElem?_map, List.getElem?_map]
      by_cases hj : j < rs.length
      · obtain ⟨v, m, hv, _, e, _⟩ := sr j rs[j] (List.getElem?_eq_getElem hj)
        rw [List.getElem?_eq_getElem hj, hv]
        exact congrArg some e
      · rw [List.getElem?_eq_none (by omega), List.getElem?_eq_none (by omega)]
        rfl
    rw [List.nil_append, this]
    exact nd
/-- lots of the program of the pairs of one move -/
theorem lots_one {C : Addr} {H' : Hp} {as : List Addr} {m n : Int} (hl : as.length = (oneP m n).length) (hn : n ≤ 100)
    (hr : ∀ (j : Nat) a (q : Int × Int), as[j]? = some a → (oneP m n)[j]? = some q → RatAt C H' a (rn q.1 q.2) (rd q.1 q.2)) : Lots C H' as (oneW m n) 1 := by
  refine ⟨by rw [hl, oneP_len, oneW_len], fun i a w ha hw => ?_, by decide, by decide, fun w hw => ?_, by rw [oneW_len]; omega⟩
  · have h1 := hr i a (rn w 1, rd w 1) ha (by unfold oneP; rw [List.getElem?_map, hw]; rfl)
    obtain ⟨e1, e2⟩ := rn_rn (w := w) (W := 1) (by decide)
    have h1 : RatAt C H' a (rn (rn w 1) (rd w 1)) (rd (rn w 1) (rd w 1)) := h1
    rw [e1, e2] at h1
    exact h1
  · rcases oneW_mem hw with rfl | rfl <;> decide
/-- the entries of two plans that make the same moves -/
theorem sure_rows {vs : List Vw} {ms : List Int} {rs rs' : List Row} {xs ys : List Ent} (sr : SureR vs ms rs) (sr' : SureR vs ms rs') (hl : rs.length = vs.length) (hl' : rs'.length = vs.length) (pr : Paired EntOf rs xs) (pr' : Paired EntOf rs' ys) : rowsEq xs ys = true ∧ rowsEq ys xs = true := by
  have h : ∀ (j : Nat) x y, xs[j]? = some x → ys[j]? = some y → x.key = y.key ∧ x.lots = y.lots := fun j x y hx hy => by
    have hj : j < rs.length := by
      have := (List.getElem?_eq_some_iff.mp hx).1
      rw [← pr.length] at this
      exact this
    have e1 := List.getElem?_eq_getElem hj
    have e2 := List.getElem?_eq_getElem (l := rs') (i := j) (by omega)
    obtain ⟨k1, _, l1, _⟩ := paired_both pr e1 hx
    obtain ⟨k2, _, l2, _⟩ := paired_both pr' e2 hy
    obtain ⟨v, m, a1, a2, a3, a4, a5⟩ := sr j _ e1
    obtain ⟨v', m', b1, b2, b3, b4, b5⟩ := sr' j _ e2
    rw [a1] at b1
    rw [a2] at b2
    cases b1
    cases b2
    refine ⟨by rw [k1, k2, a3, b3], ?_⟩
    rw [l1, l2]
    unfold Row.lots
    rw [a4, a5, b4, b5]
  have hxy : xs.length = ys.length := by rw [← pr.length, ← pr'.length, hl, hl']
  exact ⟨rows_eq hxy h, rows_eq hxy.symm fun j y x hy hx => ⟨(h j x y hx hy).1.symm, (h j x y hx hy).2.symm⟩⟩
/-- what a plan that makes the moves tells -/
theorem sure_keys {vs : List Vw} {ms : List Int} {rs : List Row} {xs : List Ent} (sr : SureR vs ms rs) (hl : rs.length = vs.length) (hm : ms.length = vs.length) (pr : Paired EntOf rs xs) : xs.map (fun x => entK x.key x.lots) = (vs.zip ms).map fun q => entK q.1.key (oneP q.2 q.1.n) := by
  refine List.ext_getElem? fun j => ?_
  rw [List.getElem?_map, List.getElem?_map]
  have hx := pr.length
  by_cases hj : j < rs.length
  · have e1 := List.getElem?_eq_getElem hj
    have e2 := List.getElem?_eq_getElem (l := xs) (i := j) (by omega)
    obtain ⟨k1, _, l1, _⟩ := paired_both pr e1 e2
    obtain ⟨v, m, a1, a2, a3, a4, a5⟩ := sr j _ e1
    rw [e2, show (vs.zip ms)[j]? = some (v, m) from List.getElem?_zip_eq_some.mpr ⟨a1, a2⟩]
    show some (entK _ _) = some (entK v.key (oneP m v.n))
    rw [k1, l1, a3]
    unfold Row.lots oneP
    rw [a4, a5]
  · rw [List.getElem?_eq_none (by omega), List.getElem?_eq_none (by rw [List.length_zip]; omega)]
    rfl
def vwD (v : Vw) : PyData := .tuple [v.key.data, .int v.n]
def passD (vs : List Vw) (ms : List Int) : PyData := .list [.list (vs.map vwD), .list (ms.map .int)]
theorem dpVws {K : PySem.W.Frag} {H : Hp} : ∀ {vs : List Vw}, (∀ v ∈ vs, VwOk H v) → DpAll K H (vs.map fun v => V.ref v.t) (vs.map vwD)
  | [], _ => .nil
  | v :: vs, h => .cons (.tup (SqT.of (h v (List.mem_cons_self ..)).ht) (.cons (h v (List.mem_cons_self ..)).hv.dp (.cons (.int _) .nil))) (dpVws fun u hu => h u (List.mem_cons_of_mem _ hu))
theorem dpInts {K : PySem.W.Frag} {H : Hp} : ∀ ms : List Int, DpAll K H (ms.map V.int) (ms.map PyData.int)
  | [] => .nil
  | m :: ms => .cons (.int m) (dpInts ms)
theorem dpPass {K : PySem.W.Frag} {H : Hp} {l a c : Addr} {vs : List Vw} {ms : List Int} (hl : H l = some (.lst [.ref a, .ref c])) (ha : H a = some (.lst (vs.map fun v => V.ref v.t))) (hc : H c = some (.lst (ms.map V.int))) (h : ∀ v ∈ vs, VwOk H v) : Dp K H (.ref l) (passD vs ms) :=
  .lst (SqL.of hl) (.cons (.lst (SqL.of ha) (dpVws h)) (.cons (.lst (SqL.of hc) (dpInts ms)) .nil))
theorem shapedPass {H : Hp} {vs : List Vw} {ms : List Int} (h : ∀ v ∈ vs, VwOk H v) : SeqAt.shaped (passD vs ms) = true := by
  have c1 : PyData.canLayAll0 (vs.map vwD) = true := canLay_list fun d hd => by
    obtain ⟨v, hv, rfl⟩ := List.mem_map.mp hd
    show (v.key.data.canLay0 && (true && true)) = true
    rw [SeqAt.canLay_of_shaped (h v hv).sv]
    rfl
  have c2 : PyData.canLayAll0 (ms.map PyData.int) = true := canLay_list fun d hd => by
    obtain ⟨m, _, rfl⟩ := List.mem_map.mp hd
    rfl
  have d1 : PyData.depthAll (vs.map vwD) ≤ 9 := depth_list fun d hd => by
    obtain ⟨v, hv, rfl⟩ := List.mem_map.mp hd
    show max v.key.data.depth (max 0 0) + 1 ≤ 9
    have h1 := (h v hv).dv
    have h2 := depth_data v.key
    omega
  have d2 : PyData.depthAll (ms.map PyData.int) ≤ 0 := depth_list fun d hd => by
    obtain ⟨m, _, rfl⟩ := List.mem_map.mp hd
    exact Nat.le_refl _
  unfold SeqAt.shaped passD
  refine Bool.and_eq_true_iff.mpr ⟨?_, decide_eq_true ?_⟩
  · show (PyData.canLayAll0 (vs.map vwD) && (PyData.canLayAll0 (ms.map PyData.int) && true)) = true
    rw [c1, c2]
    rfl
  · show max (PyData.depthAll (vs.map vwD) + 1) (max (PyData.depthAll (ms.map PyData.int) + 1) 0) + 1 ≤ 64
    omega
end K0

set_option Elab.async false
set_option linter.all false
set_option maxRecDepth 100000
set_option maxHeartbeats 4000000
namespace K0
open PySem PySem.Spec PyProof.Rows L2 Kx Kh Kd
def spLSure : Sp := fun vs H Q _ => ∃ (p : Addr) (b : Int), vs = [.ref p] ∧ PoolAt H p b ∧ ∀ H', Q (.bl true) H'
abbrev NS : List Str := ["pool", "views", "k", "count", "view", "turn", "moves", "due", "passed", "actual", "same", "part", "num", "den", "lots"]
section
variable {P : Program} {w : World} {K : PySem.W.Frag} {mg : Str → Option Value} {base : Heap} {C BR CP LE BP : Addr} {fD fS fT fI fR fU fP : Addr} {dD dS dT dI dR dU dP : FuncData}
theorem scLS : FnScope NS ["pool"] (defScope sLSure) := ⟨rfl, rfl, rfl, by decide +kernel, rfl, by decide +kernel, by decide +kernel⟩
theorem ok_lsure {f : Addr} {fd : FuncData} (F : Fun K "_law_sure" "_law_sure" sLSure f fd) (T : Txt K mg C BR) (TL : TxL mg) (TP : TxP K mg CP) (D1 : Fn0 P w K mg base 1 "_law_draw" ["pool", "size"] spDraw fD dD) (S1 : Fn0 P w K mg base 14 "_law_same" ["actual", "due"] (spSame 13) fS dS) (O1 : Fn0 P w K mg base 2 "_law_told" ["plan"] (spTold K C CP) fT dT)
    (M : Mk K CP fI) (G : FnOk P w K mg base (L2N.CX P w) 5 fI dI ["self", "entries"] (spPlan P w K C CP BP)) (bI : L2.Binds K dI ["self", "entries"] []) (MR : Mk K C fR) (GR : FnOk P w K mg base (L2.CX P w) 1 fR dR ["self", "num", "den"] (spInit C BR)) (bR : L2.Binds K dR ["self", "num", "den"] [])
    (U1 : Fn0 P w K mg base 7 "sure" ["views", "moves"] (spSure P w K C CP) fU dU) (GP : FnOk P w K mg base CX0 5 fP dP ["self", "other"] (spPEq K C CP)) (aP : PySem.W.findIn K (.ref CP) "__eq__" = some (some (.ref fP))) (iP : PySem.W.isFn K (.ref fP) = true) (bP : L2.Binds K dP ["self", "other"] []) :
    FnOk P w K mg base CX0 15 f fd ["pool"] spLSure := by
  refine F.ok scLS (fun vs H Q E h => ?_) (fun cdv A outer s H vs Q E hr h => ?_)
  · obtain ⟨p, b, rfl, _⟩ := h
    rfl
  · obtain ⟨p, b, rfl, P0, q⟩ := h
    have hr1 : Room 1 _ := hr.mono (by decide)
    have hr2 : Room 2 _ := hr.mono (by decide)
    have hr5 : Room 5 _ := hr.mono (by decide)
    have hr6 : Room 6 _ := hr.mono (by decide)
    have hr7 : Room 7 _ := hr.mono (by decide)
    refine ⟨_, pss_cons (ps_set (i := 1) scLS.nd rfl (Or.inl rfl) (pe_lst pa_nil))
      (pss_cons (ps_for PassesOwn.never rfl (pi_range1 rfl TL.range (pa_cons (pe_ix ix_tup (pe_tup (pa_cons (pe_call D1.ok hr1 (by rfl) D1.gl D1.kp D1.bd .nil pass0 (pa_cons (pv 0) (pa_cons pe_int pa_nil))) (pa_cons (pe_call D1.ok hr1 (by rfl) D1.gl D1.kp D1.bd .nil pass0 (pa_cons (pv 0) (pa_cons pe_int pa_nil))) pa_nil))) (pe_call D1.ok hr1 (by rfl) D1.gl D1.kp D1.bd .nil pass0 (pa_cons (pv 0) (pa_cons pe_int pa_nil))) (fun _ _ => rfl)) pa_nil)) (pg_name (i := 2) scLS.nd rfl (Or.inr rfl))
        (pss_cons (ps_set (i := 3) scLS.nd rfl (Or.inl rfl) (pe_op op_add pe_int (pe_call D1.ok hr1 (by rfl) D1.gl D1.kp D1.bd .nil pass0 (pa_cons (pv 0) (pa_cons pe_int pa_nil)))))
        (pss_cons (ps_set (i := 4) scLS.nd rfl (Or.inl rfl) (pe_tup (pa_cons (pe_tup (pa_cons pe_str (pa_cons (pv 2) (pa_cons (pv 3) pa_nil)))) pa_nil)))
        (pss_cons (ps_for PassesOwn.never rfl (pi_range1 rfl TL.range (pa_cons (pe_call D1.ok hr1 (by rfl) D1.gl D1.kp D1.bd .nil pass0 (pa_cons (pv 0) (pa_cons pe_int pa_nil))) pa_nil)) (pg_name (i := 5) scLS.nd rfl (Or.inl rfl))
          (pss_one (ps_set (i := 4) scLS.nd rfl (Or.inl rfl) (pe_op op_catT (pe_tup (pa_cons (pe_tup (pa_cons pe_str (pa_cons (pe_call D1.ok hr1 (by rfl) D1.gl D1.kp D1.bd .nil pass0 (pa_cons (pv 0) (pa_cons pe_int pa_nil))) pa_nil))) pa_nil)) (pv 4)))))
        (pss_one (ps_expr (pe_bm PySem.F.plainAttrs_list PySem.F.slot_list_append PySem.F.type_list_append mt_append (pv 1) (pa_cons (pe_tup (pa_cons (pv 4) (pa_cons (pv 3) pa_nil))) pa_nil))))))))
      (pss_cons (ps_set (i := 6) scLS.nd rfl (Or.inr rfl) (pe_lc (own := [("view", 4), ("count", 3)]) (g := gTup K 2 (gCons (gName 4) (gCons (gName 3) gNil))) (tt := tYes) rfl scLS.nd (pi_list (pv 1)) (blkOk_by (N := NS) (sc := defScope sLSure) (by decide +kernel))
        (fun _ _ _ _ _ => pg_tup rfl (pgs_cons (pg_name (i := 4) scLS.nd rfl (Or.inl rfl)) (pgs_cons (pg_name (i := 3) scLS.nd rfl (Or.inl rfl)) pgs_nil))) (fun _ _ _ _ _ => pts_nil) (fun _ _ _ _ _ => pe_call D1.ok hr1 (by rfl) D1.gl D1.kp D1.bd .nil pass0 (pa_cons (pv 0) (pa_cons (pv 3) pa_nil)))))
      (pss_cons (ps_set (i := 7) scLS.nd rfl (Or.inl rfl) (pe_lst pa_nil))
      (pss_cons (ps_for PassesOwn.never rfl (pi_range1 rfl TL.range (pa_cons (pe_callB call_len_seq (by rfl) TL.len PySem.boot_len (pa_cons (pv 1) pa_nil)) pa_nil)) (pg_name (i := 2) scLS.nd rfl (Or.inr rfl))
        (pss_one (ps_expr (pe_bm PySem.F.plainAttrs_list PySem.F.slot_list_append PySem.F.type_list_append mt_append (pv 7) (pa_cons (pe_tup (pa_cons (pe_ix ix_tup (pe_ix ix_list (pv 1) (pv 2) (fun _ _ => rfl)) pe_int (fun _ _ => rfl)) (pa_cons (pe_callTy call_tuple_of (by rfl) TL.tuple (by decide +kernel) (pa_cons
          (pe_lc (own := [("part", 11)]) (g := gName 11) (tt := tYes) rfl scLS.nd (pi_range1 rfl TL.range (pa_cons (pe_ix ix_tup (pe_ix ix_list (pv 1) (pv 2) (fun _ _ => rfl)) pe_int (fun _ _ => rfl)) pa_nil)) (blkOk_by (N := NS) (sc := defScope sLSure) (by decide +kernel)) (fun _ _ _ _ _ => pg_name (i := 11) scLS.nd rfl (Or.inl rfl)) (fun _ _ _ _ _ => pts_nil)
            (fun _ _ _ _ _ => pe_tup (pa_cons (pe_callTy call_int1 (by rfl) TL.int (by decide +kernel) (pa_cons (pe_cmpR op_eq (pv 11) (pe_ix (ix_listK (K := K) rfl) (pv 6) (pv 2) (fun _ _ => rfl)) (nomark _)) pa_nil)) (pa_cons pe_int pa_nil)))) pa_nil)) pa_nil))) pa_nil)))))
      (pss_cons (ps_set (i := 8) scLS.nd rfl (Or.inl rfl) (pe_lst (pa_cons (pe_callTy call_list_of (by rfl) TL.list (by decide +kernel) (pa_cons (pv 1) pa_nil)) (pa_cons (pe_callTy call_list_of (by rfl) TL.list (by decide +kernel) (pa_cons (pv 6) pa_nil)) pa_nil))))
      (pss_cons (ps_set (i := 9) scLS.nd rfl (Or.inl rfl) (pe_call U1.ok hr7 (by rfl) U1.gl U1.kp U1.bd .nil pass0 (pa_cons (pe_ix ix_list (pv 8) pe_int (fun _ _ => rfl)) (pa_cons (pe_ix ix_list (pv 8) pe_int (fun _ _ => rfl)) pa_nil))))
      (pss_cons (ps_set (i := 10) scLS.nd rfl (Or.inl rfl) (pe_make M G hr6 rfl TP.mgP bI .nil passN (pa_cons (pe_lc (own := [("view", 4), ("lots", 14)]) (g := gTup K 2 (gCons (gName 4) (gCons (gName 14) gNil))) (tt := tYes)
        (te := tTup (tCons (tVar 4) (tCons (tLc (iTup K (tVar 14)) (gTup K 2 (gCons (gName 12) (gCons (gName 13) gNil))) tYes (tMake C (spInit C BR) [] E0 (tCons (tVar 12) (tCons (tVar 13) tNil))) [12, 13]) tNil))) rfl scLS.nd (pi_list (pv 7)) (blkOk_by (N := NS) (sc := defScope sLSure) (by decide +kernel))
        (fun _ _ _ _ _ => pg_tup rfl (pgs_cons (pg_name (i := 4) scLS.nd rfl (Or.inl rfl)) (pgs_cons (pg_name (i := 14) scLS.nd rfl (Or.inl rfl)) pgs_nil))) (fun _ _ _ _ _ => pts_nil)
        (fun _ _ _ _ _ => pe_tup (pa_cons (pv 4) (pa_cons (pe_lc (own := [("num", 12), ("den", 13)]) (g := gTup K 2 (gCons (gName 12) (gCons (gName 13) gNil))) (tt := tYes) (wi := iTup K (tVar 14)) (te := tMake C (spInit C BR) [] E0 (tCons (tVar 12) (tCons (tVar 13) tNil))) rfl scLS.nd (pi_tupK (by rfl) (pv 14)) (blkOk_by (N := NS) (sc := relS { kind := .function, names := [((".0" : Str), .local), ("view", .local), ("lots", .local)], isGenerator := false, isCoroutine := false } (defScope sLSure)) (by decide +kernel))
          (fun _ _ _ _ _ => pg_tup rfl (pgs_cons (pg_name (i := 12) scLS.nd rfl (Or.inl rfl)) (pgs_cons (pg_name (i := 13) scLS.nd rfl (Or.inl rfl)) pgs_nil))) (fun _ _ _ _ _ => pts_nil) (fun _ _ _ _ _ => pe_make MR GR hr2 rfl T.mgC bR .nil passL (pa_cons (pv 12) (pa_cons (pv 13) pa_nil)))) pa_nil)))) pa_nil)))
      (pss_cons (ps_if (PW.pt (pw_or (pt_not (pt_val (pe_callB call_isi (by rfl) TL.isi (by decide +kernel) (pa_cons (pv 9) (pa_cons (pe_glob (v := .ref CP) rfl TP.mgP rfl) pa_nil)))))
          (pw_or1 (pt_not (pt_val (pe_call S1.ok hr (by rfl) S1.gl S1.kp S1.bd .nil pass0 (pa_cons (pe_lst (pa_cons (pe_cmpR (op_ownE GP hr5 aP iP bP pass0) (pv 9) (pv 10) (nomark _)) (pa_cons (pe_cmpR (op_ownE GP hr5 aP iP bP pass0) (pv 10) (pv 9) (nomark _)) pa_nil))) (pa_cons (pe_lst (pa_cons pe_bl (pa_cons pe_bl pa_nil))) pa_nil))))))))
        (pss_one (ps_ret pe_bl)) pss_nil)
      (pss_one (ps_ret (pe_and (pe_call S1.ok hr (by rfl) S1.gl S1.kp S1.bd .nil pass0 (pa_cons (pe_call O1.ok hr2 (by rfl) O1.gl O1.kp O1.bd .nil pass0 (pa_cons (pv 9) pa_nil)) (pa_cons (pv 7) pa_nil))) (pe_one (pe_cmpR (op_eqD hr.units) (pv 8) (pe_lst (pa_cons (pv 1) (pa_cons (pv 6) pa_nil))) (nomark _)))))))))))))), ?_⟩
    refine ⟨Nat.zero_le _, fun vl hvl => ?_⟩
    have lp := P0.ne0 hvl
    have L0 : LS H (upd H vl (.lst [])) p vl b [] := LS.ini P0 hvl
    refine ⟨_, rfl, p, 4, b, rfl, L0.pool, by decide, by decide, fun c H1 c0 c1 P1 k1 => ⟨_, rfl, p, 10, b, rfl, P1, by decide, by decide, fun d H2 d0 d1 P2 k2 => ⟨by show 2 ≤ sizeLine; decide, fun tp htp => ⟨_, rfl, p, 2, b, rfl, P2.same (same_upd htp), by decide, by decide, fun e H3 e0 e1 P3 k3 => ?_⟩⟩⟩⟩
    have L3 : LS H H3 p vl b [] := (((L0.draw lp P1 k1).draw lp P2 k2).same (same_upd (o := .tup [.int c, .int d]) htp)).draw lp P3 k3
    have etp : H3 tp = some (.tup [.int c, .int d]) := k3 _ _ upd_same (P2.ne0 htp)
    obtain ⟨n, hn, en⟩ := atN (xs := [c, d]) e0 e1
    have hn2 : 0 ≤ n ∧ n < 10 := by
      simp only [List.mem_cons, List.not_mem_nil, or_false] at hn
      rcases hn with rfl | rfl <;> omega
    refine ⟨tp, _, _, _, rfl, rfl, SqT.of etp, en, n, rfl, by omega, by omega, for_range (lo := 0) (n := n.toNat) (fun i σ H' => (∃ v2 v3 v4 v5, σ = [some (.ref p), some (.ref vl), v2, v3, v4, v5, none, none, none, none, none, none, none, none, none]) ∧ ∃ ws : List Vw, ws.length = i ∧ LS H H' p vl b (ws.map fun v => V.ref v.t) ∧ (∀ v ∈ ws, VwOk H' v) ∧ ∀ (j : Nat) v, ws[j]? = some v → AskV (j : Int) v.key)
      ⟨⟨_, _, _, _, rfl⟩, [], rfl, L3, (fun v hv => nomatch hv), fun j v z => by simp at z⟩ ?_ ?_⟩
    · rintro i σ H4 hi ⟨⟨v2, v3, v4, v5, rfl⟩, ws, hl, L, ok, ak⟩
      refine ⟨_, rfl, p, 8, b, rfl, L.pool, by decide, by decide, fun m H5 m0 m1 P5 k5 => ⟨_, _, rfl, rfl, ?_⟩⟩
      have L5 := L.draw lp P5 k5
      have ok5 : ∀ v ∈ ws, VwOk H5 v := fun v hv => (ok v hv).tk (TK.kp L.pool k5)
      refine ⟨_, rfl, _, rfl, by show 3 ≤ sizeLine; decide, fun a ha => ⟨by show 1 ≤ sizeLine; decide, fun va hva => ?_⟩⟩
      have s7 : Same H5 (upd (upd H5 a (.tup [.str "asked", .int (0 + (i : Int)), .int (1 + m)])) va (.tup [.ref a])) := (same_upd ha).trans (same_upd hva)
      have na : Nest (upd (upd H5 a (.tup [.str "asked", .int (0 + (i : Int)), .int (1 + m)])) va (.tup [.ref a])) (.tup ([] ++ [askK (i : Int) (1 + m)])) (.ref va) := by
        refine .tup upd_same (.cons (.tup (by rw [upd_ne (ne_of_none upd_same hva)]; exact upd_same) (.cons (.text _) (.cons ?_ (.cons (.num _) .nil)))) .nil)
        rw [Int.zero_add]
        exact .num _
      have L7 := L5.same s7
      refine ⟨_, rfl, p, 3, b, rfl, L7.pool, by decide, by decide, fun r H8 r0 r1 P8 k8 => ?_⟩
      have L8 := L7.draw lp P8 k8
      have tk8 := TK.kp L7.pool k8
      refine ⟨r, rfl, by omega, by omega, for_range (lo := 0) (n := r.toNat) (fun i2 σ H' => (∃ va v5 pre, σ = [some (.ref p), some (.ref vl), some (.int (0 + (i : Int))), some (.int (1 + m)), some (.ref va), v5, none, none, none, none, none, none, none, none, none] ∧ pre.length = i2 ∧ (∀ x ∈ pre, Okt 1 x) ∧ Nest H' (.tup (pre ++ [askK (i : Int) (1 + m)])) (.ref va)) ∧ LS H H' p vl b (ws.map fun v => V.ref v.t) ∧ (∀ v ∈ ws, VwOk H' v))
        ⟨⟨va, v5, [], rfl, rfl, (fun x hx => nomatch hx), na.keep tk8⟩, L8, fun v hv => (ok5 v hv).tk ((TK.same s7).trans tk8)⟩ ?_ ?_⟩
      · rintro i2 σ H9 hi2 ⟨⟨va2, v52, pre, rfl, hpl, hpo, hne⟩, L9, ok9⟩
        refine ⟨_, rfl, p, 5, b, rfl, L9.pool, by decide, by decide, fun u H10 u0 u1 P10 k10 => ⟨by show 2 ≤ sizeLine; decide, fun x hx => ⟨by show 1 ≤ sizeLine; decide, fun y hy => ?_⟩⟩⟩
        have L10 := L9.draw lp P10 k10
        have s11 : Same H10 (upd (upd H10 x (.tup [.str "shown", .int u])) y (.tup [.ref x])) := (same_upd hx).trans (same_upd hy)
        have tk11 : TK H9 _ := (TK.kp L9.pool k10).trans (TK.same s11)
        have hne2 := hne.keep tk11
        cases hne2 with
        | @tup _ xs _ ea ra =>
          have hxl := ra.length
          rw [List.length_append, List.length_singleton] at hxl
          refine ⟨_, rfl, y, va2, [.ref x], xs, rfl, rfl, SqT.of upd_same, SqT.of ea, by simp, by rw [List.length_singleton]; exact Nat.le_trans (show 1 + xs.length ≤ 100 by omega) (by decide), fun z => absurd z (fun z => by rw [z] at hxl; simp at hxl), fun _ w hw => ?_⟩
          have s12 := s11.trans (same_upd (o := .tup ([V.ref x] ++ xs)) hw)
          refine ⟨⟨w, _, shK u :: pre, rfl, by rw [List.length_cons, hpl], fun z hz => ?_, ?_⟩, L10.same s12, fun v hv => (ok9 v hv).tk ((TK.kp L9.pool k10).trans (TK.same s12))⟩
          · rcases List.mem_cons.mp hz with rfl | hz
            · exact oktSh u
            · exact hpo z hz
          · have kw := TK.same (same_upd (H := upd (upd H10 x (.tup [.str "shown", .int u])) y (.tup [.ref x])) (o := .tup ([V.ref x] ++ xs)) hw)
            refine .tup upd_same (.cons (Nest.keep kw (.tup ?_ (.cons (.text _) (.cons (.num _) .nil)))) (NestL.keep kw ra))
            rw [upd_ne (ne_of_none upd_same hy)]
            exact upd_same
      · rintro σ H9 ⟨⟨va2, v52, pre, rfl, hpl, hpo, hne⟩, L9, ok9⟩
        refine ⟨_, rfl, .inl ⟨rfl, _, SqL.of L9.hl⟩, _, rfl, _, rfl, by show 2 ≤ sizeLine; decide, fun t ht => ?_⟩
        have s10 : Same H9 (upd H9 t (.tup [.ref va2, .int (1 + m)])) := same_upd ht
        have L10 := L9.same s10
        have tkl : TK (upd H9 t (.tup [.ref va2, .int (1 + m)])) (upd (upd H9 t (.tup [.ref va2, .int (1 + m)])) vl (.lst (ws.map (fun v => V.ref v.t) ++ [V.ref t]))) := TK.lst L10.hl
        have av : AskV (i : Int) (.tup (pre ++ [askK (i : Int) (1 + m)])) := ⟨pre, _, rfl, by omega, hpo⟩
        obtain ⟨sv, dv⟩ := okt_shaped av.okt (by decide)
        have V1 : VwOk (upd H9 t (.tup [.ref va2, .int (1 + m)])) ⟨t, va2, .tup (pre ++ [askK (i : Int) (1 + m)]), 1 + m⟩ := ⟨upd_same, hne.keep (TK.same s10), sv, dv, by show 1 ≤ 1 + m; omega, by show 1 + m ≤ 100; omega⟩
        refine ⟨vl, _, _, rfl, rfl, L10.hl, by rw [List.length_map, hl]; exact Nat.lt_of_lt_of_le (show i < 11 by omega) (by decide), ⟨_, _, _, _, rfl⟩, ws ++ [⟨t, va2, .tup (pre ++ [askK (i : Int) (1 + m)]), 1 + m⟩], by rw [List.length_append, hl]; rfl, by rw [List.map_append]; exact L10.set P0 hvl _, fun v hv => ?_, fun j v hj => ?_⟩
        · rcases List.mem_append.mp hv with hv | hv
          · exact (ok9 v hv).tk ((TK.same s10).trans tkl)
          · rw [List.mem_singleton.mp hv]
            exact V1.tk tkl
        · rcases get_snoc hj with ⟨_, hj2⟩ | ⟨hj2, rfl⟩
          · exact ak j v hj2
          · rw [hj2, hl]
            exact av
    · rintro σ H4 ⟨⟨v2, v3, v4, v5, rfl⟩, ws, hl, L, ok, ak⟩
      have hw10 : ws.length < 10 := by omega
      have vl4 := L.hl
      refine ⟨_, rfl, vl, rfl, ⟨_, SqL.of vl4⟩, fun ml hml => ?_⟩
      have P4 := L.pool
      refine lc_list (xs := ws.map fun v => V.ref v.t) (fun i H' => ∃ ms : List Int, ms.length = i ∧ LS H4 H' p ml b (ms.map V.int) ∧ (∀ (j : Nat) v m, ws[j]? = some v → ms[j]? = some m → 0 ≤ m ∧ m < v.n) ∧ ∀ v ∈ ws, VwOk H' v)
        ⟨[], rfl, LS.ini P4 hml, (fun j v m _ z => by simp at z), fun v hv => (ok v hv).ext (same_upd hml)⟩ (fun i H' _ ⟨_, _, L', _, _⟩ => SqL.of (L'.kp _ _ vl4 lp)) ?_ ?_
      · rintro i x H5 hx ⟨ms, hl2, L5, bd5, ok5⟩
        obtain ⟨v, hv, rfl⟩ := Option.map_eq_some_iff.mp ((List.getElem?_map ..).symm.trans hx)
        have V5 := ok5 v (List.mem_of_getElem? hv)
        have mp := P4.ne0 hml
        refine ⟨v.t, _, rfl, SqT.of V5.ht, rfl, _, _, rfl, _, _, rfl, rfl, rfl, tYesI ⟨_, rfl, _, rfl, p, v.n, b, rfl, L5.pool, by have := V5.n0; omega, by have := V5.n1; omega, fun m H6 m0 m1 P6 k6 => ?_⟩⟩
        have L6 := L5.draw mp P6 k6
        have hil : i < ws.length := (List.getElem?_eq_some_iff.mp hv).1
        have tkl := TK.lst (us := ms.map V.int ++ [V.int m]) L6.hl
        refine ⟨_, L6.hl, by rw [List.length_map, hl2]; exact Nat.lt_of_lt_of_le (show i < 10 by omega) (by decide), ms ++ [m], by rw [List.length_append, hl2]; rfl, by rw [List.map_append]; exact L6.set P4 hml _, fun j u m' hu hm' => ?_, fun u hu => ((ok5 u hu).tk (TK.kp L5.pool k6)).tk tkl⟩
        rcases get_snoc hm' with ⟨_, hj2⟩ | ⟨hj2, rfl⟩
        · exact bd5 j u m' hu hj2
        · rw [hj2, hl2, hv] at hu
          cases hu
          exact ⟨m0, m1⟩
      · rintro H5 ⟨ms, hl2, L5, bd5, ok5⟩
        rw [List.length_map] at hl2
        have vl5 : H5 vl = some (.lst (ws.map fun v => V.ref v.t)) := L5.kp _ _ vl4 lp
        have ml5 := L5.hl
        have hvm : vl ≠ ml := ne_of_none vl4 hml
        refine ⟨Nat.zero_le _, fun dl hdl => ?_⟩
        have s6 : Same H5 (upd H5 dl (.lst [])) := same_upd hdl
        refine ⟨_, rfl, vl, _, rfl, .inl (SqL.of (s6 _ _ vl5)), _, rfl, by rw [List.length_map]; omega, by rw [List.length_map]; omega, for_range (lo := 0) (n := (List.map (fun v : Vw => V.ref v.t) ws).length) (fun i σ H' => (∃ v2, σ = [some (.ref p), some (.ref vl), v2, v3, v4, v5, some (.ref ml), some (.ref dl), none, none, none, none, none, none, none]) ∧ ∃ ds : List DE, ds.length = i ∧ H' dl = some (.lst (ds.map fun x => V.ref x.e)) ∧ (∀ (j : Nat) v m x, ws[j]? = some v → ms[j]? = some m → ds[j]? = some x → DueOk H' v m x) ∧ Same H5 H')
          ⟨⟨_, rfl⟩, [], rfl, upd_same, (fun j v m x _ _ z => by simp at z), s6⟩ ?_ ?_⟩
        · rintro i σ H6 hi ⟨⟨v2, rfl⟩, ds, hl3, dl6, due6, s5⟩
          have hi : i < ws.length := by rw [List.length_map] at hi; omega
          have hv := List.getElem?_eq_getElem hi
          have hm := List.getElem?_eq_getElem (l := ms) (i := i) (by omega)
          have V6 := (ok5 _ (List.getElem_mem hi)).ext s5
          have vl6 := s5 _ _ vl5
          have ml6 := s5 _ _ ml5
          have av : atI (ws.map fun v => V.ref v.t) (0 + (i : Int)) = some (.ref ws[i].t) := by
            rw [Int.zero_add]
            exact atI_nat (by rw [List.getElem?_map, hv]; rfl)
          have am : atI (ms.map V.int) (0 + (i : Int)) = some (.int ms[i]) := by
            rw [Int.zero_add]
            exact atI_nat (by rw [List.getElem?_map, hm]; rfl)
          have n0 := V6.n0
          have n1 := V6.n1
          refine ⟨_, rfl, .inl ⟨rfl, _, SqL.of dl6⟩, _, rfl, _, rfl, vl, _, _, _, rfl, rfl, SqL.of vl6, av, ws[i].t, _, _, _, rfl, rfl, SqT.of V6.ht, atI_nat (j := 0) rfl, _, rfl, _, rfl, vl, _, _, _, rfl, rfl, SqL.of vl6, av, ws[i].t, _, _, _, rfl, rfl, SqT.of V6.ht, atI_nat (j := 1) rfl, ws[i].n, rfl, by omega, by omega, fun D hD => ?_⟩
          refine lc_range (lo := 0) (n := ws[i].n.toNat) (fun j H' => ∃ ts : List Addr, ts.length = j ∧ H' D = some (.lst (ts.map V.ref)) ∧ (∀ (i2 : Nat) t q, ts[i2]? = some t → (oneP ms[i] ws[i].n)[i2]? = some q → PairT H' t q) ∧ Same H6 H') ⟨[], rfl, upd_same, (fun i2 t q z => by simp at z), same_upd hD⟩ ?_ ?_
          · rintro j H7 hj ⟨ts, hl4, D7, pr7, s67⟩
            have ml7 := s67 _ _ ml6
            refine ⟨rfl, tYesI ⟨_, rfl, _, rfl, _, rfl, ml, _, _, _, rfl, rfl, SqL.of ml7, am, rfl, .inr ⟨_, rfl, by show 2 ≤ sizeLine; decide, fun e he => ?_⟩⟩⟩
            have s8 := same_upd (H := H7) (o := .tup [.int (if decide (V.int (0 + (j : Int)) = V.int ms[i]) = true then 1 else 0), .int 1]) he
            have tk9 := TK.lst (us := ts.map V.ref ++ [V.ref e]) (s8 _ _ D7)
            refine ⟨_, s8 _ _ D7, by rw [List.length_map, hl4]; exact Nat.lt_of_lt_of_le (show j < 101 by omega) (by decide), ts ++ [e], by rw [List.length_append, hl4]; rfl, by rw [upd_same, List.map_append]; rfl, fun i2 t q ht hq => ?_, fun b o z => ?_⟩
            · rcases get_snoc ht with ⟨_, ht2⟩ | ⟨ht2, rfl⟩
              · exact ((pr7 i2 t q ht2 hq).tk (TK.same s8)).tk tk9
              · rw [oneP_get hq, ht2, hl4]
                refine PairT.tk (H := upd H7 e _) ?_ tk9
                show upd H7 e _ e = some (.tup [.int (if (j : Int) = ms[i] then 1 else 0), .int 1])
                rw [upd_same]
                congr 4
                by_cases z : (j : Int) = ms[i]
                · rw [if_pos z, Int.zero_add, z, decide_eq_true rfl]
                  rfl
                · rw [if_neg z, Int.zero_add, decide_eq_false (fun q => z (V.int.inj q))]
                  rfl
            · rw [upd_ne (ne_of_none z hD)]
              exact s8 _ _ (s67 _ _ z)
          · rintro H7 ⟨ts, hl4, D7, pr7, s67⟩
            refine ⟨D, _, rfl, .inl ⟨SqL.of D7, fun t ht => ⟨by show 2 ≤ sizeLine; decide, fun e he => ?_⟩⟩⟩
            have s8 : Same H7 (upd (upd H7 t (.tup (ts.map V.ref))) e (.tup [.ref ws[i].va, .ref t])) := (same_upd ht).trans (same_upd he)
            have s9 := s67.trans s8
            have tk := TK.lst (us := ds.map (fun x => V.ref x.e) ++ [V.ref e]) (s9 _ _ dl6)
            have X : DueOk (upd (upd H7 t (.tup (ts.map V.ref))) e (.tup [.ref ws[i].va, .ref t])) ws[i] ms[i] ⟨e, t, ts⟩ := ⟨upd_same, by rw [upd_ne (ne_of_none upd_same he)]; exact upd_same, by rw [hl4, oneP_len], fun j t' q a b => (pr7 j t' q a b).tk (TK.same s8)⟩
            refine ⟨dl, _, _, rfl, rfl, s9 _ _ dl6, by rw [List.length_map, hl3]; exact Nat.lt_of_lt_of_le (show i < 10 by omega) (by decide), ⟨_, rfl⟩, ds ++ [⟨e, t, ts⟩], by rw [List.length_append, hl3]; rfl, by rw [upd_same, List.map_append]; rfl, fun j v m x hv' hm' hx => ?_, fun b o z => ?_⟩
            · rcases get_snoc hx with ⟨_, hx2⟩ | ⟨hx2, rfl⟩
              · exact ((due6 j v m x hv' hm' hx2).tk (TK.same s9)).tk tk
              · rw [hx2, hl3, hv] at hv'
                rw [hx2, hl3, hm] at hm'
                cases hv'
                cases hm'
                exact X.tk tk
            · rw [upd_ne (ne_of_none z hdl)]
              exact s9 _ _ (s5 _ _ z)
        · rintro σ H6 ⟨⟨v2, rfl⟩, ds, hl3, dl6, due6, s5⟩
          rw [List.length_map] at hl3
          have vl6 := s5 _ _ vl5
          have ml6 := s5 _ _ ml5
          have ok6 : ∀ v ∈ ws, VwOk H6 v := fun v hv => (ok5 v hv).ext s5
          have nd := asks_nodup ak
          refine ⟨_, rfl, vl, _, rfl, .inl (SqL.of vl6), fun pw hpw => ?_⟩
          have s7 : Same H6 (upd H6 pw (.lst (ws.map fun v => V.ref v.t))) := same_upd hpw
          refine ⟨_, rfl, ml, _, rfl, .inl (SqL.of (s7 _ _ ml6)), fun pm hpm => ⟨by show 2 ≤ sizeLine; decide, fun pl hpl => ?_⟩⟩
          have s8 : Same (upd H6 pw (.lst (ws.map fun v => V.ref v.t))) (upd (upd H6 pw (.lst (ws.map fun v => V.ref v.t))) pm (.lst (ms.map V.int))) := same_upd hpm
          have s9 : Same (upd (upd H6 pw (.lst (ws.map fun v => V.ref v.t))) pm (.lst (ms.map V.int))) (upd (upd (upd H6 pw (.lst (ws.map fun v => V.ref v.t))) pm (.lst (ms.map V.int))) pl (.lst [.ref pw, .ref pm])) := same_upd hpl
          have epw := s9 _ _ (s8 _ _ (upd_same (H := H6) (a := pw)))
          have epm := s9 _ _ (upd_same (H := upd H6 pw (.lst (ws.map fun v => V.ref v.t))) (a := pm))
          have epl : upd (upd (upd H6 pw (.lst (ws.map fun v => V.ref v.t))) pm (.lst (ms.map V.int))) pl (.lst [.ref pw, .ref pm]) pl = some (.lst [.ref pw, .ref pm]) := upd_same
          have s69 := (s7.trans s8).trans s9
          generalize upd (upd (upd H6 pw (.lst (ws.map fun v => V.ref v.t))) pm (.lst (ms.map V.int))) pl (.lst [.ref pw, .ref pm]) = H9 at *
          refine ⟨_, rfl, pl, _, _, _, rfl, rfl, SqL.of epl, atI_nat (j := 0) rfl, _, rfl, pl, _, _, _, rfl, rfl, SqL.of epl, atI_nat (j := 1) rfl, pw, pm, ws, ms, rfl, SqL.of epw, SqL.of epm, (fun v hv => (ok6 v hv).ext s69), hl2.symm, by omega, bd5, nd, fun ac H10 rs xs s10 PA pr hrl sr _ => ?_⟩
          have dl10 := s10 _ _ (s69 _ _ dl6)
          refine ⟨_, rfl, dl, rfl, ⟨_, SqL.of dl10⟩, fun D hD => ?_⟩
          refine lc_list (xs := ds.map fun x => V.ref x.e) (fun i H' => ∃ rows : List Row, rows.length = i ∧ H' D = some (.lst (rows.map fun r => V.ref r.e)) ∧ (∀ r ∈ rows, RowOk K C H' r ∧ r.la ≠ D) ∧ SureR ws ms rows ∧ Same H10 H') ⟨[], rfl, upd_same, (fun r hr => nomatch hr), (fun j r z => by simp at z), same_upd hD⟩ (fun i H' _ ⟨_, _, _, _, _, s'⟩ => SqL.of (s' _ _ dl10)) ?_ ?_
          · rintro i x H11 hx ⟨rows, hl4, eD, hrow, srw, s11⟩
            obtain ⟨x, hx0, rfl⟩ := Option.map_eq_some_iff.mp ((List.getElem?_map ..).symm.trans hx)
            clear hx
            have hx := hx0
            have hi : i < ws.length := by
              have := (List.getElem?_eq_some_iff.mp hx).1
              omega
            have hv := List.getElem?_eq_getElem hi
            have hm := List.getElem?_eq_getElem (l := ms) (i := i) (by omega)
            have s611 := (s69.trans s10).trans s11
            have X := (due6 i _ _ x hv hm hx).tk (TK.same s611)
            have V11 := (ok6 _ (List.getElem_mem hi)).ext s611
            refine ⟨x.e, _, rfl, SqT.of X.he, rfl, _, _, rfl, _, _, rfl, rfl, rfl, tYesI ⟨_, rfl, _, rfl, x.la, rfl, ⟨_, SqT.of X.hl⟩, fun D2 hD2 => ?_⟩⟩
            have hpl2 := X.len
            refine lc_rats (ts := x.ts) (prs := oneP ms[i] ws[i].n) (by rw [← X.len]; have w := walk_tup (K := K) (a := x.la) (xs := x.ts.map V.ref); rw [List.length_map] at w; exact w) X.len (by rw [oneP_len]; have := V11.n1; omega) X.pr (fun q hq => ?_) (by decide) (by show 12 < 15; decide) (by show 13 < 15; decide) hD2 (fun H2 s2 => SqT.of (s2 _ _ X.hl)) fun as H12 hal eD2 hR s12 => ?_
            · obtain ⟨w, _, rfl⟩ := List.mem_map.mp hq
              exact bd_rd (by decide) (by decide)
            · refine ⟨by show 2 ≤ sizeLine; decide, fun e2 he2 => ?_⟩
              have L12 := lots_one hal V11.n1 hR
              have s13 : Same H11 (upd H12 e2 (.tup [.ref ws[i].va, .ref D2])) := s12.trans (same_upd he2)
              have V13 := V11.ext s13
              have eD4 := s13 _ _ eD
              have hDD : D2 ≠ D := fun e => by rw [e, eD] at hD2; cases hD2
              have kD : ∀ b o, upd H12 e2 (.tup [.ref ws[i].va, .ref D2]) b = some o → b ≠ D → upd (upd H12 e2 (.tup [.ref ws[i].va, .ref D2])) D (.lst (rows.map (fun r => V.ref r.e) ++ [V.ref e2])) b = some o := fun b o z hb => by rw [upd_ne hb]; exact z
              have hla : upd H12 e2 (.tup [.ref ws[i].va, .ref D2]) D2 = some (.lst (as.map V.ref)) := by rw [upd_ne (ne_of_none eD2 he2)]; exact eD2
              have R4 : RowOk K C (upd H12 e2 (.tup [.ref ws[i].va, .ref D2])) ⟨e2, ws[i].va, ws[i].key, D2, as, oneW ms[i] ws[i].n, 1⟩ := ⟨upd_same, V13.hv, V13.sv, V13.dv, .inl hla, L12.same (same_upd he2)⟩
              refine ⟨_, eD4, by rw [List.length_map, hl4]; exact Nat.lt_of_lt_of_le (show i < 1001 by omega) (by decide), rows ++ [⟨e2, ws[i].va, ws[i].key, D2, as, oneW ms[i] ws[i].n, 1⟩], by rw [List.length_append, hl4]; rfl, by rw [upd_same, List.map_append]; rfl, fun r hr => ?_, fun j r hj => ?_, fun b o z => ?_⟩
              · rcases List.mem_append.mp hr with hr | hr
                · exact ⟨((hrow r hr).1.ext s13).keepD eD4 (hrow r hr).2 kD, (hrow r hr).2⟩
                · rw [List.mem_singleton.mp hr]
                  exact ⟨R4.keepD eD4 hDD kD, hDD⟩
              · rcases get_snoc hj with ⟨_, hj2⟩ | ⟨hj2, rfl⟩
                · exact srw j r hj2
                · rw [hl4] at hj2
                  exact ⟨ws[i], ms[i], (congrArg (fun k => ws[k]?) hj2).trans hv, (congrArg (fun k => ms[k]?) hj2).trans hm, rfl, rfl, rfl⟩
              · rw [upd_ne (ne_of_none z hD)]
                exact s13 _ _ (s11 _ _ z)
          · rintro H11 ⟨rows, hl4, eD, hrow, srw, s11⟩
            rw [List.length_map] at hl4
            intro p2 dx np ndx ndp
            have sp : Same H11 (upd (upd H11 dx (.own p2)) p2 (.ins CP dx [])) := fun b o z => by
              rw [upd_ne (ne_of_none z np), upd_ne (ne_of_none z ndx)]
              exact z
            have hrl2 : rows.length = ws.length := by omega
            refine ⟨p2, dx, D, rows, rfl, upd_same, sp _ _ eD, fun r hr => (hrow r hr).1.ext sp, by omega, fun n hb => ?_, fun _ H12 ys PA2 pr2 _ kp => ⟨rfl, ?_⟩⟩
            · rw [sure_good srw hrl2 bd5 nd] at hb
              cases hb
            · have s12 : Same H11 H12 := Same.made np ndx kp
              obtain ⟨r1, r2⟩ := sure_rows sr srw hrl hrl2 pr pr2
              have PA12 := PA.ext (s11.trans s12)
              obtain ⟨⟨dx1, l1, d1, g1, _⟩, _⟩ := id PA12
              obtain ⟨⟨dx2, l2, d2, g2, _⟩, _⟩ := id PA2
              refine ⟨_, rfl, .ref ac, .ref CP, .ref CP, .ref CP, true, rfl, .own CP, .base (.ins g1 TP.cl TP.si.ca TP.si.cn TP.si.ct TP.si.cm), kit_self, _, rfl, iteF ?_⟩
              refine ⟨_, rfl, _, rfl, ac, dx1, _, p2, dx2, _, rfl, rfl, g1, g2, ac, p2, xs, ys, rfl, PA12, PA2, fun H13 e13 => ?_⟩
              refine ⟨_, rfl, _, rfl, p2, dx2, _, ac, dx1, _, rfl, rfl, e13 _ _ g2, e13 _ _ g1, p2, ac, ys, xs, rfl, PA2.ext e13, PA12.ext e13, fun H14 e14 => ?_⟩
              rw [r1, r2]
              refine ⟨by show 2 ≤ sizeLine; decide, fun la hla => ⟨by show 2 ≤ sizeLine; decide, fun lb hlb => ?_⟩⟩
              have s1214 : Same H12 (upd (upd H14 la (.lst [.bl true, .bl true])) lb (.lst [.bl true, .bl true])) := fun b o z => (same_upd hlb) _ _ ((same_upd hla) _ _ (e14 _ _ (e13 _ _ z)))
              refine ⟨_, _, rfl, .lst 12 (xs := [.bl true, .bl true]) (ys := [.bl true, .bl true]) (by rw [upd_ne (ne_of_none upd_same hlb)]; exact upd_same) upd_same rfl (by show 2 ≤ 200000; decide) (fun i x y hx hy => ?_), _, rfl, iteF ?_⟩
              · rw [hx] at hy
                cases hy
                have hm := List.mem_of_getElem? hx
                simp only [List.mem_cons, List.not_mem_nil, or_false] at hm
                rcases hm with rfl | rfl <;> exact .flat _ (.bl true)
              · have s1015 := (s11.trans s12).trans s1214
                have PA15 := PA.ext s1015
                have hxl : xs.length = ws.length := by rw [← pr.length, hrl]
                refine ⟨_, rfl, ac, xs, rfl, PA15, by omega, fun x hx => ?_, fun r us H16 s16 hr hus nus => ?_⟩
                · obtain ⟨j, hj⟩ := List.getElem?_of_mem hx
                  have hj2 : j < rs.length := by
                    have := (List.getElem?_eq_some_iff.mp hj).1
                    omega
                  have e1 := List.getElem?_eq_getElem hj2
                  obtain ⟨_, _, l1, _⟩ := paired_both pr e1 hj
                  obtain ⟨v, m, a1, a2, a3, a4, a5⟩ := sr j _ e1
                  rw [l1]
                  unfold Row.lots
                  rw [List.length_map, a4, oneW_len]
                  have := (ok6 v (List.mem_of_getElem? a1)).n1
                  omega
                · have s616 := ((s69.trans s10).trans s1015).trans s16
                  have ok16 : ∀ v ∈ ws, VwOk H16 v := fun v hv => (ok6 v hv).ext s616
                  have nd16 := due_nest ok16 hl3 hl2 fun j v m x a b c => (due6 j v m x a b c).tk (TK.same s616)
                  rw [sure_keys sr hrl hl2 pr] at nus
                  refine ⟨_, rfl, .ref r, .ref dl, rfl, sd_list (n := 12) (fun k hk => ?_) ?_ hus (s616 _ _ dl6) nus nd16, _, rfl, iteT ?_⟩
                  · obtain ⟨q, hq, rfl⟩ := List.mem_map.mp hk
                    obtain ⟨j, hj⟩ := List.getElem?_of_mem hq
                    have hz := List.getElem?_zip_eq_some.mp hj
                    refine (okk_ent (n := 2) (ak j _ hz.1).okt.okk (by decide) ?_).mono (by decide)
                    rw [oneP_len]
                    have := (ok6 _ (List.mem_of_getElem? hz.1)).n1
                    omega
                  · rw [List.length_map, List.length_zip]
                    omega
                  · have s916 := (s10.trans s1015).trans s16
                    refine ⟨_, rfl, _, rfl, _, rfl, by show 2 ≤ sizeLine; decide, fun z hz => ?_⟩
                    have s17 := same_upd (o := .lst [.ref vl, .ref ml]) hz
                    have ok17 : ∀ v ∈ ws, VwOk (upd H16 z (.lst [.ref vl, .ref ml])) v := fun v hv => (ok16 v hv).ext s17
                    refine ⟨_, _, dpPass (s17 _ _ (s916 _ _ epl)) (s17 _ _ (s916 _ _ epw)) (s17 _ _ (s916 _ _ epm)) ok17, dpPass upd_same (s17 _ _ (s616 _ _ vl6)) (s17 _ _ (s616 _ _ ml6)) ok17, shapedPass ok17, shapedPass ok17, ?_⟩
                    rw [refl_shaped (shapedPass ok17)]
                    exact q _
end
end K0

set_option Elab.async false
set_option linter.all false
set_option maxRecDepth 100000
set_option maxHeartbeats 4000000
namespace K0
open PySem PySem.Spec PyProof.Rows L2 Kx Kh Kd
/-! ### the law's rows -/
structure RR where
  e : Addr
  d : DR
def RR.row (x : RR) : Row := ⟨x.e, x.d.va, x.d.key, x.d.l, [], x.d.ws, x.d.W⟩
/-- it ends with a question of few numbers -/
def KL (k : NestedKey) : Prop := ∃ (ks : List NestedKey) (c : Int), k = .tup ks ∧ c < 4 ∧ ks.getLast? = some (askK c 2)
structure RROk (H : Hp) (p rl : Addr) (x : RR) : Prop where
  he : H x.e = some (.tup [.ref x.d.va, .ref x.d.l])
  d : DROk H x.d
  np : x.d.l ≠ p
  nr : x.d.l ≠ rl
  kv : Okt 2 x.d.key
  ln : x.d.ws.length ≤ 10
  kl : KL x.d.key
theorem Prs.keep {H H' : Hp} {l : Addr} {ws : List Int} {W : Int} (h : Prs H l ws W) (tk : TK H H') (hl : ∀ xs, H l = some (.lst xs) → H' l = some (.lst xs)) : Prs H' l ws W := by
  obtain ⟨ts, h1, h2, h3⟩ := h.at_
  exact ⟨⟨ts, hl _ h1, h2, fun j t w a b => tk _ _ (h3 j t w a b)⟩, h.pos, h.big, h.small, h.few⟩
theorem RROk.keep {H H' : Hp} {p rl : Addr} {x : RR} (h : RROk H p rl x) (tk : TK H H') (hl : ∀ xs, H x.d.l = some (.lst xs) → H' x.d.l = some (.lst xs)) : RROk H' p rl x :=
  ⟨tk _ _ h.he, ⟨h.d.hv.keep tk, h.d.sv, h.d.dv, h.d.pr.keep tk hl⟩, h.np, h.nr, h.kv, h.ln, h.kl⟩
theorem RROk.same {H H' : Hp} {p rl : Addr} {x : RR} (h : RROk H p rl x) (s : Same H H') : RROk H' p rl x := h.keep (TK.same s) fun xs z => s _ _ z
structure LR (H0 H : Hp) (p rl : Addr) (b : Int) (ds : List RR) : Prop where
  ls : LS H0 H p rl b (ds.map fun x => V.ref x.e)
  ok : ∀ x ∈ ds, RROk H p rl x
theorem LR.draw {H0 H1 H2 : Hp} {p rl : Addr} {b : Int} {ds : List RR} (h : LR H0 H1 p rl b ds) (hn : rl ≠ p) (P : PoolAt H2 p b) (k : Kp p H1 H2) : LR H0 H2 p rl b ds :=
  ⟨h.ls.draw hn P k, fun x hx => (h.ok x hx).keep (TK.kp h.ls.pool k) fun xs z => k _ _ z (h.ok x hx).np⟩
theorem LR.same {H0 H1 H2 : Hp} {p rl : Addr} {b : Int} {ds : List RR} (h : LR H0 H1 p rl b ds) (s : Same H1 H2) : LR H0 H2 p rl b ds := ⟨h.ls.same s, fun x hx => (h.ok x hx).same s⟩
theorem LR.snoc {H0 H1 : Hp} {p rl : Addr} {b : Int} {ds : List RR} {x : RR} (h : LR H0 H1 p rl b ds) (P0 : PoolAt H0 p b) (hn : H0 rl = none) (hx : RROk H1 p rl x) : LR H0 (upd H1 rl (.lst (ds.map (fun x => V.ref x.e) ++ [V.ref x.e]))) p rl b (ds ++ [x]) := by
  have tk := TK.lst (us := ds.map (fun x => V.ref x.e) ++ [V.ref x.e]) h.ls.hl
  have kp : ∀ y : RR, RROk H1 p rl y → RROk (upd H1 rl (.lst (ds.map (fun x => V.ref x.e) ++ [V.ref x.e]))) p rl y := fun y hy => hy.keep tk fun xs z => by
    rw [upd_ne hy.nr]
    exact z
  refine ⟨by rw [List.map_append]; exact h.ls.set P0 hn _, fun y hy => ?_⟩
  rcases List.mem_append.mp hy with hy | hy
  · exact kp y (h.ok y hy)
  · rw [List.mem_singleton.mp hy]
    exact kp x hx
/-! ### the first one that is not valid, row by row -/
theorem badFrom_snoc (r : Row) : ∀ (rs : List Row) (seen : List NestedKey) (n : Nat), badFrom seen n (rs ++ [r]) = (badFrom seen n rs).or (if rowBad (seen ++ rs.map (·.key)) r = true then some (n + rs.length) else none)
  | [], seen, n => by
    show (if rowBad seen r = true then some n else none) = _
    rw [List.map_nil, List.append_nil]
    rfl
  | x :: rs, seen, n => by
    show (if rowBad seen x = true then some n else badFrom (seen ++ [x.key]) (n + 1) (rs ++ [r])) = (if rowBad seen x = true then some n else badFrom (seen ++ [x.key]) (n + 1) rs).or _
    by_cases h : rowBad seen x = true
    · rw [if_pos h, if_pos h]
      rfl
    · rw [if_neg h, if_neg h, badFrom_snoc r rs, List.map_cons, List.append_assoc, List.length_cons, show n + 1 + rs.length = n + (rs.length + 1) by omega]
      rfl
theorem badFrom_congr : ∀ {rs rs' : List Row} (seen : List NestedKey) (n : Nat), Paired (fun r r' => r.key = r'.key ∧ r.ws = r'.ws ∧ r.W = r'.W) rs rs' → badFrom seen n rs = badFrom seen n rs'
  | [], [], _, _, .nil => rfl
  | x :: rs, y :: rs', seen, n, .cons ⟨h1, h2, h3⟩ r => by
    show (if rowBad seen x = true then some n else badFrom (seen ++ [x.key]) (n + 1) rs) = (if rowBad seen y = true then some n else badFrom (seen ++ [y.key]) (n + 1) rs')
    have e : rowBad seen x = rowBad seen y := by
      unfold rowBad
      rw [h1, h2, h3]
    rw [e, h1, badFrom_congr (seen ++ [y.key]) (n + 1) r]
theorem badFrom_lt : ∀ (rs : List Row) (seen : List NestedKey) (n m : Nat), badFrom seen n rs = some m → m < n + rs.length
  | [], _, _, _, h => nomatch h
  | x :: rs, seen, n, m, h => by
    have h : (if rowBad seen x = true then some n else badFrom (seen ++ [x.key]) (n + 1) rs) = some m := h
    rw [List.length_cons]
    by_cases z : rowBad seen x = true
    · rw [if_pos z] at h
      cases h
      omega
    · rw [if_neg z] at h
      have := badFrom_lt rs _ _ _ h
      omega
theorem badFrom_good : ∀ (rs : List Row) (seen : List NestedKey) (n : Nat), badFrom seen n rs = none → (∀ r ∈ rs, lotsB r.ws r.W = true) ∧ ((seen.Nodup → (seen ++ rs.map (·.key)).Nodup))
  | [], seen, _, _ => ⟨fun r hr => (nomatch hr), fun h => by rw [List.map_nil, List.append_nil]; exact h⟩
  | x :: rs, seen, n, h => by
    have h : (if rowBad seen x = true then some n else badFrom (seen ++ [x.key]) (n + 1) rs) = none := h
    by_cases z : rowBad seen x = true
    · rw [if_pos z] at h
      cases h
    · rw [if_neg z] at h
      obtain ⟨h1, h2⟩ := badFrom_good rs _ _ h
      unfold rowBad at z
      rw [Bool.or_eq_true, not_or, Bool.not_eq_true, Bool.not_eq_true, Bool.not_eq_false'] at z
      obtain ⟨z1, z2⟩ := z
      refine ⟨fun r hr => ?_, fun hn => ?_⟩
      · rcases List.mem_cons.mp hr with rfl | hr
        · exact z2
        · exact h1 r hr
      · have h3 := h2 (List.nodup_append.mpr ⟨hn, List.pairwise_singleton _ _, fun a ha b hb e => by
          rw [List.mem_singleton.mp hb] at e
          have := List.any_eq_false.mp z1 a ha
          rw [e, decide_eq_true rfl] at this
          exact this rfl⟩)
        rw [List.append_assoc] at h3
        exact h3
def oV : Option Nat → V
  | none => .non
  | some n => .int (n : Int)
/-- what the law's `wrong` says of a row -/
theorem wrong_is {seen : List NestedKey} {r : Row} (hW : 1 ≤ r.W) : rowBad seen r = (decide (r.ws = []) || (!decide (r.ws.sum = r.W) || (r.ws.any (fun w => decide (w < 0)) || seen.any (fun k => decide (k = r.key))))) := by
  unfold rowBad lotsB
  rw [Bool.eq_iff_iff]
  simp only [Bool.or_eq_true, Bool.not_eq_true', Bool.and_eq_false_iff, decide_eq_true_eq, decide_eq_false_iff_not]
  have h1 : (r.ws.all (fun w => decide (0 ≤ w)) = false) ↔ (r.ws.any (fun w => decide (w < 0)) = true) := by
    rw [List.all_eq_false, List.any_eq_true]
    constructor
    · rintro ⟨w, hw, h⟩
      have h2 : ¬ 0 ≤ w := fun q => h (decide_eq_true q)
      exact ⟨w, hw, decide_eq_true (by omega)⟩
    · rintro ⟨w, hw, h⟩
      exact ⟨w, hw, fun q => by have h1 := of_decide_eq_true h; have h2 := of_decide_eq_true q; omega⟩
  rw [h1]
  constructor
  · rintro (h | h | h)
    · exact .inr (.inr (.inr h))
    · exact .inr (.inr (.inl h))
    · exact .inr (.inl h)
  · rintro (h | h | h | h)
    · refine .inr (.inr ?_)
      rw [h]
      show ¬ (0 : Int) = r.W
      omega
    · exact .inr (.inr h)
    · exact .inr (.inl h)
    · exact .inl h
abbrev NL : List Str := ["script", "pool", "rows", "bad", "k", "view", "weights", "whole", "wrong", "lots", "entries", "kept", "plan", "e", "due", "told", "more", "other", "short", "at", "moved", "row", "weight", "num", "den"]
theorem scLa : FnScope NL ["script"] (defScope sLaw) := ⟨rfl, rfl, rfl, by decide +kernel, rfl, by decide +kernel, by decide +kernel⟩
def forBody : Stmt → List Stmt
  | .For _ _ b _ _ => b
  | _ => []
abbrev lawLoop : List Stmt := forBody ((defBody sLaw).getD 3 (.Pass default))
end K0

set_option Elab.async false
set_option linter.all false
set_option maxRecDepth 100000
set_option maxHeartbeats 4000000
namespace K0
open PySem PySem.Spec PyProof.Rows L2 Kx Kh Kd
/-! ### the law's loop -/
@[reducible] def st (v0 v1 v2 v3 v4 v5 v6 v7 v8 : Option V) : L2.St := [v0, v1, v2, v3, v4, v5, v6, v7, v8, none, none, none, none, none, none, none, none, none, none, none, none, none, none, none, none]
section
variable {P : Program} {w : World} {K : PySem.W.Frag} {mg : Str → Option Value} {base : Heap} {C BR : Addr} {fD fR fW : Addr} {dD dR dW : FuncData}
variable {f : Addr} {cdv : Value} {A : Around} {outer : List Env} {s : Shared} {H : Hp} {E : XK}
abbrev lawX (P : Program) (w : World) (K : PySem.W.Frag) (mg : Str → Option Value) (base : Heap) (f : Addr) (cdv : Value) (A : Around) (outer : List Env) (s : Shared) (H : Hp) (E : XK) : Cx := (cxOf CX0 P w K mg base NL "law" (defScope sLaw) f cdv A outer s H E).nox
theorem loop6 (hr : Room 27 (lawX P w K mg base f cdv A outer s H E).A) (RD : Fn0 P w K mg base 1 "_law_less" ["num", "den"] spRed fR dR) :
    ∃ t, PSs (lawX P w K mg base f cdv A outer s H E) (lawLoop.drop 6) t ∧ ∀ (D : Ends) (H0 H1 : Hp) (p rl : Addr) (b : Int) (ds : List RR) (va wl : Addr) (key : NestedKey) (ws : List Int) (W : Int) (v0 v3 v4 v8 : Option V), PoolAt H0 p b → H0 rl = none → LR H0 H1 p rl b ds → ds.length ≤ 10 → Nest H1 key (.ref va) → Okt 2 key ∧ KL key → H1 wl = some (.lst (ws.map V.int)) → 1 ≤ W → W ≤ 1000 → ws.length ≤ 10 → Sm 1000 ws →
      (∀ (H' : Hp) (e l : Addr), LR H0 H' p rl b (ds ++ [⟨e, ⟨key, va, l, ws, W⟩⟩]) → D.nx (st v0 (some (.ref p)) (some (.ref rl)) v3 v4 (some (.ref va)) (some (.ref wl)) (some (.int W)) v8) H') →
      t D (st v0 (some (.ref p)) (some (.ref rl)) v3 v4 (some (.ref va)) (some (.ref wl)) (some (.int W)) v8) H1 := by
  have hr1 : Room 1 _ := hr.mono (by decide)
  refine ⟨_, pss_one (ps_expr (pe_bm PySem.F.plainAttrs_list PySem.F.slot_list_append PySem.F.type_list_append mt_append (pv 2) (pa_cons (pe_tup (pa_cons (pv 5) (pa_cons
    (pe_lc (own := [("weight", 22)]) (g := gName 22) (tt := tYes) rfl scLa.nd (pi_list (pv 6)) (blkOk_by (N := NL) (sc := defScope sLaw) (by decide +kernel)) (fun _ _ _ _ _ => pg_name (i := 22) scLa.nd rfl (Or.inl rfl)) (fun _ _ _ _ _ => pts_nil)
      (fun _ _ _ _ _ => pe_call RD.ok hr1 (by rfl) RD.gl RD.kp RD.bd .nil pass0 (pa_cons (pv 22) (pa_cons (pv 7) pa_nil)))) pa_nil))) pa_nil))), ?_⟩
  intro D H0 H1 p rl b ds va wl key ws W v0 v3 v4 v8 P0 hn L hdl hk ho hwl hW hW2 hwz hsm q
  refine ⟨_, rfl, .inl ⟨rfl, _, SqL.of L.ls.hl⟩, _, rfl, _, rfl, wl, rfl, ⟨_, SqL.of hwl⟩, fun l hl => ?_⟩
  have hlp : l ≠ p := L.ls.pool.ne0 hl
  have hlr : l ≠ rl := (ne_of_none L.ls.hl hl).symm
  refine lc_list (xs := ws.map V.int) (fun i H' => ∃ ts : List Addr, ts.length = i ∧ H' l = some (.lst (ts.map V.ref)) ∧ (∀ (j : Nat) t x, ts[j]? = some t → ws[j]? = some x → PairT H' t (rn x W, rd x W)) ∧ Same H1 H') ⟨[], rfl, upd_same, (fun j t x z => by simp at z), same_upd hl⟩ (fun i H' _ ⟨_, _, _, _, s'⟩ => SqL.of (s' _ _ hwl)) ?_ ?_
  · rintro i x H2 hx ⟨ts, hl2, e2, pr2, s2⟩
    obtain ⟨n, hn2, rfl⟩ := Option.map_eq_some_iff.mp ((List.getElem?_map ..).symm.trans hx)
    refine ⟨rfl, tYesI ⟨_, rfl, _, rfl, n, W, rfl, by omega, Bd.of_small (by omega) (by decide), fun t H3 s3 ht et => ?_⟩⟩
    have e3 := s3 _ _ e2
    have tk := TK.lst (us := ts.map V.ref ++ [V.ref t]) e3
    have hi : i < ws.length := (List.getElem?_eq_some_iff.mp hn2).1
    refine ⟨_, e3, by rw [List.length_map, hl2]; exact Nat.lt_of_lt_of_le (show i < 11 by omega) (by decide), ts ++ [t], by rw [List.length_append, hl2]; rfl, by rw [upd_same, List.map_append]; rfl, fun j t' y hj hy => ?_, fun c o z => ?_⟩
    · rcases get_snoc hj with ⟨_, hj2⟩ | ⟨hj2, rfl⟩
      · exact ((pr2 j t' y hj2 hy).tk (TK.same s3)).tk tk
      · rw [hj2, hl2, hn2] at hy
        cases hy
        exact tk _ _ et
    · rw [upd_ne (ne_of_none z hl)]
      exact s3 _ _ (s2 _ _ z)
  · rintro H2 ⟨ts, hl2, e2, pr2, s2⟩
    rw [List.length_map] at hl2
    refine ⟨by show 2 ≤ sizeLine; decide, fun e he => ?_⟩
    have s3 : Same H1 (upd H2 e (.tup [.ref va, .ref l])) := s2.trans (same_upd he)
    have L3 := L.same s3
    obtain ⟨sv, dv⟩ := okt_shaped ho.1 (by decide)
    have el : upd H2 e (.tup [.ref va, .ref l]) l = some (.lst (ts.map V.ref)) := by
      rw [upd_ne (ne_of_none e2 he)]
      exact e2
    have PR : Prs (upd H2 e (.tup [.ref va, .ref l])) l ws W := ⟨⟨ts, el, hl2, fun j t x a c => (pr2 j t x a c).tk (TK.same (same_upd he))⟩, by omega, by omega, fun x hx => Nat.le_trans (hsm x hx) (by decide), by omega⟩
    have RO : RROk (upd H2 e (.tup [.ref va, .ref l])) p rl ⟨e, ⟨key, va, l, ws, W⟩⟩ := ⟨upd_same, ⟨hk.keep (TK.same s3), sv, dv, PR⟩, hlp, hlr, ho.1, hwz, ho.2⟩
    exact ⟨rl, _, _, rfl, rfl, L3.ls.hl, by rw [List.length_map]; exact Nat.lt_of_lt_of_le (show ds.length < 11 by omega) (by decide), q _ e l (L3.snoc P0 hn RO)⟩
theorem loop5 (hr : Room 27 (lawX P w K mg base f cdv A outer s H E).A) (RD : Fn0 P w K mg base 1 "_law_less" ["num", "den"] spRed fR dR) :
    ∃ t, PSs (lawX P w K mg base f cdv A outer s H E) (lawLoop.drop 5) t ∧ ∀ (D : Ends) (H0 H1 : Hp) (p rl : Addr) (b : Int) (ds : List RR) (va wl : Addr) (key : NestedKey) (ws : List Int) (W : Int) (v0 : Option V) (bd : Option Nat) (i : Nat) (b8 : Bool), PoolAt H0 p b → H0 rl = none → LR H0 H1 p rl b ds → ds.length ≤ 10 → Nest H1 key (.ref va) → Okt 2 key ∧ KL key → H1 wl = some (.lst (ws.map V.int)) → 1 ≤ W → W ≤ 1000 → ws.length ≤ 10 → Sm 1000 ws →
      (∀ (H' : Hp) (e l : Addr), LR H0 H' p rl b (ds ++ [⟨e, ⟨key, va, l, ws, W⟩⟩]) → D.nx (st v0 (some (.ref p)) (some (.ref rl)) (some (oV (bd.or (if b8 = true then some i else none)))) (some (.int (0 + (i : Int)))) (some (.ref va)) (some (.ref wl)) (some (.int W)) (some (.bl b8))) H') →
      t D (st v0 (some (.ref p)) (some (.ref rl)) (some (oV bd)) (some (.int (0 + (i : Int)))) (some (.ref va)) (some (.ref wl)) (some (.int W)) (some (.bl b8))) H1 := by
  obtain ⟨t, ht, rest⟩ := loop6 hr RD
  refine ⟨_, pss_cons (ps_if (PW.pt (pw_and (pt_cmpR op_isN (pv 3) pe_non (nomark _)) (pw_and1 (pt_val (pv 8))))) (pss_one (ps_set (i := 3) scLa.nd rfl (Or.inl rfl) (pv 4))) pss_nil) ht, ?_⟩
  intro D H0 H1 p rl b ds va wl key ws W v0 bd i b8 P0 hn L hdl hk ho hwl hW hW2 hwz hsm q
  cases bd with
  | some n =>
    refine ⟨_, rfl, rfl, _, rfl, iteF ?_⟩
    exact rest _ H0 H1 p rl b ds va wl key ws W _ _ _ _ P0 hn L hdl hk ho hwl hW hW2 hwz hsm q
  | none =>
    refine ⟨_, rfl, rfl, _, rfl, iteT ?_⟩
    cases b8 with
    | false =>
      refine ⟨_, rfl, _, rfl, iteF ?_⟩
      exact rest _ H0 H1 p rl b ds va wl key ws W _ _ _ _ P0 hn L hdl hk ho hwl hW hW2 hwz hsm q
    | true =>
      refine ⟨_, rfl, _, rfl, iteT ⟨_, rfl, ?_⟩⟩
      refine rest _ H0 H1 p rl b ds va wl key ws W _ _ _ _ P0 hn L hdl hk ho hwl hW hW2 hwz hsm fun H' e l L' => ?_
      have h := q H' e l L'
      rw [if_pos rfl] at h
      have e0 : oV ((none : Option Nat).or (some i)) = V.int (0 + (i : Int)) := by
        rw [Int.zero_add]
        rfl
      rw [e0] at h
      exact h
/-- a row's view among the others' -/
theorem key_any (k : NestedKey) (ds : List RR) : (ds.map fun x => x.d.key.data).any (fun z => PyData.eqv z k.data) = (ds.map fun x => x.d.key).any (fun z => decide (z = k)) := by
  induction ds with
  | nil => rfl
  | cons x r ih =>
    rw [List.map_cons, List.map_cons, List.any_cons, List.any_cons, ih, eqv_key]
theorem dpKeys {K : PySem.W.Frag} {H : Hp} {p rl : Addr} : ∀ {ds : List RR}, (∀ x ∈ ds, RROk H p rl x) → DpAll K H (ds.map fun x => V.ref x.d.va) (ds.map fun x => x.d.key.data)
  | [], _ => .nil
  | x :: r, h => .cons (h x (List.mem_cons_self ..)).d.hv.dp (dpKeys fun y hy => h y (List.mem_cons_of_mem _ hy))
theorem shapedKeys {H : Hp} {p rl : Addr} {ds : List RR} (h : ∀ x ∈ ds, RROk H p rl x) : SeqAt.shaped (.list (ds.map fun x => x.d.key.data)) = true := by
  have c1 : PyData.canLayAll0 (ds.map fun x => x.d.key.data) = true := canLay_list fun d hd => by
    obtain ⟨x, hx, rfl⟩ := List.mem_map.mp hd
    exact (okt_deep (h x hx).kv).1
  have d1 : PyData.depthAll (ds.map fun x => x.d.key.data) ≤ 2 := depth_list fun d hd => by
    obtain ⟨x, hx, rfl⟩ := List.mem_map.mp hd
    exact Nat.le_trans (depth_data _) (okt_deep (h x hx).kv).2
  unfold SeqAt.shaped
  refine Bool.and_eq_true_iff.mpr ⟨c1, decide_eq_true ?_⟩
  show PyData.depthAll (ds.map fun x => x.d.key.data) + 1 ≤ 64
  omega
theorem loop3 (hr : Room 27 (lawX P w K mg base f cdv A outer s H E).A) (T : Txt K mg C BR) (TL : TxL mg) (TQ : TxQ mg) (RD : Fn0 P w K mg base 1 "_law_less" ["num", "den"] spRed fR dR) (WT : Fn0 P w K mg base 2 "_law_weights" ["pool"] spWts fW dW) :
    ∃ t, PSs (lawX P w K mg base f cdv A outer s H E) (lawLoop.drop 3) t ∧ ∀ (D : Ends) (H0 H1 : Hp) (p rl : Addr) (b : Int) (ds : List RR) (va : Addr) (key : NestedKey) (v0 v6 v7 v8 : Option V) (bd : Option Nat) (i : Nat), PoolAt H0 p b → H0 rl = none → LR H0 H1 p rl b ds → ds.length ≤ 10 → Nest H1 key (.ref va) → Okt 2 key ∧ KL key →
      (∀ (H' : Hp) (x : RR) (v5 v6 v7 v8 : Option V), LR H0 H' p rl b (ds ++ [x]) → D.nx (st v0 (some (.ref p)) (some (.ref rl)) (some (oV (bd.or (if rowBad (ds.map fun x => x.d.key) x.row = true then some i else none)))) (some (.int (0 + (i : Int)))) v5 v6 v7 v8) H') →
      t D (st v0 (some (.ref p)) (some (.ref rl)) (some (oV bd)) (some (.int (0 + (i : Int)))) (some (.ref va)) v6 v7 v8) H1 := by
  obtain ⟨t, ht, rest⟩ := loop5 hr RD
  have hr2 : Room 2 _ := hr.mono (by decide)
  have hu65 : (lawX P w K mg base f cdv A outer s H E).A.units + 65 < cLine := by have := hr.un; omega
  refine ⟨_, pss_cons (ps_asg (pe_call WT.ok hr2 (by rfl) WT.gl WT.kp WT.bd .nil pass0 (pa_cons (pv 1) pa_nil)) (pg_tup (by rfl) (pgs_cons (pg_name (i := 6) scLa.nd rfl (Or.inl rfl)) (pgs_cons (pg_name (i := 7) scLa.nd rfl (Or.inr rfl)) pgs_nil))))
    (pss_cons (ps_set (i := 8) scLa.nd rfl (Or.inl rfl) (pe_or (pe_cmpR op_eq (pe_callB call_len_seq (by rfl) TL.len PySem.boot_len (pa_cons (pv 6) pa_nil)) pe_int (nomark _))
      (pe_or (pe_cmpR op_ne (pe_callB (cr_sum rfl) (by rfl) TQ.sum (by decide +kernel) (pa_cons (pv 6) pa_nil)) (pv 7) (nomark _))
      (pe_or (pe_cmpR op_lt (pe_callB (cr_min rfl) (by rfl) TQ.min (by decide +kernel) (pa_cons (pv 6) pa_nil)) pe_int (nomark _))
      (pe_one (pe_cmpR (op_inD hu65) (pv 5) (pe_lc (own := [("row", 21)]) (g := gName 21) (tt := tYes) (te := tOp (rIxT K) (tVar 21) (tC (.int 0))) rfl scLa.nd (pi_list (pv 2)) (blkOk_by (N := NL) (sc := defScope sLaw) (by decide +kernel)) (fun _ _ _ _ _ => pg_name (i := 21) scLa.nd rfl (Or.inl rfl)) (fun _ _ _ _ _ => pts_nil)
        (fun _ _ _ _ _ => pe_ix (ix_tupK (K := K) (by rfl)) (pv 21) pe_int (fun _ _ => rfl))) rfl)))))) ht), ?_⟩
  intro D H0 H1 p rl b ds va key v0 v6 v7 v8 bd i P0 hn L hdl hk ho q
  have hrp := P0.ne0 hn
  refine ⟨_, rfl, p, b, rfl, L.ls.pool, fun t wl ws W H2 et hwl hW hW2 hwz hsm w2 => ?_⟩
  have L2 := L.draw hrp w2.pool w2.kp
  have hk2 := hk.keep (TK.kp L.ls.pool w2.kp)
  refine ⟨t, _, rfl, SqT.of et, rfl, _, _, rfl, _, _, rfl, rfl, ?_⟩
  -- what follows of the flag
  have fin : ∀ (H3 : Hp) (b8 : Bool), LR H0 H3 p rl b ds → Nest H3 key (.ref va) → H3 wl = some (.lst (ws.map V.int)) → (b8 = rowBad (ds.map fun x => x.d.key) ⟨0, va, key, 0, [], ws, W⟩) → _ := fun H3 b8 L3 hk3 hw3 e8 => rest D H0 H3 p rl b ds va wl key ws W v0 bd i b8 P0 hn L3 hdl hk3 ho hw3 hW hW2 hwz hsm fun H' e l L' => by
    have h := q H' ⟨e, ⟨key, va, l, ws, W⟩⟩ (some (.ref va)) (some (.ref wl)) (some (.int W)) (some (.bl b8)) L'
    have e9 : rowBad (ds.map fun x => x.d.key) (RR.row ⟨e, ⟨key, va, l, ws, W⟩⟩) = b8 := by
      rw [e8]
      rfl
    rw [e9] at h
    exact h
  have wi := wrong_is (seen := ds.map fun x => x.d.key) (r := ⟨0, va, key, 0, [], ws, W⟩) hW
  have hwl2 := w2.hl
  refine ⟨_, rfl, wl, _, rfl, .inl (SqL.of hwl2), rfl, _, rfl, ?_⟩
  cases ws with
  | nil =>
    exact iteT (fin H2 _ L2 hk2 hwl2 (by rw [wi]; rfl))
  | cons n r =>
    refine iteF ⟨_, rfl, wl, _, rfl, SqL.of hwl2, _, rfl, rfl, _, rfl, ?_⟩
    refine ite2 (fun z => ?_) (fun z => ?_)
    · refine fin H2 _ L2 hk2 hwl2 ?_
      rw [wi]
      have hs : ¬ (n :: r).sum = W := fun e => by
        rw [e, decide_eq_true rfl] at z
        cases z
      show true = (decide (n :: r = []) || (!decide ((n :: r).sum = W) || _))
      rw [decide_eq_false hs, Bool.not_false, Bool.true_or, Bool.or_true]
    · have hs : (n :: r).sum = W := Classical.byContradiction fun e => z (by
        rw [decide_eq_false (fun q => e (V.int.inj q))]
        rfl)
      refine ⟨_, rfl, wl, _, rfl, SqL.of hwl2, by rw [List.length_cons]; omega, fun m hm hmin => ⟨_, _, rfl, rfl, _, rfl, ite2 (fun y => ?_) (fun y => ?_)⟩⟩
      · refine fin H2 _ L2 hk2 hwl2 ?_
        rw [wi]
        have ha : (n :: r).any (fun w => decide (w < 0)) = true := List.any_eq_true.mpr ⟨m, hm, y⟩
        show true = (decide (n :: r = []) || (!decide ((n :: r).sum = W) || ((n :: r).any (fun w => decide (w < 0)) || _)))
        rw [ha, Bool.true_or, Bool.or_true, Bool.or_true]
      · have ha : (n :: r).any (fun w => decide (w < 0)) = false := List.any_eq_false.mpr fun w hw q => y (decide_eq_true (by
          have h1 := of_decide_eq_true q
          have h2 := hmin w hw
          omega))
        refine ⟨_, rfl, _, rfl, rl, rfl, ⟨_, SqL.of L2.ls.hl⟩, fun D3 hD3 => ?_⟩
        refine lc_list (xs := ds.map fun x => V.ref x.e) (fun i H' => H' D3 = some (.lst ((ds.take i).map fun x => V.ref x.d.va)) ∧ Same H2 H') ⟨upd_same, same_upd hD3⟩ (fun i H' _ h => SqL.of (h.2 _ _ L2.ls.hl)) ?_ ?_
        · rintro i x H3 hx ⟨e3, s3⟩
          obtain ⟨y, hy, rfl⟩ := Option.map_eq_some_iff.mp ((List.getElem?_map ..).symm.trans hx)
          have hil : i < ds.length := (List.getElem?_eq_some_iff.mp hy).1
          have Y := (L2.ok y (List.mem_of_getElem? hy)).same s3
          refine ⟨rfl, tYesI ⟨_, rfl, y.e, _, _, _, rfl, rfl, SqT.of Y.he, atI_nat (j := 0) rfl, _, e3, ?_, ?_, fun c o z => ?_⟩⟩
          · rw [List.length_map, List.length_take]
            exact Nat.lt_of_le_of_lt (show min i ds.length ≤ 10 by omega) (by decide)
          · rw [upd_same, List.take_succ_eq_append_getElem hil, List.map_append, (List.getElem?_eq_some_iff.mp hy).2]
            rfl
          · rw [upd_ne (ne_of_none z hD3)]
            exact s3 _ _ z
        · rintro H3 ⟨e3, s3⟩
          rw [List.length_map, List.take_length] at e3
          have L3 := L2.same s3
          refine ⟨key.data, _, (hk2.keep (TK.same s3)).dp, .lst (SqL.of e3) (dpKeys L3.ok), (okt_shaped ho.1 (by decide)).1, shapedKeys L3.ok, ?_⟩
          rw [key_any]
          refine fin H3 _ L3 (hk2.keep (TK.same s3)) (s3 _ _ hwl2) ?_
          rw [wi]
          show _ = (decide (n :: r = []) || (!decide ((n :: r).sum = W) || ((n :: r).any (fun w => decide (w < 0)) || _)))
          rw [ha, decide_eq_true hs, Bool.not_true, Bool.false_or, Bool.false_or]
          rfl
end
end K0

set_option Elab.async false
set_option linter.all false
set_option maxRecDepth 100000
set_option maxHeartbeats 4000000
namespace K0
open PySem PySem.Spec PyProof.Rows L2 Kx Kh Kd
/-- a view of up to n parts -/
theorem LK.kl {ks : List NestedKey} (h : ∃ c : Int, c < 4 ∧ ks.getLast? = some (askK c 2)) : KL (.tup ks) := by
  obtain ⟨c, h⟩ := h
  exact ⟨ks, c, rfl, h⟩
def LK (ks : List NestedKey) : Prop := ∃ c : Int, c < 4 ∧ ks.getLast? = some (askK c 2)
theorem LK.cat {ks : List NestedKey} (h : LK ks) (ls : List NestedKey) : LK (ls ++ ks) := by
  obtain ⟨c, hc, h⟩ := h
  refine ⟨c, hc, ?_⟩
  rw [List.getLast?_append, h]
  rfl
def VAt (H : Hp) (n : Nat) (va : Addr) : Prop := ∃ ks, ks.length ≤ n ∧ (∀ k ∈ ks, Okt 1 k) ∧ LK ks ∧ Nest H (.tup ks) (.ref va)
theorem VAt.tk {H H' : Hp} {n : Nat} {va : Addr} (h : VAt H n va) (t : TK H H') : VAt H' n va := by
  obtain ⟨ks, h1, h2, lk, h3⟩ := h
  exact ⟨ks, h1, h2, lk, h3.keep t⟩
theorem VAt.mono {H : Hp} {n m : Nat} {va : Addr} (h : VAt H n va) (hm : n ≤ m) : VAt H m va := by
  obtain ⟨ks, h1, h2, lk, h3⟩ := h
  exact ⟨ks, Nat.le_trans h1 hm, h2, lk, h3⟩
/-- parts before a view -/
theorem VAt.inv {H : Hp} {n : Nat} {va : Addr} (h : VAt H n va) : ∃ ks xs, ks.length ≤ n ∧ (∀ k ∈ ks, Okt 1 k) ∧ LK ks ∧ H va = some (.tup xs) ∧ NestL H ks xs := by
  obtain ⟨ks, h1, h2, lk, h3⟩ := h
  cases h3 with
  | @tup _ xs _ ea ra => exact ⟨ks, xs, h1, h2, lk, ea, ra⟩
theorem NestL.cat {H : Hp} {ls : List NestedKey} {us : List V} (b : NestL H ls us) : ∀ {ks : List NestedKey} {vs : List V}, NestL H ks vs → NestL H (ks ++ ls) (vs ++ us)
  | [], [], .nil => b
  | _ :: _, _ :: _, .cons h r => .cons h (NestL.cat b r)
section
variable {P : Program} {w : World} {K : PySem.W.Frag} {mg : Str → Option Value} {base : Heap} {C BR : Addr} {fD fR fW : Addr} {dD dR dW : FuncData}
variable {f : Addr} {cdv : Value} {A : Around} {outer : List Env} {s : Shared} {H : Hp} {E : XK}
theorem loop2 (hr : Room 27 (lawX P w K mg base f cdv A outer s H E).A) (T : Txt K mg C BR) (TL : TxL mg) (TQ : TxQ mg) (D1 : Fn0 P w K mg base 1 "_law_draw" ["pool", "size"] spDraw fD dD) (RD : Fn0 P w K mg base 1 "_law_less" ["num", "den"] spRed fR dR) (WT : Fn0 P w K mg base 2 "_law_weights" ["pool"] spWts fW dW) :
    ∃ t, PSs (lawX P w K mg base f cdv A outer s H E) (lawLoop.drop 2) t ∧ ∀ (D : Ends) (H0 H1 : Hp) (p rl : Addr) (b : Int) (ds : List RR) (va : Addr) (v0 v6 v7 v8 : Option V) (bd : Option Nat) (i : Nat), PoolAt H0 p b → H0 rl = none → LR H0 H1 p rl b ds → ds.length ≤ 10 → VAt H1 2 va →
      (∀ (H' : Hp) (x : RR) (v5 v6 v7 v8 : Option V), LR H0 H' p rl b (ds ++ [x]) → D.nx (st v0 (some (.ref p)) (some (.ref rl)) (some (oV (bd.or (if rowBad (ds.map fun x => x.d.key) x.row = true then some i else none)))) (some (.int (0 + (i : Int)))) v5 v6 v7 v8) H') →
      t D (st v0 (some (.ref p)) (some (.ref rl)) (some (oV bd)) (some (.int (0 + (i : Int)))) (some (.ref va)) v6 v7 v8) H1 := by
  obtain ⟨t, ht, rest⟩ := loop3 hr T TL TQ RD WT
  have hr1 : Room 1 _ := hr.mono (by decide)
  refine ⟨_, pss_cons (ps_if (pt_cmpR op_eq (pe_call D1.ok hr1 (by rfl) D1.gl D1.kp D1.bd .nil pass0 (pa_cons (pv 1) (pa_cons pe_int pa_nil))) pe_int (nomark _))
      (pss_one (ps_set (i := 5) scLa.nd rfl (Or.inl rfl) (pe_op op_catT (pe_tup (pa_cons (pe_tup (pa_cons pe_str (pa_cons (pe_call D1.ok hr1 (by rfl) D1.gl D1.kp D1.bd .nil pass0 (pa_cons (pv 1) (pa_cons pe_int pa_nil))) pa_nil))) (pa_cons (pe_tup (pa_cons pe_str (pa_cons (pe_call D1.ok hr1 (by rfl) D1.gl D1.kp D1.bd .nil pass0 (pa_cons (pv 1) (pa_cons pe_int pa_nil))) pa_nil))) pa_nil))) (pv 5)))) pss_nil) ht, ?_⟩
  intro D H0 H1 p rl b ds va v0 v6 v7 v8 bd i P0 hn L hdl hv q
  have hrp := P0.ne0 hn
  refine ⟨_, rfl, p, 4, b, rfl, L.ls.pool, by decide, by decide, fun c H2 c0 c1 P2 k2 => ⟨rfl, _, rfl, ?_⟩⟩
  have L2 := L.draw hrp P2 k2
  have hv2 := hv.tk (TK.kp L.ls.pool k2)
  have fin : ∀ (H3 : Hp) (va : Addr), LR H0 H3 p rl b ds → VAt H3 4 va → _ := fun H3 va L3 ⟨ks, h1, h2, lk, h3⟩ => rest D H0 H3 p rl b ds va (.tup ks) v0 v6 v7 v8 bd i P0 hn L3 hdl h3 ⟨.tup 1 ks (by omega) h2, LK.kl lk⟩ q
  refine ite2 (fun _ => ?_) (fun _ => fin H2 va L2 (hv2.mono (by decide)))
  refine ⟨_, rfl, p, 2, b, rfl, L2.ls.pool, by decide, by decide, fun c1 H3 _ _ P3 k3 => ⟨by show 2 ≤ sizeLine; decide, fun a ha => ?_⟩⟩
  have L3 := (L2.draw hrp P3 k3).same (same_upd (o := .tup [.str "did", .int c1]) ha)
  have tk3 : TK H2 _ := (TK.kp L2.ls.pool k3).trans (TK.same (same_upd (o := .tup [.str "did", .int c1]) ha))
  refine ⟨_, rfl, p, 2, b, rfl, L3.ls.pool, by decide, by decide, fun c2 H4 _ _ P4 k4 => ⟨by show 2 ≤ sizeLine; decide, fun a2 ha2 => ⟨by show 2 ≤ sizeLine; decide, fun y hy => ?_⟩⟩⟩
  have ea4 : H4 a = some (.tup [.str "did", .int c1]) := TK.kp L3.ls.pool k4 _ _ upd_same
  have s5 : Same H4 (upd (upd H4 a2 (.tup [.str "shown", .int c2])) y (.tup [.ref a, .ref a2])) := (same_upd ha2).trans (same_upd hy)
  have L5 := (L3.draw hrp P4 k4).same s5
  have tk5 : TK H2 (upd (upd H4 a2 (.tup [.str "shown", .int c2])) y (.tup [.ref a, .ref a2])) := (tk3.trans (TK.kp L3.ls.pool k4)).trans (TK.same s5)
  obtain ⟨ks, xs, h1, h2, lk, ea, ra⟩ := (hv2.tk tk5).inv
  have hxl := ra.length
  have ny : NestL (upd (upd H4 a2 (.tup [.str "shown", .int c2])) y (.tup [.ref a, .ref a2])) [didK c1, shK c2] [.ref a, .ref a2] :=
    .cons (.tup (s5 _ _ ea4) (.cons (.text _) (.cons (.num _) .nil))) (.cons (.tup (by rw [upd_ne (ne_of_none upd_same hy)]; exact upd_same) (.cons (.text _) (.cons (.num _) .nil))) .nil)
  have ok6 : ∀ k ∈ [didK c1, shK c2] ++ ks, Okt 1 k := fun k hk => by
    rcases List.mem_append.mp hk with hk | hk
    · simp only [List.mem_cons, List.not_mem_nil, or_false] at hk
      rcases hk with rfl | rfl
      · exact oktDid _
      · exact oktSh _
    · exact h2 k hk
  refine ⟨_, rfl, y, va, [.ref a, .ref a2], xs, rfl, rfl, SqT.of upd_same, SqT.of ea, by simp, by rw [List.length_cons, List.length_singleton]; exact Nat.le_trans (show 1 + 1 + xs.length ≤ 100 by omega) (by decide), fun z => ?_, fun _ w hw => ?_⟩
  · subst z
    rw [List.length_nil] at hxl
    have : ks = [] := List.eq_nil_of_length_eq_zero (by omega)
    subst this
    obtain ⟨_, _, e⟩ := lk
    exact nomatch e
  · have s6 := same_upd (o := .tup ([V.ref a, V.ref a2] ++ xs)) hw
    exact fin _ w (L5.same s6) ⟨[didK c1, shK c2] ++ ks, by rw [List.length_append]; show 2 + ks.length ≤ 4; omega, ok6, lk.cat _, .tup upd_same (NestL.keep (TK.same s6) (NestL.cat ra ny))⟩
theorem loop1 (hr : Room 27 (lawX P w K mg base f cdv A outer s H E).A) (T : Txt K mg C BR) (TL : TxL mg) (TQ : TxQ mg) (D1 : Fn0 P w K mg base 1 "_law_draw" ["pool", "size"] spDraw fD dD) (RD : Fn0 P w K mg base 1 "_law_less" ["num", "den"] spRed fR dR) (WT : Fn0 P w K mg base 2 "_law_weights" ["pool"] spWts fW dW) :
    ∃ t, PSs (lawX P w K mg base f cdv A outer s H E) (lawLoop.drop 0) t ∧ ∀ (D : Ends) (H0 H1 : Hp) (p rl : Addr) (b : Int) (ds : List RR) (v0 v5 v6 v7 v8 : Option V) (bd : Option Nat) (i : Nat), PoolAt H0 p b → H0 rl = none → LR H0 H1 p rl b ds → ds.length ≤ 10 →
      (∀ (H' : Hp) (x : RR) (v5 v6 v7 v8 : Option V), LR H0 H' p rl b (ds ++ [x]) → D.nx (st v0 (some (.ref p)) (some (.ref rl)) (some (oV (bd.or (if rowBad (ds.map fun x => x.d.key) x.row = true then some i else none)))) (some (.int (0 + (i : Int)))) v5 v6 v7 v8) H') →
      t D (st v0 (some (.ref p)) (some (.ref rl)) (some (oV bd)) (some (.int (0 + (i : Int)))) v5 v6 v7 v8) H1 := by
  obtain ⟨t, ht, rest⟩ := loop2 hr T TL TQ D1 RD WT
  have hr1 : Room 1 _ := hr.mono (by decide)
  refine ⟨_, pss_cons (ps_set (i := 5) scLa.nd rfl (Or.inl rfl) (pe_tup (pa_cons (pe_tup (pa_cons pe_str (pa_cons (pe_call D1.ok hr1 (by rfl) D1.gl D1.kp D1.bd .nil pass0 (pa_cons (pv 1) (pa_cons pe_int pa_nil))) (pa_cons pe_int pa_nil)))) pa_nil)))
    (pss_cons (ps_if (pt_cmpR op_gt (pe_call D1.ok hr1 (by rfl) D1.gl D1.kp D1.bd .nil pass0 (pa_cons (pv 1) (pa_cons pe_int pa_nil))) pe_int (nomark _))
      (pss_one (ps_set (i := 5) scLa.nd rfl (Or.inl rfl) (pe_op op_catT (pe_tup (pa_cons (pe_tup (pa_cons pe_str (pa_cons (pe_call D1.ok hr1 (by rfl) D1.gl D1.kp D1.bd .nil pass0 (pa_cons (pv 1) (pa_cons pe_int pa_nil))) pa_nil))) pa_nil)) (pv 5)))) pss_nil) ht), ?_⟩
  intro D H0 H1 p rl b ds v0 v5 v6 v7 v8 bd i P0 hn L hdl q
  have hrp := P0.ne0 hn
  refine ⟨_, rfl, p, 4, b, rfl, L.ls.pool, by decide, by decide, fun c H2 _ _ P2 k2 => ⟨by show 3 ≤ sizeLine; decide, fun a ha => ⟨by show 1 ≤ sizeLine; decide, fun va hva => ?_⟩⟩⟩
  have s3 : Same H2 (upd (upd H2 a (.tup [.str "asked", .int c, .int 2])) va (.tup [.ref a])) := (same_upd ha).trans (same_upd hva)
  have L3 := (L.draw hrp P2 k2).same s3
  have va3 : VAt (upd (upd H2 a (.tup [.str "asked", .int c, .int 2])) va (.tup [.ref a])) 1 va := ⟨[askK c 2], by show 1 ≤ 1; decide, fun k hk => by rw [List.mem_singleton.mp hk]; exact oktAsk _ _, ⟨c, by omega, rfl⟩,
    .tup upd_same (.cons (.tup (by rw [upd_ne (ne_of_none upd_same hva)]; exact upd_same) (.cons (.text _) (.cons (.num _) (.cons (.num _) .nil)))) .nil)⟩
  refine ⟨_, rfl, p, 3, b, rfl, L3.ls.pool, by decide, by decide, fun c2 H4 _ _ P4 k4 => ⟨_, _, rfl, rfl, _, rfl, ?_⟩⟩
  have L4 := L3.draw hrp P4 k4
  have va4 := va3.tk (TK.kp L3.ls.pool k4)
  refine ite2 (fun _ => ?_) (fun _ => rest D H0 H4 p rl b ds va v0 v6 v7 v8 bd i P0 hn L4 hdl (va4.mono (by decide)) q)
  refine ⟨_, rfl, p, 9, b, rfl, L4.ls.pool, by decide, by decide, fun u H5 _ _ P5 k5 => ⟨by show 2 ≤ sizeLine; decide, fun x hx => ⟨by show 1 ≤ sizeLine; decide, fun y hy => ?_⟩⟩⟩
  have s6 : Same H5 (upd (upd H5 x (.tup [.str "shown", .int u])) y (.tup [.ref x])) := (same_upd hx).trans (same_upd hy)
  have L6 := (L4.draw hrp P5 k5).same s6
  obtain ⟨ks, xs, h1, h2, lk, ea, ra⟩ := (va4.tk ((TK.kp L4.ls.pool k5).trans (TK.same s6))).inv
  have hxl := ra.length
  have ny : NestL (upd (upd H5 x (.tup [.str "shown", .int u])) y (.tup [.ref x])) [shK u] [.ref x] := .cons (.tup (by rw [upd_ne (ne_of_none upd_same hy)]; exact upd_same) (.cons (.text _) (.cons (.num _) .nil))) .nil
  have ok6 : ∀ k ∈ [shK u] ++ ks, Okt 1 k := fun k hk => by
    rcases List.mem_append.mp hk with hk | hk
    · rw [List.mem_singleton.mp hk]
      exact oktSh _
    · exact h2 k hk
  refine ⟨_, rfl, y, va, [.ref x], xs, rfl, rfl, SqT.of upd_same, SqT.of ea, by simp, by rw [List.length_singleton]; exact Nat.le_trans (show 1 + xs.length ≤ 100 by omega) (by decide), fun z => ?_, fun _ w hw => ?_⟩
  · subst z
    rw [List.length_nil] at hxl
    have : ks = [] := List.eq_nil_of_length_eq_zero (by omega)
    subst this
    obtain ⟨_, _, e⟩ := lk
    exact nomatch e
  · have s7 := same_upd (o := .tup ([V.ref x] ++ xs)) hw
    exact rest D H0 _ p rl b ds w v0 v6 v7 v8 bd i P0 hn (L6.same s7) hdl ⟨[shK u] ++ ks, by rw [List.length_append]; show 1 + ks.length ≤ 2; omega, ok6, lk.cat _, .tup upd_same (NestL.keep (TK.same s7) (NestL.cat ra ny))⟩ q
end
end K0

set_option Elab.async false
set_option linter.all false
set_option maxRecDepth 100000
set_option maxHeartbeats 4000000
namespace K0
open PySem PySem.Spec PyProof.Rows L2 Kx Kh Kd
/-! ### dicts of rows -/
structure RE (H : Hp) (x : RR) : Prop where
  he : H x.e = some (.tup [.ref x.d.va, .ref x.d.l])
  d : DROk H x.d
theorem RROk.re {H : Hp} {p rl : Addr} {x : RR} (h : RROk H p rl x) : RE H x := ⟨h.he, h.d⟩
theorem RE.same {H H' : Hp} {x : RR} (h : RE H x) (s : Same H H') : RE H' x := ⟨s _ _ h.he, h.d.same s⟩
theorem atK_none {kvs : Kvs} {k : NestedKey} (h : k ∉ kvs.map (·.1)) : atK kvs k = none := by
  unfold atK
  rw [List.find?_eq_none.mpr fun p hp q => h (by rw [← of_decide_eq_true q]; exact List.mem_map.mpr ⟨p, hp, rfl⟩)]
  rfl
theorem putKv_new {kvs : Kvs} {k : NestedKey} {a : Addr} {v : V} (h : k ∉ kvs.map (·.1)) : putKv kvs k a v = kvs ++ [(k, a, v)] := by
  unfold putKv
  rw [atK_none h, if_neg (by decide)]
theorem merge_nodup : ∀ (ps kvs : Kvs), ((kvs ++ ps).map (·.1)).Nodup → mergeKv kvs ps = kvs ++ ps
  | [], kvs, _ => by
    rw [List.append_nil]
    rfl
  | p :: ps, kvs, h => by
    have h2 : ((kvs ++ [p] ++ ps).map (·.1)).Nodup := by
      rw [List.append_assoc]
      exact h
    have h3 : p.1 ∉ kvs.map (·.1) := fun hm => by
      rw [List.map_append, List.map_cons] at h
      exact (List.nodup_append.mp h).2.2 _ hm _ (List.mem_cons_self ..) rfl
    show mergeKv (putKv kvs p.1 p.2.1 p.2.2) ps = kvs ++ p :: ps
    rw [putKv_new h3, merge_nodup ps (kvs ++ [p]) h2, List.append_assoc]
    rfl
section
variable {P : Program} {w : World} {K : PySem.W.Frag} {C CP : Addr}
theorem kv_keys (es : List RR) : (es.map fun x => x.d.kv).map (·.1) = es.map fun x => x.d.key := by
  rw [List.map_map]
  rfl
theorem dict_in {a : Addr} {es : List RR} {H : Hp} (ha : H a = some (.lst (es.map fun x => V.ref x.e))) (h : ∀ x ∈ es, RE H x) (nd : (es.map fun x => x.d.key).Nodup) (hl : es.length ≤ 1000) :
    SqL K H a ((es.map fun x : RR => x.e).map V.ref) ∧ Paired (fun T (p : NestedKey × Addr × V) => SqT K H T [.ref p.2.1, p.2.2]) (es.map fun x : RR => x.e) (es.map fun x => x.d.kv) ∧ (∀ p ∈ es.map (fun x => x.d.kv), Nest H p.1 (.ref p.2.1) ∧ p.1.depth ≤ 8) ∧ (es.map fun x => x.d.kv).length ≤ 100000 ∧ mergeKv [] (es.map fun x => x.d.kv) = es.map fun x => x.d.kv := by
  refine ⟨SqL.of (by rw [List.map_map]; exact ha), ?_, ?_, by rw [List.length_map]; omega, merge_nodup _ [] (by rw [List.nil_append, kv_keys]; exact nd)⟩
  · refine paired_of (by rw [List.length_map, List.length_map]) fun j T p h1 h2 => ?_
    obtain ⟨x, hx, rfl⟩ := Option.map_eq_some_iff.mp ((List.getElem?_map ..).symm.trans h1)
    rw [List.getElem?_map, hx] at h2
    cases h2
    exact SqT.of (h x (List.mem_of_getElem? hx)).he
  · intro p hp
    obtain ⟨x, hx, rfl⟩ := List.mem_map.mp hp
    exact ⟨(h x hx).d.hv, (h x hx).d.dv⟩
def RowP (x : RR) (y : Ent) : Prop := y.key = x.d.key ∧ y.lots = x.d.lots
theorem paired_map_left {α β γ : Type} {g : α → β} {R : β → γ → Prop} : ∀ {xs : List α} {ys : List γ}, Paired R (xs.map g) ys → Paired (fun a c => R (g a) c) xs ys
  | [], [], .nil => .nil
  | _ :: _, _ :: _, .cons h r => .cons h (paired_map_left r)
theorem made_in {d : Addr} {es : List RR} {H : Hp} (kd : KD P w H d (es.map fun x => x.d.kv)) (h : ∀ x ∈ es, DROk H x.d ∧ lotsB x.d.ws x.d.W = true) (hl : es.length ≤ 1000) : KD P w H d ((es.map fun x : RR => x.d).map DR.kv) ∧ (∀ r ∈ es.map (fun x : RR => x.d), DROk H r ∧ lotsB r.ws r.W = true) ∧ (es.map fun x : RR => x.d).length ≤ 1000 := by
  refine ⟨by rw [List.map_map]; exact kd, fun r hr => ?_, by rw [List.length_map]; omega⟩
  obtain ⟨x, hx, rfl⟩ := List.mem_map.mp hr
  exact h x hx
theorem made_out {es : List RR} {ys : List Ent} (pr : Paired (fun (r : DR) (x : Ent) => x.key = r.key ∧ x.lots = r.lots) (es.map fun x : RR => x.d) ys) : Paired RowP es ys := paired_map_left (R := fun (r : DR) (x : Ent) => x.key = r.key ∧ x.lots = r.lots) pr
/-! ### what stands after the plan is made -/
structure TI (K : PySem.W.Frag) (C CP : Addr) (H : Hp) (p rl pl : Addr) (b : Int) (ds : List RR) (xs : List Ent) : Prop where
  pool : PoolAt H p b
  hl : H rl = some (.lst (ds.map fun x => V.ref x.e))
  np : rl ≠ p
  ok : ∀ x ∈ ds, RROk H p rl x
  good : ∀ x ∈ ds, lotsB x.d.ws x.d.W = true
  nd : (ds.map fun x => x.d.key).Nodup
  pa : PlanAt K C CP H pl xs
  pr : Paired RowP ds xs
  few : ds.length ≤ 10
theorem TI.same {H H' : Hp} {p rl pl : Addr} {b : Int} {ds : List RR} {xs : List Ent} (h : TI K C CP H p rl pl b ds xs) (s : Same H H') : TI K C CP H' p rl pl b ds xs :=
  ⟨h.pool.same s, s _ _ h.hl, h.np, fun x hx => (h.ok x hx).same s, h.good, h.nd, h.pa.ext s, h.pr, h.few⟩
/-- a plan stays when a list changes that is not its own -/
theorem PlanAt.lst {H H' : Hp} {pl a : Addr} {xs : List Ent} {vs us : List V} (h : PlanAt K C CP H pl xs) (ha : H a = some (.lst vs)) (k : ∀ c o, H c = some o → c ≠ a → H' c = some o) (ha' : H' a = some (.lst us)) (hne : vs = (xs.map fun x => V.ref x.e) → us = vs) : PlanAt K C CP H' pl xs := by
  obtain ⟨⟨dx, l, d, h1, h2⟩, ok⟩ := h
  refine ⟨⟨dx, l, d, k _ _ h1 (fun e => by rw [e, ha] at h1; cases h1), ?_⟩, fun x hx => (ok x hx).keep (fun c ys z => k _ _ z (fun e => by rw [e, ha] at z; cases z)) fun c D dx fs z => k _ _ z (fun e => by rw [e, ha] at z; cases z)⟩
  by_cases e : l = a
  · subst e
    rw [ha] at h2
    injection h2 with h2
    injection h2 with h2
    rw [ha', hne h2, h2]
  · exact k _ _ h2 e
theorem PlanAt.kp {H H' : Hp} {pl p : Addr} {b : Int} {xs : List Ent} (h : PlanAt K C CP H pl xs) (P0 : PoolAt H p b) (k : Kp p H H') (P1 : PoolAt H' p b) : PlanAt K C CP H' pl xs := by
  obtain ⟨q, ns, i, c, z, t, PV⟩ := P0
  obtain ⟨q', ns', i', c', z', t', PV'⟩ := P1
  refine h.lst PV.hp k.all PV'.hp fun e => ?_
  have h2 := congrArg (fun l => l[1]?) e
  have h2 : some (V.int i) = (xs.map fun x => V.ref x.e)[1]? := h2
  rw [List.getElem?_map] at h2
  cases hx : xs[1]? with
  | none =>
    rw [hx] at h2
    cases h2
  | some x =>
    rw [hx] at h2
    cases h2
theorem TI.kp {H H' : Hp} {p rl pl : Addr} {b : Int} {ds : List RR} {xs : List Ent} (h : TI K C CP H p rl pl b ds xs) (k : Kp p H H') (P1 : PoolAt H' p b) : TI K C CP H' p rl pl b ds xs :=
  ⟨P1, k _ _ h.hl h.np, h.np, fun x hx => (h.ok x hx).keep (TK.kp h.pool k) fun ys z => k _ _ z (h.ok x hx).np, h.good, h.nd, h.pa.kp h.pool k P1, h.pr, h.few⟩
/-- all but a dict is as it was -/
theorem TI.ext {H H' : Hp} {p rl pl d : Addr} {b : Int} {ds : List RR} {xs : List Ent} {r : Heap → Prop} (h : TI K C CP H p rl pl b ds xs) (hd : H d = some (.ext r)) (k : ∀ c, c ≠ d → H' c = H c) : TI K C CP H' p rl pl b ds xs := by
  have kl : ∀ c ys, H c = some (.lst ys) → H' c = some (.lst ys) := fun c ys z => by
    rw [k c (fun e => by rw [e, hd] at z; cases z)]
    exact z
  have kt : ∀ c ys, H c = some (.tup ys) → H' c = some (.tup ys) := fun c ys z => by
    rw [k c (fun e => by rw [e, hd] at z; cases z)]
    exact z
  have ki : ∀ c D dx fs, H c = some (.ins D dx fs) → H' c = some (.ins D dx fs) := fun c D dx fs z => by
    rw [k c (fun e => by rw [e, hd] at z; cases z)]
    exact z
  obtain ⟨q, ns, i, c, z, t, PV⟩ := h.pool
  obtain ⟨⟨dx, l, d2, h1, h2⟩, ok⟩ := h.pa
  exact ⟨⟨q, ns, i, c, z, t, PV.ne, kl _ _ PV.hp, kl _ _ PV.hq, PV.i0, PV.s0, PV.s1⟩, kl _ _ h.hl, h.np, fun x hx => (h.ok x hx).keep kt fun ys z => kl _ _ z, h.good, h.nd, ⟨⟨dx, l, d2, ki _ _ _ _ h1, kl _ _ h2⟩, fun x hx => (ok x hx).keep kt ki⟩, h.pr, h.few⟩
theorem TI.len {H : Hp} {p rl pl : Addr} {b : Int} {ds : List RR} {xs : List Ent} (h : TI K C CP H p rl pl b ds xs) : xs.length = ds.length := h.pr.length.symm
/-- the rows that make a plan make an equal one -/
theorem eq_of {ds es : List RR} {xs ys : List Ent} (h : Paired RowP ds xs) (h' : Paired RowP es ys) (hl : ds.length = es.length) (he : ∀ (j : Nat) x y, ds[j]? = some x → es[j]? = some y → x.d.key = y.d.key ∧ x.d.lots = y.d.lots) : rowsEq xs ys = true :=
  rows_eq (by rw [← h.length, ← h'.length, hl]) fun j x y hx hy => by
    have hj : j < ds.length := by
      rw [h.length]
      exact (List.getElem?_eq_some_iff.mp hx).1
    have e1 := List.getElem?_eq_getElem hj
    have e2 := List.getElem?_eq_getElem (l := es) (i := j) (by omega)
    obtain ⟨a1, a2⟩ := paired_both h e1 hx
    obtain ⟨b1, b2⟩ := paired_both h' e2 hy
    obtain ⟨c1, c2⟩ := he j _ _ e1 e2
    exact ⟨by rw [a1, b1, c1], by rw [a2, b2, c2]⟩
/-- two lists of entries of which one pair differs -/
theorem rows_ne_at : ∀ {xs ys : List Ent} (j : Nat) (x y : Ent), xs[j]? = some x → ys[j]? = some y → entEq x y = false → rowsEq xs ys = false
  | [], _, j, x, y, h, _, _ => by simp at h
  | _ :: _, [], j, x, y, _, h, _ => by simp at h
  | a :: xs, c :: ys, 0, x, y, h1, h2, e => by
    cases h1
    cases h2
    show (entEq _ _ && rowsEq xs ys) = false
    rw [e, Bool.false_and]
  | a :: xs, c :: ys, j + 1, x, y, h1, h2, e => by
    show (entEq a c && rowsEq xs ys) = false
    rw [rows_ne_at j x y (by simpa using h1) (by simpa using h2) e, Bool.and_false]
theorem ne_of_key {ds es : List RR} {xs ys : List Ent} (h : Paired RowP ds xs) (h' : Paired RowP es ys) {j : Nat} {x y : RR} (hx : ds[j]? = some x) (hy : es[j]? = some y) (he : x.d.key ≠ y.d.key) : rowsEq xs ys = false ∧ rowsEq ys xs = false := by
  obtain ⟨a, ha, a1, a2⟩ := paired_get h hx
  obtain ⟨c, hc, c1, c2⟩ := paired_get h' hy
  have e1 : entEq a c = false := by
    unfold entEq
    rw [decide_eq_false (by rw [a1, c1]; exact he), Bool.false_and]
  have e2 : entEq c a = false := by
    unfold entEq
    rw [decide_eq_false (by rw [a1, c1]; exact he.symm), Bool.false_and]
  exact ⟨rows_ne_at j a c ha hc e1, rows_ne_at j c a hc ha e2⟩
theorem ne_of_len {ds es : List RR} {xs ys : List Ent} (h : Paired RowP ds xs) (h' : Paired RowP es ys) (hl : ds.length ≠ es.length) : rowsEq xs ys = false ∧ rowsEq ys xs = false :=
  ⟨rows_ne (by rw [← h.length, ← h'.length]; exact hl), rows_ne (by rw [← h.length, ← h'.length]; exact hl.symm)⟩
theorem lots_keys {ds : List RR} {xs : List Ent} (h : Paired RowP ds xs) : xs.map (fun x => entK x.key x.lots) = ds.map fun x => entK x.d.key x.d.lots := by
  refine List.ext_getElem? fun j => ?_
  rw [List.getElem?_map, List.getElem?_map]
  have hl := h.length
  by_cases hj : j < ds.length
  · have e1 := List.getElem?_eq_getElem hj
    have e2 := List.getElem?_eq_getElem (l := xs) (i := j) (by omega)
    obtain ⟨a1, a2⟩ := paired_both h e1 e2
    rw [e1, e2]
    show some (entK _ _) = some (entK _ _)
    rw [a1, a2]
  · rw [List.getElem?_eq_none (by omega), List.getElem?_eq_none (by omega)]
    rfl
def moreK : NestedKey := .tup [shK 9, askK 9 2]
theorem more_ne {k : NestedKey} (h : KL k) : k ≠ moreK := by
  rintro rfl
  obtain ⟨ks, c, e, hc, hl⟩ := h
  injection e with e
  subst e
  have e2 : some (askK 9 2) = some (askK c 2) := hl
  injection e2 with e2
  injection e2 with e2
  injection e2 with _ e2
  injection e2 with e2 _
  injection e2 with e2
  omega
theorem oktMore : Okt 2 moreK := .tup 1 _ (by show 2 ≤ 200000; decide) fun k hk => by
  simp only [List.mem_cons, List.not_mem_nil, or_false] at hk
  rcases hk with rfl | rfl
  · exact oktSh _
  · exact oktAsk _ _
end
end K0

set_option Elab.async false
set_option linter.all false
set_option maxRecDepth 100000
set_option maxHeartbeats 4000000
namespace K0
open PySem PySem.Spec PyProof.Rows L2 Kx Kh Kd
/-! ### the law's end -/
structure LF where
  D : Addr
  R : Addr
  W : Addr
  S : Addr
  T : Addr
  M : Addr
  U : Addr
  P : Addr
  E : Addr
  I : Addr
  Q : Addr
  K : Addr
  O : Addr
  dD : FuncData
  dR : FuncData
  dW : FuncData
  dS : FuncData
  dT : FuncData
  dM : FuncData
  dU : FuncData
  dP : FuncData
  dE : FuncData
  dI : FuncData
  dQ : FuncData
  dK : FuncData
  dO : FuncData
structure LB (P : Program) (w : World) (K : PySem.W.Frag) (mg : Str → Option Value) (base : Heap) (C BR CP BP : Addr) (F : LF) : Prop where
  T : Txt K mg C BR
  TL : TxL mg
  TQ : TxQ mg
  TP : TxP K mg CP
  D1 : Fn0 P w K mg base 1 "_law_draw" ["pool", "size"] spDraw F.D F.dD
  RD : Fn0 P w K mg base 1 "_law_less" ["num", "den"] spRed F.R F.dR
  WT : Fn0 P w K mg base 2 "_law_weights" ["pool"] spWts F.W F.dW
  S1 : Fn0 P w K mg base 14 "_law_same" ["actual", "due"] (spSame 13) F.S F.dS
  O1 : Fn0 P w K mg base 2 "_law_told" ["plan"] (spTold K C CP) F.T F.dT
  MD : Fn0 P w K mg base 7 "_law_made_plan" ["plan"] (spMade P w K C CP) F.M F.dM
  SU : Fn0 P w K mg base 15 "_law_sure" ["pool"] spLSure F.U F.dU
  PO : Fn0 P w K mg base 1 "_law_pool" ["script", "budget"] (spPool K) F.O F.dO
  KP : Fn0 P w K mg base 1 "_law_kept" ["entries"] (spKept K C) F.K F.dK
  KH : L2H.FnH P w K mg base CX0 1 F.K F.dK ["entries"] (spKept K C)
  SH : FnW P w K mg base CX0 1 F.S F.dS ["actual", "due"] (spSame 0)
  GP : FnOk P w K mg base CX0 5 F.P F.dP ["self", "other"] (spPEq K C CP)
  aP : PySem.W.findIn K (.ref CP) "__eq__" = some (some (.ref F.P))
  iP : PySem.W.isFn K (.ref F.P) = true
  bP : L2.Binds K F.dP ["self", "other"] []
  GE : FnOk P w K mg base CX0 1 F.E F.dE ["self"] (spEnt K C CP)
  mE : Meth K CP "entries" F.E
  bE : L2.Binds K F.dE ["self"] []
  MI : Mk K CP F.I
  GI : FnOk P w K mg base (L2N.CX P w) 5 F.I F.dI ["self", "entries"] (spPlan P w K C CP BP)
  bI : L2.Binds K F.dI ["self", "entries"] []
  MR : Mk K C F.Q
  GR : FnOk P w K mg base (L2.CX P w) 1 F.Q F.dQ ["self", "num", "den"] (spInit C BR)
  bR : L2.Binds K F.dQ ["self", "num", "den"] []
  bR1 : ∃ ds, L2.Binds K F.dQ ["self", "num", "den"] ds ∧ Vals [.int 1] ds
/-- the data of a row's lots -/
def lotD (qs : List (Int × Int)) : PyData := .list (qs.map pairD)
theorem pairD_data (qs : List (Int × Int)) : NestedKey.datas (qs.map pairK) = qs.map pairD := by
  induction qs with
  | nil => rfl
  | cons q r ih =>
    show (pairK q).data :: NestedKey.datas (r.map pairK) = pairD q :: r.map pairD
    rw [ih]
    rfl
theorem pairK_inj {qs rs : List (Int × Int)} (h : qs.map pairK = rs.map pairK) : qs = rs := by
  induction qs generalizing rs with
  | nil =>
    cases rs with
    | nil => rfl
    | cons _ _ => cases h
  | cons q r ih =>
    cases rs with
    | nil => cases h
    | cons x y =>
      rw [List.map_cons, List.map_cons] at h
      injection h with h1 h2
      rw [ih h2]
      injection h1 with h1
      injection h1 with h3 h4
      injection h4 with h4 _
      injection h3 with h3
      injection h4 with h4
      rw [Prod.ext h3 h4]
theorem eqv_lot (qs rs : List (Int × Int)) : PyData.eqv (lotD qs) (lotD rs) = decide (qs = rs) := by
  have h : PyData.eqv (lotD qs) (lotD rs) = PyData.eqvAll (qs.map pairD) (rs.map pairD) := by
    unfold lotD PyData.eqv
    rfl
  rw [h, ← pairD_data, ← pairD_data, eqv_beqAll]
  have h2 : NestedKey.beqAll (qs.map pairK) (rs.map pairK) = decide (NestedKey.tup (qs.map pairK) = NestedKey.tup (rs.map pairK)) := by
    rw [← eqv_key, eqv_beq]
    unfold NestedKey.beq
    rfl
  rw [h2]
  by_cases e : qs = rs
  · rw [e, decide_eq_true rfl, decide_eq_true rfl]
  · rw [decide_eq_false e, decide_eq_false]
    intro z
    injection z with z
    exact e (pairK_inj z)
theorem shaped_lot (qs : List (Int × Int)) : SeqAt.shaped (lotD qs) = true := by
  have c1 : PyData.canLayAll0 (qs.map pairD) = true := canLay_list fun d hd => by
    obtain ⟨q, _, rfl⟩ := List.mem_map.mp hd
    exact (shapedPair q).1
  have d1 : PyData.depthAll (qs.map pairD) ≤ 2 := depth_list fun d hd => by
    obtain ⟨q, _, rfl⟩ := List.mem_map.mp hd
    exact (shapedPair q).2
  unfold SeqAt.shaped lotD
  refine Bool.and_eq_true_iff.mpr ⟨c1, decide_eq_true ?_⟩
  show PyData.depthAll (qs.map pairD) + 1 ≤ 64
  omega
theorem dpLot {K : PySem.W.Frag} {H : Hp} {d : DR} (h : Prs H d.l d.ws d.W) : Dp K H (.ref d.l) (lotD d.lots) := by
  obtain ⟨ts, h1, h2, h3⟩ := h.at_
  refine .lst (SqL.of h1) (dpPairs (by rw [h2]; exact (List.length_map ..).symm) fun j t q a b => ?_)
  unfold DR.lots at b
  obtain ⟨w, hw, rfl⟩ := Option.map_eq_some_iff.mp ((List.getElem?_map ..).symm.trans b)
  exact h3 j t w a hw
def rowD (x : RR) : NestedKey × PyData := (x.d.key, lotD x.d.lots)
theorem isData_rows {K : PySem.W.Frag} {H : Hp} {es : List RR} (h : ∀ x ∈ es, DROk H x.d) : Paired (isData K H) (es.map fun x => x.d.kv) (es.map rowD) := by
  refine paired_of (by rw [List.length_map, List.length_map]) fun j p q h1 h2 => ?_
  obtain ⟨x, hx, rfl⟩ := Option.map_eq_some_iff.mp ((List.getElem?_map ..).symm.trans h1)
  rw [List.getElem?_map, hx] at h2
  cases h2
  exact ⟨rfl, dpLot (h x (List.mem_of_getElem? hx)).pr, shaped_lot _⟩
theorem look_at {es : List RR} (nd : (es.map fun x => x.d.key).Nodup) {j : Nat} {x : RR} (h : es[j]? = some x) : lookD (es.map rowD) x.d.key = some (lotD x.d.lots) := by
  induction es generalizing j with
  | nil => simp at h
  | cons y r ih =>
    rw [List.map_cons, List.nodup_cons] at nd
    unfold lookD
    rw [List.map_cons, List.find?_cons]
    cases j with
    | zero =>
      cases h
      rw [show decide ((rowD x).1 = x.d.key) = true from decide_eq_true rfl]
      rfl
    | succ k =>
      have h : r[k]? = some x := by simpa using h
      have hne : ¬ (rowD y).1 = x.d.key := fun e => nd.1 (by
        show y.d.key ∈ _
        rw [show y.d.key = x.d.key from e]
        exact List.mem_map.mpr ⟨x, List.mem_of_getElem? h, rfl⟩)
      rw [decide_eq_false hne]
      exact ih nd.2 h
theorem hits_iff {kb : List (NestedKey × PyData)} : ∀ {ka : List (NestedKey × PyData)}, Kd.hitsD kb ka = true ↔ ∀ q ∈ ka, ∃ e, lookD kb q.1 = some e ∧ PyData.eqv q.2 e = true
  | [] => ⟨fun _ q hq => (nomatch hq), fun _ => rfl⟩
  | a :: r => by
    have ih := hits_iff (kb := kb) (ka := r)
    unfold Kd.hitsD
    rw [Bool.and_eq_true_iff, ih]
    constructor
    · rintro ⟨h1, h2⟩ q hq
      rcases List.mem_cons.mp hq with rfl | hq
      · cases hl : lookD kb q.1 with
        | none =>
          rw [hl] at h1
          cases h1
        | some e =>
          rw [hl] at h1
          exact ⟨e, rfl, h1⟩
      · exact h2 q hq
    · intro h
      refine ⟨?_, fun q hq => h q (List.mem_cons_of_mem _ hq)⟩
      obtain ⟨e, h1, h2⟩ := h a (List.mem_cons_self ..)
      rw [h1]
      exact h2
/-- the rows with one row's lots anew -/
def setL (x : RR) (l : Addr) (ws : List Int) (W : Int) : RR := ⟨x.e, ⟨x.d.key, x.d.va, l, ws, W⟩⟩
theorem set_keys {ds : List RR} {j : Nat} {x : RR} (hx : ds[j]? = some x) (l : Addr) (ws : List Int) (W : Int) : (ds.set j (setL x l ws W)).map (fun x => x.d.key) = ds.map fun x => x.d.key := by
  refine List.ext_getElem? fun k => ?_
  rw [List.getElem?_map, List.getElem?_map, List.getElem?_set]
  by_cases e : j = k
  · subst e
    rw [if_pos rfl, if_pos (List.getElem?_eq_some_iff.mp hx).1, hx]
    rfl
  · rw [if_neg e]
theorem eqD_set {ds : List RR} {j : Nat} {x : RR} (hx : ds[j]? = some x) (nd : (ds.map fun x => x.d.key).Nodup) (l : Addr) (ws : List Int) (W : Int) : eqD ((ds.set j (setL x l ws W)).map rowD) (ds.map rowD) = decide ((setL x l ws W).d.lots = x.d.lots) := by
  have hj := (List.getElem?_eq_some_iff.mp hx).1
  unfold eqD
  rw [List.length_map, List.length_map, List.length_set, show (ds.length == ds.length) = true from beq_self_eq_true _, Bool.true_and, Bool.eq_iff_iff, hits_iff, decide_eq_true_eq]
  constructor
  · intro h
    obtain ⟨e, h1, h2⟩ := h (rowD (setL x l ws W)) (List.mem_map.mpr ⟨_, List.mem_of_getElem? (show (ds.set j (setL x l ws W))[j]? = some (setL x l ws W) by rw [List.getElem?_set_self hj]), rfl⟩)
    have h3 : lookD (ds.map rowD) x.d.key = some e := h1
    rw [look_at nd hx] at h3
    cases h3
    have h4 : PyData.eqv (lotD (setL x l ws W).d.lots) (lotD x.d.lots) = true := h2
    rw [eqv_lot] at h4
    exact of_decide_eq_true h4
  · intro h q hq
    obtain ⟨y, hy, rfl⟩ := List.mem_map.mp hq
    obtain ⟨k, hk⟩ := List.getElem?_of_mem hy
    rw [List.getElem?_set] at hk
    by_cases e : j = k
    · subst e
      rw [if_pos rfl, if_pos hj] at hk
      cases hk
      refine ⟨lotD x.d.lots, look_at nd hx, ?_⟩
      show PyData.eqv (lotD (setL x l ws W).d.lots) (lotD x.d.lots) = true
      rw [eqv_lot, decide_eq_true h]
    · rw [if_neg e] at hk
      refine ⟨_, look_at nd hk, ?_⟩
      show PyData.eqv (lotD y.d.lots) (lotD y.d.lots) = true
      rw [eqv_lot, decide_eq_true rfl]
theorem rows_set {ds : List RR} {j : Nat} {x : RR} {l : Addr} {ws : List Int} {W : Int} {xs ys : List Ent} (hx : ds[j]? = some x) (h : Paired RowP ds xs) (h' : Paired RowP (ds.set j (setL x l ws W)) ys) : rowsEq ys xs = decide ((setL x l ws W).d.lots = x.d.lots) := by
  have hj := (List.getElem?_eq_some_iff.mp hx).1
  by_cases e : (setL x l ws W).d.lots = x.d.lots
  · rw [decide_eq_true e]
    refine eq_of h' h (List.length_set) fun k a b ha hb => ?_
    rw [List.getElem?_set] at ha
    by_cases q : j = k
    · subst q
      rw [if_pos rfl, if_pos hj] at ha
      rw [hx] at hb
      cases ha
      cases hb
      exact ⟨rfl, e⟩
    · rw [if_neg q, hb] at ha
      cases ha
      exact ⟨rfl, rfl⟩
  · rw [decide_eq_false e]
    obtain ⟨a, ha, a1, a2⟩ := paired_get h' (show (ds.set j (setL x l ws W))[j]? = some (setL x l ws W) by rw [List.getElem?_set_self hj])
    obtain ⟨c, hc, c1, c2⟩ := paired_get h hx
    refine rows_ne_at j a c ha hc ?_
    unfold entEq
    rw [decide_eq_false (p := a.lots = c.lots) (by rw [a2, c2]; exact e), Bool.and_false]
theorem put_set {ds : List RR} {j : Nat} {x : RR} (hx : ds[j]? = some x) (nd : (ds.map fun x => x.d.key).Nodup) (va l : Addr) (ws : List Int) (W : Int) : putKv (ds.map fun x => x.d.kv) x.d.key va (.ref l) = (ds.set j (setL x l ws W)).map fun x => x.d.kv := by
  have hj := (List.getElem?_eq_some_iff.mp hx).1
  unfold putKv
  rw [show atK (ds.map fun x => x.d.kv) x.d.key = some (.ref x.d.l) from atK_get (p := x.d.kv) (by rw [kv_keys]; exact nd) (show (ds.map fun x => x.d.kv)[j]? = some x.d.kv by rw [List.getElem?_map, hx]; rfl), if_pos (show (some (V.ref x.d.l)).isSome = true from rfl)]
  refine List.ext_getElem? fun k => ?_
  rw [List.map_map, List.getElem?_map, List.getElem?_map, List.getElem?_set]
  by_cases e : j = k
  · subst e
    rw [if_pos rfl, if_pos hj, hx]
    show some (if x.d.key = x.d.key then _ else _) = some _
    rw [if_pos rfl]
    rfl
  · rw [if_neg e]
    cases hk : ds[k]? with
    | none => rfl
    | some y =>
      show some (if y.d.key = x.d.key then _ else _) = some _
      have hne : ¬ y.d.key = x.d.key := fun q => by
        have hkl := (List.getElem?_eq_some_iff.mp hk).1
        have h1 := List.pairwise_iff_getElem.mp nd
        have e1 : y = ds[k] := (List.getElem?_eq_some_iff.mp hk).2.symm
        have e2 : x = ds[j] := (List.getElem?_eq_some_iff.mp hx).2.symm
        rw [e1, e2] at q
        rcases Nat.lt_or_gt_of_ne e with h2 | h2
        · exact h1 j k (by rw [List.length_map]; exact hj) (by rw [List.length_map]; exact hkl) h2 (by rw [List.getElem_map, List.getElem_map]; exact q.symm)
        · exact h1 k j (by rw [List.length_map]; exact hkl) (by rw [List.length_map]; exact hj) h2 (by rw [List.getElem_map, List.getElem_map]; exact q)
      rw [if_neg hne]
end K0

set_option Elab.async false
set_option linter.all false
set_option maxRecDepth 100000
set_option maxHeartbeats 4000000
namespace K0
open PySem PySem.Spec PyProof.Rows L2 Kx Kh Kd
section
variable {P : Program} {w : World} {K : PySem.W.Frag} {mg : Str → Option Value} {base : Heap} {C BR CP BP : Addr} {F : LF}
variable {f : Addr} {cdv : Value} {A : Around} {outer : List Env} {s : Shared} {H : Hp} {E : XK}
theorem KD.ext {P : Program} {w : World} {H : Hp} {d : Addr} {kvs : Kvs} (k : KD P w H d kvs) : ∃ r, H d = some (.ext r) := by
  obtain ⟨es, ep, xs, q⟩ := k.ok
  exact ⟨_, q.at_⟩
theorem KD.kp {P : Program} {w : World} {H H' : Hp} {d p : Addr} {kvs : Kvs} {b : Int} (k : KD P w H d kvs) (P0 : PoolAt H p b) (kp : Kp p H H') : KD P w H' d kvs := by
  obtain ⟨r, e⟩ := KD.ext k
  obtain ⟨q, ns, i, c, z, t, PV⟩ := id P0
  exact k.keep (TK.kp P0 kp) (by rw [e, kp _ _ e (fun q => by rw [q, PV.hp] at e; cases e)])
/-- the pairs in lowest terms of a list of weights -/
theorem lc_less {σ : L2.St} {H1 : Hp} {l wl : Addr} {ws : List Int} {W : Int} {Qd : Hp → Prop} (hwl : H1 wl = some (.lst (ws.map V.int))) (hl : H1 l = none) (h7 : ∀ x : V, ((wipe σ [22]).set 22 (some x))[7]? = some (some (.int W))) (hσ : 22 < σ.length) (hW : 1 ≤ W) (hW2 : W ≤ 1000) (hwz : ws.length ≤ 10)
    (q : ∀ H' : Hp, Same H1 H' → Prs H' l ws W → (∀ x ∈ ws, x.natAbs ≤ 1000000) → Qd H') (hsm : Sm 1000 ws) :
    ∃ W' : Nat → Nat → Hp → Prop, (∃ m, W' 0 m (upd H1 l (.lst []))) ∧ ∀ i m H, W' i m H →
      ((Itl K wl).stop i H ∧ Qd H) ∨ ((Itl K wl).go i H ∧ ∃ Nx : Hp → Prop, (∀ H', Nx H' → ∃ m', m' < m ∧ W' (i + 1) m' H') ∧ ∀ x H', (Itl K wl).yld i H x H' → gName 22 x (wipe σ [22]) H' fun σ2 H2 => wipe σ2 [22] = wipe σ [22] ∧ tYes σ2 H2 fun b H3 =>
        if b = true then tCall spRed [] E0 (tCons (tVar 22) (tCons (tVar 7) tNil)) σ2 H3 fun y H4 => ∃ acc, H4 l = some (.lst acc) ∧ acc.length < sizeLine ∧ Nx (upd H4 l (.lst (acc ++ [y]))) else Nx H3) := by
  refine lc_list (xs := ws.map V.int) (fun i H' => ∃ ts : List Addr, ts.length = i ∧ H' l = some (.lst (ts.map V.ref)) ∧ (∀ (j : Nat) t x, ts[j]? = some t → ws[j]? = some x → PairT H' t (rn x W, rd x W)) ∧ Same H1 H') ⟨[], rfl, upd_same, (fun j t x z => by simp at z), same_upd hl⟩ (fun i H' _ ⟨_, _, _, _, s'⟩ => SqL.of (s' _ _ hwl)) ?_ ?_
  · rintro i x H2 hx ⟨ts, hl2, e2, pr2, s2⟩
    obtain ⟨n, hn2, rfl⟩ := Option.map_eq_some_iff.mp ((List.getElem?_map ..).symm.trans hx)
    have g1 : ((wipe σ [22]).set 22 (some (V.int n)))[22]? = some (some (V.int n)) := List.getElem?_set_self (by rw [wipe_length]; exact hσ)
    refine ⟨wipe_one _, tYesI ⟨_, g1, _, h7 _, n, W, rfl, by omega, Bd.of_small (by omega) (by decide), fun t H3 s3 ht et => ?_⟩⟩
    have e3 := s3 _ _ e2
    have tk := TK.lst (us := ts.map V.ref ++ [V.ref t]) e3
    have hi : i < ws.length := (List.getElem?_eq_some_iff.mp hn2).1
    refine ⟨_, e3, by rw [List.length_map, hl2]; exact Nat.lt_of_lt_of_le (show i < 11 by omega) (by decide), ts ++ [t], by rw [List.length_append, hl2]; rfl, by rw [upd_same, List.map_append]; rfl, fun j t' y hj hy => ?_, fun c o z => ?_⟩
    · rcases get_snoc hj with ⟨_, hj2⟩ | ⟨hj2, rfl⟩
      · exact ((pr2 j t' y hj2 hy).tk (TK.same s3)).tk tk
      · rw [hj2, hl2, hn2] at hy
        cases hy
        exact tk _ _ et
    · rw [upd_ne (ne_of_none z hl)]
      exact s3 _ _ (s2 _ _ z)
  · rintro H2 ⟨ts, hl2, e2, pr2, s2⟩
    rw [List.length_map] at hl2
    exact q H2 s2 ⟨⟨ts, e2, hl2, fun j t x a c => pr2 j t x a c⟩, by omega, by omega, fun x hx => Nat.le_trans (hsm x hx) (by decide), by omega⟩ fun x hx => Nat.le_trans (hsm x hx) (by decide)
abbrev DL (Q : VK) : Ends := { nx := fun _ H' => Q .non H', rt := Q }
theorem tail22 {Q : VK} (B : LB P w K mg base C BR CP BP F) (hr : Room 27 (lawX P w K mg base f cdv A outer s H E).A) (q : ∀ H', Q (.bl true) H') :
    ∃ t, PSs (lawX P w K mg base f cdv A outer s H E) ((defBody sLaw).drop 22) t ∧ ∀ {v0 v2 v3 v4 v5 v6 v7 v8 v9 v10 v11 v12 v13 v14 v15 v16 v17 v18 v19 v20 v21 v22 v23 v24 : Option V} (H' : Hp) (p : Addr) (b : Int), PoolAt H' p b →
      t (DL Q) [v0, some (.ref p), v2, v3, v4, v5, v6, v7, v8, v9, v10, v11, v12, v13, v14, v15, v16, v17, v18, v19, v20, v21, v22, v23, v24] H' := by
  have hr15 : Room 15 _ := hr.mono (by decide)
  refine ⟨_, pss_one (ps_ret (pe_call B.SU.ok hr15 (by rfl) B.SU.gl B.SU.kp B.SU.bd .nil pass0 (pa_cons (pv 1) pa_nil))), ?_⟩
  intro v0 v2 v3 v4 v5 v6 v7 v8 v9 v10 v11 v12 v13 v14 v15 v16 v17 v18 v19 v20 v21 v22 v23 v24 H' p b P0
  exact ⟨_, rfl, p, b, rfl, P0, fun H2 => q H2⟩
theorem tail21 {Q : VK} (B : LB P w K mg base C BR CP BP F) (hr : Room 27 (lawX P w K mg base f cdv A outer s H E).A) (q : ∀ H', Q (.bl true) H') :
    ∃ t, PSs (lawX P w K mg base f cdv A outer s H E) ((defBody sLaw).drop 21) t ∧ ∀ {v0 v3 v4 v5 v6 v7 v8 v9 v10 v11 v13 v14 v15 v16 v17 v18 v19 v20 v21 v22 v23 v24 : Option V} (H' : Hp) (p rl pl : Addr) (b : Int) (ds : List RR) (xs : List Ent), TI K C CP H' p rl pl b ds xs →
      t (DL Q) [v0, some (.ref p), some (.ref rl), v3, v4, v5, v6, v7, v8, v9, v10, v11, some (.ref pl), v13, v14, v15, v16, v17, v18, v19, v20, v21, v22, v23, v24] H' := by
  obtain ⟨t, ht, rest⟩ := tail22 (E := E) (H := H) B hr q
  have hr1 : Room 1 _ := hr.mono (by decide)
  have hr2 : Room 2 _ := hr.mono (by decide)
  have hr5 : Room 5 _ := hr.mono (by decide)
  have hr7 : Room 7 _ := hr.mono (by decide)
  have hr14 : Room 14 _ := hr.mono (by decide)
  have hu64 : (lawX P w K mg base f cdv A outer s H E).A.units + 64 < cLine := by have := hr.un; omega
  have hu65 : (lawX P w K mg base f cdv A outer s H E).A.units + 65 < cLine := by have := hr.un; omega
  refine ⟨_, pss_cons (ps_if (pt_cmpR op_gt (pe_callB call_len_seq (by rfl) B.TL.len PySem.boot_len (pa_cons (pv 2) pa_nil)) pe_int (nomark _))
    (pss_cons (ps_set (i := 17) scLa.nd rfl (Or.inl rfl) (pe_callTy (call_dictN rfl hu64) (by rfl) B.TQ.dict (by decide +kernel) (pa_cons (pv 2) pa_nil)))
    (pss_cons (ps_asg (pe_call B.WT.ok hr2 (by rfl) B.WT.gl B.WT.kp B.WT.bd .nil pass0 (pa_cons (pv 1) pa_nil)) (pg_tup (by rfl) (pgs_cons (pg_name (i := 6) scLa.nd rfl (Or.inl rfl)) (pgs_cons (pg_name (i := 7) scLa.nd rfl (Or.inr rfl)) pgs_nil))))
    (pss_one (ps_if (PW.pt (pw_and (pt_cmpR op_gt (pe_callB call_len_seq (by rfl) B.TL.len PySem.boot_len (pa_cons (pv 6) pa_nil)) pe_int (nomark _)) (pw_and (pt_cmpR op_eq (pe_callB (cr_sum rfl) (by rfl) B.TQ.sum (by decide +kernel) (pa_cons (pv 6) pa_nil)) (pv 7) (nomark _))
        (pw_and1 (pt_cmpR op_ge (pe_callB (cr_min rfl) (by rfl) B.TQ.min (by decide +kernel) (pa_cons (pv 6) pa_nil)) pe_int (nomark _))))))
      (pss_cons (ps_set (i := 5) scLa.nd rfl (Or.inl rfl) (pe_ix ix_tup (pe_ix ix_list (pv 2) (pe_call B.D1.ok hr1 (by rfl) B.D1.gl B.D1.kp B.D1.bd .nil pass0 (pa_cons (pv 1) (pa_cons (pe_callB call_len_seq (by rfl) B.TL.len PySem.boot_len (pa_cons (pv 2) pa_nil)) pa_nil))) (fun _ _ => rfl)) pe_int (fun _ _ => rfl)))
      (pss_cons (ps_asg (pe_lc (own := [("weight", 22)]) (g := gName 22) (tt := tYes) rfl scLa.nd (pi_list (pv 6)) (blkOk_by (N := NL) (sc := defScope sLaw) (by decide +kernel)) (fun _ _ _ _ _ => pg_name (i := 22) scLa.nd rfl (Or.inl rfl)) (fun _ _ _ _ _ => pts_nil)
          (fun _ _ _ _ _ => pe_call B.RD.ok hr1 (by rfl) B.RD.gl B.RD.kp B.RD.bd .nil pass0 (pa_cons (pv 22) (pa_cons (pv 7) pa_nil)))) (pg_sub (pv 17) (pv 5) (set_K hu64)))
      (pss_one (ps_if (pt_not (pt_val (pe_call B.S1.ok hr14 (by rfl) B.S1.gl B.S1.kp B.S1.bd .nil pass0 (pa_cons (pe_cmpR (op_ownE B.GP hr5 B.aP B.iP B.bP pass0) (pe_call B.MD.ok hr7 (by rfl) B.MD.gl B.MD.kp B.MD.bd .nil pass0 (pa_cons (pv 17) pa_nil)) (pv 12) (nomark _))
          (pa_cons (pe_cmpR (op_eqDN hu65) (pv 17) (pe_callTy (call_dictN rfl hu64) (by rfl) B.TQ.dict (by decide +kernel) (pa_cons (pv 2) pa_nil)) (nomark _)) pa_nil))))) (pss_one (ps_ret pe_bl)) pss_nil)))) pss_nil)))) pss_nil) ht, ?_⟩
  intro v0 v3 v4 v5 v6 v7 v8 v9 v10 v11 v13 v14 v15 v16 v17 v18 v19 v20 v21 v22 v23 v24 H' p rl pl b ds xs h
  refine ⟨_, rfl, rl, _, rfl, .inl (SqL.of h.hl), _, _, rfl, rfl, _, rfl, ite2 (fun y => ?_) (fun _ => rest _ p b h.pool)⟩
  obtain ⟨a1, a2, a3, a4, a5⟩ := dict_in (K := K) h.hl (fun x hx => (h.ok x hx).re) h.nd (by have := h.few; omega)
  refine ⟨_, rfl, rl, _, _, rfl, a1, a2, a3, a4, fun d H1 hd s1 kd => ?_⟩
  rw [a5] at kd
  have h1 := h.same s1
  refine ⟨_, rfl, p, b, rfl, h1.pool, fun t wl ws W H2 et hwl hW hW2 hwz hsm w2 => ?_⟩
  have h2 := h1.kp w2.kp w2.pool
  have kd2 := KD.kp kd h1.pool w2.kp
  refine ⟨t, _, rfl, SqT.of et, rfl, _, _, rfl, _, _, rfl, rfl, ?_⟩
  refine ⟨_, rfl, wl, _, rfl, .inl (SqL.of w2.hl), _, _, rfl, rfl, _, rfl, ite2 (fun y1 => ?_) (fun _ => iteF (rest _ p b h2.pool))⟩
  refine ⟨_, rfl, wl, _, rfl, SqL.of w2.hl, _, rfl, rfl, _, rfl, ite2 (fun y2 => ?_) (fun _ => iteF (rest _ p b h2.pool))⟩
  have hs : ws.sum = W := V.int.inj (of_decide_eq_true y2)
  have hpos : 0 < ws.length := by
    have := of_decide_eq_true y1
    rw [List.length_map] at this
    omega
  refine ⟨_, rfl, wl, _, rfl, SqL.of w2.hl, hpos, fun m hm hmin => ⟨_, _, rfl, rfl, _, rfl, ite2 (fun y3 => ?_) (fun _ => rest _ p b h2.pool)⟩⟩
  have hm0 : 0 ≤ m := of_decide_eq_true y3
  have hgood : lotsB ws W = true := by
    unfold lotsB
    exact Bool.and_eq_true_iff.mpr ⟨List.all_eq_true.mpr fun x hx => decide_eq_true (by have := hmin x hx; omega), decide_eq_true hs⟩
  have hlen : 0 < ds.length := by
    have := of_decide_eq_true y
    rw [List.length_map] at this
    omega
  refine ⟨_, rfl, _, rfl, _, rfl, rl, _, rfl, .inl (SqL.of h2.hl), p, ((ds.map fun x => V.ref x.e).length : Int), b, rfl, h2.pool, by rw [List.length_map]; omega, by rw [List.length_map]; have := h.few; omega, fun jv H3 j0 j1 P3 k3 => ?_⟩
  have h3 := h2.kp k3 P3
  have kd3 := KD.kp kd2 h2.pool k3
  obtain ⟨j, rfl⟩ : ∃ j : Nat, jv = (j : Int) := ⟨jv.toNat, by omega⟩
  have hj : j < ds.length := by
    rw [List.length_map] at j1
    omega
  have hx := List.getElem?_eq_getElem hj
  have X := h3.ok _ (List.getElem_mem hj)
  refine ⟨rl, _, _, _, rfl, rfl, SqL.of h3.hl, atI_nat (by rw [List.getElem?_map, hx]; rfl), ds[j].e, _, _, _, rfl, rfl, SqT.of X.he, atI_nat (j := 0) rfl, ?_⟩
  have wl3 : H3 wl = some (.lst (ws.map V.int)) := k3 _ _ w2.hl (h1.pool.ne0 hwl)
  refine ⟨_, rfl, wl, rfl, ⟨_, SqL.of wl3⟩, fun l hl => ?_⟩
  refine lc_less wl3 hl (fun _ => rfl) (by show 22 < 25; decide) hW hW2 hwz (fun H4 s4 PR _ => ?_) hsm
  have h4 := h3.same s4
  have kd4 := kd3.same s4
  have X4 := X.same s4
  refine ⟨_, rfl, _, rfl, ds[j].d.va, d, ds[j].d.key, _, rfl, rfl, kd4, X4.d.hv, X4.d.dv, by rw [List.length_map]; have := h.few; omega, fun H5 kd5 ke5 => ?_⟩
  obtain ⟨r4, e4⟩ := KD.ext kd4
  have h5 := h4.ext e4 ke5
  rw [put_set hx h.nd _ l ws W] at kd5
  have nl : l ≠ d := fun e => by
    obtain ⟨ts, e1, _⟩ := PR.at_
    rw [e, e4] at e1
    cases e1
  have PR5 : Prs H5 l ws W := PR.keep (fun c ys z => by rw [ke5 c (fun e => by rw [e, e4] at z; cases z)]; exact z) fun ys z => by rw [ke5 l nl]; exact z
  have ok5 : ∀ x ∈ ds.set j (setL ds[j] l ws W), DROk H5 x.d ∧ lotsB x.d.ws x.d.W = true := fun x hx2 => by
    rcases List.mem_or_eq_of_mem_set hx2 with hx2 | rfl
    · exact ⟨(h5.ok x hx2).d, h5.good x hx2⟩
    · have X5 := h5.ok _ (List.getElem_mem hj)
      exact ⟨⟨X5.d.hv, X5.d.sv, X5.d.dv, PR5⟩, hgood⟩
  obtain ⟨m1, m2, m3⟩ := made_in kd5 ok5 (by rw [List.length_set]; have := h.few; omega)
  refine ⟨_, rfl, d, _, rfl, m1, m2, m3, fun p2 H6 ys s6 pa pr => ?_⟩
  have pr := made_out pr
  have h6 := h5.same s6
  obtain ⟨⟨dx1, l1, d1, g1, _⟩, _⟩ := id pa
  obtain ⟨⟨dx2, l2, d2, g2, _⟩, _⟩ := id h6.pa
  refine ⟨_, rfl, p2, dx1, _, pl, dx2, _, rfl, rfl, g1, g2, p2, pl, ys, xs, rfl, pa, h6.pa, fun H7 e7 => ?_⟩
  have h7 := h6.same e7
  obtain ⟨c1, c2, c3, c4, c5⟩ := dict_in (K := K) h7.hl (fun x hx => (h7.ok x hx).re) h7.nd (by have := h.few; omega)
  refine ⟨_, rfl, _, rfl, rl, _, _, rfl, c1, c2, c3, c4, fun dd H8 hdd s8 kd8 => ?_⟩
  rw [c5] at kd8
  have h8 := h7.same s8
  have s58 : Same H5 H8 := (s6.trans e7).trans s8
  refine ⟨d, dd, _, _, _, _, rfl, rfl, kd5.same s58, kd8, isData_rows (fun x hx => (ok5 x hx).1.same s58), isData_rows (fun x hx => (h8.ok x hx).d), ?_⟩
  rw [eqD_set hx h.nd, rows_set hx h.pr pr]
  exact ⟨_, _, rfl, .flat _ (.bl _), _, rfl, iteF (rest _ p b h8.pool)⟩
end
end K0

set_option Elab.async false
set_option linter.all false
set_option maxRecDepth 100000
set_option maxHeartbeats 4000000
namespace K0
open PySem PySem.Spec PyProof.Rows L2 Kx Kh Kd
theorem cut_to (xs : List V) (j : Nat) (h : j ≤ xs.length) : cutV xs none (some (j : Int)) = xs.take j := by
  unfold cutV
  have h1 : HT.sIx xs.length xs.length (some (j : Int)) = j := by
    show (if (j : Int) < 0 then ((j : Int) + (xs.length : Int)).toNat else min (j : Int).toNat xs.length) = j
    rw [if_neg (by omega)]
    omega
  have h2 : HT.sIx xs.length 0 none = 0 := rfl
  rw [h1, h2, List.drop_zero, Nat.sub_zero]
theorem cut_from (xs : List V) (j : Nat) (h : j ≤ xs.length) : cutV xs (some (j : Int)) none = xs.drop j := by
  unfold cutV
  have h1 : HT.sIx xs.length 0 (some (j : Int)) = j := by
    show (if (j : Int) < 0 then ((j : Int) + (xs.length : Int)).toNat else min (j : Int).toNat xs.length) = j
    rw [if_neg (by omega)]
    omega
  have h2 : HT.sIx xs.length xs.length none = xs.length := rfl
  rw [h1, h2]
  exact List.take_of_length_le (by rw [List.length_drop]; omega)
theorem cut_last (xs : List V) (h : 0 < xs.length) : cutV xs none (some (-1)) = xs.take (xs.length - 1) := by
  unfold cutV
  have h1 : HT.sIx xs.length xs.length (some (-1)) = xs.length - 1 := by
    show (if (-1 : Int) < 0 then ((-1 : Int) + (xs.length : Int)).toNat else min (-1 : Int).toNat xs.length) = _
    rw [if_pos (by decide)]
    omega
  have h2 : HT.sIx xs.length 0 none = 0 := rfl
  rw [h1, h2, List.drop_zero, Nat.sub_zero]
/-- one row moved to another view -/
def movR (x : RR) (t mo : Addr) : RR := ⟨t, ⟨moreK, mo, x.d.l, x.d.ws, x.d.W⟩⟩
theorem mov_nodup {ds : List RR} {j : Nat} {x y : RR} (hk : ∀ z ∈ ds, z.d.key ≠ y.d.key) (nd : (ds.map fun x => x.d.key).Nodup) : ((ds.set j y).map fun x => x.d.key).Nodup := by
  refine List.pairwise_iff_getElem.mpr fun a c ha hc hac e => ?_
  rw [List.length_map, List.length_set] at ha hc
  rw [List.getElem_map, List.getElem_map, List.getElem_set, List.getElem_set] at e
  have h1 := List.pairwise_iff_getElem.mp nd
  by_cases e1 : j = a
  · rw [if_pos e1, if_neg (by omega)] at e
    exact hk _ (List.getElem_mem hc) e.symm
  · rw [if_neg e1] at e
    by_cases e2 : j = c
    · rw [if_pos e2] at e
      exact hk _ (List.getElem_mem ha) e
    · rw [if_neg e2] at e
      exact h1 a c (by rw [List.length_map]; exact ha) (by rw [List.length_map]; exact hc) hac (by rw [List.getElem_map, List.getElem_map]; exact e)
section
variable {P : Program} {w : World} {K : PySem.W.Frag} {mg : Str → Option Value} {base : Heap} {C BR CP BP : Addr} {F : LF}
variable {f : Addr} {cdv : Value} {A : Around} {outer : List Env} {s : Shared} {H : Hp} {E : XK}
theorem tail20 {Q : VK} (B : LB P w K mg base C BR CP BP F) (hr : Room 27 (lawX P w K mg base f cdv A outer s H E).A) (q : ∀ H', Q (.bl true) H') :
    ∃ t, PSs (lawX P w K mg base f cdv A outer s H E) ((defBody sLaw).drop 20) t ∧ ∀ {v0 v3 v4 v5 v6 v7 v8 v9 v10 v11 v13 v14 v15 v17 v18 v19 v20 v21 v22 v23 v24 : Option V} (H' : Hp) (p rl pl mo : Addr) (b : Int) (ds : List RR) (xs : List Ent), TI K C CP H' p rl pl b ds xs → Nest H' moreK (.ref mo) →
      t (DL Q) [v0, some (.ref p), some (.ref rl), v3, v4, v5, v6, v7, v8, v9, v10, v11, some (.ref pl), v13, v14, v15, some (.ref mo), v17, v18, v19, v20, v21, v22, v23, v24] H' := by
  obtain ⟨t, ht, rest⟩ := tail21 (E := E) (H := H) B hr q
  have hr1 : Room 1 _ := hr.mono (by decide)
  have hr5 : Room 5 _ := hr.mono (by decide)
  have hr7 : Room 7 _ := hr.mono (by decide)
  have hr14 : Room 14 _ := hr.mono (by decide)
  have hu64 : (lawX P w K mg base f cdv A outer s H E).A.units + 64 < cLine := by have := hr.un; omega
  refine ⟨_, pss_cons (ps_if (pt_cmpR op_gt (pe_callB call_len_seq (by rfl) B.TL.len PySem.boot_len (pa_cons (pv 2) pa_nil)) pe_int (nomark _))
    (pss_cons (ps_set (i := 19) scLa.nd rfl (Or.inl rfl) (pe_call B.D1.ok hr1 (by rfl) B.D1.gl B.D1.kp B.D1.bd .nil pass0 (pa_cons (pv 1) (pa_cons (pe_callB call_len_seq (by rfl) B.TL.len PySem.boot_len (pa_cons (pv 2) pa_nil)) pa_nil))))
    (pss_cons (ps_set (i := 20) scLa.nd rfl (Or.inl rfl) (pe_call B.MD.ok hr7 (by rfl) B.MD.gl B.MD.kp B.MD.bd .nil pass0 (pa_cons (pe_callTy (call_dictN rfl hu64) (by rfl) B.TQ.dict (by decide +kernel)
        (pa_cons (pe_op op_cat (pe_op op_cat (pe_slice sl_list (pv 2) po_none (po_some (pv 19))) (pe_lst (pa_cons (pe_tup (pa_cons (pv 16) (pa_cons (pe_ix ix_tup (pe_ix ix_list (pv 2) (pv 19) (fun _ _ => rfl)) pe_int (fun _ _ => rfl)) pa_nil))) pa_nil)))
          (pe_slice sl_list (pv 2) (po_some (pe_op op_add (pv 19) pe_int)) po_none)) pa_nil)) pa_nil)))
    (pss_one (ps_if (pt_not (pt_val (pe_call B.S1.ok hr14 (by rfl) B.S1.gl B.S1.kp B.S1.bd .nil pass0 (pa_cons (pe_lst (pa_cons (pe_cmpR (op_ownE B.GP hr5 B.aP B.iP B.bP pass0) (pv 20) (pv 12) (nomark _)) (pa_cons (pe_cmpR (op_ownE B.GP hr5 B.aP B.iP B.bP pass0) (pv 12) (pv 20) (nomark _)) pa_nil)))
        (pa_cons (pe_lst (pa_cons pe_bl (pa_cons pe_bl pa_nil))) pa_nil))))) (pss_one (ps_ret pe_bl)) pss_nil)))) pss_nil) ht, ?_⟩
  intro v0 v3 v4 v5 v6 v7 v8 v9 v10 v11 v13 v14 v15 v17 v18 v19 v20 v21 v22 v23 v24 H' p rl pl mo b ds xs h hmo
  refine ⟨_, rfl, rl, _, rfl, .inl (SqL.of h.hl), _, _, rfl, rfl, _, rfl, ite2 (fun y => ?_) (fun _ => rest _ p rl pl b ds xs h)⟩
  refine ⟨_, rfl, _, rfl, rl, _, rfl, .inl (SqL.of h.hl), p, ((ds.map fun x => V.ref x.e).length : Int), b, rfl, h.pool, ?_, by rw [List.length_map]; have := h.few; omega, fun jv H1 j0 j1 P1 k1 => ?_⟩
  · have := of_decide_eq_true y
    omega
  have h1 := h.kp k1 P1
  have hmo1 := hmo.keep (TK.kp h.pool k1)
  obtain ⟨j, rfl⟩ : ∃ j : Nat, jv = (j : Int) := ⟨jv.toNat, by omega⟩
  have hj : j < ds.length := by
    rw [List.length_map] at j1
    omega
  have hx := List.getElem?_eq_getElem hj
  have hfew := h.few
  -- rows[:at]
  refine ⟨_, rfl, _, rfl, _, rfl, rl, _, rfl, SqL.of h1.hl, fun a ha => ?_⟩
  rw [cut_to _ _ (by rw [List.length_map]; omega)]
  have s2 : Same H1 (upd H1 a (.lst ((ds.map fun x => V.ref x.e).take j))) := same_upd ha
  have h2 := h1.same s2
  have X2 := h2.ok _ (List.getElem_mem hj)
  -- [(more, rows[at][1])]
  refine ⟨_, rfl, _, rfl, _, rfl, rl, _, _, _, rfl, rfl, SqL.of h2.hl, atI_nat (by rw [List.getElem?_map, hx]; rfl), ds[j].e, _, _, _, rfl, rfl, SqT.of X2.he, atI_nat (j := 1) rfl, by show 2 ≤ sizeLine; decide, fun t ht2 => ⟨by show 1 ≤ sizeLine; decide, fun c hc => ?_⟩⟩
  have s3 : Same (upd H1 a (.lst ((ds.map fun x => V.ref x.e).take j))) (upd (upd (upd H1 a (.lst ((ds.map fun x => V.ref x.e).take j))) t (.tup [.ref mo, .ref ds[j].d.l])) c (.lst [.ref t])) := (same_upd ht2).trans (same_upd hc)
  have et : upd (upd (upd H1 a (.lst ((ds.map fun x => V.ref x.e).take j))) t (.tup [.ref mo, .ref ds[j].d.l])) c (.lst [.ref t]) t = some (.tup [.ref mo, .ref ds[j].d.l]) := by
    rw [upd_ne (ne_of_none upd_same hc)]
    exact upd_same
  refine ⟨a, c, _, _, rfl, rfl, s3 _ _ upd_same, upd_same, by rw [List.length_take, List.length_map, List.length_singleton]; exact Nat.le_trans (show min j ds.length + 1 ≤ 100 by omega) (by decide), fun g hg => ?_⟩
  have s4 := s3.trans (same_upd (o := .lst ((ds.map fun x => V.ref x.e).take j ++ [V.ref t])) hg)
  have h4 := h2.same s4
  refine ⟨_, rfl, _, rfl, _, _, rfl, rfl, _, rfl, rl, _, rfl, SqL.of h4.hl, fun i hi => ?_⟩
  rw [show ((j : Int) + 1) = ((j + 1 : Nat) : Int) from rfl, cut_from _ _ (by rw [List.length_map]; omega)]
  have s5 := s4.trans (same_upd (o := .lst ((ds.map fun x => V.ref x.e).drop (j + 1))) hi)
  refine ⟨g, i, _, _, rfl, rfl, same_upd hi _ _ upd_same, upd_same, by rw [List.length_append, List.length_take, List.length_drop, List.length_map, List.length_singleton]; exact Nat.le_trans (show min j ds.length + 1 + (ds.length - (j + 1)) ≤ 100 by omega) (by decide), fun l hl => ?_⟩
  have s6 := s5.trans (same_upd (o := .lst (((ds.map fun x => V.ref x.e).take j ++ [V.ref t]) ++ (ds.map fun x => V.ref x.e).drop (j + 1))) hl)
  have h6 := h2.same s6
  have et6 := same_upd (o := .lst (((ds.map fun x => V.ref x.e).take j ++ [V.ref t]) ++ (ds.map fun x => V.ref x.e).drop (j + 1))) hl _ _ (same_upd (o := .lst ((ds.map fun x => V.ref x.e).drop (j + 1))) hi _ _ (same_upd (o := .lst ((ds.map fun x => V.ref x.e).take j ++ [V.ref t])) hg _ _ et))
  have hmo6 := (hmo1.keep (TK.same (s2.trans s6)))
  have el : (((ds.map fun x => V.ref x.e).take j ++ [V.ref t]) ++ (ds.map fun x => V.ref x.e).drop (j + 1)) = (ds.set j (movR ds[j] t mo)).map fun x => V.ref x.e := by
    rw [List.set_eq_take_append_cons_drop, if_pos hj, List.map_append, List.map_cons, List.map_take, List.map_drop, List.append_assoc]
    rfl
  have hk : ∀ z ∈ ds, z.d.key ≠ (movR ds[j] t mo).d.key := fun z hz => more_ne (h.ok z hz).kl
  have nd6 := mov_nodup (j := j) (x := ds[j]) hk h.nd
  obtain ⟨sv, dv⟩ := okt_shaped oktMore (by decide)
  have ok6 : ∀ x ∈ ds.set j (movR ds[j] t mo), RE _ x ∧ lotsB x.d.ws x.d.W = true := fun x hx2 => by
    rcases List.mem_or_eq_of_mem_set hx2 with hx2 | rfl
    · exact ⟨(h6.ok x hx2).re, h6.good x hx2⟩
    · have X6 := h6.ok _ (List.getElem_mem hj)
      have gd := h6.good _ (List.getElem_mem hj)
      exact ⟨⟨et6, hmo6, sv, dv, X6.d.pr⟩, gd⟩
  have hlz : (ds.set j (movR ds[j] t mo)).length ≤ 1000 := by
    rw [List.length_set]
    omega
  obtain ⟨a1, a2, a3, a4, a5⟩ := dict_in (K := K) (a := l) (H := upd (upd (upd (upd (upd (upd H1 a (.lst ((ds.map fun x => V.ref x.e).take j))) t (.tup [.ref mo, .ref ds[j].d.l])) c (.lst [.ref t])) g (.lst ((ds.map fun x => V.ref x.e).take j ++ [V.ref t]))) i (.lst ((ds.map fun x => V.ref x.e).drop (j + 1)))) l (.lst (((ds.map fun x => V.ref x.e).take j ++ [V.ref t]) ++ (ds.map fun x => V.ref x.e).drop (j + 1)))) (by rw [upd_same, el]) (fun x hx => (ok6 x hx).1) nd6 hlz
  refine ⟨l, _, _, rfl, a1, a2, a3, a4, fun d H7 hd s7 kd => ?_⟩
  rw [a5] at kd
  obtain ⟨m1, m2, m3⟩ := made_in kd (fun x hx => ⟨(ok6 x hx).1.d.same s7, (ok6 x hx).2⟩) hlz
  refine ⟨d, _, rfl, m1, m2, m3, fun p2 H8 ys s8 pa pr => ?_⟩
  have pr := made_out pr
  have h8 := (h6.same s7).same s8
  obtain ⟨r1, r2⟩ := ne_of_key h8.pr pr hx (by rw [List.getElem?_set_self hj]) (hk _ (List.getElem_mem hj))
  obtain ⟨⟨dx1, l1, d1, g1, _⟩, _⟩ := id pa
  obtain ⟨⟨dx2, l2, d2, g2, _⟩, _⟩ := id h8.pa
  refine ⟨_, rfl, _, rfl, p2, dx1, _, pl, dx2, _, rfl, rfl, g1, g2, p2, pl, ys, xs, rfl, pa, h8.pa, fun H9 e9 => ?_⟩
  refine ⟨_, rfl, _, rfl, pl, dx2, _, p2, dx1, _, rfl, rfl, e9 _ _ g2, e9 _ _ g1, pl, p2, xs, ys, rfl, h8.pa.ext e9, pa.ext e9, fun H10 e10 => ?_⟩
  rw [r1, r2]
  refine ⟨by show 2 ≤ sizeLine; decide, fun la hla => ⟨by show 2 ≤ sizeLine; decide, fun lb hlb => ?_⟩⟩
  have s10 : Same H8 (upd (upd H10 la (.lst [.bl false, .bl false])) lb (.lst [.bl false, .bl false])) := fun b o z => (same_upd hlb) _ _ ((same_upd hla) _ _ (e10 _ _ (e9 _ _ z)))
  refine ⟨_, _, rfl, .lst 12 (xs := [.bl false, .bl false]) (ys := [.bl false, .bl false]) (by rw [upd_ne (ne_of_none upd_same hlb)]; exact upd_same) upd_same rfl (by show 2 ≤ 200000; decide) (fun i x y hx hy => ?_), _, rfl, iteF (rest _ p rl pl b ds xs (h8.same s10))⟩
  rw [hx] at hy
  cases hy
  have hm := List.mem_of_getElem? hx
  simp only [List.mem_cons, List.not_mem_nil, or_false] at hm
  rcases hm with rfl | rfl <;> exact .flat _ (.bl false)
end
end K0

set_option Elab.async false
set_option linter.all false
set_option maxRecDepth 100000
set_option maxHeartbeats 4000000
namespace K0
open PySem PySem.Spec PyProof.Rows L2 Kx Kh Kd
section
variable {P : Program} {w : World} {K : PySem.W.Frag} {mg : Str → Option Value} {base : Heap} {C BR CP BP : Addr} {F : LF}
variable {f : Addr} {cdv : Value} {A : Around} {outer : List Env} {s : Shared} {H : Hp} {E : XK}
theorem tail19 {Q : VK} (B : LB P w K mg base C BR CP BP F) (hr : Room 27 (lawX P w K mg base f cdv A outer s H E).A) (q : ∀ H', Q (.bl true) H') :
    ∃ t, PSs (lawX P w K mg base f cdv A outer s H E) ((defBody sLaw).drop 19) t ∧ ∀ {v0 v3 v4 v5 v6 v7 v8 v9 v10 v11 v13 v14 v15 v17 v18 v19 v20 v21 v22 v23 v24 : Option V} (H' : Hp) (p rl pl mo : Addr) (b : Int) (ds : List RR) (xs : List Ent), TI K C CP H' p rl pl b ds xs → Nest H' moreK (.ref mo) →
      t (DL Q) [v0, some (.ref p), some (.ref rl), v3, v4, v5, v6, v7, v8, v9, v10, v11, some (.ref pl), v13, v14, v15, some (.ref mo), v17, v18, v19, v20, v21, v22, v23, v24] H' := by
  obtain ⟨t, ht, rest⟩ := tail20 (E := E) (H := H) B hr q
  have hr5 : Room 5 _ := hr.mono (by decide)
  have hr7 : Room 7 _ := hr.mono (by decide)
  have hr14 : Room 14 _ := hr.mono (by decide)
  have hu64 : (lawX P w K mg base f cdv A outer s H E).A.units + 64 < cLine := by have := hr.un; omega
  refine ⟨_, pss_cons (ps_if (PW.pt (pw_and (pt_cmpR op_gt (pe_callB call_len_seq (by rfl) B.TL.len PySem.boot_len (pa_cons (pv 2) pa_nil)) pe_int (nomark _))
      (pw_and1 (pt_not (pt_val (pe_call B.S1.ok hr14 (by rfl) B.S1.gl B.S1.kp B.S1.bd .nil pass0 (pa_cons (pe_cmpR (op_ownE B.GP hr5 B.aP B.iP B.bP pass0) (pe_call B.MD.ok hr7 (by rfl) B.MD.gl B.MD.kp B.MD.bd .nil pass0
        (pa_cons (pe_callTy (call_dictN rfl hu64) (by rfl) B.TQ.dict (by decide +kernel) (pa_cons (pe_revL (pv 2)) pa_nil)) pa_nil)) (pv 12) (nomark _)) (pa_cons pe_bl pa_nil))))))))
      (pss_one (ps_ret pe_bl)) pss_nil) ht, ?_⟩
  intro v0 v3 v4 v5 v6 v7 v8 v9 v10 v11 v13 v14 v15 v17 v18 v19 v20 v21 v22 v23 v24 H' p rl pl mo b ds xs h hmo
  refine ⟨_, rfl, rl, _, rfl, .inl (SqL.of h.hl), _, _, rfl, rfl, _, rfl, ite2 (fun y => ?_) (fun _ => iteF (rest _ p rl pl mo b ds xs h hmo))⟩
  have hlen : 1 < ds.length := by
    have := of_decide_eq_true y
    rw [List.length_map] at this
    omega
  have hfew := h.few
  refine ⟨_, rfl, rl, _, rfl, SqL.of h.hl, fun l hl => ?_⟩
  have s1 : Same H' (upd H' l (.lst (ds.map fun x => V.ref x.e).reverse)) := same_upd hl
  have h1 := h.same s1
  have nd1 : (ds.reverse.map fun x => x.d.key).Nodup := by
    rw [List.map_reverse]
    exact List.pairwise_reverse.mpr (h.nd.imp fun h => h.symm)
  have ok1 : ∀ x ∈ ds.reverse, RE (upd H' l (.lst (ds.map fun x => V.ref x.e).reverse)) x ∧ lotsB x.d.ws x.d.W = true := fun x hx => ⟨(h1.ok x (List.mem_reverse.mp hx)).re, h1.good x (List.mem_reverse.mp hx)⟩
  have hlz : ds.reverse.length ≤ 1000 := by
    rw [List.length_reverse]
    omega
  obtain ⟨a1, a2, a3, a4, a5⟩ := dict_in (K := K) (a := l) (H := upd H' l (.lst (ds.map fun x => V.ref x.e).reverse)) (by rw [upd_same, List.map_reverse]) (fun x hx => (ok1 x hx).1) nd1 hlz
  refine ⟨l, _, _, rfl, a1, a2, a3, a4, fun d H7 hd s7 kd => ?_⟩
  rw [a5] at kd
  obtain ⟨m1, m2, m3⟩ := made_in kd (fun x hx => ⟨(ok1 x hx).1.d.same s7, (ok1 x hx).2⟩) hlz
  refine ⟨d, _, rfl, m1, m2, m3, fun p2 H8 ys s8 pa pr => ?_⟩
  have pr := made_out pr
  have h8 := (h1.same s7).same s8
  have e0 : ds[0]? = some ds[0] := List.getElem?_eq_getElem (by omega)
  have e9 : ds.reverse[0]? = some ds[ds.length - 1] := by
    rw [List.getElem?_reverse (by omega), List.getElem?_eq_getElem (by omega)]
    simp only [Nat.sub_zero]
  have hne : ds[0].d.key ≠ ds[ds.length - 1].d.key := fun e => by
    have h2 := List.pairwise_iff_getElem.mp h.nd 0 (ds.length - 1) (by rw [List.length_map]; omega) (by rw [List.length_map]; omega) (by omega)
    rw [List.getElem_map, List.getElem_map] at h2
    exact h2 e
  obtain ⟨r1, r2⟩ := ne_of_key h8.pr pr e0 e9 hne
  obtain ⟨⟨dx1, l1, d1, g1, _⟩, _⟩ := id pa
  obtain ⟨⟨dx2, l2, d2, g2, _⟩, _⟩ := id h8.pa
  refine ⟨_, rfl, p2, dx1, _, pl, dx2, _, rfl, rfl, g1, g2, p2, pl, ys, xs, rfl, pa, h8.pa, fun H9 e9 => ?_⟩
  rw [r2]
  exact ⟨_, _, rfl, .flat _ (.bl false), _, rfl, iteF (rest _ p rl pl mo b ds xs (h8.same e9) (hmo.keep (TK.same (fun c o z => e9 _ _ (s8 _ _ (s7 _ _ (s1 _ _ z)))))))⟩
theorem tail18 {Q : VK} (B : LB P w K mg base C BR CP BP F) (hr : Room 27 (lawX P w K mg base f cdv A outer s H E).A) (q : ∀ H', Q (.bl true) H') :
    ∃ t, PSs (lawX P w K mg base f cdv A outer s H E) ((defBody sLaw).drop 18) t ∧ ∀ {v0 v3 v4 v5 v6 v7 v8 v9 v10 v11 v13 v14 v15 v17 v18 v19 v20 v21 v22 v23 v24 : Option V} (H' : Hp) (p rl pl mo : Addr) (b : Int) (ds : List RR) (xs : List Ent), TI K C CP H' p rl pl b ds xs → Nest H' moreK (.ref mo) →
      t (DL Q) [v0, some (.ref p), some (.ref rl), v3, v4, v5, v6, v7, v8, v9, v10, v11, some (.ref pl), v13, v14, v15, some (.ref mo), v17, v18, v19, v20, v21, v22, v23, v24] H' := by
  obtain ⟨t, ht, rest⟩ := tail19 (E := E) (H := H) B hr q
  have hr5 : Room 5 _ := hr.mono (by decide)
  have hr7 : Room 7 _ := hr.mono (by decide)
  have hr14 : Room 14 _ := hr.mono (by decide)
  have hu64 : (lawX P w K mg base f cdv A outer s H E).A.units + 64 < cLine := by have := hr.un; omega
  refine ⟨_, pss_cons (ps_if (pt_cmpR op_gt (pe_callB call_len_seq (by rfl) B.TL.len PySem.boot_len (pa_cons (pv 2) pa_nil)) pe_int (nomark _))
      (pss_cons (ps_set (i := 18) scLa.nd rfl (Or.inl rfl) (pe_call B.MD.ok hr7 (by rfl) B.MD.gl B.MD.kp B.MD.bd .nil pass0 (pa_cons (pe_callTy (call_dictN rfl hu64) (by rfl) B.TQ.dict (by decide +kernel) (pa_cons (pe_slice sl_list (pv 2) po_none (po_some (pe_un un_neg pe_int))) pa_nil)) pa_nil)))
      (pss_one (ps_if (PW.pt (pw_or (pt_not (pt_val (pe_call B.S1.ok hr14 (by rfl) B.S1.gl B.S1.kp B.S1.bd .nil pass0 (pa_cons (pe_cmpR (op_ownE B.GP hr5 B.aP B.iP B.bP pass0) (pv 18) (pv 12) (nomark _)) (pa_cons pe_bl pa_nil)))))
          (pw_or1 (pt_not (pt_val (pe_call B.S1.ok hr14 (by rfl) B.S1.gl B.S1.kp B.S1.bd .nil pass0 (pa_cons (pe_cmpR (op_ownE B.GP hr5 B.aP B.iP B.bP pass0) (pv 12) (pv 18) (nomark _)) (pa_cons pe_bl pa_nil))))))))
        (pss_one (ps_ret pe_bl)) pss_nil))) pss_nil) ht, ?_⟩
  intro v0 v3 v4 v5 v6 v7 v8 v9 v10 v11 v13 v14 v15 v17 v18 v19 v20 v21 v22 v23 v24 H' p rl pl mo b ds xs h hmo
  refine ⟨_, rfl, rl, _, rfl, .inl (SqL.of h.hl), _, _, rfl, rfl, _, rfl, ite2 (fun y => ?_) (fun _ => rest _ p rl pl mo b ds xs h hmo)⟩
  have hlen : 0 < ds.length := by
    have := of_decide_eq_true y
    rw [List.length_map] at this
    omega
  have hfew := h.few
  refine ⟨_, rfl, _, rfl, _, rfl, rl, _, rfl, SqL.of h.hl, fun l hl => ?_⟩
  rw [show cutV (ds.map fun x => V.ref x.e) none (some (-1)) = (ds.take (ds.length - 1)).map fun x => V.ref x.e by rw [cut_last _ (by rw [List.length_map]; exact hlen), List.length_map, List.map_take]]
  have s1 : Same H' (upd H' l (.lst ((ds.take (ds.length - 1)).map fun x => V.ref x.e))) := same_upd hl
  have h1 := h.same s1
  have nd1 : ((ds.take (ds.length - 1)).map fun x => x.d.key).Nodup := by
    rw [List.map_take]
    exact List.Nodup.sublist (List.take_sublist _ _) h.nd
  have ok1 : ∀ x ∈ ds.take (ds.length - 1), RE (upd H' l (.lst ((ds.take (ds.length - 1)).map fun x => V.ref x.e))) x ∧ lotsB x.d.ws x.d.W = true := fun x hx => ⟨(h1.ok x (List.mem_of_mem_take hx)).re, h1.good x (List.mem_of_mem_take hx)⟩
  have hlt : (ds.take (ds.length - 1)).length = ds.length - 1 := by rw [List.length_take]; omega
  have hlz : (ds.take (ds.length - 1)).length ≤ 1000 := by omega
  obtain ⟨a1, a2, a3, a4, a5⟩ := dict_in (K := K) (a := l) (H := upd H' l (.lst ((ds.take (ds.length - 1)).map fun x => V.ref x.e))) upd_same (fun x hx => (ok1 x hx).1) nd1 hlz
  refine ⟨l, _, _, rfl, a1, a2, a3, a4, fun d H7 hd s7 kd => ?_⟩
  rw [a5] at kd
  obtain ⟨m1, m2, m3⟩ := made_in kd (fun x hx => ⟨(ok1 x hx).1.d.same s7, (ok1 x hx).2⟩) hlz
  refine ⟨d, _, rfl, m1, m2, m3, fun p2 H8 ys s8 pa pr => ?_⟩
  have pr := made_out pr
  have h8 := (h1.same s7).same s8
  obtain ⟨r1, r2⟩ := ne_of_len h8.pr pr (by omega)
  obtain ⟨⟨dx1, l1, d1, g1, _⟩, _⟩ := id pa
  obtain ⟨⟨dx2, l2, d2, g2, _⟩, _⟩ := id h8.pa
  refine ⟨_, rfl, _, rfl, p2, dx1, _, pl, dx2, _, rfl, rfl, g1, g2, p2, pl, ys, xs, rfl, pa, h8.pa, fun H9 e9 => ?_⟩
  rw [r2]
  refine ⟨_, _, rfl, .flat _ (.bl false), _, rfl, iteF ?_⟩
  refine ⟨_, rfl, _, rfl, pl, dx2, _, p2, dx1, _, rfl, rfl, e9 _ _ g2, e9 _ _ g1, pl, p2, xs, ys, rfl, h8.pa.ext e9, pa.ext e9, fun H10 e10 => ?_⟩
  rw [r1]
  exact ⟨_, _, rfl, .flat _ (.bl false), _, rfl, iteF (rest _ p rl pl mo b ds xs ((h8.same e9).same e10) (hmo.keep (TK.same (fun c o z => e10 _ _ (e9 _ _ (s8 _ _ (s7 _ _ (s1 _ _ z))))))))⟩
end
end K0

set_option Elab.async false
set_option linter.all false
set_option maxRecDepth 100000
set_option maxHeartbeats 4000000
namespace K0
open PySem PySem.Spec PyProof.Rows L2 Kx Kh Kd
def moreR (mo l : Addr) : RR := ⟨0, ⟨moreK, mo, l, [1], 1⟩⟩
def DueAt (H : Hp) (dl : Addr) (ds : List RR) : Prop := ∃ us, H dl = some (.lst us) ∧ NestL H (ds.map fun x => entK x.d.key x.d.lots) us
theorem DueAt.same {H H' : Hp} {dl : Addr} {ds : List RR} (h : DueAt H dl ds) (s : Same H H') : DueAt H' dl ds := by
  obtain ⟨us, h1, h2⟩ := h
  exact ⟨us, s _ _ h1, h2.keep fun a xs z => s _ _ z⟩
section
variable {P : Program} {w : World} {K : PySem.W.Frag} {mg : Str → Option Value} {base : Heap} {C BR CP BP : Addr} {F : LF}
variable {f : Addr} {cdv : Value} {A : Around} {outer : List Env} {s : Shared} {H : Hp} {E : XK}
theorem TI.lots {H : Hp} {p rl pl : Addr} {b : Int} {ds : List RR} {xs : List Ent} (h : TI K C CP H p rl pl b ds xs) : ∀ x ∈ xs, x.lots.length ≤ 10 := fun x hx => by
  obtain ⟨j, hj⟩ := List.getElem?_of_mem hx
  have hl := h.pr.length
  have hj2 : j < ds.length := by
    have := (List.getElem?_eq_some_iff.mp hj).1
    omega
  obtain ⟨_, e⟩ := paired_both h.pr (List.getElem?_eq_getElem hj2) hj
  rw [e]
  unfold DR.lots
  rw [List.length_map]
  exact (h.ok _ (List.getElem_mem hj2)).ln
theorem TI.okk {H : Hp} {p rl pl : Addr} {b : Int} {ds : List RR} {xs : List Ent} (h : TI K C CP H p rl pl b ds xs) : ∀ k ∈ ds.map (fun x => entK x.d.key x.d.lots), Okk 12 k := fun k hk => by
  obtain ⟨x, hx, rfl⟩ := List.mem_map.mp hk
  refine (okk_ent (n := 2) (h.ok x hx).kv.okk (by decide) ?_).mono (by decide)
  unfold DR.lots
  rw [List.length_map]
  have := (h.ok x hx).ln
  omega
theorem tail14 {Q : VK} (B : LB P w K mg base C BR CP BP F) (hr : Room 27 (lawX P w K mg base f cdv A outer s H E).A) (q : ∀ H', Q (.bl true) H') :
    ∃ t, PSs (lawX P w K mg base f cdv A outer s H E) ((defBody sLaw).drop 14) t ∧ ∀ {v0 v3 v4 v5 v6 v7 v8 v9 v10 v11 v13 v14 v15 v16 v17 v18 v19 v20 v21 v22 v23 v24 : Option V} (H' : Hp) (p rl pl : Addr) (b : Int) (ds : List RR) (xs : List Ent), TI K C CP H' p rl pl b ds xs →
      t (DL Q) [v0, some (.ref p), some (.ref rl), v3, v4, v5, v6, v7, v8, v9, v10, v11, some (.ref pl), v13, v14, v15, v16, v17, v18, v19, v20, v21, v22, v23, v24] H' := by
  obtain ⟨t, ht, rest⟩ := tail18 (E := E) (H := H) B hr q
  have hr5 : Room 5 _ := hr.mono (by decide)
  have hr7 : Room 7 _ := hr.mono (by decide)
  have hr14 : Room 14 _ := hr.mono (by decide)
  have hu64 : (lawX P w K mg base f cdv A outer s H E).A.units + 64 < cLine := by have := hr.un; omega
  refine ⟨_, pss_cons (ps_set (i := 16) scLa.nd rfl (Or.inl rfl) (pe_tup (pa_cons (pe_tup (pa_cons pe_str (pa_cons pe_int pa_nil))) (pa_cons (pe_tup (pa_cons pe_str (pa_cons pe_int (pa_cons pe_int pa_nil)))) pa_nil))))
    (pss_cons (ps_set (i := 17) scLa.nd rfl (Or.inl rfl) (pe_callTy (call_dictN rfl hu64) (by rfl) B.TQ.dict (by decide +kernel) (pa_cons (pv 2) pa_nil)))
    (pss_cons (ps_asg (pe_lst (pa_cons (pe_tup (pa_cons pe_int (pa_cons pe_int pa_nil))) pa_nil)) (pg_sub (pv 17) (pv 16) (set_K hu64)))
    (pss_cons (ps_if (PW.pt (pw_or (pt_not (pt_val (pe_call B.S1.ok hr14 (by rfl) B.S1.gl B.S1.kp B.S1.bd .nil pass0 (pa_cons (pe_cmpR (op_ownE B.GP hr5 B.aP B.iP B.bP pass0) (pe_call B.MD.ok hr7 (by rfl) B.MD.gl B.MD.kp B.MD.bd .nil pass0 (pa_cons (pv 17) pa_nil)) (pv 12) (nomark _)) (pa_cons pe_bl pa_nil)))))
        (pw_or1 (pt_not (pt_val (pe_call B.S1.ok hr14 (by rfl) B.S1.gl B.S1.kp B.S1.bd .nil pass0 (pa_cons (pe_cmpR (op_ownE B.GP hr5 B.aP B.iP B.bP pass0) (pv 12) (pe_call B.MD.ok hr7 (by rfl) B.MD.gl B.MD.kp B.MD.bd .nil pass0 (pa_cons (pv 17) pa_nil)) (nomark _)) (pa_cons pe_bl pa_nil))))))))
      (pss_one (ps_ret pe_bl)) pss_nil) ht))), ?_⟩
  intro v0 v3 v4 v5 v6 v7 v8 v9 v10 v11 v13 v14 v15 v16 v17 v18 v19 v20 v21 v22 v23 v24 H' p rl pl b ds xs h
  refine ⟨by show 2 ≤ sizeLine; decide, fun a1 ha1 => ⟨by show 3 ≤ sizeLine; decide, fun a2 ha2 => ⟨by show 2 ≤ sizeLine; decide, fun mo hmo => ?_⟩⟩⟩
  have s1 : Same H' (upd (upd (upd H' a1 (.tup [.str "shown", .int 9])) a2 (.tup [.str "asked", .int 9, .int 2])) mo (.tup [.ref a1, .ref a2])) := ((same_upd ha1).trans (same_upd ha2)).trans (same_upd hmo)
  have nm : Nest (upd (upd (upd H' a1 (.tup [.str "shown", .int 9])) a2 (.tup [.str "asked", .int 9, .int 2])) mo (.tup [.ref a1, .ref a2])) moreK (.ref mo) := by
    refine .tup upd_same (.cons (.tup (same_upd hmo _ _ (same_upd ha2 _ _ upd_same)) (.cons (.text _) (.cons (.num _) .nil))) (.cons (.tup (same_upd hmo _ _ upd_same) (.cons (.text _) (.cons (.num _) (.cons (.num _) .nil)))) .nil))
  have h1 := h.same s1
  have hfew := h.few
  obtain ⟨a1, a2, a3, a4, a5⟩ := dict_in (K := K) h1.hl (fun x hx => (h1.ok x hx).re) h1.nd (by omega)
  refine ⟨_, rfl, rl, _, _, rfl, a1, a2, a3, a4, fun d H2 hd s2 kd => ?_⟩
  rw [a5] at kd
  have h2 := h1.same s2
  refine ⟨by show 2 ≤ sizeLine; decide, fun t1 ht1 => ⟨by show 1 ≤ sizeLine; decide, fun l hl => ?_⟩⟩
  have s3 : Same H2 (upd (upd H2 t1 (.tup [.int 1, .int 1])) l (.lst [.ref t1])) := (same_upd ht1).trans (same_upd hl)
  have h3 := h2.same s3
  have kd3 := kd.same s3
  have nm3 := nm.keep (TK.same (s2.trans s3))
  have PR : Prs (upd (upd H2 t1 (.tup [.int 1, .int 1])) l (.lst [.ref t1])) l [1] 1 := by
    refine ⟨⟨[t1], upd_same, rfl, fun j t w a c => ?_⟩, by decide, by decide, fun x hx => ?_, by decide⟩
    · have hm := List.mem_of_getElem? a
      have hm2 := List.mem_of_getElem? c
      rw [List.mem_singleton] at hm hm2
      subst hm hm2
      rw [(rn1 1).1, (rn1 1).2]
      exact same_upd hl _ _ upd_same
    · rw [List.mem_singleton.mp hx]
      decide
  obtain ⟨r3, e3⟩ := KD.ext kd3
  have hnk : moreK ∉ (ds.map fun x => x.d.kv).map (·.1) := fun hm => by
    rw [kv_keys] at hm
    obtain ⟨x, hx, e⟩ := List.mem_map.mp hm
    exact more_ne (h.ok x hx).kl e
  obtain ⟨sv, dv⟩ := okt_shaped oktMore (by decide)
  refine ⟨_, rfl, _, rfl, mo, d, moreK, _, rfl, rfl, kd3, nm3, dv, by rw [List.length_map]; omega, fun H4 kd4 ke4 => ?_⟩
  rw [putKv_new hnk, show (ds.map fun x => x.d.kv) ++ [(moreK, mo, V.ref l)] = (ds ++ [moreR mo l]).map fun x => x.d.kv by rw [List.map_append]; rfl] at kd4
  have h4 := h3.ext e3 ke4
  have tk4 : TK (upd (upd H2 t1 (.tup [.int 1, .int 1])) l (.lst [.ref t1])) H4 := fun c ys z => by
    rw [ke4 c (fun e => by rw [e, e3] at z; cases z)]
    exact z
  have nm4 := nm3.keep tk4
  have nl : l ≠ d := fun e => by
    have e1 : upd (upd H2 t1 (.tup [.int 1, .int 1])) l (.lst [.ref t1]) l = some (.lst [.ref t1]) := upd_same
    rw [e] at e1
    rw [e] at e3
    rw [e1] at e3
    cases e3
  have PR4 : Prs H4 l [1] 1 := PR.keep tk4 fun ys z => by rw [ke4 l nl]; exact z
  have ok4 : ∀ x ∈ ds ++ [moreR mo l], DROk H4 x.d ∧ lotsB x.d.ws x.d.W = true := fun x hx => by
    rcases List.mem_append.mp hx with hx | hx
    · exact ⟨(h4.ok x hx).d, h4.good x hx⟩
    · rw [List.mem_singleton.mp hx]
      exact ⟨⟨nm4, sv, dv, PR4⟩, by show lotsB [1] 1 = true; decide +kernel⟩
  have hlz : (ds ++ [moreR mo l]).length ≤ 1000 := by
    rw [List.length_append, List.length_singleton]
    omega
  have hln : ds.length ≠ (ds ++ [moreR mo l]).length := by
    rw [List.length_append, List.length_singleton]
    omega
  obtain ⟨m1, m2, m3⟩ := made_in kd4 ok4 hlz
  refine ⟨_, rfl, d, _, rfl, m1, m2, m3, fun p2 H5 ys s5 pa pr => ?_⟩
  have pr := made_out pr
  have h5 := h4.same s5
  obtain ⟨⟨dx1, l1, d1, g1, _⟩, _⟩ := id pa
  obtain ⟨⟨dx2, l2, d2, g2, _⟩, _⟩ := id h5.pa
  refine ⟨_, rfl, p2, dx1, _, pl, dx2, _, rfl, rfl, g1, g2, p2, pl, ys, xs, rfl, pa, h5.pa, fun H6 e6 => ?_⟩
  rw [(ne_of_len h5.pr pr hln).2]
  refine ⟨_, _, rfl, .flat _ (.bl false), _, rfl, iteF ?_⟩
  have s46 : Same H4 H6 := fun c o z => e6 _ _ (s5 _ _ z)
  have h6 := h4.same s46
  obtain ⟨m1, m2, m3⟩ := made_in (kd4.same s46) (fun x hx => ⟨(ok4 x hx).1.same s46, (ok4 x hx).2⟩) hlz
  refine ⟨_, rfl, _, rfl, d, _, rfl, m1, m2, m3, fun p3 H7 zs s7 pa3 pr3 => ?_⟩
  have pr3 := made_out pr3
  have h7 := h6.same s7
  obtain ⟨⟨dx3, l3, d3, g3, _⟩, _⟩ := id pa3
  obtain ⟨⟨dx4, l4, d4, g4, _⟩, _⟩ := id h7.pa
  refine ⟨pl, dx4, _, p3, dx3, _, rfl, rfl, g4, g3, pl, p3, xs, zs, rfl, h7.pa, pa3, fun H8 e8 => ?_⟩
  rw [(ne_of_len h7.pr pr3 hln).1]
  exact ⟨_, _, rfl, .flat _ (.bl false), _, rfl, iteF (rest _ p rl pl mo b ds xs (h7.same e8) (nm4.keep (TK.same (fun c o z => e8 _ _ (s7 _ _ (s46 _ _ z))))))⟩
theorem tail13 {Q : VK} (B : LB P w K mg base C BR CP BP F) (hr : Room 27 (lawX P w K mg base f cdv A outer s H E).A) (q : ∀ H', Q (.bl true) H') :
    ∃ t, PSs (lawX P w K mg base f cdv A outer s H E) ((defBody sLaw).drop 13) t ∧ ∀ {v0 v3 v4 v5 v6 v7 v8 v9 v10 v11 v13 v15 v16 v17 v18 v19 v20 v21 v22 v23 v24 : Option V} (H' : Hp) (p rl pl dl : Addr) (b : Int) (ds : List RR) (xs : List Ent), TI K C CP H' p rl pl b ds xs → DueAt H' dl ds →
      t (DL Q) [v0, some (.ref p), some (.ref rl), v3, v4, v5, v6, v7, v8, v9, v10, v11, some (.ref pl), v13, some (.ref dl), v15, v16, v17, v18, v19, v20, v21, v22, v23, v24] H' := by
  obtain ⟨t, ht, rest⟩ := tail14 (E := E) (H := H) B hr q
  have hr2 : Room 2 _ := hr.mono (by decide)
  have hr5 : Room 5 _ := hr.mono (by decide)
  have hr7 : Room 7 _ := hr.mono (by decide)
  have hr14 : Room 14 _ := hr.mono (by decide)
  have hu64 : (lawX P w K mg base f cdv A outer s H E).A.units + 64 < cLine := by have := hr.un; omega
  refine ⟨_, pss_cons (ps_if (PW.pt (pw_or (pt_not (pt_val (pe_call B.S1.ok hr14 (by rfl) B.S1.gl B.S1.kp B.S1.bd .nil pass0 (pa_cons (pe_call B.O1.ok hr2 (by rfl) B.O1.gl B.O1.kp B.O1.bd .nil pass0 (pa_cons (pv 12) pa_nil)) (pa_cons (pv 14) pa_nil)))))
        (pw_or1 (pt_not (pt_val (pe_call B.S1.ok hr14 (by rfl) B.S1.gl B.S1.kp B.S1.bd .nil pass0 (pa_cons (pe_cmpR (op_ownE B.GP hr5 B.aP B.iP B.bP pass0) (pv 12) (pe_call B.MD.ok hr7 (by rfl) B.MD.gl B.MD.kp B.MD.bd .nil pass0 (pa_cons (pe_callTy (call_dictN rfl hu64) (by rfl) B.TQ.dict (by decide +kernel) (pa_cons (pv 2) pa_nil)) pa_nil)) (nomark _)) (pa_cons pe_bl pa_nil))))))))
      (pss_one (ps_ret pe_bl)) pss_nil) ht, ?_⟩
  intro v0 v3 v4 v5 v6 v7 v8 v9 v10 v11 v13 v15 v16 v17 v18 v19 v20 v21 v22 v23 v24 H' p rl pl dl b ds xs h hdue
  have hfew := h.few
  have hxl := h.len
  refine ⟨_, rfl, pl, xs, rfl, h.pa, by omega, fun x hx => Nat.le_trans (h.lots x hx) (by decide), fun r us H1 s1 hr1 hus nus => ?_⟩
  have h1 := h.same s1
  obtain ⟨us2, e2, n2⟩ := hdue.same s1
  rw [lots_keys h.pr] at nus
  refine ⟨_, rfl, .ref r, .ref dl, rfl, sd_list (n := 12) h1.okk (by rw [List.length_map]; omega) hus e2 nus n2, _, rfl, iteF ?_⟩
  obtain ⟨a1, a2, a3, a4, a5⟩ := dict_in (K := K) h1.hl (fun x hx => (h1.ok x hx).re) h1.nd (by omega)
  refine ⟨_, rfl, _, rfl, rl, _, _, rfl, a1, a2, a3, a4, fun d H2 hd s2 kd => ?_⟩
  rw [a5] at kd
  have h2 := h1.same s2
  obtain ⟨m1, m2, m3⟩ := made_in kd (fun x hx => ⟨(h2.ok x hx).d, h2.good x hx⟩) (by omega)
  refine ⟨d, _, rfl, m1, m2, m3, fun p2 H5 ys s5 pa pr => ?_⟩
  have pr := made_out pr
  have h5 := h2.same s5
  obtain ⟨⟨dx1, l1, d1, g1, _⟩, _⟩ := id pa
  obtain ⟨⟨dx2, l2, d2, g2, _⟩, _⟩ := id h5.pa
  refine ⟨pl, dx2, _, p2, dx1, _, rfl, rfl, g2, g1, pl, p2, xs, ys, rfl, h5.pa, pa, fun H6 e6 => ?_⟩
  rw [eq_of h.pr pr rfl fun j x y hx hy => by rw [hx] at hy; cases hy; exact ⟨rfl, rfl⟩]
  exact ⟨_, _, rfl, .flat _ (.bl true), _, rfl, iteF (rest _ p rl pl b ds xs (h5.same e6))⟩
end
end K0

set_option Elab.async false
set_option linter.all false
set_option maxRecDepth 100000
set_option maxHeartbeats 4000000
namespace K0
open PySem PySem.Spec PyProof.Rows L2 Kx Kh Kd
/-! ### lists of the law's that change after the plan is made -/
section
variable {P : Program} {w : World} {K : PySem.W.Frag} {mg : Str → Option Value} {base : Heap} {C BR CP BP : Addr} {F : LF}
/-- all lists that matter are other lists than a -/
structure Oth (K : PySem.W.Frag) (C CP : Addr) (H : Hp) (a p rl pl : Addr) (ds : List RR) (xs : List Ent) : Prop where
  op : a ≠ p
  oq : ∀ q ns i c z t b, PoolV H p q ns i c z t b → a ≠ q
  or : a ≠ rl
  ol : ∀ x ∈ ds, a ≠ x.d.l
  ot : ∀ dx l d, H pl = some (.ins CP dx (pf l d)) → a ≠ l
theorem TI.oth {H : Hp} {p rl pl a : Addr} {b : Int} {ds : List RR} {xs : List Ent} {vs us : List V} (h : TI K C CP H p rl pl b ds xs) (ha : H a = some (.lst vs)) (o : Oth K C CP H a p rl pl ds xs) : TI K C CP (upd H a (.lst us)) p rl pl b ds xs := by
  have k : ∀ c o, H c = some o → c ≠ a → upd H a (.lst us) c = some o := fun c o z hc => by
    rw [upd_ne hc]
    exact z
  have kt : ∀ c ys, H c = some (.tup ys) → upd H a (.lst us) c = some (.tup ys) := fun c ys z => k _ _ z fun e => by rw [e, ha] at z; cases z
  have ki : ∀ c D dx fs, H c = some (.ins D dx fs) → upd H a (.lst us) c = some (.ins D dx fs) := fun c D dx fs z => k _ _ z fun e => by rw [e, ha] at z; cases z
  obtain ⟨q, ns, i, c, z, t, PV⟩ := h.pool
  obtain ⟨⟨dx, l, d2, h1, h2⟩, ok⟩ := h.pa
  exact ⟨⟨q, ns, i, c, z, t, PV.ne, k _ _ PV.hp o.op.symm, k _ _ PV.hq (o.oq _ _ _ _ _ _ _ PV).symm, PV.i0, PV.s0, PV.s1⟩, k _ _ h.hl o.or.symm, h.np, fun x hx => (h.ok x hx).keep kt fun ys z => k _ _ z (o.ol x hx).symm, h.good, h.nd, ⟨⟨dx, l, d2, ki _ _ _ _ h1, k _ _ h2 (o.ot _ _ _ h1).symm⟩, fun x hx => (ok x hx).keep kt ki⟩, h.pr, h.few⟩
/-- a list whose first is an instance -/
def InsL (H : Hp) (a : Addr) (n : Nat) : Prop := ∃ (a0 : Addr) (ys : List V) (D dx : Addr) (fs : List (Str × V)), H a = some (.lst (.ref a0 :: ys)) ∧ ys.length ≤ n ∧ H a0 = some (.ins D dx fs)
theorem first_tup {H : Hp} {a0 D dx : Addr} {fs : List (Str × V)} {ys : List V} {α : Type} {g : α → Addr} {cs : List α} (hi : H a0 = some (.ins D dx fs)) (ht : ∀ c ∈ cs, ∃ zs, H (g c) = some (.tup zs)) (e : V.ref a0 :: ys = cs.map fun c => V.ref (g c)) : False := by
  cases cs with
  | nil => cases e
  | cons c r =>
    rw [List.map_cons] at e
    injection e with e _
    injection e with e
    obtain ⟨zs, hz⟩ := ht c (List.mem_cons_self ..)
    rw [← e, hi] at hz
    cases hz
theorem TI.insL {H : Hp} {p rl pl a : Addr} {b : Int} {ds : List RR} {xs : List Ent} {n : Nat} (h : TI K C CP H p rl pl b ds xs) (ha : InsL H a n) : Oth K C CP H a p rl pl ds xs := by
  obtain ⟨a0, ys, D, dx, fs, e, _, hi⟩ := ha
  refine ⟨fun z => ?_, fun q ns i c z t b PV y => ?_, fun z => ?_, fun x hx z => ?_, fun dx l d hp z => ?_⟩
  · subst z
    obtain ⟨q, ns, i, c, z, t, PV⟩ := h.pool
    rw [PV.hp] at e
    injection e with e
    injection e with e
    injection e with e1 e2
    -- the pool's first is its list of numbers
    injection e1 with e1
    have := PV.hq
    rw [e1, hi] at this
    cases this
  · subst y
    rw [PV.hq] at e
    injection e with e
    injection e with e
    cases ns with
    | nil => cases e
    | cons n r =>
      injection e with e _
      cases e
  · subst z
    have e2 := h.hl
    rw [e] at e2
    injection e2 with e2
    injection e2 with e2
    exact first_tup hi (fun x hx => ⟨_, (h.ok x hx).he⟩) e2
  · subst z
    obtain ⟨ts, h1, h2, h3⟩ := (h.ok x hx).d.pr.at_
    rw [e] at h1
    injection h1 with h1
    injection h1 with h1
    refine first_tup (g := id) (cs := ts) hi (fun t ht => ?_) h1
    obtain ⟨j, hj⟩ := List.getElem?_of_mem ht
    have hj2 : j < x.d.ws.length := by
      have := (List.getElem?_eq_some_iff.mp hj).1
      omega
    exact ⟨_, h3 j t _ hj (List.getElem?_eq_getElem hj2)⟩
  · subst z
    obtain ⟨⟨dx', l', d', g1, g2⟩, ok⟩ := h.pa
    rw [hp] at g1
    injection g1 with g1
    injection g1 with _ _ g1
    have e1 := pf_e a d
    rw [g1, pf_e] at e1
    injection e1 with e1
    injection e1 with e1
    rw [e1, e] at g2
    injection g2 with g2
    injection g2 with g2
    exact first_tup hi (fun x hx => ⟨_, (ok x hx).he⟩) g2
theorem DueAt.lst {H : Hp} {dl a : Addr} {ds : List RR} {vs us : List V} (h : DueAt H dl ds) (ha : H a = some (.lst vs)) (hn : a ≠ dl) : DueAt (upd H a (.lst us)) dl ds := by
  obtain ⟨ws, h1, h2⟩ := h
  exact ⟨ws, by rw [upd_ne hn.symm]; exact h1, h2.keep fun c ys z => by
    rw [upd_ne (fun e => by rw [e, ha] at z; cases z)]
    exact z⟩
theorem DueAt.insL {H : Hp} {dl a : Addr} {ds : List RR} {n : Nat} (h : DueAt H dl ds) (ha : InsL H a n) : a ≠ dl := by
  rintro rfl
  obtain ⟨a0, ys, D, dx, fs, e, _, hi⟩ := ha
  obtain ⟨ws, h1, h2⟩ := h
  rw [e] at h1
  injection h1 with h1
  injection h1 with h1
  subst h1
  cases ds with
  | nil => cases h2
  | cons x r =>
    cases h2 with
    | cons h2 _ =>
      cases h2 with
      | tup ea _ =>
        rw [hi] at ea
        cases ea
theorem InsL.keep {H H' : Hp} {a : Addr} {n : Nat} (h : InsL H a n) (kl : ∀ c ys, H c = some (.lst ys) → H' c = some (.lst ys)) (ki : ∀ c D dx fs, H c = some (.ins D dx fs) → H' c = some (.ins D dx fs)) : InsL H' a n := by
  obtain ⟨a0, ys, D, dx, fs, e, hl, hi⟩ := h
  exact ⟨a0, ys, D, dx, fs, kl _ _ e, hl, ki _ _ _ _ hi⟩
theorem InsL.mono {H : Hp} {a : Addr} {n m : Nat} (h : InsL H a n) (hm : n ≤ m) : InsL H a m := by
  obtain ⟨a0, ys, D, dx, fs, e, hl, hi⟩ := h
  exact ⟨a0, ys, D, dx, fs, e, Nat.le_trans hl hm, hi⟩
/-- another such list grows, or this one -/
theorem InsL.app {H : Hp} {a c : Addr} {n : Nat} {vs : List V} {v : V} (h : InsL H a n) (hc : H c = some (.lst vs)) : InsL (upd H c (.lst (vs ++ [v]))) a (n + 1) := by
  obtain ⟨a0, ys, D, dx, fs, e, hl, hi⟩ := h
  have hi2 : upd H c (.lst (vs ++ [v])) a0 = some (.ins D dx fs) := by
    rw [upd_ne (fun z => by rw [z, hc] at hi; cases hi)]
    exact hi
  by_cases q : a = c
  · subst q
    rw [hc] at e
    injection e with e
    injection e with e
    subst e
    exact ⟨a0, ys ++ [v], D, dx, fs, by rw [upd_same]; rfl, by rw [List.length_append, List.length_singleton]; omega, hi2⟩
  · exact ⟨a0, ys, D, dx, fs, by rw [upd_ne q]; exact e, by omega, hi2⟩
/-- the entries' list before it is cleared -/
theorem TI.entL {H : Hp} {p rl pl el : Addr} {b : Int} {ds : List RR} {xs : List Ent} {rws : List Row} (h : TI K C CP H p rl pl b ds xs) (he : H el = some (.lst (rws.map fun r => V.ref r.e))) (hr : ∀ r ∈ rws, H r.e = some (.tup [.ref r.va, .ref r.la]) ∧ ∃ n, InsL H r.la n) (hne : rws ≠ []) (h1 : el ≠ rl) (h2 : ∀ x ∈ ds, el ≠ x.d.l) : Oth K C CP H el p rl pl ds xs := by
  obtain ⟨r, rs, rfl⟩ : ∃ r rs, rws = r :: rs := by
    cases rws with
    | nil => exact absurd rfl hne
    | cons r rs => exact ⟨r, rs, rfl⟩
  obtain ⟨hr1, n, a0, ys, D, dx, fs, e, _, hi⟩ := hr r (List.mem_cons_self ..)
  refine ⟨fun z => ?_, fun q ns i c z t b PV y => ?_, h1, h2, fun dx l d hp z => ?_⟩
  · subst z
    obtain ⟨q, ns, i, c, z, t, PV⟩ := h.pool
    rw [PV.hp] at he
    injection he with he
    injection he with he
    injection he with e1 e2
    injection e1 with e1
    have := PV.hq
    rw [e1, hr1] at this
    cases this
  · subst y
    rw [PV.hq] at he
    injection he with he
    injection he with he
    cases ns with
    | nil => cases he
    | cons n r =>
      injection he with he _
      cases he
  · subst z
    obtain ⟨⟨dx', l', d', g1, g2⟩, ok⟩ := h.pa
    rw [hp] at g1
    injection g1 with g1
    injection g1 with _ _ g1
    have e1 := pf_e el d
    rw [g1, pf_e] at e1
    injection e1 with e1
    injection e1 with e1
    rw [e1, he] at g2
    injection g2 with g2
    injection g2 with g2
    cases xs with
    | nil => cases g2
    | cons x xr =>
      injection g2 with g2 _
      injection g2 with g2
      have X := ok x (List.mem_cons_self ..)
      have X2 := X.he
      rw [← g2, hr1] at X2
      injection X2 with X2
      injection X2 with X2
      injection X2 with _ X2
      injection X2 with X2 _
      injection X2 with X2
      have X3 := X.hl
      rw [← X2, e] at X3
      cases X3
theorem upd_id {H : Hp} {a : Addr} {o : HO} (h : H a = some o) : upd H a o = H := by
  funext c
  by_cases e : c = a
  · subst e
    rw [upd_same, h]
  · rw [upd_ne e]
end
end K0

set_option Elab.async false
set_option linter.all false
set_option maxRecDepth 100000
set_option maxHeartbeats 4000000
namespace K0
open PySem PySem.Spec PyProof.Rows L2 Kx Kh Kd
mutual
theorem dp_same {K : PySem.W.Frag} {H H' : Hp} (s : Same H H') : ∀ {v : V} {d : PyData}, Dp K H v d → Dp K H' v d
  | _, _, .non => .non
  | _, _, .bl b => .bl b
  | _, _, .int i => .int i
  | _, _, .str x => .str x
  | _, _, .lst h r => .lst (h.ext s) (dpA_same s r)
  | _, _, .tup h r => .tup (h.ext s) (dpA_same s r)
theorem dpA_same {K : PySem.W.Frag} {H H' : Hp} (s : Same H H') : ∀ {vs : List V} {ds : List PyData}, DpAll K H vs ds → DpAll K H' vs ds
  | [], [], .nil => .nil
  | _ :: _, _ :: _, .cons h r => .cons (dp_same s h) (dpA_same s r)
end
def rTofK (K : PySem.W.Frag) : List V → Hp → VK → Prop := fun xs H Q => ∃ p ys, xs = [.ref p] ∧ ((SqL K H p ys ∧ ∀ l, H l = none → Q (.ref l) (upd H l (.tup ys))) ∨ (SqT K H p ys ∧ Q (.ref p) H))
theorem call_tuple_ofK {X : Cx} {K : PySem.W.Frag} (h : X.K = K) : CallR X (.type "tuple") (rTofK K) := by
  subst h
  exact call_tuple_of
section
variable {P : Program} {w : World} {K : PySem.W.Frag} {mg : Str → Option Value} {base : Heap} {C BR CP BP : Addr} {F : LF}
variable {f : Addr} {cdv : Value} {A : Around} {outer : List Env} {s : Shared} {H : Hp} {E : XK}
theorem tail9 {Q : VK} (B : LB P w K mg base C BR CP BP F) (hr : Room 27 (lawX P w K mg base f cdv A outer s H E).A) (q : ∀ H', Q (.bl true) H') :
    ∃ t, PSs (lawX P w K mg base f cdv A outer s H E) ((defBody sLaw).drop 9) t ∧ ∀ {v0 v3 v4 v5 v6 v7 v8 v9 v11 v13 v15 v16 v17 v18 v19 v20 v21 v22 v23 v24 : Option V} (H' : Hp) (p rl el pl dl : Addr) (b : Int) (ds : List RR) (rws : List Row) (xs : List Ent), TI K C CP H' p rl pl b ds xs → DueAt H' dl ds → H' el = some (.lst (rws.map fun r => V.ref r.e)) → (∀ r ∈ rws, H' r.e = some (.tup [.ref r.va, .ref r.la]) ∧ InsL H' r.la 20) → rws.length ≤ 10 → el ≠ rl → (∀ x ∈ ds, el ≠ x.d.l) → el ≠ dl →
      t (DL Q) [v0, some (.ref p), some (.ref rl), v3, v4, v5, v6, v7, v8, v9, some (.ref el), v11, some (.ref pl), v13, some (.ref dl), v15, v16, v17, v18, v19, v20, v21, v22, v23, v24] H' := by
  obtain ⟨t, ht, rest⟩ := tail13 (E := E) (H := H) B hr q
  have hr1 : Room 1 _ := hr.mono (by decide)
  have hr2 : Room 2 _ := hr.mono (by decide)
  obtain ⟨dsv, bD, vD⟩ := B.bR1
  refine ⟨_, pss_cons (ps_for PassesOwn.never rfl (pi_list (pv 10)) (pg_tup (by rfl) (pgs_cons (pg_name (i := 5) scLa.nd rfl (Or.inl rfl)) (pgs_cons (pg_name (i := 9) scLa.nd rfl (Or.inl rfl)) pgs_nil)))
      (pss_one (ps_expr (pe_bm PySem.F.plainAttrs_list PySem.F.slot_list_append PySem.F.type_list_append mt_append (pv 9) (pa_cons (pe_make B.MR B.GR hr2 rfl B.T.mgC bD vD passL (pa_cons pe_int pa_nil)) pa_nil)))))
    (pss_cons (ps_expr (pe_bm0 PySem.F.plainAttrs_list PySem.F.slot_list_clear PySem.F.type_list_clear mt_clear (pv 10)))
    (pss_cons (ps_set (i := 15) scLa.nd rfl (Or.inl rfl) (pe_meth0 (pv 12) B.TP.cl B.mE B.GE hr1 B.bE .nil pass0))
    (pss_cons (ps_expr (pe_bm PySem.F.plainAttrs_list PySem.F.slot_list_append PySem.F.type_list_append mt_append (pv 15) (pa_cons pe_int pa_nil))) ht))), ?_⟩
  intro v0 v3 v4 v5 v6 v7 v8 v9 v11 v13 v15 v16 v17 v18 v19 v20 v21 v22 v23 v24 H' p rl el pl dl b ds rws xs h hdue hel hrw hz e1 e2 e3
  refine ⟨_, rfl, el, rfl, ⟨_, SqL.of hel⟩, for_list (xs := rws.map fun r => V.ref r.e) (fun i σ H' => (∃ v5 v9, σ = [v0, some (.ref p), some (.ref rl), v3, v4, v5, v6, v7, v8, v9, some (.ref el), v11, some (.ref pl), v13, some (.ref dl), v15, v16, v17, v18, v19, v20, v21, v22, v23, v24]) ∧ TI K C CP H' p rl pl b ds xs ∧ DueAt H' dl ds ∧ H' el = some (.lst (rws.map fun r => V.ref r.e)) ∧ ∀ r ∈ rws, H' r.e = some (.tup [.ref r.va, .ref r.la]) ∧ InsL H' r.la (20 + i))
    ⟨⟨_, _, rfl⟩, h, hdue, hel, hrw⟩ (fun i σ H' _ hh => SqL.of hh.2.2.2.1) ?_ ?_⟩
  · rintro i y σ H1 hy ⟨⟨v5, v9, rfl⟩, h1, due1, el1, rw1⟩
    obtain ⟨r, hr0, rfl⟩ := Option.map_eq_some_iff.mp ((List.getElem?_map ..).symm.trans hy)
    have hi : i < rws.length := (List.getElem?_eq_some_iff.mp hr0).1
    obtain ⟨te, _⟩ := rw1 r (List.mem_of_getElem? hr0)
    refine ⟨r.e, _, rfl, SqT.of te, rfl, _, _, rfl, _, _, rfl, rfl, ?_⟩
    obtain ⟨a0, ys, D0, dx0, fs0, la1, hyl, hi0⟩ := (rw1 r (List.mem_of_getElem? hr0)).2
    refine ⟨_, rfl, .inl ⟨rfl, _, SqL.of la1⟩, fun x dx nx ndx nex => ⟨x, dx, 1, 1, rfl, upd_same, Bd.of_small (by decide) (by decide), fun z => absurd z (by decide), fun _ H2 hR kp => ⟨rfl, ?_⟩⟩⟩
    have s1 : Same H1 H2 := Same.made nx ndx kp
    have h2 := h1.same s1
    have la2 := s1 _ _ la1
    have rw2 : ∀ r ∈ rws, H2 r.e = some (.tup [.ref r.va, .ref r.la]) ∧ InsL H2 r.la (20 + i) := fun r hr => ⟨s1 _ _ (rw1 r hr).1, (rw1 r hr).2.keep (fun c ys z => s1 _ _ z) fun c D dx fs z => s1 _ _ z⟩
    have due2 := due1.same s1
    have el2 := s1 _ _ el1
    have il := (rw2 r (List.mem_of_getElem? hr0)).2
    have o := h2.insL il
    have hela : el ≠ r.la := fun z => by
      rw [← z, el2] at la2
      injection la2 with la2
      injection la2 with la2
      exact first_tup (s1 _ _ hi0) (fun c hc => ⟨_, (rw2 c hc).1⟩) la2.symm
    refine ⟨r.la, _, _, rfl, rfl, la2, ?_, ⟨_, _, rfl⟩, h2.oth la2 o, due2.lst la2 (due2.insL il), by rw [upd_ne hela]; exact el2, fun r' hr' => ⟨?_, (rw2 r' hr').2.app la2⟩⟩
    · rw [List.length_cons]
      exact Nat.lt_of_le_of_lt (show ys.length + 1 ≤ 40 by omega) (by decide)
    · rw [upd_ne (fun z => by
        have h3 := (rw2 r' hr').1
        rw [z, la2] at h3
        cases h3)]
      exact (rw2 r' hr').1
  · rintro σ H1 ⟨⟨v5, v9, rfl⟩, h1, due1, el1, rw1⟩
    refine ⟨_, rfl, .inl ⟨rfl, _, SqL.of el1⟩, el, _, rfl, rfl, el1, ?_⟩
    have hh : TI K C CP (upd H1 el (.lst [])) p rl pl b ds xs ∧ DueAt (upd H1 el (.lst [])) dl ds := by
      by_cases hne : rws = []
      · subst hne
        rw [upd_id (show H1 el = some (.lst []) from el1)]
        exact ⟨h1, due1⟩
      · exact ⟨h1.oth el1 (h1.entL el1 (fun r hr => ⟨(rw1 r hr).1, _, (rw1 r hr).2⟩) hne e1 e2), due1.lst el1 e3⟩
    obtain ⟨h2, due2⟩ := hh
    obtain ⟨⟨dx2, l2, d2, g2, _⟩, _⟩ := id h2.pa
    refine ⟨_, rfl, pl, dx2, _, rfl, g2, pf_no (by decide +kernel) (by decide +kernel), pl, xs, rfl, h2.pa, fun l H3 s3 nl hl => ?_⟩
    have hlen := h.len
    have hfew := h.few
    refine ⟨_, rfl, .inl ⟨rfl, _, SqL.of hl⟩, l, _, _, rfl, rfl, hl, by rw [List.length_map]; exact Nat.lt_of_le_of_lt (show xs.length ≤ 10 by omega) (by decide), ?_⟩
    have s4 : Same (upd H1 el (.lst [])) (upd H3 l (.lst (xs.map (fun x => V.ref x.e) ++ [.int 7]))) := fun c o z => by
      rw [upd_ne (ne_of_none z nl)]
      exact s3 _ _ z
    exact rest _ p rl pl dl b ds xs (h2.same s4) (due2.same s4)
end
end K0

set_option Elab.async false
set_option linter.all false
set_option maxRecDepth 100000
set_option maxHeartbeats 4000000
namespace K0
open PySem PySem.Spec PyProof.Rows L2 Kx Kh Kd
def RowRel (x : RR) (r : Row) : Prop := r.key = x.d.key ∧ r.ws = x.d.ws ∧ r.W = x.d.W
section
variable {P : Program} {w : World} {K : PySem.W.Frag} {mg : Str → Option Value} {base : Heap} {C BR CP BP : Addr} {F : LF}
variable {f : Addr} {cdv : Value} {A : Around} {outer : List Env} {s : Shared} {H : Hp} {E : XK}
/-- good lots are some -/
theorem ins_lots {H : Hp} {r : Row} (R : RowOk K C H r) (hla : H r.la = some (.lst (r.as.map V.ref))) (hg : lotsB r.ws r.W = true) : InsL H r.la 100 := by
  unfold lotsB at hg
  have hs := of_decide_eq_true (Bool.and_eq_true_iff.mp hg).2
  have hl := R.lt.len
  have hp := R.lt.pos
  have hf := R.lt.few
  cases e : r.as with
  | nil =>
    rw [e, List.length_nil] at hl
    have : r.ws = [] := List.eq_nil_of_length_eq_zero hl.symm
    rw [this] at hs
    have hs : (0 : Int) = r.W := hs
    omega
  | cons a0 as =>
    have hw : 0 < r.ws.length := by
      rw [← hl, e, List.length_cons]
      omega
    obtain ⟨da, ea⟩ := R.lt.at_ 0 a0 r.ws[0] (by rw [e]; rfl) (List.getElem?_eq_getElem hw)
    refine ⟨a0, as.map V.ref, C, da, _, by rw [hla, e]; rfl, ?_, ea⟩
    rw [List.length_map]
    rw [e, List.length_cons] at hl
    omega
theorem tail7 {Q : VK} (B : LB P w K mg base C BR CP BP F) (hr : Room 27 (lawX P w K mg base f cdv A outer s H E).A) (q : ∀ H', Q (.bl true) H') :
    ∃ t, PSs (lawX P w K mg base f cdv A outer s H E) ((defBody sLaw).drop 7) t ∧ ∀ {v0 v4 v5 v6 v7 v8 v9 v13 v14 v15 v16 v17 v18 v19 v20 : Option V} (H' : Hp) (p rl el kl pl : Addr) (b : Int) (ds : List RR) (rws : List Row) (xs : List Ent), TI K C CP H' p rl pl b ds xs → H' el = some (.lst (rws.map fun r => V.ref r.e)) → (∀ r ∈ rws, RowOk K C H' r ∧ H' r.la = some (.lst (r.as.map V.ref))) → Paired RowRel ds rws → el ≠ rl → (∀ x ∈ ds, el ≠ x.d.l) → Dp K H' (.ref kl) (keptD rws) →
      t (DL Q) [v0, some (.ref p), some (.ref rl), some .non, v4, v5, v6, v7, v8, v9, some (.ref el), some (.ref kl), some (.ref pl), v13, v14, v15, v16, v17, v18, v19, v20, none, none, none, none] H' := by
  obtain ⟨t, ht, rest⟩ := tail9 (E := E) (H := H) B hr q
  have hr1 : Room 1 _ := hr.mono (by decide)
  have hr2 : Room 2 _ := hr.mono (by decide)
  have hr14 : Room 14 _ := hr.mono (by decide)
  have hu64 : (lawX P w K mg base f cdv A outer s H E).A.units + 64 < cLine := by have := hr.un; omega
  refine ⟨_, pss_cons (ps_setLc (i := 14) (own := [("view", 5), ("lots", 9)]) (g := gTup K 2 (gCons (gName 5) (gCons (gName 9) gNil))) (tt := tYes) (te := tTup (tCons (tVar 5) (tCons (tCB (rTofK K) (tCons (tVar 9) tNil)) tNil))) rfl scLa.nd rfl rfl (sw_true rfl rfl rfl (by decide +kernel)) (pi_list (pv 2)) (blkOk_by (N := NL) (sc := defScope sLaw) (by decide +kernel))
      (fun _ _ _ _ _ => pg_tup rfl (pgs_cons (pg_name (i := 5) scLa.nd rfl (Or.inl rfl)) (pgs_cons (pg_name (i := 9) scLa.nd rfl (Or.inl rfl)) pgs_nil))) (fun _ _ _ _ _ => pts_nil)
      (fun _ _ _ _ _ => pe_tup (pa_cons (pv 5) (pa_cons (pe_callTy (call_tuple_ofK (by rfl)) (by rfl) B.TL.tuple (by decide +kernel) (pa_cons (pv 9) pa_nil)) pa_nil))))
    (pss_cons (ps_if (PW.pt (pw_or (pt_cmpR op_notN (pv 3) pe_non (nomark _)) (pw_or (pt_cmpR (op_neD hu64) (pv 11) (pe_call B.KP.ok hr1 (by rfl) B.KP.gl B.KP.kp B.KP.bd .nil pass0 (pa_cons (pv 10) pa_nil)) (nomark _))
        (pw_or1 (pt_not (pt_val (pe_call B.S1.ok hr14 (by rfl) B.S1.gl B.S1.kp B.S1.bd .nil pass0 (pa_cons (pe_call B.O1.ok hr2 (by rfl) B.O1.gl B.O1.kp B.O1.bd .nil pass0 (pa_cons (pv 12) pa_nil)) (pa_cons (pv 14) pa_nil)))))))))
      (pss_one (ps_ret pe_bl)) pss_nil) ht), ?_⟩
  intro v0 v4 v5 v6 v7 v8 v9 v13 v14 v15 v16 v17 v18 v19 v20 H' p rl el kl pl b ds rws xs h hel hrw prw e1 e2 hk
  have hfew := h.few
  have hxl := h.len
  have hrl := prw.length
  refine ⟨_, rfl, rl, rfl, ⟨_, SqL.of h.hl⟩, fun D hD => ?_⟩
  refine lc_list (xs := ds.map fun x => V.ref x.e) (fun i H1 => ∃ us : List V, H1 D = some (.lst us) ∧ NestL H1 ((ds.take i).map fun x => entK x.d.key x.d.lots) us ∧ Same H' H1) ⟨[], upd_same, .nil, same_upd hD⟩ (fun i H1 _ ⟨_, _, _, s1⟩ => SqL.of (s1 _ _ h.hl)) ?_ ?_
  · rintro i y H1 hy ⟨us, hus, nus, s1⟩
    obtain ⟨x, hx, rfl⟩ := Option.map_eq_some_iff.mp ((List.getElem?_map ..).symm.trans hy)
    have hil : i < ds.length := (List.getElem?_eq_some_iff.mp hx).1
    have X := (h.ok x (List.mem_of_getElem? hx)).same s1
    obtain ⟨ts, hts, htl, hpt⟩ := X.d.pr.at_
    refine ⟨x.e, _, rfl, SqT.of X.he, rfl, _, _, rfl, _, _, rfl, rfl, rfl, tYesI ⟨_, rfl, _, rfl, x.d.l, _, rfl, .inl ⟨SqL.of hts, fun t2 ht2 => ⟨by show 2 ≤ sizeLine; decide, fun e he => ?_⟩⟩⟩⟩
    have s2 : Same H1 (upd (upd H1 t2 (.tup (ts.map V.ref))) e (.tup [.ref x.d.va, .ref t2])) := (same_upd ht2).trans (same_upd he)
    have hus2 := s2 _ _ hus
    have tk := TK.lst (us := us ++ [V.ref e]) hus2
    have hlen : us.length = i := by
      rw [← nus.length, List.length_map, List.length_take]
      omega
    refine ⟨_, hus2, by rw [hlen]; exact Nat.lt_of_lt_of_le (show i < 11 by omega) (by decide), us ++ [V.ref e], upd_same, ?_, fun c o z => ?_⟩
    · have htk : (ds.take (i + 1)).map (fun x => entK x.d.key x.d.lots) = (ds.take i).map (fun x => entK x.d.key x.d.lots) ++ [entK x.d.key x.d.lots] := by
        rw [List.take_succ_eq_append_getElem hil, List.map_append, (List.getElem?_eq_some_iff.mp hx).2]
        rfl
      rw [htk]
      have n1 : NestL (upd (upd H1 t2 (.tup (ts.map V.ref))) e (.tup [.ref x.d.va, .ref t2])) (x.d.lots.map pairK) (ts.map V.ref) := nestPairs (by rw [htl]; exact (List.length_map ..).symm) fun j t q a c => by
        unfold DR.lots at c
        obtain ⟨w, hw, rfl⟩ := Option.map_eq_some_iff.mp ((List.getElem?_map ..).symm.trans c)
        exact (hpt j t w a hw).tk (TK.same s2)
      have n2 : Nest (upd (upd H1 t2 (.tup (ts.map V.ref))) e (.tup [.ref x.d.va, .ref t2])) (entK x.d.key x.d.lots) (.ref e) := .tup upd_same (.cons (X.d.hv.keep (TK.same s2)) (.cons (.tup (same_upd he _ _ upd_same) n1) .nil))
      exact ((nus.keep (TK.same s2)).keep tk).snoc (n2.keep tk)
    · rw [upd_ne (ne_of_none z hD)]
      exact s2 _ _ (s1 _ _ z)
  · rintro H1 ⟨us, hus, nus, s1⟩
    rw [List.length_map, List.take_length] at nus
    have h1 := h.same s1
    have due1 : DueAt H1 D ds := ⟨us, hus, nus⟩
    have el1 := s1 _ _ hel
    have rw1 : ∀ r ∈ rws, RowOk K C H1 r ∧ H1 r.la = some (.lst (r.as.map V.ref)) := fun r hr => ⟨(hrw r hr).1.ext s1, s1 _ _ (hrw r hr).2⟩
    refine ⟨_, rfl, rfl, _, rfl, iteF ?_⟩
    refine ⟨_, rfl, _, rfl, el, rws, rfl, SqL.of el1, rw1, by omega, fun D2 H2 s2 hD2 dp2 => ?_⟩
    have hsh : SeqAt.shaped (keptD rws) = true := shapedKept fun r hr => ⟨(rw1 r hr).1.sv, by
      have h8 := (rw1 r hr).1.dv
      have h9 := depth_data r.key
      omega⟩
    refine ⟨_, _, dp_same s2 (dp_same s1 hk), dp2, hsh, hsh, ?_⟩
    rw [refl_shaped hsh]
    refine ⟨_, rfl, iteF ?_⟩
    have h2 := h1.same s2
    refine ⟨_, rfl, pl, xs, rfl, h2.pa, by omega, fun x hx => Nat.le_trans (h.lots x hx) (by decide), fun r us3 H3 s3 hr3 hus3 nus3 => ?_⟩
    have h3 := h2.same s3
    have due3 := (due1.same s2).same s3
    obtain ⟨us4, e4, n4⟩ := due3
    rw [lots_keys h.pr] at nus3
    refine ⟨_, rfl, .ref r, .ref D, rfl, sd_list (n := 12) h3.okk (by rw [List.length_map]; omega) hus3 e4 nus3 n4, _, rfl, iteF ?_⟩
    have s13 : Same H1 H3 := s2.trans s3
    have hins : ∀ r ∈ rws, H3 r.e = some (.tup [.ref r.va, .ref r.la]) ∧ InsL H3 r.la 20 := fun r hr => by
      obtain ⟨R, hla⟩ := rw1 r hr
      refine ⟨s13 _ _ R.he, ?_⟩
      obtain ⟨j, hj⟩ := List.getElem?_of_mem hr
      have hj2 : j < ds.length := by
        have := (List.getElem?_eq_some_iff.mp hj).1
        omega
      have hx := List.getElem?_eq_getElem hj2
      obtain ⟨_, e5, e6⟩ := paired_both prw hx hj
      have hg := h.good _ (List.getElem_mem hj2)
      rw [← e5, ← e6] at hg
      have hln := (h.ok _ (List.getElem_mem hj2)).ln
      obtain ⟨a0, ys, D0, dx0, fs0, q1, q2, q3⟩ := ins_lots (R.ext s13) (s13 _ _ hla) hg
      refine ⟨a0, ys, D0, dx0, fs0, q1, ?_, q3⟩
      have q4 := s13 _ _ hla
      rw [q4] at q1
      injection q1 with q1
      injection q1 with q1
      have q5 := congrArg List.length q1
      rw [List.length_map, R.lt.len, e5, List.length_cons] at q5
      omega
    exact rest _ p rl el pl D b ds rws xs h3 ⟨us4, e4, n4⟩ (s13 _ _ el1) hins (by omega) e1 e2 (ne_of_none hel hD)
end
end K0

set_option Elab.async false
set_option linter.all false
set_option maxRecDepth 100000
set_option maxHeartbeats 4000000
namespace K0
open PySem PySem.Spec PyProof.Rows L2 Kx Kh Kd
structure TxE11 (K : PySem.W.Frag) (mg : Str → Option Value) (BP LE c1 c2 c3 c4 c5 c6 : Addr) : Prop where
  EC : ExcC K BP
  nB : PySem.W.findIn K (.ref BP) "at" = some none
  gLE : mg "LossError" = some (.ref LE)
  te : PySem.W.exmOne K (.ref BP) (.ref LE) = some true
  gB : mg "BadPlan" = some (.ref BP)
  g1 : mg "BadPaper" = some (.ref c1)
  g2 : mg "BadRatio" = some (.ref c2)
  g3 : mg "BadText" = some (.ref c3)
  g4 : mg "NoPlan" = some (.ref c4)
  g5 : mg "NoShare" = some (.ref c5)
  g6 : mg "TooLarge" = some (.ref c6)
  k1 : PySem.W.kitOne K (.ref BP) (.ref c1) = some false
  k2 : PySem.W.kitOne K (.ref BP) (.ref c2) = some false
  k3 : PySem.W.kitOne K (.ref BP) (.ref c3) = some false
  k4 : PySem.W.kitOne K (.ref BP) (.ref c4) = some false
  k5 : PySem.W.kitOne K (.ref BP) (.ref c5) = some false
  k6 : PySem.W.kitOne K (.ref BP) (.ref c6) = some false
theorem op_neDK {X : Cx} {K : PySem.W.Frag} (h : X.K = K) (hu : X.A.units + 64 < cLine) : OpR X (compareOp .NotEq) (rNeD K) := by
  subst h
  exact op_neD hu
theorem paired_comp {α β γ : Type} {R : α → β → Prop} {S : β → γ → Prop} {T : α → γ → Prop} (h : ∀ a b c, R a b → S b c → T a c) : ∀ {xs : List α} {ys : List β} {zs : List γ}, Paired R xs ys → Paired S ys zs → Paired T xs zs
  | [], [], [], .nil, .nil => .nil
  | _ :: _, _ :: _, _ :: _, .cons a r, .cons b s => .cons (h _ _ _ a b) (paired_comp h r s)
/-- what stands when the entries are made -/
structure BI (K : PySem.W.Frag) (C : Addr) (H : Hp) (p rl el kl : Addr) (b : Int) (ds : List RR) (rws : List Row) : Prop where
  pool : PoolAt H p b
  hl : H rl = some (.lst (ds.map fun x => V.ref x.e))
  np : rl ≠ p
  ok : ∀ x ∈ ds, RROk H p rl x
  few : ds.length ≤ 10
  hel : H el = some (.lst (rws.map fun r => V.ref r.e))
  rw : ∀ r ∈ rws, RowOk K C H r ∧ H r.la = some (.lst (r.as.map V.ref))
  pr : Paired RowRel ds rws
  e1 : el ≠ rl
  e2 : ∀ x ∈ ds, el ≠ x.d.l
  hk : Dp K H (.ref kl) (keptD rws)
section
variable {P : Program} {w : World} {K : PySem.W.Frag} {mg : Str → Option Value} {base : Heap} {C BR CP BP LE c1 c2 c3 c4 c5 c6 : Addr} {F : LF}
variable {f : Addr} {cdv : Value} {A : Around} {outer : List Env} {s : Shared} {H : Hp} {E : XK}
theorem BI.same {H H' : Hp} {p rl el kl : Addr} {b : Int} {ds : List RR} {rws : List Row} (h : BI K C H p rl el kl b ds rws) (s : Same H H') : BI K C H' p rl el kl b ds rws :=
  ⟨h.pool.same s, s _ _ h.hl, h.np, fun x hx => (h.ok x hx).same s, h.few, s _ _ h.hel, fun r hr => ⟨(h.rw r hr).1.ext s, s _ _ (h.rw r hr).2⟩, h.pr, h.e1, h.e2, dp_same s h.hk⟩
theorem BI.bad {H : Hp} {p rl el kl : Addr} {b : Int} {ds : List RR} {rws : List Row} (h : BI K C H p rl el kl b ds rws) : badFrom [] 0 (ds.map RR.row) = badFrom [] 0 rws := by
  refine badFrom_congr [] 0 (paired_of (by rw [List.length_map, h.pr.length]) fun j r r' h1 h2 => ?_)
  obtain ⟨x, hx, rfl⟩ := Option.map_eq_some_iff.mp ((List.getElem?_map ..).symm.trans h1)
  obtain ⟨a, b, c⟩ := paired_both h.pr hx h2
  exact ⟨a.symm, b.symm, c.symm⟩
theorem tail6 {Q : VK} (B : LB P w K mg base C BR CP BP F) (TE : TxE11 K mg BP LE c1 c2 c3 c4 c5 c6) (hr : Room 27 (lawX P w K mg base f cdv A outer s H E).A) (q : ∀ H', Q (.bl true) H') :
    ∃ t, PSs (lawX P w K mg base f cdv A outer s H E) ((defBody sLaw).drop 6) t ∧ ∀ {v0 v4 v5 v6 v7 v8 v9 : Option V} (H' : Hp) (p rl el kl : Addr) (b : Int) (ds : List RR) (rws : List Row), BI K C H' p rl el kl b ds rws →
      t (DL Q) [v0, some (.ref p), some (.ref rl), some (oV (badFrom [] 0 (ds.map RR.row))), v4, v5, v6, v7, v8, v9, some (.ref el), some (.ref kl), none, none, none, none, none, none, none, none, none, none, none, none, none] H' := by
  obtain ⟨t, ht, rest⟩ := tail7 (E := E) (H := H) B hr q
  have hr1 : Room 1 _ := hr.mono (by decide)
  have hr6 : Room 6 _ := hr.mono (by decide)
  have hu64 : (lawX P w K mg base f cdv A outer s H E).A.units + 64 < cLine := by have := hr.un; omega
  have HZ : ∀ {cls : Value} {d : Option Addr} {oe : Obj}, L2N.Zn cls d oe → Zc cls d oe := fun hz => ⟨hz.1, hz.2.1⟩
  have HOT : ∀ {a : Addr} {cls : Value} {d : Option Addr} {oe : Obj} {pn : List (Addr × Obj)}, L2N.Zn cls d oe → (∃ vs, oe.data = .fields vs) → L2H.HotC ((lawX P w K mg base f cdv A outer s H E).suite a ((a, oe) :: pn)) := fun {a cls d oe pn} hz hf => ⟨(a, oe), ⟨rfl, by obtain ⟨vs, e⟩ := hf; exact ⟨vs, e, hz.2.2 vs e⟩⟩, List.mem_cons_self ..⟩
  refine ⟨_, pss_cons (L2N.ps_try_as (i := 13) (Wout := fun _ _ _ _ => False) rfl rfl scLa.nd rfl rfl ⟨rfl, by decide, Or.inl TE.gLE⟩ takes0N
        (fun W pn xe tk _ => pss_one (ps_set (i := 12) scLa.nd rfl (Or.inl rfl) (pe_makeS B.MI B.GI hr6 (by rfl) B.TP.mgP B.bI (fun σ => L2N.passAt tk σ) (pa_cons (pv 10) pa_nil))))
        (fun a oe cls d pn hz hf => pss_cons (ps_if (PW.pt (pw_or (pt_val (pe_callB (call_errT (f := "at") TE.EC (HZ hz) hf) (by rfl) B.TL.isi (by decide +kernel) (pa_cons (pv 13) (pa_cons (pe_tup (pa_cons (pe_glob (v := .ref c1) rfl TE.g1 rfl) (pa_cons (pe_glob (v := .ref c2) rfl TE.g2 rfl) (pa_cons (pe_glob (v := .ref c3) rfl TE.g3 rfl)
              (pa_cons (pe_glob (v := .ref c4) rfl TE.g4 rfl) (pa_cons (pe_glob (v := .ref c5) rfl TE.g5 rfl) (pa_cons (pe_glob (v := .ref c6) rfl TE.g6 rfl) pa_nil))))))) pa_nil))))
            (pw_or (pt_not (pt_val (pe_callB (call_err1 (f := "at") TE.EC (HZ hz) hf) (by rfl) B.TL.isi (by decide +kernel) (pa_cons (pv 13) (pa_cons (pe_glob (v := .ref BP) rfl TE.gB rfl) pa_nil)))))
            (pw_or1 (pt_cmpR (op_neDK (K := K) (by rfl) (by exact hu64)) (pv 11) (L2H.pe_callH (E := fun _ => E0) B.KH ⟨hr1.dp, hr1.un⟩ (HOT hz hf) (by rfl) B.KP.gl B.KP.kp B.KP.bd (fun σ _ _ _ _ _ _ z => z.elim) (pa_cons (pv 10) pa_nil)) (nomark _))))))
            (pss_one (ps_ret pe_bl)) pss_nil)
          (pss_one (ps_ret (pe_and (pe_cmpR op_notN (pv 3) pe_non (nomark _)) (pe_one (pe_callW (E := fun _ => E0) B.SH ⟨hr1.dp, hr1.un⟩ ⟨_, List.mem_cons_self ..⟩ (by rfl) B.S1.gl B.S1.kp B.S1.bd (fun σ _ _ _ _ _ _ z => z.elim) (pa_cons (pe_errF TE.EC TE.nB (HZ hz) hf (pv 13)) (pa_cons (pv 3) pa_nil)))))))))
    ht, ?_⟩
  intro v0 v4 v5 v6 v7 v8 v9 H' p rl el kl b ds rws h
  have hfew := h.few
  have hrl := h.pr.length
  refine ⟨_, rfl, fun x dx nx ndx nex => ?_⟩
  have sp : Same H' (upd (upd H' dx (.own x)) x (.ins CP dx [])) := fun b o z => by
    rw [upd_ne (ne_of_none z nx), upd_ne (ne_of_none z ndx)]
    exact z
  have h1 := h.same sp
  refine ⟨x, dx, el, rws, rfl, upd_same, h1.hel, fun r hr => (h1.rw r hr).1, by omega, fun n hb d H2 keep hd => ?_, fun hb H2 xs PA pr PL keep => ⟨rfl, ?_⟩⟩
  · refine ⟨true, TE.te, fun _ a ha => ?_, fun z => nomatch z⟩
    have s2 : Same H' H2 := Same.made nx ndx keep
    have h2 := h.same s2
    have kt : PySem.W.kitAny K (.ref BP) [.ref c1, .ref c2, .ref c3, .ref c4, .ref c5, .ref c6] = some false := by
      simp only [PySem.W.kitAny, TE.k1, TE.k2, TE.k3, TE.k4, TE.k5, TE.k6]
    rw [h.bad, hb]
    refine ⟨_, rfl, (by show 6 ≤ sizeLine; decide), fun tp htp => ⟨d, .int (n : Int), tp, _, [.ref c1, .ref c2, .ref c3, .ref c4, .ref c5, .ref c6], false, rfl, rfl, same_upd htp _ _ hd, rfl, upd_same, .cons (.own _) (.cons (.own _) (.cons (.own _) (.cons (.own _) (.cons (.own _) (.cons (.own _) .nil))))), kt, _, rfl, iteF ?_⟩⟩
    have h3 := h2.same (same_upd (o := .tup [.ref c1, .ref c2, .ref c3, .ref c4, .ref c5, .ref c6]) htp)
    have hd3 := same_upd (o := .tup [.ref c1, .ref c2, .ref c3, .ref c4, .ref c5, .ref c6]) htp _ _ hd
    refine ⟨_, rfl, d, .int (n : Int), .ref BP, .ref BP, true, rfl, rfl, hd3, rfl, fun u r => r, kit_same, _, rfl, iteF ?_⟩
    refine ⟨_, rfl, _, rfl, el, rws, rfl, SqL.of h3.hel, h3.rw, by omega, fun D2 H4 s4 hD2 dp2 => ?_⟩
    have hsh : SeqAt.shaped (keptD rws) = true := shapedKept fun r hr => ⟨(h3.rw r hr).1.sv, by
      have h8 := (h3.rw r hr).1.dv
      have h9 := depth_data r.key
      omega⟩
    refine ⟨_, _, dp_same s4 h3.hk, dp2, hsh, hsh, ?_⟩
    rw [refl_shaped hsh]
    refine ⟨_, rfl, iteF ?_⟩
    refine ⟨_, rfl, rfl, _, rfl, iteT ⟨_, rfl, d, .int (n : Int), rfl, rfl, rfl, s4 _ _ hd3, _, rfl, _, _, rfl, .flat 0 (.int _), ?_⟩⟩
    exact q _
  · have s2 : Same H' H2 := Same.made nx ndx keep
    have h2 := h.same s2
    have hb2 : badFrom [] 0 (ds.map RR.row) = none := h.bad.trans hb
    obtain ⟨g1, g2⟩ := badFrom_good _ _ _ hb2
    rw [hb2]
    refine rest H2 p rl el kl x b ds rws xs ⟨h2.pool, h2.hl, h2.np, h2.ok, fun y hy => ?_, ?_, PA, paired_comp (fun a r e r1 r2 => ⟨r2.1.trans r1.1, ?_⟩) h.pr pr, h.few⟩ h2.hel h2.rw h.pr h.e1 h.e2 h2.hk
    · exact g1 (RR.row y) (List.mem_map.mpr ⟨y, hy, rfl⟩)
    · have g3 := g2 List.nodup_nil
      rw [List.nil_append, List.map_map] at g3
      exact g3
    · rw [r2.2.2.1]
      unfold Row.lots DR.lots
      rw [r1.2.1, r1.2.2]
end
end K0

set_option Elab.async false
set_option linter.all false
set_option maxRecDepth 100000
set_option maxHeartbeats 4000000
namespace K0
open PySem PySem.Spec PyProof.Rows L2 Kx Kh Kd
section
variable {P : Program} {w : World} {K : PySem.W.Frag} {mg : Str → Option Value} {base : Heap} {C BR CP BP LE c1 c2 c3 c4 c5 c6 : Addr} {F : LF}
variable {f : Addr} {cdv : Value} {A : Around} {outer : List Env} {s : Shared} {H : Hp} {E : XK}
theorem tail4 {Q : VK} (B : LB P w K mg base C BR CP BP F) (TE : TxE11 K mg BP LE c1 c2 c3 c4 c5 c6) (hr : Room 27 (lawX P w K mg base f cdv A outer s H E).A) (q : ∀ H', Q (.bl true) H') :
    ∃ t, PSs (lawX P w K mg base f cdv A outer s H E) ((defBody sLaw).drop 4) t ∧ ∀ {v0 v4 v5 v6 v7 v8 : Option V} (H0 H' : Hp) (p rl : Addr) (b : Int) (ds : List RR), LR H0 H' p rl b ds → rl ≠ p → ds.length ≤ 10 →
      t (DL Q) (st v0 (some (.ref p)) (some (.ref rl)) (some (oV (badFrom [] 0 (ds.map RR.row)))) v4 v5 v6 v7 v8) H' := by
  obtain ⟨t, ht, rest⟩ := tail6 (E := E) (H := H) B TE hr q
  have hr1 : Room 1 _ := hr.mono (by decide)
  have hr2 : Room 2 _ := hr.mono (by decide)
  refine ⟨_, pss_cons (ps_setLc (i := 10) (own := [("view", 5), ("lots", 9)]) (g := gTup K 2 (gCons (gName 5) (gCons (gName 9) gNil))) (tt := tYes) (te := tTup (tCons (tVar 5) (tCons (tLc (iList K (tVar 9)) (gTup K 2 (gCons (gName 23) (gCons (gName 24) gNil))) tYes (tMake C (spInit C BR) [] E0 (tCons (tVar 23) (tCons (tVar 24) tNil))) [23, 24]) tNil))) rfl scLa.nd rfl rfl (sw_true rfl rfl rfl (by decide +kernel)) (pi_list (pv 2)) (blkOk_by (N := NL) (sc := defScope sLaw) (by decide +kernel))
      (fun _ _ _ _ _ => pg_tup rfl (pgs_cons (pg_name (i := 5) scLa.nd rfl (Or.inl rfl)) (pgs_cons (pg_name (i := 9) scLa.nd rfl (Or.inl rfl)) pgs_nil))) (fun _ _ _ _ _ => pts_nil)
      (fun _ _ _ _ _ => pe_tup (pa_cons (pv 5) (pa_cons (pe_lc (own := [("num", 23), ("den", 24)]) (g := gTup K 2 (gCons (gName 23) (gCons (gName 24) gNil))) (tt := tYes) (wi := iList K (tVar 9)) (te := tMake C (spInit C BR) [] E0 (tCons (tVar 23) (tCons (tVar 24) tNil))) rfl scLa.nd (pi_listK (by rfl) (pv 9)) (blkOk_by (N := NL) (sc := relS { kind := .function, names := [((".0" : Str), .local), ("view", .local), ("lots", .local)], isGenerator := false, isCoroutine := false } (defScope sLaw)) (by decide +kernel))
        (fun _ _ _ _ _ => pg_tup rfl (pgs_cons (pg_name (i := 23) scLa.nd rfl (Or.inl rfl)) (pgs_cons (pg_name (i := 24) scLa.nd rfl (Or.inl rfl)) pgs_nil))) (fun _ _ _ _ _ => pts_nil)
        (fun _ _ _ _ _ => pe_make B.MR B.GR hr2 rfl B.T.mgC B.bR .nil passL (pa_cons (pv 23) (pa_cons (pv 24) pa_nil)))) pa_nil))))
    (pss_cons (ps_set (i := 11) scLa.nd rfl (Or.inl rfl) (pe_call B.KP.ok hr1 (by rfl) B.KP.gl B.KP.kp B.KP.bd .nil pass0 (pa_cons (pv 10) pa_nil))) ht), ?_⟩
  intro v0 v4 v5 v6 v7 v8 H0 H' p rl b ds L hnp hfew
  have hl := L.ls.hl
  refine ⟨_, rfl, rl, rfl, ⟨_, SqL.of hl⟩, fun D hD => ?_⟩
  refine lc_list (xs := ds.map fun x => V.ref x.e) (fun i H1 => ∃ rws : List Row, rws.length = i ∧ H1 D = some (.lst (rws.map fun r => V.ref r.e)) ∧ (∀ r ∈ rws, (RowOk K C H1 r ∧ H1 r.la = some (.lst (r.as.map V.ref))) ∧ r.la ≠ D) ∧ (∀ (j : Nat) r x, rws[j]? = some r → ds[j]? = some x → RowRel x r) ∧ Same H' H1) ⟨[], rfl, upd_same, (fun r hr => nomatch hr), (fun j r x z => by simp at z), same_upd hD⟩ (fun i H1 _ ⟨_, _, _, _, _, s1⟩ => SqL.of (s1 _ _ hl)) ?_ ?_
  · rintro i y H1 hy ⟨rws, hlen, eD, hrw, rel, s1⟩
    obtain ⟨x, hx, rfl⟩ := Option.map_eq_some_iff.mp ((List.getElem?_map ..).symm.trans hy)
    have hil : i < ds.length := (List.getElem?_eq_some_iff.mp hx).1
    have X1 := (L.ok x (List.mem_of_getElem? hx)).same s1
    obtain ⟨ts, hts, htl, hpt⟩ := X1.d.pr.at_
    have hlt : ts.length = (x.d.ws.map fun w => (rn w x.d.W, rd w x.d.W)).length := by rw [htl, List.length_map]
    refine ⟨x.e, _, rfl, SqT.of X1.he, rfl, _, _, rfl, _, _, rfl, rfl, rfl, tYesI ⟨_, rfl, _, rfl, x.d.l, rfl, ⟨_, SqL.of hts⟩, fun D2 hD2 => ?_⟩⟩
    refine lc_rats (ts := ts) (prs := x.d.ws.map fun w => (rn w x.d.W, rd w x.d.W)) (by rw [← hlt]; have w := walk_list (K := K) (a := x.d.l) (xs := ts.map V.ref); rw [List.length_map] at w; exact w) hlt (by rw [List.length_map]; have := X1.ln; omega) (fun j t q h1 h2 => ?_) (fun q hq => ?_) (by decide) (by show 23 < 25; decide) (by show 24 < 25; decide) hD2 (fun H2 s2 => SqL.of (s2 _ _ hts)) fun as H3 hal eD2 hR s3 => ?_
    · obtain ⟨w, hw, rfl⟩ := Option.map_eq_some_iff.mp ((List.getElem?_map ..).symm.trans h2)
      exact hpt j t w h1 hw
    · obtain ⟨w, hw, rfl⟩ := List.mem_map.mp hq
      exact bd_rd X1.d.pr.pos X1.d.pr.big
    · refine ⟨by show 2 ≤ sizeLine; decide, fun e2 he2 => ?_⟩
      have L3 := lots_of (X1.d.pr.same s3) hal hR
      have s4 : Same H1 (upd H3 e2 (.tup [.ref x.d.va, .ref D2])) := s3.trans (same_upd he2)
      have X4 := X1.same s4
      have eD4 := s4 _ _ eD
      have hDD : D2 ≠ D := fun e => by rw [e, eD] at hD2; cases hD2
      have kD : ∀ b o, upd H3 e2 (.tup [.ref x.d.va, .ref D2]) b = some o → b ≠ D → upd (upd H3 e2 (.tup [.ref x.d.va, .ref D2])) D (.lst (rws.map (fun r => V.ref r.e) ++ [V.ref e2])) b = some o := fun b o z hb => by rw [upd_ne hb]; exact z
      have hla : upd H3 e2 (.tup [.ref x.d.va, .ref D2]) D2 = some (.lst (as.map V.ref)) := by rw [upd_ne (ne_of_none eD2 he2)]; exact eD2
      have R4 : RowOk K C (upd H3 e2 (.tup [.ref x.d.va, .ref D2])) ⟨e2, x.d.va, x.d.key, D2, as, x.d.ws, x.d.W⟩ := ⟨upd_same, X4.d.hv, X4.d.sv, X4.d.dv, .inl hla, L3.same (same_upd he2)⟩
      refine ⟨_, eD4, by rw [List.length_map, hlen]; exact Nat.lt_of_lt_of_le (show i < 1001 by omega) (by decide), rws ++ [⟨e2, x.d.va, x.d.key, D2, as, x.d.ws, x.d.W⟩], by rw [List.length_append, hlen]; rfl, by rw [upd_same, List.map_append]; rfl, fun r hr => ?_, fun j r y hj hy => ?_, fun b o z => ?_⟩
      · rcases List.mem_append.mp hr with hr | hr
        · obtain ⟨⟨a1, a2⟩, a3⟩ := hrw r hr
          exact ⟨⟨(a1.ext s4).keepD eD4 a3 kD, kD _ _ (s4 _ _ a2) a3⟩, a3⟩
        · rw [List.mem_singleton.mp hr]
          exact ⟨⟨R4.keepD eD4 hDD kD, kD _ _ hla hDD⟩, hDD⟩
      · rcases get_snoc hj with ⟨_, hj2⟩ | ⟨hj2, rfl⟩
        · exact rel j r y hj2 hy
        · rw [hj2, hlen, hx] at hy
          cases hy
          exact ⟨rfl, rfl, rfl⟩
      · rw [upd_ne (ne_of_none z hD)]
        exact s4 _ _ (s1 _ _ z)
  · rintro H1 ⟨rws, hlen, eD, hrw, rel, s1⟩
    rw [List.length_map] at hlen
    have L1 := L.same s1
    have hrw2 : ∀ r ∈ rws, RowOk K C H1 r ∧ H1 r.la = some (.lst (r.as.map V.ref)) := fun r hr => (hrw r hr).1
    refine ⟨_, rfl, D, rws, rfl, SqL.of eD, hrw2, by omega, fun kl H2 s2 hkl dk => ?_⟩
    have L2 := L1.same s2
    refine rest H2 p rl D kl b ds rws ⟨L2.ls.pool, L2.ls.hl, hnp, L2.ok, hfew, s2 _ _ eD, fun r hr => ⟨(hrw2 r hr).1.ext s2, s2 _ _ (hrw2 r hr).2⟩, paired_of hlen.symm fun j x r hx hr => rel j r x hr hx, (ne_of_none hl hD).symm, fun x hx => ?_, dk⟩
    obtain ⟨ts, hts, _⟩ := (L.ok x hx).d.pr.at_
    exact (ne_of_none hts hD).symm
def spLaw (K : PySem.W.Frag) : Sp := fun vs H Q _ => ∃ (a : Addr) (ns : List Int), vs = [.ref a] ∧ SqL K H a (ns.map V.int) ∧ ∀ H', Q (.bl true) H'
theorem ok_law {f : Addr} {fd : FuncData} (Fl : Fun K "law" "law" sLaw f fd) (B : LB P w K mg base C BR CP BP F) (TE : TxE11 K mg BP LE c1 c2 c3 c4 c5 c6) : FnOk P w K mg base CX0 28 f fd ["script"] (spLaw K) := by
  refine Fl.ok scLa (fun vs H Q E h => ?_) (fun cdv A outer s H vs Q E hr h => ?_)
  · obtain ⟨a, ns, rfl, _⟩ := h
    rfl
  · obtain ⟨a, ns, rfl, hS, q⟩ := h
    have hr1 : Room 1 _ := hr.mono (by decide)
    obtain ⟨t, ht, rest⟩ := tail4 (E := E) (H := H) B TE hr q
    obtain ⟨tl, htl, loop⟩ := loop1 (E := E) (H := H) (f := f) (cdv := cdv) (A := A) (outer := outer) (s := s) hr B.T B.TL B.TQ B.D1 B.RD B.WT
    refine ⟨_, pss_cons (ps_set (i := 1) scLa.nd rfl (Or.inl rfl) (pe_call B.PO.ok hr1 (by rfl) B.PO.gl B.PO.kp B.PO.bd .nil pass0 (pa_cons (pv 0) (pa_cons pe_int pa_nil))))
      (pss_cons (ps_set (i := 2) scLa.nd rfl (Or.inl rfl) (pe_lst pa_nil))
      (pss_cons (ps_set (i := 3) scLa.nd rfl (Or.inl rfl) pe_non)
      (pss_cons (ps_for PassesOwn.never rfl (pi_range1 rfl B.TL.range (pa_cons (pe_call B.D1.ok hr1 (by rfl) B.D1.gl B.D1.kp B.D1.bd .nil pass0 (pa_cons (pv 1) (pa_cons pe_int pa_nil))) pa_nil)) (pg_name (i := 4) scLa.nd rfl (Or.inl rfl)) htl) ht))), ?_⟩
    refine ⟨_, rfl, a, ns, 0, rfl, hS, fun p H1 s1 np P1 => ⟨Nat.zero_le _, fun rl hrl => ?_⟩⟩
    have hrp : rl ≠ p := P1.ne0 hrl
    have L0 : LR H1 (upd H1 rl (.lst [])) p rl 0 [] := ⟨LS.ini P1 hrl, fun x hx => nomatch hx⟩
    refine ⟨_, rfl, p, 7, 0, rfl, L0.ls.pool, by decide, by decide, fun n H2 n0 n1 P2 k2 => ?_⟩
    have L2 := L0.draw hrp P2 k2
    refine ⟨n, rfl, by omega, by omega, for_range (lo := 0) (n := n.toNat) (fun i σ H' => (∃ ds v4 v5 v6 v7 v8, σ = st (some (.ref a)) (some (.ref p)) (some (.ref rl)) (some (oV (badFrom [] 0 (ds.map RR.row)))) v4 v5 v6 v7 v8 ∧ ds.length = i ∧ LR H1 H' p rl 0 ds))
      ⟨[], none, none, none, none, none, rfl, rfl, L2⟩ ?_ ?_⟩
    · rintro i σ H3 hi ⟨ds, v4, v5, v6, v7, v8, rfl, hl, L3⟩
      refine loop _ H1 H3 p rl 0 ds _ _ _ _ _ (badFrom [] 0 (ds.map RR.row)) i P1 hrl L3 (by omega) fun H4 x w5 w6 w7 w8 L4 => ?_
      refine ⟨ds ++ [x], some (.int (0 + (i : Int))), w5, w6, w7, w8, ?_, by rw [List.length_append, hl]; rfl, L4⟩
      have e : badFrom [] 0 ((ds ++ [x]).map RR.row) = (badFrom [] 0 (ds.map RR.row)).or (if rowBad (ds.map fun x => x.d.key) x.row = true then some i else none) := by
        rw [List.map_append, List.map_singleton, badFrom_snoc, List.nil_append, List.length_map, Nat.zero_add, hl, List.map_map]
        rfl
      rw [e]
    · rintro σ H3 ⟨ds, v4, v5, v6, v7, v8, rfl, hl, L3⟩
      exact rest H1 H3 p rl 0 ds L3 hrp (by omega)
end
end K0

set_option Elab.async false
set_option linter.all false
set_option maxRecDepth 100000
set_option maxHeartbeats 4000000
/-! A head by facts, for any law of this program: which names stand, which classes, which tables. -/
namespace Hk
open PySem PySem.Spec PyProof.Rows L2
/-! ### the addresses that the module's names reach, each once (a bit an address) -/
def take1 (p : Nat × List Addr) (a : Addr) : Nat × List Addr := match Nat.testBit p.1 a with
  | true => p
  | false => (Nat.lor p.1 (Nat.shiftLeft 1 a), a :: p.2)
def wave (g : Addr → Option Obj) (mask : Nat) (front : List Addr) : Nat × List Addr :=
  front.foldl (fun p a => match g a with
    | some o => (He.refsD o).foldl take1 p
    | none => p) (mask, [])
def reach (g : Addr → Option Obj) : Nat → Nat → List Addr → List Addr → List Addr
  | 0, _, _, all => all
  | n + 1, mask, front, all => match wave g mask front with
    | (m2, new) => reach g n m2 new (new ++ all)
def roots : List Addr := [mainGlobals, PySem.cStatics]
def asK (g : Addr → Option Obj) (n : Nat) : List Addr := match roots.foldl take1 (0, []) with
  | (m, l) => reach g n m l l
/-! ### facts by names -/
inductive Fk where
  | glo (x : Str)
  | free (x : Str)
  | int (x : Str) (i : Int)
  | str (x z : Str)
  | texts (x : Str) (zs : List Str)
  | cls (x : Str)
  | noat (x f : Str)
  | meth (x m : Str)
  | mkr (x : Str)
  | keep (x : Str)
  | si (x : Str)
  | own (x : Str)
  | base (x : Str)
  | fn (x m : Str)
  | exm (x y : Str) (b : Bool)
  | kit (x y : Str) (b : Bool)
  | err (x : Str)
  | bltn (x : Str) (b : String)
  | exc (x : Str)
  | isf (x m : Str)
  | sfi (x : Str)
  deriving DecidableEq
def oexB (K : PySem.W.Frag) (C : Addr) : Bool := match K.lookup C with
  | some ⟨.type t, _, .cls ⟨_, _, .ref C' :: bm, _, _, hd, _, _, _, _, del⟩, sl⟩ => (match sl.toList with
    | [_, _, _, _, some (.builtin n), _] => decide (t = "type") && (decide (C' = C) && (PySem.HandSPX.refsVE bm && (hd && (!del && decide (n = "ValueError.__new__")))))
    | _ => false)
  | _ => false
def valB (c : Option PySem.W.CFound) (v : Value) : Bool := match c with
  | some (.val u) => decide (u = v)
  | _ => false
def Fk.ok (K : PySem.W.Frag) : Fk → Bool
  | .glo x => (He.Fa.glo x).ok K
  | .free x => (He.Fa.free x).ok K
  | .int x i => (He.Fa.int x i).ok K
  | .str x z => (He.Fa.str x z).ok K
  | .texts x zs => (He.Fa.glo x).ok K && He.tupB K x (zs.map He.Dv.str)
  | .cls x => (He.Fa.cls x).ok K
  | .noat x f => (He.Fa.noat x f).ok K
  | .meth x m => (He.Fa.meth x m).ok K
  | .mkr x => (He.Fa.mkr x).ok K
  | .keep x => (He.Fa.keep x).ok K
  | .si x => He.eqO (PySem.W.findIn K (.ref (He.ga K x)) "__class__") (some (some (.builtin "object.__class__"))) && (He.eqO (PySem.W.specialIn K (.builtin "object.__class__") "__get__") (some (some (.builtin "getset_descriptor.__get__"))) && (decide (PySem.W.takesIn K (.builtin "object.__class__") = some true) && decide (PySem.W.mroIn K (He.ga K x) (.type "object") = some true)))
  | .own x => oexB K (He.ga K x) && (He.eqO (PySem.W.findIn K (.ref (He.ga K x)) "__setattr__") (some (some (.builtin "object.__setattr__"))) && (decide (PySem.W.subIn K (.ref (He.ga K x)) (.type "BaseException") = some true) && (decide (PySem.W.typeIn K (.ref (He.ga K x)) = some (.type "type")) && PySem.W.keepIn K (.ref (He.ga K x)))))
  | .base x => He.eqO (PySem.W.specialIn K (.ref (He.ga K x)) "__getattribute__") (some (some (.builtin "type.__getattribute__"))) && (PySem.W.readsIn K (He.ga K x) (.type "type") && valB (PySem.W.findCls K (.ref (He.ga K x)) (.type "type") "__init__") (.builtin "ValueError.__init__"))
  | .fn x m => He.eqO (PySem.W.findIn K (.ref (He.ga K x)) m) (some (some (.ref (He.ma K (He.ga K x) m)))) && decide (PySem.W.typeIn K (.ref (He.ma K (He.ga K x) m)) = some (.type "function"))
  | .exm x y b => decide (PySem.W.exmOne K (.ref (He.ga K x)) (.ref (He.ga K y)) = some b)
  | .kit x y b => decide (PySem.W.kitOne K (.ref (He.ga K x)) (.ref (He.ga K y)) = some b)
  | .err x => He.eqO (PySem.W.findIn K (.ref (He.ga K x)) "__getattribute__") (some (some (.builtin "BaseException.__getattribute__"))) && (He.eqO (PySem.W.findIn K (.ref (He.ga K x)) "__getattr__") (some none) && (decide (PySem.W.subIn K (.ref (He.ga K x)) (.type "BaseException") = some true) && (PySem.W.hasDictIn K (He.ga K x) && (He.eqO (PySem.W.findIn K (.ref (He.ga K x)) "__class__") (some (some (.builtin "object.__class__"))) && (He.eqO (PySem.W.specialIn K (.builtin "object.__class__") "__get__") (some (some (.builtin "getset_descriptor.__get__"))) && (decide (PySem.W.takesIn K (.builtin "object.__class__") = some true) && decide (PySem.W.mroIn K (He.ga K x) (.type "object") = some true)))))))
  | .bltn x b => He.eqO (PySem.W.nsIn K mainGlobals x) (some (some (.builtin b)))
  | .exc x => PySem.W.excIn K (He.ga K x) [.type "ValueError", .type "Exception", .type "BaseException", .type "object"] "ValueError.__new__" && (PySem.W.keepIn K (.ref (He.ga K x)) && (decide (PySem.W.subIn K (.ref (He.ga K x)) (.type "BaseException") = some true) && decide (PySem.W.typeIn K (.ref (He.ga K x)) = some (.type "type"))))
  | .isf x m => He.eqO (PySem.W.findIn K (.ref (He.ga K x)) m) (some (some (.ref (He.ma K (He.ga K x) m)))) && PySem.W.isFn K (.ref (He.ma K (He.ga K x) m))
  | .sfi x => PySem.W.selfFirst K (He.ga K x)
theorem oex_ok {K : PySem.W.Frag} {C : Addr} (h : oexB K C = true) : ∃ nm q N bs bm sn sub ab col dd k0 k1 k2 k3 k5, K.lookup C = some (excClassObj nm q C N bs bm true sn sub ab col dd k0 k1 k2 k3 k5 "ValueError.__new__") ∧ PySem.HandSPX.refsVE bm = true := by
  unfold oexB at h
  split at h
  · rename_i t dd nm bs C' bm ns q hd sn sub ab col del sl e
    split at h
    · rename_i k0 k1 k2 k3 n k5 hs
      simp only [Bool.and_eq_true, decide_eq_true_eq, Bool.not_eq_true'] at h
      obtain ⟨rfl, rfl, h1, rfl, rfl, rfl⟩ := h
      refine ⟨nm, q, ns, bs, bm, sn, sub, ab, col, dd, k0, k1, k2, k3, k5, ?_, h1⟩
      rw [e]
      have : sl = #[k0, k1, k2, k3, some (.builtin "ValueError.__new__"), k5] := by
        apply Array.ext'
        rw [hs]
      rw [this]
    · cases h
  · cases h
theorem val_ok {c : Option PySem.W.CFound} {v : Value} (h : valB c v = true) : c = some (.val v) := by
  unfold valB at h
  split at h
  · rw [of_decide_eq_true h]
  · cases h
/-! ### the Hook -/
def obsF (fa : List Fk) (fn : List He.DefD) (K : PySem.W.Frag) : He.AlD := ((fa.all fun f => f.ok K) && fn.all fun d => d.ok K, fn.map fun d => He.fnW K d.at_)
def SaysF (fa : List Fk) (fn : List He.DefD) (K : PySem.W.Frag) : Prop := obsF fa fn K = He.valD fn
def obsFG (n : Nat) (fa : List Fk) (fn : List He.DefD) (g : Addr → Option Obj) : He.AlD := obsF fa fn (He.frG g (asK g n))
def hookF (n : Nat) (fa : List Fk) (fn : List He.DefD) : PySem.W.Hook where
  α := He.AlD
  obs := fun s => obsFG n fa fn s.heap.get?
  val := fun _ => He.valD fn
  says := fun _ h => ∃ K : PySem.W.Frag, K.In h ∧ SaysF fa fn K
  of := fun _ _ e => ⟨_, He.frG_in, e⟩
  keeps := fun _ _ _ ⟨K, hK, c⟩ k => ⟨K, PySem.W.Frag.In.keeps hK k, c⟩
theorem obsF_eq {n : Nat} {fa : List Fk} {fn : List He.DefD} {g : Addr → Option Obj} {s : Shared} (h : ∀ a, g a = s.heap.get? a) : obsFG n fa fn g = (hookF n fa fn).obs s := by
  have e : g = s.heap.get? := funext h
  rw [e] <;> rfl
section
variable {fa : List Fk} {fn : List He.DefD} {K : PySem.W.Frag} {h : Heap} {mg : Str → Option Value}
theorem SaysF.fact (c : SaysF fa fn K) (f : Fk) (m : f ∈ fa) : f.ok K = true := by
  have c1 := (He.ba (show ((fa.all fun f => f.ok K) && fn.all fun d => d.ok K) = true from congrArg (fun z : He.AlD => z.1) c)).1
  exact List.all_eq_true.mp c1 f m
theorem SaysF.def_ (c : SaysF fa fn K) (i : Nat) {d : He.DefD} (h : fn[i]? = some d := by rfl) : ∃ fd, FunD K d.name d.qual d.params d.body d.scope (d.dvs K) (d.kws K) (He.fAd K d.at_) fd := by
  have c2 := (He.ba (show ((fa.all fun f => f.ok K) && fn.all fun d => d.ok K) = true from congrArg (fun z : He.AlD => z.1) c)).2
  have e : fn.map (fun d => He.fnW K d.at_) = fn.map He.DefD.val := congrArg (fun z : He.AlD => z.2) c
  have e2 : (fn.map fun d => He.fnW K d.at_)[i]? = (fn.map He.DefD.val)[i]? := by rw [e]
  rw [List.getElem?_map, List.getElem?_map, h] at e2
  exact He.DefD.funD (Option.some.inj e2) (List.all_eq_true.mp c2 d (List.mem_of_getElem? h))
/-- a def without defaults -/
theorem fun_of {x qual : Str} {st : Stmt} {f : Addr} {fd : FuncData} (F : FunD K x qual (defArgs st) (defBody st) (defScope st) [] [] f fd) : Fun K x qual st f fd := by
  obtain ⟨oc, od, dV, kV, doc, pm, an, cdv, ct, osl, e, lk, hcd, hD, _⟩ := F.ex
  rcases hD with ⟨_, rfl⟩ | ⟨z, _⟩
  · exact ⟨⟨oc, od, kV, doc, pm, an, cdv, ct, osl, e, lk, hcd⟩, F.kp⟩
  · exact absurd rfl z
theorem glo_ok (X : K.In h) (G : h.Ns mainGlobals mg) {x : Str} (c : (Fk.glo x).ok K = true) : mg x = some (.ref (He.ga K x)) := He.glo_ok X G c
theorem free_ok (X : K.In h) (G : h.Ns mainGlobals mg) {x : Str} (c : (Fk.free x).ok K = true) : mg x = none := He.free_ok X G c
theorem int_ok (X : K.In h) (G : h.Ns mainGlobals mg) {x : Str} {i : Int} (c : (Fk.int x i).ok K = true) : ∃ t, mg x = some (.int i t) := He.int_ok X G c
theorem str_ok (X : K.In h) (G : h.Ns mainGlobals mg) {x z : Str} (c : (Fk.str x z).ok K = true) : ∃ t, mg x = some (.str z t) := He.str_ok X G c
theorem texts_ok (X : K.In h) (G : h.Ns mainGlobals mg) {x : Str} {zs : List Str} (c : (Fk.texts x zs).ok K = true) : ∃ a, mg x = some (.ref a) ∧ ∀ H, SqT K H a (zs.map V.str) := by
  obtain ⟨c1, c2⟩ := He.ba (show ((He.Fa.glo x).ok K && He.tupB K x (zs.map He.Dv.str)) = true from c)
  refine ⟨_, He.glo_ok X G c1, fun H => ?_⟩
  have := He.tupB_ok c2 H
  rw [List.map_map] at this
  exact this
theorem cls_ok {x : Str} (c : (Fk.cls x).ok K = true) : Cls K (He.ga K x) := He.cls_ok c
theorem noat_ok {x f : Str} (c : (Fk.noat x f).ok K = true) : NoAttr K (He.ga K x) f := He.noat_ok c
theorem meth_ok {x m : Str} (c : (Fk.meth x m).ok K = true) : Meth K (He.ga K x) m (He.ma K (He.ga K x) m) := He.meth_ok c
theorem mkr_ok {x : Str} (c : (Fk.mkr x).ok K = true) : Mk K (He.ga K x) (He.ma K (He.ga K x) "__init__") := He.mkr_ok c
theorem keep_ok {x : Str} (c : (Fk.keep x).ok K = true) : PySem.W.keepIn K (.ref (He.ga K x)) = true := He.keep_ok c
theorem si_ok {x : Str} (c : (Fk.si x).ok K = true) : SlX.SIsi K (He.ga K x) := by
  obtain ⟨c1, c⟩ := He.ba c
  obtain ⟨c2, c⟩ := He.ba c
  obtain ⟨c3, c4⟩ := He.ba c
  exact ⟨He.eqO_ok c1, He.eqO_ok c2, of_decide_eq_true c3, of_decide_eq_true c4⟩
theorem own_ok {x : Str} (c : (Fk.own x).ok K = true) : OexC K (He.ga K x) := by
  obtain ⟨c1, c⟩ := He.ba c
  obtain ⟨c2, c⟩ := He.ba c
  obtain ⟨c3, c⟩ := He.ba c
  obtain ⟨c4, c5⟩ := He.ba c
  exact ⟨oex_ok c1, He.eqO_ok c2, of_decide_eq_true c3, of_decide_eq_true c4, c5⟩
theorem base_ok {x : Str} (c : (Fk.base x).ok K = true) : Kx.BaseC K (He.ga K x) := by
  obtain ⟨c1, c⟩ := He.ba c
  obtain ⟨c2, c3⟩ := He.ba c
  exact ⟨He.eqO_ok c1, c2, val_ok c3⟩
theorem fn_ok {x m : Str} (c : (Fk.fn x m).ok K = true) : PySem.W.findIn K (.ref (He.ga K x)) m = some (some (.ref (He.ma K (He.ga K x) m))) ∧ PySem.W.typeIn K (.ref (He.ma K (He.ga K x) m)) = some (.type "function") := by
  obtain ⟨c1, c2⟩ := He.ba c
  exact ⟨He.eqO_ok c1, of_decide_eq_true c2⟩
theorem exm_ok {x y : Str} {b : Bool} (c : (Fk.exm x y b).ok K = true) : PySem.W.exmOne K (.ref (He.ga K x)) (.ref (He.ga K y)) = some b := of_decide_eq_true c
theorem kit_ok {x y : Str} {b : Bool} (c : (Fk.kit x y b).ok K = true) : PySem.W.kitOne K (.ref (He.ga K x)) (.ref (He.ga K y)) = some b := of_decide_eq_true c
theorem err_ok {x : Str} (c : (Fk.err x).ok K = true) : ExcC K (He.ga K x) := by
  obtain ⟨c1, c⟩ := He.ba c
  obtain ⟨c2, c⟩ := He.ba c
  obtain ⟨c3, c⟩ := He.ba c
  obtain ⟨c4, c⟩ := He.ba c
  obtain ⟨c5, c⟩ := He.ba c
  obtain ⟨c6, c⟩ := He.ba c
  obtain ⟨c7, c8⟩ := He.ba c
  exact ⟨He.eqO_ok c1, He.eqO_ok c2, of_decide_eq_true c3, c4, He.eqO_ok c5, He.eqO_ok c6, of_decide_eq_true c7, of_decide_eq_true c8⟩
theorem bltn_ok (X : K.In h) (G : h.Ns mainGlobals mg) {x : Str} {b : String} (c : (Fk.bltn x b).ok K = true) : mg x = some (.builtin b) := PySem.W.mg_of X G (He.eqO_ok c)
theorem exc_ok {x : Str} (c : (Fk.exc x).ok K = true) : PySem.W.excIn K (He.ga K x) [.type "ValueError", .type "Exception", .type "BaseException", .type "object"] "ValueError.__new__" = true ∧ PySem.W.keepIn K (.ref (He.ga K x)) = true ∧ PySem.W.subIn K (.ref (He.ga K x)) (.type "BaseException") = some true ∧ PySem.W.typeIn K (.ref (He.ga K x)) = some (.type "type") := by
  obtain ⟨c1, c⟩ := He.ba c
  obtain ⟨c2, c⟩ := He.ba c
  obtain ⟨c3, c4⟩ := He.ba c
  exact ⟨c1, c2, of_decide_eq_true c3, of_decide_eq_true c4⟩
theorem isf_ok {x m : Str} (c : (Fk.isf x m).ok K = true) : PySem.W.findIn K (.ref (He.ga K x)) m = some (some (.ref (He.ma K (He.ga K x) m))) ∧ PySem.W.isFn K (.ref (He.ma K (He.ga K x) m)) = true := by
  obtain ⟨c1, c2⟩ := He.ba c
  exact ⟨He.eqO_ok c1, c2⟩
theorem sfi_ok {x : Str} (c : (Fk.sfi x).ok K = true) : PySem.W.selfFirst K (He.ga K x) = true := c
end
/-- a law's end over such a head; what may leave hangs on the world -/
theorem walk_end {l : PySem.W.OpenLaw} {n k : Nat} {q : Program} {loose : List Str} {XP : (Str → Option Value) → Heap → Prop} {YP : World → Heap → Prop} {d : DefRec} {CX : World → CXT} {x : Str}
    (hn : l.most = some n) (hn2 : n ≤ sizeLine) (hdf : d.params.defaults = []) (hr : Room k callerA)
    (F : ∀ (w : World) (mg : Str → Option Value) (fa : Addr) (h : Heap), YP w h → h.Ns mainGlobals mg → mg d.name = some (.ref fa) →
      ∃ (K : PySem.W.Frag) (fd : FuncData) (sp : Sp), K.In h ∧ (∀ (s : Shared) (u : Value), BindsTo s fd ⟨[u], []⟩ [(x, u)]) ∧
        (∀ (H : Hp) (a : Addr) (ns : List Int), ns.length ≤ n → Only H → SqL K H a (ns.map V.int) → sp [.ref a] H (fun v _ => v = .bl true) fun _ _ _ => False) ∧
        ∀ base : Heap, K.In base → base.Ns mainGlobals mg → FnOk l.prog w K mg base (CX w) k fa fd [x] sp)
    (hCX : ∀ (w : World) (H : Hp) (s : Shared) (e : Value) (s' : Shared), CX w [] H s (fun _ _ _ => False) e s' → False) :
    PySem.W.WalkO q loose XP YP l.row.toRowW d [] (fun f vs => PySem.call f vs) := by
  refine Att.attach_call hn hdf fun w sa sb mg mb fa o pm cd doc a vs ns Gt Yt ho hd hcd hmg hobj hints hlen hg => ?_
  obtain ⟨K, fd, sp, X, hb, hs, hf⟩ := F w mg fa _ Yt Gt.T.g hmg
  have many := Nat.le_trans hlen hn2
  exact law_call X Gt.T.g Gt.T.b Gt.T.builtins Gt.T.nolimit hg hobj hints many hr hf hb (fun H hO hS => hs H a ns hlen hO hS) (fun H e s' => hCX w H sb e s')
end Hk

set_option Elab.async false
set_option linter.all false
set_option maxRecDepth 100000
set_option maxHeartbeats 4000000
namespace K0
open PySem PySem.Spec PyProof.Rows L2 Kx Kh Kd
/-! ### the head: facts by names -/
def dd (x : Str) (st : Stmt) : He.DefD := ⟨(x, none), x, x, defArgs st, defBody st, defScope st, [], []⟩
def dm (C x q : Str) (st : Stmt) : He.DefD := ⟨(C, some x), x, q, defArgs st, defBody st, defScope st, [], []⟩
def dRat : He.DefD := ⟨("Ratio", some "__init__"), "__init__", "Ratio.__init__", defArgs sInit, defBody sInit, defScope sInit, [.int 1], []⟩
def fn : List He.DefD := [
  dm "Ratio" "__add__" "Ratio.__add__" sAdd,
  dm "Ratio" "__eq__" "Ratio.__eq__" sEq,
  dd "are_lots" sLots,
  dd "one_lot" sOneL,
  dm "Plan" "__init__" "Plan.__init__" sPI,
  dm "Plan" "__eq__" "Plan.__eq__" sPE,
  dm "Plan" "entries" "Plan.entries" sPEn,
  dm "BadPlan" "__init__" "BadPlan.__init__" sBP,
  dd "sure" sSure,
  dd "_law_pool" sPool,
  dd "_law_draw" sDraw,
  dd "_law_same" sSame,
  dd "_law_less" sRed,
  dd "_law_made_plan" sMade,
  dd "_law_weights" sWts,
  dd "_law_told" sTold,
  dd "_law_kept" sKept,
  dd "_law_sure" sLSure,
  dd "law" sLaw,
  dRat]
def fa : List Hk.Fk := [
  .glo "are_lots", .glo "one_lot", .glo "sure", .glo "_law_pool", .glo "_law_draw", .glo "_law_same", .glo "_law_less", .glo "_law_made_plan", .glo "_law_weights", .glo "_law_told", .glo "_law_kept", .glo "_law_sure", .glo "law", .glo "Ratio", .glo "Plan", .glo "LossError", .glo "BadPlan", .glo "BadPaper", .glo "BadRatio", .glo "BadText", .glo "NoPlan", .glo "NoShare", .glo "TooLarge", .free "isinstance", .free "int", .free "str", .free "len", .free "list", .free "tuple", .free "bool", .free "range", .free "abs", .free "zip", .free "sum", .free "max", .free "min", .free "dict", .bltn "gcd" "math.gcd", .cls "Ratio", .noat "Ratio" "num", .noat "Ratio" "den", .si "Ratio", .sfi "Ratio", .mkr "Ratio", .meth "Ratio" "__add__", .meth "Ratio" "__eq__", .exc "BadRatio", .cls "Plan", .noat "Plan" "_entries", .noat "Plan" "_places", .si "Plan", .mkr "Plan", .meth "Plan" "__eq__", .meth "Plan" "entries", .base "LossError", .own "BadPlan", .noat "BadPlan" "at", .fn "BadPlan" "__init__", .err "BadPlan", .exm "BadPlan" "LossError" true, .kit "BadPlan" "BadPaper" false, .kit "BadPlan" "BadRatio" false, .kit "BadPlan" "BadText" false, .kit "BadPlan" "NoPlan" false, .kit "BadPlan" "NoShare" false, .kit "BadPlan" "TooLarge" false]
theorem facts {P : Program} {w : World} {K : PySem.W.Frag} {h : Heap} {mg : Str → Option Value} {f : Addr} (X : K.In h) (G : h.Ns mainGlobals mg) (hfa : mg ("law" : Str) = some (.ref f)) (c : Hk.SaysF fa fn K) :
    ∃ fd : FuncData, (∀ (s : Shared) (v : Value), BindsTo s fd ⟨[v], []⟩ [("script", v)]) ∧ ∀ base : Heap, K.In base → base.Ns mainGlobals mg → FnOk P w K mg base CX0 28 f fd ["script"] (spLaw K) := by
  obtain ⟨d0, D0⟩ := c.def_ 0 (d := dm "Ratio" "__add__" "Ratio.__add__" sAdd) rfl
  have F0 : Fun K "__add__" "Ratio.__add__" sAdd (He.ma K (He.ga K "Ratio") "__add__") d0 := Hk.fun_of D0
  have b0 := F0.binds (ps := ["self", "other"]) fun _ _ _ _ _ _ us hl => match us, hl with | [_, _], _ => rfl
  obtain ⟨d1, D1⟩ := c.def_ 1 (d := dm "Ratio" "__eq__" "Ratio.__eq__" sEq) rfl
  have F1 : Fun K "__eq__" "Ratio.__eq__" sEq (He.ma K (He.ga K "Ratio") "__eq__") d1 := Hk.fun_of D1
  have b1 := F1.binds (ps := ["self", "other"]) fun _ _ _ _ _ _ us hl => match us, hl with | [_, _], _ => rfl
  obtain ⟨d2, D2⟩ := c.def_ 2 (d := dd "are_lots" sLots) rfl
  have F2 : Fun K "are_lots" "are_lots" sLots (He.ga K "are_lots") d2 := Hk.fun_of D2
  have b2 := F2.binds (ps := ["ratios"]) fun _ _ _ _ _ _ us hl => match us, hl with | [_], _ => rfl
  have g2 : mg "are_lots" = some (.ref (He.ga K "are_lots")) := Hk.glo_ok X G (c.fact (.glo "are_lots") (by decide +kernel))
  obtain ⟨d3, D3⟩ := c.def_ 3 (d := dd "one_lot" sOneL) rfl
  have F3 : Fun K "one_lot" "one_lot" sOneL (He.ga K "one_lot") d3 := Hk.fun_of D3
  have b3 := F3.binds (ps := ["move", "moves"]) fun _ _ _ _ _ _ us hl => match us, hl with | [_, _], _ => rfl
  have g3 : mg "one_lot" = some (.ref (He.ga K "one_lot")) := Hk.glo_ok X G (c.fact (.glo "one_lot") (by decide +kernel))
  obtain ⟨d4, D4⟩ := c.def_ 4 (d := dm "Plan" "__init__" "Plan.__init__" sPI) rfl
  have F4 : Fun K "__init__" "Plan.__init__" sPI (He.ma K (He.ga K "Plan") "__init__") d4 := Hk.fun_of D4
  have b4 := F4.binds (ps := ["self", "entries"]) fun _ _ _ _ _ _ us hl => match us, hl with | [_, _], _ => rfl
  obtain ⟨d5, D5⟩ := c.def_ 5 (d := dm "Plan" "__eq__" "Plan.__eq__" sPE) rfl
  have F5 : Fun K "__eq__" "Plan.__eq__" sPE (He.ma K (He.ga K "Plan") "__eq__") d5 := Hk.fun_of D5
  have b5 := F5.binds (ps := ["self", "other"]) fun _ _ _ _ _ _ us hl => match us, hl with | [_, _], _ => rfl
  obtain ⟨d6, D6⟩ := c.def_ 6 (d := dm "Plan" "entries" "Plan.entries" sPEn) rfl
  have F6 : Fun K "entries" "Plan.entries" sPEn (He.ma K (He.ga K "Plan") "entries") d6 := Hk.fun_of D6
  have b6 := F6.binds (ps := ["self"]) fun _ _ _ _ _ _ us hl => match us, hl with | [_], _ => rfl
  obtain ⟨d7, D7⟩ := c.def_ 7 (d := dm "BadPlan" "__init__" "BadPlan.__init__" sBP) rfl
  have F7 : Fun K "__init__" "BadPlan.__init__" sBP (He.ma K (He.ga K "BadPlan") "__init__") d7 := Hk.fun_of D7
  have b7 := F7.binds (ps := ["self", "at"]) fun _ _ _ _ _ _ us hl => match us, hl with | [_, _], _ => rfl
  obtain ⟨d8, D8⟩ := c.def_ 8 (d := dd "sure" sSure) rfl
  have F8 : Fun K "sure" "sure" sSure (He.ga K "sure") d8 := Hk.fun_of D8
  have b8 := F8.binds (ps := ["views", "moves"]) fun _ _ _ _ _ _ us hl => match us, hl with | [_, _], _ => rfl
  have g8 : mg "sure" = some (.ref (He.ga K "sure")) := Hk.glo_ok X G (c.fact (.glo "sure") (by decide +kernel))
  obtain ⟨d9, D9⟩ := c.def_ 9 (d := dd "_law_pool" sPool) rfl
  have F9 : Fun K "_law_pool" "_law_pool" sPool (He.ga K "_law_pool") d9 := Hk.fun_of D9
  have b9 := F9.binds (ps := ["script", "budget"]) fun _ _ _ _ _ _ us hl => match us, hl with | [_, _], _ => rfl
  have g9 : mg "_law_pool" = some (.ref (He.ga K "_law_pool")) := Hk.glo_ok X G (c.fact (.glo "_law_pool") (by decide +kernel))
  obtain ⟨d10, D10⟩ := c.def_ 10 (d := dd "_law_draw" sDraw) rfl
  have F10 : Fun K "_law_draw" "_law_draw" sDraw (He.ga K "_law_draw") d10 := Hk.fun_of D10
  have b10 := F10.binds (ps := ["pool", "size"]) fun _ _ _ _ _ _ us hl => match us, hl with | [_, _], _ => rfl
  have g10 : mg "_law_draw" = some (.ref (He.ga K "_law_draw")) := Hk.glo_ok X G (c.fact (.glo "_law_draw") (by decide +kernel))
  obtain ⟨d11, D11⟩ := c.def_ 11 (d := dd "_law_same" sSame) rfl
  have F11 : Fun K "_law_same" "_law_same" sSame (He.ga K "_law_same") d11 := Hk.fun_of D11
  have b11 := F11.binds (ps := ["actual", "due"]) fun _ _ _ _ _ _ us hl => match us, hl with | [_, _], _ => rfl
  have g11 : mg "_law_same" = some (.ref (He.ga K "_law_same")) := Hk.glo_ok X G (c.fact (.glo "_law_same") (by decide +kernel))
  obtain ⟨d12, D12⟩ := c.def_ 12 (d := dd "_law_less" sRed) rfl
  have F12 : Fun K "_law_less" "_law_less" sRed (He.ga K "_law_less") d12 := Hk.fun_of D12
  have b12 := F12.binds (ps := ["num", "den"]) fun _ _ _ _ _ _ us hl => match us, hl with | [_, _], _ => rfl
  have g12 : mg "_law_less" = some (.ref (He.ga K "_law_less")) := Hk.glo_ok X G (c.fact (.glo "_law_less") (by decide +kernel))
  obtain ⟨d13, D13⟩ := c.def_ 13 (d := dd "_law_made_plan" sMade) rfl
  have F13 : Fun K "_law_made_plan" "_law_made_plan" sMade (He.ga K "_law_made_plan") d13 := Hk.fun_of D13
  have b13 := F13.binds (ps := ["plan"]) fun _ _ _ _ _ _ us hl => match us, hl with | [_], _ => rfl
  have g13 : mg "_law_made_plan" = some (.ref (He.ga K "_law_made_plan")) := Hk.glo_ok X G (c.fact (.glo "_law_made_plan") (by decide +kernel))
  obtain ⟨d14, D14⟩ := c.def_ 14 (d := dd "_law_weights" sWts) rfl
  have F14 : Fun K "_law_weights" "_law_weights" sWts (He.ga K "_law_weights") d14 := Hk.fun_of D14
  have b14 := F14.binds (ps := ["pool"]) fun _ _ _ _ _ _ us hl => match us, hl with | [_], _ => rfl
  have g14 : mg "_law_weights" = some (.ref (He.ga K "_law_weights")) := Hk.glo_ok X G (c.fact (.glo "_law_weights") (by decide +kernel))
  obtain ⟨d15, D15⟩ := c.def_ 15 (d := dd "_law_told" sTold) rfl
  have F15 : Fun K "_law_told" "_law_told" sTold (He.ga K "_law_told") d15 := Hk.fun_of D15
  have b15 := F15.binds (ps := ["plan"]) fun _ _ _ _ _ _ us hl => match us, hl with | [_], _ => rfl
  have g15 : mg "_law_told" = some (.ref (He.ga K "_law_told")) := Hk.glo_ok X G (c.fact (.glo "_law_told") (by decide +kernel))
  obtain ⟨d16, D16⟩ := c.def_ 16 (d := dd "_law_kept" sKept) rfl
  have F16 : Fun K "_law_kept" "_law_kept" sKept (He.ga K "_law_kept") d16 := Hk.fun_of D16
  have b16 := F16.binds (ps := ["entries"]) fun _ _ _ _ _ _ us hl => match us, hl with | [_], _ => rfl
  have g16 : mg "_law_kept" = some (.ref (He.ga K "_law_kept")) := Hk.glo_ok X G (c.fact (.glo "_law_kept") (by decide +kernel))
  obtain ⟨d17, D17⟩ := c.def_ 17 (d := dd "_law_sure" sLSure) rfl
  have F17 : Fun K "_law_sure" "_law_sure" sLSure (He.ga K "_law_sure") d17 := Hk.fun_of D17
  have b17 := F17.binds (ps := ["pool"]) fun _ _ _ _ _ _ us hl => match us, hl with | [_], _ => rfl
  have g17 : mg "_law_sure" = some (.ref (He.ga K "_law_sure")) := Hk.glo_ok X G (c.fact (.glo "_law_sure") (by decide +kernel))
  obtain ⟨d18, D18⟩ := c.def_ 18 (d := dd "law" sLaw) rfl
  have F18 : Fun K "law" "law" sLaw (He.ga K "law") d18 := Hk.fun_of D18
  have b18 := F18.binds (ps := ["script"]) fun _ _ _ _ _ _ us hl => match us, hl with | [_], _ => rfl
  have g18 : mg "law" = some (.ref (He.ga K "law")) := Hk.glo_ok X G (c.fact (.glo "law") (by decide +kernel))
  obtain ⟨dR, DR⟩ := c.def_ 19 (d := dRat) rfl
  have FR0 : FunD K "__init__" "Ratio.__init__" (defArgs sInit) (defBody sInit) (defScope sInit) [.int 1] [] (He.ma K (He.ga K "Ratio") "__init__") dR := DR
  have bR : L2.Binds K dR ["self", "num", "den"] [] := by
    obtain ⟨ds, v, b⟩ := FR0.binds1 (ps := ["self", "num", "den"]) 3 1 (fun z => nomatch z) rfl fun T kV doc pm an cdv ct us its hl hi => match us, its, hl, hi with | [_, _, _], [_], _, _ => ⟨_, rfl, rfl⟩
    have e := v.zero
    subst e
    exact b
  obtain ⟨ds1, v1, b1'⟩ := FR0.binds1 (ps := ["self", "num", "den"]) 2 0 (fun z => nomatch z) rfl fun T kV doc pm an cdv ct us its hl hi => match us, its, hl, hi with | [_, _], [_], _, _ => ⟨_, rfl, rfl⟩
  obtain ⟨x1, x2, x3, x4⟩ := Hk.exc_ok (c.fact (.exc "BadRatio") (by decide +kernel))
  have T : Txt K mg (He.ga K "Ratio") (He.ga K "BadRatio") := ⟨Hk.cls_ok (c.fact (.cls "Ratio") (by decide +kernel)), Hk.noat_ok (c.fact (.noat "Ratio" "num") (by decide +kernel)), Hk.noat_ok (c.fact (.noat "Ratio" "den") (by decide +kernel)), Hk.glo_ok X G (c.fact (.glo "Ratio") (by decide +kernel)), Hk.si_ok (c.fact (.si "Ratio") (by decide +kernel)), Hk.bltn_ok X G (c.fact (.bltn "gcd" "math.gcd") (by decide +kernel)), Hk.glo_ok X G (c.fact (.glo "BadRatio") (by decide +kernel)), x1, x2, x3, x4, Hk.free_ok X G (c.fact (.free "isinstance") (by decide +kernel)), Hk.free_ok X G (c.fact (.free "int") (by decide +kernel)), Hk.free_ok X G (c.fact (.free "str") (by decide +kernel)), Hk.free_ok X G (c.fact (.free "len") (by decide +kernel)), Hk.free_ok X G (c.fact (.free "list") (by decide +kernel)), Hk.free_ok X G (c.fact (.free "tuple") (by decide +kernel)), Hk.free_ok X G (c.fact (.free "bool") (by decide +kernel)), Hk.free_ok X G (c.fact (.free "range") (by decide +kernel)), Hk.free_ok X G (c.fact (.free "abs") (by decide +kernel))⟩
  have TL : TxL mg := ⟨Hk.free_ok X G (c.fact (.free "isinstance") (by decide +kernel)), Hk.free_ok X G (c.fact (.free "int") (by decide +kernel)), Hk.free_ok X G (c.fact (.free "str") (by decide +kernel)), Hk.free_ok X G (c.fact (.free "len") (by decide +kernel)), Hk.free_ok X G (c.fact (.free "list") (by decide +kernel)), Hk.free_ok X G (c.fact (.free "tuple") (by decide +kernel)), Hk.free_ok X G (c.fact (.free "bool") (by decide +kernel)), Hk.free_ok X G (c.fact (.free "range") (by decide +kernel))⟩
  have TQ : TxQ mg := ⟨Hk.free_ok X G (c.fact (.free "sum") (by decide +kernel)), Hk.free_ok X G (c.fact (.free "max") (by decide +kernel)), Hk.free_ok X G (c.fact (.free "min") (by decide +kernel)), Hk.free_ok X G (c.fact (.free "dict") (by decide +kernel))⟩
  have TP : TxP K mg (He.ga K "Plan") := ⟨Hk.cls_ok (c.fact (.cls "Plan") (by decide +kernel)), Hk.noat_ok (c.fact (.noat "Plan" "_entries") (by decide +kernel)), Hk.noat_ok (c.fact (.noat "Plan" "_places") (by decide +kernel)), Hk.glo_ok X G (c.fact (.glo "Plan") (by decide +kernel)), Hk.si_ok (c.fact (.si "Plan") (by decide +kernel)), Hk.free_ok X G (c.fact (.free "isinstance") (by decide +kernel)), Hk.free_ok X G (c.fact (.free "list") (by decide +kernel)), Hk.free_ok X G (c.fact (.free "tuple") (by decide +kernel)), Hk.free_ok X G (c.fact (.free "len") (by decide +kernel)), Hk.free_ok X G (c.fact (.free "range") (by decide +kernel)), Hk.free_ok X G (c.fact (.free "zip") (by decide +kernel))⟩
  obtain ⟨iB, tB⟩ := Hk.fn_ok (c.fact (.fn "BadPlan" "__init__") (by decide +kernel))
  have TB : TxB K mg (He.ga K "LossError") (He.ga K "BadPlan") (He.ma K (He.ga K "BadPlan") "__init__") := ⟨Hk.glo_ok X G (c.fact (.glo "LossError") (by decide +kernel)), Hk.glo_ok X G (c.fact (.glo "BadPlan") (by decide +kernel)), Hk.base_ok (c.fact (.base "LossError") (by decide +kernel)), Hk.own_ok (c.fact (.own "BadPlan") (by decide +kernel)), Hk.noat_ok (c.fact (.noat "BadPlan" "at") (by decide +kernel)), iB, tB⟩
  have TE : TxE11 K mg (He.ga K "BadPlan") (He.ga K "LossError") (He.ga K "BadPaper") (He.ga K "BadRatio") (He.ga K "BadText") (He.ga K "NoPlan") (He.ga K "NoShare") (He.ga K "TooLarge") := ⟨Hk.err_ok (c.fact (.err "BadPlan") (by decide +kernel)), TB.nB, TB.mgL, Hk.exm_ok (c.fact (.exm "BadPlan" "LossError" true) (by decide +kernel)), TB.mgB, Hk.glo_ok X G (c.fact (.glo "BadPaper") (by decide +kernel)), Hk.glo_ok X G (c.fact (.glo "BadRatio") (by decide +kernel)), Hk.glo_ok X G (c.fact (.glo "BadText") (by decide +kernel)), Hk.glo_ok X G (c.fact (.glo "NoPlan") (by decide +kernel)), Hk.glo_ok X G (c.fact (.glo "NoShare") (by decide +kernel)), Hk.glo_ok X G (c.fact (.glo "TooLarge") (by decide +kernel)), Hk.kit_ok (c.fact (.kit "BadPlan" "BadPaper" false) (by decide +kernel)), Hk.kit_ok (c.fact (.kit "BadPlan" "BadRatio" false) (by decide +kernel)), Hk.kit_ok (c.fact (.kit "BadPlan" "BadText" false) (by decide +kernel)), Hk.kit_ok (c.fact (.kit "BadPlan" "NoPlan" false) (by decide +kernel)), Hk.kit_ok (c.fact (.kit "BadPlan" "NoShare" false) (by decide +kernel)), Hk.kit_ok (c.fact (.kit "BadPlan" "TooLarge" false) (by decide +kernel))⟩
  have hb : ∀ (s : Shared) (v : Value), BindsTo s d18 ⟨[v], []⟩ [("script", v)] := by
    obtain ⟨oc, od, kV, doc, pm, an, cdv, ct, osl, e, _, _⟩ := F18.ex
    intro s v
    rw [e]
    exact .of_eq rfl
  have e := hfa.symm.trans g18
  cases e
  refine ⟨d18, fun s v => hb s v, fun base _ _ => ?_⟩
  have MR := Hk.mkr_ok (c.fact (.mkr "Ratio") (by decide +kernel))
  have GR := ok_init (P := P) (w := w) (base := base) FR0 T
  obtain ⟨aA, iA, _⟩ := Hk.meth_ok (c.fact (.meth "Ratio" "__add__") (by decide +kernel))
  obtain ⟨aE, iE, _⟩ := Hk.meth_ok (c.fact (.meth "Ratio" "__eq__") (by decide +kernel))
  have GA := ok_add (P := P) (w := w) (base := base) F0 T MR GR bR
  have GE := ok_eq (P := P) (w := w) (base := base) F1 T
  have GL := ok_lots (P := P) (w := w) (base := base) F2 T MR (Hk.sfi_ok (c.fact (.sfi "Ratio") (by decide +kernel))) GR b1' v1 GA aA iA b0 GE aE iE b1
  have GO := ok_onel (P := P) (w := w) (base := base) F3 T TP MR GR b1' v1
  have MI := Hk.mkr_ok (c.fact (.mkr "Plan") (by decide +kernel))
  have GB := ok_bp (P := P) (w := w) (base := base) F7 TB
  have GI := ok_pinit (P := P) (w := w) (base := base) F4 TP TB GB b7 GL g2 F2.kp b2
  obtain ⟨aP, iP, _⟩ := Hk.meth_ok (c.fact (.meth "Plan" "__eq__") (by decide +kernel))
  have GP := ok_peq (P := P) (w := w) (base := base) F5 TP GE aE iE b1
  have GN := ok_pent (P := P) (w := w) (base := base) (C := He.ga K "Ratio") F6 TP
  have mN := Hk.meth_ok (c.fact (.meth "Plan" "entries") (by decide +kernel))
  have GS : Fn0 P w K mg base 7 "sure" ["views", "moves"] (spSure P w K (He.ga K "Ratio") (He.ga K "Plan")) _ _ := ⟨ok_sure F8 TP MI GI b4 GO g3 F3.kp b3, g8, F8.kp, b8⟩
  have PO1 : Fn0 P w K mg base 1 "_law_pool" ["script", "budget"] (spPool K) _ _ := ⟨ok_pool F9 TL, g9, F9.kp, b9⟩
  have DR1 : Fn0 P w K mg base 1 "_law_draw" ["pool", "size"] spDraw _ _ := ⟨ok_draw F10 TL, g10, F10.kp, b10⟩
  have SAa : ∀ n : Nat, Fn0 P w K mg base (n + 1) "_law_same" ["actual", "due"] (spSame n) (He.ga K "_law_same") d11 := fun n => by
    induction n with
    | zero => exact ⟨ok_same0 F11 TL, g11, F11.kp, b11⟩
    | succ n ih => exact ⟨ok_sameS F11 TL ih, g11, F11.kp, b11⟩
  have RD1 : Fn0 P w K mg base 1 "_law_less" ["num", "den"] spRed _ _ := ⟨ok_red F12 T, g12, F12.kp, b12⟩
  have WT1 : Fn0 P w K mg base 2 "_law_weights" ["pool"] spWts _ _ := ⟨ok_wts F14 TL TQ DR1, g14, F14.kp, b14⟩
  have TO1 : Fn0 P w K mg base 2 "_law_told" ["plan"] (spTold K (He.ga K "Ratio") (He.ga K "Plan")) _ _ := ⟨ok_told F15 T TL TP GN mN b6, g15, F15.kp, b15⟩
  have MD1 : Fn0 P w K mg base 7 "_law_made_plan" ["plan"] (spMade P w K (He.ga K "Ratio") (He.ga K "Plan")) _ _ := ⟨ok_made (ds := []) F13 T TP MI GI b4 MR GR bR, g13, F13.kp, b13⟩
  have KP1 : Fn0 P w K mg base 1 "_law_kept" ["entries"] (spKept K (He.ga K "Ratio")) _ _ := ⟨ok_kept F16 T TL, g16, F16.kp, b16⟩
  have SU1 : Fn0 P w K mg base 15 "_law_sure" ["pool"] spLSure _ _ := ⟨ok_lsure F17 T TL TP DR1 (SAa 13) TO1 MI GI b4 MR GR bR GS GP aP iP b5, g17, F17.kp, b17⟩
  have B : LB P w K mg base (He.ga K "Ratio") (He.ga K "BadRatio") (He.ga K "Plan") (He.ga K "BadPlan") ⟨(He.ga K "_law_draw"), (He.ga K "_law_less"), (He.ga K "_law_weights"), (He.ga K "_law_same"), (He.ga K "_law_told"), (He.ga K "_law_made_plan"), (He.ga K "_law_sure"), (He.ma K (He.ga K "Plan") "__eq__"), (He.ma K (He.ga K "Plan") "entries"), (He.ma K (He.ga K "Plan") "__init__"), (He.ma K (He.ga K "Ratio") "__init__"), (He.ga K "_law_kept"), (He.ga K "_law_pool"), d10, d12, d14, d11, d15, d13, d17, d5, d6, d4, dR, d16, d9⟩ :=
    { T := T, TL := TL, TQ := TQ, TP := TP, D1 := DR1, RD := RD1, WT := WT1, S1 := SAa 13, O1 := TO1, MD := MD1, SU := SU1, PO := PO1, KP := KP1, KH := ok_keptH F16 T TL, SH := ok_sameH F11 TL, GP := GP, aP := aP, iP := iP, bP := b5, GE := GN, mE := mN, bE := b6, MI := MI, GI := GI, bI := b4, MR := MR, GR := GR, bR := bR, bR1 := ⟨ds1, b1', v1⟩ }
  exact ok_law F18 B TE
end K0

set_option Elab.async false
set_option linter.all false
set_option maxRecDepth 100000
set_option maxHeartbeats 0
namespace K0
open PySem PySem.Spec PyProof.Rows L2
abbrev R : PySem.W.OpenRow := PySem.W.OpenLaw.row PySem.Challenge.rw_lostleast_k11_plans
abbrev hk : PySem.W.Hook := Hk.hookF 6 fa fn
def ob (s : PySem.W.SharedT) : He.AlD := Hk.obsFG 6 fa fn (HandSHeadRun.getT s)
theorem ob_eq (s : PySem.W.SharedT) : ob s = hk.obs s.abs := Hk.obsF_eq (HandSHeadRun.getT_eq s)
def loose1 : List Str := ["LossError", "BadText", "BadPlan", "BadPaper", "NoShare", "TooLarge", "NoPlan", "BadRatio", "Ratio", "Plan", "are_lots", "one_lot", "sure"]
def loose2 : List Str := ["_law_pool", "_law_draw", "_law_same", "_law_less", "_law_made_plan", "_law_weights", "_law_told", "_law_kept", "_law_sure"]
theorem hrun (w : World) : HandSHeadRun.RunEqI R (PySem.W.view R.prog [0, 1, 28]) hk ob 6000 (loose1 ++ loose2) w := by
  unfold HandSHeadRun.RunEqI
  kernel_rfl
end K0

set_option Elab.async false
set_option linter.all false
set_option maxRecDepth 100000
open PySem PySem.W PySem.Calls PyProof.Rows
set_option maxHeartbeats 0 in
theorem PySem.Challenge.cw_lostleast_k11_plans_holds : PySem.Challenge.rw_lostleast_k11_plans.Holds := by
  w_on; o_law
  refine HandSHeadRun.head_imp (r := OpenLaw.row PySem.Challenge.rw_lostleast_k11_plans) (q := view (OpenLaw.row PySem.Challenge.rw_lostleast_k11_plans).prog [0, 1, 28]) (H := K0.hk) (ob := K0.ob) (M := 6000) (loose := K0.loose1 ++ K0.loose2)
    (d := HandSHeadRun.topDef (OpenLaw.row PySem.Challenge.rw_lostleast_k11_plans).prog 28) (kwd := []) K0.ob_eq
    K0.hrun (by kernel_rfl) (by kernel_rfl) (by kernel_rfl) (by rfl) (by first | assumption | decide +kernel) (by decide +kernel) ⟨rfl, rfl, rfl, rfl, rfl, by decide +kernel⟩ ?hw ?hc
  case hw => w_witness2
  case hc =>
    refine Hk.walk_end (l := PySem.Challenge.rw_lostleast_k11_plans) (n := 63) (k := 28) (x := "script") (CX := fun _ => L2.CX0) rfl (by decide) (by kernel_rfl) ⟨rfl, by decide, by decide⟩ ?F (fun w H s e s' z => ?X)
    case F =>
      intro w mg fa h Y G hmg0
      obtain ⟨K, KX, c⟩ := Y
      have hmg : mg ("law" : PySem.Str) = some (.ref fa) := by
        have e : (HandSHeadRun.topDef (OpenLaw.row PySem.Challenge.rw_lostleast_k11_plans).prog 28).name = ("law" : PySem.Str) := by kernel_rfl
        rw [← e]
        exact hmg0
      obtain ⟨fd, hb, hF⟩ := K0.facts (P := (PySem.Challenge.rw_lostleast_k11_plans).prog) (w := w) KX G hmg c
      exact ⟨K, fd, K0.spLaw K, KX, hb, fun H a ns hl _ hS => ⟨a, ns, rfl, hS, fun _ => rfl⟩, hF⟩
    case X =>
      exact z.elim
