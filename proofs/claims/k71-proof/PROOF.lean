import PyProof.Rows.All
import Wide.All
import OpenK.AllK
import Wide.FinOn
import HandS.ForExc
import HandS.Gcd
import HandS.Wide
import HandS.FStr
import HandS.IsInst
import HandS.Defaults
import HandS.MakeKw
import HandS.MakeKwOnly
import HandS.ExcIs
import HandS.SlotsOwn
import HandS.OwnEq
import HandS.CallRecv
import HandS.ExcInit
import KE.KDictKeyed
import HandS.Small
import HandS.Deep
import HandS.Comp
import HandS.Iter
import HandS.Dict
import KE.KEqDict
import KE.KIsAll
import HandS.HotCalls
import HandS.ForMost
import HandS.ExcInitHot
import HandS.Hot
import PyProof.TupleIter
import HandS.Flow
import HandS.Star
import HandS.RaiseMore
import HandS.Text
import HandS.Walk
import HandS.Zip
import HandS.More
import HandS.WrittenGet
import HandS.TupSets
import HandS.SetKeys
import PyProof.Rows.StrMul
import KE.KStateDown
import HandS.Head0
import HandS.Head1
import HandS.Head2
import HandS.HeadEnd
import HandS.HeadHook1
import HandS.HeadHook2
import HandS.HeadHook3
import HandS.Head3
import HandS.Head4
import PySem.Challenge.RW_lostleast_k71_whole_lines_of_plans_are_r
set_option linter.all false
/-! Fractions in lowest terms, Euclid's loop, and bounds: plain integers. -/
namespace K0
/-- the greatest common divisor, as the program asks for it -/
def G (n d : Int) : Int := ((Nat.gcd n.natAbs d.natAbs : Nat) : Int)
def rn (n d : Int) : Int := n / G n d
def rd (n d : Int) : Int := d / G n d
theorem G_pos {n d : Int} (h : 0 < d) : 0 < G n d := by
  unfold G
  have h1 : 0 < d.natAbs := by omega
  have := Nat.gcd_pos_of_pos_right n.natAbs h1
  omega
theorem G_dvd_l (n d : Int) : G n d ∣ n := by
  unfold G
  exact Int.ofNat_dvd_left.mpr (Nat.gcd_dvd_left _ _)
theorem G_dvd_r (n d : Int) : G n d ∣ d := by
  unfold G
  exact Int.ofNat_dvd_left.mpr (Nat.gcd_dvd_right _ _)
theorem n_eq (n d : Int) : n = G n d * rn n d := by
  unfold rn
  exact (Int.mul_ediv_cancel' (G_dvd_l n d)).symm
theorem d_eq (n d : Int) : d = G n d * rd n d := by
  unfold rd
  exact (Int.mul_ediv_cancel' (G_dvd_r n d)).symm
theorem rd_pos {n d : Int} (h : 0 < d) : 0 < rd n d := by
  have h1 := G_pos (n := n) h
  have h2 := d_eq n d
  rcases Int.lt_trichotomy (rd n d) 0 with h3 | h3 | h3
  · have := Int.mul_neg_of_pos_of_neg h1 h3
    omega
  · rw [h3, Int.mul_zero] at h2
    omega
  · exact h3
theorem G_scale {k : Int} (hk : 0 < k) (x y : Int) : G (k * x) (k * y) = k * G x y := by
  unfold G
  rw [Int.natAbs_mul, Int.natAbs_mul, Nat.gcd_mul_left]
  have : ((k.natAbs : Nat) : Int) = k := by omega
  rw [Int.natCast_mul, this]
theorem rn_scale {k : Int} (hk : 0 < k) (x y : Int) : rn (k * x) (k * y) = rn x y := by
  unfold rn
  rw [G_scale hk, Int.mul_ediv_mul_of_pos _ _ hk]
theorem rd_scale {k : Int} (hk : 0 < k) (x y : Int) : rd (k * x) (k * y) = rd x y := by
  unfold rd
  rw [G_scale hk, Int.mul_ediv_mul_of_pos _ _ hk]
theorem pos2 {n d m e : Int} (h : 0 < d) (h' : 0 < e) : 0 < G n d * G m e := Int.mul_pos (G_pos h) (G_pos h')
/-- what a product of two of the four parts is -/
theorem cross (g h a b : Int) : g * a * (h * b) = g * h * (a * b) := by
  rw [Int.mul_assoc, Int.mul_assoc, Int.mul_left_comm a h b]
section
variable {n d m e : Int}
theorem den_eq : d * e = G n d * G m e * (rd n d * rd m e) := by
  have h1 := d_eq n d
  have h2 := d_eq m e
  rw [← cross, ← h1, ← h2]
theorem ne_eq : n * e = G n d * G m e * (rn n d * rd m e) := by
  have h1 := n_eq n d
  have h2 := d_eq m e
  rw [← cross, ← h1, ← h2]
theorem md_eq : m * d = G n d * G m e * (rn m e * rd n d) := by
  have h1 := n_eq m e
  have h2 := d_eq n d
  rw [Int.mul_comm (G n d) (G m e), ← cross, ← h1, ← h2]
theorem nm_eq : n * m = G n d * G m e * (rn n d * rn m e) := by
  have h1 := n_eq n d
  have h2 := n_eq m e
  rw [← cross, ← h1, ← h2]
theorem add_n : n * e + m * d = G n d * G m e * (rn n d * rd m e + rn m e * rd n d) := by
  rw [Int.mul_add, ← ne_eq, ← md_eq]
theorem sub_n : n * e - m * d = G n d * G m e * (rn n d * rd m e - rn m e * rd n d) := by
  rw [Int.mul_sub, ← ne_eq, ← md_eq]
/-- the sum of two fractions in lowest terms, made so again -/
theorem add_ok (h : 0 < d) (h' : 0 < e) : rn (rn n d * rd m e + rn m e * rd n d) (rd n d * rd m e) = rn (n * e + m * d) (d * e) ∧ rd (rn n d * rd m e + rn m e * rd n d) (rd n d * rd m e) = rd (n * e + m * d) (d * e) := by
  have e1 : n * e + m * d = _ := add_n (n := n) (d := d) (m := m) (e := e)
  have e2 : d * e = _ := den_eq (n := n) (d := d) (m := m) (e := e)
  rw [e1, e2, rn_scale (pos2 h h'), rd_scale (pos2 h h')]
  exact ⟨rfl, rfl⟩
theorem sub_ok (h : 0 < d) (h' : 0 < e) : rn (rn n d * rd m e - rn m e * rd n d) (rd n d * rd m e) = rn (n * e - m * d) (d * e) ∧ rd (rn n d * rd m e - rn m e * rd n d) (rd n d * rd m e) = rd (n * e - m * d) (d * e) := by
  have e1 : n * e - m * d = _ := sub_n (n := n) (d := d) (m := m) (e := e)
  have e2 : d * e = _ := den_eq (n := n) (d := d) (m := m) (e := e)
  rw [e1, e2, rn_scale (pos2 h h'), rd_scale (pos2 h h')]
  exact ⟨rfl, rfl⟩
theorem mul_ok (h : 0 < d) (h' : 0 < e) : rn (rn n d * rn m e) (rd n d * rd m e) = rn (n * m) (d * e) ∧ rd (rn n d * rn m e) (rd n d * rd m e) = rd (n * m) (d * e) := by
  have e1 : n * m = _ := nm_eq (n := n) (d := d) (m := m) (e := e)
  have e2 : d * e = _ := den_eq (n := n) (d := d) (m := m) (e := e)
  rw [e1, e2, rn_scale (pos2 h h'), rd_scale (pos2 h h')]
  exact ⟨rfl, rfl⟩
theorem less_ok (h : 0 < d) (h' : 0 < e) : (rn n d * rd m e < rn m e * rd n d) ↔ (n * e < m * d) := by
  have e1 : n * e = _ := ne_eq (n := n) (d := d) (m := m) (e := e)
  have e2 : m * d = _ := md_eq (n := n) (d := d) (m := m) (e := e)
  have hp := pos2 (n := n) (m := m) h h'
  rw [e1, e2]
  exact ⟨fun q => Int.mul_lt_mul_of_pos_left q hp, fun q => Int.lt_of_mul_lt_mul_left q (Int.le_of_lt hp)⟩
theorem rn_zero (h : 0 < d) : rn n d = 0 ↔ n = 0 := by
  constructor
  · intro q
    have := n_eq n d
    rw [q, Int.mul_zero] at this
    exact this
  · intro q
    unfold rn
    rw [q, Int.zero_ediv]
theorem rn_sign (h : 0 < d) : 0 < rn n d ↔ 0 < n := by
  have h1 := n_eq n d
  have hg := G_pos (n := n) h
  constructor
  · intro q
    rw [h1]
    exact Int.mul_pos hg q
  · intro q
    rcases Int.lt_trichotomy (rn n d) 0 with h3 | h3 | h3
    · have := Int.mul_neg_of_pos_of_neg hg h3
      omega
    · rw [h3, Int.mul_zero] at h1
      omega
    · exact h3
/-- the sign of a number that is not 0 -/
def sg (m : Int) : Int := if 0 < m then 1 else -1
theorem sg_rn (h : 0 < d) : sg (rn n d) = sg n := by
  unfold sg
  by_cases q : 0 < n
  · rw [if_pos q, if_pos ((rn_sign h).mpr q)]
  · rw [if_neg q, if_neg fun z => q ((rn_sign h).mp z)]
theorem sg_abs {x : Int} (h : x ≠ 0) : x * sg x = if x < 0 then 0 - x else x := by
  unfold sg
  by_cases q : 0 < x
  · rw [if_pos q, if_neg (by omega)]
    omega
  · rw [if_neg q, if_pos (by omega)]
    omega
/-- the quotient -/
theorem over_ok (h : 0 < d) (h' : 0 < e) (hm : m ≠ 0) :
    rn (sg (rn m e) * rn n d * rd m e) (rd n d * (if rn m e < 0 then 0 - rn m e else rn m e)) = rn (n * e * sg m) (d * m * sg m) ∧ rd (sg (rn m e) * rn n d * rd m e) (rd n d * (if rn m e < 0 then 0 - rn m e else rn m e)) = rd (n * e * sg m) (d * m * sg m) ∧
      0 < rd n d * (if rn m e < 0 then 0 - rn m e else rn m e) ∧ 0 < d * m * sg m := by
  have hp := pos2 (n := n) (m := m) h h'
  have hz : rn m e ≠ 0 := fun z => hm ((rn_zero h').mp z)
  have es := sg_rn (n := m) h'
  rw [← sg_abs hz, es]
  have e1 : n * e * sg m = G n d * G m e * (sg m * rn n d * rd m e) := by
    rw [ne_eq (n := n) (d := d) (m := m) (e := e), Int.mul_assoc (G n d * G m e), Int.mul_comm _ (sg m), Int.mul_assoc (sg m)]
  have e2 : d * m * sg m = G n d * G m e * (rd n d * (rn m e * sg m)) := by
    have q : d * m = G n d * G m e * (rd n d * rn m e) := by
      have h1 := d_eq n d
      have h2 := n_eq m e
      rw [← cross, ← h1, ← h2]
    rw [q, Int.mul_assoc (G n d * G m e), Int.mul_assoc (rd n d)]
  have hs : 0 < rn m e * sg m := by
    rw [← es, sg_abs hz]
    split <;> omega
  have h3 : 0 < rd n d * (rn m e * sg m) := Int.mul_pos (rd_pos h) hs
  rw [e1, e2, rn_scale hp, rd_scale hp]
  exact ⟨rfl, rfl, h3, Int.mul_pos hp h3⟩
end
/-! ### Euclid's loop -/
/-- behind i turns of at most 4000: a, b ≥ 0, their divisor is g, and b falls -/
structure Eu (g : Nat) (i : Nat) (a b : Nat) : Prop where
  gc : Nat.gcd a b = g
  ms : (i = 0 ∧ b < 2 ^ 1000) ∨ (0 < i ∧ b < a ∧ a * b * 2 ^ (i - 1) < 2 ^ 2000)
theorem Eu.start {a b : Nat} (h : b < 2 ^ 1000) : Eu (Nat.gcd a b) 0 a b := ⟨rfl, .inl ⟨rfl, h⟩⟩
theorem Eu.turn {g i a b : Nat} (E : Eu g i a b) (hb : b ≠ 0) : Eu g (i + 1) b (a % b) := by
  have hb' : 0 < b := Nat.pos_of_ne_zero hb
  have hl : a % b < b := Nat.mod_lt _ hb'
  refine ⟨?_, .inr ⟨Nat.succ_pos _, hl, ?_⟩⟩
  · rw [← E.gc, Nat.gcd_comm a b, Nat.gcd_rec b a, Nat.gcd_comm]
  · rw [Nat.add_sub_cancel]
    rcases E.ms with ⟨e, h⟩ | ⟨hi, hba, h⟩
    · rw [e]
      have h1 : b * (a % b) < 2 ^ 1000 * 2 ^ 1000 := Nat.mul_lt_mul'' h (Nat.lt_trans hl h)
      rw [← Nat.pow_add] at h1
      rw [Nat.pow_zero, Nat.mul_one]
      exact h1
    · have e1 : i = (i - 1) + 1 := by omega
      have h2 : (a % b) * 2 ≤ a := by
        have h3 := Nat.div_add_mod a b
        have h4 : 1 ≤ a / b := (Nat.le_div_iff_mul_le hb').mpr (by omega)
        have h5 : b * 1 ≤ b * (a / b) := Nat.mul_le_mul_left b h4
        omega
      have h6 : b * (a % b) * 2 ^ i ≤ a * b * 2 ^ (i - 1) := by
        have : b * (a % b) * 2 ^ i = b * ((a % b) * 2) * 2 ^ (i - 1) := by
          have q : 2 ^ i = 2 * 2 ^ (i - 1) := by
            rw [e1, Nat.pow_succ, Nat.add_sub_cancel, Nat.mul_comm]
          rw [q, ← Nat.mul_assoc, Nat.mul_assoc b (a % b) 2]
        rw [this, Nat.mul_comm a b]
        exact Nat.mul_le_mul_right _ (Nat.mul_le_mul_left b h2)
      exact Nat.lt_of_le_of_lt h6 h
theorem Eu.out {g a b : Nat} (E : Eu g 4000 a b) : b = 0 := by
  rcases E.ms with ⟨e, _⟩ | ⟨_, hba, h⟩
  · cases e
  · rcases Nat.eq_zero_or_pos b with q | q
    · exact q
    · have h1 : 1 ≤ a * b := Nat.mul_pos (by omega) q
      have h2 : 1 * 2 ^ (4000 - 1) ≤ a * b * 2 ^ (4000 - 1) := Nat.mul_le_mul_right _ h1
      have h3 : (2 : Nat) ^ 2000 ≤ 2 ^ (4000 - 1) := Nat.pow_le_pow_right (by decide) (by decide)
      omega
theorem Eu.fin {g i a : Nat} (E : Eu g i a 0) : a = g := by
  have := E.gc
  rw [Nat.gcd_zero_right] at this
  exact this
/-! ### bounds -/
/-- a number of less than k bits -/
def Bd (k : Nat) (x : Int) : Prop := x.natAbs < 2 ^ k
theorem Bd.le {j k : Nat} {x : Int} (h : Bd j x) (hjk : j ≤ k) : Bd k x := Nat.lt_of_lt_of_le h (Nat.pow_le_pow_right (by decide) hjk)
theorem Bd.mul {j k : Nat} {x y : Int} (h : Bd j x) (h' : Bd k y) : Bd (j + k) (x * y) := by
  unfold Bd
  rw [Int.natAbs_mul, Nat.pow_add]
  exact Nat.mul_lt_mul'' h h'
theorem Bd.add {k : Nat} {x y : Int} (h : Bd k x) (h' : Bd k y) : Bd (k + 1) (x + y) := by
  unfold Bd at *
  rw [Nat.pow_succ]
  omega
theorem Bd.sub {k : Nat} {x y : Int} (h : Bd k x) (h' : Bd k y) : Bd (k + 1) (x - y) := by
  unfold Bd at *
  rw [Nat.pow_succ]
  omega
theorem Bd.of_abs {k : Nat} {x y : Int} (h : Bd k x) (e : y.natAbs ≤ x.natAbs) : Bd k y := Nat.lt_of_le_of_lt e h
theorem div_abs {g q n : Int} (hg : 0 < g) (e : n = g * q) : q.natAbs ≤ n.natAbs := by
  rw [e, Int.natAbs_mul]
  exact Nat.le_mul_of_pos_left _ (by omega)
theorem Bd.rn {k : Nat} {n d : Int} (h : 0 < d) (hn : Bd k n) : Bd k (rn n d) := hn.of_abs (div_abs (G_pos h) (n_eq n d))
theorem Bd.rd {k : Nat} {n d : Int} (h : 0 < d) (hn : Bd k d) : Bd k (rd n d) := hn.of_abs (div_abs (G_pos (n := n) h) (d_eq n d))
theorem Bd.G {k : Nat} {n d : Int} (h : 0 < d) (hn : Bd k d) : Bd k (G n d) := by
  refine hn.of_abs (div_abs (g := K0.rd n d) (rd_pos h) ?_)
  rw [Int.mul_comm]
  exact d_eq n d
theorem Bd.sg {k : Nat} {n m : Int} (h : Bd k n) : Bd k (n * sg m) ∧ Bd k (sg m * n) := by
  unfold K0.sg
  constructor
  · split
    · rwa [Int.mul_one]
    · refine h.of_abs ?_
      rw [Int.natAbs_mul]
      show n.natAbs * 1 ≤ _
      omega
  · split
    · rwa [Int.one_mul]
    · refine h.of_abs ?_
      rw [Int.natAbs_mul]
      show 1 * n.natAbs ≤ _
      omega
theorem Bd.of_small {x : Int} {k : Nat} (h : x.natAbs < 1073741824) (hk : 30 ≤ k) : Bd k x := Bd.le (j := 30) (by unfold Bd; exact Nat.lt_of_lt_of_le h (by decide)) hk
end K0

set_option Elab.async false
set_option linter.all false
set_option maxRecDepth 100000
set_option maxHeartbeats 4000000
/-! Own operators, == and str() of plain instances; making and methods within a try; isinstance of a caught error by a tuple of classes. -/
namespace K0
open PySem PySem.Spec PyProof.Rows L2
section
variable {X : Cx} {CX : CXT} {k : Nat} {f C : Addr} {fd : FuncData} {ps : List Str} {sp : Sp} {E : XK}
def rOwnB (C : Addr) (sp : Sp) (E : XK) : R2 := fun x y H Q => ∃ a dx fs b dy gs, x = .ref a ∧ y = .ref b ∧ H a = some (.ins C dx fs) ∧ H b = some (.ins C dy gs) ∧ sp [x, y] H Q E
theorem op_ownB {op : Operator} (F : FnOk X.prog X.w X.K X.mg X.base CX k f fd ps sp) (hr : Room k X.A) (hc : PySem.W.selfFirst X.K C = true)
    (hs : PySem.W.findIn X.K (.ref C) (PySem.dunder op.info.2) = some (some (.ref f))) (hf : PySem.W.isFn X.K (.ref f) = true) (hb : Binds X.K fd ps []) (hx : Passes CX X E) : OpR X (binaryOp op) (rOwnB C sp E) := by
  intro pins s σ H x y v u Q I rx ry h
  obtain ⟨a, dx, fs, b, dy, gs, rfl, rfl, ha, hb', q⟩ := h
  cases (show v = Value.ref a from rx)
  cases (show u = Value.ref b from ry)
  obtain ⟨mA, J, _⟩ := ins_get I.hok ha
  obtain ⟨mB, J', _⟩ := ins_get I.hok hb'
  obtain ⟨od, J, _⟩ := J.look
  obtain ⟨od', J', _⟩ := J'.look
  obtain ⟨m, hF⟩ := I.fr
  refine PySem.W.binop_K hF I.ok.mod.kin J J'.type hc hs hf ?_
  refine wpAny_mono (run_fn (us := [.ref a, .ref b]) (vs := [.ref a, .ref b]) (ds := []) (dvs := []) F hr hb .nil hx I (.cons rfl (.cons rfl .nil)) q) (fun w s' z => ?_) fun _ _ x => x
  obtain ⟨z', H', I', rz, qz⟩ := z
  exact SlX.cmpback rz ⟨z', H', I', rz, qz⟩
theorem op_ownE (F : FnOk X.prog X.w X.K X.mg X.base CX k f fd ps sp) (hr : Room k X.A)
    (hs : PySem.W.findIn X.K (.ref C) "__eq__" = some (some (.ref f))) (hf : PySem.W.isFn X.K (.ref f) = true) (hb : Binds X.K fd ps []) (hx : Passes CX X E) : OpR X (compareOp .Eq) (rOwnB C sp E) := by
  intro pins s σ H x y v u Q I rx ry h
  obtain ⟨a, dx, fs, b, dy, gs, rfl, rfl, ha, hb', q⟩ := h
  cases (show v = Value.ref a from rx)
  cases (show u = Value.ref b from ry)
  obtain ⟨mA, J, _⟩ := ins_get I.hok ha
  obtain ⟨mB, J', _⟩ := ins_get I.hok hb'
  obtain ⟨od, J, _⟩ := J.look
  obtain ⟨od', J', _⟩ := J'.look
  obtain ⟨m, hF⟩ := I.fr
  show wpAny (model X.prog X.w) X.A (richCompare .Eq (.ref a) (.ref b)) _ _ _
  refine PySem.W.cmp_K (op := .Eq) (tb := .ref C) hr.units0 hF I.ok.mod.kin J J'.type (by simp [PySem.W.notFirst]) hs hf ?_
  refine wpAny_mono (run_fn (us := [.ref a, .ref b]) (vs := [.ref a, .ref b]) (ds := []) (dvs := []) F hr hb .nil hx I (.cons rfl (.cons rfl .nil)) q) (fun w s' z => ?_) fun _ _ x => x
  obtain ⟨z', H', I', rz, qz⟩ := z
  exact SlX.cmpback rz ⟨z', H', I', rz, qz⟩
def rStrOwn (C : Addr) (sp : Sp) (E : XK) : List V → Hp → VK → Prop := fun xs H Q => ∃ a dx fs, xs = [.ref a] ∧ H a = some (.ins C dx fs) ∧ sp [.ref a] H (fun z H' => ∃ y, z = .str y ∧ Q z H') E
theorem call_strOwn (F : FnOk X.prog X.w X.K X.mg X.base CX k f fd ps sp) (hr : Room (k + 2) X.A)
    (hs : PySem.W.findIn X.K (.ref C) "__str__" = some (some (.ref f))) (hf : PySem.W.isFn X.K (.ref f) = true) (hb : Binds X.K fd ps []) (hx : Passes CX X E) : CallR X (.type "str") (rStrOwn C sp E) := by
  intro pins s σ H xs us Q I r h
  obtain ⟨a, dx, fs, rfl, ha, q⟩ := h
  obtain ⟨u, rfl, ru⟩ := r.one
  cases (show u = Value.ref a from ru)
  obtain ⟨mA, J, _⟩ := ins_get I.hok ha
  obtain ⟨od, J, _⟩ := J.look
  have hr2 : Room k X.A.in1.in1 := (show Room (k + 1) X.A.in1 from Room.in1 hr).in1
  have hl := F.len _ _ _ _ q
  refine PySem.W.kso_call hr2.units0 I.kIn J hs hf (wpAny_call (codeAny_mono (F.run X.A.in1.in1 X.stack s H ⟨[.ref a], []⟩ [.ref a] [.ref a] _ E hr2 I.env0.in1.in1 (by
    have := hb s [.ref a] I.kIn (by simpa using hl)
    simpa using this) (.cons rfl .nil) q) fun r s' hq => ?_))
  cases r with
  | error e => exact hx pins σ H s e s' I hq
  | ok fl =>
    cases fl with
    | ret w =>
      obtain ⟨z, H', I', rz, y, ez, qz⟩ := I.after hq
      subst ez
      obtain ⟨t, e⟩ := (show ∃ t, w = Value.str y t from rz)
      cases e
      exact ⟨.str y, H', I', ⟨t, rfl⟩, qz⟩
    | next => exact False.elim hq
    | brk => exact False.elim hq
    | cont => exact False.elim hq
end
/-! ### within a try: what is wished at the slots -/
section
variable {X : Cx} {CX : CXT} {k : Nat} {f C : Addr} {fd : FuncData} {ps : List Str} {sp : Sp} {dvs : List V} {ds : List Value} {E : L2.St → XK} {x m : Str} {p pos apos : Pos} {e o : Expr} {es : List Expr} {ta : TE} {t : TA}
def tMakeS (C : Addr) (sp : Sp) (E : L2.St → XK) (t : TA) : TE := fun σ H Q => t σ H fun vs H1 => ∀ x dx, H1 x = none → H1 dx = none → dx ≠ x →
  sp (.ref x :: vs) (upd (upd H1 dx (.own x)) x (.ins C dx [])) (fun v H2 => v = .non ∧ Q (.ref x) H2) (E σ)
def tMethS (C : Addr) (m : Str) (sp : Sp) (E : L2.St → XK) (ta : TE) (t : TA) : TE := fun σ H Q => ta σ H fun x H1 => ∃ a dx fs, x = .ref a ∧ H1 a = some (.ins C dx fs) ∧ fs.lookup m = none ∧
  t σ H1 fun vs H2 => sp (x :: vs) H2 Q (E σ)
theorem run_makeS {pins : List (Addr × Obj)} {σ : L2.St} {H : Hp} {s : Shared} {Q : VK} {us : List Value} {vs : List V} (M : Mk X.K C f) (F : FnOk X.prog X.w X.K X.mg X.base CX k f fd ps sp) (hr : Room (k + 1) X.A) (hb : Binds X.K fd ps [])
    (hx : PassesAt CX X σ (E σ)) (I : Inv X pins σ H s) (r : Vals vs us)
    (h : ∀ x dx, H x = none → H dx = none → dx ≠ x → sp (.ref x :: vs) (upd (upd H dx (.own x)) x (.ins C dx [])) (fun v H2 => v = .non ∧ Q (.ref x) H2) (E σ)) :
    wpAny (model X.prog X.w) X.A (call (.ref C) us) (EP X pins σ Q) X.xe s := by
  have hq := h (s.heap.objs.size + 1) s.heap.objs.size (I.hok.fresh (Nat.le_succ _)) (I.hok.fresh (Nat.le_refl _)) (Nat.ne_of_lt (Nat.lt_succ_self _))
  have I2 := Inv.made (C := C) I
  have r2 : Vals (V.ref (s.heap.objs.size + 1) :: vs) (Value.ref (s.heap.objs.size + 1) :: us) := .cons rfl r
  have hl : (Value.ref (s.heap.objs.size + 1) :: us ++ []).length = ps.length := by
    have e := r2.length
    rw [F.len _ _ _ _ hq] at e
    rw [List.append_nil]
    exact e.symm
  have hB := hb { s with heap := _ } (Value.ref (s.heap.objs.size + 1) :: us) I2.kIn hl
  rw [List.append_nil] at hB
  refine wpAny_call (make_map (f := f) I.kIn M.makes M.init (beq_iff_eq.mp M.fn) (codeAny_mono (F.run _ X.stack _ _ ⟨Value.ref (s.heap.objs.size + 1) :: us, []⟩ (Value.ref (s.heap.objs.size + 1) :: us) _ _ (E σ) (hr.make C us [])
    (I2.env0.make C us []) hB r2 hq) fun r s' hq' => ?_))
  cases r with
  | error e => exact hx pins _ _ e s' I2 hq'
  | ok fl =>
    cases fl with
    | ret u =>
      obtain ⟨v, H', I3, rv, ev, q3⟩ := I2.after hq'
      subst ev
      exact ⟨rv, ⟨V.ref (s.heap.objs.size + 1), H', I3, rfl, q3⟩⟩
    | next => exact False.elim hq'
    | brk => exact False.elim hq'
    | cont => exact False.elim hq'
theorem pe_makeS (M : Mk X.K C f) (F : FnOk X.prog X.w X.K X.mg X.base CX k f fd ps sp) (hr : Room (k + 1) X.A) (hg : Gl X x) (hm : X.mg x = some (.ref C)) (hb : Binds X.K fd ps []) (hx : ∀ σ, PassesAt CX X σ (E σ))
    (ha : PA X (e :: es) t) (hdb : (x == ("__debug__" : Str)) = false := by decide) (he : starEach (e :: es) X.env = (false, eval e X.env) :: starEach es X.env := by rfl) (hpl : (backTo pos (starEach es X.env)).any (·.1) = false := by rfl) :
    PE X (.Call (.Name x p) (e :: es) [] pos) (tMakeS C sp E t) := by
  refine ⟨fun pins s σ H Q I h => ?_⟩
  refine wpAny_Call_Name_kw (ld_glob I hg hm ?_ hdb)
  refine PySem.W.callWith_K (h₀ := X.base) I.ok.mod.kin M.kp (thn (ha.run pos pins s σ H _ I h) fun us s1 ⟨vs, H1, I1, r, q⟩ => ⟨I1.kIn, ?_⟩) he hpl
  exact run_makeS M F hr hb (hx σ) I1 r q
theorem pe_methS {pl : Sem Bool} (he : PE X o ta) (c : Cls X.K C) (hm : Meth X.K C m f) (F : FnOk X.prog X.w X.K X.mg X.base CX k f fd ps sp) (hr : Room k X.A) (hb : Binds X.K fd ps []) (hx : ∀ σ, PassesAt CX X σ (E σ)) (ha : PA X (e :: es) t)
    (hst : starEach (e :: es) X.env = (false, eval e X.env) :: starEach es X.env := by rfl) (hpl : (backTo pos (starEach es X.env)).any (·.1) = false := by rfl)
    (ht : eval (.Call (.Attribute o m apos) (e :: es) [] pos) X.env = (do
      let ov ← eval o X.env
      standAt apos.atName
      let (f, first) ← holding [ov] (getMethod ov m pl)
      callWith pos f first (backTo pos (starEach (e :: es) X.env)) (backToKw pos (keywordEach [] X.env))) := by rfl) :
    PE X (.Call (.Attribute o m apos) (e :: es) [] pos) (tMethS C m sp E ta t) := by
  refine ⟨fun pins s σ H Q I h => ?_⟩
  refine PySem.W.methodCall_KW (pl := pl) (thn (he.run pins s σ H _ I h) fun u s1 ⟨x, H1, I1, rx, a, dx, fs, ex, ea, l, q⟩ => ?_) ht
  subst ex
  obtain rfl : u = Value.ref a := rx
  refine getmeth_ok I1 ea c hm l ?_
  refine PySem.W.callWith_K (first := [.ref a]) (h₀ := X.base) I.ok.mod.kin hm.kp (thn (ha.run pos pins s1 σ H1 _ I1 q) fun us s2 ⟨vs, H2, I2, r, q2⟩ => ⟨I2.kIn, ?_⟩) hst hpl
  exact run_fnS (us := .ref a :: us) (vs := .ref a :: vs) F hr hb (hx σ) I2 (.cons rfl r) q2
end
/-! ### the error that a suite holds -/
def rIsE1 (K : PySem.W.Frag) (D a : Addr) (cls : Value) (d : Option Addr) : List V → Hp → VK → Prop := fun xs H Q => cls = .ref D ∧ d = none ∧ rIsE K D a xs H Q
theorem call_isE1 {X : Cx} {a D : Addr} {oe : Obj} {pn : List (Addr × Obj)} {cls : Value} {d : Option Addr} (C : ExcC X.K D) (hz : Zc cls d oe) (hf : ∃ vs, oe.data = .fields vs) : CallR (X.suite a ((a, oe) :: pn)) (.builtin "isinstance") (rIsE1 X.K D a cls d) := by
  intro pins s σ H xs us Q I r h
  obtain ⟨rfl, rfl, h⟩ := h
  exact call_isE C hz hf pins s σ H xs us Q I r h
def rIsET (K : PySem.W.Frag) (D a : Addr) (cls : Value) (d : Option Addr) : List V → Hp → VK → Prop := fun xs H Q => cls = .ref D ∧ d = none ∧ ∃ (tp : Addr) (cs : List V) (us : List Value) (b : Bool), xs = [.ref a, .ref tp] ∧ H tp = some (.tup cs) ∧ Paired ClsV cs us ∧ PySem.W.kitAny K (.ref D) us = some b ∧ Q (.bl b) H
theorem call_isET {X : Cx} {a D : Addr} {oe : Obj} {pn : List (Addr × Obj)} {cls : Value} {d : Option Addr} (C : ExcC X.K D) (hz : Zc cls d oe) (hf : ∃ vs, oe.data = .fields vs) : CallR (X.suite a ((a, oe) :: pn)) (.builtin "isinstance") (rIsET X.K D a cls d) := by
  intro pins s σ H xs us Q I r h
  obtain ⟨rfl, rfl, tp, cs, ws, b, rfl, hT, k, e, q⟩ := h
  obtain ⟨u1, u2, rfl, r1, r2⟩ := vals2 r
  cases (show u1 = Value.ref a from r1)
  cases (show u2 = Value.ref tp from r2)
  obtain ⟨hget, _⟩ := I.pin (a, oe) (List.mem_append.mpr (.inl List.mem_cons_self))
  obtain ⟨vs, hv⟩ := hf
  have J : PySem.W.InstAt s.heap a oe D none := by
    obtain ⟨oc, od, oda, osl⟩ := oe
    obtain ⟨h1, h2⟩ := hz
    dsimp only at h1 h2 hv
    subst h1 h2 hv
    exact ⟨hget, rfl, rfl, trivial⟩
  obtain ⟨_, its, rv, o, h1, h2, n, h3⟩ := (show ObjOk X.prog X.w H s.heap tp (.tup cs) from I.hok tp _ hT)
  have e3 := ClsV.all k rv
  subst e3
  obtain ⟨oc, od, dt, sl⟩ := o
  simp only at h2 h3
  subst h2 h3
  exact PySem.W.kia_tup (PySem.W.handS_kitx_exc C.hg C.hk C.hs C.hd C.ha C.hn C.ht C.hm) I.kIn J h1 e (fun z => nomatch z) fun tk => ⟨.bl b, H, I.kept (t' := tk) fun _ _ z => z, rfl, q⟩
end K0

set_option Elab.async false
set_option linter.all false
set_option maxRecDepth 100000
set_option maxHeartbeats 4000000
namespace K0
open PySem PySem.Spec PyProof.Rows L2
/-! ### the text by places -/
def top (i : Nat) : Stmt := PySem.Challenge.pw_lostleast_k71_whole_lines_of_plans_are_r.main.body.getD i (.Pass ⟨0, 0, 0, 0⟩)
abbrev sInit : Stmt := inClass (top 12) 0
abbrev sAdd : Stmt := inClass (top 12) 1
abbrev sSub : Stmt := inClass (top 12) 2
abbrev sMul : Stmt := inClass (top 12) 3
abbrev sEq : Stmt := inClass (top 12) 4
abbrev sStr : Stmt := inClass (top 12) 5
abbrev sLess : Stmt := inClass (top 12) 6
/-! ### a fraction's fields -/
theorem nd : ¬ (("num" : Str) = "den") := by decide +kernel
def rf (n d : Int) : List (Str × V) := putF "den" (.int d) (putF "num" (.int n) [])
theorem rf_num (n d : Int) : (rf n d).lookup ("num" : Str) = some (.int n) := by
  unfold rf
  rw [lookup_putF, if_neg nd, lookup_putF, if_pos rfl]
theorem rf_den (n d : Int) : (rf n d).lookup ("den" : Str) = some (.int d) := by
  unfold rf
  rw [lookup_putF, if_pos rfl]
theorem rf_no (n d : Int) {m : Str} (h1 : ¬ m = "den") (h2 : ¬ m = "num") : (rf n d).lookup m = none := by
  unfold rf
  rw [lookup_putF, if_neg h1, lookup_putF, if_neg h2]
  all_goals rfl
def RatAt (C : Addr) (H : Hp) (a : Addr) (n d : Int) : Prop := ∃ dx, H a = some (.ins C dx (rf n d))
theorem RatAt.same {C a : Addr} {n d : Int} {H H' : Hp} (h : RatAt C H a n d) (s : Same H H') : RatAt C H' a n d := by
  obtain ⟨dx, e⟩ := h
  exact ⟨dx, s _ _ e⟩
theorem rf_put1 (n d : Int) : putF "den" (.int d) (putF "num" (.int n) []) = rf n d := rfl
def bmV : List Value := [.type "ValueError", .type "Exception", .type "BaseException", .type "object"]
/-- what the text's own classes and built-ins are -/
structure Txt (K : PySem.W.Frag) (mg : Str → Option Value) (C BR : Addr) : Prop where
  cl : Cls K C
  nN : NoAttr K C "num"
  nD : NoAttr K C "den"
  mgC : mg "Ratio" = some (.ref C)
  si : SlX.SIsi K C
  gcd : mg "gcd" = some (.builtin "math.gcd")
  gP : mg "BadRatio" = some (.ref BR)
  xP : PySem.W.excIn K BR bmV "ValueError.__new__" = true
  kP : PySem.W.keepIn K (.ref BR) = true
  bP : PySem.W.subIn K (.ref BR) (.type "BaseException") = some true
  tP : PySem.W.typeIn K (.ref BR) = some (.type "type")
  isi : mg "isinstance" = none
  int : mg "int" = none
  str : mg "str" = none
  len : mg "len" = none
  list : mg "list" = none
  tuple : mg "tuple" = none
  bool : mg "bool" = none
  range : mg "range" = none
  abs : mg "abs" = none
theorem kit_self {K : PySem.W.Frag} {t : Value} : PySem.W.kitOne K t t = some true := by
  unfold PySem.W.kitOne
  rw [if_pos (by simp)]
/-! ### promises of the class's methods -/
def spInit (C BR : Addr) : Sp := fun vs H Q E => ∃ (p dx : Addr) (n d : Int), vs = [.ref p, .int n, .int d] ∧ H p = some (.ins C dx []) ∧ Bd 8900 d ∧ (d ≤ 0 → E (.ref BR) none H) ∧
  (0 < d → ∀ H' : Hp, RatAt C H' p (rn n d) (rd n d) → (∀ b o, H b = some o → b ≠ p → H' b = some o) → Q .non H')
/-- +, -, *: a new fraction of N and D in lowest terms -/
def spBin (C : Addr) (N D : Int → Int → Int → Int → Int) : Sp := fun vs H Q _ => ∃ (a b : Addr) (n d m e : Int), vs = [.ref a, .ref b] ∧ RatAt C H a n d ∧ RatAt C H b m e ∧ (∃ i j, Bd i n ∧ Bd i d ∧ Bd j m ∧ Bd j e ∧ i + j ≤ 8800 ∧ 0 < i ∧ 0 < j) ∧ 0 < d ∧ 0 < e ∧
  ∀ (x : Addr) (H' : Hp), Same H H' → RatAt C H' x (rn (N n d m e) (D n d m e)) (rd (N n d m e) (D n d m e)) → Q (.ref x) H'
def spEq (C : Addr) : Sp := fun vs H Q _ => ∃ (a b : Addr) (n d m e : Int), vs = [.ref a, .ref b] ∧ RatAt C H a n d ∧ RatAt C H b m e ∧ Q (.bl (decide (n = m) && decide (d = e))) H
def spLess (C : Addr) : Sp := fun vs H Q _ => ∃ (a b : Addr) (n d m e : Int), vs = [.ref a, .ref b] ∧ RatAt C H a n d ∧ RatAt C H b m e ∧ Bd 1000 n ∧ Bd 1000 d ∧ Bd 1000 m ∧ Bd 1000 e ∧ Q (.bl (decide (n * e < m * d))) H
/-- a number's text; a fraction's -/
def nt (n : Int) : Str := toString n
def ft (n d : Int) : Str := if d = 1 then nt n else nt n ++ "/" ++ nt d
def spStr (C : Addr) : Sp := fun vs H Q _ => ∃ (a : Addr) (n d : Int), vs = [.ref a] ∧ RatAt C H a n d ∧ Bd 1000 n ∧ Bd 1000 d ∧ Q (.str (ft n d)) H
def spOver (C BR : Addr) : Sp := fun vs H Q E => ∃ (a b : Addr) (n d m e : Int), vs = [.ref a, .ref b] ∧ RatAt C H a n d ∧ RatAt C H b m e ∧ Bd 1000 n ∧ Bd 1000 d ∧ Bd 1000 m ∧ Bd 1000 e ∧ 0 < d ∧ 0 < e ∧
  (m = 0 → E (.ref BR) none H) ∧
  (m ≠ 0 → ∀ (x : Addr) (H' : Hp), Same H H' → RatAt C H' x (rn (sg m * n * e) (d * (if m < 0 then 0 - m else m))) (rd (sg m * n * e) (d * (if m < 0 then 0 - m else m))) → Q (.ref x) H')
section
variable {P : Program} {w : World} {K : PySem.W.Frag} {mg : Str → Option Value} {base : Heap} {C BR : Addr}
/-! ### __init__ -/
theorem scI : FnScope ["self", "num", "den", "common"] ["self", "num", "den"] (defScope sInit) := ⟨rfl, rfl, rfl, by decide +kernel, rfl, by decide +kernel, by decide +kernel⟩
theorem ok_init {f : Addr} {fd : FuncData} (F : FunD K "__init__" "Ratio.__init__" (defArgs sInit) (defBody sInit) (defScope sInit) [.int 1] [] f fd) (T : Txt K mg C BR) :
    FnOk P w K mg base (L2.CX P w) 1 f fd ["self", "num", "den"] (spInit C BR) := by
  refine F.ok scI (fun vs H Q E h => ?_) (fun cdv A outer s H vs Q E hr h => ?_)
  · obtain ⟨p, dx, n, d, rfl, _⟩ := h
    rfl
  · obtain ⟨p, dx, n, d, rfl, hp, hb, hE, hQ⟩ := h
    refine ⟨_, pss_cons (ps_if (pt_cmpR op_le (pv 2) pe_int (nomark _)) (pss_one (ps_raise rfl (takes_of rfl rfl rfl rfl) (pmk_own PySem.F.excBase_ValueError T.xP T.gP T.kP (raises_own T.bP T.tP) rfl))) pss_nil)
      (pss_cons (ps_set (i := 3) scI.nd rfl (Or.inl rfl) (pe_callBfun cr_gcd rfl T.gcd (pa_cons (pv 1) (pa_cons (pv 2) pa_nil))))
      (pss_cons (ps_fld (pv 0) (pe_op op_fdivW (pv 1) (pv 3)) rfl)
      (pss_one (ps_fld (pv 0) (pe_op op_fdivW (pv 2) (pv 3)) rfl)))), ?_⟩
    refine ⟨_, rfl, _, _, rfl, rfl, _, rfl, ite2 (fun z => ?_) (fun z => ?_)⟩
    · exact hE (of_decide_eq_true z)
    · have hd : 0 < d := by
        have q : ¬ d ≤ 0 := fun q => z (decide_eq_true q)
        omega
      have hg := G_pos (n := n) hd
      have hB := wide_div (i := n) hg (Bd.G (n := n) hd hb) (by decide) (by decide)
      have hB2 := wide_div (i := d) hg (Bd.G (n := n) hd hb) (by decide) (by decide)
      refine ⟨_, rfl, _, rfl, n, d, rfl, ?_⟩
      refine ⟨_, rfl, _, rfl, n, G n d, rfl, rfl, hB, _, rfl, p, C, dx, [], rfl, hp, T.cl, T.nN, (by show 0 < 1000; decide), ?_⟩
      refine ⟨_, rfl, _, rfl, d, G n d, rfl, rfl, hB2, _, rfl, p, C, dx, _, rfl, upd_same, T.cl, T.nD, (by show 1 < 1000; decide), ?_⟩
      exact hQ hd _ ⟨dx, upd_same⟩ fun b o e hb' => by rw [upd_ne hb', upd_ne hb']; exact e
/-! ### +, -, * -/
abbrev nAdd : Int → Int → Int → Int → Int := fun n d m e => n * e + m * d
abbrev nSub : Int → Int → Int → Int → Int := fun n d m e => n * e - m * d
abbrev nMul : Int → Int → Int → Int → Int := fun n _ m _ => n * m
abbrev nDen : Int → Int → Int → Int → Int := fun _ d _ e => d * e
theorem big {i j : Nat} (h : Bd i x) (h' : Bd j y) (hi : 0 < i) (hj : 0 < j) (hij : i + j ≤ 8800) : CMulW x y := wide_mul h h' hi hj (by omega)
theorem scAd : FnScope ["self", "other"] ["self", "other"] (defScope sAdd) := ⟨rfl, rfl, rfl, by decide +kernel, rfl, by decide +kernel, by decide +kernel⟩
theorem scSu : FnScope ["self", "other"] ["self", "other"] (defScope sSub) := ⟨rfl, rfl, rfl, by decide +kernel, rfl, by decide +kernel, by decide +kernel⟩
theorem scMu : FnScope ["self", "other"] ["self", "other"] (defScope sMul) := ⟨rfl, rfl, rfl, by decide +kernel, rfl, by decide +kernel, by decide +kernel⟩
theorem made {H : Hp} {x dx : Addr} (nx : H x = none) (nd : H dx = none) : Same H (upd (upd H dx (.own x)) x (.ins C dx [])) := fun b o e => by
  rw [upd_ne (ne_of_none e nx), upd_ne (ne_of_none e nd)]
  exact e
theorem ok_add {f fI : Addr} {fd fdI : FuncData} (F : Fun K "__add__" "Ratio.__add__" sAdd f fd) (T : Txt K mg C BR) (M : Mk K C fI) (G : FnOk P w K mg base (L2.CX P w) 1 fI fdI ["self", "num", "den"] (spInit C BR)) (bI : Binds K fdI ["self", "num", "den"] []) :
    FnOk P w K mg base CX0 3 f fd ["self", "other"] (spBin C nAdd nDen) := by
  refine F.ok scAd (fun vs H Q E h => ?_) (fun cdv A outer s H vs Q E hr h => ?_)
  · obtain ⟨a, b, n, d, m, e, rfl, _⟩ := h
    rfl
  · obtain ⟨a, b, n, d, m, e, rfl, ⟨da, ha⟩, ⟨db, hb⟩, ⟨i, j, bn, bd, bm, be, hij, hi, hj⟩, hd, he, k⟩ := h
    refine ⟨_, pss_one (ps_ret (pe_make M G hr rfl T.mgC bI .nil passL (pa_cons (pe_op op_add (pe_op op_mulW (pe_fld (pv 0) rfl) (pe_fld (pv 1) rfl)) (pe_op op_mulW (pe_fld (pv 1) rfl) (pe_fld (pv 0) rfl)))
      (pa_cons (pe_op op_mulW (pe_fld (pv 0) rfl) (pe_fld (pv 1) rfl)) pa_nil)))), ?_⟩
    refine ⟨_, rfl, a, C, da, _, _, rfl, ha, T.cl, T.nN, rf_num _ _, _, rfl, b, C, db, _, _, rfl, hb, T.cl, T.nD, rf_den _ _, n, e, rfl, rfl, big bn be hi hj hij, ?_⟩
    refine ⟨_, rfl, b, C, db, _, _, rfl, hb, T.cl, T.nN, rf_num _ _, _, rfl, a, C, da, _, _, rfl, ha, T.cl, T.nD, rf_den _ _, m, d, rfl, rfl, big bm bd hj hi (by omega), _, _, rfl, rfl, ?_⟩
    refine ⟨_, rfl, a, C, da, _, _, rfl, ha, T.cl, T.nD, rf_den _ _, _, rfl, b, C, db, _, _, rfl, hb, T.cl, T.nD, rf_den _ _, d, e, rfl, rfl, big bd be hi hj hij, ?_⟩
    intro x dx nx ndx nex
    refine ⟨x, dx, n * e + m * d, d * e, rfl, upd_same, (bd.mul be).le (by omega), fun z => ?_, fun _ H' hR kp => ⟨rfl, ?_⟩⟩
    · have := Int.mul_pos hd he
      omega
    · exact k x H' (Same.made nx ndx kp) hR
theorem ok_sub {f fI : Addr} {fd fdI : FuncData} (F : Fun K "__sub__" "Ratio.__sub__" sSub f fd) (T : Txt K mg C BR) (M : Mk K C fI) (G : FnOk P w K mg base (L2.CX P w) 1 fI fdI ["self", "num", "den"] (spInit C BR)) (bI : Binds K fdI ["self", "num", "den"] []) :
    FnOk P w K mg base CX0 3 f fd ["self", "other"] (spBin C nSub nDen) := by
  refine F.ok scSu (fun vs H Q E h => ?_) (fun cdv A outer s H vs Q E hr h => ?_)
  · obtain ⟨a, b, n, d, m, e, rfl, _⟩ := h
    rfl
  · obtain ⟨a, b, n, d, m, e, rfl, ⟨da, ha⟩, ⟨db, hb⟩, ⟨i, j, bn, bd, bm, be, hij, hi, hj⟩, hd, he, k⟩ := h
    refine ⟨_, pss_one (ps_ret (pe_make M G hr rfl T.mgC bI .nil passL (pa_cons (pe_op op_sub (pe_op op_mulW (pe_fld (pv 0) rfl) (pe_fld (pv 1) rfl)) (pe_op op_mulW (pe_fld (pv 1) rfl) (pe_fld (pv 0) rfl)))
      (pa_cons (pe_op op_mulW (pe_fld (pv 0) rfl) (pe_fld (pv 1) rfl)) pa_nil)))), ?_⟩
    refine ⟨_, rfl, a, C, da, _, _, rfl, ha, T.cl, T.nN, rf_num _ _, _, rfl, b, C, db, _, _, rfl, hb, T.cl, T.nD, rf_den _ _, n, e, rfl, rfl, big bn be hi hj hij, ?_⟩
    refine ⟨_, rfl, b, C, db, _, _, rfl, hb, T.cl, T.nN, rf_num _ _, _, rfl, a, C, da, _, _, rfl, ha, T.cl, T.nD, rf_den _ _, m, d, rfl, rfl, big bm bd hj hi (by omega), _, _, rfl, rfl, ?_⟩
    refine ⟨_, rfl, a, C, da, _, _, rfl, ha, T.cl, T.nD, rf_den _ _, _, rfl, b, C, db, _, _, rfl, hb, T.cl, T.nD, rf_den _ _, d, e, rfl, rfl, big bd be hi hj hij, ?_⟩
    intro x dx nx ndx nex
    refine ⟨x, dx, n * e - m * d, d * e, rfl, upd_same, (bd.mul be).le (by omega), fun z => ?_, fun _ H' hR kp => ⟨rfl, ?_⟩⟩
    · have := Int.mul_pos hd he
      omega
    · exact k x H' (Same.made nx ndx kp) hR
theorem ok_mul {f fI : Addr} {fd fdI : FuncData} (F : Fun K "__mul__" "Ratio.__mul__" sMul f fd) (T : Txt K mg C BR) (M : Mk K C fI) (G : FnOk P w K mg base (L2.CX P w) 1 fI fdI ["self", "num", "den"] (spInit C BR)) (bI : Binds K fdI ["self", "num", "den"] []) :
    FnOk P w K mg base CX0 3 f fd ["self", "other"] (spBin C nMul nDen) := by
  refine F.ok scMu (fun vs H Q E h => ?_) (fun cdv A outer s H vs Q E hr h => ?_)
  · obtain ⟨a, b, n, d, m, e, rfl, _⟩ := h
    rfl
  · obtain ⟨a, b, n, d, m, e, rfl, ⟨da, ha⟩, ⟨db, hb⟩, ⟨i, j, bn, bd, bm, be, hij, hi, hj⟩, hd, he, k⟩ := h
    refine ⟨_, pss_one (ps_ret (pe_make M G hr rfl T.mgC bI .nil passL (pa_cons (pe_op op_mulW (pe_fld (pv 0) rfl) (pe_fld (pv 1) rfl))
      (pa_cons (pe_op op_mulW (pe_fld (pv 0) rfl) (pe_fld (pv 1) rfl)) pa_nil)))), ?_⟩
    refine ⟨_, rfl, a, C, da, _, _, rfl, ha, T.cl, T.nN, rf_num _ _, _, rfl, b, C, db, _, _, rfl, hb, T.cl, T.nN, rf_num _ _, n, m, rfl, rfl, big bn bm hi hj hij, ?_⟩
    refine ⟨_, rfl, a, C, da, _, _, rfl, ha, T.cl, T.nD, rf_den _ _, _, rfl, b, C, db, _, _, rfl, hb, T.cl, T.nD, rf_den _ _, d, e, rfl, rfl, big bd be hi hj hij, ?_⟩
    intro x dx nx ndx nex
    refine ⟨x, dx, n * m, d * e, rfl, upd_same, (bd.mul be).le (by omega), fun z => ?_, fun _ H' hR kp => ⟨rfl, ?_⟩⟩
    · have := Int.mul_pos hd he
      omega
    · exact k x H' (Same.made nx ndx kp) hR
/-! ### == , less, str -/
theorem scE : FnScope ["self", "other"] ["self", "other"] (defScope sEq) := ⟨rfl, rfl, rfl, by decide +kernel, rfl, by decide +kernel, by decide +kernel⟩
theorem ok_eq {f : Addr} {fd : FuncData} (F : Fun K "__eq__" "Ratio.__eq__" sEq f fd) (T : Txt K mg C BR) : FnOk P w K mg base CX0 1 f fd ["self", "other"] (spEq C) := by
  refine F.ok scE (fun vs H Q E h => ?_) (fun cdv A outer s H vs Q E hr h => ?_)
  · obtain ⟨a, b, n, d, m, e, rfl, _⟩ := h
    rfl
  · obtain ⟨a, b, n, d, m, e, rfl, ⟨da, ha⟩, ⟨db, hb⟩, k⟩ := h
    refine ⟨_, pss_one (ps_ret (pe_and (pe_callB call_isi (by rfl) T.isi (by decide +kernel) (pa_cons (pv 1) (pa_cons (pe_glob (v := .ref C) rfl T.mgC rfl) pa_nil)))
      (pe_and (pe_cmpR op_eq (pe_fld (pv 0) rfl) (pe_fld (pv 1) rfl) (nomark _)) (pe_one (pe_cmpR op_eq (pe_fld (pv 0) rfl) (pe_fld (pv 1) rfl) (nomark _)))))), ?_⟩
    refine ⟨_, rfl, .ref b, .ref C, .ref C, .ref C, true, rfl, .own C, .base (.ins hb T.cl T.si.ca T.si.cn T.si.ct T.si.cm), kit_self, _, rfl, iteT ?_⟩
    refine ⟨_, rfl, a, C, da, _, _, rfl, ha, T.cl, T.nN, rf_num _ _, _, rfl, b, C, db, _, _, rfl, hb, T.cl, T.nN, rf_num _ _, rfl, _, rfl, ite2 (fun z => ?_) (fun z => ?_)⟩
    · have e1 : n = m := V.int.inj (of_decide_eq_true z)
      refine ⟨_, rfl, a, C, da, _, _, rfl, ha, T.cl, T.nD, rf_den _ _, _, rfl, b, C, db, _, _, rfl, hb, T.cl, T.nD, rf_den _ _, rfl, ?_⟩
      rw [decide_eq_true e1, Bool.true_and] at k
      rw [dec_int]
      exact k
    · have e1 : ¬ n = m := fun q => z (decide_eq_true (by rw [q]))
      rw [decide_eq_false e1, Bool.false_and] at k
      exact k
theorem scSt : FnScope ["self"] ["self"] (defScope sStr) := ⟨rfl, rfl, rfl, by decide +kernel, rfl, by decide +kernel, by decide +kernel⟩
theorem log_ok {x : Int} (h : Bd 1000 x) : x.natAbs.log2 < 1920 := Nat.lt_of_lt_of_le (PySem.Flt.log2_lt_of (by decide) h) (by decide)
/-- a number's text is short -/
theorem nt_len {x : Int} (h : Bd 1000 x) : (nt x).length ≤ 1001 := by
  have e := PySem.int_text_length_le (a := x) (k := 1000) (by decide) (PySem.Flt.log2_lt_of (by decide) h)
  unfold nt
  rw [PySem.ofString_length]
  exact e
theorem fitsN {z : Nat} (h : z ≤ 3000) : z ≤ sizeLine := Nat.le_trans h (by decide)
theorem slash : Str.length ("/" : Str) ≤ 1 := by decide
theorem ok_str {f : Addr} {fd : FuncData} (F : Fun K "__str__" "Ratio.__str__" sStr f fd) (T : Txt K mg C BR) : FnOk P w K mg base CX0 1 f fd ["self"] (spStr C) := by
  refine F.ok scSt (fun vs H Q E h => ?_) (fun cdv A outer s H vs Q E hr h => ?_)
  · obtain ⟨a, n, d, rfl, _⟩ := h
    rfl
  · obtain ⟨a, n, d, rfl, ⟨da, ha⟩, bn, bd, k⟩ := h
    refine ⟨_, pss_cons (ps_if (pt_cmpR op_eq (pe_fld (pv 0) rfl) pe_int (nomark _)) (pss_one (ps_ret (pe_callTy call_str_int (by rfl) T.str (by decide +kernel) (pa_cons (pe_fld (pv 0) rfl) pa_nil)))) pss_nil)
      (pss_one (ps_ret (pe_joined (.cons (pe_fmt (pe_fld (pv 0) rfl)) (.cons pe_str (.cons (pe_fmt (pe_fld (pv 0) rfl)) .nil)))))), ?_⟩
    refine ⟨_, rfl, a, C, da, _, _, rfl, ha, T.cl, T.nD, rf_den _ _, rfl, _, rfl, ite2 (fun z => ?_) (fun z => ?_)⟩
    · have e1 : d = 1 := V.int.inj (of_decide_eq_true z)
      refine ⟨_, rfl, a, C, da, _, _, rfl, ha, T.cl, T.nN, rf_num _ _, n, rfl, log_ok bn, ?_⟩
      unfold ft at k
      rw [if_pos e1] at k
      exact k
    · have e1 : ¬ d = 1 := fun q => z (decide_eq_true (by rw [q]))
      unfold ft at k
      rw [if_neg e1] at k
      refine ⟨_, rfl, a, C, da, _, _, rfl, ha, T.cl, T.nN, rf_num _ _, .inr ⟨n, rfl, log_ok bn, _, rfl, ?_, _, rfl, ?_, ?_⟩⟩
      · rw [Str.empty_append]
        exact fitsN (Nat.le_trans (nt_len bn) (by decide))
      · rw [Str.empty_append, Str.length_append]
        have h1 := nt_len bn
        have h3 := slash
        exact fitsN (Nat.le_trans (Nat.add_le_add h1 h3) (by decide))
      · refine ⟨_, rfl, a, C, da, _, _, rfl, ha, T.cl, T.nD, rf_den _ _, .inr ⟨d, rfl, log_ok bd, _, rfl, ?_, ?_⟩⟩
        · rw [Str.empty_append, Str.length_append, Str.length_append]
          have h1 := nt_len bn
          have h2 := nt_len bd
          exact fitsN (Nat.le_trans (Nat.add_le_add (Nat.add_le_add h1 slash) h2) (by decide))
        · rw [Str.empty_append]
          exact k
end
end K0

set_option Elab.async false
set_option linter.all false
set_option maxRecDepth 100000
set_option maxHeartbeats 4000000
/-! An own error below an own error: its __init__ calls the base's by name. -/
namespace Kx
open PySem PySem.Spec PyProof.Rows L2
/-- what the written part says of the base class at B, so that B.__init__ may be called with an instance of a class below it -/
structure BaseC (K : PySem.W.Frag) (B : Addr) : Prop where
  ga : PySem.W.specialIn K (.ref B) "__getattribute__" = some (some (.builtin "type.__getattribute__"))
  rd : PySem.W.readsIn K B (.type "type") = true
  it : PySem.W.findCls K (.ref B) (.type "type") "__init__" = some (.val (.builtin "ValueError.__init__"))
section
variable {X : Cx} {e : Expr} {es : List Expr} {ta : TA} {x : Str} {B : Addr} {p1 p2 pos : Pos}
theorem pe_binit {pl : Sem Bool} (T : BaseC X.K B) (hg : Gl X x) (hm : X.mg x = some (.ref B)) (ha : PA X (e :: es) ta)
    (hc : eval (.Call (.Attribute (.Name x p1) "__init__" p2) (e :: es) [] pos) X.env = (do
      let ov ← eval (.Name x p1) X.env
      standAt p2.atName
      let (f, first) ← holding [ov] (getMethod ov "__init__" pl)
      callWith pos f first (backTo pos (starEach (e :: es) X.env)) (backToKw pos (keywordEach [] X.env))) := by rfl)
    (hdb : (x == ("__debug__" : Str)) = false := by decide)
    (he : starEach (e :: es) X.env = (false, eval e X.env) :: starEach es X.env := by rfl) (hpl : (backTo pos (starEach es X.env)).any (·.1) = false := by rfl) :
    PE X (.Call (.Attribute (.Name x p1) "__init__" p2) (e :: es) [] pos) (tVeI X.K ta) := by
  refine ⟨fun pins s σ H Q I h => ?_⟩
  refine PySem.W.methodCall_KW (ld_glob I hg hm ?_ hdb) hc
  refine PySem.W.method_cls I.kIn T.ga ?_
  refine PySem.W.cls_value I.kIn T.rd T.it (by decide +kernel) ?_
  show wpAny _ _ (callWith pos (Value.builtin "ValueError.__init__") [] (backTo pos (starEach (e :: es) X.env)) []) _ _ _
  refine PyProof.Rows.callWith_method1 (thn (ha.run pos pins _ σ H _ (I.tok _) h) fun us s1 hh => ?_) he hpl
  obtain ⟨vs, H1, I1, r1, a, C, ws, ev, hl, TC, ea, q⟩ := hh
  subst ev
  cases r1 with
  | @cons _ u0 _ ur ra rw' =>
    obtain rfl : u0 = Value.ref a := ra
    have hlen : ur.length ≤ sizeLine := Nat.le_trans (Nat.le_of_eq (Paired.length rw').symm) (Nat.le_trans hl (by decide))
    exact oinit_ok TC I1 ea hlen fun s' J => ⟨.non, H1, J, rfl, q⟩
end
/-- the promise of `def __init__(self, at): B.__init__(self, f'..'); self.at = at` -/
def spErr (C : Addr) (f : Str) : Sp := fun vs H Q _ => ∃ (a : Addr) (n : Int), vs = [.ref a, .int n] ∧ H a = some (exo a C none) ∧ n.natAbs < 2 ^ 64 ∧
  ∀ dx, H dx = none → dx ≠ a → Q .non (upd (upd H dx (exd dx [(f, .int n)])) a (exo a C (some dx)))
end Kx

set_option Elab.async false
set_option linter.all false
set_option maxRecDepth 100000
set_option maxHeartbeats 2000000
/-! == of lists and tuples whose parts compare by methods of one's own: either answer. -/
namespace Ke
open PySem PySem.Spec PyProof.Rows L2
section
variable {prog : Program} {w : World} {A : Around}
def Two (l b : Addr) (N : Nat) (s : Shared) : Prop := ∃ (items items2 : Array Value) (n n2 : Nat), s.heap.get? l = some { cls := .type "list", data := .seq items n } ∧ s.heap.get? b = some { cls := .type "list", data := .seq items2 n2 } ∧ items.size = N ∧ items2.size = N
def ListB (prog : Program) (w : World) (A : Around) (E : Value → Shared → Prop) (l b : Addr) (N : Nat) (I : Nat → Shared → Prop) (F : Shared → Prop) : Prop := ∀ (i : Nat) (s : Shared), I i s →
  ∃ (items items2 : Array Value) (n n2 : Nat), s.heap.get? l = some { cls := .type "list", data := .seq items n } ∧ s.heap.get? b = some { cls := .type "list", data := .seq items2 n2 } ∧ items.size = N ∧ items2.size = N ∧
    ∀ (h1 : i < items.size) (h2 : i < items2.size), wpAny (model prog w) A.in1 (eqBool items[i] items2[i]) (fun r s' => (r = true ∧ I (i + 1) s') ∨ (r = false ∧ Two l b N s' ∧ F s')) E s
theorem items_at {E : Value → Shared → Prop} {l : Addr} {items : Array Value} {n : Nat} {Q : Array Value → Shared → Prop} {s : Shared} (h : s.heap.get? l = some { cls := .type "list", data := .seq items n }) (q : Q items s) : wpAny (model prog w) A (Builtin.List.listItems (.ref l)) Q E s := by
  obtain ⟨hp, g, d, tk, os⟩ := s
  exact wpAny_bind (wpAny_bind (wpAny_load' h (wpAny_pure (wpAny_pure q))))
theorem eq_loopB {R : Result → Shared → Prop} (l b : Addr) (N : Nat) (I : Nat → Shared → Prop) (F : Shared → Prop) (hl : ListB prog w A (fun e s' => R (.error e) s') l b N I F) (fin : ∀ s, I N s → R (.ok (.ret (.bool true))) s) (finF : ∀ s, F s → R (.ok (.ret (.bool false))) s) :
    ∀ (k i : Nat), N - i = k → i ≤ N → ∀ s, I i s → wpAny (model prog w) A.in1 (Builtin.«list.__eq__.loop» { pos := [.ref l, .ref b, rawInt (i : Int), rawInt 2] }) (GQ.FinOf prog w A R) (fun e s' => R (.error e) s') s := by
  intro k
  induction k with
  | zero =>
    intro i hk hi s h
    obtain ⟨items, items2, n, n2, e1, e2, z1, z2, _⟩ := hl i s h
    have hi' : i = N := by omega
    refine wpAny_bind (items_at e1 (wpAny_bind (items_at e2 ?_)))
    have h1 : items[(i : Int).toNat]? = none := by
      rw [show (i : Int).toNat = i from rfl]
      exact Array.getElem?_eq_none (by omega)
    have h2 : items2[(i : Int).toNat]? = none := by
      rw [show (i : Int).toNat = i from rfl]
      exact Array.getElem?_eq_none (by omega)
    rw [h1, h2]
    refine wpAny_bind (items_at e1 (wpAny_bind (items_at e2 (wpAny_pure ?_))))
    show R (.ok (.ret (.bool (items.size == items2.size)))) s
    rw [z1, z2, beq_self_eq_true]
    exact fin s (hi' ▸ h)
  | succ k ih =>
    intro i hk hi s h
    obtain ⟨items, items2, n, n2, e1, e2, z1, z2, turn⟩ := hl i s h
    refine wpAny_bind (items_at e1 (wpAny_bind (items_at e2 ?_)))
    have l1 : i < items.size := by omega
    have l2 : i < items2.size := by omega
    have h1 : items[(i : Int).toNat]? = some items[i] := getElem?_pos items i l1
    have h2 : items2[(i : Int).toNat]? = some items2[i] := getElem?_pos items2 i l2
    rw [h1, h2]
    refine wpAny_bind (wpAny_mono (turn l1 l2) (fun r s2 hh => ?_) fun _ _ z => z)
    rcases hh with ⟨rfl, h3⟩ | ⟨rfl, ⟨i1, i2, m1, m2, t1, t2, y1, y2⟩, h3⟩
    · refine wpAny_ite_true rfl (wpAny_pure ?_)
      refine ⟨plainId_quiet MeetsSeq3.plain_eq_loop _, codeAny_builtin MeetsSeq3.entry_eq_loop ?_⟩
      rw [Around.under_plainId MeetsSeq3.plain_eq_loop]
      exact ih (i + 1) (by omega) (by omega) s2 h3
    · rw [if_neg Bool.false_ne_true]
      refine wpAny_bind (items_at t1 (wpAny_bind (items_at t2 ?_)))
      have g1 : i1[(i : Int).toNat]? = some i1[i] := getElem?_pos i1 i (by omega)
      have g2 : i2[(i : Int).toNat]? = some i2[i] := getElem?_pos i2 i (by omega)
      rw [g1, g2]
      exact wpAny_pure (finF s2 h3)
theorem list_eqB {R : Result → Shared → Prop} (l b : Addr) (N : Nat) (I : Nat → Shared → Prop) (F : Shared → Prop) (hl : ListB prog w A (fun e s' => R (.error e) s') l b N I F) (fin : ∀ s, I N s → R (.ok (.ret (.bool true))) s) (finF : ∀ s, F s → R (.ok (.ret (.bool false))) s) {s : Shared} (h : I 0 s) :
    wpAny (model prog w) A.in1 (Builtin.«list.__eq__» { pos := [.ref l, .ref b] }) (GQ.FinOf prog w A R) (fun e s' => R (.error e) s') s := by
  obtain ⟨items, items2, n, n2, e1, e2, z1, z2, _⟩ := hl 0 s h
  have hrec := eq_loopB l b N I F hl fin finF (N - 0) 0 rfl (Nat.zero_le N) s h
  have f3 := AutoSeq1.sub_list_list
  refine wpAny_bind (wpAny_of_eq (a := ((Value.ref l : Value), [Value.ref b])) rfl ?_)
  obtain ⟨hp, g, d, tk, os⟩ := s
  refine wpAny_bind (wpAny_bind (wpAny_bind (wpAny_loadPart' e2 (wpAny_pure (wpAny_of_eq f3 ?_)))))
  refine wpAny_ite_false (by decide) (wpAny_ite_true (by decide) (wpAny_bind (items_at e1 (wpAny_bind (items_at e2 ?_)))))
  have hne : ¬ ((items.size != items2.size) = true) := by rw [z1, z2]; simp
  refine wpAny_ite_false (by simpa using hne) (wpAny_pure ?_)
  refine ⟨plainId_quiet MeetsSeq3.plain_eq_loop _, codeAny_builtin MeetsSeq3.entry_eq_loop ?_⟩
  rw [Around.under_plainId MeetsSeq3.plain_eq_loop]
  exact hrec
/-- of two lengths -/
theorem list_neB {R : Result → Shared → Prop} (l b : Addr) {items items2 : Array Value} {n n2 : Nat} {s : Shared} (e1 : s.heap.get? l = some { cls := .type "list", data := .seq items n }) (e2 : s.heap.get? b = some { cls := .type "list", data := .seq items2 n2 }) (hz : items.size ≠ items2.size) (fin : R (.ok (.ret (.bool false))) s) :
    wpAny (model prog w) A.in1 (Builtin.«list.__eq__» { pos := [.ref l, .ref b] }) (GQ.FinOf prog w A R) (fun e s' => R (.error e) s') s := by
  have f3 := AutoSeq1.sub_list_list
  refine wpAny_bind (wpAny_of_eq (a := ((Value.ref l : Value), [Value.ref b])) rfl ?_)
  obtain ⟨hp, g, d, tk, os⟩ := s
  refine wpAny_bind (wpAny_bind (wpAny_bind (wpAny_loadPart' e2 (wpAny_pure (wpAny_of_eq f3 ?_)))))
  refine wpAny_ite_false (by decide) (wpAny_ite_true (by decide) (wpAny_bind (items_at e1 (wpAny_bind (items_at e2 ?_)))))
  refine wpAny_ite_true (by simpa using hz) ?_
  refine wpAny_bind (wpAny_rule ?_)
  refine wpAny_of_eq (a := Fin.done (.ret (.bool false))) rfl ?_
  exact fin
theorem rc_listB {E : Value → Shared → Prop} {s : Shared} {l b : Addr} {N : Nat} {Q : Value → Shared → Prop} (hu : A.units < cLine) (I : Nat → Shared → Prop) (F : Shared → Prop) (hl : ListB prog w A E l b N I F) (fin : ∀ s, I N s → Q (.bool true) s) (finF : ∀ s, F s → Q (.bool false) s) (h : I 0 s) :
    wpAny (model prog w) A (richCompare .Eq (.ref l) (.ref b)) Q E s := by
  obtain ⟨items, items2, n, n2, e1, e2, _⟩ := hl 0 s h
  exact wpAny_richCompare_same_room ⟨_, e1, rfl⟩ ⟨_, e2, rfl⟩ PySem.F.slot_list_eq (GQ.call_here PySem.F.slot_list_eq ⟨_, e1, rfl⟩ PySem.F.entry_list_eq (PySem.F.args_list_eq_2 (.ref l) (.ref b)) (list_eqB l b N I F hl (fun s' q => ⟨nofun, fin s' q⟩) (fun s' q => ⟨nofun, finF s' q⟩) h)) hu
theorem rc_listN {E : Value → Shared → Prop} {s : Shared} {l b : Addr} {items items2 : Array Value} {n n2 : Nat} {Q : Value → Shared → Prop} (hu : A.units < cLine) (e1 : s.heap.get? l = some { cls := .type "list", data := .seq items n }) (e2 : s.heap.get? b = some { cls := .type "list", data := .seq items2 n2 }) (hz : items.size ≠ items2.size) (fin : Q (.bool false) s) :
    wpAny (model prog w) A (richCompare .Eq (.ref l) (.ref b)) Q E s :=
  wpAny_richCompare_same_room ⟨_, e1, rfl⟩ ⟨_, e2, rfl⟩ PySem.F.slot_list_eq (GQ.call_here PySem.F.slot_list_eq ⟨_, e1, rfl⟩ PySem.F.entry_list_eq (PySem.F.args_list_eq_2 (.ref l) (.ref b)) (list_neB l b e1 e2 hz ⟨nofun, fin⟩)) hu
/-! ### tuples -/
theorem titems_at {E : Value → Shared → Prop} {l : Addr} {o : Obj} {items : Array Value} {n : Nat} {Q : Array Value → Shared → Prop} {s : Shared} (h : s.heap.get? l = some o) (ho : o.data = .seq items n) (q : Q items s) : wpAny (model prog w) A (Builtin.Tuple.tupleItemsOf (.ref l)) Q E s := by
  obtain ⟨hp, g, d, tk, os⟩ := s
  obtain ⟨c, dd, dt, sl⟩ := o
  cases ho
  exact wpAny_bind (wpAny_bind (wpAny_load' h (wpAny_pure (wpAny_pure q))))
theorem tup_eqB {R : Result → Shared → Prop} (l b : Addr) {o o2 : Obj} {items items2 : Array Value} {n n2 : Nat} (I : Nat → Shared → Prop) (F : Shared → Prop)
    (turn : ∀ (i : Nat) (h1 : i < items.size) (h2 : i < items2.size) (s : Shared), I i s → wpAny (model prog w) A.in1 (eqBool items[i] items2[i]) (fun r s' => (r = true ∧ I (i + 1) s') ∨ (r = false ∧ F s')) (fun e s' => R (.error e) s') s)
    (fin : ∀ s, I (min items.size items2.size) s → R (.ok (.ret (.bool (items.size == items2.size)))) s) (finF : ∀ s, F s → R (.ok (.ret (.bool false))) s) {s : Shared}
    (e1 : s.heap.get? l = some o) (c1 : o.cls = .type "tuple") (d1 : o.data = .seq items n) (e2 : s.heap.get? b = some o2) (c2 : o2.cls = .type "tuple") (d2 : o2.data = .seq items2 n2) (h : I 0 s) :
    wpAny (model prog w) A.in1 (Builtin.«tuple.__eq__» { pos := [.ref l, .ref b] }) (GQ.FinOf prog w A R) (fun e s' => R (.error e) s') s := by
  have f2 := AutoSeq1.sub_tuple_tuple
  refine wpAny_bind (wpAny_of_eq (a := ((Value.ref l : Value), [Value.ref b])) rfl ?_)
  obtain ⟨hp, g, d, tk, os⟩ := s
  refine wpAny_bind (wpAny_bind (wpAny_bind (wpAny_loadPart' e2 (wpAny_pure ?_))))
  rw [c2]
  refine wpAny_of_eq f2 (wpAny_ite_false (by decide) (wpAny_bind (titems_at e1 d1 (wpAny_bind (titems_at e2 d2 ?_)))))
  have hZ : (items.toList.zip items2.toList).length = min items.size items2.size := by rw [List.length_zip, Array.length_toList, Array.length_toList]
  refine wpAny_bind (wpAny_forIn_list _ (fun rest b s' => b.1 = none ∧ ∃ i, rest = (items.toList.zip items2.toList).drop i ∧ i ≤ min items.size items2.size ∧ I i s') _ ?_ ?_ _ _ ⟨rfl, 0, rfl, Nat.zero_le _, h⟩)
  · rintro ⟨x, y⟩ rest ⟨b1, b2⟩ s' ⟨hb, i, hr, hi, hI⟩
    have hlt : i < (items.toList.zip items2.toList).length := by
      refine Nat.lt_of_not_le fun z => ?_
      rw [List.drop_of_length_le z] at hr
      cases hr
    have l1 : i < items.size := by omega
    have l2 : i < items2.size := by omega
    rw [List.drop_eq_getElem_cons hlt, List.getElem_zip] at hr
    obtain ⟨hxy, hrest⟩ := List.cons.inj hr
    obtain ⟨rfl, rfl⟩ := Prod.mk.inj hxy
    refine wpAny_bind (wpAny_mono (turn i l1 l2 s' hI) (fun r s2 hh => ?_) fun _ _ z => z)
    rcases hh with ⟨rfl, h3⟩ | ⟨rfl, h3⟩
    · exact wpAny_ite_false (by decide) (wpAny_pure ⟨rfl, i + 1, hrest, by omega, h3⟩)
    · exact wpAny_ite_true (by decide) (wpAny_bind (wpAny_pure (wpAny_pure (wpAny_pure (finF s2 h3)))))
  · rintro ⟨b1, b2⟩ s' ⟨hb, i, hr, hi, hI⟩
    cases hb
    have hi2 : i = min items.size items2.size := by
      have := congrArg List.length hr
      rw [List.length_drop, hZ] at this
      have : 0 = min items.size items2.size - i := this
      omega
    exact wpAny_pure (fin s' (hi2 ▸ hI))
theorem rc_tupB {E : Value → Shared → Prop} {s : Shared} {l b : Addr} {items items2 : Array Value} {Q : Value → Shared → Prop} (hu : A.units < cLine) (I : Nat → Shared → Prop) (F : Shared → Prop) (e1 : s.heap.IsTuple l items) (e2 : s.heap.IsTuple b items2)
    (turn : ∀ (i : Nat) (h1 : i < items.size) (h2 : i < items2.size) (s : Shared), I i s → wpAny (model prog w) A.in1 (eqBool items[i] items2[i]) (fun r s' => (r = true ∧ I (i + 1) s') ∨ (r = false ∧ F s')) E s)
    (fin : ∀ s, I (min items.size items2.size) s → Q (.bool (items.size == items2.size)) s) (finF : ∀ s, F s → Q (.bool false) s) (h : I 0 s) : wpAny (model prog w) A (richCompare .Eq (.ref l) (.ref b)) Q E s := by
  obtain ⟨o1, g1, c1, n1, d1⟩ := e1
  obtain ⟨o2, g2, c2, n2, d2⟩ := e2
  exact wpAny_richCompare_same_room ⟨_, g1, c1⟩ ⟨_, g2, c2⟩ PySem.F.slot_tuple_eq (GQ.call_here PySem.F.slot_tuple_eq ⟨_, g1, c1⟩ PySem.F.entry_tuple_eq (PySem.F.args_tuple_eq_2 (.ref l) (.ref b)) (tup_eqB l b I F turn (fun s' q => ⟨nofun, fin s' q⟩) (fun s' q => ⟨nofun, finF s' q⟩) g1 c1 d1 g2 c2 d2 h)) hu
end
end Ke

set_option Elab.async false
set_option linter.all false
set_option maxRecDepth 100000
set_option maxHeartbeats 2000000
namespace Ke
open PySem PySem.Spec PyProof.Rows L2
/-- when x == y gives b -/
abbrev Eqb := V → V → Hp → Bool → Prop
def MonB (D : Eqb) : Prop := ∀ x y H H' b, Ext H H' → D x y H b → D x y H' b
def RcB (X : Cx) (n : Nat) (D : Eqb) : Prop := ∀ (A : Around) (pins : List (Addr × Obj)) (s : Shared) (σ : L2.St) (H : Hp) (x y : V) (u v : Value) (b : Bool), Sub X n A → L2.Inv X pins σ H s → RelV x u → RelV y v → D x y H b →
  wpAny (model X.prog X.w) A (richCompare .Eq u v) (fun r s' => r = .bool b ∧ ∃ H', L2.Inv X pins σ H' s' ∧ Ext H H') X.xe s
def EqB (X : Cx) (n : Nat) (D : Eqb) : Prop := ∀ (A : Around) (pins : List (Addr × Obj)) (s : Shared) (σ : L2.St) (H : Hp) (x y : V) (u v : Value) (b : Bool), Sub X n A → L2.Inv X pins σ H s → RelV x u → RelV y v → D x y H b →
  wpAny (model X.prog X.w) A (eqBool u v) (fun r s' => r = b ∧ ∃ H', L2.Inv X pins σ H' s' ∧ Ext H H') X.xe s
/-- what is the same thing is equal -/
def SelfB (D : Eqb) : Prop := (∀ x y H b, D x y H b → ∃ a c, x = .ref a ∧ y = .ref c) ∧ ∀ a H b, D (.ref a) (.ref a) H b → b = true
theorem RcB.eqB {X : Cx} {n : Nat} {D : Eqb} (h : RcB X n D) (hr : SelfB D) : EqB X n D := by
  intro A pins s σ H x y u v b sb I rx ry d
  obtain ⟨a, c, rfl, rfl⟩ := hr.1 x y H b d
  cases (show u = Value.ref a from rx)
  cases (show v = Value.ref c from ry)
  by_cases hab : a = c
  · subst hab
    rw [hr.2 a H b d]
    exact SeqAt.EqAt.same (.ref a) X.prog X.w X.xe _ ⟨rfl, H, I, Ext.rfl'⟩
  · exact GQ.eqBool_refG hab (wpAny_mono (h A pins s σ H (.ref a) (.ref c) _ _ b sb I rfl rfl d) (fun r s' q => ⟨b, q.1, rfl, q.2⟩) fun _ _ z => z)
theorem op_eqB {X : Cx} {n : Nat} {D : Eqb} (h : RcB X n D) (hr : Room n X.A) : OpR X (compareOp .Eq) (fun x y H Q => ∃ b, D x y H b ∧ ∀ H', Ext H H' → Q (.bl b) H') := by
  intro pins s σ H x y v u Q I rx ry ⟨b, d, q⟩
  refine wpAny_mono (h X.A pins s σ H x y v u b ⟨hr, rfl⟩ I rx ry d) (fun r s' z => ?_) fun _ _ z => z
  obtain ⟨rfl, H', I', e⟩ := z
  exact ⟨.bl b, H', I', rfl, q H' e⟩
/-- part by part -/
inductive EqL (D : Eqb) (H : Hp) : List V → List V → Bool → Prop where
  | nil : EqL D H [] [] true
  | nilC (y : V) (ys : List V) : EqL D H [] (y :: ys) false
  | consN (x : V) (xs : List V) : EqL D H (x :: xs) [] false
  | same {x y : V} {xs ys : List V} {b : Bool} (h : D x y H true) (r : EqL D H xs ys b) : EqL D H (x :: xs) (y :: ys) b
  | diff {x y : V} {xs ys : List V} (h : D x y H false) : EqL D H (x :: xs) (y :: ys) false
theorem EqL.mon {D : Eqb} (m : MonB D) {H H' : Hp} (e : Ext H H') {xs ys : List V} {b : Bool} (h : EqL D H xs ys b) : EqL D H' xs ys b := by
  induction h with
  | nil => exact .nil
  | nilC y ys => exact .nilC y ys
  | consN x xs => exact .consN x xs
  | same h _ ih => exact .same (m _ _ _ _ _ e h) ih
  | diff h => exact .diff (m _ _ _ _ _ e h)
theorem EqL.end_ {D : Eqb} {H : Hp} {xs ys : List V} {b : Bool} (h : EqL D H (xs.drop (min xs.length ys.length)) (ys.drop (min xs.length ys.length)) b) : b = (xs.length == ys.length) := by
  rcases Nat.lt_trichotomy xs.length ys.length with q | q | q
  · rw [Nat.min_eq_left (Nat.le_of_lt q), List.drop_length] at h
    have : (xs.length == ys.length) = false := by simpa using (Nat.ne_of_lt q)
    rw [this]
    generalize hz : ys.drop xs.length = zs at h
    cases h with
    | nil =>
      have := congrArg List.length hz
      rw [List.length_drop] at this
      have : ys.length - xs.length = 0 := this
      omega
    | nilC y zs => rfl
  · rw [q, Nat.min_self, List.drop_length, ← q, List.drop_length] at h
    rw [q, beq_self_eq_true]
    cases h
    rfl
  · rw [Nat.min_eq_right (Nat.le_of_lt q), List.drop_length] at h
    have : (xs.length == ys.length) = false := by simpa using (Nat.ne_of_gt q)
    rw [this]
    generalize hz : xs.drop ys.length = zs at h
    cases h with
    | nil =>
      have := congrArg List.length hz
      rw [List.length_drop] at this
      have : xs.length - ys.length = 0 := this
      omega
    | consN y zs => rfl
theorem EqL.at_ {D : Eqb} {H : Hp} {xs ys : List V} {b : Bool} {i : Nat} (h : EqL D H (xs.drop i) (ys.drop i) b) (h1 : i < xs.length) (h2 : i < ys.length) : (D xs[i] ys[i] H true ∧ EqL D H (xs.drop (i + 1)) (ys.drop (i + 1)) b) ∨ (D xs[i] ys[i] H false ∧ b = false) := by
  rw [List.drop_eq_getElem_cons h1, List.drop_eq_getElem_cons h2] at h
  cases h with
  | same h r => exact .inl ⟨h, r⟩
  | diff h => exact .inr ⟨h, rfl⟩
/-- the invariant of the walk -/
def LoopB (X : Cx) (pins : List (Addr × Obj)) (σ : L2.St) (H : Hp) (s' : Shared) : Prop := ∃ H', L2.Inv X pins σ H' s' ∧ Ext H H'
theorem turnB {X : Cx} {n : Nat} {D : Eqb} (m : MonB D) (h : EqB X n D) {A : Around} (sb : Sub X n A) {pins : List (Addr × Obj)} {σ : L2.St} {H : Hp} {xs ys : List V} {b : Bool} {us vs : List Value} (r1 : Vals xs us) (r2 : Vals ys vs) {i : Nat} (l1 : i < us.length) (l2 : i < vs.length) {s' : Shared}
    (q : (∃ H', L2.Inv X pins σ H' s' ∧ Ext H H') ∧ EqL D H (xs.drop i) (ys.drop i) b) :
    wpAny (model X.prog X.w) A (eqBool us[i] vs[i]) (fun r s2 => (r = true ∧ LoopB X pins σ H s2 ∧ EqL D H (xs.drop (i + 1)) (ys.drop (i + 1)) b) ∨ (r = false ∧ LoopB X pins σ H s2 ∧ b = false)) X.xe s' := by
  obtain ⟨⟨H1, I1, e1⟩, el⟩ := q
  have l1' : i < xs.length := by rw [r1.length]; exact l1
  have l2' : i < ys.length := by rw [r2.length]; exact l2
  obtain ⟨u, hu, ru⟩ := r1.get (List.getElem?_eq_getElem l1')
  obtain ⟨v, hv, rv⟩ := r2.get (List.getElem?_eq_getElem l2')
  rw [List.getElem?_eq_getElem l1] at hu
  rw [List.getElem?_eq_getElem l2] at hv
  cases hu
  cases hv
  rcases el.at_ l1' l2' with ⟨d, r⟩ | ⟨d, rfl⟩
  · refine wpAny_mono (h A pins s' σ H1 _ _ _ _ true sb I1 ru rv (m _ _ _ _ _ e1 d)) (fun r' s2 z => ?_) fun _ _ z => z
    obtain ⟨rfl, H2, I2, e2⟩ := z
    exact .inl ⟨rfl, ⟨H2, I2, e1.trans e2⟩, r⟩
  · refine wpAny_mono (h A pins s' σ H1 _ _ _ _ false sb I1 ru rv (m _ _ _ _ _ e1 d)) (fun r' s2 z => ?_) fun _ _ z => z
    obtain ⟨rfl, H2, I2, e2⟩ := z
    exact .inr ⟨rfl, ⟨H2, I2, e1.trans e2⟩, rfl⟩
section
variable {X : Cx}
def DTupB (K : PySem.W.Frag) (D : Eqb) : Eqb := fun x y H b => ∃ a c xs ys, x = .ref a ∧ y = .ref c ∧ SqT K H a xs ∧ SqT K H c ys ∧ EqL D H xs ys b
def DListB (D : Eqb) : Eqb := fun x y H b => ∃ a c xs ys, x = .ref a ∧ y = .ref c ∧ H a = some (.lst xs) ∧ H c = some (.lst ys) ∧ ((xs.length = ys.length ∧ EqL D H xs ys b) ∨ (xs.length ≠ ys.length ∧ b = false))
theorem monTup {K : PySem.W.Frag} {D : Eqb} (m : MonB D) : MonB (DTupB K D) := fun x y H H' b e ⟨a, c, xs, ys, ex, ey, h1, h2, r⟩ => ⟨a, c, xs, ys, ex, ey, h1.ext e, h2.ext e, r.mon m e⟩
theorem monList {D : Eqb} (m : MonB D) : MonB (DListB D) := fun x y H H' b e ⟨a, c, xs, ys, ex, ey, h1, h2, r⟩ => ⟨a, c, xs, ys, ex, ey, e _ _ h1, e _ _ h2, r.elim (fun ⟨z, q⟩ => .inl ⟨z, q.mon m e⟩) .inr⟩
theorem rcB_tup {n : Nat} {D : Eqb} (m : MonB D) (h : EqB X n D) : RcB X (n + 1) (DTupB X.K D) := by
  intro A pins s σ H x y u v b sb I rx ry d
  obtain ⟨a, c, xs, ys, rfl, rfl, ha, hc, el⟩ := d
  cases (show u = Value.ref a from rx)
  cases (show v = Value.ref c from ry)
  obtain ⟨us, r1, t1, _⟩ := I.tuple ha
  obtain ⟨vs, r2, t2, _⟩ := I.tuple hc
  refine rc_tupB sb.room.units0 (fun i s' => LoopB X pins σ H s' ∧ EqL D H (xs.drop i) (ys.drop i) b) (fun s' => LoopB X pins σ H s' ∧ b = false) t1 t2 (fun i h1 h2 s' q => ?_) (fun s' q => ?_) (fun s' q => ?_) ⟨⟨H, I, Ext.rfl'⟩, el⟩
  · refine wpAny_mono (turnB m h sb.in1 r1 r2 (by simpa using h1) (by simpa using h2) q) (fun r s2 z => ?_) fun _ _ z => z
    rcases z with ⟨e, z1, z2⟩ | ⟨e, z1, z2⟩
    · exact .inl ⟨e, z1, z2⟩
    · exact .inr ⟨e, z1, z2⟩
  · obtain ⟨⟨H1, I1, e1⟩, el1⟩ := q
    have hz : min us.toArray.size vs.toArray.size = min xs.length ys.length := by rw [List.size_toArray, List.size_toArray, r1.length, r2.length]
    rw [hz] at el1
    refine ⟨?_, H1, I1, e1⟩
    rw [el1.end_, List.size_toArray, List.size_toArray, r1.length, r2.length]
  · obtain ⟨⟨H1, I1, e1⟩, rfl⟩ := q
    exact ⟨rfl, H1, I1, e1⟩
theorem rcB_list {n : Nat} {D : Eqb} (m : MonB D) (h : EqB X n D) : RcB X (n + 1) (DListB D) := by
  intro A pins s σ H x y u v b sb I rx ry d
  obtain ⟨a, c, xs, ys, rfl, rfl, ha, hc, el⟩ := d
  cases (show u = Value.ref a from rx)
  cases (show v = Value.ref c from ry)
  rcases el with ⟨hl, el⟩ | ⟨hl, rfl⟩
  · refine rc_listB (N := xs.length) sb.room.units0 (fun i s' => LoopB X pins σ H s' ∧ EqL D H (xs.drop i) (ys.drop i) b) (fun s' => LoopB X pins σ H s' ∧ b = false) (fun i s' q => ?_) (fun s' q => ?_) (fun s' q => ?_) ⟨⟨H, I, Ext.rfl'⟩, el⟩
    · obtain ⟨⟨H1, I1, e1⟩, el1⟩ := id q
      obtain ⟨_, us, k1, r1, g1⟩ := I1.hok a _ (e1 _ _ ha)
      obtain ⟨_, vs, k2, r2, g2⟩ := I1.hok c _ (e1 _ _ hc)
      refine ⟨us.toArray, vs.toArray, k1, k2, g1, g2, by rw [List.size_toArray, r1.length], by rw [List.size_toArray, ← r2.length, hl], fun h1 h2 => ?_⟩
      refine wpAny_mono (turnB m h sb.in1 r1 r2 (by simpa using h1) (by simpa using h2) q) (fun r s2 z => ?_) fun _ _ z => z
      rcases z with ⟨e, z1, z2⟩ | ⟨e, z1, z2⟩
      · exact .inl ⟨e, z1, z2⟩
      · refine .inr ⟨e, ?_, z1, z2⟩
        obtain ⟨H2, I2, e2⟩ := z1
        obtain ⟨_, us, k1, r1, g1⟩ := I2.hok a _ (e2 _ _ ha)
        obtain ⟨_, vs, k2, r2, g2⟩ := I2.hok c _ (e2 _ _ hc)
        exact ⟨us.toArray, vs.toArray, k1, k2, g1, g2, by rw [List.size_toArray, r1.length], by rw [List.size_toArray, ← r2.length, hl]⟩
    · obtain ⟨⟨H1, I1, e1⟩, el1⟩ := q
      rw [show xs.drop xs.length = [] from List.drop_length, show ys.drop xs.length = [] from by rw [hl]; exact List.drop_length] at el1
      cases el1
      exact ⟨rfl, H1, I1, e1⟩
    · obtain ⟨⟨H1, I1, e1⟩, rfl⟩ := q
      exact ⟨rfl, H1, I1, e1⟩
  · obtain ⟨_, us, k1, r1, g1⟩ := I.hok a _ ha
    obtain ⟨_, vs, k2, r2, g2⟩ := I.hok c _ hc
    exact rc_listN sb.room.units0 g1 g2 (by rw [List.size_toArray, List.size_toArray, ← r1.length, ← r2.length]; exact hl) ⟨rfl, H, I, Ext.rfl'⟩
end
end Ke

set_option Elab.async false
set_option linter.all false
set_option maxRecDepth 100000
set_option maxHeartbeats 2000000
namespace Ke
open PySem PySem.Spec PyProof.Rows L2
/-! ### by an __eq__ of one's own, and of data -/
section
variable {X : Cx}
def DInsB (C : Addr) (R : Addr → Addr → Hp → Bool → Prop) : Eqb := fun x y H b => ∃ a c dx dy fs gs, x = .ref a ∧ y = .ref c ∧ H a = some (.ins C dx fs) ∧ H c = some (.ins C dy gs) ∧ R a c H b
def spEqB (R : Addr → Addr → Hp → Bool → Prop) : Sp := fun vs H Q _ => ∃ a c b, vs = [.ref a, .ref c] ∧ R a c H b ∧ ∀ H', Ext H H' → Q (.bl b) H'
theorem monIns {C : Addr} {R : Addr → Addr → Hp → Bool → Prop} (m : ∀ a c H H' b, Ext H H' → R a c H b → R a c H' b) : MonB (DInsB C R) := fun x y H H' b e ⟨a, c, dx, dy, fs, gs, ex, ey, h1, h2, r⟩ => ⟨a, c, dx, dy, fs, gs, ex, ey, e _ _ h1, e _ _ h2, m _ _ _ _ _ e r⟩
theorem rcB_ins {CX : CXT} {n : Nat} {f C : Addr} {fd : FuncData} {ps : List Str} {R : Addr → Addr → Hp → Bool → Prop} {E : XK} (F : FnOk X.prog X.w X.K X.mg X.base CX n f fd ps (spEqB R)) (hs : PySem.W.findIn X.K (.ref C) "__eq__" = some (some (.ref f))) (hf : PySem.W.isFn X.K (.ref f) = true) (hb : L2.Binds X.K fd ps []) (hx : Passes CX X E) :
    RcB X n (DInsB C R) := by
  intro A pins s σ H x y u v b sb I rx ry d
  obtain ⟨a, c, dx, dy, fs, gs, rfl, rfl, ha, hc, r⟩ := d
  cases (show u = Value.ref a from rx)
  cases (show v = Value.ref c from ry)
  obtain ⟨mA, J, _⟩ := ins_get I.hok ha
  obtain ⟨mB, J', _⟩ := ins_get I.hok hc
  obtain ⟨od, J, _⟩ := J.look
  obtain ⟨od', J', _⟩ := J'.look
  obtain ⟨m, hF⟩ := I.fr
  refine PySem.W.cmp_K (op := .Eq) (tb := .ref C) sb.room.units0 hF I.ok.mod.kin J J'.type (by simp [PySem.W.notFirst]) hs hf ?_
  have e0 : Env0 X.prog X.w X.K X.mg X.base A X.stack s H := { Inv.env0 I with frames := by rw [sb.fr]; exact (Inv.env0 I).frames }
  have sp : spEqB R [.ref a, .ref c] H (fun z H' => z = .bl b ∧ Ext H H') E := ⟨a, c, b, rfl, r, fun H' e => ⟨rfl, e⟩⟩
  have hl := F.len _ _ _ _ sp
  have bb := hb s [.ref a, .ref c] (Inv.kIn I) (by rw [List.append_nil]; exact hl)
  rw [List.append_nil] at bb
  refine wpAny_call (codeAny_mono (F.run A X.stack s H { pos := [.ref a, .ref c] } [.ref a, .ref c] [.ref a, .ref c] _ E sb.room e0 bb (.cons rfl (.cons rfl .nil)) sp) fun r s' hq => ?_)
  cases r with
  | error e => exact hx pins σ H s e s' I hq
  | ok fl =>
    cases fl with
    | ret u =>
      obtain ⟨z, H', I', rz, rfl, e⟩ := Inv.after I hq
      exact SlX.cmpback rz ⟨rz, H', I', e⟩
    | next => exact hq.elim
    | brk => exact hq.elim
    | cont => exact hq.elim
mutual
theorem dpExt {K : PySem.W.Frag} {H H' : Hp} (e : Ext H H') : ∀ {v : V} {d : PyData}, Dp K H v d → Dp K H' v d
  | _, _, .non => .non
  | _, _, .bl b => .bl b
  | _, _, .int i => .int i
  | _, _, .str z => .str z
  | _, _, .lst h r => .lst (h.ext e) (dpAllExt e r)
  | _, _, .tup h r => .tup (h.ext e) (dpAllExt e r)
theorem dpAllExt {K : PySem.W.Frag} {H H' : Hp} (e : Ext H H') : ∀ {vs : List V} {ds : List PyData}, DpAll K H vs ds → DpAll K H' vs ds
  | _, _, .nil => .nil
  | _, _, .cons h r => .cons (dpExt e h) (dpAllExt e r)
end
/-- data at two places -/
def DDatB (K : PySem.W.Frag) : Eqb := fun x y H b => ∃ a c d e, x = .ref a ∧ y = .ref c ∧ Dp K H x d ∧ Dp K H y e ∧ SeqAt.shaped d = true ∧ SeqAt.shaped e = true ∧ b = PyData.eqv d e ∧ (a = c → b = true)
theorem monDat {K : PySem.W.Frag} : MonB (DDatB K) := fun x y H H' b e ⟨a, c, d, d', ex, ey, h1, h2, z⟩ => ⟨a, c, d, d', ex, ey, dpExt e h1, dpExt e h2, z⟩
theorem selfDat {K : PySem.W.Frag} : SelfB (DDatB K) := ⟨fun x y H b ⟨a, c, _, _, ex, ey, _⟩ => ⟨a, c, ex, ey⟩, fun a H b ⟨_, _, _, _, ex, ey, _, _, _, _, _, z⟩ => z (by cases ex; cases ey; rfl)⟩
theorem rcB_dat {n : Nat} : RcB X n (DDatB X.K) := by
  intro A pins s σ H x y u v b sb I rx ry d
  obtain ⟨a, c, d, e, rfl, rfl, h1, h2, s1, s2, rfl, _⟩ := d
  obtain ⟨as, r1⟩ := Dp.reads I d _ u h1 rx
  obtain ⟨bs, r2⟩ := Dp.reads I e _ v h2 ry
  exact SeqAt.compareEq_shaped r1 r2 s1 s2 (by have := sb.room.un; omega) ⟨rfl, H, I, Ext.rfl'⟩
theorem monOr {D D' : Eqb} (m : MonB D) (m' : MonB D') : MonB (fun x y H b => D x y H b ∨ D' x y H b) := fun x y H H' b e d => d.elim (fun d => .inl (m _ _ _ _ _ e d)) fun d => .inr (m' _ _ _ _ _ e d)
theorem EqB.or {n : Nat} {D D' : Eqb} (h : EqB X n D) (h' : EqB X n D') : EqB X n (fun x y H b => D x y H b ∨ D' x y H b) := fun A pins s σ H x y u v b sb I rx ry d => d.elim (h A pins s σ H x y u v b sb I rx ry) (h' A pins s σ H x y u v b sb I rx ry)
theorem RcB.or {n : Nat} {D D' : Eqb} (h : RcB X n D) (h' : RcB X n D') : RcB X n (fun x y H b => D x y H b ∨ D' x y H b) := fun A pins s σ H x y u v b sb I rx ry d => d.elim (h A pins s σ H x y u v b sb I rx ry) (h' A pins s σ H x y u v b sb I rx ry)
end
end Ke

set_option Elab.async false
set_option linter.all false
set_option maxRecDepth 100000
set_option maxHeartbeats 2000000
/-! Dicts whose keys are tuples of tuples, numbers and texts, in the hand layer. -/
namespace Kd
open PySem PySem.Spec PyProof.Rows L2
/-! ### keys as they stand in the abstract heap -/
mutual
inductive Nest (H : Hp) : NestedKey → V → Prop where
  | none : Nest H .none .non
  | num (i : Int) : Nest H (.num i) (.int i)
  | text (z : Str) : Nest H (.text z) (.str z)
  | tup {a : Addr} {vs : List V} {ks : List NestedKey} (h : H a = some (.tup vs)) (r : NestL H ks vs) : Nest H (.tup ks) (.ref a)
inductive NestL (H : Hp) : List NestedKey → List V → Prop where
  | nil : NestL H [] []
  | cons {k : NestedKey} {v : V} {ks : List NestedKey} {vs : List V} (h : Nest H k v) (r : NestL H ks vs) : NestL H (k :: ks) (v :: vs)
end
mutual
theorem Nest.keep {H H' : Hp} (e : ∀ a xs, H a = some (.tup xs) → H' a = some (.tup xs)) : ∀ {k : NestedKey} {v : V}, Nest H k v → Nest H' k v
  | _, _, .none => .none
  | _, _, .num i => .num i
  | _, _, .text z => .text z
  | _, _, .tup h r => .tup (e _ _ h) (NestL.keep e r)
theorem NestL.keep {H H' : Hp} (e : ∀ a xs, H a = some (.tup xs) → H' a = some (.tup xs)) : ∀ {ks : List NestedKey} {vs : List V}, NestL H ks vs → NestL H' ks vs
  | _, _, .nil => .nil
  | _, _, .cons h r => .cons (Nest.keep e h) (NestL.keep e r)
end
section
variable {P : Program} {w : World} {H : Hp} {h : Heap}
mutual
theorem Nest.is (ok : HOk P w H h) : ∀ {k : NestedKey} {v : V} {u : Value}, Nest H k v → RelV v u → NestedIs h k u
  | _, _, u, .none, r => by
    cases (show u = Value.none from r)
    exact .none
  | _, _, u, .num i, r => by
    obtain ⟨t, e⟩ := (show ∃ t, u = Value.int i t from r)
    rw [e]
    exact .int i t
  | _, _, u, .text z, r => by
    obtain ⟨t, e⟩ := (show ∃ t, u = Value.str z t from r)
    rw [e]
    exact .text z t
  | _, _, u, .tup (a := a) (vs := vs) e n, r => by
    cases (show u = Value.ref a from r)
    obtain ⟨_, its, rv, ⟨o, h1, h2, k, h3⟩⟩ := (show ObjOk P w H h a (.tup vs) from ok a _ e)
    exact .tup h1 h2 h3 (NestL.is ok n rv)
theorem NestL.is (ok : HOk P w H h) : ∀ {ks : List NestedKey} {vs : List V} {us : List Value}, NestL H ks vs → Vals vs us → NestedAll h ks us
  | _, _, _, .nil, r => by
    cases r
    exact .nil
  | _, _, _, .cons n m, r => by
    cases r with
    | cons a b => exact .cons (Nest.is ok n a) (NestL.is ok m b)
end
end
/-! ### the dict: what stands at its address -/
def rawD (d : Addr) (es : Array DictEntry) (ep : Nat) : Heap → Prop := fun h => ∃ o, h.get? d = some o ∧ o.ExactDict ∧ o.data = .dict es ep
/-- the keys in order, each with where its tuple stands, and the value -/
abbrev Kvs := List (NestedKey × Addr × V)
def rel (p : NestedKey × Addr × V) (q : NestedKey × Addr × Value) : Prop := p.1 = q.1 ∧ p.2.1 = q.2.1 ∧ RelV p.2.2 q.2.2
structure KDD (P : Program) (w : World) (H : Hp) (d : Addr) (kvs : Kvs) (es : Array DictEntry) (ep : Nat) (xs : List (NestedKey × Addr × Value)) : Prop where
  at_ : H d = some (.ext (rawD d es ep))
  es_ : es.toList = xs.map (entryOfKey (nestedKind P w))
  rel_ : Paired rel kvs xs
/-- a dict of such keys at d -/
structure KD (P : Program) (w : World) (H : Hp) (d : Addr) (kvs : Kvs) : Prop where
  nd : (kvs.map (·.1)).Nodup
  key : ∀ p ∈ kvs, Nest H p.1 (.ref p.2.1) ∧ p.1.depth ≤ 8
  sys : (d == sysModules) = false
  len : kvs.length ≤ 100000
  ok : ∃ es ep xs, KDD P w H d kvs es ep xs
theorem KD.keep {P : Program} {w : World} {H H' : Hp} {d : Addr} {kvs : Kvs} (k : KD P w H d kvs) (e : ∀ a xs, H a = some (.tup xs) → H' a = some (.tup xs)) (hd : H' d = H d) : KD P w H' d kvs := by
  obtain ⟨es, ep, xs, q⟩ := k.ok
  exact ⟨k.nd, fun p hp => ⟨(k.key p hp).1.keep e, (k.key p hp).2⟩, k.sys, k.len, es, ep, xs, by rw [hd]; exact q.at_, q.es_, q.rel_⟩
theorem KD.same {P : Program} {w : World} {H H' : Hp} {d : Addr} {kvs : Kvs} (k : KD P w H d kvs) (s : Same H H') : KD P w H' d kvs := by
  obtain ⟨es, ep, xs, q⟩ := id k.ok
  exact k.keep (fun a xs e => s _ _ e) (by rw [q.at_, s _ _ q.at_])
theorem paired_fst {kvs : Kvs} {xs : List (NestedKey × Addr × Value)} (r : Paired rel kvs xs) : xs.map (·.1) = kvs.map (·.1) := by
  induction r with
  | nil => rfl
  | cons a _ ih => rw [List.map_cons, List.map_cons, ih, a.1]
theorem paired_len {kvs : Kvs} {xs : List (NestedKey × Addr × Value)} (r : Paired rel kvs xs) : xs.length = kvs.length := by
  induction r with
  | nil => rfl
  | cons a _ ih => rw [List.length_cons, List.length_cons, ih]
theorem paired_mem {kvs : Kvs} {xs : List (NestedKey × Addr × Value)} (r : Paired rel kvs xs) : ∀ x ∈ xs, ∃ p ∈ kvs, rel p x := by
  induction r with
  | nil => exact fun x hx => nomatch hx
  | cons a _ ih =>
    intro x hx
    rcases List.mem_cons.mp hx with rfl | hx
    · exact ⟨_, List.mem_cons_self .., a⟩
    · obtain ⟨p, hp, q⟩ := ih x hx
      exact ⟨p, List.mem_cons_of_mem _ hp, q⟩
/-- what is in the dict -/
theorem KD.heap {P : Program} {w : World} {H : Hp} {h : Heap} {d : Addr} {kvs : Kvs} (k : KD P w H d kvs) (ok : HOk P w H h) : ∃ xs, Paired rel kvs xs ∧ Heap.DictOfH (nestedKind P w) h d xs := by
  obtain ⟨es, ep, xs, q⟩ := k.ok
  obtain ⟨⟨o, h1, h2, h3⟩, _, _⟩ := (show ObjOk P w H h d (.ext (rawD d es ep)) from ok d _ q.at_)
  refine ⟨xs, q.rel_, o, es, ep, h1, h2, h3, q.es_, fun x hx => ?_, by rw [paired_fst q.rel_]; exact k.nd⟩
  obtain ⟨p, hp, e1, e2, _⟩ := paired_mem q.rel_ x hx
  obtain ⟨n1, n2⟩ := k.key p hp
  rw [← e1, ← e2]
  exact ⟨n1.is ok rfl, n2⟩
/-- a new empty one -/
def tDNewX : TE := fun _ H Q => ∀ p, H p = none → (p == sysModules) = false → Q (.ref p) (upd H p (.ext (rawD p #[] 0)))
theorem pe_dnewX {X : Cx} {pos : Pos} : PE X (.Dict [] [] pos) tDNewX := ⟨fun pins s σ H Q I h => by
  have g : (s.heap.push { cls := .type "dict", data := .dict #[] }).get? s.heap.objs.size = some { cls := .type "dict", data := .dict #[] } := Heap.get?_push_size _ rfl
  have hm : (s.heap.objs.size == sysModules) = false := beq_eq_false_iff_ne.mpr (Nat.ne_of_gt I.big)
  exact wpAny_Dict_empty ⟨.ref s.heap.objs.size, _, I.laid (a := s.heap.objs.size) (o := .ext (rawD s.heap.objs.size #[] 0)) (t' := s.toks) (fun _ _ q => Heap.get?_push_of_some _ q) (Nat.le_refl _)
    ⟨⟨_, g, ⟨rfl, rfl, rfl⟩, rfl⟩, ⟨_, g⟩, fun _ _ ⟨o', q1, q2⟩ kk => ⟨o', kk _ q1, q2⟩⟩, rfl, h _ (I.hok.fresh (Nat.le_refl _)) hm⟩⟩
theorem KD.new {P : Program} {w : World} {H : Hp} {p : Addr} (h : H p = some (.ext (rawD p #[] 0))) (hm : (p == sysModules) = false) : KD P w H p [] :=
  ⟨List.nodup_nil, (fun x hx => nomatch hx), hm, Nat.zero_le _, #[], 0, [], h, rfl, .nil⟩
def atK (kvs : Kvs) (k : NestedKey) : Option V := (kvs.find? fun p => decide (p.1 = k)).map (·.2.2)
theorem find_rel {kvs : Kvs} {xs : List (NestedKey × Addr × Value)} (r : Paired rel kvs xs) (k : NestedKey) : (atK kvs k = none ∧ atKey xs k = none) ∨ ∃ v p, atK kvs k = some v ∧ atKey xs k = some p ∧ RelV v p.2 := by
  induction r with
  | nil => exact .inl ⟨rfl, rfl⟩
  | cons a r ih =>
    rename_i p x ps ys
    unfold atK atKey at *
    rw [List.find?_cons, List.find?_cons, ← a.1]
    by_cases e : p.1 = k
    · rw [decide_eq_true e]
      exact .inr ⟨_, _, rfl, rfl, a.2.2⟩
    · rw [decide_eq_false e]
      exact ih
section
variable {X : Cx}
/-- k in d -/
def rInK (P : Program) (w : World) : R2 := fun x y H Q => ∃ (a d : Addr) (k : NestedKey) (kvs : Kvs), x = .ref a ∧ y = .ref d ∧ KD P w H d kvs ∧ Nest H k (.ref a) ∧ k.depth ≤ 8 ∧ Q (.bl (atK kvs k).isSome) H
theorem op_inK (hu : X.A.units + 64 < cLine) : OpR X (compareOp .In) (rInK X.prog X.w) := by
  intro pins s σ H x y v u Q I rx ry h
  obtain ⟨a, d, k, kvs, rfl, rfl, kd, n, hk, q⟩ := h
  cases (show v = Value.ref a from rx)
  cases (show u = Value.ref d from ry)
  obtain ⟨xs, r, D⟩ := kd.heap I.hok
  refine wpAny_in_heap (knd := nestedKind X.prog X.w) (k := k) (by show X.A.units + 1 + 8 < cLine; omega) ⟨n.is I.hok rfl, hk⟩ kd.sys D ⟨.bl (atK kvs k).isSome, H, I.kept (t' := _) fun _ _ z => z, ?_, q⟩
  rcases find_rel r k with ⟨e1, e2⟩ | ⟨v, p, e1, e2, _⟩
  · rw [e1, e2]
    rfl
  · rw [e1, e2]
    rfl
end
def putKv (kvs : Kvs) (k : NestedKey) (a : Addr) (v : V) : Kvs := if (atK kvs k).isSome = true then kvs.map fun p => if p.1 = k then (p.1, p.2.1, v) else p else kvs ++ [(k, a, v)]
theorem paired_map {kvs : Kvs} {xs : List (NestedKey × Addr × Value)} {k : NestedKey} {v : V} {u : Value} (rv : RelV v u) (r : Paired rel kvs xs) : Paired rel (kvs.map fun p => if p.1 = k then (p.1, p.2.1, v) else p) (xs.map (putAt k u)) := by
  induction r with
  | nil => exact .nil
  | cons a _ ih =>
    rw [List.map_cons, List.map_cons]
    refine .cons ?_ ih
    unfold putAt
    rw [← a.1]
    split
    · exact ⟨rfl, a.2.1, rv⟩
    · exact a
theorem paired_snoc {kvs : Kvs} {xs : List (NestedKey × Addr × Value)} {p : NestedKey × Addr × V} {q : NestedKey × Addr × Value} (r : Paired rel kvs xs) (h : rel p q) : Paired rel (kvs ++ [p]) (xs ++ [q]) := by
  induction r with
  | nil => exact .cons h .nil
  | cons a _ ih => exact .cons a ih
theorem paired_put {kvs : Kvs} {xs : List (NestedKey × Addr × Value)} {k : NestedKey} {a : Addr} {v : V} {u : Value} (rv : RelV v u) (r : Paired rel kvs xs) : Paired rel (putKv kvs k a v) (storedH xs k a u) := by
  unfold putKv storedH
  rcases find_rel r k with ⟨e1, e2⟩ | ⟨v', p, e1, e2, _⟩
  · rw [e1, e2]
    exact paired_snoc r ⟨rfl, rfl, rv⟩
  · rw [e1, e2]
    exact paired_map rv r
theorem len_put (kvs : Kvs) (k : NestedKey) (a : Addr) (v : V) : (putKv kvs k a v).length ≤ kvs.length + 1 := by
  unfold putKv
  split
  · rw [List.length_map]
    exact Nat.le_succ _
  · rw [List.length_append, List.length_singleton]
    exact Nat.le_refl _
theorem mem_put {kvs : Kvs} {k : NestedKey} {a : Addr} {v : V} : ∀ p ∈ putKv kvs k a v, (∃ q ∈ kvs, q.1 = p.1 ∧ q.2.1 = p.2.1) ∨ (p.1 = k ∧ p.2.1 = a) := by
  intro p hp
  unfold putKv at hp
  split at hp
  · obtain ⟨q, hq, rfl⟩ := List.mem_map.mp hp
    refine .inl ⟨q, hq, ?_⟩
    split <;> exact ⟨rfl, rfl⟩
  · rcases List.mem_append.mp hp with hp | hp
    · exact .inl ⟨p, hp, rfl, rfl⟩
    · rw [List.mem_singleton.mp hp]
      exact .inr ⟨rfl, rfl⟩
section
variable {X : Cx}
/-- d[k] = v -/
def rSetK (P : Program) (w : World) : V → V → V → Hp → (Hp → Prop) → Prop := fun o i v H Q => ∃ (a d : Addr) (k : NestedKey) (kvs : Kvs), o = .ref d ∧ i = .ref a ∧ KD P w H d kvs ∧ Nest H k (.ref a) ∧ k.depth ≤ 8 ∧ kvs.length < 100000 ∧
  ∀ H', KD P w H' d (putKv kvs k a v) → (∀ b, b ≠ d → H' b = H b) → Q H'
theorem KD.mut {P : Program} {w : World} {H : Hp} {d : Addr} {kvs : Kvs} (k : KD P w H d kvs) : Mut (H d) ∧ ∀ xs, H d ≠ some (.tup xs) := by
  obtain ⟨es, ep, xs, q⟩ := k.ok
  rw [q.at_]
  exact ⟨trivial, fun xs z => nomatch z⟩
theorem set_K (hu : X.A.units + 64 < cLine) : PSet X (rSetK X.prog X.w) := by
  intro pins s σ H o i v ov iv u Q I ro ri rv h
  obtain ⟨a, d, k, kvs, rfl, rfl, kd, n, hk, hl, q⟩ := h
  cases (show ov = Value.ref d from ro)
  cases (show iv = Value.ref a from ri)
  obtain ⟨xs, r, D⟩ := kd.heap I.hok
  obtain ⟨hm, nt⟩ := kd.mut
  refine wpAny_setItem_heap (knd := nestedKind X.prog X.w) (k := k) (by show X.A.units + 1 + 8 < cLine; omega) ⟨n.is I.hok rfl, hk⟩ D (fun h' D' hs => ?_) (by rw [paired_len r]; exact Nat.le_trans (Nat.le_of_lt hl) (by decide))
  obtain ⟨ob, es, ep, h1, h2, h3, h4, h5, h6⟩ := D'
  have rp := paired_put (k := k) (a := a) rv r
  have e0 : ∀ b xs, H b = some (.tup xs) → upd H d (.ext (rawD d es ep)) b = some (.tup xs) := fun b xs e => by
    rw [upd_ne (fun z => nt xs (by rw [← z]; exact e))]
    exact e
  refine ⟨upd H d (.ext (rawD d es ep)), d_write I hm hs ⟨ob, h1⟩ ⟨⟨ob, h1, h2, h3⟩, ⟨ob, h1⟩, fun _ _ ⟨o', q1, q2⟩ kk => ⟨o', kk _ q1, q2⟩⟩, q _ ⟨?_, fun p hp => ?_, kd.sys, ?_, es, ep, _, upd_same, h4, rp⟩ fun b hb => upd_ne hb⟩
  · rw [← paired_fst rp]
    exact h6
  · rcases mem_put p hp with ⟨p', hp', e1, e2⟩ | ⟨e1, e2⟩
    · rw [← e1, ← e2]
      exact ⟨(kd.key p' hp').1.keep e0, (kd.key p' hp').2⟩
    · rw [e1, e2]
      exact ⟨n.keep e0, hk⟩
  · have := len_put kvs k a v
    omega
/-- d[k] -/
def rIxK (P : Program) (w : World) : R2 := fun x y H Q => ∃ (a d : Addr) (k : NestedKey) (kvs : Kvs) (v : V), x = .ref d ∧ y = .ref a ∧ KD P w H d kvs ∧ Nest H k (.ref a) ∧ k.depth ≤ 8 ∧ atK kvs k = some v ∧ Q v H
theorem ix_K (hu : X.A.units + 64 < cLine) : IxR X (rIxK X.prog X.w) := by
  intro value slice pins s σ H x y v u Q I rx ry h hs
  obtain ⟨a, d, k, kvs, r, rfl, rfl, kd, n, hk, e, q⟩ := h
  cases (show v = Value.ref d from rx)
  cases (show u = Value.ref a from ry)
  obtain ⟨xs, rr, D⟩ := kd.heap I.hok
  rcases find_rel rr k with ⟨e1, _⟩ | ⟨v', p, e1, e2, rv⟩
  · rw [e] at e1
    cases e1
  · rw [e] at e1
    cases e1
    exact tail_any D.typeIs PySem.F.slot_dict_getitem.lookup (wpAny_getItem_heap (knd := nestedKind X.prog X.w) (k := k) (by show X.A.units + 1 + 8 < cLine; omega) ⟨n.is I.hok rfl, hk⟩ D e2 ⟨r, H, I.kept (t' := _) fun _ _ z => z, rv, q⟩) hs
/-- k not in d -/
def rNinK (P : Program) (w : World) : R2 := fun x y H Q => ∃ (a d : Addr) (k : NestedKey) (kvs : Kvs), x = .ref a ∧ y = .ref d ∧ KD P w H d kvs ∧ Nest H k (.ref a) ∧ k.depth ≤ 8 ∧ Q (.bl !(atK kvs k).isSome) H
theorem op_ninK (hu : X.A.units + 64 < cLine) : OpR X (compareOp .NotIn) (rNinK X.prog X.w) := by
  intro pins s σ H x y v u Q I rx ry h
  obtain ⟨a, d, k, kvs, rfl, rfl, kd, n, hk, q⟩ := h
  cases (show v = Value.ref a from rx)
  cases (show u = Value.ref d from ry)
  obtain ⟨xs, r, D⟩ := kd.heap I.hok
  refine PyProof.Rows.wpAny_notIn_heap (knd := nestedKind X.prog X.w) (k := k) (by show X.A.units + 1 + 8 < cLine; omega) ⟨n.is I.hok rfl, hk⟩ kd.sys D ⟨.bl (!(atK kvs k).isSome), H, I.kept (t' := _) fun _ _ z => z, ?_, q⟩
  rcases find_rel r k with ⟨e1, e2⟩ | ⟨v, p, e1, e2, _⟩
  · rw [e1, e2]
    rfl
  · rw [e1, e2]
    rfl
end
end Kd

set_option Elab.async false
set_option linter.all false
set_option maxRecDepth 100000
set_option maxHeartbeats 4000000
namespace K0
open PySem PySem.Spec PyProof.Rows L2
abbrev sLots : Stmt := top 23
abbrev sPI : Stmt := inClass (top 22) 0
abbrev sPE : Stmt := inClass (top 22) 1
abbrev sPEn : Stmt := inClass (top 22) 2
theorem Bd.of_big {x : Int} (h : x.natAbs < 1000000000000000000000000000000000000000000000000000000000000000) : Bd 1000 x := Nat.lt_of_lt_of_le h (by decide +kernel)
/-! ### sums of fractions over one denominator -/
theorem sum_rn {S w W : Int} (h : 0 < W) : rn (rn S W * rd w W + rn w W * rd S W) (rd S W * rd w W) = rn (S + w) W ∧ rd (rn S W * rd w W + rn w W * rd S W) (rd S W * rd w W) = rd (S + w) W := by
  obtain ⟨h1, h2⟩ := add_ok (n := S) (m := w) h h
  rw [h1, h2, show S * W + w * W = W * (S + w) by rw [Int.mul_add, Int.mul_comm S, Int.mul_comm w]]
  exact ⟨rn_scale h _ _, rd_scale h _ _⟩
theorem is_one {S W : Int} (h : 0 < W) : (decide (rn S W = rn 1 1) && decide (rd S W = rd 1 1)) = decide (S = W) := by
  have e1 : rn 1 1 = 1 := by decide +kernel
  have e2 : rd 1 1 = 1 := by decide +kernel
  rw [e1, e2]
  by_cases q : S = W
  · subst q
    have := rn_scale h 1 1
    rw [Int.mul_one, e1] at this
    have t2 := rd_scale h 1 1
    rw [Int.mul_one, e2] at t2
    rw [this, t2]
    simp
  · rw [decide_eq_false q]
    by_cases a : rn S W = 1
    · by_cases b : rd S W = 1
      · exfalso
        have h1 := n_eq S W
        have h2 := d_eq S W
        rw [a, Int.mul_one] at h1
        rw [b, Int.mul_one] at h2
        exact q (h1.trans h2.symm)
      · rw [decide_eq_false b, Bool.and_false]
    · rw [decide_eq_false a, Bool.false_and]
theorem PI.or {X : Cx} {tg e : Expr} {a b : TI} (h : PI X tg e a) (h' : PI X tg e b) : PI X tg e (fun σ H R => a σ H R ∨ b σ H R) := ⟨fun pins s σ H R I q => q.elim (h.run pins s σ H R I) (h'.run pins s σ H R I)⟩
/-- fractions of the weights ws over W, in lowest terms -/
structure Lots (C : Addr) (H : Hp) (as : List Addr) (ws : List Int) (W : Int) : Prop where
  len : as.length = ws.length
  at_ : ∀ (i : Nat) (a : Addr) (w : Int), as[i]? = some a → ws[i]? = some w → RatAt C H a (rn w W) (rd w W)
  pos : 0 < W
  big : Bd 8000 W
  small : ∀ w ∈ ws, Bd 8000 w ∧ Bd 300 (rn w W) ∧ Bd 300 (rd w W)
  few : ws.length ≤ 100
theorem Lots.same {C : Addr} {H H' : Hp} {as : List Addr} {ws : List Int} {W : Int} (l : Lots C H as ws W) (s : Same H H') : Lots C H' as ws W := ⟨l.len, fun i a w h1 h2 => (l.at_ i a w h1 h2).same s, l.pos, l.big, l.small, l.few⟩
theorem sum_small {M : Nat} {ws : List Int} (h : ∀ w ∈ ws, w.natAbs ≤ M) : ws.sum.natAbs ≤ M * ws.length := by
  induction ws with
  | nil => exact Nat.zero_le _
  | cons w r ih =>
    have h1 := h w (List.mem_cons_self ..)
    have h2 := ih fun x hx => h x (List.mem_cons_of_mem _ hx)
    rw [List.sum_cons, List.length_cons, Nat.mul_succ]
    have := Int.natAbs_add_le w r.sum
    omega
theorem sum_bd {ws : List Int} (h : ∀ w ∈ ws, Bd 8000 w) (hl : ws.length ≤ 100) : Bd 8100 ws.sum := by
  have h1 := sum_small (M := 2 ^ 8000) (ws := ws) fun w hw => Nat.le_of_lt (h w hw)
  refine Nat.lt_of_le_of_lt (Nat.le_trans h1 (Nat.mul_le_mul_left _ hl)) ?_
  rw [show (8100 : Nat) = 8000 + 100 from rfl, Nat.pow_add]
  exact Nat.mul_lt_mul_of_pos_left (by decide) (Nat.pow_pos (by decide))
def lotsB (ws : List Int) (W : Int) : Bool := ws.all (fun w => decide (0 ≤ w)) && decide (ws.sum = W)
def SeqR (K : PySem.W.Frag) (H : Hp) (l : Addr) (as : List Addr) : Prop := SqL K H l (as.map V.ref) ∨ SqT K H l (as.map V.ref)
def spLots (K : PySem.W.Frag) (C : Addr) : Sp := fun vs H Q _ => ∃ (l : Addr) (as : List Addr) (ws : List Int) (W : Int), vs = [.ref l] ∧ SeqR K H l as ∧ Lots C H as ws W ∧ ∀ H', Same H H' → Q (.bl (lotsB ws W)) H'
section
variable {P : Program} {w : World} {K : PySem.W.Frag} {mg : Str → Option Value} {base : Heap} {C BR : Addr}
theorem scLt : FnScope ["ratios", "total", "ratio"] ["ratios"] (defScope sLots) := ⟨rfl, rfl, rfl, by decide +kernel, rfl, by decide +kernel, by decide +kernel⟩
theorem ok_lots {f fI fA fE : Addr} {fd fdI fdA fdE : FuncData} {ds : List Value} (F : Fun K "are_lots" "are_lots" sLots f fd) (T : Txt K mg C BR) (M : Mk K C fI) (sf : PySem.W.selfFirst K C = true)
    (G : FnOk P w K mg base (L2.CX P w) 1 fI fdI ["self", "num", "den"] (spInit C BR)) (bD : Binds K fdI ["self", "num", "den"] ds) (vD : Vals [.int 1] ds)
    (GA : FnOk P w K mg base CX0 3 fA fdA ["self", "other"] (spBin C nAdd nDen)) (aA : PySem.W.findIn K (.ref C) "__add__" = some (some (.ref fA))) (iA : PySem.W.isFn K (.ref fA) = true) (bA : Binds K fdA ["self", "other"] [])
    (GE : FnOk P w K mg base CX0 1 fE fdE ["self", "other"] (spEq C)) (aE : PySem.W.findIn K (.ref C) "__eq__" = some (some (.ref fE))) (iE : PySem.W.isFn K (.ref fE) = true) (bE : Binds K fdE ["self", "other"] []) :
    FnOk P w K mg base CX0 4 f fd ["ratios"] (spLots K C) := by
  refine F.ok scLt (fun vs H Q E h => ?_) (fun cdv A outer s H vs Q E hr h => ?_)
  · obtain ⟨l, as, ws, W, rfl, _⟩ := h
    rfl
  · obtain ⟨l, as, ws, W, rfl, sq, L, q⟩ := h
    have hr1 : Room 1 _ := hr.mono (by decide)
    have hr2 : Room 2 _ := hr.mono (by decide)
    refine ⟨_, pss_cons (ps_set (i := 1) scLt.nd rfl (Or.inl rfl) (pe_make M G hr2 rfl T.mgC bD vD passL (pa_cons pe_int pa_nil)))
      (pss_cons (ps_for PassesOwn.never rfl (PI.or (pi_list (pv 0)) (pi_tup (pv 0))) (pg_name (i := 2) scLt.nd rfl (Or.inl rfl))
        (pss_cons (ps_if (pt_cmpR op_lt (pe_fld (pv 2) rfl) pe_int (nomark _)) (pss_one (ps_ret pe_bl)) pss_nil)
        (pss_one (ps_set (i := 1) scLt.nd rfl (Or.inl rfl) (pe_op (op_ownB GA hr sf aA iA bA pass0) (pv 1) (pv 2))))))
      (pss_one (ps_ret (pe_cmpR (op_ownE GE hr1 aE iE bE pass0) (pv 1) (pe_make M G hr2 rfl T.mgC bD vD passL (pa_cons pe_int pa_nil)) (nomark _))))), ?_⟩
    intro x dx nx ndx nex
    refine ⟨x, dx, 0, 1, rfl, upd_same, Bd.of_small (by decide) (by decide), fun z => absurd z (by decide), fun _ H1 hR kp => ⟨rfl, ?_⟩⟩
    have s1 : Same H H1 := Same.made nx ndx kp
    have e0 : rn 0 1 = rn 0 W ∧ rd 0 1 = rd 0 W := by
      have h1 := rn_scale L.pos 0 1
      have h2 := rd_scale L.pos 0 1
      rw [Int.mul_zero, Int.mul_one] at h1 h2
      exact ⟨h1.symm, h2.symm⟩
    rw [e0.1, e0.2] at hR
    have bs : ∀ i : Nat, Bd 8100 (ws.take i).sum := fun i => sum_bd (fun w hw => (L.small w (List.mem_of_mem_take hw)).1) (by rw [List.length_take]; exact Nat.le_trans (Nat.min_le_right ..) L.few)
    have bW : Bd 8100 W := L.big.le (by decide)
    let Pv : Nat → L2.St → Hp → Prop := fun i σ H' => (∃ v2 t, σ = [some (.ref l), some (.ref t), v2] ∧ RatAt C H' t (rn (ws.take i).sum W) (rd (ws.take i).sum W)) ∧ Same H H' ∧ ∀ w ∈ ws.take i, 0 ≤ w
    have h0 : Pv 0 [some (.ref l), some (.ref x), none] H1 := ⟨⟨none, x, rfl, hR⟩, s1, fun w hw => by rw [List.take_zero] at hw; exact nomatch hw⟩
    rcases sq with sq | sq
    · refine .inl ⟨_, rfl, l, rfl, ⟨_, sq.ext s1⟩, for_list Pv h0 (fun i σ H2 _ h => sq.ext h.2.1) ?_ ?_⟩
      · rintro i x σ H2 hx ⟨⟨v2, t, rfl, ht⟩, s2, hp⟩
        rw [List.getElem?_map] at hx
        obtain ⟨a, hxa, rfl⟩ := Option.map_eq_some_iff.mp hx
        have hil : i < as.length := (List.getElem?_eq_some_iff.mp hxa).1
        have hiw : i < ws.length := by rw [← L.len]; exact hil
        have hw : ws[i]? = some ws[i] := List.getElem?_eq_getElem hiw
        have ea := ((L.same s2).at_ i a ws[i] hxa hw)
        have hwm := List.getElem_mem hiw
        have hws := L.small _ hwm
        obtain ⟨da, ea⟩ := id ea
        refine ⟨_, rfl, a, C, da, _, _, rfl, ea, T.cl, T.nN, rf_num _ _, _, _, rfl, rfl, _, rfl, ite2 (fun z => ?_) (fun z => ?_)⟩
        · have z := of_decide_eq_true z
          have hneg : ws[i] < 0 := by
            refine Int.not_le.mp fun z2 => ?_
            have h1 := n_eq ws[i] W
            have h2 := G_pos (n := ws[i]) L.pos
            have h3 : K0.G ws[i] W * rn ws[i] W < 0 := Int.mul_neg_of_pos_of_neg h2 z
            omega
          have : lotsB ws W = false := by
            unfold lotsB
            have : (ws.all fun w => decide (0 ≤ w)) = false := List.all_eq_false.mpr ⟨ws[i], hwm, by simpa using hneg⟩
            rw [this, Bool.false_and]
          rw [this] at q
          exact q _ s2
        · have hnn : 0 ≤ ws[i] := by
            refine Int.not_lt.mp fun z2 => z (decide_eq_true ?_)
            have h1 := n_eq ws[i] W
            have h2 := G_pos (n := ws[i]) L.pos
            refine Int.not_le.mp fun z3 => ?_
            have := Int.mul_nonneg (Int.le_of_lt h2) z3
            omega
          obtain ⟨dt, et⟩ := id ht
          refine ⟨_, rfl, _, rfl, t, dt, _, a, da, _, rfl, rfl, et, ea, t, a, _, _, _, _, rfl, ht, ⟨da, ea⟩, ⟨8100, 300, (bs i).rn L.pos, Bd.rd L.pos bW, hws.2.1, hws.2.2, by decide, by decide, by decide⟩, rd_pos L.pos, rd_pos L.pos, fun t2 H3 s3 h3 => ?_⟩
          have hsum : (ws.take (i + 1)).sum = (ws.take i).sum + ws[i] := by
            rw [List.take_succ_eq_append_getElem hiw, List.sum_append, List.sum_cons, List.sum_nil, Int.add_zero]
          obtain ⟨r1, r2⟩ := sum_rn (S := (ws.take i).sum) (w := ws[i]) L.pos
          have h3 : RatAt C H3 t2 (rn (ws.take (i + 1)).sum W) (rd (ws.take (i + 1)).sum W) := by
            rw [hsum, ← r1, ← r2]
            exact h3
          refine ⟨⟨_, t2, rfl, h3⟩, s2.trans s3, fun w hw => ?_⟩
          rw [List.take_succ_eq_append_getElem hiw] at hw
          rcases List.mem_append.mp hw with hw | hw
          · exact hp w hw
          · rw [List.mem_singleton.mp hw]
            exact hnn
      · rintro σ H2 ⟨⟨v2, t, rfl, ht⟩, s2, hp⟩
        rw [List.length_map, L.len, List.take_length] at ht hp
        refine ⟨_, rfl, fun y dy ny ndy ney => ?_⟩
        refine ⟨y, dy, 1, 1, rfl, upd_same, Bd.of_small (by decide) (by decide), fun z => absurd z (by decide), fun _ H3 h3 kp => ⟨rfl, ?_⟩⟩
        have s3 : Same H2 H3 := Same.made ny ndy kp
        obtain ⟨dt, et⟩ := ht.same s3
        obtain ⟨d3, e3⟩ := id h3
        refine ⟨t, dt, _, y, d3, _, rfl, rfl, et, e3, t, y, _, _, _, _, rfl, ⟨dt, et⟩, h3, ?_⟩
        rw [is_one L.pos]
        have : lotsB ws W = decide (ws.sum = W) := by
          unfold lotsB
          have : (ws.all fun w => decide (0 ≤ w)) = true := List.all_eq_true.mpr fun w hw => decide_eq_true (hp w hw)
          rw [this, Bool.true_and]
        rw [← this]
        exact q _ (s2.trans s3)
    · refine .inr ⟨_, rfl, l, rfl, ⟨_, sq.ext s1⟩, for_tup Pv h0 (fun i σ H2 _ h => sq.ext h.2.1) ?_ ?_⟩
      · rintro i x σ H2 hx ⟨⟨v2, t, rfl, ht⟩, s2, hp⟩
        rw [List.getElem?_map] at hx
        obtain ⟨a, hxa, rfl⟩ := Option.map_eq_some_iff.mp hx
        have hil : i < as.length := (List.getElem?_eq_some_iff.mp hxa).1
        have hiw : i < ws.length := by rw [← L.len]; exact hil
        have hw : ws[i]? = some ws[i] := List.getElem?_eq_getElem hiw
        have ea := ((L.same s2).at_ i a ws[i] hxa hw)
        have hwm := List.getElem_mem hiw
        have hws := L.small _ hwm
        obtain ⟨da, ea⟩ := id ea
        refine ⟨_, rfl, a, C, da, _, _, rfl, ea, T.cl, T.nN, rf_num _ _, _, _, rfl, rfl, _, rfl, ite2 (fun z => ?_) (fun z => ?_)⟩
        · have z := of_decide_eq_true z
          have hneg : ws[i] < 0 := by
            refine Int.not_le.mp fun z2 => ?_
            have h1 := n_eq ws[i] W
            have h2 := G_pos (n := ws[i]) L.pos
            have h3 : K0.G ws[i] W * rn ws[i] W < 0 := Int.mul_neg_of_pos_of_neg h2 z
            omega
          have : lotsB ws W = false := by
            unfold lotsB
            have : (ws.all fun w => decide (0 ≤ w)) = false := List.all_eq_false.mpr ⟨ws[i], hwm, by simpa using hneg⟩
            rw [this, Bool.false_and]
          rw [this] at q
          exact q _ s2
        · have hnn : 0 ≤ ws[i] := by
            refine Int.not_lt.mp fun z2 => z (decide_eq_true ?_)
            have h1 := n_eq ws[i] W
            have h2 := G_pos (n := ws[i]) L.pos
            refine Int.not_le.mp fun z3 => ?_
            have := Int.mul_nonneg (Int.le_of_lt h2) z3
            omega
          obtain ⟨dt, et⟩ := id ht
          refine ⟨_, rfl, _, rfl, t, dt, _, a, da, _, rfl, rfl, et, ea, t, a, _, _, _, _, rfl, ht, ⟨da, ea⟩, ⟨8100, 300, (bs i).rn L.pos, Bd.rd L.pos bW, hws.2.1, hws.2.2, by decide, by decide, by decide⟩, rd_pos L.pos, rd_pos L.pos, fun t2 H3 s3 h3 => ?_⟩
          have hsum : (ws.take (i + 1)).sum = (ws.take i).sum + ws[i] := by
            rw [List.take_succ_eq_append_getElem hiw, List.sum_append, List.sum_cons, List.sum_nil, Int.add_zero]
          obtain ⟨r1, r2⟩ := sum_rn (S := (ws.take i).sum) (w := ws[i]) L.pos
          have h3 : RatAt C H3 t2 (rn (ws.take (i + 1)).sum W) (rd (ws.take (i + 1)).sum W) := by
            rw [hsum, ← r1, ← r2]
            exact h3
          refine ⟨⟨_, t2, rfl, h3⟩, s2.trans s3, fun w hw => ?_⟩
          rw [List.take_succ_eq_append_getElem hiw] at hw
          rcases List.mem_append.mp hw with hw | hw
          · exact hp w hw
          · rw [List.mem_singleton.mp hw]
            exact hnn
      · rintro σ H2 ⟨⟨v2, t, rfl, ht⟩, s2, hp⟩
        rw [List.length_map, L.len, List.take_length] at ht hp
        refine ⟨_, rfl, fun y dy ny ndy ney => ?_⟩
        refine ⟨y, dy, 1, 1, rfl, upd_same, Bd.of_small (by decide) (by decide), fun z => absurd z (by decide), fun _ H3 h3 kp => ⟨rfl, ?_⟩⟩
        have s3 : Same H2 H3 := Same.made ny ndy kp
        obtain ⟨dt, et⟩ := ht.same s3
        obtain ⟨d3, e3⟩ := id h3
        refine ⟨t, dt, _, y, d3, _, rfl, rfl, et, e3, t, y, _, _, _, _, rfl, ⟨dt, et⟩, h3, ?_⟩
        rw [is_one L.pos]
        have : lotsB ws W = decide (ws.sum = W) := by
          unfold lotsB
          have : (ws.all fun w => decide (0 ≤ w)) = true := List.all_eq_true.mpr fun w hw => decide_eq_true (hp w hw)
          rw [this, Bool.true_and]
        rw [← this]
        exact q _ (s2.trans s3)
end
end K0

set_option Elab.async false
set_option linter.all false
set_option maxRecDepth 100000
set_option maxHeartbeats 2000000
/-! Dicts with keys of nested tuples: walked, made of pairs, compared; keys as data. -/
namespace Kd
open PySem PySem.Spec PyProof.Rows L2
/-! ### keys are data -/
mutual
theorem Nest.dp {K : PySem.W.Frag} {H : Hp} : ∀ {k : NestedKey} {v : V}, Nest H k v → Dp K H v k.data
  | _, _, .none => .non
  | _, _, .num i => .int i
  | _, _, .text z => .str z
  | _, _, .tup h r => .tup (SqT.of h) (NestL.dp r)
theorem NestL.dp {K : PySem.W.Frag} {H : Hp} : ∀ {ks : List NestedKey} {vs : List V}, NestL H ks vs → DpAll K H vs (NestedKey.datas ks)
  | _, _, .nil => .nil
  | _, _, .cons h r => .cons (Nest.dp h) (NestL.dp r)
end
mutual
theorem Nest.det {H : Hp} : ∀ {k k' : NestedKey} {v : V}, Nest H k v → Nest H k' v → k = k'
  | _, _, _, .none, h => by cases h; rfl
  | _, _, _, .num i, h => by cases h; rfl
  | _, _, _, .text z, h => by cases h; rfl
  | _, _, _, .tup e r, h => by
    cases h with
    | tup e' r' =>
      rw [e] at e'
      injection e' with e'
      injection e' with e'
      subst e'
      rw [NestL.det r r']
theorem NestL.det {H : Hp} : ∀ {ks ks' : List NestedKey} {vs : List V}, NestL H ks vs → NestL H ks' vs → ks = ks'
  | _, _, _, .nil, h => by cases h; rfl
  | _, _, _, .cons a r, h => by
    cases h with
    | cons a' r' => rw [Nest.det a a', NestL.det r r']
end
mutual
theorem eqv_beq : ∀ a b : NestedKey, PyData.eqv a.data b.data = NestedKey.beq a b
  | .none, .none => rfl
  | .none, .num _ => rfl
  | .none, .text _ => rfl
  | .none, .tup _ => rfl
  | .num _, .none => rfl
  | .num i, .num j => by
    show (i == j) = decide (i = j)
    by_cases h : i = j <;> simp [h]
  | .num _, .text _ => rfl
  | .num _, .tup _ => rfl
  | .text _, .none => rfl
  | .text _, .num _ => rfl
  | .text x, .text y => by
    show (x == y) = decide (x = y)
    by_cases h : x = y <;> simp [h]
  | .text _, .tup _ => rfl
  | .tup _, .none => rfl
  | .tup _, .num _ => rfl
  | .tup _, .text _ => rfl
  | .tup as, .tup bs => by
    show PyData.eqvAll (NestedKey.datas as) (NestedKey.datas bs) = NestedKey.beqAll as bs
    exact eqv_beqAll as bs
theorem eqv_beqAll : ∀ as bs : List NestedKey, PyData.eqvAll (NestedKey.datas as) (NestedKey.datas bs) = NestedKey.beqAll as bs
  | [], [] => rfl
  | [], _ :: _ => rfl
  | _ :: _, [] => rfl
  | a :: as, b :: bs => by
    show (PyData.eqv a.data b.data && PyData.eqvAll (NestedKey.datas as) (NestedKey.datas bs)) = (NestedKey.beq a b && NestedKey.beqAll as bs)
    rw [eqv_beq a b, eqv_beqAll as bs]
end
theorem eqv_key (a b : NestedKey) : PyData.eqv a.data b.data = decide (a = b) := by
  rw [eqv_beq, NestedKey.decide_eq]
/-! ### walked -/
/-- the keys in order: the tuples that stand in the dict -/
def ItKD (d : Addr) (es : Array DictEntry) (ep : Nat) (kvs : Kvs) : It :=
  ⟨fun i H => H d = some (.ext (rawD d es ep)) ∧ i < kvs.length, fun i H x H' => H' = H ∧ ∃ p, kvs[i]? = some p ∧ x = .ref p.2.1, fun i H => H d = some (.ext (rawD d es ep)) ∧ kvs.length ≤ i⟩
theorem KDD.entry {P : Program} {w : World} {H : Hp} {d : Addr} {kvs : Kvs} {es : Array DictEntry} {ep : Nat} {xs : List (NestedKey × Addr × Value)} (q : KDD P w H d kvs es ep xs) :
    es.size = kvs.length ∧ ∀ (i : Nat) (p : NestedKey × Addr × V), kvs[i]? = some p → ∃ (en : DictEntry) (u : Value), es[i]? = some en ∧ en.key = .ref p.2.1 ∧ en.val = u ∧ RelV p.2.2 u := by
  refine ⟨?_, fun i p hp => ?_⟩
  · rw [size_of_entries q.es_, paired_len q.rel_]
  · obtain ⟨x, hx, e1, e2, e3⟩ := paired_get q.rel_ hp
    have := entry_at q.es_ i
    rw [hx] at this
    exact ⟨_, _, this, by rw [e2]; rfl, rfl, e3⟩
theorem turn_kd {P : Program} {w : World} {K : PySem.W.Frag} {tg : Expr} {d : Addr} {es : Array DictEntry} {ep : Nat} {kvs : Kvs} (it : Addr) (hsz : es.size = kvs.length)
    (ent : ∀ (i : Nat) (p : NestedKey × Addr × V), kvs[i]? = some p → ∃ (en : DictEntry) (u : Value), es[i]? = some en ∧ en.key = .ref p.2.1 ∧ en.val = u ∧ RelV p.2.2 u) : Turn P w K tg (ItKD d es ep kvs) [it] it (fun i h => h.IsKeyIter it d i kvs.length ep) where
  mem := by simp
  obj := fun i h st b hb => by
    have e : b = it := by simpa using hb
    subst e
    obtain ⟨oi, e, c, dd⟩ := st
    exact ⟨oi, e, fun v z => by rw [dd] at z; cases z⟩
  keep := fun i h h' st k => st.at fun oi e => k it (by simp) oi e
  item := by
    intro X hP hw hK hc i pins s σ H E I hf st hg
    subst hP hw hK
    obtain ⟨hd, hi⟩ := hg
    obtain ⟨f0, f1, f2, f3, f4, f5⟩ := hf it (by simp)
    obtain ⟨⟨o, hgd, hx, hdt⟩, _, _⟩ := (show ObjOk X.prog X.w H s.heap d (.ext (rawD d es ep)) from I.hok d _ hd)
    obtain ⟨p, hp⟩ : ∃ p, kvs[i]? = some p := ⟨kvs[i], List.getElem?_eq_getElem hi⟩
    obtain ⟨en, u, hen, hkey, _, _⟩ := ent i p hp
    refine next_key_item st hgd hdt hsz hen fun h' st' sb => ?_
    have I1 : Inv X pins σ H { s with heap := h' } := I.turned (t' := s.toks) (fun b ob hb e => (sb.2 b hb).trans e) f0 f1 f3 f4 f5
    obtain ⟨oi, e, c, dd⟩ := id st'
    exact ⟨en.key, rfl, go_of (s := { s with heap := h' }) e c dd (by decide) ⟨.ref p.2.1, H, I1, hkey, ⟨rfl, p, hp, rfl⟩, st', fun b hb => (hf b hb).1⟩⟩
  done := by
    intro X hP hw hK hc i pins s σ H E I hf st hg
    subst hP hw hK
    obtain ⟨hd, hi⟩ := hg
    obtain ⟨f0, f1, f2, f3, f4, f5⟩ := hf it (by simp)
    obtain ⟨⟨o, hgd, hx, hdt⟩, _, _⟩ := (show ObjOk X.prog X.w H s.heap d (.ext (rawD d es ep)) from I.hok d _ hd)
    exact next_key_end (I.ok.hd hc) st hgd hdt hsz hi fun h' eb => ⟨rfl, I.turned (t' := s.toks) (fun b ob hb e => eb b ob hb e) f0 f1 f3 f4 f5⟩
  self := fun A i s Q E st h => by
    refine wpAny_pyIter_slot st.typeIs PySem.F.slot_dict_keyiterator_iter (wpAny_call_entry PySem.F.slot_dict_keyiterator_iter st.typeIs PySem.F.entry_dict_keyiterator_iter ?_ (PySem.F.args_dict_keyiterator_iter_1 _))
    show wpAny _ _ (ret (.ref it)) _ _ s
    exact wpAny_pure ⟨_, rfl, "dict_keyiterator", _, st.typeIs, PySem.F.slot_dict_keyiterator_next.lookup, h⟩
def iKD (P : Program) (w : World) (td : TE) : TI := fun σ H R => td σ H fun x H1 => ∃ (d : Addr) (kvs : Kvs), x = .ref d ∧ KD P w H1 d kvs ∧ ∀ es ep, H1 d = some (.ext (rawD d es ep)) → R (ItKD d es ep kvs) H1
theorem pi_kd {X : Cx} {tg e : Expr} {td : TE} (he : PE X e td) : PI X tg e (iKD X.prog X.w td) := by
  refine ⟨fun pins s σ H R I h => ?_⟩
  refine thn (he.run pins s σ H _ I h) fun u s1 ⟨x, H1, I1, rx, d, kvs, ex, kd, q⟩ => ?_
  subst ex
  obtain rfl : u = Value.ref d := rx
  obtain ⟨es, ep, xs, kq⟩ := kd.ok
  obtain ⟨hsz, ent⟩ := kq.entry
  obtain ⟨⟨o, hgd, hx, hdt⟩, _, _⟩ := (show ObjOk X.prog X.w H1 s1.heap d (.ext (rawD d es ep)) from I1.hok d _ kq.at_)
  refine iter_keys kd.sys hgd hx hdt (pi_one (tk := s1.toks) I1 _ (turn_kd _ hsz ent) ⟨_, Heap.get?_push_size _ rfl, rfl, ?_⟩ (q es ep kq.at_))
  rw [hsz] <;> rfl
/-- a comprehension over such a dict -/
theorem lc_kd {d : Addr} {es : Array DictEntry} {ep : Nat} {kvs : Kvs} {g : TG} {tt : TT} {te : TE} {vs : List Nat} {σ : L2.St} {H1 : Hp} {D : Addr} {Qd : Hp → Prop} (Pv : Nat → Hp → Prop) (h0 : Pv 0 (upd H1 D (.lst []))) (hl : ∀ i H, i ≤ kvs.length → Pv i H → H d = some (.ext (rawD d es ep)))
    (hs : ∀ i p H, kvs[i]? = some p → Pv i H → g (.ref p.2.1) (wipe σ vs) H fun σ2 H2 => wipe σ2 vs = wipe σ vs ∧ tt σ2 H2 fun b H3 =>
      if b = true then te σ2 H3 fun y H4 => ∃ acc, H4 D = some (.lst acc) ∧ acc.length < sizeLine ∧ Pv (i + 1) (upd H4 D (.lst (acc ++ [y]))) else Pv (i + 1) H3) (hd : ∀ H, Pv kvs.length H → Qd H) :
    ∃ W : Nat → Nat → Hp → Prop, (∃ m, W 0 m (upd H1 D (.lst []))) ∧ ∀ i m H, W i m H →
      ((ItKD d es ep kvs).stop i H ∧ Qd H) ∨ ((ItKD d es ep kvs).go i H ∧ ∃ Nx : Hp → Prop, (∀ H', Nx H' → ∃ m', m' < m ∧ W (i + 1) m' H') ∧ ∀ x H', (ItKD d es ep kvs).yld i H x H' → g x (wipe σ vs) H' fun σ2 H2 => wipe σ2 vs = wipe σ vs ∧ tt σ2 H2 fun b H3 =>
        if b = true then te σ2 H3 fun y H4 => ∃ acc, H4 D = some (.lst acc) ∧ acc.length < sizeLine ∧ Nx (upd H4 D (.lst (acc ++ [y]))) else Nx H3) := by
  refine ⟨fun i m H => m = kvs.length - i ∧ i ≤ kvs.length ∧ Pv i H, ⟨kvs.length, by simp, Nat.zero_le _, h0⟩, ?_⟩
  rintro i m H ⟨rfl, hi, p⟩
  have q := hl i H hi p
  by_cases hlt : i < kvs.length
  · refine .inr ⟨⟨q, hlt⟩, Pv (i + 1), fun H' p' => ⟨kvs.length - (i + 1), by omega, rfl, hlt, p'⟩, fun x H' y => ?_⟩
    obtain ⟨e, pp, hp, rfl⟩ := y
    subst e
    exact hs i pp _ hp p
  · have e : i = kvs.length := by omega
    subst e
    exact .inl ⟨⟨q, Nat.le_refl _⟩, hd H p⟩
theorem for_kd {d : Addr} {es : Array DictEntry} {ep : Nat} {kvs : Kvs} {g : TG} {tb : TS} {D : Ends} {σ : L2.St} {H : Hp} (Pv : Nat → L2.St → Hp → Prop) (h0 : Pv 0 σ H) (hl : ∀ i σ H, i ≤ kvs.length → Pv i σ H → H d = some (.ext (rawD d es ep)))
    (hs : ∀ i p σ H, kvs[i]? = some p → Pv i σ H → g (.ref p.2.1) σ H fun σ2 H2 => tb { D with nx := Pv (i + 1), ct := Pv (i + 1), bk := D.nx } σ2 H2) (hd : ∀ σ H, Pv kvs.length σ H → D.nx σ H) :
    ∃ W : Nat → Nat → L2.St → Hp → Prop, (∃ m, W 0 m σ H) ∧ ∀ i m σ H, W i m σ H →
      ((ItKD d es ep kvs).stop i H ∧ D.nx σ H) ∨ ((ItKD d es ep kvs).go i H ∧ ∃ N : L2.St → Hp → Prop, (∀ σ' H', N σ' H' → ∃ m', m' < m ∧ W (i + 1) m' σ' H') ∧ ∀ x H', (ItKD d es ep kvs).yld i H x H' → g x σ H' fun σ2 H2 => tb { D with nx := N, ct := N, bk := D.nx } σ2 H2) := by
  refine ⟨fun i m σ H => m = kvs.length - i ∧ i ≤ kvs.length ∧ Pv i σ H, ⟨kvs.length, by simp, Nat.zero_le _, h0⟩, ?_⟩
  rintro i m σ H ⟨rfl, hi, p⟩
  have q := hl i σ H hi p
  by_cases hlt : i < kvs.length
  · refine .inr ⟨⟨q, hlt⟩, Pv (i + 1), fun σ' H' p' => ⟨kvs.length - (i + 1), by omega, rfl, hlt, p'⟩, fun x H' y => ?_⟩
    obtain ⟨e, pp, hp, rfl⟩ := y
    subst e
    exact hs i pp σ _ hp p
  · have e : i = kvs.length := by omega
    subst e
    exact .inl ⟨⟨q, Nat.le_refl _⟩, hd σ H p⟩
/-! ### dict(pairs) -/
def mergeKv (kvs ps : Kvs) : Kvs := ps.foldl (fun acc p => putKv acc p.1 p.2.1 p.2.2) kvs
theorem paired_merge {ps : Kvs} {qs : List (NestedKey × Addr × Value)} (r : Paired rel ps qs) : ∀ {kvs : Kvs} {xs : List (NestedKey × Addr × Value)}, Paired rel kvs xs → Paired rel (mergeKv kvs ps) (storedAllH xs qs) := by
  induction r with
  | nil => exact fun h => h
  | cons a r ih =>
    intro kvs xs h
    obtain ⟨e1, e2, e3⟩ := a
    show Paired rel (mergeKv (putKv kvs _ _ _) _) (storedAllH (storedH xs _ _ _) _)
    rw [← e1, ← e2]
    exact ih (paired_put e3 h)
theorem len_merge : ∀ (ps kvs : Kvs), (mergeKv kvs ps).length ≤ kvs.length + ps.length
  | [], kvs => Nat.le_refl _
  | p :: ps, kvs => by
    have h1 := len_merge ps (putKv kvs p.1 p.2.1 p.2.2)
    have h2 := len_put kvs p.1 p.2.1 p.2.2
    show (mergeKv (putKv kvs p.1 p.2.1 p.2.2) ps).length ≤ _
    rw [List.length_cons]
    omega
theorem mem_merge {R : NestedKey → Addr → Prop} : ∀ (ps kvs : Kvs), (∀ p ∈ kvs, R p.1 p.2.1) → (∀ p ∈ ps, R p.1 p.2.1) → ∀ p ∈ mergeKv kvs ps, R p.1 p.2.1
  | [], kvs, h, _ => h
  | q :: ps, kvs, h, h2 => by
    refine mem_merge ps (putKv kvs q.1 q.2.1 q.2.2) (fun p hp => ?_) fun p hp => h2 p (List.mem_cons_of_mem _ hp)
    rcases mem_put p hp with ⟨p', hp', e1, e2⟩ | ⟨e1, e2⟩
    · rw [← e1, ← e2]
      exact h p' hp'
    · rw [e1, e2]
      exact h2 q (List.mem_cons_self ..)
theorem relP_of {X : Cx} {pins : List (Addr × Obj)} {σ : L2.St} {H : Hp} {s : Shared} (I : L2.Inv X pins σ H s) : ∀ {Ts : List Addr} {ps : Kvs}, Paired (fun T p => SqT X.K H T [.ref p.2.1, p.2.2]) Ts ps →
    ∃ qs : List (NestedKey × Addr × Value), Paired rel ps qs ∧ qs.length = Ts.length ∧ ∀ (j : Nat) (q : NestedKey × Addr × Value), qs[j]? = some q → ∃ T, Ts[j]? = some T ∧ IsTup s.heap T #[.ref q.2.1, q.2.2]
  | _, _, .nil => ⟨[], .nil, rfl, fun j q e => by simp at e⟩
  | _, _, .cons (a := T) (b := p) h t => by
    obtain ⟨qs, r, hl, hp⟩ := relP_of I t
    obtain ⟨its, rv, ht, _⟩ := I.tuple h
    obtain ⟨u, y, ei, ru, ry⟩ := vals2 rv
    subst ei
    cases (show u = Value.ref p.2.1 from ru)
    refine ⟨(p.1, p.2.1, y) :: qs, .cons ⟨rfl, rfl, ry⟩ r, by simp [hl], fun j q e => ?_⟩
    cases j with
    | zero =>
      simp only [List.getElem?_cons_zero, Option.some.injEq] at e
      subst e
      exact ⟨T, rfl, ht⟩
    | succ j =>
      simp only [List.getElem?_cons_succ] at e ⊢
      exact hp j q e
def rDictN (P : Program) (w : World) (K : PySem.W.Frag) : List V → Hp → VK → Prop := fun xs H Q => ∃ (a : Addr) (Ts : List Addr) (ps : Kvs), xs = [.ref a] ∧ SqL K H a (Ts.map V.ref) ∧ Paired (fun T p => SqT K H T [.ref p.2.1, p.2.2]) Ts ps ∧ (∀ p ∈ ps, Nest H p.1 (.ref p.2.1) ∧ p.1.depth ≤ 8) ∧ ps.length ≤ 100000 ∧
  ∀ (d : Addr) (H' : Hp), H d = none → Same H H' → KD P w H' d (mergeKv [] ps) → Q (.ref d) H'
theorem call_dictN {X : Cx} (hcalm : X.calm = true) (hu : X.A.units + 64 < cLine) : CallR X (.type "dict") (rDictN X.prog X.w X.K) := by
  intro pins s σ H xs us Q I r q
  obtain ⟨a, Ts, ps, ex, hq, hp, hkey, hlen, q⟩ := q
  subst ex
  obtain ⟨u, eu, rx⟩ := vals1 r
  subst eu
  cases rx
  obtain ⟨its, rv, pl, hz⟩ := I.list hq
  have ei := refs_at rv
  subst ei
  obtain ⟨qs, rr, hl, hqs⟩ := relP_of I hp
  obtain ⟨o, n, ho, hc, hd, hdat⟩ := pl
  have hlT : Ts.length = ps.length := hp.length
  let prs : List (Value × Value) := qs.map fun q => (Value.ref q.2.1, q.2.2)
  have hpl : prs.length = ps.length := by rw [List.length_map, hl, hlT]
  have PA := PairArg.list (prog := X.prog) (w := X.w) a (Ts.map Value.ref).toArray (fun j => Ts.getD j 0) prs
  have ok : PlainSeq "list" s.heap a (Ts.map Value.ref).toArray ∧ PairItems s.heap (Ts.map Value.ref).toArray (fun j => Ts.getD j 0) prs := by
    refine ⟨⟨o, n, ho, hc, hd, hdat⟩, by rw [hpl, ← hlT]; simp, fun j k v e => ?_⟩
    obtain ⟨q', e1, e2⟩ := Option.map_eq_some_iff.mp ((List.getElem?_map ..).symm.trans (show prs[j]? = some (k, v) from e))
    cases e2
    obtain ⟨T, hT, it⟩ := hqs j q' e1
    have hg : Ts.getD j 0 = T := by rw [List.getD_eq_getElem?_getD, hT]; rfl
    refine ⟨?_, ?_⟩
    · show (Ts.map Value.ref).toArray[j]? = some (.ref (Ts.getD j 0))
      rw [hg]
      simp [hT]
    · show PairAt s.heap (Ts.getD j 0) _ _
      rw [hg]
      exact .inl it
  have hkN : ∀ x ∈ qs, (nestedKind X.prog X.w).is s.heap x.1 x.2.1 := fun x hx => by
    obtain ⟨p, hp, e1, e2, _⟩ := paired_mem rr x hx
    obtain ⟨n1, n2⟩ := hkey p hp
    rw [← e1, ← e2]
    exact ⟨n1.is I.hok rfl, n2⟩
  have hqp : qs.length = ps.length := by rw [hl, hlT]
  refine call_dict_pairsH (knd := nestedKind X.prog X.w) (ps := qs) PA (I.ok.hd hcalm) (by show X.A.units + 1 + 1 + 8 < cLine; omega) ok ⟨by rw [hpl, hqp], fun i key v e => ?_⟩ (fun h' hk x hx => ?_) (by rw [hpl]; exact Nat.le_trans hlen (by decide)) fun h' tk hd' hk => ?_
  · obtain ⟨q', e1, e2⟩ := Option.map_eq_some_iff.mp ((List.getElem?_map ..).symm.trans (show prs[i]? = some (key, v) from e))
    cases e2
    exact ⟨q'.1, q'.2.1, e1, rfl⟩
  · exact nestedKind_stays.stays (fun b ob vs n hb _ => hk b ob (Nat.ne_of_lt (Heap.lt_size hb)) (by simp) hb) (hkN x hx)
  · have hm : (s.heap.objs.size == sysModules) = false := beq_eq_false_iff_ne.mpr (Nat.ne_of_gt I.big)
    obtain ⟨ob, es, ep, h1, h2, h3, h4, h5, h6⟩ := hd'
    have rp := paired_merge rr (kvs := []) (xs := []) .nil
    have hn : H s.heap.objs.size = none := I.hok.fresh (Nat.le_refl _)
    have e0 : ∀ b xs, H b = some (.tup xs) → upd H s.heap.objs.size (.ext (rawD s.heap.objs.size es ep)) b = some (.tup xs) := fun b xs e => by
      rw [upd_ne (ne_of_none e hn)]
      exact e
    refine ⟨.ref s.heap.objs.size, upd H s.heap.objs.size (.ext (rawD s.heap.objs.size es ep)), I.laid (t' := tk) (fun b u e => hk b u (by simp) e) (Nat.le_refl _) ⟨⟨ob, h1, h2, h3⟩, ⟨ob, h1⟩, fun _ _ ⟨o', q1, q2⟩ kk => ⟨o', kk _ q1, q2⟩⟩, rfl, q _ _ hn (fun b o' e => ?_) ⟨?_, fun p hp' => ?_, hm, ?_, es, ep, _, upd_same, h4, rp⟩⟩
    · rw [upd_ne (ne_of_none e hn)]
      exact e
    · rw [← paired_fst rp]
      exact h6
    · obtain ⟨n1, n2⟩ := mem_merge (R := fun k a => Nest H k (.ref a) ∧ k.depth ≤ 8) ps [] (fun x hx => nomatch hx) hkey p hp'
      exact ⟨n1.keep e0, n2⟩
    · have := len_merge ps []
      rw [List.length_nil] at this
      omega
/-! ### == of two such dicts whose values are data -/
def isData (K : PySem.W.Frag) (H : Hp) (p : NestedKey × Addr × V) (q : NestedKey × PyData) : Prop := p.1 = q.1 ∧ Dp K H p.2.2 q.2 ∧ SeqAt.shaped q.2 = true
def lookD (kb : List (NestedKey × PyData)) (k : NestedKey) : Option PyData := (kb.find? fun p => decide (p.1 = k)).map (·.2)
def hitsD (kb : List (NestedKey × PyData)) : List (NestedKey × PyData) → Bool
  | [] => true
  | q :: r => (match lookD kb q.1 with | none => false | some e => PyData.eqv q.2 e) && hitsD kb r
def eqD (ka kb : List (NestedKey × PyData)) : Bool := (ka.length == kb.length) && hitsD kb ka
theorem look_rel {K : PySem.W.Frag} {H : Hp} {kvs : Kvs} {ds : List (NestedKey × PyData)} (r : Paired (isData K H) kvs ds) (k : NestedKey) : (atK kvs k = none ∧ lookD ds k = none) ∨ ∃ v d, atK kvs k = some v ∧ lookD ds k = some d ∧ Dp K H v d ∧ SeqAt.shaped d = true := by
  induction r with
  | nil => exact .inl ⟨rfl, rfl⟩
  | cons a r ih =>
    unfold atK lookD at *
    rw [List.find?_cons, List.find?_cons, ← a.1]
    rename_i p q ps qs
    by_cases e : p.1 = k
    · rw [decide_eq_true e]
      exact .inr ⟨_, _, rfl, rfl, a.2.1, a.2.2⟩
    · rw [decide_eq_false e]
      exact ih
theorem find_at {kvs : Kvs} {xs : List (NestedKey × Addr × Value)} (r : Paired rel kvs xs) (nd : (kvs.map (·.1)).Nodup) (k : NestedKey) : (atK kvs k = none ∧ ∀ (j : Nat) (p : Addr × Value), xs[j]? ≠ some (k, p)) ∨
    ∃ v, atK kvs k = some v ∧ ∀ (j : Nat) (p : Addr × Value), xs[j]? = some (k, p) → RelV v p.2 := by
  induction r with
  | nil => exact .inl ⟨rfl, fun j p z => by simp at z⟩
  | cons a r ih =>
    rename_i p x ps ys
    rw [List.map_cons, List.nodup_cons] at nd
    unfold atK
    rw [List.find?_cons]
    by_cases e : p.1 = k
    · rw [decide_eq_true e]
      refine .inr ⟨_, rfl, fun j q hq => ?_⟩
      cases j with
      | zero =>
        simp only [List.getElem?_cons_zero, Option.some.injEq] at hq
        have h3 := a.2.2
        rw [hq] at h3
        exact h3
      | succ j =>
        exfalso
        simp only [List.getElem?_cons_succ] at hq
        have hm := List.mem_of_getElem? hq
        obtain ⟨p', hp', e1, _⟩ := paired_mem r _ hm
        exact nd.1 (List.mem_map.mpr ⟨p', hp', by rw [e1, e]⟩)
    · rw [decide_eq_false e]
      rcases ih nd.2 with ⟨h1, h2⟩ | ⟨v, h1, h2⟩
      · refine .inl ⟨h1, fun j q hq => ?_⟩
        cases j with
        | zero =>
          simp only [List.getElem?_cons_zero, Option.some.injEq] at hq
          have := a.1
          rw [hq] at this
          exact e this
        | succ j => exact h2 j q (by simpa using hq)
      · refine .inr ⟨v, h1, fun j q hq => ?_⟩
        cases j with
        | zero =>
          simp only [List.getElem?_cons_zero, Option.some.injEq] at hq
          have := a.1
          rw [hq] at this
          exact absurd this e
        | succ j => exact h2 j q (by simpa using hq)
theorem same_pairsN {X : Cx} {pins : List (Addr × Obj)} {σ : L2.St} {H : Hp} {s : Shared} {E : Value → Shared → Prop} (I : L2.Inv X pins σ H s) {A : Around} {nm : String} {a b : Addr} {ka kb : Kvs} {da db : List (NestedKey × PyData)} {Q : Bool → Shared → Prop} (hu : A.units + 64 < cLine)
    (kA : KD X.prog X.w H a ka) (kB : KD X.prog X.w H b kb) (rA : Paired (isData X.K H) ka da) (rB : Paired (isData X.K H) kb db) (h : Q (eqD da db) s) :
    wpAny (model X.prog X.w) A (Builtin.Dict.samePairs nm a b) Q E s := by
  obtain ⟨xa, ra, oa, es, ep, hoa, _, hda, hea, hia, hna⟩ := kA.heap I.hok
  obtain ⟨xb, rb, ob, es', ep', hob, _, hdb, heb, hib, hnb⟩ := kB.heap I.hok
  have hla : es.size = da.length := by rw [size_of_entries hea, paired_len ra, rA.length]
  have hlb : es'.size = db.length := by rw [size_of_entries heb, paired_len rb, rB.length]
  unfold eqD at h
  rw [← hla, ← hlb] at h
  unfold Builtin.Dict.samePairs Builtin.Dict.showsAll
  rw [if_neg (show ¬ (a == sysModules) = true by rw [kA.sys]; exact Bool.false_ne_true), if_neg (show ¬ (b == sysModules) = true by rw [kB.sys]; exact Bool.false_ne_true)]
  refine wpAny_bind (wpAny_pure (wpAny_bind (wpAny_pure ?_)))
  refine wpAny_bind (wpAny_dictEntries hoa hda ?_)
  dsimp only
  refine wpAny_bind (wpAny_dictEntries hob hdb ?_)
  by_cases hsz : es.size = es'.size
  case neg =>
    rw [if_pos (by simpa using hsz)]
    have hbf : (es.size == es'.size) = false := by simpa using hsz
    rw [hbf, Bool.false_and] at h
    exact wpAny_bind (wpAny_rule (wpAny_pure h))
  case pos =>
    have h' : Q (hitsD db da) s := by simpa [hsz] using h
    rw [if_neg (by rw [hsz]; simp)]
    refine wpAny_bind (wpAny_dictEpoch hoa hda ?_)
    refine wpAny_bind ?_
    rw [Std.Legacy.Range.forIn_eq_forIn_range']
    simp only [Std.Legacy.Range.size, Nat.sub_zero, Nat.add_sub_cancel, Nat.div_one]
    refine wpAny_forIn_list _
      (fun rest q s' => s' = s ∧ q = (none, ()) ∧ ∃ i, rest = List.range' i (es.size - i) ∧ i ≤ es.size ∧ hitsD db da = hitsD db (da.drop i))
      _ ?_ ?_ _ _ ⟨rfl, rfl, 0, by simp, Nat.zero_le _, rfl⟩
    · rintro x rest q s' ⟨rfl, rfl, i, hr, hi, hpre⟩
      have hlt : i < es.size := by
        rcases Nat.lt_or_ge i es.size with h | h
        · exact h
        · rw [Nat.sub_eq_zero_of_le h] at hr; simp at hr
      obtain ⟨rfl, hrest⟩ : x = i ∧ rest = List.range' (i + 1) (es.size - (i + 1)) := by
        have e : es.size - i = (es.size - (i + 1)) + 1 := by omega
        rw [e, List.range'_succ] at hr
        injection hr with h1 h2
        exact ⟨h1, h2⟩
      refine wpAny_bind (wpAny_dictEntries hoa hda ?_)
      rw [Array.getElem?_eq_getElem hlt]
      have hda' : x < da.length := by omega
      have hdrop : da.drop x = da[x] :: da.drop (x + 1) := List.drop_eq_getElem_cons hda'
      have hka' : x < ka.length := by rw [rA.length]; exact hda'
      obtain ⟨qd, hqd, e1, dp1, sh1⟩ := paired_get rA (List.getElem?_eq_getElem hka')
      have eqd : qd = da[x] := by
        rw [List.getElem?_eq_getElem hda'] at hqd
        exact (Option.some.inj hqd).symm
      obtain ⟨xv, hxv, f1, f2, f3⟩ := paired_get ra (List.getElem?_eq_getElem hka')
      have hent := entry_at hea x
      rw [hxv, Array.getElem?_eq_getElem hlt] at hent
      have hent : es[x] = entryOfKey (nestedKind X.prog X.w) xv := Option.some.inj hent
      rw [hdrop] at hpre
      have hkx := hia xv (List.mem_of_getElem? hxv)
      show wpAny _ _ (holding [es[x].key, es[x].val] _ >>= _) _ _ _
      rw [hent]
      obtain ⟨as, rd1⟩ := Dp.reads I qd.2 _ xv.2.2 dp1 f3
      have ekey : xv.1 = qd.1 := by rw [← f1, e1]
      refine wpAny_bind (wpAny_holding (wpAny_bind (wpAny_dictFind_heap (knd := nestedKind X.prog X.w) (k := xv.1) (by show A.units + 8 < cLine; omega) hkx hob hdb heb hib hnb (fun hno => ?_) (fun j p hj => ?_))))
      · have hn : lookD db qd.1 = none := by
          rcases find_at rb kB.nd qd.1 with ⟨z1, _⟩ | ⟨v, z1, z2⟩
          · rcases look_rel rB qd.1 with ⟨_, y⟩ | ⟨v', d', y, _⟩
            · exact y
            · rw [z1] at y; cases y
          · exfalso
            obtain ⟨p', hp', hv⟩ : ∃ p' ∈ kb, p'.1 = qd.1 := by
              unfold atK at z1
              obtain ⟨p', hf, _⟩ := Option.map_eq_some_iff.mp z1
              exact ⟨p', List.mem_of_find?_eq_some hf, by simpa using List.find?_some hf⟩
            obtain ⟨j, hj⟩ := List.getElem?_of_mem hp'
            obtain ⟨x', hx', g1, _⟩ := paired_get rb hj
            exact hno j x'.2 (by rw [hx', ekey, ← hv, g1])
        rw [← eqd] at hpre
        have hf : hitsD db da = false := by
          rw [hpre]
          show ((match lookD db qd.1 with | none => false | some e => PyData.eqv qd.2 e) && _) = false
          rw [hn]
          rfl
        rw [hf] at h'
        refine wpAny_pure ?_
        show wpAny _ _ (if (!false) = true then _ else _) _ _ _
        rw [if_pos (by decide)]
        exact wpAny_pure (wpAny_pure h')
      · have hjlt : j < es'.size := by
          have := (List.getElem?_eq_some_iff.mp hj).1
          rw [size_of_entries heb]
          exact this
        have hent' := entry_at heb j
        rw [hj, Array.getElem?_eq_getElem hjlt] at hent'
        have hent' : es'[j] = entryOfKey (nestedKind X.prog X.w) (xv.1, p) := Option.some.inj hent'
        refine wpAny_bind (wpAny_dictEntries hob hdb ?_)
        rw [Array.getElem?_eq_getElem hjlt]
        obtain ⟨v', d', y1, y2, y3, y4⟩ : ∃ v' d', atK kb qd.1 = some v' ∧ lookD db qd.1 = some d' ∧ Dp X.K H v' d' ∧ SeqAt.shaped d' = true := by
          rcases look_rel rB qd.1 with ⟨y, _⟩ | y
          · exfalso
            rcases find_at rb kB.nd qd.1 with ⟨_, z⟩ | ⟨v, z1, _⟩
            · exact z j p (by rw [hj, ekey])
            · rw [y] at z1; cases z1
          · exact y
        have rv : RelV v' p.2 := by
          rcases find_at rb kB.nd qd.1 with ⟨z, _⟩ | ⟨v, z1, z2⟩
          · rw [y1] at z; cases z
          · rw [y1] at z1
            cases z1
            exact z2 j p (by rw [hj, ekey])
        obtain ⟨bs, rd2⟩ := Dp.reads I d' _ p.2 y3 rv
        have eqat := SeqAt.eqAt_reads qd.2 d' A s' xv.2.2 p.2 as bs rd1 rd2 (SeqAt.canLay_of_shaped sh1) (SeqAt.canLay_of_shaped y4) (SeqAt.room_of_shaped sh1 hu)
        rw [← eqd] at hpre
        have hstep : hitsD db da = (PyData.eqv qd.2 d' && hitsD db (da.drop (x + 1))) := by
          rw [hpre]
          show ((match lookD db qd.1 with | none => false | some e => PyData.eqv qd.2 e) && _) = _
          rw [y2]
        show wpAny _ _ (holding [es'[j].val] (eqBool _ es'[j].val)) _ _ _
        rw [hent']
        refine wpAny_holding (eqat X.prog X.w _ _ ?_)
        cases e : PyData.eqv qd.2 d' with
        | false =>
          rw [e, Bool.false_and] at hstep
          rw [hstep] at h'
          show wpAny _ _ (if (!false) = true then _ else _) _ _ _
          rw [if_pos (by decide)]
          exact wpAny_pure (wpAny_pure h')
        | true =>
          rw [e, Bool.true_and] at hstep
          show wpAny _ _ (if (!true) = true then _ else _) _ _ _
          rw [if_neg (by decide)]
          refine wpAny_bind (wpAny_dictEpoch hoa hda ?_)
          rw [if_neg (by simp)]
          exact wpAny_pure ⟨rfl, rfl, x + 1, hrest, hlt, hstep⟩
    · rintro q s' ⟨rfl, rfl, i, hr, hi, hpre⟩
      have hin : i = es.size := by
        rcases Nat.lt_or_ge i es.size with h | h
        · have e : es.size - i = (es.size - (i + 1)) + 1 := by omega
          rw [e, List.range'_succ] at hr; exact nomatch hr
        · exact Nat.le_antisymm hi h
      refine wpAny_pure ?_
      rw [hin, hla, List.drop_length] at hpre
      rw [hpre] at h'
      exact h'
def rEqDN (P : Program) (w : World) (K : PySem.W.Frag) : R2 := fun x y H Q => ∃ (a b : Addr) (ka kb : Kvs) (da db : List (NestedKey × PyData)), x = .ref a ∧ y = .ref b ∧ KD P w H a ka ∧ KD P w H b kb ∧ Paired (isData K H) ka da ∧ Paired (isData K H) kb db ∧ Q (.bl (eqD da db)) H
theorem op_eqDN {X : Cx} (hu : X.A.units + 65 < cLine) : OpR X (compareOp .Eq) (rEqDN X.prog X.w X.K) := by
  intro pins s σ H x y v u Q I rx ry h
  obtain ⟨a, b, ka, kb, da, db, rfl, rfl, kA, kB, rA, rB, q⟩ := h
  cases (show v = Value.ref a from rx)
  cases (show u = Value.ref b from ry)
  obtain ⟨xa, _, DA⟩ := kA.heap I.hok
  obtain ⟨xb, _, DB⟩ := kB.heap I.hok
  refine wpAny_richCompare_same_room (op := .Eq) DA.typeIs DB.typeIs PySem.F.slot_dict_eq (wpAny_call_entry PySem.F.slot_dict_eq DA.typeIs PySem.F.entry_dict_eq ?_ (PySem.F.args_dict_eq_2 _ _)) (by omega)
  show wpAny _ _ (Builtin.Dict.dictSlotArgs "__eq__" ⟨[.ref a, .ref b], []⟩ >>= _) _ _ s
  refine wpAny_bind ?_
  unfold Builtin.Dict.dictSlotArgs
  refine wpAny_bind (wpAny_notOrdered_dict DA.typeIs ?_)
  show wpAny _ _ (pure (Value.ref a, Value.ref b)) _ _ s
  refine wpAny_pure ?_
  refine wpAny_bind (wpAny_isInstance (T := "dict") DB.typeIs PySem.F.sub_dict_dict ?_)
  simp only [Bool.not_true, Bool.false_eq_true, if_false]
  refine wpAny_bind (wpAny_pure (wpAny_bind (wpAny_pure ?_)))
  refine wpAny_bind (same_pairsN I (by show X.A.units + 1 + 64 < cLine; omega) kA kB rA rB ?_)
  refine wpAny_pure ⟨_, rfl, ?_, ?_⟩
  · exact fun x => nomatch x
  · refine ⟨.bl (eqD da db), H, I, ?_, q⟩
    show _ = Value.bool (eqD da db)
    simp
end Kd

set_option Elab.async false
set_option linter.all false
set_option maxRecDepth 100000
set_option maxHeartbeats 4000000
namespace K0
open PySem PySem.Spec PyProof.Rows L2 Ke
/-! ### == of plans' entries -/
def RatR (C : Addr) : Addr → Addr → Hp → Bool → Prop := fun a c H b => ∃ n d m e, RatAt C H a n d ∧ RatAt C H c m e ∧ b = (decide (n = m) && decide (d = e))
/-- of two things at places; a thing is equal to itself -/
def DRef (D : Eqb) : Eqb := fun x y H b => (∃ a c, x = .ref a ∧ y = .ref c ∧ (a = c → b = true)) ∧ D x y H b
theorem selfRef (D : Eqb) : SelfB (DRef D) := ⟨fun x y H b ⟨⟨a, c, ex, ey, _⟩, _⟩ => ⟨a, c, ex, ey⟩, fun a H b ⟨⟨_, _, ex, ey, z⟩, _⟩ => z (by cases ex; cases ey; rfl)⟩
theorem monRef {D : Eqb} (m : MonB D) : MonB (DRef D) := fun x y H H' b e ⟨z, d⟩ => ⟨z, m _ _ _ _ _ e d⟩
theorem rcRef {X : Cx} {n : Nat} {D : Eqb} (h : RcB X n D) : RcB X n (DRef D) := fun A pins s σ H x y u v b sb I rx ry d => h A pins s σ H x y u v b sb I rx ry d.2
theorem rcMore {X : Cx} {n m : Nat} {D : Eqb} (h : RcB X n D) (hm : n ≤ m) : RcB X m D := fun A pins s σ H x y u v b sb I rx ry d => h A pins s σ H x y u v b ⟨sb.room.mono hm, sb.fr⟩ I rx ry d
theorem rf_inj {n d m e : Int} (h : rf n d = rf m e) : n = m ∧ d = e := by
  have h1 := rf_num n d
  have h2 := rf_den n d
  rw [h, rf_num] at h1
  rw [h, rf_den] at h2
  cases h1
  cases h2
  exact ⟨rfl, rfl⟩
theorem rat_det {C a : Addr} {H : Hp} {n d m e : Int} (h : RatAt C H a n d) (h' : RatAt C H a m e) : n = m ∧ d = e := by
  obtain ⟨dx, e1⟩ := h
  obtain ⟨dy, e2⟩ := h'
  rw [e1] at e2
  injection e2 with e2
  injection e2 with _ _ e3
  exact rf_inj e3
abbrev DRat (C : Addr) : Eqb := DRef (DInsB C (RatR C))
abbrev DLots (K : PySem.W.Frag) (C : Addr) : Eqb := DRef (DTupB K (DRat C))
abbrev DPart (K : PySem.W.Frag) (C : Addr) : Eqb := fun x y H b => DDatB K x y H b ∨ DLots K C x y H b
abbrev DEnt (K : PySem.W.Frag) (C : Addr) : Eqb := DRef (DTupB K (DPart K C))
theorem monRat {C : Addr} : MonB (DRat C) := monRef (monIns fun a c H H' b e ⟨n, d, m, e', h1, h2, z⟩ => ⟨n, d, m, e', h1.same e, h2.same e, z⟩)
theorem monPart {K : PySem.W.Frag} {C : Addr} : MonB (DPart K C) := monOr monDat (monRef (monTup monRat))
theorem selfPart {K : PySem.W.Frag} {C : Addr} : SelfB (DPart K C) := ⟨fun x y H b d => d.elim (selfDat.1 x y H b) ((selfRef _).1 x y H b), fun a H b d => d.elim (selfDat.2 a H b) ((selfRef _).2 a H b)⟩
section
variable {X : Cx} {C f : Addr} {fd : FuncData}
theorem rc_entries {E : XK} (F : FnOk X.prog X.w X.K X.mg X.base CX0 1 f fd ["self", "other"] (spEq C)) (hs : PySem.W.findIn X.K (.ref C) "__eq__" = some (some (.ref f))) (hf : PySem.W.isFn X.K (.ref f) = true) (hb : L2.Binds X.K fd ["self", "other"] []) (hx : Passes CX0 X E) :
    RcB X 4 (DListB (DEnt X.K C)) := by
  have F2 : FnOk X.prog X.w X.K X.mg X.base CX0 1 f fd ["self", "other"] (spEqB (RatR C)) := by
    refine ⟨fun vs H Q E ⟨a, c, b, e, _⟩ => by rw [e]; rfl, fun A outer s H args us vs Q E hr e0 hb hv ⟨a, c, b, e, ⟨n, d, m, e', h1, h2, hb'⟩, q⟩ => F.run A outer s H args us vs Q E hr e0 hb hv ⟨a, c, n, d, m, e', e, h1, h2, ?_⟩⟩
    rw [← hb']
    exact q H Ext.rfl'
  have r1 : RcB X 1 (DRat C) := rcRef (rcB_ins F2 hs hf hb hx)
  have r2 : RcB X 2 (DLots X.K C) := rcRef (rcB_tup monRat (r1.eqB (selfRef _)))
  have r3 : RcB X 3 (DEnt X.K C) := rcRef (rcB_tup monPart ((RcB.or rcB_dat r2).eqB selfPart))
  exact rcB_list (monRef (monTup monPart)) (r3.eqB (selfRef _))
end
/-- an entry: its tuple, its view's and its lots' place, the lots' places and values -/
structure Ent where
  e : Addr
  va : Addr
  la : Addr
  key : NestedKey
  as : List Addr
  lots : List (Int × Int)
structure EntOk (K : PySem.W.Frag) (C : Addr) (H : Hp) (x : Ent) : Prop where
  he : H x.e = some (.tup [.ref x.va, .ref x.la])
  hv : Kd.Nest H x.key (.ref x.va)
  sv : SeqAt.shaped x.key.data = true
  dv : x.key.depth ≤ 8
  hl : H x.la = some (.tup (x.as.map V.ref))
  len : x.as.length = x.lots.length
  rat : ∀ (i : Nat) (a : Addr) (q : Int × Int), x.as[i]? = some a → x.lots[i]? = some q → RatAt C H a q.1 q.2
def entEq (x y : Ent) : Bool := decide (x.key = y.key) && decide (x.lots = y.lots)
theorem refl_shaped {d : PyData} (h : SeqAt.shaped d = true) : PyData.eqv d d = true := by
  unfold SeqAt.shaped at h
  exact PySem.SeqAt.eqv_refl d (Bool.and_eq_true_iff.mp h).1
theorem eql_rat {C : Addr} {H : Hp} : ∀ {as cs : List Addr} {ls ms : List (Int × Int)}, as.length = ls.length → cs.length = ms.length → (∀ (i : Nat) (a : Addr) (q : Int × Int), as[i]? = some a → ls[i]? = some q → RatAt C H a q.1 q.2) → (∀ (i : Nat) (a : Addr) (q : Int × Int), cs[i]? = some a → ms[i]? = some q → RatAt C H a q.1 q.2) →
    EqL (DRat C) H (as.map V.ref) (cs.map V.ref) (decide (ls = ms))
  | [], [], [], [], _, _, _, _ => .nil
  | [], c :: cs, [], m :: ms, _, _, _, _ => .nilC _ _
  | a :: as, [], l :: ls, [], _, _, _, _ => .consN _ _
  | a :: as, c :: cs, l :: ls, m :: ms, h1, h2, r1, r2 => by
    have ra := r1 0 a l rfl rfl
    have rc := r2 0 c m rfl rfl
    have ih := eql_rat (C := C) (H := H) (as := as) (cs := cs) (ls := ls) (ms := ms) (by simpa using h1) (by simpa using h2) (fun i a q x y => r1 (i + 1) a q x y) (fun i a q x y => r2 (i + 1) a q x y)
    obtain ⟨dx, ea⟩ := id ra
    obtain ⟨dy, ec⟩ := id rc
    by_cases z : l = m
    · subst z
      rw [show decide (l :: ls = l :: ms) = decide (ls = ms) from by by_cases w : ls = ms <;> simp [w]]
      exact .same ⟨⟨a, c, rfl, rfl, fun _ => rfl⟩, a, c, dx, dy, _, _, rfl, rfl, ea, ec, _, _, _, _, ra, rc, by simp⟩ ih
    · rw [decide_eq_false (fun w => z (List.cons.inj w).1)]
      refine .diff ⟨⟨a, c, rfl, rfl, fun w => ?_⟩, a, c, dx, dy, _, _, rfl, rfl, ea, ec, _, _, _, _, ra, rc, ?_⟩
      · subst w
        obtain ⟨e1, e2⟩ := rat_det ra rc
        exact absurd (Prod.ext e1 e2) z
      · by_cases w : l.1 = m.1
        · rw [decide_eq_false (fun w2 => z (Prod.ext w w2)), Bool.and_false]
        · rw [decide_eq_false w, Bool.false_and]
theorem ref_inj : ∀ {as cs : List Addr}, as.map V.ref = cs.map V.ref → as = cs
  | [], [], _ => rfl
  | a :: as, c :: cs, h => by
    obtain ⟨h1, h2⟩ := List.cons.inj h
    cases h1
    rw [ref_inj h2]
theorem lots_det {C : Addr} {H : Hp} : ∀ {as : List Addr} {ls ms : List (Int × Int)}, as.length = ls.length → as.length = ms.length → (∀ (i : Nat) (a : Addr) (q : Int × Int), as[i]? = some a → ls[i]? = some q → RatAt C H a q.1 q.2) → (∀ (i : Nat) (a : Addr) (q : Int × Int), as[i]? = some a → ms[i]? = some q → RatAt C H a q.1 q.2) → ls = ms
  | [], [], [], _, _, _, _ => rfl
  | a :: as, l :: ls, m :: ms, h1, h2, r1, r2 => by
    obtain ⟨e1, e2⟩ := rat_det (r1 0 a l rfl rfl) (r2 0 a m rfl rfl)
    rw [Prod.ext e1 e2, lots_det (as := as) (ls := ls) (ms := ms) (by simpa using h1) (by simpa using h2) (fun i a q x y => r1 (i + 1) a q x y) (fun i a q x y => r2 (i + 1) a q x y)]
theorem ent_lots {K : PySem.W.Frag} {C : Addr} {H : Hp} {x y : Ent} (hx : EntOk K C H x) (hy : EntOk K C H y) (h : x.la = y.la) : x.lots = y.lots := by
  have e := hx.hl
  rw [h, hy.hl] at e
  injection e with e
  injection e with e
  have e := ref_inj e
  exact lots_det (as := x.as) hx.len (by rw [← e]; exact hy.len) hx.rat (by rw [← e]; exact hy.rat)
theorem ent_same {K : PySem.W.Frag} {C : Addr} {H : Hp} {x y : Ent} (hx : EntOk K C H x) (hy : EntOk K C H y) (h : x.e = y.e) : entEq x y = true := by
  have e := hx.he
  rw [h, hy.he] at e
  injection e with e
  injection e with e
  have e1 : V.ref y.va = V.ref x.va := (List.cons.inj e).1
  have e2 : V.ref y.la = V.ref x.la := (List.cons.inj (List.cons.inj e).2).1
  unfold entEq
  have hv : y.va = x.va := by injection e1
  have hl : y.la = x.la := by injection e2
  have hk : x.key = y.key := Kd.Nest.det hx.hv (by rw [← hv]; exact hy.hv)
  rw [decide_eq_true hk, ent_lots hx hy hl.symm, decide_eq_true rfl]
  rfl
theorem eql_ent {K : PySem.W.Frag} {C : Addr} {H : Hp} {x y : Ent} (hx : EntOk K C H x) (hy : EntOk K C H y) : DEnt K C (.ref x.e) (.ref y.e) H (entEq x y) := by
  refine ⟨⟨x.e, y.e, rfl, rfl, ent_same hx hy⟩, x.e, y.e, _, _, rfl, rfl, SqT.of hx.he, SqT.of hy.he, ?_⟩
  unfold entEq
  have d1 : ∀ b, b = decide (x.key = y.key) → DPart K C (.ref x.va) (.ref y.va) H b := fun b hb => .inl ⟨x.va, y.va, _, _, rfl, rfl, hx.hv.dp, hy.hv.dp, hx.sv, hy.sv, by rw [hb, Kd.eqv_key], fun z => by
    have hk : x.key = y.key := Kd.Nest.det hx.hv (by rw [z]; exact hy.hv)
    rw [hb, decide_eq_true hk]⟩
  have d2 : DPart K C (.ref x.la) (.ref y.la) H (decide (x.lots = y.lots)) := .inr ⟨⟨x.la, y.la, rfl, rfl, fun z => decide_eq_true (ent_lots hx hy z)⟩, x.la, y.la, _, _, rfl, rfl, SqT.of hx.hl, SqT.of hy.hl, eql_rat hx.len hy.len hx.rat hy.rat⟩
  cases he : decide (x.key = y.key) with
  | false => exact .diff (d1 false he.symm)
  | true =>
    rw [Bool.true_and]
    refine .same (d1 true he.symm) ?_
    cases hd : decide (x.lots = y.lots) with
    | false =>
      rw [hd] at d2
      exact .diff d2
    | true =>
      rw [hd] at d2
      exact .same d2 .nil
def rowsEq : List Ent → List Ent → Bool
  | [], [] => true
  | x :: xs, y :: ys => entEq x y && rowsEq xs ys
  | _, _ => false
theorem eql_rows {K : PySem.W.Frag} {C : Addr} {H : Hp} : ∀ {xs ys : List Ent}, (∀ x ∈ xs, EntOk K C H x) → (∀ y ∈ ys, EntOk K C H y) → EqL (DEnt K C) H (xs.map fun x => V.ref x.e) (ys.map fun x => V.ref x.e) (rowsEq xs ys)
  | [], [], _, _ => .nil
  | [], y :: ys, _, _ => .nilC _ _
  | x :: xs, [], _, _ => .consN _ _
  | x :: xs, y :: ys, h1, h2 => by
    have d := eql_ent (h1 x (List.mem_cons_self ..)) (h2 y (List.mem_cons_self ..))
    have ih := eql_rows (fun z hz => h1 z (List.mem_cons_of_mem _ hz)) (fun z hz => h2 z (List.mem_cons_of_mem _ hz))
    show EqL (DEnt K C) H _ _ (entEq x y && rowsEq xs ys)
    cases he : entEq x y with
    | true =>
      rw [he] at d
      rw [Bool.true_and]
      exact .same d ih
    | false =>
      rw [he] at d
      exact .diff d
end K0

set_option Elab.async false
set_option linter.all false
set_option maxRecDepth 100000
set_option maxHeartbeats 4000000
namespace K0
open PySem PySem.Spec PyProof.Rows L2 Ke
/-! ### plans -/
structure TxP (K : PySem.W.Frag) (mg : Str → Option Value) (CP : Addr) : Prop where
  cl : Cls K CP
  nE : NoAttr K CP "_entries"
  nP : NoAttr K CP "_places"
  mgP : mg "Plan" = some (.ref CP)
  si : SlX.SIsi K CP
  isi : mg "isinstance" = none
  list : mg "list" = none
  tuple : mg "tuple" = none
  len : mg "len" = none
  range : mg "range" = none
  zip : mg "zip" = none
theorem nEP : ¬ (("_entries" : Str) = "_places") := by decide +kernel
/-- a plan's attributes -/
def pf (l d : Addr) : List (Str × V) := putF "_places" (.ref d) (putF "_entries" (.ref l) [])
theorem pf_e (l d : Addr) : (pf l d).lookup ("_entries" : Str) = some (.ref l) := by
  unfold pf
  rw [lookup_putF, if_neg nEP, lookup_putF, if_pos rfl]
theorem pf_p (l d : Addr) : (pf l d).lookup ("_places" : Str) = some (.ref d) := by
  unfold pf
  rw [lookup_putF, if_pos rfl]
theorem pf_no {l d : Addr} {m : Str} (h1 : ¬ m = "_places") (h2 : ¬ m = "_entries") : (pf l d).lookup m = none := by
  unfold pf
  rw [lookup_putF, if_neg h1, lookup_putF, if_neg h2]
  rfl
structure PlanAt (K : PySem.W.Frag) (C CP : Addr) (H : Hp) (p : Addr) (es : List Ent) : Prop where
  ex : ∃ dx l d, H p = some (.ins CP dx (pf l d)) ∧ H l = some (.lst (es.map fun x => V.ref x.e))
  ok : ∀ x ∈ es, EntOk K C H x
theorem EntOk.ext {K : PySem.W.Frag} {C : Addr} {H H' : Hp} {x : Ent} (h : EntOk K C H x) (e : Ext H H') : EntOk K C H' x := ⟨e _ _ h.he, h.hv.keep fun a xs z => e _ _ z, h.sv, h.dv, e _ _ h.hl, h.len, fun i a q h1 h2 => (h.rat i a q h1 h2).same e⟩
theorem PlanAt.ext {K : PySem.W.Frag} {C CP : Addr} {H H' : Hp} {p : Addr} {es : List Ent} (h : PlanAt K C CP H p es) (e : Ext H H') : PlanAt K C CP H' p es := by
  obtain ⟨⟨dx, l, d, h1, h3⟩, ok⟩ := h
  exact ⟨⟨dx, l, d, e _ _ h1, e _ _ h3⟩, fun x hx => (ok x hx).ext e⟩
def spPEq (K : PySem.W.Frag) (C CP : Addr) : Sp := fun vs H Q _ => ∃ (p p2 : Addr) (xs ys : List Ent), vs = [.ref p, .ref p2] ∧ PlanAt K C CP H p xs ∧ PlanAt K C CP H p2 ys ∧ ∀ H', Ext H H' → Q (.bl (rowsEq xs ys)) H'
/-- the list of the entries, new -/
def spEnt (K : PySem.W.Frag) (C CP : Addr) : Sp := fun vs H Q _ => ∃ (p : Addr) (xs : List Ent), vs = [.ref p] ∧ PlanAt K C CP H p xs ∧ ∀ (l : Addr) (H' : Hp), Same H H' → H l = none → H' l = some (.lst (xs.map fun x => V.ref x.e)) → Q (.ref l) H'
theorem rows_ne : ∀ {xs ys : List Ent}, xs.length ≠ ys.length → rowsEq xs ys = false
  | [], [], h => absurd rfl h
  | [], _ :: _, _ => rfl
  | _ :: _, [], _ => rfl
  | x :: xs, y :: ys, h => by
    show (entEq x y && rowsEq xs ys) = false
    rw [rows_ne (xs := xs) (ys := ys) fun z => h (by rw [List.length_cons, List.length_cons, z]), Bool.and_false]
section
variable {P : Program} {w : World} {K : PySem.W.Frag} {mg : Str → Option Value} {base : Heap} {C CP : Addr}
theorem scPE : FnScope ["self", "other"] ["self", "other"] (defScope sPE) := ⟨rfl, rfl, rfl, by decide +kernel, rfl, by decide +kernel, by decide +kernel⟩
theorem ok_peq {f fE : Addr} {fd fdE : FuncData} (F : Fun K "__eq__" "Plan.__eq__" sPE f fd) (T : TxP K mg CP) (GE : FnOk P w K mg base CX0 1 fE fdE ["self", "other"] (spEq C)) (aE : PySem.W.findIn K (.ref C) "__eq__" = some (some (.ref fE))) (iE : PySem.W.isFn K (.ref fE) = true) (bE : Binds K fdE ["self", "other"] []) :
    FnOk P w K mg base CX0 5 f fd ["self", "other"] (spPEq K C CP) := by
  refine F.ok scPE (fun vs H Q E h => ?_) (fun cdv A outer s H vs Q E hr h => ?_)
  · obtain ⟨p, p2, xs, ys, rfl, _⟩ := h
    rfl
  · obtain ⟨p, p2, xs, ys, rfl, ⟨⟨dx, l, d, h1, h3⟩, ok1⟩, ⟨⟨dy, m, d2, g1, g3⟩, ok2⟩, q⟩ := h
    refine ⟨_, pss_one (ps_ret (pe_and (pe_callB call_isi (by rfl) T.isi (by decide +kernel) (pa_cons (pv 1) (pa_cons (pe_glob (v := .ref CP) rfl T.mgP rfl) pa_nil)))
      (pe_one (pe_cmpR (op_eqB (rc_entries (E := E0) GE aE iE bE pass0) hr) (pe_fld (pv 0) rfl) (pe_fld (pv 1) rfl) (nomark _))))), ?_⟩
    refine ⟨_, rfl, .ref p2, .ref CP, .ref CP, .ref CP, true, rfl, .own CP, .base (.ins g1 T.cl T.si.ca T.si.cn T.si.ct T.si.cm), kit_self, _, rfl, iteT ?_⟩
    refine ⟨_, rfl, p, CP, dx, _, _, rfl, h1, T.cl, T.nE, pf_e _ _, _, rfl, p2, CP, dy, _, _, rfl, g1, T.cl, T.nE, pf_e _ _, rowsEq xs ys, ⟨l, m, _, _, rfl, rfl, h3, g3, ?_⟩, q⟩
    have el := eql_rows ok1 ok2
    by_cases hl : xs.length = ys.length
    · exact .inl ⟨by rw [List.length_map, List.length_map, hl], el⟩
    · refine .inr ⟨by rw [List.length_map, List.length_map]; exact hl, ?_⟩
      exact rows_ne hl
theorem scEn : FnScope ["self"] ["self"] (defScope sPEn) := ⟨rfl, rfl, rfl, by decide +kernel, rfl, by decide +kernel, by decide +kernel⟩
theorem ok_pent {f : Addr} {fd : FuncData} (F : Fun K "entries" "Plan.entries" sPEn f fd) (T : TxP K mg CP) : FnOk P w K mg base CX0 1 f fd ["self"] (spEnt K C CP) := by
  refine F.ok scEn (fun vs H Q E h => ?_) (fun cdv A outer s H vs Q E hr h => ?_)
  · obtain ⟨p, xs, rfl, _⟩ := h
    rfl
  · obtain ⟨p, xs, rfl, ⟨⟨dx, l, d, h1, h3⟩, ok1⟩, q⟩ := h
    refine ⟨_, pss_one (ps_ret (pe_callTy call_list_of (by rfl) T.list (by decide +kernel) (pa_cons (pe_fld (pv 0) rfl) pa_nil))), ?_⟩
    exact ⟨_, rfl, p, CP, dx, _, _, rfl, h1, T.cl, T.nE, pf_e _ _, l, _, rfl, .inl (SqL.of h3), fun c hc => q c _ (Ext.upd hc) hc upd_same⟩
end
end K0

set_option Elab.async false
set_option linter.all false
set_option maxRecDepth 100000
set_option maxHeartbeats 4000000
/-! isinstance, and a field, of a caught error that has a dict of its own. -/
namespace Kx
open PySem PySem.W PySem.Spec PySem.Calls PyProof.Rows L2
section
variable {prog : Program} {w : World} {A : Around} {E : Value → Shared → Prop} {s : Shared} {K : Frag} {x D : Addr} {ox : Obj} {od : Option Obj}
theorem find_dsc {C : Addr} {name : Str} {a g : Value} (c1 : (clsIn K C).isSome = true) (c2 : findIn K (.ref C) name = some (some a)) (c3 : specialIn K a "__get__" = some (some g)) (c4 : takesIn K a = some true) : findObj K C od name = some (.bind g a) := by
  obtain ⟨cd, e⟩ := Option.isSome_iff_exists.mp c1
  unfold findObj
  rw [e, Option.bind_some, c2, Option.bind_some] ; simp [c3, c4]
theorem cls_of_err {Q : Option Value → Shared → Prop} (C : ExcC K D) (X : K.In s.heap) (I : InstAt s.heap x ox D od) (q : Q (some (.ref D)) { s with toks := s.toks + 1 }) : wpAny (model prog w) A (getAttr? (.ref x) "__class__") Q E s := by
  have hfo : findObj K D od "__class__" = some (.bind (.builtin "getset_descriptor.__get__") (.builtin "object.__class__")) := find_dsc (by obtain ⟨_, e, _⟩ := any_some C.hd; rw [e]; rfl) C.ha C.hn C.ht
  obtain ⟨hp, gg, dd, tk, os⟩ := s
  have la := I.type (M := model prog w) ; have lb := looks_findIn (M := model prog w) X C.hg ; have lc := looks_findIn (M := model prog w) X C.hk ; have ld := looks_find (M := model prog w) X I hfo
  have isb : Looks (model prog w) hp (isInstance (.ref x) (.type "BaseException")) true := la.andThen (looks_subIn X C.hs)
  have f0 : (false && onTheHeap (Value.builtin "BaseException.__getattribute__")) = false := rfl
  have f1 : (onTheHeap (Value.ref D) && Value.builtin "BaseException.__getattribute__" == Value.builtin "object.__getattribute__") = false := by rw [show (Value.builtin "BaseException.__getattribute__" == Value.builtin "object.__getattribute__") = false from by decide +kernel, Bool.and_false]
  unfold getAttr? getAttrBy? getAttrBy
  refine wpAny_bind (wpAny_mkText (wpAny_bind (wpAny_attempt (wpAny_holding (wpAny_bind (la.at (wpAny_bind (lb.at ?_)))))))) ; show wpAny _ _ (if (onTheHeap (Value.ref D) && Value.builtin "BaseException.__getattribute__" == Value.builtin "object.__getattribute__") = true then _ else _) _ _ _
  rw [f1, if_neg Bool.false_ne_true]
  unfold getAttrByItsOwn hookBefore
  refine wpAny_bind ?_ ; rw [if_pos (show onTheHeap (Value.ref D) = true from rfl)]
  refine lc.at ?_ ; refine wpAny_bind (wpAny_attempt (wpAny_holding ?_))
  unfold callGetattribute ; rw [f0, if_neg Bool.false_ne_true]
  unfold boundAndCalled ; rw [PySem.F.excAttr_ValueError.ga.bind (.ref x)]
  refine wpAny_bind (wpAny_pure ?_) ; show wpAny _ _ (call (.builtin "BaseException.__getattribute__") [.ref x, .str "__class__" tk]) _ _ _
  refine wpAny_call (codeAny_call_builtin PySem.F.excAttr_ValueError.ga.plain PySem.F.entry_bexc_ga ?_)
  refine @check_slot (model prog w) _ _ ⟨hp, gg, dd, tk + 1, os⟩ "BaseException.__getattribute__" "BaseException" "__getattribute__" (.ref x) [.str "__class__" tk] [] _ (by decide +kernel) (by decide +kernel) isb (PySem.F.args_bexc_ga (.ref x) (.str "__class__" tk)) ?_
  unfold Builtin.«object.__getattribute__»
  refine wpAny_bind (wpAny_of_eq (a := ((Value.ref x : Value), [Value.str "__class__" tk])) (by first | rfl | (simp only [slotArgs]; rfl)) ?_) ; refine wpAny_bind (wpAny_pure (wpAny_bind (la.at (wpAny_bind (ld.at ?_)))))
  show wpAny _ _ (holding [Value.builtin "object.__class__"] (call (.builtin "getset_descriptor.__get__") [.builtin "object.__class__", .ref x, .ref D]) >>= ret) _ _ _
  refine wpAny_bind (wpAny_holding (wpAny_call (class_get (s := ⟨hp, gg, dd, tk + 1, os⟩) (ox := ox) (od := od) X I C.hm ?_))) ; refine wpAny_pure ?_
  show wpAny _ _ (handedOut (.ref D)) _ _ _
  rw [handedOut_of (v := .ref D) rfl]
  first | exact wpAny_pure (wpAny_pure q) | exact wpAny_pure q | exact wpAny_pure (wpAny_bind (wpAny_pure (wpAny_pure q)))
theorem kit_of_err (C : ExcC K D) : KitX K (.ref x) (.ref D) (fun h => InstAt h x ox D od) where
  ty := fun M h X I => I.type
  it := fun M h X I => by
    obtain ⟨cd, e, _⟩ := any_some C.hd ; unfold clsIn at e
    split at e
    · rename_i _ _ _ _ ho
      intro A' Q' E' s' k q ; unfold isType loadHead
      exact wpAny_bind (wpAny_loadPart (k _ _ (X _ _ ho)) (wpAny_pure q))
    · cases e
  ne := fun h tp dd its n sl X ht => by
    obtain ⟨cd, e, _⟩ := any_some C.hd ; refine Bool.eq_false_iff.mpr fun q => ?_
    have same : D = tp := Value.ref.inj (beq_iff_eq.mp q) ; subst same ; unfold clsIn at e
    split at e
    · rename_i _ _ _ _ ho
      have z := (X _ _ ho).symm.trans ht ; cases z
    · cases e
  ca := fun X I k => cls_of_err C X I k
end
end Kx
namespace Kx
open PySem PySem.Spec PyProof.Rows L2
section
variable {X : Cx} {a D : Addr} {oe : Obj} {pn : List (Addr × Obj)} {cls : Value} {d : Option Addr}
/-- how the caught error stands: its class, its dict's one field -/
theorem err_inst {s : Shared} {H : Hp} {f : Str} {v : V} (hz : Zc cls d oe) (hf : ∃ vs, oe.data = .fields vs) {dd : Addr} (ec : cls = .ref D) (ed : d = some dd) (ha : s.heap.get? a = some oe) (hok : ObjOk X.prog X.w H s.heap dd (.xd [(f, v)])) :
    ∃ od u, PySem.W.InstAt s.heap a oe D (some od) ∧ PySem.W.lookIn f od = some (some u) ∧ RelV v u := by
  obtain ⟨mA, hns, hr⟩ := hok
  obtain ⟨od, ho, hl⟩ := lookIn_ns hns
  have l : List.lookup f [(f, v)] = some v := by simp [List.lookup]
  obtain ⟨u, hu, ru⟩ := RelO.some_of (v := v) (o := mA f) (by rw [← l]; exact hr f)
  obtain ⟨vs, hd⟩ := hf
  refine ⟨od, u, ⟨ha, by rw [hz.1, ec], by unfold PySem.W.notCls; rw [hd] <;> rfl, by rw [hz.2, ed]; exact ho⟩, by rw [hl, hu], ru⟩
def rErr1 (K : PySem.W.Frag) (D a : Addr) (f : Str) (cls : Value) (d : Option Addr) : List V → Hp → VK → Prop := fun xs H Q => ∃ (dd : Addr) (v c : V) (cv : Value) (b : Bool), cls = .ref D ∧ d = some dd ∧ H dd = some (.xd [(f, v)]) ∧ xs = [.ref a, c] ∧ (∀ u, RelV c u → u = cv) ∧ PySem.W.kitOne K (.ref D) cv = some b ∧ Q (.bl b) H
theorem call_err1 {f : Str} (C : ExcC X.K D) (hz : Zc cls d oe) (hf : ∃ vs, oe.data = .fields vs) : CallR (X.suite a ((a, oe) :: pn)) (.builtin "isinstance") (rErr1 X.K D a f cls d) := by
  intro pins s σ H xs us Q I r h
  obtain ⟨dd, v, c, cv, b, ec, ed, hd, rfl, hcv, e, q⟩ := h
  obtain ⟨u1, u2, rfl, r1, r2⟩ := vals2 r
  cases (show u1 = Value.ref a from r1)
  have e2 := hcv _ r2
  subst e2
  obtain ⟨ha, _⟩ := I.pin (a, oe) (List.mem_append.mpr (.inl List.mem_cons_self))
  obtain ⟨od, u, J, _, _⟩ := err_inst (X := X) hz hf ec ed ha (I.hok dd _ hd)
  exact PySem.W.kia_one (kit_of_err C) I.kIn J e (fun z => nomatch z) fun tk => ⟨.bl b, H, I.kept (t' := tk) fun _ _ z => z, rfl, q⟩
def rErrT (K : PySem.W.Frag) (D a : Addr) (f : Str) (cls : Value) (d : Option Addr) : List V → Hp → VK → Prop := fun xs H Q => ∃ (dd : Addr) (v : V) (tp : Addr) (cs : List V) (us : List Value) (b : Bool), cls = .ref D ∧ d = some dd ∧ H dd = some (.xd [(f, v)]) ∧ xs = [.ref a, .ref tp] ∧ H tp = some (.tup cs) ∧ Paired ClsV cs us ∧ PySem.W.kitAny K (.ref D) us = some b ∧ Q (.bl b) H
theorem call_errT {f : Str} (C : ExcC X.K D) (hz : Zc cls d oe) (hf : ∃ vs, oe.data = .fields vs) : CallR (X.suite a ((a, oe) :: pn)) (.builtin "isinstance") (rErrT X.K D a f cls d) := by
  intro pins s σ H xs us Q I r h
  obtain ⟨dd, v, tp, cs, ws, b, ec, ed, hd, rfl, hT, k, e, q⟩ := h
  obtain ⟨u1, u2, rfl, r1, r2⟩ := vals2 r
  cases (show u1 = Value.ref a from r1)
  cases (show u2 = Value.ref tp from r2)
  obtain ⟨ha, _⟩ := I.pin (a, oe) (List.mem_append.mpr (.inl List.mem_cons_self))
  obtain ⟨od, u, J, _, _⟩ := err_inst (X := X) hz hf ec ed ha (I.hok dd _ hd)
  obtain ⟨_, its, rv, o, h1, h2, n, h3⟩ := (show ObjOk X.prog X.w H s.heap tp (.tup cs) from I.hok tp _ hT)
  have e3 := ClsV.all k rv
  subst e3
  obtain ⟨oc, oD, dt, sl⟩ := o
  simp only at h2 h3
  subst h2 h3
  exact PySem.W.kia_tup (kit_of_err C) I.kIn J h1 e (fun z => nomatch z) fun tk => ⟨.bl b, H, I.kept (t' := tk) fun _ _ z => z, rfl, q⟩
/-- e.f of the caught error -/
def tErrF (D a : Addr) (f : Str) (cls : Value) (d : Option Addr) (te : TE) : TE := fun σ H Q => te σ H fun x H1 => ∃ (dd : Addr) (v : V), x = .ref a ∧ cls = .ref D ∧ d = some dd ∧ H1 dd = some (.xd [(f, v)]) ∧ Q v H1
theorem pe_errF {f : Str} {e : Expr} {te : TE} {pos : Pos} (C : ExcC X.K D) (no : PySem.W.findIn X.K (.ref D) f = some none) (hz : Zc cls d oe) (hf : ∃ vs, oe.data = .fields vs) (he : PE (X.suite a ((a, oe) :: pn)) e te)
    (hb : attributeBase e f X.env (eval e X.env) = eval e X.env := by rfl) : PE (X.suite a ((a, oe) :: pn)) (.Attribute e f pos) (tErrF D a f cls d te) := by
  refine ⟨fun pins s σ H Q I h => attr_of hb (thn (he.run pins s σ H _ I h) fun u s1 hh => ?_)⟩
  obtain ⟨x, H1, I1, rx, dd, v, ex, ec, ed, ea, q⟩ := hh
  subst ex
  obtain rfl : u = Value.ref a := rx
  obtain ⟨ha, _⟩ := I1.pin (a, oe) (List.mem_append_left _ List.mem_cons_self)
  obtain ⟨od, y, J, hl, ry⟩ := err_inst (X := X) hz hf ec ed ha (I1.hok dd _ ea)
  exact HandSPX.exc_get I1.kIn J C.hg C.hk C.hs (PySem.W.findObj_own C.hd no rfl hl) (handed_of ry) ⟨v, H1, I1.tok _, ry, q⟩
end
end Kx

set_option Elab.async false
set_option linter.all false
set_option maxRecDepth 100000
set_option maxHeartbeats 4000000
/-! A call of a def in an except suite, where nothing is known of the caught error's context: for defs that raise nothing. -/
namespace Kx
open PySem PySem.Spec PyProof.Rows L2
structure FnW (P : Program) (w : World) (K : PySem.W.Frag) (mg : Str → Option Value) (base : Heap) (CX : CXT) (k : Nat) (f : Addr) (fd : FuncData) (ps : List Str) (sp : Sp) : Prop where
  len : ∀ vs H Q E, sp vs H Q E → vs.length = ps.length
  run : ∀ (A : Around) (outer : List Env) (s : Shared) (H : Hp) (args : Args) (us : List Value) (vs : List V) (Q : VK) (E : XK) (p : Addr × Obj), L2H.RoomH k A → L2H.PinOk outer H s p → Env0 P w K mg base A outer s H → BindsTo s fd args (ps.zip us) → Vals vs us → sp vs H Q E →
    codeAny (model P w) A (.call (.ref f) args) (CR CX outer P w H s Q E) s
theorem fn_ofW {CX : CXT} {P : Program} {w : World} {K : PySem.W.Frag} {mg : Str → Option Value} {base : Heap} {k : Nat} {f : Addr} {name qual : Str} {params : Arguments} {body : List Stmt} {scope : Scope} {dV kV doc pm cdv ct oc : Value} {an od : Option Addr} {osl : Array (Option Value)} {N ps : List Str} {sp : Sp}
    (lk : List.lookup f K = some ⟨oc, od, .func (PySem.W.fnOf name qual params body scope dV kV doc pm an cdv ct), osl⟩) (hcd : PySem.W.codeIn K cdv qual = true) (S : FnScope N ps scope) (len : ∀ vs H Q E, sp vs H Q E → vs.length = ps.length)
    (hbody : ∀ (A : Around) (outer : List Env) (s : Shared) (H : Hp) (vs : List V) (Q : VK) (E : XK) (p : Addr × Obj), L2H.RoomH k (A.deeper (envOfC qual scope s.heap.objs.size f cdv)) → sp vs H Q E →
      ∃ t, PSs (L2H.cxH CX P w K mg base N qual scope f cdv A outer s H E p) body t ∧ t { nx := fun _ H' => Q .non H', rt := Q } (L2.start N vs) H) :
    FnW P w K mg base CX (k + 1) f (PySem.W.fnOf name qual params body scope dV kV doc pm an cdv ct) ps sp := by
  refine ⟨len, fun A outer s H args us vs Q E p hr hpin e0 hb r hsp => ?_⟩
  have hl := len vs H Q E hsp
  have KX := PySem.W.Frag.In.keeps e0.mod.kin fun b o e => (e0.bs b o e).left
  have lim := Heap.NoLimit.keeps e0.mod.nolimit fun b o e => (e0.bs b o e).left
  refine codeAny_call_function (L2H.RoomH.depth hr) (KX f _ lk) rfl S.co S.gen rfl (PySem.W.codeRec_of KX hcd) (hb _ _ _ _ (wpAny_newFunctionEnv_cells S.kind (fun x hy => ?_) fun env he s1 x => ?_))
  · obtain ⟨n, v⟩ := x
    exact (S.par n (List.of_mem_zip hy).left).elim (fun q => Or.inl q) fun q => Or.inr ⟨q, PySem.W.cellsFrom_some scope.names (s.heap.objs.size + 1) [] (Or.inl q)⟩
  · subst he
    refine ⟨Heap.NoLimit.keeps lim x.toInCall.keep, codeAny_func ?_⟩
    obtain ⟨t, ht, hq⟩ := hbody A outer s H vs Q E p (L2H.RoomH.deeper hr (envOfC qual scope s.heap.objs.size f cdv)) hsp
    have I := L2H.inv_startH (CX := CX) (E := E) S hpin e0 hl r x
    refine wpAny_mono (ht.run [] s1 (L2.start N vs) H _ I hq) (fun fl s' hs => ?_) fun e s' hs => hs
    cases fl with
    | next =>
      obtain ⟨σ', H', J, q⟩ := hs
      exact ⟨.non, H', J.os, J.bare, J.base, J.hok, rfl, q⟩
    | brk =>
      obtain ⟨_, _, _, q⟩ := hs
      exact q.elim
    | cont =>
      obtain ⟨_, _, _, q⟩ := hs
      exact q.elim
    | ret u =>
      obtain ⟨v, σ', H', J, rv, q⟩ := hs
      exact ⟨_, H', J.os, J.bare, J.base, J.hok, rv, q⟩
section
variable {X : Cx} {CX : CXT} {k : Nat} {f : Addr} {fd : FuncData} {ps : List Str} {sp : Sp}
theorem run_fnW {E : L2.St → XK} {pins : List (Addr × Obj)} {σ : L2.St} {H : Hp} {s : Shared} {Q : VK} {us : List Value} {vs : List V} (F : FnW X.prog X.w X.K X.mg X.base CX k f fd ps sp) (hr : L2H.RoomH k X.A) (hc : ∃ p, p ∈ X.pn) (hb : L2.Binds X.K fd ps []) (hx : PassesAt CX X σ (E σ)) (I : L2.Inv X pins σ H s) (r : Vals vs us) (h : sp vs H Q (E σ)) :
    wpAny (model X.prog X.w) X.A (call (.ref f) us) (EP X pins σ Q) X.xe s := by
  obtain ⟨p, hp⟩ := hc
  have hl : us.length = ps.length := by rw [← r.length]; exact F.len vs H Q (E σ) h
  have b := hb s us (Inv.kIn I) (by rw [List.append_nil]; exact hl)
  rw [List.append_nil] at b
  have P1 := I.pin p (List.mem_append_left pins hp)
  have hpin : L2H.PinOk X.stack H s p := ⟨P1.1, P1.2.1, fun hm => (List.mem_cons.mp (Inv.stkSub I p.fst hm)).elim P1.2.2.1 P1.2.2.2.1, P1.2.2.2.2⟩
  refine wpAny_call (codeAny_mono (F.run X.A X.stack s H { pos := us } us vs Q (E σ) p hr hpin (Inv.env0 I) b r h) fun r s' hq => ?_)
  cases r with
  | error e => exact hx pins H s e s' I hq
  | ok fl =>
    cases fl with
    | ret u => exact Inv.after I hq
    | next => exact hq.elim
    | brk => exact hq.elim
    | cont => exact hq.elim
theorem pe_callW {E : L2.St → XK} {x : Str} {q pos : Pos} {e : Expr} {es : List Expr} {t : TA} (F : FnW X.prog X.w X.K X.mg X.base CX k f fd ps sp) (hr : L2H.RoomH k X.A) (hc : ∃ p, p ∈ X.pn) (hg : Gl X x) (hm : X.mg x = some (.ref f)) (hk : PySem.W.keepIn X.K (.ref f) = true)
    (hb : L2.Binds X.K fd ps []) (hx : ∀ σ, PassesAt CX X σ (E σ)) (ha : PA X (e :: es) t) (hdb : (x == "__debug__") = false := by rfl) (he : starEach (e :: es) X.env = (false, eval e X.env) :: starEach es X.env := by rfl) (hpl : ((backTo pos (starEach es X.env)).any fun x => x.fst) = false := by rfl) :
    PE X (.Call (.Name x q) (e :: es) [] pos) (tCallS sp E t) :=
  ⟨fun pins s σ H Q I h => wpAny_Call_Name_kw (ld_glob I hg hm (PySem.W.callWith_K I.ok.mod.kin hk (thn (ha.run pos pins s σ H (fun vs H1 => sp vs H1 Q (E σ)) I h) fun us s1 x => by
    obtain ⟨vs, H1, I1, r, q⟩ := x
    exact ⟨Inv.kIn I1, run_fnW F hr hc hb (hx σ) I1 r q⟩) he hpl) hdb)⟩
end
end Kx

set_option Elab.async false
set_option linter.all false
set_option maxRecDepth 100000
set_option maxHeartbeats 4000000
/-! Walks of lists, targets that are tuples and comprehensions while an error is handled whose context is None. -/
namespace Kh
open PySem PySem.Spec PyProof.Rows L2 HotX
/-! ### the ends of a list's and a tuple's walk -/
section
variable {prog : Program} {w : World} {A : Around} {E : Value → Shared → Prop} {s : Shared}
/-- a StopIteration that is raised and caught at once, while x1 is handled -/
theorem stop_hot {x1 it : Addr} {f : Obj → Obj} {Q : Option Value → Shared → Prop} {s0 : Shared} (hot : HotAt A x1 s.heap) (hx : x1 ≠ it) (hs0 : s0 = { s with heap := s.heap.update it f })
    (hQ : ∀ h', Heap.ExtBut it s.heap h' → Q none { s with heap := h' }) :
    wpAny (model prog w) A.in1 (Builtin.SmallTypes.stopIteration : Sem Fin) (fun _ _ => False)
      (fun e s' => wpAny (model prog w) A (isInstance e (.type "StopIteration")) (fun b s'' => b = true ∧ Q none s'') E s') s0 := by
  subst hs0
  obtain ⟨hh, o1, vs1, h1, d1, c1⟩ := hot
  show wpAny _ _ (newExc (.type "StopIteration") [] >>= _) _ _ _
  refine wpAny_bind ?_
  simp only [newExc, newTuple]
  refine wpAny_bind (wpAny_newObj_type ?_ (by size_fits))
  refine wpAny_bind (m := firstArgMember _ _) (wpAny_of_eq (a := Value.none) (by first | rfl | (simp only [firstArgMember]; rfl)) ?_)
  refine wpAny_newObj_type ?_ (by size_fits)
  have e1 : (s.heap.update it f).get? x1 = some o1 := (Heap.get?_update_other _ _ (Ne.symm hx)).trans h1
  refine raiseNew_hot (x1 := x1) ⟨hh, o1, vs1, Heap.get?_push_of_some _ (Heap.get?_push_of_some _ e1), d1, c1⟩ (Nat.ne_of_lt (Heap.lt_size (Heap.get?_push_of_some _ e1))) (Heap.get?_push_size _ rfl) rfl (by first | (simp; done) | (simp; omega) | (simp only [Array.size_append]; simp; omega)) ?_
  refine wpAny_isInstance (T := "StopIteration") (b := true) ⟨_, Heap.get?_update_self _ (Heap.get?_push_size _ rfl) rfl, rfl⟩ isSubtype_stop ⟨rfl, hQ _ fun b o hb e => ?_⟩
  have e2 : (s.heap.update it f).get? b = some o := (Heap.get?_update_other _ _ (Ne.symm hb)).trans e
  rw [Heap.get?_update_other _ _ (Nat.ne_of_gt (Heap.lt_size (Heap.get?_push_of_some _ e2)))]
  exact Heap.get?_push_of_some _ (Heap.get?_push_of_some _ e2)
theorem list_end {it l x1 : Addr} {i : Nat} {items : Array Value} {Q : Option Value → Shared → Prop} (hot : HotAt A x1 s.heap) (hx : x1 ≠ it) (hit : s.heap.IsListIter it l i) (hl : s.heap.IsList l items) (hi : items[i]? = none)
    (hQ : ∀ h', Heap.ExtBut it s.heap h' → Q none { s with heap := h' }) : wpAny (model prog w) A (pyNext (.ref it)) Q E s := by
  obtain ⟨o, ho, hc, hd⟩ := id hit
  obtain ⟨ol, hol, _, nl, hdl⟩ := hl
  unfold pyNext
  refine wpAny_bind (wpAny_attempt (wpAny_callSpecial?_slot (name := Str.ofString "__next__") hit.typeIs slot_listiter_next
    (wpAny_call_entry slot_listiter_next hit.typeIs entry_listiter_next ?_ (args_listiter_next _))))
  show wpAny _ _ (field (.ref it) 0 >>= _) _ _ s
  refine wpAny_bind (wpAny_field ho hd (x := .ref l) rfl ?_)
  show wpAny _ _ (if (Value.ref l == Value.none) = true then _ else _) _ _ s
  rw [if_neg (show ¬ ((Value.ref l == Value.none) = true) from Bool.false_ne_true)]
  show wpAny _ _ (field (.ref it) 1 >>= _) _ _ s
  refine wpAny_bind (wpAny_field ho hd (x := .int i 0) rfl ?_)
  show wpAny _ _ (seqItems? (.ref l) >>= _) _ _ s
  refine wpAny_bind (wpAny_seqItems hol hdl ?_)
  simp only [Int.toNat_natCast, hi]
  refine wpAny_bind (wpAny_rule (wpAny_bind (wpAny_setField ho hd (by simp) ?_)))
  refine wpAny_mono (stop_hot (E := E) hot hx rfl hQ) (fun _ _ z => False.elim z) fun e s' z => ?_
  refine wpAny_bind (wpAny_mono z (fun b s'' y => ?_) fun _ _ y => y)
  obtain ⟨rfl, y⟩ := y
  exact wpAny_pure y
theorem tuple_end {it t x1 : Addr} {i : Nat} {items : Array Value} {Q : Option Value → Shared → Prop} (hot : HotAt A x1 s.heap) (hx : x1 ≠ it) (hit : s.heap.IsTupleIter it t i) (ht : s.heap.IsTuple t items) (hi : items[i]? = none)
    (hQ : ∀ h', Heap.ExtBut it s.heap h' → Q none { s with heap := h' }) : wpAny (model prog w) A (pyNext (.ref it)) Q E s := by
  obtain ⟨o, ho, hc, hd⟩ := id hit
  obtain ⟨ol, hol, _, nl, hdl⟩ := ht
  unfold pyNext
  refine wpAny_bind (wpAny_attempt (wpAny_callSpecial?_slot (name := Str.ofString "__next__") hit.typeIs PySem.F.slot_tuple_iterator_next
    (wpAny_call_entry PySem.F.slot_tuple_iterator_next hit.typeIs PySem.F.entry_tuple_iterator_next ?_ (PySem.F.args_tuple_iterator_next_1 _))))
  show wpAny _ _ (field (.ref it) 0 >>= _) _ _ s
  refine wpAny_bind (wpAny_field ho hd (x := .ref t) rfl ?_)
  show wpAny _ _ (if (Value.ref t == Value.none) = true then _ else _) _ _ s
  rw [if_neg (show ¬ ((Value.ref t == Value.none) = true) from Bool.false_ne_true)]
  show wpAny _ _ (field (.ref it) 1 >>= _) _ _ s
  refine wpAny_bind (wpAny_field ho hd (x := .int i 0) rfl ?_)
  show wpAny _ _ (seqItems? (.ref t) >>= _) _ _ s
  refine wpAny_bind (wpAny_seqItems hol hdl ?_)
  simp only [Int.toNat_natCast, hi]
  refine wpAny_bind (wpAny_rule (wpAny_bind (wpAny_setField ho hd (by simp) ?_)))
  refine wpAny_mono (stop_hot (E := E) hot hx rfl hQ) (fun _ _ z => False.elim z) fun e s' z => ?_
  refine wpAny_bind (wpAny_mono z (fun b s'' y => ?_) fun _ _ y => y)
  obtain ⟨rfl, y⟩ := y
  exact wpAny_pure y
theorem unpack_hot {t x1 : Addr} {items : Array Value} {env : Env} {elts : List Expr} {k : Nat} {pos : Pos} {Q : Unit → Shared → Prop} (hot : HotAt A x1 s.heap) (ht : s.heap.IsTuple t items)
    (hn : (assignEach elts env).length = items.size) (hstar : (assignEach elts env).findIdx? (·.1) = none)
    (h : ∀ h', Heap.ExtBut s.heap.objs.size s.heap h' → wpAny (model prog w) A (assignInOrder ((assignEach elts env).map (·.2)) items.toList) Q E { s with heap := h' }) :
    wpAny (model prog w) A (assign (.Tuple elts k pos) env (.ref t)) Q E s := by
  have hlt : t ≠ s.heap.objs.size := by obtain ⟨o, ho, _⟩ := ht; exact Nat.ne_of_lt (Heap.lt_size ho)
  have hx : x1 ≠ s.heap.objs.size := by obtain ⟨_, o, _, ho, _⟩ := id hot; exact Nat.ne_of_lt (Heap.lt_size ho)
  rw [assign_Tuple]
  refine wpAny_bind (wpAny_standAt ?_)
  unfold unpack
  rw [hn, hstar]
  refine wpAny_bind (wpAny_holding ?_)
  unfold unpackItems
  refine wpAny_bind ?_
  unfold notIterableAtAll
  refine wpAny_bind (wpAny_specialOf ht.typeIs PySem.F.slot_tuple_iter.lookup ?_)
  refine wpAny_pure ?_
  simp only [Bool.false_eq_true, if_false]
  refine wpAny_bind (wpAny_holding (wpAny_pyIter_tuple ht ?_))
  refine wpAny_bind (wpAny_holding (wpAny_draw_tuple hlt items.size 0 _ _ ⟨_, Heap.get?_push_size _ rfl, rfl, rfl⟩ (ht.push _) (by omega) fun h₁ hit₁ hs₁ => ?_))
  rw [List.drop_zero, List.take_of_length_le (by simp), if_neg (by simp)]
  obtain ⟨hh, o1, vs1, g1, d1, c1⟩ := hot
  have hot2 : HotAt A x1 h₁ := ⟨hh, o1, vs1, hs₁.extBut x1 o1 hx (Heap.get?_push_of_some _ g1), d1, c1⟩
  refine wpAny_bind (wpAny_holding (tuple_end hot2 hx hit₁ ((ht.push _).extBut hs₁.extBut hlt) (by simp) fun h₂ he₂ => ?_))
  simp only [Option.isSome_none, Bool.false_eq_true, if_false]
  exact wpAny_pure (h h₂ fun b o hb e => he₂ b o hb (hs₁.extBut b o hb (Heap.get?_push_of_some _ e)))
end
end Kh

set_option Elab.async false
set_option linter.all false
set_option maxRecDepth 100000
set_option maxHeartbeats 4000000
namespace Kh
open PySem PySem.Spec PyProof.Rows L2 HotX L2H
/-- the handled error stands in the entry's state, out of reach; its context is None -/
def HotI (X : Cx) : Prop := ∃ (x1 : Addr) (o : Obj) (vs : Array Value), X.A.handled = some (.ref x1) ∧ o.data = .fields vs ∧ vs[2]? = some .none ∧ X.s_0.heap.get? x1 = some o ∧ X.H_0 x1 = none ∧ x1 ∉ X.ex ∧ x1 ∉ X.fs
theorem HotI.at_ {X : Cx} {pins : List (Addr × Obj)} {σ : L2.St} {H : Hp} {s : Shared} (h : HotI X) (I : L2.Inv X pins σ H s) : ∃ x1, HotAt X.A x1 s.heap ∧ H x1 = none ∧ x1 ∉ X.ex ∧ x1 ∉ X.fs ∧ x1 ≠ X.env.locals ∧ x1 < X.s_0.heap.objs.size := by
  obtain ⟨x1, o, vs, h1, h2, h3, h4, h5, h6, h7⟩ := h
  exact ⟨x1, ⟨h1, o, vs, I.base.keep x1 o h4 h5 h7 h6, h2, h3⟩, I.base.free x1 o h4 h5 h6, h6, h7, Nat.ne_of_lt (Nat.lt_of_lt_of_le (Heap.lt_size h4) I.ok.above), Heap.lt_size h4⟩
theorem HotI.ne {X : Cx} {pins : List (Addr × Obj)} {H : Hp} {b x1 : Addr} (hx : x1 ∉ X.ex) (hl : x1 < X.s_0.heap.objs.size) (f : FpOk X pins H b) : x1 ≠ b := fun e => by
  rcases f.2.2.2.1 with z | z
  · exact hx (e ▸ z)
  · exact Nat.not_lt.mpr z (e ▸ hl)
/-- .. and it does at a comprehension's entry -/
theorem HotI.blk {X : Cx} {pins : List (Addr × Obj)} {σ : L2.St} {H : Hp} {s : Shared} {scope : Scope} {ce : Env} {fp : List Addr} (h : HotI X) (I : L2.Inv X pins σ H s) (hf : ∀ b ∈ fp, FpOk X pins H b) : HotI (X.blk s H scope ce fp) := by
  obtain ⟨x1, ⟨hh, o, vs, g, d, c⟩, n, he, hs, hl, hlt⟩ := h.at_ I
  refine ⟨x1, o, vs, hh, d, c, g, n, fun hb => HotI.ne he hlt (hf x1 hb) rfl, fun hb => ?_⟩
  have hb : x1 ∈ frs X.stack := hb
  rcases I.ok.stk with z | ⟨z, z2⟩
  · rw [z] at hb
    exact hs hb
  · rw [z] at hb
    obtain ⟨e, he2, q⟩ := List.mem_filterMap.mp hb
    rcases List.mem_cons.mp he2 with rfl | he2
    · rw [z2] at q
      exact hl (Option.some.inj q).symm
    · exact hs (List.mem_filterMap.mpr ⟨e, he2, q⟩)
/-! ### what is walked -/
structure TurnI (P : Program) (w : World) (K : PySem.W.Frag) (tg : Expr) (J : It) (fp : List Addr) (it : Addr) (tn : Nat → Heap → Prop) : Prop where
  mem : it ∈ fp
  obj : ∀ i h, tn i h → ∀ b ∈ fp, ∃ o, h.get? b = some o ∧ ∀ v, o.data ≠ .cell v
  keep : ∀ i h h', tn i h → (∀ b ∈ fp, ∀ o, h.get? b = some o → h'.get? b = some o) → tn i h'
  item : ∀ (X : Cx), X.prog = P → X.w = w → X.K = K → ∀ (i : Nat) (pins : List (Addr × Obj)) (s : Shared) (σ : L2.St) (H : Hp) (E : Value → Shared → Prop), L2.Inv X pins σ H s → (∀ b ∈ fp, FpOk X pins H b) → tn i s.heap → J.go i H →
    wpAny (model P w) X.A (pyNext (.ref it)) (fun r s1 => ∃ u, r = some u ∧
      wpAny (model P w) X.A (letOwnedTupleGo tg (.ref it) u) (fun _ s2 => ∃ x H', L2.Inv X pins σ H' s2 ∧ RelV x u ∧ J.yld i H x H' ∧ tn (i + 1) s2.heap ∧ ∀ b ∈ fp, H' b = none) E s1) E s
  done : ∀ (X : Cx), X.prog = P → X.w = w → X.K = K → HotI X → ∀ (i : Nat) (pins : List (Addr × Obj)) (s : Shared) (σ : L2.St) (H : Hp) (E : Value → Shared → Prop), L2.Inv X pins σ H s → (∀ b ∈ fp, FpOk X pins H b) → tn i s.heap → J.stop i H →
    wpAny (model P w) X.A (pyNext (.ref it)) (fun r s1 => r = none ∧ L2.Inv X pins σ H s1) E s
  self : ∀ (A : Around) (i : Nat) (s : Shared) (Q : Value → Shared → Prop) (E : Value → Shared → Prop), tn i s.heap → Q (.ref it) s → wpAny (model P w) A (pyIter (.ref it)) Q E s
theorem turn_listI {P : Program} {w : World} {K : PySem.W.Frag} {tg : Expr} (a it : Addr) : TurnI P w K tg (Itl K a) [it] it (fun i h => h.IsListIter it a i) where
  mem := List.mem_singleton.mpr rfl
  obj := fun i h st b hb => by
    cases List.mem_singleton.mp hb
    obtain ⟨o, e, c, d⟩ := st
    exact ⟨o, e, fun v z => by rw [d] at z; cases z⟩
  keep := fun i h h' st k => st.at fun o e => k it (List.mem_singleton.mpr rfl) o e
  item := by
    intro X hP hw hK i pins s σ H E I hf st hg
    cases hP; cases hw; cases hK
    obtain ⟨xs, x, hq, hx⟩ := hg
    obtain ⟨its, rv, p, hz⟩ := I.list hq
    obtain ⟨u, hu, ru⟩ := rv.get hx
    obtain ⟨f0, f1, f2, f3, f4, f5⟩ := hf it (List.mem_singleton.mpr rfl)
    refine wpAny_pyNext_list_item st p.isList (x := u) (by simpa using hu) fun h' st' sb => ?_
    have I1 : L2.Inv X pins σ H { s with heap := h' } := I.turned (t' := s.toks) (fun b o hb e => (sb.2 b hb).trans e) f0 f1 f3 f4 f5
    obtain ⟨o, e, c, d⟩ := id st'
    exact ⟨u, rfl, go_of (s := { s with heap := h' }) e c d (by decide) ⟨x, H, I1, ru, ⟨rfl, fun ys hy => by rw [I.list_inj hy hq]; exact hx⟩, st', fun b hb => (hf b hb).1⟩⟩
  done := by
    intro X hP hw hK hot i pins s σ H E I hf st hg
    cases hP; cases hw; cases hK
    obtain ⟨xs, hq, hx⟩ := hg
    obtain ⟨its, rv, p, hz⟩ := I.list hq
    have fi := hf it (List.mem_singleton.mpr rfl)
    obtain ⟨f0, f1, f2, f3, f4, f5⟩ := id fi
    obtain ⟨x1, ha, _, he, _, _, hlt⟩ := hot.at_ I
    have hl := rv.length
    exact list_end ha (HotI.ne he hlt fi) st p.isList (by simp; omega) fun h' eb => ⟨rfl, I.turned (t' := s.toks) (fun b o hb e => eb b o hb e) f0 f1 f3 f4 f5⟩
  self := fun _ _ _ _ _ st h => wpAny_pyIter_listiter st h
def PIEI (X : Cx) (pins : List (Addr × Obj)) (σ : L2.St) (tg : Expr) (R : It → Hp → Prop) (itv : Value) (s2 : Shared) : Prop :=
  ∃ (it : Addr) (fp : List Addr) (tn : Nat → Heap → Prop) (J : It) (H' : Hp), itv = .ref it ∧ L2.Inv X pins σ H' s2 ∧ TurnI X.prog X.w X.K tg J fp it tn ∧ tn 0 s2.heap ∧ (∀ b ∈ fp, FpOk X pins H' b) ∧ R J H'
structure PII (X : Cx) (tg iter : Expr) (wi : TI) : Prop where
  run : ∀ (pins : List (Addr × Obj)) (s : Shared) (σ : L2.St) (H : Hp) (R : It → Hp → Prop), L2.Inv X pins σ H s → wi σ H R →
    wpAny (model X.prog X.w) X.A (eval iter X.env) (fun v s1 => wpAny (model X.prog X.w) X.A (pyIter v) (PIEI X pins σ tg R) X.xe s1) X.xe s
theorem pi_listI {X : Cx} {tg l : Expr} {tl : TE} (hl : PE X l tl) : PII X tg l (iList X.K tl) := by
  refine ⟨fun pins s σ H R I h => ?_⟩
  refine thn (hl.run pins s σ H _ I h) fun v s1 ⟨x, H1, I1, r1, q1⟩ => ?_
  obtain ⟨a, e, ⟨xs, hq⟩, q⟩ := q1
  subst e
  cases r1
  obtain ⟨its, rv, p, hz⟩ := I1.list hq
  refine wpAny_pyIter_list p.isList ⟨s1.heap.objs.size, [s1.heap.objs.size], _, _, H1, rfl, I1.kept (t' := s1.toks) fun b o e => Heap.get?_push_of_some _ e, turn_listI a _, ⟨_, Heap.get?_push_size _ rfl, rfl, rfl⟩, fun b hb => ?_, q⟩
  cases List.mem_singleton.mp hb
  exact I1.fpOk (Nat.le_refl _) (I1.hok.fresh (Nat.le_refl _))
/-- a target that is a tuple -/
theorem pg_tupI {X : Cx} {es : List Expr} {k : Nat} {t : TGs} {n : Nat} {pos : Pos} (hot : HotI X) (h : PGs X es t)
    (hn : (assignEach es X.env).length = n := by rfl) (hst : (assignEach es X.env).findIdx? (·.1) = none := by rfl) : PG X (.Tuple es k pos) (gTup X.K n t) := by
  refine ⟨fun pins s σ H v u Q I r hw => ?_⟩
  obtain ⟨a, xs, e1, hq, hl, hw⟩ := hw
  subst e1
  cases r
  obtain ⟨its, rv, ht, hz⟩ := I.tuple hq
  obtain ⟨x1, ha, _⟩ := hot.at_ I
  refine unpack_hot ha ht (by simp [hn, ← hl, rv.length]) hst fun h' hx => ?_
  have I1 : L2.Inv X pins σ H { s with heap := h' } := I.kept (t' := s.toks) fun b o e => hx b o (Nat.ne_of_lt (Heap.lt_size e)) e
  exact h.run pins _ σ H xs _ Q I1 (by simpa using rv) hw
/-! ### a comprehension -/
section
variable {X : Cx}
theorem lc_hot {pins : List (Addr × Obj)} {s : Shared} {σ : L2.St} {H : Hp} {Q : VK} {elt tg iter : Expr} {ifs : List Expr} {scope : Scope} {own : List (Str × Nat)} {pos pos' : Pos} {wi : TI} {g : TG} {tt : TT} {te : TE} {use : Option (Value → Sem Unit)} {Qf : Value → Shared → Prop}
    (hot : HotI X) (hN : X.N.Nodup) (I : L2.Inv X pins σ H s) (hi : PII X tg iter wi) (ok : BlkOk X.N X.env.scope scope own)
    (hg : ∀ (s : Shared) (H : Hp) (C : Addr) (cl : List (Str × Addr)) (fp : List Addr), HotI (X.blk s H scope (compEnvC scope cl C X.env) fp) → PG (X.blk s H scope (compEnvC scope cl C X.env) fp) tg g)
    (ht : ∀ (s : Shared) (H : Hp) (C : Addr) (cl : List (Str × Addr)) (fp : List Addr), HotI (X.blk s H scope (compEnvC scope cl C X.env) fp) → PTs (X.blk s H scope (compEnvC scope cl C X.env) fp) ifs tt)
    (he : ∀ (s : Shared) (H : Hp) (C : Addr) (cl : List (Str × Addr)) (fp : List Addr), HotI (X.blk s H scope (compEnvC scope cl C X.env) fp) → PE (X.blk s H scope (compEnvC scope cl C X.env) fp) elt te) (hs : ∀ x, foldedSetIterable iter X.env x = pure x)
    (h : tLc wi g tt te (own.map (·.2)) σ H Q)
    (hRR : ∀ D C s' m H', L2.Inv X pins σ H' s' → Q (.ref D) H' → s'.heap.Ns C m → FpOk X pins H' C → compPost (model X.prog X.w) X.A X.xe use Qf (.ref D) C (.ok .next) s') :
    wpAny (model X.prog X.w) X.A (comprehension (.ListComp elt [⟨tg, iter, ifs, 0⟩] scope pos) scope X.env pos' (newList []) false (eval iter X.env) use) Qf X.xe s := by
  have hfree : ∀ y ∈ scope.names, y.2 = .free → ∃ c, X.env.cells.lookup y.1 = some c := fun y hy e => (ok.free y hy e).elim (fun k => I.ok.has _ (.inl k)) fun k => I.ok.has _ (.inr k)
  refine wpAny_comprehension_free (use := use) rfl hs (closure_ok hfree) ok.kind (fun y hy e => by rw [ok.uniq y hy, e]) (thn (hi.run pins s σ H _ I h) fun xv s1 hx => thn hx fun itv s2 h2 => ?_)
  obtain ⟨it, fp, tn, J, H2, rfl, I2, T, st2, f2, q⟩ := h2
  refine wpAny_newObj_type (newEnv_comp ?_) (Nat.zero_le _)
  generalize hD : s2.heap.objs.size = D
  have hDn : H2 D = none := I2.hok.fresh (Nat.le_of_eq hD)
  obtain ⟨W, ⟨m0, w0⟩, turn⟩ := q D hDn
  have sz : ∀ b ∈ fp, b < s2.heap.objs.size := fun b hb => let ⟨_, e, _⟩ := T.obj _ _ st2 b hb; Heap.lt_size e
  generalize hs3 : ({ s2 with heap := s2.heap.push { cls := .type "list", data := .seq ([] : List Value).toArray } } : Shared) = s3
  have h3 : s3.heap = s2.heap.push { cls := .type "list", data := .seq ([] : List Value).toArray } := by rw [← hs3]
  have I3 : L2.Inv X pins σ (upd H2 D (.lst [])) s3 := by
    rw [← hs3]
    refine I2.laid (t' := s2.toks) (fun b o e => Heap.get?_push_of_some _ e) (Nat.le_of_eq hD) ⟨Nat.zero_le _, [], 0, .nil, ?_⟩
    rw [← hD]
    exact Heap.get?_push_size _ rfl
  have f3 : ∀ b ∈ fp, FpOk X pins (upd H2 D (.lst [])) b := fun b hb => ⟨by rw [upd_ne (by rw [← hD]; exact Nat.ne_of_lt (sz b hb))]; exact (f2 b hb).1, (f2 b hb).2⟩
  have l3 : ∀ b ∈ fp, b < s3.heap.objs.size := fun b hb => by
    rw [h3, Heap.size_push]
    exact Nat.lt_succ_of_lt (sz b hb)
  have st3 : tn 0 s3.heap := T.keep _ _ _ st2 fun b _ o e => by
    rw [h3]
    exact Heap.get?_push_of_some _ e
  have I4 := block_start I3 ok hN fun b hb => ⟨f3 b hb, l3 b hb⟩
  have hotB := HotI.blk (scope := scope) (ce := compEnvC scope (cellsFrom (s3.heap.objs.size + 1) scope.names (cloFrom X.env.cells scope.names [])) s3.heap.objs.size X.env) hot I3 f3
  have pg := hg s3 (upd H2 D (.lst [])) s3.heap.objs.size (cellsFrom (s3.heap.objs.size + 1) scope.names (cloFrom X.env.cells scope.names [])) fp hotB
  have pt := ht s3 (upd H2 D (.lst [])) s3.heap.objs.size (cellsFrom (s3.heap.objs.size + 1) scope.names (cloFrom X.env.cells scope.names [])) fp hotB
  have pe := he s3 (upd H2 D (.lst [])) s3.heap.objs.size (cellsFrom (s3.heap.objs.size + 1) scope.names (cloFrom X.env.cells scope.names [])) fp hotB
  show codeAny _ _ (.compStart (.ListComp elt [⟨tg, iter, ifs, 0⟩] scope pos) 0 (.ref it) (.ref D) (compEnvC scope (cellsFrom (s3.heap.objs.size + 1) scope.names (cloFrom X.env.cells scope.names [])) s3.heap.objs.size X.env)) (compPost (model X.prog X.w) X.A X.xe use Qf (.ref D) s3.heap.objs.size) { s3 with heap := pushCells (s3.heap.push { cls := .type "dict", data := .dict #[] }) scope.names }
  generalize hce : compEnvC scope (cellsFrom (s3.heap.objs.size + 1) scope.names (cloFrom X.env.cells scope.names [])) s3.heap.objs.size X.env = ce at I4 pg pt pe hotB ⊢
  have cL : ce.locals = s3.heap.objs.size := by
    rw [← hce]
    rfl
  generalize hH3 : upd H2 D (.lst []) = H3 at I3 I4 pg pt pe w0 f3 hotB
  generalize hs4 : ({ s3 with heap := pushCells (s3.heap.push { cls := .type "dict", data := .dict #[] }) scope.names } : Shared) = s4 at I4 ⊢
  have st4 : tn 0 s4.heap := T.keep _ _ _ st3 fun b _ o e => by
    rw [← hs4]
    exact pushCells_keeps _ _ _ _ (Heap.get?_push_of_some _ e)
  have stat : ∀ {σ' : L2.St} {H' : Hp} {s' : Shared}, L2.Inv (X.blk s3 H3 scope ce fp) [] σ' H' s' → (∀ b ∈ fp, H' b = none) → ∀ b ∈ fp, FpOk (X.blk s3 H3 scope ce fp) [] H' b := fun I' hn b hb =>
    ⟨hn b hb, (I'.ok.exf b hb).1, I'.ok.exfs b hb, .inl hb, fun x c e => (I'.ok.exf b hb).2 x c e, fun p hp => nomatch hp⟩
  have loop : codeAny (model X.prog X.w) X.A (.compLoop (.ListComp elt [⟨tg, iter, ifs, 0⟩] scope pos) 0 (.ref it) (.ref D) ce) (compPost (model X.prog X.w) X.A X.xe use Qf (.ref D) s3.heap.objs.size) s4 := by
    refine compLoop_any (fun n s' => ∃ i H', L2.Inv (X.blk s3 H3 scope ce fp) [] (wipe σ (own.map (·.2))) H' s' ∧ tn i s'.heap ∧ (∀ b ∈ fp, H' b = none) ∧ W i n H') ?_ m0 ⟨0, H3, I4, st4, fun b hb => (f3 b hb).1, w0⟩
    rintro n s5 ⟨i, H5, I5, st5, n5, w5⟩
    rcases turn i n H5 w5 with ⟨stop, qq⟩ | ⟨go, Nx, hNx, step⟩
    · refine thnF (T.done (X.blk s3 H3 scope ce fp) rfl rfl rfl hotB i [] s5 _ H5 (fun _ _ => False) I5 (stat I5 n5) st5 stop) fun r s6 ⟨hr, I6⟩ => ?_
      subst hr
      have I7 : L2.Inv X pins σ H5 s6 := I3.call' (ch := fp) I6.os I6.base I6.hok I6.bare fun b hb => ⟨(f3 b hb).2.2.2.1, (f3 b hb).2.1, (f3 b hb).2.2.2.2.1, (f3 b hb).2.2.2.2.2⟩
      have nC : H5 s3.heap.objs.size = none := cL ▸ I6.free
      obtain ⟨m, hn, _⟩ := I6.loc
      exact hRR D s3.heap.objs.size s6 m H5 I7 qq (cL ▸ hn) (I3.fpOk (Nat.le_refl _) nC)
    · refine thnF (T.item (X.blk s3 H3 scope ce fp) rfl rfl rfl i [] s5 _ H5 (fun _ _ => False) I5 (stat I5 n5) st5 go) fun r s6 ⟨u, hr, h6⟩ => ?_
      subst hr
      refine thnF h6 fun _ s7 ⟨x, H7, I7, r7, y7, st7, n7⟩ => ?_
      refine thnF (pg.run _ s7 _ H7 x u _ (I7.pinned (stat I7 n7) (T.obj _ _ st7)) r7 (step x H7 y7)) fun _ s8 ⟨σ8, H8, I8, hw8, q8⟩ => ?_
      refine thnF (pt.run _ s8 σ8 H8 _ I8 q8) fun b s9 ⟨H9, I9, q9⟩ => ?_
      have fin : ∀ {s' : Shared} {H' : Hp}, L2.Inv (X.blk s3 H3 scope ce fp) ([] ++ pinsAt fp s7.heap) σ8 H' s' → Nx H' → ∃ m, m < n ∧ ∃ i H', L2.Inv (X.blk s3 H3 scope ce fp) [] (wipe σ (own.map (·.2))) H' s' ∧ tn i s'.heap ∧ (∀ b ∈ fp, H' b = none) ∧ W i m H' := fun {s' H'} I' nx => by
        obtain ⟨m', hm, w'⟩ := hNx H' nx
        have pin' : ∀ b ∈ fp, ∀ o, s7.heap.get? b = some o → s'.heap.get? b = some o ∧ H' b = none := fun b hb o e =>
          let z := I'.pin (b, o) (List.mem_append_right _ (List.mem_append_right _ (mem_pinsAt hb e)))
          ⟨z.1, z.2.1⟩
        refine ⟨m', hm, i + 1, H', (I'.unpinned (pins := [])).weak (by rw [← hw8, wipe_length]) (fun j v e => ?_), T.keep _ _ _ st7 fun b hb o e => (pin' b hb o e).1, fun b hb => ?_, w'⟩
        · rw [← hw8] at e
          exact (wipe_some e).1
        · obtain ⟨o, e, _⟩ := T.obj _ _ st7 b hb
          exact (pin' b hb o e).2
      cases b with
      | false =>
        simp only [Bool.false_eq_true, if_false] at q9 ⊢
        exact fin I9 q9
      | true =>
        simp only [if_true] at q9 ⊢
        refine thnF (pe.run _ s9 σ8 H9 _ I9 q9) fun z s10 ⟨yv, H10, I10, r10, acc, hD10, hz10, nx⟩ => ?_
        exact app_ok (X := X.blk s3 H3 scope ce fp) I10 hD10 hz10 r10 fun s11 I11 => fin I11 nx
  exact codeAny_compStart_list loop (T.self X.A 0 _ _ _ st4 loop)
theorem pe_lcI {elt tg iter : Expr} {ifs : List Expr} {scope : Scope} {own : List (Str × Nat)} {pos : Pos} {wi : TI} {g : TG} {tt : TT} {te : TE} (hot : HotI X) (hN : X.N.Nodup) (hi : PII X tg iter wi) (ok : BlkOk X.N X.env.scope scope own)
    (hg : ∀ (s : Shared) (H : Hp) (C : Addr) (cl : List (Str × Addr)) (fp : List Addr), HotI (X.blk s H scope (compEnvC scope cl C X.env) fp) → PG (X.blk s H scope (compEnvC scope cl C X.env) fp) tg g)
    (ht : ∀ (s : Shared) (H : Hp) (C : Addr) (cl : List (Str × Addr)) (fp : List Addr), HotI (X.blk s H scope (compEnvC scope cl C X.env) fp) → PTs (X.blk s H scope (compEnvC scope cl C X.env) fp) ifs tt)
    (he : ∀ (s : Shared) (H : Hp) (C : Addr) (cl : List (Str × Addr)) (fp : List Addr), HotI (X.blk s H scope (compEnvC scope cl C X.env) fp) → PE (X.blk s H scope (compEnvC scope cl C X.env) fp) elt te) (hs : ∀ x, foldedSetIterable iter X.env x = pure x := by intro _; rfl) :
    PE X (.ListComp elt [⟨tg, iter, ifs, 0⟩] scope pos) (tLc wi g tt te (own.map (·.2))) := by
  refine ⟨fun pins s σ H Q I h => ?_⟩
  rw [eval_ListComp]
  refine lc_hot hot hN I hi ok hg ht he hs h fun D C s' m H' I' q hn f => ⟨m, hn, fun h'' sb => ?_⟩
  obtain ⟨f0, f1, f2, f3, f4, f5⟩ := f
  exact ⟨.ref D, H', I'.turned (t' := s'.toks) (fun b o hb e => (sb.2 b hb).trans e) f0 f1 f3 f4 f5, rfl, q⟩
end
/-! ### defs called there -/
theorem fn_ofI {CX : CXT} {P : Program} {w : World} {K : PySem.W.Frag} {mg : Str → Option Value} {base : Heap} {k : Nat} {f : Addr} {name qual : Str} {params : Arguments} {body : List Stmt} {scope : Scope} {dV kV doc pm cdv ct oc : Value} {an od : Option Addr} {osl : Array (Option Value)} {N ps : List Str} {sp : Sp}
    (lk : List.lookup f K = some ⟨oc, od, .func (PySem.W.fnOf name qual params body scope dV kV doc pm an cdv ct), osl⟩) (hcd : PySem.W.codeIn K cdv qual = true) (S : FnScope N ps scope) (len : ∀ vs H Q E, sp vs H Q E → vs.length = ps.length)
    (hbody : ∀ (A : Around) (outer : List Env) (s : Shared) (H : Hp) (vs : List V) (Q : VK) (E : XK) (p : Addr × Obj), HotI (cxH CX P w K mg base N qual scope f cdv A outer s H E p) → RoomH k (A.deeper (envOfC qual scope s.heap.objs.size f cdv)) → sp vs H Q E →
      ∃ t, PSs (cxH CX P w K mg base N qual scope f cdv A outer s H E p) body t ∧ t { nx := fun _ H' => Q .non H', rt := Q } (L2.start N vs) H) :
    FnH P w K mg base CX (k + 1) f (PySem.W.fnOf name qual params body scope dV kV doc pm an cdv ct) ps sp := by
  refine ⟨len, fun A outer s H args us vs Q E p hr hot hpin e0 hb r hsp => ?_⟩
  have KX := PySem.W.Frag.In.keeps e0.mod.kin fun b o e => (e0.bs b o e).left
  have lim := Heap.NoLimit.keeps e0.mod.nolimit fun b o e => (e0.bs b o e).left
  refine codeAny_call_function (RoomH.depth hr) (KX f _ lk) rfl S.co S.gen rfl (PySem.W.codeRec_of KX hcd) (hb _ _ _ _ (wpAny_newFunctionEnv_cells S.kind (fun x hy => ?_) fun env he s1 x => ?_))
  · obtain ⟨n, v⟩ := x
    exact (S.par n (List.of_mem_zip hy).left).elim (fun q => Or.inl q) fun q => Or.inr ⟨q, PySem.W.cellsFrom_some scope.names (s.heap.objs.size + 1) [] (Or.inl q)⟩
  · subst he
    refine ⟨Heap.NoLimit.keeps lim x.toInCall.keep, codeAny_func ?_⟩
    have hI : HotI (cxH CX P w K mg base N qual scope f cdv A outer s H E p) := by
      obtain ⟨hh, vs1, e1, c1⟩ := hot
      exact ⟨p.1, p.2, vs1, hh, e1, c1, hpin.get, hpin.free, (fun z => nomatch z), hpin.nofs⟩
    obtain ⟨t, ht, hq⟩ := hbody A outer s H vs Q E p hI (RoomH.deeper hr (envOfC qual scope s.heap.objs.size f cdv)) hsp
    have I := inv_startH (CX := CX) (E := E) S hpin e0 (len vs H Q E hsp) r x
    refine wpAny_mono (ht.run [] s1 (L2.start N vs) H _ I hq) (fun fl s' hs => ?_) fun e s' hs => hs
    cases fl with
    | next =>
      obtain ⟨σ', H', J, q⟩ := hs
      exact ⟨.non, H', J.os, J.bare, J.base, J.hok, rfl, q⟩
    | brk =>
      obtain ⟨_, _, _, q⟩ := hs
      exact q.elim
    | cont =>
      obtain ⟨_, _, _, q⟩ := hs
      exact q.elim
    | ret u =>
      obtain ⟨v, σ', H', J, rv, q⟩ := hs
      exact ⟨_, H', J.os, J.bare, J.base, J.hok, rv, q⟩
end Kh

set_option Elab.async false
set_option linter.all false
set_option maxRecDepth 100000
set_option maxHeartbeats 4000000
namespace Kh
open PySem PySem.Spec PyProof.Rows L2
/-! ### errors whose context is None -/
theorem passN {X : Cx} : Passes (L2N.CX X.prog X.w) X E0 := fun _ _ _ _ _ _ _ h => by
  obtain ⟨_, _, _, _, _, _, _, _, _, _, _, _, z⟩ := h
  exact z.elim
theorem takes0N {X : Cx} : L2N.Takes X (fun _ _ _ _ => False) := fun _ _ x => by
  obtain ⟨_, _, _, _, _, _, _, _, _, _, _, _, _, _, _, _, z⟩ := x
  exact z.elim
section
variable {P : Program} {w : World} {K : PySem.W.Frag} {mg : Str → Option Value} {base : Heap}
theorem Fun.okN {x qual : Str} {st : Stmt} {f : Addr} {fd : FuncData} {N ps : List Str} {k : Nat} {sp : Sp} (F : Fun K x qual st f fd) (S : FnScope N ps (defScope st)) (len : ∀ vs H Q E, sp vs H Q E → vs.length = ps.length)
    (hb : ∀ (cdv : Value) (A : Around) (outer : List Env) (s : Shared) (H : Hp) (vs : List V) (Q : VK) (E : XK), Room k (A.deeper (envOfC qual (defScope st) s.heap.objs.size f cdv)) → sp vs H Q E →
      ∃ t, PSs (cxOf (L2N.CX P w) P w K mg base N qual (defScope st) f cdv A outer s H E) (defBody st) t ∧ t { nx := fun _ H' => Q .non H', rt := Q } (L2.start N vs) H) : FnOk P w K mg base (L2N.CX P w) (k + 1) f fd ps sp := by
  obtain ⟨oc, od, kV, doc, pm, an, cdv, ct, osl, e, lk, hcd⟩ := F.ex
  subst e
  exact fn_of lk hcd S len fun A outer s H vs Q E => hb cdv A outer s H vs Q E
/-- a def of the text that is called while an error is handled -/
theorem Fun.okI {x qual : Str} {st : Stmt} {f : Addr} {fd : FuncData} {N ps : List Str} {k : Nat} {sp : Sp} (F : Fun K x qual st f fd) (S : FnScope N ps (defScope st)) (len : ∀ vs H Q E, sp vs H Q E → vs.length = ps.length)
    (hb : ∀ (cdv : Value) (A : Around) (outer : List Env) (s : Shared) (H : Hp) (vs : List V) (Q : VK) (E : XK) (p : Addr × Obj), HotI (L2H.cxH CX0 P w K mg base N qual (defScope st) f cdv A outer s H E p) → L2H.RoomH k (A.deeper (envOfC qual (defScope st) s.heap.objs.size f cdv)) → sp vs H Q E →
      ∃ t, PSs (L2H.cxH CX0 P w K mg base N qual (defScope st) f cdv A outer s H E p) (defBody st) t ∧ t { nx := fun _ H' => Q .non H', rt := Q } (L2.start N vs) H) : L2H.FnH P w K mg base CX0 (k + 1) f fd ps sp := by
  obtain ⟨oc, od, kV, doc, pm, an, cdv, ct, osl, e, lk, hcd⟩ := F.ex
  subst e
  exact fn_ofI lk hcd S len fun A outer s H vs Q E p => hb cdv A outer s H vs Q E p
end
section
variable {X : Cx} {e : Expr} {es : List Expr} {ta : TA}
/-- C(e, ..) of an error with an __init__ of its own -/
theorem pmk_oexN {CX : CXT} {x : Str} {C fI : Addr} {k : Nat} {fd : FuncData} {ps : List Str} {sp : Sp} {p pos : Pos} (T : OexC X.K C) (iC : PySem.W.findIn X.K (.ref C) "__init__" = some (some (.ref fI))) (tI : PySem.W.typeIn X.K (.ref fI) = some (.type "function"))
    (F1 : FnOk X.prog X.w X.K X.mg X.base CX k fI fd ps sp) (hr : Room (k + 1) X.A) (hb : L2.Binds X.K fd ps []) (hx : Passes CX X (fun _ _ _ => False)) (hg : Gl X x) (hm : X.mg x = some (.ref C)) (ha : PA X (e :: es) ta)
    (hdb : (x == ("__debug__" : Str)) = false := by decide) (he : starEach (e :: es) X.env = (false, eval e X.env) :: starEach es X.env := by rfl) (hpl : (backTo pos (starEach es X.env)).any (·.1) = false := by rfl) :
    L2N.PMk X (.Call (.Name x p) (e :: es) [] pos) (tMkO C sp [] ta) := by
  intro pins s σ H Q I h
  obtain ⟨nm, q, N, bs, bm, sn, sub, ab, col, dd, k0, k1, k2, k3, k5, hC, hbm⟩ := T.cls
  refine wpAny_Call_Name_kw (ld_glob I hg hm ?_ hdb)
  refine PySem.W.callWith_K (h₀ := X.base) I.ok.mod.kin T.kC (thn (ha.run pos pins s σ H _ I h) fun us s1 ⟨vs, H1, I1, r1, hz, q1⟩ => ⟨I1.kIn, ?_⟩) he hpl
  show wpAny _ _ (call (.ref C) us) _ _ _
  obtain ⟨hp, g, dr, tk, os⟩ := s1
  generalize hA : hp.objs.size + 1 = a
  have hsz : hp.objs.size ≤ a := by omega
  have hq := q1 a (I1.hok.fresh hsz)
  rw [List.append_nil] at hq
  have kk : ∀ b o, hp.get? b = some o → ((hp.push (PySem.W.kdv_tup us)).push (PySem.HandSPX.excO C hp.objs.size)).get? b = some o := fun b o e => Heap.get?_push_of_some _ (Heap.get?_push_of_some _ e)
  have hget : ((hp.push (PySem.W.kdv_tup us)).push (PySem.HandSPX.excO C hp.objs.size)).get? a = some (PySem.HandSPX.excO C hp.objs.size) := by
    rw [← hA]
    heap_get
  have I2 : L2.Inv X pins σ (upd H1 a (exo a C none)) ⟨(hp.push (PySem.W.kdv_tup us)).push (PySem.HandSPX.excO C hp.objs.size), g, dr, tk, os⟩ := I1.laid (t' := tk) (o := exo a C none) kk hsz (exo_ok hget)
  have r2 : Vals (V.ref a :: vs) (Value.ref a :: us) := .cons rfl r1
  have hl : (Value.ref a :: us ++ []).length = ps.length := by
    rw [List.append_nil, ← F1.len _ _ _ _ hq]
    exact r2.length.symm
  have hus : us.length ≤ sizeLine := by
    rw [← Paired.length r1, sizeLine_eq]
    omega
  have b2 := hb _ (Value.ref a :: us) I2.kIn hl
  rw [List.append_nil] at b2
  subst hA
  refine wpAny_call (PySem.HandSPX.call_own PySem.F.excBase_ValueError (fun Y => PySem.HandSPX.refsVE_contains Y bm hbm) (I1.kIn _ _ hC) (PySem.W.looks_findIn I1.kIn iC) (fun self => PySem.W.bind_fn I1.kIn self tI) hus
    (codeAny_mono (F1.run _ X.stack _ _ ⟨_, []⟩ _ _ _ (fun _ _ _ => False) (hr.make C us []) (I2.env0.make C us []) b2 r2 hq) fun r s' hq' => ?_))
  cases r with
  | error er => exact hx pins σ _ _ er s' I2 hq'
  | ok fl =>
    cases fl with
    | ret u =>
      obtain ⟨v, H2, os2, bare2, un2, hok2, rv, ev, d, fs, ea, ed, hd1, q2⟩ := hq'
      subst ev
      obtain ⟨h2, g2, d2, t2, os'⟩ := s'
      obtain ⟨t0, G, J, kG, ge, hoe, na⟩ := mk_end0 (d2 := d2) (t2 := t2) I1 hsz kk un2 hok2 os2 bare2 ea ed hd1
      exact ⟨rv, _, _, _, ⟨G, g2, d2, t2, os'⟩, _, .ref C, some d, rfl, J, kG, ge, hoe, ⟨rfl, rfl, fun vs hv => by cases hv; rfl⟩, rfl, rfl, na, rfl, bare2, raises_own T.exC T.tyC, q2⟩
    | next => exact hq'.elim
    | brk => exact hq'.elim
    | cont => exact hq'.elim
end
end Kh

set_option Elab.async false
set_option linter.all false
set_option maxRecDepth 100000
set_option maxHeartbeats 4000000
namespace K0
open PySem PySem.Spec PyProof.Rows L2 Ke Kx Kd Kh
abbrev sBP : Stmt := inClass (top 5) 0
theorem same_upd {H : Hp} {p : Addr} {o : HO} (h : H p = none) : Same H (upd H p o) := fun b u e => by rw [upd_ne (ne_of_none e h)]; exact e
theorem tYesI {σ : L2.St} {H : Hp} {A B : Hp → Prop} (h : A H) : tYes σ H (fun b H3 => if b = true then A H3 else B H3) := by
  show (if true = true then A H else B H)
  rw [if_pos rfl]
  exact h
/-! ### entries to be -/
/-- its tuple, its view's place and key, its lots' place, their places, their weights over a whole -/
structure Row where
  e : Addr
  va : Addr
  key : NestedKey
  la : Addr
  as : List Addr
  ws : List Int
  W : Int
def Row.lots (r : Row) : List (Int × Int) := r.ws.map fun w => (rn w r.W, rd w r.W)
structure RowOk (K : PySem.W.Frag) (C : Addr) (H : Hp) (r : Row) : Prop where
  he : H r.e = some (.tup [.ref r.va, .ref r.la])
  hv : Nest H r.key (.ref r.va)
  sv : SeqAt.shaped r.key.data = true
  dv : r.key.depth ≤ 8
  hl : H r.la = some (.lst (r.as.map V.ref)) ∨ H r.la = some (.tup (r.as.map V.ref))
  lt : Lots C H r.as r.ws r.W
theorem RowOk.ext {K : PySem.W.Frag} {C : Addr} {H H' : Hp} {r : Row} (h : RowOk K C H r) (e : Same H H') : RowOk K C H' r :=
  ⟨e _ _ h.he, h.hv.keep fun a xs z => e _ _ z, h.sv, h.dv, h.hl.imp (e _ _) (e _ _), h.lt.same e⟩
/-- all but a new object p is as it was -/
theorem RowOk.but {K : PySem.W.Frag} {C : Addr} {H H' : Hp} {r : Row} {p : Addr} {dx D : Addr} (h : RowOk K C H r) (hp : H p = some (.ins D dx [])) (e : ∀ b o, H b = some o → b ≠ p → H' b = some o) : RowOk K C H' r := by
  have nt : ∀ b xs, H b = some (.tup xs) → H' b = some (.tup xs) := fun b xs z => e _ _ z (fun q => by rw [q, hp] at z; cases z)
  have nl : ∀ b xs, H b = some (.lst xs) → H' b = some (.lst xs) := fun b xs z => e _ _ z (fun q => by rw [q, hp] at z; cases z)
  refine ⟨nt _ _ h.he, h.hv.keep nt, h.sv, h.dv, h.hl.imp (nl _ _) (nt _ _), h.lt.len, fun i a w h1 h2 => ?_, h.lt.pos, h.lt.big, h.lt.small, h.lt.few⟩
  obtain ⟨da, ea⟩ := h.lt.at_ i a w h1 h2
  refine ⟨da, e _ _ ea fun q => ?_⟩
  rw [q, hp] at ea
  injection ea with ea
  injection ea with _ _ e3
  have := rf_num (rn w r.W) (rd w r.W)
  rw [← e3] at this
  cases this
def rowBad (seen : List NestedKey) (r : Row) : Bool := seen.any (fun k => decide (k = r.key)) || !lotsB r.ws r.W
/-- the first one that is not valid -/
def badFrom (seen : List NestedKey) (n : Nat) : List Row → Option Nat
  | [] => none
  | r :: rs => if rowBad seen r = true then some n else badFrom (seen ++ [r.key]) (n + 1) rs
def EntOf (r : Row) (x : Ent) : Prop := x.key = r.key ∧ x.va = r.va ∧ x.lots = r.lots ∧ x.as = r.as
def plKv (n : Nat) : List Row → Kvs
  | [] => []
  | r :: rs => (r.key, r.va, .int (n : Int)) :: plKv (n + 1) rs
theorem plKv_len (n : Nat) : ∀ rs : List Row, (plKv n rs).length = rs.length
  | [] => rfl
  | r :: rs => by
    show (plKv (n + 1) rs).length + 1 = rs.length + 1
    rw [plKv_len (n + 1) rs]
theorem plKv_snoc (n : Nat) (r : Row) : ∀ rs : List Row, plKv n (rs ++ [r]) = plKv n rs ++ [(r.key, r.va, .int ((n + rs.length : Nat) : Int))]
  | [] => rfl
  | x :: rs => by
    show (x.key, x.va, V.int (n : Int)) :: plKv (n + 1) (rs ++ [r]) = (x.key, x.va, V.int (n : Int)) :: (plKv (n + 1) rs ++ _)
    rw [plKv_snoc (n + 1) r rs, show n + 1 + rs.length = n + (x :: rs).length by rw [List.length_cons]; omega]
theorem atK_any (k : NestedKey) : ∀ (n : Nat) (rs : List Row), (atK (plKv n rs) k).isSome = (rs.map (·.key)).any (fun x => decide (x = k))
  | _, [] => rfl
  | n, r :: rs => by
    have ih := atK_any k (n + 1) rs
    rw [List.map_cons, List.any_cons, ← ih]
    show (Option.map (·.2.2) (List.find? (fun p => decide (p.1 = k)) ((r.key, r.va, V.int (n : Int)) :: plKv (n + 1) rs))).isSome = _
    rw [List.find?_cons]
    by_cases e : r.key = k
    · simp [e]
    · simp [e, atK]
/-! ### the errors' own __init__, plans' -/
structure TxB (K : PySem.W.Frag) (mg : Str → Option Value) (LE BP fB : Addr) : Prop where
  mgL : mg "LossError" = some (.ref LE)
  mgB : mg "BadPlan" = some (.ref BP)
  bl : BaseC K LE
  ox : OexC K BP
  nB : PySem.W.findIn K (.ref BP) "at" = some none
  iB : PySem.W.findIn K (.ref BP) "__init__" = some (some (.ref fB))
  tB : PySem.W.typeIn K (.ref fB) = some (.type "function")
def ErrPl (BP : Addr) (E : XK) (p : Addr) (H : Hp) (i : Nat) : Prop := ∀ d H', (∀ b o, H b = some o → b ≠ p → H' b = some o) → H' d = some (.xd [(("at" : Str), .int (i : Int))]) → E (.ref BP) (some d) H'
/-- the places of its views -/
def PlacesAt (P : Program) (w : World) (CP : Addr) (H : Hp) (p : Addr) (rs : List Row) : Prop := ∃ dx fs d, H p = some (.ins CP dx fs) ∧ fs.lookup ("_places" : Str) = some (.ref d) ∧ KD P w H d (plKv 0 rs)
def spPlan (P : Program) (w : World) (K : PySem.W.Frag) (C CP BP : Addr) : Sp := fun vs H Q E => ∃ (p dx l : Addr) (rs : List Row), vs = [.ref p, .ref l] ∧ H p = some (.ins CP dx []) ∧ H l = some (.lst (rs.map fun r => V.ref r.e)) ∧ (∀ r ∈ rs, RowOk K C H r) ∧ rs.length ≤ 1000 ∧
  (∀ n, badFrom [] 0 rs = some n → ErrPl BP E p H n) ∧
  (badFrom [] 0 rs = none → ∀ (H' : Hp) (xs : List Ent), PlanAt K C CP H' p xs → Paired EntOf rs xs → PlacesAt P w CP H' p rs → (∀ b o, H b = some o → b ≠ p → H' b = some o) → Q .non H')
section
variable {P : Program} {w : World} {K : PySem.W.Frag} {mg : Str → Option Value} {base : Heap} {C BR CP LE BP fB : Addr}
theorem scBP : FnScope ["self", "at"] ["self", "at"] (defScope sBP) := ⟨rfl, rfl, rfl, by decide +kernel, rfl, by decide +kernel, by decide +kernel⟩
theorem ok_bp {fd : FuncData} (F : Fun K "__init__" "BadPlan.__init__" sBP fB fd) (T : TxB K mg LE BP fB) : FnOk P w K mg base CX0 1 fB fd ["self", "at"] (spErr BP "at") := by
  refine F.ok scBP (fun vs H Q E h => ?_) (fun cdv A outer s H vs Q E hr h => ?_)
  · obtain ⟨a, n, rfl, _⟩ := h
    rfl
  · obtain ⟨a, n, rfl, ha, hn, k⟩ := h
    refine ⟨_, pss_cons (ps_expr (pe_binit T.bl rfl T.mgL (pa_cons (pv 0) (pa_cons (pe_joined (.cons pe_str (.cons (pe_fmt (pv 1)) (.cons pe_str .nil)))) pa_nil))))
      (pss_one (ps_ost (pv 0) (pv 1))), ?_⟩
    have hb : n.natAbs.log2 < 64 := PySem.Flt.log2_lt_of (by decide) hn
    have hz : (Str.ofString (toString n)).length ≤ 65 := by
      have := PySem.int_text_length_le (a := n) (k := 64) (by decide) hb
      rw [PySem.ofString_length]
      exact this
    have l1 : Str.length ("entry " : Str) ≤ 40 := by decide +kernel
    have l2 : Str.length (" makes no plan" : Str) ≤ 40 := by decide +kernel
    refine ⟨_, rfl, _, rfl, ?_, _, rfl, .inr ⟨n, rfl, Nat.lt_trans hb (by decide), _, rfl, ?_, _, rfl, ?_, ?_⟩⟩
    · rw [Str.empty_append]
      exact Nat.le_trans l1 (by decide)
    · rw [Str.empty_append, Str.length_append]
      exact Nat.le_trans (Nat.add_le_add l1 hz) (by decide)
    · rw [Str.empty_append, Str.length_append, Str.length_append]
      exact Nat.le_trans (Nat.add_le_add (Nat.add_le_add l1 hz) l2) (by decide)
    · exact ⟨a, BP, _, rfl, (by show 1 ≤ 1000; decide), T.ox, ha, _, rfl, _, rfl, a, BP, rfl, T.ox, T.nB, .inl ⟨ha, fun dx n1 n2 => k dx n1 n2⟩⟩
theorem scPI : FnScope ["self", "entries", "view", "lots"] ["self", "entries"] (defScope sPI) := ⟨rfl, rfl, rfl, by decide +kernel, rfl, by decide +kernel, by decide +kernel⟩
end
end K0

set_option Elab.async false
set_option linter.all false
set_option maxRecDepth 100000
set_option maxHeartbeats 4000000
namespace K0
open PySem PySem.Spec PyProof.Rows L2 Ke Kx Kd Kh
theorem paired_snoc2 {α β : Type} {R : α → β → Prop} {xs : List α} {ys : List β} {x : α} {y : β} (r : Paired R xs ys) (h : R x y) : Paired R (xs ++ [x]) (ys ++ [y]) := by
  induction r with
  | nil => exact .cons h .nil
  | cons a _ ih => exact .cons a ih
theorem EntOk.keep {K : PySem.W.Frag} {C : Addr} {H H' : Hp} {x : Ent} (h : EntOk K C H x) (nt : ∀ b xs, H b = some (.tup xs) → H' b = some (.tup xs)) (ni : ∀ b D dx fs, H b = some (.ins D dx fs) → H' b = some (.ins D dx fs)) : EntOk K C H' x :=
  ⟨nt _ _ h.he, h.hv.keep nt, h.sv, h.dv, nt _ _ h.hl, h.len, fun i a q h1 h2 => by
    obtain ⟨da, ea⟩ := h.rat i a q h1 h2
    exact ⟨da, ni _ _ _ _ ea⟩⟩
theorem lots_get {C : Addr} {H : Hp} {r : Row} (L : Lots C H r.as r.ws r.W) : r.as.length = r.lots.length ∧ ∀ (i : Nat) (a : Addr) (q : Int × Int), r.as[i]? = some a → r.lots[i]? = some q → RatAt C H a q.1 q.2 := by
  refine ⟨by rw [L.len]; exact (List.length_map ..).symm, fun i a q h1 h2 => ?_⟩
  unfold Row.lots at h2
  obtain ⟨w, hw, rfl⟩ := Option.map_eq_some_iff.mp ((List.getElem?_map ..).symm.trans h2)
  exact L.at_ i a w h1 hw
section
variable {P : Program} {w : World} {K : PySem.W.Frag} {mg : Str → Option Value} {base : Heap} {C BR CP LE BP fB : Addr}
theorem ok_pinit {f fL : Addr} {fd fdL fdB : FuncData} (F : Fun K "__init__" "Plan.__init__" sPI f fd) (T : TxP K mg CP) (TB : TxB K mg LE BP fB) (GB : FnOk P w K mg base CX0 1 fB fdB ["self", "at"] (spErr BP "at")) (bB : L2.Binds K fdB ["self", "at"] [])
    (GL : FnOk P w K mg base CX0 4 fL fdL ["ratios"] (spLots K C)) (gL : mg "are_lots" = some (.ref fL)) (kL : PySem.W.keepIn K (.ref fL) = true) (bL : L2.Binds K fdL ["ratios"] []) :
    FnOk P w K mg base (L2N.CX P w) 5 f fd ["self", "entries"] (spPlan P w K C CP BP) := by
  refine Kh.Fun.okN F scPI (fun vs H Q E h => ?_) (fun cdv A outer s H vs Q E hr h => ?_)
  · obtain ⟨p, dx, l, rs, rfl, _⟩ := h
    rfl
  · obtain ⟨p, dx, l, rs, rfl, hp, hl, hrs, hz, hE, hQ⟩ := h
    have hr1 : Room 2 _ := hr.mono (by decide)
    have hr4 : Room 4 _ := hr.mono (by decide)
    have hu64 : (A.deeper (envOfC "Plan.__init__" (defScope sPI) s.heap.objs.size f cdv)).units + 64 < cLine := by have := hr.un; omega
    refine ⟨_, pss_cons (ps_fld (pv 0) (pe_lst pa_nil) rfl)
      (pss_cons (ps_fld (pv 0) pe_dnewX rfl)
      (pss_one (ps_for (passes_of rfl) rfl (pi_list (pv 1)) (pg_tup (by rfl) (pgs_cons (pg_name (i := 2) scPI.nd rfl (Or.inl rfl)) (pgs_cons (pg_name (i := 3) scPI.nd rfl (Or.inl rfl)) pgs_nil)))
        (pss_cons (ps_if (PW.pt (pw_or (pt_cmpR (op_inK hu64) (pv 2) (pe_fld (pv 0) rfl) rfl) (pw_or1 (pt_not (pt_val (pe_call GL hr4 (by rfl) gL kL bL .nil pass0 (pa_cons (pv 3) pa_nil)))))))
          (pss_one (L2N.ps_raise rfl (L2N.takes_of rfl rfl rfl rfl) (pmk_oexN TB.ox TB.iB TB.tB GB hr1 bB pass0 rfl TB.mgB (pa_cons (pe_callB call_len_seq (by rfl) T.len PySem.boot_len (pa_cons (pe_fld (pv 0) rfl) pa_nil)) pa_nil)))) pss_nil)
        (pss_cons (ps_asg (pe_callB call_len_seq (by rfl) T.len PySem.boot_len (pa_cons (pe_fld (pv 0) rfl) pa_nil)) (pg_sub (pe_fld (pv 0) rfl) (pv 2) (set_K hu64)))
        (pss_one (ps_expr (pe_bm PySem.F.plainAttrs_list PySem.F.slot_list_append PySem.F.type_list_append mt_append (pe_fld (pv 0) rfl) (pa_cons (pe_tup (pa_cons (pv 2) (pa_cons (pe_callTy call_tuple_of (by rfl) T.tuple (by decide +kernel) (pa_cons (pv 3) pa_nil)) pa_nil))) pa_nil))))))))), ?_⟩
    refine ⟨Nat.zero_le _, fun m hm => ?_⟩
    have n1 : p ≠ m := ne_of_none hp hm
    refine ⟨_, rfl, p, CP, dx, [], rfl, by rw [upd_ne n1]; exact hp, T.cl, T.nE, (by show 0 < 1000; decide), ?_⟩
    intro d hd hds
    have n2 : p ≠ d := fun e => by
      rw [← e, upd_same] at hd
      cases hd
    have n3 : m ≠ d := fun e => by
      rw [← e, upd_ne n1.symm, upd_same] at hd
      cases hd
    have hd0 : H d = none := by
      rw [upd_ne n2.symm, upd_ne n3.symm] at hd
      exact hd
    refine ⟨_, rfl, p, CP, dx, _, rfl, by rw [upd_ne n2]; exact upd_same, T.cl, T.nP, (by show 1 < 1000; decide), ?_⟩
    have nlp : l ≠ p := ne_of hl hp (by intro z; cases z)
    have nlm : l ≠ m := ne_of_none hl hm
    have nld : l ≠ d := ne_of_none hl hd0
    let Pv : Nat → L2.St → Hp → Prop := fun i σ H' => (∃ v2 v3, σ = [some (.ref p), some (.ref l), v2, v3]) ∧ (∃ xs : List Ent, H' m = some (.lst (xs.map fun x => V.ref x.e)) ∧ Paired EntOf (rs.take i) xs ∧ ∀ x ∈ xs, EntOk K C H' x) ∧ H' p = some (.ins CP dx (pf m d)) ∧ KD P w H' d (plKv 0 (rs.take i)) ∧
      (∀ b o, H b = some o → b ≠ p → H' b = some o) ∧ badFrom [] 0 rs = badFrom ((rs.take i).map (·.key)) i (rs.drop i)
    refine ⟨_, rfl, l, rfl, ⟨rs.map fun r => V.ref r.e, SqL.of ?_⟩, for_list (xs := rs.map fun r => V.ref r.e) Pv ⟨⟨_, _, rfl⟩, ⟨[], ?_, .nil, fun x hx => nomatch hx⟩, upd_same, KD.new ?_ hds, ?_, rfl⟩ (fun i σ H2 _ h => SqL.of (h.2.2.2.2.1 l _ hl nlp)) ?_ ?_⟩
    · rw [upd_ne nlp, upd_ne nld, upd_ne nlp, upd_ne nlm]
      exact hl
    · rw [upd_ne n1.symm, upd_ne n3, upd_ne n1.symm, upd_same]
      rfl
    · rw [upd_ne n2.symm, upd_same]
    · intro b o e hb
      rw [upd_ne hb, upd_ne (ne_of_none e hd0), upd_ne hb, upd_ne (ne_of_none e hm)]
      exact e
    · rintro i x σ H2 hx ⟨⟨v2, v3, rfl⟩, ⟨xs, hm2, pr, oks⟩, hp2, kd, kp, bad⟩
      rw [List.getElem?_map] at hx
      obtain ⟨r, hr0, rfl⟩ := Option.map_eq_some_iff.mp hx
      have hil : i < rs.length := (List.getElem?_eq_some_iff.mp hr0).1
      have hri : rs[i] = r := (List.getElem?_eq_some_iff.mp hr0).2
      have hdrop : rs.drop i = r :: rs.drop (i + 1) := by rw [List.drop_eq_getElem_cons hil, hri]
      have htake : rs.take (i + 1) = rs.take i ++ [r] := by rw [List.take_succ_eq_append_getElem hil, hri]
      have R0 := hrs r (List.mem_of_getElem? hr0)
      have nt : ∀ b ys, H b = some (.tup ys) → H2 b = some (.tup ys) := fun b ys z => kp _ _ z (fun q => by rw [q, hp] at z; cases z)
      have nl : ∀ b ys, H b = some (.lst ys) → H2 b = some (.lst ys) := fun b ys z => kp _ _ z (fun q => by rw [q, hp] at z; cases z)
      have R2 := R0.but hp kp
      refine ⟨r.e, _, rfl, SqT.of (nt _ _ R0.he), rfl, ?_⟩
      refine ⟨_, _, rfl, _, _, rfl, rfl, _, rfl, _, rfl, p, CP, dx, _, _, rfl, hp2, T.cl, T.nP, pf_p _ _, r.va, d, r.key, _, rfl, rfl, kd, R2.hv, R0.dv, _, rfl, ?_⟩
      rw [atK_any]
      have eb : rowBad ((rs.take i).map (·.key)) r = (((rs.take i).map (·.key)).any (fun x => decide (x = r.key)) || !lotsB r.ws r.W) := rfl
      have hlen : (xs.map fun x => V.ref x.e).length = i := by
        rw [List.length_map, ← pr.length, List.length_take]
        omega
      cases hin : ((rs.take i).map (·.key)).any (fun x => decide (x = r.key)) with
      | true =>
        have hbad : badFrom [] 0 rs = some i := by
          rw [bad, hdrop]
          show (if rowBad _ r = true then some i else _) = some i
          rw [eb, hin, Bool.true_or, if_pos rfl]
        refine iteT (iteT ?_)
        refine ⟨_, rfl, p, CP, dx, _, _, rfl,  hp2, T.cl, T.nE, pf_e _ _, m, _, rfl, .inl (SqL.of hm2), (by show 1 ≤ 1000; decide), fun a na => ?_⟩
        refine ⟨a, _, rfl, upd_same, by rw [hlen]; omega, fun d2 nd ne => ⟨rfl, d2, _, upd_same, by rw [upd_ne ne]; exact upd_same, ?_, ?_⟩⟩
        · rw [upd_ne ne] at nd
          exact nd
        · have nd' : H2 d2 = none := by
            rw [upd_ne ne] at nd
            exact nd
          rw [hlen]
          refine hE i hbad d2 _ (fun b o q hb => ?_) upd_same
          have q := kp b o q hb
          have q1 : b ≠ d2 := ne_of_none q nd'
          have q2 : b ≠ a := ne_of_none q na
          rw [upd_ne q1, del_ne q2, upd_ne q2, upd_ne q1, upd_ne q2]
          exact q
      | false =>
        refine iteF ⟨_, rfl, r.la, r.as, r.ws, r.W, rfl, R2.hl.imp SqL.of SqT.of, R2.lt, fun H3 s3 => ?_⟩
        refine ⟨_, rfl, ?_⟩
        cases hb2 : lotsB r.ws r.W with
        | false =>
          have hbad : badFrom [] 0 rs = some i := by
            rw [bad, hdrop]
            show (if rowBad _ r = true then some i else _) = some i
            rw [eb, hin, hb2]
            rfl
          refine iteT ?_
          refine ⟨_, rfl, p, CP, dx, _, _, rfl, s3 _ _ hp2, T.cl, T.nE, pf_e _ _, m, _, rfl, .inl (SqL.of (s3 _ _ hm2)), (by show 1 ≤ 1000; decide), fun a na => ?_⟩
          refine ⟨a, _, rfl, upd_same, by rw [hlen]; omega, fun d2 nd ne => ⟨rfl, d2, _, upd_same, by rw [upd_ne ne]; exact upd_same, ?_, ?_⟩⟩
          · rw [upd_ne ne] at nd
            exact nd
          · have nd' : H3 d2 = none := by
              rw [upd_ne ne] at nd
              exact nd
            rw [hlen]
            refine hE i hbad d2 _ (fun b o q hb => ?_) upd_same
            have q := s3 _ _ (kp b o q hb)
            have q1 : b ≠ d2 := ne_of_none q nd'
            have q2 : b ≠ a := ne_of_none q na
            rw [upd_ne q1, del_ne q2, upd_ne q2, upd_ne q1, upd_ne q2]
            exact q
        | true =>
          refine iteF ?_
          have R3 := R2.ext s3
          have hm3 := s3 _ _ hm2
          have hp3 := s3 _ _ hp2
          have kd3 := kd.same s3
          refine ⟨_, rfl, p, CP, dx, _, _, rfl, hp3, T.cl, T.nE, pf_e _ _, m, _, rfl, .inl (SqL.of hm3), ?_⟩
          refine ⟨_, rfl, p, CP, dx, _, _, rfl, hp3, T.cl, T.nP, pf_p _ _, _, rfl, r.va, d, r.key, _, rfl, rfl, kd3, R3.hv, R0.dv, by rw [plKv_len, List.length_take]; omega, fun H4 kd4 e4 => ?_⟩
          have hput : putKv (plKv 0 (rs.take i)) r.key r.va (V.int ((xs.map fun x => V.ref x.e).length : Int)) = plKv 0 (rs.take (i + 1)) := by
            unfold putKv
            rw [atK_any, hin, if_neg Bool.false_ne_true, htake, plKv_snoc, hlen, List.length_take, Nat.zero_add, Nat.min_eq_left (Nat.le_of_lt hil)]
          rw [hput] at kd4
          have nm4 : H4 m = H3 m := e4 m n3
          have hm4 : H4 m = some (.lst (xs.map fun x => V.ref x.e)) := by rw [nm4, hm3]
          have hp4 : H4 p = some (.ins CP dx (pf m d)) := by rw [e4 p n2, hp3]
          obtain ⟨es, ep, xq, kq⟩ := id kd3.ok
          have nt4 : ∀ b ys, H3 b = some (.tup ys) → H4 b = some (.tup ys) := fun b ys z => by
            rw [e4 b (fun q => by rw [q, kq.at_] at z; cases z)]
            exact z
          have nl4 : ∀ b ys, H3 b = some (.lst ys) → H4 b = some (.lst ys) := fun b ys z => by
            rw [e4 b (fun q => by rw [q, kq.at_] at z; cases z)]
            exact z
          have ni4 : ∀ b D dy fs, H3 b = some (.ins D dy fs) → H4 b = some (.ins D dy fs) := fun b D dy fs z => by
            rw [e4 b (fun q => by rw [q, kq.at_] at z; cases z)]
            exact z
          have fin : ∀ (la : Addr) (H5 : Hp) (e2 : Addr), Same H4 H5 → H5 la = some (.tup (r.as.map V.ref)) → H5 e2 = none → Pv (i + 1) [some (.ref p), some (.ref l), some (.ref r.va), some (.ref r.la)] (upd (upd H5 e2 (.tup [.ref r.va, .ref la])) m (.lst ((xs.map fun x => V.ref x.e) ++ [.ref e2]))) := by
            intro la H5 e2 s5 hla he2
            have hm5 := s5 _ _ hm4
            have hp5 := s5 _ _ hp4
            have s6 : Same H4 (upd H5 e2 (.tup [.ref r.va, .ref la])) := s5.trans (same_upd he2)
            have hm6 := s6 _ _ hm4
            have n6 : ∀ b o, H4 b = some o → b ≠ m → upd (upd H5 e2 (.tup [.ref r.va, .ref la])) m (.lst ((xs.map fun x => V.ref x.e) ++ [.ref e2])) b = some o := fun b o z hb => by
              rw [upd_ne hb]
              exact s6 _ _ z
            have nt6 : ∀ b ys, H4 b = some (.tup ys) → upd (upd H5 e2 (.tup [.ref r.va, .ref la])) m (.lst ((xs.map fun x => V.ref x.e) ++ [.ref e2])) b = some (.tup ys) := fun b ys z => n6 b _ z (fun q => by rw [q, hm4] at z; cases z)
            have ni6 : ∀ b D dy fs, H4 b = some (.ins D dy fs) → upd (upd H5 e2 (.tup [.ref r.va, .ref la])) m (.lst ((xs.map fun x => V.ref x.e) ++ [.ref e2])) b = some (.ins D dy fs) := fun b D dy fs z => n6 b _ z (fun q => by rw [q, hm4] at z; cases z)
            have ne2 : e2 ≠ m := (ne_of_none hm5 he2).symm
            refine ⟨⟨_, _, rfl⟩, ⟨xs ++ [⟨e2, r.va, la, r.key, r.as, r.lots⟩], ?_, ?_, ?_⟩, ni6 _ _ _ _ hp4, ?_, ?_, ?_⟩
            · rw [List.map_append]
              exact upd_same
            · rw [htake]
              exact paired_snoc2 pr ⟨rfl, rfl, rfl, rfl⟩
            · intro x hx
              rcases List.mem_append.mp hx with hx | hx
              · exact (oks x hx).keep (fun b ys z => nt6 _ _ (nt4 _ _ (s3 _ _ z))) (fun b D dy fs z => ni6 _ _ _ _ (ni4 _ _ _ _ (s3 _ _ z)))
              · rw [List.mem_singleton.mp hx]
                obtain ⟨g1, g2⟩ := lots_get R3.lt
                refine ⟨by rw [upd_ne ne2]; exact upd_same, R3.hv.keep fun b ys z => nt6 _ _ (nt4 _ _ z), R0.sv, R0.dv, ?_, g1, fun j a q h1 h2 => ?_⟩
                · show upd (upd H5 e2 _) m _ la = _
                  rw [upd_ne (fun q => by rw [q, hm5] at hla; cases hla), upd_ne (ne_of_none hla he2)]
                  exact hla
                · obtain ⟨da, ea⟩ := g2 j a q h1 h2
                  exact ⟨da, ni6 _ _ _ _ (ni4 _ _ _ _ ea)⟩
            · refine (kd4.same s6).keep (fun b ys z => ?_) (upd_ne n3.symm)
              rw [upd_ne (fun q => by rw [q, hm6] at z; cases z)]
              exact z
            · intro b o z hb
              have z2 := s3 _ _ (kp b o z hb)
              have nbd : b ≠ d := ne_of_none z hd0
              have nbm : b ≠ m := ne_of_none z hm
              exact n6 b o (by rw [e4 b nbd]; exact z2) nbm
            · rw [bad, hdrop, htake, List.map_append]
              show (if rowBad _ r = true then _ else _) = _
              rw [eb, hin, hb2]
              rfl
          refine ⟨_, rfl, p, CP, dx, _, _, rfl, hp4, T.cl, T.nE, pf_e _ _, .inl ⟨rfl, _, SqL.of hm4⟩, _, rfl, _, rfl, r.la, r.as.map V.ref, rfl, ?_⟩
          rcases R3.hl with hl3 | hl3
          · refine .inl ⟨SqL.of (nl4 _ _ hl3), fun t ht => ?_⟩
            have hm5 : upd H4 t (.tup (r.as.map V.ref)) m = some (.lst (xs.map fun x => V.ref x.e)) := by
              rw [upd_ne (ne_of_none hm4 ht)]
              exact hm4
            refine ⟨by show 2 ≤ sizeLine; decide, fun e2 he2 => ?_⟩
            have hm6 : upd (upd H4 t (.tup (r.as.map V.ref))) e2 (.tup [.ref r.va, .ref t]) m = some (.lst (xs.map fun x => V.ref x.e)) := by
              rw [upd_ne (ne_of_none hm5 he2)]
              exact hm5
            refine ⟨m, _, _, rfl, rfl, hm6, by rw [hlen]; exact Nat.lt_of_le_of_lt (Nat.le_of_lt hil) (Nat.lt_of_le_of_lt hz (by decide)), ?_⟩
            exact fin t (upd H4 t (.tup (r.as.map V.ref))) e2 (same_upd ht) upd_same he2
          · refine .inr ⟨SqT.of (nt4 _ _ hl3), ?_⟩
            refine ⟨by show 2 ≤ sizeLine; decide, fun e2 he2 => ?_⟩
            have hm6 : upd H4 e2 (.tup [.ref r.va, .ref r.la]) m = some (.lst (xs.map fun x => V.ref x.e)) := by
              rw [upd_ne (ne_of_none hm4 he2)]
              exact hm4
            refine ⟨m, _, _, rfl, rfl, hm6, by rw [hlen]; exact Nat.lt_of_le_of_lt (Nat.le_of_lt hil) (Nat.lt_of_le_of_lt hz (by decide)), ?_⟩
            exact fin r.la H4 e2 (Same.refl _) (nt4 _ _ hl3) he2
    · rintro σ H2 ⟨⟨v2, v3, rfl⟩, ⟨xs, hm2, pr, oks⟩, hp2, kd, kp, bad⟩
      rw [List.length_map, List.take_length] at pr
      rw [List.length_map, List.take_length] at kd
      rw [List.length_map, List.drop_length] at bad
      refine hQ bad H2 xs ⟨⟨dx, m, d, hp2, hm2⟩, oks⟩ pr ⟨dx, _, d, hp2, pf_p _ _, kd⟩ kp
end
end K0

set_option Elab.async false
set_option linter.all false
set_option maxRecDepth 100000
set_option maxHeartbeats 4000000
/-! Lines of plans: what words are made of. -/
namespace K0
open PySem PySem.Spec PyProof.Rows L2 Kx Kh Kd
abbrev sIM : Stmt := top 16
abbrev sBeg : Stmt := top 17
abbrev sILN : Stmt := top 18
abbrev sFr : Stmt := top 19
abbrev sPt : Stmt := top 20
abbrev sPLs : Stmt := top 26
abbrev sEL : Stmt := top 27
abbrev sRP : Stmt := top 28
abbrev sRE : Stmt := top 29
abbrev sVO : Stmt := top 30
abbrev sPool : Stmt := top 32
abbrev sDraw : Stmt := top 33
abbrev sSame : Stmt := top 34
abbrev sEv : Stmt := top 35
abbrev sRed : Stmt := top 36
abbrev sEnts : Stmt := top 37
abbrev sTx : Stmt := top 38
abbrev sLn : Stmt := top 39
abbrev sLaw : Stmt := top 47
def DIG : Str := "0123456789"
def madeB (w signs : Str) : Bool := (w.cps.toList.map fun c => decide (c ∈ signs.cps.toList)).all id
def begB (x : Str) : Bool := (x == ("0" : Str)) || !decide (x.cps.toList.head? = some 48)
def partB (w : Str) : Bool := (decide (1 ≤ w.length) && decide (w.length ≤ 60)) && madeB w DIG
def longB (w : Str) : Bool := partB w && begB w
/-- what the words' module holds -/
structure TxW (mg : Str → Option Value) : Prop where
  dig : ∃ t, mg "DIGITS" = some (.str DIG t)
  lp : ∃ t, mg "LONGEST_PART" = some (.int 60 t)
  all : mg "all" = none
  len : mg "len" = none
  int : mg "int" = none
  str : mg "str" = none
theorem small1000' {n : Nat} (h : n ≤ 1000) : n < sizeLine := Nat.lt_of_le_of_lt h (by decide)
theorem decS {a b : Str} : decide (V.str a = V.str b) = (a == b) := by
  by_cases h : a = b
  · subst h
    rw [decide_eq_true rfl, beq_self_eq_true]
  · rw [decide_eq_false (fun e => h (V.str.inj e)), Bool.eq_iff_iff]
    simp [h]
theorem dig_mem {c : Nat} (h : c ∈ DIG.cps.toList) : 48 ≤ c ∧ c ≤ 57 := by
  have e : DIG.cps.toList = [48, 49, 50, 51, 52, 53, 54, 55, 56, 57] := by decide +kernel
  rw [e] at h
  simp only [List.mem_cons, List.not_mem_nil, or_false] at h
  omega
theorem mem_dig {c : Nat} (h : 48 ≤ c ∧ c ≤ 57) : c ∈ DIG.cps.toList := by
  have e : DIG.cps.toList = [48, 49, 50, 51, 52, 53, 54, 55, 56, 57] := by decide +kernel
  rw [e]
  simp only [List.mem_cons, List.not_mem_nil, or_false]
  omega
theorem made_all {x z : Str} (h : madeB x z = true) : ∀ c ∈ x.cps.toList, c ∈ z.cps.toList := fun c hc => by
  unfold madeB at h
  have := List.all_eq_true.mp h (decide (c ∈ z.cps.toList)) (List.mem_map.mpr ⟨c, hc, rfl⟩)
  exact of_decide_eq_true this
theorem all_made {x z : Str} (h : ∀ c ∈ x.cps.toList, c ∈ z.cps.toList) : madeB x z = true := by
  unfold madeB
  refine List.all_eq_true.mpr fun b hb => ?_
  obtain ⟨c, hc, rfl⟩ := List.mem_map.mp hb
  exact decide_eq_true (h c hc)
theorem len_list (x : Str) : x.length = x.cps.toList.length := by
  rw [Array.length_toList]
  rfl
def val (w : Str) : Int := ((PySem.NumText.digitsVal w.cps.toList : Nat) : Int)
theorem int_of {x : Str} (h : partB x = true) : PySem.intText? x = some (val x) ∧ x.length ≤ 60 := by
  unfold partB at h
  obtain ⟨h1, h2⟩ := Bool.and_eq_true_iff.mp h
  obtain ⟨h3, h4⟩ := Bool.and_eq_true_iff.mp h1
  have l1 := of_decide_eq_true h3
  have l2 := of_decide_eq_true h4
  refine ⟨PySem.intText_digits (fun c hc => dig_mem (made_all h2 c hc)) (fun e => ?_) (Nat.le_trans l2 (by decide)), l2⟩
  rw [len_list, e] at l1
  simp at l1
def spIM : Sp := fun vs H Q _ => ∃ (w z : Str), vs = [.str w, .str z] ∧ w.length ≤ 1000 ∧ ∀ H', Same H H' → Q (.bl (madeB w z)) H'
def spB (f : Str → Bool) (n : Nat) : Sp := fun vs H Q _ => ∃ (w : Str), vs = [.str w] ∧ w.length ≤ n ∧ ∀ H', Same H H' → Q (.bl (f w)) H'
def spBeg : Sp := fun vs H Q _ => ∃ (w : Str), vs = [.str w] ∧ 1 ≤ w.length ∧ w.length ≤ sizeLine ∧ ∀ H', Same H H' → Q (.bl (begB w)) H'
section
variable {P : Program} {w : World} {K : PySem.W.Frag} {mg : Str → Option Value} {base : Heap}
theorem scIM : FnScope ["word", "signs", "sign"] ["word", "signs"] (defScope sIM) := ⟨rfl, rfl, rfl, by decide +kernel, rfl, by decide +kernel, by decide +kernel⟩
theorem ok_im {f : Addr} {fd : FuncData} (F : Fun K "is_made_of" "is_made_of" sIM f fd) (T : TxW mg) : FnOk P w K mg base CX0 1 f fd ["word", "signs"] spIM := by
  refine F.ok scIM (fun vs H Q E h => ?_) (fun cdv A outer s H vs Q E hr h => ?_)
  · obtain ⟨x, z, rfl, _⟩ := h
    rfl
  · obtain ⟨x, z, rfl, hx, k⟩ := h
    refine ⟨_, pss_one (ps_ret (pe_callB (cr_all rfl) (by rfl) T.all (by decide +kernel) (pa_cons (pe_lc (own := [("sign", 2)]) (g := gName 2) (tt := tYes) rfl scIM.nd (pi_str (pv 0)) (blkOk_by (N := ["word", "signs", "sign"]) (sc := defScope sIM) (by decide +kernel))
      (fun _ _ _ _ _ => pg_name (i := 2) scIM.nd rfl (Or.inl rfl)) (fun _ _ _ _ _ => pts_nil) (fun _ _ _ _ _ => pe_cmpR op_in_sign (pv 2) (pv 1) rfl)) pa_nil))), ?_⟩
    refine ⟨_, rfl, x, rfl, fun D hD => ?_⟩
    have hlen : x.cps.toList.length = x.cps.size := by simp
    have hsz : x.cps.size ≤ 1000 := hx
    refine ⟨fun i m H' => i + m = x.cps.size ∧ H' = upd H D (.lst (((x.cps.toList.take i).map fun c => decide (c ∈ z.cps.toList)).map V.bl)), ⟨x.cps.size, by omega, rfl⟩, fun i m H' hW => ?_⟩
    obtain ⟨em, rfl⟩ := hW
    by_cases hi : i < x.cps.size
    · refine .inr ⟨hi, fun H2 => H2 = upd H D (.lst (((x.cps.toList.take (i + 1)).map fun c => decide (c ∈ z.cps.toList)).map V.bl)), fun H2 e => ⟨m - 1, by omega, by omega, e⟩, fun v H2 hy => ?_⟩
      obtain ⟨rfl, c, hc, rfl⟩ := hy
      refine ⟨rfl, tYesI ?_⟩
      refine ⟨_, rfl, _, rfl, c, z, rfl, rfl, _, upd_same, ?_, ?_⟩
      · rw [List.length_map, List.length_map, List.length_take]
        exact Nat.lt_of_le_of_lt (Nat.min_le_left _ _) (small1000' (by omega))
      · have g : x.cps.toList[i]? = some c := by
          rw [← Array.getElem?_toList] at hc
          exact hc
        rw [List.take_add_one, g]
        simp only [Option.toList_some, List.map_append, List.map_cons, List.map_nil]
        funext b
        by_cases hb : b = D
        · rw [hb, upd_same, upd_same]
        · rw [upd_ne hb, upd_ne hb, upd_ne hb]
    · have ei : i = x.cps.size := by omega
      refine .inl ⟨by show x.cps.size ≤ i; omega, ?_⟩
      rw [ei, ← hlen, List.take_length]
      exact ⟨D, _, rfl, SqL.of upd_same, k _ (same_upd hD)⟩
theorem scBeg : FnScope ["word"] ["word"] (defScope sBeg) := ⟨rfl, rfl, rfl, by decide +kernel, rfl, by decide +kernel, by decide +kernel⟩
theorem ok_beg {f : Addr} {fd : FuncData} (F : Fun K "begins_rightly" "begins_rightly" sBeg f fd) : FnOk P w K mg base CX0 1 f fd ["word"] spBeg := by
  refine F.ok scBeg (fun vs H Q E h => ?_) (fun cdv A outer s H vs Q E hr h => ?_)
  · obtain ⟨x, rfl, _⟩ := h
    rfl
  · obtain ⟨x, rfl, l1, hx, k⟩ := h
    refine ⟨_, pss_one (ps_ret (pe_or (pe_cmpR op_eq (pv 0) pe_str (nomark _)) (pe_one (pe_cmpR op_ne (pe_ix ix_str (pv 0) pe_int (fun _ _ => rfl)) pe_str (nomark _))))), ?_⟩
    have kk := k H (Same.refl H)
    unfold begB at kk
    refine ⟨_, rfl, rfl, _, rfl, ?_⟩
    rw [decS]
    cases h4 : (x == ("0" : Str)) with
    | true =>
      rw [h4] at kk
      exact iteT kk
    | false =>
      refine iteF ?_
      obtain ⟨c, r, hc⟩ : ∃ c r, x.cps.toList = c :: r := by
        cases e : x.cps.toList with
        | nil =>
          rw [len_list, e] at l1
          simp at l1
        | cons c r => exact ⟨c, r, rfl⟩
      refine ⟨_, rfl, x, 0, c, rfl, rfl, hx, by rw [hc]; exact atI_nat (j := 0) rfl, rfl, ?_⟩
      have e5 : (!decide (V.str (⟨#[c]⟩ : Str) = V.str ("0" : Str))) = !decide (x.cps.toList.head? = some 48) := by
        congr 1
        refine decide_eq_decide.mpr ?_
        rw [hc, show ("0" : Str) = ⟨#[48]⟩ by decide +kernel]
        simp
      rw [h4] at kk
      rw [e5]
      exact kk
theorem scPt : FnScope ["word"] ["word"] (defScope sPt) := ⟨rfl, rfl, rfl, by decide +kernel, rfl, by decide +kernel, by decide +kernel⟩
theorem ok_part {f fM : Addr} {fd fdM : FuncData} (F : Fun K "is_part" "is_part" sPt f fd) (T : TxW mg) (G : FnOk P w K mg base CX0 1 fM fdM ["word", "signs"] spIM) (gM : mg "is_made_of" = some (.ref fM)) (kM : PySem.W.keepIn K (.ref fM) = true) (bM : L2.Binds K fdM ["word", "signs"] []) :
    FnOk P w K mg base CX0 2 f fd ["word"] (spB partB sizeLine) := by
  refine F.ok scPt (fun vs H Q E h => ?_) (fun cdv A outer s H vs Q E hr h => ?_)
  · obtain ⟨x, rfl, _⟩ := h
    rfl
  · obtain ⟨x, rfl, hx, k⟩ := h
    obtain ⟨tl, hl⟩ := T.dig
    obtain ⟨tn, hn⟩ := T.lp
    refine ⟨_, pss_one (ps_ret (pe_and (pe_chain op_le op_le pe_int (pe_callB call_len_str (by rfl) T.len PySem.boot_len (pa_cons (pv 0) pa_nil)) (pe_glob (v := .int 60) rfl hn ⟨_, rfl⟩))
      (pe_one (pe_call G hr (by rfl) gM kM bM .nil pass0 (pa_cons (pv 0) (pa_cons (pe_glob (v := .str DIG) rfl hl ⟨_, rfl⟩) pa_nil)))))), ?_⟩
    have hf : ∀ b, partB x = b → Q (.bl b) H := fun b e => e ▸ k H (Same.refl H)
    refine ⟨_, rfl, x, rfl, hx, _, _, rfl, rfl, _, rfl, ite2 (fun h1 => ?_) (fun h1 => ?_)⟩
    · have l1 : 1 ≤ x.length := by
        have := of_decide_eq_true h1
        omega
      refine ⟨_, _, rfl, rfl, _, rfl, ite2 (fun h2 => ?_) (fun h2 => ?_)⟩
      · have l2 : x.length ≤ 60 := by
          have := of_decide_eq_true h2
          omega
        refine ⟨_, rfl, x, DIG, rfl, by omega, fun H1 s1 => ?_⟩
        have e : partB x = madeB x DIG := by
          unfold partB
          rw [decide_eq_true l1, decide_eq_true l2]
          rfl
        rw [← e]
        exact k H1 s1
      · have e : partB x = false := by
          unfold partB
          rw [show decide (x.length ≤ 60) = false from decide_eq_false fun q => h2 (decide_eq_true (by omega)), Bool.and_false, Bool.false_and]
        exact hf _ e
    · have e : partB x = false := by
        unfold partB
        rw [show decide (1 ≤ x.length) = false from decide_eq_false fun q => h1 (decide_eq_true (by omega)), Bool.false_and, Bool.false_and]
      exact ⟨_, rfl, iteF (hf _ e)⟩
theorem scLN : FnScope ["word"] ["word"] (defScope sILN) := ⟨rfl, rfl, rfl, by decide +kernel, rfl, by decide +kernel, by decide +kernel⟩
theorem ok_long {f fP fB : Addr} {fd fdP fdB : FuncData} (F : Fun K "is_long_number" "is_long_number" sILN f fd) (G : FnOk P w K mg base CX0 2 fP fdP ["word"] (spB partB sizeLine)) (gP : mg "is_part" = some (.ref fP)) (kP : PySem.W.keepIn K (.ref fP) = true) (bP : L2.Binds K fdP ["word"] [])
    (GB : FnOk P w K mg base CX0 1 fB fdB ["word"] spBeg) (gB : mg "begins_rightly" = some (.ref fB)) (kB : PySem.W.keepIn K (.ref fB) = true) (bB : L2.Binds K fdB ["word"] []) :
    FnOk P w K mg base CX0 3 f fd ["word"] (spB longB sizeLine) := by
  refine F.ok scLN (fun vs H Q E h => ?_) (fun cdv A outer s H vs Q E hr h => ?_)
  · obtain ⟨x, rfl, _⟩ := h
    rfl
  · obtain ⟨x, rfl, hx, k⟩ := h
    have hr1 : Room 1 _ := hr.mono (by decide)
    refine ⟨_, pss_one (ps_ret (pe_and (pe_call G hr (by rfl) gP kP bP .nil pass0 (pa_cons (pv 0) pa_nil)) (pe_one (pe_call GB hr1 (by rfl) gB kB bB .nil pass0 (pa_cons (pv 0) pa_nil))))), ?_⟩
    refine ⟨_, rfl, x, rfl, hx, fun H1 s1 => ⟨_, rfl, ite2 (fun h1 => ?_) (fun h1 => ?_)⟩⟩
    · have l1 : 1 ≤ x.length := by
        unfold partB at h1
        exact of_decide_eq_true (Bool.and_eq_true_iff.mp (Bool.and_eq_true_iff.mp h1).1).1
      refine ⟨_, rfl, x, rfl, l1, hx, fun H2 s2 => ?_⟩
      have e : longB x = begB x := by
        unfold longB
        rw [h1, Bool.true_and]
      rw [← e]
      exact k H2 (s1.trans s2)
    · have e : longB x = false := by
        unfold longB
        rw [Bool.eq_false_iff.mpr h1, Bool.false_and]
      have e1 : partB x = false := Bool.eq_false_iff.mpr h1
      have := k H1 s1
      rw [e] at this
      exact this
end
end K0

set_option Elab.async false
set_option linter.all false
set_option maxRecDepth 100000
set_option maxHeartbeats 4000000
/-! The law's helpers: the pool, _law_same, _law_less. -/
namespace K0
open PySem PySem.Spec PyProof.Rows L2 Kx Kh
/-- how a def stands that others call -/
structure Fn0 (P : Program) (w : World) (K : PySem.W.Frag) (mg : Str → Option Value) (base : Heap) (k : Nat) (x : Str) (ps : List Str) (sp : Sp) (f : Addr) (fd : FuncData) : Prop where
  ok : FnOk P w K mg base CX0 k f fd ps sp
  gl : mg x = some (.ref f)
  kp : PySem.W.keepIn K (.ref f) = true
  bd : L2.Binds K fd ps []
theorem kit_same {K : PySem.W.Frag} {t : Value} : PySem.W.kitOne K t t = some true := kit_self
structure TxL (mg : Str → Option Value) : Prop where
  isi : mg "isinstance" = none
  int : mg "int" = none
  str : mg "str" = none
  len : mg "len" = none
  list : mg "list" = none
  tuple : mg "tuple" = none
  bool : mg "bool" = none
  range : mg "range" = none
/-! ### the pool that numbers are drawn from -/
def L6 (q : Addr) (i c s t b : Int) : List V := [.ref q, .int i, .int c, .int s, .int t, .int b]
theorem l6_ix {q : Addr} {i c s t b : Int} {k : Int} {j : Nat} (h : ixN 6 k = some j) : ixN (L6 q i c s t b).length k = some j := h
structure PoolV (H : Hp) (p q : Addr) (ns : List Int) (i c s t b : Int) : Prop where
  ne : p ≠ q
  hp : H p = some (.lst (L6 q i c s t b))
  hq : H q = some (.lst (ns.map V.int))
  i0 : 0 ≤ i
  s0 : 0 ≤ s
  s1 : s < 2147483648
def PoolAt (H : Hp) (p : Addr) (b : Int) : Prop := ∃ q ns i c s t, PoolV H p q ns i c s t b
/-- all but the pool is as it was; the pool's cells stand where they stood -/
structure Kp (p : Addr) (H H' : Hp) : Prop where
  all : ∀ b o, H b = some o → b ≠ p → H' b = some o
  hd : ∀ q r, H p = some (.lst (.ref q :: r)) → ∃ r', H' p = some (.lst (.ref q :: r'))
instance {p : Addr} {H H' : Hp} : CoeFun (Kp p H H') (fun _ => ∀ b o, H b = some o → b ≠ p → H' b = some o) := ⟨Kp.all⟩
theorem Kp.refl (p : Addr) (H : Hp) : Kp p H H := ⟨fun _ _ e _ => e, fun q r e => ⟨r, e⟩⟩
theorem Kp.trans {p : Addr} {H H1 H2 : Hp} (a : Kp p H H1) (b : Kp p H1 H2) : Kp p H H2 := ⟨fun c o e h => b.all c o (a.all c o e h) h, fun q r e => by
  obtain ⟨r1, e1⟩ := a.hd q r e
  exact b.hd q r1 e1⟩
theorem Kp.same {p : Addr} {H H' : Hp} (s : Same H H') : Kp p H H' := ⟨fun b o e _ => s b o e, fun q r e => ⟨r, s _ _ e⟩⟩
theorem PoolV.kp {H : Hp} {p q : Addr} {ns : List Int} {i c s t b i' c' s' t' b' : Int} (P : PoolV H p q ns i c s t b) : Kp p H (upd H p (.lst (L6 q i' c' s' t' b'))) :=
  ⟨fun b u e h => by rw [upd_ne h]; exact e, fun x r e => by
    rw [P.hp] at e
    injection e with e
    injection e with e
    injection e with e _
    injection e with e
    exact ⟨[.int i', .int c', .int s', .int t', .int b'], by rw [upd_same, ← e]; rfl⟩⟩
theorem PoolV.set {H : Hp} {p q : Addr} {ns : List Int} {i c s t b i' c' s' t' b' : Int} (P : PoolV H p q ns i c s t b) (hi : 0 ≤ i') (hs : 0 ≤ s') (hs' : s' < 2147483648) :
    PoolV (upd H p (.lst (L6 q i' c' s' t' b'))) p q ns i' c' s' t' b' := ⟨P.ne, upd_same, by rw [upd_ne P.ne.symm]; exact P.hq, hi, hs, hs'⟩
theorem PoolAt.same {H H' : Hp} {p : Addr} {b : Int} (P : PoolAt H p b) (s : Same H H') : PoolAt H' p b := by
  obtain ⟨q, ns, i, c, z, t, P⟩ := P
  exact ⟨q, ns, i, c, z, t, P.ne, s _ _ P.hp, s _ _ P.hq, P.i0, P.s0, P.s1⟩
def spPool (K : PySem.W.Frag) : Sp := fun vs H Q _ => ∃ (a : Addr) (ns : List Int) (b : Int), vs = [.ref a, .int b] ∧ SqL K H a (ns.map V.int) ∧ ∀ (p : Addr) (H' : Hp), Same H H' → H p = none → PoolAt H' p b → Q (.ref p) H'
def spDraw : Sp := fun vs H Q _ => ∃ (p : Addr) (n b : Int), vs = [.ref p, .int n] ∧ PoolAt H p b ∧ 0 < n ∧ n < 1073741824 ∧ ∀ (v : Int) (H' : Hp), 0 ≤ v → v < n → PoolAt H' p b → Kp p H H' → Q (.int v) H'
section
variable {P : Program} {w : World} {K : PySem.W.Frag} {mg : Str → Option Value} {base : Heap} {C : Addr}
theorem scPo : FnScope ["script", "budget"] ["script", "budget"] (defScope sPool) := ⟨rfl, rfl, rfl, by decide +kernel, rfl, by decide +kernel, by decide +kernel⟩
theorem ok_pool {f : Addr} {fd : FuncData} (F : Fun K "_law_pool" "_law_pool" sPool f fd) (T : TxL mg) : FnOk P w K mg base CX0 1 f fd ["script", "budget"] (spPool K) := by
  refine F.ok scPo (fun vs H Q E h => ?_) (fun cdv A outer s H vs Q E hr h => ?_)
  · obtain ⟨a, ns, b, rfl, _⟩ := h
    rfl
  · obtain ⟨a, ns, b, rfl, hS, k⟩ := h
    refine ⟨_, pss_one (ps_ret (pe_lst (pa_cons (pe_callTy call_list_of (by rfl) T.list (by decide +kernel) (pa_cons (pv 0) pa_nil)) (pa_cons pe_int (pa_cons pe_int (pa_cons pe_int (pa_cons pe_int (pa_cons (pv 1) pa_nil)))))))), ?_⟩
    refine ⟨_, rfl, a, _, rfl, .inl hS, fun l hl => ⟨_, rfl, (by show 6 ≤ sizeLine; decide), fun p hp => ?_⟩⟩
    have h1 : Same H (upd H l (.lst (ns.map V.int))) := same_upd hl
    have nlp : l ≠ p := fun e => by
      rw [← e, upd_same] at hp
      cases hp
    have h2 := same_upd (o := .lst (L6 l 0 0 1 0 b)) hp
    exact k p _ (h1.trans h2) (h1.free hp) ⟨l, ns, 0, 0, 1, 0, nlp.symm, upd_same, by rw [upd_ne nlp]; exact upd_same, by decide, by decide, by decide⟩
theorem scD : FnScope ["pool", "size", "cell", "value"] ["pool", "size"] (defScope sDraw) := ⟨rfl, rfl, rfl, by decide +kernel, rfl, by decide +kernel, by decide +kernel⟩
theorem ok_draw {f : Addr} {fd : FuncData} (F : Fun K "_law_draw" "_law_draw" sDraw f fd) (T : TxL mg) : FnOk P w K mg base CX0 1 f fd ["pool", "size"] spDraw := by
  refine F.ok scD (fun vs H Q E h => ?_) (fun cdv A outer s H vs Q E hr h => ?_)
  · obtain ⟨p, n, b0, rfl, _⟩ := h
    rfl
  · obtain ⟨p, n, b, rfl, PA, hn, hn2, k⟩ := h
    have at_ : ∀ {q : Addr} {i c s t b : Int} {j : Nat} {v : V}, (L6 q i c s t b)[j]? = some v → atI (L6 q i c s t b) (j : Int) = some v := fun h => atI_nat h
    have hrest : ∃ t, PSs (cxOf CX0 P w K mg base ["pool", "size", "cell", "value"] "_law_draw" (defScope sDraw) f cdv A outer s H E).nox ((defBody sDraw).drop 1) t ∧
        ∀ (σ' : L2.St) (H' : Hp), (∃ v2 v3, σ' = [some (.ref p), some (.int n), v2, v3]) → PoolAt H' p b → Kp p H H' → t { nx := fun _ H' => Q .non H', rt := Q } σ' H' := by
      refine ⟨_, pss_cons (ps_if (pt_cmpR op_gt (pe_ix ix_list (pv 0) pe_int (fun _ _ => rfl)) pe_int (nomark _))
          (pss_cons (ps_set (i := 3) scD.nd rfl (Or.inl rfl) (pe_op op_mod (pe_callTy call_int1 (by rfl) T.int (by decide +kernel) (pa_cons (pe_ix ix_list (pv 0) pe_int (fun _ _ => rfl)) pa_nil)) (pv 1)))
          (pss_cons (ps_asg (pe_op op_fdivN (pe_ix ix_list (pv 0) pe_int (fun _ _ => rfl)) (pv 1)) (pg_sub (pv 0) pe_int set_list))
          (pss_cons (ps_asg pe_int (pg_sub (pv 0) pe_int set_list))
          (pss_one (ps_ret (pv 3)))))) pss_nil)
        (pss_cons (ps_asg (pe_op op_sub (pe_ix ix_list (pv 0) pe_int (fun _ _ => rfl)) pe_int) (pg_sub (pv 0) pe_int set_list))
        (pss_cons (ps_asg (pe_op op_mod (pe_callTy call_int1 (by rfl) T.int (by decide +kernel) (pa_cons (pe_op op_add (pe_op op_mul (pe_ix ix_list (pv 0) pe_int (fun _ _ => rfl)) pe_int) pe_int) pa_nil)) pe_int) (pg_sub (pv 0) pe_int set_list))
        (pss_one (ps_ret (pe_op op_mod (pe_op op_mod (pe_callTy call_int1 (by rfl) T.int (by decide +kernel) (pa_cons (pe_op op_add (pe_op op_mul (pe_ix ix_list (pv 0) pe_int (fun _ _ => rfl)) pe_int) pe_int) pa_nil)) pe_int) (pv 1)))))), ?_⟩
      rintro σ' H' ⟨v2, v3, rfl⟩ ⟨q, ns, i, c, z, t, PV⟩ kp
      refine ⟨_, rfl, p, _, _, _, rfl, rfl, SqL.of PV.hp, at_ (j := 2) rfl, _, _, rfl, rfl, _, rfl, ite2 (fun _ => ?_) (fun _ => ?_)⟩
      · refine ⟨_, rfl, p, _, _, _, rfl, rfl, SqL.of PV.hp, at_ (j := 2) rfl, .inl ⟨_, rfl, _, rfl, _, _, rfl, rfl, hn, ?_⟩⟩
        refine ⟨_, rfl, p, _, _, _, rfl, rfl, SqL.of PV.hp, at_ (j := 2) rfl, _, rfl, _, _, rfl, rfl, ⟨by omega, by omega⟩, _, rfl, p, _, _, _, rfl, rfl, PV.hp, l6_ix (k := 2) (j := 2) (by decide), ?_⟩
        have PV2 := PV.set (i' := i) (c' := c.fdiv n) (s' := z) (t' := t) (b' := b) PV.i0 PV.s0 PV.s1
        refine ⟨_, rfl, p, _, _, _, rfl, rfl, PV2.hp, l6_ix (k := 4) (j := 4) (by decide), ?_⟩
        have PV3 := PV2.set (i' := i) (c' := c.fdiv n) (s' := z) (t' := 0) (b' := b) PV.i0 PV.s0 PV.s1
        exact ⟨_, rfl, k _ _ (Int.emod_nonneg _ (by omega)) (Int.emod_lt_of_pos _ hn) ⟨_, _, _, _, _, _, PV3⟩ ((kp.trans PV.kp).trans PV2.kp)⟩
      · refine ⟨_, rfl, p, _, _, _, rfl, rfl, SqL.of PV.hp, at_ (j := 4) rfl, _, _, rfl, rfl, _, rfl, p, _, _, _, rfl, rfl, PV.hp, l6_ix (k := 4) (j := 4) (by decide), ?_⟩
        have PV2 := PV.set (i' := i) (c' := c) (s' := z) (t' := t - 1) (b' := b) PV.i0 PV.s0 PV.s1
        refine ⟨_, rfl, p, _, _, _, rfl, rfl, SqL.of PV2.hp, at_ (j := 3) rfl, _, _, rfl, rfl, .inl ⟨by have := PV.s0; omega, by have := PV.s1; omega⟩, _, _, rfl, rfl, .inl ⟨_, rfl, _, _, rfl, rfl, (by show (0 : Int) < 2147483647; decide), ?_⟩⟩
        have h0 : (0 : Int) ≤ (z * 48271 + 12345) % 2147483647 := Int.emod_nonneg _ (by decide)
        have h1 : (z * 48271 + 12345) % 2147483647 < 2147483647 := Int.emod_lt_of_pos _ (by decide)
        refine ⟨_, rfl, p, _, _, _, rfl, rfl, PV2.hp, l6_ix (k := 3) (j := 3) (by decide), ?_⟩
        have PV3 := PV2.set (i' := i) (c' := c) (s' := (z * 48271 + 12345) % 2147483647) (t' := t - 1) (b' := b) PV.i0 h0 (by omega)
        refine ⟨_, rfl, p, _, _, _, rfl, rfl, SqL.of PV3.hp, at_ (j := 3) rfl, _, _, rfl, rfl, .inl ⟨by omega, by omega⟩, _, _, rfl, rfl, .inl ⟨_, rfl, _, _, rfl, rfl, (by show (0 : Int) < 2147483647; decide), _, rfl, _, _, rfl, rfl, hn, ?_⟩⟩
        exact k _ _ (Int.emod_nonneg _ (by omega)) (Int.emod_lt_of_pos _ hn) ⟨_, _, _, _, _, _, PV3⟩ ((kp.trans PV.kp).trans PV2.kp)
    obtain ⟨t, ht, rest⟩ := hrest
    refine ⟨_, pss_cons (ps_if (PW.pt (pw_and (pt_cmpR op_le (pe_ix ix_list (pv 0) pe_int (fun _ _ => rfl)) pe_int (nomark _)) (pw_and (pt_cmpR op_le (pe_ix ix_list (pv 0) pe_int (fun _ _ => rfl)) pe_int (nomark _))
        (pw_and1 (pt_cmpR op_lt (pe_ix ix_list (pv 0) pe_int (fun _ _ => rfl)) (pe_callB call_len_seq (by rfl) T.len PySem.boot_len (pa_cons (pe_ix ix_list (pv 0) pe_int (fun _ _ => rfl)) pa_nil)) (nomark _))))))
        (pss_cons (ps_set (i := 2) scD.nd rfl (Or.inl rfl) (pe_ix ix_list (pe_ix ix_list (pv 0) pe_int (fun _ _ => rfl)) (pe_ix ix_list (pv 0) pe_int (fun _ _ => rfl)) (fun _ _ => rfl)))
        (pss_cons (ps_asg (pe_op op_add (pe_ix ix_list (pv 0) pe_int (fun _ _ => rfl)) pe_int) (pg_sub (pv 0) pe_int set_list))
        (pss_cons (ps_asg (pe_op op_mod (pe_callTy call_int1 (by rfl) T.int (by decide +kernel) (pa_cons (pe_op op_add (pe_op op_mul (pe_ix ix_list (pv 0) pe_int (fun _ _ => rfl)) pe_int) (pv 2)) pa_nil)) pe_int) (pg_sub (pv 0) pe_int set_list))
        (pss_cons (ps_asg pe_int (pg_sub (pv 0) pe_int set_list))
        (pss_one (ps_if (pt_cmpR op_ge (pv 2) (pe_op op_pow pe_int pe_int) (nomark _)) (pss_one (ps_asg (pv 2) (pg_sub (pv 0) pe_int set_list))) pss_nil)))))) pss_nil) ht, ?_⟩
    obtain ⟨q, ns, i, c, z, tt, PV⟩ := id PA
    refine ⟨_, rfl, p, _, _, _, rfl, rfl, SqL.of PV.hp, at_ (j := 2) rfl, _, _, rfl, rfl, _, rfl, ite2 (fun _ => ?_) (fun _ => iteF (rest _ _ ⟨_, _, rfl⟩ PA (Kp.refl _ _)))⟩
    refine ⟨_, rfl, p, _, _, _, rfl, rfl, SqL.of PV.hp, at_ (j := 4) rfl, _, _, rfl, rfl, _, rfl, ite2 (fun _ => ?_) (fun _ => iteF (rest _ _ ⟨_, _, rfl⟩ PA (Kp.refl _ _)))⟩
    refine ⟨_, rfl, p, _, _, _, rfl, rfl, SqL.of PV.hp, at_ (j := 1) rfl, _, rfl, p, _, _, _, rfl, rfl, SqL.of PV.hp, at_ (j := 0) rfl, q, _, rfl, .inl (SqL.of PV.hq), _, _, rfl, rfl, _, rfl, ite2 (fun y => ?_) (fun _ => rest _ _ ⟨_, _, rfl⟩ PA (Kp.refl _ _))⟩
    have hi := of_decide_eq_true y
    obtain ⟨j, rfl⟩ : ∃ j : Nat, i = (j : Int) := ⟨i.toNat, by have := PV.i0; omega⟩
    have hj : j < ns.length := by
      rw [List.length_map] at hi
      omega
    have g : (ns.map V.int)[j]? = some (V.int ns[j]) := by
      rw [List.getElem?_map, List.getElem?_eq_getElem hj]
      rfl
    -- cell = pool[0][pool[1]]
    refine ⟨_, rfl, p, _, _, _, rfl, rfl, SqL.of PV.hp, at_ (j := 0) rfl, _, rfl, p, _, _, _, rfl, rfl, SqL.of PV.hp, at_ (j := 1) rfl, q, _, _, _, rfl, rfl, SqL.of PV.hq, atI_nat g, ?_⟩
    -- pool[1] = pool[1] + 1
    refine ⟨_, rfl, p, _, _, _, rfl, rfl, SqL.of PV.hp, at_ (j := 1) rfl, _, _, rfl, rfl, _, rfl, p, _, _, _, rfl, rfl, PV.hp, l6_ix (k := 1) (j := 1) (by decide), ?_⟩
    have PV2 := PV.set (i' := (j : Int) + 1) (c' := c) (s' := z) (t' := tt) (b' := b) (by omega) PV.s0 PV.s1
    -- pool[3] = ..
    refine ⟨_, rfl, p, _, _, _, rfl, rfl, SqL.of PV2.hp, at_ (j := 3) rfl, _, _, rfl, rfl, .inl ⟨by have := PV.s0; omega, by have := PV.s1; omega⟩, _, rfl, _, _, rfl, rfl, .inl ⟨_, rfl, _, _, rfl, rfl, (by show (0 : Int) < 2147483647; decide), ?_⟩⟩
    have h0 : (0 : Int) ≤ (z * 31 + ns[j]) % 2147483647 := Int.emod_nonneg _ (by decide)
    have h1 : (z * 31 + ns[j]) % 2147483647 < 2147483647 := Int.emod_lt_of_pos _ (by decide)
    refine ⟨_, rfl, p, _, _, _, rfl, rfl, PV2.hp, l6_ix (k := 3) (j := 3) (by decide), ?_⟩
    have PV3 := PV2.set (i' := (j : Int) + 1) (c' := c) (s' := (z * 31 + ns[j]) % 2147483647) (t' := tt) (b' := b) (by omega) h0 (by omega)
    -- pool[4] = 7
    refine ⟨_, rfl, p, _, _, _, rfl, rfl, PV3.hp, l6_ix (k := 4) (j := 4) (by decide), ?_⟩
    have PV4 := PV3.set (i' := (j : Int) + 1) (c' := c) (s' := (z * 31 + ns[j]) % 2147483647) (t' := 7) (b' := b) (by omega) h0 (by omega)
    have kp4 := ((PV.kp (i' := (j : Int) + 1) (c' := c) (s' := z) (t' := tt) (b' := b)).trans (PV2.kp (i' := (j : Int) + 1) (c' := c) (s' := (z * 31 + ns[j]) % 2147483647) (t' := tt) (b' := b))).trans (PV3.kp (i' := (j : Int) + 1) (c' := c) (s' := (z * 31 + ns[j]) % 2147483647) (t' := 7) (b' := b))
    refine ⟨_, rfl, _, _, rfl, rfl, ⟨by decide, by decide, by decide⟩, _, _, rfl, rfl, _, rfl, ite2 (fun _ => ?_) (fun _ => rest _ _ ⟨_, _, rfl⟩ ⟨_, _, _, _, _, _, PV4⟩ kp4)⟩
    refine ⟨_, rfl, _, rfl, p, _, _, _, rfl, rfl, PV4.hp, l6_ix (k := 2) (j := 2) (by decide), ?_⟩
    have PV5 := PV4.set (i' := (j : Int) + 1) (c' := ns[j]) (s' := (z * 31 + ns[j]) % 2147483647) (t' := 7) (b' := b) (by omega) h0 (by omega)
    exact rest _ _ ⟨_, _, rfl⟩ ⟨_, _, _, _, _, _, PV5⟩ (kp4.trans PV4.kp)
end
theorem atV {xs : List V} {v : Int} (h0 : 0 ≤ v) (h1 : v < xs.length) : ∃ x, x ∈ xs ∧ atI xs v = some x := by
  obtain ⟨j, rfl⟩ : ∃ j : Nat, v = (j : Int) := ⟨v.toNat, by omega⟩
  have hj : j < xs.length := by omega
  exact ⟨xs[j], List.getElem_mem hj, atI_nat (List.getElem?_eq_getElem hj)⟩
theorem atS {xs : List Str} {v : Int} (h0 : 0 ≤ v) (h1 : v < xs.length) : ∃ x, x ∈ xs ∧ atI (xs.map V.str) v = some (.str x) := by
  obtain ⟨y, hy, e⟩ := atV (xs := xs.map V.str) h0 (by rw [List.length_map]; exact h1)
  obtain ⟨x, hx, rfl⟩ := List.mem_map.mp hy
  exact ⟨x, hx, e⟩
theorem atN {xs : List Int} {v : Int} (h0 : 0 ≤ v) (h1 : v < xs.length) : ∃ x, x ∈ xs ∧ atI (xs.map V.int) v = some (.int x) := by
  obtain ⟨y, hy, e⟩ := atV (xs := xs.map V.int) h0 (by rw [List.length_map]; exact h1)
  obtain ⟨x, hx, rfl⟩ := List.mem_map.mp hy
  exact ⟨x, hx, e⟩
theorem PoolAt.ne0 {H : Hp} {p t : Addr} {b : Int} (P : PoolAt H p b) (h : H t = none) : t ≠ p := by
  obtain ⟨q, ns, i, c, z, tt, P⟩ := P
  exact (ne_of_none P.hp h).symm
theorem PoolAt.neT {H : Hp} {p t : Addr} {b : Int} {xs : List V} (P : PoolAt H p b) (h : H t = some (.tup xs)) : t ≠ p := by
  obtain ⟨q, ns, i, c, z, tt, P⟩ := P
  exact ne_of h P.hp (by intro z; cases z)
theorem PoolAt.own {H0 H : Hp} {p G : Addr} {b b' : Int} {o : HO} (P0 : PoolAt H0 p b) (hG : H0 G = none) (k : Kp p H0 H) (P : PoolAt H p b') : PoolAt (upd H G o) p b' := by
  have nGp : G ≠ p := P0.ne0 hG
  obtain ⟨q0, ns0, i0, c0, z0, t0, PV0⟩ := P0
  obtain ⟨qq, xs, ii, c, z, t, PV⟩ := P
  obtain ⟨r', e'⟩ := k.hd _ _ PV0.hp
  have nq : qq ≠ G := fun e => by
    have h := PV.hp
    rw [e'] at h
    injection h with h
    injection h with h
    injection h with h _
    injection h with h
    have h1 := PV0.hq
    rw [h, e, hG] at h1
    cases h1
  exact ⟨qq, xs, ii, c, z, t, PV.ne, by rw [upd_ne nGp.symm]; exact PV.hp, by rw [upd_ne nq]; exact PV.hq, PV.i0, PV.s0, PV.s1⟩
theorem Kp.own {H0 H : Hp} {p G : Addr} {b : Int} {o : HO} (P0 : PoolAt H0 p b) (hG : H0 G = none) (k : Kp p H0 H) : Kp p H0 (upd H G o) := ⟨fun c u e h => by
  rw [upd_ne (ne_of_none e hG)]
  exact k _ _ e h, fun x r e => by
  rw [upd_ne (P0.ne0 hG).symm]
  exact k.hd x r e⟩
/-! ### _law_same: asked of what is the same -/
inductive Flat : V → Prop where
  | int (i : Int) : Flat (.int i)
  | bl (b : Bool) : Flat (.bl b)
  | str (z : Str) : Flat (.str z)
inductive Sd (H : Hp) : Nat → V → V → Prop where
  | flat (n : Nat) {x : V} (h : Flat x) : Sd H n x x
  | tup (n : Nat) {a b : Addr} {xs ys : List V} (ha : H a = some (.tup xs)) (hb : H b = some (.tup ys)) (hl : xs.length = ys.length) (hz : ys.length ≤ 200000) (h : ∀ (i : Nat) (x y : V), xs[i]? = some x → ys[i]? = some y → Sd H n x y) : Sd H (n + 1) (.ref a) (.ref b)
  | lst (n : Nat) {a b : Addr} {xs ys : List V} (ha : H a = some (.lst xs)) (hb : H b = some (.lst ys)) (hl : xs.length = ys.length) (hz : ys.length ≤ 200000) (h : ∀ (i : Nat) (x y : V), xs[i]? = some x → ys[i]? = some y → Sd H n x y) : Sd H (n + 1) (.ref a) (.ref b)
def spSame (n : Nat) : Sp := fun vs H Q _ => ∃ x y, vs = [x, y] ∧ Sd H n x y ∧ Q (.bl true) H
theorem tyI {K : PySem.W.Frag} {H : Hp} {i : Int} : TyX K H (.int i) (.type "int") := .base (.int i)
theorem tyB {K : PySem.W.Frag} {H : Hp} {b : Bool} : TyX K H (.bl b) (.type "bool") := .base (.bl b)
theorem tyS {K : PySem.W.Frag} {H : Hp} {z : Str} : TyX K H (.str z) (.type "str") := .base (.str z)
theorem tyL {K : PySem.W.Frag} {H : Hp} {a : Addr} {xs : List V} (e : H a = some (.lst xs)) : TyX K H (.ref a) (.type "list") := .base (.lst e)
theorem tyT {K : PySem.W.Frag} {H : Hp} {a : Addr} {xs : List V} (e : H a = some (.tup xs)) : TyX K H (.ref a) (.type "tuple") := .base (.tup e)
section
variable {P : Program} {w : World} {K : PySem.W.Frag} {mg : Str → Option Value} {base : Heap}
theorem scSa : FnScope ["actual", "due", "k"] ["actual", "due"] (defScope sSame) := ⟨rfl, rfl, rfl, by decide +kernel, rfl, by decide +kernel, by decide +kernel⟩
theorem same_flat {f : Addr} (T : TxL mg) {cdv : Value} {A : Around} {outer : List Env} {s : Shared} {H0 : Hp} {E : XK} :
    ∃ t, PSs (cxOf CX0 P w K mg base ["actual", "due", "k"] "_law_same" (defScope sSame) f cdv A outer s H0 E).nox ((defBody sSame).drop 1) t ∧ ∀ (x : V) (v2 : Option V) (D : Ends) (H : Hp), Flat x → D.rt (.bl true) H → t D [some x, some x, v2] H := by
  refine ⟨_, pss_cons (ps_if (PW.pt (pw_or (pt_cmpR op_isN (pv 1) pe_non (nomark _)) (pw_or1 (pt_val (pe_callB call_isi (by rfl) T.isi (by decide +kernel) (pa_cons (pv 1) (pa_cons (pe_bltn (v := .ty "bool") (by rfl) T.bool (by decide +kernel) rfl) pa_nil)))))))
        (pss_one (ps_ret (pe_and (pe_cmpR op_eq (pe_cmpR op_isN (pv 0) pe_non (nomark _)) (pe_cmpR op_isN (pv 1) pe_non (nomark _)) (nomark _))
          (pe_and (pe_or (pe_cmpR op_isN (pv 1) pe_non (nomark _)) (pe_one (pe_callB call_isi (by rfl) T.isi (by decide +kernel) (pa_cons (pv 0) (pa_cons (pe_bltn (v := .ty "bool") (by rfl) T.bool (by decide +kernel) rfl) pa_nil)))))
            (pe_one (pe_cmpR op_eq (pv 0) (pv 1) (nomark _))))))) pss_nil)
      (pss_cons (ps_if (pt_val (pe_callB call_isi (by rfl) T.isi (by decide +kernel) (pa_cons (pv 1) (pa_cons (pe_bltn (v := .ty "int") (by rfl) T.int (by decide +kernel) rfl) pa_nil))))
        (pss_one (ps_ret (pe_and (pe_callB call_isi (by rfl) T.isi (by decide +kernel) (pa_cons (pv 0) (pa_cons (pe_bltn (v := .ty "int") (by rfl) T.int (by decide +kernel) rfl) pa_nil)))
          (pe_and (pe_not (pe_callB call_isi (by rfl) T.isi (by decide +kernel) (pa_cons (pv 0) (pa_cons (pe_bltn (v := .ty "bool") (by rfl) T.bool (by decide +kernel) rfl) pa_nil))))
            (pe_one (pe_cmpR op_eq (pv 0) (pv 1) (nomark _))))))) pss_nil)
      (pss_one (ps_ret (pe_and (pe_callB call_isi (by rfl) T.isi (by decide +kernel) (pa_cons (pv 0) (pa_cons (pe_bltn (v := .ty "str") (by rfl) T.str (by decide +kernel) rfl) pa_nil)))
          (pe_one (pe_cmpR op_eq (pv 0) (pv 1) (nomark _))))))), fun x v2 D H hx k => ?_⟩
  cases hx with
  | int i =>
    refine ⟨_, rfl, rfl, _, rfl, iteF ⟨_, rfl, _, _, _, _, false, rfl, .ty "bool", tyI, kit_ty (by decide +kernel), _, rfl, iteF ?_⟩⟩
    refine ⟨_, rfl, _, _, _, _, true, rfl, .ty "int", tyI, kit_same, _, rfl, iteT ?_⟩
    refine ⟨_, rfl, _, _, _, _, true, rfl, .ty "int", tyI, kit_same, _, rfl, iteT ⟨_, rfl, _, _, _, _, false, rfl, .ty "bool", tyI, kit_ty (by decide +kernel), _, rfl, _, rfl, iteT ⟨_, rfl, _, rfl, rfl, ?_⟩⟩⟩
    rw [decide_eq_true rfl]
    exact k
  | bl b =>
    refine ⟨_, rfl, rfl, _, rfl, iteF ⟨_, rfl, _, _, _, _, true, rfl, .ty "bool", tyB, kit_same, _, rfl, iteT ?_⟩⟩
    refine ⟨_, rfl, rfl, _, rfl, rfl, rfl, _, rfl, iteT ⟨_, rfl, rfl, _, rfl, iteF ⟨_, rfl, _, _, _, _, true, rfl, .ty "bool", tyB, kit_same, _, rfl, iteT ⟨_, rfl, _, rfl, rfl, ?_⟩⟩⟩⟩
    rw [decide_eq_true rfl]
    exact k
  | str z =>
    refine ⟨_, rfl, rfl, _, rfl, iteF ⟨_, rfl, _, _, _, _, false, rfl, .ty "bool", tyS, kit_ty (by decide +kernel), _, rfl, iteF ?_⟩⟩
    refine ⟨_, rfl, _, _, _, _, false, rfl, .ty "int", tyS, kit_ty (by decide +kernel), _, rfl, iteF ?_⟩
    refine ⟨_, rfl, _, _, _, _, true, rfl, .ty "str", tyS, kit_same, _, rfl, iteT ⟨_, rfl, _, rfl, rfl, ?_⟩⟩
    rw [decide_eq_true rfl]
    exact k
def fT : {H : Hp} → {x : V} → Flat x → Prop := fun _ => True
theorem flat_ty {H : Hp} {x : V} (h : Flat x) : ∃ t : String, TyX K H x (.type t) ∧ PySem.W.kitOne K (.type t) (.type "tuple") = some false ∧ PySem.W.kitOne K (.type t) (.type "list") = some false := by
  cases h with
  | int i => exact ⟨"int", tyI, kit_ty (by decide +kernel), kit_ty (by decide +kernel)⟩
  | bl b => exact ⟨"bool", tyB, kit_ty (by decide +kernel), kit_ty (by decide +kernel)⟩
  | str z => exact ⟨"str", tyS, kit_ty (by decide +kernel), kit_ty (by decide +kernel)⟩
theorem ok_same0 {f : Addr} {fd : FuncData} (F : Fun K "_law_same" "_law_same" sSame f fd) (T : TxL mg) : FnOk P w K mg base CX0 1 f fd ["actual", "due"] (spSame 0) := by
  refine F.ok scSa (fun vs H Q E h => ?_) (fun cdv A outer s H vs Q E hr h => ?_)
  · obtain ⟨x, y, rfl, _⟩ := h
    rfl
  · obtain ⟨x, y, rfl, hs, q⟩ := h
    obtain ⟨t, ht, rest⟩ := same_flat (P := P) (w := w) (K := K) (base := base) (f := f) (cdv := cdv) (A := A) (outer := outer) (s := s) (H0 := H) (E := E) T
    refine ⟨_, pss_cons (ps_if (PW.pt (pw_or (pt_val (pe_callB call_isi (by rfl) T.isi (by decide +kernel) (pa_cons (pv 1) (pa_cons (pe_bltn (v := .ty "tuple") (by rfl) T.tuple (by decide +kernel) rfl) pa_nil))))
          (pw_or1 (pt_val (pe_callB call_isi (by rfl) T.isi (by decide +kernel) (pa_cons (pv 1) (pa_cons (pe_bltn (v := .ty "list") (by rfl) T.list (by decide +kernel) rfl) pa_nil)))))))
        (pss_cons ps_never (pss_cons ps_never (pss_cons ps_never (pss_one ps_never)))) pss_nil) ht, ?_⟩
    cases hs with
    | flat _ hx =>
      obtain ⟨ty, h1, h2, h3⟩ := flat_ty (K := K) (H := H) hx
      refine ⟨_, rfl, _, _, _, _, false, rfl, .ty "tuple", h1, h2, _, rfl, iteF ⟨_, rfl, _, _, _, _, false, rfl, .ty "list", h1, h3, _, rfl, iteF (rest _ _ _ _ hx q)⟩⟩
theorem ok_sameS {f : Addr} {fd : FuncData} {k n : Nat} (F : Fun K "_law_same" "_law_same" sSame f fd) (T : TxL mg) (G : Fn0 P w K mg base k "_law_same" ["actual", "due"] (spSame n) f fd) : FnOk P w K mg base CX0 (k + 1) f fd ["actual", "due"] (spSame (n + 1)) := by
  refine F.ok scSa (fun vs H Q E h => ?_) (fun cdv A outer s H vs Q E hr h => ?_)
  · obtain ⟨x, y, rfl, _⟩ := h
    rfl
  · obtain ⟨x, y, rfl, hs, q⟩ := h
    obtain ⟨t, ht, rest⟩ := same_flat (P := P) (w := w) (K := K) (base := base) (f := f) (cdv := cdv) (A := A) (outer := outer) (s := s) (H0 := H) (E := E) T
    refine ⟨_, pss_cons (ps_if (PW.pt (pw_or (pt_val (pe_callB call_isi (by rfl) T.isi (by decide +kernel) (pa_cons (pv 1) (pa_cons (pe_bltn (v := .ty "tuple") (by rfl) T.tuple (by decide +kernel) rfl) pa_nil))))
          (pw_or1 (pt_val (pe_callB call_isi (by rfl) T.isi (by decide +kernel) (pa_cons (pv 1) (pa_cons (pe_bltn (v := .ty "list") (by rfl) T.list (by decide +kernel) rfl) pa_nil)))))))
        (pss_cons (ps_if (PW.pt (pw_or
            (pt_cmpR op_ne (pe_callB call_isi (by rfl) T.isi (by decide +kernel) (pa_cons (pv 1) (pa_cons (pe_bltn (v := .ty "tuple") (by rfl) T.tuple (by decide +kernel) rfl) pa_nil))) (pe_callB call_isi (by rfl) T.isi (by decide +kernel) (pa_cons (pv 0) (pa_cons (pe_bltn (v := .ty "tuple") (by rfl) T.tuple (by decide +kernel) rfl) pa_nil))) (nomark _))
            (pw_or1 (pt_cmpR op_ne (pe_callB call_isi (by rfl) T.isi (by decide +kernel) (pa_cons (pv 1) (pa_cons (pe_bltn (v := .ty "list") (by rfl) T.list (by decide +kernel) rfl) pa_nil))) (pe_callB call_isi (by rfl) T.isi (by decide +kernel) (pa_cons (pv 0) (pa_cons (pe_bltn (v := .ty "list") (by rfl) T.list (by decide +kernel) rfl) pa_nil))) (nomark _)))))
            (pss_one (ps_ret pe_bl)) pss_nil)
        (pss_cons (ps_if (pt_cmpR op_ne (pe_callB call_len_seq (by rfl) T.len PySem.boot_len (pa_cons (pv 0) pa_nil)) (pe_callB call_len_seq (by rfl) T.len PySem.boot_len (pa_cons (pv 1) pa_nil)) (nomark _)) (pss_one (ps_ret pe_bl)) pss_nil)
        (pss_cons (ps_for PassesOwn.never rfl (pi_range1 rfl T.range (pa_cons (pe_callB call_len_seq (by rfl) T.len PySem.boot_len (pa_cons (pv 1) pa_nil)) pa_nil)) (pg_name (i := 2) scSa.nd rfl (Or.inl rfl))
          (pss_one (ps_if (pt_not (pt_val (pe_call G.ok hr (by rfl) G.gl G.kp G.bd .nil pass0 (pa_cons (pe_ix ix_seq (pv 0) (pv 2) (fun _ _ => rfl)) (pa_cons (pe_ix ix_seq (pv 1) (pv 2) (fun _ _ => rfl)) pa_nil))))) (pss_one (ps_ret pe_bl)) pss_nil)))
        (pss_one (ps_ret pe_bl))))) pss_nil) ht, ?_⟩
    cases hs with
    | flat _ hx =>
      obtain ⟨ty, h1, h2, h3⟩ := flat_ty (K := K) (H := H) hx
      refine ⟨_, rfl, _, _, _, _, false, rfl, .ty "tuple", h1, h2, _, rfl, iteF ⟨_, rfl, _, _, _, _, false, rfl, .ty "list", h1, h3, _, rfl, iteF (rest _ _ _ _ hx q)⟩⟩
    | @lst _ a b xs ys ha hb hl hz h =>
      refine ⟨_, rfl, _, _, _, _, false, rfl, .ty "tuple", tyL hb, kit_ty (by decide +kernel), _, rfl, iteF ⟨_, rfl, _, _, _, _, true, rfl, .ty "list", tyL hb, kit_same, _, rfl, iteT ?_⟩⟩
      refine ⟨_, rfl, _, _, _, _, false, rfl, .ty "tuple", tyL hb, kit_ty (by decide +kernel), _, rfl, _, _, _, _, false, rfl, .ty "tuple", tyL ha, kit_ty (by decide +kernel), rfl, _, rfl, iteF ?_⟩
      refine ⟨_, rfl, _, _, _, _, true, rfl, .ty "list", tyL hb, kit_same, _, rfl, _, _, _, _, true, rfl, .ty "list", tyL ha, kit_same, rfl, _, rfl, iteF ?_⟩
      refine ⟨_, rfl, a, _, rfl, .inl (SqL.of ha), _, rfl, b, _, rfl, .inl (SqL.of hb), rfl, _, rfl, ?_⟩
      rw [hl, decide_eq_true rfl]
      refine iteF ⟨_, rfl, b, _, rfl, .inl (SqL.of hb), (ys.length : Int), rfl, by omega, by omega, for_range (lo := 0) (n := (ys.length : Int).toNat) (fun i σ H2 => (∃ v2, σ = [some (.ref a), some (.ref b), v2]) ∧ H2 = H) ⟨⟨_, rfl⟩, rfl⟩ ?_ ?_⟩
      · rintro i σ H2 hi ⟨⟨v2, rfl⟩, rfl⟩
        have h2 : i < ys.length := by omega
        have h1 : i < xs.length := by omega
        have ex := List.getElem?_eq_getElem h1
        have ey := List.getElem?_eq_getElem h2
        refine ⟨_, rfl, _, rfl, .inl ⟨a, _, _, _, rfl, rfl, SqL.of ha, by rw [Int.zero_add]; exact atI_nat ex, _, rfl, _, rfl, .inl ⟨b, _, _, _, rfl, rfl, SqL.of hb, by rw [Int.zero_add]; exact atI_nat ey, _, _, rfl, h i _ _ ex ey, _, rfl, iteF ⟨⟨_, rfl⟩, rfl⟩⟩⟩⟩
      · rintro σ H2 ⟨⟨v2, rfl⟩, rfl⟩
        exact q
    | @tup _ a b xs ys ha hb hl hz h =>
      refine ⟨_, rfl, _, _, _, _, true, rfl, .ty "tuple", tyT hb, kit_same, _, rfl, iteT ?_⟩
      refine ⟨_, rfl, _, _, _, _, true, rfl, .ty "tuple", tyT hb, kit_same, _, rfl, _, _, _, _, true, rfl, .ty "tuple", tyT ha, kit_same, rfl, _, rfl, iteF ?_⟩
      refine ⟨_, rfl, _, _, _, _, false, rfl, .ty "list", tyT hb, kit_ty (by decide +kernel), _, rfl, _, _, _, _, false, rfl, .ty "list", tyT ha, kit_ty (by decide +kernel), rfl, _, rfl, iteF ?_⟩
      refine ⟨_, rfl, a, _, rfl, .inr (SqT.of ha), _, rfl, b, _, rfl, .inr (SqT.of hb), rfl, _, rfl, ?_⟩
      rw [hl, decide_eq_true rfl]
      refine iteF ⟨_, rfl, b, _, rfl, .inr (SqT.of hb), (ys.length : Int), rfl, by omega, by omega, for_range (lo := 0) (n := (ys.length : Int).toNat) (fun i σ H2 => (∃ v2, σ = [some (.ref a), some (.ref b), v2]) ∧ H2 = H) ⟨⟨_, rfl⟩, rfl⟩ ?_ ?_⟩
      · rintro i σ H2 hi ⟨⟨v2, rfl⟩, rfl⟩
        have h2 : i < ys.length := by omega
        have h1 : i < xs.length := by omega
        have ex := List.getElem?_eq_getElem h1
        have ey := List.getElem?_eq_getElem h2
        refine ⟨_, rfl, _, rfl, .inr (.inl ⟨a, _, _, _, rfl, rfl, SqT.of ha, by rw [Int.zero_add]; exact atI_nat ex, _, rfl, _, rfl, .inr (.inl ⟨b, _, _, _, rfl, rfl, SqT.of hb, by rw [Int.zero_add]; exact atI_nat ey, _, _, rfl, h i _ _ ex ey, _, rfl, iteF ⟨⟨_, rfl⟩, rfl⟩⟩)⟩)⟩
      · rintro σ H2 ⟨⟨v2, rfl⟩, rfl⟩
        exact q
theorem ok_sameH {f : Addr} {fd : FuncData} (F : Fun K "_law_same" "_law_same" sSame f fd) (T : TxL mg) : FnW P w K mg base CX0 1 f fd ["actual", "due"] (spSame 0) := by
  obtain ⟨oc, od, kV, doc, pm, an, cdv, ct, osl, rfl, lk, hcd⟩ := F.ex
  refine fn_ofW lk hcd scSa (fun vs H Q E h => ?_) (fun A outer s H vs Q E p hr h => ?_)
  · obtain ⟨x, y, rfl, _⟩ := h
    rfl
  · obtain ⟨x, y, rfl, hs, q⟩ := h
    refine ⟨_, pss_cons (ps_if (PW.pt (pw_or (pt_val (pe_callB call_isi (by rfl) T.isi (by decide +kernel) (pa_cons (pv 1) (pa_cons (pe_bltn (v := .ty "tuple") (by rfl) T.tuple (by decide +kernel) rfl) pa_nil))))
          (pw_or1 (pt_val (pe_callB call_isi (by rfl) T.isi (by decide +kernel) (pa_cons (pv 1) (pa_cons (pe_bltn (v := .ty "list") (by rfl) T.list (by decide +kernel) rfl) pa_nil)))))))
        (pss_cons ps_never (pss_cons ps_never (pss_cons ps_never (pss_one ps_never)))) pss_nil)
      (pss_cons (ps_if (PW.pt (pw_or (pt_cmpR op_isN (pv 1) pe_non (nomark _)) (pw_or1 (pt_val (pe_callB call_isi (by rfl) T.isi (by decide +kernel) (pa_cons (pv 1) (pa_cons (pe_bltn (v := .ty "bool") (by rfl) T.bool (by decide +kernel) rfl) pa_nil)))))))
        (pss_one (ps_ret (pe_and (pe_cmpR op_eq (pe_cmpR op_isN (pv 0) pe_non (nomark _)) (pe_cmpR op_isN (pv 1) pe_non (nomark _)) (nomark _))
          (pe_and (pe_or (pe_cmpR op_isN (pv 1) pe_non (nomark _)) (pe_one (pe_callB call_isi (by rfl) T.isi (by decide +kernel) (pa_cons (pv 0) (pa_cons (pe_bltn (v := .ty "bool") (by rfl) T.bool (by decide +kernel) rfl) pa_nil)))))
            (pe_one (pe_cmpR op_eq (pv 0) (pv 1) (nomark _))))))) pss_nil)
      (pss_cons (ps_if (pt_val (pe_callB call_isi (by rfl) T.isi (by decide +kernel) (pa_cons (pv 1) (pa_cons (pe_bltn (v := .ty "int") (by rfl) T.int (by decide +kernel) rfl) pa_nil))))
        (pss_one (ps_ret (pe_and (pe_callB call_isi (by rfl) T.isi (by decide +kernel) (pa_cons (pv 0) (pa_cons (pe_bltn (v := .ty "int") (by rfl) T.int (by decide +kernel) rfl) pa_nil)))
          (pe_and (pe_not (pe_callB call_isi (by rfl) T.isi (by decide +kernel) (pa_cons (pv 0) (pa_cons (pe_bltn (v := .ty "bool") (by rfl) T.bool (by decide +kernel) rfl) pa_nil))))
            (pe_one (pe_cmpR op_eq (pv 0) (pv 1) (nomark _))))))) pss_nil)
      (pss_one (ps_ret (pe_and (pe_callB call_isi (by rfl) T.isi (by decide +kernel) (pa_cons (pv 0) (pa_cons (pe_bltn (v := .ty "str") (by rfl) T.str (by decide +kernel) rfl) pa_nil)))
          (pe_one (pe_cmpR op_eq (pv 0) (pv 1) (nomark _)))))))), ?_⟩
    cases hs with
    | flat _ hx =>
      cases hx with
      | int i =>
        refine ⟨_, rfl, _, _, _, _, false, rfl, .ty "tuple", tyI, kit_ty (by decide +kernel), _, rfl, iteF ⟨_, rfl, _, _, _, _, false, rfl, .ty "list", tyI, kit_ty (by decide +kernel), _, rfl, iteF ?_⟩⟩
        refine ⟨_, rfl, rfl, _, rfl, iteF ⟨_, rfl, _, _, _, _, false, rfl, .ty "bool", tyI, kit_ty (by decide +kernel), _, rfl, iteF ?_⟩⟩
        refine ⟨_, rfl, _, _, _, _, true, rfl, .ty "int", tyI, kit_same, _, rfl, iteT ?_⟩
        refine ⟨_, rfl, _, _, _, _, true, rfl, .ty "int", tyI, kit_same, _, rfl, iteT ⟨_, rfl, _, _, _, _, false, rfl, .ty "bool", tyI, kit_ty (by decide +kernel), _, rfl, _, rfl, iteT ⟨_, rfl, _, rfl, rfl, ?_⟩⟩⟩
        rw [decide_eq_true rfl]
        exact q
      | bl b =>
        refine ⟨_, rfl, _, _, _, _, false, rfl, .ty "tuple", tyB, kit_ty (by decide +kernel), _, rfl, iteF ⟨_, rfl, _, _, _, _, false, rfl, .ty "list", tyB, kit_ty (by decide +kernel), _, rfl, iteF ?_⟩⟩
        refine ⟨_, rfl, rfl, _, rfl, iteF ⟨_, rfl, _, _, _, _, true, rfl, .ty "bool", tyB, kit_same, _, rfl, iteT ?_⟩⟩
        refine ⟨_, rfl, rfl, _, rfl, rfl, rfl, _, rfl, iteT ⟨_, rfl, rfl, _, rfl, iteF ⟨_, rfl, _, _, _, _, true, rfl, .ty "bool", tyB, kit_same, _, rfl, iteT ⟨_, rfl, _, rfl, rfl, ?_⟩⟩⟩⟩
        rw [decide_eq_true rfl]
        exact q
      | str z =>
        refine ⟨_, rfl, _, _, _, _, false, rfl, .ty "tuple", tyS, kit_ty (by decide +kernel), _, rfl, iteF ⟨_, rfl, _, _, _, _, false, rfl, .ty "list", tyS, kit_ty (by decide +kernel), _, rfl, iteF ?_⟩⟩
        refine ⟨_, rfl, rfl, _, rfl, iteF ⟨_, rfl, _, _, _, _, false, rfl, .ty "bool", tyS, kit_ty (by decide +kernel), _, rfl, iteF ?_⟩⟩
        refine ⟨_, rfl, _, _, _, _, false, rfl, .ty "int", tyS, kit_ty (by decide +kernel), _, rfl, iteF ?_⟩
        refine ⟨_, rfl, _, _, _, _, true, rfl, .ty "str", tyS, kit_same, _, rfl, iteT ⟨_, rfl, _, rfl, rfl, ?_⟩⟩
        rw [decide_eq_true rfl]
        exact q
end
/-! ### Euclid -/
def spRed : Sp := fun vs H Q _ => ∃ (n d : Int), vs = [.int n, .int d] ∧ 0 < d ∧ Bd 1000 d ∧ ∀ (t : Addr) (H' : Hp), Same H H' → H t = none → H' t = some (.tup [.int (rn n d), .int (rd n d)]) → Q (.ref t) H'
section
variable {P : Program} {w : World} {K : PySem.W.Frag} {mg : Str → Option Value} {base : Heap} {C BR : Addr}
theorem scRe : FnScope ["num", "den", "a", "b", "k"] ["num", "den"] (defScope sRed) := ⟨rfl, rfl, rfl, by decide +kernel, rfl, by decide +kernel, by decide +kernel⟩
theorem ok_red {f : Addr} {fd : FuncData} (F : Fun K "_law_less" "_law_less" sRed f fd) (T : Txt K mg C BR) : FnOk P w K mg base CX0 1 f fd ["num", "den"] spRed := by
  refine F.ok scRe (fun vs H Q E h => ?_) (fun cdv A outer s H vs Q E hr h => ?_)
  · obtain ⟨n, d, rfl, _⟩ := h
    rfl
  · obtain ⟨n, d, rfl, hd, bd, k⟩ := h
    have hrest : ∃ t, PSs (cxOf CX0 P w K mg base ["num", "den", "a", "b", "k"] "_law_less" (defScope sRed) f cdv A outer s H E).nox ((defBody sRed).drop 3) t ∧
        ∀ (σ' : L2.St), (∃ v3 v4, σ' = [some (.int n), some (.int d), some (.int (G n d)), v3, v4]) → t { nx := fun _ H' => Q .non H', rt := Q } σ' H := by
      refine ⟨_, pss_one (ps_ret (pe_tup (pa_cons (pe_op op_fdivW (pv 0) (pv 2)) (pa_cons (pe_op op_fdivW (pv 1) (pv 2)) pa_nil)))), ?_⟩
      rintro σ' ⟨v3, v4, rfl⟩
      have hg := G_pos (n := n) hd
      have bg : Bd 1000 (G n d) := Bd.G hd bd
      refine ⟨_, rfl, _, rfl, n, G n d, rfl, rfl, wide_div hg bg (by decide) (by decide), _, rfl, _, rfl, d, G n d, rfl, rfl, wide_div hg bg (by decide) (by decide), (by show 2 ≤ sizeLine; decide), fun p hp => ?_⟩
      exact k p _ (same_upd hp) hp upd_same
    obtain ⟨t, ht, rest⟩ := hrest
    refine ⟨_, pss_cons (ps_set (i := 2) scRe.nd rfl (Or.inl rfl) (pe_callB call_abs (by rfl) T.abs (by decide +kernel) (pa_cons (pv 0) pa_nil)))
      (pss_cons (ps_set (i := 3) scRe.nd rfl (Or.inl rfl) (pv 1))
      (pss_cons (ps_for PassesOwn.never rfl (pi_range1 rfl T.range (pa_cons pe_int pa_nil)) (pg_name (i := 4) scRe.nd rfl (Or.inl rfl))
        (pss_cons (ps_if (pt_cmpR op_eq (pv 3) pe_int (nomark _)) (pss_one ps_break) pss_nil)
        (pss_one (ps_par (i := 2) (j := 3) (by rfl) scRe.nd rfl rfl (by decide) rfl rfl (pa_cons (pv 3) (pa_cons (pe_op op_mod (pe_callTy call_int1 (by rfl) T.int (by decide +kernel) (pa_cons (pv 2) pa_nil)) (pv 3)) pa_nil)) (by rfl))))) ht)), ?_⟩
    have ea : (if n < 0 then -n else n) = (n.natAbs : Int) := by split <;> omega
    refine ⟨_, rfl, n, rfl, _, rfl, 4000, rfl, by decide, by decide, for_range (lo := 0) (n := 4000) (fun i σ H2 => (∃ (A B : Nat) (v4 : Option V), σ = [some (.int n), some (.int d), some (.int (A : Int)), some (.int (B : Int)), v4] ∧ Eu (Nat.gcd n.natAbs d.natAbs) i A B) ∧ H2 = H) ?_ ?_ ?_⟩
    · refine ⟨⟨n.natAbs, d.natAbs, none, ?_, Eu.start bd⟩, rfl⟩
      have ed : d = (d.natAbs : Int) := by omega
      rw [← ea, ← ed]
      rfl
    · rintro i σ H2 hi ⟨⟨A, B, v4, rfl, eu⟩, rfl⟩
      refine ⟨_, rfl, rfl, _, rfl, ite2 (fun z => ?_) (fun z => ?_)⟩
      · have eB : B = 0 := by
          have := V.int.inj (of_decide_eq_true z)
          omega
        subst eB
        have eA := eu.fin
        subst eA
        exact rest _ ⟨_, _, rfl⟩
      · have nB : B ≠ 0 := fun q => z (decide_eq_true (by rw [q]; rfl))
        refine ⟨_, rfl, _, rfl, .inl ⟨_, rfl, _, rfl, _, _, rfl, rfl, (by show (0 : Int) < (B : Int); omega), _, _, rfl, ⟨B, A % B, some (V.int (0 + (i : Int))), ?_, eu.turn nB⟩, rfl⟩⟩
        rw [Int.natCast_emod]
        rfl
    · rintro σ H2 ⟨⟨A, B, v4, rfl, eu⟩, rfl⟩
      have eB := eu.out
      subst eB
      have eA := eu.fin
      subst eA
      exact rest _ ⟨_, _, rfl⟩
end
end K0

set_option Elab.async false
set_option linter.all false
set_option maxRecDepth 100000
set_option maxHeartbeats 4000000
namespace K0
open PySem PySem.Spec PyProof.Rows L2 Kx Kh Kd
/-! ### events as the law draws them -/
def askK (j n : Int) : NestedKey := .tup [.text "asked", .num j, .num n]
def shK (i : Int) : NestedKey := .tup [.text "shown", .num i]
def didK (i : Int) : NestedKey := .tup [.text "did", .num i]
def Sn (n : Int) : Prop := 0 ≤ n ∧ n < 10 ^ 60
inductive EvK : NestedKey → Prop where
  | sh (n : Int) (h : Sn n) : EvK (shK n)
  | did (n : Int) (h : Sn n) : EvK (didK n)
  | ask (n m : Int) (h : Sn n) (h' : Sn m) : EvK (askK n m)
/-- tuples stay -/
def TK (H H' : Hp) : Prop := ∀ a xs, H a = some (.tup xs) → H' a = some (.tup xs)
theorem TK.kp {H H' : Hp} {p : Addr} {b : Int} (P : PoolAt H p b) (k : Kp p H H') : TK H H' := fun a xs z => k _ _ z (P.neT z)
theorem TK.same {H H' : Hp} (s : Same H H') : TK H H' := fun a xs z => s _ _ z
theorem TK.lst {H : Hp} {l : Addr} {vs us : List V} (h : H l = some (.lst vs)) : TK H (upd H l (.lst us)) := fun a xs z => by
  rw [upd_ne (fun q => by rw [q, h] at z; cases z)]
  exact z
theorem TK.trans {H H1 H2 : Hp} (a : TK H H1) (b : TK H1 H2) : TK H H2 := fun c xs z => b _ _ (a _ _ z)
def spEv : Sp := fun vs H Q _ => ∃ (p : Addr) (b : Int), vs = [.ref p] ∧ PoolAt H p b ∧ ∀ (k : NestedKey) (t : Addr) (H' : Hp), EvK k → Nest H' k (.ref t) → PoolAt H' p b → Kp p H H' → Q (.ref t) H'
section
variable {P : Program} {w : World} {K : PySem.W.Frag} {mg : Str → Option Value} {base : Heap} {fD : Addr} {dD : FuncData}
theorem scEv : FnScope ["pool", "kind", "number"] ["pool"] (defScope sEv) := ⟨rfl, rfl, rfl, by decide +kernel, rfl, by decide +kernel, by decide +kernel⟩
theorem ok_ev {f : Addr} {fd : FuncData} (F : Fun K "_law_event" "_law_event" sEv f fd) (D1 : Fn0 P w K mg base 1 "_law_draw" ["pool", "size"] spDraw fD dD) : FnOk P w K mg base CX0 2 f fd ["pool"] spEv := by
  refine F.ok scEv (fun vs H Q E h => ?_) (fun cdv A outer s H vs Q E hr h => ?_)
  · obtain ⟨p, b, rfl, _⟩ := h
    rfl
  · obtain ⟨p, b, rfl, P0, q⟩ := h
    have hr1 : Room 1 _ := hr
    refine ⟨_, pss_cons (ps_set (i := 1) scEv.nd rfl (Or.inl rfl) (pe_ix ix_tup (pe_tup (pa_cons pe_str (pa_cons pe_str (pa_cons pe_str pa_nil)))) (pe_call D1.ok hr1 (by rfl) D1.gl D1.kp D1.bd .nil pass0 (pa_cons (pv 0) (pa_cons pe_int pa_nil))) (fun _ _ => rfl)))
      (pss_cons (ps_set (i := 2) scEv.nd rfl (Or.inl rfl) (pe_ix ix_tup (pe_tup (pa_cons (pe_call D1.ok hr1 (by rfl) D1.gl D1.kp D1.bd .nil pass0 (pa_cons (pv 0) (pa_cons pe_int pa_nil))) (pa_cons (pe_call D1.ok hr1 (by rfl) D1.gl D1.kp D1.bd .nil pass0 (pa_cons (pv 0) (pa_cons pe_int pa_nil))) pa_nil))) (pe_call D1.ok hr1 (by rfl) D1.gl D1.kp D1.bd .nil pass0 (pa_cons (pv 0) (pa_cons pe_int pa_nil))) (fun _ _ => rfl)))
      (pss_cons (ps_if (pt_cmpR op_eq (pv 1) pe_str (nomark _)) (pss_one (ps_ret (pe_tup (pa_cons (pv 1) (pa_cons (pv 2) (pa_cons (pe_call D1.ok hr1 (by rfl) D1.gl D1.kp D1.bd .nil pass0 (pa_cons (pv 0) (pa_cons pe_int pa_nil))) pa_nil)))))) pss_nil)
      (pss_one (ps_ret (pe_tup (pa_cons (pv 1) (pa_cons (pv 2) pa_nil))))))), ?_⟩
    refine ⟨by show 3 ≤ sizeLine; decide, fun t1 ht1 => ⟨_, rfl, p, 3, b, rfl, P0.same (same_upd ht1), by decide, by decide, fun j H1 j0 j1 P1 k1 => ?_⟩⟩
    have kp1 : Kp p H H1 := (Kp.same (same_upd ht1)).trans k1
    have et1 : H1 t1 = some (.tup [.str "shown", .str "asked", .str "did"]) := k1 _ _ upd_same (P0.ne0 ht1)
    obtain ⟨z, hz, ez⟩ := atS (xs := ["shown", "asked", "did"]) j0 j1
    refine ⟨t1, _, _, _, rfl, rfl, SqT.of et1, ez, ?_⟩
    refine ⟨_, rfl, p, 4, b, rfl, P1, by decide, by decide, fun c H2 c0 c1 P2 k2 => ⟨_, rfl, p, 70000, b, rfl, P2, by decide, by decide, fun d H3 d0 d1 P3 k3 => ⟨by show 2 ≤ sizeLine; decide, fun t2 ht2 => ⟨_, rfl, p, 2, b, rfl, P3.same (same_upd ht2), by decide, by decide, fun e H4 e0 e1 P4 k4 => ?_⟩⟩⟩⟩
    have kp4 : Kp p H H4 := ((kp1.trans k2).trans k3).trans ((Kp.same (same_upd ht2)).trans k4)
    have et2 : H4 t2 = some (.tup [.int c, .int d]) := k4 _ _ upd_same (P3.ne0 ht2)
    obtain ⟨n, hn, en⟩ := atN (xs := [c, d]) e0 e1
    have hn2 : Sn n := by
      simp only [List.mem_cons, List.not_mem_nil, or_false] at hn
      unfold Sn
      rcases hn with rfl | rfl <;> omega
    refine ⟨t2, _, _, _, rfl, rfl, SqT.of et2, en, ?_⟩
    refine ⟨_, rfl, rfl, _, rfl, ite2 (fun y => ?_) (fun y => ?_)⟩
    · have hz2 : z = "asked" := V.str.inj (of_decide_eq_true y)
      subst hz2
      refine ⟨_, rfl, _, rfl, _, rfl, p, 9, b, rfl, P4, by decide, by decide, fun m H5 m0 m1 P5 k5 => ⟨by show 3 ≤ sizeLine; decide, fun t ht => ?_⟩⟩
      exact q (askK n m) t _ (.ask n m hn2 ⟨m0, by omega⟩) (.tup upd_same (.cons (.text _) (.cons (.num _) (.cons (.num _) .nil)))) (P5.same (same_upd ht)) ((kp4.trans k5).trans (Kp.same (same_upd ht)))
    · refine ⟨_, rfl, _, rfl, by show 2 ≤ sizeLine; decide, fun t ht => ?_⟩
      simp only [List.mem_cons, List.not_mem_nil, or_false] at hz
      rcases hz with rfl | rfl | rfl
      · exact q (shK n) t _ (.sh n hn2) (.tup upd_same (.cons (.text _) (.cons (.num _) .nil))) (P4.same (same_upd ht)) (kp4.trans (Kp.same (same_upd ht)))
      · exact absurd (decide_eq_true rfl) y
      · exact q (didK n) t _ (.did n hn2) (.tup upd_same (.cons (.text _) (.cons (.num _) .nil))) (P4.same (same_upd ht)) (kp4.trans (Kp.same (same_upd ht)))
end
end K0

set_option Elab.async false
set_option linter.all false
set_option maxRecDepth 100000
set_option maxHeartbeats 4000000
namespace K0
open PySem PySem.Spec PyProof.Rows L2 Kx Kh Kd
/-! ### words of entries -/
def keyW : NestedKey → Str
  | .text z => z
  | .num n => nt n
  | _ => Str.empty
def evW : NestedKey → List Str
  | .tup ks => ks.map keyW
  | _ => []
def linW (evs : List NestedKey) (qs : List (Int × Int)) : List Str := ((("at" : Str) :: evs.flatMap evW) ++ [("do" : Str)]) ++ qs.map fun q => ft q.1 q.2
def linT (evs : List NestedKey) (qs : List (Int × Int)) : Str := Txt.join (" " : Str) (linW evs qs)
def rStr2 : List V → Hp → VK → Prop := fun xs H Q => (∃ i, xs = [.int i] ∧ i.natAbs.log2 < 1920 ∧ Q (.str (nt i)) H) ∨ ∃ a, xs = [.str a] ∧ Q (.str a) H
theorem call_str2 {X : Cx} : CallR X (.type "str") rStr2 := by
  intro pins s σ H xs us Q I r h
  rcases h with h | h
  · exact call_str_int pins s σ H xs us Q I r h
  · exact SkE.call_str_str pins s σ H xs us Q I r h
/-- a part of an event -/
def PtK (k : NestedKey) : Prop := (∃ z, k = .text z ∧ z.length ≤ 10) ∨ ∃ m, k = .num m ∧ Sn m
theorem sn_log {m : Int} (h : Sn m) : m.natAbs.log2 < 1920 := by
  obtain ⟨h0, h1⟩ := h
  exact Nat.lt_of_lt_of_le (PySem.Flt.log2_lt_of (by decide) (show m.natAbs < 2 ^ 200 by omega)) (by decide)
theorem NestL.length {H : Hp} : ∀ {ks : List NestedKey} {vs : List V}, NestL H ks vs → ks.length = vs.length
  | [], [], .nil => rfl
  | _ :: _, _ :: _, .cons a r => by rw [List.length_cons, List.length_cons, NestL.length r]
theorem NestL.get {H : Hp} : ∀ {ks : List NestedKey} {vs : List V}, NestL H ks vs → ∀ {i : Nat} {k : NestedKey} {v : V}, ks[i]? = some k → vs[i]? = some v → Nest H k v
  | _ :: _, _ :: _, .cons a r, 0, _, _, h1, h2 => by cases h1; cases h2; exact a
  | _ :: _, _ :: _, .cons a r, i + 1, _, _, h1, h2 => NestL.get r (by simpa using h1) (by simpa using h2)
theorem wipe_one {σ : L2.St} {i : Nat} (v : V) : wipe ((wipe σ [i]).set i (some v)) [i] = wipe σ [i] := by
  show (((σ.set i none).set i (some v)).set i none) = σ.set i none
  rw [List.set_set, List.set_set]
/-- the texts of an event's parts -/
theorem lc_strs {K : PySem.W.Frag} {a : Addr} {vs : List V} {ks : List NestedKey} {i1 : Nat} {σ : L2.St} {H1 : Hp} {D : Addr} {Qd : Hp → Prop} (hn : NestL H1 ks vs) (hk : ∀ k ∈ ks, PtK k) (hz : ks.length ≤ 100) (ha : H1 a = some (.tup vs)) (h1 : i1 < σ.length) (hD : H1 D = none)
    (hQ : ∀ H' : Hp, H' D = some (.lst ((ks.map keyW).map V.str)) → Same H1 H' → Qd H') :
    ∃ W : Nat → Nat → Hp → Prop, (∃ m, W 0 m (upd H1 D (.lst []))) ∧ ∀ i m H, W i m H →
      ((Itt K a).stop i H ∧ Qd H) ∨ ((Itt K a).go i H ∧ ∃ Nx : Hp → Prop, (∀ H', Nx H' → ∃ m', m' < m ∧ W (i + 1) m' H') ∧ ∀ x H', (Itt K a).yld i H x H' → gName i1 x (wipe σ [i1]) H' fun σ2 H2 => wipe σ2 [i1] = wipe σ [i1] ∧ tYes σ2 H2 fun b H3 =>
        if b = true then tCB rStr2 (tCons (tVar i1) tNil) σ2 H3 fun y H4 => ∃ acc, H4 D = some (.lst acc) ∧ acc.length < sizeLine ∧ Nx (upd H4 D (.lst (acc ++ [y]))) else Nx H3) := by
  have hl := NestL.length hn
  refine lc_it (n := vs.length) (walk_tup (K := K) (a := a) (xs := vs)) (fun i H' => H' D = some (.lst (((ks.take i).map keyW).map V.str)) ∧ Same H1 H') ⟨upd_same, same_upd hD⟩ (fun i H' _ h => SqT.of (h.2 _ _ ha)) ?_ ?_
  · rintro i x H0 H' hi ⟨eD, s'⟩ ⟨rfl, hx⟩
    have hki : i < ks.length := by omega
    have ek := List.getElem?_eq_getElem hki
    have n1 := NestL.get hn ek hx
    have g1 : ((wipe σ [i1]).set i1 (some x))[i1]? = some (some x) := List.getElem?_set_self (by rw [wipe_length]; exact h1)
    refine ⟨wipe_one _, tYesI ⟨_, g1, ?_⟩⟩
    have fin : ∃ acc, H' D = some (.lst acc) ∧ acc.length < sizeLine ∧ (upd H' D (.lst (acc ++ [V.str (keyW ks[i])])) D = some (.lst (((ks.take (i + 1)).map keyW).map V.str)) ∧ Same H1 (upd H' D (.lst (acc ++ [V.str (keyW ks[i])])))) := by
      refine ⟨_, eD, ?_, ?_, fun b o z => ?_⟩
      · rw [List.length_map, List.length_map, List.length_take]
        exact Nat.lt_of_le_of_lt (show min i ks.length ≤ 100 by omega) (by decide)
      · rw [upd_same, List.take_succ_eq_append_getElem hki, List.map_append, List.map_append]
        rfl
      · rw [upd_ne (ne_of_none z hD)]
        exact s' _ _ z
    rcases hk _ (List.getElem_mem hki) with ⟨z, e, _⟩ | ⟨m, e, hm⟩
    · rw [e] at n1 fin
      cases n1
      exact .inr ⟨z, rfl, fin⟩
    · rw [e] at n1 fin
      cases n1
      exact .inl ⟨m, rfl, sn_log hm, fin⟩
  · rintro H' ⟨eD, s'⟩
    rw [← hl, List.take_length] at eD
    exact hQ H' eD s'
end K0

set_option Elab.async false
set_option linter.all false
set_option maxRecDepth 100000
set_option maxHeartbeats 4000000
namespace K0
open PySem PySem.Spec PyProof.Rows L2 Kx Kh Kd
/-- an event as the program writes it -/
def EvP (k : NestedKey) : Prop := ∃ ks, k = .tup ks ∧ ks.length ≤ 10 ∧ ∀ x ∈ ks, PtK x
theorem nt_len' {x : Int} (h : Sn x) : (nt x).length ≤ 1001 := nt_len (Nat.lt_of_lt_of_le (show x.natAbs < 2 ^ 200 by obtain ⟨h0, h1⟩ := h; omega) (by decide))
theorem pt_len {k : NestedKey} (h : PtK k) : (keyW k).length ≤ 3000 := by
  rcases h with ⟨z, rfl, hz⟩ | ⟨m, rfl, hm⟩
  · exact Nat.le_trans hz (by decide)
  · exact Nat.le_trans (nt_len' hm) (by decide)
theorem ft_len {n d : Int} (hn : Bd 1000 n) (hd : Bd 1000 d) : (ft n d).length ≤ 3000 := by
  unfold ft
  have h1 := nt_len hn
  have h2 := nt_len hd
  split
  · omega
  · rw [Str.length_append, Str.length_append]
    have h3 := slash
    omega
theorem sum_len {ws : List Str} (h : ∀ z ∈ ws, z.length ≤ 3000) : (ws.map fun z => z.length).sum ≤ 3000 * ws.length := by
  induction ws with
  | nil => exact Nat.le_refl _
  | cons w r ih =>
    rw [List.map_cons, List.sum_cons, List.length_cons]
    have h1 := h w (List.mem_cons_self ..)
    have h2 := ih fun z hz => h z (List.mem_cons_of_mem _ hz)
    omega
theorem flat_len : ∀ {evs : List NestedKey}, (∀ k ∈ evs, EvP k) → (evs.flatMap evW).length ≤ 10 * evs.length
  | [], _ => Nat.le_refl _
  | k :: r, h => by
    obtain ⟨ks, e, hl, _⟩ := h k (List.mem_cons_self ..)
    have ih := flat_len (evs := r) fun x hx => h x (List.mem_cons_of_mem _ hx)
    rw [List.flatMap_cons, List.length_append, List.length_cons]
    have : (evW k).length ≤ 10 := by
      rw [e]
      show (ks.map keyW).length ≤ 10
      rw [List.length_map]
      exact hl
    omega
theorem flat_all {evs : List NestedKey} (h : ∀ k ∈ evs, EvP k) : ∀ z ∈ evs.flatMap evW, z.length ≤ 3000 := fun z hz => by
  obtain ⟨k, hk, hz⟩ := List.mem_flatMap.mp hz
  obtain ⟨ks, e, _, hp⟩ := h k hk
  rw [e] at hz
  obtain ⟨x, hx, rfl⟩ := List.mem_map.mp hz
  exact pt_len (hp x hx)
def spEL (C : Addr) : Sp := fun vs H Q _ => ∃ (va la : Addr) (evs : List NestedKey) (as : List Addr) (qs : List (Int × Int)), vs = [.ref va, .ref la] ∧ Nest H (.tup evs) (.ref va) ∧ (∀ k ∈ evs, EvP k) ∧ evs.length ≤ 60 ∧ H la = some (.tup (as.map V.ref)) ∧ as.length = qs.length ∧ qs.length ≤ 60 ∧
  (∀ (j : Nat) a q, as[j]? = some a → qs[j]? = some q → RatAt C H a q.1 q.2) ∧ (∀ q ∈ qs, Bd 1000 q.1 ∧ Bd 1000 q.2) ∧ ∀ H', Same H H' → Q (.str (linT evs qs)) H'
section
variable {P : Program} {w : World} {K : PySem.W.Frag} {mg : Str → Option Value} {base : Heap} {C BR : Addr} {fS : Addr} {dS : FuncData}
theorem scEL : FnScope ["view", "lots", "words", "event", "part", "lot"] ["view", "lots"] (defScope sEL) := ⟨rfl, rfl, rfl, by decide +kernel, rfl, by decide +kernel, by decide +kernel⟩
theorem ok_el {f : Addr} {fd : FuncData} (F : Fun K "entry_line" "entry_line" sEL f fd) (T : TxW mg) (GS : FnOk P w K mg base CX0 1 fS dS ["self"] (spStr C)) (aS : PySem.W.findIn K (.ref C) "__str__" = some (some (.ref fS))) (iS : PySem.W.isFn K (.ref fS) = true) (bS : L2.Binds K dS ["self"] []) :
    FnOk P w K mg base CX0 4 f fd ["view", "lots"] (spEL C) := by
  refine F.ok scEL (fun vs H Q E h => ?_) (fun cdv A outer s H vs Q E hr h => ?_)
  · obtain ⟨va, la, evs, as, qs, rfl, _⟩ := h
    rfl
  · obtain ⟨va, la, evs, as, qs, rfl, hv, hev, hez, hla, hal, hqz, hrt, hbd, q⟩ := h
    refine ⟨_, pss_cons (ps_set (i := 2) scEL.nd rfl (Or.inl rfl) (pe_lst (pa_cons pe_str pa_nil)))
      (pss_cons (ps_for PassesOwn.never rfl (pi_tup (pv 0)) (pg_name (i := 3) scEL.nd rfl (Or.inl rfl))
        (pss_one (ps_expr (pe_bm PySem.F.plainAttrs_list PySem.F.slot_list_extend PySem.F.type_list_extend mt_extend (pv 2) (pa_cons (pe_lc (own := [("part", 4)]) (g := gName 4) (tt := tYes) (te := tCB rStr2 (tCons (tVar 4) tNil)) rfl scEL.nd (pi_tup (pv 3)) (blkOk_by (N := ["view", "lots", "words", "event", "part", "lot"]) (sc := defScope sEL) (by decide +kernel))
          (fun _ _ _ _ _ => pg_name (i := 4) scEL.nd rfl (Or.inl rfl)) (fun _ _ _ _ _ => pts_nil) (fun _ _ _ _ _ => pe_callTy call_str2 (by rfl) T.str (by decide +kernel) (pa_cons (pv 4) pa_nil))) pa_nil)))))
      (pss_one (ps_ret (pe_join pe_str (pe_lst (StX.pa_star (pv 2) (pa_cons pe_str (StX.pa_star (pe_lc (own := [("lot", 5)]) (g := gName 5) (tt := tYes) (te := tCB (rStrOwn C (spStr C) E0) (tCons (tVar 5) tNil)) rfl scEL.nd (pi_tup (pv 1)) (blkOk_by (N := ["view", "lots", "words", "event", "part", "lot"]) (sc := defScope sEL) (by decide +kernel))
          (fun _ _ _ _ _ => pg_name (i := 5) scEL.nd rfl (Or.inl rfl)) (fun _ _ _ _ _ => pts_nil) (fun _ _ _ _ _ => pe_callTy (call_strOwn GS hr aS iS bS pass0) (by rfl) T.str (by decide +kernel) (pa_cons (pv 5) pa_nil))) pa_nil)))))))), ?_⟩
    cases hv with
    | @tup _ vvs _ ev nv =>
      have hvl := NestL.length nv
      refine ⟨by show 1 ≤ sizeLine; decide, fun lw hlw => ?_⟩
      have s1 : Same H (upd H lw (.lst [.str "at"])) := same_upd hlw
      refine ⟨_, rfl, va, rfl, ⟨_, SqT.of (s1 _ _ ev)⟩, for_tup (xs := vvs) (fun i σ H' => (∃ v3, σ = [some (.ref va), some (.ref la), some (.ref lw), v3, none, none]) ∧ H' lw = some (.lst (((("at" : Str) :: (evs.take i).flatMap evW)).map V.str)) ∧ ∀ b o, H b = some o → H' b = some o)
        ⟨⟨_, rfl⟩, upd_same, s1⟩ (fun i σ H' _ h => SqT.of (h.2.2 _ _ ev)) ?_ ?_⟩
      · rintro i y σ H1 hy ⟨⟨v3, rfl⟩, e1, s1⟩
        have hi : i < evs.length := by
          have := (List.getElem?_eq_some_iff.mp hy).1
          omega
        have ek := List.getElem?_eq_getElem hi
        have n1 := (NestL.get nv ek hy).keep fun a xs z => s1 _ _ z
        obtain ⟨ks, e, hkl, hkp⟩ := hev _ (List.getElem_mem hi)
        rw [e] at n1
        cases n1 with
        | @tup a pvs _ ea na =>
          refine ⟨_, rfl, .inl ⟨rfl, _, SqL.of e1⟩, _, rfl, a, rfl, ⟨_, SqT.of ea⟩, fun D hD => ?_⟩
          refine lc_strs na hkp (by omega) ea (by show 4 < 6; decide) hD fun H2 eD s2 => ?_
          have e2 := s2 _ _ e1
          have hfl := flat_len (evs := evs.take i) fun x hx => hev x (List.mem_of_mem_take hx)
          have htl : (evs.take i).length = i := by rw [List.length_take]; omega
          refine ⟨lw, D, _, _, rfl, rfl, e2, eD, ?_, ⟨_, rfl⟩, ?_, fun b o z => ?_⟩
          · rw [List.length_map, List.length_cons, List.length_map, List.length_map]
            exact Nat.le_trans (show (evs.take i).flatMap evW |>.length |> (· + 1 + ks.length) |> (· ≤ 1000) by show ((evs.take i).flatMap evW).length + 1 + ks.length ≤ 1000; omega) (by decide)
          · rw [upd_same, List.take_succ_eq_append_getElem hi, List.flatMap_append, ← List.map_append]
            congr 3
            rw [List.flatMap_cons, List.flatMap_nil, List.append_nil, e]
            rfl
          · rw [upd_ne (fun q => by rw [q, hlw] at z; cases z)]
            exact s2 _ _ (s1 _ _ z)
      · rintro σ H1 ⟨⟨v3, rfl⟩, e1, s1⟩
        rw [← hvl, List.take_length] at e1
        have hla1 := s1 _ _ hla
        refine ⟨⟨_, rfl⟩, _, rfl, lw, _, rfl, .inr (SqL.of e1), _, rfl, la, rfl, ⟨_, SqT.of hla1⟩, fun D hD => ?_⟩
        refine lc_it (n := (as.map V.ref).length) (walk_tup (K := K) (a := la) (xs := as.map V.ref)) (fun i H' => H' D = some (.lst (((qs.take i).map fun q => ft q.1 q.2).map V.str)) ∧ Same H1 H') ⟨upd_same, same_upd hD⟩ (fun i H' _ h => SqT.of (h.2 _ _ hla1)) ?_ ?_
        · rintro i x H0 H' hi ⟨eD, s'⟩ ⟨rfl, hx⟩
          obtain ⟨a, ha, rfl⟩ := Option.map_eq_some_iff.mp ((List.getElem?_map ..).symm.trans hx)
          have hiq : i < qs.length := by
            rw [List.length_map] at hi
            omega
          have eq := List.getElem?_eq_getElem hiq
          have R := hrt i a _ ha eq
          obtain ⟨da, ea⟩ := id R
          obtain ⟨b1, b2⟩ := hbd _ (List.getElem_mem hiq)
          have s2 : Same H H' := fun b o z => s' _ _ (s1 _ _ z)
          refine ⟨rfl, tYesI ⟨_, rfl, a, da, _, rfl, s2 _ _ ea, a, _, _, rfl, R.same s2, b1, b2, _, rfl, _, eD, ?_, ?_, fun b o z => ?_⟩⟩
          · rw [List.length_map, List.length_map, List.length_take]
            exact Nat.lt_of_le_of_lt (show min i qs.length ≤ 100 by omega) (by decide)
          · rw [upd_same, List.take_succ_eq_append_getElem hiq, List.map_append, List.map_append]
            rfl
          · rw [upd_ne (ne_of_none z hD)]
            exact s' _ _ z
        · rintro H' ⟨eD, s'⟩
          rw [List.length_map, hal, List.take_length] at eD
          have hfl := flat_len hev
          have hcat : List.map V.str (("at" : Str) :: evs.flatMap evW) ++ (V.str "do" :: (List.map V.str (qs.map fun q => ft q.1 q.2) ++ [])) = (linW evs qs).map V.str := by
            unfold linW
            rw [List.map_append, List.map_append, List.append_nil, List.append_assoc]
            rfl
          have hll : (linW evs qs).length ≤ 700 := by
            unfold linW
            rw [List.length_append, List.length_append, List.length_cons, List.length_map, List.length_singleton]
            omega
          have hls : ∀ z ∈ linW evs qs, z.length ≤ 3000 := fun z hz => by
            unfold linW at hz
            rcases List.mem_append.mp hz with hz | hz
            · rcases List.mem_append.mp hz with hz | hz
              · rcases List.mem_cons.mp hz with rfl | hz
                · decide +kernel
                · exact flat_all hev z hz
              · rw [List.mem_singleton.mp hz]
                decide +kernel
            · obtain ⟨x, hx, rfl⟩ := List.mem_map.mp hz
              exact ft_len (hbd x hx).1 (hbd x hx).2
          refine ⟨D, _, rfl, .inr (SqL.of eD), Nat.le_trans (Nat.le_of_eq (congrArg List.length hcat)) (by rw [List.length_map]; exact Nat.le_trans hll (by decide)), fun g hg => ?_⟩
          refine ⟨_, g, linW evs qs, rfl, rfl, .inl (SqL.of (by rw [upd_same]; exact congrArg (fun z => some (HO.lst z)) hcat)), ?_, q _ fun b o z => same_upd hg _ _ (s' _ _ (s1 _ _ z))⟩
          have h1 := sum_len hls
          have h2 : (" " : Str).length = 1 := by decide +kernel
          rw [h2]
          omega
end
end K0

set_option Elab.async false
set_option linter.all false
set_option maxRecDepth 100000
set_option maxHeartbeats 4000000
namespace K0
open PySem PySem.Spec PyProof.Rows L2 Kx Kh Kd
def evsOf : NestedKey → List NestedKey
  | .tup ks => ks
  | _ => []
def entT (x : Ent) : Str := linT (evsOf x.key) x.lots
/-- an entry that the program writes -/
structure EntW (x : Ent) : Prop where
  key : ∃ evs, x.key = .tup evs ∧ evs.length ≤ 60 ∧ ∀ k ∈ evs, EvP k
  few : x.lots.length ≤ 60
  bd : ∀ q ∈ x.lots, Bd 1000 q.1 ∧ Bd 1000 q.2
def spPLs (K : PySem.W.Frag) (C CP : Addr) : Sp := fun vs H Q _ => ∃ (p : Addr) (xs : List Ent), vs = [.ref p] ∧ PlanAt K C CP H p xs ∧ (∀ x ∈ xs, EntW x) ∧ xs.length ≤ 1000 ∧ ∀ (l : Addr) (H' : Hp), Same H H' → H l = none → H' l = some (.lst ((xs.map entT).map V.str)) → Q (.ref l) H'
section
variable {P : Program} {w : World} {K : PySem.W.Frag} {mg : Str → Option Value} {base : Heap} {C CP BR : Addr} {fL fE : Addr} {dL dE : FuncData}
theorem scPL : FnScope ["plan", "view", "lots"] ["plan"] (defScope sPLs) := ⟨rfl, rfl, rfl, by decide +kernel, rfl, by decide +kernel, by decide +kernel⟩
theorem ok_pls {f : Addr} {fd : FuncData} (F : Fun K "plan_lines" "plan_lines" sPLs f fd) (TP : TxP K mg CP) (GE : FnOk P w K mg base CX0 1 fE dE ["self"] (spEnt K C CP)) (mE : Meth K CP "entries" fE) (bE : L2.Binds K dE ["self"] [])
    (L1 : Fn0 P w K mg base 4 "entry_line" ["view", "lots"] (spEL C) fL dL) : FnOk P w K mg base CX0 5 f fd ["plan"] (spPLs K C CP) := by
  refine F.ok scPL (fun vs H Q E h => ?_) (fun cdv A outer s H vs Q E hr h => ?_)
  · obtain ⟨p, xs, rfl, _⟩ := h
    rfl
  · obtain ⟨p, xs, rfl, PA, hw, hz, q⟩ := h
    have hr1 : Room 1 _ := hr.mono (by decide)
    obtain ⟨⟨dx, m, d, hp, hm⟩, oks⟩ := id PA
    refine ⟨_, pss_one (ps_ret (pe_lc (own := [("view", 1), ("lots", 2)]) (g := gTup K 2 (gCons (gName 1) (gCons (gName 2) gNil))) (tt := tYes) (te := tCall (spEL C) [] E0 (tCons (tVar 1) (tCons (tVar 2) tNil))) rfl scPL.nd (pi_list (pe_meth0 (pv 0) TP.cl mE GE hr1 bE .nil pass0)) (blkOk_by (N := ["plan", "view", "lots"]) (sc := defScope sPLs) (by decide +kernel))
      (fun _ _ _ _ _ => pg_tup rfl (pgs_cons (pg_name (i := 1) scPL.nd rfl (Or.inl rfl)) (pgs_cons (pg_name (i := 2) scPL.nd rfl (Or.inl rfl)) pgs_nil))) (fun _ _ _ _ _ => pts_nil)
      (fun _ _ _ _ _ => pe_call L1.ok hr (by rfl) L1.gl L1.kp L1.bd .nil pass0 (pa_cons (pv 1) (pa_cons (pv 2) pa_nil))))), ?_⟩
    refine ⟨_, rfl, p, dx, _, rfl, hp, pf_no (by decide +kernel) (by decide +kernel), p, xs, rfl, PA, fun l H1 s1 nl hl => ?_⟩
    refine ⟨l, rfl, ⟨_, SqL.of hl⟩, fun D hD => ?_⟩
    have w := walk_list (K := K) (a := l) (xs := xs.map fun x => V.ref x.e)
    rw [List.length_map] at w
    refine lc_it w (fun i H' => H' D = some (.lst (((xs.take i).map entT).map V.str)) ∧ Same H1 H') ⟨upd_same, same_upd hD⟩ (fun i H' _ h => SqL.of (h.2 _ _ hl)) ?_ ?_
    · rintro i x H0 H' hi ⟨eD, s'⟩ ⟨rfl, hx⟩
      obtain ⟨x, hx0, rfl⟩ := Option.map_eq_some_iff.mp ((List.getElem?_map ..).symm.trans hx)
      clear hx
      have hx := hx0
      have X := (oks x (List.mem_of_getElem? hx)).ext (fun b o z => s' _ _ (s1 _ _ z))
      have W := hw x (List.mem_of_getElem? hx)
      obtain ⟨evs, ek, hel, hev⟩ := W.key
      have hv := X.hv
      rw [ek] at hv
      refine ⟨x.e, _, rfl, SqT.of X.he, rfl, _, _, rfl, _, _, rfl, rfl, rfl, tYesI ⟨_, rfl, _, rfl, x.va, x.la, evs, x.as, x.lots, rfl, hv, hev, hel, X.hl, X.len, W.few, X.rat, W.bd, fun H2 s2 => ?_⟩⟩
      refine ⟨_, s2 _ _ eD, ?_, ?_, fun b o z => ?_⟩
      · rw [List.length_map, List.length_map, List.length_take]
        exact Nat.lt_of_le_of_lt (show min i xs.length ≤ 1000 by omega) (by decide)
      · rw [upd_same, List.take_succ_eq_append_getElem hi, List.map_append, List.map_append]
        have e2 : xs[i] = x := (List.getElem?_eq_some_iff.mp hx).2
        rw [e2]
        show some (HO.lst (_ ++ [V.str (linT evs x.lots)])) = some (HO.lst (_ ++ [V.str (linT (evsOf x.key) x.lots)]))
        rw [ek]
        rfl
      · rw [upd_ne (ne_of_none z hD)]
        exact s2 _ _ (s' _ _ z)
    · rintro H' ⟨eD, s'⟩
      rw [List.take_length] at eD
      have hD0 : H D = none := by
        cases e : H D with
        | none => rfl
        | some o =>
          rw [s1 _ _ e] at hD
          cases hD
      exact q D H' (fun b o z => s' _ _ (s1 _ _ z)) hD0 eD
theorem scTx : FnScope ["pair"] ["pair"] (defScope sTx) := ⟨rfl, rfl, rfl, by decide +kernel, rfl, by decide +kernel, by decide +kernel⟩
def spTx : Sp := fun vs H Q _ => ∃ (t : Addr) (n d : Int), vs = [.ref t] ∧ H t = some (.tup [.int n, .int d]) ∧ Bd 1000 n ∧ Bd 1000 d ∧ Q (.str (ft n d)) H
theorem ok_tx {f : Addr} {fd : FuncData} (F : Fun K "_law_text" "_law_text" sTx f fd) (T : TxW mg) : FnOk P w K mg base CX0 1 f fd ["pair"] spTx := by
  refine F.ok scTx (fun vs H Q E h => ?_) (fun cdv A outer s H vs Q E hr h => ?_)
  · obtain ⟨t, n, d, rfl, _⟩ := h
    rfl
  · obtain ⟨t, n, d, rfl, ht, bn, bd, q⟩ := h
    refine ⟨_, pss_cons (ps_if (pt_cmpR op_eq (pe_ix ix_tup (pv 0) pe_int (fun _ _ => rfl)) pe_int (nomark _)) (pss_one (ps_ret (pe_callTy call_str2 (by rfl) T.str (by decide +kernel) (pa_cons (pe_ix ix_tup (pv 0) pe_int (fun _ _ => rfl)) pa_nil)))) pss_nil)
      (pss_one (ps_ret (pe_op op_add_str (pe_op op_add_str (pe_callTy call_str2 (by rfl) T.str (by decide +kernel) (pa_cons (pe_ix ix_tup (pv 0) pe_int (fun _ _ => rfl)) pa_nil)) pe_str) (pe_callTy call_str2 (by rfl) T.str (by decide +kernel) (pa_cons (pe_ix ix_tup (pv 0) pe_int (fun _ _ => rfl)) pa_nil))))), ?_⟩
    have i0 : atI [V.int n, V.int d] 0 = some (.int n) := atI_nat (j := 0) rfl
    have i1 : atI [V.int n, V.int d] 1 = some (.int d) := atI_nat (j := 1) rfl
    refine ⟨_, rfl, t, _, _, _, rfl, rfl, SqT.of ht, i1, rfl, _, rfl, ite2 (fun y => ?_) (fun y => ?_)⟩
    · have hd : d = 1 := V.int.inj (of_decide_eq_true y)
      refine ⟨_, rfl, t, _, _, _, rfl, rfl, SqT.of ht, i0, .inl ⟨n, rfl, log_ok bn, ?_⟩⟩
      unfold ft at q
      rw [if_pos hd] at q
      exact q
    · have hd : ¬ d = 1 := fun e => y (decide_eq_true (by rw [e]))
      unfold ft at q
      rw [if_neg hd] at q
      refine ⟨_, rfl, t, _, _, _, rfl, rfl, SqT.of ht, i0, .inl ⟨n, rfl, log_ok bn, ?_⟩⟩
      have l1 := nt_len bn
      have l2 := nt_len bd
      have l3 := slash
      have l4 : (nt n ++ ("/" : Str)).length ≤ 1002 := by
        rw [Str.length_append]
        omega
      refine ⟨_, _, rfl, rfl, Nat.le_trans (Nat.add_le_add l1 l3) (by decide), _, rfl, t, _, _, _, rfl, rfl, SqT.of ht, i1, .inl ⟨d, rfl, log_ok bd, ?_⟩⟩
      exact ⟨_, _, rfl, rfl, Nat.le_trans (Nat.add_le_add l4 l2) (by decide), q⟩
end
end K0

set_option Elab.async false
set_option linter.all false
set_option maxRecDepth 100000
set_option maxHeartbeats 4000000
namespace K0
open PySem PySem.Spec PyProof.Rows L2 Kx Kh Kd
def PairT (H : Hp) (t : Addr) (q : Int × Int) : Prop := H t = some (.tup [.int q.1, .int q.2])
theorem lin_cat (evs : List NestedKey) (qs : List (Int × Int)) : ((("at" : Str) :: evs.flatMap evW).map V.str ++ [V.str "do"]) ++ (qs.map fun q => ft q.1 q.2).map V.str = (linW evs qs).map V.str := by
  unfold linW
  rw [List.map_append, List.map_append]
  rfl
theorem lin_len {evs : List NestedKey} {qs : List (Int × Int)} (hev : ∀ k ∈ evs, EvP k) (h1 : evs.length ≤ 60) (h2 : qs.length ≤ 60) : (linW evs qs).length ≤ 700 := by
  have hfl := flat_len hev
  unfold linW
  rw [List.length_append, List.length_append, List.length_cons, List.length_map, List.length_singleton]
  omega
theorem lin_all {evs : List NestedKey} {qs : List (Int × Int)} (hev : ∀ k ∈ evs, EvP k) (hbd : ∀ q ∈ qs, Bd 1000 q.1 ∧ Bd 1000 q.2) : ∀ z ∈ linW evs qs, z.length ≤ 3000 := fun z hz => by
  unfold linW at hz
  rcases List.mem_append.mp hz with hz | hz
  · rcases List.mem_append.mp hz with hz | hz
    · rcases List.mem_cons.mp hz with rfl | hz
      · decide +kernel
      · exact flat_all hev z hz
    · rw [List.mem_singleton.mp hz]
      decide +kernel
  · obtain ⟨x, hx, rfl⟩ := List.mem_map.mp hz
    exact ft_len (hbd x hx).1 (hbd x hx).2
theorem lin_join {evs : List NestedKey} {qs : List (Int × Int)} (hev : ∀ k ∈ evs, EvP k) (h1 : evs.length ≤ 60) (h2 : qs.length ≤ 60) (hbd : ∀ q ∈ qs, Bd 1000 q.1 ∧ Bd 1000 q.2) : ((linW evs qs).map fun x => x.length).sum + (linW evs qs).length * (" " : Str).length ≤ 16777216 := by
  have a1 := sum_len (lin_all hev hbd)
  have a2 : (" " : Str).length = 1 := by decide +kernel
  have a3 := lin_len hev h1 h2
  rw [a2]
  omega
def spLn : Sp := fun vs H Q _ => ∃ (e va l : Addr) (evs : List NestedKey) (ts : List Addr) (qs : List (Int × Int)), vs = [.ref e] ∧ H e = some (.tup [.ref va, .ref l]) ∧ Nest H (.tup evs) (.ref va) ∧ (∀ k ∈ evs, EvP k) ∧ evs.length ≤ 60 ∧ H l = some (.lst (ts.map V.ref)) ∧ ts.length = qs.length ∧ qs.length ≤ 60 ∧
  (∀ (j : Nat) t q, ts[j]? = some t → qs[j]? = some q → PairT H t q) ∧ (∀ q ∈ qs, Bd 1000 q.1 ∧ Bd 1000 q.2) ∧ ∀ H', Same H H' → Q (.str (linT evs qs)) H'
section
variable {P : Program} {w : World} {K : PySem.W.Frag} {mg : Str → Option Value} {base : Heap} {fT : Addr} {dT : FuncData}
theorem scLn : FnScope ["entry", "words", "event", "part", "lot"] ["entry"] (defScope sLn) := ⟨rfl, rfl, rfl, by decide +kernel, rfl, by decide +kernel, by decide +kernel⟩
theorem ok_ln {f : Addr} {fd : FuncData} (F : Fun K "_law_line" "_law_line" sLn f fd) (T : TxW mg) (T1 : Fn0 P w K mg base 1 "_law_text" ["pair"] spTx fT dT) : FnOk P w K mg base CX0 2 f fd ["entry"] spLn := by
  refine F.ok scLn (fun vs H Q E h => ?_) (fun cdv A outer s H vs Q E hr h => ?_)
  · obtain ⟨e, va, l, evs, ts, qs, rfl, _⟩ := h
    rfl
  · obtain ⟨e, va, l, evs, ts, qs, rfl, he, hv, hev, hez, hl, htl, hqz, hpt, hbd, q⟩ := h
    refine ⟨_, pss_cons (ps_set (i := 1) scLn.nd rfl (Or.inl rfl) (pe_lst (pa_cons pe_str pa_nil)))
      (pss_cons (ps_for PassesOwn.never rfl (pi_tup (pe_ix ix_tup (pv 0) pe_int (fun _ _ => rfl))) (pg_name (i := 2) scLn.nd rfl (Or.inl rfl))
        (pss_one (ps_set (i := 1) scLn.nd rfl (Or.inl rfl) (pe_op op_cat (pv 1) (pe_lc (own := [("part", 3)]) (g := gName 3) (tt := tYes) (te := tCB rStr2 (tCons (tVar 3) tNil)) rfl scLn.nd (pi_tup (pv 2)) (blkOk_by (N := ["entry", "words", "event", "part", "lot"]) (sc := defScope sLn) (by decide +kernel))
          (fun _ _ _ _ _ => pg_name (i := 3) scLn.nd rfl (Or.inl rfl)) (fun _ _ _ _ _ => pts_nil) (fun _ _ _ _ _ => pe_callTy call_str2 (by rfl) T.str (by decide +kernel) (pa_cons (pv 3) pa_nil)))))))
      (pss_one (ps_ret (pe_join pe_str (pe_op op_cat (pe_op op_cat (pv 1) (pe_lst (pa_cons pe_str pa_nil))) (pe_lc (own := [("lot", 4)]) (g := gName 4) (tt := tYes) (te := tCall spTx [] E0 (tCons (tVar 4) tNil)) rfl scLn.nd (pi_list (pe_ix ix_tup (pv 0) pe_int (fun _ _ => rfl))) (blkOk_by (N := ["entry", "words", "event", "part", "lot"]) (sc := defScope sLn) (by decide +kernel))
          (fun _ _ _ _ _ => pg_name (i := 4) scLn.nd rfl (Or.inl rfl)) (fun _ _ _ _ _ => pts_nil) (fun _ _ _ _ _ => pe_call T1.ok hr (by rfl) T1.gl T1.kp T1.bd .nil pass0 (pa_cons (pv 4) pa_nil)))))))), ?_⟩
    cases hv with
    | @tup _ vvs _ ev nv =>
      have hvl := NestL.length nv
      refine ⟨by show 1 ≤ sizeLine; decide, fun lw0 hlw => ?_⟩
      have s1 : Same H (upd H lw0 (.lst [.str "at"])) := same_upd hlw
      refine ⟨_, rfl, e, _, _, _, rfl, rfl, SqT.of (s1 _ _ he), atI_nat (j := 0) rfl, va, rfl, ⟨_, SqT.of (s1 _ _ ev)⟩, for_tup (xs := vvs) (fun i σ H' => (∃ lw v2, σ = [some (.ref e), some (.ref lw), v2, none, none] ∧ H' lw = some (.lst (((("at" : Str) :: (evs.take i).flatMap evW)).map V.str))) ∧ Same H H')
        ⟨⟨lw0, _, rfl, upd_same⟩, s1⟩ (fun i σ H' _ h => SqT.of (h.2 _ _ ev)) ?_ ?_⟩
      · rintro i y σ H1 hy ⟨⟨lw, v2, rfl, e1⟩, s1⟩
        have hi : i < evs.length := by
          have := (List.getElem?_eq_some_iff.mp hy).1
          omega
        have ek := List.getElem?_eq_getElem hi
        have n1 := (NestL.get nv ek hy).keep fun a xs z => s1 _ _ z
        obtain ⟨ks, ee, hkl, hkp⟩ := hev _ (List.getElem_mem hi)
        rw [ee] at n1
        cases n1 with
        | @tup a pvs _ ea na =>
          refine ⟨_, rfl, _, rfl, a, rfl, ⟨_, SqT.of ea⟩, fun D hD => ?_⟩
          refine lc_strs na hkp (by omega) ea (by show 3 < 5; decide) hD fun H2 eD s2 => ?_
          have e2 := s2 _ _ e1
          have hfl := flat_len (evs := evs.take i) fun x hx => hev x (List.mem_of_mem_take hx)
          have htl2 : (evs.take i).length = i := by rw [List.length_take]; omega
          refine ⟨lw, D, _, _, rfl, rfl, e2, eD, ?_, fun c hc => ⟨⟨c, _, rfl, ?_⟩, fun b o z => same_upd hc _ _ (s2 _ _ (s1 _ _ z))⟩⟩
          · rw [List.length_map, List.length_cons, List.length_map, List.length_map]
            exact Nat.le_trans (show ((evs.take i).flatMap evW).length + 1 + ks.length ≤ 1000 by omega) (by decide)
          · rw [upd_same, List.take_succ_eq_append_getElem hi, List.flatMap_append, ← List.map_append]
            congr 3
            rw [List.flatMap_cons, List.flatMap_nil, List.append_nil, ee]
            rfl
      · rintro σ H1 ⟨⟨lw, v2, rfl, e1⟩, s1⟩
        rw [← hvl, List.take_length] at e1
        have hfl := flat_len hev
        refine ⟨⟨_, rfl⟩, _, rfl, by show 1 ≤ sizeLine; decide, fun d hd => ?_⟩
        have s2 := same_upd (o := .lst [V.str "do"]) hd
        refine ⟨lw, d, _, _, rfl, rfl, s2 _ _ e1, upd_same, ?_, fun c hc => ?_⟩
        · rw [List.length_map, List.length_cons, List.length_singleton]
          exact Nat.le_trans (show (evs.flatMap evW).length + 1 + 1 ≤ 1000 by omega) (by decide)
        have s3 := s2.trans (same_upd (o := .lst (List.map V.str (("at" : Str) :: evs.flatMap evW) ++ [V.str "do"])) hc)
        have s13 : Same H _ := s1.trans s3
        refine ⟨_, rfl, e, _, _, _, rfl, rfl, SqT.of (s13 _ _ he), atI_nat (j := 1) rfl, l, rfl, ⟨_, SqL.of (s13 _ _ hl)⟩, fun D hD => ?_⟩
        refine lc_list (xs := ts.map V.ref) (fun i H' => H' D = some (.lst (((qs.take i).map fun q => ft q.1 q.2).map V.str)) ∧ Same _ H') ⟨upd_same, same_upd hD⟩ (fun i H' _ h => SqL.of (h.2 _ _ (s13 _ _ hl))) ?_ ?_
        · rintro i x H' hx ⟨eD, s'⟩
          obtain ⟨t, ht, rfl⟩ := Option.map_eq_some_iff.mp ((List.getElem?_map ..).symm.trans hx)
          have hiq : i < qs.length := by
            have := (List.getElem?_eq_some_iff.mp ht).1
            omega
          have eq := List.getElem?_eq_getElem hiq
          have R := hpt i t _ ht eq
          obtain ⟨b1, b2⟩ := hbd _ (List.getElem_mem hiq)
          refine ⟨rfl, tYesI ⟨_, rfl, t, _, _, rfl, s' _ _ (s13 _ _ R), b1, b2, _, eD, ?_, ?_, fun b o z => ?_⟩⟩
          · rw [List.length_map, List.length_map, List.length_take]
            exact Nat.lt_of_le_of_lt (show min i qs.length ≤ 100 by omega) (by decide)
          · rw [upd_same, List.take_succ_eq_append_getElem hiq, List.map_append, List.map_append]
            rfl
          · rw [upd_ne (ne_of_none z hD)]
            exact s' _ _ z
        · rintro H' ⟨eD, s'⟩
          rw [List.length_map, htl, List.take_length] at eD
          have hll := lin_len hev hez hqz
          refine ⟨c, D, _, _, rfl, rfl, s' _ _ upd_same, eD, Nat.le_trans (Nat.le_of_eq ((List.length_append).symm.trans (congrArg List.length (lin_cat evs qs)))) (by rw [List.length_map]; exact Nat.le_trans hll (by decide)), fun g hg => ?_⟩
          exact ⟨_, g, linW evs qs, rfl, rfl, .inl (SqL.of (by rw [upd_same, lin_cat])), lin_join hev hez hqz hbd, q _ fun b o z => same_upd hg _ _ (s' _ _ (s13 _ _ z))⟩
end
end K0

set_option Elab.async false
set_option linter.all false
set_option maxRecDepth 100000
set_option maxHeartbeats 4000000
/-! Numbers' and fractions' texts, read again. -/
namespace K0
open PySem PySem.Spec PyProof.Rows L2 Kx Kh Kd TL
theorem cps_nt (m : Nat) : (nt (m : Int)).cps.toList = numL m := tl_num m
theorem numL_head : ∀ m : Nat, 0 < m → (numL m).head? ≠ some 48 := by
  intro m
  induction m using Nat.strongRecOn with
  | _ m ih =>
    intro h
    by_cases h10 : m < 10
    · rw [numL_lt h10]
      intro z
      injection z with z
      omega
    · rw [numL_step (by omega)]
      have h1 := ih (m / 10) (by omega) (by omega)
      have h2 := numL_ne (m / 10)
      cases e : numL (m / 10) with
      | nil => exact absurd e h2
      | cons a r =>
        rw [e] at h1
        exact h1
theorem val_nt (m : Nat) : val (nt (m : Int)) = (m : Int) := by
  unfold val
  rw [cps_nt, numL_val]
theorem len_nt {m : Nat} (h : m < 10 ^ 60) : 1 ≤ (nt (m : Int)).length ∧ (nt (m : Int)).length ≤ 60 := by
  have e : (nt (m : Int)).length = (numL m).length := by rw [len_tl]; exact congrArg List.length (tl_num m)
  rw [e]
  exact ⟨Nat.pos_of_ne_zero fun z => numL_ne m (List.length_eq_zero_iff.mp z), numL_len (by decide) h⟩
theorem dig_nt (m : Nat) : ∀ c ∈ (nt (m : Int)).cps.toList, 48 ≤ c ∧ c ≤ 57 := fun c hc => by
  rw [cps_nt] at hc
  exact numL_digits m c hc
theorem partB_nt {m : Nat} (h : m < 10 ^ 60) : partB (nt (m : Int)) = true := by
  obtain ⟨l1, l2⟩ := len_nt h
  unfold partB
  rw [decide_eq_true l1, decide_eq_true l2, all_made fun c hc => mem_dig (dig_nt m c hc)]
  rfl
theorem begB_nt (m : Nat) : begB (nt (m : Int)) = true := by
  unfold begB
  rw [cps_nt]
  cases m with
  | zero =>
    have : (nt ((0 : Nat) : Int) == ("0" : Str)) = true := by decide +kernel
    rw [this]
    rfl
  | succ m => rw [decide_eq_false (numL_head (m + 1) (by omega)), Bool.not_false, Bool.or_true]
theorem longB_nt {m : Nat} (h : m < 10 ^ 60) : longB (nt (m : Int)) = true := by
  unfold longB
  rw [partB_nt h, begB_nt]
  rfl
/-- the parts of a fraction's text -/
def ftW (n d : Int) : List Str := if d = 1 then [nt n] else [nt n, nt d]
theorem ft_join (n d : Int) : ft n d = Txt.join ("/" : Str) (ftW n d) := by
  unfold ft ftW
  split
  · rfl
  · rfl
end K0

set_option Elab.async false
set_option linter.all false
set_option maxRecDepth 100000
set_option maxHeartbeats 4000000
/-! Parts of a text between single signs. -/
namespace Kl
open PySem PySem.Spec PyProof.Rows L2 TL
theorem pre_one {s c : Nat} {r : List Nat} : pre [s] (c :: r) = (c == s) := by
  unfold pre
  show (([c] : List Nat) == [s]) = _
  cases h : (c == s) with
  | true => rw [eq_of_beq h]; simp
  | false =>
    have : ¬ c = s := fun e => by rw [e] at h; simp at h
    simpa using this
theorem spl1 (s : Nat) : ∀ (l acc : List Nat), spl [s] 0 acc l ≠ [] ∧ (spl [s] 0 acc l).length ≤ l.length + 1 ∧ ∀ p ∈ spl [s] 0 acc l, p.length ≤ acc.length + l.length
  | [], acc => by
    rw [spl_nil]
    exact ⟨by simp, Nat.le_refl _, fun p hp => by rw [List.mem_singleton.mp hp]; exact Nat.le_refl _⟩
  | c :: r, acc => by
    cases h : (c == s) with
    | true =>
      rw [spl_hit (by rw [pre_one]; exact h)]
      obtain ⟨h1, h2, h3⟩ := spl1 s r []
      refine ⟨by simp, Nat.succ_le_succ h2, fun p hp => ?_⟩
      rcases List.mem_cons.mp hp with rfl | hp
      · omega
      · have := h3 p hp
        rw [List.length_cons]
        rw [List.length_nil] at this
        omega
    | false =>
      rw [spl_miss (by rw [pre_one]; exact h)]
      obtain ⟨h1, h2, h3⟩ := spl1 s r (acc ++ [c])
      refine ⟨h1, Nat.le_trans h2 (by rw [List.length_cons]; omega), fun p hp => ?_⟩
      have := h3 p hp
      rw [List.length_append, List.length_singleton] at this
      rw [List.length_cons]
      omega
/-- no part has the sign in it -/
theorem spl1_free (s : Nat) : ∀ (l acc : List Nat), s ∉ acc → ∀ p ∈ spl [s] 0 acc l, s ∉ p
  | [], acc, ha => by
    rw [spl_nil]
    intro p hp
    rw [List.mem_singleton.mp hp]
    exact ha
  | c :: r, acc, ha => by
    cases h : (c == s) with
    | true =>
      rw [spl_hit (by rw [pre_one]; exact h)]
      intro p hp
      rcases List.mem_cons.mp hp with rfl | hp
      · exact ha
      · exact spl1_free s r [] (by simp) p hp
    | false =>
      rw [spl_miss (by rw [pre_one]; exact h)]
      exact spl1_free s r (acc ++ [c]) (fun z => by
        rcases List.mem_append.mp z with z | z
        · exact ha z
        · rw [List.mem_singleton.mp z] at h
          simp at h)
/-- joined again -/
theorem spl1_join (s : Nat) : ∀ (l acc : List Nat), joinL [s] (spl [s] 0 acc l) = acc ++ l
  | [], acc => by
    rw [spl_nil, List.append_nil]
    rfl
  | c :: r, acc => by
    cases h : (c == s) with
    | true =>
      rw [spl_hit (by rw [pre_one]; exact h), eq_of_beq h]
      have ih := spl1_join s r []
      obtain ⟨h1, _⟩ := spl1 s r []
      show joinL [s] (acc :: spl [s] 0 [] r) = _
      cases e : spl [s] 0 [] r with
      | nil => exact absurd e h1
      | cons p q =>
        rw [e] at ih
        show acc ++ ([s] ++ joinL [s] (p :: q)) = _
        rw [ih]
        rfl
    | false =>
      rw [spl_miss (by rw [pre_one]; exact h), spl1_join s r, List.append_assoc]
      rfl
structure One (y : Str) (s : Nat) : Prop where
  tl_ : tl y = [s]
  lo : y.cps.all (· < 256) = true
theorem One.map {y : Str} {s : Nat} (h : One y s) (x : Str) : (Txt.split x y).map tl = spl [s] 0 [] (tl x) := by
  rw [← h.tl_]
  exact split_spl x y (by rw [h.tl_]; simp) (kind_ok h.lo)
theorem One.ne {y : Str} {s : Nat} (h : One y s) (x : Str) : Txt.split x y ≠ [] := fun e => by
  have := h.map x
  rw [e] at this
  exact (spl1 s (tl x) []).1 this.symm
theorem One.count {y : Str} {s : Nat} (h : One y s) (x : Str) : (Txt.split x y).length ≤ x.length + 1 := by
  have := congrArg List.length (h.map x)
  rw [List.length_map] at this
  rw [this, len_tl]
  exact (spl1 s (tl x) []).2.1
theorem One.part {y : Str} {s : Nat} (h : One y s) {x p : Str} (hp : p ∈ Txt.split x y) : p.length ≤ x.length := by
  have := (spl1 s (tl x) []).2.2 (tl p) (by rw [← h.map x]; exact List.mem_map.mpr ⟨p, hp, rfl⟩)
  rw [len_tl, len_tl]
  rw [List.length_nil, Nat.zero_add] at this
  exact this
theorem One.free {y : Str} {s : Nat} (h : One y s) {x p : Str} (hp : p ∈ Txt.split x y) : s ∉ tl p := spl1_free s (tl x) [] (by simp) (tl p) (by rw [← h.map x]; exact List.mem_map.mpr ⟨p, hp, rfl⟩)
theorem One.join {y : Str} {s : Nat} (h : One y s) (x : Str) : Txt.join y (Txt.split x y) = x := by
  refine ext_tl ?_
  rw [join_eq, tl_join, h.map, h.tl_]
  exact spl1_join s (tl x) []
theorem One.back {y : Str} {s : Nat} (h : One y s) {ps : List Str} (hne : ps ≠ []) (hp : ∀ p ∈ ps, s ∉ tl p) : Txt.split (Txt.join y ps) y = ps := split_join h.tl_ h.lo hne hp
theorem one_sp : One (" " : Str) 32 := ⟨by decide +kernel, by decide +kernel⟩
theorem one_sl : One ("/" : Str) 47 := ⟨by decide +kernel, by decide +kernel⟩
/-! ### numbers of few digits -/
theorem dv_lt : ∀ (n : Nat) (l : List Nat), l.length = n → (∀ c ∈ l, 48 ≤ c ∧ c ≤ 57) → PySem.NumText.digitsVal l < 10 ^ n
  | 0, l, h, _ => by
    rw [List.length_eq_zero_iff.mp h]
    decide
  | n + 1, l, h, hd => by
    have hne : l ≠ [] := fun e => by rw [e] at h; cases h
    obtain ⟨r, c, rfl⟩ : ∃ r c, l = r ++ [c] := ⟨l.dropLast, l.getLast hne, (List.dropLast_concat_getLast hne).symm⟩
    rw [PySem.NumText.digitsVal_snoc]
    have ih := dv_lt n r (by rw [List.length_append, List.length_singleton] at h; omega) fun x hx => hd x (List.mem_append_left _ hx)
    have := hd c (List.mem_append_right _ (List.mem_singleton.mpr rfl))
    rw [Nat.pow_succ]
    omega
end Kl

set_option Elab.async false
set_option linter.all false
set_option maxRecDepth 100000
set_option maxHeartbeats 4000000
namespace K0
open PySem PySem.Spec PyProof.Rows L2 Kx Kh Kd TL
theorem split_ft {n d : Nat} : Txt.split (ft (n : Int) (d : Int)) ("/" : Str) = ftW (n : Int) (d : Int) := by
  rw [ft_join]
  refine split_join (s := 47) (S := []) (by decide +kernel) (by decide +kernel) (by unfold ftW; split <;> simp) fun p hp hc => ?_
  have h : ∀ m : Nat, ¬ (47 ∈ (nt (m : Int)).cps.toList) := fun m hm => by
    have := dig_nt m 47 hm
    omega
  unfold ftW at hp
  split at hp
  · rw [List.mem_singleton.mp hp] at hc
    exact h n hc
  · rcases List.mem_cons.mp hp with e | hp
    · rw [e] at hc
      exact h n hc
    · rw [List.mem_singleton.mp hp] at hc
      exact h d hc
def denP : List Str → Int
  | q :: _ => val q
  | [] => 1
def fracP : List Str → Str → Option (Int × Int)
  | [], _ => none
  | p :: r, w => if denP r = 0 then none else if ft (rn (val p) (denP r)) (rd (val p) (denP r)) = w then some (rn (val p) (denP r), rd (val p) (denP r)) else none
theorem fracP_cons (p : Str) (r : List Str) (w : Str) : fracP (p :: r) w = if denP r = 0 then none else if ft (rn (val p) (denP r)) (rd (val p) (denP r)) = w then some (rn (val p) (denP r), rd (val p) (denP r)) else none := rfl
/-- the fraction that a word tells -/
def fracT (w : Str) : Option (Int × Int) := if (Txt.split w ("/" : Str)).all partB = true then fracP (Txt.split w ("/" : Str)) w else none
theorem fracT_ft {n d : Nat} (hn : n < 10 ^ 60) (hd : d < 10 ^ 60) (h0 : 0 < d) (h1 : rn n d = n) (h2 : rd n d = d) : fracT (ft (n : Int) (d : Int)) = some ((n : Int), (d : Int)) := by
  unfold fracT
  rw [split_ft]
  unfold ftW
  by_cases e : (d : Int) = 1
  · have e2 : d = 1 := by omega
    subst e2
    rw [if_pos e]
    rw [List.all_cons, List.all_nil, partB_nt hn, if_pos (by rfl)]
    show (if (1 : Int) = 0 then none else if ft (rn (val (nt (n : Int))) 1) (rd (val (nt (n : Int))) 1) = ft (n : Int) ((1 : Nat) : Int) then some (rn (val (nt (n : Int))) 1, rd (val (nt (n : Int))) 1) else none) = _
    rw [val_nt]
    have h1 : rn n 1 = n := h1
    have h2 : rd n 1 = 1 := h2
    rw [h1, h2, if_neg (by decide), if_pos (show ft (n : Int) 1 = ft (n : Int) ((1 : Nat) : Int) from rfl)]
    rfl
  · rw [if_neg e]
    rw [List.all_cons, List.all_cons, List.all_nil, partB_nt hn, partB_nt hd, if_pos (by rfl)]
    show (if val (nt (d : Int)) = 0 then none else if ft (rn (val (nt (n : Int))) (val (nt (d : Int)))) (rd (val (nt (n : Int))) (val (nt (d : Int)))) = ft (n : Int) (d : Int) then some (rn (val (nt (n : Int))) (val (nt (d : Int))), rd (val (nt (n : Int))) (val (nt (d : Int)))) else none) = _
    rw [val_nt, val_nt, h1, h2, if_neg (by omega), if_pos rfl]
theorem val_bd {z : Str} (h : partB z = true) : val z < 10 ^ 60 ∧ 0 ≤ val z := by
  unfold partB at h
  obtain ⟨h1, h2⟩ := Bool.and_eq_true_iff.mp h
  have l2 := of_decide_eq_true (Bool.and_eq_true_iff.mp h1).2
  have := Kl.dv_lt _ z.cps.toList rfl fun c hc => dig_mem (made_all h2 c hc)
  refine ⟨?_, Int.natCast_nonneg _⟩
  unfold val
  have e : (10 : Nat) ^ z.cps.toList.length ≤ 10 ^ 60 := Nat.pow_le_pow_right (by decide) (by rw [← len_list]; exact l2)
  exact_mod_cast Nat.lt_of_lt_of_le this e
theorem val_B {z : Str} (h : partB z = true) : Bd 200 (val z) := by
  obtain ⟨h1, h2⟩ := val_bd h
  unfold Bd
  refine Nat.lt_of_lt_of_le (m := 10 ^ 60) ?_ (by decide +kernel)
  have e : ((val z).natAbs : Int) = val z := Int.natAbs_of_nonneg h2
  have e2 : ((10 ^ 60 : Nat) : Int) = 10 ^ 60 := by decide +kernel
  omega
/-- what a fraction that is read is like -/
theorem fracT_ok {z : Str} {n d : Int} (h : fracT z = some (n, d)) : 0 ≤ n ∧ 0 < d ∧ Bd 200 n ∧ Bd 200 d ∧ rn n d = n ∧ rd n d = d ∧ z = ft n d := by
  unfold fracT at h
  split at h
  · rename_i ha
    have hpart : ∀ q ∈ Txt.split z ("/" : Str), partB q = true := fun q hq => List.all_eq_true.mp ha q hq
    cases e : Txt.split z ("/" : Str) with
    | nil => exact absurd e (Kl.one_sl.ne z)
    | cons p r =>
      rw [e] at h hpart
      rw [fracP_cons] at h
      have hp := hpart p (List.mem_cons_self ..)
      have hd : Bd 200 (denP r) ∧ 0 ≤ denP r := by
        cases r with
        | nil => exact ⟨Bd.of_small (k := 200) (x := 1) (by decide) (by decide), by decide⟩
        | cons q r2 =>
          have hq := hpart q (List.mem_cons_of_mem _ (List.mem_cons_self ..))
          exact ⟨val_B hq, (val_bd hq).2⟩
      by_cases h0 : denP r = 0
      · rw [if_pos h0] at h
        cases h
      rw [if_neg h0] at h
      split at h
      · rename_i ef
        injection h with h
        obtain ⟨h1, h2⟩ := Prod.mk.inj h
        have hpos : 0 < denP r := by have := hd.2; omega
        have g := G_pos (n := val p) hpos
        have e1 := n_eq (val p) (denP r)
        have e2 := d_eq (val p) (denP r)
        have s1 := rn_scale g (rn (val p) (denP r)) (rd (val p) (denP r))
        have s2 := rd_scale g (rn (val p) (denP r)) (rd (val p) (denP r))
        rw [← e1, ← e2] at s1 s2
        rw [← h1, ← h2]
        refine ⟨?_, rd_pos hpos, (val_B hp).rn hpos, Bd.rd hpos hd.1, s1.symm, s2.symm, ef.symm⟩
        refine Int.not_lt.mp fun q => ?_
        have h3 : K0.G (val p) (denP r) * rn (val p) (denP r) < 0 := Int.mul_neg_of_pos_of_neg g q
        have := (val_bd hp).2
        omega
      · cases h
  · cases h
def spFr (C : Addr) : Sp := fun vs H Q _ => ∃ (w : Str), vs = [.str w] ∧ w.length ≤ 900 ∧ (fracT w = none → ∀ H', Same H H' → Q .non H') ∧ (∀ n d, fracT w = some (n, d) → ∀ (x : Addr) (H' : Hp), Same H H' → RatAt C H' x n d → Q (.ref x) H')
section
variable {P : Program} {w : World} {K : PySem.W.Frag} {mg : Str → Option Value} {base : Heap} {C BR : Addr} {fP fR fS : Addr} {dP dR dS : FuncData}
theorem scFr : FnScope ["word", "parts", "den", "ratio", "part"] ["word"] (defScope sFr) := ⟨rfl, rfl, rfl, by decide +kernel, rfl, by decide +kernel, by decide +kernel⟩
theorem ok_frac {f : Addr} {fd : FuncData} (F : Fun K "fraction_of" "fraction_of" sFr f fd) (T : Txt K mg C BR) (TW : TxW mg) (G : FnOk P w K mg base CX0 2 fP dP ["word"] (spB partB sizeLine)) (gP : mg "is_part" = some (.ref fP)) (kP : PySem.W.keepIn K (.ref fP) = true) (bP : L2.Binds K dP ["word"] [])
    (MR : Mk K C fR) (GR : FnOk P w K mg base (L2.CX P w) 1 fR dR ["self", "num", "den"] (spInit C BR)) (bR : L2.Binds K dR ["self", "num", "den"] []) (GS : FnOk P w K mg base CX0 1 fS dS ["self"] (spStr C)) (aS : PySem.W.findIn K (.ref C) "__str__" = some (some (.ref fS))) (iS : PySem.W.isFn K (.ref fS) = true) (bS : L2.Binds K dS ["self"] []) :
    FnOk P w K mg base CX0 4 f fd ["word"] (spFr C) := by
  refine F.ok scFr (fun vs H Q E h => ?_) (fun cdv A outer s H vs Q E hr h => ?_)
  · obtain ⟨x, rfl, _⟩ := h
    rfl
  · obtain ⟨x, rfl, hx9, q1, q2⟩ := h
    have hx : x.length + 2 ≤ sizeLine := Nat.le_trans (show x.length + 2 ≤ 1000 by omega) (by decide)
    have hne := Kl.one_sl.ne x
    have hz : ∀ z ∈ Txt.split x ("/" : Str), z.length ≤ sizeLine ∧ (partB z = true → Bd 900 (val z)) := fun z hz => ⟨Nat.le_trans (Kl.one_sl.part hz) (by omega), fun h => (val_B h).le (by decide)⟩
    have hl : (Txt.split x ("/" : Str)).length ≤ 1000 := Nat.le_trans (Kl.one_sl.count x) (by omega)
    have hr2 : Room 2 _ := hr.mono (by decide)
    have hrest : ∃ t, PSs (cxOf CX0 P w K mg base ["word", "parts", "den", "ratio", "part"] "fraction_of" (defScope sFr) f cdv A outer s H E).nox ((defBody sFr).drop 3) t ∧ ∀ (H' : Hp) (p : Addr) (p0 : Str) (r : List Str) (v3 v4 : Option V), Same H H' → H' p = some (.lst ((p0 :: r).map V.str)) → fracT x = fracP (p0 :: r) x → partB p0 = true → Bd 900 (val p0) → Bd 900 (denP r) → 0 ≤ denP r →
        t { nx := fun _ H' => Q .non H', rt := Q } [some (.str x), some (.ref p), some (.int (denP r)), v3, v4] H' := by
      refine ⟨_, pss_cons (ps_if (pt_cmpR op_eq (pv 2) pe_int (nomark _)) (pss_one (ps_ret pe_non)) pss_nil)
        (pss_cons (ps_set (i := 3) scFr.nd rfl (Or.inl rfl) (pe_make MR GR hr2 rfl T.mgC bR .nil passL (pa_cons (pe_callTy call_int_str (by rfl) TW.int (by decide +kernel) (pa_cons (pe_ix ix_list (pv 1) pe_int (fun _ _ => rfl)) pa_nil)) (pa_cons (pv 2) pa_nil))))
        (pss_one (ps_ret (pe_ifExp (pt_cmpR op_eq (pe_callTy (call_strOwn GS hr aS iS bS pass0) (by rfl) TW.str (by decide +kernel) (pa_cons (pv 3) pa_nil)) (pv 0) (nomark _)) (pv 3) pe_non)))), ?_⟩
      intro H' p p0 r v3 v4 s1 ep hf hp bv bd d0
      obtain ⟨i0, l0⟩ := int_of hp
      refine ⟨_, rfl, rfl, _, rfl, ite2 (fun y => ?_) (fun y => ?_)⟩
      · have hd : denP r = 0 := V.int.inj (of_decide_eq_true y)
        refine q1 ?_ _ s1
        rw [hf, fracP_cons, if_pos hd]
      · have hd : ¬ denP r = 0 := fun e => y (decide_eq_true (by rw [e]))
        have hdp : 0 < denP r := by omega
        refine ⟨_, rfl, p, _, _, _, rfl, rfl, SqL.of ep, atI_nat (j := 0) rfl, p0, val p0, rfl, i0, Nat.le_trans l0 (by decide), _, rfl, fun z dz nz ndz nez => ?_⟩
        refine ⟨z, dz, val p0, denP r, rfl, upd_same, bd.le (by decide), fun q => absurd hdp (by omega), fun _ H2 hR kp => ⟨rfl, ?_⟩⟩
        have s2 : Same H' H2 := Same.made nz ndz kp
        obtain ⟨dz2, ez⟩ := id hR
        refine ⟨_, rfl, z, dz2, _, rfl, ez, z, _, _, rfl, hR, (bv.le (by decide)).rn hdp, Bd.rd hdp (bd.le (by decide)), _, rfl, _, rfl, rfl, _, rfl, ?_⟩
        by_cases ew : ft (rn (val p0) (denP r)) (rd (val p0) (denP r)) = x
        · have e2 : fracT x = some (rn (val p0) (denP r), rd (val p0) (denP r)) := by
            rw [hf, fracP_cons, if_neg hd, if_pos ew]
          rw [ew, decide_eq_true rfl]
          exact iteT ⟨_, rfl, q2 _ _ e2 z H2 (fun b o w => s2 _ _ (s1 _ _ w)) hR⟩
        · have e2 : fracT x = none := by
            rw [hf, fracP_cons, if_neg hd, if_neg ew]
          rw [decide_eq_false (fun e => ew (V.str.inj e))]
          exact iteF (q1 e2 _ fun b o w => s2 _ _ (s1 _ _ w))
    obtain ⟨t, ht, rest⟩ := hrest
    refine ⟨_, pss_cons (ps_set (i := 1) scFr.nd rfl (Or.inl rfl) (pe_split (pv 0) pe_str))
      (pss_cons (ps_if (pt_not (pt_val (pe_callB (cr_all rfl) (by rfl) TW.all (by decide +kernel) (pa_cons (pe_lc (own := [("part", 4)]) (g := gName 4) (tt := tYes) (te := tCall (spB partB sizeLine) [] E0 (tCons (tVar 4) tNil)) rfl scFr.nd (pi_list (pv 1)) (blkOk_by (N := ["word", "parts", "den", "ratio", "part"]) (sc := defScope sFr) (by decide +kernel))
          (fun _ _ _ _ _ => pg_name (i := 4) scFr.nd rfl (Or.inl rfl)) (fun _ _ _ _ _ => pts_nil) (fun _ _ _ _ _ => pe_call G hr2 (by rfl) gP kP bP .nil pass0 (pa_cons (pv 4) pa_nil))) pa_nil)))) (pss_one (ps_ret pe_non)) pss_nil)
      (pss_cons (ps_set (i := 2) scFr.nd rfl (Or.inl rfl) (pe_ifExp (pt_cmpR op_gt (pe_callB call_len_seq (by rfl) TW.len PySem.boot_len (pa_cons (pv 1) pa_nil)) pe_int (nomark _)) (pe_callTy call_int_str (by rfl) TW.int (by decide +kernel) (pa_cons (pe_ix ix_list (pv 1) pe_int (fun _ _ => rfl)) pa_nil)) pe_int)) ht)), ?_⟩
    refine ⟨_, rfl, ⟨_, rfl⟩, x, _, rfl, rfl, by decide +kernel, hx, fun p hp => ?_⟩
    have s1 : Same H (upd H p (.lst ((Txt.split x ("/" : Str)).map V.str))) := same_upd hp
    have ep : upd H p (.lst ((Txt.split x ("/" : Str)).map V.str)) p = some (.lst ((Txt.split x ("/" : Str)).map V.str)) := upd_same
    generalize upd H p (.lst ((Txt.split x ("/" : Str)).map V.str)) = H1 at *
    obtain ⟨ps, hps⟩ : ∃ ps, ps = Txt.split x ("/" : Str) := ⟨_, rfl⟩
    rw [← hps] at ep hne hz hl
    refine ⟨_, rfl, p, rfl, ⟨_, SqL.of ep⟩, fun D hD => ?_⟩
    refine lc_list (xs := ps.map V.str) (fun i H' => H' D = some (.lst (((ps.take i).map partB).map V.bl)) ∧ Same H1 H') ⟨upd_same, same_upd hD⟩ (fun i H' _ h => SqL.of (h.2 _ _ ep)) ?_ ?_
    · rintro i y H' hy ⟨eD, s'⟩
      obtain ⟨z, hz0, rfl⟩ := Option.map_eq_some_iff.mp ((List.getElem?_map ..).symm.trans hy)
      have hi : i < ps.length := (List.getElem?_eq_some_iff.mp hz0).1
      refine ⟨rfl, tYesI ⟨_, rfl, z, rfl, (hz z (List.mem_of_getElem? hz0)).1, fun H2 s2 => ?_⟩⟩
      refine ⟨_, s2 _ _ eD, ?_, ?_, fun b o w => ?_⟩
      · rw [List.length_map, List.length_map, List.length_take]
        exact Nat.lt_of_le_of_lt (show min i ps.length ≤ 1000 by omega) (by decide)
      · rw [upd_same, List.take_succ_eq_append_getElem hi, List.map_append, List.map_append, (List.getElem?_eq_some_iff.mp hz0).2]
        rfl
      · rw [upd_ne (ne_of_none w hD)]
        exact s2 _ _ (s' _ _ w)
    · rintro H2 ⟨eD, s2⟩
      rw [List.length_map, List.take_length] at eD
      have ep2 := s2 _ _ ep
      have sH2 : Same H H2 := s1.trans s2
      refine ⟨D, _, rfl, SqL.of eD, ?_⟩
      have eall : (ps.map partB).all id = ps.all partB := by rw [List.all_map]; rfl
      rw [eall]
      cases ha : ps.all partB with
      | false =>
        refine ⟨_, rfl, iteT (q1 ?_ _ sH2)⟩
        unfold fracT
        rw [← hps, ha]
        rfl
      | true =>
        refine ⟨_, rfl, iteF ?_⟩
        have hf : fracT x = fracP ps x := by
          unfold fracT
          rw [← hps, ha, if_pos rfl]
        have hpart : ∀ z ∈ ps, partB z = true := fun z hz => List.all_eq_true.mp ha z hz
        obtain ⟨p0, r, rfl⟩ : ∃ p0 r, ps = p0 :: r := by
          cases ps with
          | nil => exact absurd rfl hne
          | cons a r => exact ⟨a, r, rfl⟩
        obtain ⟨i0, l0⟩ := int_of (hpart p0 (List.mem_cons_self ..))
        have b0 := (hz p0 (List.mem_cons_self ..)).2 (hpart p0 (List.mem_cons_self ..))
        cases r with
        | nil =>
          refine ⟨_, rfl, p, _, rfl, .inl (SqL.of ep2), _, _, rfl, rfl, _, rfl, ite2 (fun y => absurd (of_decide_eq_true y) (by show ¬ (1 : Int) < ((1 : Nat) : Int); decide)) (fun _ => ?_)⟩
          exact rest H2 p p0 [] _ _ sH2 ep2 hf (hpart p0 (List.mem_cons_self ..)) b0 (Bd.of_small (k := 900) (x := 1) (by decide) (by decide)) (by decide)
        | cons q r2 =>
          obtain ⟨i1, l1⟩ := int_of (hpart q (List.mem_cons_of_mem _ (List.mem_cons_self ..)))
          refine ⟨_, rfl, p, _, rfl, .inl (SqL.of ep2), _, _, rfl, rfl, _, rfl, ite2 (fun _ => ?_) (fun y => absurd (decide_eq_true (by rw [List.length_map, List.length_cons, List.length_cons]; omega)) y)⟩
          refine ⟨_, rfl, p, _, _, _, rfl, rfl, SqL.of ep2, atI_nat (j := 1) rfl, q, val q, rfl, i1, Nat.le_trans l1 (by decide), ?_⟩
          exact rest H2 p p0 (q :: r2) _ _ sH2 ep2 hf (hpart p0 (List.mem_cons_self ..)) b0 ((hz q (List.mem_cons_of_mem _ (List.mem_cons_self ..))).2 (hpart q (List.mem_cons_of_mem _ (List.mem_cons_self ..)))) (Int.natCast_nonneg _)
end
end K0

set_option Elab.async false
set_option linter.all false
set_option maxRecDepth 100000
set_option maxHeartbeats 4000000
/-! A view's words, read again. -/
namespace K0
open PySem PySem.Spec PyProof.Rows L2 Kx Kh Kd TL
/-- how many numbers an event's word wants -/
def evN (z : Str) : Option Nat := if z = "shown" then some 1 else if z = "asked" then some 2 else if z = "did" then some 1 else none
/-- the view that words tell -/
def viewT : Nat → List Str → Option (List NestedKey)
  | _, [] => some []
  | 0, _ :: _ => none
  | n + 1, z :: r => match evN z with
    | none => none
    | some m => if (decide (m ≤ r.length) && (r.take m).all longB) = true then (viewT n (r.drop m)).map (fun vs => NestedKey.tup (NestedKey.text z :: (r.take m).map fun q => NestedKey.num (val q)) :: vs) else none
theorem evN_sh : evN ("shown" : Str) = some 1 := by decide +kernel
theorem evN_ask : evN ("asked" : Str) = some 2 := by decide +kernel
theorem evN_did : evN ("did" : Str) = some 1 := by decide +kernel
theorem long_sn {n : Int} (h : Sn n) : longB (nt n) = true ∧ val (nt n) = n := by
  obtain ⟨m, rfl⟩ : ∃ m : Nat, n = (m : Int) := ⟨n.toNat, by have := h.1; omega⟩
  have h1 := h.2
  exact ⟨longB_nt (show m < 10 ^ 60 by omega), val_nt m⟩
theorem viewT_one {z : Str} {a : Int} (hz : evN z = some 1) (ha : Sn a) (n : Nat) (r : List Str) : viewT (n + 1) (z :: nt a :: r) = (viewT n r).map (fun vs => NestedKey.tup [.text z, .num a] :: vs) := by
  obtain ⟨h1, h2⟩ := long_sn ha
  show (match evN z with
    | none => none
    | some m => if (decide (m ≤ (nt a :: r).length) && ((nt a :: r).take m).all longB) = true then (viewT n ((nt a :: r).drop m)).map (fun vs => NestedKey.tup (NestedKey.text z :: ((nt a :: r).take m).map fun q => NestedKey.num (val q)) :: vs) else none) = _
  rw [hz]
  dsimp only
  rw [decide_eq_true (show 1 ≤ (nt a :: r).length by rw [List.length_cons]; omega), List.take_succ_cons, List.take_zero, List.all_cons, List.all_nil, h1, if_pos (by rfl), List.map_cons, List.map_nil, h2]
  rfl
theorem viewT_two {z : Str} {a b : Int} (hz : evN z = some 2) (ha : Sn a) (hb : Sn b) (n : Nat) (r : List Str) : viewT (n + 1) (z :: nt a :: nt b :: r) = (viewT n r).map (fun vs => NestedKey.tup [.text z, .num a, .num b] :: vs) := by
  obtain ⟨h1, h2⟩ := long_sn ha
  obtain ⟨h3, h4⟩ := long_sn hb
  show (match evN z with
    | none => none
    | some m => if (decide (m ≤ (nt a :: nt b :: r).length) && ((nt a :: nt b :: r).take m).all longB) = true then (viewT n ((nt a :: nt b :: r).drop m)).map (fun vs => NestedKey.tup (NestedKey.text z :: ((nt a :: nt b :: r).take m).map fun q => NestedKey.num (val q)) :: vs) else none) = _
  rw [hz]
  dsimp only
  rw [decide_eq_true (show 2 ≤ (nt a :: nt b :: r).length by rw [List.length_cons, List.length_cons]; omega), List.take_succ_cons, List.take_succ_cons, List.take_zero, List.all_cons, List.all_cons, List.all_nil, h1, h3, if_pos (by rfl), List.map_cons, List.map_cons, List.map_nil, h2, h4]
  rfl
theorem view_back : ∀ {evs : List NestedKey} {n : Nat}, (∀ k ∈ evs, EvK k) → evs.length ≤ n → viewT n (evs.flatMap evW) = some evs
  | [], n, _, _ => by
    rw [List.flatMap_nil]
    cases n <;> rfl
  | k :: r, 0, _, h => by
    rw [List.length_cons] at h
    omega
  | k :: r, n + 1, hk, hl => by
    have ih := view_back (evs := r) (n := n) (fun x hx => hk x (List.mem_cons_of_mem _ hx)) (by rw [List.length_cons] at hl; omega)
    rw [List.flatMap_cons]
    cases hk k (List.mem_cons_self ..) with
    | sh a ha =>
      show viewT (n + 1) (("shown" : Str) :: nt a :: r.flatMap evW) = _
      rw [viewT_one evN_sh ha, ih]
      rfl
    | did a ha =>
      show viewT (n + 1) (("did" : Str) :: nt a :: r.flatMap evW) = _
      rw [viewT_one evN_did ha, ih]
      rfl
    | ask a b ha hb =>
      show viewT (n + 1) (("asked" : Str) :: nt a :: nt b :: r.flatMap evW) = _
      rw [viewT_two evN_ask ha hb, ih]
      rfl
/-- an event as the law draws it is one as the program writes it -/
theorem EvK.evP {k : NestedKey} (h : EvK k) : EvP k := by
  cases h with
  | sh a ha => exact ⟨_, rfl, by show 2 ≤ 10; decide, fun x hx => by
      simp only [List.mem_cons, List.not_mem_nil, or_false] at hx
      rcases hx with rfl | rfl
      · exact .inl ⟨_, rfl, by decide +kernel⟩
      · exact .inr ⟨_, rfl, ha⟩⟩
  | did a ha => exact ⟨_, rfl, by show 2 ≤ 10; decide, fun x hx => by
      simp only [List.mem_cons, List.not_mem_nil, or_false] at hx
      rcases hx with rfl | rfl
      · exact .inl ⟨_, rfl, by decide +kernel⟩
      · exact .inr ⟨_, rfl, ha⟩⟩
  | ask a b ha hb => exact ⟨_, rfl, by show 3 ≤ 10; decide, fun x hx => by
      simp only [List.mem_cons, List.not_mem_nil, or_false] at hx
      rcases hx with rfl | rfl | rfl
      · exact .inl ⟨_, rfl, by decide +kernel⟩
      · exact .inr ⟨_, rfl, ha⟩
      · exact .inr ⟨_, rfl, hb⟩⟩
end K0

set_option Elab.async false
set_option linter.all false
set_option maxRecDepth 100000
set_option maxHeartbeats 4000000
/-! d.get(text, value) of a dict of the written part. -/
namespace Ki
open PySem PySem.Spec PyProof.Rows L2
def rKGet (K : PySem.W.Frag) (w : World) : V → List V → Hp → VK → Prop := fun x vs H Q => ∃ (d : Addr) (es : Array DictEntry) (n : Nat) (z : Str) (u : V) (r : Option Value), x = .ref d ∧ L2.KDict K w d es n ∧ vs = [.str z, u] ∧ PySem.W.nsIn K d z = some r ∧
  (r = none → Q u H) ∧ ∀ u0, r = some u0 → ∃ v0, RelV v0 u0 ∧ Q v0 H
theorem find_ns {K : PySem.W.Frag} {d : Addr} {es : Array DictEntry} {n : Nat} {z : Str} {r : Option Value} (hl : List.lookup d K = some { cls := Value.type "dict", data := Data.dict es n }) (h : PySem.W.nsIn K d z = some r) : findBy Value.isStrOf es z = r := by
  unfold PySem.W.nsIn at h
  rw [hl] at h
  dsimp only at h
  unfold findBy
  have e : (fun e : DictEntry => Value.isStrOf z e.key) = fun e => e.key.isStr z := by
    funext e
    cases e.key <;> rfl
  rw [e, ← Array.find?_toList]
  cases hf : List.find? (fun x => x.key.isStr z) es.toList with
  | some x =>
    rw [hf] at h
    dsimp only at h
    (injection h with h) <;> (first | (rw [← h]; rfl) | rw [← h])
  | none =>
    rw [hf] at h
    dsimp only at h
    split at h
    · cases h
    · (injection h with h) <;> (first | (rw [← h]; rfl) | rw [← h])
theorem mt_kget {X : Cx} : MtR X "dict.get" (rKGet X.K X.w) := by
  intro pins s σ H x xs v us Q I rx rv h
  obtain ⟨d, es, n, z, u, r, rfl, D, rfl, hn, q1, q2⟩ := h
  obtain ⟨u1, u2, rfl, r1, r2⟩ := vals2 rv
  cases (show v = Value.ref d from rx)
  obtain ⟨t, rfl⟩ : ∃ t, u1 = Value.str z t := r1
  refine call_meetsIn (T := "dict") (name := "get") PySem.F.slot_dict_get ⟨_, I.kIn _ _ D.at_, rfl⟩ PySem.F.entry_dict_get (PySem.F.args_dict_get_3 _ _ _) (meets_dict_get_default (strKind X.prog X.w) (k := z) d (by show (z == z) = true; simp) D.low u2) ⟨_, PySem.W.mapOf_K I.kIn D.at_ D.lit, ?_⟩
  show EP X pins σ Q ((findBy Value.isStrOf es z).getD u2) _
  rw [find_ns D.at_ hn]
  cases r with
  | none => exact ⟨u, H, I.tok _, r2, q1 rfl⟩
  | some u0 =>
    obtain ⟨v0, rv0, q⟩ := q2 u0 rfl
    exact ⟨v0, H, I.tok _, rv0, q⟩
/-- o.get(e, f) of such a dict -/
def tKGet2 (K : PySem.W.Frag) (w : World) (td ty tx : TE) : TE := fun σ H Q => td σ H fun x H1 => ∃ (d : Addr) (es : Array DictEntry) (n : Nat), x = .ref d ∧ L2.KDict K w d es n ∧ ty σ H1 fun y H2 => ∃ z : Str, y = .str z ∧ tx σ H2 fun u H3 => ∃ r : Option Value, PySem.W.nsIn K d z = some r ∧
  (r = none → Q u H3) ∧ ∀ u0, r = some u0 → ∃ v0, RelV v0 u0 ∧ Q v0 H3
theorem pe_kget2 {X : Cx} {o e f : Expr} {apos cpos : Pos} {td ty tx : TE} (ho : PE X o td) (he : PE X e ty) (hf : PE X f tx) (hb : attributeBase o "get" X.env (eval o X.env) = eval o X.env := by rfl) (hl : (apos.endLine == cpos.line) = true := by rfl)
    (ht : backTo cpos (starEach [e, f] X.env) = [(false, eval e X.env), (false, eval f X.env)] := by rfl) : PE X (.Call (.Attribute o "get" apos) [e, f] [] cpos) (tKGet2 X.K X.w td ty tx) := ⟨fun pins s σ H Q I h => by
  refine wpAny_Call_method2_late hb hl ht (wpAny_mono (ho.run pins s σ H _ I h) (fun ov s1 hh => ?_) fun _ _ z => z)
  obtain ⟨x, H1, I1, rx, d, es, n, rfl, D, h1⟩ := hh
  cases (show ov = Value.ref d from rx)
  refine ⟨"dict", "dict.get", PySem.F.plainAttrs_dict, PySem.F.slot_dict_get, PySem.F.type_dict_get, ⟨_, I1.kIn _ _ D.at_, rfl⟩, fun a ea => ?_, ?_⟩
  · cases ea
    exact ⟨_, I1.kIn _ _ D.at_, rfl⟩
  refine wpAny_dict_get2 (knd := strKind X.prog X.w) D.low (wpAny_mono (he.run pins s1 σ H1 _ I1 h1) (fun key s2 hh2 => ?_) fun _ _ z => z)
  obtain ⟨y, H2, I2, ry, z, rfl, h2⟩ := hh2
  obtain ⟨t, rfl⟩ : ∃ t, key = Value.str z t := ry
  refine wpAny_mono (hf.run pins s2 σ H2 _ I2 h2) (fun dv s3 hh3 => ?_) fun _ _ z => z
  obtain ⟨u, H3, I3, ru, r, hn, q1, q2⟩ := hh3
  refine ⟨z, _, by show (z == z) = true; simp, PySem.W.mapOf_K I3.kIn D.at_ D.lit, ?_⟩
  show EP X pins σ Q ((findBy Value.isStrOf es z).getD dv) _
  rw [find_ns D.at_ hn]
  cases r with
  | none => exact ⟨u, H3, I3.tok _, ru, q1 rfl⟩
  | some u0 =>
    obtain ⟨v0, rv0, q⟩ := q2 u0 rfl
    exact ⟨v0, H3, I3.tok _, rv0, q⟩⟩
end Ki

set_option Elab.async false
set_option linter.all false
set_option maxRecDepth 100000
set_option maxHeartbeats 4000000
/-! Comprehensions whose element is made of each item by itself. -/
namespace Kj
open PySem PySem.Spec PyProof.Rows L2 K0
theorem wipe_set {σ : L2.St} {i : Nat} (v : V) : wipe ((wipe σ [i]).set i (some v)) [i] = wipe σ [i] := by
  show (((σ.set i none).set i (some v)).set i none) = σ.set i none
  rw [List.set_set, List.set_set]
/-- over a list -/
theorem lc_map {α : Type} {K : PySem.W.Frag} {a : Addr} {i1 : Nat} {σ : L2.St} {H1 : Hp} {D : Addr} {te : TE} {Qd : Hp → Prop} (items : List α) (src out : α → V) (hl : SqL K H1 a (items.map src)) (hn : items.length < sizeLine) (hD : H1 D = none)
    (he : ∀ x ∈ items, ∀ (H' : Hp), Same H1 H' → ∀ Q : VK, (∀ H4, Same H' H4 → Q (out x) H4) → te ((wipe σ [i1]).set i1 (some (src x))) H' Q) (hQ : ∀ H' : Hp, Same H1 H' → H' D = some (.lst (items.map out)) → Qd H') :
    ∃ W : Nat → Nat → Hp → Prop, (∃ m, W 0 m (upd H1 D (.lst []))) ∧ ∀ i m H, W i m H →
      ((Itl K a).stop i H ∧ Qd H) ∨ ((Itl K a).go i H ∧ ∃ Nx : Hp → Prop, (∀ H', Nx H' → ∃ m', m' < m ∧ W (i + 1) m' H') ∧ ∀ x H', (Itl K a).yld i H x H' → gName i1 x (wipe σ [i1]) H' fun σ2 H2 => wipe σ2 [i1] = wipe σ [i1] ∧ tYes σ2 H2 fun b H3 =>
        if b = true then te σ2 H3 fun y H4 => ∃ acc, H4 D = some (.lst acc) ∧ acc.length < sizeLine ∧ Nx (upd H4 D (.lst (acc ++ [y]))) else Nx H3) := by
  refine lc_list (xs := items.map src) (fun i H' => H' D = some (.lst ((items.take i).map out)) ∧ Same H1 H') ⟨upd_same, same_upd hD⟩ (fun i H' _ h => hl.ext h.2) ?_ ?_
  · rintro i x H' hx ⟨eD, s'⟩
    obtain ⟨z, hz, rfl⟩ := Option.map_eq_some_iff.mp ((List.getElem?_map ..).symm.trans hx)
    have hi : i < items.length := (List.getElem?_eq_some_iff.mp hz).1
    refine ⟨wipe_set _, tYesI ?_⟩
    refine he z (List.mem_of_getElem? hz) H' s' _ fun H4 s4 => ⟨_, s4 _ _ eD, ?_, ?_, fun b o w => ?_⟩
    · rw [List.length_map, List.length_take]
      omega
    · rw [upd_same, List.take_succ_eq_append_getElem hi, List.map_append, (List.getElem?_eq_some_iff.mp hz).2]
      rfl
    · rw [upd_ne (ne_of_none w hD)]
      exact s4 _ _ (s' _ _ w)
  · rintro H' ⟨eD, s'⟩
    rw [List.length_map, List.take_length] at eD
    exact hQ H' s' eD
/-- over a tuple -/
theorem lc_mapT {α : Type} {K : PySem.W.Frag} {a : Addr} {i1 : Nat} {σ : L2.St} {H1 : Hp} {D : Addr} {te : TE} {Qd : Hp → Prop} (items : List α) (src out : α → V) (hl : SqT K H1 a (items.map src)) (hn : items.length < sizeLine) (hD : H1 D = none)
    (he : ∀ x ∈ items, ∀ (H' : Hp), Same H1 H' → ∀ Q : VK, (∀ H4, Same H' H4 → Q (out x) H4) → te ((wipe σ [i1]).set i1 (some (src x))) H' Q) (hQ : ∀ H' : Hp, Same H1 H' → H' D = some (.lst (items.map out)) → Qd H') :
    ∃ W : Nat → Nat → Hp → Prop, (∃ m, W 0 m (upd H1 D (.lst []))) ∧ ∀ i m H, W i m H →
      ((Itt K a).stop i H ∧ Qd H) ∨ ((Itt K a).go i H ∧ ∃ Nx : Hp → Prop, (∀ H', Nx H' → ∃ m', m' < m ∧ W (i + 1) m' H') ∧ ∀ x H', (Itt K a).yld i H x H' → gName i1 x (wipe σ [i1]) H' fun σ2 H2 => wipe σ2 [i1] = wipe σ [i1] ∧ tYes σ2 H2 fun b H3 =>
        if b = true then te σ2 H3 fun y H4 => ∃ acc, H4 D = some (.lst acc) ∧ acc.length < sizeLine ∧ Nx (upd H4 D (.lst (acc ++ [y]))) else Nx H3) := by
  refine lc_it (n := (items.map src).length) (walk_tup (K := K) (a := a) (xs := items.map src)) (fun i H' => H' D = some (.lst ((items.take i).map out)) ∧ Same H1 H') ⟨upd_same, same_upd hD⟩ (fun i H' _ h => hl.ext h.2) ?_ ?_
  · rintro i x H0 H' hi ⟨eD, s'⟩ ⟨rfl, hx⟩
    obtain ⟨z, hz, rfl⟩ := Option.map_eq_some_iff.mp ((List.getElem?_map ..).symm.trans hx)
    have hi : i < items.length := (List.getElem?_eq_some_iff.mp hz).1
    refine ⟨wipe_set _, tYesI ?_⟩
    refine he z (List.mem_of_getElem? hz) H' s' _ fun H4 s4 => ⟨_, s4 _ _ eD, ?_, ?_, fun b o w => ?_⟩
    · rw [List.length_map, List.length_take]
      omega
    · rw [upd_same, List.take_succ_eq_append_getElem hi, List.map_append, (List.getElem?_eq_some_iff.mp hz).2]
      rfl
    · rw [upd_ne (ne_of_none w hD)]
      exact s4 _ _ (s' _ _ w)
  · rintro H' ⟨eD, s'⟩
    rw [List.length_map, List.take_length] at eD
    exact hQ H' s' eD
end Kj
namespace Kj
open PySem PySem.Spec PyProof.Rows L2 K0
/-- all stays but what lists hold -/
def NL (H H' : Hp) : Prop := ∀ b o, H b = some o → (∀ xs, o ≠ .lst xs) → H' b = some o
theorem NL.same {H H' : Hp} (s : Same H H') : NL H H' := fun b o e _ => s _ _ e
theorem NL.trans {H H1 H2 : Hp} (a : NL H H1) (b : NL H1 H2) : NL H H2 := fun c o e h => b _ _ (a _ _ e h) h
theorem NL.lst {H : Hp} {l : Addr} {xs ys : List V} (h : H l = some (.lst xs)) : NL H (upd H l (.lst ys)) := fun b o e hn => by
  rw [upd_ne (fun q => by rw [q, h] at e; cases e; exact hn _ rfl)]
  exact e
theorem paired_take_snoc {α β : Type} {R : α → β → Prop} : ∀ {xs : List α} {ys : List β} {x : α} {y : β}, Paired R xs ys → R x y → Paired R (xs ++ [x]) (ys ++ [y])
  | [], [], _, _, .nil, h => .cons h .nil
  | _ :: _, _ :: _, _, _, .cons a r, h => .cons a (paired_take_snoc r h)
theorem paired_imp {α β : Type} {R S : α → β → Prop} (f : ∀ a b, R a b → S a b) : ∀ {xs : List α} {ys : List β}, Paired R xs ys → Paired S xs ys
  | [], [], .nil => .nil
  | _ :: _, _ :: _, .cons a r => .cons (f _ _ a) (paired_imp f r)
theorem paired_length {α β : Type} {R : α → β → Prop} : ∀ {xs : List α} {ys : List β}, Paired R xs ys → xs.length = ys.length
  | [], [], .nil => rfl
  | _ :: _, _ :: _, .cons _ r => congrArg (· + 1) (paired_length r)
/-- over a list, where what is made stands in a relation to the item -/
theorem lc_rel {α : Type} {K : PySem.W.Frag} {a : Addr} {i1 : Nat} {σ : L2.St} {H1 : Hp} {D : Addr} {te : TE} {Qd : Hp → Prop} (items : List α) (src : α → V) (R : Hp → α → V → Prop) (mon : ∀ H H' x v, NL H H' → R H x v → R H' x v) (hl : SqL K H1 a (items.map src)) (hn : items.length < sizeLine) (hD : H1 D = none)
    (he : ∀ x ∈ items, ∀ (H' : Hp), Same H1 H' → ∀ Q : VK, (∀ v H4, Same H' H4 → R H4 x v → Q v H4) → te ((wipe σ [i1]).set i1 (some (src x))) H' Q) (hQ : ∀ (H' : Hp) (vs : List V), Same H1 H' → H' D = some (.lst vs) → Paired (R H') items vs → Qd H') :
    ∃ W : Nat → Nat → Hp → Prop, (∃ m, W 0 m (upd H1 D (.lst []))) ∧ ∀ i m H, W i m H →
      ((Itl K a).stop i H ∧ Qd H) ∨ ((Itl K a).go i H ∧ ∃ Nx : Hp → Prop, (∀ H', Nx H' → ∃ m', m' < m ∧ W (i + 1) m' H') ∧ ∀ x H', (Itl K a).yld i H x H' → gName i1 x (wipe σ [i1]) H' fun σ2 H2 => wipe σ2 [i1] = wipe σ [i1] ∧ tYes σ2 H2 fun b H3 =>
        if b = true then te σ2 H3 fun y H4 => ∃ acc, H4 D = some (.lst acc) ∧ acc.length < sizeLine ∧ Nx (upd H4 D (.lst (acc ++ [y]))) else Nx H3) := by
  refine lc_list (xs := items.map src) (fun i H' => (∃ vs, H' D = some (.lst vs) ∧ Paired (R H') (items.take i) vs) ∧ Same H1 H') ⟨⟨[], upd_same, .nil⟩, same_upd hD⟩ (fun i H' _ h => hl.ext h.2) ?_ ?_
  · rintro i x H' hx ⟨⟨vs, eD, pr⟩, s'⟩
    obtain ⟨z, hz, rfl⟩ := Option.map_eq_some_iff.mp ((List.getElem?_map ..).symm.trans hx)
    have hi : i < items.length := (List.getElem?_eq_some_iff.mp hz).1
    refine ⟨wipe_set _, tYesI ?_⟩
    refine he z (List.mem_of_getElem? hz) H' s' _ fun v H4 s4 r => ⟨_, s4 _ _ eD, ?_, ⟨_, upd_same, ?_⟩, fun b o w => ?_⟩
    · rw [← paired_length pr, List.length_take]
      omega
    · have nl : NL H4 (upd H4 D (.lst (vs ++ [v]))) := NL.lst (s4 _ _ eD)
      rw [List.take_succ_eq_append_getElem hi, (List.getElem?_eq_some_iff.mp hz).2]
      exact paired_take_snoc (paired_imp (fun a b h => mon _ _ _ _ nl (mon _ _ _ _ (NL.same s4) h)) pr) (mon _ _ _ _ nl r)
    · rw [upd_ne (ne_of_none w hD)]
      exact s4 _ _ (s' _ _ w)
  · rintro H' ⟨⟨vs, eD, pr⟩, s'⟩
    rw [List.length_map, List.take_length] at pr
    exact hQ H' vs s' eD pr
end Kj

set_option Elab.async false
set_option linter.all false
set_option maxRecDepth 100000
set_option maxHeartbeats 4000000
/-! view_of: words read as a view. -/
namespace K0
open PySem PySem.Spec PyProof.Rows L2 Kx Kh Kd TL
/-- the dict of the events' words -/
structure TxE (K : PySem.W.Frag) (w : World) (mg : Str → Option Value) (d : Addr) (es : Array DictEntry) (n : Nat) : Prop where
  gE : mg "EVENTS" = some (.ref d)
  kd : L2.KDict K w d es n
  no : ∀ z, evN z = none → PySem.W.nsIn K d z = some none
  yes : ∀ z m, evN z = some m → ∃ t, PySem.W.nsIn K d z = some (some (.int (m : Int) t))
theorem cut_nat {xs : List V} {i j : Nat} (h : i ≤ xs.length) : cutV xs (some (i : Int)) (some (j : Int)) = (xs.drop i).take (j - i) := by
  unfold cutV
  rw [HT.sIx_nat, HT.sIx_nat, Nat.min_eq_left h]
  by_cases q : j ≤ xs.length
  · rw [Nat.min_eq_left q]
  · rw [Nat.min_eq_right (by omega), List.take_of_length_le (by rw [List.length_drop]; exact Nat.le_refl _), List.take_of_length_le (by rw [List.length_drop]; omega)]
def rIntS : List V → Hp → VK → Prop := fun xs H Q => ∃ (a : Str) (n : Int), xs = [.str a] ∧ PySem.intText? a = some n ∧ a.length ≤ 640 ∧ Q (.int n) H
/-- the texts in a list -/
def spVO : Sp := fun vs H Q _ => ∃ (l : Addr) (ws : List Str), vs = [.ref l] ∧ H l = some (.lst (ws.map V.str)) ∧ (∀ z ∈ ws, z.length ≤ sizeLine) ∧ ws.length ≤ 1000 ∧ (viewT ws.length ws = none → ∀ H', Same H H' → Q .non H') ∧
  ∀ evs, viewT ws.length ws = some evs → ∀ (t : Addr) H', Same H H' → Nest H' (.tup evs) (.ref t) → Q (.ref t) H'
/-- one event's step -/
theorem viewT_step {n m : Nat} {z : Str} {r : List Str} (hz : evN z = some m) (h1 : m ≤ r.length) (h2 : (r.take m).all longB = true) : viewT (n + 1) (z :: r) = (viewT n (r.drop m)).map (fun vs => NestedKey.tup (NestedKey.text z :: (r.take m).map fun q => NestedKey.num (val q)) :: vs) := by
  show (match evN z with
    | none => none
    | some m => if (decide (m ≤ r.length) && (r.take m).all longB) = true then (viewT n (r.drop m)).map (fun vs => NestedKey.tup (NestedKey.text z :: (r.take m).map fun q => NestedKey.num (val q)) :: vs) else none) = _
  rw [hz]
  dsimp only
  rw [decide_eq_true h1, h2, if_pos (by rfl)]
theorem viewT_none {n : Nat} {z : Str} {r : List Str} (h : ∀ m, evN z = some m → m ≤ r.length → (r.take m).all longB = true → False) : viewT (n + 1) (z :: r) = none := by
  show (match evN z with
    | none => none
    | some m => if (decide (m ≤ r.length) && (r.take m).all longB) = true then (viewT n (r.drop m)).map (fun vs => NestedKey.tup (NestedKey.text z :: (r.take m).map fun q => NestedKey.num (val q)) :: vs) else none) = _
  cases hz : evN z with
  | none => rfl
  | some m =>
    dsimp only
    rw [if_neg fun q => ?_]
    obtain ⟨q1, q2⟩ := Bool.and_eq_true_iff.mp q
    exact h m hz (of_decide_eq_true q1) q2
theorem evN_le {z : Str} {m : Nat} (h : evN z = some m) : m ≤ 2 := by
  unfold evN at h
  split at h
  · cases h; decide
  · split at h
    · cases h; decide
    · split at h
      · cases h; decide
      · cases h
/-- tuples of events at addresses -/
structure Evs (H : Hp) (as : List Addr) (ks : List NestedKey) : Prop where
  n : NestL H ks (as.map V.ref)
theorem nestL_snoc {H : Hp} {k : NestedKey} {v : V} : ∀ {ks : List NestedKey} {vs : List V}, NestL H ks vs → Nest H k v → NestL H (ks ++ [k]) (vs ++ [v])
  | [], [], .nil, h => .cons h .nil
  | _ :: _, _ :: _, .cons a r, h => .cons a (nestL_snoc r h)
theorem nestL_nums {H : Hp} : ∀ xs : List Int, NestL H (xs.map NestedKey.num) (xs.map V.int)
  | [] => .nil
  | x :: xs => .cons (.num x) (nestL_nums xs)
section
variable {P : Program} {w : World} {K : PySem.W.Frag} {mg : Str → Option Value} {base : Heap} {dE : Addr} {esE : Array DictEntry} {nE : Nat} {fL : Addr} {dL : FuncData}
theorem scVO : FnScope ["words", "events", "at", "behind", "numbers", "word"] ["words"] (defScope sVO) := ⟨rfl, rfl, rfl, by decide +kernel, rfl, by decide +kernel, by decide +kernel⟩
theorem ok_vo {f : Addr} {fd : FuncData} (F : Fun K "view_of" "view_of" sVO f fd) (T : TxW mg) (tup : mg "tuple" = none) (TE : TxE K w mg dE esE nE) (L1 : Fn0 P w K mg base 3 "is_long_number" ["word"] (spB longB sizeLine) fL dL) :
    FnOk P w K mg base CX0 4 f fd ["words"] spVO := by
  refine F.ok scVO (fun vs H Q E h => ?_) (fun cdv A outer s H vs Q E hr h => ?_)
  · obtain ⟨l, ws, rfl, _⟩ := h
    rfl
  · obtain ⟨l, ws, rfl, hl, hz, hn, q1, q2⟩ := h
    have hr3 : Room 3 _ := hr.mono (by decide)
    refine ⟨_, pss_cons (ps_set (i := 1) scVO.nd rfl (Or.inl rfl) (pe_lst pa_nil))
      (pss_cons (ps_set (i := 2) scVO.nd rfl (Or.inl rfl) pe_int)
      (pss_cons (ps_while PassesOwn.never (pt_cmpR op_lt (pv 2) (pe_callB call_len_seq (by rfl) T.len PySem.boot_len (pa_cons (pv 0) pa_nil)) (nomark _))
        (pss_cons (ps_set (i := 3) scVO.nd rfl (Or.inl rfl) (pe_op op_add (pe_op op_add (pv 2) pe_int) (Ki.pe_kget2 (pe_glob (v := .ref dE) rfl TE.gE rfl) (pe_ix ix_list (pv 0) (pv 2) (fun _ _ => rfl)) pe_int)))
        (pss_cons (ps_set (i := 4) scVO.nd rfl (Or.inl rfl) (pe_slice sl_list (pv 0) (po_some (pe_op op_add (pv 2) pe_int)) (po_some (pv 3))))
        (pss_cons (ps_if (PW.pt (pw_or (pt_cmpR (op_notIn_kd TE.kd) (pe_ix ix_list (pv 0) (pv 2) (fun _ _ => rfl)) (pe_glob (v := .ref dE) rfl TE.gE rfl) rfl)
          (pw_or (pt_cmpR op_gt (pv 3) (pe_callB call_len_seq (by rfl) T.len PySem.boot_len (pa_cons (pv 0) pa_nil)) (nomark _))
          (pw_or1 (pt_not (pt_val (pe_callB (cr_all rfl) (by rfl) T.all (by decide +kernel) (pa_cons (pe_lc (own := [("word", 5)]) (g := gName 5) (tt := tYes) (te := tCall (spB longB sizeLine) [] E0 (tCons (tVar 5) tNil)) rfl scVO.nd (pi_list (pv 4)) (blkOk_by (N := ["words", "events", "at", "behind", "numbers", "word"]) (sc := defScope sVO) (by decide +kernel))
              (fun _ _ _ _ _ => pg_name (i := 5) scVO.nd rfl (Or.inl rfl)) (fun _ _ _ _ _ => pts_nil) (fun _ _ _ _ _ => pe_call L1.ok hr3 (by rfl) L1.gl L1.kp L1.bd .nil pass0 (pa_cons (pv 5) pa_nil))) pa_nil)))))))) (pss_one (ps_ret pe_non)) pss_nil)
        (pss_cons (ps_expr (pe_bm PySem.F.plainAttrs_list PySem.F.slot_list_append PySem.F.type_list_append mt_append (pv 1) (pa_cons (pe_tup (pa_cons (pe_ix ix_list (pv 0) (pv 2) (fun _ _ => rfl)) (StX.pa_star (pe_lc (own := [("word", 5)]) (g := gName 5) (tt := tYes) (te := tCB rIntS (tCons (tVar 5) tNil)) rfl scVO.nd (pi_list (pv 4)) (blkOk_by (N := ["words", "events", "at", "behind", "numbers", "word"]) (sc := defScope sVO) (by decide +kernel))
              (fun _ _ _ _ _ => pg_name (i := 5) scVO.nd rfl (Or.inl rfl)) (fun _ _ _ _ _ => pts_nil) (fun _ _ _ _ _ => pe_callTy call_int_str (by rfl) T.int (by decide +kernel) (pa_cons (pv 5) pa_nil))) pa_nil))) pa_nil)))
        (pss_one (ps_set (i := 2) scVO.nd rfl (Or.inl rfl) (pv 3))))))))
      (pss_one (ps_ret (pe_callTy call_tuple_of (by rfl) tup (by decide +kernel) (pa_cons (pv 1) pa_nil)))))), ?_⟩
    have hlen : ∀ m : Nat, (ws.drop m).length = ws.length - m := fun m => List.length_drop
    refine ⟨by show 0 ≤ sizeLine; decide, fun ev hev => ?_⟩
    let Pv : Nat → L2.St → Hp → Prop := fun n σ H' => ∃ (i : Nat) (v3 v4 : Option V) (done : List NestedKey) (as : List Addr) (m : Nat), n = ws.length - i ∧ σ = [some (.ref l), some (.ref ev), some (.int (i : Int)), v3, v4, none] ∧ H' ev = some (.lst (as.map V.ref)) ∧ NestL H' done (as.map V.ref) ∧ Same H H' ∧ i ≤ ws.length ∧ as.length ≤ i ∧ ws.length - i ≤ m ∧
      viewT ws.length ws = (viewT m (ws.drop i)).map (done ++ ·)
    refine ⟨Pv, ⟨_, 0, none, none, [], [], ws.length, rfl, rfl, upd_same, .nil, same_upd hev, Nat.zero_le _, Nat.zero_le _, Nat.le_refl _, ?_⟩, ?_⟩
    · rw [List.drop_zero]
      cases viewT ws.length ws <;> rfl
    rintro n σ H1 ⟨i, v3, v4, done, as, m, rfl, rfl, e1, n1, s1, hi, ha, hm, hv⟩
    have hl1 := s1 _ _ hl
    refine ⟨_, rfl, _, rfl, l, _, rfl, .inl (SqL.of hl1), _, _, rfl, rfl, _, rfl, ite2 (fun y => ?_) (fun y => ?_)⟩
    · have hlt : i < ws.length := by
        have := of_decide_eq_true y
        rw [List.length_map] at this
        omega
      have hz0 : ws[i]? = some ws[i] := List.getElem?_eq_getElem hlt
      obtain ⟨z, ez⟩ : ∃ z, z = ws[i] := ⟨_, rfl⟩
      rw [← ez] at hz0
      have hdrop : ws.drop i = z :: ws.drop (i + 1) := by rw [List.drop_eq_getElem_cons hlt, ez]
      obtain ⟨m, rfl⟩ : ∃ m', m = m' + 1 := ⟨m - 1, by omega⟩
      rw [hdrop] at hv
      have hat : atI (ws.map V.str) (i : Int) = some (V.str z) := atI_nat (by rw [List.getElem?_map, hz0]; rfl)
      have eI : ((i : Int) + 1) = ((i + 1 : Nat) : Int) := by omega
      refine ⟨fun σ' H' => ∃ n', n' < ws.length - i ∧ Pv n' σ' H', fun _ _ h => h, ?_⟩
      cases hz1 : evN z with
      | none =>
        refine ⟨_, rfl, _, _, rfl, rfl, dE, esE, nE, rfl, TE.kd, _, rfl, _, rfl, l, _, _, _, rfl, rfl, SqL.of hl1, hat, z, rfl, none, TE.no z hz1, fun _ => ?_, (fun u0 e => nomatch e)⟩
        refine ⟨_, _, rfl, rfl, ?_⟩
        refine ⟨_, rfl, _, rfl, _, _, rfl, rfl, _, rfl, _, rfl, _, rfl, l, _, rfl, SqL.of hl1, fun p np => ?_⟩
        have hl2 := same_upd (o := .lst (cutV (ws.map V.str) (some ((i : Int) + 1)) (some ((i : Int) + 1 + 0)))) np _ _ hl1
        have s2 := s1.trans (same_upd (o := .lst (cutV (ws.map V.str) (some ((i : Int) + 1)) (some ((i : Int) + 1 + 0)))) np)
        refine ⟨_, rfl, _, rfl, l, _, _, _, rfl, rfl, SqL.of hl2, hat, z, none, rfl, rfl, TE.no z hz1, ?_⟩
        refine ⟨_, rfl, iteT ?_⟩
        refine iteT (q1 ?_ _ s2)
        rw [hv, viewT_none fun m e => by rw [hz1] at e; cases e]
        rfl
      | some k =>
        have hk := evN_le hz1
        obtain ⟨tk, hns⟩ := TE.yes z k hz1
        refine ⟨_, rfl, _, _, rfl, rfl, dE, esE, nE, rfl, TE.kd, _, rfl, _, rfl, l, _, _, _, rfl, rfl, SqL.of hl1, hat, z, rfl, _, hns, (fun e => nomatch e), fun u0 e => ⟨.int (k : Int), by cases e; exact ⟨_, rfl⟩, ?_⟩⟩
        refine ⟨_, _, rfl, rfl, ?_⟩
        refine ⟨_, rfl, _, rfl, _, _, rfl, rfl, _, rfl, _, rfl, _, rfl, l, _, rfl, SqL.of hl1, fun p np => ?_⟩
        have ecut : cutV (ws.map V.str) (some ((i : Int) + 1)) (some ((i : Int) + 1 + (k : Int))) = ((ws.drop (i + 1)).take k).map V.str := by
          rw [show ((i : Int) + 1) = ((i + 1 : Nat) : Int) by omega, show (((i + 1 : Nat) : Int) + (k : Int)) = ((i + 1 + k : Nat) : Int) by omega, cut_nat (by rw [List.length_map]; omega), List.map_take, List.map_drop, show i + 1 + k - (i + 1) = k by omega]
        have s2 := same_upd (o := .lst (cutV (ws.map V.str) (some ((i : Int) + 1)) (some ((i : Int) + 1 + (k : Int))))) np
        have ep : upd H1 p (.lst (cutV (ws.map V.str) (some ((i : Int) + 1)) (some ((i : Int) + 1 + (k : Int))))) p = some (.lst (((ws.drop (i + 1)).take k).map V.str)) := by rw [upd_same, ecut]
        generalize upd H1 p (.lst (cutV (ws.map V.str) (some ((i : Int) + 1)) (some ((i : Int) + 1 + (k : Int))))) = H2 at *
        obtain ⟨ns, ens⟩ : ∃ ns, ns = (ws.drop (i + 1)).take k := ⟨_, rfl⟩
        rw [← ens] at ep
        have hnl : ns.length = min k (ws.length - (i + 1)) := by rw [ens, List.length_take, List.length_drop]
        have hnz : ∀ x ∈ ns, x.length ≤ sizeLine := fun x hx => hz x (List.mem_of_mem_drop (List.mem_of_mem_take (ens ▸ hx)))
        have hl2 := s2 _ _ hl1
        have s02 := s1.trans s2
        refine ⟨_, rfl, _, rfl, l, _, _, _, rfl, rfl, SqL.of hl2, hat, z, _, rfl, rfl, hns, ?_⟩
        refine ⟨_, rfl, iteF ?_⟩
        refine ⟨_, rfl, _, rfl, l, _, rfl, .inl (SqL.of hl2), _, _, rfl, rfl, _, rfl, ite2 (fun y2 => ?_) (fun y2 => ?_)⟩
        · have y3 := of_decide_eq_true y2
          rw [List.length_map] at y3
          refine iteT (q1 ?_ _ s02)
          rw [hv, viewT_none fun m2 e h1 _ => ?_]
          · rfl
          · rw [hz1] at e
            cases e
            rw [hlen] at h1
            omega
        have hfit : i + 1 + k ≤ ws.length := by
          refine Nat.le_of_not_lt fun q => y2 (decide_eq_true ?_)
          rw [List.length_map]
          omega
        have hfit2 : k ≤ (ws.drop (i + 1)).length := by rw [hlen]; omega
        have hnl2 : ns.length = k := by omega
        refine ⟨_, rfl, p, rfl, ⟨_, SqL.of ep⟩, fun D hD => ?_⟩
        refine Kj.lc_map ns V.str (fun x => V.bl (longB x)) (SqL.of ep) (Nat.lt_of_le_of_lt (show ns.length ≤ 2 by omega) (by decide)) hD (fun x hx H' s' Q k' => ⟨_, rfl, x, rfl, hnz x hx, fun H4 s4 => k' H4 s4⟩) fun H3 s3 eD => ?_
        rw [show ns.map (fun x => V.bl (longB x)) = (ns.map longB).map V.bl by rw [List.map_map]; rfl] at eD
        refine ⟨D, _, rfl, SqL.of eD, ?_⟩
        have hall : (ns.map longB).all id = ns.all longB := by rw [List.all_map]; rfl
        rw [hall]
        have s03 := s02.trans s3
        cases ha2 : ns.all longB with
        | false =>
          refine ⟨_, rfl, iteT (q1 ?_ _ s03)⟩
          rw [hv, viewT_none fun m2 e _ h2 => ?_]
          · rfl
          · rw [hz1] at e
            cases e
            rw [← ens, ha2] at h2
            cases h2
        | true =>
          refine ⟨_, rfl, iteF ?_⟩
          have hl3 := s3 _ _ hl2
          have e13 : H3 ev = some (.lst (as.map V.ref)) := s3 _ _ (s2 _ _ e1)
          have ep3 := s3 _ _ ep
          refine ⟨_, rfl, .inl ⟨rfl, _, SqL.of e13⟩, _, rfl, _, rfl, l, _, _, _, rfl, rfl, SqL.of hl3, hat, ?_⟩
          refine ⟨_, rfl, p, rfl, ⟨_, SqL.of ep3⟩, fun D2 hD2 => ?_⟩
          refine Kj.lc_map ns V.str (fun x => V.int (val x)) (SqL.of ep3) (Nat.lt_of_le_of_lt (show ns.length ≤ 2 by omega) (by decide)) hD2 (fun x hx H' s' Q k' => ?_) fun H4 s4 eD2 => ?_
          · have hx2 : longB x = true := List.all_eq_true.mp ha2 x hx
            unfold longB at hx2
            obtain ⟨h3, h4⟩ := int_of (Bool.and_eq_true_iff.mp hx2).1
            exact ⟨_, rfl, x, val x, rfl, h3, Nat.le_trans h4 (by decide), k' H' (Same.refl _)⟩
          · have e14 := s4 _ _ e13
            refine ⟨D2, _, rfl, .inr (SqL.of eD2), ?_, fun t ht => ?_⟩
            · show (V.str z :: (ns.map (fun x => V.int (val x)) ++ [])).length ≤ sizeLine
              rw [List.append_nil, List.length_cons, List.length_map]
              exact Nat.le_trans (show ns.length + 1 ≤ 3 by omega) (by decide)
            refine ⟨ev, _, _, rfl, rfl, by rw [upd_ne (ne_of_none e14 ht)]; exact e14, ?_, ?_⟩
            · rw [List.length_map]
              exact Nat.lt_of_le_of_lt (show as.length ≤ 1000 by omega) (by decide)
            have st := same_upd (o := .tup (V.str z :: (ns.map (fun x => V.int (val x)) ++ []))) ht
            refine ⟨_, rfl, _, ?_, i + 1 + k, some (.int ((i : Int) + 1 + (k : Int))), some (.ref p), done ++ [.tup (.text z :: ns.map fun q => .num (val q))], as ++ [t], m, rfl, ?_, ?_, ?_, ?_, hfit, ?_, ?_, ?_⟩
            · omega
            · show _ = [some (V.ref l), some (V.ref ev), some (V.int ((i + 1 + k : Nat) : Int)), _, _, none]
              rw [show (((i + 1 + k : Nat) : Int)) = (i : Int) + 1 + (k : Int) by omega]
              rfl
            · rw [List.map_append]
              exact upd_same
            · have keep : ∀ b xs, H1 b = some (.tup xs) → upd (upd H4 t (.tup (V.str z :: (ns.map (fun x => V.int (val x)) ++ [])))) ev (.lst (as.map V.ref ++ [V.ref t])) b = some (.tup xs) := fun b xs e => by
                rw [upd_ne (fun q => by rw [q, e1] at e; cases e)]
                exact st _ _ (s4 _ _ (s3 _ _ (s2 _ _ e)))
              rw [List.map_append]
              refine nestL_snoc (n1.keep keep) ?_
              refine .tup (vs := V.str z :: (ns.map (fun x => V.int (val x)) ++ [])) ?_ ?_
              · rw [upd_ne (ne_of_none e14 ht).symm]
                exact upd_same
              · rw [List.append_nil]
                refine .cons (.text z) ?_
                have := nestL_nums (H := upd (upd H4 t (.tup (V.str z :: (ns.map (fun x => V.int (val x)))))) ev (.lst (as.map V.ref ++ [V.ref t]))) (ns.map val)
                rw [List.map_map, List.map_map] at this
                exact this
            · intro b o e
              rw [upd_ne (ne_of_none e hev)]
              exact st _ _ (s4 _ _ (s3 _ _ (s2 _ _ (s1 _ _ e))))
            · rw [List.length_append, List.length_singleton]
              omega
            · omega
            · rw [hv, viewT_step hz1 hfit2 (by rw [← ens]; exact ha2), List.drop_drop, ← ens, Option.map_map]
              congr 1
              funext r
              show done ++ (_ :: r) = (done ++ [_]) ++ r
              rw [List.append_assoc]
              rfl
    · have hin : i = ws.length := by
        have : ¬ (i : Int) < ((ws.map V.str).length : Int) := fun q => y (decide_eq_true q)
        rw [List.length_map] at this
        omega
      subst hin
      refine ⟨_, rfl, ev, _, rfl, .inl ⟨SqL.of e1, fun t ht => ?_⟩⟩
      refine q2 done ?_ t _ (s1.trans (same_upd ht)) (.tup upd_same (n1.keep fun b xs e => same_upd ht _ _ e))
      rw [hv, List.drop_length]
      cases m <;> exact congrArg some (List.append_nil done)
end
end K0

set_option Elab.async false
set_option linter.all false
set_option maxRecDepth 100000
set_option maxHeartbeats 4000000
/-! x in a list whose items compare by methods of one's own. -/
namespace Ke
open PySem PySem.Spec PyProof.Rows L2
section
variable {prog : Program} {w : World} {A : Around}
def LiC (prog : Program) (w : World) (A : Around) (E : Value → Shared → Prop) (l : Addr) (x : Value) (N : Nat) (I : Nat → Shared → Prop) (F : Shared → Prop) : Prop := ∀ (i : Nat) (s : Shared), I i s → ∃ (items : Array Value) (n : Nat), s.heap.get? l = some { cls := .type "list", data := .seq items n } ∧ items.size = N ∧
  ∀ h1 : i < items.size, wpAny (model prog w) A.in1 (eqBool items[i] x) (fun r s' => (r = false ∧ I (i + 1) s') ∨ (r = true ∧ F s')) E s
theorem in_loopB {R : Result → Shared → Prop} (l : Addr) (x : Value) (N : Nat) (I : Nat → Shared → Prop) (F : Shared → Prop) (hl : LiC prog w A (fun e s' => R (.error e) s') l x N I F) (fin : ∀ s, I N s → R (.ok (.ret (.bool false))) s) (finT : ∀ s, F s → R (.ok (.ret (.bool true))) s) :
    ∀ (k i : Nat), N - i = k → i ≤ N → ∀ s, I i s → wpAny (model prog w) A.in1 (Builtin.«list.__contains__.loop» { pos := [.ref l, x, rawInt (i : Int)] }) (GQ.FinOf prog w A R) (fun e s' => R (.error e) s') s := by
  intro k
  induction k with
  | zero =>
    intro i hk hi s h
    obtain ⟨items, n, e1, z1, _⟩ := hl i s h
    refine wpAny_bind (items_at e1 ?_)
    have h1 : items[(i : Int).toNat]? = none := by
      rw [show (i : Int).toNat = i from rfl]
      exact Array.getElem?_eq_none (by omega)
    rw [h1]
    have hi' : i = N := by omega
    exact wpAny_pure (fin s (hi' ▸ h))
  | succ k ih =>
    intro i hk hi s h
    obtain ⟨items, n, e1, z1, turn⟩ := hl i s h
    refine wpAny_bind (items_at e1 ?_)
    have l1 : i < items.size := by omega
    have h1 : items[(i : Int).toNat]? = some items[i] := getElem?_pos items i l1
    rw [h1]
    refine wpAny_bind (wpAny_mono (turn l1) (fun r s2 hh => ?_) fun _ _ z => z)
    rcases hh with ⟨rfl, h3⟩ | ⟨rfl, h3⟩
    · refine wpAny_ite_false (by decide) (wpAny_pure ?_)
      refine ⟨plainId_quiet MeetsSeq.plain_contains_loop _, codeAny_builtin MeetsSeq.entry_contains_loop ?_⟩
      rw [Around.under_plainId MeetsSeq.plain_contains_loop]
      exact ih (i + 1) (by omega) (by omega) s2 h3
    · exact wpAny_ite_true rfl (wpAny_pure (finT s2 h3))
theorem list_inB {R : Result → Shared → Prop} (l : Addr) (x : Value) (N : Nat) (I : Nat → Shared → Prop) (F : Shared → Prop) (hl : LiC prog w A (fun e s' => R (.error e) s') l x N I F) (fin : ∀ s, I N s → R (.ok (.ret (.bool false))) s) (finT : ∀ s, F s → R (.ok (.ret (.bool true))) s) {s : Shared} (h : I 0 s) :
    wpAny (model prog w) A.in1 (Builtin.«list.__contains__» { pos := [.ref l, x] }) (GQ.FinOf prog w A R) (fun e s' => R (.error e) s') s := by
  have hrec := in_loopB l x N I F hl fin finT (N - 0) 0 rfl (Nat.zero_le N) s h
  refine wpAny_bind (wpAny_of_eq (a := ((Value.ref l : Value), [x])) rfl ?_)
  refine wpAny_pure ⟨plainId_quiet MeetsSeq.plain_contains_loop _, codeAny_builtin MeetsSeq.entry_contains_loop ?_⟩
  rw [Around.under_plainId MeetsSeq.plain_contains_loop]
  exact hrec
theorem cp_inB {E : Value → Shared → Prop} {s : Shared} {l : Addr} {x : Value} {N : Nat} {Q : Value → Shared → Prop} (I : Nat → Shared → Prop) (F : Shared → Prop) (hl : LiC prog w A E l x N I F) (fin : ∀ s, I N s → Q (.bool false) s) (finT : ∀ s, F s → Q (.bool true) s) (h : I 0 s) :
    wpAny (model prog w) A (compareOp .In x (.ref l)) Q E s := by
  obtain ⟨items, n, e1, _⟩ := hl 0 s h
  show wpAny _ A (do return Value.bool (← contains (.ref l) x)) Q E s
  refine wpAny_bind (wpAny_contains_slot ⟨_, e1, rfl⟩ PySem.F.slot_list_contains (wpAny_mono (Q := fun v s' => ∃ b, v = Value.bool b ∧ Q (.bool b) s') (E := E) (GQ.call_here PySem.F.slot_list_contains ⟨_, e1, rfl⟩ PySem.F.entry_list_contains (PySem.F.args_list_contains_2 _ _) (list_inB l x N I F hl (fun s' q => ⟨false, rfl, fin s' q⟩) (fun s' q => ⟨true, rfl, finT s' q⟩) h)) (fun v s' hv => ?_) fun _ _ e => e))
  obtain ⟨b, rfl, hq⟩ := hv
  exact wpAny_truthy_bool (wpAny_pure hq)
end
/-- whether one of some things is x -/
inductive InL (D : Eqb) (H : Hp) (x : V) : List V → Bool → Prop where
  | nil : InL D H x [] false
  | hit {y : V} {ys : List V} (h : D y x H true) : InL D H x (y :: ys) true
  | miss {y : V} {ys : List V} {b : Bool} (h : D y x H false) (r : InL D H x ys b) : InL D H x (y :: ys) b
theorem InL.mon {D : Eqb} (m : MonB D) {H H' : Hp} (e : Ext H H') {x : V} {ys : List V} {b : Bool} (h : InL D H x ys b) : InL D H' x ys b := by
  induction h with
  | nil => exact .nil
  | hit h => exact .hit (m _ _ _ _ _ e h)
  | miss h _ ih => exact .miss (m _ _ _ _ _ e h) ih
section
variable {X : Cx}
theorem op_inB {n : Nat} {D : Eqb} (m : MonB D) (h : EqB X n D) (hr : Room (n + 1) X.A) : OpR X (compareOp .In) (fun x y H Q => ∃ (a : Addr) (xs : List V) (b : Bool), y = .ref a ∧ H a = some (.lst xs) ∧ InL D H x xs b ∧ ∀ H', Ext H H' → Q (.bl b) H') := by
  intro pins s σ H x y v u Q I rx ry ⟨a, xs, b, ey, ha, il, q⟩
  subst ey
  cases (show u = Value.ref a from ry)
  have sb : Sub X (n + 1) X.A := ⟨hr, rfl⟩
  refine cp_inB (N := xs.length) (fun i s' => LoopB X pins σ H s' ∧ InL D H x (xs.drop i) b) (fun s' => LoopB X pins σ H s' ∧ b = true) (fun i s' hI => ?_) (fun s' hI => ?_) (fun s' hI => ?_) ⟨⟨H, I, Ext.rfl'⟩, il⟩
  · obtain ⟨⟨H1, I1, e1⟩, il1⟩ := hI
    obtain ⟨_, us, k1, r1, g1⟩ := I1.hok a _ (e1 _ _ ha)
    refine ⟨us.toArray, k1, g1, by rw [List.size_toArray, r1.length], fun h1 => ?_⟩
    have l1' : i < xs.length := by rw [r1.length]; simpa using h1
    obtain ⟨uu, hu, ru⟩ := r1.get (List.getElem?_eq_getElem l1')
    have l1 : i < us.length := by simpa using h1
    rw [List.getElem?_eq_getElem l1] at hu
    cases hu
    rw [List.drop_eq_getElem_cons l1'] at il1
    have conv : ∀ (b0 : Bool), D xs[i] x H b0 → wpAny (model X.prog X.w) X.A.in1 (eqBool us[i] v) (fun r s2 => r = b0 ∧ LoopB X pins σ H s2) X.xe s' := fun b0 d => by
      refine wpAny_mono (h X.A.in1 pins s' σ H1 _ _ _ _ b0 sb.in1 I1 ru rx (m _ _ _ _ _ e1 d)) (fun r' s2 z => ?_) fun _ _ z => z
      obtain ⟨rfl, H2, I2, e2⟩ := z
      exact ⟨rfl, H2, I2, e1.trans e2⟩
    cases il1 with
    | hit d =>
      refine wpAny_mono (conv true d) (fun r s2 z => ?_) fun _ _ z => z
      exact .inr ⟨z.1, z.2, rfl⟩
    | miss d r =>
      refine wpAny_mono (conv false d) (fun r' s2 z => ?_) fun _ _ z => z
      exact .inl ⟨z.1, z.2, r⟩
  · obtain ⟨⟨H1, I1, e1⟩, il1⟩ := hI
    rw [List.drop_length] at il1
    cases il1
    exact ⟨.bl false, H1, I1, rfl, q H1 e1⟩
  · obtain ⟨⟨H1, I1, e1⟩, rfl⟩ := hI
    exact ⟨.bl true, H1, I1, rfl, q H1 e1⟩
/-! ### None among instances -/
def DNone (C : Addr) : Eqb := fun x y H b => y = .non ∧ ((x = .non ∧ b = true) ∨ ∃ a dx fs, x = .ref a ∧ H a = some (.ins C dx fs) ∧ b = false)
def spEqN (C : Addr) : Sp := fun vs H Q _ => ∃ a dx fs, vs = [.ref a, .non] ∧ H a = some (.ins C dx fs) ∧ ∀ H', Ext H H' → Q (.bl false) H'
theorem monNone {C : Addr} : MonB (DNone C) := fun x y H H' b e ⟨ey, d⟩ => ⟨ey, d.imp id fun ⟨a, dx, fs, ex, h, z⟩ => ⟨a, dx, fs, ex, e _ _ h, z⟩⟩
theorem notSub (K : PySem.W.Frag) (C : Addr) : PySem.W.notFirst K C (.type "NoneType") = true := by
  unfold PySem.W.notFirst
  have e : fastBuiltinMro "NoneType" = some [.type "NoneType", .type "object"] := by decide +kernel
  have : PySem.W.subIn K (.type "NoneType") (.ref C) = some false := by
    show (fastBuiltinMro "NoneType").map _ = _
    rw [e]
    rfl
  rw [this]
  simp
theorem eqB_none {CX : CXT} {n : Nat} {f C : Addr} {fd : FuncData} {ps : List Str} {E : XK} (F : FnOk X.prog X.w X.K X.mg X.base CX n f fd ps (spEqN C)) (hs : PySem.W.findIn X.K (.ref C) "__eq__" = some (some (.ref f))) (hf : PySem.W.isFn X.K (.ref f) = true) (hb : L2.Binds X.K fd ps []) (hx : Passes CX X E) :
    EqB X n (DNone C) := by
  intro A pins s σ H x y u v b sb I rx ry d
  obtain ⟨rfl, d⟩ := d
  cases (show v = Value.none from ry)
  rcases d with ⟨rfl, rfl⟩ | ⟨a, dx, fs, rfl, ha, rfl⟩
  · cases (show u = Value.none from rx)
    exact SeqAt.EqAt.same .none X.prog X.w X.xe _ ⟨rfl, H, I, Ext.rfl'⟩
  · cases (show u = Value.ref a from rx)
    obtain ⟨mA, J, _⟩ := ins_get I.hok ha
    obtain ⟨od, J, _⟩ := J.look
    obtain ⟨m, hF⟩ := I.fr
    unfold eqBool
    refine wpAny_holding ?_
    refine wpAny_ite_split (fun hab => absurd (eq_of_beq hab) (by intro z; cases z)) (fun _ => ?_)
    refine wpAny_bind (wpAny_mono (Q := fun r s' => r = Value.bool false ∧ ∃ H', L2.Inv X pins σ H' s' ∧ Ext H H') ?_ (fun r s' z => ?_) fun _ _ z => z)
    · refine PySem.W.cmp_K (op := .Eq) (tb := .type "NoneType") sb.room.units0 hF I.ok.mod.kin J (PySem.W.Looks.of_pure rfl) (notSub _ _) hs hf ?_
      have e0 : Env0 X.prog X.w X.K X.mg X.base A X.stack s H := { Inv.env0 I with frames := by rw [sb.fr]; exact (Inv.env0 I).frames }
      have sp : spEqN C [.ref a, .non] H (fun z H' => z = .bl false ∧ Ext H H') E := ⟨a, dx, fs, rfl, ha, fun H' e => ⟨rfl, e⟩⟩
      have hl := F.len _ _ _ _ sp
      have bb := hb s [.ref a, .none] (Inv.kIn I) (by rw [List.append_nil]; exact hl)
      rw [List.append_nil] at bb
      refine wpAny_call (codeAny_mono (F.run A X.stack s H { pos := [.ref a, .none] } [.ref a, .none] [.ref a, .non] _ E sb.room e0 bb (.cons rfl (.cons rfl .nil)) sp) fun r s' hq => ?_)
      cases r with
      | error e => exact hx pins σ H s e s' I hq
      | ok fl =>
        cases fl with
        | ret u =>
          obtain ⟨z, H', I', rz, rfl, e⟩ := Inv.after I hq
          exact SlX.cmpback rz ⟨rz, H', I', e⟩
        | next => exact hq.elim
        | brk => exact hq.elim
        | cont => exact hq.elim
    · obtain ⟨rfl, H', I', e⟩ := z
      exact wpAny_truthy_bool ⟨rfl, H', I', e⟩
end
end Ke

set_option Elab.async false
set_option linter.all false
set_option maxRecDepth 100000
set_option maxHeartbeats 4000000
/-! A line's words, read; the lots' common denominator. -/
namespace K0
open PySem PySem.Spec PyProof.Rows L2 Kx Kh Kd TL
/-! ### fractions over one denominator -/
def denW : List (Int × Int) → Int
  | [] => 1
  | q :: r => q.2 * denW r
def numW (qs : List (Int × Int)) : List Int := qs.map fun q => q.1 * (denW qs / q.2)
def lotsQ (qs : List (Int × Int)) : Bool := lotsB (numW qs) (denW qs)
/-- in lowest terms, not too long -/
def Frc (q : Int × Int) : Prop := 0 ≤ q.1 ∧ 0 < q.2 ∧ Bd 200 q.1 ∧ Bd 200 q.2 ∧ rn q.1 q.2 = q.1 ∧ rd q.1 q.2 = q.2
theorem denW_pos : ∀ {qs : List (Int × Int)}, (∀ q ∈ qs, Frc q) → 0 < denW qs
  | [], _ => by decide
  | q :: r, h => Int.mul_pos (h q (List.mem_cons_self ..)).2.1 (denW_pos fun x hx => h x (List.mem_cons_of_mem _ hx))
theorem denW_bd : ∀ {qs : List (Int × Int)}, (∀ q ∈ qs, Frc q) → Bd (200 * qs.length + 1) (denW qs)
  | [], _ => Bd.of_abs (x := 1) (by unfold Bd; decide) (Nat.le_refl _)
  | q :: r, h => by
    have h1 := (h q (List.mem_cons_self ..)).2.2.2.1
    have h2 := denW_bd (qs := r) fun x hx => h x (List.mem_cons_of_mem _ hx)
    exact (h1.mul h2).le (by rw [List.length_cons]; omega)
/-- what the other denominators make -/
theorem denW_cut : ∀ {qs : List (Int × Int)}, (∀ q ∈ qs, Frc q) → ∀ q ∈ qs, ∃ k : Int, 0 < k ∧ denW qs = k * q.2 ∧ Bd (200 * qs.length + 1) k
  | x :: r, h, q, hq => by
    have hp := denW_pos (qs := r) fun x hx => h x (List.mem_cons_of_mem _ hx)
    rcases List.mem_cons.mp hq with rfl | hq
    · exact ⟨denW r, hp, Int.mul_comm _ _, (denW_bd (qs := r) fun x hx => h x (List.mem_cons_of_mem _ hx)).le (by rw [List.length_cons]; omega)⟩
    · obtain ⟨k, k0, e, kb⟩ := denW_cut (qs := r) (fun x hx => h x (List.mem_cons_of_mem _ hx)) q hq
      have hx := h x (List.mem_cons_self ..)
      refine ⟨x.2 * k, Int.mul_pos hx.2.1 k0, ?_, (hx.2.2.2.1.mul kb).le (by rw [List.length_cons]; omega)⟩
      show x.2 * denW r = _
      rw [e, Int.mul_assoc]
theorem num_at {qs : List (Int × Int)} (h : ∀ q ∈ qs, Frc q) {q : Int × Int} (hq : q ∈ qs) : rn (q.1 * (denW qs / q.2)) (denW qs) = q.1 ∧ rd (q.1 * (denW qs / q.2)) (denW qs) = q.2 ∧ Bd (200 * qs.length + 201) (q.1 * (denW qs / q.2)) := by
  obtain ⟨k, k0, e, kb⟩ := denW_cut h q hq
  obtain ⟨q0, q1, b1, b2, r1, r2⟩ := h q hq
  have ek : denW qs / q.2 = k := by rw [e, Int.mul_ediv_cancel _ (by omega)]
  rw [ek, e, Int.mul_comm q.1 k]
  exact ⟨(rn_scale k0 _ _).trans r1, (rd_scale k0 _ _).trans r2, (kb.mul b1).le (by omega)⟩
theorem lots_of {C : Addr} {H : Hp} {as : List Addr} {qs : List (Int × Int)} (h : ∀ q ∈ qs, Frc q) (hl : qs.length ≤ 38) (ha : as.length = qs.length) (hr : ∀ (i : Nat) (a : Addr) (q : Int × Int), as[i]? = some a → qs[i]? = some q → RatAt C H a q.1 q.2) : Lots C H as (numW qs) (denW qs) := by
  refine ⟨by rw [ha]; exact (List.length_map _).symm, fun i a w h1 h2 => ?_, denW_pos h, (denW_bd h).le (by omega), fun w hw => ?_, by unfold numW; rw [List.length_map]; omega⟩
  · obtain ⟨q, hq, rfl⟩ := Option.map_eq_some_iff.mp ((List.getElem?_map ..).symm.trans h2)
    obtain ⟨e1, e2, _⟩ := num_at h (List.mem_of_getElem? hq)
    rw [e1, e2]
    exact hr i a q h1 hq
  · obtain ⟨q, hq, rfl⟩ := List.mem_map.mp hw
    obtain ⟨e1, e2, b⟩ := num_at h hq
    obtain ⟨_, _, b1, b2, _⟩ := h q hq
    rw [e1, e2]
    exact ⟨b.le (by omega), b1.le (by decide), b2.le (by decide)⟩
theorem row_lots {qs : List (Int × Int)} (h : ∀ q ∈ qs, Frc q) : (numW qs).map (fun w => (rn w (denW qs), rd w (denW qs))) = qs := by
  unfold numW
  rw [List.map_map]
  have : ∀ l : List (Int × Int), (∀ q ∈ l, q ∈ qs) → l.map ((fun w => (rn w (denW qs), rd w (denW qs))) ∘ fun q => q.1 * (denW qs / q.2)) = l := by
    intro l
    induction l with
    | nil => exact fun _ => rfl
    | cons q r ih =>
      intro hl
      obtain ⟨e1, e2, _⟩ := num_at h (hl q (List.mem_cons_self ..))
      rw [List.map_cons, ih fun x hx => hl x (List.mem_cons_of_mem _ hx)]
      show (rn (q.1 * (denW qs / q.2)) (denW qs), rd (q.1 * (denW qs / q.2)) (denW qs)) :: r = _
      rw [e1, e2]
  exact this qs fun q hq => hq
/-! ### a line -/
def fracsT : List Str → Option (List (Int × Int))
  | [] => some []
  | z :: r => match fracT z, fracsT r with
    | some q, some qs => some (q :: qs)
    | _, _ => none
def lineT (ws : List Str) : Option (List NestedKey × List (Int × Int)) :=
  if (decide (ws[0]? = some ("at" : Str)) && decide (("do" : Str) ∈ ws)) = true then
    match viewT (ws.idxOf ("do" : Str) - 1) ((ws.take (ws.idxOf ("do" : Str))).drop 1), fracsT (ws.drop (ws.idxOf ("do" : Str) + 1)) with
    | some evs, some qs => if lotsQ qs = true then some (evs, qs) else none
    | _, _ => none
  else none
theorem fracsT_frc : ∀ {ws : List Str} {qs : List (Int × Int)}, fracsT ws = some qs → qs.length = ws.length ∧ ∀ q ∈ qs, Frc q
  | [], qs, h => by
    cases h
    exact ⟨rfl, fun q hq => nomatch hq⟩
  | z :: r, qs, h => by
    unfold fracsT at h
    cases e : fracT z with
    | none => rw [e] at h; cases h
    | some q =>
      cases e2 : fracsT r with
      | none => rw [e, e2] at h; cases h
      | some qs2 =>
        rw [e, e2] at h
        cases h
        obtain ⟨h1, h2⟩ := fracsT_frc e2
        refine ⟨congrArg (· + 1) h1, fun x hx => ?_⟩
        rcases List.mem_cons.mp hx with rfl | hx
        · obtain ⟨a, b, c, d, f, g, _⟩ := fracT_ok (n := x.1) (d := x.2) e
          exact ⟨a, b, c, d, f, g⟩
        · exact h2 x hx
/-! ### errors -/
abbrev sBQ : Stmt := inClass (top 6) 0
structure TxQ (K : PySem.W.Frag) (mg : Str → Option Value) (LE BQ fB : Addr) : Prop where
  mgL : mg "LossError" = some (.ref LE)
  mgB : mg "BadPaper" = some (.ref BQ)
  bl : BaseC K LE
  ox : OexC K BQ
  nB : PySem.W.findIn K (.ref BQ) "at" = some none
  iB : PySem.W.findIn K (.ref BQ) "__init__" = some (some (.ref fB))
  tB : PySem.W.typeIn K (.ref fB) = some (.type "function")
section
variable {P : Program} {w : World} {K : PySem.W.Frag} {mg : Str → Option Value} {base : Heap} {C BR LE BQ fB : Addr}
theorem scBQ : FnScope ["self", "at"] ["self", "at"] (defScope sBQ) := ⟨rfl, rfl, rfl, by decide +kernel, rfl, by decide +kernel, by decide +kernel⟩
theorem ok_bq {fd : FuncData} (F : Fun K "__init__" "BadPaper.__init__" sBQ fB fd) (T : TxQ K mg LE BQ fB) : FnOk P w K mg base CX0 1 fB fd ["self", "at"] (spErr BQ "at") := by
  refine F.ok scBQ (fun vs H Q E h => ?_) (fun cdv A outer s H vs Q E hr h => ?_)
  · obtain ⟨a, n, rfl, _⟩ := h
    rfl
  · obtain ⟨a, n, rfl, ha, hn, k⟩ := h
    refine ⟨_, pss_cons (ps_expr (pe_binit T.bl rfl T.mgL (pa_cons (pv 0) (pa_cons (pe_joined (.cons pe_str (.cons (pe_fmt (pv 1)) (.cons pe_str .nil)))) pa_nil))))
      (pss_one (ps_ost (pv 0) (pv 1))), ?_⟩
    have hb : n.natAbs.log2 < 64 := PySem.Flt.log2_lt_of (by decide) hn
    have hz : (Str.ofString (toString n)).length ≤ 65 := by
      have := PySem.int_text_length_le (a := n) (k := 64) (by decide) hb
      rw [PySem.ofString_length]
      exact this
    have l1 : Str.length ("line " : Str) ≤ 40 := by decide +kernel
    have l2 : Str.length (" is wrong or missing" : Str) ≤ 40 := by decide +kernel
    refine ⟨_, rfl, _, rfl, ?_, _, rfl, .inr ⟨n, rfl, Nat.lt_trans hb (by decide), _, rfl, ?_, _, rfl, ?_, ?_⟩⟩
    · rw [Str.empty_append]
      exact Nat.le_trans l1 (by decide)
    · rw [Str.empty_append, Str.length_append]
      exact Nat.le_trans (Nat.add_le_add l1 hz) (by decide)
    · rw [Str.empty_append, Str.length_append, Str.length_append]
      exact Nat.le_trans (Nat.add_le_add (Nat.add_le_add l1 hz) l2) (by decide)
    · exact ⟨a, BQ, _, rfl, (by show 1 ≤ 1000; decide), T.ox, ha, _, rfl, _, rfl, a, BQ, rfl, T.ox, T.nB, .inl ⟨ha, fun dx n1 n2 => k dx n1 n2⟩⟩
/-- == of a fraction and None -/
theorem ok_eqN {f : Addr} {fd : FuncData} (F : Fun K "__eq__" "Ratio.__eq__" sEq f fd) (T : Txt K mg C BR) (kN : PySem.W.kitOne K (.type "NoneType") (.ref C) = some false) : FnOk P w K mg base CX0 1 f fd ["self", "other"] (Ke.spEqN C) := by
  refine F.ok scE (fun vs H Q E h => ?_) (fun cdv A outer s H vs Q E hr h => ?_)
  · obtain ⟨a, dx, fs, rfl, _⟩ := h
    rfl
  · obtain ⟨a, dx, fs, rfl, ha, k⟩ := h
    refine ⟨_, pss_one (ps_ret (pe_and (pe_callB call_isi (by rfl) T.isi (by decide +kernel) (pa_cons (pv 1) (pa_cons (pe_glob (v := .ref C) rfl T.mgC rfl) pa_nil)))
      (pe_and (pe_cmpR op_eq (pe_fld (pv 0) rfl) (pe_fld (pv 1) rfl) (nomark _)) (pe_one (pe_cmpR op_eq (pe_fld (pv 0) rfl) (pe_fld (pv 1) rfl) (nomark _)))))), ?_⟩
    exact ⟨_, rfl, .non, .ref C, .type "NoneType", .ref C, false, rfl, .own C, .base .non, kN, _, rfl, iteF (k H Ext.rfl')⟩
end
end K0

set_option Elab.async false
set_option linter.all false
set_option maxRecDepth 100000
set_option maxHeartbeats 4000000
/-! read_entry. -/
namespace K0
open PySem PySem.Spec PyProof.Rows L2 Kx Kh Kd TL Kj Ke
/-- what fraction_of makes of a word -/
def FR (C : Addr) (H : Hp) (z : Str) (v : V) : Prop := (fracT z = none ∧ v = .non) ∨ ∃ n d a, fracT z = some (n, d) ∧ v = .ref a ∧ RatAt C H a n d
theorem FR.mon {C : Addr} (H H' : Hp) (z : Str) (v : V) (s : NL H H') (h : FR C H z v) : FR C H' z v := h.imp id fun ⟨n, d, a, e1, e2, dx, e3⟩ => ⟨n, d, a, e1, e2, dx, s _ _ e3 fun xs q => by cases q⟩
theorem fr_in {C : Addr} {H : Hp} : ∀ {ws : List Str} {vs : List V}, Paired (FR C H) ws vs → InL (DNone C) H .non vs (ws.any fun z => (fracT z).isNone)
  | [], [], .nil => .nil
  | z :: ws, v :: vs, .cons h r => by
    rw [List.any_cons]
    rcases h with ⟨e, rfl⟩ | ⟨n, d, a, e, rfl, dx, ea⟩
    · rw [e]
      exact .hit ⟨rfl, .inl ⟨rfl, rfl⟩⟩
    · rw [e]
      show InL _ _ _ _ (false || _)
      rw [Bool.false_or]
      exact .miss ⟨rfl, .inr ⟨a, dx, _, rfl, ea, rfl⟩⟩ (fr_in r)
theorem frT_none : ∀ {ws : List Str}, (ws.any fun z => (fracT z).isNone) = true → fracsT ws = none
  | z :: ws, h => by
    unfold fracsT
    rw [List.any_cons] at h
    cases e : fracT z with
    | none => rfl
    | some q =>
      rw [e] at h
      have : (ws.any fun z => (fracT z).isNone) = true := h
      rw [frT_none this]
theorem frT_some {C : Addr} {H : Hp} : ∀ {ws : List Str} {vs : List V}, Paired (FR C H) ws vs → (ws.any fun z => (fracT z).isNone) = false → ∃ (qs : List (Int × Int)) (as : List Addr), fracsT ws = some qs ∧ vs = as.map V.ref ∧ as.length = qs.length ∧ ∀ (i : Nat) (a : Addr) (q : Int × Int), as[i]? = some a → qs[i]? = some q → RatAt C H a q.1 q.2
  | [], [], .nil, _ => ⟨[], [], rfl, rfl, rfl, fun i a q h => by simp at h⟩
  | z :: ws, v :: vs, .cons h r, hn => by
    rw [List.any_cons] at hn
    rcases h with ⟨e, rfl⟩ | ⟨n, d, a, e, rfl, ra⟩
    · rw [e] at hn
      cases hn
    · rw [e] at hn
      obtain ⟨qs, as, h1, h2, h3, h4⟩ := frT_some r (by simpa using hn)
      refine ⟨(n, d) :: qs, a :: as, by unfold fracsT; rw [e, h1], by rw [h2]; rfl, congrArg (· + 1) h3, fun i x q hx hq => ?_⟩
      cases i with
      | zero =>
        cases hx
        cases hq
        exact ra
      | succ i => exact h4 i x q hx hq
/-- an error at a line -/
def ErrQ (BQ : Addr) (E : XK) (H : Hp) (i : Nat) : Prop := ∀ d H', Same H H' → H' d = some (.xd [(("at" : Str), .int (i : Int))]) → E (.ref BQ) (some d) H'
/-- raise BadPaper(at) -/
theorem raiseQ {BQ : Addr} {E : XK} {H H' : Hp} {n i : Nat} {σ : L2.St} (hE : ErrQ BQ E H n) (s : Same H H') (hσ : σ[i]? = some (some (.int (n : Int)))) (hn : n < 1000) : tMkO BQ (spErr BQ "at") [] (tCons (tVar i) tNil) σ H' E := by
  refine ⟨_, hσ, (by show 1 ≤ 1000; decide), fun a na => ⟨a, _, rfl, upd_same, by omega, fun d2 nd ne => ⟨rfl, d2, _, upd_same, by rw [upd_ne ne]; exact upd_same, ?_, ?_⟩⟩⟩
  · rw [upd_ne ne] at nd
    exact nd
  · have nd' : H' d2 = none := by
      rw [upd_ne ne] at nd
      exact nd
    refine hE d2 _ (fun b o q => ?_) upd_same
    have q := s _ _ q
    have q1 : b ≠ d2 := ne_of_none q nd'
    have q2 : b ≠ a := ne_of_none q na
    rw [upd_ne q1, del_ne q2, upd_ne q2, upd_ne q1, upd_ne q2]
    exact q
/-- words that the reader can take -/
structure LineOk (x : Str) : Prop where
  short : x.length + 2 ≤ sizeLine
  part : ∀ z ∈ Txt.split x (" " : Str), z.length ≤ 900
  few : (Txt.split x (" " : Str)).length ≤ 38
/-- an entry that was read -/
structure RdE (K : PySem.W.Frag) (C : Addr) (H0 H : Hp) (t : Addr) (evs : List NestedKey) (qs : List (Int × Int)) : Prop where
  ex : ∃ (va la : Addr) (as : List Addr), H0 la = none ∧ H t = some (.tup [.ref va, .ref la]) ∧ Nest H (.tup evs) (.ref va) ∧ H la = some (.lst (as.map V.ref)) ∧ as.length = qs.length ∧ ∀ (i : Nat) (a : Addr) (q : Int × Int), as[i]? = some a → qs[i]? = some q → RatAt C H a q.1 q.2
theorem idx_ne : ∀ {l : List Str} {a : Str} {m : Nat}, m < l.idxOf a → l[m]? ≠ some a
  | [], a, m, h => by simp at h
  | y :: l, a, m, h => by
    rw [List.idxOf_cons] at h
    cases e : (y == a) with
    | true =>
      rw [e] at h
      simp at h
    | false =>
      rw [e] at h
      cases m with
      | zero =>
        intro z
        cases z
        simp at e
      | succ m => exact idx_ne (l := l) (a := a) (m := m) (by simpa using h)
theorem eqV_str (a b : Str) : eqV (.str a) (.str b) = (a == b) := rfl
theorem inV_str (x : Str) : ∀ xs : List Str, inV (.str x) (xs.map V.str) = xs.contains x
  | [] => rfl
  | y :: xs => by
    show (eqV (.str y) (.str x) || inV (.str x) (xs.map V.str)) = _
    rw [inV_str x xs, List.contains_cons, eqV_str]
    congr 1
    exact Bool.eq_iff_iff.mpr ⟨fun h => by rw [eq_of_beq h]; exact beq_self_eq_true _, fun h => by rw [eq_of_beq h]; exact beq_self_eq_true _⟩
theorem flat_strs (xs : List Str) : (xs.map V.str).all flatV = true := by
  rw [List.all_map]
  exact List.all_eq_true.mpr fun _ _ => rfl
def spRE (K : PySem.W.Frag) (C BQ : Addr) : Sp := fun vs H Q E => ∃ (x : Str) (n : Nat), vs = [.str x, .int (n : Int)] ∧ LineOk x ∧ n < 1000 ∧ (lineT (Txt.split x (" " : Str)) = none → ErrQ BQ E H n) ∧
  ∀ evs qs, lineT (Txt.split x (" " : Str)) = some (evs, qs) → ∀ (t : Addr) H', Same H H' → RdE K C H H' t evs qs → Q (.ref t) H'
section
variable {P : Program} {w : World} {K : PySem.W.Frag} {mg : Str → Option Value} {base : Heap} {C BR LE BQ fB : Addr} {fV fF fL fE : Addr} {dV dF dL dE fdB : FuncData}
theorem scRE : FnScope ["line", "at", "words", "behind", "view", "lots", "word"] ["line", "at"] (defScope sRE) := ⟨rfl, rfl, rfl, by decide +kernel, rfl, by decide +kernel, by decide +kernel⟩
theorem ok_re {f : Addr} {fd : FuncData} (F : Fun K "read_entry" "read_entry" sRE f fd) (TB : TxQ K mg LE BQ fB) (GB : FnOk P w K mg base CX0 1 fB fdB ["self", "at"] (spErr BQ "at")) (bB : L2.Binds K fdB ["self", "at"] [])
    (V1 : Fn0 P w K mg base 4 "view_of" ["words"] spVO fV dV) (F1 : Fn0 P w K mg base 4 "fraction_of" ["word"] (spFr C) fF dF) (L1 : Fn0 P w K mg base 4 "are_lots" ["ratios"] (spLots K C) fL dL)
    (GE : FnOk P w K mg base CX0 1 fE dE ["self", "other"] (spEqN C)) (aE : PySem.W.findIn K (.ref C) "__eq__" = some (some (.ref fE))) (iE : PySem.W.isFn K (.ref fE) = true) (bE : L2.Binds K dE ["self", "other"] []) :
    FnOk P w K mg base (L2N.CX P w) 5 f fd ["line", "at"] (spRE K C BQ) := by
  refine Kh.Fun.okN F scRE (fun vs H Q E h => ?_) (fun cdv A outer s H vs Q E hr h => ?_)
  · obtain ⟨x, n, rfl, _⟩ := h
    rfl
  · obtain ⟨x, n, rfl, ok, hn, q1, q2⟩ := h
    have hr2 : Room 2 _ := hr.mono (by decide)
    have hr1 : Room 1 _ := hr.mono (by decide)
    have hrest : ∃ t, PSs (cxOf (L2N.CX P w) P w K mg base ["line", "at", "words", "behind", "view", "lots", "word"] "read_entry" (defScope sRE) f cdv A outer s H E) ((defBody sRE).drop 4) t ∧ ∀ (ws : List Str) (b : Nat) (H2 : Hp) (p : Addr) (v4 : V), Txt.split x (" " : Str) = ws → Same H H2 → H2 p = some (.lst (ws.map V.str)) → b < ws.length → b = ws.idxOf ("do" : Str) → ws[0]? = some ("at" : Str) → ("do" : Str) ∈ ws →
        ((viewT (b - 1) ((ws.take b).drop 1) = none ∧ v4 = .non) ∨ ∃ evs t, viewT (b - 1) ((ws.take b).drop 1) = some evs ∧ v4 = .ref t ∧ Nest H2 (.tup evs) (.ref t)) →
        t { nx := fun _ H' => Q .non H', rt := Q } [some (.str x), some (.int (n : Int)), some (.ref p), some (.int (b : Int)), some v4, none, none] H2 := by
      refine ⟨_, (pss_cons (ps_setLc (i := 5) (own := [("word", 6)]) (g := gName 6) (tt := tYes) (te := tCall (spFr C) [] E0 (tCons (tVar 6) tNil)) rfl scRE.nd rfl rfl (sw_true rfl rfl rfl (by decide +kernel)) (pi_list (pe_slice sl_list (pv 2) (po_some (pe_op op_add (pv 3) pe_int)) po_none)) (blkOk_by (N := ["line", "at", "words", "behind", "view", "lots", "word"]) (sc := defScope sRE) (by decide +kernel))
          (fun _ _ _ _ _ => pg_name (i := 6) scRE.nd rfl (Or.inl rfl)) (fun _ _ _ _ _ => pts_nil) (fun _ _ _ _ _ => pe_call F1.ok hr (by rfl) F1.gl F1.kp F1.bd .nil pass0 (pa_cons (pv 6) pa_nil)))
      (pss_cons (ps_if (PW.pt (pw_or (pt_cmpR op_isN (pv 4) pe_non (nomark _)) (pw_or (pt_cmpR (op_inB monNone (eqB_none (E := E0) GE aE iE bE pass0) hr2) pe_non (pv 5) rfl) (pw_or1 (pt_not (pt_val (pe_call L1.ok hr (by rfl) L1.gl L1.kp L1.bd .nil pass0 (pa_cons (pv 5) pa_nil))))))))
        (pss_one (L2N.ps_raise rfl (L2N.takes_of rfl rfl rfl rfl) (pmk_oexN TB.ox TB.iB TB.tB GB hr2 bB pass0 rfl TB.mgB (pa_cons (pv 1) pa_nil)))) pss_nil)
      (pss_one (ps_ret (pe_tup (pa_cons (pv 4) (pa_cons (pv 5) pa_nil))))))), ?_⟩
      intro ws b H2 p v4 hsp s2 ep hb eb h0 h1 hv
      rw [hsp] at q1 q2
      have hws := ok.part
      have hwl := ok.few
      rw [hsp] at hws hwl
      have hline : lineT ws = match viewT (b - 1) ((ws.take b).drop 1), fracsT (ws.drop (b + 1)) with
          | some evs, some qs => if lotsQ qs = true then some (evs, qs) else none
          | _, _ => none := by
        unfold lineT
        rw [decide_eq_true h0, decide_eq_true h1, ← eb]
        rfl
      refine ⟨_, rfl, _, rfl, _, _, rfl, rfl, _, rfl, p, _, rfl, SqL.of ep, fun p2 np2 => ?_⟩
      have ecut : cutV (ws.map V.str) (some ((b : Int) + 1)) none = (ws.drop (b + 1)).map V.str := by
        unfold cutV
        rw [show ((b : Int) + 1) = ((b + 1 : Nat) : Int) by omega, HT.sIx_nat, HT.sIx_none, List.length_map, Nat.min_eq_left (by omega), List.take_of_length_le (by rw [List.length_drop, List.length_map]; exact Nat.le_refl _), List.map_drop]
      have ep2 : upd H2 p2 (.lst (cutV (ws.map V.str) (some ((b : Int) + 1)) none)) p2 = some (.lst ((ws.drop (b + 1)).map V.str)) := by rw [upd_same, ecut]
      have s3 := same_upd (o := .lst (cutV (ws.map V.str) (some ((b : Int) + 1)) none)) np2
      generalize upd H2 p2 (.lst (cutV (ws.map V.str) (some ((b : Int) + 1)) none)) = H3 at *
      refine ⟨p2, rfl, ⟨_, SqL.of ep2⟩, fun D hD => ?_⟩
      have hll : (ws.drop (b + 1)).length ≤ 38 := by rw [List.length_drop]; omega
      refine lc_rel (ws.drop (b + 1)) V.str (FR C) FR.mon (SqL.of ep2) (Nat.lt_of_le_of_lt hll (by decide)) hD (fun z hz H' s' Q' k' => ?_) fun H4 vs s4 eD pr => ?_
      · refine ⟨_, rfl, z, rfl, hws z (List.mem_of_mem_drop hz), fun e H5 s5 => k' _ _ s5 (.inl ⟨e, rfl⟩), fun n d e a H5 s5 ra => k' _ _ s5 (.inr ⟨n, d, a, e, rfl, ra⟩)⟩
      have s04 : Same H H4 := (s2.trans s3).trans s4
      have hD0 : H D = none := by
        cases e : H D with
        | none => rfl
        | some o =>
          rw [s3 _ _ (s2 _ _ e)] at hD
          cases hD
      refine ⟨_, rfl, rfl, ?_⟩
      rcases hv with ⟨hv, rfl⟩ | ⟨evs, t, hv, rfl, nt⟩
      · rw [decide_eq_true rfl]
        refine ⟨_, rfl, iteT (iteT (raiseQ (q1 ?_) s04 rfl hn))⟩
        rw [hline, hv]
      · rw [decide_eq_false (fun e => by cases e)]
        refine ⟨_, rfl, iteF ⟨_, rfl, D, vs, _, rfl, eD, fr_in pr, fun H5 s5 => ?_⟩⟩
        have s05 := s04.trans s5
        cases ha : (ws.drop (b + 1)).any fun z => (fracT z).isNone with
        | true =>
          refine ⟨_, rfl, iteT (iteT (raiseQ (q1 ?_) s05 rfl hn))⟩
          rw [hline, hv, frT_none ha]
        | false =>
          obtain ⟨qs, as, e1, rfl, e3, e4⟩ := frT_some (paired_imp (fun a c h => FR.mon _ _ _ _ (NL.same s5) h) pr) ha
          obtain ⟨e5, hfr⟩ := fracsT_frc e1
          have eD5 := s5 _ _ eD
          refine ⟨_, rfl, iteF ⟨_, rfl, D, as, numW qs, denW qs, rfl, .inl (SqL.of eD5), lots_of hfr (by omega) e3 e4, fun H6 s6 => ?_⟩⟩
          have s06 := s05.trans s6
          cases hq : lotsQ qs with
          | false =>
            have hq' : lotsB (numW qs) (denW qs) = false := hq
            rw [hq']
            refine ⟨_, rfl, iteT (raiseQ (q1 ?_) s06 rfl hn)⟩
            rw [hline, hv, e1]
            dsimp only
            rw [hq]
            rfl
          | true =>
            have hq' : lotsB (numW qs) (denW qs) = true := hq
            rw [hq']
            refine ⟨_, rfl, iteF ⟨_, rfl, _, rfl, by show 2 ≤ sizeLine; decide, fun u hu => ?_⟩⟩
            refine q2 evs qs ?_ u _ (s06.trans (same_upd hu)) ⟨t, D, as, hD0, upd_same, ?_, ?_, e3, fun i a q h1 h2 => (e4 i a q h1 h2).same (s6.trans (same_upd hu))⟩
            · rw [hline, hv, e1]
              dsimp only
              rw [hq, if_pos rfl]
            · exact nt.keep fun c xs e => same_upd hu _ _ (s6 _ _ (s5 _ _ (s4 _ _ (s3 _ _ e))))
            · exact same_upd hu _ _ (s6 _ _ eD5)
    obtain ⟨tr, htr, rest⟩ := hrest
    refine ⟨_, pss_cons (ps_set (i := 2) scRE.nd rfl (Or.inl rfl) (pe_split (pv 0) pe_str))
      (pss_cons (ps_if (PW.pt (pw_or (pt_cmpR op_ne (pe_ix ix_list (pv 2) pe_int (fun _ _ => rfl)) pe_str (nomark _)) (pw_or1 (pt_cmpR op_notIn_seq pe_str (pv 2) rfl))))
        (pss_one (L2N.ps_raise rfl (L2N.takes_of rfl rfl rfl rfl) (pmk_oexN TB.ox TB.iB TB.tB GB hr2 bB pass0 rfl TB.mgB (pa_cons (pv 1) pa_nil)))) pss_nil)
      (pss_cons (ps_set (i := 3) scRE.nd rfl (Or.inl rfl) (pe_bm PySem.F.plainAttrs_list PySem.F.slot_list_index PySem.F.type_list_index mt_index (pv 2) (pa_cons pe_str pa_nil)))
      (pss_cons (ps_set (i := 4) scRE.nd rfl (Or.inl rfl) (pe_call V1.ok hr (by rfl) V1.gl V1.kp V1.bd .nil pass0 (pa_cons (pe_slice sl_list (pv 2) (po_some pe_int) (po_some (pv 3))) pa_nil))) htr))), ?_⟩
    have hx0 := Kl.one_sp.ne x
    have hws := ok.part
    have hwl := ok.few
    refine ⟨_, rfl, ⟨_, rfl⟩, x, _, rfl, rfl, by decide +kernel, ok.short, fun p hp => ?_⟩
    have s1 : Same H (upd H p (.lst ((Txt.split x (" " : Str)).map V.str))) := same_upd hp
    have ep : upd H p (.lst ((Txt.split x (" " : Str)).map V.str)) p = some (.lst ((Txt.split x (" " : Str)).map V.str)) := upd_same
    generalize upd H p (.lst ((Txt.split x (" " : Str)).map V.str)) = H1 at *
    generalize hsp : Txt.split x (" " : Str) = ws at *
    obtain ⟨w0, r, rfl⟩ : ∃ w0 r, ws = w0 :: r := by
      cases ws with
      | nil => exact absurd rfl hx0
      | cons a b => exact ⟨a, b, rfl⟩
    refine ⟨_, rfl, p, _, _, _, rfl, rfl, SqL.of ep, atI_nat (j := 0) rfl, rfl, _, rfl, ?_⟩
    by_cases h0 : w0 = ("at" : Str)
    case neg =>
      rw [show (!decide (V.str w0 = V.str ("at" : Str))) = true by rw [decide_eq_false (fun e => h0 (V.str.inj e))]; rfl]
      refine iteT (iteT (raiseQ (q1 ?_) s1 rfl hn))
      unfold lineT
      have e0 : decide ((w0 :: r)[0]? = some ("at" : Str)) = false := decide_eq_false fun e => h0 (Option.some.inj e)
      rw [e0, Bool.false_and]
      rfl
    subst h0
    rw [show (!decide (V.str ("at" : Str) = V.str ("at" : Str))) = false by rw [decide_eq_true rfl]; rfl]
    refine iteF ⟨_, rfl, p, _, rfl, .inl (SqL.of ep), rfl, flat_strs _, ?_⟩
    rw [if_pos rfl, inV_str]
    by_cases h1 : ("do" : Str) ∈ ("at" : Str) :: r
    case neg =>
      rw [show (("at" : Str) :: r).contains ("do" : Str) = false from by simpa using h1]
      refine ⟨_, rfl, iteT (raiseQ (q1 ?_) s1 rfl hn)⟩
      unfold lineT
      rw [decide_eq_false h1, Bool.and_false]
      rfl
    rw [show (("at" : Str) :: r).contains ("do" : Str) = true from by simpa using h1]
    refine ⟨_, rfl, iteF ?_⟩
    -- where the lots begin
    generalize ews : ("at" : Str) :: r = ws at *
    obtain ⟨b, eb⟩ : ∃ b, b = ws.idxOf ("do" : Str) := ⟨_, rfl⟩
    have hb : b < ws.length := by rw [eb]; exact List.idxOf_lt_length_iff.mpr h1
    have hbz : ws[b]? = some ("do" : Str) := by
      rw [List.getElem?_eq_getElem hb]
      congr 1
      subst eb
      exact List.getElem_idxOf hb
    refine ⟨_, rfl, .inl ⟨rfl, _, SqL.of ep⟩, p, ws.map V.str, .str "do", b, .str "do", rfl, rfl, SqL.of ep, rfl, flat_strs _, by rw [List.getElem?_map, hbz]; rfl, by rw [eqV_str]; exact beq_self_eq_true _, fun m z' hm hz' => ?_, ?_⟩
    · obtain ⟨y, hy, rfl⟩ := Option.map_eq_some_iff.mp ((List.getElem?_map ..).symm.trans hz')
      rw [eqV_str]
      cases hc : (y == ("do" : Str)) with
      | false => rfl
      | true =>
        rw [eq_of_beq hc] at hy
        exact absurd hy (idx_ne (by rw [← eb]; exact hm))
    have b1 : 1 ≤ b := by
      refine Nat.pos_of_ne_zero fun e => ?_
      rw [e, ← ews] at hbz
      exact absurd (Option.some.inj hbz) (by decide +kernel)
    have h0 : ws[0]? = some ("at" : Str) := by rw [← ews]; rfl
    refine ⟨_, rfl, _, rfl, _, rfl, _, rfl, p, _, rfl, SqL.of ep, fun p2 np2 => ?_⟩
    have ecut : cutV (ws.map V.str) (some (1 : Int)) (some (b : Int)) = ((ws.take b).drop 1).map V.str := by
      rw [show (1 : Int) = ((1 : Nat) : Int) from rfl, cut_nat (by rw [List.length_map]; omega), List.map_drop, List.map_take, List.drop_take]
    have ep2 : upd H1 p2 (.lst (cutV (ws.map V.str) (some (1 : Int)) (some (b : Int)))) p2 = some (.lst (((ws.take b).drop 1).map V.str)) := by rw [upd_same, ecut]
    have s3 := same_upd (o := .lst (cutV (ws.map V.str) (some (1 : Int)) (some (b : Int)))) np2
    generalize upd H1 p2 (.lst (cutV (ws.map V.str) (some (1 : Int)) (some (b : Int)))) = H2 at *
    have hl2 : ((ws.take b).drop 1).length = b - 1 := by rw [List.length_drop, List.length_take]; omega
    refine ⟨p2, _, rfl, ep2, fun z hz => Nat.le_trans (hws z (List.mem_of_mem_take (List.mem_of_mem_drop hz))) (by decide), by omega, fun e H3 s4 => ?_, fun evs e t H3 s4 nt => ?_⟩
    · rw [hl2] at e
      exact rest ws b H3 p .non rfl ((s1.trans s3).trans s4) (s4 _ _ (s3 _ _ ep)) hb eb h0 h1 (.inl ⟨e, rfl⟩)
    · rw [hl2] at e
      exact rest ws b H3 p (.ref t) rfl ((s1.trans s3).trans s4) (s4 _ _ (s3 _ _ ep)) hb eb h0 h1 (.inr ⟨evs, t, e, rfl, nt⟩)
end
end K0

set_option Elab.async false
set_option linter.all false
set_option maxRecDepth 100000
set_option maxHeartbeats 2000000
/-! Sets whose elements are tuples of tuples, numbers and texts. -/
namespace Ks
open PySem PySem.Spec PyProof.Rows L2 Kd
/-! ### what is asked of an element besides -/
section
variable {P : Program} {w : World}
def NoCls (P : Program) (w : World) (g : Heap) (n : Nat) (v : Value) : Prop := ∀ (A : Around) (E : Value → Shared → Prop) (s : Shared) (Q : Bool → Shared → Prop), s.heap = g → Q false s → wpAny (model P w) A (ofAClassStatement n v) Q E s
def Hby (P : Program) (w : World) (g : Heap) (n : Nat) (v : Value) : Prop := ∀ (A : Around) (E : Value → Shared → Prop) (s : Shared) (Q : Bool → Shared → Prop), s.heap = g → (∀ b, Q b s) → wpAny (model P w) A (hashByValue n v) Q E s
theorem noCls_flat {g : Heap} {n : Nat} {v : Value} (h : ofAClassStatement n v = pure false) : NoCls P w g n v := fun A E s Q _ q => by
  rw [h]
  exact wpAny_pure q
theorem hby_flat {g : Heap} {n : Nat} {v : Value} {b : Bool} (h : hashByValue n v = pure b) : Hby P w g n v := fun A E s Q _ q => by
  rw [h]
  exact wpAny_pure (q b)
mutual
theorem noCls {g : Heap} : ∀ (k : NestedKey) (v : Value) (n : Nat), NestedIs g k v → k.depth ≤ n → NoCls P w g n v
  | .none, _, n, x, _ => by
    cases x
    exact noCls_flat (by cases n <;> rfl)
  | .num i, _, n, x, _ => by
    cases x with
    | bool e => exact noCls_flat (by cases n <;> rfl)
    | int _ t => exact noCls_flat (by cases n <;> rfl)
  | .text z, _, n, x, _ => by
    cases x
    exact noCls_flat (by cases n <;> rfl)
  | .tup ks, _, 0, _, hd => by
    unfold NestedKey.depth at hd
    omega
  | .tup ks, _, n + 1, x, hd => by
    unfold NestedKey.depth at hd
    cases x with
    | @tup a o vs m _ ho hc hdt r =>
      have ih := noClsAll ks vs.toList n r (by omega)
      intro A E s Q es q
      subst es
      unfold ofAClassStatement
      refine wpAny_bind (wpAny_typeOf (T := "tuple") ⟨o, ho, hc⟩ ?_)
      dsimp only
      simp only [show (("tuple" : String) == "tuple") = true by decide, if_true, Bool.not_true, Bool.false_eq_true, if_false]
      refine wpAny_bind (wpAny_pure ?_)
      simp only [Bool.not_true, Bool.false_eq_true, if_false]
      show wpAny _ _ (seqItems? (.ref a) >>= _) _ _ s
      refine wpAny_bind (wpAny_seqItems ho hdt ?_)
      dsimp only
      refine wpAny_bind ?_
      show wpAny _ _ (forIn vs _ _) _ _ s
      rw [← Array.forIn_toList]
      refine wpAny_forIn_list _ (fun rest r s' => r.1 = none ∧ s' = s ∧ ∀ v ∈ rest, NoCls P w s.heap n v) _ ?_ ?_ _ _ ⟨rfl, rfl, ih⟩
      · rintro v rest r s' ⟨hr, rfl, hall⟩
        refine wpAny_bind (hall v List.mem_cons_self A E s' _ rfl ?_)
        exact wpAny_ite_false (by decide) (wpAny_pure ⟨rfl, rfl, fun u hu' => hall u (List.mem_cons_of_mem _ hu')⟩)
      · rintro ⟨r1, r2⟩ s' ⟨hr, rfl, _⟩
        simp only at hr
        subst hr
        exact wpAny_pure q
theorem noClsAll {g : Heap} : ∀ (ks : List NestedKey) (vs : List Value) (n : Nat), NestedAll g ks vs → NestedKey.depthAll ks ≤ n → ∀ v ∈ vs, NoCls P w g n v
  | [], _, n, x, _ => by
    cases x
    exact fun v hv => nomatch hv
  | k :: ks, _, n, x, hd => by
    unfold NestedKey.depthAll at hd
    cases x with
    | cons h r =>
      intro v hv
      rcases List.mem_cons.mp hv with rfl | hv
      · exact noCls k _ n h (by omega)
      · exact noClsAll ks _ n r (by omega) v hv
end
mutual
theorem hby {g : Heap} : ∀ (k : NestedKey) (v : Value) (n : Nat), NestedIs g k v → Hby P w g n v
  | .none, _, n, x => by
    cases x
    exact hby_flat (b := true) (by cases n <;> rfl)
  | .num i, _, n, x => by
    cases x with
    | bool e => exact hby_flat (b := true) (by cases n <;> rfl)
    | int _ t => exact hby_flat (b := true) (by cases n <;> rfl)
  | .text z, _, n, x => by
    cases x
    exact hby_flat (b := false) (by cases n <;> rfl)
  | .tup ks, _, 0, x => by
    cases x
    exact hby_flat (b := false) rfl
  | .tup ks, _, n + 1, x => by
    cases x with
    | @tup a o vs m _ ho hc hdt r =>
      have ih := hbyAll ks vs.toList n r
      intro A E s Q es q
      subst es
      unfold hashByValue
      refine wpAny_bind (wpAny_specialOf (T := "tuple") ⟨o, ho, hc⟩ F.slot_tuple_hash.lookup ?_)
      show wpAny _ _ (seqItems? (.ref a) >>= _) _ _ s
      refine wpAny_bind (wpAny_seqItems ho hdt ?_)
      refine wpAny_bind ?_
      show wpAny _ _ (forIn vs _ _) _ _ s
      rw [← Array.forIn_toList]
      refine wpAny_forIn_list _ (fun rest r s' => r.1 = none ∧ s' = s ∧ ∀ v ∈ rest, Hby P w s.heap n v) _ ?_ ?_ _ _ ⟨rfl, rfl, ih⟩
      · rintro v rest r s' ⟨hr, rfl, hall⟩
        refine wpAny_bind (hall v List.mem_cons_self A E s' _ rfl fun b => ?_)
        cases b with
        | true => exact wpAny_ite_false (by decide) (wpAny_pure ⟨rfl, rfl, fun u hu' => hall u (List.mem_cons_of_mem _ hu')⟩)
        | false => exact wpAny_ite_true (by decide) (wpAny_pure (wpAny_pure (q false)))
      · rintro ⟨r1, r2⟩ s' ⟨hr, rfl, _⟩
        simp only at hr
        subst hr
        exact wpAny_pure (q true)
theorem hbyAll {g : Heap} : ∀ (ks : List NestedKey) (vs : List Value) (n : Nat), NestedAll g ks vs → ∀ v ∈ vs, Hby P w g n v
  | [], _, n, x => by
    cases x
    exact fun v hv => nomatch hv
  | k :: ks, _, n, x => by
    cases x with
    | cons h r =>
      intro v hv
      rcases List.mem_cons.mp hv with rfl | hv
      · exact hby k _ n h
      · exact hbyAll ks _ n r v hv
end
end
/-- the element k at a place of the heap -/
def El (g : Heap) (p : Addr × NestedKey) : Prop := NestedIs g p.2 (.ref p.1) ∧ p.2.depth ≤ 8
section
variable {P : Program} {w : World} {A : Around} {E : Value → Shared → Prop} {s : Shared}
theorem unseen {p : Addr × NestedKey} {ys : List Value} {Q : Bool → Shared → Prop} (hp : El s.heap p) (hy : ∀ y ∈ ys, ∃ q, y = Value.ref q.1 ∧ El s.heap q) (h : Q false s) : wpAny (model P w) A (searchCouldBeSeen (.ref p.1) ys) Q E s := by
  unfold searchCouldBeSeen
  refine wpAny_bind ?_
  refine wpAny_forIn_list _ (fun rest r s' => r.1 = none ∧ s' = s ∧ ∀ y ∈ rest, ∃ q, y = Value.ref q.1 ∧ El s.heap q) _ ?_ ?_ _ _ ⟨rfl, rfl, hy⟩
  · rintro v rest r s' ⟨hr, rfl, hall⟩
    obtain ⟨q, rfl, hq⟩ := hall v List.mem_cons_self
    have on : (none : Option Bool) = none ∧ s' = s' ∧ ∀ y ∈ rest, ∃ q, y = Value.ref q.1 ∧ El s'.heap q := ⟨rfl, rfl, fun u hu' => hall u (List.mem_cons_of_mem _ hu')⟩
    dsimp only
    by_cases hv : (p.1 == q.1 || (carriedByValue (.ref p.1) && carriedByValue (.ref q.1))) = true
    · exact wp_if_pos hv (wpAny_pure on)
    · refine wp_if_neg hv ?_
      refine wpAny_bind ((nestedKind P w).quiet hp ?_)
      simp only [Bool.not_true, Bool.false_eq_true, if_false]
      refine wpAny_bind ((nestedKind P w).quiet hq ?_)
      simp only [Bool.not_true, Bool.false_eq_true, if_false]
      refine wpAny_bind (noCls p.2 _ 8 hp.1 hp.2 A E s' _ rfl ?_)
      simp only [Bool.false_eq_true, if_false]
      refine wpAny_bind (noCls q.2 _ 8 hq.1 hq.2 A E s' _ rfl ?_)
      simp only [Bool.false_eq_true, if_false]
      exact wpAny_pure on
  · rintro ⟨r1, r2⟩ s' ⟨hr, rfl, _⟩
    simp only at hr
    subst hr
    exact wpAny_pure h
end
end Ks

set_option Elab.async false
set_option linter.all false
set_option maxRecDepth 100000
set_option maxHeartbeats 4000000
namespace Ks
open PySem PySem.Spec PyProof.Rows L2 Kd
/-! ### the set and its search -/
def prs (w : World) (L : List (Addr × NestedKey)) : List (Int × Value) := L.map fun q => (q.2.hash w, Value.ref q.1)
abbrev hsh (w : World) (L : List (Addr × NestedKey)) : List Int := L.map fun q => q.2.hash w
/-- the first probe of a hash -/
abbrev beg (t : SetTable) (h : Int) : SetTable.Probe := runAt t.mask (SetTable.bits h % (t.mask + 1)) (SetTable.bits h)
structure SN (P : Program) (w : World) (g : Heap) (a : Addr) (L : List (Addr × NestedKey)) (es : Array (Int × Value)) (ep : Nat) (t : SetTable) : Prop where
  at_ : ∃ o, g.get? a = some o ∧ o.ExactSet ∧ o.data = .set es ep t
  es_ : es.toList = prs w L
  tab : TabOk t (hsh w L)
  one : (L.map (·.2)).Nodup
  el : ∀ q ∈ L, El g q
  led_ : w.params.followText "set-order" = true ∨ t.led = true
  wide : L.length * 5 < t.mask * 3
  few_ : L.length < 64
section
variable {P : Program} {w : World} {A : Around} {E : Value → Shared → Prop} {s : Shared} {a : Addr} {L : List (Addr × NestedKey)} {es : Array (Int × Value)} {ep : Nat} {t : SetTable} {g : Heap}
theorem prs_len (L : List (Addr × NestedKey)) : (prs w L).length = L.length := List.length_map _
theorem SN.len (R : SN P w g a L es ep t) : es.size = L.length := by rw [← Array.length_toList, R.es_, prs_len]
theorem SN.places (R : SN P w g a L es ep t) : t.place.toList.length = L.length := by
  have := R.tab.sz
  rw [Array.length_toList, this, List.length_map]
theorem SN.fit (R : SN P w g a L es ep t) : t.fits es.size = true := by
  have h1 := R.places
  have h2 := R.len
  have h3 := R.wide
  rw [Array.length_toList] at h1
  unfold SetTable.fits SetTable.fill
  rw [R.tab.dm, h2, h1]
  simp
  omega
theorem SN.item (R : SN P w g a L es ep t) {i : Nat} {q : Addr × NestedKey} (h : L[i]? = some q) : es[i]? = some (q.2.hash w, Value.ref q.1) := by
  rw [← Array.getElem?_toList, R.es_]
  unfold prs
  rw [List.getElem?_map, h]
  rfl
theorem SN.stays (R : SN P w g a L es ep t) : ¬ t.gaveWay = true := by
  unfold SetTable.gaveWay
  rw [mask_odd R.tab.mok]
  decide
theorem nodum (m : Nat) : ∀ (n : Nat) (q : SetTable.Probe), q.dummy = none → (nth m q n).dummy = none
  | 0, _, h => h
  | n + 1, q, h => nodum m n (adv m q) (by unfold adv; split <;> exact h)
theorem look (R : SN P w s.heap a L es ep t) {p : Addr × NestedKey} (hx : El s.heap p) (hu : A.units + 8 < cLine) (ad : Bool) {K : Nat} (k1 : K < 10 * SetTable.turns t.mask) (k2 : way t.mask (p.2.hash w) K ∉ t.place.toList) (k3 : ∀ c, c < K → way t.mask (p.2.hash w) c ∈ t.place.toList)
    {Q : SetFound → Shared → Prop} (yes : p.2 ∈ L.map (·.2) → ∀ r : Option Nat, (ad = false → r.isSome = true) → Q (.there r) s) (no : p.2 ∉ L.map (·.2) → Q (.free (way t.mask (p.2.hash w) K) false) s) :
    ∀ (f c : Nat) (stand : Option SetTable.Probe), stand.getD (t.probeStart (p.2.hash w)) = nth t.mask (beg t (p.2.hash w)) c → c ≤ K → K - c < f →
      (∀ (i : Nat) q, L[i]? = some q → q.2 = p.2 → ∃ d, c ≤ d ∧ d < K ∧ t.place.toList[i]? = some (way t.mask (p.2.hash w) d)) →
      wpAny (model P w) A (setSearchFrom a (.ref p.1) (p.2.hash w) ad f stand) Q E s := by
  intro f
  induction f with
  | zero =>
    intro c stand _ _ hf
    omega
  | succ f ih =>
    intro c stand e0 hc hf hre
    obtain ⟨o, ho, hex, hd⟩ := R.at_
    rw [setSearchFrom_succ]
    refine wpAny_bind (wpAny_setState_of ho hd R.fit ?_)
    dsimp only
    refine wp_if_neg R.stays ?_
    try refine wpAny_bind (wpAny_pure ?_)
    generalize hH : p.2.hash w = hv at *
    have along : ∀ q, nth t.mask (nth t.mask (beg t hv) c) q = nth t.mask (beg t hv) (c + q) := fun q => (nth_add t.mask c _ q).symm
    have slotJ : ∀ q, (nth t.mask (nth t.mask (beg t hv) c) q).j = way t.mask hv (c + q) := fun q => congrArg SetTable.Probe.j (along q)
    have hashes : ∀ (i : Nat) q, L[i]? = some q → (fun i => (es[i]?.map (·.1)).getD 0) i = q.2.hash w := fun i q hq => by
      show (es[i]?.map (·.1)).getD 0 = _
      rw [R.item hq]
      rfl
    have what := go_spec t R.tab.ris R.tab.dm (fun i => (es[i]?.map (·.1)).getD 0) hv (10 * SetTable.turns t.mask) (K - c) (nth t.mask (beg t hv) c) (nodum _ _ _ rfl) (by omega)
      (fun q hq => by rw [slotJ]; exact k3 (c + q) (by omega)) (by rw [slotJ, show c + (K - c) = K by omega]; exact k2)
    rcases what with ⟨q, i, hq, hi, hh, before, hpr⟩ | ⟨before, hpr⟩
    · have hpr2 : t.probe (fun i => (es[i]?.map (·.1)).getD 0) hv (stand.getD (t.probeStart hv)) = some (.candidate (way t.mask hv (c + q)) i (nth t.mask (beg t hv) (c + (q + 1)))) := by
        rw [e0, ← slotJ, ← along]
        exact hpr
      rw [hpr2]
      dsimp only
      rw [slotJ] at hi
      have hil : i < L.length := by
        have := (List.getElem?_eq_some_iff.mp hi).1
        rw [R.places] at this
        exact this
      obtain ⟨z, hz⟩ : ∃ z, L[i]? = some z := ⟨_, List.getElem?_eq_getElem hil⟩
      have hm : z ∈ L := List.mem_of_getElem? hz
      have live := slot_live R.tab.ris hi
      have behind : wpAny (model P w) A (searchRest a (.ref p.1) hv ad f es t (way t.mask hv (c + q)) i (nth t.mask (beg t hv) (c + (q + 1)))) Q E s := by
        unfold searchRest
        rw [R.item hz]
        dsimp only
        refine wpAny_bind (wpAny_holding ((nestedKind P w).eqBool hu (R.el z hm) hx ?_))
        refine wpAny_bind (wpAny_setState_of ho hd R.fit ?_)
        dsimp only
        by_cases hk : z.2 = p.2
        · have inside : p.2 ∈ L.map (·.2) := List.mem_map.mpr ⟨z, hm, hk⟩
          rw [decide_eq_true hk]
          cases ad with
          | true => exact wp_if_pos rfl (wpAny_pure (yes inside none (fun e => nomatch e)))
          | false =>
            refine wp_if_neg (by decide) ?_
            try refine wpAny_bind (wpAny_pure ?_)
            rw [sameMem]
            dsimp only
            simp only [if_true, live, R.item hz]
            refine wpAny_bind (wpAny_isSame_ref_self (wpAny_bind (wpAny_pure ?_)))
            simp only [if_true]
            exact wpAny_pure (yes inside (some i) fun _ => rfl)
        · rw [decide_eq_false hk]
          refine wp_if_neg (by simp) ?_
          try refine wpAny_bind (wpAny_pure ?_)
          rw [sameMem]
          dsimp only
          simp only [if_true, live, R.item hz]
          refine wpAny_bind (wpAny_isSame_ref_self (wpAny_bind (wpAny_pure ?_)))
          simp only [if_true]
          refine wp_if_neg (by decide) ?_
          refine ih (c + (q + 1)) _ rfl (by omega) (by omega) fun i0 q0 h0 hk0 => ?_
          obtain ⟨d, d1, d2, d3⟩ := hre i0 q0 h0 hk0
          refine ⟨d, ?_, d2, d3⟩
          rcases Nat.lt_trichotomy d (c + q) with y | y | y
          · refine absurd ((hashes i0 q0 h0).trans ?_) (before (d - c) i0 (by omega) (by rw [slotJ, show c + (d - c) = d by omega]; exact d3))
            rw [hk0, hH]
          · rw [y] at d3
            have l2 := slot_live R.tab.ris d3
            rw [live] at l2
            injection l2 with l2
            rw [← l2, hz] at h0
            cases h0
            exact absurd hk0 hk
          · omega
      by_cases hl : t.led = true
      · refine wp_if_neg (by simp [hl]) ?_
        try refine wpAny_bind (wpAny_pure ?_)
        exact behind
      · refine wp_if_pos (by simp [hl]) ?_
        refine wpAny_bind (unseen hx (fun y hy => ?_) ?_)
        · obtain ⟨e, he, ee⟩ := List.mem_map.mp hy
          have he2 : e ∈ es.toList := by
            have : e ∈ es ∧ e.1 = hv := by simpa using he
            simpa using this.1
          rw [R.es_] at he2
          obtain ⟨z2, hz2, e2⟩ := List.mem_map.mp he2
          exact ⟨z2, by rw [← ee, ← e2], R.el z2 hz2⟩
        · refine wp_if_neg (by decide) ?_
          try refine wpAny_bind (wpAny_pure ?_)
          exact behind
    · have hpr2 : t.probe (fun i => (es[i]?.map (·.1)).getD 0) hv (stand.getD (t.probeStart hv)) = some (.empty (way t.mask hv K) none) := by
        have e2 : way t.mask hv K = (nth t.mask (nth t.mask (beg t hv) c) (K - c)).j := by
          rw [slotJ, show c + (K - c) = K by omega]
        rw [e0, e2]
        exact hpr
      rw [hpr2]
      dsimp only
      refine wpAny_pure (no fun hm => ?_)
      obtain ⟨z, hz, hk⟩ := List.mem_map.mp hm
      obtain ⟨i0, hi0⟩ := List.getElem?_of_mem hz
      obtain ⟨d, d1, d2, d3⟩ := hre i0 z hi0 hk
      refine before (d - c) i0 (by omega) (by rw [slotJ, show c + (d - c) = d by omega]; exact d3) ((hashes i0 z hi0).trans ?_)
      rw [hk, hH]
theorem look_all (R : SN P w s.heap a L es ep t) {p : Addr × NestedKey} (hx : El s.heap p) (hu : A.units + 8 < cLine) (ad : Bool) {Q : SetFound → Shared → Prop} (yes : p.2 ∈ L.map (·.2) → ∀ r : Option Nat, (ad = false → r.isSome = true) → Q (.there r) s)
    (no : ∀ K, p.2 ∉ L.map (·.2) → way t.mask (p.2.hash w) K ∉ t.place.toList → (∀ c, c < K → way t.mask (p.2.hash w) c ∈ t.place.toList) → Q (.free (way t.mask (p.2.hash w) K) false) s) :
    wpAny (model P w) A (setSearch a (.ref p.1) (p.2.hash w) ad) Q E s := by
  have hw := R.wide
  obtain ⟨K, k1, k2, k3⟩ := R.tab.first (by rw [List.length_map]; omega) (p.2.hash w)
  have kb : K < 100000 := by
    have : 10 * SetTable.turns t.mask ≤ 1420 := by
      unfold SetTable.turns
      rcases R.tab.mok with e | e | e <;> omega
    omega
  unfold setSearch
  refine look R hx hu ad k1 k2 k3 yes (fun n => no K n k2 k3) 100000 0 none rfl (Nat.zero_le _) (by omega) fun i q hq hk => ?_
  have hil : i < t.place.toList.length := by
    rw [R.places]
    exact (List.getElem?_eq_some_iff.mp hq).1
  have hj := List.getElem?_eq_getElem hil
  obtain ⟨d, hd, e⟩ := R.tab.before (h := p.2.hash w) k2 (i := i) (by rw [List.getElem?_map, hq, ← hk]; rfl) hj
  exact ⟨d, Nat.zero_le _, hd, by rw [hj, e]⟩
end
end Ks

set_option Elab.async false
set_option linter.all false
set_option maxRecDepth 100000
set_option maxHeartbeats 4000000
namespace Ks
open PySem PySem.Spec PyProof.Rows L2 Kd
/-! ### adding -/
theorem range_all {α : Type} : ∀ l : List α, (List.range l.length).filterMap (fun i => l[i]?) = l
  | [] => rfl
  | x :: l => by
    rw [List.length_cons, List.range_succ_eq_map, List.filterMap_cons_some (f := fun i => (x :: l)[i]?) (a := 0) (b := x) rfl, List.filterMap_map]
    exact congrArg (x :: ·) (range_all l)
theorem in_order {w : World} {L : List (Addr × NestedKey)} {es : Array (Int × Value)} {order : Array Nat} (hr : es.toList = prs w L) (hp : order.toList.Perm (List.range L.length)) :
    ∃ L2, (order.filterMap (es[·]?)).toList = prs w L2 ∧ L2.Perm L ∧ hsh w L2 = order.toList.map fun i => (es.map (·.1)).getD i 0 := by
  have at_ : ∀ i, es[i]? = (L[i]?).map fun q : Addr × NestedKey => (q.2.hash w, Value.ref q.1) := fun i => by
    rw [← Array.getElem?_toList, hr]
    exact List.getElem?_map ..
  refine ⟨order.toList.filterMap (fun i => L[i]?), ?_, ?_, ?_⟩
  · rw [Array.toList_filterMap]
    unfold prs
    rw [List.map_filterMap]
    exact congrArg (fun f => order.toList.filterMap f) (funext at_)
  · have := hp.filterMap fun i => L[i]?
    rw [range_all] at this
    exact this
  · have all : ∀ l : List Nat, (∀ i ∈ l, i < L.length) → hsh w (l.filterMap fun i => L[i]?) = l.map fun i => (es.map (·.1)).getD i 0 := by
      intro l
      induction l with
      | nil => exact fun _ => rfl
      | cons i r ih =>
        intro h
        have hi := List.getElem?_eq_getElem (h i List.mem_cons_self)
        have e2 : (es.map (·.1)).getD i 0 = (L[i]'(h i List.mem_cons_self)).2.hash w := by
          rw [Array.getD_eq_getD_getElem?, Array.getElem?_map, at_, hi]
          rfl
        rw [List.filterMap_cons_some hi, List.map_cons, e2]
        show _ :: hsh w _ = _
        rw [ih fun j hj => h j (List.mem_cons_of_mem _ hj)]
    exact all _ fun i hi => List.mem_range.mp (hp.mem_iff.mp hi)
section
variable {P : Program} {w : World} {A : Around} {E : Value → Shared → Prop} {s : Shared} {a : Addr} {L : List (Addr × NestedKey)} {es : Array (Int × Value)} {ep : Nat} {t : SetTable}
theorem El.same {g g' : Heap} {p : Addr × NestedKey} {o : Obj} (h : El g p) (ho : g.get? a = some o) (hd : o.data = .set es ep t) (hs : Heap.SameBut a g g') : El g' p := by
  refine ⟨NestedIs.at (fun b ob vs n hb hc => ?_) _ _ h.1, h.2⟩
  refine (hs.2 b fun e => ?_).trans hb
  subst e
  rw [ho] at hb
  cases hb
  rw [hd] at hc
  cases hc
theorem middle {α : Type} (L : List α) (n : Nat) (x : α) : (L.take n ++ x :: L.drop n).Perm (x :: L) := by
  refine List.perm_middle.trans ?_
  rw [List.take_append_drop]
theorem relay {o : Obj} (ho : s.heap.get? a = some o) (hx : o.ExactSet) (hd : o.data = .set es ep t) (hr : es.toList = prs w L) (hz : t.place.size = es.size) (hm : t.dummies = #[]) (hf : es.size ≤ t.mask) (one : (L.map (·.2)).Nodup) (el : ∀ q ∈ L, El s.heap q)
    (led : w.params.followText "set-order" = true ∨ t.led = true) (few : L.length < 64) {wanted M : Nat} (w1 : SetTable.sizeAbove wanted - 1 = M) (w2 : MaskOk M) (w3 : SetTable.sizeAbove wanted ≤ 128) (w4 : L.length * 5 < M * 3) {Q : Unit → Shared → Prop}
    (q : ∀ g L' es' ep' t', Heap.SameBut a s.heap g → SN P w g a L' es' ep' t' → L'.Perm L → Q () { s with heap := g }) : wpAny (model P w) A (setRelay a wanted) Q E s := by
  have hl : es.size = L.length := by rw [← Array.length_toList, hr, prs_len]
  have fit : t.fits es.size = true := by
    unfold SetTable.fits SetTable.fill
    rw [hm, hz]
    simp
    omega
  obtain ⟨t2, order, e, hp, T, em, el2, _, _⟩ := relaid_ok t (hs := es.map (·.1)) (wanted := wanted) w1 w2 (by rw [Array.size_map, hl]; omega)
  rw [Array.size_map, hl] at hp
  obtain ⟨L2, r1, r2, r3⟩ := in_order hr hp
  rw [← r3] at T
  have z2 : (order.filterMap (es[·]?)).size = es.size := by rw [← Array.length_toList, r1, prs_len, r2.length_eq, hl]
  rw [setRelay_eq]
  refine wpAny_bind (wpAny_setState_of ho hd fit ?_)
  dsimp only
  refine wp_if_neg (by rw [sizeLine_eq]; omega) ?_
  try refine wpAny_bind (wpAny_pure ?_)
  rw [e]
  dsimp only
  refine wpAny_bind ?_
  refine wp_if_neg (by rw [z2]; simp) ?_
  try refine wpAny_bind (wpAny_pure ?_)
  refine wpAny_pure ?_
  dsimp only
  refine wpAny_storeSet_of ho hd ?_ (by rw [z2, hl, sizeLine_eq]; omega)
  have sb : Heap.SameBut a s.heap (s.heap.update a (Obj.putSet (order.filterMap (es[·]?)) t2)) := Heap.SameBut.update ..
  exact q _ L2 _ (ep + 1) t2 sb ⟨⟨_, store_at ho hd, ⟨hx.1, hx.2.1, hx.2.2⟩, rfl⟩, r1, T, (r2.map (·.2)).nodup_iff.mpr one, fun x hx => (el x (r2.mem_iff.mp hx)).same ho hd sb, by rw [el2]; exact led, by rw [r2.length_eq, em]; exact w4, by rw [r2.length_eq]; exact few⟩ r2
/-- what adding leaves -/
def Added (P : Program) (w : World) (a : Addr) (L : List (Addr × NestedKey)) (p : Addr × NestedKey) (g g' : Heap) : Prop := Heap.SameBut a g g' ∧ ∃ L' es' ep' t', SN P w g' a L' es' ep' t' ∧ (p.2 ∈ L.map (·.2) → L' = L) ∧ (p.2 ∉ L.map (·.2) → L'.Perm (p :: L))
theorem put_in (R : SN P w s.heap a L es ep t) {p : Addr × NestedKey} (hx : El s.heap p) (hu : A.units + 8 < cLine) (few : L.length + 1 < 64) {Q : Bool → Shared → Prop} (q : ∀ b g, Added P w a L p s.heap g → Q b { s with heap := g }) :
    wpAny (model P w) A (setAddHashed a (.ref p.1) (p.2.hash w)) Q E s := by
  obtain ⟨o, ho, hex, hd⟩ := R.at_
  have hl := R.len
  have hw := R.wide
  unfold setAddHashed
  refine wpAny_holding ?_
  rw [show (100000 : Nat) = 99999 + 1 from rfl, setAddHashedIn_succ]
  refine wpAny_bind (wpAny_setState_of ho hd R.fit ?_)
  dsimp only
  refine wp_if_neg (by simp [byScan, Value.scannable]) ?_
  try refine wpAny_bind (wpAny_pure ?_)
  refine wpAny_bind (look_all R hx hu true (fun hm r _ => ?_) fun K hm hK hb => ?_)
  · dsimp only
    exact wpAny_pure (q false s.heap ⟨Heap.SameBut.refl a s.heap, L, es, ep, t, R, fun _ => rfl, fun z => absurd hm z⟩)
  · dsimp only
    refine wpAny_bind (wpAny_setState_of ho hd R.fit ?_)
    dsimp only
    obtain ⟨q1, q2, q3, q4, q5, _, _, _, q9⟩ := R.tab.put hK hb
    generalize hpt : t.put (way t.mask (p.2.hash w) K) = pt at q1 q3 q4 q5 q9 ⊢
    obtain ⟨t1, n⟩ := pt
    dsimp only at q1 q3 q4 q5 q9 ⊢
    subst q1
    generalize SetTable.below t.place (way t.mask (p.2.hash w) K) = n at q2 q3 ⊢
    have pm := middle L n p
    have hlen : (L.take n ++ p :: L.drop n).length = L.length + 1 := pm.length_eq
    have hin : (SetTable.insertAt es n (p.2.hash w, Value.ref p.1)).toList = prs w (L.take n ++ p :: L.drop n) := by
      rw [SetTable.toList_insertAt, R.es_]
      unfold prs
      rw [List.map_append, List.map_cons, List.map_take, List.map_drop]
    have hhs : hsh w (L.take n ++ p :: L.drop n) = (hsh w L).take n ++ p.2.hash w :: (hsh w L).drop n := by
      show List.map _ _ = _
      rw [List.map_append, List.map_cons, List.map_take, List.map_drop]
    rw [← hhs] at q3
    have one1 : ((L.take n ++ p :: L.drop n).map (·.2)).Nodup := by
      refine (pm.map (·.2)).nodup_iff.mpr ?_
      rw [List.map_cons]
      exact List.nodup_cons.mpr ⟨hm, R.one⟩
    have hes : (SetTable.insertAt es n (p.2.hash w, Value.ref p.1)).size = L.length + 1 := by rw [← Array.length_toList, hin, prs_len, hlen]
    generalize SetTable.insertAt es n (p.2.hash w, Value.ref p.1) = es1 at hin hes ⊢
    generalize L.take n ++ p :: L.drop n = L1 at pm hlen q3 one1 hin
    -- the table behind the look at the hash
    have rest : ∀ t2 : SetTable, TabOk t2 (hsh w L1) → t2.mask = t.mask → t2.led = t.led → t2.fill = L.length + 1 → wpAny (model P w) A (storeSet a es1 t2 >>= fun _ => (if (!false && t2.tooFull) = true then (setRelay a (SetTable.grown (es.size + 1)) >>= fun _ => pure true) else pure true) : Sem Bool) Q E s := fun t2 T2 em el2 ef => by
      refine wpAny_bind (wpAny_storeSet_of ho hd ?_ (by rw [hes, sizeLine_eq]; omega))
      have sb : Heap.SameBut a s.heap (s.heap.update a (Obj.putSet es1 t2)) := Heap.SameBut.update ..
      have ho1 := store_at (es' := es1) (t' := t2) ho hd
      generalize s.heap.update a (Obj.putSet es1 t2) = g1 at sb ho1 ⊢
      have el1 : ∀ x ∈ L1, El g1 x := fun x hx1 => by
        rcases List.mem_cons.mp (pm.mem_iff.mp hx1) with e | hx1
        · rw [e]
          exact hx.same ho hd sb
        · exact (R.el x hx1).same ho hd sb
      have led1 : w.params.followText "set-order" = true ∨ t2.led = true := by rw [el2]; exact R.led_
      by_cases hf : t2.tooFull = true
      · have full : (L.length + 1) * 5 ≥ t2.mask * 3 := by
          unfold SetTable.tooFull at hf
          rw [decide_eq_true_eq, ef] at hf
          exact hf
        have two : (t.mask = 7 ∧ L.length = 4) ∨ (t.mask = 31 ∧ L.length = 18) := by
          rw [em] at full
          rcases R.tab.mok with e | e | e
          · left
            rw [e] at full hw
            exact ⟨e, by omega⟩
          · right
            rw [e] at full hw
            exact ⟨e, by omega⟩
          · exfalso
            rw [e] at full
            omega
        have go : ∀ M, SetTable.sizeAbove (SetTable.grown (L.length + 1)) - 1 = M → MaskOk M → SetTable.sizeAbove (SetTable.grown (L.length + 1)) ≤ 128 → (L.length + 1) * 5 < M * 3 →
            wpAny (model P w) A (setRelay a (SetTable.grown (L.length + 1))) (fun _ s' => wpAny (model P w) A (pure true) Q E s') E { s with heap := g1 } := fun M m1 m2 m3 m4 => by
          refine relay (s := { s with heap := g1 }) ho1 ⟨hex.1, hex.2.1, hex.2.2⟩ rfl hin (by have := T2.sz; rw [List.length_map, hlen] at this; rw [this, hes]) T2.dm (by rw [hes, em]; rcases two with ⟨e, e2⟩ | ⟨e, e2⟩ <;> omega) one1 el1 led1 (by rw [hlen]; exact few) m1 m2 m3 (by rw [hlen]; exact m4) ?_
          intro g2 L2 es2 ep2 t3 sb2 R2 pm2
          exact wpAny_pure (q true g2 ⟨sb.trans sb2, L2, es2, ep2, t3, R2, fun z => absurd z hm, fun _ => pm2.trans pm⟩)
        first
          | (refine wpAny_bind ?_; refine wp_if_pos (by simp [hf]) ?_)
          | (refine wp_if_pos (by simp [hf]) ?_; refine wpAny_bind ?_)
        rw [hl]
        rcases two with ⟨_, e2⟩ | ⟨_, e2⟩
        · exact go 31 (by rw [e2, size_20]) (.inr (.inl rfl)) (by rw [e2, size_20]; decide) (by omega)
        · exact go 127 (by rw [e2, size_76]) (.inr (.inr rfl)) (by rw [e2, size_76]; decide) (by omega)
      · first
          | refine wp_if_neg (by simp [hf]) ?_
          | (refine wpAny_bind ?_; refine wp_if_neg (by simp [hf]) ?_; refine wpAny_pure ?_)
        refine wpAny_pure (q true g1 ⟨sb, L1, es1, ep + 1, t2, ⟨⟨_, ho1, ⟨hex.1, hex.2.1, hex.2.2⟩, rfl⟩, hin, T2, one1, el1, led1, ?_, by rw [hlen]; exact few⟩, fun z => absurd z hm, fun _ => pm⟩)
        unfold SetTable.tooFull at hf
        rw [decide_eq_true_eq, ef] at hf
        rw [hlen]
        omega
    have go : ∀ b : Bool, wpAny (model P w) A (storeSet a es1 (if b = true then t1 else { t1 with plain := false }) >>= fun _ => (if (!false && (if b = true then t1 else { t1 with plain := false }).tooFull) = true then (setRelay a (SetTable.grown (es.size + 1)) >>= fun _ => pure true) else pure true) : Sem Bool) Q E s := fun b => by
      have ef : t1.fill = L.length + 1 := by rw [q9, List.length_map]
      cases b with
      | true => exact rest t1 q3 q4 q5 ef
      | false => exact rest { t1 with plain := false } ⟨q3.ris, q3.dm, q3.sz, q3.mok, q3.bd, q3.reach⟩ q4 q5 ef
    by_cases hpl : t1.plain = true
    · refine wp_if_pos hpl (wpAny_bind ?_)
      exact hby p.2 _ 8 hx.1 A E s _ rfl fun b => go b
    · refine wp_if_neg hpl (wpAny_bind ?_)
      exact wpAny_pure (go true)
end
end Ks

set_option Elab.async false
set_option linter.all false
set_option maxRecDepth 100000
set_option maxHeartbeats 4000000
namespace Ks
open PySem PySem.Spec PyProof.Rows L2 Kd
/-! ### in, add, set() in the hand layer -/
section
variable {P : Program} {w : World} {A : Around} {E : Value → Shared → Prop} {s : Shared} {a : Addr} {L : List (Addr × NestedKey)} {es : Array (Int × Value)} {ep : Nat} {t : SetTable}
theorem SN.ty (R : SN P w s.heap a L es ep t) : s.TypeIs (.ref a) "set" := by
  obtain ⟨o, ho, hc, _⟩ := R.at_
  exact ⟨o, ho, hc.1⟩
theorem find_it (R : SN P w s.heap a L es ep t) {p : Addr × NestedKey} (hx : El s.heap p) (hu : A.units + 8 < cLine) {Q : Option Nat → Shared → Prop} (q : ∀ r : Option Nat, r.isSome = decide (p.2 ∈ L.map (·.2)) → Q r s) : wpAny (model P w) A (setFind a (.ref p.1) (p.2.hash w)) Q E s := by
  obtain ⟨o, ho, _, hd⟩ := R.at_
  unfold setFind
  rw [show (100000 : Nat) = 99999 + 1 from rfl]
  unfold setFindIn
  refine wpAny_bind (wpAny_setState_of ho hd R.fit ?_)
  dsimp only
  refine wp_if_neg (by simp [byScan, Value.scannable]) ?_
  try refine wpAny_bind (wpAny_pure ?_)
  refine wpAny_bind (look_all R hx hu false (fun hm r hr => ?_) fun K hm _ _ => ?_)
  · exact wpAny_pure (q r (by rw [hr rfl, decide_eq_true hm]))
  · exact wpAny_pure (q none (by rw [decide_eq_false hm]; rfl))
theorem in_it (R : SN P w s.heap a L es ep t) {p : Addr × NestedKey} (hx : El s.heap p) (hu : A.units + 40 < cLine) {Q : Bool → Shared → Prop} (q : Q (decide (p.2 ∈ L.map (·.2))) { s with toks := s.toks + p.2.draws }) : wpAny (model P w) A (contains (.ref a) (.ref p.1)) Q E s := by
  unfold contains
  try with_reducible refine wpAny_holding ?_
  refine wpAny_bind (wpAny_specialOf R.ty F.slot_set_contains.lookup ?_)
  show wpAny _ _ (if (some (Value.builtin "set.__contains__") == some Value.none) = true then _ else _) _ E s
  rw [if_neg (by rw [beq_builtin_none]; exact Bool.false_ne_true)]
  refine wpAny_bind (wpAny_callSpecialUnlessNone?_slot (name := Str.ofString "__contains__") R.ty F.slot_set_contains
    (wpAny_call_entry F.slot_set_contains R.ty entry_set_contains ?_ (F.args_set_contains_2 _ _)))
  unfold Builtin.«frozenset.__contains__» Builtin.Frozenset.oneOther
  simp only [List.isEmpty_nil, bind_assoc]
  unfold Builtin.Frozenset.addrOf Builtin.Frozenset.withSetAsKey setContains
  refine wpAny_bind (wpAny_pure ?_)
  try dsimp only
  refine wpAny_bind (wpAny_pure ?_)
  try dsimp only
  refine wpAny_bind (wpAny_tryCatch ?_)
  refine wpAny_holding ?_
  refine wpAny_bind ((nestedKind P w).pyHash (by show _ + 8 < cLine; simp; omega) hx ?_)
  refine wpAny_bind (find_it (s := { s with toks := s.toks + p.2.draws }) R hx (by simp; omega) fun r hr => ?_)
  refine wpAny_pure ?_
  show wpAny _ _ (ret (Value.bool r.isSome)) _ _ _
  rw [hr]
  exact wpAny_pure ⟨_, rfl, wpAny_truthy_bool q⟩
theorem add_it (R : SN P w s.heap a L es ep t) {p : Addr × NestedKey} (hx : El s.heap p) (hu : A.units + 40 < cLine) (few : L.length + 1 < 64) {Q : Value → Shared → Prop} (q : ∀ g, Added P w a L p s.heap g → Q .none { s with heap := g, toks := s.toks + p.2.draws }) :
    wpAny (model P w) A (call (.builtin "set.add") [.ref a, .ref p.1]) Q E s := by
  refine wpAny_call_entry F.slot_set_add R.ty F.entry_set_add ?_ (F.args_set_add_2 _ _)
  unfold Builtin.«set.add» Builtin.Frozenset.oneOther
  simp only [List.isEmpty_nil, bind_assoc]
  unfold Builtin.Frozenset.addrOf setAdd
  refine wpAny_bind (wpAny_pure ?_)
  try dsimp only
  refine wpAny_bind (wpAny_pure ?_)
  try dsimp only
  refine wpAny_bind ?_
  refine wpAny_holding ?_
  refine wpAny_bind ((nestedKind P w).pyHash (by show _ + 8 < cLine; simp; omega) hx ?_)
  refine put_in (s := { s with toks := s.toks + p.2.draws }) R hx (by simp; omega) few fun b g hg => ?_
  show wpAny _ _ (ret Value.none) _ _ _
  exact wpAny_pure ⟨_, rfl, q g hg⟩
end
def rawS (a : Addr) (es : Array (Int × Value)) (ep : Nat) (t : SetTable) : Heap → Prop := fun h => ∃ o, h.get? a = some o ∧ o.ExactSet ∧ o.data = .set es ep t
/-- a set of nested keys at a -/
structure NS (P : Program) (w : World) (H : Hp) (a : Addr) (L : List (Addr × NestedKey)) : Prop where
  ok : ∃ es ep t, H a = some (.ext (rawS a es ep t)) ∧ es.toList = prs w L ∧ TabOk t (hsh w L) ∧ (w.params.followText "set-order" = true ∨ t.led = true) ∧ L.length * 5 < t.mask * 3
  one : (L.map (·.2)).Nodup
  few : L.length < 64
  key : ∀ q ∈ L, Nest H q.2 (.ref q.1) ∧ q.2.depth ≤ 8
theorem NS.keep {P : Program} {w : World} {H H' : Hp} {a : Addr} {L : List (Addr × NestedKey)} (n : NS P w H a L) (e : ∀ a xs, H a = some (.tup xs) → H' a = some (.tup xs)) (hd : H' a = H a) : NS P w H' a L := by
  obtain ⟨es, ep, t, q, r⟩ := n.ok
  exact ⟨⟨es, ep, t, by rw [hd]; exact q, r⟩, n.one, n.few, fun q hq => ⟨(n.key q hq).1.keep e, (n.key q hq).2⟩⟩
theorem NS.same {P : Program} {w : World} {H H' : Hp} {a : Addr} {L : List (Addr × NestedKey)} (n : NS P w H a L) (s : Same H H') : NS P w H' a L := by
  obtain ⟨es, ep, t, q, r⟩ := id n.ok
  exact n.keep (fun a xs e => s _ _ e) (by rw [q, s _ _ q])
theorem NS.heap {P : Program} {w : World} {H : Hp} {h : Heap} {a : Addr} {L : List (Addr × NestedKey)} (n : NS P w H a L) (ok : HOk P w H h) : ∃ es ep t, H a = some (.ext (rawS a es ep t)) ∧ SN P w h a L es ep t := by
  obtain ⟨es, ep, t, q, e1, e2, e3, e4⟩ := n.ok
  obtain ⟨r, _, _⟩ := (show ObjOk P w H h a (.ext (rawS a es ep t)) from ok a _ q)
  exact ⟨es, ep, t, q, r, e1, e2, n.one, fun q hq => ⟨(n.key q hq).1.is ok rfl, (n.key q hq).2⟩, e3, e4, n.few⟩
/-- what makes a NS anew -/
theorem NS.of {P : Program} {w : World} {H : Hp} {g : Heap} {a : Addr} {L : List (Addr × NestedKey)} {es : Array (Int × Value)} {ep : Nat} {t : SetTable} (R : SN P w g a L es ep t) (k : ∀ q ∈ L, Nest H q.2 (.ref q.1)) (h : H a = some (.ext (rawS a es ep t))) : NS P w H a L :=
  ⟨⟨es, ep, t, h, R.es_, R.tab, R.led_, R.wide⟩, R.one, R.few_, fun q hq => ⟨k q hq, (R.el q hq).2⟩⟩
theorem obj_raw {P : Program} {w : World} {H : Hp} {g : Heap} {a : Addr} {L : List (Addr × NestedKey)} {es : Array (Int × Value)} {ep : Nat} {t : SetTable} (R : SN P w g a L es ep t) : ObjOk P w H g a (.ext (rawS a es ep t)) := by
  obtain ⟨o, h1, h2, h3⟩ := id R.at_
  exact ⟨⟨o, h1, h2, h3⟩, ⟨o, h1⟩, fun _ _ ⟨o', q1, q2⟩ kk => ⟨o', kk _ q1, q2⟩⟩
section
variable {X : Cx}
def rSetN (P : Program) (w : World) : List V → Hp → VK → Prop := fun xs H Q => xs = [] ∧ ∀ p H', H p = none → NS P w H' p [] → (∀ b, b ≠ p → H' b = H b) → Q (.ref p) H'
theorem cr_setN : CallR X (.type "set") (rSetN X.prog X.w) := by
  intro pins s σ H xs us Q I r h
  obtain ⟨rfl, q⟩ := h
  cases r
  refine setR_new fun _ => ?_
  have F0 := setTR_fresh (P := X.prog) (w := X.w) (h := s.heap.push { cls := .type "set", dict := none, data := .set #[] 0 (.fresh 0 0 (!X.w.params.followText "set-order")) }) (a := s.heap.objs.size) (Heap.get?_push_size _ rfl)
  have R : SN X.prog X.w (s.heap.push { cls := .type "set", dict := none, data := .set #[] 0 (.fresh 0 0 (!X.w.params.followText "set-order")) }) s.heap.objs.size [] #[] 0 (.fresh 0 0 (!X.w.params.followText "set-order")) := ⟨F0.ob, rfl, F0.tab, List.nodup_nil, (fun q hq => nomatch hq), F0.led, F0.room, F0.few⟩
  have fr := I.hok.fresh (Nat.le_refl s.heap.objs.size)
  exact ⟨.ref _, upd H s.heap.objs.size (.ext (rawS s.heap.objs.size #[] 0 (.fresh 0 0 (!X.w.params.followText "set-order")))), I.laid (t' := s.toks) (fun b u e => Heap.get?_push_of_some _ e) (Nat.le_refl _) (obj_raw R), rfl, q _ _ fr (NS.of R (fun q hq => nomatch hq) upd_same) fun b hb => upd_ne hb⟩
/-- k in s -/
def rInN (P : Program) (w : World) : R2 := fun x y H Q => ∃ (p : Addr × NestedKey) (a : Addr) (L : List (Addr × NestedKey)), x = .ref p.1 ∧ y = .ref a ∧ NS P w H a L ∧ Nest H p.2 (.ref p.1) ∧ p.2.depth ≤ 8 ∧ Q (.bl (decide (p.2 ∈ L.map (·.2)))) H
theorem op_inN (hu : X.A.units + 64 < cLine) : OpR X (compareOp .In) (rInN X.prog X.w) := by
  intro pins s σ H x y v u Q I rx ry h
  obtain ⟨p, a, L, rfl, rfl, ns, n, hk, q⟩ := h
  cases (show v = Value.ref p.1 from rx)
  cases (show u = Value.ref a from ry)
  obtain ⟨es, ep, t, _, R⟩ := ns.heap I.hok
  show wpAny _ _ (do return Value.bool (← contains (.ref a) (.ref p.1))) _ _ s
  exact wpAny_bind (in_it R ⟨n.is I.hok rfl, hk⟩ (by omega) (wpAny_pure ⟨.bl (decide (p.2 ∈ L.map fun z : Addr × NestedKey => z.2)), H, I.kept (t' := _) fun _ _ z => z, rfl, q⟩))
/-- s.add(k) -/
def tAddN (P : Program) (w : World) (to te : TE) : TE := fun σ H Q => to σ H fun x H1 => ∃ (a : Addr), x = .ref a ∧ (∃ L, NS P w H1 a L) ∧ te σ H1 fun y H2 => ∃ (p : Addr × NestedKey) (L : List (Addr × NestedKey)), y = .ref p.1 ∧ NS P w H2 a L ∧ Nest H2 p.2 (.ref p.1) ∧ p.2.depth ≤ 8 ∧ L.length + 1 < 64 ∧
  ∀ H' L', NS P w H' a L' → (∀ b, b ≠ a → H' b = H2 b) → (∀ k, k ∈ L'.map (·.2) ↔ k = p.2 ∨ k ∈ L.map (·.2)) → L'.length ≤ L.length + 1 → Q .non H'
theorem pe_addN {o e : Expr} {to te : TE} {apos cpos : Pos} (hu : X.A.units + 64 < cLine) (ho : PE X o to) (he : PE X e te) (m : M1 X o "add" apos e cpos) : PE X (.Call (.Attribute o "add" apos) [e] [] cpos) (tAddN X.prog X.w to te) := by
  refine ⟨fun pins s σ H Q I h => ?_⟩
  refine wpAny_Call_method m.base m.few m.line F.plainAttrs_set F.slot_set_add F.type_set_add (thn (ho.run pins s σ H _ I h) fun u s1 ⟨x, H1, I1, rx, a, ex, ⟨L, ns⟩, q1⟩ => ?_)
  subst ex
  obtain rfl : u = Value.ref a := rx
  obtain ⟨es, ep, t, _, R⟩ := ns.heap I1.hok
  refine ⟨R.ty, fun b eb => ?_, ?_⟩
  · cases eb
    obtain ⟨ob, h1, h2, _⟩ := R.at_
    exact ⟨ob, h1, h2.2.1⟩
  rw [m.trees]
  refine Calls.callWith_builtin rfl (Calls.evalArgs_plain (Calls.spliced_cons (thn (he.run pins s1 σ H1 _ I1 q1) fun iv s2 ⟨y, H2, I2, ry, p, L2, ey, ns2, n, hk, few, q2⟩ => Calls.spliced_nil ?_)))
  subst ey
  obtain rfl : iv = Value.ref p.1 := ry
  obtain ⟨es2, ep2, t2, eH, R2⟩ := ns2.heap I2.hok
  refine add_it R2 ⟨n.is I2.hok rfl, hk⟩ (by omega) few fun g hg => ?_
  obtain ⟨sb, L', es', ep', t', R', z1, z2⟩ := hg
  have keepT : ∀ b xs, H2 b = some (.tup xs) → upd H2 a (.ext (rawS a es' ep' t')) b = some (.tup xs) := fun b xs e => by
    rw [upd_ne (fun z => by rw [z, eH] at e; cases e)]
    exact e
  have he : ∃ u, g.get? a = some u := by
    obtain ⟨ob, h1, _⟩ := R'.at_
    exact ⟨ob, h1⟩
  have mem : ∀ k, k ∈ L'.map (·.2) ↔ k = p.2 ∨ k ∈ L2.map (·.2) := fun k => by
    by_cases c : p.2 ∈ L2.map (·.2)
    · rw [z1 c]
      exact ⟨.inr, fun z => z.elim (fun e => e ▸ c) id⟩
    · rw [((z2 c).map (·.2)).mem_iff, List.map_cons, List.mem_cons]
  have keys : ∀ q ∈ L', Nest (upd H2 a (.ext (rawS a es' ep' t'))) q.2 (.ref q.1) := fun q hq => by
    by_cases c : p.2 ∈ L2.map (·.2)
    · rw [z1 c] at hq
      exact (ns2.key q hq).1.keep keepT
    · rcases List.mem_cons.mp ((z2 c).mem_iff.mp hq) with e | hq
      · rw [e]
        exact n.keep keepT
      · exact (ns2.key q hq).1.keep keepT
  have len : L'.length ≤ L2.length + 1 := by
    by_cases c : p.2 ∈ L2.map (·.2)
    · rw [z1 c]
      omega
    · rw [(z2 c).length_eq]
      exact Nat.le_refl _
  exact ⟨.non, upd H2 a (.ext (rawS a es' ep' t')), I2.write (e := a) (t' := s2.toks + p.2.draws) (by rw [eH]; trivial) (.inl rfl) (fun b u hb hu => (sb.2 b hb).trans hu) he (obj_raw R'), rfl, q2 _ L' (NS.of R' keys upd_same) (fun b hb => upd_ne hb) mem len⟩
end
end Ks

set_option Elab.async false
set_option linter.all false
set_option maxRecDepth 100000
set_option maxHeartbeats 4000000
/-! read_plan. -/
namespace K0
open PySem PySem.Spec PyProof.Rows L2 Kx Kh Kd TL Kj Ke Ks
/-! ### what is read is a key -/
def EvS (k : NestedKey) : Prop := ∃ (z : Str) (ns : List Int), k = .tup (.text z :: ns.map .num) ∧ (evN z).isSome = true
theorem viewT_ev : ∀ {n : Nat} {ws : List Str} {evs : List NestedKey}, viewT n ws = some evs → ∀ k ∈ evs, EvS k
  | n, [], evs, h => by
    cases n <;> (cases h; exact fun k hk => nomatch hk)
  | 0, _ :: _, _, h => by cases h
  | n + 1, z :: r, evs, h => by
    have h' : (match evN z with
      | none => none
      | some m => if (decide (m ≤ r.length) && (r.take m).all longB) = true then (viewT n (r.drop m)).map (fun vs => NestedKey.tup (NestedKey.text z :: (r.take m).map fun q => NestedKey.num (val q)) :: vs) else none) = some evs := h
    cases hz : evN z with
    | none => rw [hz] at h'; cases h'
    | some m =>
      rw [hz] at h'
      dsimp only at h'
      split at h'
      · obtain ⟨vs, hv, rfl⟩ := Option.map_eq_some_iff.mp h'
        intro k hk
        rcases List.mem_cons.mp hk with rfl | hk
        · exact ⟨z, (r.take m).map val, by rw [List.map_map]; rfl, by rw [hz]; rfl⟩
        · exact viewT_ev hv k hk
      · cases h'
theorem lay_nums : ∀ ns : List Int, PyData.canLayAll0 (NestedKey.datas (ns.map .num)) = true
  | [] => rfl
  | n :: ns => lay_nums ns
theorem dep_nums : ∀ ns : List Int, PyData.depthAll (NestedKey.datas (ns.map .num)) = 0 ∧ NestedKey.depthAll (ns.map .num) = 0
  | [] => ⟨rfl, rfl⟩
  | n :: ns => ⟨(Nat.max_eq_right (Nat.zero_le _)).trans (dep_nums ns).1, (Nat.max_eq_right (Nat.zero_le _)).trans (dep_nums ns).2⟩
theorem evN_lay {z : Str} (h : (evN z).isSome = true) : PyData.canLay0 (.str z) = true := by
  unfold evN at h
  split at h
  · rename_i e; rw [e]; decide +kernel
  · split at h
    · rename_i e; rw [e]; decide +kernel
    · split at h
      · rename_i e; rw [e]; decide +kernel
      · cases h
theorem evS_lay {k : NestedKey} (h : EvS k) : PyData.canLay0 k.data = true ∧ PyData.depth k.data ≤ 1 ∧ k.depth ≤ 1 := by
  obtain ⟨z, ns, rfl, hz⟩ := h
  obtain ⟨d1, d2⟩ := dep_nums ns
  refine ⟨?_, ?_, ?_⟩
  · show (PyData.canLay0 (.str z) && PyData.canLayAll0 (NestedKey.datas (ns.map .num))) = true
    rw [evN_lay hz, lay_nums]
    rfl
  · show max (PyData.depth (.str z)) (PyData.depthAll (NestedKey.datas (ns.map .num))) + 1 ≤ 1
    rw [d1]
    exact Nat.le_refl _
  · show max (NestedKey.depth (.text z)) (NestedKey.depthAll (ns.map .num)) + 1 ≤ 1
    rw [d2]
    exact Nat.le_refl _
theorem evs_lay : ∀ {evs : List NestedKey}, (∀ k ∈ evs, EvS k) → PyData.canLayAll0 (NestedKey.datas evs) = true ∧ PyData.depthAll (NestedKey.datas evs) ≤ 1 ∧ NestedKey.depthAll evs ≤ 1
  | [], _ => ⟨rfl, Nat.zero_le _, Nat.zero_le _⟩
  | k :: r, h => by
    obtain ⟨a1, a2, a3⟩ := evS_lay (h k (List.mem_cons_self ..))
    obtain ⟨b1, b2, b3⟩ := evs_lay (evs := r) fun x hx => h x (List.mem_cons_of_mem _ hx)
    refine ⟨?_, Nat.max_le.mpr ⟨a2, b2⟩, Nat.max_le.mpr ⟨a3, b3⟩⟩
    show (PyData.canLay0 k.data && PyData.canLayAll0 (NestedKey.datas r)) = true
    rw [a1, b1]
    rfl
theorem view_shaped {evs : List NestedKey} (h : ∀ k ∈ evs, EvS k) : SeqAt.shaped (NestedKey.tup evs).data = true ∧ (NestedKey.tup evs).depth ≤ 8 := by
  obtain ⟨a1, a2, a3⟩ := evs_lay h
  refine ⟨?_, Nat.le_trans (Nat.succ_le_succ a3) (by decide)⟩
  show (PyData.canLayAll0 (NestedKey.datas evs) && decide (PyData.depthAll (NestedKey.datas evs) + 1 ≤ 64)) = true
  rw [a1, decide_eq_true (by omega)]
  rfl
theorem lineT_ok {ws : List Str} {evs : List NestedKey} {qs : List (Int × Int)} (h : lineT ws = some (evs, qs)) : (∀ k ∈ evs, EvS k) ∧ (∀ q ∈ qs, Frc q) ∧ qs.length ≤ ws.length ∧ lotsQ qs = true := by
  unfold lineT at h
  split at h
  · split at h
    · rename_i e1 e2
      split at h
      · rename_i hq
        cases h
        obtain ⟨f1, f2⟩ := fracsT_frc e2
        refine ⟨viewT_ev e1, f2, by rw [f1, List.length_drop]; omega, hq⟩
      · cases h
    · cases h
  · cases h
/-- the entries that lines tell, or the first wrong one -/
def readT : Nat → List NestedKey → List Str → Nat ⊕ List (List NestedKey × List (Int × Int))
  | _, _, [] => .inr []
  | n, seen, x :: r => match lineT (Txt.split x (" " : Str)) with
    | none => .inl n
    | some e => if NestedKey.tup e.1 ∈ seen then .inl n else match readT (n + 1) (seen ++ [NestedKey.tup e.1]) r with
      | .inl i => .inl i
      | .inr es => .inr (e :: es)
def putT (es : List (List NestedKey × List (Int × Int))) : Nat ⊕ List (List NestedKey × List (Int × Int)) → Nat ⊕ List (List NestedKey × List (Int × Int))
  | .inl i => .inl i
  | .inr xs => .inr (es ++ xs)
theorem putT_nil (x : Nat ⊕ List (List NestedKey × List (Int × Int))) : putT [] x = x := by cases x <;> rfl
theorem readT_step {n : Nat} {seen : List NestedKey} {x : Str} {r : List Str} {e : List NestedKey × List (Int × Int)} (h : lineT (Txt.split x (" " : Str)) = some e) (hn : ¬ NestedKey.tup e.1 ∈ seen) (es : List (List NestedKey × List (Int × Int))) : putT es (readT n seen (x :: r)) = putT (es ++ [e]) (readT (n + 1) (seen ++ [NestedKey.tup e.1]) r) := by
  have : readT n seen (x :: r) = match readT (n + 1) (seen ++ [NestedKey.tup e.1]) r with
      | .inl i => .inl i
      | .inr es => .inr (e :: es) := by
    show (match lineT (Txt.split x (" " : Str)) with
      | none => Sum.inl n
      | some e => if NestedKey.tup e.1 ∈ seen then .inl n else match readT (n + 1) (seen ++ [NestedKey.tup e.1]) r with
        | .inl i => .inl i
        | .inr es => .inr (e :: es)) = _
    rw [h]
    dsimp only
    rw [if_neg hn]
  rw [this]
  cases readT (n + 1) (seen ++ [NestedKey.tup e.1]) r with
  | inl i => rfl
  | inr xs =>
    show Sum.inr (es ++ (e :: xs)) = Sum.inr ((es ++ [e]) ++ xs)
    rw [List.append_assoc]
    rfl
theorem readT_bad1 {n : Nat} {seen : List NestedKey} {x : Str} {r : List Str} (h : lineT (Txt.split x (" " : Str)) = none) : readT n seen (x :: r) = .inl n := by
  show (match lineT (Txt.split x (" " : Str)) with
    | none => Sum.inl n
    | some e => if NestedKey.tup e.1 ∈ seen then .inl n else match readT (n + 1) (seen ++ [NestedKey.tup e.1]) r with
      | .inl i => .inl i
      | .inr es => .inr (e :: es)) = _
  rw [h]
theorem readT_bad2 {n : Nat} {seen : List NestedKey} {x : Str} {r : List Str} {e : List NestedKey × List (Int × Int)} (h : lineT (Txt.split x (" " : Str)) = some e) (hn : NestedKey.tup e.1 ∈ seen) : readT n seen (x :: r) = .inl n := by
  show (match lineT (Txt.split x (" " : Str)) with
    | none => Sum.inl n
    | some e => if NestedKey.tup e.1 ∈ seen then .inl n else match readT (n + 1) (seen ++ [NestedKey.tup e.1]) r with
      | .inl i => .inl i
      | .inr es => .inr (e :: es)) = _
  rw [h]
  dsimp only
  rw [if_pos hn]
end K0

set_option Elab.async false
set_option linter.all false
set_option maxRecDepth 100000
set_option maxHeartbeats 4000000
/-! read_plan, the def. -/
namespace K0
open PySem PySem.Spec PyProof.Rows L2 Kx Kh Kd TL Kj Ke Ks
def rowE (r : Row) : NestedKey × List (Int × Int) := (r.key, r.lots)
def esE (e : List NestedKey × List (Int × Int)) : NestedKey × List (Int × Int) := (.tup e.1, e.2)
def entE (x : Ent) : NestedKey × List (Int × Int) := (x.key, x.lots)
theorem good_rows : ∀ {rs : List Row} {seen : List NestedKey} {n : Nat}, (∀ r ∈ rs, lotsB r.ws r.W = true) → (∀ r ∈ rs, r.key ∉ seen) → (rs.map (·.key)).Nodup → badFrom seen n rs = none
  | [], _, _, _, _, _ => rfl
  | r :: rs, seen, n, h1, h2, h3 => by
    rw [List.map_cons] at h3
    obtain ⟨h4, h5⟩ := List.nodup_cons.mp h3
    have hb : rowBad seen r = false := by
      unfold rowBad
      rw [h1 r (List.mem_cons_self ..)]
      have : (seen.any fun k => decide (k = r.key)) = false := List.any_eq_false.mpr fun k hk => by
        have : ¬ k = r.key := fun e => h2 r (List.mem_cons_self ..) (e ▸ hk)
        simpa using this
      rw [this]
      rfl
    show (if rowBad seen r = true then some n else badFrom (seen ++ [r.key]) (n + 1) rs) = none
    rw [hb, if_neg Bool.false_ne_true]
    refine good_rows (fun x hx => h1 x (List.mem_cons_of_mem _ hx)) (fun x hx hm => ?_) h5
    rcases List.mem_append.mp hm with hm | hm
    · exact h2 x (List.mem_cons_of_mem _ hx) hm
    · exact h4 (by rw [← List.mem_singleton.mp hm]; exact List.mem_map.mpr ⟨x, hx, rfl⟩)
theorem ent_rows : ∀ {rs : List Row} {xs : List Ent}, Paired EntOf rs xs → xs.map entE = rs.map rowE
  | [], [], .nil => rfl
  | r :: rs, x :: xs, .cons h t => by
    rw [List.map_cons, List.map_cons, ent_rows t]
    unfold entE rowE
    rw [h.1, h.2.2.1]
theorem RowOk.keep {K : PySem.W.Frag} {C : Addr} {H H' : Hp} {r : Row} (h : RowOk K C H r) (e : ∀ b o, H b = some o → b ≠ r.la → (∀ xs, o ≠ .lst xs) → (∀ phi, o ≠ .ext phi) → H' b = some o) (hla : ∀ o, H r.la = some o → (∀ phi, o ≠ .ext phi) → H' r.la = some o) : RowOk K C H' r := by
  have nt : ∀ b xs, H b = some (.tup xs) → H' b = some (.tup xs) := fun b xs z => by
    by_cases q : b = r.la
    · rw [q] at z ⊢
      exact hla _ z fun phi z => by cases z
    · exact e _ _ z q (fun ys z => by cases z) fun phi z => by cases z
  have ni : ∀ b D dx fs, H b = some (.ins D dx fs) → H' b = some (.ins D dx fs) := fun b D dx fs z => by
    by_cases q : b = r.la
    · rw [q] at z ⊢
      exact hla _ z fun phi z => by cases z
    · exact e _ _ z q (fun ys z => by cases z) fun phi z => by cases z
  refine ⟨nt _ _ h.he, h.hv.keep nt, h.sv, h.dv, h.hl.imp (fun z => hla _ z fun phi z => by cases z) (nt _ _), h.lt.len, fun i a w h1 h2 => ?_, h.lt.pos, h.lt.big, h.lt.small, h.lt.few⟩
  obtain ⟨da, ea⟩ := h.lt.at_ i a w h1 h2
  exact ⟨da, ni _ _ _ _ ea⟩
def spRP (K : PySem.W.Frag) (C CP BQ : Addr) : Sp := fun vs H Q E => ∃ (l : Addr) (xs : List Str), vs = [.ref l] ∧ H l = some (.lst (xs.map V.str)) ∧ (∀ x ∈ xs, LineOk x) ∧ xs.length ≤ 60 ∧ (∀ n, readT 0 [] xs = .inl n → ErrQ BQ E H n) ∧
  ∀ es, readT 0 [] xs = .inr es → ∀ (p : Addr) H' (ents : List Ent), Same H H' → PlanAt K C CP H' p ents → ents.map entE = es.map esE → Q (.ref p) H'
section
variable {P : Program} {w : World} {K : PySem.W.Frag} {mg : Str → Option Value} {base : Heap} {C BR CP LE BP BQ fB : Addr} {fR fP : Addr} {dR dP fdB : FuncData}
theorem scRP : FnScope ["lines", "entries", "views", "at", "line", "view", "lots"] ["lines"] (defScope sRP) := ⟨rfl, rfl, rfl, by decide +kernel, rfl, by decide +kernel, by decide +kernel⟩
theorem ok_rp {f : Addr} {fd : FuncData} (F : Fun K "read_plan" "read_plan" sRP f fd) (TP : TxP K mg CP) (hset : mg "set" = none) (henum : mg "enumerate" = none) (TB : TxQ K mg LE BQ fB) (GB : FnOk P w K mg base CX0 1 fB fdB ["self", "at"] (spErr BQ "at")) (bB : L2.Binds K fdB ["self", "at"] [])
    (GR : FnOk P w K mg base (L2N.CX P w) 5 fR dR ["line", "at"] (spRE K C BQ)) (gR : mg "read_entry" = some (.ref fR)) (kR : PySem.W.keepIn K (.ref fR) = true) (bR : L2.Binds K dR ["line", "at"] [])
    (MP : Mk K CP fP) (GP : FnOk P w K mg base (L2N.CX P w) 5 fP dP ["self", "entries"] (spPlan P w K C CP BP)) (bP : L2.Binds K dP ["self", "entries"] []) :
    FnOk P w K mg base (L2N.CX P w) 7 f fd ["lines"] (spRP K C CP BQ) := by
  refine Kh.Fun.okN F scRP (fun vs H Q E h => ?_) (fun cdv A outer s H vs Q E hr h => ?_)
  · obtain ⟨l, xs, rfl, _⟩ := h
    rfl
  · obtain ⟨l, xs, rfl, hl, hok, hn, q1, q2⟩ := h
    have hr2 : Room 2 _ := hr.mono (by decide)
    have hr5 : Room 5 _ := hr.mono (by decide)
    have hu64 : (A.deeper (envOfC "read_plan" (defScope sRP) s.heap.objs.size f cdv)).units + 64 < cLine := by have := hr.un; omega
    refine ⟨_, pss_cons (ps_set (i := 1) scRP.nd rfl (Or.inl rfl) (pe_lst pa_nil))
      (pss_cons (ps_set (i := 2) scRP.nd rfl (Or.inl rfl) (pe_callTy0 cr_setN (by rfl) hset (by decide +kernel)))
      (pss_cons (ps_for (passes_of rfl) rfl (pi_enum (by rfl) henum (pa_cons (pv 0) pa_nil)) (pg_tup (by rfl) (pgs_cons (pg_name (i := 3) scRP.nd rfl (Or.inl rfl)) (pgs_cons (pg_name (i := 4) scRP.nd rfl (Or.inl rfl)) pgs_nil)))
        (pss_cons (ps_asg (pe_call GR hr5 (by rfl) gR kR bR .nil (L2N.passes_call (E := E) (L2N.takes_of rfl rfl rfl rfl) (fun _ _ _ _ h => h)) (pa_cons (pv 4) (pa_cons (pv 3) pa_nil))) (pg_tup (by rfl) (pgs_cons (pg_name (i := 5) scRP.nd rfl (Or.inl rfl)) (pgs_cons (pg_name (i := 6) scRP.nd rfl (Or.inl rfl)) pgs_nil))))
        (pss_cons (ps_if (pt_cmpR (op_inN hu64) (pv 5) (pv 2) rfl) (pss_one (L2N.ps_raise rfl (L2N.takes_of rfl rfl rfl rfl) (pmk_oexN TB.ox TB.iB TB.tB GB hr2 bB pass0 rfl TB.mgB (pa_cons (pv 3) pa_nil)))) pss_nil)
        (pss_cons (ps_expr (pe_addN hu64 (pv 2) (pv 5) ⟨by rfl, by rfl, by rfl, by rfl⟩))
        (pss_one (ps_expr (pe_bm PySem.F.plainAttrs_list PySem.F.slot_list_append PySem.F.type_list_append mt_append (pv 1) (pa_cons (pe_tup (pa_cons (pv 5) (pa_cons (pv 6) pa_nil))) pa_nil))))))))
      (pss_one (ps_ret (pe_make MP GP hr rfl TP.mgP bP .nil passN (pa_cons (pv 1) pa_nil)))))), ?_⟩
    refine ⟨by show 0 ≤ sizeLine; decide, fun le hle => ⟨rfl, fun sA H1 hs0 ns0 keep => ?_⟩⟩
    have s0 : Same H (upd H le (.lst [])) := same_upd hle
    have s1 : Same H H1 := fun b o e => by
      rw [keep b (fun q => by rw [q] at e; rw [s0 _ _ e] at hs0; cases hs0)]
      exact s0 _ _ e
    have nls : le ≠ sA := fun q => by
      rw [← q, upd_same] at hs0
      cases hs0
    have el1 : H1 le = some (.lst []) := by rw [keep le nls]; exact upd_same
    have hsA : H sA = none := by
      cases e : H sA with
      | none => rfl
      | some o => rw [s0 _ _ e] at hs0; cases hs0
    have hlen : (xs.map V.str).length = xs.length := List.length_map _
    let Pv : Nat → L2.St → Hp → Prop := fun i σ H' => (∃ v3 v4 v5 v6, σ = [some (.ref l), some (.ref le), some (.ref sA), v3, v4, v5, v6]) ∧ ∃ (rs : List Row) (es : List (List NestedKey × List (Int × Int))) (L : List (Addr × NestedKey)),
      H' le = some (.lst (rs.map fun r => V.ref r.e)) ∧ (∀ r ∈ rs, RowOk K C H' r ∧ r.la ≠ le ∧ lotsB r.ws r.W = true) ∧ rs.length = i ∧ rs.map rowE = es.map esE ∧ NS P w H' sA L ∧ L.length ≤ i ∧ (∀ k, k ∈ L.map (·.2) ↔ k ∈ rs.map (·.key)) ∧ (rs.map (·.key)).Nodup ∧ Same H H' ∧ readT 0 [] xs = putT es (readT i (rs.map (·.key)) (xs.drop i))
    refine ⟨_, rfl, l, _, rfl, SqL.of (s1 _ _ hl), ?_⟩
    refine for_it (walk_enum (K := K) (a := l) (xs := xs.map V.str)) Pv ⟨⟨none, none, none, none, rfl⟩, [], [], [], el1, (fun r hr => nomatch hr), rfl, rfl, ns0, Nat.le_refl _, fun k => Iff.rfl, List.nodup_nil, s1, (putT_nil _).symm⟩ (fun i σ H2 _ h => ?_) ?_ ?_
    · obtain ⟨_, _, _, _, _, _, _, _, _, _, _, _, s2, _⟩ := h
      exact SqL.of (s2 _ _ hl)
    · rintro i y σ H2 H3 hi ⟨⟨v3, v4, v5, v6, rfl⟩, rs, es, L, e1, h1, h2, h3, h4, h5, h6, h7, s2, hread⟩ ⟨T, a, b, rfl, hT, e3, hx, hy⟩
      cases hx
      obtain ⟨x, hx0, rfl⟩ := Option.map_eq_some_iff.mp ((List.getElem?_map ..).symm.trans hy)
      have hil : i < xs.length := (List.getElem?_eq_some_iff.mp hx0).1
      have hdrop : xs.drop i = x :: xs.drop (i + 1) := by rw [List.drop_eq_getElem_cons hil, (List.getElem?_eq_some_iff.mp hx0).2]
      have s3 : Same H2 H3 := by rw [e3]; exact same_upd hT
      have eT : H3 T = some (.tup [.int (i : Nat), .str x]) := by rw [e3]; exact upd_same
      clear e3
      rw [hdrop] at hread
      have s03 := s2.trans s3
      refine ⟨T, _, rfl, SqT.of eT, rfl, _, _, rfl, _, _, rfl, rfl, ?_⟩
      refine ⟨_, rfl, _, rfl, x, i, rfl, hok x (List.mem_of_getElem? hx0), by omega, fun e d H' s' ed => ?_, fun evs qs e t H4 s4 rd => ?_⟩
      · rw [readT_bad1 e] at hread
        exact q1 i hread d H' (s03.trans s') ed
      · obtain ⟨va, la, as, nla, et, nv, ela, elen, rat⟩ := rd.ex
        obtain ⟨hev, hfr, hqlen, hlq⟩ := lineT_ok e
        obtain ⟨hsh, hdep⟩ := view_shaped hev
        have s04 := s03.trans s4
        have ns4 := (h4.same s3).same s4
        refine ⟨t, _, rfl, SqT.of et, rfl, _, _, rfl, _, _, rfl, rfl, ?_⟩
        refine ⟨_, rfl, _, rfl, (va, .tup evs), sA, L, rfl, rfl, ns4, nv, hdep, _, rfl, ite2 (fun y => ?_) (fun y => ?_)⟩
        · have hm := of_decide_eq_true y
          have hm2 : NestedKey.tup evs ∈ rs.map (·.key) := (h6 _).mp hm
          rw [readT_bad2 e hm2] at hread
          exact raiseQ (q1 i hread) s04 rfl (by omega)
        · have hm2 : ¬ NestedKey.tup evs ∈ rs.map (·.key) := fun q => y (decide_eq_true ((h6 _).mpr q))
          refine ⟨_, rfl, sA, rfl, ⟨L, ns4⟩, _, rfl, (va, .tup evs), L, rfl, ns4, nv, hdep, by omega, fun H5 L' ns5 kp5 hmem hL' => ?_⟩
          obtain ⟨q0, q3, q4, eS, _⟩ := ns4.ok
          have stay5 : ∀ b o, H4 b = some o → (∀ phi, o ≠ .ext phi) → H5 b = some o := fun b o z hn => by
            rw [kp5 b (fun q => by rw [q, eS] at z; cases z; exact hn _ rfl)]
            exact z
          have e4 := s4 _ _ (s3 _ _ e1)
          have e5 := stay5 _ _ e4 fun phi z => by cases z
          have et5 := stay5 _ _ et fun phi z => by cases z
          refine ⟨_, rfl, .inl ⟨rfl, _, SqL.of e5⟩, _, rfl, _, rfl, by show 2 ≤ sizeLine; decide, fun t2 ht2 => ?_⟩
          have s6 := same_upd (o := .tup [.ref va, .ref la]) ht2
          have et2 : upd H5 t2 (.tup [.ref va, .ref la]) t2 = some (.tup [.ref va, .ref la]) := upd_same
          generalize upd H5 t2 (.tup [.ref va, .ref la]) = H6 at *
          have e6 := s6 _ _ e5
          refine ⟨le, _, _, rfl, rfl, e6, by rw [List.length_map, h2]; exact Nat.lt_of_lt_of_le (show i < 60 by omega) (by decide), ?_⟩
          have stay7 : ∀ b o, H6 b = some o → b ≠ le → upd H6 le (.lst ((rs.map fun r => V.ref r.e) ++ [.ref t2])) b = some o := fun b o z hb => by
            rw [upd_ne hb]
            exact z
          have e7 : upd H6 le (.lst ((rs.map fun r => V.ref r.e) ++ [.ref t2])) le = some (.lst ((rs.map fun r => V.ref r.e) ++ [.ref t2])) := upd_same
          generalize upd H6 le (.lst ((rs.map fun r => V.ref r.e) ++ [.ref t2])) = H7 at *
          -- all that is no list and no set stands as before
          have far : ∀ b o, H4 b = some o → (∀ phi, o ≠ .ext phi) → b ≠ le → H7 b = some o := fun b o z hn hb => stay7 _ _ (s6 _ _ (stay5 _ _ z hn)) hb
          have nle : ∀ b o, H4 b = some o → (∀ ys, o ≠ .lst ys) → b ≠ le := fun b o z hn q => by
            rw [q, e4] at z
            cases z
            exact hn _ rfl
          have nla2 : la ≠ le := fun q => by
            rw [q, s3 _ _ e1] at nla
            cases nla
          have rowNew : RowOk K C H7 ⟨t2, va, .tup evs, la, as, numW qs, denW qs⟩ := by
            refine ⟨stay7 _ _ et2 (fun q => by have q : t2 = le := q; rw [q, e6] at et2; cases et2), nv.keep fun b ys z => far _ _ z (fun phi z => by cases z) (nle _ _ z fun ys z => by cases z), hsh, hdep, .inl (far _ _ ela (fun phi z => by cases z) nla2), lots_of hfr ?_ elen fun j a q x1 x2 => ?_⟩
            · have := (hok x (List.mem_of_getElem? hx0)).few
              omega
            · obtain ⟨da, ea⟩ := rat j a q x1 x2
              exact ⟨da, far _ _ ea (fun phi z => by cases z) (nle _ _ ea fun ys z => by cases z)⟩
          refine ⟨⟨_, _, _, _, rfl⟩, rs ++ [⟨t2, va, .tup evs, la, as, numW qs, denW qs⟩], es ++ [(evs, qs)], L', ?_, fun r hr => ?_, ?_, ?_, ?_, by omega, fun k => ?_, ?_, fun b o z => ?_, ?_⟩
          · rw [e7, List.map_append]
            rfl
          · rcases List.mem_append.mp hr with hr | hr
            · obtain ⟨r1, r2, r3⟩ := h1 r hr
              refine ⟨((r1.ext s3).ext s4).keep (fun b o z _ hl he => far _ _ z he (nle _ _ z hl)) (fun o z he => far _ _ z he r2), r2, r3⟩
            · rw [List.mem_singleton.mp hr]
              exact ⟨rowNew, nla2, hlq⟩
          · rw [List.length_append, h2]
            rfl
          · rw [List.map_append, List.map_append, h3]
            congr 1
            show [rowE _] = [esE _]
            unfold rowE esE Row.lots
            rw [row_lots hfr]
          · refine (ns5.same s6).keep (fun b ys z => stay7 _ _ z (fun q => by rw [q, e6] at z; cases z)) ?_
            obtain ⟨_, _, _, eS6, _⟩ := (ns5.same s6).ok
            rw [eS6]
            exact stay7 _ _ eS6 nls.symm
          · rw [hmem, h6, List.map_append, List.mem_append, List.map_singleton, List.mem_singleton]
            exact Or.comm
          · rw [List.map_append, List.map_singleton]
            exact List.nodup_append.mpr ⟨h7, (by simp), fun a ha b hb => by
              rw [List.mem_singleton.mp hb]
              exact fun q => hm2 (by have q : a = NestedKey.tup evs := q; rw [← q]; exact ha)⟩
          · by_cases q : b = sA
            · rw [q, hsA] at z
              cases z
            · have z4 := s04 _ _ z
              have : H5 b = some o := by rw [kp5 b q]; exact z4
              exact stay7 _ _ (s6 _ _ this) (ne_of_none z hle)
          · rw [hread, List.map_append]
            exact readT_step e hm2 es
    · rintro σ H2 ⟨⟨v3, v4, v5, v6, rfl⟩, rs, es, L, e1, h1, h2, h3, h4, h5, h6, h7, s2, hread⟩
      rw [hlen, List.drop_length] at hread
      have hb : badFrom [] 0 rs = none := good_rows (fun r hr => (h1 r hr).2.2) (fun r hr hm => nomatch hm) h7
      refine ⟨_, rfl, fun p dx np ndx nex => ?_⟩
      have sm := made (C := CP) np ndx
      refine ⟨p, dx, le, rs, rfl, upd_same, sm _ _ e1, fun r hr => (h1 r hr).1.ext sm, by omega, (fun n hn => by rw [hb] at hn; cases hn), fun _ H3 ents PA pr _ kp => ⟨rfl, ?_⟩⟩
      have hes : readT 0 [] xs = .inr es := by
        rw [hread]
        show Sum.inr (es ++ []) = _
        rw [List.append_nil]
      exact q2 es hes p H3 ents (s2.trans (Same.made np ndx kp)) PA ((ent_rows pr).trans h3)
end
end K0

set_option Elab.async false
set_option linter.all false
set_option maxRecDepth 100000
set_option maxHeartbeats 4000000
/-! _law_entries: what the law draws. -/
namespace K0
open PySem PySem.Spec PyProof.Rows L2 Kx Kh Kd TL Kj Ke Ks
/-- an entry as it is drawn: its tuple, its view, its list of pairs -/
structure DE where
  e : Addr
  va : Addr
  l : Addr
  evs : List NestedKey
  ts : List Addr
  ws : List Int
  W : Int
def DE.qs (x : DE) : List (Int × Int) := x.ws.map fun w => (rn w x.W, rd w x.W)
/-- numbers over their sum -/
structure Wts (ws : List Int) (W : Int) : Prop where
  nn : ∀ w ∈ ws, 0 ≤ w
  sum : ws.sum = W
  pos : 0 < W
  big : W < 10 ^ 60
  few : ws.length ≤ 8
  some_ : 1 ≤ ws.length
structure DEOk (H : Hp) (x : DE) : Prop where
  he : H x.e = some (.tup [.ref x.va, .ref x.l])
  hv : Nest H (.tup x.evs) (.ref x.va)
  ev : ∀ k ∈ x.evs, EvK k
  ez : x.evs.length ≤ 8
  hl : H x.l = some (.lst (x.ts.map V.ref))
  tl : x.ts.length = x.ws.length
  pr : ∀ (j : Nat) t q, x.ts[j]? = some t → x.qs[j]? = some q → PairT H t q
  wt : Wts x.ws x.W
theorem DEOk.mv {H H' : Hp} {x : DE} (h : DEOk H x) (n : NL H H') (hl : H' x.l = some (.lst (x.ts.map V.ref))) : DEOk H' x :=
  ⟨n _ _ h.he (fun _ z => by cases z), h.hv.keep fun a xs z => n _ _ z (fun _ z => by cases z), h.ev, h.ez, hl, h.tl, fun j t q h1 h2 => n _ _ (h.pr j t q h1 h2) (fun _ z => by cases z), h.wt⟩
theorem NL.kp {H H' : Hp} {p : Addr} {b : Int} (P : PoolAt H p b) (k : Kp p H H') : NL H H' := fun c o e hn => k.all c o e fun q => by
  obtain ⟨qq, ns, i, cc, s, t, PV⟩ := P
  rw [q, PV.hp] at e
  cases e
  exact hn _ rfl
/-- the rows drawn so far -/
structure Rws (H0 H : Hp) (p el vl : Addr) (b : Int) (rows : List DE) : Prop where
  el_ : H el = some (.lst (rows.map fun x => V.ref x.e))
  vl_ : H vl = some (.lst (rows.map fun x => V.ref x.va))
  ok : ∀ x ∈ rows, DEOk H x ∧ x.l ≠ p ∧ x.l ≠ el ∧ x.l ≠ vl
  nd : (rows.map fun x => NestedKey.tup x.evs).Nodup
  pool : PoolAt H p b
  kp : Kp p H0 H
  p0 : PoolAt H0 p b
  fe : H0 el = none
  fv : H0 vl = none
  ne : el ≠ vl
def spEnts : Sp := fun vs H Q _ => ∃ (p : Addr) (b : Int), vs = [.ref p] ∧ PoolAt H p b ∧ ∀ (el vl : Addr) (rows : List DE) (H' : Hp), Rws H H' p el vl b rows → rows.length ≤ 10 → Q (.ref el) H'
theorem EvK.evS {k : NestedKey} (h : EvK k) : EvS k := by
  cases h with
  | sh n h => exact ⟨"shown", [n], rfl, by decide +kernel⟩
  | did n h => exact ⟨"did", [n], rfl, by decide +kernel⟩
  | ask n m h h' => exact ⟨"asked", [n, m], rfl, by decide +kernel⟩
theorem rows_dp {K : PySem.W.Frag} {H : Hp} : ∀ {rows : List DE}, (∀ x ∈ rows, DEOk H x) → DpAll K H (rows.map fun x => V.ref x.va) (rows.map fun x => (NestedKey.tup x.evs).data)
  | [], _ => .nil
  | x :: r, h => .cons (h x (List.mem_cons_self ..)).hv.dp (rows_dp fun y hy => h y (List.mem_cons_of_mem _ hy))
theorem rows_lay : ∀ {rows : List DE}, (∀ x ∈ rows, ∀ k ∈ x.evs, EvK k) → PyData.canLayAll0 (rows.map fun x => (NestedKey.tup x.evs).data) = true ∧ PyData.depthAll (rows.map fun x => (NestedKey.tup x.evs).data) ≤ 2
  | [], _ => ⟨rfl, Nat.zero_le _⟩
  | x :: r, h => by
    obtain ⟨h1, h2⟩ := rows_lay (rows := r) fun y hy => h y (List.mem_cons_of_mem _ hy)
    obtain ⟨a1, a2, _⟩ := evs_lay fun k hk => (h x (List.mem_cons_self ..) k hk).evS
    refine ⟨?_, Nat.max_le.mpr ⟨Nat.succ_le_succ a2, h2⟩⟩
    show (PyData.canLayAll0 (NestedKey.datas x.evs) && _) = true
    rw [a1, Bool.true_and]
    exact h1
theorem rows_any {rows : List DE} {k : NestedKey} : ((rows.map fun x => (NestedKey.tup x.evs).data).any fun z => PyData.eqv z k.data) = decide (k ∈ rows.map fun x => NestedKey.tup x.evs) := by
  induction rows with
  | nil => rfl
  | cons x r ih =>
    rw [List.map_cons, List.any_cons, ih, List.map_cons, Kd.eqv_key]
    by_cases e : NestedKey.tup x.evs = k
    · subst e
      simp
    · have e2 : ¬ k = NestedKey.tup x.evs := fun q => e q.symm
      rw [decide_eq_false e, Bool.false_or]
      simp [e2]
theorem sum_nn {M : Int} : ∀ {ws : List Int}, (∀ w ∈ ws, 0 ≤ w ∧ w ≤ M) → 0 ≤ ws.sum ∧ ws.sum ≤ M * (ws.length : Int)
  | [], _ => by simp
  | x :: xs, h => by
    obtain ⟨h1, h2⟩ := h x (List.mem_cons_self ..)
    obtain ⟨h3, h4⟩ := sum_nn fun w hw => h w (List.mem_cons_of_mem _ hw)
    rw [List.sum_cons, List.length_cons]
    have : M * ((xs.length + 1 : Nat) : Int) = M * (xs.length : Int) + M := by rw [Int.natCast_succ, Int.mul_add, Int.mul_one]
    omega
theorem pairs_of {H : Hp} {W : Int} : ∀ {ms : List Int} {vs : List V}, Paired (fun w v => ∃ t, v = V.ref t ∧ H t = some (.tup [.int (rn w W), .int (rd w W)])) ms vs → ∃ ts : List Addr, vs = ts.map V.ref ∧ ts.length = ms.length ∧ ∀ (j : Nat) t q, ts[j]? = some t → (ms.map fun w => (rn w W, rd w W))[j]? = some q → PairT H t q
  | [], [], .nil => ⟨[], rfl, rfl, fun j t q h => by simp at h⟩
  | w :: ms, v :: vs, .cons ⟨t, e, h⟩ r => by
    obtain ⟨ts, h1, h2, h3⟩ := pairs_of r
    refine ⟨t :: ts, by rw [h1, e]; rfl, congrArg (· + 1) h2, fun j u q hu hq => ?_⟩
    cases j with
    | zero =>
      cases hu
      cases hq
      exact h
    | succ j => exact h3 j u q hu hq
theorem ixN_of {n : Nat} {k : Int} (h0 : 0 ≤ k) (h1 : k < n) : ixN n k = some k.toNat := by
  unfold ixN
  rw [if_pos h0, if_pos h1]
theorem cr_sumK {X : Cx} {K : PySem.W.Frag} (h : X.K = K) (hc : X.calm = true) : CallR X (.builtin "sum") (rSum K) := by
  subst h
  exact cr_sum hc
abbrev NEn : List Str := ["pool", "entries", "views", "k", "view", "weights", "large", "turn", "weight"]
section
variable {P : Program} {w : World} {K : PySem.W.Frag} {mg : Str → Option Value} {base : Heap} {fD fE fR : Addr} {dD dE dR : FuncData}
theorem scEn' : FnScope NEn ["pool"] (defScope sEnts) := ⟨rfl, rfl, rfl, by decide +kernel, rfl, by decide +kernel, by decide +kernel⟩
def forBody : Stmt → List Stmt
  | .For _ _ b _ _ => b
  | _ => []
abbrev enBody : List Stmt := forBody ((defBody sEnts).getD 2 (.Pass ⟨0, 0, 0, 0⟩))
abbrev enX (P : Program) (w : World) (K : PySem.W.Frag) (mg : Str → Option Value) (base : Heap) (f : Addr) (cdv : Value) (A : Around) (outer : List Env) (s : Shared) (H : Hp) (E : XK) : Cx := (cxOf CX0 P w K mg base NEn "_law_entries" (defScope sEnts) f cdv A outer s H E).nox
/-- behind the weights -/
theorem en_rest {f : Addr} {cdv : Value} {A : Around} {outer : List Env} {s : Shared} {H : Hp} {E : XK} (hr : Room 3 (enX P w K mg base f cdv A outer s H E).A) (T : TxL mg) (hsum : mg "sum" = none) (R1 : Fn0 P w K mg base 1 "_law_less" ["num", "den"] spRed fR dR) :
    ∃ t, PSs (enX P w K mg base f cdv A outer s H E) (enBody.drop 3) t ∧ ∀ (D : Ends) (H0 H2 H5 : Hp) (p el vl va wl : Addr) (b : Int) (rows : List DE) (evs : List NestedKey) (ns : List Int) (v3 v6 : Option V),
      Rws H0 H2 p el vl b rows → Kp p H2 H5 → PoolAt H5 p b → H2 wl = none → H5 wl = some (.lst (ns.map V.int)) → Nest H5 (.tup evs) (.ref va) → (∀ k ∈ evs, EvK k) → evs.length ≤ 8 → (∀ w ∈ ns, 0 ≤ w ∧ w ≤ 10 ^ 58 + 10 ^ 6) → 1 ≤ ns.length → ns.length ≤ 8 → rows.length ≤ 20 →
      (∀ (rows' : List DE) H' v3 v4 v5 v6, Rws H0 H' p el vl b rows' → rows'.length ≤ rows.length + 1 → D.nx [some (.ref p), some (.ref el), some (.ref vl), v3, v4, v5, v6, none, none] H') →
      t D [some (.ref p), some (.ref el), some (.ref vl), v3, some (.ref va), some (.ref wl), v6, none, none] H5 := by
  have hr1 : Room 1 _ := hr.mono (by decide)
  have hu64 : (enX P w K mg base f cdv A outer s H E).A.units + 65 < cLine := by have := hr.un; omega
  refine ⟨_, pss_cons (ps_asg (pe_op op_add (pe_ix ix_list (pv 5) pe_int (fun _ _ => rfl)) (pe_callTy call_int1 (by rfl) T.int (by decide +kernel) (pa_cons (pe_cmpR op_eq (pe_callB (cr_sum rfl) (by rfl) hsum (by decide +kernel) (pa_cons (pv 5) pa_nil)) pe_int (nomark _)) pa_nil))) (pg_sub (pv 5) pe_int set_list))
    (pss_one (ps_if (pt_cmpR (op_notInD hu64) (pv 4) (pv 2) rfl)
      (pss_cons (ps_expr (pe_bm PySem.F.plainAttrs_list PySem.F.slot_list_append PySem.F.type_list_append mt_append (pv 2) (pa_cons (pv 4) pa_nil)))
      (pss_one (ps_expr (pe_bm PySem.F.plainAttrs_list PySem.F.slot_list_append PySem.F.type_list_append mt_append (pv 1) (pa_cons (pe_tup (pa_cons (pv 4) (pa_cons (pe_lc (own := [("weight", 8)]) (g := gName 8) (tt := tYes) (te := tCall spRed [] E0 (tCons (tVar 8) (tCons (tCB (rSum K) (tCons (tVar 5) tNil)) tNil))) rfl scEn'.nd (pi_list (pv 5)) (blkOk_by (N := NEn) (sc := defScope sEnts) (by decide +kernel))
          (fun _ _ _ _ _ => pg_name (i := 8) scEn'.nd rfl (Or.inl rfl)) (fun _ _ _ _ _ => pts_nil) (fun _ _ _ _ _ => pe_call R1.ok hr1 (by rfl) R1.gl R1.kp R1.bd .nil pass0 (pa_cons (pv 8) (pa_cons (pe_callB (cr_sumK (by rfl) rfl) (by rfl) hsum (by decide +kernel) (pa_cons (pv 5) pa_nil)) pa_nil)))) pa_nil))) pa_nil)))))
      pss_nil)), ?_⟩
  intro D H0 H2 H5 p el vl va wl b rows evs ns v3 v6 R k25 P5 fw hw hv hev hez hns hn1 hn8 hrl q
  obtain ⟨n0, r, rfl⟩ : ∃ n0 r, ns = n0 :: r := by
    cases ns with
    | nil => simp at hn1
    | cons a r => exact ⟨a, r, rfl⟩
  have hin : ixN ((n0 :: r).map V.int).length 0 = some 0 := ixN_of (by decide) (by rw [List.length_map, List.length_cons]; omega)
  refine ⟨_, rfl, wl, _, _, _, rfl, rfl, SqL.of hw, atI_nat (j := 0) rfl, _, rfl, wl, _, rfl, SqL.of hw, rfl, .inr ⟨_, rfl, _, _, rfl, rfl, _, rfl, wl, _, _, 0, rfl, rfl, hw, hin, ?_⟩⟩
  obtain ⟨X, hX⟩ : ∃ X, X = n0 + (if decide (V.int (n0 :: r).sum = V.int 0) = true then (1 : Int) else 0) := ⟨_, rfl⟩
  have hset : ∀ u, u = V.int X → upd H5 wl (.lst (((n0 :: r).map V.int).set 0 u)) = upd H5 wl (.lst ((X :: r).map V.int)) := by
    rintro u rfl
    rfl
  rw [hset]
  rotate_left
  · exact (congrArg V.int hX).symm
  have hb : (10 : Int) ^ 58 + 10 ^ 6 + 1 ≤ 10 ^ 59 := by decide +kernel
  have hXr : ∀ w ∈ X :: r, 0 ≤ w ∧ w ≤ 10 ^ 59 := by
    intro w hw
    rcases List.mem_cons.mp hw with rfl | hw
    · have := hns n0 (List.mem_cons_self ..)
      rw [hX]
      split <;> omega
    · have := hns w (List.mem_cons_of_mem _ hw)
      omega
  have hlX : (X :: r).length ≤ 8 := hn8
  have hsX := sum_nn hXr
  have hpos : 0 < (X :: r).sum := by
    have h0 := (sum_nn hns).1
    rw [List.sum_cons] at h0 ⊢
    rw [List.sum_cons] at hX
    by_cases z : n0 + r.sum = 0
    · rw [if_pos (decide_eq_true (by rw [z]))] at hX
      omega
    · rw [if_neg (fun e => z (V.int.inj (of_decide_eq_true e)))] at hX
      omega
  have hbig : (X :: r).sum < 10 ^ 60 := by
    have : (10 : Int) ^ 59 * ((X :: r).length : Int) ≤ 10 ^ 59 * 8 := Int.mul_le_mul_of_nonneg_left (by omega) (by decide +kernel)
    have h8 : (10 : Int) ^ 59 * 8 < 10 ^ 60 := by decide +kernel
    omega
  have hW : Wts (X :: r) (X :: r).sum := ⟨fun w hw => (hXr w hw).1, rfl, hpos, hbig, hlX, by rw [List.length_cons]; omega⟩
  clear hX hset hin hXr
  generalize X :: r = ms at *
  have P2 := R.pool
  have P6 : PoolAt (upd H5 wl (.lst (ms.map V.int))) p b := PoolAt.own P2 fw k25 P5
  have k26 : Kp p H2 (upd H5 wl (.lst (ms.map V.int))) := Kp.own P2 fw k25
  have hw6 : upd H5 wl (.lst (ms.map V.int)) wl = some (.lst (ms.map V.int)) := upd_same
  have nl6 : NL H5 (upd H5 wl (.lst (ms.map V.int))) := NL.lst hw
  generalize upd H5 wl (.lst (ms.map V.int)) = H6 at *
  have npl : ∀ {c : Addr} {xs : List V}, H2 c = some (.lst xs) → c ≠ wl := fun h q => by rw [q, fw] at h; cases h
  have nvp : vl ≠ p := R.p0.ne0 R.fv
  have nep : el ≠ p := R.p0.ne0 R.fe
  have hv6 : Nest H6 (.tup evs) (.ref va) := hv.keep fun a xs z => nl6 _ _ z fun _ z => by cases z
  have vl6 := k26.all _ _ R.vl_ nvp
  have el6 := k26.all _ _ R.el_ nep
  have ok6 : ∀ x ∈ rows, DEOk H6 x := fun x hx => by
    obtain ⟨h1, h2, _, _⟩ := R.ok x hx
    exact h1.mv (NL.kp P2 k26) (k26.all _ _ h1.hl h2)
  obtain ⟨ly1, ly2⟩ := rows_lay fun x hx => (R.ok x hx).1.ev
  refine ⟨_, rfl, _, rfl, (NestedKey.tup evs).data, rows.map (fun x => (NestedKey.tup x.evs).data), hv6.dp, .lst (SqL.of vl6) (rows_dp ok6), (view_shaped fun k hk => (hev k hk).evS).1, ?_, _, rfl, ?_⟩
  · show (PyData.canLayAll0 _ && decide (PyData.depthAll _ + 1 ≤ 64)) = true
    rw [ly1, decide_eq_true (by omega)]
    rfl
  rw [rows_any]
  by_cases hm : NestedKey.tup evs ∈ rows.map fun x => NestedKey.tup x.evs
  · rw [decide_eq_true hm]
    refine iteF (q rows H6 _ _ _ _ ⟨el6, vl6, fun x hx => ⟨ok6 x hx, (R.ok x hx).2⟩, R.nd, P6, R.kp.trans k26, R.p0, R.fe, R.fv, R.ne⟩ (Nat.le_succ _))
  rw [decide_eq_false hm]
  refine iteT ?_
  have nvw : vl ≠ wl := npl R.vl_
  have new_ : el ≠ wl := npl R.el_
  have nwp : wl ≠ p := P2.ne0 fw
  refine ⟨_, rfl, .inl ⟨rfl, _, SqL.of vl6⟩, _, rfl, vl, _, _, rfl, rfl, vl6, by rw [List.length_map]; exact Nat.lt_of_le_of_lt hrl (by decide), ?_⟩
  have k06 := R.kp.trans k26
  have P7 : PoolAt (upd H6 vl (.lst (rows.map (fun x => V.ref x.va) ++ [.ref va]))) p b := PoolAt.own R.p0 R.fv k06 P6
  have k07 : Kp p H0 (upd H6 vl (.lst (rows.map (fun x => V.ref x.va) ++ [.ref va]))) := Kp.own R.p0 R.fv k06
  have vl7 : upd H6 vl (.lst (rows.map (fun x => V.ref x.va) ++ [.ref va])) vl = some (.lst (rows.map (fun x => V.ref x.va) ++ [.ref va])) := upd_same
  have far7 : ∀ c o, H6 c = some o → c ≠ vl → upd H6 vl (.lst (rows.map (fun x => V.ref x.va) ++ [.ref va])) c = some o := fun c o z hc => by
    rw [upd_ne hc]
    exact z
  have nl7 : NL H6 (upd H6 vl (.lst (rows.map (fun x => V.ref x.va) ++ [.ref va]))) := NL.lst vl6
  generalize upd H6 vl (.lst (rows.map (fun x => V.ref x.va) ++ [.ref va])) = H7 at *
  have hw7 := far7 _ _ hw6 nvw.symm
  have el7 := far7 _ _ el6 R.ne
  refine ⟨_, rfl, .inl ⟨rfl, _, SqL.of el7⟩, _, rfl, _, rfl, wl, rfl, ⟨_, SqL.of hw7⟩, fun G hG => ?_⟩
  refine lc_rel ms V.int (fun H' w v => ∃ t, v = .ref t ∧ H' t = some (.tup [.int (rn w ms.sum), .int (rd w ms.sum)])) (fun H1 H2 x v n ⟨t, e, h⟩ => ⟨t, e, n _ _ h fun _ z => by cases z⟩) (SqL.of hw7) (Nat.lt_of_le_of_lt hlX (by decide)) hG (fun x hx H' s' Q' k' => ?_) fun H8 vs s8 eG pr => ?_
  · refine ⟨_, rfl, _, rfl, wl, ms, rfl, SqL.of (s' _ _ hw7), x, ms.sum, rfl, hW.pos, ?_, fun t H9 s9 nt et => k' _ _ s9 ⟨t, rfl, et⟩⟩
    unfold Bd
    refine Nat.lt_of_lt_of_le (m := 10 ^ 60) ?_ (by decide +kernel)
    have e2 : ((10 ^ 60 : Nat) : Int) = 10 ^ 60 := by decide +kernel
    have := hW.pos
    omega
  obtain ⟨ts, rfl, htl, hpt⟩ := pairs_of pr
  refine ⟨by show 2 ≤ sizeLine; decide, fun e he => ?_⟩
  have s9 := same_upd (o := .tup [.ref va, .ref G]) he
  have ee : upd H8 e (.tup [.ref va, .ref G]) e = some (.tup [.ref va, .ref G]) := upd_same
  generalize upd H8 e (.tup [.ref va, .ref G]) = H9 at *
  have el9 := s9 _ _ (s8 _ _ el7)
  have vl9 := s9 _ _ (s8 _ _ vl7)
  have s79 := s8.trans s9
  refine ⟨el, _, _, rfl, rfl, el9, by rw [List.length_map]; exact Nat.lt_of_le_of_lt hrl (by decide), ?_⟩
  have P9 := P7.same s79
  have k09 := k07.trans (Kp.same s79)
  have PF : PoolAt (upd H9 el (.lst (rows.map (fun x => V.ref x.e) ++ [.ref e]))) p b := PoolAt.own R.p0 R.fe k09 P9
  have kF : Kp p H0 (upd H9 el (.lst (rows.map (fun x => V.ref x.e) ++ [.ref e]))) := Kp.own R.p0 R.fe k09
  have elF : upd H9 el (.lst (rows.map (fun x => V.ref x.e) ++ [.ref e])) el = some (.lst (rows.map (fun x => V.ref x.e) ++ [.ref e])) := upd_same
  have nlF : NL H9 (upd H9 el (.lst (rows.map (fun x => V.ref x.e) ++ [.ref e]))) := NL.lst el9
  have farF : ∀ c o, H9 c = some o → c ≠ el → upd H9 el (.lst (rows.map (fun x => V.ref x.e) ++ [.ref e])) c = some o := fun c o z hc => by
    rw [upd_ne hc]
    exact z
  generalize upd H9 el (.lst (rows.map (fun x => V.ref x.e) ++ [.ref e])) = HF at *
  have nl6F : NL H6 HF := (nl7.trans (NL.same s79)).trans nlF
  have nGv : G ≠ vl := (ne_of_none vl7 hG).symm
  have nGe : G ≠ el := (ne_of_none el7 hG).symm
  have nGp : G ≠ p := P7.ne0 hG
  refine q (rows ++ [⟨e, va, G, evs, ts, ms, ms.sum⟩]) HF _ _ _ _ ⟨?_, ?_, fun x hx => ?_, ?_, PF, kF, R.p0, R.fe, R.fv, R.ne⟩ (by rw [List.length_append, List.length_singleton]; exact Nat.le_refl _)
  · rw [elF, List.map_append]
    rfl
  · rw [farF _ _ vl9 R.ne.symm, List.map_append]
    rfl
  · rcases List.mem_append.mp hx with hx | hx
    · obtain ⟨h1, h2, h3, h4⟩ := R.ok x hx
      have hl6 := (ok6 x hx).hl
      exact ⟨(ok6 x hx).mv nl6F (farF _ _ (s79 _ _ (far7 _ _ hl6 h4)) h3), h2, h3, h4⟩
    · rw [List.mem_singleton.mp hx]
      have nl9 : NL H8 HF := (NL.same s9).trans nlF
      exact ⟨⟨nlF _ _ ee (fun _ z => by cases z), hv6.keep (fun a xs z => nl6F _ _ z (fun _ z => by cases z)), hev, hez, farF _ _ (s9 _ _ eG) nGe, htl, (fun j t q h1 h2 => nl9 _ _ (hpt j t q h1 h2) (fun _ z => by cases z)), hW⟩, nGp, nGe, nGv⟩
  · rw [List.map_append, List.map_singleton]
    exact List.nodup_append.mpr ⟨R.nd, (by simp), fun a ha c hc => by
      rw [List.mem_singleton.mp hc]
      exact fun q => hm (by have q : a = NestedKey.tup evs := q; rw [← q]; exact ha)⟩
end
end K0

set_option Elab.async false
set_option linter.all false
set_option maxRecDepth 100000
set_option maxHeartbeats 4000000
namespace K0
open PySem PySem.Spec PyProof.Rows L2 Kx Kh Kd TL Kj Ke Ks
section
variable {P : Program} {w : World} {K : PySem.W.Frag} {mg : Str → Option Value} {base : Heap} {fD fE fR : Addr} {dD dE dR : FuncData}
theorem Kp.free {H H' : Hp} {p l : Addr} {b : Int} (k : Kp p H H') (P : PoolAt H' p b) (h : H' l = none) : H l = none := by
  cases e : H l with
  | none => rfl
  | some o =>
    rw [k.all l o e (P.ne0 h)] at h
    cases h
/-- (a, b, c)[draw(pool, 3)] -/
theorem at3 {a b c j : Int} (h0 : 0 ≤ j) (h1 : j < 3) : ∃ x, (x = a ∨ x = b ∨ x = c) ∧ atI [V.int a, V.int b, V.int c] j = some (.int x) := by
  obtain ⟨x, hx, e⟩ := atN (xs := [a, b, c]) h0 h1
  exact ⟨x, by simpa using hx, e⟩
theorem at2 {a b j : Int} (h0 : 0 ≤ j) (h1 : j < 2) : ∃ x, (x = a ∨ x = b) ∧ atI [V.int a, V.int b] j = some (.int x) := by
  obtain ⟨x, hx, e⟩ := atN (xs := [a, b]) h0 h1
  exact ⟨x, by simpa using hx, e⟩
theorem NestL.length' {H : Hp} {ks : List NestedKey} {as : List Addr} (h : NestL H ks (as.map V.ref)) : ks.length = as.length := by
  have := NestL.length h
  rw [List.length_map] at this
  exact this
theorem dr3 {K : PySem.W.Frag} {E : XK} {σ : L2.St} {H : Hp} {p : Addr} {b a1 a2 a3 M : Int} {Q : VK} (hs : σ[0]? = some (some (.ref p))) (P0 : PoolAt H p b) (h1 : 0 < a1 ∧ a1 ≤ M) (h2 : 0 < a2 ∧ a2 ≤ M) (h3 : 0 < a3 ∧ a3 ≤ M) (hM : M < 1000)
    (q : ∀ (v : Int) (H' : Hp), 0 ≤ v → v < M → PoolAt H' p b → Kp p H H' → Q (.int v) H') :
    tCall spDraw [] E (tCons (tVar 0) (tCons (tOp (rIxT K) (tTup (tCons (tC (.int a1)) (tCons (tC (.int a2)) (tCons (tC (.int a3)) tNil)))) (tCall spDraw [] E (tCons (tVar 0) (tCons (tC (.int 3)) tNil)))) tNil)) σ H Q := by
  refine ⟨_, hs, by show 3 ≤ sizeLine; decide, fun t1 ht1 => ⟨_, hs, p, 3, b, rfl, P0.same (same_upd ht1), by decide, by decide, fun j H1 j0 j1 P1 k1 => ?_⟩⟩
  have et1 : H1 t1 = some (.tup [.int a1, .int a2, .int a3]) := k1 _ _ upd_same (P0.ne0 ht1)
  obtain ⟨x, hx, ex⟩ := at3 (a := a1) (b := a2) (c := a3) j0 j1
  have hx2 : 0 < x ∧ x ≤ M := by rcases hx with rfl | rfl | rfl <;> assumption
  refine ⟨t1, _, _, _, rfl, rfl, SqT.of et1, ex, p, x, b, rfl, P1, hx2.1, by omega, fun v H2 v0 v1 P2 k2 => q v H2 v0 (by omega) P2 ((Kp.same (same_upd ht1)).trans (k1.trans k2))⟩
theorem dr2 {K : PySem.W.Frag} {E : XK} {σ : L2.St} {H : Hp} {p : Addr} {b a1 a2 M : Int} {Q : VK} (hs : σ[0]? = some (some (.ref p))) (P0 : PoolAt H p b) (h1 : 0 < a1 ∧ a1 ≤ M) (h2 : 0 < a2 ∧ a2 ≤ M) (hM : M < 1000)
    (q : ∀ (v : Int) (H' : Hp), 0 ≤ v → v < M → PoolAt H' p b → Kp p H H' → Q (.int v) H') :
    tCall spDraw [] E (tCons (tVar 0) (tCons (tOp (rIxT K) (tTup (tCons (tC (.int a1)) (tCons (tC (.int a2)) tNil))) (tCall spDraw [] E (tCons (tVar 0) (tCons (tC (.int 2)) tNil)))) tNil)) σ H Q := by
  refine ⟨_, hs, by show 2 ≤ sizeLine; decide, fun t1 ht1 => ⟨_, hs, p, 2, b, rfl, P0.same (same_upd ht1), by decide, by decide, fun j H1 j0 j1 P1 k1 => ?_⟩⟩
  have et1 : H1 t1 = some (.tup [.int a1, .int a2]) := k1 _ _ upd_same (P0.ne0 ht1)
  obtain ⟨x, hx, ex⟩ := at2 (a := a1) (b := a2) j0 j1
  have hx2 : 0 < x ∧ x ≤ M := by rcases hx with rfl | rfl <;> assumption
  refine ⟨t1, _, _, _, rfl, rfl, SqT.of et1, ex, p, x, b, rfl, P1, hx2.1, by omega, fun v H2 v0 v1 P2 k2 => q v H2 v0 (by omega) P2 ((Kp.same (same_upd ht1)).trans (k1.trans k2))⟩
theorem Rws.kp' {H0 H H' : Hp} {p el vl : Addr} {b : Int} {rows : List DE} (R : Rws H0 H p el vl b rows) (k : Kp p H H') (P : PoolAt H' p b) : Rws H0 H' p el vl b rows :=
  ⟨k.all _ _ R.el_ (R.p0.ne0 R.fe), k.all _ _ R.vl_ (R.p0.ne0 R.fv), fun x hx => by
    obtain ⟨h1, h2, h3⟩ := R.ok x hx
    exact ⟨h1.mv (NL.kp R.pool k) (k.all _ _ h1.hl h2), h2, h3⟩, R.nd, P, R.kp.trans k, R.p0, R.fe, R.fv, R.ne⟩
theorem ok_ents {f : Addr} {fd : FuncData} (F : Fun K "_law_entries" "_law_entries" sEnts f fd) (T : TxL mg) (hsum : mg "sum" = none) (D1 : Fn0 P w K mg base 1 "_law_draw" ["pool", "size"] spDraw fD dD) (E1 : Fn0 P w K mg base 2 "_law_event" ["pool"] spEv fE dE) (R1 : Fn0 P w K mg base 1 "_law_less" ["num", "den"] spRed fR dR) :
    FnOk P w K mg base CX0 4 f fd ["pool"] spEnts := by
  refine F.ok scEn' (fun vs H Q E h => ?_) (fun cdv A outer s H vs Q E hr h => ?_)
  · obtain ⟨p, b, rfl, _⟩ := h
    rfl
  · obtain ⟨p, b, rfl, P0, q⟩ := h
    have hr2 : Room 2 _ := hr.mono (by decide)
    have hr1 : Room 1 _ := hr.mono (by decide)
    obtain ⟨tR, htR, restR⟩ := en_rest (P := P) (w := w) (K := K) (mg := mg) (base := base) (f := f) (cdv := cdv) (A := A) (outer := outer) (s := s) (H := H) (E := E) hr T hsum R1
    refine ⟨_, pss_cons (ps_set (i := 1) scEn'.nd rfl (Or.inl rfl) (pe_lst pa_nil))
      (pss_cons (ps_set (i := 2) scEn'.nd rfl (Or.inl rfl) (pe_lst pa_nil))
      (pss_cons (ps_for PassesOwn.never rfl (pi_range1 rfl T.range (pa_cons (pe_call D1.ok hr1 (by rfl) D1.gl D1.kp D1.bd .nil pass0 (pa_cons (pv 0) (pa_cons (pe_ix ix_tup (pe_tup (pa_cons pe_int (pa_cons pe_int (pa_cons pe_int pa_nil)))) (pe_call D1.ok hr1 (by rfl) D1.gl D1.kp D1.bd .nil pass0 (pa_cons (pv 0) (pa_cons pe_int pa_nil))) (fun _ _ => rfl)) pa_nil))) pa_nil)) (pg_name (i := 3) scEn'.nd rfl (Or.inl rfl))
        (pss_cons (ps_set (i := 4) scEn'.nd rfl (Or.inl rfl) (pe_callTy call_tuple_of (by rfl) T.tuple (by decide +kernel) (pa_cons (pe_lc (own := [("turn", 7)]) (g := gName 7) (tt := tYes) (te := tCall spEv [] E0 (tCons (tVar 0) tNil)) rfl scEn'.nd
              (pi_range1 rfl T.range (pa_cons (pe_call D1.ok hr1 (by rfl) D1.gl D1.kp D1.bd .nil pass0 (pa_cons (pv 0) (pa_cons (pe_ix ix_tup (pe_tup (pa_cons pe_int (pa_cons pe_int (pa_cons pe_int pa_nil)))) (pe_call D1.ok hr1 (by rfl) D1.gl D1.kp D1.bd .nil pass0 (pa_cons (pv 0) (pa_cons pe_int pa_nil))) (fun _ _ => rfl)) pa_nil))) pa_nil)) (blkOk_by (N := NEn) (sc := defScope sEnts) (by decide +kernel))
              (fun _ _ _ _ _ => pg_name (i := 7) scEn'.nd rfl (Or.inl rfl)) (fun _ _ _ _ _ => pts_nil) (fun _ _ _ _ _ => pe_call E1.ok hr2 (by rfl) E1.gl E1.kp E1.bd .nil pass0 (pa_cons (pv 0) pa_nil))) pa_nil)))
        (pss_cons (ps_set (i := 5) scEn'.nd rfl (Or.inr rfl) (pe_lc (own := [("turn", 7)]) (g := gName 7) (tt := tYes) (te := tCall spDraw [] E0 (tCons (tVar 0) (tCons (tC (.int 4)) tNil))) rfl scEn'.nd
              (pi_range1 rfl T.range (pa_cons (pe_op op_add pe_int (pe_call D1.ok hr1 (by rfl) D1.gl D1.kp D1.bd .nil pass0 (pa_cons (pv 0) (pa_cons (pe_ix ix_tup (pe_tup (pa_cons pe_int (pa_cons pe_int pa_nil))) (pe_call D1.ok hr1 (by rfl) D1.gl D1.kp D1.bd .nil pass0 (pa_cons (pv 0) (pa_cons pe_int pa_nil))) (fun _ _ => rfl)) pa_nil)))) pa_nil)) (blkOk_by (N := NEn) (sc := defScope sEnts) (by decide +kernel))
              (fun _ _ _ _ _ => pg_name (i := 7) scEn'.nd rfl (Or.inl rfl)) (fun _ _ _ _ _ => pts_nil) (fun _ _ _ _ _ => pe_call D1.ok hr1 (by rfl) D1.gl D1.kp D1.bd .nil pass0 (pa_cons (pv 0) (pa_cons pe_int pa_nil)))))
        (pss_cons (ps_if (pt_cmpR op_eq (pe_call D1.ok hr1 (by rfl) D1.gl D1.kp D1.bd .nil pass0 (pa_cons (pv 0) (pa_cons pe_int pa_nil))) pe_int (nomark _))
          (pss_cons (ps_set (i := 6) scEn'.nd rfl (Or.inr rfl) (pe_ix ix_tup (pe_tup (pa_cons (pe_op op_pow pe_int pe_int) (pa_cons (pe_op op_pow pe_int pe_int) pa_nil))) (pe_call D1.ok hr1 (by rfl) D1.gl D1.kp D1.bd .nil pass0 (pa_cons (pv 0) (pa_cons pe_int pa_nil))) (fun _ _ => rfl)))
          (pss_one (ps_set (i := 5) scEn'.nd rfl (Or.inr rfl) (pe_lc (own := [("weight", 8)]) (g := gName 8) (tt := tYes) rfl scEn'.nd (pi_list (pv 5)) (blkOk_by (N := NEn) (sc := defScope sEnts) (by decide +kernel))
              (fun _ _ _ _ _ => pg_name (i := 8) scEn'.nd rfl (Or.inl rfl)) (fun _ _ _ _ _ => pts_nil) (fun _ _ _ _ _ => pe_op op_add (pe_op op_mul (pv 6) (pe_callTy call_int1 (by rfl) T.int (by decide +kernel) (pa_cons (pe_cmpR op_gt (pv 8) pe_int (nomark _)) pa_nil))) (pe_call D1.ok hr1 (by rfl) D1.gl D1.kp D1.bd .nil pass0 (pa_cons (pv 0) (pa_cons (pe_op op_pow pe_int pe_int) pa_nil)))))))) pss_nil) htR))))
      (pss_one (ps_ret (pv 1))))), ?_⟩
    refine ⟨by show 0 ≤ sizeLine; decide, fun el hel => ⟨by show 0 ≤ sizeLine; decide, fun vl hvl => ?_⟩⟩
    have s0 := same_upd (o := .lst []) hel
    have s1 := s0.trans (same_upd (o := .lst []) hvl)
    have nev : el ≠ vl := fun e => by rw [← e, upd_same] at hvl; cases hvl
    have fvl : H vl = none := by
      cases e : H vl with
      | none => rfl
      | some o => rw [s0 _ _ e] at hvl; cases hvl
    have el1 : upd (upd H el (.lst [])) vl (.lst []) el = some (.lst []) := by rw [upd_ne nev]; exact upd_same
    have vl1 : upd (upd H el (.lst [])) vl (.lst []) vl = some (.lst []) := upd_same
    generalize upd (upd H el (.lst [])) vl (.lst []) = H1 at *
    have R1' : Rws H H1 p el vl b [] := ⟨el1, vl1, (fun x hx => nomatch hx), List.nodup_nil, P0.same s1, Kp.same s1, P0, hel, fvl, nev⟩
    refine dr3 rfl R1'.pool (M := 10) (by decide) (by decide) (by decide) (by decide) fun n H2 n0 n1 P2 k2 => ?_
    refine ⟨n, rfl, by omega, by omega, for_range (lo := 0) (n := n.toNat) (fun i σ H' => ∃ v3 v4 v5 v6 rows, σ = [some (.ref p), some (.ref el), some (.ref vl), v3, v4, v5, v6, none, none] ∧ Rws H H' p el vl b rows ∧ rows.length ≤ i) ⟨none, none, none, none, [], rfl, R1'.kp' k2 P2, Nat.le_refl _⟩ ?_ ?_⟩
    · rintro i σ H3 hi ⟨v3, v4, v5, v6, rows, rfl, R, hrl⟩
      refine dr3 rfl R.pool (M := 9) (by decide) (by decide) (by decide) (by decide) fun m Ha m0 m1 Pa ka => ⟨m, rfl, by omega, by omega, fun G hG => ?_⟩
      refine lc_range (lo := 0) (n := m.toNat) (fun i H' => ∃ (ks : List NestedKey) (as : List Addr), ks.length = i ∧ H' G = some (.lst (as.map V.ref)) ∧ NestL H' ks (as.map V.ref) ∧ (∀ k ∈ ks, EvK k) ∧ PoolAt H' p b ∧ Kp p Ha H') ⟨[], [], rfl, upd_same, .nil, (fun k hk => nomatch hk), Pa.same (same_upd hG), Kp.same (same_upd hG)⟩ ?_ ?_
      · rintro i2 H4 hi2 ⟨ks, as, hk, eG, nk, hev, P4, k4⟩
        have nGp := Pa.ne0 hG
        refine ⟨rfl, tYesI ⟨_, rfl, p, b, rfl, P4, fun k t H5 evk nt P5 k5 => ?_⟩⟩
        have eG5 := k5.all _ _ eG nGp
        have nl5 : NL H4 H5 := NL.kp P4 k5
        have nl6 : NL H5 (upd H5 G (.lst (as.map V.ref ++ [.ref t]))) := NL.lst eG5
        refine ⟨_, eG5, by rw [List.length_map, ← NestL.length' nk, hk]; exact Nat.lt_of_lt_of_le (show i2 < 9 by omega) (by decide), ks ++ [k], as ++ [t], by rw [List.length_append, hk]; rfl, by rw [upd_same, List.map_append]; rfl, ?_, fun x hx => ?_, PoolAt.own Pa hG (k4.trans k5) P5, Kp.own Pa hG (k4.trans k5)⟩
        · rw [List.map_append]
          exact nestL_snoc (nk.keep fun a xs z => nl6 _ _ (nl5 _ _ z fun _ z => by cases z) fun _ z => by cases z) (nt.keep fun a xs z => nl6 _ _ z fun _ z => by cases z)
        · rcases List.mem_append.mp hx with hx | hx
          · exact hev x hx
          · rw [List.mem_singleton.mp hx]
            exact evk
      rintro H4 ⟨ks, as, hk, eG, nk, hev, P4, k4⟩
      have R4 := (R.kp' ka Pa).kp' k4 P4
      refine ⟨G, _, rfl, .inl ⟨SqL.of eG, fun va hva => ?_⟩⟩
      have sv := same_upd (o := .tup (as.map V.ref)) hva
      have ev5 : Nest (upd H4 va (.tup (as.map V.ref))) (.tup ks) (.ref va) := .tup upd_same (nk.keep fun a xs z => sv _ _ z)
      have R5 := R4.kp' (Kp.same sv) (R4.pool.same sv)
      generalize upd H4 va (.tup (as.map V.ref)) = H5 at *
      -- the weights
      refine dr2 rfl R5.pool (M := 8) (by decide) (by decide) (by decide) fun c H6 c0 c1 P6 k6 => ⟨_, _, rfl, rfl, 1 + c, rfl, by omega, by omega, fun wl hwl => ?_⟩
      have R6 := R5.kp' k6 P6
      have ev6 : Nest H6 (.tup ks) (.ref va) := ev5.keep fun a xs z => NL.kp R5.pool k6 _ _ z fun _ z => by cases z
      refine lc_range (lo := 0) (n := (1 + c).toNat) (fun i H' => ∃ ns : List Int, ns.length = i ∧ (∀ x ∈ ns, 0 ≤ x ∧ x ≤ 3) ∧ H' wl = some (.lst (ns.map V.int)) ∧ PoolAt H' p b ∧ Kp p H6 H') ⟨[], rfl, (fun k hk => nomatch hk), upd_same, P6.same (same_upd hwl), Kp.same (same_upd hwl)⟩ ?_ ?_
      · rintro i2 H7 hi2 ⟨ns, hk2, hb, ew, P7, k7⟩
        have nwp := P6.ne0 hwl
        refine ⟨rfl, tYesI ⟨_, rfl, p, 4, b, rfl, P7, by decide, by decide, fun v H8 v0 v1 P8 k8 => ?_⟩⟩
        refine ⟨_, k8.all _ _ ew nwp, by rw [List.length_map, hk2]; exact Nat.lt_of_lt_of_le (show i2 < 9 by omega) (by decide), ns ++ [v], by rw [List.length_append, hk2]; rfl, fun x hx => ?_, by rw [upd_same, List.map_append]; rfl, PoolAt.own P6 hwl (k7.trans k8) P8, Kp.own P6 hwl (k7.trans k8)⟩
        rcases List.mem_append.mp hx with hx | hx
        · exact hb x hx
        · rw [List.mem_singleton.mp hx]
          omega
      rintro H7 ⟨ns, hk2, hb, ew, P7, k7⟩
      have hns : 1 ≤ ns.length ∧ ns.length ≤ 8 := by omega
      have keepEv : ∀ {Hx : Hp}, Kp p H6 Hx → Nest Hx (.tup ks) (.ref va) := fun k => ev6.keep fun a xs z => NL.kp R6.pool k _ _ z fun _ z => by cases z
      refine ⟨_, rfl, p, 3, b, rfl, P7, by decide, by decide, fun z H8 z0 z1 P8 k8 => ?_⟩
      have nwp := P6.ne0 hwl
      have ew8 := k8.all _ _ ew nwp
      refine ⟨rfl, _, rfl, ite2 (fun _ => ?_) (fun _ => ?_)⟩
      · refine ⟨_, _, rfl, rfl, ⟨by decide, by decide, by decide⟩, _, _, rfl, rfl, ⟨by decide, by decide, by decide⟩, by show 2 ≤ sizeLine; decide, fun t1 ht1 => ⟨_, rfl, p, 2, b, rfl, P8.same (same_upd ht1), by decide, by decide, fun j H9 j0 j1 P9 k9 => ?_⟩⟩
        have et1 : H9 t1 = some (.tup [.int (10 ^ (6 : Int).toNat), .int (10 ^ (58 : Int).toNat)]) := k9 _ _ upd_same (P8.ne0 ht1)
        obtain ⟨L, hL, eL⟩ := at2 (a := 10 ^ (6 : Int).toNat) (b := 10 ^ (58 : Int).toNat) j0 j1
        have hL2 : 0 ≤ L ∧ L ≤ 10 ^ 58 := by
          have h1 : (10 : Int) ^ (6 : Int).toNat = 10 ^ 6 := rfl
          have h2 : (10 : Int) ^ (58 : Int).toNat = 10 ^ 58 := rfl
          have h3 : (10 : Int) ^ 6 ≤ 10 ^ 58 := by decide +kernel
          have h4 : (0 : Int) ≤ 10 ^ 6 := by decide +kernel
          rw [h1, h2] at hL
          rcases hL with rfl | rfl <;> omega
        refine ⟨t1, _, _, _, rfl, rfl, SqT.of et1, eL, ?_⟩
        have k89 := (Kp.same (same_upd (o := .tup [.int (10 ^ (6 : Int).toNat), .int (10 ^ (58 : Int).toNat)]) ht1)).trans k9
        have k69 := (k7.trans k8).trans k89
        have ew9 := k89.all _ _ ew8 nwp
        refine ⟨_, rfl, wl, rfl, ⟨_, SqL.of ew9⟩, fun w2 hw2 => ?_⟩
        have nw2 : w2 ≠ p := P9.ne0 hw2
        refine lc_list (xs := ns.map V.int) (fun i H' => ∃ ms : List Int, ms.length = i ∧ (∀ x ∈ ms, 0 ≤ x ∧ x ≤ 10 ^ 58 + 10 ^ 6) ∧ H' w2 = some (.lst (ms.map V.int)) ∧ PoolAt H' p b ∧ Kp p H9 H') ⟨[], rfl, (fun k hk => nomatch hk), upd_same, P9.same (same_upd hw2), Kp.same (same_upd hw2)⟩ (fun i H' _ ⟨_, _, _, _, _, k⟩ => SqL.of (k.all _ _ ew9 nwp)) ?_ ?_
        · rintro i2 y H10 hy ⟨ms, hml, hmb, ew2, P10, k10⟩
          obtain ⟨x, hx, rfl⟩ := Option.map_eq_some_iff.mp ((List.getElem?_map ..).symm.trans hy)
          have hi2 : i2 < ns.length := (List.getElem?_eq_some_iff.mp hx).1
          refine ⟨rfl, tYesI ⟨_, rfl, _, rfl, _, _, rfl, rfl, .inr ⟨_, rfl, _, _, rfl, rfl, .inr ?_, _, rfl, _, _, rfl, rfl, ⟨by decide, by decide, by decide⟩, p, _, b, rfl, P10, by decide, by decide, fun v H11 v0 v1 P11 k11 => ⟨_, _, rfl, rfl, ?_⟩⟩⟩⟩
          · split <;> exact ⟨by decide, by decide⟩
          · have hv : v < 10 ^ 6 := v1
            refine ⟨_, k11.all _ _ ew2 nw2, by rw [List.length_map, hml]; exact Nat.lt_of_lt_of_le (show i2 < 9 by omega) (by decide), ms ++ [L * (if decide (x > 0) = true then 1 else 0) + v], by rw [List.length_append, hml]; rfl, fun x2 hx2 => ?_, by rw [upd_same, List.map_append]; rfl, PoolAt.own P9 hw2 (k10.trans k11) P11, Kp.own P9 hw2 (k10.trans k11)⟩
            rcases List.mem_append.mp hx2 with hx2 | hx2
            · exact hmb x2 hx2
            · rw [List.mem_singleton.mp hx2]
              split <;> omega
        · rintro H10 ⟨ms, hml, hmb, ew2, P10, k10⟩
          rw [List.length_map] at hml
          have fw2 : H6 w2 = none := by
            cases e : H6 w2 with
            | none => rfl
            | some o =>
              rw [k69.all _ _ e nw2] at hw2
              cases hw2
          exact restR _ H H6 H10 p el vl va w2 b rows ks ms _ _ R6 (k69.trans k10) P10 fw2 ew2 (keepEv (k69.trans k10)) hev (by omega) hmb (by omega) (by omega) (by omega) fun rows' H' v3 v4 v5 v6 R' hl' => ⟨_, _, _, _, rows', rfl, R', by omega⟩
      · refine restR _ H H6 H8 p el vl va wl b rows ks ns _ _ R6 (k7.trans k8) P8 hwl ew8 (keepEv (k7.trans k8)) hev (by omega) (fun x hx => ⟨(hb x hx).1, Int.le_trans (hb x hx).2 (by decide +kernel)⟩) hns.1 hns.2 (by omega) fun rows' H' v3 v4 v5 v6 R' hl' => ⟨_, _, _, _, rows', rfl, R', by omega⟩
    · rintro σ H3 ⟨v3, v4, v5, v6, rows, rfl, R, hrl⟩
      exact ⟨_, rfl, q el vl rows H3 R (by omega)⟩
end
end K0

set_option Elab.async false
set_option linter.all false
set_option maxRecDepth 100000
set_option maxHeartbeats 4000000
namespace K0
open PySem PySem.Spec PyProof.Rows L2 Kx Kh Kd
theorem ix_tupK {X : Cx} {K : PySem.W.Frag} (h : X.K = K) : IxR X (rIxT K) := by
  subst h
  exact ix_tup
theorem ix_listK {X : Cx} {K : PySem.W.Frag} (h : X.K = K) : IxR X (rIxL K) := by
  subst h
  exact ix_list
theorem ix_KF {X : Cx} {P : Program} {w : World} (h1 : X.prog = P) (h2 : X.w = w) (hu : X.A.units + 64 < cLine) : IxR X (rIxK P w) := by
  subst h1 h2
  exact ix_K hu
theorem pi_listK {X : Cx} {K : PySem.W.Frag} {tg l : Expr} {tl : TE} (h : X.K = K) (hl : PE X l tl) : PI X tg l (iList K tl) := by
  subst h
  exact pi_list hl
theorem pi_tupK {X : Cx} {K : PySem.W.Frag} {tg l : Expr} {tl : TE} (h : X.K = K) (hl : PE X l tl) : PI X tg l (iTup K tl) := by
  subst h
  exact pi_tup hl
theorem call_isiK {X : Cx} {K : PySem.W.Frag} (h : X.K = K) : CallR X (.builtin "isinstance") (rIsi K) := by
  subst h
  exact call_isi
def rLof (K : PySem.W.Frag) : List V → Hp → VK → Prop := fun xs H Q => ∃ p ys, xs = [.ref p] ∧ (SqL K H p ys ∨ SqT K H p ys) ∧ ∀ l, H l = none → Q (.ref l) (upd H l (.lst ys))
theorem call_list_ofK {X : Cx} {K : PySem.W.Frag} (h : X.K = K) : CallR X (.type "list") (rLof K) := by
  subst h
  exact call_list_of
theorem pe_fldK {X : Cx} {K : PySem.W.Frag} {e : Expr} {f : Str} {pos : Pos} {ta : TE} (h : X.K = K) (he : PE X e ta) (hb : attributeBase e f X.env (eval e X.env) = eval e X.env) : PE X (.Attribute e f pos) (tFld K ta f) := by
  subst h
  exact pe_fld he hb
/-! ### fractions made of pairs -/
theorem rn_rn {w W : Int} (h : 0 < W) : rn (rn w W) (rd w W) = rn w W ∧ rd (rn w W) (rd w W) = rd w W := by
  have h1 := n_eq w W
  have h2 := d_eq w W
  have hg := G_pos (n := w) h
  have e1 := rn_scale hg (rn w W) (rd w W)
  have e2 := rd_scale hg (rn w W) (rd w W)
  rw [← h1, ← h2] at e1 e2
  exact ⟨e1.symm, e2.symm⟩
theorem get_snoc {α : Type} {xs : List α} {x y : α} {j : Nat} (h : (xs ++ [x])[j]? = some y) : (j < xs.length ∧ xs[j]? = some y) ∨ (j = xs.length ∧ x = y) := by
  by_cases hj : j < xs.length
  · rw [List.getElem?_append_left hj] at h
    exact .inl ⟨hj, h⟩
  · rw [List.getElem?_append_right (by omega)] at h
    have hj2 : j - xs.length = 0 := by
      have := (List.getElem?_eq_some_iff.mp h).1
      rw [List.length_singleton] at this
      omega
    rw [hj2] at h
    exact .inr ⟨by omega, by simpa using h⟩
theorem wipe_two {σ : L2.St} {i1 i2 : Nat} (v w : V) (hn : i1 ≠ i2) : wipe (((wipe σ [i1, i2]).set i1 (some v)).set i2 (some w)) [i1, i2] = wipe σ [i1, i2] := by
  show ((((((σ.set i2 none).set i1 none).set i1 (some v)).set i2 (some w)).set i2 none).set i1 none) = ((σ.set i2 none).set i1 none)
  refine List.ext_getElem? fun k => ?_
  by_cases h1 : i1 = k
  · subst h1
    simp [List.getElem?_set]
  · by_cases h2 : i2 = k
    · subst h2
      simp [List.getElem?_set, h1]
    · simp [List.getElem?_set, h1, h2]
theorem lc_rats {K : PySem.W.Frag} {C BR : Addr} {J : It} {Gp : Hp → Prop} {ts : List Addr} {prs : List (Int × Int)} {E : XK} {i1 i2 : Nat} {σ : L2.St} {H1 : Hp} {D : Addr} {Qd : Hp → Prop} (w : Walk J prs.length Gp (YAt (ts.map V.ref))) (hts : ts.length = prs.length) (hz : prs.length ≤ 100000)
    (ht : ∀ (j : Nat) t q, ts[j]? = some t → prs[j]? = some q → PairT H1 t q) (hp : ∀ q ∈ prs, 0 < q.2 ∧ Bd 8900 q.2) (hn : i1 ≠ i2) (h1 : i1 < σ.length) (h2 : i2 < σ.length) (hD : H1 D = none) (hG : ∀ H', Same H1 H' → Gp H')
    (hQ : ∀ (as : List Addr) (H' : Hp), as.length = prs.length → H' D = some (.lst (as.map V.ref)) → (∀ (j : Nat) a q, as[j]? = some a → prs[j]? = some q → RatAt C H' a (rn q.1 q.2) (rd q.1 q.2)) → Same H1 H' → Qd H') :
    ∃ W : Nat → Nat → Hp → Prop, (∃ m, W 0 m (upd H1 D (.lst []))) ∧ ∀ i m H, W i m H →
      (J.stop i H ∧ Qd H) ∨ (J.go i H ∧ ∃ Nx : Hp → Prop, (∀ H', Nx H' → ∃ m', m' < m ∧ W (i + 1) m' H') ∧ ∀ x H', J.yld i H x H' → gTup K 2 (gCons (gName i1) (gCons (gName i2) gNil)) x (wipe σ [i1, i2]) H' fun σ2 H2 => wipe σ2 [i1, i2] = wipe σ [i1, i2] ∧ tYes σ2 H2 fun b H3 =>
        if b = true then tMake C (spInit C BR) [] E (tCons (tVar i1) (tCons (tVar i2) tNil)) σ2 H3 fun y H4 => ∃ acc, H4 D = some (.lst acc) ∧ acc.length < sizeLine ∧ Nx (upd H4 D (.lst (acc ++ [y]))) else Nx H3) := by
  refine lc_it w (fun i H' => ∃ as : List Addr, as.length = i ∧ H' D = some (.lst (as.map V.ref)) ∧ (∀ (j : Nat) a q, as[j]? = some a → prs[j]? = some q → RatAt C H' a (rn q.1 q.2) (rd q.1 q.2)) ∧ Same H1 H') ⟨[], rfl, upd_same, fun j a q z => by simp at z, same_upd hD⟩ (fun i H' _ ⟨_, _, _, _, s'⟩ => hG H' s') ?_ ?_
  · rintro i x H0 H' hi ⟨as, hl, eD, hr, s'⟩ ⟨rfl, hx⟩
    obtain ⟨t, htt, rfl⟩ := Option.map_eq_some_iff.mp ((List.getElem?_map ..).symm.trans hx)
    have hq := List.getElem?_eq_getElem hi
    have hpt := s' _ _ (ht i t _ htt hq)
    obtain ⟨d0, bd⟩ := hp _ (List.getElem_mem hi)
    have l1 : i1 < (wipe σ [i1, i2]).length := by rw [wipe_length]; exact h1
    have l2 : i2 < (wipe σ [i1, i2]).length := by rw [wipe_length]; exact h2
    have g1 : (((wipe σ [i1, i2]).set i1 (some (V.int prs[i].1))).set i2 (some (V.int prs[i].2)))[i1]? = some (some (V.int prs[i].1)) := by
      rw [List.getElem?_set_ne (Ne.symm hn), List.getElem?_set_self l1]
    have g2 : (((wipe σ [i1, i2]).set i1 (some (V.int prs[i].1))).set i2 (some (V.int prs[i].2)))[i2]? = some (some (V.int prs[i].2)) := by
      rw [List.getElem?_set_self (by rw [List.length_set]; exact l2)]
    refine ⟨t, _, rfl, SqT.of hpt, rfl, _, _, rfl, _, _, rfl, rfl, ?_, tYesI ?_⟩
    · exact wipe_two _ _ hn
    · refine ⟨_, g1, _, g2, fun y dy ny ndy ney => ?_⟩
      refine ⟨y, dy, prs[i].1, prs[i].2, rfl, upd_same, bd, fun z => absurd d0 (by omega), fun _ H3 hR kp => ⟨rfl, ?_⟩⟩
      have s3 : Same H' H3 := Same.made ny ndy kp
      have eD3 := s3 _ _ eD
      have ni : ∀ b D' dz fs, H3 b = some (.ins D' dz fs) → upd H3 D (.lst (as.map V.ref ++ [V.ref y])) b = some (.ins D' dz fs) := fun b D' dz fs z => by
        rw [upd_ne (fun q => by rw [q, eD3] at z; cases z)]
        exact z
      refine ⟨_, eD3, by rw [List.length_map, hl]; exact Nat.lt_of_lt_of_le hi (Nat.le_trans hz (by decide)), as ++ [y], by rw [List.length_append, hl]; rfl, by rw [upd_same, List.map_append]; rfl, fun j a q ha hq2 => ?_, fun b o z => ?_⟩
      · rcases get_snoc ha with ⟨hj, ha⟩ | ⟨hj, rfl⟩
        · obtain ⟨da, ea⟩ := (hr j a q ha hq2).same s3
          exact ⟨da, ni _ _ _ _ ea⟩
        · rw [hj, hl, hq] at hq2
          cases hq2
          obtain ⟨da, ea⟩ := hR
          exact ⟨da, ni _ _ _ _ ea⟩
      · rw [upd_ne (ne_of_none z hD)]
        exact s3 _ _ (s' _ _ z)
  · rintro H' ⟨as, hl, eD, hr, s'⟩
    exact hQ as H' hl eD hr s'
/-- pairs made of fractions -/
theorem lc_pairs {K : PySem.W.Frag} {mg : Str → Option Value} {C BR : Addr} (T : Txt K mg C BR) {J : It} {n : Nat} {Gp : Hp → Prop} {as : List Addr} {qs : List (Int × Int)} {i1 : Nat} {σ : L2.St} {H1 : Hp} {D : Addr} {Qd : Hp → Prop} (w : Walk J n Gp (YAt (as.map V.ref))) (hn : n = qs.length) (hts : as.length = qs.length) (hz : qs.length ≤ 100000)
    (ht : ∀ (j : Nat) a q, as[j]? = some a → qs[j]? = some q → RatAt C H1 a q.1 q.2) (h1 : i1 < σ.length) (hD : H1 D = none) (hG : ∀ H', Same H1 H' → Gp H')
    (hQ : ∀ (ts : List Addr) (H' : Hp), ts.length = qs.length → H' D = some (.lst (ts.map V.ref)) → (∀ (j : Nat) t q, ts[j]? = some t → qs[j]? = some q → PairT H' t q) → Same H1 H' → Qd H') :
    ∃ W : Nat → Nat → Hp → Prop, (∃ m, W 0 m (upd H1 D (.lst []))) ∧ ∀ i m H, W i m H →
      (J.stop i H ∧ Qd H) ∨ (J.go i H ∧ ∃ Nx : Hp → Prop, (∀ H', Nx H' → ∃ m', m' < m ∧ W (i + 1) m' H') ∧ ∀ x H', J.yld i H x H' → gName i1 x (wipe σ [i1]) H' fun σ2 H2 => wipe σ2 [i1] = wipe σ [i1] ∧ tYes σ2 H2 fun b H3 =>
        if b = true then tTup (tCons (tFld K (tVar i1) "num") (tCons (tFld K (tVar i1) "den") tNil)) σ2 H3 fun y H4 => ∃ acc, H4 D = some (.lst acc) ∧ acc.length < sizeLine ∧ Nx (upd H4 D (.lst (acc ++ [y]))) else Nx H3) := by
  subst hn
  refine lc_it w (fun i H' => ∃ ts : List Addr, ts.length = i ∧ H' D = some (.lst (ts.map V.ref)) ∧ (∀ (j : Nat) t q, ts[j]? = some t → qs[j]? = some q → PairT H' t q) ∧ Same H1 H') ⟨[], rfl, upd_same, (fun j a q z => by simp at z), same_upd hD⟩ (fun i H' _ ⟨_, _, _, _, s'⟩ => hG H' s') ?_ ?_
  · rintro i x H0 H' hi ⟨ts, hl, eD, hr, s'⟩ ⟨rfl, hx⟩
    obtain ⟨a, haa, rfl⟩ := Option.map_eq_some_iff.mp ((List.getElem?_map ..).symm.trans hx)
    have hq := List.getElem?_eq_getElem hi
    obtain ⟨da, ea⟩ := (ht i a _ haa hq).same s'
    have g1 : ((wipe σ [i1]).set i1 (some (V.ref a)))[i1]? = some (some (V.ref a)) := List.getElem?_set_self (by rw [wipe_length]; exact h1)
    refine ⟨wipe_one _, tYesI ⟨_, g1, a, C, da, _, _, rfl, ea, T.cl, T.nN, rf_num _ _, _, g1, a, C, da, _, _, rfl, ea, T.cl, T.nD, rf_den _ _, by show 2 ≤ sizeLine; decide, fun e he => ?_⟩⟩
    have s3 := same_upd (o := .tup [V.int qs[i].1, V.int qs[i].2]) he
    have eD3 := s3 _ _ eD
    have nt : ∀ b ys, upd H' e (.tup [V.int qs[i].1, V.int qs[i].2]) b = some (.tup ys) → upd (upd H' e (.tup [V.int qs[i].1, V.int qs[i].2])) D (.lst (ts.map V.ref ++ [V.ref e])) b = some (.tup ys) := fun b ys z => by
      rw [upd_ne (fun q => by rw [q, eD3] at z; cases z)]
      exact z
    refine ⟨_, eD3, by rw [List.length_map, hl]; exact Nat.lt_of_lt_of_le hi (Nat.le_trans hz (by decide)), ts ++ [e], by rw [List.length_append, hl]; rfl, by rw [upd_same, List.map_append]; rfl, fun j t q hj hq2 => ?_, fun b o z => ?_⟩
    · rcases get_snoc hj with ⟨_, hj2⟩ | ⟨hj2, rfl⟩
      · exact nt _ _ (s3 _ _ (hr j t q hj2 hq2))
      · rw [hj2, hl, hq] at hq2
        cases hq2
        exact nt _ _ upd_same
    · rw [upd_ne (ne_of_none z hD)]
      exact s3 _ _ (s' _ _ z)
  · rintro H' ⟨ts, hl, eD, hr, s'⟩
    exact hQ ts H' hl eD hr s'
end K0

set_option Elab.async false
set_option linter.all false
set_option maxRecDepth 100000
set_option maxHeartbeats 4000000
/-! Drawn entries' lines, read again. -/
namespace K0
open PySem PySem.Spec PyProof.Rows L2 Kx Kh Kd TL Kj Ke Ks
/-! ### the weights' fractions -/
theorem wts_le {ws : List Int} : (∀ w ∈ ws, 0 ≤ w) → ∀ w ∈ ws, w ≤ ws.sum := by
  induction ws with
  | nil => exact fun _ w hw => nomatch hw
  | cons x r ih =>
    intro h w hw
    have hx := h x (List.mem_cons_self ..)
    have hr : 0 ≤ r.sum := by
      clear ih hw
      induction r with
      | nil => exact Int.le_refl _
      | cons y r ih =>
        rw [List.sum_cons]
        have := h y (List.mem_cons_of_mem _ (List.mem_cons_self ..))
        have := ih fun z hz => by
          rcases List.mem_cons.mp hz with rfl | hz
          · exact hx
          · exact h z (List.mem_cons_of_mem _ (List.mem_cons_of_mem _ hz))
        omega
    rw [List.sum_cons]
    rcases List.mem_cons.mp hw with rfl | hw
    · omega
    · have := ih (fun z hz => h z (List.mem_cons_of_mem _ hz)) w hw
      omega
theorem bd60 {x : Int} (h0 : 0 ≤ x) (h : x < 10 ^ 60) : Bd 200 x := by
  unfold Bd
  refine Nat.lt_of_lt_of_le (m := 10 ^ 60) ?_ (by decide +kernel)
  have e2 : ((10 ^ 60 : Nat) : Int) = 10 ^ 60 := by decide +kernel
  omega
theorem Wts.w {ws : List Int} {W : Int} (h : Wts ws W) : ∀ w ∈ ws, 0 ≤ w ∧ w < 10 ^ 60 := fun w hw => by
  have := wts_le h.nn w hw
  have := h.sum
  have := h.big
  have := h.nn w hw
  omega
theorem rn_nn {n d : Int} (hn : 0 ≤ n) (hd : 0 < d) : 0 ≤ rn n d := by
  refine Int.not_lt.mp fun q => ?_
  have h1 := n_eq n d
  have h2 := G_pos (n := n) hd
  have h3 : K0.G n d * rn n d < 0 := Int.mul_neg_of_pos_of_neg h2 q
  omega
theorem Wts.frc {ws : List Int} {W : Int} (h : Wts ws W) : ∀ q ∈ ws.map (fun w => (rn w W, rd w W)), Frc q := fun q hq => by
  obtain ⟨w, hw, rfl⟩ := List.mem_map.mp hq
  obtain ⟨h0, h1⟩ := h.w w hw
  obtain ⟨e1, e2⟩ := rn_rn (w := w) h.pos
  exact ⟨rn_nn h0 h.pos, rd_pos h.pos, (bd60 h0 h1).rn h.pos, Bd.rd h.pos (bd60 (Int.le_of_lt h.pos) h.big), e1, e2⟩
theorem Wts.lots {C : Addr} {H : Hp} {as : List Addr} {ws : List Int} {W : Int} (h : Wts ws W) (hl : as.length = ws.length) (hr : ∀ (i : Nat) (a : Addr) (w : Int), as[i]? = some a → ws[i]? = some w → RatAt C H a (rn w W) (rd w W)) : Lots C H as ws W :=
  ⟨hl, hr, h.pos, (bd60 (Int.le_of_lt h.pos) h.big).le (by decide), fun w hw => by
    obtain ⟨h0, h1⟩ := h.w w hw
    exact ⟨(bd60 h0 h1).le (by decide), ((bd60 h0 h1).rn h.pos).le (by decide), (Bd.rd h.pos (bd60 (Int.le_of_lt h.pos) h.big)).le (by decide)⟩, Nat.le_trans h.few (by decide)⟩
theorem Wts.good {ws : List Int} {W : Int} (h : Wts ws W) : lotsB ws W = true := by
  unfold lotsB
  rw [h.sum, decide_eq_true rfl, Bool.and_true]
  exact List.all_eq_true.mpr fun w hw => decide_eq_true (h.nn w hw)
theorem Wts.lotsQ {ws : List Int} {W : Int} (h : Wts ws W) : K0.lotsQ (ws.map fun w => (rn w W, rd w W)) = true := by
  have hf := h.frc
  generalize hq : ws.map (fun w => (rn w W, rd w W)) = qs at *
  unfold K0.lotsQ lotsB
  have hD := denW_pos hf
  have cut : ∀ q ∈ qs, ∃ k : Int, 0 < k ∧ denW qs = k * q.2 ∧ denW qs / q.2 = k := fun q hq => by
    obtain ⟨k, k0, e, _⟩ := denW_cut hf q hq
    have := (hf q hq).2.1
    exact ⟨k, k0, e, by rw [e, Int.mul_ediv_cancel _ (by omega)]⟩
  refine Bool.and_eq_true_iff.mpr ⟨List.all_eq_true.mpr fun x hx => ?_, decide_eq_true ?_⟩
  · unfold numW at hx
    obtain ⟨q, hq2, rfl⟩ := List.mem_map.mp hx
    obtain ⟨k, k0, _, e⟩ := cut q hq2
    rw [e]
    exact decide_eq_true (Int.mul_nonneg (hf q hq2).1 (Int.le_of_lt k0))
  · have key : ∀ l : List Int, (∀ w ∈ l, w ∈ ws) → W * ((l.map fun w => (rn w W, rd w W)).map fun q => q.1 * (denW qs / q.2)).sum = l.sum * denW qs := by
      intro l
      induction l with
      | nil => exact fun _ => by simp
      | cons w r ih =>
        intro hl
        have hm : (rn w W, rd w W) ∈ qs := by rw [← hq]; exact List.mem_map.mpr ⟨w, hl w (List.mem_cons_self ..), rfl⟩
        obtain ⟨k, k0, e1, e2⟩ := cut _ hm
        rw [List.map_cons, List.map_cons, List.sum_cons, List.sum_cons, Int.mul_add, ih fun x hx => hl x (List.mem_cons_of_mem _ hx), Int.add_mul]
        congr 1
        show W * (rn w W * (denW qs / rd w W)) = w * denW qs
        have e1 : denW qs = k * rd w W := e1
        have e2 : denW qs / rd w W = k := e2
        have a1 := n_eq w W
        have a2 := d_eq w W
        rw [e2, e1]
        generalize rn w W = x at *
        generalize rd w W = y at *
        generalize K0.G w W = g at *
        rw [a2, a1]
        simp only [Int.mul_assoc, Int.mul_left_comm, Int.mul_comm]
    have h1 := key ws fun w hw => hw
    rw [hq, h.sum] at h1
    exact Int.eq_of_mul_eq_mul_left (Int.ne_of_gt h.pos) h1
/-! ### words -/
structure WordOk (z : Str) : Prop where
  nodo : z ≠ ("do" : Str)
  nosp : 32 ∉ tl z
  short : z.length ≤ 900
  low : ∀ c ∈ tl z, c < 200
theorem nat_of {n : Int} (h : 0 ≤ n) : ∃ m : Nat, n = (m : Int) := ⟨n.toNat, by omega⟩
theorem word_nt {m : Nat} (h : m < 10 ^ 60) : WordOk (nt (m : Int)) := by
  have hd : ∀ c ∈ tl (nt (m : Int)), 48 ≤ c ∧ c ≤ 57 := dig_nt m
  refine ⟨fun e => ?_, fun hc => ?_, Nat.le_trans (len_nt h).2 (by decide), fun c hc => by have := hd c hc; omega⟩
  · rw [e] at hd
    have := hd 100 (by decide +kernel)
    omega
  · have := hd 32 hc
    omega
theorem word_ft {n d : Nat} (hn : n < 10 ^ 60) (hd : d < 10 ^ 60) : WordOk (ft (n : Int) (d : Int)) := by
  unfold ft
  split
  · exact word_nt hn
  · have h1 := word_nt hn
    have h2 := word_nt hd
    have e : ∀ c, c ∈ tl (nt (n : Int) ++ "/" ++ nt (d : Int)) → c ∈ tl (nt (n : Int)) ∨ c = 47 ∨ c ∈ tl (nt (d : Int)) := fun c hc => by
      rw [tl_append, tl_append, show tl ("/" : Str) = [47] by decide +kernel] at hc
      rcases List.mem_append.mp hc with hc | hc
      · rcases List.mem_append.mp hc with hc | hc
        · exact .inl hc
        · exact .inr (.inl (List.mem_singleton.mp hc))
      · exact .inr (.inr hc)
    refine ⟨fun q => ?_, fun hc => ?_, ?_, fun c hc => ?_⟩
    · have : (47 : Nat) ∈ tl (nt (n : Int) ++ "/" ++ nt (d : Int)) := by
        rw [tl_append, tl_append, show tl ("/" : Str) = [47] by decide +kernel]
        simp
      rw [q] at this
      exact absurd this (by decide +kernel)
    · rcases e 32 hc with hc | hc | hc
      · exact h1.nosp hc
      · cases hc
      · exact h2.nosp hc
    · have a1 := (len_nt hn).2
      have a2 := (len_nt hd).2
      rw [Str.length_append, Str.length_append]
      have a3 := slash
      omega
    · rcases e c hc with hc | hc | hc
      · exact h1.low c hc
      · omega
      · exact h2.low c hc
theorem word_lit {z : Str} (h : (decide (z ≠ ("do" : Str)) && ((tl z).all fun c => decide (c ≠ 32) && decide (c < 200)) && decide (z.length ≤ 900)) = true) : WordOk z := by
  obtain ⟨h1, h2⟩ := Bool.and_eq_true_iff.mp h
  obtain ⟨h3, h4⟩ := Bool.and_eq_true_iff.mp h1
  have h5 : ∀ c ∈ tl z, c ≠ 32 ∧ c < 200 := fun c hc => by
    obtain ⟨a, b⟩ := Bool.and_eq_true_iff.mp (List.all_eq_true.mp h4 c hc)
    exact ⟨of_decide_eq_true a, of_decide_eq_true b⟩
  exact ⟨of_decide_eq_true h3, fun hc => (h5 32 hc).1 rfl, of_decide_eq_true h2, fun c hc => (h5 c hc).2⟩
theorem sn_word {n : Int} (h : Sn n) : WordOk (nt n) := by
  obtain ⟨m, rfl⟩ := nat_of h.1
  exact word_nt (show m < 10 ^ 60 by have := h.2; omega)
theorem ev_words {k : NestedKey} (h : EvK k) : (∀ z ∈ evW k, WordOk z) ∧ 1 ≤ (evW k).length ∧ (evW k).length ≤ 3 := by
  cases h with
  | sh n h =>
    refine ⟨fun z hz => ?_, by show 1 ≤ 2; decide, by show 2 ≤ 3; decide⟩
    have hz : z ∈ [("shown" : Str), nt n] := hz
    simp only [List.mem_cons, List.not_mem_nil, or_false] at hz
    rcases hz with rfl | rfl
    · exact word_lit (by decide +kernel)
    · exact sn_word h
  | did n h =>
    refine ⟨fun z hz => ?_, by show 1 ≤ 2; decide, by show 2 ≤ 3; decide⟩
    have hz : z ∈ [("did" : Str), nt n] := hz
    simp only [List.mem_cons, List.not_mem_nil, or_false] at hz
    rcases hz with rfl | rfl
    · exact word_lit (by decide +kernel)
    · exact sn_word h
  | ask n m h h' =>
    refine ⟨fun z hz => ?_, by show 1 ≤ 3; decide, by show 3 ≤ 3; decide⟩
    have hz : z ∈ [("asked" : Str), nt n, nt m] := hz
    simp only [List.mem_cons, List.not_mem_nil, or_false] at hz
    rcases hz with rfl | rfl | rfl
    · exact word_lit (by decide +kernel)
    · exact sn_word h
    · exact sn_word h'
theorem flat_words {evs : List NestedKey} (h : ∀ k ∈ evs, EvK k) : (∀ z ∈ evs.flatMap evW, WordOk z) ∧ evs.length ≤ (evs.flatMap evW).length ∧ (evs.flatMap evW).length ≤ 3 * evs.length := by
  induction evs with
  | nil => exact ⟨(fun z hz => nomatch hz), Nat.le_refl _, Nat.le_refl _⟩
  | cons k r ih =>
    obtain ⟨h1, h2, h3⟩ := ih fun x hx => h x (List.mem_cons_of_mem _ hx)
    obtain ⟨g1, g2, g3⟩ := ev_words (h k (List.mem_cons_self ..))
    rw [List.flatMap_cons]
    refine ⟨fun z hz => ?_, ?_, ?_⟩
    · rcases List.mem_append.mp hz with hz | hz
      · exact g1 z hz
      · exact h1 z hz
    · rw [List.length_append, List.length_cons]
      omega
    · rw [List.length_append, List.length_cons]
      omega
/-- a drawn entry -/
structure Drawn (evs : List NestedKey) (qs : List (Int × Int)) : Prop where
  ev : ∀ k ∈ evs, EvK k
  ez : evs.length ≤ 8
  fr : ∀ q ∈ qs, Frc q ∧ q.1 < 10 ^ 60 ∧ q.2 < 10 ^ 60
  few : qs.length ≤ 8
  lots : K0.lotsQ qs = true
theorem Frc.nat {q : Int × Int} (h : Frc q ∧ q.1 < 10 ^ 60 ∧ q.2 < 10 ^ 60) : ∃ n d : Nat, q = ((n : Int), (d : Int)) ∧ n < 10 ^ 60 ∧ d < 10 ^ 60 ∧ 0 < d := by
  obtain ⟨⟨h0, h1, _⟩, h2, h3⟩ := h
  have e2 : ((10 ^ 60 : Nat) : Int) = 10 ^ 60 := by decide +kernel
  exact ⟨q.1.toNat, q.2.toNat, Prod.ext (by simp; omega) (by simp; omega), by omega, by omega, by omega⟩
theorem frs_words {qs : List (Int × Int)} (h : ∀ q ∈ qs, Frc q ∧ q.1 < 10 ^ 60 ∧ q.2 < 10 ^ 60) : (∀ z ∈ qs.map (fun q => ft q.1 q.2), WordOk z) ∧ fracsT (qs.map fun q => ft q.1 q.2) = some qs := by
  induction qs with
  | nil => exact ⟨(fun z hz => nomatch hz), rfl⟩
  | cons q r ih =>
    obtain ⟨h1, h2⟩ := ih fun x hx => h x (List.mem_cons_of_mem _ hx)
    have hq := h q (List.mem_cons_self ..)
    obtain ⟨n, d, rfl, hn, hd, h0⟩ := Frc.nat hq
    refine ⟨fun z hz => ?_, ?_⟩
    · rcases List.mem_cons.mp hz with rfl | hz
      · exact word_ft hn hd
      · exact h1 z hz
    · rw [List.map_cons]
      unfold fracsT
      have := fracT_ft hn hd h0 hq.1.2.2.2.2.1 hq.1.2.2.2.2.2
      rw [this, h2]
theorem Drawn.words {evs : List NestedKey} {qs : List (Int × Int)} (h : Drawn evs qs) : (∀ z ∈ linW evs qs, 32 ∉ tl z ∧ z.length ≤ 900 ∧ ∀ c ∈ tl z, c < 200) ∧ (linW evs qs).length ≤ 38 := by
  obtain ⟨f1, f2, f3⟩ := flat_words h.ev
  obtain ⟨g1, _⟩ := frs_words h.fr
  have hez := h.ez
  have hfew := h.few
  have ok : ∀ z, WordOk z → 32 ∉ tl z ∧ z.length ≤ 900 ∧ ∀ c ∈ tl z, c < 200 := fun z h => ⟨h.nosp, h.short, h.low⟩
  unfold linW
  refine ⟨fun z hz => ?_, ?_⟩
  · rcases List.mem_append.mp hz with hz | hz
    · rcases List.mem_append.mp hz with hz | hz
      · rcases List.mem_cons.mp hz with rfl | hz
        · exact ok _ (word_lit (by decide +kernel))
        · exact ok z (f1 z hz)
      · rw [List.mem_singleton.mp hz]
        exact ⟨by decide +kernel, by decide +kernel, by decide +kernel⟩
    · exact ok z (g1 z hz)
  · rw [List.length_append, List.length_append, List.length_cons, List.length_map, List.length_singleton]
    omega
theorem Drawn.back {evs : List NestedKey} {qs : List (Int × Int)} (h : Drawn evs qs) : Txt.split (linT evs qs) (" " : Str) = linW evs qs := by
  unfold linT
  exact Kl.one_sp.back (by unfold linW; simp) fun p hp => (h.words.1 p hp).1
theorem idx_at {a : Str} : ∀ {l r : List Str}, a ∉ l → (l ++ a :: r).idxOf a = l.length
  | [], r, _ => by
    rw [List.nil_append, List.idxOf_cons, beq_self_eq_true]
    rfl
  | y :: l, r, h => by
    have h1 : (y == a) = false := by
      cases e : (y == a) with
      | false => rfl
      | true => exact absurd (by rw [eq_of_beq e]; exact List.mem_cons_self ..) h
    rw [List.cons_append, List.idxOf_cons, h1, List.length_cons]
    exact congrArg (· + 1) (idx_at fun z => h (List.mem_cons_of_mem _ z))
theorem Drawn.line {evs : List NestedKey} {qs : List (Int × Int)} (h : Drawn evs qs) : lineT (linW evs qs) = some (evs, qs) := by
  obtain ⟨f1, f2, f3⟩ := flat_words h.ev
  obtain ⟨_, g2⟩ := frs_words h.fr
  have e : linW evs qs = (("at" : Str) :: evs.flatMap evW) ++ ("do" : Str) :: qs.map fun q => ft q.1 q.2 := by
    unfold linW
    rw [List.append_assoc, List.singleton_append]
  have hno : ("do" : Str) ∉ ("at" : Str) :: evs.flatMap evW := fun hm => by
    rcases List.mem_cons.mp hm with q | hm
    · exact absurd q (by decide +kernel)
    · exact (f1 _ hm).nodo rfl
  have hi : (linW evs qs).idxOf ("do" : Str) = (("at" : Str) :: evs.flatMap evW).length := by rw [e]; exact idx_at hno
  unfold lineT
  rw [hi]
  have e0 : (linW evs qs)[0]? = some ("at" : Str) := by rw [e]; rfl
  have e1 : ("do" : Str) ∈ linW evs qs := by rw [e]; simp
  rw [decide_eq_true e0, decide_eq_true e1]
  have e2 : (linW evs qs).take (("at" : Str) :: evs.flatMap evW).length = ("at" : Str) :: evs.flatMap evW := by rw [e, List.take_left]
  have e3 : (linW evs qs).drop ((("at" : Str) :: evs.flatMap evW).length + 1) = qs.map fun q => ft q.1 q.2 := by
    rw [e, ← List.drop_drop, List.drop_left]
    rfl
  rw [e2, e3, g2]
  have e4 : viewT ((("at" : Str) :: evs.flatMap evW).length - 1) ((("at" : Str) :: evs.flatMap evW).drop 1) = some evs := view_back h.ev (by rw [List.length_cons]; omega)
  rw [e4]
  dsimp only
  rw [h.lots]
  rfl
theorem DEOk.drawn {H : Hp} {x : DE} (h : DEOk H x) : Drawn x.evs x.qs := by
  refine ⟨h.ev, h.ez, fun q hq => ⟨h.wt.frc q hq, ?_⟩, by unfold DE.qs; rw [List.length_map]; exact h.wt.few, h.wt.lotsQ⟩
  obtain ⟨w, hw, rfl⟩ := List.mem_map.mp hq
  obtain ⟨h0, h1⟩ := h.wt.w w hw
  have a1 := div_abs (G_pos (n := w) h.wt.pos) (n_eq w x.W)
  have a2 := div_abs (G_pos (n := w) h.wt.pos) (d_eq w x.W)
  have := h.wt.pos
  have := h.wt.big
  have := rn_nn h0 h.wt.pos
  have := rd_pos (n := w) h.wt.pos
  constructor
  · show rn w x.W < 10 ^ 60
    omega
  · show rd w x.W < 10 ^ 60
    omega
theorem readT_rows : ∀ {es : List (List NestedKey × List (Int × Int))} {n : Nat} {seen : List NestedKey}, (∀ e ∈ es, Drawn e.1 e.2) → (∀ e ∈ es, NestedKey.tup e.1 ∉ seen) → (es.map fun e => NestedKey.tup e.1).Nodup → readT n seen (es.map fun e => linT e.1 e.2) = .inr es
  | [], _, _, _, _, _ => rfl
  | e :: r, n, seen, h1, h2, h3 => by
    rw [List.map_cons] at h3
    obtain ⟨h4, h5⟩ := List.nodup_cons.mp h3
    have hd := h1 e (List.mem_cons_self ..)
    have hl : lineT (Txt.split (linT e.1 e.2) (" " : Str)) = some e := by rw [hd.back, hd.line]
    have := readT_step (n := n) (seen := seen) (r := r.map fun e => linT e.1 e.2) hl (h2 e (List.mem_cons_self ..)) []
    rw [putT_nil] at this
    rw [List.map_cons, this, readT_rows (fun x hx => h1 x (List.mem_cons_of_mem _ hx)) (fun x hx hm => ?_) h5]
    · rfl
    · rcases List.mem_append.mp hm with hm | hm
      · exact h2 x (List.mem_cons_of_mem _ hx) hm
      · exact h4 (by rw [← List.mem_singleton.mp hm]; exact List.mem_map.mpr ⟨x, hx, rfl⟩)
theorem mem_joinL {S : List Nat} {c : Nat} : ∀ {ps : List (List Nat)}, c ∈ joinL S ps → c ∈ S ∨ ∃ p ∈ ps, c ∈ p
  | [], h => nomatch h
  | [p], h => .inr ⟨p, List.mem_singleton.mpr rfl, h⟩
  | p :: q :: r, h => by
    rcases List.mem_append.mp (show c ∈ p ++ (S ++ joinL S (q :: r)) from h) with h | h
    · exact .inr ⟨p, List.mem_cons_self .., h⟩
    · rcases List.mem_append.mp h with h | h
      · exact .inl h
      · rcases mem_joinL h with h | ⟨x, hx, hc⟩
        · exact .inl h
        · exact .inr ⟨x, List.mem_cons_of_mem _ hx, hc⟩
theorem len_joinL {S : List Nat} : ∀ {ps : List (List Nat)} {m : Nat}, (∀ p ∈ ps, p.length ≤ m) → (joinL S ps).length ≤ (m + S.length) * ps.length
  | [], m, _ => Nat.zero_le _
  | [p], m, h => by
    have := h p (List.mem_singleton.mpr rfl)
    show p.length ≤ (m + S.length) * 1
    omega
  | p :: q :: r, m, h => by
    have h1 := h p (List.mem_cons_self ..)
    have h2 := len_joinL (S := S) (ps := q :: r) (m := m) fun x hx => h x (List.mem_cons_of_mem _ hx)
    show (p ++ (S ++ joinL S (q :: r))).length ≤ _
    rw [List.length_append, List.length_append, List.length_cons, Nat.mul_succ]
    omega
theorem Drawn.ok {evs : List NestedKey} {qs : List (Int × Int)} (h : Drawn evs qs) : LineOk (linT evs qs) ∧ PyData.strOk (linT evs qs) = true := by
  obtain ⟨h1, h2⟩ := h.words
  have e : tl (linT evs qs) = joinL (tl (" " : Str)) ((linW evs qs).map tl) := by
    unfold linT
    rw [join_eq, tl_join]
  refine ⟨⟨?_, fun z hz => ?_, ?_⟩, ?_⟩
  · rw [len_tl, e]
    have := len_joinL (S := tl (" " : Str)) (ps := (linW evs qs).map tl) (m := 900) fun p hp => by
      obtain ⟨z, hz, rfl⟩ := List.mem_map.mp hp
      rw [← len_tl]
      exact (h1 z hz).2.1
    rw [List.length_map, show (tl (" " : Str)).length = 1 by decide +kernel] at this
    have h3 : (900 + 1) * (linW evs qs).length ≤ (900 + 1) * 38 := Nat.mul_le_mul_left _ h2
    exact Nat.le_trans (Nat.add_le_add_right (Nat.le_trans this h3) 2) (by decide)
  · rw [h.back] at hz
    exact (h1 z hz).2.1
  · rw [h.back]
    exact h2
  · unfold PyData.strOk
    rw [← Array.all_toList]
    refine List.all_eq_true.mpr fun c hc => decide_eq_true ?_
    have hc : c ∈ tl (linT evs qs) := hc
    rw [e] at hc
    rcases mem_joinL hc with hc | ⟨p, hp, hc⟩
    · have : c = 32 := by rw [show tl (" " : Str) = [32] by decide +kernel] at hc; exact List.mem_singleton.mp hc
      omega
    · obtain ⟨z, hz, rfl⟩ := List.mem_map.mp hp
      have := (h1 z hz).2.2 c hc
      omega
end K0

set_option Elab.async false
set_option linter.all false
set_option maxRecDepth 100000
set_option maxHeartbeats 4000000
/-! What is read, written again; the law's reading of lines, as a pure function. -/
namespace K0
open PySem PySem.Spec PyProof.Rows L2 Kx Kh Kd TL Kj Ke Ks
theorem num_back : ∀ l : List Nat, PySem.NumText.AllDigits l → l ≠ [] → (l = [48] ∨ l.head? ≠ some 48) → numL (PySem.NumText.digitsVal l) = l := by
  intro l
  induction h : l.length using Nat.strongRecOn generalizing l with
  | _ n ih =>
    intro hd hne hz
    obtain ⟨r, c, rfl⟩ : ∃ r c, l = r ++ [c] := ⟨l.dropLast, l.getLast hne, (List.dropLast_concat_getLast hne).symm⟩
    have hc := hd c (by simp)
    rw [PySem.NumText.digitsVal_snoc]
    cases r with
    | nil =>
      show numL (0 * 10 + (c - 48)) = [c]
      rw [numL_lt (by omega)]
      congr 1
      omega
    | cons a r =>
      have hz2 : (a :: r).head? ≠ some 48 := by
        rcases hz with z | z
        · have := congrArg List.length z
          simp at this
        · exact z
      have ha := hd a (by simp)
      have ha48 : a ≠ 48 := fun z => hz2 (by rw [z]; rfl)
      have hpos : 0 < PySem.NumText.digitsVal (a :: r) := PySem.NumText.digitsVal_pos (by omega)
      have i1 := ih (a :: r).length (by rw [← h, List.length_append, List.length_singleton]; omega) (a :: r) rfl (fun d hd' => hd d (List.mem_append.mpr (.inl hd'))) nofun (.inr hz2)
      rw [numL_step (by omega)]
      have e1 : (PySem.NumText.digitsVal (a :: r) * 10 + (c - 48)) / 10 = PySem.NumText.digitsVal (a :: r) := by omega
      have e2 : (PySem.NumText.digitsVal (a :: r) * 10 + (c - 48)) % 10 = c - 48 := by omega
      rw [e1, e2, i1]
      congr 2
      omega
theorem long_val {w : Str} (h : longB w = true) : nt (val w) = w ∧ Sn (val w) := by
  unfold longB at h
  obtain ⟨hp, hb⟩ := Bool.and_eq_true_iff.mp h
  obtain ⟨v1, v2⟩ := val_bd hp
  refine ⟨?_, v2, v1⟩
  unfold partB at hp
  obtain ⟨hp1, hp2⟩ := Bool.and_eq_true_iff.mp hp
  have l1 := of_decide_eq_true (Bool.and_eq_true_iff.mp hp1).1
  refine ext_tl ?_
  unfold val
  show (nt _).cps.toList = w.cps.toList
  rw [cps_nt]
  refine num_back _ (fun c hc => dig_mem (made_all hp2 c hc)) (fun e => ?_) ?_
  · rw [len_list, e] at l1
    exact absurd l1 (by decide)
  · unfold begB at hb
    rcases Bool.or_eq_true_iff.mp hb with hz | hz
    · rw [eq_of_beq hz]
      exact .inl (by decide +kernel)
    · refine .inr fun e => ?_
      rw [decide_eq_true e] at hz
      cases hz
theorem evN_len {z : Str} {m : Nat} (h : evN z = some m) : z.length ≤ 10 := by
  unfold evN at h
  split at h
  · rename_i e; rw [e]; decide +kernel
  · split at h
    · rename_i e; rw [e]; decide +kernel
    · split at h
      · rename_i e; rw [e]; decide +kernel
      · cases h
theorem nums_back : ∀ {l : List Str}, l.all longB = true → (l.map fun q => NestedKey.num (val q)).map keyW = l ∧ ∀ x ∈ l.map (fun q => NestedKey.num (val q)), PtK x
  | [], _ => ⟨rfl, fun x hx => nomatch hx⟩
  | q :: r, h => by
    rw [List.all_cons] at h
    obtain ⟨h1, h2⟩ := Bool.and_eq_true_iff.mp h
    obtain ⟨i1, i2⟩ := nums_back h2
    obtain ⟨a, b⟩ := long_val h1
    refine ⟨?_, fun x hx => ?_⟩
    · rw [List.map_cons, List.map_cons, i1]
      show nt (val q) :: r = _
      rw [a]
    · rcases List.mem_cons.mp hx with rfl | hx
      · exact .inr ⟨_, rfl, b⟩
      · exact i2 x hx
theorem viewT_flat : ∀ {n : Nat} {ws : List Str} {evs : List NestedKey}, viewT n ws = some evs → evs.flatMap evW = ws ∧ (∀ k ∈ evs, EvP k) ∧ evs.length ≤ ws.length
  | n, [], evs, h => by
    cases n <;> (cases h; exact ⟨rfl, (fun k hk => nomatch hk), Nat.le_refl _⟩)
  | 0, _ :: _, _, h => by cases h
  | n + 1, z :: r, evs, h => by
    cases hz : evN z with
    | none =>
      rw [viewT_none (fun m e => by rw [hz] at e; cases e)] at h
      cases h
    | some m =>
      by_cases h1 : m ≤ r.length
      case neg =>
        rw [viewT_none (fun m2 e h2 _ => by rw [hz] at e; cases e; exact h1 h2)] at h
        cases h
      cases h2 : (r.take m).all longB with
      | false =>
        rw [viewT_none (fun m2 e _ h3 => by rw [hz] at e; cases e; rw [h2] at h3; cases h3)] at h
        cases h
      | true =>
        rw [viewT_step hz h1 h2] at h
        obtain ⟨vs, hv, rfl⟩ := Option.map_eq_some_iff.mp h
        obtain ⟨i1, i2, i3⟩ := viewT_flat hv
        obtain ⟨n1, n2⟩ := nums_back h2
        refine ⟨?_, fun k hk => ?_, ?_⟩
        · rw [List.flatMap_cons, i1]
          show (keyW (.text z) :: ((r.take m).map fun q => NestedKey.num (val q)).map keyW) ++ r.drop m = _
          rw [n1]
          show z :: (r.take m ++ r.drop m) = _
          rw [List.take_append_drop]
        · rcases List.mem_cons.mp hk with rfl | hk
          · refine ⟨_, rfl, ?_, fun x hx => ?_⟩
            · rw [List.length_cons, List.length_map, List.length_take]
              have := evN_le hz
              omega
            · rcases List.mem_cons.mp hx with rfl | hx
              · exact .inl ⟨z, rfl, evN_len hz⟩
              · exact n2 x hx
          · exact i2 k hk
        · rw [List.length_cons, List.length_cons]
          rw [List.length_drop] at i3
          omega
theorem fracs_flat : ∀ {ws : List Str} {qs : List (Int × Int)}, fracsT ws = some qs → qs.map (fun q => ft q.1 q.2) = ws
  | [], qs, h => by
    cases h
    rfl
  | z :: r, qs, h => by
    unfold fracsT at h
    cases e : fracT z with
    | none => rw [e] at h; cases h
    | some q =>
      cases e2 : fracsT r with
      | none => rw [e, e2] at h; cases h
      | some qs2 =>
        rw [e, e2] at h
        cases h
        obtain ⟨_, _, _, _, _, _, g⟩ := fracT_ok (n := q.1) (d := q.2) e
        rw [List.map_cons, fracs_flat e2, ← g]
/-- the pieces of a line that fits -/
theorem lineT_get {ws : List Str} {evs : List NestedKey} {qs : List (Int × Int)} (h : lineT ws = some (evs, qs)) :
    ws[0]? = some ("at" : Str) ∧ ("do" : Str) ∈ ws ∧ viewT (ws.idxOf ("do" : Str) - 1) ((ws.take (ws.idxOf ("do" : Str))).drop 1) = some evs ∧ fracsT (ws.drop (ws.idxOf ("do" : Str) + 1)) = some qs ∧ lotsQ qs = true := by
  unfold lineT at h
  split at h
  · rename_i h0
    obtain ⟨a, b⟩ := Bool.and_eq_true_iff.mp h0
    split at h
    · rename_i e1 e2
      split at h
      · rename_i hq
        cases h
        exact ⟨of_decide_eq_true a, of_decide_eq_true b, e1, e2, hq⟩
      · cases h
    · cases h
  · cases h
theorem pre_at {ws : List Str} (h0 : ws[0]? = some ("at" : Str)) (h1 : ("do" : Str) ∈ ws) : 1 ≤ ws.idxOf ("do" : Str) ∧ ws.idxOf ("do" : Str) < ws.length ∧ ws.take (ws.idxOf ("do" : Str)) = ("at" : Str) :: (ws.take (ws.idxOf ("do" : Str))).drop 1 ∧ ws = ws.take (ws.idxOf ("do" : Str)) ++ ("do" : Str) :: ws.drop (ws.idxOf ("do" : Str) + 1) := by
  have hb : ws.idxOf ("do" : Str) < ws.length := List.idxOf_lt_length_iff.mpr h1
  have hz : ws[ws.idxOf ("do" : Str)] = ("do" : Str) := List.getElem_idxOf hb
  generalize ws.idxOf ("do" : Str) = b at *
  have b1 : 1 ≤ b := by
    refine Nat.pos_of_ne_zero fun e => ?_
    subst e
    have := List.getElem?_eq_getElem hb
    rw [h0, hz] at this
    exact absurd (Option.some.inj this) (by decide +kernel)
  refine ⟨b1, hb, ?_, ?_⟩
  · cases ws with
    | nil => cases h0
    | cons a r =>
      have h0 : a = ("at" : Str) := Option.some.inj h0
      subst h0
      obtain ⟨c, rfl⟩ : ∃ c, b = c + 1 := ⟨b - 1, by omega⟩
      rfl
  · have := List.take_append_drop b ws
    rw [List.drop_eq_getElem_cons hb, hz] at this
    exact this.symm
theorem lineT_pre {ws : List Str} {evs : List NestedKey} {qs : List (Int × Int)} (h : lineT ws = some (evs, qs)) : ws.take (ws.idxOf ("do" : Str)) = ("at" : Str) :: evs.flatMap evW ∧ viewT (evs.flatMap evW).length (evs.flatMap evW) = some evs := by
  obtain ⟨h0, h1, h2, _⟩ := lineT_get h
  obtain ⟨b1, b2, b3, _⟩ := pre_at h0 h1
  obtain ⟨f1, _⟩ := viewT_flat h2
  rw [b3]
  refine ⟨by rw [f1], ?_⟩
  rw [f1]
  have : ((ws.take (ws.idxOf ("do" : Str))).drop 1).length = ws.idxOf ("do" : Str) - 1 := by rw [List.length_drop, List.length_take]; omega
  rw [this]
  exact h2
theorem lineT_back {ws : List Str} {evs : List NestedKey} {qs : List (Int × Int)} (h : lineT ws = some (evs, qs)) : linW evs qs = ws := by
  obtain ⟨h0, h1, h2, h3, _⟩ := lineT_get h
  obtain ⟨_, _, b3, b4⟩ := pre_at h0 h1
  obtain ⟨p1, _⟩ := lineT_pre h
  unfold linW
  rw [fracs_flat h3, ← p1, List.append_assoc, List.singleton_append]
  exact b4.symm
theorem lineT_evs {ws : List Str} {evs : List NestedKey} {qs : List (Int × Int)} (h : lineT ws = some (evs, qs)) (hl : ws.length ≤ 60) : (∀ k ∈ evs, EvP k) ∧ evs.length ≤ 60 ∧ qs.length ≤ 60 ∧ ∀ q ∈ qs, Bd 1000 q.1 ∧ Bd 1000 q.2 := by
  obtain ⟨_, _, h2, h3, _⟩ := lineT_get h
  obtain ⟨_, f2, f3⟩ := viewT_flat h2
  obtain ⟨g1, g2⟩ := fracsT_frc h3
  refine ⟨f2, ?_, ?_, fun q hq => ?_⟩
  · rw [List.length_drop, List.length_take] at f3
    omega
  · rw [List.length_drop] at g1
    omega
  · obtain ⟨_, _, a, b, _⟩ := g2 q hq
    exact ⟨a.le (by decide), b.le (by decide)⟩
theorem readT_back : ∀ {xs : List Str} {n : Nat} {seen : List NestedKey} {es : List (List NestedKey × List (Int × Int))}, readT n seen xs = .inr es → es.map (fun e => linT e.1 e.2) = xs ∧ ∀ e ∈ es, ∃ x ∈ xs, lineT (Txt.split x (" " : Str)) = some e
  | [], n, seen, es, h => by
    cases h
    exact ⟨rfl, fun e he => nomatch he⟩
  | x :: r, n, seen, es, h => by
    cases hl : lineT (Txt.split x (" " : Str)) with
    | none => rw [readT_bad1 hl] at h; cases h
    | some e =>
      by_cases hm : NestedKey.tup e.1 ∈ seen
      · rw [readT_bad2 hl hm] at h
        cases h
      · have h2 := readT_step (n := n) (r := r) hl hm []
        rw [putT_nil, h] at h2
        cases hr : readT (n + 1) (seen ++ [NestedKey.tup e.1]) r with
        | inl i => rw [hr] at h2; cases h2
        | inr es2 =>
          rw [hr] at h2
          have h2 : es = e :: es2 := Sum.inr.inj h2
          subst h2
          obtain ⟨i1, i2⟩ := readT_back hr
          refine ⟨?_, fun y hy => ?_⟩
          · rw [List.map_cons, i1]
            congr 1
            unfold linT
            rw [lineT_back hl]
            exact Kl.one_sp.join x
          · rcases List.mem_cons.mp hy with rfl | hy
            · exact ⟨x, List.mem_cons_self .., hl⟩
            · obtain ⟨z, hz, e2⟩ := i2 y hy
              exact ⟨z, List.mem_cons_of_mem _ hz, e2⟩
/-! ### the law's way -/
def preW (ws : List Str) : List Str := ws.take (ws.idxOf ("do" : Str))
def lawB : Nat → List (List Str) → List Str → Option Nat
  | _, _, [] => none
  | n, seen, x :: r => if (lineT (Txt.split x (" " : Str))).isSome = true then
      if preW (Txt.split x (" " : Str)) ∈ seen then some n else lawB (n + 1) (seen ++ [preW (Txt.split x (" " : Str))]) r
    else some n
def preK : NestedKey → List Str
  | .tup evs => ("at" : Str) :: evs.flatMap evW
  | _ => []
def Kin (k : NestedKey) : Prop := ∃ evs, k = .tup evs ∧ viewT (evs.flatMap evW).length (evs.flatMap evW) = some evs
theorem kin_inj {evs : List NestedKey} {k : NestedKey} (h : viewT (evs.flatMap evW).length (evs.flatMap evW) = some evs) (hk : Kin k) (e : preK k = ("at" : Str) :: evs.flatMap evW) : k = .tup evs := by
  obtain ⟨evs2, rfl, h2⟩ := hk
  have e : evs2.flatMap evW = evs.flatMap evW := (List.cons.inj e).2
  rw [e, h] at h2
  rw [Option.some.inj h2]
theorem law_read : ∀ {xs : List Str} {n : Nat} {seen : List NestedKey}, (∀ k ∈ seen, Kin k) → lawB n (seen.map preK) xs = match readT n seen xs with
    | .inl i => some i
    | .inr _ => none
  | [], _, _, _ => rfl
  | x :: r, n, seen, h => by
    unfold lawB
    cases hl : lineT (Txt.split x (" " : Str)) with
    | none =>
      rw [readT_bad1 hl]
      rfl
    | some e =>
      obtain ⟨p1, p2⟩ := lineT_pre (evs := e.1) (qs := e.2) hl
      have p1 : preW (Txt.split x (" " : Str)) = ("at" : Str) :: e.1.flatMap evW := p1
      rw [if_pos (show (some e).isSome = true from rfl), p1]
      by_cases hm : NestedKey.tup e.1 ∈ seen
      · have hmm : ("at" : Str) :: e.1.flatMap evW ∈ seen.map preK := List.mem_map.mpr ⟨_, hm, rfl⟩
        rw [readT_bad2 hl hm, if_pos hmm]
      · have h2 := readT_step (n := n) (r := r) hl hm []
        rw [putT_nil] at h2
        rw [h2, if_neg (fun q => ?_)]
        · have i := law_read (xs := r) (n := n + 1) (seen := seen ++ [NestedKey.tup e.1]) (fun k hk => by
            rcases List.mem_append.mp hk with hk | hk
            · exact h k hk
            · rw [List.mem_singleton.mp hk]
              exact ⟨_, rfl, p2⟩)
          rw [List.map_append] at i
          have i2 : lawB (n + 1) (seen.map preK ++ [("at" : Str) :: e.1.flatMap evW]) r = _ := i
          rw [i2]
          cases readT (n + 1) (seen ++ [NestedKey.tup e.1]) r <;> rfl
        · obtain ⟨k, hk, ek⟩ := List.mem_map.mp q
          rw [kin_inj p2 (h k hk) ek] at hk
          exact hm hk
end K0

set_option Elab.async false
set_option linter.all false
set_option maxRecDepth 100000
set_option maxHeartbeats 4000000
/-! _law_digits. -/
namespace K0
open PySem PySem.Spec PyProof.Rows L2 Kx Kh Kd TL Kj Ke Ks
abbrev sDg : Stmt := top 40
abbrev sRd : Stmt := top 41
abbrev sGd : Stmt := top 42
abbrev sBd : Stmt := top 43
abbrev sNe : Stmt := top 44
abbrev sWd : Stmt := top 45
abbrev sCh : Stmt := top 46
theorem lt1 (c d : Nat) : (([c] : List Nat) < [d]) ↔ c < d := by
  rw [List.cons_lt_cons_iff]
  constructor
  · rintro (h | ⟨_, h⟩)
    · exact h
    · exact absurd h (by decide)
  · exact .inl
theorem digs {c : Nat} : c ∈ DIG.cps.toList ↔ 48 ≤ c ∧ c ≤ 57 := ⟨dig_mem, mem_dig⟩
theorem cps_a : ("0" : Str).cps.toList = [48] ∧ ("9" : Str).cps.toList = [57] := by decide +kernel
theorem take_get {l : List Nat} {i c : Nat} (h : l[i]? = some c) : l.take (i + 1) = l.take i ++ [c] := by
  rw [List.take_add_one, h]
  rfl
def dgV (w : Str) : V := if longB w = true then .int (val w) else .non
def spDg : Sp := fun vs H Q _ => ∃ (w : Str), vs = [.str w] ∧ w.length ≤ sizeLine ∧ Q (dgV w) H
section
variable {P : Program} {w : World} {K : PySem.W.Frag} {mg : Str → Option Value} {base : Heap}
theorem scDg : FnScope ["word", "char"] ["word"] (defScope sDg) := ⟨rfl, rfl, rfl, by decide +kernel, rfl, by decide +kernel, by decide +kernel⟩
theorem ok_dg {f : Addr} {fd : FuncData} (F : Fun K "_law_digits" "_law_digits" sDg f fd) (T : TxL mg) : FnOk P w K mg base CX0 1 f fd ["word"] spDg := by
  refine F.ok scDg (fun vs H Q E h => ?_) (fun cdv A outer s H vs Q E hr h => ?_)
  · obtain ⟨x, rfl, _⟩ := h
    rfl
  · obtain ⟨x, rfl, hx, k⟩ := h
    refine ⟨_, pss_cons (ps_if (pt_not (pt_chain op_lt op_lt pe_int (pe_callB call_len_str (by rfl) T.len PySem.boot_len (pa_cons (pv 0) pa_nil)) pe_int)) (pss_one (ps_ret pe_non)) pss_nil)
      (pss_cons (ps_for PassesOwn.never rfl (pi_str (pv 0)) (pg_name (i := 1) scDg.nd rfl (Or.inl rfl)) (pss_one (ps_if (pt_not (pt_chain op_le_str op_le_str pe_str (pv 1) pe_str)) (pss_one (ps_ret pe_non)) pss_nil)))
      (pss_cons (ps_if (PW.pt (pw_and (pt_cmpR op_eq (pe_ix ix_str (pv 0) pe_int (fun _ _ => rfl)) pe_str (nomark _)) (pw_and1 (pt_cmpR op_gt (pe_callB call_len_str (by rfl) T.len PySem.boot_len (pa_cons (pv 0) pa_nil)) pe_int (nomark _))))) (pss_one (ps_ret pe_non)) pss_nil)
      (pss_one (ps_ret (pe_callTy call_int_str (by rfl) T.int (by decide +kernel) (pa_cons (pv 0) pa_nil)))))), ?_⟩
    have no : longB x = false → Q .non H := fun e => by
      unfold dgV at k
      rw [e] at k
      exact k
    have np : partB x = false → Q .non H := fun e => no (by unfold longB; rw [e]; rfl)
    refine ⟨_, rfl, x, rfl, hx, _, _, rfl, rfl, _, rfl, ite2 (fun h1 => ?_) (fun h1 => ?_)⟩
    case _ =>
      have l1 : 0 < (x.length : Int) := of_decide_eq_true h1
      refine ⟨_, _, rfl, rfl, _, rfl, ?_⟩
      by_cases h2 : (x.length : Int) < 61
      · rw [decide_eq_true h2]
        refine iteF ?_
        have l1' : 1 ≤ x.length := by omega
        have l5' : x.length ≤ 60 := by omega
        refine ⟨_, rfl, x, rfl, for_it walk_str (fun i σ H' => (∃ v, σ = [some (.str x), v]) ∧ H' = H ∧ ∀ c ∈ x.cps.toList.take i, 48 ≤ c ∧ c ≤ 57) ⟨⟨_, rfl⟩, rfl, by simp⟩ (fun _ _ _ _ _ => trivial) ?_ ?_⟩
        · rintro i v σ H1 H2 hi ⟨⟨v2, rfl⟩, rfl, hc⟩ ⟨rfl, c, ec, rfl⟩
          have ec' : x.cps.toList[i]? = some c := by simpa using ec
          have bad : (c < 48 ∨ 57 < c) → partB x = false := fun q => by
            unfold partB
            rw [show madeB x DIG = false from ?_, Bool.and_false]
            cases z : madeB x DIG with
            | false => rfl
            | true =>
              have := digs.mp (made_all z c (List.mem_of_getElem? ec'))
              omega
          refine ⟨_, rfl, _, _, rfl, rfl, _, rfl, ?_⟩
          rw [cps_a.1]
          show if (!decide (([c] : List Nat) < [48])) = true then _ else _
          by_cases a1 : c < 48
          · rw [decide_eq_true ((lt1 _ _).mpr a1)]
            exact iteF ⟨_, rfl, iteT (np (bad (.inl a1)))⟩
          · rw [decide_eq_false (fun z => a1 ((lt1 _ _).mp z))]
            refine iteT ⟨_, _, rfl, rfl, _, rfl, ?_⟩
            rw [cps_a.2]
            show if (!!decide (([57] : List Nat) < [c])) = true then _ else _
            by_cases a2 : 57 < c
            · rw [decide_eq_true ((lt1 _ _).mpr a2)]
              exact iteT (np (bad (.inr a2)))
            · rw [decide_eq_false (fun z => a2 ((lt1 _ _).mp z))]
              refine iteF ⟨⟨_, rfl⟩, rfl, fun d hd => ?_⟩
              rw [take_get ec'] at hd
              rcases List.mem_append.mp hd with z | z
              · exact hc d z
              · rw [List.mem_singleton.mp z]
                omega
        · rintro σ H1 ⟨⟨v2, rfl⟩, rfl, hc⟩
          have hm : madeB x DIG = true := all_made (fun c hcc => digs.mpr (hc c (by rw [List.take_of_length_le (by simp)]; exact hcc)))
          have hp : partB x = true := by
            unfold partB
            rw [decide_eq_true l1', decide_eq_true l5', hm]
            rfl
          obtain ⟨hint, _⟩ := int_of hp
          obtain ⟨c, r, ex⟩ : ∃ c r, x.cps.toList = c :: r := by
            cases e : x.cps.toList with
            | nil =>
              rw [len_list, e] at l1'
              exact absurd l1' (by decide)
            | cons c r => exact ⟨c, r, rfl⟩
          have yes : begB x = true → Q (.int (val x)) H1 := fun e => by
            unfold dgV longB at k
            rw [hp, e] at k
            exact k
          refine ⟨_, rfl, x, 0, c, rfl, rfl, hx, by rw [ex]; exact atI_nat (j := 0) rfl, rfl, _, rfl, ite2 (fun y => ?_) (fun y => ?_)⟩
          · have hc0 : c = 48 := by
              have := V.str.inj (of_decide_eq_true y)
              have := congrArg (fun z : Str => z.cps.toList) this
              rw [cps_a.1] at this
              exact (List.cons.inj this).1
            subst hc0
            refine ⟨_, rfl, x, rfl, hx, _, _, rfl, rfl, _, rfl, ite2 (fun y2 => ?_) (fun y2 => ?_)⟩
            · have y2 := of_decide_eq_true y2
              refine no ?_
              unfold longB begB
              rw [ex, show (x == ("0" : Str)) = false from ?_]
              · rw [show decide ((48 :: r).head? = some 48) = true from decide_eq_true rfl]
                cases partB x <;> rfl
              · cases z : (x == ("0" : Str)) with
                | false => rfl
                | true =>
                  have := congrArg Str.length (eq_of_beq z)
                  have h0 : ("0" : Str).length = 1 := by decide +kernel
                  omega
            · have y2 : ¬ (x.length : Int) > 1 := fun q => y2 (decide_eq_true q)
              refine ⟨_, rfl, x, val x, rfl, hint, by omega, yes ?_⟩
              have hx1 : x.cps.toList.length = 1 := by rw [← len_list]; omega
              have hr0 : r = [] := by
                rw [ex, List.length_cons] at hx1
                exact List.length_eq_zero_iff.mp (by omega)
              have : x = ("0" : Str) := ext_tl (by
                show x.cps.toList = ("0" : Str).cps.toList
                rw [ex, cps_a.1, hr0])
              unfold begB
              rw [this, beq_self_eq_true]
              rfl
          · refine ⟨_, rfl, x, val x, rfl, hint, by omega, yes ?_⟩
            unfold begB
            rw [ex, decide_eq_false (fun q => ?_), Bool.not_false, Bool.or_true]
            have hc0 : c = 48 := Option.some.inj q
            subst hc0
            exact y (decide_eq_true rfl)
      · rw [decide_eq_false h2]
        refine iteT (np ?_)
        unfold partB
        rw [decide_eq_false (show ¬ x.length ≤ 60 by omega), Bool.and_false]
        rfl
    case _ =>
      have h1 : ¬ 0 < (x.length : Int) := fun q => h1 (decide_eq_true q)
      refine ⟨_, rfl, iteT (np ?_)⟩
      unfold partB
      rw [decide_eq_false (show ¬ 1 ≤ x.length by omega)]
      rfl
end
end K0

set_option Elab.async false
set_option linter.all false
set_option maxRecDepth 100000
set_option maxHeartbeats 4000000
/-! _law_read. -/
namespace K0
open PySem PySem.Spec PyProof.Rows L2 Kx Kh Kd TL Kj Ke Ks
/-! ### fractions, the law's way -/
theorem rn_one (x : Int) : rn x 1 = x ∧ rd x 1 = 1 := by
  have h1 := G_pos (n := x) (d := 1) (by decide)
  have h2 := d_eq x 1
  have h3 := n_eq x 1
  have h4 := rd_pos (n := x) (d := 1) (by decide)
  have h5 := div_abs h1 h2
  have e : rd x 1 = 1 := by
    have : (1 : Int).natAbs = 1 := rfl
    omega
  rw [e, Int.mul_one] at h2
  rw [← h2, Int.one_mul] at h3
  exact ⟨h3.symm, e⟩
theorem frac_parts {z : Str} {n d : Int} (h : fracT z = some (n, d)) : Txt.split z ("/" : Str) = ftW n d ∧ (Txt.split z ("/" : Str)).all longB = true := by
  obtain ⟨h0, h1, _, _, _, _, ez⟩ := fracT_ok h
  obtain ⟨a, rfl⟩ := nat_of h0
  obtain ⟨b, rfl⟩ := nat_of (Int.le_of_lt h1)
  have es : Txt.split z ("/" : Str) = ftW (a : Int) (b : Int) := by rw [ez, split_ft]
  refine ⟨es, List.all_eq_true.mpr fun q hq => ?_⟩
  have hp : partB q = true := by
    unfold fracT at h
    split at h
    · rename_i ha
      exact List.all_eq_true.mp ha q hq
    · cases h
  have hb : begB q = true := by
    rw [es] at hq
    unfold ftW at hq
    split at hq
    · rw [List.mem_singleton.mp hq]
      exact begB_nt a
    · rcases List.mem_cons.mp hq with rfl | hq
      · exact begB_nt a
      · rw [List.mem_singleton.mp hq]
        exact begB_nt b
  unfold longB
  rw [hp, hb]
  rfl
theorem ftW_len (n d : Int) : (ftW n d).length ≤ 2 := by
  unfold ftW
  split <;> simp
theorem frac_bad {z : Str} (h : (Txt.split z ("/" : Str)).all longB = false ∨ 2 < (Txt.split z ("/" : Str)).length) : fracT z = none := by
  cases e : fracT z with
  | none => rfl
  | some q =>
    obtain ⟨h1, h2⟩ := frac_parts (n := q.1) (d := q.2) e
    rcases h with h | h
    · rw [h2] at h
      cases h
    · rw [h1] at h
      have := ftW_len q.1 q.2
      omega
theorem long_part {p : Str} (h : longB p = true) : partB p = true := (Bool.and_eq_true_iff.mp h).1
theorem frac_one {z p : Str} (hs : Txt.split z ("/" : Str) = [p]) (hp : longB p = true) : fracT z = some (val p, 1) := by
  have hz := Kl.one_sl.join z
  rw [hs] at hz
  have hz : p = z := hz
  unfold fracT
  rw [hs, List.all_cons, List.all_nil, long_part hp, if_pos (by rfl), fracP_cons]
  obtain ⟨r1, r2⟩ := rn_one (val p)
  show (if (1 : Int) = 0 then none else if ft (rn (val p) 1) (rd (val p) 1) = z then some (rn (val p) 1, rd (val p) 1) else none) = _
  rw [r1, r2, if_neg (by decide), if_pos]
  unfold ft
  rw [if_pos rfl, (long_val hp).1]
  exact hz
theorem frac_two {z p q : Str} (hs : Txt.split z ("/" : Str) = [p, q]) (hp : longB p = true) (hq : longB q = true) : fracT z = if 2 ≤ val q ∧ rn (val p) (val q) = val p ∧ rd (val p) (val q) = val q then some (val p, val q) else none := by
  have hz := Kl.one_sl.join z
  rw [hs] at hz
  split
  · rename_i h
    obtain ⟨h2, h3, h4⟩ := h
    unfold fracT
    rw [hs, List.all_cons, List.all_cons, List.all_nil, long_part hp, long_part hq, if_pos (by rfl), fracP_cons]
    show (if val q = 0 then none else if ft (rn (val p) (val q)) (rd (val p) (val q)) = z then some (rn (val p) (val q), rd (val p) (val q)) else none) = _
    rw [h3, h4, if_neg (by omega), if_pos]
    rw [ft_join]
    unfold ftW
    rw [if_neg (by omega), (long_val hp).1, (long_val hq).1]
    exact hz
  · rename_i h
    cases e : fracT z with
    | none => rfl
    | some x =>
      refine absurd ?_ h
      obtain ⟨e1, _⟩ := frac_parts (n := x.1) (d := x.2) e
      obtain ⟨h0, h1, _, _, h5, h6, _⟩ := fracT_ok (n := x.1) (d := x.2) e
      rw [hs] at e1
      unfold ftW at e1
      split at e1
      · exact absurd e1 (by simp)
      · rename_i hd1
        obtain ⟨a, ea⟩ := nat_of h0
        obtain ⟨b, eb⟩ := nat_of (Int.le_of_lt h1)
        obtain ⟨f1, f2⟩ := List.cons.inj e1
        obtain ⟨f2, _⟩ := List.cons.inj f2
        have g1 : val p = x.1 := by rw [f1, ea]; exact val_nt a
        have g2 : val q = x.2 := by rw [f2, eb]; exact val_nt b
        rw [g1, g2]
        exact ⟨by omega, h5, h6⟩
theorem dg_flat (parts : List Str) : (parts.map dgV).all flatV = true := List.all_eq_true.mpr fun v hv => by
  obtain ⟨z, _, rfl⟩ := List.mem_map.mp hv
  unfold dgV
  split <;> rfl
theorem dg_in : ∀ parts : List Str, inV .non (parts.map dgV) = !parts.all longB
  | [] => rfl
  | z :: r => by
    have ih := dg_in r
    unfold inV at ih ⊢
    rw [List.map_cons, List.any_cons, List.all_cons, ih]
    unfold dgV
    cases longB z <;> rfl
def prD (q : Int × Int) : PyData := .tuple [.int q.1, .int q.2]
theorem prD_eqv (a b : Int × Int) : PyData.eqv (prD a) (prD b) = decide (a = b) := by
  obtain ⟨a1, a2⟩ := a
  obtain ⟨b1, b2⟩ := b
  show ((a1 == b1) && ((a2 == b2) && true)) = _
  rw [Bool.and_true]
  refine Bool.eq_iff_iff.mpr ⟨fun h => ?_, fun h => ?_⟩
  · obtain ⟨h1, h2⟩ := Bool.and_eq_true_iff.mp h
    exact decide_eq_true (by rw [eq_of_beq h1, eq_of_beq h2])
  · have h := of_decide_eq_true h
    rw [(Prod.mk.inj h).1, (Prod.mk.inj h).2, beq_self_eq_true, beq_self_eq_true]
    rfl
def spRd : Sp := fun vs H Q _ => ∃ (w : Str), vs = [.str w] ∧ w.length ≤ 900 ∧ (fracT w = none → ∀ H', Same H H' → Q .non H') ∧ ∀ n d, fracT w = some (n, d) → ∀ (t : Addr) H', Same H H' → H' t = some (.tup [.int n, .int d]) → Q (.ref t) H'
section
variable {P : Program} {w : World} {K : PySem.W.Frag} {mg : Str → Option Value} {base : Heap} {fG fL : Addr} {dG dL : FuncData}
theorem scRd : FnScope ["word", "parts", "numbers", "part"] ["word"] (defScope sRd) := ⟨rfl, rfl, rfl, by decide +kernel, rfl, by decide +kernel, by decide +kernel⟩
theorem ok_rd {f : Addr} {fd : FuncData} (F : Fun K "_law_read" "_law_read" sRd f fd) (T : TxL mg) (G1 : Fn0 P w K mg base 1 "_law_digits" ["word"] spDg fG dG) (L1 : Fn0 P w K mg base 1 "_law_less" ["num", "den"] spRed fL dL) : FnOk P w K mg base CX0 2 f fd ["word"] spRd := by
  refine F.ok scRd (fun vs H Q E h => ?_) (fun cdv A outer s H vs Q E hr h => ?_)
  · obtain ⟨x, rfl, _⟩ := h
    rfl
  · obtain ⟨x, rfl, hx9, q1, q2⟩ := h
    have hu64 : (A.deeper (envOfC "_law_read" (defScope sRd) s.heap.objs.size f cdv)).units + 64 < cLine := by have := hr.un; omega
    have hx : x.length + 2 ≤ sizeLine := Nat.le_trans (show x.length + 2 ≤ 1000 by omega) (by decide)
    refine ⟨_, pss_cons (ps_set (i := 1) scRd.nd rfl (Or.inl rfl) (pe_split (pv 0) pe_str))
      (pss_cons (ps_setLc (i := 2) (own := [("part", 3)]) (g := gName 3) (tt := tYes) (te := tCall spDg [] E0 (tCons (tVar 3) tNil)) rfl scRd.nd rfl rfl (sw_true rfl rfl rfl (by decide +kernel)) (pi_list (pv 1)) (blkOk_by (N := ["word", "parts", "numbers", "part"]) (sc := defScope sRd) (by decide +kernel))
          (fun _ _ _ _ _ => pg_name (i := 3) scRd.nd rfl (Or.inl rfl)) (fun _ _ _ _ _ => pts_nil) (fun _ _ _ _ _ => pe_call G1.ok hr (by rfl) G1.gl G1.kp G1.bd .nil pass0 (pa_cons (pv 3) pa_nil)))
      (pss_cons (ps_if (PW.pt (pw_or (pt_cmpR op_in_seq pe_non (pv 2) rfl) (pw_or1 (pt_cmpR op_gt (pe_callB call_len_seq (by rfl) T.len PySem.boot_len (pa_cons (pv 1) pa_nil)) pe_int (nomark _))))) (pss_one (ps_ret pe_non)) pss_nil)
      (pss_cons (ps_if (pt_cmpR op_eq (pe_callB call_len_seq (by rfl) T.len PySem.boot_len (pa_cons (pv 1) pa_nil)) pe_int (nomark _)) (pss_one (ps_ret (pe_tup (pa_cons (pe_ix ix_list (pv 2) pe_int (fun _ _ => rfl)) (pa_cons pe_int pa_nil))))) pss_nil)
      (pss_cons (ps_if (PW.pt (pw_or (pt_cmpR op_lt (pe_ix ix_list (pv 2) pe_int (fun _ _ => rfl)) pe_int (nomark _)) (pw_or1 (pt_cmpR (op_neD hu64) (pe_call L1.ok hr (by rfl) L1.gl L1.kp L1.bd .nil pass0 (pa_cons (pe_ix ix_list (pv 2) pe_int (fun _ _ => rfl)) (pa_cons (pe_ix ix_list (pv 2) pe_int (fun _ _ => rfl)) pa_nil))) (pe_tup (pa_cons (pe_ix ix_list (pv 2) pe_int (fun _ _ => rfl)) (pa_cons (pe_ix ix_list (pv 2) pe_int (fun _ _ => rfl)) pa_nil))) (nomark _))))) (pss_one (ps_ret pe_non)) pss_nil)
      (pss_one (ps_ret (pe_tup (pa_cons (pe_ix ix_list (pv 2) pe_int (fun _ _ => rfl)) (pa_cons (pe_ix ix_list (pv 2) pe_int (fun _ _ => rfl)) pa_nil))))))))), ?_⟩
    have hne := Kl.one_sl.ne x
    refine ⟨_, rfl, ⟨_, rfl⟩, x, _, rfl, rfl, by decide +kernel, hx, fun p hp => ?_⟩
    have s1 := same_upd (o := .lst ((Txt.split x ("/" : Str)).map V.str)) hp
    have ep : upd H p (.lst ((Txt.split x ("/" : Str)).map V.str)) p = some (.lst ((Txt.split x ("/" : Str)).map V.str)) := upd_same
    generalize upd H p (.lst ((Txt.split x ("/" : Str)).map V.str)) = H1 at *
    have hz : ∀ z ∈ Txt.split x ("/" : Str), z.length ≤ sizeLine := fun z hz => Nat.le_trans (Kl.one_sl.part hz) (by omega)
    have hl : (Txt.split x ("/" : Str)).length ≤ 1000 := Nat.le_trans (Kl.one_sl.count x) (by omega)
    have b1 : (Txt.split x ("/" : Str)).all longB = false ∨ 2 < (Txt.split x ("/" : Str)).length → fracT x = none := frac_bad
    have b2 : ∀ p, Txt.split x ("/" : Str) = [p] → longB p = true → fracT x = some (val p, 1) := fun p => frac_one
    have b3 : ∀ p q, Txt.split x ("/" : Str) = [p, q] → longB p = true → longB q = true → fracT x = if 2 ≤ val q ∧ rn (val p) (val q) = val p ∧ rd (val p) (val q) = val q then some (val p, val q) else none := fun p q => frac_two
    generalize Txt.split x ("/" : Str) = ps at *
    refine ⟨_, rfl, p, rfl, ⟨_, SqL.of ep⟩, fun D hD => ?_⟩
    refine lc_map ps V.str dgV (SqL.of ep) (Nat.lt_of_le_of_lt hl (by decide)) hD (fun z hzm H' s' Q' k' => ?_) fun H2 s2 eD => ?_
    · exact ⟨_, rfl, z, rfl, hz z hzm, k' H' (Same.refl _)⟩
    have ep2 := s2 _ _ ep
    have s12 := s1.trans s2
    refine ⟨_, rfl, D, _, rfl, .inl (SqL.of eD), rfl, dg_flat ps, ?_⟩
    rw [if_neg Bool.false_ne_true, dg_in]
    refine ⟨_, rfl, ?_⟩
    cases ha : ps.all longB with
    | false => exact iteT (iteT (q1 (b1 (.inl ha)) _ s12))
    | true =>
      have hall := List.all_eq_true.mp ha
      refine iteF ⟨_, rfl, p, _, rfl, .inl (SqL.of ep2), _, _, rfl, rfl, _, rfl, ite2 (fun y => ?_) (fun y => ?_)⟩
      · have y := of_decide_eq_true y
        rw [List.length_map] at y
        exact q1 (b1 (.inr (by omega))) _ s12
      have y : ¬ ps.length > 2 := fun q => y (decide_eq_true (by rw [List.length_map]; omega))
      refine ⟨_, rfl, p, _, rfl, .inl (SqL.of ep2), rfl, _, rfl, ite2 (fun y1 => ?_) (fun y1 => ?_)⟩
      · have y1 := V.int.inj (of_decide_eq_true y1)
        rw [List.length_map] at y1
        obtain ⟨z, rfl⟩ := List.length_eq_one_iff.mp (show ps.length = 1 by omega)
        have hzl := hall z (List.mem_singleton.mpr rfl)
        refine ⟨_, rfl, D, _, _, _, rfl, rfl, SqL.of eD, atI_nat (j := 0) rfl, by show 2 ≤ sizeLine; decide, fun t ht => ?_⟩
        refine q2 _ _ (b2 z rfl hzl) t _ (s12.trans (same_upd ht)) ?_
        rw [upd_same]
        unfold dgV
        rw [hzl]
        rfl
      have y1 : ¬ ps.length = 1 := fun q => y1 (decide_eq_true (by rw [List.length_map, q]; rfl))
      obtain ⟨z, u, rfl⟩ : ∃ z u, ps = [z, u] := by
        match ps, hne, y, y1 with
        | [], h, _, _ => exact absurd rfl h
        | [a], _, _, h => exact absurd rfl h
        | [a, b], _, _, _ => exact ⟨a, b, rfl⟩
        | a :: b :: c :: r, _, h, _ => exact absurd (by simp) h
      have hzl := hall z (List.mem_cons_self ..)
      have hul := hall u (List.mem_cons_of_mem _ (List.mem_singleton.mpr rfl))
      have b3 := b3 z u rfl hzl hul
      have ez : dgV z = .int (val z) := by unfold dgV; rw [hzl]; rfl
      have eu : dgV u = .int (val u) := by unfold dgV; rw [hul]; rfl
      have eD : H2 D = some (.lst [.int (val z), .int (val u)]) := by rw [eD, List.map_cons, List.map_cons, List.map_nil, ez, eu]
      have bu := val_B (long_part hul)
      refine ⟨_, rfl, D, _, _, _, rfl, rfl, SqL.of eD, atI_nat (j := 1) rfl, _, _, rfl, rfl, _, rfl, ite2 (fun y2 => ?_) (fun y2 => ?_)⟩
      · have y2 := of_decide_eq_true y2
        rw [if_neg (fun q => by have := q.1; omega)] at b3
        exact q1 b3 _ s12
      have y2 : ¬ val u < 2 := fun q => y2 (decide_eq_true q)
      refine ⟨_, rfl, D, _, _, _, rfl, rfl, SqL.of eD, atI_nat (j := 0) rfl, _, rfl, D, _, _, _, rfl, rfl, SqL.of eD, atI_nat (j := 1) rfl, val z, val u, rfl, by omega, bu.le (by decide), fun t H3 s3 nt et => ?_⟩
      have eD3 := s3 _ _ eD
      refine ⟨_, rfl, D, _, _, _, rfl, rfl, SqL.of eD3, atI_nat (j := 0) rfl, _, rfl, D, _, _, _, rfl, rfl, SqL.of eD3, atI_nat (j := 1) rfl, by show 2 ≤ sizeLine; decide, fun t2 ht2 => ?_⟩
      have s4 := same_upd (o := .tup [.int (val z), .int (val u)]) ht2
      refine ⟨prD (rn (val z) (val u), rd (val z) (val u)), prD (val z, val u), .tup (SqT.of (s4 _ _ et)) (.cons (.int _) (.cons (.int _) .nil)), .tup (SqT.of upd_same) (.cons (.int _) (.cons (.int _) .nil)), rfl, rfl, ?_⟩
      rw [prD_eqv]
      refine ⟨_, rfl, ?_⟩
      have s14 := (s12.trans s3).trans s4
      by_cases hrn : (rn (val z) (val u), rd (val z) (val u)) = (val z, val u)
      · rw [decide_eq_true hrn]
        obtain ⟨r1, r2⟩ := Prod.mk.inj hrn
        rw [if_pos ⟨by omega, r1, r2⟩] at b3
        have eD4 := s4 _ _ eD3
        refine iteF ⟨_, rfl, D, _, _, _, rfl, rfl, SqL.of eD4, atI_nat (j := 0) rfl, _, rfl, D, _, _, _, rfl, rfl, SqL.of eD4, atI_nat (j := 1) rfl, by show 2 ≤ sizeLine; decide, fun t3 ht3 => ?_⟩
        exact q2 _ _ b3 t3 _ (s14.trans (same_upd ht3)) upd_same
      · rw [decide_eq_false hrn]
        rw [if_neg (fun q => hrn (by rw [q.2.1, q.2.2]))] at b3
        exact iteT (q1 b3 _ s14)
end
end K0

set_option Elab.async false
set_option linter.all false
set_option maxRecDepth 100000
set_option maxHeartbeats 4000000
/-! _law_good: the lots behind do. -/
namespace K0
open PySem PySem.Spec PyProof.Rows L2 Kx Kh Kd TL Kj Ke Ks
abbrev NGd : List Str := ["words", "counts", "left", "turn", "more", "lots", "whole", "num", "den", "word"]
theorem scGd : FnScope NGd ["words"] (defScope sGd) := ⟨rfl, rfl, rfl, by decide +kernel, rfl, by decide +kernel, by decide +kernel⟩
abbrev gdX (P : Program) (w : World) (K : PySem.W.Frag) (mg : Str → Option Value) (base : Heap) (f : Addr) (cdv : Value) (A : Around) (outer : List Env) (s : Shared) (H : Hp) (E : XK) : Cx := (cxOf CX0 P w K mg base NGd "_law_good" (defScope sGd) f cdv A outer s H E).nox
theorem cut_of (us : List Str) (n : Nat) : cutV (us.map V.str) (some (n : Int)) none = (us.drop n).map V.str := by
  unfold cutV
  rw [HT.sIx_none, HT.sIx_nat, ← List.map_drop, ← List.map_take]
  congr 1
  rw [List.length_map]
  rcases Nat.le_total n us.length with h | h
  · rw [Nat.min_eq_left h, List.take_of_length_le (by rw [List.length_drop]; exact Nat.le_refl _)]
  · rw [Nat.min_eq_right h, List.drop_of_length_le h, List.drop_length, List.take_nil]
theorem cut_to (us : List Str) (n : Nat) : cutV (us.map V.str) none (some (n : Int)) = (us.take n).map V.str := by
  unfold cutV
  rw [HT.sIx_none, HT.sIx_nat, List.drop_zero, Nat.sub_zero, ← List.map_take]
  congr 1
  rw [List.length_map, Nat.min_comm, ← List.take_take]
  exact List.take_of_length_le (by rw [List.length_take]; exact Nat.min_le_right ..)
/-- where do stands -/
theorem do_at {ws : List Str} (h : ("do" : Str) ∈ ws) : (ws.map V.str)[ws.idxOf ("do" : Str)]? = some (.str "do") ∧ ∀ (m : Nat) (z' : V), m < ws.idxOf ("do" : Str) → (ws.map V.str)[m]? = some z' → eqV z' (.str "do") = false := by
  have hb : ws.idxOf ("do" : Str) < ws.length := List.idxOf_lt_length_iff.mpr h
  refine ⟨?_, fun m z' hm hz' => ?_⟩
  · rw [List.getElem?_map, List.getElem?_eq_getElem hb, List.getElem_idxOf hb]
    rfl
  · obtain ⟨y, hy, rfl⟩ := Option.map_eq_some_iff.mp ((List.getElem?_map ..).symm.trans hz')
    rw [eqV_str]
    cases hc : (y == ("do" : Str)) with
    | false => rfl
    | true =>
      rw [eq_of_beq hc] at hy
      exact absurd hy (idx_ne hm)
def RdR (H : Hp) (z : Str) (v : V) : Prop := (fracT z = none ∧ v = .non) ∨ ∃ n d t, fracT z = some (n, d) ∧ v = .ref t ∧ PairT H t (n, d)
theorem RdR.mon (H H' : Hp) (z : Str) (v : V) (s : NL H H') (h : RdR H z v) : RdR H' z v := h.imp id fun ⟨n, d, a, e1, e2, e3⟩ => ⟨n, d, a, e1, e2, s _ _ e3 fun xs q => by cases q⟩
def rdD (z : Str) : PyData := match fracT z with
  | none => .none
  | some q => prD q
theorem rd_dp {K : PySem.W.Frag} {H : Hp} : ∀ {zs : List Str} {vs : List V}, Paired (RdR H) zs vs → DpAll K H vs (zs.map rdD)
  | [], [], .nil => .nil
  | z :: zs, v :: vs, .cons h r => by
    refine .cons ?_ (rd_dp r)
    unfold rdD
    rcases h with ⟨e, rfl⟩ | ⟨n, d, t, e, rfl, et⟩
    · rw [e]
      exact .non
    · rw [e]
      exact .tup (SqT.of et) (.cons (.int _) (.cons (.int _) .nil))
theorem rd_lay : ∀ zs : List Str, PyData.canLayAll0 (zs.map rdD) = true ∧ PyData.depthAll (zs.map rdD) ≤ 1
  | [] => ⟨rfl, Nat.zero_le _⟩
  | z :: r => by
    obtain ⟨h1, h2⟩ := rd_lay r
    have : PyData.canLay0 (rdD z) = true ∧ PyData.depth (rdD z) ≤ 1 := by
      unfold rdD
      cases fracT z with
      | none => exact ⟨rfl, Nat.zero_le _⟩
      | some q => exact ⟨rfl, Nat.le_refl _⟩
    refine ⟨?_, Nat.max_le.mpr ⟨this.2, h2⟩⟩
    show (PyData.canLay0 (rdD z) && PyData.canLayAll0 (r.map rdD)) = true
    rw [this.1, h1]
    rfl
theorem rd_shaped (zs : List Str) : SeqAt.shaped (.list (zs.map rdD)) = true := by
  obtain ⟨h1, h2⟩ := rd_lay zs
  show (PyData.canLayAll0 _ && decide (PyData.depthAll _ + 1 ≤ 64)) = true
  rw [h1, decide_eq_true (by omega)]
  rfl
theorem rd_any : ∀ zs : List Str, ((zs.map rdD).any fun z => PyData.eqv z .none) = zs.any fun z => (fracT z).isNone
  | [] => rfl
  | z :: r => by
    rw [List.map_cons, List.any_cons, List.any_cons, rd_any r]
    congr 1
    unfold rdD
    cases fracT z <;> rfl
theorem rd_some {H : Hp} : ∀ {ws : List Str} {vs : List V}, Paired (RdR H) ws vs → (ws.any fun z => (fracT z).isNone) = false → ∃ (qs : List (Int × Int)) (ts : List Addr), fracsT ws = some qs ∧ vs = ts.map V.ref ∧ ts.length = qs.length ∧ ∀ (i : Nat) (t : Addr) (q : Int × Int), ts[i]? = some t → qs[i]? = some q → PairT H t q
  | [], [], .nil, _ => ⟨[], [], rfl, rfl, rfl, fun i a q h => by simp at h⟩
  | z :: ws, v :: vs, .cons h r, hn => by
    rw [List.any_cons] at hn
    rcases h with ⟨e, rfl⟩ | ⟨n, d, a, e, rfl, ra⟩
    · rw [e] at hn
      cases hn
    · rw [e] at hn
      obtain ⟨qs, as, h1, h2, h3, h4⟩ := rd_some r (by simpa using hn)
      refine ⟨(n, d) :: qs, a :: as, by unfold fracsT; rw [e, h1], by rw [h2]; rfl, congrArg (· + 1) h3, fun i x q hx hq => ?_⟩
      cases i with
      | zero =>
        cases hx
        cases hq
        exact ra
      | succ i => exact h4 i x q hx hq
theorem denW_drop {qs : List (Int × Int)} {i : Nat} (h : i < qs.length) : denW (qs.drop i) = qs[i].2 * denW (qs.drop (i + 1)) := by
  rw [List.drop_eq_getElem_cons h]
  rfl
theorem num_get {qs : List (Int × Int)} {i : Nat} (h : i < qs.length) (h2 : i < (numW qs).length) : (numW qs)[i] = qs[i].1 * (denW qs / qs[i].2) := by
  simp only [numW, List.getElem_map]
theorem lotsQ_eq {qs : List (Int × Int)} (h : ∀ q ∈ qs, Frc q) : lotsQ qs = decide ((numW qs).sum = denW qs) := by
  unfold lotsQ lotsB
  rw [show (numW qs).all (fun w => decide (0 ≤ w)) = true from ?_, Bool.true_and]
  refine List.all_eq_true.mpr fun x hx => ?_
  unfold numW at hx
  obtain ⟨q, hq, rfl⟩ := List.mem_map.mp hx
  obtain ⟨k, k0, e, _⟩ := denW_cut h q hq
  have := (h q hq).2.1
  rw [e, Int.mul_ediv_cancel _ (by omega)]
  exact decide_eq_true (Int.mul_nonneg (h q hq).1 (Int.le_of_lt k0))
section
variable {P : Program} {w : World} {K : PySem.W.Frag} {mg : Str → Option Value} {base : Heap} {fR : Addr} {dR : FuncData}
theorem gd_rest {f : Addr} {cdv : Value} {A : Around} {outer : List Env} {s : Shared} {H : Hp} {E : XK} {Q : VK} (hr : Room 2 (gdX P w K mg base f cdv A outer s H E).A) (T : TxL mg) (hsum : mg "sum" = none) (R1 : Fn0 P w K mg base 2 "_law_read" ["word"] spRd fR dR) :
    ∃ t, PSs (gdX P w K mg base f cdv A outer s H E) ((defBody sGd).drop 4) t ∧
      ∀ (H1 : Hp) (l : Addr) (ws : List Str) (v1 v2 v3 v4 : Option V), H1 l = some (.lst (ws.map V.str)) → (∀ z ∈ ws, z.length ≤ 900) → ws.length ≤ 38 → ("do" : Str) ∈ ws →
        (∀ H', Same H1 H' → Q (.bl (match fracsT (ws.drop (ws.idxOf ("do" : Str) + 1)) with | none => false | some qs => lotsQ qs)) H') →
        t { nx := fun _ H' => Q .non H', rt := Q } [some (.ref l), v1, v2, v3, v4, none, none, none, none, none] H1 := by
  have hu65 : (gdX P w K mg base f cdv A outer s H E).A.units + 65 < cLine := by have := hr.un; omega
  refine ⟨_, pss_cons (ps_setLc (i := 5) (own := [("word", 9)]) (g := gName 9) (tt := tYes) (te := tCall spRd [] E0 (tCons (tVar 9) tNil)) rfl scGd.nd rfl rfl (sw_true rfl rfl rfl (by decide +kernel))
        (pi_list (pe_slice sl_list (pv 0) (po_some (pe_op op_add (pe_bm PySem.F.plainAttrs_list PySem.F.slot_list_index PySem.F.type_list_index mt_index (pv 0) (pa_cons pe_str pa_nil)) pe_int)) po_none)) (blkOk_by (N := NGd) (sc := defScope sGd) (by decide +kernel))
        (fun _ _ _ _ _ => pg_name (i := 9) scGd.nd rfl (Or.inl rfl)) (fun _ _ _ _ _ => pts_nil) (fun _ _ _ _ _ => pe_call R1.ok hr (by rfl) R1.gl R1.kp R1.bd .nil pass0 (pa_cons (pv 9) pa_nil)))
    (pss_cons (ps_if (PW.pt (pw_or (pt_cmpR op_eq (pe_callB call_len_seq (by rfl) T.len PySem.boot_len (pa_cons (pv 5) pa_nil)) pe_int (nomark _)) (pw_or1 (pt_cmpR (op_inD hu65) pe_non (pv 5) rfl)))) (pss_one (ps_ret pe_bl)) pss_nil)
    (pss_cons (ps_set (i := 6) scGd.nd rfl (Or.inr rfl) pe_int)
    (pss_cons (ps_for PassesOwn.never rfl (pi_list (pv 5)) (pg_tup rfl (pgs_cons (pg_name (i := 7) scGd.nd rfl (Or.inl rfl)) (pgs_cons (pg_name (i := 8) scGd.nd rfl (Or.inl rfl)) pgs_nil)))
      (pss_one (ps_set (i := 6) scGd.nd rfl (Or.inr rfl) (pe_op op_mulW (pv 6) (pv 8)))))
    (pss_one (ps_ret (pe_cmpR op_eq (pe_callB (cr_sum rfl) (by rfl) hsum (by decide +kernel) (pa_cons
      (pe_lc (own := [("num", 7), ("den", 8)]) (g := gTup K 2 (gCons (gName 7) (gCons (gName 8) gNil))) (tt := tYes) rfl scGd.nd (pi_list (pv 5)) (blkOk_by (N := NGd) (sc := defScope sGd) (by decide +kernel))
        (fun _ _ _ _ _ => pg_tup rfl (pgs_cons (pg_name (i := 7) scGd.nd rfl (Or.inl rfl)) (pgs_cons (pg_name (i := 8) scGd.nd rfl (Or.inl rfl)) pgs_nil))) (fun _ _ _ _ _ => pts_nil)
        (fun _ _ _ _ _ => pe_op op_mulW (pv 7) (pe_op op_fdivW (pv 6) (pv 8)))) pa_nil)) (pv 6) (nomark _))))))), ?_⟩
  intro H1 l ws v1 v2 v3 v4 hl hz hn hdo q
  obtain ⟨d1, d2⟩ := do_at hdo
  have hb : ws.idxOf ("do" : Str) < ws.length := List.idxOf_lt_length_iff.mpr hdo
  generalize ws.idxOf ("do" : Str) = b at *
  refine ⟨_, rfl, _, rfl, .inl ⟨rfl, _, SqL.of hl⟩, l, ws.map V.str, .str "do", b, .str "do", rfl, rfl, SqL.of hl, rfl, flat_strs _, d1, by rw [eqV_str]; exact beq_self_eq_true _, d2, ?_⟩
  refine ⟨_, _, rfl, rfl, _, rfl, l, _, rfl, SqL.of hl, fun p2 np2 => ?_⟩
  have ep2 : upd H1 p2 (.lst (cutV (ws.map V.str) (some ((b : Int) + 1)) none)) p2 = some (.lst ((ws.drop (b + 1)).map V.str)) := by rw [upd_same, show ((b : Int) + 1) = ((b + 1 : Nat) : Int) by omega, cut_of]
  have s2 := same_upd (o := .lst (cutV (ws.map V.str) (some ((b : Int) + 1)) none)) np2
  generalize upd H1 p2 (.lst (cutV (ws.map V.str) (some ((b : Int) + 1)) none)) = H2 at *
  refine ⟨p2, rfl, ⟨_, SqL.of ep2⟩, fun D hD => ?_⟩
  have hll : (ws.drop (b + 1)).length ≤ 38 := by rw [List.length_drop]; omega
  have hzz : ∀ z ∈ ws.drop (b + 1), z.length ≤ 900 := fun z hz' => hz z (List.mem_of_mem_drop hz')
  generalize ws.drop (b + 1) = zs at *
  refine lc_rel zs V.str RdR RdR.mon (SqL.of ep2) (Nat.lt_of_le_of_lt hll (by decide)) hD (fun z hz H' s' Q' k' => ?_) fun H4 vs s4 eD pr => ?_
  · exact ⟨_, rfl, z, rfl, hzz z hz, fun e H5 s5 => k' _ _ s5 (.inl ⟨e, rfl⟩), fun n d e t H5 s5 et => k' _ _ s5 (.inr ⟨n, d, t, e, rfl, et⟩)⟩
  have hvl : zs.length = vs.length := Kj.paired_length pr
  have s24 := s2.trans s4
  refine ⟨_, rfl, D, _, rfl, .inl (SqL.of eD), rfl, _, rfl, ite2 (fun y => ?_) (fun y => ?_)⟩
  · have y := V.int.inj (of_decide_eq_true y)
    have hv0 : zs.length = 0 := by omega
    rw [List.length_eq_zero_iff.mp hv0] at q
    exact q _ s24
  have hne : zs ≠ [] := fun e => y (decide_eq_true (by rw [← hvl, e]; rfl))
  refine ⟨_, rfl, .none, zs.map rdD, .non, .lst (SqL.of eD) (rd_dp pr), rfl, rd_shaped zs, ?_⟩
  rw [rd_any]
  refine ⟨_, rfl, ?_⟩
  cases ha : zs.any fun z => (fracT z).isNone with
  | true =>
    rw [frT_none ha] at q
    exact iteT (q _ s24)
  | false =>
    obtain ⟨qs, ts, e1, rfl, e3, e4⟩ := rd_some pr ha
    obtain ⟨e5, hfr⟩ := fracsT_frc e1
    rw [e1] at q
    have hq38 : qs.length ≤ 38 := by omega
    refine iteF ⟨_, rfl, D, rfl, ⟨_, SqL.of eD⟩, for_list (xs := ts.map V.ref) (fun i σ H' => (∃ (W : Int) (v7 v8 : Option V), σ = [some (.ref l), v1, v2, v3, v4, some (.ref D), some (.int W), v7, v8, none] ∧ 0 < W ∧ Bd (200 * i + 1) W ∧ W * denW (qs.drop i) = denW qs) ∧ H' = H4)
      ⟨⟨1, none, none, rfl, by decide, Bd.of_abs (x := 1) (by unfold Bd; decide) (Nat.le_refl _), Int.one_mul _⟩, rfl⟩ (fun i σ H' _ h => by rw [h.2]; exact SqL.of eD) ?_ ?_⟩
    · rintro i y σ H' hy ⟨⟨W, v7, v8, rfl, W0, Wb, We⟩, rfl⟩
      obtain ⟨t, ht, rfl⟩ := Option.map_eq_some_iff.mp ((List.getElem?_map ..).symm.trans hy)
      have hiq : i < qs.length := by
        have := (List.getElem?_eq_some_iff.mp ht).1
        omega
      have eq := List.getElem?_eq_getElem hiq
      have R := e4 i t _ ht eq
      obtain ⟨_, f1, _, f3, _⟩ := hfr _ (List.getElem_mem hiq)
      refine ⟨t, _, rfl, SqT.of R, rfl, _, _, rfl, _, _, rfl, rfl, ?_⟩
      refine ⟨_, rfl, _, rfl, _, _, rfl, rfl, wide_mul Wb f3 (by omega) (by decide) (by omega), ⟨_, _, _, rfl, Int.mul_pos W0 f1, (Wb.mul f3).le (by omega), ?_⟩, rfl⟩
      rw [denW_drop hiq, ← Int.mul_assoc] at We
      exact We
    · rintro σ H' ⟨⟨W, v7, v8, rfl, W0, Wb, We⟩, rfl⟩
      have We : W = denW qs := by
        rw [List.length_map, e3, List.drop_length] at We
        rw [← We]
        exact (Int.mul_one W).symm
      subst We
      refine ⟨_, rfl, D, rfl, ⟨_, SqL.of eD⟩, fun D2 hD2 => ?_⟩
      refine lc_list (xs := ts.map V.ref) (fun i H1 => H1 D2 = some (.lst (((numW qs).take i).map V.int)) ∧ Same H' H1) ⟨upd_same, same_upd hD2⟩ (fun i H1 _ h => SqL.of (h.2 _ _ eD)) ?_ ?_
      · rintro i y H5 hy ⟨eD2, s5⟩
        obtain ⟨t, ht, rfl⟩ := Option.map_eq_some_iff.mp ((List.getElem?_map ..).symm.trans hy)
        have hiq : i < qs.length := by
          have := (List.getElem?_eq_some_iff.mp ht).1
          omega
        have eq := List.getElem?_eq_getElem hiq
        have R := s5 _ _ (e4 i t _ ht eq)
        obtain ⟨_, f1, f2, f3, _⟩ := hfr _ (List.getElem_mem hiq)
        obtain ⟨k, k0, ek, kb⟩ := denW_cut hfr _ (List.getElem_mem hiq)
        have ek2 : denW qs / qs[i].2 = k := by rw [ek, Int.mul_ediv_cancel _ (by omega)]
        have hin : i < (numW qs).length := by unfold numW; rw [List.length_map]; exact hiq
        have en : (numW qs)[i] = qs[i].1 * (denW qs / qs[i].2) := num_get hiq hin
        refine ⟨t, _, rfl, SqT.of R, rfl, _, _, rfl, _, _, rfl, rfl, rfl, tYesI ⟨_, rfl, _, rfl, _, rfl, _, _, rfl, rfl, wide_div f1 f3 (by decide) (by decide), ?_⟩⟩
        dsimp only
        rw [ek2]
        refine ⟨_, _, rfl, rfl, wide_mul f2 kb (by decide) (by omega) (by omega), _, eD2, ?_, ?_, fun b o z => ?_⟩
        · rw [List.length_map, List.length_take]
          exact Nat.lt_of_le_of_lt (show min i (numW qs).length ≤ 100 by omega) (by decide)
        · rw [upd_same, List.take_succ_eq_append_getElem hin, List.map_append, en, ek2]
          rfl
        · rw [upd_ne (ne_of_none z hD2)]
          exact s5 _ _ z
      · rintro H5 ⟨eD2, s5⟩
        rw [List.length_map, e3, List.take_of_length_le (by unfold numW; rw [List.length_map]; exact Nat.le_refl _)] at eD2
        refine ⟨D2, numW qs, rfl, SqL.of eD2, _, rfl, ?_⟩
        refine ⟨rfl, ?_⟩
        have := q _ (s24.trans s5)
        dsimp only at this
        rw [lotsQ_eq hfr] at this
        rw [show decide (V.int (numW qs).sum = V.int (denW qs)) = decide ((numW qs).sum = denW qs) from by
          by_cases h : (numW qs).sum = denW qs
          · rw [decide_eq_true h, decide_eq_true (by rw [h])]
          · rw [decide_eq_false h, decide_eq_false (fun e => h (V.int.inj e))]]
        exact this
end
end K0

set_option Elab.async false
set_option linter.all false
set_option maxRecDepth 100000
set_option maxHeartbeats 4000000
/-! _law_good. -/
namespace K0
open PySem PySem.Spec PyProof.Rows L2 Kx Kh Kd TL Kj Ke Ks
def cntP : List (L2.Key × V) := [(.inr "shown", .int 1), (.inr "asked", .int 2), (.inr "did", .int 1)]
def cntK : List (L2.Key × V) := mergeK [] cntP
theorem cnt_val (z : Str) : valV cntK (.inr z) = (evN z).map fun m => V.int (m : Int) := by
  show valV (putK (putK (putK [] (Sum.inr "shown" : L2.Key) (.int 1)) (Sum.inr "asked" : L2.Key) (.int 2)) (Sum.inr "did" : L2.Key) (.int 1)) (Sum.inr z : L2.Key) = _
  rw [valV_put, valV_put, valV_put]
  unfold evN
  by_cases h1 : z = "shown"
  · subst h1
    rw [if_neg (by decide +kernel), if_neg (by decide +kernel), if_pos rfl, if_pos rfl]
    rfl
  by_cases h2 : z = "asked"
  · subst h2
    rw [if_neg (by decide +kernel), if_pos rfl, if_neg (by decide +kernel), if_pos rfl]
    rfl
  by_cases h3 : z = "did"
  · subst h3
    rw [if_pos rfl, if_neg (by decide +kernel), if_neg (by decide +kernel), if_pos rfl]
    rfl
  have n : ∀ y : Str, z ≠ y → (Sum.inr z : L2.Key) ≠ Sum.inr y := fun y h e => h (Sum.inr.inj e)
  rw [if_neg (n _ h3), if_neg (n _ h2), if_neg (n _ h1), if_neg h1, if_neg h2, if_neg h3]
  rfl
theorem cnt_get {H : Hp} {a : Addr} (e : H a = some (.dK cntK)) (z : Str) : DGet H a (.str z) ((evN z).map fun m => V.int (m : Int)) := by
  have := DGet.k (k := .inr z) e
  rw [cnt_val] at this
  exact this
def spGd : Sp := fun vs H Q _ => ∃ (l : Addr) (ws : List Str), vs = [.ref l] ∧ H l = some (.lst (ws.map V.str)) ∧ (∀ z ∈ ws, z.length ≤ 900) ∧ ws.length ≤ 38 ∧ ws ≠ [] ∧ ∀ H', Same H H' → Q (.bl (lineT ws).isSome) H'
theorem line_bad0 {ws : List Str} (h : ¬ ws[0]? = some ("at" : Str)) : (lineT ws).isSome = false := by
  unfold lineT
  rw [decide_eq_false h, Bool.false_and]
  rfl
theorem line_bad1 {ws : List Str} (h : ¬ ("do" : Str) ∈ ws) : (lineT ws).isSome = false := by
  unfold lineT
  rw [decide_eq_false h, Bool.and_false]
  rfl
theorem line_view {ws : List Str} (h0 : ws[0]? = some ("at" : Str)) (h1 : ("do" : Str) ∈ ws) : (viewT (ws.idxOf ("do" : Str) - 1) ((ws.take (ws.idxOf ("do" : Str))).drop 1) = none → (lineT ws).isSome = false) ∧
    (viewT (ws.idxOf ("do" : Str) - 1) ((ws.take (ws.idxOf ("do" : Str))).drop 1) ≠ none → (lineT ws).isSome = match fracsT (ws.drop (ws.idxOf ("do" : Str) + 1)) with | none => false | some qs => lotsQ qs) := by
  unfold lineT
  rw [decide_eq_true h0, decide_eq_true h1, if_pos (by rfl)]
  refine ⟨fun e => by rw [e]; rfl, fun e => ?_⟩
  cases ev : viewT (ws.idxOf ("do" : Str) - 1) ((ws.take (ws.idxOf ("do" : Str))).drop 1) with
  | none => exact absurd ev e
  | some evs =>
    cases fracsT (ws.drop (ws.idxOf ("do" : Str) + 1)) with
    | none => rfl
    | some qs =>
      dsimp only
      cases lotsQ qs <;> rfl
section
variable {P : Program} {w : World} {K : PySem.W.Frag} {mg : Str → Option Value} {base : Heap} {fR fG : Addr} {dR dG : FuncData}
theorem ok_gd {f : Addr} {fd : FuncData} (F : Fun K "_law_good" "_law_good" sGd f fd) (T : TxL mg) (hsum : mg "sum" = none) (G1 : Fn0 P w K mg base 1 "_law_digits" ["word"] spDg fG dG) (R1 : Fn0 P w K mg base 2 "_law_read" ["word"] spRd fR dR) : FnOk P w K mg base CX0 3 f fd ["words"] spGd := by
  refine F.ok scGd (fun vs H Q E h => ?_) (fun cdv A outer s H vs Q E hr h => ?_)
  · obtain ⟨l, ws, rfl, _⟩ := h
    rfl
  · obtain ⟨l, ws, rfl, hl, hz, hn, hne, q⟩ := h
    have hr1 : Room 1 _ := hr.mono (by decide)
    have hu1 : (A.deeper (envOfC "_law_good" (defScope sGd) s.heap.objs.size f cdv)).units + 1 < cLine := by have := hr.un; omega
    obtain ⟨tr, htr, rest⟩ := gd_rest (P := P) (w := w) (K := K) (mg := mg) (base := base) (f := f) (cdv := cdv) (A := A) (outer := outer) (s := s) (H := H) (E := E) (Q := Q) hr T hsum R1
    refine ⟨_, pss_cons (ps_set (i := 1) scGd.nd rfl (Or.inl rfl) (pe_disp (pps_cons pe_str pe_int (pps_cons pe_str pe_int (pps_cons pe_str pe_int pps_nil))) rfl rfl (by simp) (by decide)))
      (pss_cons (ps_if (PW.pt (pw_or (pt_cmpR op_ne (pe_ix ix_list (pv 0) pe_int (fun _ _ => rfl)) pe_str (nomark _)) (pw_or1 (pt_cmpR op_notIn_seq pe_str (pv 0) rfl)))) (pss_one (ps_ret pe_bl)) pss_nil)
      (pss_cons (ps_set (i := 2) scGd.nd rfl (Or.inl rfl) (pe_slice sl_list (pv 0) (po_some pe_int) (po_some (pe_bm PySem.F.plainAttrs_list PySem.F.slot_list_index PySem.F.type_list_index mt_index (pv 0) (pa_cons pe_str pa_nil)))))
      (pss_cons (ps_for PassesOwn.never rfl (pi_range1 rfl T.range (pa_cons (pe_callB call_len_seq (by rfl) T.len PySem.boot_len (pa_cons (pv 0) pa_nil)) pa_nil)) (pg_name (i := 3) scGd.nd rfl (Or.inl rfl))
        (pss_one (ps_if (pt_cmpR op_gt (pe_callB call_len_seq (by rfl) T.len PySem.boot_len (pa_cons (pv 2) pa_nil)) pe_int (nomark _))
          (pss_cons (ps_set (i := 4) scGd.nd rfl (Or.inl rfl) (pe_slice sl_list (pv 2) (po_some pe_int) (po_some (pe_op op_add pe_int (pe_dget2 hu1 (pv 1) (pe_ix ix_list (pv 2) pe_int (fun _ _ => rfl)) pe_int ⟨by rfl, by rfl, by rfl, by rfl⟩)))))
          (pss_cons (ps_if (PW.pt (pw_or (pt_cmp (pc_dnotin hu1 (pe_ix ix_list (pv 2) pe_int (fun _ _ => rfl)) (pv 1))) (pw_or (pt_cmpR op_ne (pe_callB call_len_seq (by rfl) T.len PySem.boot_len (pa_cons (pv 4) pa_nil)) (pe_dget hu1 (pv 1) (pe_ix ix_list (pv 2) pe_int (fun _ _ => rfl)) (fun _ _ => rfl)) (nomark _))
            (pw_or1 (pt_cmpR op_in_seq pe_non (pe_lc (own := [("word", 9)]) (g := gName 9) (tt := tYes) (te := tCall spDg [] E0 (tCons (tVar 9) tNil)) rfl scGd.nd (pi_list (pv 4)) (blkOk_by (N := NGd) (sc := defScope sGd) (by decide +kernel))
              (fun _ _ _ _ _ => pg_name (i := 9) scGd.nd rfl (Or.inl rfl)) (fun _ _ _ _ _ => pts_nil) (fun _ _ _ _ _ => pe_call G1.ok hr1 (by rfl) G1.gl G1.kp G1.bd .nil pass0 (pa_cons (pv 9) pa_nil))) rfl))))) (pss_one (ps_ret pe_bl)) pss_nil)
          (pss_one (ps_set (i := 2) scGd.nd rfl (Or.inl rfl) (pe_slice sl_list (pv 2) (po_some (pe_op op_add pe_int (pe_callB call_len_seq (by rfl) T.len PySem.boot_len (pa_cons (pv 4) pa_nil)))) po_none))))) pss_nil)))
      htr))), ?_⟩
    intro dc hdc
    refine ⟨upd_same, cntP, rfl, by decide, ?_⟩
    have s1 : Same H (upd (upd H dc (.dK [])) dc (.dK (mergeK [] cntP))) := fun b o z => by
      rw [upd_ne (ne_of_none z hdc), upd_ne (ne_of_none z hdc)]
      exact z
    have ec : upd (upd H dc (.dK [])) dc (.dK (mergeK [] cntP)) dc = some (.dK cntK) := upd_same
    generalize upd (upd H dc (.dK [])) dc (.dK (mergeK [] cntP)) = H1 at *
    have hl1 := s1 _ _ hl
    obtain ⟨w0, r0, ews⟩ : ∃ w0 r, ws = w0 :: r := by
      cases ws with
      | nil => exact absurd rfl hne
      | cons a b => exact ⟨a, b, rfl⟩
    have hw0 : (ws.map V.str)[0]? = some (.str w0) := by rw [ews]; rfl
    refine ⟨_, rfl, l, _, _, _, rfl, rfl, SqL.of hl1, atI_nat (j := 0) hw0, rfl, _, rfl, ?_⟩
    by_cases h0 : w0 = ("at" : Str)
    case neg =>
      rw [show (!decide (V.str w0 = V.str ("at" : Str))) = true by rw [decide_eq_false (fun e => h0 (V.str.inj e))]; rfl]
      have := q _ s1
      rw [line_bad0 (fun e => h0 (by rw [ews] at e; exact Option.some.inj e))] at this
      exact iteT (iteT this)
    have h0' : ws[0]? = some ("at" : Str) := by rw [ews, h0]; rfl
    subst h0
    rw [show (!decide (V.str ("at" : Str) = V.str ("at" : Str))) = false by rw [decide_eq_true rfl]; rfl]
    refine iteF ⟨_, rfl, l, _, rfl, .inl (SqL.of hl1), rfl, flat_strs _, ?_⟩
    rw [if_pos rfl, inV_str]
    by_cases h1 : ("do" : Str) ∈ ws
    case neg =>
      rw [show ws.contains ("do" : Str) = false from by simpa using h1]
      have := q _ s1
      rw [line_bad1 h1] at this
      exact ⟨_, rfl, iteT this⟩
    rw [show ws.contains ("do" : Str) = true from by simpa using h1]
    refine ⟨_, rfl, iteF ?_⟩
    obtain ⟨lv1, lv2⟩ := line_view h0' h1
    obtain ⟨b1, hb, _, _⟩ := pre_at h0' h1
    obtain ⟨d1, d2⟩ := do_at h1
    refine ⟨_, rfl, _, rfl, _, rfl, .inl ⟨rfl, _, SqL.of hl1⟩, l, ws.map V.str, .str "do", ws.idxOf ("do" : Str), .str "do", rfl, rfl, SqL.of hl1, rfl, flat_strs _, d1, by rw [eqV_str]; exact beq_self_eq_true _, d2, _, rfl, l, _, rfl, SqL.of hl1, fun p2 np2 => ?_⟩
    obtain ⟨b, eb⟩ : ∃ b, b = ws.idxOf ("do" : Str) := ⟨_, rfl⟩
    rw [← eb] at lv1 lv2 b1 hb ⊢
    have ecut : cutV (ws.map V.str) (some (1 : Int)) (some (b : Int)) = ((ws.take b).drop 1).map V.str := by
      rw [show (1 : Int) = ((1 : Nat) : Int) from rfl, cut_nat (by rw [List.length_map]; omega), List.map_drop, List.map_take, List.drop_take]
    have ep2 : upd H1 p2 (.lst (cutV (ws.map V.str) (some (1 : Int)) (some (b : Int)))) p2 = some (.lst (((ws.take b).drop 1).map V.str)) := by rw [upd_same, ecut]
    have s2 := same_upd (o := .lst (cutV (ws.map V.str) (some (1 : Int)) (some (b : Int)))) np2
    generalize upd H1 p2 (.lst (cutV (ws.map V.str) (some (1 : Int)) (some (b : Int)))) = H2 at *
    have s12 := s1.trans s2
    have hl2 := s2 _ _ hl1
    have ec2 := s2 _ _ ec
    have hlen : ((ws.take b).drop 1).length = b - 1 := by rw [List.length_drop, List.length_take]; omega
    have hzz : ∀ z ∈ (ws.take b).drop 1, z.length ≤ 900 := fun z h => hz z (List.mem_of_mem_take (List.mem_of_mem_drop h))
    have ln : ((ws.map V.str).length : Int).toNat = ws.length := by rw [List.length_map]; omega
    refine ⟨_, rfl, l, _, rfl, .inl (SqL.of hl2), ((ws.map V.str).length : Int), rfl, by rw [List.length_map]; omega, by rw [List.length_map]; omega, ?_⟩
    refine for_range (lo := 0) (n := ((ws.map V.str).length : Int).toNat) (fun i σ H' => (∃ (lf : Addr) (v3 v4 : Option V) (lt : List Str) (m : Nat), σ = [some (.ref l), some (.ref dc), some (.ref lf), v3, v4, none, none, none, none, none] ∧ H' lf = some (.lst (lt.map V.str)) ∧ (∀ z ∈ lt, z.length ≤ 900) ∧ lt.length + i ≤ ws.length ∧ lt.length ≤ m ∧ (viewT (b - 1) ((ws.take b).drop 1) = none ↔ viewT m lt = none)) ∧ Same H2 H')
      ⟨⟨p2, none, none, (ws.take b).drop 1, b - 1, rfl, ep2, hzz, by omega, by omega, Iff.rfl⟩, Same.refl _⟩ ?_ ?_
    · rintro i σ H3 hi ⟨⟨lf, v3, v4, lt, m, rfl, ef, hlz, hli, hlm, hv⟩, s3⟩
      have ec3 := s3 _ _ ec2
      refine ⟨_, rfl, lf, _, rfl, .inl (SqL.of ef), _, _, rfl, rfl, _, rfl, ite2 (fun y => ?_) (fun y => ?_)⟩
      case _ =>
        have y := of_decide_eq_true y
        rw [List.length_map] at y
        obtain ⟨z, r, rfl⟩ : ∃ z r, lt = z :: r := by
          cases lt with
          | nil => exact absurd y (by decide)
          | cons a b => exact ⟨a, b, rfl⟩
        have hz0 : ((z :: r).map V.str)[0]? = some (.str z) := rfl
        obtain ⟨m, rfl⟩ : ∃ m', m = m' + 1 := ⟨m - 1, by rw [List.length_cons] at hlm; omega⟩
        have bad : (viewT (m + 1) (z :: r) = none) → ∀ H', Same H2 H' → Q (.bl false) H' := fun e H' s' => by
          have := q H' (s12.trans s')
          rw [lv1 (hv.mpr e)] at this
          exact this
        have g0 := cnt_get ec3 z
        refine ⟨_, rfl, _, rfl, _, rfl, dc, rfl, .inl ⟨_, .inl ec3⟩, _, rfl, lf, _, _, _, rfl, rfl, SqL.of ef, atI_nat (j := 0) hz0, _, g0, ?_⟩
        cases hz1 : evN z with
        | none =>
          refine ⟨_, _, rfl, rfl, _, rfl, lf, _, rfl, SqL.of ef, fun p3 np3 => ?_⟩
          have s4 := same_upd (o := .lst (cutV ((z :: r).map V.str) (some 1) (some (1 + 0)))) np3
          have ef4 := s4 _ _ ef
          have g1 := cnt_get (s4 _ _ ec3) z
          rw [hz1] at g1
          refine ⟨_, rfl, lf, _, _, _, rfl, rfl, SqL.of ef4, atI_nat (j := 0) hz0, _, rfl, dc, _, rfl, g1, ?_⟩
          refine ⟨_, rfl, iteT ?_⟩
          exact iteT (bad (viewT_none fun m e => by rw [hz1] at e; cases e) _ (s3.trans s4))
        | some k =>
          have hk := evN_le hz1
          refine ⟨_, _, rfl, rfl, _, rfl, lf, _, rfl, SqL.of ef, fun p3 np3 => ?_⟩
          have ecut3 : cutV ((z :: r).map V.str) (some (1 : Int)) (some (1 + (k : Int))) = (r.take k).map V.str := by
            rw [show (1 : Int) + (k : Int) = ((1 + k : Nat) : Int) by omega, show (1 : Int) = ((1 : Nat) : Int) from rfl, cut_nat (by rw [List.length_map, List.length_cons]; omega), show 1 + k - 1 = k by omega, ← List.map_drop, ← List.map_take]
            rfl
          have s4 := same_upd (o := .lst (cutV ((z :: r).map V.str) (some (1 : Int)) (some (1 + (k : Int))))) np3
          have ep3 : upd H3 p3 (.lst (cutV ((z :: r).map V.str) (some (1 : Int)) (some (1 + (k : Int))))) p3 = some (.lst ((r.take k).map V.str)) := by rw [upd_same, ecut3]
          have goal : ∀ H4 : Hp, Same H3 H4 → H4 p3 = some (.lst ((r.take k).map V.str)) → True := fun _ _ _ => trivial
          have ef4 := s4 _ _ ef
          have ec4 := s4 _ _ ec3
          dsimp only [Option.map, Option.getD]
          generalize upd H3 p3 (.lst (cutV ((z :: r).map V.str) (some (1 : Int)) (some (1 + (k : Int))))) = H4 at *
          have g1 := cnt_get ec4 z
          rw [hz1] at g1
          have s34 := s3.trans s4
          have hnl : (r.take k).length = min k r.length := List.length_take
          refine ⟨_, rfl, lf, _, _, _, rfl, rfl, SqL.of ef4, atI_nat (j := 0) hz0, _, rfl, dc, _, rfl, g1, ?_⟩
          refine ⟨_, rfl, iteF ?_⟩
          refine ⟨_, rfl, p3, _, rfl, .inl (SqL.of ep3), _, rfl, _, rfl, lf, _, _, _, rfl, rfl, SqL.of ef4, atI_nat (j := 0) hz0, dc, _, rfl, g1, rfl, _, rfl, ?_⟩
          by_cases hkr : k ≤ r.length
          case neg =>
            rw [show (!decide (V.int (((r.take k).map V.str).length : Int) = V.int (k : Int))) = true from by
              rw [List.length_map, hnl, decide_eq_false (fun e => by have := V.int.inj e; omega)]
              rfl]
            exact iteT (iteT (bad (viewT_none fun m2 e h2 _ => by rw [hz1] at e; cases e; exact hkr h2) _ s34))
          rw [show (!decide (V.int (((r.take k).map V.str).length : Int) = V.int (k : Int))) = false from by
            rw [List.length_map, hnl, Nat.min_eq_left hkr, decide_eq_true rfl]
            rfl]
          refine iteF ⟨_, rfl, p3, rfl, ⟨_, SqL.of ep3⟩, fun D hD => ?_⟩
          have hrz : ∀ x ∈ r.take k, x.length ≤ 900 := fun x hx => hlz x (List.mem_cons_of_mem _ (List.mem_of_mem_take hx))
          refine lc_map (r.take k) V.str dgV (SqL.of ep3) (Nat.lt_of_le_of_lt (show (r.take k).length ≤ 100 by omega) (by decide)) hD (fun x hx H' s' Q' k' => ?_) fun H5 s5 eD => ?_
          · exact ⟨_, rfl, x, rfl, Nat.le_trans (hrz x hx) (by decide), k' H' (Same.refl _)⟩
          refine ⟨D, _, rfl, .inl (SqL.of eD), rfl, dg_flat _, ?_⟩
          rw [if_neg Bool.false_ne_true, dg_in]
          have s35 := s34.trans s5
          refine ⟨_, rfl, ?_⟩
          cases ha : (r.take k).all longB with
          | false => exact iteT (bad (viewT_none fun m2 e _ h3 => by rw [hz1] at e; cases e; rw [ha] at h3; cases h3) _ s35)
          | true =>
            refine iteF ?_
            have ef5 := s5 _ _ ef4
            refine ⟨_, rfl, _, rfl, p3, _, rfl, .inl (SqL.of (s5 _ _ ep3)), _, _, rfl, rfl, _, rfl, lf, _, rfl, SqL.of ef5, fun p4 np4 => ?_⟩
            have ecut4 : cutV ((z :: r).map V.str) (some ((1 : Int) + (((r.take k).map V.str).length : Int))) none = (r.drop k).map V.str := by
              rw [List.length_map, hnl, Nat.min_eq_left hkr, show (1 : Int) + (k : Int) = ((k + 1 : Nat) : Int) by omega, cut_of]
              rfl
            refine ⟨⟨p4, _, _, r.drop k, m, rfl, by rw [upd_same, ecut4], fun x hx => hlz x (List.mem_cons_of_mem _ (List.mem_of_mem_drop hx)), ?_, ?_, ?_⟩, s35.trans (same_upd np4)⟩
            · rw [List.length_drop]
              rw [List.length_cons] at hli
              omega
            · rw [List.length_drop]
              rw [List.length_cons] at hlm
              omega
            · rw [hv, viewT_step hz1 hkr ha]
              exact Option.map_eq_none_iff
      case _ =>
        have y : ¬ (lt.length : Int) > 0 := fun q => y (decide_eq_true (by rw [List.length_map]; exact q))
        exact ⟨⟨lf, _, v4, lt, m, rfl, ef, hlz, by omega, hlm, hv⟩, s3⟩
    · rintro σ H3 ⟨⟨lf, v3, v4, lt, m, rfl, ef, hlz, hli, hlm, hv⟩, s3⟩
      rw [ln] at hli
      have : lt = [] := List.length_eq_zero_iff.mp (by omega)
      subst this
      refine rest H3 l ws _ _ _ _ (s3 _ _ hl2) hz hn h1 fun H' s' => ?_
      have hq := q H' ((s12.trans s3).trans s')
      rw [lv2 (fun e => by
        have := hv.mp e
        cases m <;> cases this)] at hq
      rw [← eb]
      exact hq
end
end K0

set_option Elab.async false
set_option linter.all false
set_option maxRecDepth 100000
set_option maxHeartbeats 4000000
/-! _law_bad. -/
namespace K0
open PySem PySem.Spec PyProof.Rows L2 Kx Kh Kd TL Kj Ke Ks
/-- a line that the law may make -/
structure LnOk (x : Str) : Prop where
  ok : LineOk x
  low : ∀ z ∈ Txt.split x (" " : Str), ∀ c ∈ tl z, c < 200
def wsD (ws : List Str) : PyData := .list (ws.map PyData.str)
theorem str_ok {z : Str} (h : ∀ c ∈ tl z, c < 200) : PyData.strOk z = true := by
  unfold PyData.strOk
  rw [← Array.all_toList]
  refine List.all_eq_true.mpr fun c hc => decide_eq_true ?_
  have := h c hc
  omega
theorem wsD_lay : ∀ {ws : List Str}, (∀ z ∈ ws, ∀ c ∈ tl z, c < 200) → PyData.canLayAll0 (ws.map PyData.str) = true ∧ PyData.depthAll (ws.map PyData.str) = 0
  | [], _ => ⟨rfl, rfl⟩
  | z :: r, h => by
    obtain ⟨h1, h2⟩ := wsD_lay (ws := r) fun x hx => h x (List.mem_cons_of_mem _ hx)
    refine ⟨?_, ?_⟩
    · show (PyData.strOk z && PyData.canLayAll0 (r.map PyData.str)) = true
      rw [str_ok (h z (List.mem_cons_self ..)), h1]
      rfl
    · show max 0 (PyData.depthAll (r.map PyData.str)) = 0
      rw [h2]
      rfl
theorem wsD_shaped {ws : List Str} (h : ∀ z ∈ ws, ∀ c ∈ tl z, c < 200) : SeqAt.shaped (wsD ws) = true := by
  obtain ⟨h1, h2⟩ := wsD_lay h
  show (PyData.canLayAll0 _ && decide (PyData.depthAll _ + 1 ≤ 64)) = true
  rw [h1, h2]
  rfl
theorem seenD_lay : ∀ {sn : List (List Str)}, (∀ ws ∈ sn, ∀ z ∈ ws, ∀ c ∈ tl z, c < 200) → PyData.canLayAll0 (sn.map wsD) = true ∧ PyData.depthAll (sn.map wsD) ≤ 1
  | [], _ => ⟨rfl, Nat.zero_le _⟩
  | ws :: r, h => by
    obtain ⟨h1, h2⟩ := seenD_lay (sn := r) fun x hx => h x (List.mem_cons_of_mem _ hx)
    obtain ⟨g1, g2⟩ := wsD_lay (h ws (List.mem_cons_self ..))
    refine ⟨?_, Nat.max_le.mpr ⟨?_, h2⟩⟩
    · show (PyData.canLayAll0 (ws.map PyData.str) && PyData.canLayAll0 (r.map wsD)) = true
      rw [g1, h1]
      rfl
    · show PyData.depthAll (ws.map PyData.str) + 1 ≤ 1
      rw [g2]
      exact Nat.le_refl _
theorem seenD_shaped {sn : List (List Str)} (h : ∀ ws ∈ sn, ∀ z ∈ ws, ∀ c ∈ tl z, c < 200) : SeqAt.shaped (.list (sn.map wsD)) = true := by
  obtain ⟨h1, h2⟩ := seenD_lay h
  show (PyData.canLayAll0 _ && decide (PyData.depthAll _ + 1 ≤ 64)) = true
  rw [h1, decide_eq_true (by omega)]
  rfl
theorem wsD_all : ∀ xs ys : List Str, PyData.eqvAll (xs.map PyData.str) (ys.map PyData.str) = decide (xs = ys)
  | [], [] => rfl
  | [], _ :: _ => by
    rw [decide_eq_false (by simp)]
    rfl
  | _ :: _, [] => by
    rw [decide_eq_false (by simp)]
    rfl
  | x :: xs, y :: ys => by
    show ((x == y) && PyData.eqvAll (xs.map PyData.str) (ys.map PyData.str)) = _
    rw [wsD_all xs ys]
    refine Bool.eq_iff_iff.mpr ⟨fun h => ?_, fun h => ?_⟩
    · obtain ⟨h1, h2⟩ := Bool.and_eq_true_iff.mp h
      exact decide_eq_true (by rw [eq_of_beq h1, of_decide_eq_true h2])
    · obtain ⟨h1, h2⟩ := List.cons.inj (of_decide_eq_true h)
      rw [h1, h2, beq_self_eq_true, decide_eq_true rfl]
      rfl
theorem seen_any (ws : List Str) : ∀ sn : List (List Str), ((sn.map wsD).any fun z => PyData.eqv z (wsD ws)) = decide (ws ∈ sn)
  | [] => rfl
  | x :: r => by
    rw [List.map_cons, List.any_cons, seen_any ws r]
    have : PyData.eqv (wsD x) (wsD ws) = decide (x = ws) := wsD_all x ws
    rw [this]
    refine Bool.eq_iff_iff.mpr ⟨fun h => ?_, fun h => ?_⟩
    · rcases Bool.or_eq_true_iff.mp h with h | h
      · exact decide_eq_true (by rw [of_decide_eq_true h]; exact List.mem_cons_self ..)
      · exact decide_eq_true (List.mem_cons_of_mem _ (of_decide_eq_true h))
    · rcases List.mem_cons.mp (of_decide_eq_true h) with h | h
      · rw [decide_eq_true h.symm]
        rfl
      · rw [decide_eq_true h, Bool.or_true]
theorem strsDp {K : PySem.W.Frag} {H : Hp} : ∀ ws : List Str, DpAll K H (ws.map V.str) (ws.map PyData.str)
  | [] => .nil
  | w :: ws => .cons (.str w) (strsDp ws)
/-- lists of words at addresses -/
inductive SeenAt (H : Hp) (vl : Addr) : List Addr → List (List Str) → Prop
  | nil : SeenAt H vl [] []
  | cons {a : Addr} {as : List Addr} {ws : List Str} {sn : List (List Str)} (h : H a = some (.lst (ws.map V.str))) (hn : a ≠ vl) (r : SeenAt H vl as sn) : SeenAt H vl (a :: as) (ws :: sn)
theorem SeenAt.mv {H H' : Hp} {vl : Addr} (k : ∀ b o, H b = some o → b ≠ vl → H' b = some o) : ∀ {as : List Addr} {sn : List (List Str)}, SeenAt H vl as sn → SeenAt H' vl as sn
  | _, _, .nil => .nil
  | _, _, .cons h hn r => .cons (k _ _ h hn) hn (r.mv k)
theorem SeenAt.snoc {H : Hp} {vl a : Addr} {ws : List Str} (h : H a = some (.lst (ws.map V.str))) (hn : a ≠ vl) : ∀ {as : List Addr} {sn : List (List Str)}, SeenAt H vl as sn → SeenAt H vl (as ++ [a]) (sn ++ [ws])
  | _, _, .nil => .cons h hn .nil
  | _, _, .cons h1 h2 r => .cons h1 h2 (r.snoc h hn)
theorem SeenAt.dp {K : PySem.W.Frag} {H : Hp} {vl : Addr} : ∀ {as : List Addr} {sn : List (List Str)}, SeenAt H vl as sn → DpAll K H (as.map V.ref) (sn.map wsD)
  | _, _, .nil => .nil
  | _, _, .cons h hn r => .cons (.lst (SqL.of h) (strsDp _)) r.dp
theorem SeenAt.len {H : Hp} {vl : Addr} : ∀ {as : List Addr} {sn : List (List Str)}, SeenAt H vl as sn → as.length = sn.length
  | _, _, .nil => rfl
  | _, _, .cons h hn r => congrArg (· + 1) r.len
def badV (o : Option Nat) : V := match o with
  | none => .non
  | some n => .int (n : Int)
theorem lawB_bad {n : Nat} {sn : List (List Str)} {x : Str} {r : List Str} (h : (lineT (Txt.split x (" " : Str))).isSome = false) : lawB n sn (x :: r) = some n := by
  unfold lawB
  rw [h]
  rfl
theorem lawB_in {n : Nat} {sn : List (List Str)} {x : Str} {r : List Str} (h : (lineT (Txt.split x (" " : Str))).isSome = true) (hm : preW (Txt.split x (" " : Str)) ∈ sn) : lawB n sn (x :: r) = some n := by
  unfold lawB
  rw [if_pos h, if_pos hm]
theorem lawB_step {n : Nat} {sn : List (List Str)} {x : Str} {r : List Str} (h : (lineT (Txt.split x (" " : Str))).isSome = true) (hm : ¬ preW (Txt.split x (" " : Str)) ∈ sn) : lawB n sn (x :: r) = lawB (n + 1) (sn ++ [preW (Txt.split x (" " : Str))]) r := by
  rw [lawB.eq_def]
  dsimp only
  rw [if_pos h, if_neg hm]
def spBd : Sp := fun vs H Q _ => ∃ (l : Addr) (xs : List Str), vs = [.ref l] ∧ H l = some (.lst (xs.map V.str)) ∧ (∀ x ∈ xs, LnOk x) ∧ xs.length ≤ 60 ∧ ∀ H', Same H H' → Q (badV (lawB 0 [] xs)) H'
section
variable {P : Program} {w : World} {K : PySem.W.Frag} {mg : Str → Option Value} {base : Heap} {fG : Addr} {dG : FuncData}
theorem scBd : FnScope ["lines", "views", "at", "words"] ["lines"] (defScope sBd) := ⟨rfl, rfl, rfl, by decide +kernel, rfl, by decide +kernel, by decide +kernel⟩
theorem ok_bd {f : Addr} {fd : FuncData} (F : Fun K "_law_bad" "_law_bad" sBd f fd) (T : TxL mg) (G1 : Fn0 P w K mg base 3 "_law_good" ["words"] spGd fG dG) : FnOk P w K mg base CX0 4 f fd ["lines"] spBd := by
  refine F.ok scBd (fun vs H Q E h => ?_) (fun cdv A outer s H vs Q E hr h => ?_)
  · obtain ⟨l, xs, rfl, _⟩ := h
    rfl
  · obtain ⟨l, xs, rfl, hl, hx, hn, q⟩ := h
    have hu65 : (A.deeper (envOfC "_law_bad" (defScope sBd) s.heap.objs.size f cdv)).units + 65 < cLine := by have := hr.un; omega
    refine ⟨_, pss_cons (ps_set (i := 1) scBd.nd rfl (Or.inl rfl) (pe_lst pa_nil))
      (pss_cons (ps_for PassesOwn.never rfl (pi_range1 rfl T.range (pa_cons (pe_callB call_len_seq (by rfl) T.len PySem.boot_len (pa_cons (pv 0) pa_nil)) pa_nil)) (pg_name (i := 2) scBd.nd rfl (Or.inl rfl))
        (pss_cons (ps_set (i := 3) scBd.nd rfl (Or.inl rfl) (pe_split (pe_ix ix_list (pv 0) (pv 2) (fun _ _ => rfl)) pe_str))
        (pss_cons (ps_if (PW.pt (pw_or (pt_not (pt_val (pe_call G1.ok hr (by rfl) G1.gl G1.kp G1.bd .nil pass0 (pa_cons (pv 3) pa_nil)))) (pw_or1 (pt_cmpR (op_inD hu65) (pe_slice sl_list (pv 3) po_none (po_some (pe_bm PySem.F.plainAttrs_list PySem.F.slot_list_index PySem.F.type_list_index mt_index (pv 3) (pa_cons pe_str pa_nil)))) (pv 1) rfl)))) (pss_one (ps_ret (pv 2))) pss_nil)
        (pss_one (ps_expr (pe_bm PySem.F.plainAttrs_list PySem.F.slot_list_append PySem.F.type_list_append mt_append (pv 1) (pa_cons (pe_slice sl_list (pv 3) po_none (po_some (pe_bm PySem.F.plainAttrs_list PySem.F.slot_list_index PySem.F.type_list_index mt_index (pv 3) (pa_cons pe_str pa_nil)))) pa_nil)))))))
      (pss_one (ps_ret pe_non))), ?_⟩
    refine ⟨by show 0 ≤ sizeLine; decide, fun vl hvl => ?_⟩
    have s1 := same_upd (o := .lst []) hvl
    have ln : ((xs.map V.str).length : Int).toNat = xs.length := by rw [List.length_map]; omega
    refine ⟨_, rfl, l, _, rfl, .inl (SqL.of (s1 _ _ hl)), ((xs.map V.str).length : Int), rfl, by rw [List.length_map]; omega, by rw [List.length_map]; omega, ?_⟩
    refine for_range (lo := 0) (n := ((xs.map V.str).length : Int).toNat) (fun i σ H' => (∃ (v2 v3 : Option V) (as : List Addr) (sn : List (List Str)), σ = [some (.ref l), some (.ref vl), v2, v3] ∧ H' vl = some (.lst (as.map V.ref)) ∧ SeenAt H' vl as sn ∧ as.length ≤ i ∧ (∀ ws ∈ sn, ∀ z ∈ ws, ∀ c ∈ tl z, c < 200) ∧ lawB 0 [] xs = lawB i sn (xs.drop i)) ∧ Same H H')
      ⟨⟨none, none, [], [], rfl, upd_same, .nil, Nat.le_refl _, (fun ws h => nomatch h), rfl⟩, s1⟩ ?_ ?_
    · rintro i σ H1 hi ⟨⟨v2, v3, as, sn, rfl, ev, hsn, hal, hlow, hb⟩, s1⟩
      rw [ln] at hi
      have hx0 : xs[i]? = some xs[i] := List.getElem?_eq_getElem hi
      have hdrop : xs.drop i = xs[i] :: xs.drop (i + 1) := List.drop_eq_getElem_cons hi
      have ok := hx _ (List.getElem_mem hi)
      generalize xs[i] = x at *
      rw [hdrop] at hb
      have hl1 := s1 _ _ hl
      have eat : atI (xs.map V.str) ((0 : Int) + (i : Int)) = some (.str x) := by
        rw [Int.zero_add]
        exact atI_nat (by rw [List.getElem?_map, hx0]; rfl)
      refine ⟨_, rfl, _, rfl, l, _, _, _, rfl, rfl, SqL.of hl1, eat, ⟨_, rfl⟩, x, _, rfl, rfl, by decide +kernel, ok.ok.short, fun p hp => ?_⟩
      have s2 := same_upd (o := .lst ((Txt.split x (" " : Str)).map V.str)) hp
      have ep : upd H1 p (.lst ((Txt.split x (" " : Str)).map V.str)) p = some (.lst ((Txt.split x (" " : Str)).map V.str)) := upd_same
      have ev2 := s2 _ _ ev
      have hsn2 := hsn.mv fun b o z _ => s2 _ _ z
      generalize upd H1 p (.lst ((Txt.split x (" " : Str)).map V.str)) = H2 at *
      have s12 := s1.trans s2
      have nvp : p ≠ vl := fun e => by rw [e, ev] at hp; cases hp
      have b1 : (lineT (Txt.split x (" " : Str))).isSome = false → lawB 0 [] xs = some i := fun e => by rw [hb, lawB_bad e]
      have b2 : (lineT (Txt.split x (" " : Str))).isSome = true → preW (Txt.split x (" " : Str)) ∈ sn → lawB 0 [] xs = some i := fun e h => by rw [hb, lawB_in e h]
      have b3 : (lineT (Txt.split x (" " : Str))).isSome = true → ¬ preW (Txt.split x (" " : Str)) ∈ sn → lawB 0 [] xs = lawB (i + 1) (sn ++ [preW (Txt.split x (" " : Str))]) (xs.drop (i + 1)) := fun e h => by rw [hb, lawB_step e h]
      have hpart := ok.ok.part
      have hfew := ok.ok.few
      have hlo := ok.low
      have hne := Kl.one_sp.ne x
      generalize Txt.split x (" " : Str) = ws at *
      refine ⟨_, rfl, p, ws, rfl, ep, hpart, hfew, hne, fun H3 s3 => ?_⟩
      have ret : lawB 0 [] xs = some i → ∀ H', Same H H' → Q (.int ((0 : Int) + (i : Int))) H' := fun e H' s' => by
        have := q H' s'
        rw [e] at this
        rw [Int.zero_add]
        exact this
      cases hg : (lineT ws).isSome with
      | false => exact ⟨_, rfl, iteT ⟨_, rfl, ret (b1 hg) _ (s12.trans s3)⟩⟩
      | true =>
        obtain ⟨e, he⟩ := Option.isSome_iff_exists.mp hg
        obtain ⟨_, hdo, _⟩ := lineT_get (evs := e.1) (qs := e.2) he
        obtain ⟨d1, d2⟩ := do_at hdo
        have ep3 := s3 _ _ ep
        have idx : eqV (.str "do") (.str "do") = true := by rw [eqV_str]; exact beq_self_eq_true _
        refine ⟨_, rfl, iteF ⟨_, rfl, _, rfl, .inl ⟨rfl, _, SqL.of ep3⟩, p, ws.map V.str, .str "do", ws.idxOf ("do" : Str), .str "do", rfl, rfl, SqL.of ep3, rfl, flat_strs _, d1, idx, d2, _, rfl, p, _, rfl, SqL.of ep3, fun p2 np2 => ?_⟩⟩
        rw [cut_to]
        have s4 := same_upd (o := .lst ((ws.take (ws.idxOf ("do" : Str))).map V.str)) np2
        have ep4 : upd H3 p2 (.lst ((ws.take (ws.idxOf ("do" : Str))).map V.str)) p2 = some (.lst ((preW ws).map V.str)) := upd_same
        generalize upd H3 p2 (.lst ((ws.take (ws.idxOf ("do" : Str))).map V.str)) = H4 at *
        have s34 := s3.trans s4
        have ev4 := s34 _ _ ev2
        have hsn4 := hsn2.mv fun b o z _ => s34 _ _ z
        have hlp : ∀ z ∈ preW ws, ∀ c ∈ tl z, c < 200 := fun z hz => hlo z (List.mem_of_mem_take hz)
        refine ⟨_, rfl, wsD (preW ws), sn.map wsD, .lst (SqL.of ep4) (strsDp _), .lst (SqL.of ev4) hsn4.dp, wsD_shaped hlp, seenD_shaped hlow, ?_⟩
        rw [seen_any]
        refine ⟨_, rfl, ite2 (fun y => ?_) (fun y => ?_)⟩
        · exact ⟨_, rfl, ret (b2 hg (of_decide_eq_true y)) _ (s12.trans s34)⟩
        · have y : ¬ preW ws ∈ sn := fun q => y (decide_eq_true q)
          have ep5 := s4 _ _ ep3
          refine ⟨_, rfl, .inl ⟨rfl, _, SqL.of ev4⟩, _, rfl, _, rfl, .inl ⟨rfl, _, SqL.of ep5⟩, p, ws.map V.str, .str "do", ws.idxOf ("do" : Str), .str "do", rfl, rfl, SqL.of ep5, rfl, flat_strs _, d1, idx, d2, _, rfl, p, _, rfl, SqL.of ep5, fun p3 np3 => ?_⟩
          rw [cut_to]
          have s5 := same_upd (o := .lst ((ws.take (ws.idxOf ("do" : Str))).map V.str)) np3
          have ep6 : upd H4 p3 (.lst ((ws.take (ws.idxOf ("do" : Str))).map V.str)) p3 = some (.lst ((preW ws).map V.str)) := upd_same
          generalize upd H4 p3 (.lst ((ws.take (ws.idxOf ("do" : Str))).map V.str)) = H5 at *
          have ev5 := s5 _ _ ev4
          have hsn5 := hsn4.mv fun b o z _ => s5 _ _ z
          have n3 : p3 ≠ vl := fun e => by rw [e, ev4] at np3; cases np3
          have s05 := (s12.trans s34).trans s5
          refine ⟨vl, _, _, rfl, rfl, ev5, by rw [List.length_map]; exact Nat.lt_of_le_of_lt (show as.length ≤ 100 by omega) (by decide), ⟨_, _, as ++ [p3], sn ++ [preW ws], rfl, by rw [upd_same, List.map_append]; rfl, ?_, by rw [List.length_append, List.length_singleton]; omega, fun us hus => ?_, b3 hg y⟩, fun b o z => ?_⟩
          · exact SeenAt.snoc (by rw [upd_ne n3]; exact ep6) n3 (hsn5.mv fun b o z hb => by rw [upd_ne hb]; exact z)
          · rcases List.mem_append.mp hus with hus | hus
            · exact hlow us hus
            · rw [List.mem_singleton.mp hus]
              exact hlp
          · rw [upd_ne (ne_of_none z hvl)]
            exact s05 _ _ z
    · rintro σ H1 ⟨⟨v2, v3, as, sn, rfl, ev, hsn, hal, hlow, hb⟩, s1⟩
      have := q H1 s1
      rw [ln, List.drop_length] at hb
      rw [hb] at this
      exact this
end
end K0

set_option Elab.async false
set_option linter.all false
set_option maxRecDepth 100000
set_option maxHeartbeats 4000000
/-! _law_near. -/
namespace K0
open PySem PySem.Spec PyProof.Rows L2 Kx Kh Kd TL Kj Ke Ks
/-- a text times a number -/
theorem op_mulS {X : Cx} : OpR X (binaryOp .Mult) (fun x y H Q => ∃ (a : Str) (n : Int), x = .str a ∧ y = .int n ∧ a.length ≤ 16 ∧ 0 ≤ n ∧ n ≤ 1048576 ∧ Q (.str (Txt.mul a n)) H) := by
  intro pins s σ H x y v u Q I rx ry h
  obtain ⟨a, n, rfl, rfl, h16, h0, hn, q⟩ := h
  obtain ⟨t, rfl⟩ := rx
  obtain ⟨t', rfl⟩ := ry
  exact SB.mul (mulOk_of 16 1048576 h16 (by omega) (by omega) (by decide) (by decide)) fun t' k => ⟨.str _, H, I.tok _, ⟨_, rfl⟩, q⟩
/-- a word of at most so many signs, no blank -/
structure WOk (L : Nat) (z : Str) : Prop where
  nosp : 32 ∉ tl z
  short : z.length ≤ L
  low : ∀ c ∈ tl z, c < 200
theorem WOk.mono {L M : Nat} {z : Str} (h : WOk L z) (hl : L ≤ M) : WOk M z := ⟨h.nosp, Nat.le_trans h.short hl, h.low⟩
theorem WOk.app {L M : Nat} {x y : Str} (h : WOk L x) (h' : WOk M y) : WOk (L + M) (x ++ y) := by
  refine ⟨fun e => ?_, ?_, fun c hc => ?_⟩
  · rw [tl_append] at e
    rcases List.mem_append.mp e with e | e
    · exact h.nosp e
    · exact h'.nosp e
  · rw [Str.length_append]
    exact Nat.add_le_add h.short h'.short
  · rw [tl_append] at hc
    rcases List.mem_append.mp hc with e | e
    · exact h.low c e
    · exact h'.low c e
theorem wok_lit {L : Nat} {z : Str} (h : (((tl z).all fun c => decide (c ≠ 32) && decide (c < 200)) && decide (z.length ≤ L)) = true) : WOk L z := by
  obtain ⟨h4, h2⟩ := Bool.and_eq_true_iff.mp h
  have h5 : ∀ c ∈ tl z, c ≠ 32 ∧ c < 200 := fun c hc => by
    obtain ⟨a, b⟩ := Bool.and_eq_true_iff.mp (List.all_eq_true.mp h4 c hc)
    exact ⟨of_decide_eq_true a, of_decide_eq_true b⟩
  exact ⟨fun hc => (h5 32 hc).1 rfl, of_decide_eq_true h2, fun c hc => (h5 c hc).2⟩
theorem wok_lits {L : Nat} {zs : List Str} (h : (zs.all fun z => ((tl z).all fun c => decide (c ≠ 32) && decide (c < 200)) && decide (z.length ≤ L)) = true) : ∀ z ∈ zs, WOk L z := fun z hz => wok_lit (List.all_eq_true.mp h z hz)
theorem wok_nt {m : Nat} (h : m < 10 ^ 60) : WOk 60 (nt (m : Int)) := ⟨(word_nt h).nosp, (len_nt h).2, (word_nt h).low⟩
theorem wok_nti {n : Int} (h0 : 0 ≤ n) (h : n < 10 ^ 60) : WOk 60 (nt n) := by
  obtain ⟨m, rfl⟩ := nat_of h0
  exact wok_nt (by omega)
theorem cut_in {z : Str} {lo hi : Option Int} {c : Nat} (h : c ∈ tl (cutS z lo hi)) : c ∈ tl z := by
  have h : c ∈ ((z.cps.toList.drop (HT.sIx z.length 0 lo)).take (HT.sIx z.length z.length hi - HT.sIx z.length 0 lo)).toArray.toList := h
  rw [List.toList_toArray] at h
  exact List.mem_of_mem_drop (List.mem_of_mem_take h)
theorem WOk.cut {L : Nat} {z : Str} (h : WOk L z) (lo hi : Option Int) : WOk L (cutS z lo hi) := ⟨fun e => h.nosp (cut_in e), Nat.le_trans (cutS_length z lo hi) h.short, fun c hc => h.low c (cut_in hc)⟩
theorem cutS_to (z : Str) {v : Int} (h0 : 0 ≤ v) : (cutS z none (some v)).length = min v.toNat z.length := by
  show (((z.cps.toList.drop (HT.sIx z.length 0 none)).take (HT.sIx z.length z.length (some v) - HT.sIx z.length 0 none)).toArray).size = _
  rw [HT.sIx_none, show HT.sIx z.length z.length (some v) = min v.toNat z.length from by rw [show v = ((v.toNat : Nat) : Int) by omega]; exact HT.sIx_nat _ _ _]
  rw [List.size_toArray, List.length_take, List.length_drop, ← len_list]
  omega
theorem cutS_from (z : Str) {v : Int} (h0 : 0 ≤ v) : (cutS z (some v) none).length = z.length - v.toNat := by
  show (((z.cps.toList.drop (HT.sIx z.length 0 (some v))).take (HT.sIx z.length z.length none - HT.sIx z.length 0 (some v))).toArray).size = _
  rw [HT.sIx_none, show HT.sIx z.length 0 (some v) = min v.toNat z.length from by rw [show v = ((v.toNat : Nat) : Int) by omega]; exact HT.sIx_nat _ _ _]
  rw [List.size_toArray, List.length_take, List.length_drop, ← len_list]
  omega
theorem at_sign {z : Str} {v : Int} (h0 : 0 ≤ v) (h1 : v < (z.length : Int)) : ∃ c, c ∈ z.cps.toList ∧ atI z.cps.toList v = some c := by
  have hl : z.cps.toList.length = z.length := (len_tl z).symm
  have hi : v.toNat < z.cps.toList.length := by omega
  refine ⟨z.cps.toList[v.toNat], List.getElem_mem hi, ?_⟩
  have := atI_nat (xs := z.cps.toList) (j := v.toNat) (List.getElem?_eq_getElem hi)
  rw [show ((v.toNat : Nat) : Int) = v by omega] at this
  exact this
theorem sign_len (c : Nat) : (⟨#[c]⟩ : Str).length = 1 := rfl
theorem sign_tl (c : Nat) : tl (⟨#[c]⟩ : Str) = [c] := rfl
def SG : Str := "/-+.0123456789abcdefghijklmnopqrstuvwxyzR_"
theorem sg_ok : (∀ c ∈ SG.cps.toList, c ≠ 32 ∧ c < 200) ∧ SG.length = 42 := by decide +kernel
theorem wok_sign {c : Nat} (h : c ∈ SG.cps.toList) : WOk 1 ⟨#[c]⟩ := by
  obtain ⟨h1, h2⟩ := sg_ok.1 c h
  refine ⟨fun e => ?_, Nat.le_refl _, fun d hd => ?_⟩
  · rw [sign_tl] at e
    exact h1 (List.mem_singleton.mp e).symm
  · rw [sign_tl] at hd
    rw [List.mem_singleton.mp hd]
    exact h2
/-- signs put together -/
theorem signs_ok {cs : List Nat} (h : ∀ c ∈ cs, c ∈ SG.cps.toList) (hl : cs.length ≤ 10) : WOk 10 (Txt.join ("" : Str) (cs.map fun c => (⟨#[c]⟩ : Str))) ∧ ((cs.map fun c => (⟨#[c]⟩ : Str)).map (·.length)).sum + (cs.map fun c => (⟨#[c]⟩ : Str)).length * ("" : Str).length ≤ 16777216 := by
  have e1 : tl ("" : Str) = [] := by decide +kernel
  have e2 : (cs.map fun c => (⟨#[c]⟩ : Str)).map tl = cs.map fun c => [c] := by rw [List.map_map]; rfl
  have es : ∀ xs : List Nat, ((xs.map fun c => (⟨#[c]⟩ : Str)).map (·.length)).sum = xs.length := fun xs => by
    induction xs with
    | nil => rfl
    | cons x r ih =>
      rw [List.map_cons, List.map_cons, List.sum_cons, ih, sign_len]
      show 1 + r.length = r.length + 1
      omega
  have l0 : ("" : Str).length = 0 := by decide +kernel
  have hin : ∀ c, c ∈ tl (Txt.join ("" : Str) (cs.map fun c => (⟨#[c]⟩ : Str))) → c ∈ SG.cps.toList := fun c z => by
    rw [TL.join_eq, TL.tl_join, e1, e2] at z
    rcases mem_joinL z with z | ⟨q, hq, hc⟩
    · cases z
    · obtain ⟨d, hcs, rfl⟩ := List.mem_map.mp hq
      rw [List.mem_singleton.mp hc]
      exact h d hcs
  refine ⟨⟨fun z => (sg_ok.1 32 (hin 32 z)).1 rfl, ?_, fun c hc => (sg_ok.1 c (hin c hc)).2⟩, ?_⟩
  · rw [TL.join_eq, TL.len_tl, TL.tl_join, e1, e2]
    have := len_joinL (S := []) (ps := cs.map fun c => [c]) (m := 1) fun p hp => by
      obtain ⟨d, _, rfl⟩ := List.mem_map.mp hp
      exact Nat.le_refl _
    rw [List.length_map] at this
    have h0 : ([] : List Nat).length = 0 := rfl
    rw [h0, Nat.add_zero, Nat.one_mul] at this
    omega
  · rw [es, l0, Nat.mul_zero]
    omega
def spNear : Sp := fun vs H Q _ => ∃ (p : Addr) (z : Str) (b : Int) (L : Nat), vs = [.ref p, .str z] ∧ PoolAt H p b ∧ WOk L z ∧ 100 ≤ L ∧ L ≤ 800 ∧ ∀ (y : Str) (H' : Hp), WOk (L + 1) y → PoolAt H' p b → Kp p H H' → Q (.str y) H'
section
variable {P : Program} {w : World} {K : PySem.W.Frag} {mg : Str → Option Value} {base : Heap} {fD : Addr} {dD : FuncData}
theorem scNe : FnScope ["pool", "word", "signs", "at", "k"] ["pool", "word"] (defScope sNe) := ⟨rfl, rfl, rfl, by decide +kernel, rfl, by decide +kernel, by decide +kernel⟩
theorem ok_near {f : Addr} {fd : FuncData} (F : Fun K "_law_near" "_law_near" sNe f fd) (T : TxL mg) (D1 : Fn0 P w K mg base 1 "_law_draw" ["pool", "size"] spDraw fD dD) : FnOk P w K mg base CX0 2 f fd ["pool", "word"] spNear := by
  refine F.ok scNe (fun vs H Q E h => ?_) (fun cdv A outer s H vs Q E hr h => ?_)
  · obtain ⟨p, z, b, L, rfl, _⟩ := h
    rfl
  · obtain ⟨p, z, b, L, rfl, P0, hw, h100, h800, q⟩ := h
    have sz9 : ∀ n : Nat, n ≤ 1000 → n ≤ sizeLine := fun n h => Nat.le_trans h (by decide)
    have hz := hw.short
    have sgl := sg_ok
    refine ⟨_, pss_cons (ps_set (i := 2) scNe.nd rfl (Or.inr rfl) pe_str)
      (pss_cons (ps_if (pt_cmpR op_eq (pe_call D1.ok hr (by rfl) D1.gl D1.kp D1.bd .nil pass0 (pa_cons (pv 0) (pa_cons pe_int pa_nil))) pe_int (nomark _)) (pss_one (ps_ret (pe_join pe_str (pe_lc (own := [("k", 4)]) (g := gName 4) (tt := tYes) rfl scNe.nd (pi_range1 rfl T.range (pa_cons (pe_op op_add pe_int (pe_call D1.ok hr (by rfl) D1.gl D1.kp D1.bd .nil pass0 (pa_cons (pv 0) (pa_cons pe_int pa_nil)))) pa_nil)) (blkOk_by (N := ["pool", "word", "signs", "at", "k"]) (sc := defScope sNe) (by decide +kernel)) (fun _ _ _ _ _ => pg_name (i := 4) scNe.nd rfl (Or.inl rfl)) (fun _ _ _ _ _ => pts_nil)
          (fun _ _ _ _ _ => pe_ix ix_str (pv 2) (pe_op op_add pe_int (pe_call D1.ok hr (by rfl) D1.gl D1.kp D1.bd .nil pass0 (pa_cons (pv 0) (pa_cons pe_int pa_nil)))) (fun _ _ => rfl)))))) pss_nil)
      (pss_cons (ps_set (i := 3) scNe.nd rfl (Or.inl rfl) (pe_call D1.ok hr (by rfl) D1.gl D1.kp D1.bd .nil pass0 (pa_cons (pv 0) (pa_cons (pe_op op_add (pe_callB call_len_str (by rfl) T.len PySem.boot_len (pa_cons (pv 1) pa_nil)) pe_int) pa_nil))))
      (pss_one (ps_ret (pe_op op_add_str (pe_op op_add_str (pe_slice sl_str (pv 1) po_none (po_some (pv 3))) (pe_ix ix_str (pv 2) (pe_call D1.ok hr (by rfl) D1.gl D1.kp D1.bd .nil pass0 (pa_cons (pv 0) (pa_cons (pe_callB call_len_str (by rfl) T.len PySem.boot_len (pa_cons (pv 2) pa_nil)) pa_nil))) (fun _ _ => rfl)))
        (pe_slice sl_str (pv 1) (po_some (pe_op op_add (pv 3) (pe_call D1.ok hr (by rfl) D1.gl D1.kp D1.bd .nil pass0 (pa_cons (pv 0) (pa_cons pe_int pa_nil))))) po_none)))))), ?_⟩
    refine ⟨_, rfl, p, 3, b, rfl, P0, by decide, by decide, fun j H1 j0 j1 P1 k1 => ⟨rfl, _, rfl, ite2 (fun _ => ?_) (fun _ => ?_)⟩⟩
    · refine ⟨⟨_, rfl⟩, _, rfl, p, 7, b, rfl, P1, by decide, by decide, fun j3 H9 j30 j31 P3 k3 => ⟨_, _, rfl, rfl, 1 + j3, rfl, by omega, by omega, fun D hD => ?_⟩⟩
      have hDp : D ≠ p := P3.ne0 hD
      have sD := same_upd (o := .lst []) hD
      refine lc_range (lo := 0) (n := (1 + j3).toNat) (fun i H' => ∃ cs : List Nat, cs.length = i ∧ (∀ c ∈ cs, c ∈ SG.cps.toList) ∧ H' D = some (.lst ((cs.map fun c => (⟨#[c]⟩ : Str)).map V.str)) ∧ PoolAt H' p b ∧ Kp p H9 H') ?_ ?_ ?_
      · exact ⟨[], rfl, fun c hc => (nomatch hc), upd_same, P3.same sD, Kp.same sD⟩
      · rintro i H10 hi ⟨cs, hcl, hc, eD, P10, k10⟩
        refine ⟨rfl, tYesI ?_⟩
        refine ⟨_, rfl, _, rfl, p, 26, b, rfl, P10, by decide, by decide, fun u H11 u0 u1 P11 k11 => ?_⟩
        obtain ⟨c, hcm, ec⟩ := at_sign (z := SG) (v := 14 + u) (by omega) (by rw [sgl.2]; omega)
        have eD11 := k11 _ _ eD hDp
        refine ⟨_, _, rfl, rfl, SG, 14 + u, c, rfl, rfl, sz9 _ (by rw [sgl.2]; decide), ec, (cs.map fun c => (⟨#[c]⟩ : Str)).map V.str, eD11, ?_, cs ++ [c], ?_, ?_, ?_, PoolAt.own P3 hD (k10.trans k11) P11, Kp.own P3 hD (k10.trans k11)⟩
        · rw [List.length_map, List.length_map, hcl]
          exact Nat.lt_of_le_of_lt (show i ≤ 10 by omega) (by decide)
        · rw [List.length_append, List.length_singleton, hcl]
        · intro d hd
          rcases List.mem_append.mp hd with z | z
          · exact hc d z
          · rw [List.mem_singleton.mp z]
            exact hcm
        · rw [upd_same, List.map_append, List.map_append]
          rfl
      · rintro H10 ⟨cs, hcl, hc, eD, P10, k10⟩
        obtain ⟨hw2, hs⟩ := signs_ok hc (by omega)
        exact ⟨_, D, cs.map fun c => (⟨#[c]⟩ : Str), rfl, rfl, .inl (SqL.of eD), hs, q _ H10 (hw2.mono (by omega)) P10 ((k1.trans k3).trans k10)⟩
    · refine ⟨_, rfl, _, rfl, z, rfl, sz9 _ (by omega), _, _, rfl, rfl, p, _, b, rfl, P1, by omega, by omega, fun v H2 v0 v1 P2 k2 => ?_⟩
      refine ⟨_, rfl, _, rfl, _, rfl, z, rfl, sz9 _ (by omega), _, rfl, _, rfl, _, rfl, SG, rfl, sz9 _ (by rw [sgl.2]; decide), p, _, b, rfl, P2, by rw [sgl.2]; decide, by rw [sgl.2]; decide, fun u H3 u0 u1 P3 k3 => ?_⟩
      obtain ⟨c, hc, ec⟩ := at_sign (z := SG) u0 u1
      have w1 := (hw.cut none (some v)).app (wok_sign hc)
      refine ⟨SG, u, c, rfl, rfl, sz9 _ (by rw [sgl.2]; decide), ec, _, _, rfl, rfl, ?_, _, rfl, _, rfl, _, rfl, p, 2, b, rfl, P3, by decide, by decide, fun t H4 t0 t1 P4 k4 => ⟨_, _, rfl, rfl, _, rfl, z, rfl, sz9 _ (by omega), _, _, rfl, rfl, ?_, ?_⟩⟩
      · have := (hw.cut none (some v)).short
        exact sz9 _ (by rw [sign_len]; omega)
      · have h1 := w1.short
        have h2 := (hw.cut (some (v + t)) none).short
        exact Nat.le_trans (Nat.add_le_add h1 h2) (Nat.le_trans (show L + 1 + L ≤ 2000 by omega) (by decide))
      · refine q _ H4 ⟨(w1.app (hw.cut (some (v + t)) none)).nosp, ?_, (w1.app (hw.cut (some (v + t)) none)).low⟩ P4 (((k1.trans k2).trans k3).trans k4)
        have l1 := cutS_to z v0
        have l2 := cutS_from z (v := v + t) (by omega)
        rw [Str.length_append, Str.length_append, sign_len]
        have e : (cutS z none (some v)).length + 1 + (cutS z (some (v + t)) none).length ≤ L + 1 := by omega
        exact e
end
end K0

set_option Elab.async false
set_option linter.all false
set_option maxRecDepth 100000
set_option maxHeartbeats 4000000
/-! _law_word. -/
namespace K0
open PySem PySem.Spec PyProof.Rows L2 Kx Kh Kd TL Kj Ke Ks
def A1 : List Str := ["at", "do", "shown", "asked", "did", "0", "1", "2", "1/2", "", "x", "01", "00", "-1", "+1", "1_0", "1/02", "0/1"]
def A5 : List Str := ["Shown", "SHOWN", "Asked", "Did", "DID", "Do", "DO", "AT", "shut", "show", "showns", "ask", "askeds", "die", "dids"]
def A6 : List Str := ["a", "ats", "att", "d", "dos", "s"]
def A7 : List Str := ["-1/2", "+1/2", "1/-2", "0.5", "trusted", "found", "least", "plan", "drew", "drawn", "paid"]
def S9 (n : Int) : Str := Txt.mul "9" n
theorem a_ok : ∀ z ∈ A1 ++ A5 ++ A6 ++ A7, WOk 130 z := wok_lits (by decide +kernel)
theorem s9_ok : WOk 130 (S9 60) ∧ WOk 130 (S9 61) ∧ WOk 130 ("1/" ++ S9 61) ∧ (S9 61).length = 61 := ⟨wok_lit (by decide +kernel), wok_lit (by decide +kernel), wok_lit (by decide +kernel), by decide +kernel⟩
def A2 (f : Int) : List Str := ["3/1", "1/1", S9 60, S9 61, "1/" ++ S9 61, "/2", "1/", nt f ++ "/" ++ nt (2 * f), "At", "do\n"]
def A3 (n : Int) : List Str := ["1/" ++ nt n, nt (n - 1) ++ "/" ++ nt n, "1\n", "\t1", "1/2\n", "\n", "0\n", "1\t", "at\n", "\tat"]
theorem a2_ok {f : Int} (h0 : 0 ≤ f) (h1 : f < 100) : ∀ z ∈ A2 f, WOk 130 z := fun z hz => by
  have w1 : WOk 130 (nt f ++ "/" ++ nt (2 * f)) := (((wok_nti h0 (by omega)).app (wok_lit (L := 1) (z := "/") (by decide +kernel))).app (wok_nti (n := 2 * f) (by omega) (by omega))).mono (by decide)
  obtain ⟨s1, s2, s3, _⟩ := s9_ok
  unfold A2 at hz
  simp only [List.mem_cons, List.not_mem_nil, or_false] at hz
  rcases hz with rfl | rfl | rfl | rfl | rfl | rfl | rfl | rfl | rfl | rfl
  · exact wok_lit (by decide +kernel)
  · exact wok_lit (by decide +kernel)
  · exact s1
  · exact s2
  · exact s3
  · exact wok_lit (by decide +kernel)
  · exact wok_lit (by decide +kernel)
  · exact w1
  · exact wok_lit (by decide +kernel)
  · exact wok_lit (by decide +kernel)
theorem a3_ok {n : Int} (h0 : 1 ≤ n) (h1 : n < 10 ^ 60) : ∀ z ∈ A3 n, WOk 130 z := fun z hz => by
  have w1 : WOk 130 ("1/" ++ nt n) := ((wok_lit (L := 2) (z := "1/") (by decide +kernel)).app (wok_nti (n := n) (by omega) h1)).mono (by decide)
  have w2 : WOk 130 (nt (n - 1) ++ "/" ++ nt n) := (((wok_nti (n := n - 1) (by omega) (by omega)).app (wok_lit (L := 1) (z := "/") (by decide +kernel))).app (wok_nti (n := n) (by omega) h1)).mono (by decide)
  unfold A3 at hz
  simp only [List.mem_cons, List.not_mem_nil, or_false] at hz
  rcases hz with rfl | rfl | rfl | rfl | rfl | rfl | rfl | rfl | rfl | rfl
  · exact w1
  · exact w2
  all_goals exact wok_lit (by decide +kernel)
theorem map_app {xs ys : List Str} : xs.map V.str ++ ys.map V.str = (xs ++ ys).map V.str := (List.map_append ..).symm
def spWd : Sp := fun vs H Q _ => ∃ (p l : Addr) (b : Int) (ws : List Str) (L : Nat), vs = [.ref p, .ref l] ∧ PoolAt H p b ∧ H l = some (.lst (ws.map V.str)) ∧ l ≠ p ∧ ws.length ≤ 100 ∧ (∀ z ∈ ws, WOk L z) ∧ 130 ≤ L ∧ L ≤ 800 ∧ ∀ (y : Str) (H' : Hp), WOk (L + 1) y → PoolAt H' p b → Kp p H H' → Q (.str y) H'
section
variable {P : Program} {w : World} {K : PySem.W.Frag} {mg : Str → Option Value} {base : Heap} {fD fN : Addr} {dD dN : FuncData}
abbrev NWd : List Str := ["pool", "words", "factor", "menu", "whole"]
theorem scWd : FnScope NWd ["pool", "words"] (defScope sWd) := ⟨rfl, rfl, rfl, by decide +kernel, rfl, by decide +kernel, by decide +kernel⟩
theorem pow59 : (10 : Int) ^ (59 : Int).toNat = 10 ^ 59 := rfl
theorem ok_word {f : Addr} {fd : FuncData} (F : Fun K "_law_word" "_law_word" sWd f fd) (T : TxL mg) (D1 : Fn0 P w K mg base 1 "_law_draw" ["pool", "size"] spDraw fD dD) (N1 : Fn0 P w K mg base 2 "_law_near" ["pool", "word"] spNear fN dN) : FnOk P w K mg base CX0 3 f fd ["pool", "words"] spWd := by
  refine F.ok scWd (fun vs H Q E h => ?_) (fun cdv A outer s H vs Q E hr h => ?_)
  · obtain ⟨p, l, b, ws, L, rfl, _⟩ := h
    rfl
  · obtain ⟨p, l, b, ws, L, rfl, P0, hl, nlp, hwl, hw, h130, h800, q⟩ := h
    have hr1 : Room 1 _ := hr.mono (by decide)
    have hrest : ∃ t, PSs (cxOf CX0 P w K mg base NWd "_law_word" (defScope sWd) f cdv A outer s H E).nox ((defBody sWd).drop 9) t ∧
        ∀ (H7 : Hp) (a : Addr) (menu : List Str) (v2 v4 : Option V), Kp p H H7 → PoolAt H7 p b → H7 a = some (.lst (menu.map V.str)) → a ≠ p → (∀ z ∈ menu, WOk L z) → 0 < menu.length → menu.length ≤ 1000 → t { nx := fun _ H' => Q .non H', rt := Q } [some (.ref p), some (.ref l), v2, some (.ref a), v4] H7 := by
      refine ⟨_, pss_cons (ps_if (pt_cmpR op_eq (pe_call D1.ok hr1 (by rfl) D1.gl D1.kp D1.bd .nil pass0 (pa_cons (pv 0) (pa_cons pe_int pa_nil))) pe_int (nomark _)) (pss_one (ps_ret (pe_call N1.ok hr (by rfl) N1.gl N1.kp N1.bd .nil pass0 (pa_cons (pv 0) (pa_cons (pe_ix ix_list (pv 3) (pe_call D1.ok hr1 (by rfl) D1.gl D1.kp D1.bd .nil pass0 (pa_cons (pv 0) (pa_cons (pe_callB call_len_seq (by rfl) T.len PySem.boot_len (pa_cons (pv 3) pa_nil)) pa_nil))) (fun _ _ => rfl)) pa_nil))))) pss_nil)
        (pss_one (ps_ret (pe_ix ix_list (pv 3) (pe_call D1.ok hr1 (by rfl) D1.gl D1.kp D1.bd .nil pass0 (pa_cons (pv 0) (pa_cons (pe_callB call_len_seq (by rfl) T.len PySem.boot_len (pa_cons (pv 3) pa_nil)) pa_nil))) (fun _ _ => rfl)))), ?_⟩
      intro H7 a menu v2 v4 k7 P7 ea na hm h0 hlen
      have hml : (menu.map V.str).length = menu.length := List.length_map _
      refine ⟨_, rfl, p, 5, b, rfl, P7, by decide, by decide, fun j H8 j0 j1 P8 k8 => ⟨rfl, _, rfl, ?_⟩⟩
      have e8 := k8 _ _ ea na
      refine ite2 (fun _ => ?_) (fun _ => ?_)
      · refine ⟨_, rfl, _, rfl, _, rfl, _, rfl, a, _, rfl, .inl (SqL.of e8), p, _, b, rfl, P8, by rw [hml]; omega, by rw [hml]; omega, fun v H9 v0 v1 P9 k9 => ?_⟩
        rw [hml] at v1
        obtain ⟨x, hx, ex⟩ := atS (xs := menu) v0 v1
        exact ⟨a, _, _, _, rfl, rfl, SqL.of (k9 _ _ e8 na), ex, p, x, b, L, rfl, P9, hm x hx, by omega, h800, fun y H10 hy P10 k10 => q y H10 hy P10 (((k7.trans k8).trans k9).trans k10)⟩
      · refine ⟨_, rfl, _, rfl, _, rfl, a, _, rfl, .inl (SqL.of e8), p, _, b, rfl, P8, by rw [hml]; omega, by rw [hml]; omega, fun v H9 v0 v1 P9 k9 => ?_⟩
        rw [hml] at v1
        obtain ⟨x, hx, ex⟩ := atS (xs := menu) v0 v1
        exact ⟨a, _, _, _, rfl, rfl, SqL.of (k9 _ _ e8 na), ex, q x H9 ((hm x hx).mono (by omega)) P9 ((k7.trans k8).trans k9)⟩
    obtain ⟨tr, htr, rest⟩ := hrest
    refine ⟨_, pss_cons (ps_set (i := 2) scWd.nd rfl (Or.inl rfl) (pe_op op_add pe_int (pe_call D1.ok hr1 (by rfl) D1.gl D1.kp D1.bd .nil pass0 (pa_cons (pv 0) (pa_cons pe_int pa_nil)))))
      (pss_cons (ps_set (i := 3) scWd.nd rfl (Or.inl rfl) (pe_lst (pa_cons pe_str (pa_cons pe_str (pa_cons pe_str (pa_cons pe_str (pa_cons pe_str (pa_cons pe_str (pa_cons pe_str (pa_cons pe_str (pa_cons pe_str (pa_cons pe_str (pa_cons pe_str (pa_cons pe_str (pa_cons pe_str (pa_cons pe_str (pa_cons pe_str (pa_cons pe_str (pa_cons pe_str (pa_cons pe_str pa_nil))))))))))))))))))))
      (pss_cons (ps_set (i := 3) scWd.nd rfl (Or.inl rfl) (pe_op op_cat (pv 3) (pe_lst (pa_cons pe_str (pa_cons pe_str (pa_cons (pe_op op_mulS pe_str pe_int) (pa_cons (pe_op op_mulS pe_str pe_int) (pa_cons (pe_op op_add_str pe_str (pe_op op_mulS pe_str pe_int)) (pa_cons pe_str (pa_cons pe_str (pa_cons (pe_op op_add_str (pe_op op_add_str (pe_callTy call_str2 (by rfl) T.str (by decide +kernel) (pa_cons (pv 2) pa_nil)) pe_str) (pe_callTy call_str2 (by rfl) T.str (by decide +kernel) (pa_cons (pe_op op_mul pe_int (pv 2)) pa_nil))) (pa_cons pe_str (pa_cons pe_str pa_nil)))))))))))))
      (pss_cons (ps_set (i := 4) scWd.nd rfl (Or.inl rfl) (pe_op op_add pe_int (pe_ix ix_tup (pe_tup (pa_cons (pe_call D1.ok hr1 (by rfl) D1.gl D1.kp D1.bd .nil pass0 (pa_cons (pv 0) (pa_cons pe_int pa_nil))) (pa_cons (pe_call D1.ok hr1 (by rfl) D1.gl D1.kp D1.bd .nil pass0 (pa_cons (pv 0) (pa_cons (pe_op op_pow pe_int pe_int) pa_nil))) (pa_cons (pe_op op_add (pe_op op_pow pe_int pe_int) (pe_call D1.ok hr1 (by rfl) D1.gl D1.kp D1.bd .nil pass0 (pa_cons (pv 0) (pa_cons pe_int pa_nil)))) pa_nil)))) (pe_call D1.ok hr1 (by rfl) D1.gl D1.kp D1.bd .nil pass0 (pa_cons (pv 0) (pa_cons pe_int pa_nil))) (fun _ _ => rfl))))
      (pss_cons (ps_set (i := 3) scWd.nd rfl (Or.inl rfl) (pe_op op_cat (pv 3) (pe_lst (pa_cons (pe_op op_add_str pe_str (pe_callTy call_str2 (by rfl) T.str (by decide +kernel) (pa_cons (pv 4) pa_nil))) (pa_cons (pe_op op_add_str (pe_op op_add_str (pe_callTy call_str2 (by rfl) T.str (by decide +kernel) (pa_cons (pe_op op_sub (pv 4) pe_int) pa_nil)) pe_str) (pe_callTy call_str2 (by rfl) T.str (by decide +kernel) (pa_cons (pv 4) pa_nil))) (pa_cons pe_str (pa_cons pe_str (pa_cons pe_str (pa_cons pe_str (pa_cons pe_str (pa_cons pe_str (pa_cons pe_str (pa_cons pe_str pa_nil)))))))))))))
      (pss_cons (ps_set (i := 3) scWd.nd rfl (Or.inl rfl) (pe_op op_cat (pv 3) (pe_lst (pa_cons pe_str (pa_cons pe_str (pa_cons pe_str (pa_cons pe_str (pa_cons pe_str (pa_cons pe_str (pa_cons pe_str (pa_cons pe_str (pa_cons pe_str (pa_cons pe_str (pa_cons pe_str (pa_cons pe_str (pa_cons pe_str (pa_cons pe_str (pa_cons pe_str pa_nil))))))))))))))))))
      (pss_cons (ps_set (i := 3) scWd.nd rfl (Or.inl rfl) (pe_op op_cat (pv 3) (pe_lst (pa_cons pe_str (pa_cons pe_str (pa_cons pe_str (pa_cons pe_str (pa_cons pe_str (pa_cons pe_str pa_nil)))))))))
      (pss_cons (ps_set (i := 3) scWd.nd rfl (Or.inl rfl) (pe_op op_cat (pv 3) (pv 1)))
      (pss_cons (ps_set (i := 3) scWd.nd rfl (Or.inl rfl) (pe_op op_cat (pv 3) (pe_lst (pa_cons pe_str (pa_cons pe_str (pa_cons pe_str (pa_cons pe_str (pa_cons pe_str (pa_cons pe_str (pa_cons pe_str (pa_cons pe_str (pa_cons pe_str (pa_cons pe_str (pa_cons pe_str pa_nil)))))))))))))) htr)))))))), ?_⟩
    have szk : ∀ n : Nat, n ≤ 1000 → n ≤ sizeLine := fun n h => Nat.le_trans h (by decide)
    refine ⟨_, rfl, p, 9, b, rfl, P0, by decide, by decide, fun d H1 d0 d1 P1 k1 => ⟨_, _, rfl, rfl, ?_⟩⟩
    have hf0 : (0 : Int) ≤ 2 + d := by omega
    have hf1 : (2 : Int) + d < 100 := by omega
    dsimp only
    generalize (2 : Int) + d = fa at *
    have nf := wok_nti (n := fa) hf0 (by omega)
    have nf2 := wok_nti (n := 2 * fa) (by omega) (by omega)
    have lg : ∀ n : Int, 0 ≤ n → n < 10 ^ 60 → n.natAbs.log2 < 1920 := fun n h0 h1 => sn_log ⟨h0, h1⟩
    refine ⟨by show 18 ≤ sizeLine; decide, fun a1 g1 => ?_⟩
    have s1 := same_upd (o := .lst (A1.map V.str)) g1
    have P2 := P1.same s1
    have e1 : upd H1 a1 (.lst (A1.map V.str)) a1 = some (.lst (A1.map V.str)) := upd_same
    have na1 := P1.ne0 g1
    have kx1 := k1.trans (Kp.same s1)
    have sz2 : ∀ x y : Str, x.length ≤ 200 → y.length ≤ 200 → x.length + y.length ≤ sizeLine := fun x y h1 h2 => szk _ (by omega)
    have l9 : ("9" : Str).length ≤ 16 := by decide +kernel
    have l1 : ("1/" : Str).length ≤ 200 := by decide +kernel
    have ls : ("/" : Str).length ≤ 1 := by decide +kernel
    have l61 : (Txt.mul "9" 61).length ≤ 200 := by have := s9_ok.2.2.2; unfold S9 at this; omega
    have lap : ∀ x : Str, x.length ≤ 60 → (x ++ ("/" : Str)).length ≤ 61 := fun x h => by rw [Str.length_append]; omega
    refine ⟨_, rfl, "9", 60, rfl, rfl, l9, by decide, by decide, "9", 61, rfl, rfl, l9, by decide, by decide, "9", 61, rfl, rfl, l9, by decide, by decide, _, _, rfl, rfl, sz2 _ _ l1 l61, _, rfl, .inl ⟨fa, rfl, lg fa hf0 (by omega), _, _, rfl, rfl, sz2 _ _ (Nat.le_trans nf.short (by decide)) (Nat.le_trans ls (by decide)),
      _, rfl, _, _, rfl, rfl, .inl ⟨by decide, by decide⟩, .inl ⟨2 * fa, rfl, lg _ (by omega) (by omega), _, _, rfl, rfl, sz2 _ _ (Nat.le_trans (lap _ nf.short) (by decide)) (Nat.le_trans nf2.short (by decide)), by show 10 ≤ sizeLine; decide, fun b1 g2 => ?_⟩⟩⟩
    have s2 := same_upd (o := .lst ((A2 fa).map V.str)) g2
    refine ⟨a1, b1, A1.map V.str, (A2 fa).map V.str, rfl, rfl, s2 _ _ e1, upd_same, by show 28 ≤ sizeLine; decide, fun a2 g3 => ?_⟩
    have s3 := same_upd (o := .lst (A1.map V.str ++ (A2 fa).map V.str)) g3
    have P3 := (P2.same s2).same s3
    have na2 := (P2.same s2).ne0 g3
    have e2 : upd (upd (upd H1 a1 (.lst (A1.map V.str))) b1 (.lst ((A2 fa).map V.str))) a2 (.lst (A1.map V.str ++ (A2 fa).map V.str)) a2 = some (.lst ((A1 ++ A2 fa).map V.str)) := by rw [upd_same, map_app]
    have kx2 := kx1.trans (Kp.same (s2.trans s3))
    refine ⟨_, rfl, p, 9, b, rfl, P3, by decide, by decide, fun c H3 c0 c1 P4 k4 => ⟨_, rfl, _, _, rfl, rfl, ⟨by decide, by decide, by decide⟩, p, _, b, rfl, P4, by decide, by decide, fun d2 H4 d20 d21 P5 k5 => ⟨_, _, rfl, rfl, ⟨by decide, by decide, by decide⟩, _, rfl, p, 9, b, rfl, P5, by decide, by decide, fun d3 H5 d30 d31 P6 k6 => ⟨_, _, rfl, rfl, by show 3 ≤ sizeLine; decide, fun t ht => ⟨_, rfl, p, 3, b, rfl, P6.same (same_upd ht), by decide, by decide, fun e H6 e0 e10 P7 k7 => ?_⟩⟩⟩⟩⟩
    have et : H6 t = some (.tup [.int c, .int d2, .int (10 ^ (59 : Int).toNat + d3)]) := k7 _ _ upd_same (P6.ne0 ht)
    obtain ⟨n, hn, en⟩ := atN (xs := [c, d2, 10 ^ (59 : Int).toNat + d3]) e0 e10
    have hn2 : 0 ≤ n ∧ n < 10 ^ 59 + 100 := by
      rw [pow59] at hn
      simp only [List.mem_cons, List.not_mem_nil, or_false] at hn
      have d21' : d2 < 1000000 := d21
      rcases hn with rfl | rfl | rfl <;> omega
    refine ⟨t, _, _, _, rfl, rfl, SqT.of et, en, _, _, rfl, rfl, ?_⟩
    have hw1 : (1 : Int) ≤ 2 + n := by omega
    have hw2 : (2 : Int) + n < 10 ^ 60 := by omega
    dsimp only
    generalize (2 : Int) + n = wn at *
    have kx3 : Kp p H H6 := (((kx2.trans k4).trans k5).trans k6).trans ((Kp.same (same_upd ht)).trans k7)
    have e3 : H6 a2 = some (.lst ((A1 ++ A2 fa).map V.str)) := ((((k4.trans k5).trans k6).trans (Kp.same (same_upd ht))).trans k7) _ _ e2 na2
    have nw := wok_nti (n := wn) (by omega) hw2
    have nw1 := wok_nti (n := wn - 1) (by omega) (by omega)
    refine ⟨_, rfl, _, rfl, .inl ⟨wn, rfl, lg wn (by omega) hw2, _, _, rfl, rfl, sz2 _ _ l1 (Nat.le_trans nw.short (by decide)), _, rfl, _, _, rfl, rfl, .inl ⟨wn - 1, rfl, lg _ (by omega) (by omega), _, _, rfl, rfl, sz2 _ _ (Nat.le_trans nw1.short (by decide)) (Nat.le_trans ls (by decide)),
      _, rfl, .inl ⟨wn, rfl, lg wn (by omega) hw2, _, _, rfl, rfl, sz2 _ _ (Nat.le_trans (lap _ nw1.short) (by decide)) (Nat.le_trans nw.short (by decide)), by show 10 ≤ sizeLine; decide, fun b2 g2 => ?_⟩⟩⟩⟩
    have stepK : ∀ {Ha : Hp} {a b3 c3 : Addr} {xs ys : List Str}, PoolAt Ha p b → Kp p H Ha → Ha a = some (.lst (xs.map V.str)) → Ha b3 = none → (upd Ha b3 (.lst (ys.map V.str))) c3 = none → PoolAt (upd (upd Ha b3 (.lst (ys.map V.str))) c3 (.lst (xs.map V.str ++ ys.map V.str))) p b ∧ Kp p H (upd (upd Ha b3 (.lst (ys.map V.str))) c3 (.lst (xs.map V.str ++ ys.map V.str))) ∧ c3 ≠ p ∧ (upd (upd Ha b3 (.lst (ys.map V.str))) c3 (.lst (xs.map V.str ++ ys.map V.str))) c3 = some (.lst ((xs ++ ys).map V.str)) := fun {Ha a b3 c3 xs ys} Pa ka ea gb gc => by
      have sb := same_upd (o := .lst (ys.map V.str)) gb
      have sc := same_upd (o := .lst (xs.map V.str ++ ys.map V.str)) gc
      exact ⟨(Pa.same sb).same sc, ka.trans (Kp.same (sb.trans sc)), (Pa.same sb).ne0 gc, by rw [upd_same, map_app]⟩
    refine ⟨a2, b2, (A1 ++ A2 fa).map V.str, (A3 wn).map V.str, rfl, rfl, same_upd g2 _ _ e3, upd_same, by show 38 ≤ sizeLine; decide, fun a3 g3 => ?_⟩
    obtain ⟨P8, k8, n8, e8⟩ := stepK (xs := A1 ++ A2 fa) (ys := A3 wn) P7 kx3 e3 g2 g3
    refine ⟨_, rfl, by show 15 ≤ sizeLine; decide, fun b2 g2 => ?_⟩
    refine ⟨a3, b2, (A1 ++ A2 fa ++ A3 wn).map V.str, A5.map V.str, rfl, rfl, same_upd g2 _ _ e8, upd_same, by show 53 ≤ sizeLine; decide, fun a4 g3 => ?_⟩
    obtain ⟨P9, k9, n9, e9⟩ := stepK (xs := A1 ++ A2 fa ++ A3 wn) (ys := A5) P8 k8 e8 g2 g3
    refine ⟨_, rfl, by show 6 ≤ sizeLine; decide, fun b2 g2 => ?_⟩
    refine ⟨a4, b2, (A1 ++ A2 fa ++ A3 wn ++ A5).map V.str, A6.map V.str, rfl, rfl, same_upd g2 _ _ e9, upd_same, by show 59 ≤ sizeLine; decide, fun a5 g3 => ?_⟩
    obtain ⟨P8, k8, n8, e8⟩ := stepK (xs := A1 ++ A2 fa ++ A3 wn ++ A5) (ys := A6) P9 k9 e9 g2 g3
    have hl8 := k8 _ _ hl nlp
    have L59 : (A1 ++ A2 fa ++ A3 wn ++ A5 ++ A6).length = 59 := rfl
    refine ⟨_, rfl, _, rfl, a5, l, (A1 ++ A2 fa ++ A3 wn ++ A5 ++ A6).map V.str, ws.map V.str, rfl, rfl, e8, hl8, by rw [List.length_map, List.length_map, L59]; exact szk _ (by omega), fun a6 g3 => ?_⟩
    have stepC : ∀ {Ha : Hp} {c3 : Addr} {xs ys : List Str}, PoolAt Ha p b → Kp p H Ha → Ha c3 = none → PoolAt (upd Ha c3 (.lst (xs.map V.str ++ ys.map V.str))) p b ∧ Kp p H (upd Ha c3 (.lst (xs.map V.str ++ ys.map V.str))) ∧ c3 ≠ p ∧ (upd Ha c3 (.lst (xs.map V.str ++ ys.map V.str))) c3 = some (.lst ((xs ++ ys).map V.str)) := fun {Ha c3 xs ys} Pa ka gc => by
      have sc := same_upd (o := .lst (xs.map V.str ++ ys.map V.str)) gc
      exact ⟨Pa.same sc, ka.trans (Kp.same sc), Pa.ne0 gc, by rw [upd_same, map_app]⟩
    obtain ⟨P9, k9, n9, e9⟩ := stepC (xs := A1 ++ A2 fa ++ A3 wn ++ A5 ++ A6) (ys := ws) P8 k8 g3
    refine ⟨_, rfl, by show 11 ≤ sizeLine; decide, fun b2 g2 => ?_⟩
    refine ⟨a6, b2, (A1 ++ A2 fa ++ A3 wn ++ A5 ++ A6 ++ ws).map V.str, A7.map V.str, rfl, rfl, same_upd g2 _ _ e9, upd_same, by rw [List.length_map, List.length_map, List.length_append, L59, show A7.length = 11 from rfl]; exact szk _ (by omega), fun a7 g3 => ?_⟩
    obtain ⟨P8, k8, n8, e8⟩ := stepK (xs := A1 ++ A2 fa ++ A3 wn ++ A5 ++ A6 ++ ws) (ys := A7) P9 k9 e9 g2 g3
    refine rest _ a7 _ _ _ k8 P8 e8 n8 (fun z hz => ?_) ?_ ?_
    · have ha := a_ok z
      simp only [List.mem_append] at hz ha
      rcases hz with (((((hz | hz) | hz) | hz) | hz) | hz) | hz
      · exact (ha (.inl (.inl (.inl hz)))).mono h130
      · exact (a2_ok hf0 hf1 z hz).mono h130
      · exact (a3_ok hw1 hw2 z hz).mono h130
      · exact (ha (.inl (.inl (.inr hz)))).mono h130
      · exact (ha (.inl (.inr hz))).mono h130
      · exact hw z hz
      · exact (ha (.inr hz)).mono h130
    · rw [List.length_append, List.length_append, L59]
      omega
    · rw [List.length_append, List.length_append, L59, show A7.length = 11 from rfl]
      omega
end
end K0

set_option Elab.async false
set_option linter.all false
set_option maxRecDepth 100000
set_option maxHeartbeats 4000000
/-! _law_changed. -/
namespace K0
open PySem PySem.Spec PyProof.Rows L2 Kx Kh Kd TL Kj Ke Ks
/-- a line after so many changes -/
structure Lw (k : Nat) (x : Str) : Prop where
  few : (Txt.split x (" " : Str)).length ≤ 34 + k
  part : ∀ z ∈ Txt.split x (" " : Str), WOk (130 + k) z
theorem Lw.mono {k m : Nat} {x : Str} (h : Lw k x) (hk : k ≤ m) : Lw m x := ⟨Nat.le_trans h.few (by omega), fun z hz => (h.part z hz).mono (by omega)⟩
theorem split_empty : Txt.split ("" : Str) (" " : Str) = [("" : Str)] := by
  have := Kl.one_sp.back (ps := [("" : Str)]) (by simp) fun p hp => by
    rw [List.mem_singleton.mp hp]
    decide +kernel
  exact this
theorem lw_empty (k : Nat) : Lw k "" := by
  refine ⟨?_, fun z hz => ?_⟩
  · rw [split_empty, List.length_singleton]
    omega
  · rw [split_empty] at hz
    rw [List.mem_singleton.mp hz]
    exact (wok_lit (L := 0) (by decide +kernel)).mono (by omega)
theorem lw_join {k : Nat} {ws : List Str} (h : ∀ z ∈ ws, WOk (130 + k) z) (hl : ws.length ≤ 34 + k) : Lw k (Txt.join (" " : Str) ws) := by
  by_cases hn : ws = []
  · subst hn
    exact lw_empty k
  · have := Kl.one_sp.back hn fun p hp => (h p hp).nosp
    exact ⟨by rw [this]; exact hl, by rw [this]; exact h⟩
theorem len_join {k : Nat} {ws : List Str} (h : ∀ z ∈ ws, z.length ≤ 130 + k) : (Txt.join (" " : Str) ws).length ≤ (130 + k + 1) * ws.length := by
  rw [join_eq, len_tl, tl_join]
  have := len_joinL (S := tl (" " : Str)) (ps := ws.map tl) (m := 130 + k) fun p hp => by
    obtain ⟨z, hz, rfl⟩ := List.mem_map.mp hp
    rw [← len_tl]
    exact h z hz
  rw [List.length_map, show (tl (" " : Str)).length = 1 by decide +kernel] at this
  exact this
theorem Lw.len {k : Nat} {x : Str} (h : Lw k x) (hk : k ≤ 4) : x.length ≤ 10000 := by
  have h1 := len_join fun z hz => (h.part z hz).short
  rw [Kl.one_sp.join x] at h1
  have h2 := Nat.mul_le_mul_left (130 + k + 1) h.few
  have h3 : (130 + k + 1) * (34 + k) ≤ 135 * 38 := Nat.mul_le_mul (by omega) (by omega)
  omega
theorem Lw.ln {k : Nat} {x : Str} (h : Lw k x) (hk : k ≤ 4) : LnOk x :=
  ⟨⟨Nat.le_trans (Nat.add_le_add_right (h.len hk) 2) (by decide), fun z hz => Nat.le_trans (h.part z hz).short (by omega), Nat.le_trans h.few (by omega)⟩, fun z hz => (h.part z hz).low⟩
theorem join_sz {k : Nat} {ws : List Str} (h : ∀ z ∈ ws, z.length ≤ 10000) (hl : ws.length ≤ 100) : (ws.map (·.length)).sum + ws.length * (" " : Str).length ≤ 16777216 := by
  have h1 : ∀ l : List Str, (∀ z ∈ l, z.length ≤ 10000) → (l.map (·.length)).sum ≤ 10000 * l.length := fun l => by
    induction l with
    | nil => exact fun _ => Nat.le_refl _
    | cons x r ih =>
      intro h
      have := h x (List.mem_cons_self ..)
      have := ih fun z hz => h z (List.mem_cons_of_mem _ hz)
      rw [List.map_cons, List.sum_cons, List.length_cons]
      omega
  have h2 := h1 ws h
  have h3 : (" " : Str).length = 1 := by decide +kernel
  rw [h3]
  omega
/-! ### slices of lists of texts -/
def cutT (xs : List Str) (lo hi : Option Int) : List Str := (xs.drop (HT.sIx xs.length 0 lo)).take (HT.sIx xs.length xs.length hi - HT.sIx xs.length 0 lo)
theorem cut_map (xs : List Str) (lo hi : Option Int) : cutV (xs.map V.str) lo hi = (cutT xs lo hi).map V.str := by
  unfold cutV cutT
  rw [List.length_map, ← List.map_drop, ← List.map_take]
theorem cut_mem {xs : List Str} {lo hi : Option Int} {x : Str} (h : x ∈ cutT xs lo hi) : x ∈ xs := List.mem_of_mem_drop (List.mem_of_mem_take h)
theorem len_to (xs : List Str) {v : Int} (h0 : 0 ≤ v) : (cutT xs none (some v)).length = min v.toNat xs.length := by
  unfold cutT
  rw [HT.sIx_none, show HT.sIx xs.length xs.length (some v) = min v.toNat xs.length from by rw [show v = ((v.toNat : Nat) : Int) by omega]; exact HT.sIx_nat _ _ _]
  rw [List.length_take, List.length_drop]
  omega
theorem len_from (xs : List Str) {v : Int} (h0 : 0 ≤ v) : (cutT xs (some v) none).length = xs.length - v.toNat := by
  unfold cutT
  rw [HT.sIx_none, show HT.sIx xs.length 0 (some v) = min v.toNat xs.length from by rw [show v = ((v.toNat : Nat) : Int) by omega]; exact HT.sIx_nat _ _ _]
  rw [List.length_take, List.length_drop]
  omega
theorem len_mid (xs : List Str) {v u : Int} (h0 : 0 ≤ v) (h1 : v ≤ u) : (cutT xs (some v) (some u)).length ≤ (u - v).toNat := by
  unfold cutT
  rw [show HT.sIx xs.length 0 (some v) = min v.toNat xs.length from by rw [show v = ((v.toNat : Nat) : Int) by omega]; exact HT.sIx_nat _ _ _]
  rw [show HT.sIx xs.length xs.length (some u) = min u.toNat xs.length from by rw [show u = ((u.toNat : Nat) : Int) by omega]; exact HT.sIx_nat _ _ _]
  rw [List.length_take, List.length_drop]
  omega
structure WS (H : Hp) (p a : Addr) (b : Int) (xs : List Str) : Prop where
  pool : PoolAt H p b
  ea : H a = some (.lst (xs.map V.str))
  na : a ≠ p
theorem WS.kp {H H' : Hp} {p a : Addr} {b : Int} {xs : List Str} (h : WS H p a b xs) (P : PoolAt H' p b) (k : Kp p H H') : WS H' p a b xs := ⟨P, k _ _ h.ea h.na, h.na⟩
/-- it gives a new list of texts, at most so many -/
def EvW (Pd : Str → Prop) (te : TE) (σ : L2.St) (p a : Addr) (b : Int) (xs : List Str) (n : Nat) : Prop := ∀ H, WS H p a b xs → ∀ Q : VK, (∀ (c : Addr) (H' : Hp) (ys : List Str), H' c = some (.lst (ys.map V.str)) → c ≠ p → (∀ y ∈ ys, Pd y) → ys.length ≤ n → PoolAt H' p b → Kp p H H' → Q (.ref c) H') → te σ H Q
def EvI (to : TO) (σ : L2.St) (o : Option Int) : Prop := ∀ H (Q : Option Int → Hp → Prop), Q o H → to σ H Q
section
variable {Pd : Str → Prop} {σ : L2.St} {p a : Addr} {b : Int} {xs : List Str} {K : PySem.W.Frag}
theorem szk (n : Nat) (h : n ≤ 1000) : n ≤ sizeLine := Nat.le_trans h (by decide)
theorem ew_sl {j : Nat} {tl th : TO} {lo hi : Option Int} {n : Nat} (hv : σ[j]? = some (some (.ref a))) (hp : ∀ x ∈ xs, Pd x) (hl : EvI tl σ lo) (hh : EvI th σ hi) (hn : (cutT xs lo hi).length ≤ n) : EvW Pd (tSl (rSlL K) (tVar j) tl th) σ p a b xs n := fun H W Q q =>
  ⟨_, hv, hl H _ (hh H _ ⟨a, _, rfl, SqL.of W.ea, fun c hc => q c _ (cutT xs lo hi) (by rw [upd_same, cut_map]) (W.pool.ne0 hc) (fun y hy => hp y (cut_mem hy)) hn (W.pool.same (same_upd hc)) (Kp.same (same_upd hc))⟩)⟩
theorem ew_cat {ta tb : TE} {n m : Nat} (ha : EvW Pd ta σ p a b xs n) (hb : EvW Pd tb σ p a b xs m) (hz : n + m ≤ 1000) : EvW Pd (tOp rCat ta tb) σ p a b xs (n + m) := fun H W Q q =>
  ha H W _ fun c1 H1 ys e1 n1 w1 l1 P1 k1 => hb H1 (W.kp P1 k1) _ fun c2 H2 zs e2 n2 w2 l2 P2 k2 =>
    ⟨c1, c2, ys.map V.str, zs.map V.str, rfl, rfl, k2 _ _ e1 n1, e2, by rw [List.length_map, List.length_map]; exact szk _ (by omega), fun c hc => q c _ (ys ++ zs) (by rw [upd_same, map_app]) (P2.ne0 hc) (fun y hy => (List.mem_append.mp hy).elim (w1 y) (w2 y)) (by rw [List.length_append]; omega) (P2.same (same_upd hc)) ((k1.trans k2).trans (Kp.same (same_upd hc)))⟩
theorem ew_lit {z : Str} (h : Pd z) : EvW Pd (tLst (tCons (tC (.str z)) tNil)) σ p a b xs 1 := fun H W Q q =>
  ⟨(by show 1 ≤ sizeLine; decide), fun c hc => q c _ [z] upd_same (W.pool.ne0 hc) (fun y hy => by rw [List.mem_singleton.mp hy]; exact h) (Nat.le_refl _) (W.pool.same (same_upd hc)) (Kp.same (same_upd hc))⟩
theorem ew_word {L : Nat} (hv : σ[0]? = some (some (.ref p))) (hw : σ[5]? = some (some (.ref a))) (h1 : xs.length ≤ 100) (h2 : ∀ z ∈ xs, WOk L z) (h3 : 130 ≤ L) (h4 : L ≤ 800) : EvW (WOk (L + 1)) (tLst (tCons (tCall spWd [] E0 (tCons (tVar 0) (tCons (tVar 5) tNil))) tNil)) σ p a b xs 1 := fun H W Q q =>
  ⟨_, hv, _, hw, p, a, b, xs, L, rfl, W.pool, W.ea, W.na, h1, h2, h3, h4, fun y H1 hy P1 k1 => ⟨(by show 1 ≤ sizeLine; decide), fun c hc => q c _ [y] upd_same (P1.ne0 hc) (fun z hz => by rw [List.mem_singleton.mp hz]; exact hy) (Nat.le_refl _) (P1.same (same_upd hc)) (k1.trans (Kp.same (same_upd hc)))⟩⟩
theorem ei_none : EvI tNoPart σ none := fun _ _ q => q
theorem ei_var {i : Nat} {v : Int} (hv : σ[i]? = some (some (.int v))) : EvI (tPart (tVar i)) σ (some v) := fun _ _ q => ⟨_, hv, _, rfl, q⟩
theorem ei_add {i : Nat} {v k : Int} (hv : σ[i]? = some (some (.int v))) : EvI (tPart (tOp (rI0 fun i j => .int (i + j)) (tVar i) (tC (.int k)))) σ (some (v + k)) := fun _ _ q => ⟨_, hv, _, _, rfl, rfl, _, rfl, q⟩
end
def forB : Stmt → List Stmt
  | .For _ _ b _ _ => b
  | _ => []
abbrev NCh : List Str := ["pool", "lines", "k", "place", "other", "words", "at", "way"]
theorem scCh : FnScope NCh ["pool", "lines"] (defScope sCh) := ⟨rfl, rfl, rfl, by decide +kernel, rfl, by decide +kernel, by decide +kernel⟩
abbrev chX (P : Program) (w : World) (K : PySem.W.Frag) (mg : Str → Option Value) (base : Heap) (f : Addr) (cdv : Value) (A : Around) (outer : List Env) (s : Shared) (H : Hp) (E : XK) : Cx := (cxOf CX0 P w K mg base NCh "_law_changed" (defScope sCh) f cdv A outer s H E).nox
def PvC (p : Addr) (b : Int) (H : Hp) (i : Nat) (σ : L2.St) (H' : Hp) : Prop := (∃ (a' : Addr) (v2 v3 v4 v5 v6 v7 : Option V) (xs : List Str), σ = [some (.ref p), some (.ref a'), v2, v3, v4, v5, v6, v7] ∧ H' a' = some (.lst (xs.map V.str)) ∧ a' ≠ p ∧ (∀ x ∈ xs, Lw i x) ∧ xs.length ≤ 10 + 3 * i) ∧ PoolAt H' p b ∧ Kp p H H'
def spCh : Sp := fun vs H Q _ => ∃ (p a : Addr) (xs : List Str) (b : Int), vs = [.ref p, .ref a] ∧ PoolAt H p b ∧ a ≠ p ∧ H a = some (.lst (xs.map V.str)) ∧ (∀ x ∈ xs, Lw 0 x) ∧ xs.length ≤ 10 ∧ ∀ (c : Addr) (ys : List Str) (H' : Hp), H' c = some (.lst (ys.map V.str)) → (∀ x ∈ ys, LnOk x) → ys.length ≤ 30 → Q (.ref c) H'
section
variable {P : Program} {w : World} {K : PySem.W.Frag} {mg : Str → Option Value} {base : Heap} {fD fW : Addr} {dD dW : FuncData}
theorem ch_last {f : Addr} {cdv : Value} {A : Around} {outer : List Env} {s : Shared} {H : Hp} {E : XK} (T : TxL mg) :
    ∃ t, PSs (chX P w K mg base f cdv A outer s H E) ((forB ((defBody sCh).headD (.Pass default))).drop 6) t ∧
      ∀ (D : Ends) (p : Addr) (b : Int) (H1 : Hp) (i : Nat) (a wl : Addr) (xs ws : List Str) (v2 v4 v6 : Option V) (place way : Int), PoolAt H1 p b → Kp p H H1 → H1 a = some (.lst (xs.map V.str)) → a ≠ p → (∀ x ∈ xs, Lw (i + 1) x) → xs.length ≤ 10 + 3 * i + 2 → H1 wl = some (.lst (ws.map V.str)) → (∀ z ∈ ws, WOk (130 + (i + 1)) z) → ws.length ≤ 34 + (i + 1) → i < 4 → 0 ≤ place →
        (∀ σ' H', PvC p b H (i + 1) σ' H' → D.nx σ' H') → t D [some (.ref p), some (.ref a), v2, some (.int place), v4, some (.ref wl), v6, some (.int way)] H1 := by
  refine ⟨_, pss_one (ps_if (PW.pt (pw_and (pt_cmpR op_gt (pv 7) pe_int (nomark _)) (pw_and1 (pt_cmpR op_lt (pv 3) (pe_callB call_len_seq (by rfl) T.len PySem.boot_len (pa_cons (pv 1) pa_nil)) (nomark _)))))
    (pss_one (ps_set (i := 1) scCh.nd rfl (Or.inl rfl) (pe_op op_cat (pe_op op_cat (pe_slice sl_list (pv 1) po_none (po_some (pv 3))) (pe_lst (pa_cons (pe_join pe_str (pv 5)) pa_nil))) (pe_slice sl_list (pv 1) (po_some (pe_op op_add (pv 3) pe_int)) po_none)))) pss_nil), ?_⟩
  intro D p b H1 i a wl xs ws v2 v4 v6 place way P1 k1 ea na hx hxl ew hw hwl hi h0 nx
  have keep : D.nx [some (.ref p), some (.ref a), v2, some (.int place), v4, some (.ref wl), v6, some (.int way)] H1 := nx _ _ ⟨⟨a, _, _, _, _, _, _, xs, rfl, ea, na, hx, by omega⟩, P1, k1⟩
  refine ⟨_, rfl, _, _, rfl, rfl, _, rfl, ite2 (fun y => ?_) (fun _ => keep)⟩
  refine ⟨_, rfl, _, rfl, a, _, rfl, .inl (SqL.of ea), _, _, rfl, rfl, _, rfl, ite2 (fun y => ?_) (fun _ => keep)⟩
  have y := of_decide_eq_true y
  rw [List.length_map] at y
  have hjl : Lw (i + 1) (Txt.join (" " : Str) ws) := lw_join hw hwl
  refine ⟨_, rfl, _, rfl, _, rfl, a, _, rfl, SqL.of ea, fun c1 g1 => ?_⟩
  rw [cut_map]
  have s1 := same_upd (o := .lst ((cutT xs none (some place)).map V.str)) g1
  have ew1 := s1 _ _ ew
  refine ⟨⟨_, rfl⟩, _, rfl, " ", wl, ws, rfl, rfl, .inl (SqL.of ew1), join_sz (k := 0) (fun z hz => Nat.le_trans (hw z hz).short (by omega)) (by omega), by show 1 ≤ sizeLine; decide, fun c2 g2 => ?_⟩
  have s2 := same_upd (o := .lst [V.str (Txt.join (" " : Str) ws)]) g2
  refine ⟨c1, c2, (cutT xs none (some place)).map V.str, [V.str (Txt.join (" " : Str) ws)], rfl, rfl, s2 _ _ upd_same, upd_same, ?_, fun c3 g3 => ?_⟩
  · have := len_to xs h0
    rw [List.length_map]
    exact szk _ (by show (cutT xs none (some place)).length + 1 ≤ 1000; omega)
  have s3 := same_upd (o := .lst ((cutT xs none (some place)).map V.str ++ [V.str (Txt.join (" " : Str) ws)])) g3
  have s13 := (s1.trans s2).trans s3
  have ea3 := s13 _ _ ea
  refine ⟨_, rfl, _, rfl, _, _, rfl, rfl, _, rfl, a, _, rfl, SqL.of ea3, fun c4 g4 => ?_⟩
  rw [cut_map]
  have s4 := same_upd (o := .lst ((cutT xs (some (place + 1)) none).map V.str)) g4
  have l1 := len_to xs h0
  have l2 := len_from xs (v := place + 1) (by omega)
  refine ⟨c3, c4, _, _, rfl, rfl, s4 _ _ upd_same, upd_same, ?_, fun c5 g5 => ?_⟩
  · rw [List.length_append, List.length_map, List.length_map]
    exact szk _ (by show (cutT xs none (some place)).length + 1 + (cutT xs (some (place + 1)) none).length ≤ 1000; omega)
  have P4 := (P1.same s13).same s4
  have n5 := P4.ne0 g5
  refine nx _ _ ⟨⟨c5, _, _, _, _, _, _, cutT xs none (some place) ++ [Txt.join (" " : Str) ws] ++ cutT xs (some (place + 1)) none, rfl, ?_, n5, fun x hx2 => ?_, ?_⟩, P4.same (same_upd g5), k1.trans (Kp.same ((s13.trans s4).trans (same_upd g5)))⟩
  · rw [upd_same, List.map_append, List.map_append]
    rfl
  · rcases List.mem_append.mp hx2 with hx2 | hx2
    · rcases List.mem_append.mp hx2 with hx2 | hx2
      · exact hx x (cut_mem hx2)
      · rw [List.mem_singleton.mp hx2]
        exact hjl
    · exact hx x (cut_mem hx2)
  · rw [List.length_append, List.length_append, List.length_singleton]
    omega
end
end K0

set_option Elab.async false
set_option linter.all false
set_option maxRecDepth 100000
set_option maxHeartbeats 4000000
/-! _law_changed, the def. -/
namespace K0
open PySem PySem.Spec PyProof.Rows L2 Kx Kh Kd TL Kj Ke Ks
theorem asg_ev {Pd : Str → Prop} {te : TE} {σ : L2.St} {p a : Addr} {b : Int} {xs : List Str} {n : Nat} {D : Ends} {H7 : Hp} {j : Nat} (h : EvW Pd te σ p a b xs n) (W : WS H7 p a b xs) (hD : ∀ (c : Addr) (H8 : Hp) (ys : List Str), H8 c = some (.lst (ys.map V.str)) → c ≠ p → (∀ y ∈ ys, Pd y) → ys.length ≤ n → PoolAt H8 p b → Kp p H7 H8 → gName j (.ref c) σ H8 D.nx) : tAsg te (gName j) D σ H7 := h H7 W _ hD
section
variable {P : Program} {w : World} {K : PySem.W.Frag} {mg : Str → Option Value} {base : Heap} {fD fW : Addr} {dD dW : FuncData}
theorem ok_ch {f : Addr} {fd : FuncData} (F : Fun K "_law_changed" "_law_changed" sCh f fd) (T : TxL mg) (D1 : Fn0 P w K mg base 1 "_law_draw" ["pool", "size"] spDraw fD dD) (W1 : Fn0 P w K mg base 3 "_law_word" ["pool", "words"] spWd fW dW) : FnOk P w K mg base CX0 4 f fd ["pool", "lines"] spCh := by
  refine F.ok scCh (fun vs H Q E h => ?_) (fun cdv A outer s H vs Q E hr h => ?_)
  · obtain ⟨p, a, xs, b, rfl, _⟩ := h
    rfl
  · obtain ⟨p, a, xs, b, rfl, P0, nap, ea, hx, hxl, q⟩ := h
    have hr1 : Room 1 _ := hr.mono (by decide)
    have hr3 : Room 3 _ := hr
    obtain ⟨tl, htl, last⟩ := ch_last (P := P) (w := w) (K := K) (mg := mg) (base := base) (f := f) (cdv := cdv) (A := A) (outer := outer) (s := s) (H := H) (E := E) T
    refine ⟨_, pss_cons (ps_for PassesOwn.never rfl (pi_range1 rfl T.range (pa_cons (pe_call D1.ok hr1 (by rfl) D1.gl D1.kp D1.bd .nil pass0 (pa_cons (pv 0) (pa_cons pe_int pa_nil))) pa_nil)) (pg_name (i := 2) scCh.nd rfl (Or.inl rfl))
        (pss_cons (ps_set (i := 3) scCh.nd rfl (Or.inl rfl) (pe_call D1.ok hr1 (by rfl) D1.gl D1.kp D1.bd .nil pass0 (pa_cons (pv 0) (pa_cons (pe_op op_add (pe_callB call_len_seq (by rfl) T.len PySem.boot_len (pa_cons (pv 1) pa_nil)) pe_int) pa_nil))))
        (pss_cons (ps_set (i := 4) scCh.nd rfl (Or.inl rfl) (pe_call D1.ok hr1 (by rfl) D1.gl D1.kp D1.bd .nil pass0 (pa_cons (pv 0) (pa_cons (pe_op op_add (pe_callB call_len_seq (by rfl) T.len PySem.boot_len (pa_cons (pv 1) pa_nil)) pe_int) pa_nil))))
        (pss_cons (ps_set (i := 5) scCh.nd rfl (Or.inl rfl) (pe_split (pe_join pe_str (pe_slice sl_list (pv 1) (po_some (pv 3)) (po_some (pe_op op_add (pv 3) pe_int)))) pe_str))
        (pss_cons (ps_set (i := 6) scCh.nd rfl (Or.inl rfl) (pe_call D1.ok hr1 (by rfl) D1.gl D1.kp D1.bd .nil pass0 (pa_cons (pv 0) (pa_cons (pe_callB call_len_seq (by rfl) T.len PySem.boot_len (pa_cons (pv 5) pa_nil)) pa_nil))))
        (pss_cons (ps_set (i := 7) scCh.nd rfl (Or.inl rfl) (pe_call D1.ok hr1 (by rfl) D1.gl D1.kp D1.bd .nil pass0 (pa_cons (pv 0) (pa_cons pe_int pa_nil))))
        (pss_cons (ps_if (pt_cmpR op_eq (pv 7) pe_int (nomark _)) (pss_one (ps_set (i := 1) scCh.nd rfl (Or.inl rfl) (pe_op op_cat (pe_slice sl_list (pv 1) po_none (po_some (pv 3))) (pe_slice sl_list (pv 1) (po_some (pe_op op_add (pv 3) pe_int)) po_none)))) (pss_one (ps_if (pt_cmpR op_eq (pv 7) pe_int (nomark _)) (pss_one (ps_set (i := 1) scCh.nd rfl (Or.inl rfl) (pe_op op_cat (pe_op op_cat (pe_slice sl_list (pv 1) po_none (po_some (pv 3))) (pe_slice sl_list (pv 1) (po_some (pv 4)) (po_some (pe_op op_add (pv 4) pe_int)))) (pe_slice sl_list (pv 1) (po_some (pv 3)) po_none)))) (pss_one (ps_if (pt_cmpR op_eq (pv 7) pe_int (nomark _)) (pss_one (ps_set (i := 1) scCh.nd rfl (Or.inl rfl) (pe_op op_cat (pe_op op_cat (pe_slice sl_list (pv 1) po_none (po_some (pv 3))) (pe_lst (pa_cons pe_str pa_nil))) (pe_slice sl_list (pv 1) (po_some (pv 3)) po_none)))) (pss_one (ps_if (pt_cmpR op_eq (pv 7) pe_int (nomark _)) (pss_one (ps_set (i := 1) scCh.nd rfl (Or.inl rfl) (pe_op op_cat (pe_op op_cat (pe_op op_cat (pe_slice sl_list (pv 1) po_none (po_some (pv 3))) (pe_slice sl_list (pv 1) (po_some (pe_op op_add (pv 3) pe_int)) (po_some (pe_op op_add (pv 3) pe_int)))) (pe_slice sl_list (pv 1) (po_some (pv 3)) (po_some (pe_op op_add (pv 3) pe_int)))) (pe_slice sl_list (pv 1) (po_some (pe_op op_add (pv 3) pe_int)) po_none)))) (pss_one (ps_if (pt_cmpR op_eq (pv 7) pe_int (nomark _)) (pss_one (ps_set (i := 5) scCh.nd rfl (Or.inl rfl) (pe_op op_cat (pe_slice sl_list (pv 5) po_none (po_some (pv 6))) (pe_slice sl_list (pv 5) (po_some (pe_op op_add (pv 6) pe_int)) po_none)))) (pss_one (ps_if (pt_cmpR op_eq (pv 7) pe_int (nomark _)) (pss_one (ps_set (i := 5) scCh.nd rfl (Or.inl rfl) (pe_op op_cat (pe_op op_cat (pe_slice sl_list (pv 5) po_none (po_some (pv 6))) (pe_lst (pa_cons (pe_call W1.ok hr3 (by rfl) W1.gl W1.kp W1.bd .nil pass0 (pa_cons (pv 0) (pa_cons (pv 5) pa_nil))) pa_nil))) (pe_slice sl_list (pv 5) (po_some (pv 6)) po_none)))) (pss_one (ps_set (i := 5) scCh.nd rfl (Or.inl rfl) (pe_op op_cat (pe_op op_cat (pe_slice sl_list (pv 5) po_none (po_some (pv 6))) (pe_lst (pa_cons (pe_call W1.ok hr3 (by rfl) W1.gl W1.kp W1.bd .nil pass0 (pa_cons (pv 0) (pa_cons (pv 5) pa_nil))) pa_nil))) (pe_slice sl_list (pv 5) (po_some (pe_op op_add (pv 6) pe_int)) po_none)))))))))))))))
        htl)))))))
      (pss_one (ps_ret (pv 1))), ?_⟩
    refine ⟨_, rfl, p, 4, b, rfl, P0, by decide, by decide, fun n H1 n0 n1 P1 k1 => ?_⟩
    refine ⟨n, rfl, by omega, by omega, for_range (lo := 0) (n := n.toNat) (PvC p b H) ?_ ?_ ?_⟩
    · exact ⟨⟨a, _, _, _, _, _, _, xs, rfl, k1 _ _ ea nap, nap, hx, by omega⟩, P1, k1⟩
    · rintro i σ H2 hi ⟨⟨a2, v2, v3, v4, v5, v6, v7, xs, rfl, e2, na2, hx2, hl2⟩, P2, k2⟩
      have hi4 : i < 4 := by omega
      have hml : ∀ l : List Str, (l.map V.str).length = l.length := fun l => List.length_map _
      refine ⟨_, rfl, _, rfl, a2, _, rfl, .inl (SqL.of e2), _, _, rfl, rfl, p, _, b, rfl, P2, by omega, by rw [hml]; omega, fun pl H3 pl0 pl1 P3 k3 => ?_⟩
      have e3 := k3 _ _ e2 na2
      refine ⟨_, rfl, _, rfl, a2, _, rfl, .inl (SqL.of e3), _, _, rfl, rfl, p, _, b, rfl, P3, by omega, by rw [hml]; omega, fun ot H4 ot0 ot1 P4 k4 => ?_⟩
      have e4 := k4 _ _ e3 na2
      rw [hml] at pl1 ot1
      refine ⟨⟨_, rfl⟩, _, rfl, _, rfl, _, rfl, _, rfl, _, _, rfl, rfl, _, rfl, a2, _, rfl, SqL.of e4, fun c1 g1 => ?_⟩
      rw [cut_map]
      have s1 := same_upd (o := .lst ((cutT xs (some pl) (some (pl + 1))).map V.str)) g1
      have lone := len_mid xs (v := pl) (u := pl + 1) pl0 (by omega)
      have hmem : ∀ x ∈ cutT xs (some pl) (some (pl + 1)), Lw i x := fun x h => hx2 x (cut_mem h)
      have hy : Lw i (Txt.join (" " : Str) (cutT xs (some pl) (some (pl + 1)))) := by
        cases e : cutT xs (some pl) (some (pl + 1)) with
        | nil => exact lw_empty i
        | cons x r =>
          rw [e] at lone hmem
          have : r = [] := List.length_eq_zero_iff.mp (by rw [List.length_cons] at lone; omega)
          subst this
          exact hmem x (List.mem_cons_self ..)
      refine ⟨" ", c1, cutT xs (some pl) (some (pl + 1)), rfl, rfl, .inl (SqL.of upd_same), join_sz (k := 0) (fun z hz => (hmem z hz).len (by omega)) (by omega), ?_⟩
      generalize Txt.join (" " : Str) (cutT xs (some pl) (some (pl + 1))) = y at *
      refine ⟨⟨_, rfl⟩, y, _, rfl, rfl, by decide +kernel, Nat.le_trans (Nat.add_le_add_right (hy.len (by omega)) 2) (by decide), fun c2 g2 => ?_⟩
      have s2 := same_upd (o := .lst ((Txt.split y (" " : Str)).map V.str)) g2
      have ew : upd (upd H4 c1 (.lst ((cutT xs (some pl) (some (pl + 1))).map V.str))) c2 (.lst ((Txt.split y (" " : Str)).map V.str)) c2 = some (.lst ((Txt.split y (" " : Str)).map V.str)) := upd_same
      have s12 := s1.trans s2
      have P5 := P4.same s12
      have ncp : c2 ≠ p := (P4.same s1).ne0 g2
      have e5 := s12 _ _ e4
      have k5 := ((k2.trans k3).trans k4).trans (Kp.same s12)
      have hwz := hy.part
      have hwl := hy.few
      have hne := Kl.one_sp.ne y
      generalize Txt.split y (" " : Str) = ws at *
      generalize upd (upd H4 c1 (.lst ((cutT xs (some pl) (some (pl + 1))).map V.str))) c2 (.lst (ws.map V.str)) = H5 at *
      have hw0 : 0 < ws.length := Nat.pos_of_ne_zero fun e => hne (List.length_eq_zero_iff.mp e)
      refine ⟨_, rfl, _, rfl, c2, _, rfl, .inl (SqL.of ew), p, _, b, rfl, P5, by rw [hml]; omega, by rw [hml]; omega, fun at_ H6 at0 at1 P6 k6 => ?_⟩
      rw [hml] at at1
      refine ⟨_, rfl, p, 8, b, rfl, P6, by decide, by decide, fun way H7 way0 way1 P7 k7 => ?_⟩
      have k57 := k6.trans k7
      have e7 := k57 _ _ e5 na2
      have ew7 := k57 _ _ ew ncp
      have kk := k5.trans k57
      have W1' : WS H7 p a2 b xs := ⟨P7, e7, na2⟩
      have W2' : WS H7 p c2 b ws := ⟨P7, ew7, ncp⟩
      have hx3 : ∀ x ∈ xs, Lw (i + 1) x := fun x h => (hx2 x h).mono (by omega)
      have hw3 : ∀ z ∈ ws, WOk (130 + (i + 1)) z := fun z h => (hwz z h).mono (by omega)
      have hnx : ∀ σ' H', PvC p b H (i + 1) σ' H' → PvC p b H (i + 1) σ' H' := fun _ _ h => h
      have lt := len_to xs pl0
      have lf := len_from xs pl0
      have lf1 := len_from xs (v := pl + 1) (by omega)
      have lf2 := len_from xs (v := pl + 2) (by omega)
      have lm1 := len_mid xs (v := ot) (u := ot + 1) ot0 (by omega)
      have lp2 := len_mid xs (v := pl + 1) (u := pl + 2) (by omega) (by omega)
      have wt := len_to ws at0
      have wf := len_from ws at0
      have wf1 := len_from ws (v := at_ + 1) (by omega)
      refine ⟨_, rfl, rfl, _, rfl, ite2 (fun _ => ?_) (fun _ => ?_)⟩
      · exact asg_ev (ew_cat (ew_sl (j := 1) rfl hx3 ei_none (ei_var (i := 3) rfl) (Nat.le_of_eq lt)) (ew_sl (j := 1) rfl hx3 (ei_add (i := 3) rfl) ei_none (Nat.le_of_eq lf1)) (by omega)) W1' fun c H8 ys ec nc wc lc P8 k8 => last _ p b H8 i c c2 ys ws _ _ _ _ _ P8 (kk.trans k8) ec nc wc (by omega) (k8 _ _ ew7 ncp) hw3 (by omega) hi4 pl0 hnx
      refine ⟨_, rfl, rfl, _, rfl, ite2 (fun _ => ?_) (fun _ => ?_)⟩
      · exact asg_ev (ew_cat (ew_cat (ew_sl (j := 1) rfl hx3 ei_none (ei_var (i := 3) rfl) (Nat.le_of_eq lt)) (ew_sl (j := 1) rfl hx3 (ei_var (i := 4) rfl) (ei_add (i := 4) rfl) lm1) (by omega)) (ew_sl (j := 1) rfl hx3 (ei_var (i := 3) rfl) ei_none (Nat.le_of_eq lf)) (by omega)) W1' fun c H8 ys ec nc wc lc P8 k8 => last _ p b H8 i c c2 ys ws _ _ _ _ _ P8 (kk.trans k8) ec nc wc (by omega) (k8 _ _ ew7 ncp) hw3 (by omega) hi4 pl0 hnx
      refine ⟨_, rfl, rfl, _, rfl, ite2 (fun _ => ?_) (fun _ => ?_)⟩
      · exact asg_ev (ew_cat (ew_cat (ew_sl (j := 1) rfl hx3 ei_none (ei_var (i := 3) rfl) (Nat.le_of_eq lt)) (ew_lit (lw_empty (i + 1))) (by omega)) (ew_sl (j := 1) rfl hx3 (ei_var (i := 3) rfl) ei_none (Nat.le_of_eq lf)) (by omega)) W1' fun c H8 ys ec nc wc lc P8 k8 => last _ p b H8 i c c2 ys ws _ _ _ _ _ P8 (kk.trans k8) ec nc wc (by omega) (k8 _ _ ew7 ncp) hw3 (by omega) hi4 pl0 hnx
      refine ⟨_, rfl, rfl, _, rfl, ite2 (fun _ => ?_) (fun _ => ?_)⟩
      · exact asg_ev (ew_cat (ew_cat (ew_cat (ew_sl (j := 1) rfl hx3 ei_none (ei_var (i := 3) rfl) (Nat.le_of_eq lt)) (ew_sl (j := 1) rfl hx3 (ei_add (i := 3) rfl) (ei_add (i := 3) rfl) lp2) (by omega)) (ew_sl (j := 1) rfl hx3 (ei_var (i := 3) rfl) (ei_add (i := 3) rfl) lone) (by omega)) (ew_sl (j := 1) rfl hx3 (ei_add (i := 3) rfl) ei_none (Nat.le_of_eq lf2)) (by omega)) W1' fun c H8 ys ec nc wc lc P8 k8 => last _ p b H8 i c c2 ys ws _ _ _ _ _ P8 (kk.trans k8) ec nc wc (by omega) (k8 _ _ ew7 ncp) hw3 (by omega) hi4 pl0 hnx
      refine ⟨_, rfl, rfl, _, rfl, ite2 (fun _ => ?_) (fun _ => ?_)⟩
      · exact asg_ev (ew_cat (ew_sl (j := 5) rfl hw3 ei_none (ei_var (i := 6) rfl) (Nat.le_of_eq wt)) (ew_sl (j := 5) rfl hw3 (ei_add (i := 6) rfl) ei_none (Nat.le_of_eq wf1)) (by omega)) W2' fun c H8 ys ec nc wc lc P8 k8 => last _ p b H8 i a2 c xs ys _ _ _ _ _ P8 (kk.trans k8) (k8 _ _ e7 na2) na2 hx3 (by omega) ec wc (by omega) hi4 pl0 hnx
      refine ⟨_, rfl, rfl, _, rfl, ite2 (fun _ => ?_) (fun _ => ?_)⟩
      · exact asg_ev (ew_cat (ew_cat (ew_sl (j := 5) rfl hw3 ei_none (ei_var (i := 6) rfl) (Nat.le_of_eq wt)) (ew_word (L := 130 + i) rfl rfl (by omega) hwz (by omega) (by omega)) (by omega)) (ew_sl (j := 5) rfl hw3 (ei_var (i := 6) rfl) ei_none (Nat.le_of_eq wf)) (by omega)) W2' fun c H8 ys ec nc wc lc P8 k8 => last _ p b H8 i a2 c xs ys _ _ _ _ _ P8 (kk.trans k8) (k8 _ _ e7 na2) na2 hx3 (by omega) ec wc (by omega) hi4 pl0 hnx
      · exact asg_ev (ew_cat (ew_cat (ew_sl (j := 5) rfl hw3 ei_none (ei_var (i := 6) rfl) (Nat.le_of_eq wt)) (ew_word (L := 130 + i) rfl rfl (by omega) hwz (by omega) (by omega)) (by omega)) (ew_sl (j := 5) rfl hw3 (ei_add (i := 6) rfl) ei_none (Nat.le_of_eq wf1)) (by omega)) W2' fun c H8 ys ec nc wc lc P8 k8 => last _ p b H8 i a2 c xs ys _ _ _ _ _ P8 (kk.trans k8) (k8 _ _ e7 na2) na2 hx3 (by omega) ec wc (by omega) hi4 pl0 hnx
    · rintro σ H2 ⟨⟨a2, v2, v3, v4, v5, v6, v7, xs, rfl, e2, na2, hx2, hl2⟩, P2, k2⟩
      exact ⟨_, rfl, q a2 xs H2 e2 (fun x h => (hx2 x h).ln (by omega)) (by omega)⟩
end
end K0

set_option Elab.async false
set_option linter.all false
set_option maxRecDepth 100000
set_option maxHeartbeats 4000000
/-! The law. -/
namespace K0
open PySem PySem.Spec PyProof.Rows L2 Kx Kh Kd TL Kj Ke Ks
theorem wok_sn {n : Int} (h : Sn n) : WOk 130 (nt n) := (wok_nti h.1 h.2).mono (by decide)
theorem ev_wok {k : NestedKey} (h : EvK k) : ∀ z ∈ evW k, WOk 130 z := by
  cases h with
  | sh n h =>
    intro z hz
    have hz : z ∈ [("shown" : Str), nt n] := hz
    simp only [List.mem_cons, List.not_mem_nil, or_false] at hz
    rcases hz with rfl | rfl
    · exact wok_lit (by decide +kernel)
    · exact wok_sn h
  | did n h =>
    intro z hz
    have hz : z ∈ [("did" : Str), nt n] := hz
    simp only [List.mem_cons, List.not_mem_nil, or_false] at hz
    rcases hz with rfl | rfl
    · exact wok_lit (by decide +kernel)
    · exact wok_sn h
  | ask n m h h' =>
    intro z hz
    have hz : z ∈ [("asked" : Str), nt n, nt m] := hz
    simp only [List.mem_cons, List.not_mem_nil, or_false] at hz
    rcases hz with rfl | rfl | rfl
    · exact wok_lit (by decide +kernel)
    · exact wok_sn h
    · exact wok_sn h'
theorem wok_ft {n d : Int} (hn : 0 ≤ n) (hn2 : n < 10 ^ 60) (hd : 0 ≤ d) (hd2 : d < 10 ^ 60) : WOk 130 (ft n d) := by
  unfold ft
  split
  · exact (wok_nti hn hn2).mono (by decide)
  · exact (((wok_nti hn hn2).app (wok_lit (L := 1) (z := "/") (by decide +kernel))).app (wok_nti hd hd2)).mono (by decide)
theorem Drawn.lw {evs : List NestedKey} {qs : List (Int × Int)} (h : Drawn evs qs) : Lw 0 (linT evs qs) := by
  obtain ⟨_, _, f3⟩ := flat_words h.ev
  have hez := h.ez
  have hfew := h.few
  refine ⟨?_, fun z hz => ?_⟩
  · rw [h.back]
    unfold linW
    rw [List.length_append, List.length_append, List.length_cons, List.length_map, List.length_singleton]
    omega
  · rw [h.back] at hz
    unfold linW at hz
    rcases List.mem_append.mp hz with hz | hz
    · rcases List.mem_append.mp hz with hz | hz
      · rcases List.mem_cons.mp hz with rfl | hz
        · exact wok_lit (by decide +kernel)
        · obtain ⟨k, hk, hz⟩ := List.mem_flatMap.mp hz
          exact ev_wok (h.ev k hk) z hz
      · rw [List.mem_singleton.mp hz]
        exact wok_lit (by decide +kernel)
    · obtain ⟨q, hq, rfl⟩ := List.mem_map.mp hz
      obtain ⟨⟨h0, h1, _⟩, h2, h3⟩ := h.fr q hq
      exact wok_ft h0 h2 (Int.le_of_lt h1) h3
theorem DEOk.same {H H' : Hp} {x : DE} (h : DEOk H x) (s : Same H H') : DEOk H' x := h.mv (NL.same s) (s _ _ h.hl)
/-- entries that were read, written -/
theorem read_ents {xs : List Str} {es : List (List NestedKey × List (Int × Int))} {ents : List Ent} (h : readT 0 [] xs = .inr es) (hx : ∀ x ∈ xs, LnOk x) (he : ents.map entE = es.map esE) : ents.map entT = xs ∧ ∀ x ∈ ents, EntW x := by
  obtain ⟨r1, r2⟩ := readT_back h
  refine ⟨?_, fun x hxm => ?_⟩
  · have : ents.map entT = (ents.map entE).map fun e => linT (evsOf e.1) e.2 := by
      rw [List.map_map]
      rfl
    rw [this, he, List.map_map, ← r1]
    rfl
  · have : entE x ∈ es.map esE := by rw [← he]; exact List.mem_map.mpr ⟨x, hxm, rfl⟩
    obtain ⟨e, hem, ee⟩ := List.mem_map.mp this
    obtain ⟨e1, e2⟩ := Prod.mk.inj ee
    obtain ⟨y, hy, hl⟩ := r2 e hem
    have := (hx y hy).ok.few
    obtain ⟨a1, a2, a3, a4⟩ := lineT_evs (evs := e.1) (qs := e.2) hl (by omega)
    exact ⟨⟨e.1, e1.symm, a2, a1⟩, by rw [← e2]; exact a3, by rw [← e2]; exact a4⟩
structure TxE71 (K : PySem.W.Frag) (mg : Str → Option Value) (BQ LE c1 c2 c3 c4 c5 c6 : Addr) : Prop where
  EC : ExcC K BQ
  nB : PySem.W.findIn K (.ref BQ) "at" = some none
  gLE : mg "LossError" = some (.ref LE)
  te : PySem.W.exmOne K (.ref BQ) (.ref LE) = some true
  gB : mg "BadPaper" = some (.ref BQ)
  g1 : mg "BadPlan" = some (.ref c1)
  g2 : mg "BadRatio" = some (.ref c2)
  g3 : mg "BadText" = some (.ref c3)
  g4 : mg "NoPlan" = some (.ref c4)
  g5 : mg "NoShare" = some (.ref c5)
  g6 : mg "TooLarge" = some (.ref c6)
  k1 : PySem.W.kitOne K (.ref BQ) (.ref c1) = some false
  k2 : PySem.W.kitOne K (.ref BQ) (.ref c2) = some false
  k3 : PySem.W.kitOne K (.ref BQ) (.ref c3) = some false
  k4 : PySem.W.kitOne K (.ref BQ) (.ref c4) = some false
  k5 : PySem.W.kitOne K (.ref BQ) (.ref c5) = some false
  k6 : PySem.W.kitOne K (.ref BQ) (.ref c6) = some false
/-- what the law's text stands on -/
structure LB (P : Program) (w : World) (K : PySem.W.Frag) (mg : Str → Option Value) (base : Heap) (C CP BQ LE c1 c2 c3 c4 c5 c6 fRP : Addr) (dRP : FuncData) (fPo fEs fLn fPl fSa fCh fBd : Addr) (dPo dEs dLn dPl dSa dCh dBd : FuncData) : Prop where
  TL : TxL mg
  TE : TxE71 K mg BQ LE c1 c2 c3 c4 c5 c6
  GQ : FnOk P w K mg base (L2N.CX P w) 7 fRP dRP ["lines"] (spRP K C CP BQ)
  gQ : mg "read_plan" = some (.ref fRP)
  kQ : PySem.W.keepIn K (.ref fRP) = true
  bQ : L2.Binds K dRP ["lines"] []
  Po : Fn0 P w K mg base 1 "_law_pool" ["script", "budget"] (spPool K) fPo dPo
  Es : Fn0 P w K mg base 4 "_law_entries" ["pool"] spEnts fEs dEs
  Ln : Fn0 P w K mg base 2 "_law_line" ["entry"] spLn fLn dLn
  Pl : Fn0 P w K mg base 5 "plan_lines" ["plan"] (spPLs K C CP) fPl dPl
  Sa : Fn0 P w K mg base 2 "_law_same" ["actual", "due"] (spSame 1) fSa dSa
  SH : FnW P w K mg base CX0 1 fSa dSa ["actual", "due"] (spSame 0)
  Ch : Fn0 P w K mg base 4 "_law_changed" ["pool", "lines"] spCh fCh dCh
  Bd : Fn0 P w K mg base 4 "_law_bad" ["lines"] spBd fBd dBd
abbrev NLw : List Str := ["script", "pool", "lines", "bad", "again", "e", "entry"]
theorem scLw : FnScope NLw ["script"] (defScope sLaw) := ⟨rfl, rfl, rfl, by decide +kernel, rfl, by decide +kernel, by decide +kernel⟩
abbrev lwX (P : Program) (w : World) (K : PySem.W.Frag) (mg : Str → Option Value) (base : Heap) (f : Addr) (cdv : Value) (A : Around) (outer : List Env) (s : Shared) (H : Hp) (E : XK) : Cx := (cxOf CX0 P w K mg base NLw "law" (defScope sLaw) f cdv A outer s H E).nox
def spLaw (K : PySem.W.Frag) : Sp := fun vs H Q _ => ∃ (a : Addr) (ns : List Int), vs = [.ref a] ∧ SqL K H a (ns.map V.int) ∧ ∀ H', Q (.bl true) H'
section
variable {P : Program} {w : World} {K : PySem.W.Frag} {mg : Str → Option Value} {base : Heap} {C CP BQ LE c1 c2 c3 c4 c5 c6 fRP : Addr} {dRP : FuncData} {fPo fEs fLn fPl fSa fCh fBd : Addr} {dPo dEs dLn dPl dSa dCh dBd : FuncData}
theorem law_rest {f : Addr} {cdv : Value} {A : Around} {outer : List Env} {s : Shared} {H : Hp} {E : XK} {Q : VK} (B : LB P w K mg base C CP BQ LE c1 c2 c3 c4 c5 c6 fRP dRP fPo fEs fLn fPl fSa fCh fBd dPo dEs dLn dPl dSa dCh dBd) (hr : Room 9 (lwX P w K mg base f cdv A outer s H E).A) (q : ∀ H', Q (.bl true) H') :
    ∃ t, PSs (lwX P w K mg base f cdv A outer s H E) ((defBody sLaw).drop 2) t ∧ ∀ (H' : Hp) (c : Addr) (xs : List Str) (v0 v1 v3 v4 v5 v6 : Option V), H' c = some (.lst (xs.map V.str)) → (∀ x ∈ xs, LnOk x) → xs.length ≤ 30 →
      t { nx := fun _ H' => Q .non H', rt := Q } [v0, v1, some (.ref c), v3, v4, v5, v6] H' := by
  have hr1 : Room 1 _ := hr.mono (by decide)
  have hr2 : Room 2 _ := hr.mono (by decide)
  have hr4 : Room 4 _ := hr.mono (by decide)
  have hr5 : Room 5 _ := hr.mono (by decide)
  have hr7 : Room 7 _ := hr.mono (by decide)
  have HZ : ∀ {cls : Value} {d : Option Addr} {oe : Obj}, L2N.Zn cls d oe → Zc cls d oe := fun hz => ⟨hz.1, hz.2.1⟩
  have TE := B.TE
  refine ⟨_, pss_cons (ps_set (i := 3) scLw.nd rfl (Or.inl rfl) (pe_call B.Bd.ok hr4 (by rfl) B.Bd.gl B.Bd.kp B.Bd.bd .nil pass0 (pa_cons (pv 2) pa_nil)))
    (pss_cons (L2N.ps_try_as (i := 5) (Wout := fun _ _ _ _ => False) rfl rfl scLw.nd rfl rfl ⟨rfl, by decide, Or.inl TE.gLE⟩ takes0N
        (fun W pn xe tk _ => pss_one (ps_set (i := 4) scLw.nd rfl (Or.inl rfl) (pe_call B.Pl.ok hr5 (by rfl) B.Pl.gl B.Pl.kp B.Pl.bd .nil pass0 (pa_cons (pe_callS B.GQ hr7 (by rfl) B.gQ B.kQ B.bQ (fun σ => L2N.passAt tk σ) (pa_cons (pe_callTy (call_list_ofK (K := K) (by rfl)) (by rfl) B.TL.list (by decide +kernel) (pa_cons (pv 2) pa_nil)) pa_nil)) pa_nil))))
        (fun a oe cls d pn hz hf => pss_cons (ps_if (PW.pt (pw_or (pt_not (pt_val (pe_callB (call_err1 (f := "at") TE.EC (HZ hz) hf) (by rfl) B.TL.isi (by decide +kernel) (pa_cons (pv 5) (pa_cons (pe_glob (v := .ref BQ) rfl TE.gB rfl) pa_nil)))))
            (pw_or1 (pt_val (pe_callB (call_errT (f := "at") TE.EC (HZ hz) hf) (by rfl) B.TL.isi (by decide +kernel) (pa_cons (pv 5) (pa_cons (pe_tup (pa_cons (pe_glob (v := .ref c1) rfl TE.g1 rfl) (pa_cons (pe_glob (v := .ref c2) rfl TE.g2 rfl) (pa_cons (pe_glob (v := .ref c3) rfl TE.g3 rfl)
              (pa_cons (pe_glob (v := .ref c4) rfl TE.g4 rfl) (pa_cons (pe_glob (v := .ref c5) rfl TE.g5 rfl) (pa_cons (pe_glob (v := .ref c6) rfl TE.g6 rfl) pa_nil))))))) pa_nil)))))))
            (pss_one (ps_ret pe_bl)) pss_nil)
          (pss_one (ps_ret (pe_and (pe_cmpR op_notN (pv 3) pe_non (nomark _)) (pe_one (pe_callW (E := fun _ => E0) B.SH ⟨hr1.dp, hr1.un⟩ ⟨_, List.mem_cons_self ..⟩ (by rfl) B.Sa.gl B.Sa.kp B.Sa.bd (fun σ _ _ _ _ _ _ z => z.elim) (pa_cons (pe_errF TE.EC TE.nB (HZ hz) hf (pv 5)) (pa_cons (pv 3) pa_nil)))))))))
    (pss_one (ps_ret (pe_and (pe_cmpR op_isN (pv 3) pe_non (nomark _)) (pe_one (pe_call B.Sa.ok hr2 (by rfl) B.Sa.gl B.Sa.kp B.Sa.bd .nil pass0 (pa_cons (pv 4) (pa_cons (pv 2) pa_nil)))))))), ?_⟩
  intro H' c xs v0 v1 v3 v4 v5 v6 ec hx hl
  refine ⟨_, rfl, c, xs, rfl, ec, hx, by omega, fun H1 s1 => ?_⟩
  have hb := law_read (xs := xs) (n := 0) (seen := []) (fun k hk => nomatch hk)
  rw [List.map_nil] at hb
  have ec1 := s1 _ _ ec
  refine ⟨_, rfl, c, _, rfl, .inl (SqL.of ec1), fun pa hpa => ?_⟩
  have s2 := same_upd (o := .lst (xs.map V.str)) hpa
  have epa : upd H1 pa (.lst (xs.map V.str)) pa = some (.lst (xs.map V.str)) := upd_same
  generalize upd H1 pa (.lst (xs.map V.str)) = H2 at *
  have ec2 := s2 _ _ ec1
  refine ⟨pa, xs, rfl, epa, fun x h => (hx x h).ok, by omega, fun n e => ?_, fun es hes fp H3 ents s3 PA he => ?_⟩
  · rw [hb, e]
    intro d H3 s3 ed
    refine ⟨true, TE.te, fun _ x hxx => ?_, fun z => nomatch z⟩
    have kt : PySem.W.kitAny K (.ref BQ) [.ref c1, .ref c2, .ref c3, .ref c4, .ref c5, .ref c6] = some false := by
      simp only [PySem.W.kitAny, TE.k1, TE.k2, TE.k3, TE.k4, TE.k5, TE.k6]
    refine ⟨_, rfl, d, .int (n : Int), .ref BQ, .ref BQ, true, rfl, rfl, ed, rfl, fun u r => r, kit_same, _, rfl, iteF ?_⟩
    refine ⟨_, rfl, (by show 6 ≤ sizeLine; decide), fun p hp => ⟨d, .int (n : Int), p, _, [.ref c1, .ref c2, .ref c3, .ref c4, .ref c5, .ref c6], false, rfl, rfl, same_upd hp _ _ ed, rfl, upd_same, .cons (.own _) (.cons (.own _) (.cons (.own _) (.cons (.own _) (.cons (.own _) (.cons (.own _) .nil))))), kt, _, rfl, iteF ?_⟩⟩
    refine ⟨_, rfl, rfl, _, rfl, iteT ⟨_, rfl, d, .int (n : Int), rfl, rfl, rfl, same_upd hp _ _ ed, _, rfl, _, _, rfl, .flat 0 (.int _), ?_⟩⟩
    exact q _
  · rw [hb, hes]
    obtain ⟨et, ew⟩ := read_ents hes hx he
    have ec3 := s3 _ _ ec2
    have hel : ents.length = xs.length := by
      have := congrArg List.length et
      rw [List.length_map] at this
      exact this
    refine ⟨fp, ents, rfl, PA, ew, by omega, fun tl H4 s4 ntl etl => ?_⟩
    rw [et] at etl
    have ec4 := s4 _ _ ec3
    refine ⟨_, rfl, rfl, _, rfl, iteT ⟨_, rfl, _, rfl, .ref tl, .ref c, rfl, .lst 0 etl ec4 rfl (by rw [List.length_map]; omega) (fun j u v hu hv => ?_), q _⟩⟩
    rw [hu] at hv
    cases hv
    obtain ⟨z, _, rfl⟩ := Option.map_eq_some_iff.mp ((List.getElem?_map ..).symm.trans hu)
    exact .flat 0 (.str z)
theorem ok_law {f : Addr} {fd : FuncData} (Fl : Fun K "law" "law" sLaw f fd) (B : LB P w K mg base C CP BQ LE c1 c2 c3 c4 c5 c6 fRP dRP fPo fEs fLn fPl fSa fCh fBd dPo dEs dLn dPl dSa dCh dBd) : FnOk P w K mg base CX0 10 f fd ["script"] (spLaw K) := by
  refine Fl.ok scLw (fun vs H Q E h => ?_) (fun cdv A outer s H vs Q E hr h => ?_)
  · obtain ⟨a, ns, rfl, _⟩ := h
    rfl
  · obtain ⟨a, ns, rfl, hS, q⟩ := h
    have hr1 : Room 1 _ := hr.mono (by decide)
    have hr2 : Room 2 _ := hr.mono (by decide)
    have hr4 : Room 4 _ := hr.mono (by decide)
    obtain ⟨tr, htr, rest⟩ := law_rest (f := f) (cdv := cdv) (A := A) (outer := outer) (s := s) (H := H) (E := E) (Q := Q) B hr q
    refine ⟨_, pss_cons (ps_set (i := 1) scLw.nd rfl (Or.inl rfl) (pe_call B.Po.ok hr1 (by rfl) B.Po.gl B.Po.kp B.Po.bd .nil pass0 (pa_cons (pv 0) (pa_cons pe_int pa_nil))))
      (pss_cons (ps_set (i := 2) scLw.nd rfl (Or.inl rfl) (pe_call B.Ch.ok hr4 (by rfl) B.Ch.gl B.Ch.kp B.Ch.bd .nil pass0 (pa_cons (pv 1) (pa_cons
        (pe_lc (own := [("entry", 6)]) (g := gName 6) (tt := tYes) (te := tCall spLn [] E0 (tCons (tVar 6) tNil)) rfl scLw.nd (pi_list (pe_call B.Es.ok hr4 (by rfl) B.Es.gl B.Es.kp B.Es.bd .nil pass0 (pa_cons (pv 1) pa_nil))) (blkOk_by (N := NLw) (sc := defScope sLaw) (by decide +kernel))
          (fun _ _ _ _ _ => pg_name (i := 6) scLw.nd rfl (Or.inl rfl)) (fun _ _ _ _ _ => pts_nil) (fun _ _ _ _ _ => pe_call B.Ln.ok hr2 (by rfl) B.Ln.gl B.Ln.kp B.Ln.bd .nil pass0 (pa_cons (pv 6) pa_nil))) pa_nil)))) htr), ?_⟩
    refine ⟨_, rfl, a, ns, 0, rfl, hS, fun p H1 s1 np P1 => ?_⟩
    refine ⟨_, rfl, _, rfl, p, 0, rfl, P1, fun el vl rows H2 R hrl => ?_⟩
    have hok : ∀ x ∈ rows, DEOk H2 x := fun x hx => (R.ok x hx).1
    refine ⟨el, rfl, ⟨_, SqL.of R.el_⟩, fun ll hll => ?_⟩
    refine lc_map rows (fun x => V.ref x.e) (fun x => V.str (linT x.evs x.qs)) (SqL.of R.el_) (Nat.lt_of_le_of_lt hrl (by decide)) hll (fun x hx H' s' Q' k' => ?_) fun H3 s3 ell => ?_
    · have X := (hok x hx).same s'
      refine ⟨_, rfl, x.e, x.va, x.l, x.evs, x.ts, x.qs, rfl, X.he, X.hv, fun k hk => (X.ev k hk).evP, Nat.le_trans X.ez (by decide), X.hl, by rw [X.tl]; exact (List.length_map ..).symm, ?_, X.pr, fun q hq => ?_, fun H4 s4 => k' H4 s4⟩
      · unfold DE.qs
        rw [List.length_map]
        exact Nat.le_trans X.wt.few (by decide)
      · obtain ⟨_, _, b1, b2, _⟩ := X.wt.frc q hq
        exact ⟨b1.le (by decide), b2.le (by decide)⟩
    have nlp : ll ≠ p := R.pool.ne0 hll
    refine ⟨p, ll, rows.map fun x => linT x.evs x.qs, 0, rfl, R.pool.same s3, nlp, by rw [ell, List.map_map]; rfl, fun x hx => ?_, by rw [List.length_map]; exact hrl, fun c ys H4 ec hy hyl => ?_⟩
    · obtain ⟨r, hr, rfl⟩ := List.mem_map.mp hx
      exact (hok r hr).drawn.lw
    · exact rest H4 c ys _ _ _ _ _ _ ec hy hyl
end
end K0

set_option Elab.async false
set_option linter.all false
set_option maxRecDepth 100000
set_option maxHeartbeats 4000000
/-! A head by facts, for any law of this program: which names stand, which classes, which tables. -/
namespace Hk
open PySem PySem.Spec PyProof.Rows L2
/-! ### the addresses that the module's names reach, each once (a bit an address) -/
def take1 (p : Nat × List Addr) (a : Addr) : Nat × List Addr := match Nat.testBit p.1 a with
  | true => p
  | false => (Nat.lor p.1 (Nat.shiftLeft 1 a), a :: p.2)
def wave (g : Addr → Option Obj) (mask : Nat) (front : List Addr) : Nat × List Addr :=
  front.foldl (fun p a => match g a with
    | some o => (He.refsD o).foldl take1 p
    | none => p) (mask, [])
def reach (g : Addr → Option Obj) : Nat → Nat → List Addr → List Addr → List Addr
  | 0, _, _, all => all
  | n + 1, mask, front, all => match wave g mask front with
    | (m2, new) => reach g n m2 new (new ++ all)
def roots : List Addr := [mainGlobals, PySem.cStatics]
def asK (g : Addr → Option Obj) (n : Nat) : List Addr := match roots.foldl take1 (0, []) with
  | (m, l) => reach g n m l l
/-! ### facts by names -/
inductive Fk where
  | glo (x : Str)
  | free (x : Str)
  | int (x : Str) (i : Int)
  | str (x z : Str)
  | texts (x : Str) (zs : List Str)
  | cls (x : Str)
  | noat (x f : Str)
  | meth (x m : Str)
  | mkr (x : Str)
  | keep (x : Str)
  | si (x : Str)
  | own (x : Str)
  | base (x : Str)
  | fn (x m : Str)
  | exm (x y : Str) (b : Bool)
  | kit (x y : Str) (b : Bool)
  | err (x : Str)
  | bltn (x : Str) (b : String)
  | exc (x : Str)
  | isf (x m : Str)
  | sfi (x : Str)
  | kitn (x : Str)
  | nums (x : Str) (kvs : List (Str × Int))
  deriving DecidableEq
def oexB (K : PySem.W.Frag) (C : Addr) : Bool := match K.lookup C with
  | some ⟨.type t, _, .cls ⟨_, _, .ref C' :: bm, _, _, hd, _, _, _, _, del⟩, sl⟩ => (match sl.toList with
    | [_, _, _, _, some (.builtin n), _] => decide (t = "type") && (decide (C' = C) && (PySem.HandSPX.refsVE bm && (hd && (!del && decide (n = "ValueError.__new__")))))
    | _ => false)
  | _ => false
def valB (c : Option PySem.W.CFound) (v : Value) : Bool := match c with
  | some (.val u) => decide (u = v)
  | _ => false
def Fk.ok (K : PySem.W.Frag) : Fk → Bool
  | .glo x => (He.Fa.glo x).ok K
  | .free x => (He.Fa.free x).ok K
  | .int x i => (He.Fa.int x i).ok K
  | .str x z => (He.Fa.str x z).ok K
  | .texts x zs => (He.Fa.glo x).ok K && He.tupB K x (zs.map He.Dv.str)
  | .cls x => (He.Fa.cls x).ok K
  | .noat x f => (He.Fa.noat x f).ok K
  | .meth x m => (He.Fa.meth x m).ok K
  | .mkr x => (He.Fa.mkr x).ok K
  | .keep x => (He.Fa.keep x).ok K
  | .si x => He.eqO (PySem.W.findIn K (.ref (He.ga K x)) "__class__") (some (some (.builtin "object.__class__"))) && (He.eqO (PySem.W.specialIn K (.builtin "object.__class__") "__get__") (some (some (.builtin "getset_descriptor.__get__"))) && (decide (PySem.W.takesIn K (.builtin "object.__class__") = some true) && decide (PySem.W.mroIn K (He.ga K x) (.type "object") = some true)))
  | .own x => oexB K (He.ga K x) && (He.eqO (PySem.W.findIn K (.ref (He.ga K x)) "__setattr__") (some (some (.builtin "object.__setattr__"))) && (decide (PySem.W.subIn K (.ref (He.ga K x)) (.type "BaseException") = some true) && (decide (PySem.W.typeIn K (.ref (He.ga K x)) = some (.type "type")) && PySem.W.keepIn K (.ref (He.ga K x)))))
  | .base x => He.eqO (PySem.W.specialIn K (.ref (He.ga K x)) "__getattribute__") (some (some (.builtin "type.__getattribute__"))) && (PySem.W.readsIn K (He.ga K x) (.type "type") && valB (PySem.W.findCls K (.ref (He.ga K x)) (.type "type") "__init__") (.builtin "ValueError.__init__"))
  | .fn x m => He.eqO (PySem.W.findIn K (.ref (He.ga K x)) m) (some (some (.ref (He.ma K (He.ga K x) m)))) && decide (PySem.W.typeIn K (.ref (He.ma K (He.ga K x) m)) = some (.type "function"))
  | .exm x y b => decide (PySem.W.exmOne K (.ref (He.ga K x)) (.ref (He.ga K y)) = some b)
  | .kit x y b => decide (PySem.W.kitOne K (.ref (He.ga K x)) (.ref (He.ga K y)) = some b)
  | .err x => He.eqO (PySem.W.findIn K (.ref (He.ga K x)) "__getattribute__") (some (some (.builtin "BaseException.__getattribute__"))) && (He.eqO (PySem.W.findIn K (.ref (He.ga K x)) "__getattr__") (some none) && (decide (PySem.W.subIn K (.ref (He.ga K x)) (.type "BaseException") = some true) && (PySem.W.hasDictIn K (He.ga K x) && (He.eqO (PySem.W.findIn K (.ref (He.ga K x)) "__class__") (some (some (.builtin "object.__class__"))) && (He.eqO (PySem.W.specialIn K (.builtin "object.__class__") "__get__") (some (some (.builtin "getset_descriptor.__get__"))) && (decide (PySem.W.takesIn K (.builtin "object.__class__") = some true) && decide (PySem.W.mroIn K (He.ga K x) (.type "object") = some true)))))))
  | .bltn x b => He.eqO (PySem.W.nsIn K mainGlobals x) (some (some (.builtin b)))
  | .exc x => PySem.W.excIn K (He.ga K x) [.type "ValueError", .type "Exception", .type "BaseException", .type "object"] "ValueError.__new__" && (PySem.W.keepIn K (.ref (He.ga K x)) && (decide (PySem.W.subIn K (.ref (He.ga K x)) (.type "BaseException") = some true) && decide (PySem.W.typeIn K (.ref (He.ga K x)) = some (.type "type"))))
  | .isf x m => He.eqO (PySem.W.findIn K (.ref (He.ga K x)) m) (some (some (.ref (He.ma K (He.ga K x) m)))) && PySem.W.isFn K (.ref (He.ma K (He.ga K x) m))
  | .sfi x => PySem.W.selfFirst K (He.ga K x)
  | .kitn x => decide (PySem.W.kitOne K (.type "NoneType") (.ref (He.ga K x)) = some false)
  | .nums x kvs => (He.Fa.glo x).ok K && He.valsB K (He.ga K x) (kvs.map fun q => (q.1, .int q.2))
theorem oex_ok {K : PySem.W.Frag} {C : Addr} (h : oexB K C = true) : ∃ nm q N bs bm sn sub ab col dd k0 k1 k2 k3 k5, K.lookup C = some (excClassObj nm q C N bs bm true sn sub ab col dd k0 k1 k2 k3 k5 "ValueError.__new__") ∧ PySem.HandSPX.refsVE bm = true := by
  unfold oexB at h
  split at h
  · rename_i t dd nm bs C' bm ns q hd sn sub ab col del sl e
    split at h
    · rename_i k0 k1 k2 k3 n k5 hs
      simp only [Bool.and_eq_true, decide_eq_true_eq, Bool.not_eq_true'] at h
      obtain ⟨rfl, rfl, h1, rfl, rfl, rfl⟩ := h
      refine ⟨nm, q, ns, bs, bm, sn, sub, ab, col, dd, k0, k1, k2, k3, k5, ?_, h1⟩
      rw [e]
      have : sl = #[k0, k1, k2, k3, some (.builtin "ValueError.__new__"), k5] := by
        apply Array.ext'
        rw [hs]
      rw [this]
    · cases h
  · cases h
theorem val_ok {c : Option PySem.W.CFound} {v : Value} (h : valB c v = true) : c = some (.val v) := by
  unfold valB at h
  split at h
  · rw [of_decide_eq_true h]
  · cases h
/-! ### the Hook -/
def obsF (fa : List Fk) (fn : List He.DefD) (K : PySem.W.Frag) : He.AlD := ((fa.all fun f => f.ok K) && fn.all fun d => d.ok K, fn.map fun d => He.fnW K d.at_)
def SaysF (fa : List Fk) (fn : List He.DefD) (K : PySem.W.Frag) : Prop := obsF fa fn K = He.valD fn
def obsFG (n : Nat) (fa : List Fk) (fn : List He.DefD) (g : Addr → Option Obj) : He.AlD := obsF fa fn (He.frG g (asK g n))
def hookF (n : Nat) (fa : List Fk) (fn : List He.DefD) : PySem.W.Hook where
  α := He.AlD
  obs := fun s => obsFG n fa fn s.heap.get?
  val := fun _ => He.valD fn
  says := fun _ h => ∃ K : PySem.W.Frag, K.In h ∧ SaysF fa fn K
  of := fun _ _ e => ⟨_, He.frG_in, e⟩
  keeps := fun _ _ _ ⟨K, hK, c⟩ k => ⟨K, PySem.W.Frag.In.keeps hK k, c⟩
theorem obsF_eq {n : Nat} {fa : List Fk} {fn : List He.DefD} {g : Addr → Option Obj} {s : Shared} (h : ∀ a, g a = s.heap.get? a) : obsFG n fa fn g = (hookF n fa fn).obs s := by
  have e : g = s.heap.get? := funext h
  rw [e] <;> rfl
section
variable {fa : List Fk} {fn : List He.DefD} {K : PySem.W.Frag} {h : Heap} {mg : Str → Option Value}
theorem SaysF.fact (c : SaysF fa fn K) (f : Fk) (m : f ∈ fa) : f.ok K = true := by
  have c1 := (He.ba (show ((fa.all fun f => f.ok K) && fn.all fun d => d.ok K) = true from congrArg (fun z : He.AlD => z.1) c)).1
  exact List.all_eq_true.mp c1 f m
theorem SaysF.def_ (c : SaysF fa fn K) (i : Nat) {d : He.DefD} (h : fn[i]? = some d := by rfl) : ∃ fd, FunD K d.name d.qual d.params d.body d.scope (d.dvs K) (d.kws K) (He.fAd K d.at_) fd := by
  have c2 := (He.ba (show ((fa.all fun f => f.ok K) && fn.all fun d => d.ok K) = true from congrArg (fun z : He.AlD => z.1) c)).2
  have e : fn.map (fun d => He.fnW K d.at_) = fn.map He.DefD.val := congrArg (fun z : He.AlD => z.2) c
  have e2 : (fn.map fun d => He.fnW K d.at_)[i]? = (fn.map He.DefD.val)[i]? := by rw [e]
  rw [List.getElem?_map, List.getElem?_map, h] at e2
  exact He.DefD.funD (Option.some.inj e2) (List.all_eq_true.mp c2 d (List.mem_of_getElem? h))
/-- a def without defaults -/
theorem fun_of {x qual : Str} {st : Stmt} {f : Addr} {fd : FuncData} (F : FunD K x qual (defArgs st) (defBody st) (defScope st) [] [] f fd) : Fun K x qual st f fd := by
  obtain ⟨oc, od, dV, kV, doc, pm, an, cdv, ct, osl, e, lk, hcd, hD, _⟩ := F.ex
  rcases hD with ⟨_, rfl⟩ | ⟨z, _⟩
  · exact ⟨⟨oc, od, kV, doc, pm, an, cdv, ct, osl, e, lk, hcd⟩, F.kp⟩
  · exact absurd rfl z
theorem glo_ok (X : K.In h) (G : h.Ns mainGlobals mg) {x : Str} (c : (Fk.glo x).ok K = true) : mg x = some (.ref (He.ga K x)) := He.glo_ok X G c
theorem free_ok (X : K.In h) (G : h.Ns mainGlobals mg) {x : Str} (c : (Fk.free x).ok K = true) : mg x = none := He.free_ok X G c
theorem int_ok (X : K.In h) (G : h.Ns mainGlobals mg) {x : Str} {i : Int} (c : (Fk.int x i).ok K = true) : ∃ t, mg x = some (.int i t) := He.int_ok X G c
theorem str_ok (X : K.In h) (G : h.Ns mainGlobals mg) {x z : Str} (c : (Fk.str x z).ok K = true) : ∃ t, mg x = some (.str z t) := He.str_ok X G c
theorem texts_ok (X : K.In h) (G : h.Ns mainGlobals mg) {x : Str} {zs : List Str} (c : (Fk.texts x zs).ok K = true) : ∃ a, mg x = some (.ref a) ∧ ∀ H, SqT K H a (zs.map V.str) := by
  obtain ⟨c1, c2⟩ := He.ba (show ((He.Fa.glo x).ok K && He.tupB K x (zs.map He.Dv.str)) = true from c)
  refine ⟨_, He.glo_ok X G c1, fun H => ?_⟩
  have := He.tupB_ok c2 H
  rw [List.map_map] at this
  exact this
theorem cls_ok {x : Str} (c : (Fk.cls x).ok K = true) : Cls K (He.ga K x) := He.cls_ok c
theorem noat_ok {x f : Str} (c : (Fk.noat x f).ok K = true) : NoAttr K (He.ga K x) f := He.noat_ok c
theorem meth_ok {x m : Str} (c : (Fk.meth x m).ok K = true) : Meth K (He.ga K x) m (He.ma K (He.ga K x) m) := He.meth_ok c
theorem mkr_ok {x : Str} (c : (Fk.mkr x).ok K = true) : Mk K (He.ga K x) (He.ma K (He.ga K x) "__init__") := He.mkr_ok c
theorem keep_ok {x : Str} (c : (Fk.keep x).ok K = true) : PySem.W.keepIn K (.ref (He.ga K x)) = true := He.keep_ok c
theorem si_ok {x : Str} (c : (Fk.si x).ok K = true) : SlX.SIsi K (He.ga K x) := by
  obtain ⟨c1, c⟩ := He.ba c
  obtain ⟨c2, c⟩ := He.ba c
  obtain ⟨c3, c4⟩ := He.ba c
  exact ⟨He.eqO_ok c1, He.eqO_ok c2, of_decide_eq_true c3, of_decide_eq_true c4⟩
theorem own_ok {x : Str} (c : (Fk.own x).ok K = true) : OexC K (He.ga K x) := by
  obtain ⟨c1, c⟩ := He.ba c
  obtain ⟨c2, c⟩ := He.ba c
  obtain ⟨c3, c⟩ := He.ba c
  obtain ⟨c4, c5⟩ := He.ba c
  exact ⟨oex_ok c1, He.eqO_ok c2, of_decide_eq_true c3, of_decide_eq_true c4, c5⟩
theorem base_ok {x : Str} (c : (Fk.base x).ok K = true) : Kx.BaseC K (He.ga K x) := by
  obtain ⟨c1, c⟩ := He.ba c
  obtain ⟨c2, c3⟩ := He.ba c
  exact ⟨He.eqO_ok c1, c2, val_ok c3⟩
theorem fn_ok {x m : Str} (c : (Fk.fn x m).ok K = true) : PySem.W.findIn K (.ref (He.ga K x)) m = some (some (.ref (He.ma K (He.ga K x) m))) ∧ PySem.W.typeIn K (.ref (He.ma K (He.ga K x) m)) = some (.type "function") := by
  obtain ⟨c1, c2⟩ := He.ba c
  exact ⟨He.eqO_ok c1, of_decide_eq_true c2⟩
theorem exm_ok {x y : Str} {b : Bool} (c : (Fk.exm x y b).ok K = true) : PySem.W.exmOne K (.ref (He.ga K x)) (.ref (He.ga K y)) = some b := of_decide_eq_true c
theorem kit_ok {x y : Str} {b : Bool} (c : (Fk.kit x y b).ok K = true) : PySem.W.kitOne K (.ref (He.ga K x)) (.ref (He.ga K y)) = some b := of_decide_eq_true c
theorem err_ok {x : Str} (c : (Fk.err x).ok K = true) : ExcC K (He.ga K x) := by
  obtain ⟨c1, c⟩ := He.ba c
  obtain ⟨c2, c⟩ := He.ba c
  obtain ⟨c3, c⟩ := He.ba c
  obtain ⟨c4, c⟩ := He.ba c
  obtain ⟨c5, c⟩ := He.ba c
  obtain ⟨c6, c⟩ := He.ba c
  obtain ⟨c7, c8⟩ := He.ba c
  exact ⟨He.eqO_ok c1, He.eqO_ok c2, of_decide_eq_true c3, c4, He.eqO_ok c5, He.eqO_ok c6, of_decide_eq_true c7, of_decide_eq_true c8⟩
theorem bltn_ok (X : K.In h) (G : h.Ns mainGlobals mg) {x : Str} {b : String} (c : (Fk.bltn x b).ok K = true) : mg x = some (.builtin b) := PySem.W.mg_of X G (He.eqO_ok c)
theorem exc_ok {x : Str} (c : (Fk.exc x).ok K = true) : PySem.W.excIn K (He.ga K x) [.type "ValueError", .type "Exception", .type "BaseException", .type "object"] "ValueError.__new__" = true ∧ PySem.W.keepIn K (.ref (He.ga K x)) = true ∧ PySem.W.subIn K (.ref (He.ga K x)) (.type "BaseException") = some true ∧ PySem.W.typeIn K (.ref (He.ga K x)) = some (.type "type") := by
  obtain ⟨c1, c⟩ := He.ba c
  obtain ⟨c2, c⟩ := He.ba c
  obtain ⟨c3, c4⟩ := He.ba c
  exact ⟨c1, c2, of_decide_eq_true c3, of_decide_eq_true c4⟩
theorem isf_ok {x m : Str} (c : (Fk.isf x m).ok K = true) : PySem.W.findIn K (.ref (He.ga K x)) m = some (some (.ref (He.ma K (He.ga K x) m))) ∧ PySem.W.isFn K (.ref (He.ma K (He.ga K x) m)) = true := by
  obtain ⟨c1, c2⟩ := He.ba c
  exact ⟨He.eqO_ok c1, c2⟩
theorem kitn_ok {x : Str} (c : (Fk.kitn x).ok K = true) : PySem.W.kitOne K (.type "NoneType") (.ref (He.ga K x)) = some false := of_decide_eq_true c
theorem nums_ok (X : K.In h) (G : h.Ns mainGlobals mg) {x : Str} {kvs : List (Str × Int)} (c : (Fk.nums x kvs).ok K = true) : mg x = some (.ref (He.ga K x)) ∧ ∀ q ∈ kvs, ∃ t, PySem.W.nsIn K (He.ga K x) q.1 = some (some (.int q.2 t)) := by
  obtain ⟨c1, c2⟩ := He.ba (show ((He.Fa.glo x).ok K && He.valsB K (He.ga K x) (kvs.map fun q => (q.1, He.Dv.int q.2))) = true from c)
  refine ⟨He.glo_ok X G c1, fun q hq => ?_⟩
  obtain ⟨u, e, r⟩ := He.valsB_ok c2 (List.mem_map.mpr ⟨q, hq, rfl⟩)
  obtain ⟨t, rfl⟩ : ∃ t, u = Value.int q.2 t := r
  exact ⟨t, e⟩
theorem sfi_ok {x : Str} (c : (Fk.sfi x).ok K = true) : PySem.W.selfFirst K (He.ga K x) = true := c
end
/-- a law's end over such a head; what may leave hangs on the world -/
theorem walk_end {l : PySem.W.OpenLaw} {n k : Nat} {q : Program} {loose : List Str} {XP : (Str → Option Value) → Heap → Prop} {YP : World → Heap → Prop} {d : DefRec} {CX : World → CXT} {x : Str}
    (hn : l.most = some n) (hn2 : n ≤ sizeLine) (hdf : d.params.defaults = []) (hr : Room k callerA)
    (F : ∀ (w : World) (mg : Str → Option Value) (fa : Addr) (h : Heap), YP w h → h.Ns mainGlobals mg → mg d.name = some (.ref fa) →
      ∃ (K : PySem.W.Frag) (fd : FuncData) (sp : Sp), K.In h ∧ (∀ (s : Shared) (u : Value), BindsTo s fd ⟨[u], []⟩ [(x, u)]) ∧
        (∀ (H : Hp) (a : Addr) (ns : List Int), ns.length ≤ n → Only H → SqL K H a (ns.map V.int) → sp [.ref a] H (fun v _ => v = .bl true) fun _ _ _ => False) ∧
        ∀ base : Heap, K.In base → base.Ns mainGlobals mg → FnOk l.prog w K mg base (CX w) k fa fd [x] sp)
    (hCX : ∀ (w : World) (H : Hp) (s : Shared) (e : Value) (s' : Shared), CX w [] H s (fun _ _ _ => False) e s' → False) :
    PySem.W.WalkO q loose XP YP l.row.toRowW d [] (fun f vs => PySem.call f vs) := by
  refine Att.attach_call hn hdf fun w sa sb mg mb fa o pm cd doc a vs ns Gt Yt ho hd hcd hmg hobj hints hlen hg => ?_
  obtain ⟨K, fd, sp, X, hb, hs, hf⟩ := F w mg fa _ Yt Gt.T.g hmg
  have many := Nat.le_trans hlen hn2
  exact law_call X Gt.T.g Gt.T.b Gt.T.builtins Gt.T.nolimit hg hobj hints many hr hf hb (fun H hO hS => hs H a ns hlen hO hS) (fun H e s' => hCX w H sb e s')
end Hk

set_option Elab.async false
set_option linter.all false
set_option maxRecDepth 100000
set_option maxHeartbeats 4000000
/-! A head by facts, and tables with text keys besides. -/
namespace Hk
open PySem PySem.Spec PyProof.Rows L2
def obsT (fa : List Fk) (fn : List He.DefD) (ts : List He.Tab) (K : PySem.W.Frag) : He.AlT := (obsF fa fn K, ts.map fun t => He.dicW K (t.1 K))
def SaysT (fa : List Fk) (fn : List He.DefD) (ts : List He.Tab) (w : World) (K : PySem.W.Frag) : Prop := obsT fa fn ts K = He.valT fn ts w
def obsTG (n : Nat) (fa : List Fk) (fn : List He.DefD) (ts : List He.Tab) (g : Addr → Option Obj) : He.AlT := obsT fa fn ts (He.frG g (asK g n))
def hookT (n : Nat) (fa : List Fk) (fn : List He.DefD) (ts : List He.Tab) : PySem.W.Hook where
  α := He.AlT
  obs := fun s => obsTG n fa fn ts s.heap.get?
  val := fun w => He.valT fn ts w
  says := fun w h => ∃ K : PySem.W.Frag, K.In h ∧ SaysT fa fn ts w K
  of := fun _ _ e => ⟨_, He.frG_in, e⟩
  keeps := fun _ _ _ ⟨K, hK, c⟩ k => ⟨K, PySem.W.Frag.In.keeps hK k, c⟩
theorem obsTG_eq {n : Nat} {fa : List Fk} {fn : List He.DefD} {ts : List He.Tab} {g : Addr → Option Obj} {s : Shared} (h : ∀ a, g a = s.heap.get? a) : obsTG n fa fn ts g = (hookT n fa fn ts).obs s := by
  have e : g = s.heap.get? := funext h
  rw [e] <;> rfl
section
variable {fa : List Fk} {fn : List He.DefD} {ts : List He.Tab} {w : World} {K : PySem.W.Frag}
theorem SaysT.f (c : SaysT fa fn ts w K) : SaysF fa fn K := congrArg (fun z : He.AlT => z.1) c
theorem SaysT.tab (c : SaysT fa fn ts w K) (i : Nat) {t : He.Tab} (h : ts[i]? = some t := by rfl) : ∃ es n, KDict K w (t.1 K) es n ∧ es.toList.map He.keyOf = He.keysIn w.params t.2 := by
  have e : ts.map (fun t => He.dicW K (t.1 K)) = ts.map fun t => some (He.keysIn w.params t.2) := congrArg (fun z : He.AlT => z.2) c
  have e2 : (ts.map fun t => He.dicW K (t.1 K))[i]? = (ts.map fun t => some (He.keysIn w.params t.2))[i]? := by rw [e]
  rw [List.getElem?_map, List.getElem?_map, h] at e2
  have e3 : He.dicW K (t.1 K) = some (He.keysIn w.params t.2) := Option.some.inj e2
  obtain ⟨es, n, D⟩ := He.dicW_ok e3
  refine ⟨es, n, D, ?_⟩
  unfold He.dicW at e3
  rw [D.at_] at e3
  have low := D.low
  simp only [low] at e3
  exact Option.some.inj e3
/-- a text that is no key -/
theorem no_key {d : Addr} {es : Array DictEntry} {n : Nat} (D : KDict K w d es n) {ks : List Str} (h : es.toList.map He.keyOf = He.keysIn w.params ks) {z : Str} (hz : z ∉ ks) : PySem.W.nsIn K d z = some none := by
  have all : ∀ e ∈ es.toList, ∃ x t, e.key = .str x t ∧ x ∈ ks := fun e he => by
    have hm : He.keyOf e ∈ He.keysIn w.params ks := by rw [← h]; exact List.mem_map.mpr ⟨e, he, rfl⟩
    obtain ⟨k, hk, e2⟩ := List.mem_map.mp hm
    unfold He.keyOf at e2
    split at e2
    · rename_i x t q
      have e3 := (Prod.mk.inj (Option.some.inj e2)).1
      exact ⟨x, t, q, e3 ▸ hk⟩
    · cases e2
  unfold PySem.W.nsIn
  rw [D.at_]
  dsimp only
  have hf : es.toList.find? (fun x => x.key.isStr z) = none := by
    rw [List.find?_eq_none]
    intro e he hq
    obtain ⟨x, t, e1, hx⟩ := all e he
    rw [e1] at hq
    have : x = z := by simpa [Value.isStr] using hq
    exact hz (this ▸ hx)
  rw [hf]
  have hr : es.toList.any (fun x => x.refKey) = false := List.any_eq_false.mpr fun e he => by
    obtain ⟨x, t, e1, _⟩ := all e he
    unfold DictEntry.refKey
    rw [e1]
    simp
  rw [hr]
  rfl
end
end Hk

set_option Elab.async false
set_option linter.all false
set_option maxRecDepth 100000
set_option maxHeartbeats 4000000
namespace K0
open PySem PySem.Spec PyProof.Rows L2 Kx Kh Kd
/-! ### the head: facts by names -/
def dd (x : Str) (st : Stmt) : He.DefD := ⟨(x, none), x, x, defArgs st, defBody st, defScope st, [], []⟩
def dm (C x q : Str) (st : Stmt) : He.DefD := ⟨(C, some x), x, q, defArgs st, defBody st, defScope st, [], []⟩
def dRat : He.DefD := ⟨("Ratio", some "__init__"), "__init__", "Ratio.__init__", defArgs sInit, defBody sInit, defScope sInit, [.int 1], []⟩
def fn : List He.DefD := [
  dm "Ratio" "__add__" "Ratio.__add__" sAdd,
  dm "Ratio" "__eq__" "Ratio.__eq__" sEq,
  dm "Ratio" "__str__" "Ratio.__str__" sStr,
  dm "BadPlan" "__init__" "BadPlan.__init__" sBP,
  dm "BadPaper" "__init__" "BadPaper.__init__" sBQ,
  dd "is_made_of" sIM,
  dd "begins_rightly" sBeg,
  dd "is_long_number" sILN,
  dd "fraction_of" sFr,
  dd "is_part" sPt,
  dm "Plan" "__init__" "Plan.__init__" sPI,
  dm "Plan" "entries" "Plan.entries" sPEn,
  dd "are_lots" sLots,
  dd "plan_lines" sPLs,
  dd "entry_line" sEL,
  dd "read_plan" sRP,
  dd "read_entry" sRE,
  dd "view_of" sVO,
  dd "_law_pool" sPool,
  dd "_law_draw" sDraw,
  dd "_law_same" sSame,
  dd "_law_event" sEv,
  dd "_law_less" sRed,
  dd "_law_entries" sEnts,
  dd "_law_text" sTx,
  dd "_law_line" sLn,
  dd "_law_digits" sDg,
  dd "_law_read" sRd,
  dd "_law_good" sGd,
  dd "_law_bad" sBd,
  dd "_law_near" sNe,
  dd "_law_word" sWd,
  dd "_law_changed" sCh,
  dd "law" sLaw,
  dRat]
def evK : List (Str × Int) := [("shown", 1), ("asked", 2), ("did", 1)]
def fa : List Hk.Fk := [
  .glo "is_made_of", .glo "begins_rightly", .glo "is_long_number", .glo "fraction_of", .glo "is_part", .glo "are_lots", .glo "plan_lines", .glo "entry_line", .glo "read_plan", .glo "read_entry", .glo "view_of", .glo "_law_pool", .glo "_law_draw", .glo "_law_same", .glo "_law_event", .glo "_law_less", .glo "_law_entries", .glo "_law_text", .glo "_law_line", .glo "_law_digits", .glo "_law_read", .glo "_law_good", .glo "_law_bad", .glo "_law_near", .glo "_law_word", .glo "_law_changed", .glo "law", .glo "Ratio", .glo "Plan", .glo "LossError", .glo "BadPaper", .glo "BadPlan", .glo "BadRatio", .glo "BadText", .glo "NoPlan", .glo "NoShare", .glo "TooLarge", .free "isinstance", .free "int", .free "str", .free "len", .free "list", .free "tuple", .free "bool", .free "range", .free "abs", .free "zip", .free "sum", .free "set", .free "enumerate", .free "all", .bltn "gcd" "math.gcd", .str "DIGITS" DIG, .int "LONGEST_PART" 60, .nums "EVENTS" evK, .cls "Ratio", .noat "Ratio" "num", .noat "Ratio" "den", .si "Ratio", .sfi "Ratio", .kitn "Ratio", .mkr "Ratio", .meth "Ratio" "__add__", .meth "Ratio" "__eq__", .meth "Ratio" "__str__", .exc "BadRatio", .cls "Plan", .noat "Plan" "_entries", .noat "Plan" "_places", .si "Plan", .mkr "Plan", .meth "Plan" "entries", .base "LossError", .own "BadPlan", .noat "BadPlan" "at", .fn "BadPlan" "__init__", .own "BadPaper", .noat "BadPaper" "at", .fn "BadPaper" "__init__", .err "BadPaper", .exm "BadPaper" "LossError" true, .kit "BadPaper" "BadPlan" false, .kit "BadPaper" "BadRatio" false, .kit "BadPaper" "BadText" false, .kit "BadPaper" "NoPlan" false, .kit "BadPaper" "NoShare" false, .kit "BadPaper" "TooLarge" false]
def ts : List He.Tab := [(fun K => He.ga K "EVENTS", ["shown", "asked", "did"])]
theorem evN_no {z : Str} (h : evN z = none) : z ∉ [("shown" : Str), "asked", "did"] := fun hm => by
  simp only [List.mem_cons, List.not_mem_nil, or_false] at hm
  rcases hm with rfl | rfl | rfl
  · rw [evN_sh] at h; cases h
  · rw [evN_ask] at h; cases h
  · rw [evN_did] at h; cases h
theorem evN_yes {z : Str} {m : Nat} (h : evN z = some m) : (z, (m : Int)) ∈ evK := by
  unfold evN at h
  split at h
  · rename_i e; cases h; rw [e]; decide +kernel
  · split at h
    · rename_i e; cases h; rw [e]; decide +kernel
    · split at h
      · rename_i e; cases h; rw [e]; decide +kernel
      · cases h
theorem facts {P : Program} {w : World} {K : PySem.W.Frag} {h : Heap} {mg : Str → Option Value} {f : Addr} (X : K.In h) (G : h.Ns mainGlobals mg) (hfa : mg ("law" : Str) = some (.ref f)) (ct : Hk.SaysT fa fn ts w K) :
    ∃ fd : FuncData, (∀ (s : Shared) (v : Value), BindsTo s fd ⟨[v], []⟩ [("script", v)]) ∧ ∀ base : Heap, K.In base → base.Ns mainGlobals mg → FnOk P w K mg base CX0 10 f fd ["script"] (spLaw K) := by
  have c := ct.f
  obtain ⟨d0, D0⟩ := c.def_ 0 (d := dm "Ratio" "__add__" "Ratio.__add__" sAdd) rfl
  have F0 : Fun K "__add__" "Ratio.__add__" sAdd (He.ma K (He.ga K "Ratio") "__add__") d0 := Hk.fun_of D0
  have b0 := F0.binds (ps := ["self", "other"]) fun _ _ _ _ _ _ us hl => match us, hl with | [_, _], _ => rfl
  obtain ⟨d1, D1⟩ := c.def_ 1 (d := dm "Ratio" "__eq__" "Ratio.__eq__" sEq) rfl
  have F1 : Fun K "__eq__" "Ratio.__eq__" sEq (He.ma K (He.ga K "Ratio") "__eq__") d1 := Hk.fun_of D1
  have b1 := F1.binds (ps := ["self", "other"]) fun _ _ _ _ _ _ us hl => match us, hl with | [_, _], _ => rfl
  obtain ⟨d2, D2⟩ := c.def_ 2 (d := dm "Ratio" "__str__" "Ratio.__str__" sStr) rfl
  have F2 : Fun K "__str__" "Ratio.__str__" sStr (He.ma K (He.ga K "Ratio") "__str__") d2 := Hk.fun_of D2
  have b2 := F2.binds (ps := ["self"]) fun _ _ _ _ _ _ us hl => match us, hl with | [_], _ => rfl
  obtain ⟨d3, D3⟩ := c.def_ 3 (d := dm "BadPlan" "__init__" "BadPlan.__init__" sBP) rfl
  have F3 : Fun K "__init__" "BadPlan.__init__" sBP (He.ma K (He.ga K "BadPlan") "__init__") d3 := Hk.fun_of D3
  have b3 := F3.binds (ps := ["self", "at"]) fun _ _ _ _ _ _ us hl => match us, hl with | [_, _], _ => rfl
  obtain ⟨d4, D4⟩ := c.def_ 4 (d := dm "BadPaper" "__init__" "BadPaper.__init__" sBQ) rfl
  have F4 : Fun K "__init__" "BadPaper.__init__" sBQ (He.ma K (He.ga K "BadPaper") "__init__") d4 := Hk.fun_of D4
  have b4 := F4.binds (ps := ["self", "at"]) fun _ _ _ _ _ _ us hl => match us, hl with | [_, _], _ => rfl
  obtain ⟨d5, D5⟩ := c.def_ 5 (d := dd "is_made_of" sIM) rfl
  have F5 : Fun K "is_made_of" "is_made_of" sIM (He.ga K "is_made_of") d5 := Hk.fun_of D5
  have b5 := F5.binds (ps := ["word", "signs"]) fun _ _ _ _ _ _ us hl => match us, hl with | [_, _], _ => rfl
  have g5 : mg "is_made_of" = some (.ref (He.ga K "is_made_of")) := Hk.glo_ok X G (c.fact (.glo "is_made_of") (by decide +kernel))
  obtain ⟨d6, D6⟩ := c.def_ 6 (d := dd "begins_rightly" sBeg) rfl
  have F6 : Fun K "begins_rightly" "begins_rightly" sBeg (He.ga K "begins_rightly") d6 := Hk.fun_of D6
  have b6 := F6.binds (ps := ["word"]) fun _ _ _ _ _ _ us hl => match us, hl with | [_], _ => rfl
  have g6 : mg "begins_rightly" = some (.ref (He.ga K "begins_rightly")) := Hk.glo_ok X G (c.fact (.glo "begins_rightly") (by decide +kernel))
  obtain ⟨d7, D7⟩ := c.def_ 7 (d := dd "is_long_number" sILN) rfl
  have F7 : Fun K "is_long_number" "is_long_number" sILN (He.ga K "is_long_number") d7 := Hk.fun_of D7
  have b7 := F7.binds (ps := ["word"]) fun _ _ _ _ _ _ us hl => match us, hl with | [_], _ => rfl
  have g7 : mg "is_long_number" = some (.ref (He.ga K "is_long_number")) := Hk.glo_ok X G (c.fact (.glo "is_long_number") (by decide +kernel))
  obtain ⟨d8, D8⟩ := c.def_ 8 (d := dd "fraction_of" sFr) rfl
  have F8 : Fun K "fraction_of" "fraction_of" sFr (He.ga K "fraction_of") d8 := Hk.fun_of D8
  have b8 := F8.binds (ps := ["word"]) fun _ _ _ _ _ _ us hl => match us, hl with | [_], _ => rfl
  have g8 : mg "fraction_of" = some (.ref (He.ga K "fraction_of")) := Hk.glo_ok X G (c.fact (.glo "fraction_of") (by decide +kernel))
  obtain ⟨d9, D9⟩ := c.def_ 9 (d := dd "is_part" sPt) rfl
  have F9 : Fun K "is_part" "is_part" sPt (He.ga K "is_part") d9 := Hk.fun_of D9
  have b9 := F9.binds (ps := ["word"]) fun _ _ _ _ _ _ us hl => match us, hl with | [_], _ => rfl
  have g9 : mg "is_part" = some (.ref (He.ga K "is_part")) := Hk.glo_ok X G (c.fact (.glo "is_part") (by decide +kernel))
  obtain ⟨d10, D10⟩ := c.def_ 10 (d := dm "Plan" "__init__" "Plan.__init__" sPI) rfl
  have F10 : Fun K "__init__" "Plan.__init__" sPI (He.ma K (He.ga K "Plan") "__init__") d10 := Hk.fun_of D10
  have b10 := F10.binds (ps := ["self", "entries"]) fun _ _ _ _ _ _ us hl => match us, hl with | [_, _], _ => rfl
  obtain ⟨d11, D11⟩ := c.def_ 11 (d := dm "Plan" "entries" "Plan.entries" sPEn) rfl
  have F11 : Fun K "entries" "Plan.entries" sPEn (He.ma K (He.ga K "Plan") "entries") d11 := Hk.fun_of D11
  have b11 := F11.binds (ps := ["self"]) fun _ _ _ _ _ _ us hl => match us, hl with | [_], _ => rfl
  obtain ⟨d12, D12⟩ := c.def_ 12 (d := dd "are_lots" sLots) rfl
  have F12 : Fun K "are_lots" "are_lots" sLots (He.ga K "are_lots") d12 := Hk.fun_of D12
  have b12 := F12.binds (ps := ["ratios"]) fun _ _ _ _ _ _ us hl => match us, hl with | [_], _ => rfl
  have g12 : mg "are_lots" = some (.ref (He.ga K "are_lots")) := Hk.glo_ok X G (c.fact (.glo "are_lots") (by decide +kernel))
  obtain ⟨d13, D13⟩ := c.def_ 13 (d := dd "plan_lines" sPLs) rfl
  have F13 : Fun K "plan_lines" "plan_lines" sPLs (He.ga K "plan_lines") d13 := Hk.fun_of D13
  have b13 := F13.binds (ps := ["plan"]) fun _ _ _ _ _ _ us hl => match us, hl with | [_], _ => rfl
  have g13 : mg "plan_lines" = some (.ref (He.ga K "plan_lines")) := Hk.glo_ok X G (c.fact (.glo "plan_lines") (by decide +kernel))
  obtain ⟨d14, D14⟩ := c.def_ 14 (d := dd "entry_line" sEL) rfl
  have F14 : Fun K "entry_line" "entry_line" sEL (He.ga K "entry_line") d14 := Hk.fun_of D14
  have b14 := F14.binds (ps := ["view", "lots"]) fun _ _ _ _ _ _ us hl => match us, hl with | [_, _], _ => rfl
  have g14 : mg "entry_line" = some (.ref (He.ga K "entry_line")) := Hk.glo_ok X G (c.fact (.glo "entry_line") (by decide +kernel))
  obtain ⟨d15, D15⟩ := c.def_ 15 (d := dd "read_plan" sRP) rfl
  have F15 : Fun K "read_plan" "read_plan" sRP (He.ga K "read_plan") d15 := Hk.fun_of D15
  have b15 := F15.binds (ps := ["lines"]) fun _ _ _ _ _ _ us hl => match us, hl with | [_], _ => rfl
  have g15 : mg "read_plan" = some (.ref (He.ga K "read_plan")) := Hk.glo_ok X G (c.fact (.glo "read_plan") (by decide +kernel))
  obtain ⟨d16, D16⟩ := c.def_ 16 (d := dd "read_entry" sRE) rfl
  have F16 : Fun K "read_entry" "read_entry" sRE (He.ga K "read_entry") d16 := Hk.fun_of D16
  have b16 := F16.binds (ps := ["line", "at"]) fun _ _ _ _ _ _ us hl => match us, hl with | [_, _], _ => rfl
  have g16 : mg "read_entry" = some (.ref (He.ga K "read_entry")) := Hk.glo_ok X G (c.fact (.glo "read_entry") (by decide +kernel))
  obtain ⟨d17, D17⟩ := c.def_ 17 (d := dd "view_of" sVO) rfl
  have F17 : Fun K "view_of" "view_of" sVO (He.ga K "view_of") d17 := Hk.fun_of D17
  have b17 := F17.binds (ps := ["words"]) fun _ _ _ _ _ _ us hl => match us, hl with | [_], _ => rfl
  have g17 : mg "view_of" = some (.ref (He.ga K "view_of")) := Hk.glo_ok X G (c.fact (.glo "view_of") (by decide +kernel))
  obtain ⟨d18, D18⟩ := c.def_ 18 (d := dd "_law_pool" sPool) rfl
  have F18 : Fun K "_law_pool" "_law_pool" sPool (He.ga K "_law_pool") d18 := Hk.fun_of D18
  have b18 := F18.binds (ps := ["script", "budget"]) fun _ _ _ _ _ _ us hl => match us, hl with | [_, _], _ => rfl
  have g18 : mg "_law_pool" = some (.ref (He.ga K "_law_pool")) := Hk.glo_ok X G (c.fact (.glo "_law_pool") (by decide +kernel))
  obtain ⟨d19, D19⟩ := c.def_ 19 (d := dd "_law_draw" sDraw) rfl
  have F19 : Fun K "_law_draw" "_law_draw" sDraw (He.ga K "_law_draw") d19 := Hk.fun_of D19
  have b19 := F19.binds (ps := ["pool", "size"]) fun _ _ _ _ _ _ us hl => match us, hl with | [_, _], _ => rfl
  have g19 : mg "_law_draw" = some (.ref (He.ga K "_law_draw")) := Hk.glo_ok X G (c.fact (.glo "_law_draw") (by decide +kernel))
  obtain ⟨d20, D20⟩ := c.def_ 20 (d := dd "_law_same" sSame) rfl
  have F20 : Fun K "_law_same" "_law_same" sSame (He.ga K "_law_same") d20 := Hk.fun_of D20
  have b20 := F20.binds (ps := ["actual", "due"]) fun _ _ _ _ _ _ us hl => match us, hl with | [_, _], _ => rfl
  have g20 : mg "_law_same" = some (.ref (He.ga K "_law_same")) := Hk.glo_ok X G (c.fact (.glo "_law_same") (by decide +kernel))
  obtain ⟨d21, D21⟩ := c.def_ 21 (d := dd "_law_event" sEv) rfl
  have F21 : Fun K "_law_event" "_law_event" sEv (He.ga K "_law_event") d21 := Hk.fun_of D21
  have b21 := F21.binds (ps := ["pool"]) fun _ _ _ _ _ _ us hl => match us, hl with | [_], _ => rfl
  have g21 : mg "_law_event" = some (.ref (He.ga K "_law_event")) := Hk.glo_ok X G (c.fact (.glo "_law_event") (by decide +kernel))
  obtain ⟨d22, D22⟩ := c.def_ 22 (d := dd "_law_less" sRed) rfl
  have F22 : Fun K "_law_less" "_law_less" sRed (He.ga K "_law_less") d22 := Hk.fun_of D22
  have b22 := F22.binds (ps := ["num", "den"]) fun _ _ _ _ _ _ us hl => match us, hl with | [_, _], _ => rfl
  have g22 : mg "_law_less" = some (.ref (He.ga K "_law_less")) := Hk.glo_ok X G (c.fact (.glo "_law_less") (by decide +kernel))
  obtain ⟨d23, D23⟩ := c.def_ 23 (d := dd "_law_entries" sEnts) rfl
  have F23 : Fun K "_law_entries" "_law_entries" sEnts (He.ga K "_law_entries") d23 := Hk.fun_of D23
  have b23 := F23.binds (ps := ["pool"]) fun _ _ _ _ _ _ us hl => match us, hl with | [_], _ => rfl
  have g23 : mg "_law_entries" = some (.ref (He.ga K "_law_entries")) := Hk.glo_ok X G (c.fact (.glo "_law_entries") (by decide +kernel))
  obtain ⟨d24, D24⟩ := c.def_ 24 (d := dd "_law_text" sTx) rfl
  have F24 : Fun K "_law_text" "_law_text" sTx (He.ga K "_law_text") d24 := Hk.fun_of D24
  have b24 := F24.binds (ps := ["pair"]) fun _ _ _ _ _ _ us hl => match us, hl with | [_], _ => rfl
  have g24 : mg "_law_text" = some (.ref (He.ga K "_law_text")) := Hk.glo_ok X G (c.fact (.glo "_law_text") (by decide +kernel))
  obtain ⟨d25, D25⟩ := c.def_ 25 (d := dd "_law_line" sLn) rfl
  have F25 : Fun K "_law_line" "_law_line" sLn (He.ga K "_law_line") d25 := Hk.fun_of D25
  have b25 := F25.binds (ps := ["entry"]) fun _ _ _ _ _ _ us hl => match us, hl with | [_], _ => rfl
  have g25 : mg "_law_line" = some (.ref (He.ga K "_law_line")) := Hk.glo_ok X G (c.fact (.glo "_law_line") (by decide +kernel))
  obtain ⟨d26, D26⟩ := c.def_ 26 (d := dd "_law_digits" sDg) rfl
  have F26 : Fun K "_law_digits" "_law_digits" sDg (He.ga K "_law_digits") d26 := Hk.fun_of D26
  have b26 := F26.binds (ps := ["word"]) fun _ _ _ _ _ _ us hl => match us, hl with | [_], _ => rfl
  have g26 : mg "_law_digits" = some (.ref (He.ga K "_law_digits")) := Hk.glo_ok X G (c.fact (.glo "_law_digits") (by decide +kernel))
  obtain ⟨d27, D27⟩ := c.def_ 27 (d := dd "_law_read" sRd) rfl
  have F27 : Fun K "_law_read" "_law_read" sRd (He.ga K "_law_read") d27 := Hk.fun_of D27
  have b27 := F27.binds (ps := ["word"]) fun _ _ _ _ _ _ us hl => match us, hl with | [_], _ => rfl
  have g27 : mg "_law_read" = some (.ref (He.ga K "_law_read")) := Hk.glo_ok X G (c.fact (.glo "_law_read") (by decide +kernel))
  obtain ⟨d28, D28⟩ := c.def_ 28 (d := dd "_law_good" sGd) rfl
  have F28 : Fun K "_law_good" "_law_good" sGd (He.ga K "_law_good") d28 := Hk.fun_of D28
  have b28 := F28.binds (ps := ["words"]) fun _ _ _ _ _ _ us hl => match us, hl with | [_], _ => rfl
  have g28 : mg "_law_good" = some (.ref (He.ga K "_law_good")) := Hk.glo_ok X G (c.fact (.glo "_law_good") (by decide +kernel))
  obtain ⟨d29, D29⟩ := c.def_ 29 (d := dd "_law_bad" sBd) rfl
  have F29 : Fun K "_law_bad" "_law_bad" sBd (He.ga K "_law_bad") d29 := Hk.fun_of D29
  have b29 := F29.binds (ps := ["lines"]) fun _ _ _ _ _ _ us hl => match us, hl with | [_], _ => rfl
  have g29 : mg "_law_bad" = some (.ref (He.ga K "_law_bad")) := Hk.glo_ok X G (c.fact (.glo "_law_bad") (by decide +kernel))
  obtain ⟨d30, D30⟩ := c.def_ 30 (d := dd "_law_near" sNe) rfl
  have F30 : Fun K "_law_near" "_law_near" sNe (He.ga K "_law_near") d30 := Hk.fun_of D30
  have b30 := F30.binds (ps := ["pool", "word"]) fun _ _ _ _ _ _ us hl => match us, hl with | [_, _], _ => rfl
  have g30 : mg "_law_near" = some (.ref (He.ga K "_law_near")) := Hk.glo_ok X G (c.fact (.glo "_law_near") (by decide +kernel))
  obtain ⟨d31, D31⟩ := c.def_ 31 (d := dd "_law_word" sWd) rfl
  have F31 : Fun K "_law_word" "_law_word" sWd (He.ga K "_law_word") d31 := Hk.fun_of D31
  have b31 := F31.binds (ps := ["pool", "words"]) fun _ _ _ _ _ _ us hl => match us, hl with | [_, _], _ => rfl
  have g31 : mg "_law_word" = some (.ref (He.ga K "_law_word")) := Hk.glo_ok X G (c.fact (.glo "_law_word") (by decide +kernel))
  obtain ⟨d32, D32⟩ := c.def_ 32 (d := dd "_law_changed" sCh) rfl
  have F32 : Fun K "_law_changed" "_law_changed" sCh (He.ga K "_law_changed") d32 := Hk.fun_of D32
  have b32 := F32.binds (ps := ["pool", "lines"]) fun _ _ _ _ _ _ us hl => match us, hl with | [_, _], _ => rfl
  have g32 : mg "_law_changed" = some (.ref (He.ga K "_law_changed")) := Hk.glo_ok X G (c.fact (.glo "_law_changed") (by decide +kernel))
  obtain ⟨d33, D33⟩ := c.def_ 33 (d := dd "law" sLaw) rfl
  have F33 : Fun K "law" "law" sLaw (He.ga K "law") d33 := Hk.fun_of D33
  have b33 := F33.binds (ps := ["script"]) fun _ _ _ _ _ _ us hl => match us, hl with | [_], _ => rfl
  have g33 : mg "law" = some (.ref (He.ga K "law")) := Hk.glo_ok X G (c.fact (.glo "law") (by decide +kernel))
  obtain ⟨dR, DR⟩ := c.def_ 34 (d := dRat) rfl
  have FR0 : FunD K "__init__" "Ratio.__init__" (defArgs sInit) (defBody sInit) (defScope sInit) [.int 1] [] (He.ma K (He.ga K "Ratio") "__init__") dR := DR
  have bR : L2.Binds K dR ["self", "num", "den"] [] := by
    obtain ⟨ds, v, b⟩ := FR0.binds1 (ps := ["self", "num", "den"]) 3 1 (fun z => nomatch z) rfl fun T kV doc pm an cdv ct us its hl hi => match us, its, hl, hi with | [_, _, _], [_], _, _ => ⟨_, rfl, rfl⟩
    have e := v.zero
    subst e
    exact b
  obtain ⟨ds1, v1, b1'⟩ := FR0.binds1 (ps := ["self", "num", "den"]) 2 0 (fun z => nomatch z) rfl fun T kV doc pm an cdv ct us its hl hi => match us, its, hl, hi with | [_, _], [_], _, _ => ⟨_, rfl, rfl⟩
  obtain ⟨x1, x2, x3, x4⟩ := Hk.exc_ok (c.fact (.exc "BadRatio") (by decide +kernel))
  have T : Txt K mg (He.ga K "Ratio") (He.ga K "BadRatio") := ⟨Hk.cls_ok (c.fact (.cls "Ratio") (by decide +kernel)), Hk.noat_ok (c.fact (.noat "Ratio" "num") (by decide +kernel)), Hk.noat_ok (c.fact (.noat "Ratio" "den") (by decide +kernel)), Hk.glo_ok X G (c.fact (.glo "Ratio") (by decide +kernel)), Hk.si_ok (c.fact (.si "Ratio") (by decide +kernel)), Hk.bltn_ok X G (c.fact (.bltn "gcd" "math.gcd") (by decide +kernel)), Hk.glo_ok X G (c.fact (.glo "BadRatio") (by decide +kernel)), x1, x2, x3, x4, Hk.free_ok X G (c.fact (.free "isinstance") (by decide +kernel)), Hk.free_ok X G (c.fact (.free "int") (by decide +kernel)), Hk.free_ok X G (c.fact (.free "str") (by decide +kernel)), Hk.free_ok X G (c.fact (.free "len") (by decide +kernel)), Hk.free_ok X G (c.fact (.free "list") (by decide +kernel)), Hk.free_ok X G (c.fact (.free "tuple") (by decide +kernel)), Hk.free_ok X G (c.fact (.free "bool") (by decide +kernel)), Hk.free_ok X G (c.fact (.free "range") (by decide +kernel)), Hk.free_ok X G (c.fact (.free "abs") (by decide +kernel))⟩
  have TL : TxL mg := ⟨Hk.free_ok X G (c.fact (.free "isinstance") (by decide +kernel)), Hk.free_ok X G (c.fact (.free "int") (by decide +kernel)), Hk.free_ok X G (c.fact (.free "str") (by decide +kernel)), Hk.free_ok X G (c.fact (.free "len") (by decide +kernel)), Hk.free_ok X G (c.fact (.free "list") (by decide +kernel)), Hk.free_ok X G (c.fact (.free "tuple") (by decide +kernel)), Hk.free_ok X G (c.fact (.free "bool") (by decide +kernel)), Hk.free_ok X G (c.fact (.free "range") (by decide +kernel))⟩
  have TW : TxW mg := ⟨Hk.str_ok X G (c.fact (.str "DIGITS" DIG) (by decide +kernel)), Hk.int_ok X G (c.fact (.int "LONGEST_PART" 60) (by decide +kernel)), Hk.free_ok X G (c.fact (.free "all") (by decide +kernel)), Hk.free_ok X G (c.fact (.free "len") (by decide +kernel)), Hk.free_ok X G (c.fact (.free "int") (by decide +kernel)), Hk.free_ok X G (c.fact (.free "str") (by decide +kernel))⟩
  have TP : TxP K mg (He.ga K "Plan") := ⟨Hk.cls_ok (c.fact (.cls "Plan") (by decide +kernel)), Hk.noat_ok (c.fact (.noat "Plan" "_entries") (by decide +kernel)), Hk.noat_ok (c.fact (.noat "Plan" "_places") (by decide +kernel)), Hk.glo_ok X G (c.fact (.glo "Plan") (by decide +kernel)), Hk.si_ok (c.fact (.si "Plan") (by decide +kernel)), Hk.free_ok X G (c.fact (.free "isinstance") (by decide +kernel)), Hk.free_ok X G (c.fact (.free "list") (by decide +kernel)), Hk.free_ok X G (c.fact (.free "tuple") (by decide +kernel)), Hk.free_ok X G (c.fact (.free "len") (by decide +kernel)), Hk.free_ok X G (c.fact (.free "range") (by decide +kernel)), Hk.free_ok X G (c.fact (.free "zip") (by decide +kernel))⟩
  obtain ⟨iTB, tTB⟩ := Hk.fn_ok (c.fact (.fn "BadPlan" "__init__") (by decide +kernel))
  have TB : TxB K mg (He.ga K "LossError") (He.ga K "BadPlan") (He.ma K (He.ga K "BadPlan") "__init__") := ⟨Hk.glo_ok X G (c.fact (.glo "LossError") (by decide +kernel)), Hk.glo_ok X G (c.fact (.glo "BadPlan") (by decide +kernel)), Hk.base_ok (c.fact (.base "LossError") (by decide +kernel)), Hk.own_ok (c.fact (.own "BadPlan") (by decide +kernel)), Hk.noat_ok (c.fact (.noat "BadPlan" "at") (by decide +kernel)), iTB, tTB⟩
  obtain ⟨iTQ, tTQ⟩ := Hk.fn_ok (c.fact (.fn "BadPaper" "__init__") (by decide +kernel))
  have TQ : TxQ K mg (He.ga K "LossError") (He.ga K "BadPaper") (He.ma K (He.ga K "BadPaper") "__init__") := ⟨Hk.glo_ok X G (c.fact (.glo "LossError") (by decide +kernel)), Hk.glo_ok X G (c.fact (.glo "BadPaper") (by decide +kernel)), Hk.base_ok (c.fact (.base "LossError") (by decide +kernel)), Hk.own_ok (c.fact (.own "BadPaper") (by decide +kernel)), Hk.noat_ok (c.fact (.noat "BadPaper" "at") (by decide +kernel)), iTQ, tTQ⟩
  obtain ⟨esE, nE, DE0, hkE⟩ := ct.tab 0 rfl
  obtain ⟨gE0, hyE⟩ := Hk.nums_ok X G (c.fact (.nums "EVENTS" evK) (by decide +kernel))
  have TE : TxE K w mg (He.ga K "EVENTS") esE nE := ⟨gE0, DE0, fun z hz => Hk.no_key DE0 hkE (evN_no hz), fun z m hz => hyE _ (evN_yes hz)⟩
  have hb : ∀ (s : Shared) (v : Value), BindsTo s d33 ⟨[v], []⟩ [("script", v)] := by
    obtain ⟨oc, od, kV, doc, pm, an, cdv, ct, osl, e, _, _⟩ := F33.ex
    intro s v
    rw [e]
    exact .of_eq rfl
  have e := hfa.symm.trans g33
  cases e
  refine ⟨d33, fun s v => hb s v, fun base _ _ => ?_⟩
  have MR := Hk.mkr_ok (c.fact (.mkr "Ratio") (by decide +kernel))
  have GR := ok_init (P := P) (w := w) (base := base) FR0 T
  obtain ⟨aA, iA, _⟩ := Hk.meth_ok (c.fact (.meth "Ratio" "__add__") (by decide +kernel))
  obtain ⟨aE, iE, _⟩ := Hk.meth_ok (c.fact (.meth "Ratio" "__eq__") (by decide +kernel))
  obtain ⟨aS, iS, _⟩ := Hk.meth_ok (c.fact (.meth "Ratio" "__str__") (by decide +kernel))
  have GA := ok_add (P := P) (w := w) (base := base) F0 T MR GR bR
  have GE := ok_eq (P := P) (w := w) (base := base) F1 T
  have GEN := ok_eqN (P := P) (w := w) (base := base) F1 T (Hk.kitn_ok (c.fact (.kitn "Ratio") (by decide +kernel)))
  have GS := ok_str (P := P) (w := w) (base := base) F2 T
  have GL := ok_lots (P := P) (w := w) (base := base) F12 T MR (Hk.sfi_ok (c.fact (.sfi "Ratio") (by decide +kernel))) GR b1' v1 GA aA iA b0 GE aE iE b1
  have MI := Hk.mkr_ok (c.fact (.mkr "Plan") (by decide +kernel))
  have GB := ok_bp (P := P) (w := w) (base := base) F3 TB
  have GQ0 := ok_bq (P := P) (w := w) (base := base) F4 TQ
  have GI := ok_pinit (P := P) (w := w) (base := base) F10 TP TB GB b3 GL g12 F12.kp b12
  have GN := ok_pent (P := P) (w := w) (base := base) (C := He.ga K "Ratio") F11 TP
  have mN := Hk.meth_ok (c.fact (.meth "Plan" "entries") (by decide +kernel))
  have GIM := ok_im (P := P) (w := w) (base := base) F5 TW
  have GBG := ok_beg (P := P) (w := w) (base := base) (mg := mg) F6
  have GPT := ok_part (P := P) (w := w) (base := base) F9 TW GIM g5 F5.kp b5
  have LN1 : Fn0 P w K mg base 3 "is_long_number" ["word"] (spB longB sizeLine) _ _ := ⟨ok_long F7 GPT g9 F9.kp b9 GBG g6 F6.kp b6, g7, F7.kp, b7⟩
  have FR1 : Fn0 P w K mg base 4 "fraction_of" ["word"] (spFr (He.ga K "Ratio")) _ _ := ⟨ok_frac F8 T TW GPT g9 F9.kp b9 MR GR bR GS aS iS b2, g8, F8.kp, b8⟩
  have VO1 : Fn0 P w K mg base 4 "view_of" ["words"] spVO _ _ := ⟨ok_vo F17 TW TL.tuple TE LN1, g17, F17.kp, b17⟩
  have LO1 : Fn0 P w K mg base 4 "are_lots" ["ratios"] (spLots K (He.ga K "Ratio")) _ _ := ⟨GL, g12, F12.kp, b12⟩
  have GRE := ok_re (P := P) (w := w) (base := base) F16 TQ GQ0 b4 VO1 FR1 LO1 GEN aE iE b1
  have GRP := ok_rp (P := P) (w := w) (base := base) F15 TP (Hk.free_ok X G (c.fact (.free "set") (by decide +kernel))) (Hk.free_ok X G (c.fact (.free "enumerate") (by decide +kernel))) TQ GQ0 b4 GRE g16 F16.kp b16 MI GI b10
  have EL1 : Fn0 P w K mg base 4 "entry_line" ["view", "lots"] (spEL (He.ga K "Ratio")) _ _ := ⟨ok_el F14 TW GS aS iS b2, g14, F14.kp, b14⟩
  have PL1 : Fn0 P w K mg base 5 "plan_lines" ["plan"] (spPLs K (He.ga K "Ratio") (He.ga K "Plan")) _ _ := ⟨ok_pls F13 TP GN mN b11 EL1, g13, F13.kp, b13⟩
  have PO1 : Fn0 P w K mg base 1 "_law_pool" ["script", "budget"] (spPool K) _ _ := ⟨ok_pool F18 TL, g18, F18.kp, b18⟩
  have DR1 : Fn0 P w K mg base 1 "_law_draw" ["pool", "size"] spDraw _ _ := ⟨ok_draw F19 TL, g19, F19.kp, b19⟩
  have SAa : ∀ n : Nat, Fn0 P w K mg base (n + 1) "_law_same" ["actual", "due"] (spSame n) (He.ga K "_law_same") d20 := fun n => by
    induction n with
    | zero => exact ⟨ok_same0 F20 TL, g20, F20.kp, b20⟩
    | succ n ih => exact ⟨ok_sameS F20 TL ih, g20, F20.kp, b20⟩
  have RD1 : Fn0 P w K mg base 1 "_law_less" ["num", "den"] spRed _ _ := ⟨ok_red F22 T, g22, F22.kp, b22⟩
  have EV1 : Fn0 P w K mg base 2 "_law_event" ["pool"] spEv _ _ := ⟨ok_ev F21 DR1, g21, F21.kp, b21⟩
  have ES1 : Fn0 P w K mg base 4 "_law_entries" ["pool"] spEnts _ _ := ⟨ok_ents F23 TL (Hk.free_ok X G (c.fact (.free "sum") (by decide +kernel))) DR1 EV1 RD1, g23, F23.kp, b23⟩
  have TX1 : Fn0 P w K mg base 1 "_law_text" ["pair"] spTx _ _ := ⟨ok_tx F24 TW, g24, F24.kp, b24⟩
  have LI1 : Fn0 P w K mg base 2 "_law_line" ["entry"] spLn _ _ := ⟨ok_ln F25 TW TX1, g25, F25.kp, b25⟩
  have DG1 : Fn0 P w K mg base 1 "_law_digits" ["word"] spDg _ _ := ⟨ok_dg F26 TL, g26, F26.kp, b26⟩
  have RR1 : Fn0 P w K mg base 2 "_law_read" ["word"] spRd _ _ := ⟨ok_rd F27 TL DG1 RD1, g27, F27.kp, b27⟩
  have GD1 : Fn0 P w K mg base 3 "_law_good" ["words"] spGd _ _ := ⟨ok_gd F28 TL (Hk.free_ok X G (c.fact (.free "sum") (by decide +kernel))) DG1 RR1, g28, F28.kp, b28⟩
  have BD1 : Fn0 P w K mg base 4 "_law_bad" ["lines"] spBd _ _ := ⟨ok_bd F29 TL GD1, g29, F29.kp, b29⟩
  have NE1 : Fn0 P w K mg base 2 "_law_near" ["pool", "word"] spNear _ _ := ⟨ok_near F30 TL DR1, g30, F30.kp, b30⟩
  have WD1 : Fn0 P w K mg base 3 "_law_word" ["pool", "words"] spWd _ _ := ⟨ok_word F31 TL DR1 NE1, g31, F31.kp, b31⟩
  have CH1 : Fn0 P w K mg base 4 "_law_changed" ["pool", "lines"] spCh _ _ := ⟨ok_ch F32 TL DR1 WD1, g32, F32.kp, b32⟩
  have TE7 : TxE71 K mg (He.ga K "BadPaper") (He.ga K "LossError") (He.ga K "BadPlan") (He.ga K "BadRatio") (He.ga K "BadText") (He.ga K "NoPlan") (He.ga K "NoShare") (He.ga K "TooLarge") := ⟨Hk.err_ok (c.fact (.err "BadPaper") (by decide +kernel)), TQ.nB, TQ.mgL, Hk.exm_ok (c.fact (.exm "BadPaper" "LossError" true) (by decide +kernel)), TQ.mgB, Hk.glo_ok X G (c.fact (.glo "BadPlan") (by decide +kernel)), Hk.glo_ok X G (c.fact (.glo "BadRatio") (by decide +kernel)), Hk.glo_ok X G (c.fact (.glo "BadText") (by decide +kernel)), Hk.glo_ok X G (c.fact (.glo "NoPlan") (by decide +kernel)), Hk.glo_ok X G (c.fact (.glo "NoShare") (by decide +kernel)), Hk.glo_ok X G (c.fact (.glo "TooLarge") (by decide +kernel)), Hk.kit_ok (c.fact (.kit "BadPaper" "BadPlan" false) (by decide +kernel)), Hk.kit_ok (c.fact (.kit "BadPaper" "BadRatio" false) (by decide +kernel)), Hk.kit_ok (c.fact (.kit "BadPaper" "BadText" false) (by decide +kernel)), Hk.kit_ok (c.fact (.kit "BadPaper" "NoPlan" false) (by decide +kernel)), Hk.kit_ok (c.fact (.kit "BadPaper" "NoShare" false) (by decide +kernel)), Hk.kit_ok (c.fact (.kit "BadPaper" "TooLarge" false) (by decide +kernel))⟩
  have B : LB P w K mg base (He.ga K "Ratio") (He.ga K "Plan") (He.ga K "BadPaper") (He.ga K "LossError") (He.ga K "BadPlan") (He.ga K "BadRatio") (He.ga K "BadText") (He.ga K "NoPlan") (He.ga K "NoShare") (He.ga K "TooLarge") (He.ga K "read_plan") d15 (He.ga K "_law_pool") (He.ga K "_law_entries") (He.ga K "_law_line") (He.ga K "plan_lines") (He.ga K "_law_same") (He.ga K "_law_changed") (He.ga K "_law_bad") d18 d23 d25 d13 d20 d32 d29 :=
    { TL := TL, TE := TE7, GQ := GRP, gQ := g15, kQ := F15.kp, bQ := b15, Po := PO1, Es := ES1, Ln := LI1, Pl := PL1, Sa := SAa 1, SH := ok_sameH F20 TL, Ch := CH1, Bd := BD1 }
  exact ok_law F33 B
end K0

set_option Elab.async false
set_option linter.all false
set_option maxRecDepth 100000
set_option maxHeartbeats 0
namespace K0
open PySem PySem.Spec PyProof.Rows L2
/-! ### the run: it asks the world for one habit, which is either way -/
def habit : String := "special-get-raises"
def setF (b : Bool) (w : World) : World := { w with params := { w.params with followText := fun s => if s = habit then b else w.params.followText s } }
theorem setF_eq {b : Bool} {w : World} (h : w.params.followText habit = b) : setF b w = w := by
  have hf : (fun s => if s = habit then b else w.params.followText s) = w.params.followText := funext fun s => by
    by_cases e : s = habit
    · rw [if_pos e, e]
      exact h.symm
    · rw [if_neg e]
  unfold setF
  rw [hf]
abbrev R : PySem.W.OpenRow := PySem.W.OpenLaw.row PySem.Challenge.rw_lostleast_k71_whole_lines_of_plans_are_r
abbrev hk : PySem.W.Hook := Hk.hookT 6 fa fn ts
def ob (s : PySem.W.SharedT) : He.AlT := Hk.obsTG 6 fa fn ts (HandSHeadRun.getT s)
theorem ob_eq (s : PySem.W.SharedT) : ob s = hk.obs s.abs := Hk.obsTG_eq (HandSHeadRun.getT_eq s)
def loose1 : List Str := ["LossError", "BadText", "BadPlan", "BadPaper", "NoShare", "TooLarge", "NoPlan", "BadRatio", "Ratio", "DIGITS", "LONGEST_PART", "is_made_of", "begins_rightly", "is_long_number", "fraction_of", "is_part", "Plan", "are_lots", "EVENTS", "plan_lines", "entry_line", "read_plan", "read_entry", "view_of"]
def loose2 : List Str := ["_law_pool", "_law_draw", "_law_same", "_law_event", "_law_less", "_law_entries", "_law_text", "_law_line", "_law_digits", "_law_read", "_law_good", "_law_bad", "_law_near", "_law_word", "_law_changed"]
end K0

set_option Elab.async false
set_option linter.all false
set_option maxRecDepth 100000
set_option maxHeartbeats 0
namespace K0
open PySem PySem.Spec PyProof.Rows L2
theorem hrun_true (w : World) : HandSHeadRun.RunEqI R (PySem.W.view R.prog [0, 1, 47]) hk ob 6000 (loose1 ++ loose2) (setF true w) := by
  unfold HandSHeadRun.RunEqI
  kernel_rfl
end K0

set_option Elab.async false
set_option linter.all false
set_option maxRecDepth 100000
set_option maxHeartbeats 0
namespace K0
open PySem PySem.Spec PyProof.Rows L2
theorem hrun_false (w : World) : HandSHeadRun.RunEqI R (PySem.W.view R.prog [0, 1, 47]) hk ob 6000 (loose1 ++ loose2) (setF false w) := by
  unfold HandSHeadRun.RunEqI
  kernel_rfl
end K0

set_option Elab.async false
set_option linter.all false
set_option maxRecDepth 100000
namespace K0
theorem hrun (w : PySem.World) : HandSHeadRun.RunEqI R (PySem.W.view R.prog [0, 1, 47]) hk ob 6000 (loose1 ++ loose2) w := by
  cases h : w.params.followText habit with
  | true =>
    rw [← setF_eq h]
    exact hrun_true w
  | false =>
    rw [← setF_eq h]
    exact hrun_false w
end K0
open PySem PySem.W PySem.Calls PyProof.Rows
set_option maxHeartbeats 0 in
theorem PySem.Challenge.cw_lostleast_k71_whole_lines_of_plans_are_r_holds : PySem.Challenge.rw_lostleast_k71_whole_lines_of_plans_are_r.Holds := by
  w_on; o_law
  refine HandSHeadRun.head_imp (r := OpenLaw.row PySem.Challenge.rw_lostleast_k71_whole_lines_of_plans_are_r) (q := view (OpenLaw.row PySem.Challenge.rw_lostleast_k71_whole_lines_of_plans_are_r).prog [0, 1, 47]) (H := K0.hk) (ob := K0.ob) (M := 6000) (loose := K0.loose1 ++ K0.loose2)
    (d := HandSHeadRun.topDef (OpenLaw.row PySem.Challenge.rw_lostleast_k71_whole_lines_of_plans_are_r).prog 47) (kwd := []) K0.ob_eq
    K0.hrun (by kernel_rfl) (by kernel_rfl) (by kernel_rfl) (by rfl) (by first | assumption | decide +kernel) (by decide +kernel) ⟨rfl, rfl, rfl, rfl, rfl, by decide +kernel⟩ ?hw ?hc
  case hw => w_witness2
  case hc =>
    refine Hk.walk_end (l := PySem.Challenge.rw_lostleast_k71_whole_lines_of_plans_are_r) (n := 63) (k := 10) (x := "script") (CX := fun _ => L2.CX0) rfl (by decide) (by kernel_rfl) ⟨rfl, by decide, by decide⟩ ?F (fun w H s e s' z => ?X)
    case F =>
      intro w mg fa h Y G hmg0
      obtain ⟨K, KX, c⟩ := Y
      have hmg : mg ("law" : PySem.Str) = some (.ref fa) := by
        have e : (HandSHeadRun.topDef (OpenLaw.row PySem.Challenge.rw_lostleast_k71_whole_lines_of_plans_are_r).prog 47).name = ("law" : PySem.Str) := by kernel_rfl
        rw [← e]
        exact hmg0
      obtain ⟨fd, hb, hF⟩ := K0.facts (P := (PySem.Challenge.rw_lostleast_k71_whole_lines_of_plans_are_r).prog) (w := w) KX G hmg c
      exact ⟨K, fd, K0.spLaw K, KX, hb, fun H a ns hl _ hS => ⟨a, ns, rfl, hS, fun _ => rfl⟩, hF⟩
    case X =>
      exact z.elim
