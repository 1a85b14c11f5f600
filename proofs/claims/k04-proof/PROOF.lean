import PyProof.Rows.All
import Wide.All
import OpenK.AllK
import Wide.FinOn
import HandS.ForExc
import HandS.ExcInit
import HandS.FStr
import HandS.ForMost
import HandS.Flow
import HandS.Star
import HandS.IsInst
import HandS.SlotsOwn
import HandS.Zip
import HandS.Dict
import HandS.ForDict
import HandS.RaiseMore
import HandS.Walk
import HandS.Deep
import HandS.ExcIs
import KE.KIsAll
import HandS.HotCalls
import KE.KStateDown
import HandS.Defaults
import HandS.Head0
import HandS.Head1
import HandS.Head2
import HandS.HeadEnd
import HandS.HeadHook1
import HandS.HeadHook2
import PySem.Challenge.RW_lostleast_k04_whole_texts_are_read_exact
set_option Elab.async false
set_option linter.all false
set_option maxRecDepth 100000
set_option maxHeartbeats 4000000
/-! An own error below an own error: its __init__ calls the base's by name. -/
namespace Kx
open PySem PySem.Spec PyProof.Rows L2
/-- what the written part says of the base class at B, so that B.__init__ may be called with an instance of a class below it -/
structure BaseC (K : PySem.W.Frag) (B : Addr) : Prop where
  ga : PySem.W.specialIn K (.ref B) "__getattribute__" = some (some (.builtin "type.__getattribute__"))
  rd : PySem.W.readsIn K B (.type "type") = true
  it : PySem.W.findCls K (.ref B) (.type "type") "__init__" = some (.val (.builtin "ValueError.__init__"))
section
variable {X : Cx} {e : Expr} {es : List Expr} {ta : TA} {x : Str} {B : Addr} {p1 p2 pos : Pos}
theorem pe_binit {pl : Sem Bool} (T : BaseC X.K B) (hg : Gl X x) (hm : X.mg x = some (.ref B)) (ha : PA X (e :: es) ta)
    (hc : eval (.Call (.Attribute (.Name x p1) "__init__" p2) (e :: es) [] pos) X.env = (do
      let ov ← eval (.Name x p1) X.env
      standAt p2.atName
      let (f, first) ← holding [ov] (getMethod ov "__init__" pl)
      callWith pos f first (backTo pos (starEach (e :: es) X.env)) (backToKw pos (keywordEach [] X.env))) := by rfl)
    (hdb : (x == ("__debug__" : Str)) = false := by decide)
    (he : starEach (e :: es) X.env = (false, eval e X.env) :: starEach es X.env := by rfl) (hpl : (backTo pos (starEach es X.env)).any (·.1) = false := by rfl) :
    PE X (.Call (.Attribute (.Name x p1) "__init__" p2) (e :: es) [] pos) (tVeI X.K ta) := by
  refine ⟨fun pins s σ H Q I h => ?_⟩
  refine PySem.W.methodCall_KW (ld_glob I hg hm ?_ hdb) hc
  refine PySem.W.method_cls I.kIn T.ga ?_
  refine PySem.W.cls_value I.kIn T.rd T.it (by decide +kernel) ?_
  show wpAny _ _ (callWith pos (Value.builtin "ValueError.__init__") [] (backTo pos (starEach (e :: es) X.env)) []) _ _ _
  refine PyProof.Rows.callWith_method1 (thn (ha.run pos pins _ σ H _ (I.tok _) h) fun us s1 hh => ?_) he hpl
  obtain ⟨vs, H1, I1, r1, a, C, ws, ev, hl, TC, ea, q⟩ := hh
  subst ev
  cases r1 with
  | @cons _ u0 _ ur ra rw' =>
    obtain rfl : u0 = Value.ref a := ra
    have hlen : ur.length ≤ sizeLine := Nat.le_trans (Nat.le_of_eq (Paired.length rw').symm) (Nat.le_trans hl (by decide))
    exact oinit_ok TC I1 ea hlen fun s' J => ⟨.non, H1, J, rfl, q⟩
end
/-- the promise of `def __init__(self, at): B.__init__(self, f'..'); self.at = at` -/
def spErr (C : Addr) (f : Str) : Sp := fun vs H Q _ => ∃ (a : Addr) (n : Int), vs = [.ref a, .int n] ∧ H a = some (exo a C none) ∧ n.natAbs < 2 ^ 64 ∧
  ∀ dx, H dx = none → dx ≠ a → Q .non (upd (upd H dx (exd dx [(f, .int n)])) a (exo a C (some dx)))
end Kx

set_option Elab.async false
set_option linter.all false
set_option maxRecDepth 100000
set_option maxHeartbeats 4000000
/-! Games as data of one's own, their words, and reading words as a total function. -/
namespace K1
open PySem L2
/-! ### words -/
def LET : Str := "abcdefghijklmnopqrstuvwxyz"
def DIG : Str := "0123456789"
def KEYS : List Str := ["var", "set", "draw", "choose", "come", "show", "chooser", "comer", "pay", "take", "if", "else", "end", "mod"]
def OPS : List Str := ["+", "-", "*", "/", "mod", "<", "="]
def STM : List Str := ["set", "draw", "choose", "come", "show", "pay", "take", "if"]
def CHS : List Str := ["draw", "choose", "come"]
def SEATS : List Str := ["chooser", "comer"]
def madeB (w signs : Str) : Bool := (w.cps.toList.map fun c => decide (c ∈ signs.cps.toList)).all id
def nameB (w : Str) : Bool := decide (1 ≤ w.length) && decide (w.length ≤ 8) && madeB w LET && !KEYS.contains w
def val (w : Str) : Int := ((PySem.NumText.digitsVal w.cps.toList : Nat) : Int)
def numB (w : Str) : Bool := decide (1 ≤ w.length) && decide (w.length ≤ 5) && madeB w DIG && ((w == ("0" : Str)) || !decide (w.cps.toList.head? = some 48)) && decide (val w ≤ 65535)
def nt (n : Int) : Str := toString n
/-! ### data -/
inductive Ex where
  | num (n : Int)
  | var (x : Str)
  | op (o : Str) (a b : Ex)
mutual
inductive Sm where
  | set (x : Str) (e : Ex)
  | draw (x : Str) (n : Int)
  | move (k x : Str) (n m : Int)
  | show_ (seat : Str) (e : Ex)
  | pay (k : Str) (e : Ex)
  | ifs (e : Ex) (a b : Bk)
inductive Bk where
  | nil
  | cons (s : Sm) (b : Bk)
end
def Bk.emp : Bk → Bool
  | .nil => true
  | .cons _ _ => false
def Ex.d : Ex → PyData
  | .num n => .tuple [.str "number", .int n]
  | .var x => .tuple [.str "variable", .str x]
  | .op o a b => .tuple [.str o, a.d, b.d]
mutual
def Sm.d : Sm → PyData
  | .set x e => .tuple [.str "set", .str x, e.d]
  | .draw x n => .tuple [.str "draw", .str x, .int n]
  | .move k x n m => .tuple [.str k, .str x, .int n, .int m]
  | .show_ s e => .tuple [.str "show", .str s, e.d]
  | .pay k e => .tuple [.str k, e.d]
  | .ifs e a b => .tuple [.str "if", e.d, .tuple a.ds, .tuple b.ds]
def Bk.ds : Bk → List PyData
  | .nil => []
  | .cons s b => s.d :: b.ds
end
def Ex.w : Ex → List Str
  | .num n => [nt n]
  | .var x => [x]
  | .op o a b => o :: (a.w ++ b.w)
mutual
def Sm.w : Sm → List Str
  | .set x e => "set" :: x :: e.w
  | .draw x n => ["draw", x, nt n]
  | .move k x n _ => [k, x, nt n]
  | .show_ s e => "show" :: s :: e.w
  | .pay k e => k :: e.w
  | .ifs e a b => "if" :: (e.w ++ (a.w ++ ((if b.emp then [] else ("else" : Str) :: b.w) ++ [("end" : Str)])))
def Bk.w : Bk → List Str
  | .nil => []
  | .cons s b => s.w ++ b.w
end
/-! ### reading -/
/-- where the reader stands: the place, draws and moves so far, moves so far -/
structure S where
  at_ : Nat
  ch : Nat
  mv : Nat
abbrev Rs (α : Type) := Except Nat (α × S)
def S.adv (s : S) : S := { s with at_ := s.at_ + 1 }
def ahead (ws : List Str) (i : Nat) : Str := (ws[i]?).getD Str.empty
def rName (ws ns : List Str) (s : S) : Rs Str := if ns.contains (ahead ws s.at_) then .ok (ahead ws s.at_, s.adv) else .error s.at_
def rNum (ws : List Str) (lo hi : Int) (s : S) : Rs Int := if (numB (ahead ws s.at_) && (decide (lo ≤ val (ahead ws s.at_)) && decide (val (ahead ws s.at_) ≤ hi))) = true then .ok (val (ahead ws s.at_), s.adv) else .error s.at_
def rEx (ws ns : List Str) : Nat → S → Rs Ex
  | d, s => if OPS.contains (ahead ws s.at_) = true then (match d with
      | 0 => .error s.at_
      | d + 1 => match rEx ws ns d s.adv with
        | .error i => .error i
        | .ok (a, s1) => match rEx ws ns d s1 with
          | .error i => .error i
          | .ok (b, s2) => .ok (.op (ahead ws s.at_) a b, s2))
    else if numB (ahead ws s.at_) = true then (match rNum ws 0 65535 s with
      | .error i => .error i
      | .ok (n, s1) => .ok (.num n, s1))
    else match rName ws ns s with
      | .error i => .error i
      | .ok (x, s1) => .ok (.var x, s1)
def rChance (ws ns : List Str) (k : Str) (s : S) : Rs Sm := if (decide (0 < ns.length) && decide (s.ch < 10)) = true then (match rName ws ns { s.adv with ch := s.ch + 1 } with
    | .error i => .error i
    | .ok (x, s1) => match rNum ws 1 8 s1 with
      | .error i => .error i
      | .ok (n, s2) => if k = "draw" then .ok (.draw x n, s2) else .ok (.move k x n (s2.mv : Int), { s2 with mv := s2.mv + 1 }))
  else .error s.at_
def rIf (ws ns : List Str) (r : Nat) (blk : S → Rs Bk) (s : S) : Rs Sm := if 0 < r then (match rEx ws ns 5 s.adv with
    | .error i => .error i
    | .ok (e, s1) => match blk s1 with
      | .error i => .error i
      | .ok (a, s2) => if ahead ws s2.at_ = "else" then (match blk s2.adv with
          | .error i => .error i
          | .ok (b, s3) => if ahead ws s3.at_ = "end" ∧ b.emp = false then .ok (.ifs e a b, s3.adv) else .error s3.at_)
        else if ahead ws s2.at_ = "end" then .ok (.ifs e a .nil, s2.adv) else .error s2.at_)
  else .error s.at_
def rSm (ws ns : List Str) (r : Nat) (blk : S → Rs Bk) (s : S) : Rs Sm :=
  if CHS.contains (ahead ws s.at_) = true then rChance ws ns (ahead ws s.at_) s
  else if ahead ws s.at_ = "if" then rIf ws ns r blk s
  else if ahead ws s.at_ = "set" then (if 0 < ns.length then (match rName ws ns s.adv with
      | .error i => .error i
      | .ok (x, s1) => match rEx ws ns 5 s1 with
        | .error i => .error i
        | .ok (e, s2) => .ok (.set x e, s2)) else .error s.at_)
  else if ahead ws s.at_ = "show" then (if SEATS.contains (ahead ws (s.at_ + 1)) = true then (match rEx ws ns 5 s.adv.adv with
      | .error i => .error i
      | .ok (e, s1) => .ok (.show_ (ahead ws (s.at_ + 1)) e, s1)) else .error (s.at_ + 1))
  else match rEx ws ns 5 s.adv with
    | .error i => .error i
    | .ok (e, s1) => .ok (.pay (ahead ws s.at_) e, s1)
def rLoop (ws : List Str) (stm : S → Rs Sm) : Nat → S → Rs Bk
  | 0, s => .ok (.nil, s)
  | f + 1, s => if STM.contains (ahead ws s.at_) = true then (match stm s with
      | .error i => .error i
      | .ok (x, s1) => match rLoop ws stm f s1 with
        | .error i => .error i
        | .ok (b, s2) => .ok (.cons x b, s2))
    else .ok (.nil, s)
def rBk (ws ns : List Str) : Nat → S → Rs Bk
  | 0 => rLoop ws (rSm ws ns 0 fun _ => .error 0) (ws.length + 1)
  | r + 1 => rLoop ws (rSm ws ns (r + 1) (rBk ws ns r)) (ws.length + 1)
def rVars (ws : List Str) : Nat → List (Str × Int) → Nat → Except Nat (List (Str × Int) × Nat)
  | 0, vs, i => .ok (vs, i)
  | f + 1, vs, i => if ahead ws i = "var" then (if vs.length < 5 then (if (nameB (ahead ws (i + 1)) && !(vs.map (·.1)).contains (ahead ws (i + 1))) = true then
        (match rNum ws 1 65535 ⟨i + 2, 0, 0⟩ with
        | .error j => .error j
        | .ok (n, s1) => rVars ws f (vs ++ [(ahead ws (i + 1), n)]) s1.at_) else .error (i + 1)) else .error i)
    else .ok (vs, i)
/-- a whole text's words -/
def rAll (ws : List Str) : Except Nat (List (Str × Int) × Bk) := match rVars ws 6 [] 0 with
  | .error i => .error i
  | .ok (vs, i) => match rBk ws (vs.map (·.1)) 4 ⟨i, 0, 0⟩ with
    | .error j => .error j
    | .ok (b, s) => if s.at_ < ws.length then .error s.at_ else .ok (vs, b)
/-! ### the reader goes on -/
theorem rName_at {ws ns : List Str} {s s1 : S} {x : Str} (h : rName ws ns s = .ok (x, s1)) : s1 = s.adv := by
  unfold rName at h
  split at h
  · injection h with h
    injection h with _ h
    exact h.symm
  · cases h
theorem rNum_at {ws : List Str} {lo hi : Int} {s s1 : S} {x : Int} (h : rNum ws lo hi s = .ok (x, s1)) : s1 = s.adv := by
  unfold rNum at h
  split at h
  · injection h with h
    injection h with _ h
    exact h.symm
  · cases h
theorem rEx_lt {ws ns : List Str} : ∀ {d : Nat} {s s1 : S} {e : Ex}, rEx ws ns d s = .ok (e, s1) → s.at_ < s1.at_ := by
  intro d
  induction d with
  | zero =>
    intro s s1 e h
    unfold rEx at h
    split at h
    · cases h
    · split at h
      · split at h
        · cases h
        · rename_i q
          have q := rNum_at q
          injection h with h
          injection h with _ h
          rw [← h, q]
          exact Nat.lt_succ_self _
      · split at h
        · cases h
        · rename_i q
          have q := rName_at q
          injection h with h
          injection h with _ h
          rw [← h, q]
          exact Nat.lt_succ_self _
  | succ d ih =>
    intro s s1 e h
    unfold rEx at h
    split at h
    · dsimp only at h
      split at h
      · cases h
      · rename_i q1
        split at h
        · cases h
        · rename_i q2
          have h1 := ih q1
          have h2 := ih q2
          injection h with h
          injection h with _ h
          rw [← h]
          have : s.adv.at_ = s.at_ + 1 := rfl
          omega
    · split at h
      · split at h
        · cases h
        · rename_i q
          have q := rNum_at q
          injection h with h
          injection h with _ h
          rw [← h, q]
          exact Nat.lt_succ_self _
      · split at h
        · cases h
        · rename_i q
          have q := rName_at q
          injection h with h
          injection h with _ h
          rw [← h, q]
          exact Nat.lt_succ_self _
end K1

set_option Elab.async false
set_option linter.all false
set_option maxRecDepth 100000
set_option maxHeartbeats 4000000
namespace K1
open PySem PySem.Spec PyProof.Rows L2
/-! ### the text by places -/
def top (i : Nat) : Stmt := PySem.Challenge.pw_lostleast_k04_whole_texts_are_read_exact.main.body.getD i (.Pass ⟨0, 0, 0, 0⟩)
abbrev sWords : Stmt := top 20
abbrev sMade : Stmt := top 21
abbrev sName : Stmt := top 22
abbrev sNumb : Stmt := top 23
abbrev sBeg : Stmt := top 24
/-! ### small things -/
theorem eqV_str (a b : Str) : eqV (.str a) (.str b) = (a == b) := rfl
theorem inV_str (x : Str) : ∀ xs : List Str, inV (.str x) (xs.map V.str) = xs.contains x
  | [] => rfl
  | y :: xs => by
    show (eqV (.str y) (.str x) || inV (.str x) (xs.map V.str)) = _
    rw [inV_str x xs, List.contains_cons, eqV_str]
    rw [BEq.comm]
theorem flat_strs (xs : List Str) : (xs.map V.str).all flatV = true := by
  rw [List.all_map]
  exact List.all_eq_true.mpr fun _ _ => rfl
/-- what the words' module holds -/
structure TxW (K : PySem.W.Frag) (mg : Str → Option Value) : Prop where
  kw : ∃ a, mg "KEY_WORDS" = some (.ref a) ∧ ∀ H, SqT K H a (KEYS.map V.str)
  chs : ∃ a, mg "CHANCES" = some (.ref a) ∧ ∀ H, SqT K H a (CHS.map V.str)
  seats : ∃ a, mg "SEATS" = some (.ref a) ∧ ∀ H, SqT K H a (SEATS.map V.str)
  stm : ∃ a, mg "STATEMENTS" = some (.ref a) ∧ ∀ H, SqT K H a (STM.map V.str)
  ops : ∃ a, mg "OPERATORS" = some (.ref a) ∧ ∀ H, SqT K H a (OPS.map V.str)
  let_ : ∃ t, mg "LETTERS" = some (.str LET t)
  dig : ∃ t, mg "DIGITS" = some (.str DIG t)
  ln : ∃ t, mg "LONGEST_NAME" = some (.int 8 t)
  lb : ∃ t, mg "LONGEST_NUMBER" = some (.int 5 t)
  lg : ∃ t, mg "LARGEST_NUMBER" = some (.int 65535 t)
  all : mg "all" = none
  len : mg "len" = none
  int : mg "int" = none
def spMade : Sp := fun vs H Q _ => ∃ (w z : Str), vs = [.str w, .str z] ∧ w.length ≤ 1000 ∧ ∀ H', Same H H' → Q (.bl (madeB w z)) H'
def spB (f : Str → Bool) : Sp := fun vs H Q _ => ∃ (w : Str), vs = [.str w] ∧ w.length ≤ sizeLine ∧ ∀ H', Same H H' → Q (.bl (f w)) H'
theorem tYesI {σ : L2.St} {H : Hp} {A B : Hp → Prop} (h : A H) : tYes σ H (fun b H3 => if b = true then A H3 else B H3) := by
  show (if true = true then A H else B H)
  rw [if_pos rfl]
  exact h
theorem same_upd {H : Hp} {p : Addr} {o : HO} (h : H p = none) : Same H (upd H p o) := fun b u e => by rw [upd_ne (ne_of_none e h)]; exact e
section
variable {P : Program} {w : World} {K : PySem.W.Frag} {mg : Str → Option Value} {base : Heap}
theorem scMd : FnScope ["word", "signs", "sign"] ["word", "signs"] (defScope sMade) := ⟨rfl, rfl, rfl, by decide +kernel, rfl, by decide +kernel, by decide +kernel⟩
theorem ok_made {f : Addr} {fd : FuncData} (F : Fun K "is_made_of" "is_made_of" sMade f fd) (T : TxW K mg) : FnOk P w K mg base CX0 1 f fd ["word", "signs"] spMade := by
  refine F.ok scMd (fun vs H Q E h => ?_) (fun cdv A outer s H vs Q E hr h => ?_)
  · obtain ⟨x, z, rfl, _⟩ := h
    rfl
  · obtain ⟨x, z, rfl, hx, k⟩ := h
    refine ⟨_, pss_one (ps_ret (pe_callB (cr_all rfl) (by rfl) T.all (by decide +kernel) (pa_cons (pe_lc (own := [("sign", 2)]) (g := gName 2) (tt := tYes) rfl scMd.nd (pi_str (pv 0)) (blkOk_by (N := ["word", "signs", "sign"]) (sc := defScope sMade) (by decide +kernel))
      (fun _ _ _ _ _ => pg_name (i := 2) scMd.nd rfl (Or.inl rfl)) (fun _ _ _ _ _ => pts_nil) (fun _ _ _ _ _ => pe_cmpR op_in_sign (pv 2) (pv 1) rfl)) pa_nil))), ?_⟩
    refine ⟨_, rfl, x, rfl, fun D hD => ?_⟩
    have hlen : x.cps.toList.length = x.cps.size := by simp
    have hsz : x.cps.size ≤ 1000 := hx
    refine ⟨fun i m H' => i + m = x.cps.size ∧ H' = upd H D (.lst (((x.cps.toList.take i).map fun c => decide (c ∈ z.cps.toList)).map V.bl)), ⟨x.cps.size, by omega, rfl⟩, fun i m H' hW => ?_⟩
    obtain ⟨em, rfl⟩ := hW
    by_cases hi : i < x.cps.size
    · refine .inr ⟨hi, fun H2 => H2 = upd H D (.lst (((x.cps.toList.take (i + 1)).map fun c => decide (c ∈ z.cps.toList)).map V.bl)), fun H2 e => ⟨m - 1, by omega, by omega, e⟩, fun v H2 hy => ?_⟩
      obtain ⟨rfl, c, hc, rfl⟩ := hy
      refine ⟨rfl, tYesI ?_⟩
      refine ⟨_, rfl, _, rfl, c, z, rfl, rfl, _, upd_same, ?_, ?_⟩
      · rw [List.length_map, List.length_map, List.length_take]
        exact Nat.lt_of_le_of_lt (Nat.min_le_left _ _) (small1000 (by omega))
      · have g : x.cps.toList[i]? = some c := by
          rw [← Array.getElem?_toList] at hc
          exact hc
        rw [List.take_add_one, g]
        simp only [Option.toList_some, List.map_append, List.map_cons, List.map_nil]
        funext b
        by_cases hb : b = D
        · rw [hb, upd_same, upd_same]
        · rw [upd_ne hb, upd_ne hb, upd_ne hb]
    · have ei : i = x.cps.size := by omega
      refine .inl ⟨by show x.cps.size ≤ i; omega, ?_⟩
      rw [ei, ← hlen, List.take_length]
      exact ⟨D, _, rfl, SqL.of upd_same, k _ (same_upd hD)⟩
theorem len_le {z : Str} {n : Nat} (h : z.length ≤ n) (hn : n ≤ 1000) : z.length ≤ 1000 := Nat.le_trans h hn
theorem dec_nat {a b : Nat} : decide ((a : Int) ≤ (b : Int)) = decide (a ≤ b) := decide_eq_decide.mpr (by omega)
theorem scNm : FnScope ["word"] ["word"] (defScope sName) := ⟨rfl, rfl, rfl, by decide +kernel, rfl, by decide +kernel, by decide +kernel⟩
theorem ok_name {f fM : Addr} {fd fdM : FuncData} (F : Fun K "is_name" "is_name" sName f fd) (T : TxW K mg) (G : FnOk P w K mg base CX0 1 fM fdM ["word", "signs"] spMade) (gM : mg "is_made_of" = some (.ref fM)) (kM : PySem.W.keepIn K (.ref fM) = true) (bM : Binds K fdM ["word", "signs"] []) :
    FnOk P w K mg base CX0 2 f fd ["word"] (spB nameB) := by
  refine F.ok scNm (fun vs H Q E h => ?_) (fun cdv A outer s H vs Q E hr h => ?_)
  · obtain ⟨x, rfl, _⟩ := h
    rfl
  · obtain ⟨x, rfl, hx, k⟩ := h
    obtain ⟨tl, hl⟩ := T.let_
    obtain ⟨tn, hn⟩ := T.ln
    obtain ⟨ak, hk, sk⟩ := T.kw
    refine ⟨_, pss_one (ps_ret (pe_and (pe_chain op_le op_le pe_int (pe_callB call_len_str (by rfl) T.len PySem.boot_len (pa_cons (pv 0) pa_nil)) (pe_glob (v := .int 8) rfl hn ⟨_, rfl⟩))
      (pe_and (pe_call G hr (by rfl) gM kM bM .nil pass0 (pa_cons (pv 0) (pa_cons (pe_glob (v := .str LET) rfl hl ⟨_, rfl⟩) pa_nil)))
        (pe_one (pe_cmpR op_notIn_seq (pv 0) (pe_glob (v := .ref ak) rfl hk rfl) rfl))))), ?_⟩
    have hf : ∀ b, nameB x = b → Q (.bl b) H := fun b e => e ▸ k H (Same.refl H)
    refine ⟨_, rfl, x, rfl, hx, _, _, rfl, rfl, _, rfl, ite2 (fun h1 => ?_) (fun h1 => ?_)⟩
    · have l1 : 1 ≤ x.length := by
        have := of_decide_eq_true h1
        omega
      refine ⟨_, _, rfl, rfl, _, rfl, ite2 (fun h2 => ?_) (fun h2 => ?_)⟩
      · have l2 : x.length ≤ 8 := by
          have := of_decide_eq_true h2
          omega
        refine ⟨_, rfl, x, LET, rfl, len_le l2 (by decide), fun H1 s1 => ⟨_, rfl, ite2 (fun h3 => ?_) (fun h3 => ?_)⟩⟩
        · refine ⟨_, rfl, ak, _, rfl, .inr (sk _), rfl, flat_strs _, ?_⟩
          rw [if_pos rfl, inV_str]
          have e : nameB x = !KEYS.contains x := by
            unfold nameB
            rw [decide_eq_true l1, decide_eq_true l2, h3]
            rfl
          rw [← e]
          exact k H1 s1
        · have e : nameB x = false := by
            unfold nameB
            rw [Bool.eq_false_iff.mpr h3, Bool.and_false, Bool.false_and]
          have e3 : madeB x LET = false := Bool.eq_false_iff.mpr h3
          have := k H1 s1
          rw [e] at this
          exact this
      · have e : nameB x = false := by
          unfold nameB
          rw [show decide (x.length ≤ 8) = false from decide_eq_false fun q => h2 (decide_eq_true (by omega)), Bool.and_false, Bool.false_and, Bool.false_and]
        exact hf _ e
    · have e : nameB x = false := by
        unfold nameB
        rw [show decide (1 ≤ x.length) = false from decide_eq_false fun q => h1 (decide_eq_true (by omega)), Bool.false_and, Bool.false_and, Bool.false_and]
      exact ⟨_, rfl, iteF (hf _ e)⟩
theorem dig_mem {c : Nat} (h : c ∈ DIG.cps.toList) : 48 ≤ c ∧ c ≤ 57 := by
  have e : DIG.cps.toList = [48, 49, 50, 51, 52, 53, 54, 55, 56, 57] := by decide +kernel
  rw [e] at h
  simp only [List.mem_cons, List.not_mem_nil, or_false] at h
  omega
theorem mem_dig {c : Nat} (h : 48 ≤ c ∧ c ≤ 57) : c ∈ DIG.cps.toList := by
  have e : DIG.cps.toList = [48, 49, 50, 51, 52, 53, 54, 55, 56, 57] := by decide +kernel
  rw [e]
  simp only [List.mem_cons, List.not_mem_nil, or_false]
  omega
theorem made_all {x z : Str} (h : madeB x z = true) : ∀ c ∈ x.cps.toList, c ∈ z.cps.toList := fun c hc => by
  unfold madeB at h
  have := List.all_eq_true.mp h (decide (c ∈ z.cps.toList)) (List.mem_map.mpr ⟨c, hc, rfl⟩)
  exact of_decide_eq_true this
theorem digits_of {x : Str} (h : madeB x DIG = true) : PySem.NumText.AllDigits x.cps.toList := fun c hc => dig_mem (made_all h c hc)
theorem int_of {x : Str} (h : madeB x DIG = true) (h1 : 1 ≤ x.length) (h5 : x.length ≤ 5) : PySem.intText? x = some (val x) := by
  refine PySem.intText_digits (digits_of h) (fun e => ?_) (Nat.le_trans h5 (by decide))
  have : x.length = x.cps.toList.length := by
    rw [Array.length_toList]
    rfl
  rw [e] at this
  simp at this
  omega
theorem zero_text : ("0" : Str) = ⟨#[48]⟩ := by decide +kernel
/-- no leading zero -/
def begB (x : Str) : Bool := (x == ("0" : Str)) || !decide (x.cps.toList.head? = some 48)
def spBeg : Sp := fun vs H Q _ => ∃ (w : Str), vs = [.str w] ∧ 1 ≤ w.length ∧ w.length ≤ sizeLine ∧ ∀ H', Same H H' → Q (.bl (begB w)) H'
theorem scBeg : FnScope ["word"] ["word"] (defScope sBeg) := ⟨rfl, rfl, rfl, by decide +kernel, rfl, by decide +kernel, by decide +kernel⟩
theorem ok_beg {f : Addr} {fd : FuncData} (F : Fun K "begins_rightly" "begins_rightly" sBeg f fd) : FnOk P w K mg base CX0 1 f fd ["word"] spBeg := by
  refine F.ok scBeg (fun vs H Q E h => ?_) (fun cdv A outer s H vs Q E hr h => ?_)
  · obtain ⟨x, rfl, _⟩ := h
    rfl
  · obtain ⟨x, rfl, l1, hx, k⟩ := h
    refine ⟨_, pss_one (ps_ret (pe_or (pe_cmpR op_eq (pv 0) pe_str (nomark _)) (pe_one (pe_cmpR op_ne (pe_ix ix_str (pv 0) pe_int (fun _ _ => rfl)) pe_str (nomark _))))), ?_⟩
    have kk := k H (Same.refl H)
    unfold begB at kk
    refine ⟨_, rfl, rfl, _, rfl, ?_⟩
    rw [dec_str]
    cases h4 : (x == ("0" : Str)) with
    | true =>
      rw [h4] at kk
      exact iteT kk
    | false =>
      refine iteF ?_
      obtain ⟨c, r, hc⟩ : ∃ c r, x.cps.toList = c :: r := by
        cases e : x.cps.toList with
        | nil =>
          have : x.length = x.cps.toList.length := by
            rw [Array.length_toList]
            rfl
          rw [e] at this
          simp at this
          omega
        | cons c r => exact ⟨c, r, rfl⟩
      refine ⟨_, rfl, x, 0, c, rfl, rfl, hx, by rw [hc]; exact atI_nat (j := 0) rfl, rfl, ?_⟩
      have e5 : (!decide (V.str (⟨#[c]⟩ : Str) = V.str ("0" : Str))) = !decide (x.cps.toList.head? = some 48) := by
        congr 1
        refine decide_eq_decide.mpr ?_
        rw [hc, zero_text]
        simp
      rw [h4] at kk
      rw [e5]
      exact kk
theorem scNu : FnScope ["word"] ["word"] (defScope sNumb) := ⟨rfl, rfl, rfl, by decide +kernel, rfl, by decide +kernel, by decide +kernel⟩
theorem ok_numb {f fM : Addr} {fd fdM : FuncData} (F : Fun K "is_number" "is_number" sNumb f fd) (T : TxW K mg) (G : FnOk P w K mg base CX0 1 fM fdM ["word", "signs"] spMade) (gM : mg "is_made_of" = some (.ref fM)) (kM : PySem.W.keepIn K (.ref fM) = true) (bM : Binds K fdM ["word", "signs"] [])
    {fB : Addr} {fdB : FuncData} (GB : FnOk P w K mg base CX0 1 fB fdB ["word"] spBeg) (gB : mg "begins_rightly" = some (.ref fB)) (kB : PySem.W.keepIn K (.ref fB) = true) (bB : Binds K fdB ["word"] []) :
    FnOk P w K mg base CX0 2 f fd ["word"] (spB numB) := by
  refine F.ok scNu (fun vs H Q E h => ?_) (fun cdv A outer s H vs Q E hr h => ?_)
  · obtain ⟨x, rfl, _⟩ := h
    rfl
  · obtain ⟨x, rfl, hx, k⟩ := h
    obtain ⟨tl, hl⟩ := T.dig
    obtain ⟨tn, hn⟩ := T.lb
    obtain ⟨tg, hg⟩ := T.lg
    refine ⟨_, pss_cons (ps_if (PW.pt (pw_or (pt_not (pt_chain op_le op_le pe_int (pe_callB call_len_str (by rfl) T.len PySem.boot_len (pa_cons (pv 0) pa_nil)) (pe_glob (v := .int 5) rfl hn ⟨_, rfl⟩)))
        (pw_or1 (pt_not (pt_val (pe_call G hr (by rfl) gM kM bM .nil pass0 (pa_cons (pv 0) (pa_cons (pe_glob (v := .str DIG) rfl hl ⟨_, rfl⟩) pa_nil))))))))
        (pss_one (ps_ret pe_bl)) pss_nil)
      (pss_one (ps_ret (pe_and (pe_call GB hr (by rfl) gB kB bB .nil pass0 (pa_cons (pv 0) pa_nil))
        (pe_one (pe_cmpR op_le (pe_callTy call_int_str (by rfl) T.int (by decide +kernel) (pa_cons (pv 0) pa_nil)) (pe_glob (v := .int 65535) rfl hg ⟨_, rfl⟩) (nomark _)))))), ?_⟩
    refine ⟨_, rfl, x, rfl, hx, _, _, rfl, rfl, _, rfl, ite2 (fun h1 => ?_) (fun h1 => ?_)⟩
    · have l1 : 1 ≤ x.length := by
        have := of_decide_eq_true h1
        omega
      refine ⟨_, _, rfl, rfl, _, rfl, ?_⟩
      by_cases l2 : x.length ≤ 5
      · rw [show (decide ((x.length : Int) ≤ 5)) = true from decide_eq_true (by omega)]
        refine iteF ⟨_, rfl, x, DIG, rfl, len_le l2 (by decide), fun H1 s1 => ⟨_, rfl, ?_⟩⟩
        have kk := k H1 s1
        cases h3 : madeB x DIG with
        | false =>
          refine iteT ?_
          unfold numB at kk
          rw [h3, Bool.and_false, Bool.false_and, Bool.false_and] at kk
          exact kk
        | true =>
          refine iteF ?_
          clear kk
          have fin : ∀ b : Bool, begB x = b → ∀ H1, Same H H1 → (if b = true then
              tOp (rI0 fun i j => .bl (decide (i ≤ j))) (tCB (fun xs H Q => ∃ a n, xs = [.str a] ∧ PySem.intText? a = some n ∧ a.length ≤ 640 ∧ Q (.int n) H) (tCons (tVar 0) tNil)) (tC (.int 65535)) [some (.str x)] H1 Q else Q (.bl false) H1) := by
            intro b eb H1 s1
            have kk := k H1 s1
            unfold numB at kk
            rw [decide_eq_true l1, decide_eq_true l2, h3, show ((x == ("0" : Str)) || !decide (x.cps.toList.head? = some 48)) = b from eb] at kk
            cases b with
            | true =>
              refine iteT ⟨_, rfl, x, val x, rfl, int_of h3 l1 l2, Nat.le_trans l2 (by decide), _, _, rfl, rfl, ?_⟩
              exact kk
            | false =>
              refine iteF ?_
              exact kk
          refine ⟨_, rfl, x, rfl, l1, hx, fun H2 s2 => ⟨_, rfl, ?_⟩⟩
          exact fin _ rfl H2 (s1.trans s2)
      · rw [show (decide ((x.length : Int) ≤ 5)) = false from decide_eq_false (by omega)]
        refine iteT ?_
        have kk := k H (Same.refl H)
        unfold numB at kk
        rw [decide_eq_false l2, Bool.and_false, Bool.false_and, Bool.false_and, Bool.false_and] at kk
        exact kk
    · refine ⟨_, rfl, iteT ?_⟩
      have kk := k H (Same.refl H)
      unfold numB at kk
      rw [show decide (1 ≤ x.length) = false from decide_eq_false fun q => h1 (decide_eq_true (by omega)), Bool.false_and, Bool.false_and, Bool.false_and, Bool.false_and] at kk
      exact kk
def wordsOf (t : Str) : List Str := if t.length = 0 then [] else Txt.split t " "
def spWords : Sp := fun vs H Q _ => ∃ (t : Str), vs = [.str t] ∧ t.length + 2 ≤ sizeLine ∧ ∀ (p : Addr) (H' : Hp), Same H H' → H p = none → H' p = some (.lst ((wordsOf t).map V.str)) → Q (.ref p) H'
theorem scWo : FnScope ["text"] ["text"] (defScope sWords) := ⟨rfl, rfl, rfl, by decide +kernel, rfl, by decide +kernel, by decide +kernel⟩
theorem ok_words {f : Addr} {fd : FuncData} (F : Fun K "words_of" "words_of" sWords f fd) : FnOk P w K mg base CX0 1 f fd ["text"] spWords := by
  refine F.ok scWo (fun vs H Q E h => ?_) (fun cdv A outer s H vs Q E hr h => ?_)
  · obtain ⟨x, rfl, _⟩ := h
    rfl
  · obtain ⟨x, rfl, hx, k⟩ := h
    refine ⟨_, pss_one (ps_ret (pe_ifExp (pt_truth (pv 0) (by intro _; rfl)) (pe_split (pv 0) pe_str) (pe_lst pa_nil))), ?_⟩
    refine ⟨_, rfl, ((x.length : Int) != 0), ⟨Nat.le_trans (Nat.le_add_right _ _) hx, rfl⟩, ?_⟩
    by_cases h0 : x.length = 0
    · rw [show ((x.length : Int) != 0) = false by rw [h0]; rfl]
      refine iteF ⟨Nat.zero_le _, fun p hp => ?_⟩
      refine k p _ (same_upd hp) hp ?_
      unfold wordsOf
      rw [if_pos h0, upd_same]
      rfl
    · rw [show ((x.length : Int) != 0) = true by simpa using h0]
      refine iteT ⟨_, rfl, ⟨_, rfl⟩, x, _, rfl, rfl, by decide +kernel, hx, fun p hp => ?_⟩
      refine k p _ (same_upd hp) hp ?_
      unfold wordsOf
      rw [if_neg h0, upd_same]
end
end K1

set_option Elab.async false
set_option linter.all false
set_option maxRecDepth 100000
set_option maxHeartbeats 4000000
namespace K1
open PySem PySem.Spec PyProof.Rows L2 Kx
/-! ### the reader -/
abbrev sBT : Stmt := inClass (top 2) 0
abbrev sRI : Stmt := inClass (top 31) 0
abbrev sAhead : Stmt := inClass (top 31) 1
abbrev sStep : Stmt := inClass (top 31) 2
abbrev sFin : Stmt := inClass (top 31) 3
abbrev sRVars : Stmt := inClass (top 31) 4
abbrev sRBlock : Stmt := inClass (top 31) 5
abbrev sRStat : Stmt := inClass (top 31) 6
abbrev sRChance : Stmt := inClass (top 31) 7
abbrev sRIf : Stmt := inClass (top 31) 8
abbrev sRExpr : Stmt := inClass (top 31) 9
abbrev sRName : Stmt := inClass (top 31) 10
abbrev sRSeat : Stmt := inClass (top 31) 11
abbrev sRNum : Stmt := inClass (top 31) 12
/-- the reader's attributes -/
def rfs (lw : Addr) (i : Int) (ln : Addr) (c m : Int) : List (Str × V) := [("words", .ref lw), ("at", .int i), ("names", .ref ln), ("chances", .int c), ("moves", .int m)]
theorem ff1 : ¬ ("at" : Str) = "words" := by decide +kernel
theorem ff2 : ¬ ("names" : Str) = "words" := by decide +kernel
theorem ff3 : ¬ ("names" : Str) = "at" := by decide +kernel
theorem ff4 : ¬ ("chances" : Str) = "words" := by decide +kernel
theorem ff5 : ¬ ("chances" : Str) = "at" := by decide +kernel
theorem ff6 : ¬ ("chances" : Str) = "names" := by decide +kernel
theorem ff7 : ¬ ("moves" : Str) = "words" := by decide +kernel
theorem ff8 : ¬ ("moves" : Str) = "at" := by decide +kernel
theorem ff9 : ¬ ("moves" : Str) = "names" := by decide +kernel
theorem ffa : ¬ ("moves" : Str) = "chances" := by decide +kernel
section
variable (lw ln : Addr) (i c m y : Int)
theorem rfs_words : (rfs lw i ln c m).lookup ("words" : Str) = some (.ref lw) := by
  unfold rfs
  rw [lookup_put, if_pos rfl]
theorem rfs_at : (rfs lw i ln c m).lookup ("at" : Str) = some (.int i) := by
  unfold rfs
  rw [lookup_put, if_neg ff1, lookup_put, if_pos rfl]
theorem rfs_names : (rfs lw i ln c m).lookup ("names" : Str) = some (.ref ln) := by
  unfold rfs
  rw [lookup_put, if_neg ff2, lookup_put, if_neg ff3, lookup_put, if_pos rfl]
theorem rfs_ch : (rfs lw i ln c m).lookup ("chances" : Str) = some (.int c) := by
  unfold rfs
  rw [lookup_put, if_neg ff4, lookup_put, if_neg ff5, lookup_put, if_neg ff6, lookup_put, if_pos rfl]
theorem rfs_mv : (rfs lw i ln c m).lookup ("moves" : Str) = some (.int m) := by
  unfold rfs
  rw [lookup_put, if_neg ff7, lookup_put, if_neg ff8, lookup_put, if_neg ff9, lookup_put, if_neg ffa, lookup_put, if_pos rfl]
theorem rfs_no {f : Str} (h1 : ¬ f = "words") (h2 : ¬ f = "at") (h3 : ¬ f = "names") (h4 : ¬ f = "chances") (h5 : ¬ f = "moves") : (rfs lw i ln c m).lookup f = none := by
  unfold rfs
  rw [lookup_put, if_neg h1, lookup_put, if_neg h2, lookup_put, if_neg h3, lookup_put, if_neg h4, lookup_put, if_neg h5]
  rfl
theorem rfs_putAt : putF "at" (.int y) (rfs lw i ln c m) = rfs lw y ln c m := by
  unfold rfs
  simp only [putF]
  rw [if_neg (fun e => ff1 e.symm), if_pos True.intro]
theorem rfs_putCh : putF "chances" (.int y) (rfs lw i ln c m) = rfs lw i ln y m := by
  unfold rfs
  simp only [putF]
  rw [if_neg (fun e => ff4 e.symm), if_neg (fun e => ff5 e.symm), if_neg (fun e => ff6 e.symm), if_pos True.intro]
theorem rfs_putMv : putF "moves" (.int y) (rfs lw i ln c m) = rfs lw i ln c y := by
  unfold rfs
  simp only [putF]
  rw [if_neg (fun e => ff7 e.symm), if_neg (fun e => ff8 e.symm), if_neg (fun e => ff9 e.symm), if_neg (fun e => ffa e.symm), if_pos True.intro]
theorem rfs_len : (rfs lw i ln c m).length = 5 := rfl
end
/-- a reader at r, its words ws and names ns, standing at s -/
structure RdAt (C : Addr) (H : Hp) (r lw ln : Addr) (ws ns : List Str) (s : S) : Prop where
  ob : ∃ dx, H r = some (.ins C dx (rfs lw s.at_ ln s.ch s.mv))
  hw : H lw = some (.lst (ws.map V.str))
  hn : H ln = some (.lst (ns.map V.str))
  wl : ws.length ≤ 100000
  wz : ∀ x ∈ ws, x.length ≤ sizeLine
  al : s.at_ ≤ ws.length
  nz : ∀ x ∈ ns, 1 ≤ x.length
/-- all but the reader is as it was -/
def Kr (r : Addr) (H H' : Hp) : Prop := ∀ b o, H b = some o → b ≠ r → H' b = some o
theorem Kr.refl (r : Addr) (H : Hp) : Kr r H H := fun _ _ e _ => e
theorem Kr.trans {r : Addr} {H H1 H2 : Hp} (a : Kr r H H1) (b : Kr r H1 H2) : Kr r H H2 := fun c o e h => b c o (a c o e h) h
theorem Kr.same {r : Addr} {H H' : Hp} (s : Same H H') : Kr r H H' := fun b o e _ => s b o e
theorem Kr.upd {r : Addr} {H : Hp} {o : HO} : Kr r H (upd H r o) := fun b u e h => by rw [upd_ne h]; exact e
section
variable {C : Addr} {H H' : Hp} {r lw ln : Addr} {ws ns : List Str} {s s' : S}
theorem RdAt.nw (R : RdAt C H r lw ln ws ns s) : lw ≠ r := by
  obtain ⟨dx, e⟩ := R.ob
  exact ne_of R.hw e (by intro z; cases z)
theorem RdAt.nn (R : RdAt C H r lw ln ws ns s) : ln ≠ r := by
  obtain ⟨dx, e⟩ := R.ob
  exact ne_of R.hn e (by intro z; cases z)
theorem RdAt.same (R : RdAt C H r lw ln ws ns s) (q : Same H H') : RdAt C H' r lw ln ws ns s := by
  obtain ⟨dx, e⟩ := R.ob
  exact ⟨⟨dx, q _ _ e⟩, q _ _ R.hw, q _ _ R.hn, R.wl, R.wz, R.al, R.nz⟩
theorem RdAt.set (R : RdAt C H r lw ln ws ns s) {dx : Addr} (s' : S) (hs : s'.at_ ≤ ws.length) : RdAt C (upd H r (.ins C dx (rfs lw s'.at_ ln s'.ch s'.mv))) r lw ln ws ns s' :=
  ⟨⟨dx, upd_same⟩, by rw [upd_ne R.nw]; exact R.hw, by rw [upd_ne R.nn]; exact R.hn, R.wl, R.wz, hs, R.nz⟩
theorem ahead_len (R : RdAt C H r lw ln ws ns s) (i : Nat) : (ahead ws i).length ≤ sizeLine := by
  unfold ahead
  cases e : ws[i]? with
  | none => exact Nat.zero_le _
  | some x => exact R.wz x (List.mem_of_getElem? e)
end
/-- an error at the word i -/
def ErrAt (BT : Addr) (E : XK) (r : Addr) (H : Hp) (i : Nat) : Prop := ∀ d H', Kr r H H' → H' d = some (.xd [(("at" : Str), .int (i : Int))]) → E (.ref BT) (some d) H'
theorem ErrAt.mono {BT : Addr} {E : XK} {r : Addr} {H H1 : Hp} {i : Nat} (h : ErrAt BT E r H i) (k : Kr r H H1) : ErrAt BT E r H1 i := fun d H' k' e => h d H' (k.trans k') e
/-- what is wanted behind a method of the reader's that answers m -/
def Po {α : Type} (C BT : Addr) (r lw ln : Addr) (ws ns : List Str) (rel : Hp → V → α → Prop) (H : Hp) (Q : VK) (E : XK) : Rs α → Prop
  | .ok (x, s1) => ∀ v H', rel H' v x → RdAt C H' r lw ln ws ns s1 → Kr r H H' → Q v H'
  | .error i => ErrAt BT E r H i
structure TxR (K : PySem.W.Frag) (mg : Str → Option Value) (C LE BT fB : Addr) : Prop where
  cl : Cls K C
  n1 : NoAttr K C "words"
  n2 : NoAttr K C "at"
  n3 : NoAttr K C "names"
  n4 : NoAttr K C "chances"
  n5 : NoAttr K C "moves"
  mgC : mg "Reader" = some (.ref C)
  mgL : mg "LossError" = some (.ref LE)
  mgB : mg "BadText" = some (.ref BT)
  bl : BaseC K LE
  ox : OexC K BT
  nB : PySem.W.findIn K (.ref BT) "at" = some none
  iB : PySem.W.findIn K (.ref BT) "__init__" = some (some (.ref fB))
  tB : PySem.W.typeIn K (.ref fB) = some (.type "function")
  len : mg "len" = none
  list : mg "list" = none
  tuple : mg "tuple" = none
  int : mg "int" = none
section
variable {P : Program} {w : World} {K : PySem.W.Frag} {mg : Str → Option Value} {base : Heap} {C LE BT fB : Addr}
theorem scBT : FnScope ["self", "at"] ["self", "at"] (defScope sBT) := ⟨rfl, rfl, rfl, by decide +kernel, rfl, by decide +kernel, by decide +kernel⟩
theorem ok_bt {fd : FuncData} (F : Fun K "__init__" "BadText.__init__" sBT fB fd) (T : TxR K mg C LE BT fB) : FnOk P w K mg base CX0 1 fB fd ["self", "at"] (spErr BT "at") := by
  refine F.ok scBT (fun vs H Q E h => ?_) (fun cdv A outer s H vs Q E hr h => ?_)
  · obtain ⟨a, n, rfl, _⟩ := h
    rfl
  · obtain ⟨a, n, rfl, ha, hn, k⟩ := h
    refine ⟨_, pss_cons (ps_expr (pe_binit T.bl rfl T.mgL (pa_cons (pv 0) (pa_cons (pe_joined (.cons pe_str (.cons (pe_fmt (pv 1)) (.cons pe_str .nil)))) pa_nil))))
      (pss_one (ps_ost (pv 0) (pv 1))), ?_⟩
    have hb : n.natAbs.log2 < 64 := PySem.Flt.log2_lt_of (by decide) hn
    have hz : (Str.ofString (toString n)).length ≤ 65 := by
      have := PySem.int_text_length_le (a := n) (k := 64) (by decide) hb
      rw [PySem.ofString_length]
      exact this
    have l1 : Str.length ("no game is written so, from word " : Str) ≤ 40 := by decide +kernel
    have l2 : Str.length (" on" : Str) ≤ 40 := by decide +kernel
    refine ⟨_, rfl, _, rfl, ?_, _, rfl, .inr ⟨n, rfl, Nat.lt_trans hb (by decide), _, rfl, ?_, _, rfl, ?_, ?_⟩⟩
    · rw [Str.empty_append]
      exact Nat.le_trans l1 (by decide)
    · rw [Str.empty_append, Str.length_append]
      exact Nat.le_trans (Nat.add_le_add l1 hz) (by decide)
    · rw [Str.empty_append, Str.length_append, Str.length_append]
      exact Nat.le_trans (Nat.add_le_add (Nat.add_le_add l1 hz) l2) (by decide)
    · exact ⟨a, BT, _, rfl, (by show 1 ≤ 1000; decide), T.ox, ha, _, rfl, _, rfl, a, BT, rfl, T.ox, T.nB, .inl ⟨ha, fun dx n1 n2 => k dx n1 n2⟩⟩
def spRInit (K : PySem.W.Frag) (C : Addr) : Sp := fun vs H Q _ => ∃ (p dx a : Addr) (ws : List Str), vs = [.ref p, .ref a] ∧ H p = some (.ins C dx []) ∧ H a = some (.lst (ws.map V.str)) ∧ ws.length ≤ 100000 ∧ (∀ x ∈ ws, x.length ≤ sizeLine) ∧
  ∀ (lw ln : Addr) (H' : Hp), lw ≠ ln → H ln = none → RdAt C H' p lw ln ws [] ⟨0, 0, 0⟩ → Kr p H H' → Q .non H'
theorem scRI : FnScope ["self", "words"] ["self", "words"] (defScope sRI) := ⟨rfl, rfl, rfl, by decide +kernel, rfl, by decide +kernel, by decide +kernel⟩
theorem ok_rinit {f : Addr} {fd : FuncData} (F : Fun K "__init__" "Reader.__init__" sRI f fd) (T : TxR K mg C LE BT fB) : FnOk P w K mg base CX0 1 f fd ["self", "words"] (spRInit K C) := by
  refine F.ok scRI (fun vs H Q E h => ?_) (fun cdv A outer s H vs Q E hr h => ?_)
  · obtain ⟨p, dx, a, ws, rfl, _⟩ := h
    rfl
  · obtain ⟨p, dx, a, ws, rfl, hp, ha, wl, wz, k⟩ := h
    refine ⟨_, pss_cons (ps_fld (pv 0) (pe_callTy call_list_of (by rfl) T.list (by decide +kernel) (pa_cons (pv 1) pa_nil)) rfl)
      (pss_cons (ps_fld (pv 0) pe_int rfl)
      (pss_cons (ps_fld (pv 0) (pe_lst pa_nil) rfl)
      (pss_cons (ps_fld (pv 0) pe_int rfl)
      (pss_one (ps_fld (pv 0) pe_int rfl))))), ?_⟩
    refine ⟨_, rfl, a, _, rfl, .inl (SqL.of ha), fun lw hlw => ?_⟩
    have n1 : p ≠ lw := ne_of_none hp hlw
    refine ⟨_, rfl, p, C, dx, [], rfl, by rw [upd_ne n1]; exact hp, T.cl, T.n1, (by show 0 < 1000; decide), ?_⟩
    refine ⟨_, rfl, p, C, dx, _, rfl, upd_same, T.cl, T.n2, (by show 1 < 1000; decide), Nat.zero_le _, fun ln hln => ?_⟩
    have n2 : p ≠ ln := fun e => by
      rw [← e, upd_same] at hln
      cases hln
    have n3 : lw ≠ ln := fun e => by
      rw [← e, upd_ne n1.symm, upd_ne n1.symm, upd_same] at hln
      cases hln
    refine ⟨_, rfl, p, C, dx, _, rfl, by rw [upd_ne n2]; exact upd_same, T.cl, T.n3, (by show 2 < 1000; decide), ?_⟩
    refine ⟨_, rfl, p, C, dx, _, rfl, upd_same, T.cl, T.n4, (by show 3 < 1000; decide), ?_⟩
    refine ⟨_, rfl, p, C, dx, _, rfl, upd_same, T.cl, T.n5, (by show 4 < 1000; decide), ?_⟩
    refine k lw ln _ n3 (by
      cases q : H ln with
      | none => rfl
      | some o =>
        rw [upd_ne n2.symm, upd_ne n2.symm, upd_ne (fun e => n3 e.symm), q] at hln
        cases hln) ⟨⟨dx, upd_same⟩, ?_, ?_, wl, wz, Nat.zero_le _, fun x hx => nomatch hx⟩ fun b o e hb => ?_
    · rw [upd_ne n1.symm, upd_ne n1.symm, upd_ne n1.symm, upd_ne n3, upd_ne n1.symm, upd_ne n1.symm, upd_same]
    · rw [upd_ne n2.symm, upd_ne n2.symm, upd_ne n2.symm, upd_same]
      rfl
    · have nb : b ≠ ln := fun q => by
        rw [← q, upd_ne hb, upd_ne hb, upd_ne (ne_of_none e hlw), e] at hln
        cases hln
      rw [upd_ne hb, upd_ne hb, upd_ne hb, upd_ne nb, upd_ne hb, upd_ne hb, upd_ne (ne_of_none e hlw)]
      exact e
/-! ### ahead, step, finish -/
def spAhead (C : Addr) : Sp := fun vs H Q _ => ∃ (r lw ln : Addr) (ws ns : List Str) (s : S), vs = [.ref r] ∧ RdAt C H r lw ln ws ns s ∧ Q (.str (ahead ws s.at_)) H
def spStep (C BT : Addr) : Sp := fun vs H Q E => ∃ (r lw ln : Addr) (ws ns : List Str) (s : S) (b : Bool), vs = [.ref r, .bl b] ∧ RdAt C H r lw ln ws ns s ∧ (b = true → s.at_ < ws.length) ∧
  (b = true → ∀ H', RdAt C H' r lw ln ws ns s.adv → Kr r H H' → Q .non H') ∧ (b = false → ErrAt BT E r H s.at_)
def spFin (C BT : Addr) : Sp := fun vs H Q E => ∃ (r lw ln : Addr) (ws ns : List Str) (s : S), vs = [.ref r] ∧ RdAt C H r lw ln ws ns s ∧ (s.at_ < ws.length → ErrAt BT E r H s.at_) ∧ (¬ s.at_ < ws.length → Q .non H)
theorem scAh : FnScope ["self"] ["self"] (defScope sAhead) := ⟨rfl, rfl, rfl, by decide +kernel, rfl, by decide +kernel, by decide +kernel⟩
theorem ok_ahead {f : Addr} {fd : FuncData} (F : Fun K "ahead" "Reader.ahead" sAhead f fd) (T : TxR K mg C LE BT fB) : FnOk P w K mg base CX0 1 f fd ["self"] (spAhead C) := by
  refine F.ok scAh (fun vs H Q E h => ?_) (fun cdv A outer s H vs Q E hr h => ?_)
  · obtain ⟨r, lw, ln, ws, ns, s, rfl, _⟩ := h
    rfl
  · obtain ⟨r, lw, ln, ws, ns, st, rfl, R, k⟩ := h
    obtain ⟨dx, e⟩ := id R.ob
    refine ⟨_, pss_one (ps_ret (pe_ifExp (pt_cmpR op_lt (pe_fld (pv 0) rfl) (pe_callB call_len_seq (by rfl) T.len PySem.boot_len (pa_cons (pe_fld (pv 0) rfl) pa_nil)) (nomark _))
      (pe_ix ix_list (pe_fld (pv 0) rfl) (pe_fld (pv 0) rfl) (fun _ _ => rfl)) pe_str)), ?_⟩
    refine ⟨_, rfl, r, C, dx, _, _, rfl, e, T.cl, T.n2, rfs_at _ _ _ _ _, _, rfl, r, C, dx, _, _, rfl, e, T.cl, T.n1, rfs_words _ _ _ _ _, lw, _, rfl, .inl (SqL.of R.hw), _, _, rfl, rfl, _, rfl, ite2 (fun z => ?_) (fun z => ?_)⟩
    · have hi : st.at_ < ws.length := by
        have := of_decide_eq_true z
        rw [List.length_map] at this
        omega
      have g : (ws.map V.str)[st.at_]? = some (.str (ahead ws st.at_)) := by
        unfold ahead
        rw [List.getElem?_map, List.getElem?_eq_getElem hi]
        rfl
      exact ⟨_, rfl, r, C, dx, _, _, rfl, e, T.cl, T.n1, rfs_words _ _ _ _ _, _, rfl, r, C, dx, _, _, rfl, e, T.cl, T.n2, rfs_at _ _ _ _ _, lw, _, _, _, rfl, rfl, SqL.of R.hw, atI_nat g, k⟩
    · have hi : ¬ st.at_ < ws.length := fun q => z (decide_eq_true (by rw [List.length_map]; omega))
      have g : ahead ws st.at_ = ("" : Str) := by
        unfold ahead
        rw [List.getElem?_eq_none (by omega)]
        rfl
      rw [g] at k
      exact k
theorem scSt : FnScope ["self", "fits"] ["self", "fits"] (defScope sStep) := ⟨rfl, rfl, rfl, by decide +kernel, rfl, by decide +kernel, by decide +kernel⟩
theorem ok_step {f : Addr} {fd fdB : FuncData} (F : Fun K "step" "Reader.step" sStep f fd) (T : TxR K mg C LE BT fB) (GB : FnOk P w K mg base CX0 1 fB fdB ["self", "at"] (spErr BT "at")) (bB : Binds K fdB ["self", "at"] []) :
    FnOk P w K mg base (L2.CX P w) 3 f fd ["self", "fits"] (spStep C BT) := by
  refine F.okX scSt (fun vs H Q E h => ?_) (fun cdv A outer s H vs Q E hr h => ?_)
  · obtain ⟨r, lw, ln, ws, ns, s, b, rfl, _⟩ := h
    rfl
  · obtain ⟨r, lw, ln, ws, ns, st, b, rfl, R, hat, k1, k2⟩ := h
    obtain ⟨dx, e⟩ := id R.ob
    refine ⟨_, pss_cons (ps_if (pt_not (pt_val (pv 1))) (pss_one (ps_raise rfl (takes_of rfl rfl rfl rfl) (pmk_oex T.ox T.iB T.tB GB hr bB .nil pass0 rfl T.mgB (pa_cons (pe_fld (pv 0) rfl) pa_nil)))) pss_nil)
      (pss_one (ps_fldaug (pv 0) pe_int in_add)), ?_⟩
    refine ⟨_, rfl, b, rfl, ?_⟩
    cases b with
    | false =>
      refine iteT ⟨_, rfl, r, C, dx, _, _, rfl, e, T.cl, T.n2, rfs_at _ _ _ _ _, (by show 1 ≤ 1000; decide), fun a na => ?_⟩
      refine ⟨a, (st.at_ : Int), rfl, upd_same, by have := R.al; have := R.wl; omega, fun d nd ne => ⟨rfl, d, _, upd_same, by rw [upd_ne ne]; exact upd_same, ?_, ?_⟩⟩
      · rw [upd_ne ne] at nd
        exact nd
      · have nd' : H d = none := by
          rw [upd_ne ne] at nd
          exact nd
        refine k2 rfl d _ (fun b o q hb => ?_) upd_same
        have q1 : b ≠ d := ne_of_none q nd'
        have q2 : b ≠ a := ne_of_none q na
        rw [upd_ne q1, del_ne q2, upd_ne q2, upd_ne q1, upd_ne q2]
        exact q
    | true =>
      refine iteF ⟨_, rfl, r, C, dx, _, _, rfl, e, T.cl, T.n2, rfs_at _ _ _ _ _, _, _, rfl, rfl, dx, _, e, by rw [rfs_len]; decide, ?_⟩
      have e1 : putF "at" (V.int ((st.at_ : Int) + 1)) (rfs lw (st.at_ : Int) ln st.ch st.mv) = rfs lw (st.adv.at_ : Int) ln st.adv.ch st.adv.mv := rfs_putAt _ _ _ _ _ _
      refine k1 rfl _ ?_ Kr.upd
      rw [e1]
      exact R.set st.adv (hat rfl)
theorem ahead_lt {ws : List Str} {i : Nat} (h : 1 ≤ (ahead ws i).length) : i < ws.length := by
  rcases Nat.lt_or_ge i ws.length with q | q
  · exact q
  · unfold ahead at h
    rw [List.getElem?_eq_none q] at h
    exact absurd h (by decide)
theorem scFi : FnScope ["self"] ["self"] (defScope sFin) := ⟨rfl, rfl, rfl, by decide +kernel, rfl, by decide +kernel, by decide +kernel⟩
theorem ok_fin {f fdB' : Addr} {fd fdB : FuncData} (F : Fun K "finish" "Reader.finish" sFin f fd) (T : TxR K mg C LE BT fB) (GB : FnOk P w K mg base CX0 1 fB fdB ["self", "at"] (spErr BT "at")) (bB : Binds K fdB ["self", "at"] []) :
    FnOk P w K mg base (L2.CX P w) 3 f fd ["self"] (spFin C BT) := by
  refine F.okX scFi (fun vs H Q E h => ?_) (fun cdv A outer s H vs Q E hr h => ?_)
  · obtain ⟨r, lw, ln, ws, ns, s, rfl, _⟩ := h
    rfl
  · obtain ⟨r, lw, ln, ws, ns, st, rfl, R, k1, k2⟩ := h
    obtain ⟨dx, e⟩ := id R.ob
    refine ⟨_, pss_one (ps_if (pt_cmpR op_lt (pe_fld (pv 0) rfl) (pe_callB call_len_seq (by rfl) T.len PySem.boot_len (pa_cons (pe_fld (pv 0) rfl) pa_nil)) (nomark _))
      (pss_one (ps_raise rfl (takes_of rfl rfl rfl rfl) (pmk_oex T.ox T.iB T.tB GB hr bB .nil pass0 rfl T.mgB (pa_cons (pe_fld (pv 0) rfl) pa_nil)))) pss_nil), ?_⟩
    refine ⟨_, rfl, r, C, dx, _, _, rfl, e, T.cl, T.n2, rfs_at _ _ _ _ _, _, rfl, r, C, dx, _, _, rfl, e, T.cl, T.n1, rfs_words _ _ _ _ _, lw, _, rfl, .inl (SqL.of R.hw), _, _, rfl, rfl, _, rfl, ite2 (fun z => ?_) (fun z => ?_)⟩
    · have hi : st.at_ < ws.length := by
        have := of_decide_eq_true z
        rw [List.length_map] at this
        omega
      refine ⟨_, rfl, r, C, dx, _, _, rfl, e, T.cl, T.n2, rfs_at _ _ _ _ _, (by show 1 ≤ 1000; decide), fun a na => ?_⟩
      refine ⟨a, (st.at_ : Int), rfl, upd_same, by have := R.al; have := R.wl; omega, fun d nd ne => ⟨rfl, d, _, upd_same, by rw [upd_ne ne]; exact upd_same, ?_, ?_⟩⟩
      · rw [upd_ne ne] at nd
        exact nd
      · have nd' : H d = none := by
          rw [upd_ne ne] at nd
          exact nd
        refine k1 hi d _ (fun b o q hb => ?_) upd_same
        have q1 : b ≠ d := ne_of_none q nd'
        have q2 : b ≠ a := ne_of_none q na
        rw [upd_ne q1, del_ne q2, upd_ne q2, upd_ne q1, upd_ne q2]
        exact q
    · have hi : ¬ st.at_ < ws.length := fun q => z (decide_eq_true (by rw [List.length_map]; omega))
      exact k2 hi
/-! ### names, seats, numbers -/
def spRd {α : Type} (C BT : Addr) (rel : Hp → V → α → Prop) (fn : List Str → List Str → S → Rs α) : Sp := fun vs H Q E => ∃ (r lw ln : Addr) (ws ns : List Str) (s : S), vs = [.ref r] ∧ RdAt C H r lw ln ws ns s ∧ Po C BT r lw ln ws ns rel H Q E (fn ws ns s)
def rStr (_ : Hp) (v : V) (x : Str) : Prop := v = .str x
def rInt (_ : Hp) (v : V) (x : Int) : Prop := v = .int x
theorem scRN : FnScope ["self", "name"] ["self"] (defScope sRName) := ⟨rfl, rfl, rfl, by decide +kernel, rfl, by decide +kernel, by decide +kernel⟩
theorem ok_rname {f fA fS : Addr} {fd fdA fdS : FuncData} (F : Fun K "read_name" "Reader.read_name" sRName f fd) (T : TxR K mg C LE BT fB)
    (GA : FnOk P w K mg base CX0 1 fA fdA ["self"] (spAhead C)) (mA : Meth K C "ahead" fA) (bA : Binds K fdA ["self"] [])
    (GS : FnOk P w K mg base (L2.CX P w) 3 fS fdS ["self", "fits"] (spStep C BT)) (mS : Meth K C "step" fS) (bS : Binds K fdS ["self", "fits"] []) :
    FnOk P w K mg base (L2.CX P w) 4 f fd ["self"] (spRd C BT rStr rName) := by
  refine F.okX scRN (fun vs H Q E h => ?_) (fun cdv A outer s H vs Q E hr h => ?_)
  · obtain ⟨r, lw, ln, ws, ns, s, rfl, _⟩ := h
    rfl
  · obtain ⟨r, lw, ln, ws, ns, st, rfl, R, po⟩ := h
    obtain ⟨dx, e⟩ := id R.ob
    have hr1 : Room 1 _ := hr.mono (by decide)
    refine ⟨_, pss_cons (ps_set (i := 1) scRN.nd rfl (Or.inl rfl) (pe_meth0 (pv 0) T.cl mA GA hr1 bA .nil pass0))
      (pss_cons (ps_expr (pe_meth (E := E) (pv 0) T.cl mS GS hr bS .nil (passes_call (takes_of rfl rfl rfl rfl) (fun _ _ _ _ h => h)) (pa_cons (pe_cmpR op_in_seq (pv 1) (pe_fld (pv 0) rfl) rfl) pa_nil)))
      (pss_one (ps_ret (pv 1)))), ?_⟩
    refine ⟨_, rfl, r, dx, _, rfl, e, rfs_no _ _ _ _ _ (by decide +kernel) (by decide +kernel) (by decide +kernel) (by decide +kernel) (by decide +kernel), r, lw, ln, ws, ns, st, rfl, R, ?_⟩
    refine ⟨_, rfl, r, dx, _, rfl, e, rfs_no _ _ _ _ _ (by decide +kernel) (by decide +kernel) (by decide +kernel) (by decide +kernel) (by decide +kernel), _, rfl, _, rfl, r, C, dx, _, _, rfl, e, T.cl, T.n3, rfs_names _ _ _ _ _, ln, _, rfl, .inl (SqL.of R.hn), rfl, flat_strs _, ?_⟩
    rw [if_neg Bool.false_ne_true, inV_str]
    refine ⟨r, lw, ln, ws, ns, st, _, rfl, R, fun hc => ?_, fun hc H' R' k' => ?_, fun hc => ?_⟩
    · exact ahead_lt (R.nz _ (List.contains_iff_mem.mp hc))
    · unfold rName at po
      rw [if_pos hc] at po
      exact ⟨_, rfl, po _ H' rfl R' k'⟩
    · unfold rName at po
      rw [if_neg (by rw [hc]; exact Bool.false_ne_true)] at po
      exact po
end
end K1

set_option Elab.async false
set_option linter.all false
set_option maxRecDepth 100000
set_option maxHeartbeats 4000000
namespace K1
open PySem PySem.Spec PyProof.Rows L2 Kx
/-! ### data of tuples, as they lie -/
mutual
inductive Dt (H : Hp) : V → PyData → Prop
  | int (i : Int) : Dt H (.int i) (.int i)
  | str (x : Str) : Dt H (.str x) (.str x)
  | tup {a : Addr} {xs : List V} {ds : List PyData} : H a = some (.tup xs) → DtAll H xs ds → Dt H (.ref a) (.tuple ds)
inductive DtAll (H : Hp) : List V → List PyData → Prop
  | nil : DtAll H [] []
  | cons {v : V} {vs : List V} {d : PyData} {ds : List PyData} : Dt H v d → DtAll H vs ds → DtAll H (v :: vs) (d :: ds)
end
/-- tuples are kept -/
def Tk (H H' : Hp) : Prop := ∀ a xs, H a = some (.tup xs) → H' a = some (.tup xs)
theorem Tk.refl (H : Hp) : Tk H H := fun _ _ e => e
theorem Tk.trans {H H1 H2 : Hp} (a : Tk H H1) (b : Tk H1 H2) : Tk H H2 := fun c xs e => b c xs (a c xs e)
theorem Tk.same {H H' : Hp} (s : Same H H') : Tk H H' := fun a xs e => s a _ e
mutual
theorem Dt.keep {H H' : Hp} (t : Tk H H') : ∀ {v : V} {d : PyData}, Dt H v d → Dt H' v d
  | _, _, .int i => .int i
  | _, _, .str x => .str x
  | _, _, .tup e a => .tup (t _ _ e) (DtAll.keep t a)
theorem DtAll.keep {H H' : Hp} (t : Tk H H') : ∀ {vs : List V} {ds : List PyData}, DtAll H vs ds → DtAll H' vs ds
  | _, _, .nil => .nil
  | _, _, .cons a b => .cons (Dt.keep t a) (DtAll.keep t b)
end
theorem Kr.tk {C : Addr} {H H' : Hp} {r lw ln : Addr} {ws ns : List Str} {s : S} (R : RdAt C H r lw ln ws ns s) (k : Kr r H H') : Tk H H' := fun a xs e => k a _ e (by
  obtain ⟨dx, q⟩ := R.ob
  exact ne_of e q (by intro z; cases z))
theorem Tk.upd {H : Hp} {p : Addr} {o : HO} (h : H p = none) : Tk H (upd H p o) := Tk.same (same_upd h)
def rEd (H : Hp) (v : V) (e : Ex) : Prop := Dt H v e.d
/-! ### the step that a method makes -/
theorem step_go {C BT r lw ln : Addr} {H H1 : Hp} {ws ns : List Str} {s : S} {E : XK} {Qn : Hp → Prop} {cond : Bool} (R : RdAt C H r lw ln ws ns s) (hE : cond = false → ErrAt BT E r H s.at_) (hl : cond = true → s.at_ < ws.length) (s1 : Same H H1)
    (hQ : cond = true → ∀ H2, RdAt C H2 r lw ln ws ns s.adv → Kr r H H2 → Qn H2) :
    RdAt C H1 r lw ln ws ns s ∧ (cond = true → s.at_ < ws.length) ∧ (cond = true → ∀ H', RdAt C H' r lw ln ws ns s.adv → Kr r H1 H' → Qn H') ∧ (cond = false → ErrAt BT E r H1 s.at_) :=
  ⟨R.same s1, hl, fun hc H2 R2 k2 => hQ hc H2 R2 ((Kr.same s1).trans k2), fun hc => (hE hc).mono (Kr.same s1)⟩
theorem num_ok {x : Str} (h : numB x = true) : PySem.intText? x = some (val x) ∧ x.length ≤ 5 ∧ 1 ≤ x.length := by
  unfold numB at h
  simp only [Bool.and_eq_true, decide_eq_true_eq] at h
  obtain ⟨⟨⟨⟨h1, h2⟩, h3⟩, _⟩, _⟩ := h
  exact ⟨int_of h3 h1 h2, h2, h1⟩
def rSeat (ws : List Str) (_ : List Str) (s : S) : Rs Str := if SEATS.contains (ahead ws s.at_) = true then .ok (ahead ws s.at_, s.adv) else .error s.at_
def spRdN (C BT : Addr) : Sp := fun vs H Q E => ∃ (r lw ln : Addr) (ws ns : List Str) (s : S) (lo hi : Int), vs = [.ref r, .int lo, .int hi] ∧ RdAt C H r lw ln ws ns s ∧ Po C BT r lw ln ws ns rInt H Q E (rNum ws lo hi s)
def spEx (C BT : Addr) (d : Nat) : Sp := fun vs H Q E => ∃ (r lw ln : Addr) (ws ns : List Str) (s : S) (dep : Int), vs = [.ref r, .int dep] ∧ dep + d = 6 ∧ RdAt C H r lw ln ws ns s ∧ Po C BT r lw ln ws ns rEd H Q E (rEx ws ns d s)
/-- how a def stands that other methods call -/
structure MtX (P : Program) (w : World) (K : PySem.W.Frag) (mg : Str → Option Value) (base : Heap) (C : Addr) (k : Nat) (m : Str) (ps : List Str) (sp : Sp) (f : Addr) (fd : FuncData) : Prop where
  ok : FnOk P w K mg base (L2.CX P w) k f fd ps sp
  mt : Meth K C m f
  bd : Binds K fd ps []
structure Mt0 (P : Program) (w : World) (K : PySem.W.Frag) (mg : Str → Option Value) (base : Heap) (C : Addr) (k : Nat) (m : Str) (ps : List Str) (sp : Sp) (f : Addr) (fd : FuncData) : Prop where
  ok : FnOk P w K mg base CX0 k f fd ps sp
  mt : Meth K C m f
  bd : Binds K fd ps []
structure Fn0 (P : Program) (w : World) (K : PySem.W.Frag) (mg : Str → Option Value) (base : Heap) (k : Nat) (x : Str) (ps : List Str) (sp : Sp) (f : Addr) (fd : FuncData) : Prop where
  ok : FnOk P w K mg base CX0 k f fd ps sp
  gl : mg x = some (.ref f)
  kp : PySem.W.keepIn K (.ref f) = true
  bd : Binds K fd ps []
/-- no attribute of a reader has a method's name -/
theorem no_m {lw ln : Addr} {i c m : Int} {f : Str} (h : (["words", "at", "names", "chances", "moves"] : List Str).contains f = false) : (rfs lw i ln c m).lookup f = none := by
  simp only [List.contains_cons, List.contains_nil, Bool.or_false, Bool.or_eq_false_iff, beq_eq_false_iff_ne, ne_eq] at h
  exact rfs_no _ _ _ _ _ h.1 h.2.1 h.2.2.1 h.2.2.2.1 h.2.2.2.2
section
variable {P : Program} {w : World} {K : PySem.W.Frag} {mg : Str → Option Value} {base : Heap} {C LE BT fB : Addr} {fA fS fN fM fU fE : Addr} {dA dS dN dM dU dE : FuncData}
theorem scRS : FnScope ["self", "seat"] ["self"] (defScope sRSeat) := ⟨rfl, rfl, rfl, by decide +kernel, rfl, by decide +kernel, by decide +kernel⟩
theorem ok_rseat {f : Addr} {fd : FuncData} (F : Fun K "read_seat" "Reader.read_seat" sRSeat f fd) (T : TxR K mg C LE BT fB) (TW : TxW K mg) (A1 : Mt0 P w K mg base C 1 "ahead" ["self"] (spAhead C) fA dA) (S1 : MtX P w K mg base C 3 "step" ["self", "fits"] (spStep C BT) fS dS) :
    FnOk P w K mg base (L2.CX P w) 4 f fd ["self"] (spRd C BT rStr rSeat) := by
  refine F.okX scRS (fun vs H Q E h => ?_) (fun cdv A outer s H vs Q E hr h => ?_)
  · obtain ⟨r, lw, ln, ws, ns, s, rfl, _⟩ := h
    rfl
  · obtain ⟨r, lw, ln, ws, ns, st, rfl, R, po⟩ := h
    obtain ⟨dx, e⟩ := id R.ob
    obtain ⟨ak, hk, sk⟩ := TW.seats
    have hr1 : Room 1 _ := hr.mono (by decide)
    refine ⟨_, pss_cons (ps_set (i := 1) scRS.nd rfl (Or.inl rfl) (pe_meth0 (pv 0) T.cl A1.mt A1.ok hr1 A1.bd .nil pass0))
      (pss_cons (ps_expr (pe_meth (E := E) (pv 0) T.cl S1.mt S1.ok hr S1.bd .nil (passes_call (takes_of rfl rfl rfl rfl) (fun _ _ _ _ h => h)) (pa_cons (pe_cmpR op_in_seq (pv 1) (pe_glob (v := .ref ak) rfl hk rfl) rfl) pa_nil)))
      (pss_one (ps_ret (pv 1)))), ?_⟩
    refine ⟨_, rfl, r, dx, _, rfl, e, no_m (by decide +kernel), r, lw, ln, ws, ns, st, rfl, R, ?_⟩
    refine ⟨_, rfl, r, dx, _, rfl, e, no_m (by decide +kernel), _, rfl, ak, _, rfl, .inr (sk _), rfl, flat_strs _, ?_⟩
    rw [if_neg Bool.false_ne_true, inV_str]
    unfold rSeat at po
    refine ⟨r, lw, ln, ws, ns, st, _, rfl, ?_⟩
    refine step_go R (fun hc => ?_) (fun hc => ?_) (Same.refl H) (fun hc H2 R2 k2 => ?_)
    · rw [if_neg (by rw [hc]; exact Bool.false_ne_true)] at po
      exact po
    · have hm := List.contains_iff_mem.mp hc
      refine ahead_lt ?_
      have : ∀ x ∈ SEATS, 1 ≤ x.length := by decide +kernel
      exact this _ hm
    · rw [if_pos hc] at po
      exact ⟨_, rfl, po _ H2 rfl R2 k2⟩
theorem scRU : FnScope ["self", "low", "high", "word"] ["self", "low", "high"] (defScope sRNum) := ⟨rfl, rfl, rfl, by decide +kernel, rfl, by decide +kernel, by decide +kernel⟩
theorem ok_rnum {f : Addr} {fd : FuncData} (F : Fun K "read_number" "Reader.read_number" sRNum f fd) (T : TxR K mg C LE BT fB) (A1 : Mt0 P w K mg base C 1 "ahead" ["self"] (spAhead C) fA dA) (S1 : MtX P w K mg base C 3 "step" ["self", "fits"] (spStep C BT) fS dS)
    (N1 : Fn0 P w K mg base 2 "is_number" ["word"] (spB numB) fN dN) : FnOk P w K mg base (L2.CX P w) 4 f fd ["self", "low", "high"] (spRdN C BT) := by
  refine F.okX scRU (fun vs H Q E h => ?_) (fun cdv A outer s H vs Q E hr h => ?_)
  · obtain ⟨r, lw, ln, ws, ns, s, lo, hi, rfl, _⟩ := h
    rfl
  · obtain ⟨r, lw, ln, ws, ns, st, lo, hi, rfl, R, po⟩ := h
    obtain ⟨dx, e⟩ := id R.ob
    have hr1 : Room 1 _ := hr.mono (by decide)
    have hr2 : Room 2 _ := hr.mono (by decide)
    refine ⟨_, pss_cons (ps_set (i := 3) scRU.nd rfl (Or.inl rfl) (pe_meth0 (pv 0) T.cl A1.mt A1.ok hr1 A1.bd .nil pass0))
      (pss_cons (ps_expr (pe_meth (E := E) (pv 0) T.cl S1.mt S1.ok hr S1.bd .nil (passes_call (takes_of rfl rfl rfl rfl) (fun _ _ _ _ h => h)) (pa_cons (pe_and (pe_call N1.ok hr2 (by rfl) N1.gl N1.kp N1.bd .nil pass0 (pa_cons (pv 3) pa_nil))
        (pe_one (pe_chain op_le op_le (pv 1) (pe_callTy call_int_str (by rfl) T.int (by decide +kernel) (pa_cons (pv 3) pa_nil)) (pv 2)))) pa_nil)))
      (pss_one (ps_ret (pe_callTy call_int_str (by rfl) T.int (by decide +kernel) (pa_cons (pv 3) pa_nil))))), ?_⟩
    refine ⟨_, rfl, r, dx, _, rfl, e, no_m (by decide +kernel), r, lw, ln, ws, ns, st, rfl, R, ?_⟩
    refine ⟨_, rfl, r, dx, _, rfl, e, no_m (by decide +kernel), _, rfl, _, rfl, ahead_len R _, fun H1 s1 => ⟨_, rfl, ?_⟩⟩
    unfold rNum at po
    have fin : ∀ (b : Bool) (Qn : Hp → Prop), (numB (ahead ws st.at_) && (decide (lo ≤ val (ahead ws st.at_)) && decide (val (ahead ws st.at_) ≤ hi))) = b → (∀ H2, RdAt C H2 r lw ln ws ns st.adv → Kr r H H2 → numB (ahead ws st.at_) = true → b = true → Qn H2) →
        RdAt C H1 r lw ln ws ns st ∧ (b = true → st.at_ < ws.length) ∧ (b = true → ∀ H', RdAt C H' r lw ln ws ns st.adv → Kr r H1 H' → Qn H') ∧ (b = false → ErrAt BT E r H1 st.at_) := by
      intro b Qn hb hQ
      refine step_go R (fun hc => ?_) (fun hc => ?_) s1 (fun hc H2 R2 k2 => ?_)
      · rw [if_neg (by rw [hb, hc]; exact Bool.false_ne_true)] at po
        exact po
      · rw [hc] at hb
        exact ahead_lt (num_ok (Bool.and_eq_true_iff.mp hb).1).2.2
      · have hb' := hb
        rw [hc] at hb'
        exact hQ H2 R2 k2 (Bool.and_eq_true_iff.mp hb').1 hc
    have ret : ∀ H2, RdAt C H2 r lw ln ws ns st.adv → Kr r H H2 → numB (ahead ws st.at_) = true → (numB (ahead ws st.at_) && (decide (lo ≤ val (ahead ws st.at_)) && decide (val (ahead ws st.at_) ≤ hi))) = true →
        (tRet (tCB (fun xs H Q => ∃ a n, xs = [V.str a] ∧ PySem.intText? a = some n ∧ a.length ≤ 640 ∧ Q (.int n) H) (tCons (tVar 3) tNil))) { nx := fun _ H' => Q .non H', rt := Q } [some (.ref r), some (.int lo), some (.int hi), some (.str (ahead ws st.at_))] H2 := by
      intro H2 R2 k2 hn hc
      rw [if_pos hc] at po
      obtain ⟨q1, q2, _⟩ := num_ok hn
      exact ⟨_, rfl, _, _, rfl, q1, Nat.le_trans q2 (by decide), po _ H2 rfl R2 k2⟩
    cases hn : numB (ahead ws st.at_) with
    | false =>
      refine iteF ⟨r, lw, ln, ws, ns, st, _, rfl, ?_⟩
      exact fin false _ (by rw [hn, Bool.false_and]) fun H2 R2 k2 q hb => absurd hb Bool.false_ne_true
    | true =>
      obtain ⟨q1, q2, _⟩ := num_ok hn
      refine iteT ⟨_, rfl, _, rfl, _, _, rfl, q1, Nat.le_trans q2 (by decide), _, _, rfl, rfl, _, rfl, ite2 (fun h1 => ?_) (fun h1 => ?_)⟩
      · refine ⟨_, rfl, _, _, rfl, rfl, r, lw, ln, ws, ns, st, _, rfl, ?_⟩
        exact fin _ _ (by rw [hn, h1, Bool.true_and, Bool.true_and]) fun H2 R2 k2 q hb => ret H2 R2 k2 hn (by rw [hn, h1, hb]; rfl)
      · refine ⟨r, lw, ln, ws, ns, st, _, rfl, ?_⟩
        refine fin false _ (by rw [hn, Bool.eq_false_iff.mpr h1, Bool.false_and, Bool.and_false]) fun H2 R2 k2 q hb => absurd hb Bool.false_ne_true
end
end K1

set_option Elab.async false
set_option linter.all false
set_option maxRecDepth 100000
set_option maxHeartbeats 4000000
namespace K1
open PySem PySem.Spec PyProof.Rows L2 Kx
structure TxM (mg : Str → Option Value) : Prop where
  de : ∃ t, mg "DEEPEST_EXPRESSION" = some (.int 6 t)
  di : ∃ t, mg "DEEPEST_IF" = some (.int 4 t)
  mr : ∃ t, mg "MOST_RESULTS" = some (.int 8 t)
  mc : ∃ t, mg "MOST_CHANCES" = some (.int 10 t)
  mv : ∃ t, mg "MOST_VARIABLES" = some (.int 5 t)
theorem ops_ne : ∀ x ∈ OPS, 1 ≤ x.length := by decide +kernel
theorem dt_str {H : Hp} {x : Str} : Dt H (.str x) (.str x) := .str x
section
variable {P : Program} {w : World} {K : PySem.W.Frag} {mg : Str → Option Value} {base : Heap} {C LE BT fB : Addr} {fA fS fN fM fU fE : Addr} {dA dS dN dM dU dE : FuncData}
theorem scRE : FnScope ["self", "depth", "word", "first", "second"] ["self", "depth"] (defScope sRExpr) := ⟨rfl, rfl, rfl, by decide +kernel, rfl, by decide +kernel, by decide +kernel⟩
/-- a number or a variable -/
theorem expr_rest {f : Addr} {cdv : Value} {A : Around} {outer : List Env} {s : Shared} {H0 : Hp} {E : XK} {Q : VK} (T : TxR K mg C LE BT fB) (TW : TxW K mg) (N1 : Fn0 P w K mg base 2 "is_number" ["word"] (spB numB) fN dN)
    (M1 : MtX P w K mg base C 4 "read_name" ["self"] (spRd C BT rStr rName) fM dM) (U1 : MtX P w K mg base C 4 "read_number" ["self", "low", "high"] (spRdN C BT) fU dU)
    (hr : Room 4 (cxOf (L2.CX P w) P w K mg base ["self", "depth", "word", "first", "second"] "Reader.read_expression" (defScope sRExpr) f cdv A outer s H0 E).A) :
    ∃ t, PSs (cxOf (L2.CX P w) P w K mg base ["self", "depth", "word", "first", "second"] "Reader.read_expression" (defScope sRExpr) f cdv A outer s H0 E) ((defBody sRExpr).drop 2) t ∧
      ∀ (r lw ln : Addr) (ws ns : List Str) (st : S) (dep : Int) (d : Nat) (v3 v4 : Option V) (H : Hp), RdAt C H r lw ln ws ns st → OPS.contains (ahead ws st.at_) = false → Po C BT r lw ln ws ns rEd H Q E (rEx ws ns d st) →
        t { nx := fun _ H' => Q .non H', rt := Q } [some (.ref r), some (.int dep), some (.str (ahead ws st.at_)), v3, v4] H := by
  have hr2 : Room 2 _ := hr.mono (by decide)
  obtain ⟨tg, hg⟩ := TW.lg
  refine ⟨_, pss_cons (ps_if (pt_val (pe_call N1.ok hr2 (by rfl) N1.gl N1.kp N1.bd .nil pass0 (pa_cons (pv 2) pa_nil)))
      (pss_one (ps_ret (pe_tup (pa_cons pe_str (pa_cons (pe_meth (E := E) (pv 0) T.cl U1.mt U1.ok hr U1.bd .nil (passes_call (takes_of rfl rfl rfl rfl) (fun _ _ _ _ h => h)) (pa_cons pe_int (pa_cons (pe_glob (v := .int 65535) rfl hg ⟨_, rfl⟩) pa_nil))) pa_nil))))) pss_nil)
    (pss_one (ps_ret (pe_tup (pa_cons pe_str (pa_cons (pe_meth0 (E := E) (pv 0) T.cl M1.mt M1.ok hr M1.bd .nil (passes_call (takes_of rfl rfl rfl rfl) (fun _ _ _ _ h => h))) pa_nil))))), ?_⟩
  intro r lw ln ws ns st dep d v3 v4 H R ho po
  refine ⟨_, rfl, _, rfl, ahead_len R _, fun H1 s1 => ⟨_, rfl, ?_⟩⟩
  have R1 := R.same s1
  obtain ⟨dx, e⟩ := id R1.ob
  unfold rEx at po
  rw [if_neg (by rw [ho]; exact Bool.false_ne_true)] at po
  cases hn : numB (ahead ws st.at_) with
  | true =>
    rw [if_pos hn] at po
    refine iteT ⟨_, rfl, r, dx, _, rfl, e, no_m (by decide +kernel), r, lw, ln, ws, ns, st, 0, 65535, rfl, R1, ?_⟩
    cases hm : rNum ws 0 65535 st with
    | error i =>
      rw [hm] at po
      exact ErrAt.mono po (Kr.same s1)
    | ok p =>
      obtain ⟨n, s2⟩ := p
      rw [hm] at po
      intro v H2 hv R2 k2
      obtain rfl : v = .int n := hv
      refine ⟨(by show 2 ≤ sizeLine; decide), fun q hq => po _ _ ?_ (R2.same (same_upd hq)) (((Kr.same s1).trans k2).trans (Kr.same (same_upd hq)))⟩
      exact .tup upd_same (.cons (.str _) (.cons (.int _) .nil))
  | false =>
    rw [if_neg (by rw [hn]; exact Bool.false_ne_true)] at po
    refine iteF ⟨_, rfl, r, dx, _, rfl, e, no_m (by decide +kernel), r, lw, ln, ws, ns, st, rfl, R1, ?_⟩
    cases hm : rName ws ns st with
    | error i =>
      rw [hm] at po
      exact ErrAt.mono po (Kr.same s1)
    | ok p =>
      obtain ⟨n, s2⟩ := p
      rw [hm] at po
      intro v H2 hv R2 k2
      obtain rfl : v = .str n := hv
      refine ⟨(by show 2 ≤ sizeLine; decide), fun q hq => po _ _ ?_ (R2.same (same_upd hq)) (((Kr.same s1).trans k2).trans (Kr.same (same_upd hq)))⟩
      exact .tup upd_same (.cons (.str _) (.cons (.str _) .nil))
theorem ok_rexpr0 {f : Addr} {fd : FuncData} (F : Fun K "read_expression" "Reader.read_expression" sRExpr f fd) (T : TxR K mg C LE BT fB) (TW : TxW K mg) (TM : TxM mg) (A1 : Mt0 P w K mg base C 1 "ahead" ["self"] (spAhead C) fA dA)
    (S1 : MtX P w K mg base C 3 "step" ["self", "fits"] (spStep C BT) fS dS) (N1 : Fn0 P w K mg base 2 "is_number" ["word"] (spB numB) fN dN)
    (M1 : MtX P w K mg base C 4 "read_name" ["self"] (spRd C BT rStr rName) fM dM) (U1 : MtX P w K mg base C 4 "read_number" ["self", "low", "high"] (spRdN C BT) fU dU) : FnOk P w K mg base (L2.CX P w) 5 f fd ["self", "depth"] (spEx C BT 0) := by
  refine F.okX scRE (fun vs H Q E h => ?_) (fun cdv A outer s H vs Q E hr h => ?_)
  · obtain ⟨r, lw, ln, ws, ns, s, dep, rfl, _⟩ := h
    rfl
  · obtain ⟨r, lw, ln, ws, ns, st, dep, rfl, hd, R, po⟩ := h
    obtain ⟨tt, ht, rest⟩ := expr_rest (f := f) (cdv := cdv) (A := A) (outer := outer) (s := s) (H0 := H) (E := E) (Q := Q) T TW N1 M1 U1 hr
    obtain ⟨dx, e⟩ := id R.ob
    obtain ⟨ak, hk, sk⟩ := TW.ops
    obtain ⟨te, he⟩ := TM.de
    have hr1 : Room 1 _ := hr.mono (by decide)
    have hr3 : Room 3 _ := hr.mono (by decide)
    refine ⟨_, pss_cons (ps_set (i := 2) scRE.nd rfl (Or.inl rfl) (pe_meth0 (pv 0) T.cl A1.mt A1.ok hr1 A1.bd .nil pass0))
      (pss_cons (ps_if (pt_cmpR op_in_seq (pv 2) (pe_glob (v := .ref ak) rfl hk rfl) rfl)
        (pss_cons (ps_expr (pe_meth (E := E) (pv 0) T.cl S1.mt S1.ok hr3 S1.bd .nil (passes_call (takes_of rfl rfl rfl rfl) (fun _ _ _ _ h => h)) (pa_cons (pe_cmpR op_lt (pv 1) (pe_glob (v := .int 6) rfl he ⟨_, rfl⟩) (nomark _)) pa_nil)))
        (pss_cons ps_never (pss_cons ps_never (pss_one ps_never)))) pss_nil) ht), ?_⟩
    refine ⟨_, rfl, r, dx, _, rfl, e, no_m (by decide +kernel), r, lw, ln, ws, ns, st, rfl, R, ?_⟩
    refine ⟨_, rfl, ak, _, rfl, .inr (sk _), rfl, flat_strs _, ?_⟩
    rw [if_neg Bool.false_ne_true, inV_str]
    refine ⟨_, rfl, ?_⟩
    cases ho : OPS.contains (ahead ws st.at_) with
    | true =>
      refine iteT ⟨_, rfl, r, dx, _, rfl, e, no_m (by decide +kernel), _, rfl, _, _, rfl, rfl, r, lw, ln, ws, ns, st, _, rfl, ?_⟩
      refine step_go R (fun _ => ?_) (fun hc => ?_) (Same.refl H) (fun hc H2 R2 k2 => ?_)
      · unfold rEx at po
        rw [if_pos ho] at po
        exact po
      · exact ahead_lt (ops_ne _ (List.contains_iff_mem.mp ho))
      · have := of_decide_eq_true hc
        omega
    | false => exact iteF (rest r lw ln ws ns st dep 0 _ _ H R ho po)
theorem ok_rexprS {f : Addr} {fd : FuncData} {k d : Nat} (hk4 : 4 ≤ k) (F : Fun K "read_expression" "Reader.read_expression" sRExpr f fd) (T : TxR K mg C LE BT fB) (TW : TxW K mg) (TM : TxM mg) (A1 : Mt0 P w K mg base C 1 "ahead" ["self"] (spAhead C) fA dA)
    (S1 : MtX P w K mg base C 3 "step" ["self", "fits"] (spStep C BT) fS dS) (N1 : Fn0 P w K mg base 2 "is_number" ["word"] (spB numB) fN dN)
    (M1 : MtX P w K mg base C 4 "read_name" ["self"] (spRd C BT rStr rName) fM dM) (U1 : MtX P w K mg base C 4 "read_number" ["self", "low", "high"] (spRdN C BT) fU dU)
    (G : MtX P w K mg base C k "read_expression" ["self", "depth"] (spEx C BT d) f fd) : FnOk P w K mg base (L2.CX P w) (k + 1) f fd ["self", "depth"] (spEx C BT (d + 1)) := by
  refine F.okX scRE (fun vs H Q E h => ?_) (fun cdv A outer s H vs Q E hr h => ?_)
  · obtain ⟨r, lw, ln, ws, ns, s, dep, rfl, _⟩ := h
    rfl
  · obtain ⟨r, lw, ln, ws, ns, st, dep, rfl, hd, R, po⟩ := h
    obtain ⟨tt, ht, rest⟩ := expr_rest (f := f) (cdv := cdv) (A := A) (outer := outer) (s := s) (H0 := H) (E := E) (Q := Q) T TW N1 M1 U1 (hr.mono hk4)
    obtain ⟨dx, e⟩ := id R.ob
    obtain ⟨ak, hk, sk⟩ := TW.ops
    obtain ⟨te, he⟩ := TM.de
    have hr1 : Room 1 _ := hr.mono (by omega)
    have hr3 : Room 3 _ := hr.mono (by omega)
    refine ⟨_, pss_cons (ps_set (i := 2) scRE.nd rfl (Or.inl rfl) (pe_meth0 (pv 0) T.cl A1.mt A1.ok hr1 A1.bd .nil pass0))
      (pss_cons (ps_if (pt_cmpR op_in_seq (pv 2) (pe_glob (v := .ref ak) rfl hk rfl) rfl)
        (pss_cons (ps_expr (pe_meth (E := E) (pv 0) T.cl S1.mt S1.ok hr3 S1.bd .nil (passes_call (takes_of rfl rfl rfl rfl) (fun _ _ _ _ h => h)) (pa_cons (pe_cmpR op_lt (pv 1) (pe_glob (v := .int 6) rfl he ⟨_, rfl⟩) (nomark _)) pa_nil)))
        (pss_cons (ps_set (i := 3) scRE.nd rfl (Or.inl rfl) (pe_meth (E := E) (pv 0) T.cl G.mt G.ok hr G.bd .nil (passes_call (takes_of rfl rfl rfl rfl) (fun _ _ _ _ h => h)) (pa_cons (pe_op op_add (pv 1) pe_int) pa_nil)))
        (pss_cons (ps_set (i := 4) scRE.nd rfl (Or.inl rfl) (pe_meth (E := E) (pv 0) T.cl G.mt G.ok hr G.bd .nil (passes_call (takes_of rfl rfl rfl rfl) (fun _ _ _ _ h => h)) (pa_cons (pe_op op_add (pv 1) pe_int) pa_nil)))
        (pss_one (ps_ret (pe_tup (pa_cons (pv 2) (pa_cons (pv 3) (pa_cons (pv 4) pa_nil))))))))) pss_nil) ht), ?_⟩
    refine ⟨_, rfl, r, dx, _, rfl, e, no_m (by decide +kernel), r, lw, ln, ws, ns, st, rfl, R, ?_⟩
    refine ⟨_, rfl, ak, _, rfl, .inr (sk _), rfl, flat_strs _, ?_⟩
    rw [if_neg Bool.false_ne_true, inV_str]
    refine ⟨_, rfl, ?_⟩
    cases ho : OPS.contains (ahead ws st.at_) with
    | true =>
      refine iteT ⟨_, rfl, r, dx, _, rfl, e, no_m (by decide +kernel), _, rfl, _, _, rfl, rfl, r, lw, ln, ws, ns, st, _, rfl, ?_⟩
      unfold rEx at po
      rw [if_pos ho] at po
      dsimp only at po
      refine step_go R (fun hc => ?_) (fun hc => ahead_lt (ops_ne _ (List.contains_iff_mem.mp ho))) (Same.refl H) (fun hc H2 R2 k2 => ?_)
      · have := of_decide_eq_false hc
        omega
      · obtain ⟨dx2, e2⟩ := id R2.ob
        refine ⟨_, rfl, r, dx2, _, rfl, e2, no_m (by decide +kernel), _, rfl, _, _, rfl, rfl, r, lw, ln, ws, ns, st.adv, dep + 1, rfl, by omega, R2, ?_⟩
        cases hm : rEx ws ns d st.adv with
        | error i =>
          rw [hm] at po
          exact ErrAt.mono po k2
        | ok p =>
          obtain ⟨a, s1⟩ := p
          rw [hm] at po
          dsimp only at po
          intro v H3 hv R3 k3
          obtain ⟨dx3, e3⟩ := id R3.ob
          refine ⟨_, rfl, r, dx3, _, rfl, e3, no_m (by decide +kernel), _, rfl, _, _, rfl, rfl, r, lw, ln, ws, ns, s1, dep + 1, rfl, by omega, R3, ?_⟩
          cases hm2 : rEx ws ns d s1 with
          | error i =>
            rw [hm2] at po
            exact ErrAt.mono po (k2.trans k3)
          | ok p2 =>
            obtain ⟨b, s2⟩ := p2
            rw [hm2] at po
            intro v2 H4 hv2 R4 k4
            refine ⟨_, rfl, _, rfl, _, rfl, (by show 3 ≤ sizeLine; decide), fun q hq => po _ _ ?_ (R4.same (same_upd hq)) (((k2.trans k3).trans k4).trans (Kr.same (same_upd hq)))⟩
            have t1 : Tk H3 H4 := Kr.tk R3 k4
            have t2 := Tk.upd (o := .tup [.str (ahead ws st.at_), v, v2]) hq
            exact .tup upd_same (.cons (.str _) (.cons ((Dt.keep t1 hv).keep t2) (.cons (Dt.keep t2 hv2) .nil)))
    | false => exact iteF (rest r lw ln ws ns st dep (d + 1) _ _ H R ho po)
end
end K1

set_option Elab.async false
set_option linter.all false
set_option maxRecDepth 100000
set_option maxHeartbeats 4000000
namespace K1
open PySem PySem.Spec PyProof.Rows L2 Kx
/-! ### reading goes on, statements -/
theorem rChance_lt {ws ns : List Str} {k : Str} {s s1 : S} {x : Sm} (h : rChance ws ns k s = .ok (x, s1)) : s.at_ < s1.at_ := by
  unfold rChance at h
  split at h
  · split at h
    · cases h
    · rename_i q1
      have q1 := rName_at q1
      split at h
      · cases h
      · rename_i q2
        have q2 := rNum_at q2
        have e1 : s.adv.at_ = s.at_ + 1 := rfl
        split at h
        · injection h with h
          injection h with _ h
          rw [← h, q2, q1]
          show s.at_ < s.at_ + 1 + 1 + 1
          omega
        · injection h with h
          injection h with _ h
          rw [← h, q2, q1]
          show s.at_ < s.at_ + 1 + 1 + 1
          omega
  · cases h
theorem rIf_lt {ws ns : List Str} {r : Nat} {blk : S → Rs Bk} (hb : ∀ s s1 b, blk s = .ok (b, s1) → s.at_ ≤ s1.at_) {s s1 : S} {x : Sm} (h : rIf ws ns r blk s = .ok (x, s1)) : s.at_ < s1.at_ := by
  unfold rIf at h
  have e1 : s.adv.at_ = s.at_ + 1 := rfl
  split at h
  · split at h
    · cases h
    · rename_i q1
      have l1 := rEx_lt q1
      split at h
      · cases h
      · rename_i a s2 q2
        have l2 := hb _ _ _ q2
        have e2 : s2.adv.at_ = s2.at_ + 1 := rfl
        split at h
        · split at h
          · cases h
          · rename_i b s3 q3
            have l3 := hb _ _ _ q3
            have e3 : s3.adv.at_ = s3.at_ + 1 := rfl
            split at h
            · injection h with h
              injection h with _ h
              rw [← h]
              omega
            · cases h
        · split at h
          · injection h with h
            injection h with _ h
            rw [← h]
            omega
          · cases h
  · cases h
theorem rSm_lt {ws ns : List Str} {r : Nat} {blk : S → Rs Bk} (hb : ∀ s s1 b, blk s = .ok (b, s1) → s.at_ ≤ s1.at_) {s s1 : S} {x : Sm} (h : rSm ws ns r blk s = .ok (x, s1)) : s.at_ < s1.at_ := by
  unfold rSm at h
  have e1 : s.adv.at_ = s.at_ + 1 := rfl
  have e2 : s.adv.adv.at_ = s.at_ + 2 := rfl
  split at h
  · exact rChance_lt h
  · split at h
    · exact rIf_lt hb h
    · split at h
      · split at h
        · split at h
          · cases h
          · rename_i q1
            have q1 := rName_at q1
            split at h
            · cases h
            · rename_i q2
              have l2 := rEx_lt q2
              injection h with h
              injection h with _ h
              rw [← h]
              rw [q1] at l2
              omega
        · cases h
      · split at h
        · split at h
          · split at h
            · cases h
            · rename_i q1
              have l1 := rEx_lt q1
              injection h with h
              injection h with _ h
              rw [← h]
              omega
          · cases h
        · split at h
          · cases h
          · rename_i q1
            have l1 := rEx_lt q1
            injection h with h
            injection h with _ h
            rw [← h]
            omega
theorem rLoop_le {ws : List Str} {stm : S → Rs Sm} (hs : ∀ s s1 x, stm s = .ok (x, s1) → s.at_ < s1.at_) : ∀ (f : Nat) (s s1 : S) (b : Bk), rLoop ws stm f s = .ok (b, s1) → s.at_ ≤ s1.at_
  | 0, s, s1, b, h => by
    unfold rLoop at h
    injection h with h
    injection h with _ h
    rw [h]
    exact Nat.le_refl _
  | f + 1, s, s1, b, h => by
    unfold rLoop at h
    split at h
    · split at h
      · cases h
      · rename_i q1
        split at h
        · cases h
        · rename_i q2
          have l1 := hs _ _ _ q1
          have l2 := rLoop_le hs f _ _ _ q2
          injection h with h
          injection h with _ h
          rw [← h]
          omega
    · injection h with h
      injection h with _ h
      rw [h]
      exact Nat.le_refl _
/-- the blocks in the ifs of a block that stands r deep from the bound -/
def blkOf (ws ns : List Str) : Nat → S → Rs Bk
  | 0 => fun _ => .error 0
  | r + 1 => rBk ws ns r
theorem rBk_eq (ws ns : List Str) (r : Nat) : rBk ws ns r = rLoop ws (rSm ws ns r (blkOf ws ns r)) (ws.length + 1) := by
  cases r <;> rfl
theorem rBk_le {ws ns : List Str} : ∀ (r : Nat) (s s1 : S) (b : Bk), rBk ws ns r s = .ok (b, s1) → s.at_ ≤ s1.at_
  | 0, s, s1, b, h => rLoop_le (fun _ _ _ q => rSm_lt (fun _ _ _ z => by cases z) q) _ _ _ _ h
  | r + 1, s, s1, b, h => rLoop_le (fun _ _ _ q => rSm_lt (fun _ _ _ z => rBk_le r _ _ _ z) q) _ _ _ _ h
theorem blkOf_le {ws ns : List Str} (r : Nat) (s s1 : S) (b : Bk) (h : blkOf ws ns r s = .ok (b, s1)) : s.at_ ≤ s1.at_ := by
  cases r with
  | zero => cases h
  | succ r => exact rBk_le r _ _ _ h
theorem rStm_lt {ws ns : List Str} {r : Nat} {s s1 : S} {x : Sm} (h : rSm ws ns r (blkOf ws ns r) s = .ok (x, s1)) : s.at_ < s1.at_ := rSm_lt (blkOf_le r) h
/-- statements in front of a block -/
def pre : List Sm → Bk → Bk
  | [], b => b
  | x :: xs, b => .cons x (pre xs b)
theorem pre_app (xs : List Sm) (x : Sm) (b : Bk) : pre (xs ++ [x]) b = pre xs (.cons x b) := by
  induction xs with
  | nil => rfl
  | cons y ys ih =>
    show Bk.cons y (pre (ys ++ [x]) b) = Bk.cons y (pre ys (.cons x b))
    rw [ih]
theorem pre_ds (xs : List Sm) : (pre xs .nil).ds = xs.map Sm.d := by
  induction xs with
  | nil => rfl
  | cons y ys ih =>
    show y.d :: (pre ys .nil).ds = y.d :: ys.map Sm.d
    rw [ih]
def addPre (xs : List Sm) : Rs Bk → Rs Bk
  | .error i => .error i
  | .ok (b, s) => .ok (pre xs b, s)
theorem ds_len (b : Bk) : (b.ds.length = 0) ↔ b.emp = true := by
  cases b with
  | nil => exact ⟨fun _ => rfl, fun _ => rfl⟩
  | cons s b => exact ⟨fun h => by simp [Bk.ds] at h, fun h => by cases h⟩
theorem DtAll.length {H : Hp} : ∀ {vs : List V} {ds : List PyData}, DtAll H vs ds → vs.length = ds.length
  | _, _, .nil => rfl
  | _, _, .cons _ r => congrArg Nat.succ r.length
theorem DtAll.snoc {H : Hp} : ∀ {vs : List V} {ds : List PyData} {v : V} {d : PyData}, DtAll H vs ds → Dt H v d → DtAll H (vs ++ [v]) (ds ++ [d])
  | _, _, _, _, .nil, h => .cons h .nil
  | _, _, _, _, .cons a r, h => .cons a (r.snoc h)
def rSd (H : Hp) (v : V) (x : Sm) : Prop := Dt H v x.d
def rBd (H : Hp) (v : V) (b : Bk) : Prop := Dt H v (.tuple b.ds)
def spChance (C BT : Addr) : Sp := fun vs H Q E => ∃ (r lw ln : Addr) (ws ns : List Str) (s : S), vs = [.ref r, .str (ahead ws s.at_)] ∧ CHS.contains (ahead ws s.at_) = true ∧ RdAt C H r lw ln ws ns s ∧ Po C BT r lw ln ws ns rSd H Q E (rChance ws ns (ahead ws s.at_) s)
def spIf (C BT : Addr) (d : Nat) : Sp := fun vs H Q E => ∃ (r lw ln : Addr) (ws ns : List Str) (s : S) (dep : Int), vs = [.ref r, .int dep] ∧ dep + d = 5 ∧ ahead ws s.at_ = "if" ∧ RdAt C H r lw ln ws ns s ∧ Po C BT r lw ln ws ns rSd H Q E (rIf ws ns d (blkOf ws ns d) s)
def spSm (C BT : Addr) (d : Nat) : Sp := fun vs H Q E => ∃ (r lw ln : Addr) (ws ns : List Str) (s : S) (dep : Int), vs = [.ref r, .int dep] ∧ dep + d = 5 ∧ STM.contains (ahead ws s.at_) = true ∧ RdAt C H r lw ln ws ns s ∧ Po C BT r lw ln ws ns rSd H Q E (rSm ws ns d (blkOf ws ns d) s)
def spBk (C BT : Addr) (d : Nat) : Sp := fun vs H Q E => ∃ (r lw ln : Addr) (ws ns : List Str) (s : S) (dep : Int), vs = [.ref r, .int dep] ∧ dep + d = 5 ∧ RdAt C H r lw ln ws ns s ∧ Po C BT r lw ln ws ns rBd H Q E (rBk ws ns d s)
section
variable {P : Program} {w : World} {K : PySem.W.Frag} {mg : Str → Option Value} {base : Heap} {C LE BT fB : Addr} {fA fS fN fM fU fE : Addr} {dA dS dN dM dU dE : FuncData}
theorem scRC : FnScope ["self", "kind", "name", "results", "move"] ["self", "kind"] (defScope sRChance) := ⟨rfl, rfl, rfl, by decide +kernel, rfl, by decide +kernel, by decide +kernel⟩
theorem chs_ne : ∀ x ∈ CHS, 1 ≤ x.length := by decide +kernel
theorem ok_rchance {f : Addr} {fd : FuncData} (F : Fun K "read_chance" "Reader.read_chance" sRChance f fd) (T : TxR K mg C LE BT fB) (TM : TxM mg) (S1 : MtX P w K mg base C 3 "step" ["self", "fits"] (spStep C BT) fS dS)
    (M1 : MtX P w K mg base C 4 "read_name" ["self"] (spRd C BT rStr rName) fM dM) (U1 : MtX P w K mg base C 4 "read_number" ["self", "low", "high"] (spRdN C BT) fU dU) : FnOk P w K mg base (L2.CX P w) 5 f fd ["self", "kind"] (spChance C BT) := by
  refine F.okX scRC (fun vs H Q E h => ?_) (fun cdv A outer s H vs Q E hr h => ?_)
  · obtain ⟨r, lw, ln, ws, ns, s, rfl, _⟩ := h
    rfl
  · obtain ⟨r, lw, ln, ws, ns, st, rfl, hch, R, po⟩ := h
    obtain ⟨dx, e⟩ := id R.ob
    obtain ⟨tc, hc⟩ := TM.mc
    obtain ⟨tr, hmr⟩ := TM.mr
    have hr3 : Room 3 _ := hr.mono (by decide)
    refine ⟨_, pss_cons (ps_expr (pe_meth (E := E) (pv 0) T.cl S1.mt S1.ok hr3 S1.bd .nil (passes_call (takes_of rfl rfl rfl rfl) (fun _ _ _ _ h => h)) (pa_cons (pe_and (pe_cmpR op_gt (pe_callB call_len_seq (by rfl) T.len PySem.boot_len (pa_cons (pe_fld (pv 0) rfl) pa_nil)) pe_int (nomark _))
        (pe_one (pe_cmpR op_lt (pe_fld (pv 0) rfl) (pe_glob (v := .int 10) rfl hc ⟨_, rfl⟩) (nomark _)))) pa_nil)))
      (pss_cons (ps_fldaug (pv 0) pe_int in_add)
      (pss_cons (ps_set (i := 2) scRC.nd rfl (Or.inl rfl) (pe_meth0 (E := E) (pv 0) T.cl M1.mt M1.ok hr M1.bd .nil (passes_call (takes_of rfl rfl rfl rfl) (fun _ _ _ _ h => h))))
      (pss_cons (ps_set (i := 3) scRC.nd rfl (Or.inl rfl) (pe_meth (E := E) (pv 0) T.cl U1.mt U1.ok hr U1.bd .nil (passes_call (takes_of rfl rfl rfl rfl) (fun _ _ _ _ h => h)) (pa_cons pe_int (pa_cons (pe_glob (v := .int 8) rfl hmr ⟨_, rfl⟩) pa_nil))))
      (pss_cons (ps_if (pt_cmpR op_eq (pv 1) pe_str (nomark _)) (pss_one (ps_ret (pe_tup (pa_cons (pv 1) (pa_cons (pv 2) (pa_cons (pv 3) pa_nil)))))) pss_nil)
      (pss_cons (ps_set (i := 4) scRC.nd rfl (Or.inl rfl) (pe_fld (pv 0) rfl))
      (pss_cons (ps_fldaug (pv 0) pe_int in_add)
      (pss_one (ps_ret (pe_tup (pa_cons (pv 1) (pa_cons (pv 2) (pa_cons (pv 3) (pa_cons (pv 4) pa_nil))))))))))))), ?_⟩
    unfold rChance at po
    refine ⟨_, rfl, r, dx, _, rfl, e, no_m (by decide +kernel), _, rfl, r, C, dx, _, _, rfl, e, T.cl, T.n3, rfs_names _ _ _ _ _, ln, _, rfl, .inl (SqL.of R.hn), _, _, rfl, rfl, _, rfl, ?_⟩
    have hlen : decide ((0 : Int) < ((ns.map V.str).length : Int)) = decide (0 < ns.length) := decide_eq_decide.mpr (by rw [List.length_map]; omega)
    have hchd : decide ((st.ch : Int) < 10) = decide (st.ch < 10) := decide_eq_decide.mpr (by omega)
    -- behind the step
    have go : ∀ (cond : Bool), (decide (0 < ns.length) && decide (st.ch < 10)) = cond → ∀ (Qn : Hp → Prop), (cond = true → ∀ H2, RdAt C H2 r lw ln ws ns st.adv → Kr r H H2 → Qn H2) →
        RdAt C H r lw ln ws ns st ∧ (cond = true → st.at_ < ws.length) ∧ (cond = true → ∀ H', RdAt C H' r lw ln ws ns st.adv → Kr r H H' → Qn H') ∧ (cond = false → ErrAt BT E r H st.at_) := by
      intro cond ec Qn hQ
      refine step_go R (fun hc' => ?_) (fun _ => ahead_lt (chs_ne _ (List.contains_iff_mem.mp hch))) (Same.refl H) hQ
      rw [if_neg (by rw [ec, hc']; exact Bool.false_ne_true)] at po
      exact po
    refine ite2 (fun h1 => ?_) (fun h1 => ?_)
    · refine ⟨_, rfl, r, C, dx, _, _, rfl, e, T.cl, T.n4, rfs_ch _ _ _ _ _, _, _, rfl, rfl, r, lw, ln, ws, ns, st, _, rfl, ?_⟩
      have h1' : decide (0 < ns.length) = true := by
        rw [← hlen]
        exact h1
      refine go _ (by rw [h1', Bool.true_and, ← hchd]) _ (fun hcc H2 R2 k2 => ?_)
      rw [hchd] at hcc
      rw [if_pos (by rw [h1', hcc]; rfl)] at po
      obtain ⟨dx2, e2⟩ := id R2.ob
      refine ⟨_, rfl, r, C, dx2, _, _, rfl, e2, T.cl, T.n4, rfs_ch _ _ _ _ _, _, _, rfl, rfl, dx2, _, e2, by rw [rfs_len]; decide, ?_⟩
      have e3 : putF "chances" (V.int ((st.adv.ch : Int) + 1)) (rfs lw (st.adv.at_ : Int) ln st.adv.ch st.adv.mv) = rfs lw (({ st.adv with ch := st.ch + 1 } : S).at_ : Int) ln ({ st.adv with ch := st.ch + 1 } : S).ch ({ st.adv with ch := st.ch + 1 } : S).mv := rfs_putCh _ _ _ _ _ _
      rw [e3]
      have R3 := R2.set (dx := dx2) { st.adv with ch := st.ch + 1 } R2.al
      have k3 : Kr r H (upd H2 r (.ins C dx2 (rfs lw (({ st.adv with ch := st.ch + 1 } : S).at_ : Int) ln ({ st.adv with ch := st.ch + 1 } : S).ch ({ st.adv with ch := st.ch + 1 } : S).mv))) := k2.trans Kr.upd
      obtain ⟨dx3, e4⟩ := id R3.ob
      refine ⟨_, rfl, r, dx3, _, rfl, e4, no_m (by decide +kernel), r, lw, ln, ws, ns, _, rfl, R3, ?_⟩
      cases hm : rName ws ns { st.adv with ch := st.ch + 1 } with
      | error i =>
        rw [hm] at po
        exact ErrAt.mono po k3
      | ok p =>
        obtain ⟨x, s1⟩ := p
        rw [hm] at po
        dsimp only at po
        intro v H4 hv R4 k4
        obtain rfl : v = .str x := hv
        obtain ⟨dx4, e5⟩ := id R4.ob
        refine ⟨_, rfl, r, dx4, _, rfl, e5, no_m (by decide +kernel), r, lw, ln, ws, ns, s1, 1, 8, rfl, R4, ?_⟩
        cases hm2 : rNum ws 1 8 s1 with
        | error i =>
          rw [hm2] at po
          exact ErrAt.mono po (k3.trans k4)
        | ok p2 =>
          obtain ⟨n, s2⟩ := p2
          rw [hm2] at po
          dsimp only at po
          intro v2 H5 hv2 R5 k5
          obtain rfl : v2 = .int n := hv2
          have k05 := (k3.trans k4).trans k5
          refine ⟨_, rfl, rfl, _, rfl, ite2 (fun z => ?_) (fun z => ?_)⟩
          · have ek : ahead ws st.at_ = "draw" := V.str.inj (of_decide_eq_true z)
            rw [if_pos ek] at po
            refine ⟨_, rfl, _, rfl, _, rfl, (by show 3 ≤ sizeLine; decide), fun q hq => po _ _ ?_ (R5.same (same_upd hq)) (k05.trans (Kr.same (same_upd hq)))⟩
            rw [ek]
            exact .tup upd_same (.cons (.str _) (.cons (.str _) (.cons (.int _) .nil)))
          · have ek : ¬ ahead ws st.at_ = "draw" := fun q => z (decide_eq_true (by rw [q]))
            rw [if_neg ek] at po
            obtain ⟨dx5, e6⟩ := id R5.ob
            refine ⟨_, rfl, r, C, dx5, _, _, rfl, e6, T.cl, T.n5, rfs_mv _ _ _ _ _, _, rfl, r, C, dx5, _, _, rfl, e6, T.cl, T.n5, rfs_mv _ _ _ _ _, _, _, rfl, rfl, dx5, _, e6, by rw [rfs_len]; decide, ?_⟩
            have e7 : putF "moves" (V.int ((s2.mv : Int) + 1)) (rfs lw (s2.at_ : Int) ln s2.ch s2.mv) = rfs lw (({ s2 with mv := s2.mv + 1 } : S).at_ : Int) ln ({ s2 with mv := s2.mv + 1 } : S).ch ({ s2 with mv := s2.mv + 1 } : S).mv := rfs_putMv _ _ _ _ _ _
            rw [e7]
            have R6 := R5.set (dx := dx5) { s2 with mv := s2.mv + 1 } R5.al
            refine ⟨_, rfl, _, rfl, _, rfl, _, rfl, (by show 4 ≤ sizeLine; decide), fun q hq => po _ _ ?_ (R6.same (same_upd hq)) ((k05.trans Kr.upd).trans (Kr.same (same_upd hq)))⟩
            exact .tup upd_same (.cons (.str _) (.cons (.str _) (.cons (.int _) (.cons (.int _) .nil))))
    · refine ⟨r, lw, ln, ws, ns, st, _, rfl, ?_⟩
      have h1' : decide (0 < ns.length) = false := by
        rw [← hlen]
        exact Bool.eq_false_iff.mpr h1
      exact go false (by rw [h1', Bool.false_and]) _ (fun hcc => absurd hcc Bool.false_ne_true)
end
end K1

set_option Elab.async false
set_option linter.all false
set_option maxRecDepth 100000
set_option maxHeartbeats 4000000
namespace K1
open PySem PySem.Spec PyProof.Rows L2 Kx
theorem if_ne {x : Str} (h : x = ("if" : Str)) : 1 ≤ x.length := by rw [h]; decide +kernel
theorem else_ne {x : Str} (h : x = ("else" : Str)) : 1 ≤ x.length := by rw [h]; decide +kernel
theorem end_ne {x : Str} (h : x = ("end" : Str)) : 1 ≤ x.length := by rw [h]; decide +kernel
section
variable {P : Program} {w : World} {K : PySem.W.Frag} {mg : Str → Option Value} {base : Heap} {C LE BT fB : Addr} {fA fS fN fM fU fE fX fC fT : Addr} {dA dS dN dM dU dE dX dC dT : FuncData}
theorem scRF : FnScope ["self", "depth", "value", "then", "otherwise"] ["self", "depth"] (defScope sRIf) := ⟨rfl, rfl, rfl, by decide +kernel, rfl, by decide +kernel, by decide +kernel⟩
theorem ok_rif0 {f : Addr} {fd : FuncData} (F : Fun K "read_if" "Reader.read_if" sRIf f fd) (T : TxR K mg C LE BT fB) (TM : TxM mg) (S1 : MtX P w K mg base C 3 "step" ["self", "fits"] (spStep C BT) fS dS) : FnOk P w K mg base (L2.CX P w) 11 f fd ["self", "depth"] (spIf C BT 0) := by
  refine F.okX scRF (fun vs H Q E h => ?_) (fun cdv A outer s H vs Q E hr h => ?_)
  · obtain ⟨r, lw, ln, ws, ns, s, dep, rfl, _⟩ := h
    rfl
  · obtain ⟨r, lw, ln, ws, ns, st, dep, rfl, hd, hif, R, po⟩ := h
    obtain ⟨dx, e⟩ := id R.ob
    obtain ⟨ti, hi⟩ := TM.di
    have hr3 : Room 3 _ := hr.mono (by decide)
    refine ⟨_, pss_cons (ps_expr (pe_meth (E := E) (pv 0) T.cl S1.mt S1.ok hr3 S1.bd .nil (passes_call (takes_of rfl rfl rfl rfl) (fun _ _ _ _ h => h)) (pa_cons (pe_cmpR op_le (pv 1) (pe_glob (v := .int 4) rfl hi ⟨_, rfl⟩) (nomark _)) pa_nil)))
      (pss_cons ps_never (pss_cons ps_never (pss_cons ps_never (pss_cons ps_never (pss_cons ps_never (pss_cons ps_never (pss_one ps_never))))))), ?_⟩
    unfold rIf at po
    rw [if_neg (Nat.lt_irrefl 0)] at po
    refine ⟨_, rfl, r, dx, _, rfl, e, no_m (by decide +kernel), _, rfl, _, _, rfl, rfl, r, lw, ln, ws, ns, st, _, rfl, ?_⟩
    refine step_go R (fun _ => po) (fun _ => ahead_lt (if_ne hif)) (Same.refl H) (fun hc H2 R2 k2 => ?_)
    have := of_decide_eq_true hc
    omega
theorem ok_rifS {f : Addr} {fd : FuncData} {k d : Nat} (hk : 10 ≤ k) (hd4 : d < 4) (F : Fun K "read_if" "Reader.read_if" sRIf f fd) (T : TxR K mg C LE BT fB) (TM : TxM mg) (A1 : Mt0 P w K mg base C 1 "ahead" ["self"] (spAhead C) fA dA) (S1 : MtX P w K mg base C 3 "step" ["self", "fits"] (spStep C BT) fS dS)
    (X1 : MtX P w K mg base C 10 "read_expression" ["self", "depth"] (spEx C BT 5) fX dX) (B1 : MtX P w K mg base C k "read_block" ["self", "depth"] (spBk C BT d) fE dE) : FnOk P w K mg base (L2.CX P w) (k + 1) f fd ["self", "depth"] (spIf C BT (d + 1)) := by
  refine F.okX scRF (fun vs H Q E h => ?_) (fun cdv A outer s H vs Q E hr h => ?_)
  · obtain ⟨r, lw, ln, ws, ns, s, dep, rfl, _⟩ := h
    rfl
  · obtain ⟨r, lw, ln, ws, ns, st, dep, rfl, hd, hif, R, po⟩ := h
    obtain ⟨dx, e⟩ := id R.ob
    obtain ⟨ti, hi⟩ := TM.di
    have hr1 : Room 1 _ := hr.mono (by omega)
    have hr3 : Room 3 _ := hr.mono (by omega)
    have hrx : Room 10 _ := hr.mono hk
    refine ⟨_, pss_cons (ps_expr (pe_meth (E := E) (pv 0) T.cl S1.mt S1.ok hr3 S1.bd .nil (passes_call (takes_of rfl rfl rfl rfl) (fun _ _ _ _ h => h)) (pa_cons (pe_cmpR op_le (pv 1) (pe_glob (v := .int 4) rfl hi ⟨_, rfl⟩) (nomark _)) pa_nil)))
      (pss_cons (ps_set (i := 2) scRF.nd rfl (Or.inl rfl) (pe_meth (E := E) (pv 0) T.cl X1.mt X1.ok hrx X1.bd .nil (passes_call (takes_of rfl rfl rfl rfl) (fun _ _ _ _ h => h)) (pa_cons pe_int pa_nil)))
      (pss_cons (ps_set (i := 3) scRF.nd rfl (Or.inl rfl) (pe_meth (E := E) (pv 0) T.cl B1.mt B1.ok hr B1.bd .nil (passes_call (takes_of rfl rfl rfl rfl) (fun _ _ _ _ h => h)) (pa_cons (pe_op op_add (pv 1) pe_int) pa_nil)))
      (pss_cons (ps_if (pt_cmpR op_ne (pe_meth0 (pv 0) T.cl A1.mt A1.ok hr1 A1.bd .nil pass0) pe_str (nomark _))
        (pss_cons (ps_expr (pe_meth (E := E) (pv 0) T.cl S1.mt S1.ok hr3 S1.bd .nil (passes_call (takes_of rfl rfl rfl rfl) (fun _ _ _ _ h => h)) (pa_cons (pe_cmpR op_eq (pe_meth0 (pv 0) T.cl A1.mt A1.ok hr1 A1.bd .nil pass0) pe_str (nomark _)) pa_nil)))
        (pss_one (ps_ret (pe_tup (pa_cons pe_str (pa_cons (pv 2) (pa_cons (pv 3) (pa_cons (pe_tup pa_nil) pa_nil)))))))) pss_nil)
      (pss_cons (ps_expr (pe_meth (E := E) (pv 0) T.cl S1.mt S1.ok hr3 S1.bd .nil (passes_call (takes_of rfl rfl rfl rfl) (fun _ _ _ _ h => h)) (pa_cons pe_bl pa_nil)))
      (pss_cons (ps_set (i := 4) scRF.nd rfl (Or.inl rfl) (pe_meth (E := E) (pv 0) T.cl B1.mt B1.ok hr B1.bd .nil (passes_call (takes_of rfl rfl rfl rfl) (fun _ _ _ _ h => h)) (pa_cons (pe_op op_add (pv 1) pe_int) pa_nil)))
      (pss_cons (ps_expr (pe_meth (E := E) (pv 0) T.cl S1.mt S1.ok hr3 S1.bd .nil (passes_call (takes_of rfl rfl rfl rfl) (fun _ _ _ _ h => h)) (pa_cons (pe_and (pe_cmpR op_eq (pe_meth0 (pv 0) T.cl A1.mt A1.ok hr1 A1.bd .nil pass0) pe_str (nomark _))
        (pe_one (pe_cmpR op_gt (pe_callB call_len_seq (by rfl) T.len PySem.boot_len (pa_cons (pv 4) pa_nil)) pe_int (nomark _)))) pa_nil)))
      (pss_one (ps_ret (pe_tup (pa_cons pe_str (pa_cons (pv 2) (pa_cons (pv 3) (pa_cons (pv 4) pa_nil))))))))))))), ?_⟩
    unfold rIf at po
    rw [if_pos (Nat.succ_pos d)] at po
    refine ⟨_, rfl, r, dx, _, rfl, e, no_m (by decide +kernel), _, rfl, _, _, rfl, rfl, r, lw, ln, ws, ns, st, _, rfl, ?_⟩
    refine step_go R (fun hc => ?_) (fun _ => ahead_lt (if_ne hif)) (Same.refl H) (fun hc H2 R2 k2 => ?_)
    · have := of_decide_eq_false hc
      omega
    obtain ⟨dx2, e2⟩ := id R2.ob
    refine ⟨_, rfl, r, dx2, _, rfl, e2, no_m (by decide +kernel), r, lw, ln, ws, ns, st.adv, 1, rfl, by decide, R2, ?_⟩
    cases hm : rEx ws ns 5 st.adv with
    | error i =>
      rw [hm] at po
      exact ErrAt.mono po k2
    | ok p =>
      obtain ⟨ex, s1⟩ := p
      rw [hm] at po
      dsimp only at po
      intro v H3 hv R3 k3
      obtain ⟨dx3, e3⟩ := id R3.ob
      refine ⟨_, rfl, r, dx3, _, rfl, e3, no_m (by decide +kernel), _, rfl, _, _, rfl, rfl, r, lw, ln, ws, ns, s1, dep + 1, rfl, by omega, R3, ?_⟩
      have k03 := k2.trans k3
      show Po C BT r lw ln ws ns rBd H3 _ E (rBk ws ns d s1)
      have eb : blkOf ws ns (d + 1) = rBk ws ns d := rfl
      rw [eb] at po
      cases hm2 : rBk ws ns d s1 with
      | error i =>
        rw [hm2] at po
        exact ErrAt.mono po k03
      | ok p2 =>
        obtain ⟨ba, s2⟩ := p2
        rw [hm2] at po
        dsimp only at po
        intro v2 H4 hv2 R4 k4
        obtain ⟨dx4, e4⟩ := id R4.ob
        have k04 := k03.trans k4
        have hv4 : Dt H4 v ex.d := Dt.keep (Kr.tk R3 k4) hv
        refine ⟨_, rfl, r, dx4, _, rfl, e4, no_m (by decide +kernel), r, lw, ln, ws, ns, s2, rfl, R4, rfl, _, rfl, ?_⟩
        by_cases he : ahead ws s2.at_ = ("else" : Str)
        · rw [if_pos he] at po
          rw [decide_eq_true (show V.str (ahead ws s2.at_) = V.str ("else" : Str) by rw [he])]
          refine iteF ⟨_, rfl, r, dx4, _, rfl, e4, no_m (by decide +kernel), r, lw, ln, ws, ns, s2, _, rfl, ?_⟩
          refine step_go R4 (fun hc => by cases hc) (fun _ => ahead_lt (else_ne he)) (Same.refl H4) (fun _ H5 R5 k5 => ?_)
          obtain ⟨dx5, e5⟩ := id R5.ob
          have k05 := k04.trans k5
          have t45 := Kr.tk R4 k5
          refine ⟨_, rfl, r, dx5, _, rfl, e5, no_m (by decide +kernel), _, rfl, _, _, rfl, rfl, r, lw, ln, ws, ns, s2.adv, dep + 1, rfl, by omega, R5, ?_⟩
          cases hm3 : rBk ws ns d s2.adv with
          | error i =>
            rw [hm3] at po
            exact ErrAt.mono po k05
          | ok p3 =>
            obtain ⟨bb, s3⟩ := p3
            rw [hm3] at po
            dsimp only at po
            intro v3 H6 hv3 R6 k6
            obtain ⟨dx6, e6⟩ := id R6.ob
            have k06 := k05.trans k6
            have t46 := t45.trans (Kr.tk R5 k6)
            refine ⟨_, rfl, r, dx6, _, rfl, e6, no_m (by decide +kernel), _, rfl, r, dx6, _, rfl, e6, no_m (by decide +kernel), r, lw, ln, ws, ns, s3, rfl, R6, rfl, _, rfl, ?_⟩
            have fin : ∀ (cond : Bool), (decide (ahead ws s3.at_ = ("end" : Str)) && !bb.emp) = cond → ∀ (Qn : Hp → Prop), (cond = true → ∀ H', RdAt C H' r lw ln ws ns s3.adv → Kr r H6 H' → Qn H') →
                RdAt C H6 r lw ln ws ns s3 ∧ (cond = true → s3.at_ < ws.length) ∧ (cond = true → ∀ H', RdAt C H' r lw ln ws ns s3.adv → Kr r H6 H' → Qn H') ∧ (cond = false → ErrAt BT E r H6 s3.at_) := by
              intro cond ec Qn hQ
              refine step_go R6 (fun hc => ?_) (fun hc => ?_) (Same.refl H6) hQ
              · rw [hc] at ec
                rw [if_neg (fun q => by rw [decide_eq_true q.1, q.2] at ec; cases ec)] at po
                exact ErrAt.mono po k06
              · rw [hc] at ec
                exact ahead_lt (end_ne (of_decide_eq_true (Bool.and_eq_true_iff.mp ec).1))
            by_cases hend : ahead ws s3.at_ = ("end" : Str)
            · rw [decide_eq_true (show V.str (ahead ws s3.at_) = V.str ("end" : Str) by rw [hend])]
              cases hv3 with
              | @tup a xs ds ea da =>
                have la := da.length
                refine iteT ⟨_, rfl, a, xs, rfl, .inr (SqT.of ea), _, _, rfl, rfl, r, lw, ln, ws, ns, s3, _, rfl, ?_⟩
                have ec : (decide (ahead ws s3.at_ = ("end" : Str)) && !bb.emp) = decide ((0 : Int) < (xs.length : Int)) := by
                  rw [decide_eq_true hend, Bool.true_and, la]
                  cases hb : bb.emp with
                  | true =>
                    rw [(ds_len bb).mpr hb]
                    rfl
                  | false =>
                    have : bb.ds.length ≠ 0 := fun q => by
                      rw [(ds_len bb).mp q] at hb
                      cases hb
                    exact (decide_eq_true (by omega)).symm
                refine fin _ ec _ (fun hc H7 R7 k7 => ?_)
                rw [hc, decide_eq_true hend, Bool.true_and] at ec
                have hb : bb.emp = false := by
                  cases q : bb.emp
                  · rfl
                  · rw [q] at ec
                    cases ec
                rw [if_pos ⟨hend, hb⟩] at po
                have t67 := Kr.tk R6 k7
                refine ⟨_, rfl, _, rfl, _, rfl, (by show 4 ≤ sizeLine; decide), fun q hq => po _ _ ?_ (R7.same (same_upd hq)) ((k06.trans k7).trans (Kr.same (same_upd hq)))⟩
                have tq := Tk.upd (o := .tup [.str ("if" : Str), v, v2, .ref a]) hq
                exact .tup upd_same (.cons (.str _) (.cons (Dt.keep ((t46.trans t67).trans tq) hv4) (.cons (Dt.keep ((t46.trans t67).trans tq) hv2) (.cons (Dt.keep (t67.trans tq) (.tup ea da)) .nil))))
            · rw [decide_eq_false (show ¬ V.str (ahead ws s3.at_) = V.str ("end" : Str) from fun q => hend (V.str.inj q))]
              refine iteF ⟨r, lw, ln, ws, ns, s3, _, rfl, ?_⟩
              exact fin false (by rw [decide_eq_false hend, Bool.false_and]) _ (fun hc => absurd hc Bool.false_ne_true)
        · rw [if_neg he] at po
          rw [decide_eq_false (show ¬ V.str (ahead ws s2.at_) = V.str ("else" : Str) from fun q => he (V.str.inj q))]
          refine iteT ⟨_, rfl, r, dx4, _, rfl, e4, no_m (by decide +kernel), _, rfl, r, dx4, _, rfl, e4, no_m (by decide +kernel), r, lw, ln, ws, ns, s2, rfl, R4, rfl, r, lw, ln, ws, ns, s2, _, rfl, ?_⟩
          by_cases hend : ahead ws s2.at_ = ("end" : Str)
          · rw [if_pos hend] at po
            rw [decide_eq_true (show V.str (ahead ws s2.at_) = V.str ("end" : Str) by rw [hend])]
            refine step_go R4 (fun hc => by cases hc) (fun _ => ahead_lt (end_ne hend)) (Same.refl H4) (fun _ H5 R5 k5 => ?_)
            have t45 := Kr.tk R4 k5
            refine ⟨_, rfl, _, rfl, Nat.zero_le _, fun q0 hq0 => ⟨(by show 4 ≤ sizeLine; decide), fun q hq => po _ _ ?_ ((R5.same (same_upd hq0)).same (same_upd hq)) (((k04.trans k5).trans (Kr.same (same_upd hq0))).trans (Kr.same (same_upd hq)))⟩⟩
            have tq0 := Tk.upd (o := .tup []) hq0
            have tq := Tk.upd (o := .tup [.str ("if" : Str), v, v2, .ref q0]) hq
            have e0 : (upd H5 q0 (.tup [])) q0 = some (.tup []) := upd_same
            exact .tup upd_same (.cons (.str _) (.cons (Dt.keep ((t45.trans tq0).trans tq) hv4) (.cons (Dt.keep ((t45.trans tq0).trans tq) hv2) (.cons (Dt.keep tq (.tup e0 .nil)) .nil))))
          · rw [if_neg hend] at po
            rw [decide_eq_false (show ¬ V.str (ahead ws s2.at_) = V.str ("end" : Str) from fun q => hend (V.str.inj q))]
            refine step_go R4 (fun _ => ErrAt.mono po k04) (fun hc => by cases hc) (Same.refl H4) (fun hc => by cases hc)
end
end K1

set_option Elab.async false
set_option linter.all false
set_option maxRecDepth 100000
set_option maxHeartbeats 4000000
namespace K1
open PySem PySem.Spec PyProof.Rows L2 Kx
theorem stm_ne : ∀ x ∈ STM, 1 ≤ x.length := by decide +kernel
section
variable {P : Program} {w : World} {K : PySem.W.Frag} {mg : Str → Option Value} {base : Heap} {C LE BT fB : Addr} {fA fS fN fM fU fE fX fC fT : Addr} {dA dS dN dM dU dE dX dC dT : FuncData}
theorem scRT : FnScope ["self", "depth", "kind", "name", "seat"] ["self", "depth"] (defScope sRStat) := ⟨rfl, rfl, rfl, by decide +kernel, rfl, by decide +kernel, by decide +kernel⟩
theorem ok_rstat {f : Addr} {fd : FuncData} {k d : Nat} (hk : 11 ≤ k) (F : Fun K "read_statement" "Reader.read_statement" sRStat f fd) (T : TxR K mg C LE BT fB) (TW : TxW K mg) (A1 : Mt0 P w K mg base C 1 "ahead" ["self"] (spAhead C) fA dA) (S1 : MtX P w K mg base C 3 "step" ["self", "fits"] (spStep C BT) fS dS)
    (M1 : MtX P w K mg base C 4 "read_name" ["self"] (spRd C BT rStr rName) fM dM) (T1 : MtX P w K mg base C 4 "read_seat" ["self"] (spRd C BT rStr rSeat) fT dT)
    (X1 : MtX P w K mg base C 10 "read_expression" ["self", "depth"] (spEx C BT 5) fX dX) (C1 : MtX P w K mg base C 5 "read_chance" ["self", "kind"] (spChance C BT) fC dC) (I1 : MtX P w K mg base C k "read_if" ["self", "depth"] (spIf C BT d) fE dE) :
    FnOk P w K mg base (L2.CX P w) (k + 1) f fd ["self", "depth"] (spSm C BT d) := by
  refine F.okX scRT (fun vs H Q E h => ?_) (fun cdv A outer s H vs Q E hr h => ?_)
  · obtain ⟨r, lw, ln, ws, ns, s, dep, rfl, _⟩ := h
    rfl
  · obtain ⟨r, lw, ln, ws, ns, st, dep, rfl, hd, hst, R, po⟩ := h
    obtain ⟨dx, e⟩ := id R.ob
    obtain ⟨ak, hk', sk⟩ := TW.chs
    have hr1 : Room 1 _ := hr.mono (by omega)
    have hr3 : Room 3 _ := hr.mono (by omega)
    have hr4 : Room 4 _ := hr.mono (by omega)
    have hr5 : Room 5 _ := hr.mono (by omega)
    have hrx : Room 10 _ := hr.mono (by omega)
    have hlt : st.at_ < ws.length := ahead_lt (stm_ne _ (List.contains_iff_mem.mp hst))
    refine ⟨_, pss_cons (ps_set (i := 2) scRT.nd rfl (Or.inl rfl) (pe_meth0 (pv 0) T.cl A1.mt A1.ok hr1 A1.bd .nil pass0))
      (pss_cons (ps_if (pt_cmpR op_in_seq (pv 2) (pe_glob (v := .ref ak) rfl hk' rfl) rfl) (pss_one (ps_ret (pe_meth (E := E) (pv 0) T.cl C1.mt C1.ok hr5 C1.bd .nil (passes_call (takes_of rfl rfl rfl rfl) (fun _ _ _ _ h => h)) (pa_cons (pv 2) pa_nil)))) pss_nil)
      (pss_cons (ps_if (pt_cmpR op_eq (pv 2) pe_str (nomark _)) (pss_one (ps_ret (pe_meth (E := E) (pv 0) T.cl I1.mt I1.ok hr I1.bd .nil (passes_call (takes_of rfl rfl rfl rfl) (fun _ _ _ _ h => h)) (pa_cons (pv 1) pa_nil)))) pss_nil)
      (pss_cons (ps_if (pt_cmpR op_eq (pv 2) pe_str (nomark _))
        (pss_cons (ps_expr (pe_meth (E := E) (pv 0) T.cl S1.mt S1.ok hr3 S1.bd .nil (passes_call (takes_of rfl rfl rfl rfl) (fun _ _ _ _ h => h)) (pa_cons (pe_cmpR op_gt (pe_callB call_len_seq (by rfl) T.len PySem.boot_len (pa_cons (pe_fld (pv 0) rfl) pa_nil)) pe_int (nomark _)) pa_nil)))
        (pss_cons (ps_set (i := 3) scRT.nd rfl (Or.inl rfl) (pe_meth0 (E := E) (pv 0) T.cl M1.mt M1.ok hr4 M1.bd .nil (passes_call (takes_of rfl rfl rfl rfl) (fun _ _ _ _ h => h))))
        (pss_one (ps_ret (pe_tup (pa_cons (pv 2) (pa_cons (pv 3) (pa_cons (pe_meth (E := E) (pv 0) T.cl X1.mt X1.ok hrx X1.bd .nil (passes_call (takes_of rfl rfl rfl rfl) (fun _ _ _ _ h => h)) (pa_cons pe_int pa_nil)) pa_nil)))))))) pss_nil)
      (pss_cons (ps_expr (pe_meth (E := E) (pv 0) T.cl S1.mt S1.ok hr3 S1.bd .nil (passes_call (takes_of rfl rfl rfl rfl) (fun _ _ _ _ h => h)) (pa_cons pe_bl pa_nil)))
      (pss_cons (ps_if (pt_cmpR op_eq (pv 2) pe_str (nomark _))
        (pss_cons (ps_set (i := 4) scRT.nd rfl (Or.inl rfl) (pe_meth0 (E := E) (pv 0) T.cl T1.mt T1.ok hr4 T1.bd .nil (passes_call (takes_of rfl rfl rfl rfl) (fun _ _ _ _ h => h))))
        (pss_one (ps_ret (pe_tup (pa_cons (pv 2) (pa_cons (pv 4) (pa_cons (pe_meth (E := E) (pv 0) T.cl X1.mt X1.ok hrx X1.bd .nil (passes_call (takes_of rfl rfl rfl rfl) (fun _ _ _ _ h => h)) (pa_cons pe_int pa_nil)) pa_nil))))))) pss_nil)
      (pss_one (ps_ret (pe_tup (pa_cons (pv 2) (pa_cons (pe_meth (E := E) (pv 0) T.cl X1.mt X1.ok hrx X1.bd .nil (passes_call (takes_of rfl rfl rfl rfl) (fun _ _ _ _ h => h)) (pa_cons pe_int pa_nil)) pa_nil)))))))))), ?_⟩
    unfold rSm at po
    refine ⟨_, rfl, r, dx, _, rfl, e, no_m (by decide +kernel), r, lw, ln, ws, ns, st, rfl, R, ?_⟩
    refine ⟨_, rfl, ak, _, rfl, .inr (sk _), rfl, flat_strs _, ?_⟩
    rw [if_neg Bool.false_ne_true, inV_str]
    refine ⟨_, rfl, ?_⟩
    cases hc : CHS.contains (ahead ws st.at_) with
    | true =>
      rw [if_pos hc] at po
      exact iteT ⟨_, rfl, r, dx, _, rfl, e, no_m (by decide +kernel), _, rfl, r, lw, ln, ws, ns, st, rfl, hc, R, po⟩
    | false =>
      rw [if_neg (by rw [hc]; exact Bool.false_ne_true)] at po
      refine iteF ⟨_, rfl, rfl, _, rfl, ite2 (fun z => ?_) (fun z => ?_)⟩
      · have hif : ahead ws st.at_ = ("if" : Str) := V.str.inj (of_decide_eq_true z)
        rw [if_pos hif] at po
        exact ⟨_, rfl, r, dx, _, rfl, e, no_m (by decide +kernel), _, rfl, r, lw, ln, ws, ns, st, dep, rfl, hd, hif, R, po⟩
      · have hif : ¬ ahead ws st.at_ = ("if" : Str) := fun q => z (decide_eq_true (by rw [q]))
        rw [if_neg hif] at po
        refine ⟨_, rfl, rfl, _, rfl, ite2 (fun z2 => ?_) (fun z2 => ?_)⟩
        · have hset : ahead ws st.at_ = ("set" : Str) := V.str.inj (of_decide_eq_true z2)
          rw [if_pos hset] at po
          have hl : decide ((0 : Int) < ((ns.map V.str).length : Int)) = decide (0 < ns.length) := decide_eq_decide.mpr (by rw [List.length_map]; omega)
          refine ⟨_, rfl, r, dx, _, rfl, e, no_m (by decide +kernel), _, rfl, r, C, dx, _, _, rfl, e, T.cl, T.n3, rfs_names _ _ _ _ _, ln, _, rfl, .inl (SqL.of R.hn), _, _, rfl, rfl, r, lw, ln, ws, ns, st, _, rfl, ?_⟩
          refine step_go R (fun hcc => ?_) (fun _ => hlt) (Same.refl H) (fun hcc H2 R2 k2 => ?_)
          · have hcc' : decide ((0 : Int) < ((ns.map V.str).length : Int)) = false := hcc
            rw [hl] at hcc'
            rw [if_neg (of_decide_eq_false hcc')] at po
            exact po
          · have hcc' : decide ((0 : Int) < ((ns.map V.str).length : Int)) = true := hcc
            rw [hl] at hcc'
            rw [if_pos (of_decide_eq_true hcc')] at po
            obtain ⟨dx2, e2⟩ := id R2.ob
            refine ⟨_, rfl, r, dx2, _, rfl, e2, no_m (by decide +kernel), r, lw, ln, ws, ns, st.adv, rfl, R2, ?_⟩
            cases hm : rName ws ns st.adv with
            | error i =>
              rw [hm] at po
              exact ErrAt.mono po k2
            | ok p =>
              obtain ⟨x, s1⟩ := p
              rw [hm] at po
              dsimp only at po
              intro v H3 hv R3 k3
              obtain rfl : v = .str x := hv
              obtain ⟨dx3, e3⟩ := id R3.ob
              refine ⟨_, rfl, _, rfl, _, rfl, r, dx3, _, rfl, e3, no_m (by decide +kernel), r, lw, ln, ws, ns, s1, 1, rfl, by decide, R3, ?_⟩
              cases hm2 : rEx ws ns 5 s1 with
              | error i =>
                rw [hm2] at po
                exact ErrAt.mono po (k2.trans k3)
              | ok p2 =>
                obtain ⟨ex, s2⟩ := p2
                rw [hm2] at po
                intro v2 H4 hv2 R4 k4
                refine ⟨(by show 3 ≤ sizeLine; decide), fun q hq => po _ _ ?_ (R4.same (same_upd hq)) (((k2.trans k3).trans k4).trans (Kr.same (same_upd hq)))⟩
                have tq := Tk.upd (o := .tup [.str (ahead ws st.at_), .str x, v2]) hq
                show Dt _ _ (.tuple [.str ("set" : Str), .str x, ex.d])
                rw [← hset]
                exact .tup upd_same (.cons (.str _) (.cons (.str _) (.cons (Dt.keep tq hv2) .nil)))
        · have hset : ¬ ahead ws st.at_ = ("set" : Str) := fun q => z2 (decide_eq_true (by rw [q]))
          rw [if_neg hset] at po
          refine ⟨_, rfl, r, dx, _, rfl, e, no_m (by decide +kernel), r, lw, ln, ws, ns, st, _, rfl, ?_⟩
          refine step_go R (fun hcc => by cases hcc) (fun _ => hlt) (Same.refl H) (fun _ H2 R2 k2 => ?_)
          obtain ⟨dx2, e2⟩ := id R2.ob
          refine ⟨_, rfl, rfl, _, rfl, ite2 (fun z3 => ?_) (fun z3 => ?_)⟩
          · have hsh : ahead ws st.at_ = ("show" : Str) := V.str.inj (of_decide_eq_true z3)
            rw [if_pos hsh] at po
            refine ⟨_, rfl, r, dx2, _, rfl, e2, no_m (by decide +kernel), r, lw, ln, ws, ns, st.adv, rfl, R2, ?_⟩
            have es : st.adv.at_ = st.at_ + 1 := rfl
            cases hse : SEATS.contains (ahead ws (st.at_ + 1)) with
            | false =>
              rw [if_neg (by rw [hse]; exact Bool.false_ne_true)] at po
              have q : rSeat ws ns st.adv = .error (st.at_ + 1) := by
                unfold rSeat
                rw [es, if_neg (by rw [hse]; exact Bool.false_ne_true)]
              rw [q]
              exact ErrAt.mono po k2
            | true =>
              rw [if_pos hse] at po
              have q : rSeat ws ns st.adv = .ok (ahead ws (st.at_ + 1), st.adv.adv) := by
                unfold rSeat
                rw [es, if_pos hse]
              rw [q]
              intro v H3 hv R3 k3
              obtain rfl : v = .str (ahead ws (st.at_ + 1)) := hv
              obtain ⟨dx3, e3⟩ := id R3.ob
              refine ⟨_, rfl, _, rfl, _, rfl, r, dx3, _, rfl, e3, no_m (by decide +kernel), r, lw, ln, ws, ns, st.adv.adv, 1, rfl, by decide, R3, ?_⟩
              cases hm2 : rEx ws ns 5 st.adv.adv with
              | error i =>
                rw [hm2] at po
                exact ErrAt.mono po (k2.trans k3)
              | ok p2 =>
                obtain ⟨ex, s2⟩ := p2
                rw [hm2] at po
                intro v2 H4 hv2 R4 k4
                refine ⟨(by show 3 ≤ sizeLine; decide), fun q hq => po _ _ ?_ (R4.same (same_upd hq)) (((k2.trans k3).trans k4).trans (Kr.same (same_upd hq)))⟩
                have tq := Tk.upd (o := .tup [.str (ahead ws st.at_), .str (ahead ws (st.at_ + 1)), v2]) hq
                show Dt _ _ (.tuple [.str ("show" : Str), .str _, ex.d])
                rw [← hsh]
                exact .tup upd_same (.cons (.str _) (.cons (.str _) (.cons (Dt.keep tq hv2) .nil)))
          · have hsh : ¬ ahead ws st.at_ = ("show" : Str) := fun q => z3 (decide_eq_true (by rw [q]))
            rw [if_neg hsh] at po
            refine ⟨_, rfl, _, rfl, r, dx2, _, rfl, e2, no_m (by decide +kernel), r, lw, ln, ws, ns, st.adv, 1, rfl, by decide, R2, ?_⟩
            cases hm2 : rEx ws ns 5 st.adv with
            | error i =>
              rw [hm2] at po
              exact ErrAt.mono po k2
            | ok p2 =>
              obtain ⟨ex, s2⟩ := p2
              rw [hm2] at po
              intro v2 H4 hv2 R4 k4
              refine ⟨(by show 2 ≤ sizeLine; decide), fun q hq => po _ _ ?_ (R4.same (same_upd hq)) ((k2.trans k4).trans (Kr.same (same_upd hq)))⟩
              have tq := Tk.upd (o := .tup [.str (ahead ws st.at_), v2]) hq
              exact .tup upd_same (.cons (.str _) (.cons (Dt.keep tq hv2) .nil))
/-! ### blocks -/
theorem scRB : FnScope ["self", "depth", "block"] ["self", "depth"] (defScope sRBlock) := ⟨rfl, rfl, rfl, by decide +kernel, rfl, by decide +kernel, by decide +kernel⟩
theorem ok_rblock {f : Addr} {fd : FuncData} {k d : Nat} (hk : 12 ≤ k) (F : Fun K "read_block" "Reader.read_block" sRBlock f fd) (T : TxR K mg C LE BT fB) (TW : TxW K mg) (A1 : Mt0 P w K mg base C 1 "ahead" ["self"] (spAhead C) fA dA)
    (G1 : MtX P w K mg base C k "read_statement" ["self", "depth"] (spSm C BT d) fE dE) : FnOk P w K mg base (L2.CX P w) (k + 1) f fd ["self", "depth"] (spBk C BT d) := by
  refine F.okX scRB (fun vs H Q E h => ?_) (fun cdv A outer s H vs Q E hr h => ?_)
  · obtain ⟨r, lw, ln, ws, ns, s, dep, rfl, _⟩ := h
    rfl
  · obtain ⟨r, lw, ln, ws, ns, st, dep, rfl, hd, R, po⟩ := h
    obtain ⟨ak, hk', sk⟩ := TW.stm
    have hr1 : Room 1 _ := hr.mono (by omega)
    refine ⟨_, pss_cons (ps_set (i := 2) scRB.nd rfl (Or.inl rfl) (pe_lst pa_nil))
      (pss_cons (ps_while (passes_of rfl) (pt_cmpR op_in_seq (pe_meth0 (pv 0) T.cl A1.mt A1.ok hr1 A1.bd .nil pass0) (pe_glob (v := .ref ak) rfl hk' rfl) rfl)
        (pss_one (ps_expr (pe_bm PySem.F.plainAttrs_list PySem.F.slot_list_append PySem.F.type_list_append mt_append (pv 2) (pa_cons (pe_meth (E := E) (pv 0) T.cl G1.mt G1.ok hr G1.bd .nil (passes_call (takes_of rfl rfl rfl rfl) (fun _ _ _ _ h => h)) (pa_cons (pv 1) pa_nil)) pa_nil)))))
      (pss_one (ps_ret (pe_callTy call_tuple_of (by rfl) T.tuple (by decide +kernel) (pa_cons (pv 2) pa_nil))))), ?_⟩
    refine ⟨Nat.zero_le _, fun D hD => ?_⟩
    rw [rBk_eq] at po
    refine ⟨fun m σ H' => σ = [some (.ref r), some (.int dep), some (.ref D)] ∧ ∃ (s1 : S) (acc : List Sm) (vs : List V), RdAt C H' r lw ln ws ns s1 ∧ Kr r H H' ∧ H' D = some (.lst vs) ∧ DtAll H' vs (acc.map Sm.d) ∧ vs.length + ws.length ≤ 100000 + s1.at_ ∧ vs.length ≤ s1.at_ ∧
      ws.length < s1.at_ + m ∧ rLoop ws (rSm ws ns d (blkOf ws ns d)) (ws.length + 1) st = addPre acc (rLoop ws (rSm ws ns d (blkOf ws ns d)) m s1), ⟨ws.length + 1, rfl, st, [], [], R.same (same_upd hD), Kr.same (same_upd hD), upd_same, .nil, by have := R.wl; show 0 + ws.length ≤ _; omega, Nat.zero_le _, by omega, ?_⟩, ?_⟩
    · cases rLoop ws (rSm ws ns d (blkOf ws ns d)) (ws.length + 1) st with
      | error i => rfl
      | ok p => rfl
    · rintro m σ H' ⟨rfl, s1, acc, vs, R1, k1, eD, da, hb, hvl, hm, eq⟩
      obtain ⟨dx1, e1⟩ := id R1.ob
      have al := R1.al
      obtain ⟨m, rfl⟩ : ∃ m', m = m' + 1 := ⟨m - 1, by omega⟩
      refine ⟨_, rfl, r, dx1, _, rfl, e1, no_m (by decide +kernel), r, lw, ln, ws, ns, s1, rfl, R1, ak, _, rfl, .inr (sk _), rfl, flat_strs _, ?_⟩
      rw [if_neg Bool.false_ne_true, inV_str]
      refine ⟨_, rfl, ?_⟩
      cases hst : STM.contains (ahead ws s1.at_) with
      | false =>
        refine iteF ?_
        rw [eq, show rLoop ws (rSm ws ns d (blkOf ws ns d)) (m + 1) s1 = .ok (.nil, s1) by
          conv => lhs; unfold rLoop
          rw [if_neg (by rw [hst]; exact Bool.false_ne_true)]] at po
        refine ⟨_, rfl, D, vs, rfl, .inl ⟨SqL.of eD, fun t ht => ?_⟩⟩
        have tq := Tk.upd (o := .tup vs) ht
        refine po _ _ ?_ (R1.same (same_upd ht)) (k1.trans (Kr.same (same_upd ht)))
        show Dt _ _ (.tuple (pre acc .nil).ds)
        rw [pre_ds]
        exact .tup upd_same (DtAll.keep tq da)
      | true =>
        have hlt : s1.at_ < ws.length := ahead_lt (stm_ne _ (List.contains_iff_mem.mp hst))
        have eL : rLoop ws (rSm ws ns d (blkOf ws ns d)) (m + 1) s1 = (match rSm ws ns d (blkOf ws ns d) s1 with
          | .error i => .error i
          | .ok (x, s2) => match rLoop ws (rSm ws ns d (blkOf ws ns d)) m s2 with
            | .error i => .error i
            | .ok (b, s3) => .ok (.cons x b, s3)) := by
          conv => lhs; unfold rLoop
          refine (if_pos hst).trans ?_
          cases rSm ws ns d (blkOf ws ns d) s1 with
          | error i => rfl
          | ok p =>
            obtain ⟨x, s2⟩ := p
            first
              | rfl
              | (dsimp only
                 cases rLoop ws (rSm ws ns d (blkOf ws ns d)) m s2 with
                 | error i => rfl
                 | ok p => rfl)
        refine iteT ⟨fun σ' H2 => σ' = [some (.ref r), some (.int dep), some (.ref D)] ∧ ∃ (s2 : S) (x : Sm) (v : V), rSm ws ns d (blkOf ws ns d) s1 = .ok (x, s2) ∧ RdAt C H2 r lw ln ws ns s2 ∧ Kr r H H2 ∧ H2 D = some (.lst (vs ++ [v])) ∧ DtAll H2 (vs ++ [v]) ((acc ++ [x]).map Sm.d), fun σ' H2 hN => ?_, ?_⟩
        · obtain ⟨rfl, s2, x, v, ex, R2, k2, eD2, da2⟩ := hN
          have lt := rStm_lt ex
          have al2 := R2.al
          refine ⟨m, by omega, rfl, s2, acc ++ [x], vs ++ [v], R2, k2, eD2, da2, ?_, ?_, by omega, ?_⟩
          · rw [List.length_append]
            show vs.length + 1 + ws.length ≤ _
            omega
          · rw [List.length_append]
            show vs.length + 1 ≤ _
            omega
          · rw [eq, eL, ex]
            dsimp only
            cases rLoop ws (rSm ws ns d (blkOf ws ns d)) m s2 with
            | error i => rfl
            | ok p =>
              obtain ⟨b, s3⟩ := p
              show Except.ok (pre acc (.cons x b), s3) = Except.ok (pre (acc ++ [x]) b, s3)
              rw [pre_app]
        · have nDr : D ≠ r := fun q => by
            rw [q, e1] at eD
            cases eD
          refine ⟨_, rfl, .inl ⟨rfl, _, SqL.of eD⟩, _, rfl, r, dx1, _, rfl, e1, no_m (by decide +kernel), _, rfl, r, lw, ln, ws, ns, s1, dep, rfl, hd, hst, R1, ?_⟩
          cases hx : rSm ws ns d (blkOf ws ns d) s1 with
          | error i =>
            rw [eq, eL, hx] at po
            exact ErrAt.mono po k1
          | ok p =>
            obtain ⟨x, s2⟩ := p
            intro v H2 hv R2 k2
            have eD2 : H2 D = some (.lst vs) := k2 _ _ eD nDr
            have t2 := Kr.tk R1 k2
            have al2 := R2.al
            have wl := R2.wl
            refine ⟨D, vs, v, rfl, rfl, eD2, Nat.lt_of_le_of_lt (show vs.length ≤ 100000 by omega) (by decide), rfl, s2, x, v, rfl, ?_, ?_, upd_same, ?_⟩
            · have nl : lw ≠ D := fun q => by
                have h1 := R2.hw
                have h2 := (k1.trans k2)
                have := R.hw
                rw [← q, this] at hD
                cases hD
              have nn : ln ≠ D := fun q => by
                have := R.hn
                rw [← q, this] at hD
                cases hD
              obtain ⟨dx2, e2⟩ := id R2.ob
              exact ⟨⟨dx2, by rw [upd_ne nDr.symm]; exact e2⟩, by rw [upd_ne nl]; exact R2.hw, by rw [upd_ne nn]; exact R2.hn, R2.wl, R2.wz, R2.al, R2.nz⟩
            · exact fun b o q hb => by
                rw [upd_ne (ne_of_none q hD)]
                exact (k1.trans k2) b o q hb
            · have tD : Tk H2 (upd H2 D (.lst (vs ++ [v]))) := fun a xs q => by
                rw [upd_ne (ne_of q eD2 (by intro z; cases z))]
                exact q
              rw [List.map_append]
              exact DtAll.snoc (DtAll.keep (t2.trans tD) da) (Dt.keep tD hv)
end
end K1

set_option Elab.async false
set_option linter.all false
set_option maxRecDepth 100000
set_option maxHeartbeats 4000000
namespace K1
open PySem PySem.Spec PyProof.Rows L2 Kx
/-! ### the variables -/
def Kr2 (r ln : Addr) (H H' : Hp) : Prop := ∀ b o, H b = some o → b ≠ r → b ≠ ln → H' b = some o
theorem Kr2.of {r ln : Addr} {H H' : Hp} (k : Kr r H H') : Kr2 r ln H H' := fun b o e h _ => k b o e h
theorem Kr2.trans {r ln : Addr} {H H1 H2 : Hp} (a : Kr2 r ln H H1) (b : Kr2 r ln H1 H2) : Kr2 r ln H H2 := fun c o e h h' => b c o (a c o e h h') h h'
def varsD (vs : List (Str × Int)) : List PyData := vs.map fun p => .tuple [.str p.1, .int p.2]
def ErrA2 (BT : Addr) (E : XK) (r ln : Addr) (H : Hp) (i : Nat) : Prop := ∀ d H', Kr2 r ln H H' → H' d = some (.xd [(("at" : Str), .int (i : Int))]) → E (.ref BT) (some d) H'
theorem ErrA2.at {BT : Addr} {E : XK} {r ln : Addr} {H H1 : Hp} {i : Nat} (h : ErrA2 BT E r ln H i) (k : Kr2 r ln H H1) : ErrAt BT E r H1 i := fun d H' k' e => h d H' (k.trans (Kr2.of k')) e
def spVars (C BT : Addr) : Sp := fun vs H Q E => ∃ (r lw ln : Addr) (ws : List Str), vs = [.ref r] ∧ lw ≠ ln ∧ RdAt C H r lw ln ws [] ⟨0, 0, 0⟩ ∧ (match rVars ws 6 [] 0 with
  | .error i => ErrA2 BT E r ln H i
  | .ok (xs, i) => ∀ v H', Dt H' v (.tuple (varsD xs)) → RdAt C H' r lw ln ws (xs.map (·.1)) ⟨i, 0, 0⟩ → Kr2 r ln H H' → Q v H')
theorem var_ne {x : Str} (h : x = ("var" : Str)) : 1 ≤ x.length := by rw [h]; decide +kernel
theorem nameB_ne {x : Str} (h : nameB x = true) : 1 ≤ x.length := by
  unfold nameB at h
  simp only [Bool.and_eq_true, decide_eq_true_eq] at h
  exact h.1.1.1
theorem Kr2.tk {C : Addr} {H H' : Hp} {r lw ln : Addr} {ws ns : List Str} {s : S} (R : RdAt C H r lw ln ws ns s) (k : Kr2 r ln H H') : Tk H H' := fun a xs e => k a _ e (by
    obtain ⟨dx, q⟩ := R.ob
    exact ne_of e q (by intro z; cases z)) (ne_of e R.hn (by intro z; cases z))
section
variable {P : Program} {w : World} {K : PySem.W.Frag} {mg : Str → Option Value} {base : Heap} {C LE BT fB : Addr} {fA fS fN fU : Addr} {dA dS dN dU : FuncData}
theorem scRV : FnScope ["self", "variables", "name"] ["self"] (defScope sRVars) := ⟨rfl, rfl, rfl, by decide +kernel, rfl, by decide +kernel, by decide +kernel⟩
theorem ok_rvars {f : Addr} {fd : FuncData} (F : Fun K "read_variables" "Reader.read_variables" sRVars f fd) (T : TxR K mg C LE BT fB) (TW : TxW K mg) (TM : TxM mg) (A1 : Mt0 P w K mg base C 1 "ahead" ["self"] (spAhead C) fA dA) (S1 : MtX P w K mg base C 3 "step" ["self", "fits"] (spStep C BT) fS dS)
    (N1 : Fn0 P w K mg base 2 "is_name" ["word"] (spB nameB) fN dN) (U1 : MtX P w K mg base C 4 "read_number" ["self", "low", "high"] (spRdN C BT) fU dU) : FnOk P w K mg base (L2.CX P w) 5 f fd ["self"] (spVars C BT) := by
  refine F.okX scRV (fun vs H Q E h => ?_) (fun cdv A outer s H vs Q E hr h => ?_)
  · obtain ⟨r, lw, ln, ws, rfl, _⟩ := h
    rfl
  · obtain ⟨r, lw, ln, ws, rfl, nlw, R, po⟩ := h
    obtain ⟨tv, hv⟩ := TM.mv
    obtain ⟨tg, hg⟩ := TW.lg
    have hr1 : Room 1 _ := hr.mono (by omega)
    have hr2 : Room 2 _ := hr.mono (by omega)
    have hr3 : Room 3 _ := hr.mono (by omega)
    refine ⟨_, pss_cons (ps_set (i := 1) scRV.nd rfl (Or.inl rfl) (pe_lst pa_nil))
      (pss_cons (ps_while (passes_of rfl) (pt_cmpR op_eq (pe_meth0 (pv 0) T.cl A1.mt A1.ok hr1 A1.bd .nil pass0) pe_str (nomark _))
        (pss_cons (ps_expr (pe_meth (E := E) (pv 0) T.cl S1.mt S1.ok hr3 S1.bd .nil (passes_call (takes_of rfl rfl rfl rfl) (fun _ _ _ _ h => h)) (pa_cons (pe_cmpR op_lt (pe_callB call_len_seq (by rfl) T.len PySem.boot_len (pa_cons (pv 1) pa_nil)) (pe_glob (v := .int 5) rfl hv ⟨_, rfl⟩) (nomark _)) pa_nil)))
        (pss_cons (ps_set (i := 2) scRV.nd rfl (Or.inl rfl) (pe_meth0 (pv 0) T.cl A1.mt A1.ok hr1 A1.bd .nil pass0))
        (pss_cons (ps_expr (pe_meth (E := E) (pv 0) T.cl S1.mt S1.ok hr3 S1.bd .nil (passes_call (takes_of rfl rfl rfl rfl) (fun _ _ _ _ h => h)) (pa_cons (pe_and (pe_call N1.ok hr2 (by rfl) N1.gl N1.kp N1.bd .nil pass0 (pa_cons (pv 2) pa_nil))
          (pe_one (pe_cmpR op_notIn_seq (pv 2) (pe_fld (pv 0) rfl) rfl))) pa_nil)))
        (pss_cons (ps_expr (pe_bm PySem.F.plainAttrs_list PySem.F.slot_list_append PySem.F.type_list_append mt_append (pe_fld (pv 0) rfl) (pa_cons (pv 2) pa_nil)))
        (pss_one (ps_expr (pe_bm PySem.F.plainAttrs_list PySem.F.slot_list_append PySem.F.type_list_append mt_append (pv 1) (pa_cons (pe_tup (pa_cons (pv 2) (pa_cons (pe_meth (E := E) (pv 0) T.cl U1.mt U1.ok hr U1.bd .nil (passes_call (takes_of rfl rfl rfl rfl) (fun _ _ _ _ h => h)) (pa_cons pe_int (pa_cons (pe_glob (v := .int 65535) rfl hg ⟨_, rfl⟩) pa_nil))) pa_nil))) pa_nil)))))))))
      (pss_one (ps_ret (pe_callTy call_tuple_of (by rfl) T.tuple (by decide +kernel) (pa_cons (pv 1) pa_nil))))), ?_⟩
    refine ⟨Nat.zero_le _, fun D hD => ?_⟩
    refine ⟨fun m σ H' => (∃ v2, σ = [some (.ref r), some (.ref D), v2]) ∧ ∃ (i : Nat) (xs : List (Str × Int)) (vs : List V), RdAt C H' r lw ln ws (xs.map (·.1)) ⟨i, 0, 0⟩ ∧ Kr2 r ln H H' ∧ H' D = some (.lst vs) ∧ DtAll H' vs (varsD xs) ∧ xs.length + m = 6 ∧ xs.length ≤ 5 ∧
      rVars ws 6 [] 0 = rVars ws m xs i, ⟨6, ⟨_, rfl⟩, 0, [], [], R.same (same_upd hD), Kr2.of (Kr.same (same_upd hD)), upd_same, .nil, rfl, by decide, rfl⟩, ?_⟩
    rintro m σ H' ⟨⟨v2, rfl⟩, i, xs, vs, R1, k1, eD, da, hm, hx5, eq⟩
    obtain ⟨dx1, e1⟩ := id R1.ob
    obtain ⟨m, rfl⟩ : ∃ m', m = m' + 1 := ⟨m - 1, by omega⟩
    rw [eq] at po
    unfold rVars at po
    have nDr : D ≠ r := fun q => by
      rw [q, e1] at eD
      cases eD
    have nDn : D ≠ ln := fun q => by
      have := R.hn
      rw [← q, hD] at this
      cases this
    have nDw : lw ≠ D := fun q => by
      have := R.hw
      rw [q, hD] at this
      cases this
    have lvs : vs.length = xs.length := by
      rw [da.length]
      exact List.length_map ..
    refine ⟨_, rfl, r, dx1, _, rfl, e1, no_m (by decide +kernel), r, lw, ln, ws, xs.map (·.1), ⟨i, 0, 0⟩, rfl, R1, rfl, _, rfl, ?_⟩
    by_cases hvar : ahead ws i = ("var" : Str)
    · rw [if_pos hvar] at po
      rw [decide_eq_true (show V.str (ahead ws i) = V.str ("var" : Str) by rw [hvar])]
      refine iteT ⟨fun σ' H2 => (∃ v2, σ' = [some (.ref r), some (.ref D), v2]) ∧ ∃ (n : Int) (s1 : S) (v : V), nameB (ahead ws (i + 1)) = true ∧ (xs.map (·.1)).contains (ahead ws (i + 1)) = false ∧ xs.length < 5 ∧ rNum ws 1 65535 ⟨i + 2, 0, 0⟩ = .ok (n, s1) ∧
        RdAt C H2 r lw ln ws ((xs ++ [(ahead ws (i + 1), n)]).map (·.1)) s1 ∧ Kr2 r ln H H2 ∧ H2 D = some (.lst (vs ++ [v])) ∧ DtAll H2 (vs ++ [v]) (varsD (xs ++ [(ahead ws (i + 1), n)])), fun σ' H2 hN => ?_, ?_⟩
      · obtain ⟨⟨v2', rfl⟩, n, s1, v, h1, h2, h3, h4, R2, k2, eD2, da2⟩ := hN
        have es := rNum_at h4
        subst es
        refine ⟨m, by omega, ⟨_, rfl⟩, _, xs ++ [(ahead ws (i + 1), n)], vs ++ [v], R2, k2, eD2, da2, ?_, ?_, ?_⟩
        · rw [List.length_append]
          show xs.length + 1 + m = 6
          omega
        · rw [List.length_append]
          show xs.length + 1 ≤ 5
          omega
        · rw [eq]
          conv => lhs; unfold rVars
          rw [if_pos hvar, if_pos h3, if_pos (by rw [h1, h2]; rfl), h4]
          rfl
      · refine ⟨_, rfl, r, dx1, _, rfl, e1, no_m (by decide +kernel), _, rfl, D, vs, rfl, .inl (SqL.of eD), _, _, rfl, rfl, r, lw, ln, ws, xs.map (·.1), ⟨i, 0, 0⟩, _, rfl, ?_⟩
        have hl : decide ((vs.length : Int) < 5) = decide (xs.length < 5) := decide_eq_decide.mpr (by omega)
        refine step_go R1 (fun hc => ?_) (fun _ => ahead_lt (var_ne hvar)) (Same.refl H') (fun hc H2 R2 k2 => ?_)
        · have hc' : decide ((vs.length : Int) < 5) = false := hc
          rw [hl] at hc'
          rw [if_neg (of_decide_eq_false hc')] at po
          exact po.at k1
        · have hc' : decide ((vs.length : Int) < 5) = true := hc
          rw [hl] at hc'
          have hx : xs.length < 5 := of_decide_eq_true hc'
          rw [if_pos hx] at po
          obtain ⟨dx2, e2⟩ := id R2.ob
          have k12 := k1.trans (Kr2.of k2)
          have eD2 := k2 _ _ eD nDr
          refine ⟨_, rfl, r, dx2, _, rfl, e2, no_m (by decide +kernel), r, lw, ln, ws, _, _, rfl, R2, ?_⟩
          refine ⟨_, rfl, r, dx2, _, rfl, e2, no_m (by decide +kernel), _, rfl, _, rfl, ahead_len R2 _, fun H3 s3 => ⟨_, rfl, ?_⟩⟩
          have R3 := R2.same s3
          obtain ⟨dx3, e3⟩ := id R3.ob
          have k13 := k12.trans (Kr2.of (Kr.same s3))
          have eD3 := s3 _ _ eD2
          have ea : (⟨i, 0, 0⟩ : S).adv.at_ = i + 1 := rfl
          have fin : ∀ (cond : Bool), (nameB (ahead ws (i + 1)) && !(xs.map (·.1)).contains (ahead ws (i + 1))) = cond → ∀ (Qn : Hp → Prop), (cond = true → ∀ H', RdAt C H' r lw ln ws (xs.map (·.1)) (⟨i, 0, 0⟩ : S).adv.adv → Kr r H3 H' → Qn H') →
              RdAt C H3 r lw ln ws (xs.map (·.1)) (⟨i, 0, 0⟩ : S).adv ∧ (cond = true → (⟨i, 0, 0⟩ : S).adv.at_ < ws.length) ∧ (cond = true → ∀ H', RdAt C H' r lw ln ws (xs.map (·.1)) (⟨i, 0, 0⟩ : S).adv.adv → Kr r H3 H' → Qn H') ∧ (cond = false → ErrAt BT E r H3 (⟨i, 0, 0⟩ : S).adv.at_) := by
            intro cond ec Qn hQ
            refine step_go R3 (fun hc => ?_) (fun hc => ?_) (Same.refl H3) hQ
            · rw [hc] at ec
              rw [if_neg (by rw [ec]; exact Bool.false_ne_true)] at po
              exact po.at k13
            · rw [hc] at ec
              exact ahead_lt (nameB_ne (Bool.and_eq_true_iff.mp ec).1)
          cases hn : nameB (ahead ws (i + 1)) with
          | false =>
            rw [show nameB (ahead ws (⟨i, 0, 0⟩ : S).adv.at_) = false from hn]
            refine iteF ⟨r, lw, ln, ws, xs.map (·.1), (⟨i, 0, 0⟩ : S).adv, _, rfl, ?_⟩
            exact fin false (by rw [hn, Bool.false_and]) _ (fun hc => absurd hc Bool.false_ne_true)
          | true =>
            rw [show nameB (ahead ws (⟨i, 0, 0⟩ : S).adv.at_) = true from hn]
            refine iteT ⟨_, rfl, _, rfl, r, C, dx3, _, _, rfl, e3, T.cl, T.n3, rfs_names _ _ _ _ _, ln, _, rfl, .inl (SqL.of R3.hn), rfl, flat_strs _, ?_⟩
            rw [if_pos rfl, inV_str]
            refine ⟨r, lw, ln, ws, xs.map (·.1), (⟨i, 0, 0⟩ : S).adv, _, rfl, ?_⟩
            refine fin (!(xs.map (·.1)).contains (ahead ws (i + 1))) (by rw [hn, Bool.true_and]) _ (fun hc H4 R4 k4 => ?_)
            have hnc : (xs.map (·.1)).contains (ahead ws (i + 1)) = false := by
              cases q : (xs.map (·.1)).contains (ahead ws (i + 1))
              · rfl
              · rw [q] at hc
                cases hc
            rw [if_pos (by rw [hn, hnc]; rfl)] at po
            obtain ⟨dx4, e4⟩ := id R4.ob
            have k14 := k13.trans (Kr2.of k4)
            have eD4 := k4 _ _ eD3 nDr
            -- self.names.append(name)
            have hnl : ((xs.map (·.1)).map V.str).length < sizeLine := by
              rw [List.length_map, List.length_map]
              exact Nat.lt_of_le_of_lt hx5 (by decide)
            refine ⟨_, rfl, r, C, dx4, _, _, rfl, e4, T.cl, T.n3, rfs_names _ _ _ _ _, .inl ⟨rfl, _, SqL.of R4.hn⟩, _, rfl, ln, _, _, rfl, rfl, R4.hn, hnl, ?_⟩
            have nrl := R4.nn
            have enm : ((xs.map (·.1)).map V.str) ++ [V.str (ahead ws (i + 1))] = (((xs.map (·.1)) ++ [ahead ws (i + 1)]).map V.str) := by rw [List.map_append]; rfl
            have R5 : RdAt C (upd H4 ln (.lst (((xs.map (·.1)).map V.str) ++ [V.str (ahead ws (i + 1))]))) r lw ln ws ((xs.map (·.1)) ++ [ahead ws (i + 1)]) ⟨i + 2, 0, 0⟩ :=
              ⟨⟨dx4, by rw [upd_ne nrl.symm]; exact e4⟩, by rw [upd_ne nlw]; exact R4.hw, by rw [upd_same, enm], R4.wl, R4.wz, R4.al, fun x hx => by
                rcases List.mem_append.mp hx with q | q
                · exact R4.nz x q
                · rw [List.mem_singleton.mp q]
                  exact nameB_ne hn⟩
            have k15 : Kr2 r ln H (upd H4 ln (.lst (((xs.map (·.1)).map V.str) ++ [V.str (ahead ws (i + 1))]))) := fun b o q hb hb' => by
              rw [upd_ne hb']
              exact k14 b o q hb hb'
            have eD5 : (upd H4 ln (.lst (((xs.map (·.1)).map V.str) ++ [V.str (ahead ws (i + 1))]))) D = some (.lst vs) := by
              rw [upd_ne nDn]
              exact eD4
            obtain ⟨dx5, e5⟩ := id R5.ob
            -- variables.append((name, self.read_number(..)))
            refine ⟨_, rfl, .inl ⟨rfl, _, SqL.of eD5⟩, _, rfl, _, rfl, r, dx5, _, rfl, e5, no_m (by decide +kernel), r, lw, ln, ws, _, _, 1, 65535, rfl, R5, ?_⟩
            cases hnum : rNum ws 1 65535 ⟨i + 2, 0, 0⟩ with
            | error j =>
              rw [hnum] at po
              exact po.at k15
            | ok p =>
              obtain ⟨n, s1⟩ := p
              intro v H6 hv6 R6 k6
              obtain rfl : v = .int n := hv6
              have eD6 := k6 _ _ eD5 nDr
              refine ⟨(by show 2 ≤ sizeLine; decide), fun t ht => ?_⟩
              have eD7 : (upd H6 t (.tup [.str (ahead ws (i + 1)), .int n])) D = some (.lst vs) := by
                rw [upd_ne (ne_of_none eD6 ht)]
                exact eD6
              refine ⟨D, vs, .ref t, rfl, rfl, eD7, Nat.lt_of_le_of_lt (show vs.length ≤ 5 by omega) (by decide), ⟨_, rfl⟩, n, s1, .ref t, rfl, hnc, hx, rfl, ?_, ?_, upd_same, ?_⟩
              · obtain ⟨dx6, e6⟩ := id R6.ob
                have nt' : ∀ {b : Addr} {o : HO}, H6 b = some o → b ≠ t := fun q => ne_of_none q ht
                have ex : (xs ++ [(ahead ws (i + 1), n)]).map (·.1) = (xs.map (·.1)) ++ [ahead ws (i + 1)] := by rw [List.map_append]; rfl
                rw [ex]
                exact ⟨⟨dx6, by rw [upd_ne nDr.symm, upd_ne (nt' e6)]; exact e6⟩, by rw [upd_ne nDw, upd_ne (nt' R6.hw)]; exact R6.hw, by rw [upd_ne nDn.symm, upd_ne (nt' R6.hn)]; exact R6.hn, R6.wl, R6.wz, R6.al, R6.nz⟩
              · intro b o q hb hb'
                have q6 := (k15.trans (Kr2.of k6)) b o q hb hb'
                rw [upd_ne (ne_of_none q hD), upd_ne (ne_of_none q6 ht)]
                exact q6
              · have tA : Tk H' (upd (upd H6 t (.tup [.str (ahead ws (i + 1)), .int n])) D (.lst (vs ++ [.ref t]))) := fun a ys q => by
                  have nar : a ≠ r := ne_of q e1 (by intro z; cases z)
                  have nan : a ≠ ln := ne_of q R1.hn (by intro z; cases z)
                  have naD : a ≠ D := ne_of q eD (by intro z; cases z)
                  have q4 := k4 _ _ (s3 _ _ (k2 _ _ q nar)) nar
                  have q6 := k6 _ _ (show (upd H4 ln _) a = _ by rw [upd_ne nan]; exact q4) nar
                  rw [upd_ne naD, upd_ne (ne_of_none q6 ht)]
                  exact q6
                have ev : varsD (xs ++ [(ahead ws (i + 1), n)]) = varsD xs ++ [.tuple [.str (ahead ws (i + 1)), .int n]] := by
                  unfold varsD
                  rw [List.map_append]
                  rfl
                rw [ev]
                refine DtAll.snoc (DtAll.keep tA da) (.tup ?_ (.cons (.str _) (.cons (.int _) .nil)))
                rw [upd_ne (ne_of_none eD6 ht).symm]
                exact upd_same
    · rw [if_neg hvar] at po
      rw [decide_eq_false (show ¬ V.str (ahead ws i) = V.str ("var" : Str) from fun q => hvar (V.str.inj q))]
      refine iteF ⟨_, rfl, D, vs, rfl, .inl ⟨SqL.of eD, fun t ht => ?_⟩⟩
      have tq := Tk.upd (o := .tup vs) ht
      exact po _ _ (.tup upd_same (DtAll.keep tq da)) (R1.same (same_upd ht)) (k1.trans (Kr2.of (Kr.same (same_upd ht))))
end
end K1

set_option Elab.async false
set_option linter.all false
set_option maxRecDepth 100000
set_option maxHeartbeats 4000000
namespace K1
open PySem PySem.Spec PyProof.Rows L2 Kx
/-! ### how deep data are -/
inductive Dep : Nat → PyData → Prop
  | int (n : Nat) (i : Int) : Dep n (.int i)
  | str (n : Nat) (x : Str) (h : (PyData.str x).canLay0 = true) : Dep n (.str x)
  | tup (n : Nat) (ds : List PyData) (hl : ds.length ≤ 200000) (h : ∀ d ∈ ds, Dep n d) : Dep (n + 1) (.tuple ds)
theorem Dep.le {m n : Nat} {d : PyData} (h : Dep m d) (hmn : m ≤ n) : Dep n d := by
  induction h generalizing n with
  | int m i => exact .int n i
  | str m x h => exact .str n x h
  | tup m ds hl h ih =>
    obtain ⟨n, rfl⟩ : ∃ k, n = k + 1 := ⟨n - 1, by omega⟩
    exact .tup n ds hl fun d hd => ih d hd (by omega)
theorem depthAll_le {n : Nat} : ∀ {ds : List PyData}, (∀ d ∈ ds, d.depth ≤ n) → PyData.depthAll ds ≤ n
  | [], _ => by
    simp only [PyData.depthAll]
    exact Nat.zero_le _
  | d :: ds, h => by
    simp only [PyData.depthAll]
    exact Nat.max_le.mpr ⟨h d List.mem_cons_self, depthAll_le fun e he => h e (List.mem_cons_of_mem _ he)⟩
theorem canAll {ds : List PyData} (h : ∀ d ∈ ds, d.canLay0 = true) : PyData.canLayAll0 ds = true := by
  induction ds with
  | nil => simp only [PyData.canLayAll0]
  | cons d ds ih =>
    simp only [PyData.canLayAll0, Bool.and_eq_true]
    exact ⟨h d List.mem_cons_self, ih fun e he => h e (List.mem_cons_of_mem _ he)⟩
theorem Dep.sh {n : Nat} {d : PyData} (h : Dep n d) : d.canLay0 = true ∧ d.depth ≤ n := by
  induction h with
  | int n i => exact ⟨by simp only [PyData.canLay0], by simp only [PyData.depth]; exact Nat.zero_le _⟩
  | str n x h => exact ⟨h, by simp only [PyData.depth]; exact Nat.zero_le _⟩
  | tup n ds hl h ih =>
    refine ⟨?_, ?_⟩
    · simp only [PyData.canLay0]
      exact canAll fun d hd => (ih d hd).1
    · simp only [PyData.depth]
      exact Nat.succ_le_succ (depthAll_le fun d hd => (ih d hd).2)
theorem Dep.shaped {n : Nat} {d : PyData} (h : Dep n d) (hn : n ≤ 64) : SeqAt.shaped d = true := by
  unfold SeqAt.shaped
  rw [h.sh.1, Bool.true_and]
  exact decide_eq_true (Nat.le_trans h.sh.2 hn)
mutual
theorem Dt.dp {K : PySem.W.Frag} {H : Hp} : ∀ {v : V} {d : PyData}, Dt H v d → Dp K H v d
  | _, _, .int i => .int i
  | _, _, .str x => .str x
  | _, _, .tup e a => .tup (SqT.of e) (DtAll.dp a)
theorem DtAll.dp {K : PySem.W.Frag} {H : Hp} : ∀ {vs : List V} {ds : List PyData}, DtAll H vs ds → DpAll K H vs ds
  | _, _, .nil => .nil
  | _, _, .cons a b => .cons (Dt.dp a) (DtAll.dp b)
end
theorem DtAll.get {H : Hp} : ∀ {vs : List V} {ds : List PyData} {i : Nat} {v : V}, DtAll H vs ds → vs[i]? = some v → ∃ d, ds[i]? = some d ∧ Dt H v d
  | _, _, i, v, .nil, h => by simp at h
  | _, _, 0, v, .cons a b, h => by
    simp at h
    subst h
    exact ⟨_, rfl, a⟩
  | _, _, i + 1, v, .cons a b, h => by
    simp at h
    obtain ⟨d, e, q⟩ := b.get h
    exact ⟨d, by simpa using e, q⟩
/-! ### in_tuples -/
abbrev sInT : Stmt := top 34
abbrev sGI : Stmt := inClass (top 33) 0
abbrev sGE : Stmt := inClass (top 33) 1
abbrev sRG : Stmt := top 35
def spTup (n : Nat) : Sp := fun vs H Q _ => ∃ (v : V) (d : PyData), vs = [v] ∧ Dt H v d ∧ Dep n d ∧ ∀ v' H', Same H H' → Dt H' v' d → Q v' H'
def spTupL (n : Nat) : Sp := fun vs H Q _ => ∃ (a : Addr) (xs : List V) (ds : List PyData), vs = [.ref a] ∧ H a = some (.lst xs) ∧ DtAll H xs ds ∧ ds.length ≤ 200000 ∧ (∀ d ∈ ds, Dep n d) ∧ ∀ v' H', Same H H' → Dt H' v' (.tuple ds) → Q v' H'
structure TxT (K : PySem.W.Frag) (mg : Str → Option Value) : Prop where
  isi : mg "isinstance" = none
  list : mg "list" = none
  tuple : mg "tuple" = none
theorem tyD {K : PySem.W.Frag} {H : Hp} {v : V} {d : PyData} (h : Dt H v d) : (∃ ds, d = .tuple ds ∧ TyX K H v (.type "tuple")) ∨ ((∀ ds, d ≠ .tuple ds) ∧ ∃ t, (t = "int" ∨ t = "str") ∧ TyX K H v (.type t)) := by
  cases h with
  | int i => exact .inr ⟨fun ds z => (by cases z), "int", .inl rfl, .base (.int i)⟩
  | str x => exact .inr ⟨fun ds z => (by cases z), "str", .inr rfl, .base (.str x)⟩
  | tup e a => exact .inl ⟨_, rfl, .base (.tup e)⟩
section
variable {P : Program} {w : World} {K : PySem.W.Frag} {mg : Str → Option Value} {base : Heap}
theorem scIT : FnScope ["data", "part"] ["data"] (defScope sInT) := ⟨rfl, rfl, rfl, by decide +kernel, rfl, by decide +kernel, by decide +kernel⟩
theorem kit_lt {K : PySem.W.Frag} {t : String} (h : t = "int" ∨ t = "str") : PySem.W.kitAny K (.type t) [.type "list", .type "tuple"] = some false := by
  rcases h with rfl | rfl
  · exact kitAny_cons (b := false) (kit_ty (by decide +kernel)) (fun _ => kitAny_cons (b := false) (kit_ty (by decide +kernel)) (fun _ => kitAny_nil) nofun) nofun
  · exact kitAny_cons (b := false) (kit_ty (by decide +kernel)) (fun _ => kitAny_cons (b := false) (kit_ty (by decide +kernel)) (fun _ => kitAny_nil) nofun) nofun
theorem kit_tt {K : PySem.W.Frag} : PySem.W.kitAny K (.type "tuple") [.type "list", .type "tuple"] = some true :=
  kitAny_cons (b := false) (kit_ty (by decide +kernel)) (fun _ => kitAny_cons (b := true) (kit_ty (by decide +kernel)) nofun (fun _ => rfl)) nofun
theorem kit_ll {K : PySem.W.Frag} : PySem.W.kitAny K (.type "list") [.type "list", .type "tuple"] = some true :=
  kitAny_cons (b := true) (kit_ty (by decide +kernel)) nofun (fun _ => rfl)
theorem ok_int0 {f : Addr} {fd : FuncData} (F : Fun K "in_tuples" "in_tuples" sInT f fd) (T : TxT K mg) : FnOk P w K mg base CX0 1 f fd ["data"] (spTup 0) := by
  refine F.ok scIT (fun vs H Q E h => ?_) (fun cdv A outer s H vs Q E hr h => ?_)
  · obtain ⟨v, d, rfl, _⟩ := h
    rfl
  · obtain ⟨v, d, rfl, hv, hd, k⟩ := h
    refine ⟨_, pss_cons (ps_if (pt_val (pe_callB call_isiT (by rfl) T.isi (by decide +kernel) (pa_cons (pv 0) (pa_cons (pe_tup (pa_cons (pe_bltn (v := .ty "list") (by rfl) T.list (by decide +kernel) rfl) (pa_cons (pe_bltn (v := .ty "tuple") (by rfl) T.tuple (by decide +kernel) rfl) pa_nil))) pa_nil)))) (pss_one ps_never) pss_nil)
      (pss_one (ps_ret (pv 0))), ?_⟩
    refine ⟨_, rfl, (by show 2 ≤ sizeLine; decide), fun p hp => ?_⟩
    have s1 := same_upd (o := .tup [.ty "list", .ty "tuple"]) hp
    have hv1 := Dt.keep (Tk.same s1) hv
    rcases tyD (K := K) hv1 with ⟨ds, rfl, _⟩ | ⟨_, t, ht, ty⟩
    · cases hd
    · exact ⟨_, p, _, _, _, false, rfl, upd_same, .cons (.ty _) (.cons (.ty _) .nil), ty, kit_lt ht, _, rfl, iteF ⟨_, rfl, k _ _ s1 hv1⟩⟩
theorem ok_intS {f : Addr} {fd : FuncData} {n k : Nat} (F : Fun K "in_tuples" "in_tuples" sInT f fd) (T : TxT K mg) (gl : mg "in_tuples" = some (.ref f)) (bd : Binds K fd ["data"] []) (G : FnOk P w K mg base CX0 k f fd ["data"] (spTup n)) : FnOk P w K mg base CX0 (k + 1) f fd ["data"] (spTup (n + 1)) := by
  refine F.ok scIT (fun vs H Q E h => ?_) (fun cdv A outer s H vs Q E hr h => ?_)
  · obtain ⟨v, d, rfl, _⟩ := h
    rfl
  · obtain ⟨v, d, rfl, hv, hd, q⟩ := h
    refine ⟨_, pss_cons (ps_if (pt_val (pe_callB call_isiT (by rfl) T.isi (by decide +kernel) (pa_cons (pv 0) (pa_cons (pe_tup (pa_cons (pe_bltn (v := .ty "list") (by rfl) T.list (by decide +kernel) rfl) (pa_cons (pe_bltn (v := .ty "tuple") (by rfl) T.tuple (by decide +kernel) rfl) pa_nil))) pa_nil))))
        (pss_one (ps_ret (pe_callTy call_tuple_of (by rfl) T.tuple (by decide +kernel) (pa_cons (pe_lc (own := [("part", 1)]) (g := gName 1) (tt := tYes) rfl scIT.nd (pi_tup (pv 0)) (blkOk_by (N := ["data", "part"]) (sc := defScope sInT) (by decide +kernel))
          (fun _ _ _ _ _ => pg_name (i := 1) scIT.nd rfl (Or.inl rfl)) (fun _ _ _ _ _ => pts_nil) (fun _ _ _ _ _ => pe_call G hr (by rfl) gl F.kp bd .nil pass0 (pa_cons (pv 1) pa_nil))) pa_nil)))) pss_nil)
      (pss_one (ps_ret (pv 0))), ?_⟩
    refine ⟨_, rfl, (by show 2 ≤ sizeLine; decide), fun p hp => ?_⟩
    have s1 := same_upd (o := .tup [.ty "list", .ty "tuple"]) hp
    have hv1 := Dt.keep (Tk.same s1) hv
    rcases tyD (K := K) hv1 with ⟨ds, rfl, ty⟩ | ⟨_, t, ht, ty⟩
    · refine ⟨_, p, _, _, _, true, rfl, upd_same, .cons (.ty _) (.cons (.ty _) .nil), ty, kit_tt, _, rfl, iteT ?_⟩
      cases hv1 with
      | @tup a xs _ ea da =>
        cases hd with
        | tup _ _ hl hds =>
          refine ⟨_, rfl, a, rfl, ⟨_, SqT.of ea⟩, fun D hD => ?_⟩
          refine lc_tup (K := K) (a := a) (xs := xs) (fun i H' => ∃ vs', H' D = some (.lst vs') ∧ DtAll H' vs' (ds.take i) ∧ Same (upd H p (.tup [.ty "list", .ty "tuple"])) H') ⟨[], upd_same, .nil, same_upd hD⟩ (fun i H' _ ⟨_, _, _, s'⟩ => SqT.of (s' _ _ ea)) ?_ ?_
          · rintro i x H' hx ⟨vs', eD, da', s'⟩
            obtain ⟨d, hd', dx⟩ := da.get hx
            refine ⟨rfl, tYesI ?_⟩
            refine ⟨_, rfl, x, d, rfl, Dt.keep (Tk.same s') dx, hds d (List.mem_of_getElem? hd'), fun v' H2 s2 dv => ?_⟩
            have hD2 := s2 _ _ eD
            have lenv : vs'.length ≤ 200000 := by
              rw [da'.length, List.length_take]
              exact Nat.le_trans (Nat.min_le_right _ _) hl
            refine ⟨vs', hD2, Nat.lt_of_le_of_lt lenv (by decide), vs' ++ [v'], upd_same, ?_, ?_⟩
            · have t2 : Tk H2 (upd H2 D (.lst (vs' ++ [v']))) := fun b ys e => by
                rw [upd_ne (ne_of e hD2 (by intro z; cases z))]
                exact e
              rw [List.take_add_one, hd']
              exact DtAll.snoc (DtAll.keep ((Tk.same s2).trans t2) da') (Dt.keep t2 dv)
            · intro b o e
              rw [upd_ne (ne_of_none e hD)]
              exact s2 _ _ (s' _ _ e)
          · rintro H' ⟨vs', eD, da', s'⟩
            rw [da.length, List.take_length] at da'
            refine ⟨D, vs', rfl, .inl ⟨SqL.of eD, fun l hl' => ?_⟩⟩
            exact q _ _ ((s1.trans s').trans (same_upd hl')) (.tup upd_same (DtAll.keep (Tk.upd hl') da'))
    · exact ⟨_, p, _, _, _, false, rfl, upd_same, .cons (.ty _) (.cons (.ty _) .nil), ty, kit_lt ht, _, rfl, iteF ⟨_, rfl, q _ _ s1 hv1⟩⟩
theorem ok_intL {f : Addr} {fd : FuncData} {n k : Nat} (F : Fun K "in_tuples" "in_tuples" sInT f fd) (T : TxT K mg) (gl : mg "in_tuples" = some (.ref f)) (bd : Binds K fd ["data"] []) (G : FnOk P w K mg base CX0 k f fd ["data"] (spTup n)) : FnOk P w K mg base CX0 (k + 1) f fd ["data"] (spTupL n) := by
  refine F.ok scIT (fun vs H Q E h => ?_) (fun cdv A outer s H vs Q E hr h => ?_)
  · obtain ⟨a, xs, ds, rfl, _⟩ := h
    rfl
  · obtain ⟨a, xs, ds, rfl, ea0, da0, hl, hds, q⟩ := h
    refine ⟨_, pss_cons (ps_if (pt_val (pe_callB call_isiT (by rfl) T.isi (by decide +kernel) (pa_cons (pv 0) (pa_cons (pe_tup (pa_cons (pe_bltn (v := .ty "list") (by rfl) T.list (by decide +kernel) rfl) (pa_cons (pe_bltn (v := .ty "tuple") (by rfl) T.tuple (by decide +kernel) rfl) pa_nil))) pa_nil))))
        (pss_one (ps_ret (pe_callTy call_tuple_of (by rfl) T.tuple (by decide +kernel) (pa_cons (pe_lc (own := [("part", 1)]) (g := gName 1) (tt := tYes) rfl scIT.nd (pi_list (pv 0)) (blkOk_by (N := ["data", "part"]) (sc := defScope sInT) (by decide +kernel))
          (fun _ _ _ _ _ => pg_name (i := 1) scIT.nd rfl (Or.inl rfl)) (fun _ _ _ _ _ => pts_nil) (fun _ _ _ _ _ => pe_call G hr (by rfl) gl F.kp bd .nil pass0 (pa_cons (pv 1) pa_nil))) pa_nil)))) pss_nil)
      (pss_one (ps_ret (pv 0))), ?_⟩
    refine ⟨_, rfl, (by show 2 ≤ sizeLine; decide), fun p hp => ?_⟩
    have s1 := same_upd (o := .tup [.ty "list", .ty "tuple"]) hp
    have ea := s1 _ _ ea0
    have da := DtAll.keep (Tk.same s1) da0
    refine ⟨_, p, _, _, _, true, rfl, upd_same, .cons (.ty _) (.cons (.ty _) .nil), .base (.lst ea), kit_ll, _, rfl, iteT ?_⟩
    refine ⟨_, rfl, a, rfl, ⟨_, SqL.of ea⟩, fun D hD => ?_⟩
    have naD : a ≠ D := ne_of_none ea hD
    refine lc_list (K := K) (a := a) (xs := xs) (fun i H' => ∃ vs', H' D = some (.lst vs') ∧ DtAll H' vs' (ds.take i) ∧ Same (upd H p (.tup [.ty "list", .ty "tuple"])) H') ⟨[], upd_same, .nil, same_upd hD⟩ (fun i H' _ ⟨_, _, _, s'⟩ => SqL.of (s' _ _ ea)) ?_ ?_
    · rintro i x H' hx ⟨vs', eD, da', s'⟩
      obtain ⟨d, hd', dx⟩ := da.get hx
      refine ⟨rfl, tYesI ?_⟩
      refine ⟨_, rfl, x, d, rfl, Dt.keep (Tk.same s') dx, hds d (List.mem_of_getElem? hd'), fun v' H2 s2 dv => ?_⟩
      have hD2 := s2 _ _ eD
      have lenv : vs'.length ≤ 200000 := by
        rw [da'.length, List.length_take]
        exact Nat.le_trans (Nat.min_le_right _ _) hl
      refine ⟨vs', hD2, Nat.lt_of_le_of_lt lenv (by decide), vs' ++ [v'], upd_same, ?_, ?_⟩
      · have t2 : Tk H2 (upd H2 D (.lst (vs' ++ [v']))) := fun b ys e => by
          rw [upd_ne (ne_of e hD2 (by intro z; cases z))]
          exact e
        rw [List.take_add_one, hd']
        exact DtAll.snoc (DtAll.keep ((Tk.same s2).trans t2) da') (Dt.keep t2 dv)
      · intro b o e
        rw [upd_ne (ne_of_none e hD)]
        exact s2 _ _ (s' _ _ e)
    · rintro H' ⟨vs', eD, da', s'⟩
      rw [da.length, List.take_length] at da'
      refine ⟨D, vs', rfl, .inl ⟨SqL.of eD, fun l hl' => ?_⟩⟩
      exact q _ _ ((s1.trans s').trans (same_upd hl')) (.tup upd_same (DtAll.keep (Tk.upd hl') da'))
end
end K1

set_option Elab.async false
set_option linter.all false
set_option maxRecDepth 100000
set_option maxHeartbeats 4000000
namespace K1
open PySem PySem.Spec PyProof.Rows L2 Kx
/-! ### how deep what is read is -/
def OkS (x : Str) : Prop := (PyData.str x).canLay0 = true
theorem ops_ok : ∀ x ∈ OPS, (PyData.str x).canLay0 = true := by decide +kernel
theorem stm_ok : ∀ x ∈ STM, (PyData.str x).canLay0 = true := by decide +kernel
theorem chs_ok : ∀ x ∈ CHS, (PyData.str x).canLay0 = true := by decide +kernel
theorem seats_ok : ∀ x ∈ SEATS, (PyData.str x).canLay0 = true := by decide +kernel
theorem s_num : OkS "number" := by unfold OkS; decide +kernel
theorem s_var : OkS "variable" := by unfold OkS; decide +kernel
theorem s_set : OkS "set" := by unfold OkS; decide +kernel
theorem s_draw : OkS "draw" := by unfold OkS; decide +kernel
theorem s_show : OkS "show" := by unfold OkS; decide +kernel
theorem s_if : OkS "if" := by unfold OkS; decide +kernel
theorem rName_mem {ws ns : List Str} {s s1 : S} {x : Str} (h : rName ws ns s = .ok (x, s1)) : x ∈ ns := by
  unfold rName at h
  split at h
  · rename_i q
    injection h with h
    injection h with h _
    rw [← h]
    exact List.contains_iff_mem.mp q
  · cases h
theorem all2 {n : Nat} {a b : PyData} (ha : Dep n a) (hb : Dep n b) : ∀ d ∈ [a, b], Dep n d := fun d hd => by
  simp only [List.mem_cons, List.not_mem_nil, or_false] at hd
  rcases hd with rfl | rfl
  · exact ha
  · exact hb
theorem all3 {n : Nat} {a b c : PyData} (ha : Dep n a) (hb : Dep n b) (hc : Dep n c) : ∀ d ∈ [a, b, c], Dep n d := fun d hd => by
  simp only [List.mem_cons, List.not_mem_nil, or_false] at hd
  rcases hd with rfl | rfl | rfl
  · exact ha
  · exact hb
  · exact hc
theorem all4 {n : Nat} {a b c e : PyData} (ha : Dep n a) (hb : Dep n b) (hc : Dep n c) (he : Dep n e) : ∀ d ∈ [a, b, c, e], Dep n d := fun d hd => by
  simp only [List.mem_cons, List.not_mem_nil, or_false] at hd
  rcases hd with rfl | rfl | rfl | rfl
  · exact ha
  · exact hb
  · exact hc
  · exact he
theorem rEx_dep {ws ns : List Str} (hns : ∀ x ∈ ns, OkS x) : ∀ {d : Nat} {s s1 : S} {e : Ex}, rEx ws ns d s = .ok (e, s1) → Dep (d + 1) e.d := by
  have leaf : ∀ {d : Nat} {s s1 : S} {e : Ex}, (if numB (ahead ws s.at_) = true then (match rNum ws 0 65535 s with
      | .error i => .error i
      | .ok (n, s1) => .ok (.num n, s1))
    else match rName ws ns s with
      | .error i => .error i
      | .ok (x, s1) => .ok (.var x, s1) : Rs Ex) = .ok (e, s1) → Dep (d + 1) e.d := by
    intro d s s1 e h
    split at h
    · split at h
      · cases h
      · injection h with h
        injection h with h _
        rw [← h]
        exact .tup d _ (by show 2 ≤ 200000; decide) (all2 (.str d _ s_num) (.int d _))
    · split at h
      · cases h
      · rename_i q
        injection h with h
        injection h with h _
        rw [← h]
        exact .tup d _ (by show 2 ≤ 200000; decide) (all2 (.str d _ s_var) (.str d _ (hns _ (rName_mem q))))
  intro d
  induction d with
  | zero =>
    intro s s1 e h
    unfold rEx at h
    split at h
    · cases h
    · exact leaf h
  | succ d ih =>
    intro s s1 e h
    unfold rEx at h
    split at h
    · rename_i ho
      dsimp only at h
      split at h
      · cases h
      · rename_i q1
        split at h
        · cases h
        · rename_i q2
          injection h with h
          injection h with h _
          rw [← h]
          exact .tup (d + 1) _ (by show 3 ≤ 200000; decide) (all3 (.str _ _ (ops_ok _ (List.contains_iff_mem.mp ho))) (ih q1) (ih q2))
    · exact leaf h
def BkD (n : Nat) (b : Bk) : Prop := b.ds.length ≤ 200000 ∧ ∀ d ∈ b.ds, Dep n d
theorem rSm_dep {ws ns : List Str} (hns : ∀ x ∈ ns, OkS x) {r n : Nat} (hn : 6 ≤ n) {blk : S → Rs Bk} (hb : ∀ s s1 b, blk s = .ok (b, s1) → BkD n b) {s s1 : S} {x : Sm} (hst : STM.contains (ahead ws s.at_) = true) (h : rSm ws ns r blk s = .ok (x, s1)) : Dep (n + 2) x.d := by
  unfold rSm at h
  split at h
  · rename_i hc
    have okk : OkS (ahead ws s.at_) := chs_ok _ (List.contains_iff_mem.mp hc)
    unfold rChance at h
    split at h
    · split at h
      · cases h
      · rename_i q1
        have m1 := hns _ (rName_mem q1)
        split at h
        · cases h
        · split at h
          · injection h with h
            injection h with h _
            rw [← h]
            exact .tup (n + 1) _ (by show 3 ≤ 200000; decide) (all3 (.str _ _ s_draw) (.str _ _ m1) (.int _ _))
          · injection h with h
            injection h with h _
            rw [← h]
            exact .tup (n + 1) _ (by show 4 ≤ 200000; decide) (all4 (.str _ _ okk) (.str _ _ m1) (.int _ _) (.int _ _))
    · cases h
  · split at h
    · unfold rIf at h
      split at h
      · split at h
        · cases h
        · rename_i q1
          have d1 := rEx_dep hns q1
          split at h
          · cases h
          · rename_i a s2 q2
            have b1 := hb _ _ _ q2
            split at h
            · split at h
              · cases h
              · rename_i b s3 q3
                have b2 := hb _ _ _ q3
                split at h
                · injection h with h
                  injection h with h _
                  rw [← h]
                  exact .tup (n + 1) _ (by show 4 ≤ 200000; decide) (all4 (.str _ _ s_if) (d1.le (by omega)) (.tup n _ b1.1 b1.2) (.tup n _ b2.1 b2.2))
                · cases h
            · split at h
              · injection h with h
                injection h with h _
                rw [← h]
                exact .tup (n + 1) _ (by show 4 ≤ 200000; decide) (all4 (.str _ _ s_if) (d1.le (by omega)) (.tup n _ b1.1 b1.2) (.tup n _ (Nat.zero_le _) fun d hd => nomatch hd))
              · cases h
      · cases h
    · split at h
      · split at h
        · split at h
          · cases h
          · rename_i q1
            have m1 := hns _ (rName_mem q1)
            split at h
            · cases h
            · rename_i q2
              have d2 := rEx_dep hns q2
              injection h with h
              injection h with h _
              rw [← h]
              exact .tup (n + 1) _ (by show 3 ≤ 200000; decide) (all3 (.str _ _ s_set) (.str _ _ m1) (d2.le (by omega)))
        · cases h
      · split at h
        · split at h
          · rename_i hse
            split at h
            · cases h
            · rename_i q2
              have d2 := rEx_dep hns q2
              injection h with h
              injection h with h _
              rw [← h]
              exact .tup (n + 1) _ (by show 3 ≤ 200000; decide) (all3 (.str _ _ s_show) (.str _ _ (seats_ok _ (List.contains_iff_mem.mp hse))) (d2.le (by omega)))
          · cases h
        · split at h
          · cases h
          · rename_i q2
            have d2 := rEx_dep hns q2
            injection h with h
            injection h with h _
            rw [← h]
            exact .tup (n + 1) _ (by show 2 ≤ 200000; decide) (all2 (.str _ _ (stm_ok _ (List.contains_iff_mem.mp hst))) (d2.le (by omega)))
theorem rLoop_dep {ws : List Str} {stm : S → Rs Sm} {n : Nat} (hs : ∀ s s1 x, STM.contains (ahead ws s.at_) = true → stm s = .ok (x, s1) → Dep n x.d) : ∀ (f : Nat) (s s1 : S) (b : Bk), rLoop ws stm f s = .ok (b, s1) → b.ds.length ≤ f ∧ ∀ d ∈ b.ds, Dep n d
  | 0, s, s1, b, h => by
    unfold rLoop at h
    injection h with h
    injection h with h _
    rw [← h]
    exact ⟨Nat.le_refl _, fun d hd => nomatch hd⟩
  | f + 1, s, s1, b, h => by
    unfold rLoop at h
    split at h
    · rename_i hst
      split at h
      · cases h
      · rename_i q1
        split at h
        · cases h
        · rename_i q2
          have l1 := hs _ _ _ hst q1
          have l2 := rLoop_dep hs f _ _ _ q2
          injection h with h
          injection h with h _
          rw [← h]
          refine ⟨Nat.succ_le_succ l2.1, fun d hd => ?_⟩
          rcases List.mem_cons.mp hd with e | e
          · rw [e]
            exact l1
          · exact l2.2 d e
    · injection h with h
      injection h with h _
      rw [← h]
      exact ⟨Nat.zero_le _, fun d hd => nomatch hd⟩
theorem rBk_dep {ws ns : List Str} (hns : ∀ x ∈ ns, OkS x) (hw : ws.length ≤ 100000) : ∀ (r : Nat) (s s1 : S) (b : Bk), rBk ws ns r s = .ok (b, s1) → BkD (8 + 2 * r) b
  | 0, s, s1, b, h => by
    have q := rLoop_dep (n := 8) (fun s s1 x hst z => rSm_dep (n := 6) hns (by decide) (fun _ _ _ z => by cases z) hst z) _ _ _ _ h
    exact ⟨Nat.le_trans q.1 (by omega), q.2⟩
  | r + 1, s, s1, b, h => by
    have q := rLoop_dep (n := (8 + 2 * r) + 2) (fun s s1 x hst z => rSm_dep (n := 8 + 2 * r) hns (by omega) (fun _ _ _ z => rBk_dep hns hw r _ _ _ z) hst z) _ _ _ _ h
    exact ⟨Nat.le_trans q.1 (by omega), fun d hd => (q.2 d hd).le (by omega)⟩
theorem nameB_ok {x : Str} (h : nameB x = true) : OkS x := by
  have hm : madeB x LET = true := by
    unfold nameB at h
    simp only [Bool.and_eq_true] at h
    exact h.1.2
  have ha := made_all hm
  have hl : ∀ c ∈ LET.cps.toList, c < 0x110000 := by decide +kernel
  unfold OkS
  simp only [PyData.canLay0]
  show x.cps.all (· < 0x110000) = true
  rw [Array.all_eq_true_iff_forall_mem]
  intro c hc
  exact decide_eq_true (hl c (ha c (by simpa using hc)))
theorem rVars_ok {ws : List Str} : ∀ (f : Nat) (vs xs : List (Str × Int)) (i j : Nat), vs.length ≤ 5 → (∀ p ∈ vs, nameB p.1 = true) → rVars ws f vs i = .ok (xs, j) → xs.length ≤ 5 ∧ ∀ p ∈ xs, nameB p.1 = true
  | 0, vs, xs, i, j, h5, hv, h => by
    unfold rVars at h
    injection h with h
    injection h with h _
    rw [← h]
    exact ⟨h5, hv⟩
  | f + 1, vs, xs, i, j, h5, hv, h => by
    unfold rVars at h
    split at h
    · split at h
      · split at h
        · rename_i hlt hn
          split at h
          · cases h
          · refine rVars_ok f _ _ _ _ ?_ ?_ h
            · rw [List.length_append]
              show vs.length + 1 ≤ 5
              omega
            · intro p hp
              rcases List.mem_append.mp hp with q | q
              · exact hv p q
              · rw [List.mem_singleton.mp q]
                exact (Bool.and_eq_true_iff.mp hn).1
        · cases h
      · cases h
    · injection h with h
      injection h with h _
      rw [← h]
      exact ⟨h5, hv⟩
theorem varsD_dep {xs : List (Str × Int)} (h : ∀ p ∈ xs, nameB p.1 = true) : ∀ d ∈ varsD xs, Dep 1 d := fun d hd => by
  obtain ⟨p, hp, rfl⟩ := List.mem_map.mp hd
  exact .tup 0 _ (by show 2 ≤ 200000; decide) (all2 (.str _ _ (nameB_ok (h p hp))) (.int _ _))
/-! ### games -/
theorem gf1 : ¬ ("block" : Str) = "variables" := by decide +kernel
def gfs (a b : V) : List (Str × V) := putF "block" b (putF "variables" a [])
theorem gfs_v (a b : V) : (gfs a b).lookup ("variables" : Str) = some a := by
  unfold gfs
  rw [lookup_putF, if_neg (fun e => gf1 e.symm), lookup_putF, if_pos rfl]
theorem gfs_b (a b : V) : (gfs a b).lookup ("block" : Str) = some b := by
  unfold gfs
  rw [lookup_putF, if_pos rfl]
/-- a game of the data -/
def GameAt (C : Addr) (H : Hp) (g : Addr) (ds es : List PyData) : Prop := ∃ dx va vb, H g = some (.ins C dx (gfs va vb)) ∧ Dt H va (.tuple ds) ∧ Dt H vb (.tuple es)
theorem GameAt.same {C : Addr} {H H' : Hp} {g : Addr} {ds es : List PyData} (h : GameAt C H g ds es) (s : Same H H') : GameAt C H' g ds es := by
  obtain ⟨dx, va, vb, e, a, b⟩ := h
  exact ⟨dx, va, vb, s _ _ e, Dt.keep (Tk.same s) a, Dt.keep (Tk.same s) b⟩
/-- a list or a tuple of data -/
def LT (H : Hp) (v : V) (ds : List PyData) : Prop := ∃ a xs, v = .ref a ∧ (H a = some (.lst xs) ∨ H a = some (.tup xs)) ∧ DtAll H xs ds
def spIn (n : Nat) : Sp := fun vs H Q _ => ∃ (v : V) (ds : List PyData), vs = [v] ∧ LT H v ds ∧ ds.length ≤ 200000 ∧ (∀ d ∈ ds, Dep n d) ∧ ∀ v' H', Same H H' → Dt H' v' (.tuple ds) → Q v' H'
def spGI (C : Addr) (n : Nat) : Sp := fun vs H Q _ => ∃ (p dx : Addr) (v1 v2 : V) (ds es : List PyData), vs = [.ref p, v1, v2] ∧ H p = some (.ins C dx []) ∧ LT H v1 ds ∧ LT H v2 es ∧ ds.length ≤ 200000 ∧ es.length ≤ 200000 ∧ (∀ d ∈ ds, Dep n d) ∧ (∀ d ∈ es, Dep n d) ∧
  ∀ H', GameAt C H' p ds es → (∀ b o, H b = some o → b ≠ p → H' b = some o) → Q .non H'
def spGE (C : Addr) (n : Nat) : Sp := fun vs H Q _ => ∃ (a b : Addr) (ds es ds' es' : List PyData), vs = [.ref a, .ref b] ∧ GameAt C H a ds es ∧ GameAt C H b ds' es' ∧ Dep n (.tuple ds) ∧ Dep n (.tuple es) ∧ Dep n (.tuple ds') ∧ Dep n (.tuple es') ∧
  Q (.bl (PyData.eqv (.tuple ds) (.tuple ds') && PyData.eqv (.tuple es) (.tuple es'))) H
structure TxG (K : PySem.W.Frag) (mg : Str → Option Value) (C : Addr) : Prop where
  cl : Cls K C
  nV : NoAttr K C "variables"
  nB : NoAttr K C "block"
  mgC : mg "Game" = some (.ref C)
  si : SlX.SIsi K C
  isi : mg "isinstance" = none
section
variable {P : Program} {w : World} {K : PySem.W.Frag} {mg : Str → Option Value} {base : Heap} {C LE BT fB : Addr}
theorem FnOk.or2 {CX : CXT} {k : Nat} {f : Addr} {fd : FuncData} {ps : List Str} {sp sp' : Sp} (F : FnOk P w K mg base CX k f fd ps sp) (F' : FnOk P w K mg base CX k f fd ps sp') : FnOk P w K mg base CX k f fd ps (fun vs H Q E => sp vs H Q E ∨ sp' vs H Q E) :=
  ⟨fun vs H Q E q => q.elim (F.len vs H Q E) (F'.len vs H Q E), fun A outer s H args us vs Q E hr he hb hv hs => hs.elim (F.run A outer s H args us vs Q E hr he hb hv) (F'.run A outer s H args us vs Q E hr he hb hv)⟩
theorem in_ok {k n : Nat} {f : Addr} {fd : FuncData} (F : FnOk P w K mg base CX0 k f fd ["data"] (spTup (n + 1))) (F' : FnOk P w K mg base CX0 k f fd ["data"] (spTupL n)) : FnOk P w K mg base CX0 k f fd ["data"] (spIn n) :=
  (FnOk.or2 F F').imp fun vs H Q E h => by
    obtain ⟨v, ds, rfl, ⟨a, xs, rfl, ea | ea, da⟩, hl, hd, q⟩ := h
    · exact .inr ⟨a, xs, ds, rfl, ea, da, hl, hd, q⟩
    · exact .inl ⟨.ref a, .tuple ds, rfl, .tup ea da, .tup n _ hl hd, q⟩
theorem scGI : FnScope ["self", "variables", "block"] ["self", "variables", "block"] (defScope sGI) := ⟨rfl, rfl, rfl, by decide +kernel, rfl, by decide +kernel, by decide +kernel⟩
theorem LT.keep {H H' : Hp} {v : V} {ds : List PyData} (h : LT H v ds) (k : ∀ b xs, (H b = some (.lst xs) → H' b = some (.lst xs)) ∧ (H b = some (.tup xs) → H' b = some (.tup xs))) : LT H' v ds := by
  obtain ⟨a, xs, e, q, d⟩ := h
  exact ⟨a, xs, e, q.elim (fun q => .inl ((k a xs).1 q)) (fun q => .inr ((k a xs).2 q)), DtAll.keep (fun b ys z => (k b ys).2 z) d⟩
theorem ok_ginit {k n : Nat} {f fI : Addr} {fd fdI : FuncData} (F : Fun K "__init__" "Game.__init__" sGI f fd) (T : TxG K mg C) (N1 : Fn0 P w K mg base k "in_tuples" ["data"] (spIn n) fI fdI) : FnOk P w K mg base CX0 (k + 1) f fd ["self", "variables", "block"] (spGI C n) := by
  refine F.ok scGI (fun vs H Q E h => ?_) (fun cdv A outer s H vs Q E hr h => ?_)
  · obtain ⟨p, dx, v1, v2, ds, es, rfl, _⟩ := h
    rfl
  · obtain ⟨p, dx, v1, v2, ds, es, rfl, hp, l1, l2, n1, n2, d1, d2, q⟩ := h
    refine ⟨_, pss_cons (ps_fld (pv 0) (pe_call N1.ok hr (by rfl) N1.gl N1.kp N1.bd .nil pass0 (pa_cons (pv 1) pa_nil)) rfl)
      (pss_one (ps_fld (pv 0) (pe_call N1.ok hr (by rfl) N1.gl N1.kp N1.bd .nil pass0 (pa_cons (pv 2) pa_nil)) rfl)), ?_⟩
    refine ⟨_, rfl, v1, ds, rfl, l1, n1, d1, fun va H1 s1 da => ?_⟩
    have hp1 := s1 _ _ hp
    have kp : ∀ b o, H b = some o → b ≠ p → (upd H1 p (.ins C dx (putF "variables" va []))) b = some o := fun b o e hb => by
      rw [upd_ne hb]
      exact s1 _ _ e
    have t1 : Tk H1 (upd H1 p (.ins C dx (putF "variables" va []))) := fun b xs e => by
      rw [upd_ne (ne_of e hp1 (by intro z; cases z))]
      exact e
    refine ⟨_, rfl, p, C, dx, [], rfl, hp1, T.cl, T.nV, (by show 0 < 1000; decide), ?_⟩
    refine ⟨_, rfl, v2, es, rfl, l2.keep (fun b xs => ⟨fun e => kp b _ e (ne_of e hp (by intro z; cases z)), fun e => kp b _ e (ne_of e hp (by intro z; cases z))⟩), n2, d2, fun vb H2 s2 db => ?_⟩
    have hp2 := s2 _ _ (show (upd H1 p (.ins C dx (putF "variables" va []))) p = _ from upd_same)
    refine ⟨_, rfl, p, C, dx, _, rfl, hp2, T.cl, T.nB, (by show 1 < 1000; decide), ?_⟩
    have t2 : Tk H2 (upd H2 p (.ins C dx (gfs va vb))) := fun b xs e => by
      rw [upd_ne (ne_of e hp2 (by intro z; cases z))]
      exact e
    refine q _ ⟨dx, va, vb, upd_same, Dt.keep ((t1.trans (Tk.same s2)).trans t2) da, Dt.keep t2 db⟩ fun b o e hb => ?_
    rw [upd_ne hb]
    exact s2 _ _ (kp b o e hb)
theorem scGE : FnScope ["self", "other"] ["self", "other"] (defScope sGE) := ⟨rfl, rfl, rfl, by decide +kernel, rfl, by decide +kernel, by decide +kernel⟩
theorem kit_same {K : PySem.W.Frag} {t : Value} : PySem.W.kitOne K t t = some true := by
  unfold PySem.W.kitOne
  rw [if_pos (by simp)]
theorem ok_geq {n : Nat} (hn : n ≤ 64) {f : Addr} {fd : FuncData} (F : Fun K "__eq__" "Game.__eq__" sGE f fd) (T : TxG K mg C) : FnOk P w K mg base CX0 1 f fd ["self", "other"] (spGE C n) := by
  refine F.ok scGE (fun vs H Q E h => ?_) (fun cdv A outer s H vs Q E hr h => ?_)
  · obtain ⟨a, b, ds, es, ds', es', rfl, _⟩ := h
    rfl
  · obtain ⟨a, b, ds, es, ds', es', rfl, ⟨dx, va, vb, ea, da, db⟩, ⟨dy, va', vb', eb, da', db'⟩, h1, h2, h3, h4, q⟩ := h
    refine ⟨_, pss_one (ps_ret (pe_and (pe_callB call_isi (by rfl) T.isi (by decide +kernel) (pa_cons (pv 1) (pa_cons (pe_glob (v := .ref C) rfl T.mgC rfl) pa_nil)))
      (pe_and (pe_cmpR (op_eqD hr.units) (pe_fld (pv 0) rfl) (pe_fld (pv 1) rfl) (nomark _)) (pe_one (pe_cmpR (op_eqD hr.units) (pe_fld (pv 0) rfl) (pe_fld (pv 1) rfl) (nomark _)))))), ?_⟩
    refine ⟨_, rfl, .ref b, .ref C, .ref C, .ref C, true, rfl, .own C, .base (.ins eb T.cl T.si.ca T.si.cn T.si.ct T.si.cm), kit_same, _, rfl, iteT ?_⟩
    refine ⟨_, rfl, a, C, dx, _, _, rfl, ea, T.cl, T.nV, gfs_v _ _, _, rfl, b, C, dy, _, _, rfl, eb, T.cl, T.nV, gfs_v _ _, _, _, da.dp, da'.dp, h1.shaped hn, h3.shaped hn, _, rfl, ?_⟩
    cases hv : PyData.eqv (.tuple ds) (.tuple ds') with
    | true =>
      refine iteT ⟨_, rfl, a, C, dx, _, _, rfl, ea, T.cl, T.nB, gfs_b _ _, _, rfl, b, C, dy, _, _, rfl, eb, T.cl, T.nB, gfs_b _ _, _, _, db.dp, db'.dp, h2.shaped hn, h4.shaped hn, ?_⟩
      rw [hv, Bool.true_and] at q
      exact q
    | false =>
      refine iteF ?_
      rw [hv, Bool.false_and] at q
      exact q
end
end K1

set_option Elab.async false
set_option linter.all false
set_option maxRecDepth 100000
set_option maxHeartbeats 4000000
namespace K1
open PySem PySem.Spec PyProof.Rows L2 Kx
/-- how a class stands that is made -/
structure Mk1 (P : Program) (w : World) (K : PySem.W.Frag) (mg : Str → Option Value) (base : Heap) (C : Addr) (k : Nat) (x : Str) (ps : List Str) (sp : Sp) (f : Addr) (fd : FuncData) : Prop where
  mkc : Mk K C f
  ok : FnOk P w K mg base CX0 k f fd ps sp
  gl : mg x = some (.ref C)
  bd : Binds K fd ps []
theorem rVars_at {ws : List Str} : ∀ (f : Nat) (vs xs : List (Str × Int)) (i j : Nat), rVars ws f vs i = .ok (xs, j) → i ≤ j
  | 0, vs, xs, i, j, h => by
    unfold rVars at h
    injection h with h
    injection h with _ h
    rw [h]
    exact Nat.le_refl _
  | f + 1, vs, xs, i, j, h => by
    unfold rVars at h
    split at h
    · split at h
      · split at h
        · split at h
          · cases h
          · rename_i q
            have q := rNum_at q
            have l := rVars_at f _ _ _ _ h
            rw [q] at l
            have : (⟨i + 2, 0, 0⟩ : S).adv.at_ = i + 3 := rfl
            omega
        · cases h
      · cases h
    · injection h with h
      injection h with _ h
      rw [h]
      exact Nat.le_refl _
def spRG (CG BT : Addr) : Sp := fun vs H Q E => ∃ (t : Str), vs = [.str t] ∧ t.length + 2 ≤ sizeLine ∧ (wordsOf t).length ≤ 100000 ∧ (∀ x ∈ wordsOf t, x.length ≤ sizeLine) ∧ (match rAll (wordsOf t) with
  | .error i => ∀ d H', Same H H' → H' d = some (.xd [(("at" : Str), .int (i : Int))]) → E (.ref BT) (some d) H'
  | .ok (vs, b) => ∀ g H', Same H H' → GameAt CG H' g (varsD vs) b.ds → Q (.ref g) H')
section
variable {P : Program} {w : World} {K : PySem.W.Frag} {mg : Str → Option Value} {base : Heap} {C CG LE BT fB : Addr} {fR fW fV fK fF fG : Addr} {dR dW dV dK dF dG : FuncData}
theorem scRG : FnScope ["text", "reader", "variables", "block"] ["text"] (defScope sRG) := ⟨rfl, rfl, rfl, by decide +kernel, rfl, by decide +kernel, by decide +kernel⟩
theorem ok_rgame {f : Addr} {fd : FuncData} (F : Fun K "read_game" "read_game" sRG f fd) (T : TxR K mg C LE BT fB) (W1 : Fn0 P w K mg base 1 "words_of" ["text"] spWords fW dW) (R1 : Mk1 P w K mg base C 1 "Reader" ["self", "words"] (spRInit K C) fR dR)
    (V1 : MtX P w K mg base C 5 "read_variables" ["self"] (spVars C BT) fV dV) (B1 : MtX P w K mg base C 25 "read_block" ["self", "depth"] (spBk C BT 4) fK dK) (F1 : MtX P w K mg base C 3 "finish" ["self"] (spFin C BT) fF dF)
    (G1 : Mk1 P w K mg base CG 19 "Game" ["self", "variables", "block"] (spGI CG 16) fG dG) : FnOk P w K mg base (L2.CX P w) 26 f fd ["text"] (spRG CG BT) := by
  refine F.okX scRG (fun vs H Q E h => ?_) (fun cdv A outer s H vs Q E hr h => ?_)
  · obtain ⟨t, rfl, _⟩ := h
    rfl
  · obtain ⟨t, rfl, ht, hw, hz, po⟩ := h
    have hr1 : Room 1 _ := hr.mono (by decide)
    have hr2 : Room 2 _ := hr.mono (by decide)
    have hr3 : Room 3 _ := hr.mono (by decide)
    have hr5 : Room 5 _ := hr.mono (by decide)
    have hr20 : Room 20 _ := hr.mono (by decide)
    refine ⟨_, pss_cons (ps_set (i := 1) scRG.nd rfl (Or.inl rfl) (pe_make R1.mkc R1.ok hr2 rfl R1.gl R1.bd .nil pass0 (pa_cons (pe_call W1.ok hr1 (by rfl) W1.gl W1.kp W1.bd .nil pass0 (pa_cons (pv 0) pa_nil)) pa_nil)))
      (pss_cons (ps_set (i := 2) scRG.nd rfl (Or.inl rfl) (pe_meth0 (E := E) (pv 1) T.cl V1.mt V1.ok hr5 V1.bd .nil (passes_call (takes_of rfl rfl rfl rfl) (fun _ _ _ _ h => h))))
      (pss_cons (ps_set (i := 3) scRG.nd rfl (Or.inl rfl) (pe_meth (E := E) (pv 1) T.cl B1.mt B1.ok hr B1.bd .nil (passes_call (takes_of rfl rfl rfl rfl) (fun _ _ _ _ h => h)) (pa_cons pe_int pa_nil)))
      (pss_cons (ps_expr (pe_meth0 (E := E) (pv 1) T.cl F1.mt F1.ok hr3 F1.bd .nil (passes_call (takes_of rfl rfl rfl rfl) (fun _ _ _ _ h => h))))
      (pss_one (ps_ret (pe_make G1.mkc G1.ok hr20 rfl G1.gl G1.bd .nil pass0 (pa_cons (pv 2) (pa_cons (pv 3) pa_nil)))))))), ?_⟩
    refine ⟨_, rfl, t, rfl, ht, fun p H1 s1 np hp => ?_⟩
    intro x dx nx ndx nex
    have npx : p ≠ x := ne_of_none hp nx
    have npd : p ≠ dx := ne_of_none hp ndx
    refine ⟨x, dx, p, wordsOf t, rfl, upd_same, by rw [upd_ne npx, upd_ne npd]; exact hp, hw, hz, fun lw ln H2 nlw hln R2 k2 => ⟨rfl, ?_⟩⟩
    have s2 : Same H1 H2 := Same.made nx ndx k2
    have hln1 : H1 ln = none := by
      have nlx : ln ≠ x := fun e => by
        rw [e, upd_same] at hln
        cases hln
      have nld : ln ≠ dx := fun e => by
        rw [e, upd_ne nex, upd_same] at hln
        cases hln
      rw [upd_ne nlx, upd_ne nld] at hln
      exact hln
    have s02 : Same H H2 := s1.trans s2
    obtain ⟨dx2, e2⟩ := id R2.ob
    unfold rAll at po
    -- what the reader changes was not there
    have keep : ∀ {H3 : Hp}, Kr2 x ln H2 H3 → Same H H3 := fun k b o e => k b o (s02 _ _ e) (ne_of_none (s1 _ _ e) nx) (ne_of_none (s1 _ _ e) hln1)
    refine ⟨_, rfl, x, dx2, _, rfl, e2, no_m (by decide +kernel), x, lw, ln, wordsOf t, rfl, nlw, R2, ?_⟩
    cases hm : rVars (wordsOf t) 6 [] 0 with
    | error i =>
      rw [hm] at po
      exact fun d H' k' e' => po d H' (keep k') e'
    | ok pr =>
      obtain ⟨xs, i⟩ := pr
      rw [hm] at po
      dsimp only at po
      intro v H3 dv R3 k3
      obtain ⟨hx5, hnm⟩ := rVars_ok 6 [] xs 0 i (by decide) (fun p hp => nomatch hp) hm
      obtain ⟨dx3, e3⟩ := id R3.ob
      refine ⟨_, rfl, x, dx3, _, rfl, e3, no_m (by decide +kernel), x, lw, ln, wordsOf t, _, ⟨i, 0, 0⟩, 1, rfl, by decide, R3, ?_⟩
      cases hm2 : rBk (wordsOf t) (xs.map (·.1)) 4 ⟨i, 0, 0⟩ with
      | error j =>
        rw [hm2] at po
        exact fun d H' k' e' => po d H' (keep (k3.trans (Kr2.of k'))) e'
      | ok pr2 =>
        obtain ⟨b, st⟩ := pr2
        rw [hm2] at po
        dsimp only at po
        intro v2 H4 dv2 R4 k4
        have k34 := k3.trans (Kr2.of k4)
        have dv4 := Dt.keep (Kr.tk R3 k4) dv
        obtain ⟨dx4, e4⟩ := id R4.ob
        refine ⟨_, rfl, x, dx4, _, rfl, e4, no_m (by decide +kernel), x, lw, ln, wordsOf t, _, st, rfl, R4, fun hlt => ?_, fun hlt => ?_⟩
        · rw [if_pos hlt] at po
          exact fun d H' k' e' => po d H' (keep (k34.trans (Kr2.of k'))) e'
        · rw [if_neg hlt] at po
          have hns : ∀ y ∈ xs.map (·.1), OkS y := fun y hy => by
            obtain ⟨p, hp, rfl⟩ := List.mem_map.mp hy
            exact nameB_ok (hnm p hp)
          have hb : BkD (8 + 2 * 4) b := rBk_dep hns hw 4 ⟨i, 0, 0⟩ st b hm2
          refine ⟨_, rfl, _, rfl, fun g dg ng ndg neg => ?_⟩
          cases dv4 with
          | @tup a ys _ ea da =>
            cases dv2 with
            | @tup a2 ys2 _ ea2 da2 =>
              have sg : Same H4 (upd (upd H4 dg (.own g)) g (.ins CG dg [])) := fun b o e => by
                rw [upd_ne (ne_of_none e ng), upd_ne (ne_of_none e ndg)]
                exact e
              have tg := Tk.same sg
              refine ⟨g, dg, _, _, varsD xs, b.ds, rfl, upd_same, ⟨a, ys, rfl, .inr (tg _ _ ea), DtAll.keep tg da⟩, ⟨a2, ys2, rfl, .inr (tg _ _ ea2), DtAll.keep tg da2⟩, ?_, hb.1, fun d hd => (varsD_dep hnm d hd).le (by decide), hb.2, fun H5 hg k5 => ⟨rfl, ?_⟩⟩
              · unfold varsD
                rw [List.length_map]
                omega
              · exact po g H5 ((keep k34).trans (fun b o e => k5 b o (sg b o e) (ne_of_none e ng))) hg
end
/-! ### games are written -/
abbrev sGT : Stmt := top 36
abbrev sBW : Stmt := top 37
abbrev sSW : Stmt := top 38
abbrev sIW : Stmt := top 39
abbrev sEW : Stmt := top 40
/-- a new list of words -/
def WL (ws : List Str) (H : Hp) (Q : VK) : Prop := ∀ p H', Same H H' → H p = none → H' p = some (.lst (ws.map V.str)) → Q (.ref p) H'
/-- the numbers of an expression are such as a game has -/
def Ex.okN : Ex → Prop
  | .num n => 0 ≤ n ∧ n ≤ 65535
  | .var _ => True
  | .op _ a b => a.okN ∧ b.okN
/-- how deep an expression is -/
def Ex.dp : Ex → Nat
  | .num _ => 0
  | .var _ => 0
  | .op _ a b => max a.dp b.dp + 1
/-- operators are no words that tell the kind of an expression -/
def Ex.okO : Ex → Prop
  | .num _ => True
  | .var _ => True
  | .op o a b => OPS.contains o = true ∧ a.okO ∧ b.okO
theorem ops_num : ∀ x ∈ OPS, x ≠ ("number" : Str) ∧ x ≠ ("variable" : Str) := by decide +kernel
def spEW (n : Nat) : Sp := fun vs H Q _ => ∃ (v : V) (e : Ex), vs = [v] ∧ Dt H v e.d ∧ e.okN ∧ e.okO ∧ e.dp ≤ n ∧ e.w.length ≤ 100000 ∧ WL e.w H Q
structure TxS (mg : Str → Option Value) : Prop where
  str : mg "str" = none
section
variable {P : Program} {w : World} {K : PySem.W.Frag} {mg : Str → Option Value} {base : Heap}
theorem scEW : FnScope ["expression", "operator", "first", "second"] ["expression"] (defScope sEW) := ⟨rfl, rfl, rfl, by decide +kernel, rfl, by decide +kernel, by decide +kernel⟩
theorem num_log {n : Int} (h0 : 0 ≤ n) (h1 : n ≤ 65535) : n.natAbs.log2 < 1920 := by
  have p : (2 : Nat) ^ 17 = 131072 := by decide
  have q : n.natAbs < 2 ^ 17 := by omega
  exact Nat.lt_of_lt_of_le (PySem.Flt.log2_lt_of (by decide) q) (by decide)
end
end K1

set_option Elab.async false
set_option linter.all false
set_option maxRecDepth 100000
set_option maxHeartbeats 1000000
namespace K1
open PySem PySem.Spec PyProof.Rows L2 Kx
theorem tix0 {x : V} {xs : List V} : atI (x :: xs) 0 = some x := atI_nat (j := 0) rfl
theorem tix1 {x y : V} {xs : List V} : atI (x :: y :: xs) 1 = some y := atI_nat (j := 1) rfl
theorem tix2 {x y z : V} {xs : List V} : atI (x :: y :: z :: xs) 2 = some z := atI_nat (j := 2) rfl
theorem Dt.tupI {H : Hp} {v : V} {ds : List PyData} (h : Dt H v (.tuple ds)) : ∃ a xs, v = .ref a ∧ H a = some (.tup xs) ∧ DtAll H xs ds := by
  cases h with
  | tup e a => exact ⟨_, _, rfl, e, a⟩
theorem Dt.strI {H : Hp} {v : V} {x : Str} (h : Dt H v (.str x)) : v = .str x := by
  cases h
  rfl
theorem Dt.intI {H : Hp} {v : V} {x : Int} (h : Dt H v (.int x)) : v = .int x := by
  cases h
  rfl
theorem DtAll.c2 {H : Hp} {xs : List V} {d e : PyData} (h : DtAll H xs [d, e]) : ∃ x y, xs = [x, y] ∧ Dt H x d ∧ Dt H y e := by
  cases h with
  | cons a r =>
    cases r with
    | cons b r =>
      cases r
      exact ⟨_, _, rfl, a, b⟩
theorem DtAll.c3 {H : Hp} {xs : List V} {d e f : PyData} (h : DtAll H xs [d, e, f]) : ∃ x y z, xs = [x, y, z] ∧ Dt H x d ∧ Dt H y e ∧ Dt H z f := by
  cases h with
  | cons a r =>
    obtain ⟨y, z, rfl, b, c⟩ := r.c2
    exact ⟨_, y, z, rfl, a, b, c⟩
theorem DtAll.c4 {H : Hp} {xs : List V} {d e f g : PyData} (h : DtAll H xs [d, e, f, g]) : ∃ x y z w, xs = [x, y, z, w] ∧ Dt H x d ∧ Dt H y e ∧ Dt H z f ∧ Dt H w g := by
  cases h with
  | cons a r =>
    obtain ⟨y, z, w, rfl, b, c, d⟩ := r.c3
    exact ⟨_, y, z, w, rfl, a, b, c, d⟩
theorem sz {n : Nat} (h : n ≤ 200000) : n ≤ sizeLine := Nat.le_trans h (by decide)
theorem nlt {H H1 : Hp} {p : Addr} (s : Same H H1) (h : H1 p = none) : H p = none := s.free h
section
variable {P : Program} {w : World} {K : PySem.W.Frag} {mg : Str → Option Value} {base : Heap}
theorem ok_ew0 {f : Addr} {fd : FuncData} (F : Fun K "expression_words" "expression_words" sEW f fd) (T : TxS mg) : FnOk P w K mg base CX0 1 f fd ["expression"] (spEW 0) := by
  refine F.ok scEW (fun vs H Q E h => ?_) (fun cdv A outer s H vs Q E hr h => ?_)
  · obtain ⟨v, e, rfl, _⟩ := h
    rfl
  · obtain ⟨v, e, rfl, hv, hn, ho, hd, hw, q⟩ := h
    refine ⟨_, pss_cons (ps_if (pt_cmpR op_eq (pe_ix ix_tup (pv 0) pe_int (fun _ _ => rfl)) pe_str (nomark _)) (pss_one (ps_ret (pe_lst (pa_cons (pe_callTy call_str_int (by rfl) T.str (by decide +kernel) (pa_cons (pe_ix ix_tup (pv 0) pe_int (fun _ _ => rfl)) pa_nil)) pa_nil)))) pss_nil)
      (pss_cons (ps_if (pt_cmpR op_eq (pe_ix ix_tup (pv 0) pe_int (fun _ _ => rfl)) pe_str (nomark _)) (pss_one (ps_ret (pe_lst (pa_cons (pe_ix ix_tup (pv 0) pe_int (fun _ _ => rfl)) pa_nil)))) pss_nil)
      (pss_cons ps_never (pss_one ps_never))), ?_⟩
    cases e with
    | num n =>
      obtain ⟨a, xs, rfl, ea, da⟩ := hv.tupI
      obtain ⟨x, y, rfl, d1, d2⟩ := da.c2
      obtain rfl := d1.strI
      obtain rfl := d2.intI
      refine ⟨_, rfl, a, _, _, _, rfl, rfl, SqT.of ea, tix0, rfl, _, rfl, ?_⟩
      rw [decide_eq_true rfl]
      refine iteT ⟨_, rfl, a, _, _, _, rfl, rfl, SqT.of ea, tix1, n, rfl, num_log hn.1 hn.2, (by show 1 ≤ sizeLine; decide), fun p hp => ?_⟩
      exact q p _ (same_upd hp) hp upd_same
    | var x =>
      obtain ⟨a, xs, rfl, ea, da⟩ := hv.tupI
      obtain ⟨z, y, rfl, d1, d2⟩ := da.c2
      obtain rfl := d1.strI
      obtain rfl := d2.strI
      refine ⟨_, rfl, a, _, _, _, rfl, rfl, SqT.of ea, tix0, rfl, _, rfl, ?_⟩
      rw [decide_eq_false (show ¬ V.str ("variable" : Str) = V.str ("number" : Str) from fun z => absurd (V.str.inj z) (by decide +kernel))]
      refine iteF ⟨_, rfl, a, _, _, _, rfl, rfl, SqT.of ea, tix0, rfl, _, rfl, ?_⟩
      rw [decide_eq_true rfl]
      refine iteT ⟨_, rfl, a, _, _, _, rfl, rfl, SqT.of ea, tix1, (by show 1 ≤ sizeLine; decide), fun p hp => ?_⟩
      exact q p _ (same_upd hp) hp upd_same
    | op o a b => exact absurd hd (by show ¬ max a.dp b.dp + 1 ≤ 0; omega)
theorem ok_ewS {f : Addr} {fd : FuncData} {k n : Nat} (F : Fun K "expression_words" "expression_words" sEW f fd) (T : TxS mg) (gl : mg "expression_words" = some (.ref f)) (bd : Binds K fd ["expression"] []) (G : FnOk P w K mg base CX0 k f fd ["expression"] (spEW n)) :
    FnOk P w K mg base CX0 (k + 1) f fd ["expression"] (spEW (n + 1)) := by
  refine F.ok scEW (fun vs H Q E h => ?_) (fun cdv A outer s H vs Q E hr h => ?_)
  · obtain ⟨v, e, rfl, _⟩ := h
    rfl
  · obtain ⟨v, e, rfl, hv, hn, ho, hd, hw, q⟩ := h
    refine ⟨_, pss_cons (ps_if (pt_cmpR op_eq (pe_ix ix_tup (pv 0) pe_int (fun _ _ => rfl)) pe_str (nomark _)) (pss_one (ps_ret (pe_lst (pa_cons (pe_callTy call_str_int (by rfl) T.str (by decide +kernel) (pa_cons (pe_ix ix_tup (pv 0) pe_int (fun _ _ => rfl)) pa_nil)) pa_nil)))) pss_nil)
      (pss_cons (ps_if (pt_cmpR op_eq (pe_ix ix_tup (pv 0) pe_int (fun _ _ => rfl)) pe_str (nomark _)) (pss_one (ps_ret (pe_lst (pa_cons (pe_ix ix_tup (pv 0) pe_int (fun _ _ => rfl)) pa_nil)))) pss_nil)
      (pss_cons (ps_asg (pv 0) (pg_tup (by rfl) (pgs_cons (pg_name (i := 1) scEW.nd rfl (Or.inl rfl)) (pgs_cons (pg_name (i := 2) scEW.nd rfl (Or.inl rfl)) (pgs_cons (pg_name (i := 3) scEW.nd rfl (Or.inl rfl)) pgs_nil)))))
      (pss_one (ps_ret (pe_lst (pa_cons (pv 1) (StX.pa_star (pe_call G hr (by rfl) gl F.kp bd .nil pass0 (pa_cons (pv 2) pa_nil)) (StX.pa_star (pe_call G hr (by rfl) gl F.kp bd .nil pass0 (pa_cons (pv 3) pa_nil)) pa_nil)))))))), ?_⟩
    cases e with
    | num n =>
      obtain ⟨a, xs, rfl, ea, da⟩ := hv.tupI
      obtain ⟨x, y, rfl, d1, d2⟩ := da.c2
      obtain rfl := d1.strI
      obtain rfl := d2.intI
      refine ⟨_, rfl, a, _, _, _, rfl, rfl, SqT.of ea, tix0, rfl, _, rfl, ?_⟩
      rw [decide_eq_true rfl]
      refine iteT ⟨_, rfl, a, _, _, _, rfl, rfl, SqT.of ea, tix1, n, rfl, num_log hn.1 hn.2, (by show 1 ≤ sizeLine; decide), fun p hp => ?_⟩
      exact q p _ (same_upd hp) hp upd_same
    | var x =>
      obtain ⟨a, xs, rfl, ea, da⟩ := hv.tupI
      obtain ⟨z, y, rfl, d1, d2⟩ := da.c2
      obtain rfl := d1.strI
      obtain rfl := d2.strI
      refine ⟨_, rfl, a, _, _, _, rfl, rfl, SqT.of ea, tix0, rfl, _, rfl, ?_⟩
      rw [decide_eq_false (show ¬ V.str ("variable" : Str) = V.str ("number" : Str) from fun z => absurd (V.str.inj z) (by decide +kernel))]
      refine iteF ⟨_, rfl, a, _, _, _, rfl, rfl, SqT.of ea, tix0, rfl, _, rfl, ?_⟩
      rw [decide_eq_true rfl]
      refine iteT ⟨_, rfl, a, _, _, _, rfl, rfl, SqT.of ea, tix1, (by show 1 ≤ sizeLine; decide), fun p hp => ?_⟩
      exact q p _ (same_upd hp) hp upd_same
    | op o e1 e2 =>
      obtain ⟨a, xs, rfl, ea, da⟩ := hv.tupI
      obtain ⟨x, y, z, rfl, d1, d2, d3⟩ := da.c3
      obtain rfl := d1.strI
      obtain ⟨n1, n2⟩ := ops_num o (List.contains_iff_mem.mp ho.1)
      have hd' : max e1.dp e2.dp + 1 ≤ n + 1 := hd
      have hw' : (o :: (e1.w ++ e2.w)).length ≤ 100000 := hw
      rw [List.length_cons, List.length_append] at hw'
      refine ⟨_, rfl, a, _, _, _, rfl, rfl, SqT.of ea, tix0, rfl, _, rfl, ?_⟩
      rw [decide_eq_false (show ¬ V.str o = V.str ("number" : Str) from fun z => n1 (V.str.inj z))]
      refine iteF ⟨_, rfl, a, _, _, _, rfl, rfl, SqT.of ea, tix0, rfl, _, rfl, ?_⟩
      rw [decide_eq_false (show ¬ V.str o = V.str ("variable" : Str) from fun z => n2 (V.str.inj z))]
      refine iteF ⟨_, rfl, a, [.str o, y, z], rfl, SqT.of ea, rfl, .str o, [y, z], rfl, y, [z], rfl, z, [], rfl, rfl, ?_⟩
      refine ⟨_, rfl, _, rfl, y, e1, rfl, d2, hn.1, ho.2.1, by omega, by omega, fun p1 H1 s1 np1 ep1 => ?_⟩
      refine ⟨p1, _, rfl, .inr (SqL.of ep1), _, rfl, z, e2, rfl, Dt.keep (Tk.same s1) d3, hn.2, ho.2.2, by omega, by omega, fun p2 H2 s2 np2 ep2 => ?_⟩
      refine ⟨p2, _, rfl, .inr (SqL.of ep2), ?_, fun p3 hp3 => ?_⟩
      · rw [List.append_nil, List.length_cons, List.length_append, List.length_map, List.length_map]
        exact sz (by omega)
      · have s03 := (s1.trans s2).trans (same_upd (o := .lst (V.str o :: (e1.w.map V.str ++ (e2.w.map V.str ++ [])))) hp3)
        refine q p3 _ s03 ((s1.trans s2).free hp3) ?_
        rw [upd_same, List.append_nil]
        show some (HO.lst (V.str o :: (e1.w.map V.str ++ e2.w.map V.str))) = some (HO.lst ((o :: (e1.w ++ e2.w)).map V.str))
        rw [List.map_cons, List.map_append]
end
end K1

set_option Elab.async false
set_option linter.all false
set_option maxRecDepth 100000
set_option maxHeartbeats 1000000
namespace K1
open PySem PySem.Spec PyProof.Rows L2 Kx
/-! ### games whose numbers, words and depths are such as a game has -/
def Ex.okE (e : Ex) : Prop := e.okN ∧ e.okO ∧ e.dp ≤ 5
mutual
def Sm.ok : Sm → Nat → Prop
  | .set _ e, _ => e.okE
  | .draw _ n, _ => 0 ≤ n ∧ n ≤ 65535
  | .move k _ n _, _ => (k = "choose" ∨ k = "come") ∧ 0 ≤ n ∧ n ≤ 65535
  | .show_ _ e, _ => e.okE
  | .pay k e, _ => (k = "pay" ∨ k = "take") ∧ e.okE
  | .ifs e a b, n => e.okE ∧ ∃ m, n = m + 1 ∧ a.ok m ∧ b.ok m
def Bk.ok : Bk → Nat → Prop
  | .nil, _ => True
  | .cons s b, n => s.ok n ∧ b.ok n
end
def Bk.sl : Bk → List Sm
  | .nil => []
  | .cons s b => s :: b.sl
theorem ds_sl : ∀ b : Bk, b.ds = b.sl.map Sm.d
  | .nil => rfl
  | .cons s b => by
    show s.d :: b.ds = s.d :: b.sl.map Sm.d
    rw [ds_sl b]
theorem w_sl : ∀ b : Bk, b.w = (b.sl.map Sm.w).flatten
  | .nil => rfl
  | .cons s b => by
    show s.w ++ b.w = (s.w :: b.sl.map Sm.w).flatten
    rw [List.flatten_cons, w_sl b]
theorem ok_sl {n : Nat} : ∀ {b : Bk}, b.ok n → ∀ x ∈ b.sl, x.ok n
  | .nil, _, x, hx => nomatch hx
  | .cons s b, h, x, hx => by
    obtain ⟨h1, h2⟩ := h
    rcases List.mem_cons.mp hx with e | e
    · rw [e]
      exact h1
    · exact ok_sl h2 x e
theorem emp_ds : ∀ b : Bk, b.emp = b.ds.isEmpty
  | .nil => rfl
  | .cons s b => rfl
/-- the words of the first statements -/
def tkw (b : Bk) (i : Nat) : List Str := ((b.sl.take i).map Sm.w).flatten
theorem tkw_succ {b : Bk} {i : Nat} {x : Sm} (h : b.sl[i]? = some x) : tkw b (i + 1) = tkw b i ++ x.w := by
  unfold tkw
  rw [List.take_add_one, h]
  simp
theorem tkw_le (b : Bk) (i : Nat) : (tkw b i).length ≤ b.w.length := by
  rw [w_sl]
  have : ((b.sl.map Sm.w).flatten) = tkw b i ++ ((b.sl.drop i).map Sm.w).flatten := by
    unfold tkw
    rw [← List.flatten_append, ← List.map_append, List.take_append_drop]
  rw [this, List.length_append]
  omega
theorem tkw_all (b : Bk) : tkw b b.ds.length = b.w := by
  rw [w_sl, ds_sl, List.length_map]
  unfold tkw
  rw [List.take_length]
def spSW (n : Nat) : Sp := fun vs H Q _ => ∃ (v : V) (x : Sm), vs = [v] ∧ Dt H v x.d ∧ x.ok n ∧ x.w.length ≤ 100000 ∧ WL x.w H Q
def spIW (n : Nat) : Sp := fun vs H Q _ => ∃ (v : V) (e : Ex) (a b : Bk), vs = [v] ∧ Dt H v (Sm.ifs e a b).d ∧ e.okE ∧ a.ok n ∧ b.ok n ∧ (Sm.ifs e a b).w.length ≤ 100000 ∧ WL (Sm.ifs e a b).w H Q
def spBW (n : Nat) : Sp := fun vs H Q _ => ∃ (v : V) (b : Bk), vs = [v] ∧ Dt H v (.tuple b.ds) ∧ b.ok n ∧ b.w.length ≤ 100000 ∧ WL b.w H Q
section
variable {P : Program} {w : World} {K : PySem.W.Frag} {mg : Str → Option Value} {base : Heap} {fE fS fI fB : Addr} {dE dS dI dB : FuncData}
theorem scBW : FnScope ["block", "words", "statement"] ["block"] (defScope sBW) := ⟨rfl, rfl, rfl, by decide +kernel, rfl, by decide +kernel, by decide +kernel⟩
theorem ok_bw {f : Addr} {fd : FuncData} {k n : Nat} (F : Fun K "block_words" "block_words" sBW f fd) (S1 : Fn0 P w K mg base k "statement_words" ["statement"] (spSW n) fS dS) : FnOk P w K mg base CX0 (k + 1) f fd ["block"] (spBW n) := by
  refine F.ok scBW (fun vs H Q E h => ?_) (fun cdv A outer s H vs Q E hr h => ?_)
  · obtain ⟨v, b, rfl, _⟩ := h
    rfl
  · obtain ⟨v, b, rfl, hv, ho, hw, q⟩ := h
    obtain ⟨a, xs, rfl, ea, da⟩ := hv.tupI
    refine ⟨_, pss_cons (ps_set (i := 1) scBW.nd rfl (Or.inl rfl) (pe_lst pa_nil))
      (pss_cons (ps_for PassesOwn.never rfl (pi_tup (pv 0)) (pg_name (i := 2) scBW.nd rfl (Or.inl rfl))
        (pss_one (ps_expr (pe_bm PySem.F.plainAttrs_list PySem.F.slot_list_extend PySem.F.type_list_extend mt_extend (pv 1) (pa_cons (pe_call S1.ok hr (by rfl) S1.gl S1.kp S1.bd .nil pass0 (pa_cons (pv 2) pa_nil)) pa_nil)))))
      (pss_one (ps_ret (pv 1)))), ?_⟩
    refine ⟨Nat.zero_le _, fun D hD => ?_⟩
    refine ⟨_, rfl, a, rfl, ⟨xs, SqT.of (same_upd hD _ _ ea)⟩, for_tup (xs := xs) (fun i σ H' => (∃ v2, σ = [some (.ref a), some (.ref D), v2]) ∧ Same H H' ∧ H' D = some (.lst ((tkw b i).map V.str))) ?_ ?_ ?_ ?_⟩
    · exact ⟨⟨_, rfl⟩, same_upd hD, upd_same⟩
    · rintro i σ H' hi ⟨_, s1, _⟩
      exact SqT.of (s1 _ _ ea)
    · rintro i v σ H' hx ⟨⟨v2, rfl⟩, s1, eD⟩
      obtain ⟨d, hd, dv⟩ := da.get hx
      rw [ds_sl, List.getElem?_map] at hd
      obtain ⟨x, hx2, rfl⟩ := Option.map_eq_some_iff.mp hd
      have e1 := tkw_succ hx2
      have l1 := tkw_le b (i + 1)
      rw [e1, List.length_append] at l1
      refine ⟨_, rfl, .inl ⟨rfl, _, SqL.of eD⟩, _, rfl, v, x, rfl, Dt.keep (Tk.same s1) dv, ok_sl ho x (List.mem_of_getElem? hx2), by omega, fun p H2 s2 np ep => ?_⟩
      refine ⟨D, p, _, _, rfl, rfl, s2 _ _ eD, ep, ?_, ⟨_, rfl⟩, fun c o e => ?_, ?_⟩
      · rw [List.length_map, List.length_map]
        exact sz (by omega)
      · rw [upd_ne (ne_of_none e hD)]
        exact s2 _ _ (s1 _ _ e)
      · rw [upd_same, e1, List.map_append]
    · rintro σ H' ⟨⟨v2, rfl⟩, s1, eD⟩
      rw [da.length, tkw_all] at eD
      exact ⟨_, rfl, q D H' s1 hD eD⟩
theorem scIW : FnScope ["statement", "_", "value", "then", "otherwise", "words"] ["statement"] (defScope sIW) := ⟨rfl, rfl, rfl, by decide +kernel, rfl, by decide +kernel, by decide +kernel⟩
theorem ok_iw {f : Addr} {fd : FuncData} {k n : Nat} (hk : 6 ≤ k) (F : Fun K "if_words" "if_words" sIW f fd) (E1 : Fn0 P w K mg base 6 "expression_words" ["expression"] (spEW 5) fE dE) (B1 : Fn0 P w K mg base k "block_words" ["block"] (spBW n) fB dB) : FnOk P w K mg base CX0 (k + 1) f fd ["statement"] (spIW n) := by
  refine F.ok scIW (fun vs H Q E h => ?_) (fun cdv A outer s H vs Q E hr h => ?_)
  · obtain ⟨v, e, a, b, rfl, _⟩ := h
    rfl
  · obtain ⟨v, e, a, b, rfl, hv, he, ha, hb, hw, q⟩ := h
    have hr6 : Room 6 _ := hr.mono hk
    obtain ⟨A1, xs, rfl, eA, dA⟩ := hv.tupI
    obtain ⟨x0, x1, x2, x3, rfl, d0, d1, d2, d3⟩ := dA.c4
    obtain rfl := d0.strI
    have hrest : ∃ t, PSs (cxOf CX0 P w K mg base ["statement", "_", "value", "then", "otherwise", "words"] "if_words" (defScope sIW) f cdv A outer s H E).nox ((defBody sIW).drop 3) t ∧
        ∀ (σ' : L2.St) (H' : Hp), (∃ D v0 v1 v2 v3 v4, σ' = [v0, v1, v2, v3, v4, some (.ref D)] ∧ Same H H' ∧ H D = none ∧ H' D = some (.lst ((("if" : Str) :: (e.w ++ (a.w ++ (if b.emp then [] else ("else" : Str) :: b.w)))).map V.str))) → t { nx := fun _ H' => Q .non H', rt := Q } σ' H' := by
      refine ⟨_, pss_cons (ps_expr (pe_bm PySem.F.plainAttrs_list PySem.F.slot_list_append PySem.F.type_list_append mt_append (pv 5) (pa_cons pe_str pa_nil))) (pss_one (ps_ret (pv 5))), ?_⟩
      rintro σ' H' ⟨D, v0, v1, v2, v3, v4, rfl, s1, hD, eD⟩
      refine ⟨_, rfl, .inl ⟨rfl, _, SqL.of eD⟩, D, _, _, rfl, rfl, eD, ?_, _, rfl, q D _ (fun c o z => ?_) hD ?_⟩
      · rw [List.length_map]
        have : (("if" : Str) :: (e.w ++ (a.w ++ ((if b.emp then [] else ("else" : Str) :: b.w) ++ [("end" : Str)])))).length ≤ 100000 := hw
        simp only [List.length_cons, List.length_append] at this ⊢
        exact Nat.lt_of_lt_of_le (show _ < 100000 by omega) (by decide)
      · rw [upd_ne (ne_of_none z hD)]
        exact s1 _ _ z
      · rw [upd_same]
        show some (HO.lst (_ ++ [V.str ("end" : Str)])) = some (HO.lst ((("if" : Str) :: (e.w ++ (a.w ++ ((if b.emp then [] else ("else" : Str) :: b.w) ++ [("end" : Str)])))).map V.str))
        simp only [List.map_cons, List.map_append, List.append_assoc, List.cons_append, List.map_nil]
    obtain ⟨t, ht, rest⟩ := hrest
    refine ⟨_, pss_cons (ps_asg (pv 0) (pg_tup (by rfl) (pgs_cons (pg_name (i := 1) scIW.nd rfl (Or.inl rfl)) (pgs_cons (pg_name (i := 2) scIW.nd rfl (Or.inl rfl)) (pgs_cons (pg_name (i := 3) scIW.nd rfl (Or.inl rfl)) (pgs_cons (pg_name (i := 4) scIW.nd rfl (Or.inl rfl)) pgs_nil))))))
      (pss_cons (ps_set (i := 5) scIW.nd rfl (Or.inl rfl) (pe_lst (pa_cons pe_str (StX.pa_star (pe_call E1.ok hr6 (by rfl) E1.gl E1.kp E1.bd .nil pass0 (pa_cons (pv 2) pa_nil)) (StX.pa_star (pe_call B1.ok hr (by rfl) B1.gl B1.kp B1.bd .nil pass0 (pa_cons (pv 3) pa_nil)) pa_nil)))))
      (pss_cons (ps_if (pt_truth (pv 4) (by intro _; rfl))
        (pss_cons (ps_expr (pe_bm PySem.F.plainAttrs_list PySem.F.slot_list_append PySem.F.type_list_append mt_append (pv 5) (pa_cons pe_str pa_nil)))
        (pss_one (ps_expr (pe_bm PySem.F.plainAttrs_list PySem.F.slot_list_extend PySem.F.type_list_extend mt_extend (pv 5) (pa_cons (pe_call B1.ok hr (by rfl) B1.gl B1.kp B1.bd .nil pass0 (pa_cons (pv 4) pa_nil)) pa_nil))))) pss_nil) ht)), ?_⟩
    have hw' : (("if" : Str) :: (e.w ++ (a.w ++ ((if b.emp then [] else ("else" : Str) :: b.w) ++ [("end" : Str)])))).length ≤ 100000 := hw
    simp only [List.length_cons, List.length_append, List.length_nil] at hw'
    refine ⟨_, rfl, A1, _, rfl, SqT.of eA, rfl, _, _, rfl, _, _, rfl, _, _, rfl, _, _, rfl, rfl, ?_⟩
    refine ⟨_, rfl, x1, e, rfl, d1, he.1, he.2.1, he.2.2, by omega, fun p1 H1 s1 np1 ep1 => ?_⟩
    refine ⟨p1, _, rfl, .inr (SqL.of ep1), _, rfl, x2, a, rfl, Dt.keep (Tk.same s1) d2, ha, by omega, fun p2 H2 s2 np2 ep2 => ?_⟩
    refine ⟨p2, _, rfl, .inr (SqL.of ep2), ?_, fun D hD => ?_⟩
    · rw [List.append_nil, List.length_cons, List.length_append, List.length_map, List.length_map]
      exact sz (by omega)
    have s12 := s1.trans s2
    have hD0 : H D = none := s12.free hD
    have s3 := s12.trans (same_upd (o := .lst (V.str ("if" : Str) :: (e.w.map V.str ++ (a.w.map V.str ++ [])))) hD)
    have eD : (upd H2 D (.lst (V.str ("if" : Str) :: (e.w.map V.str ++ (a.w.map V.str ++ []))))) D = some (.lst ((("if" : Str) :: (e.w ++ a.w)).map V.str)) := by
      rw [upd_same, List.append_nil, List.map_cons, List.map_append]
    obtain ⟨a4, xs4, rfl, e4, da4⟩ := (Dt.keep (Tk.same s3) d3).tupI
    refine ⟨_, rfl, !xs4.isEmpty, .inr (.inl ⟨xs4, SqT.of e4, rfl⟩), ?_⟩
    have eem : b.emp = xs4.isEmpty := by
      have hl := da4.length
      rw [emp_ds]
      cases h1 : b.ds with
      | nil =>
        rw [h1] at hl
        cases xs4 with
        | nil => rfl
        | cons _ _ => cases hl
      | cons d ds =>
        rw [h1] at hl
        cases xs4 with
        | nil => cases hl
        | cons _ _ => rfl
    cases hem : xs4.isEmpty with
    | true =>
      rw [eem, hem] at rest
      refine iteF (rest _ _ ⟨D, _, _, _, _, _, rfl, s3, hD0, ?_⟩)
      rw [eD]
      simp
    | false =>
      rw [eem, hem] at rest hw'
      simp only [Bool.false_eq_true, if_false, List.length_cons] at hw'
      refine iteT ⟨_, rfl, .inl ⟨rfl, _, SqL.of eD⟩, D, _, _, rfl, rfl, eD, ?_, ?_⟩
      · rw [List.length_map, List.length_cons, List.length_append]
        exact Nat.lt_of_lt_of_le (show _ < 100000 by omega) (by decide)
      have nDa : a4 ≠ D := fun z => by
        rw [z, eD] at e4
        cases e4
      have eD2 : (upd (upd H2 D (.lst (V.str ("if" : Str) :: (e.w.map V.str ++ (a.w.map V.str ++ []))))) D (.lst (((("if" : Str) :: (e.w ++ a.w)).map V.str) ++ [V.str ("else" : Str)]))) D = some (.lst ((("if" : Str) :: (e.w ++ (a.w ++ [("else" : Str)]))).map V.str)) := by
        rw [upd_same]
        simp
      refine ⟨_, rfl, .inl ⟨rfl, _, SqL.of eD2⟩, _, rfl, .ref a4, b, rfl, .tup (by rw [upd_ne nDa]; exact e4) (DtAll.keep (fun c xs z => ?_) da4), hb, by omega, fun p4 H4 s4 np4 ep4 => ?_⟩
      · rw [upd_ne (ne_of z eD (by intro z; cases z))]
        exact z
      have eD4 := s4 _ _ eD2
      refine ⟨D, p4, _, _, rfl, rfl, eD4, ep4, ?_, rest _ _ ⟨D, _, _, _, _, _, rfl, fun c o z => ?_, hD0, ?_⟩⟩
      · rw [List.length_map, List.length_map]
        simp only [List.length_cons, List.length_append, List.length_nil]
        exact sz (by omega)
      · have hc : c ≠ D := ne_of_none z hD0
        rw [upd_ne hc]
        refine s4 _ _ ?_
        rw [upd_ne hc]
        exact s3 _ _ z
      · rw [upd_same]
        simp
theorem scSW : FnScope ["statement", "kind"] ["statement"] (defScope sSW) := ⟨rfl, rfl, rfl, by decide +kernel, rfl, by decide +kernel, by decide +kernel⟩
theorem kd1 : ¬ ("set" : Str) = "if" ∧ ¬ ("draw" : Str) = "if" ∧ ¬ ("choose" : Str) = "if" ∧ ¬ ("come" : Str) = "if" ∧ ¬ ("show" : Str) = "if" ∧ ¬ ("pay" : Str) = "if" ∧ ¬ ("take" : Str) = "if" := by decide +kernel
theorem kd2 : inV (.str ("set" : Str)) [.str ("pay" : Str), .str ("take" : Str)] = false ∧ inV (.str ("draw" : Str)) [.str ("pay" : Str), .str ("take" : Str)] = false ∧ inV (.str ("choose" : Str)) [.str ("pay" : Str), .str ("take" : Str)] = false ∧ inV (.str ("come" : Str)) [.str ("pay" : Str), .str ("take" : Str)] = false ∧ inV (.str ("show" : Str)) [.str ("pay" : Str), .str ("take" : Str)] = false ∧ inV (.str ("pay" : Str)) [.str ("pay" : Str), .str ("take" : Str)] = true ∧ inV (.str ("take" : Str)) [.str ("pay" : Str), .str ("take" : Str)] = true := by decide +kernel
theorem kd3 : inV (.str ("set" : Str)) [.str ("set" : Str), .str ("show" : Str)] = true ∧ inV (.str ("draw" : Str)) [.str ("set" : Str), .str ("show" : Str)] = false ∧ inV (.str ("choose" : Str)) [.str ("set" : Str), .str ("show" : Str)] = false ∧ inV (.str ("come" : Str)) [.str ("set" : Str), .str ("show" : Str)] = false ∧ inV (.str ("show" : Str)) [.str ("set" : Str), .str ("show" : Str)] = true := by decide +kernel
/-- what statement_words needs of if_words: nothing where no if is -/
def IfW (P : Program) (w : World) (K : PySem.W.Frag) (mg : Str → Option Value) (base : Heap) (k : Nat) (f : Addr) (fd : FuncData) : Nat → Prop
  | 0 => True
  | n + 1 => Fn0 P w K mg base k "if_words" ["statement"] (spIW n) f fd
def Sm.kind : Sm → Str
  | .set _ _ => "set"
  | .draw _ _ => "draw"
  | .move k _ _ _ => k
  | .show_ _ _ => "show"
  | .pay k _ => k
  | .ifs _ _ _ => "if"
theorem ok_sw {f : Addr} {fd : FuncData} {k n : Nat} (hk : 6 ≤ k) (F : Fun K "statement_words" "statement_words" sSW f fd) (T : TxS mg) (E1 : Fn0 P w K mg base 6 "expression_words" ["expression"] (spEW 5) fE dE) (I1 : IfW P w K mg base k fI dI n) : FnOk P w K mg base CX0 (k + 1) f fd ["statement"] (spSW n) := by
  refine F.ok scSW (fun vs H Q E h => ?_) (fun cdv A outer s H vs Q E hr h => ?_)
  · obtain ⟨v, x, rfl, _⟩ := h
    rfl
  · obtain ⟨v, x, rfl, hv, ho, hw, q⟩ := h
    have hr6 : Room 6 _ := hr.mono hk
    have hrest : ∃ t, PSs (cxOf CX0 P w K mg base ["statement", "kind"] "statement_words" (defScope sSW) f cdv A outer s H E).nox ((defBody sSW).drop 2) t ∧
        ((∀ e a b, x ≠ .ifs e a b) → t { nx := fun _ H' => Q .non H', rt := Q } [some v, some (.str x.kind)] H) := by
      refine ⟨_, pss_cons (ps_if (pt_cmpR op_in_seq (pv 1) (pe_tup (pa_cons pe_str (pa_cons pe_str pa_nil))) (by rfl)) (pss_one (ps_ret (pe_lst (pa_cons (pv 1) (StX.pa_star (pe_call E1.ok hr6 (by rfl) E1.gl E1.kp E1.bd .nil pass0 (pa_cons (pe_ix ix_tup (pv 0) pe_int (fun _ _ => rfl)) pa_nil)) pa_nil))))) pss_nil)
        (pss_cons (ps_if (pt_cmpR op_in_seq (pv 1) (pe_tup (pa_cons pe_str (pa_cons pe_str pa_nil))) (by rfl)) (pss_one (ps_ret (pe_lst (pa_cons (pv 1) (pa_cons (pe_ix ix_tup (pv 0) pe_int (fun _ _ => rfl)) (StX.pa_star (pe_call E1.ok hr6 (by rfl) E1.gl E1.kp E1.bd .nil pass0 (pa_cons (pe_ix ix_tup (pv 0) pe_int (fun _ _ => rfl)) pa_nil)) pa_nil)))))) pss_nil)
        (pss_one (ps_ret (pe_lst (pa_cons (pv 1) (pa_cons (pe_ix ix_tup (pv 0) pe_int (fun _ _ => rfl)) (pa_cons (pe_callTy call_str_int (by rfl) T.str (by decide +kernel) (pa_cons (pe_ix ix_tup (pv 0) pe_int (fun _ _ => rfl)) pa_nil)) pa_nil))))))), fun hx => ?_⟩
      cases x with
      | ifs e a b => exact absurd rfl (hx e a b)
      | pay k1 e =>
        obtain ⟨a1, xs, rfl, ea, da⟩ := hv.tupI
        obtain ⟨y0, y1, rfl, d0, d1⟩ := da.c2
        obtain rfl := d0.strI
        have k2 : inV (.str k1) [.str ("pay" : Str), .str ("take" : Str)] = true := by
          rcases ho.1 with rfl | rfl
          · exact kd2.2.2.2.2.2.1
          · exact kd2.2.2.2.2.2.2
        have hw' : (k1 :: e.w).length ≤ 100000 := hw
        rw [List.length_cons] at hw'
        refine ⟨_, rfl, (by show 2 ≤ sizeLine; decide), fun p1 hp1 => ⟨p1, _, rfl, .inr (SqT.of upd_same), rfl, rfl, ?_⟩⟩
        have s1 : Same H _ := same_upd (o := .tup [.str ("pay" : Str), .str ("take" : Str)]) hp1
        rw [if_neg Bool.false_ne_true, show Sm.kind (.pay k1 e) = k1 from rfl, k2]
        refine ⟨_, rfl, iteT ⟨_, rfl, _, rfl, a1, _, _, _, rfl, rfl, SqT.of (s1 _ _ ea), tix1, y1, e, rfl, Dt.keep (Tk.same s1) d1, ho.2.1, ho.2.2.1, ho.2.2.2, by omega, fun p2 H2 s2 np2 ep2 => ?_⟩⟩
        refine ⟨p2, _, rfl, .inr (SqL.of ep2), ?_, fun p3 hp3 => ?_⟩
        · rw [List.append_nil, List.length_cons, List.length_map]
          exact sz (by omega)
        · refine q p3 _ ((s1.trans s2).trans (same_upd hp3)) ((s1.trans s2).free hp3) ?_
          rw [upd_same, List.append_nil]
          rfl
      | set y e =>
        obtain ⟨a1, xs, rfl, ea, da⟩ := hv.tupI
        obtain ⟨y0, y1, y2, rfl, d0, d1, d2⟩ := da.c3
        obtain rfl := d0.strI
        obtain rfl := d1.strI
        have hw' : (("set" : Str) :: y :: e.w).length ≤ 100000 := hw
        rw [List.length_cons, List.length_cons] at hw'
        refine ⟨_, rfl, (by show 2 ≤ sizeLine; decide), fun p1 hp1 => ⟨p1, _, rfl, .inr (SqT.of upd_same), rfl, rfl, ?_⟩⟩
        have s1 : Same H _ := same_upd (o := .tup [.str ("pay" : Str), .str ("take" : Str)]) hp1
        rw [if_neg Bool.false_ne_true, show inV (.str (Sm.kind (.set y e))) [.str ("pay" : Str), .str ("take" : Str)] = false from kd2.1]
        refine ⟨_, rfl, iteF ⟨_, rfl, (by show 2 ≤ sizeLine; decide), fun p2 hp2 => ⟨p2, _, rfl, .inr (SqT.of upd_same), rfl, rfl, ?_⟩⟩⟩
        have s2 := s1.trans (same_upd (o := .tup [.str ("set" : Str), .str ("show" : Str)]) hp2)
        rw [if_neg Bool.false_ne_true, show inV (.str (Sm.kind (.set y e))) [.str ("set" : Str), .str ("show" : Str)] = true from kd3.1]
        refine ⟨_, rfl, iteT ⟨_, rfl, _, rfl, a1, _, _, _, rfl, rfl, SqT.of (s2 _ _ ea), tix1, _, rfl, a1, _, _, _, rfl, rfl, SqT.of (s2 _ _ ea), tix2, y2, e, rfl, Dt.keep (Tk.same s2) d2, ho.1, ho.2.1, ho.2.2, by omega, fun p3 H3 s3 np3 ep3 => ?_⟩⟩
        refine ⟨p3, _, rfl, .inr (SqL.of ep3), ?_, fun p4 hp4 => ?_⟩
        · rw [List.append_nil, List.length_cons, List.length_cons, List.length_map]
          exact sz (by omega)
        · refine q p4 _ ((s2.trans s3).trans (same_upd hp4)) ((s2.trans s3).free hp4) ?_
          rw [upd_same, List.append_nil]
          rfl
      | show_ y e =>
        obtain ⟨a1, xs, rfl, ea, da⟩ := hv.tupI
        obtain ⟨y0, y1, y2, rfl, d0, d1, d2⟩ := da.c3
        obtain rfl := d0.strI
        obtain rfl := d1.strI
        have hw' : (("show" : Str) :: y :: e.w).length ≤ 100000 := hw
        rw [List.length_cons, List.length_cons] at hw'
        refine ⟨_, rfl, (by show 2 ≤ sizeLine; decide), fun p1 hp1 => ⟨p1, _, rfl, .inr (SqT.of upd_same), rfl, rfl, ?_⟩⟩
        have s1 : Same H _ := same_upd (o := .tup [.str ("pay" : Str), .str ("take" : Str)]) hp1
        rw [if_neg Bool.false_ne_true, show inV (.str (Sm.kind (.show_ y e))) [.str ("pay" : Str), .str ("take" : Str)] = false from kd2.2.2.2.2.1]
        refine ⟨_, rfl, iteF ⟨_, rfl, (by show 2 ≤ sizeLine; decide), fun p2 hp2 => ⟨p2, _, rfl, .inr (SqT.of upd_same), rfl, rfl, ?_⟩⟩⟩
        have s2 := s1.trans (same_upd (o := .tup [.str ("set" : Str), .str ("show" : Str)]) hp2)
        rw [if_neg Bool.false_ne_true, show inV (.str (Sm.kind (.show_ y e))) [.str ("set" : Str), .str ("show" : Str)] = true from kd3.2.2.2.2]
        refine ⟨_, rfl, iteT ⟨_, rfl, _, rfl, a1, _, _, _, rfl, rfl, SqT.of (s2 _ _ ea), tix1, _, rfl, a1, _, _, _, rfl, rfl, SqT.of (s2 _ _ ea), tix2, y2, e, rfl, Dt.keep (Tk.same s2) d2, ho.1, ho.2.1, ho.2.2, by omega, fun p3 H3 s3 np3 ep3 => ?_⟩⟩
        refine ⟨p3, _, rfl, .inr (SqL.of ep3), ?_, fun p4 hp4 => ?_⟩
        · rw [List.append_nil, List.length_cons, List.length_cons, List.length_map]
          exact sz (by omega)
        · refine q p4 _ ((s2.trans s3).trans (same_upd hp4)) ((s2.trans s3).free hp4) ?_
          rw [upd_same, List.append_nil]
          rfl
      | draw y n1 =>
        obtain ⟨a1, xs, rfl, ea, da⟩ := hv.tupI
        obtain ⟨y0, y1, y2, rfl, d0, d1, d2⟩ := da.c3
        obtain rfl := d0.strI
        obtain rfl := d1.strI
        obtain rfl := d2.intI
        have kk := And.intro kd2.2.1 kd3.2.1
        have hn : 0 ≤ n1 ∧ n1 ≤ 65535 := ho
        refine ⟨_, rfl, (by show 2 ≤ sizeLine; decide), fun p1 hp1 => ⟨p1, _, rfl, .inr (SqT.of upd_same), rfl, rfl, ?_⟩⟩
        have s1 : Same H _ := same_upd (o := .tup [.str ("pay" : Str), .str ("take" : Str)]) hp1
        rw [if_neg Bool.false_ne_true, show inV (.str (Sm.kind (.draw y n1))) [.str ("pay" : Str), .str ("take" : Str)] = false from kk.1]
        refine ⟨_, rfl, iteF ⟨_, rfl, (by show 2 ≤ sizeLine; decide), fun p2 hp2 => ⟨p2, _, rfl, .inr (SqT.of upd_same), rfl, rfl, ?_⟩⟩⟩
        have s2 := s1.trans (same_upd (o := .tup [.str ("set" : Str), .str ("show" : Str)]) hp2)
        rw [if_neg Bool.false_ne_true, show inV (.str (Sm.kind (.draw y n1))) [.str ("set" : Str), .str ("show" : Str)] = false from kk.2]
        refine ⟨_, rfl, iteF ⟨_, rfl, _, rfl, a1, _, _, _, rfl, rfl, SqT.of (s2 _ _ ea), tix1, _, rfl, a1, _, _, _, rfl, rfl, SqT.of (s2 _ _ ea), tix2, n1, rfl, num_log hn.1 hn.2, (by show 3 ≤ sizeLine; decide), fun p4 hp4 => ?_⟩⟩
        exact q p4 _ (s2.trans (same_upd hp4)) (s2.free hp4) upd_same
      | move k1 y n1 m1 =>
        obtain ⟨a1, xs, rfl, ea, da⟩ := hv.tupI
        obtain ⟨y0, y1, y2, y3, rfl, d0, d1, d2, d3⟩ := da.c4
        obtain rfl := d0.strI
        obtain rfl := d1.strI
        obtain rfl := d2.intI
        have kk : inV (.str k1) [.str ("pay" : Str), .str ("take" : Str)] = false ∧ inV (.str k1) [.str ("set" : Str), .str ("show" : Str)] = false := by
          rcases ho.1 with rfl | rfl
          · exact ⟨kd2.2.2.1, kd3.2.2.1⟩
          · exact ⟨kd2.2.2.2.1, kd3.2.2.2.1⟩
        have hn : 0 ≤ n1 ∧ n1 ≤ 65535 := ho.2
        refine ⟨_, rfl, (by show 2 ≤ sizeLine; decide), fun p1 hp1 => ⟨p1, _, rfl, .inr (SqT.of upd_same), rfl, rfl, ?_⟩⟩
        have s1 : Same H _ := same_upd (o := .tup [.str ("pay" : Str), .str ("take" : Str)]) hp1
        rw [if_neg Bool.false_ne_true, show inV (.str (Sm.kind (.move k1 y n1 m1))) [.str ("pay" : Str), .str ("take" : Str)] = false from kk.1]
        refine ⟨_, rfl, iteF ⟨_, rfl, (by show 2 ≤ sizeLine; decide), fun p2 hp2 => ⟨p2, _, rfl, .inr (SqT.of upd_same), rfl, rfl, ?_⟩⟩⟩
        have s2 := s1.trans (same_upd (o := .tup [.str ("set" : Str), .str ("show" : Str)]) hp2)
        rw [if_neg Bool.false_ne_true, show inV (.str (Sm.kind (.move k1 y n1 m1))) [.str ("set" : Str), .str ("show" : Str)] = false from kk.2]
        refine ⟨_, rfl, iteF ⟨_, rfl, _, rfl, a1, _, _, _, rfl, rfl, SqT.of (s2 _ _ ea), tix1, _, rfl, a1, _, _, _, rfl, rfl, SqT.of (s2 _ _ ea), tix2, n1, rfl, num_log hn.1 hn.2, (by show 3 ≤ sizeLine; decide), fun p4 hp4 => ?_⟩⟩
        exact q p4 _ (s2.trans (same_upd hp4)) (s2.free hp4) upd_same
    obtain ⟨t, ht, rest⟩ := hrest
    -- how data of a statement begins
    have hd : ∃ a1 more, v = .ref a1 ∧ H a1 = some (.tup (.str x.kind :: more)) := by
      cases x with
      | set y e =>
        obtain ⟨a1, xs, rfl, ea, da⟩ := hv.tupI
        obtain ⟨y0, y1, y2, rfl, d0, d1, d2⟩ := da.c3
        obtain rfl := d0.strI
        exact ⟨a1, _, rfl, ea⟩
      | draw y n1 =>
        obtain ⟨a1, xs, rfl, ea, da⟩ := hv.tupI
        obtain ⟨y0, y1, y2, rfl, d0, d1, d2⟩ := da.c3
        obtain rfl := d0.strI
        exact ⟨a1, _, rfl, ea⟩
      | show_ y e =>
        obtain ⟨a1, xs, rfl, ea, da⟩ := hv.tupI
        obtain ⟨y0, y1, y2, rfl, d0, d1, d2⟩ := da.c3
        obtain rfl := d0.strI
        exact ⟨a1, _, rfl, ea⟩
      | pay k1 e =>
        obtain ⟨a1, xs, rfl, ea, da⟩ := hv.tupI
        obtain ⟨y0, y1, rfl, d0, d1⟩ := da.c2
        obtain rfl := d0.strI
        exact ⟨a1, _, rfl, ea⟩
      | move k1 y n1 m1 =>
        obtain ⟨a1, xs, rfl, ea, da⟩ := hv.tupI
        obtain ⟨y0, y1, y2, y3, rfl, d0, d1, d2, d3⟩ := da.c4
        obtain rfl := d0.strI
        exact ⟨a1, _, rfl, ea⟩
      | ifs e a b =>
        obtain ⟨a1, xs, rfl, ea, da⟩ := hv.tupI
        obtain ⟨y0, y1, y2, y3, rfl, d0, d1, d2, d3⟩ := da.c4
        obtain rfl := d0.strI
        exact ⟨a1, _, rfl, ea⟩
    obtain ⟨a1, more, hv1, ea⟩ := hd
    have nif : (∀ e a b, x ≠ .ifs e a b) → ¬ V.str x.kind = V.str ("if" : Str) := fun hx z => by
      have z := V.str.inj z
      cases x with
      | set y e => exact kd1.1 z
      | draw y n1 => exact kd1.2.1 z
      | show_ y e => exact kd1.2.2.2.2.1 z
      | pay k1 e => rcases ho.1 with rfl | rfl; exact kd1.2.2.2.2.2.1 z; exact kd1.2.2.2.2.2.2 z
      | move k1 y n1 m1 => rcases ho.1 with rfl | rfl; exact kd1.2.2.1 z; exact kd1.2.2.2.1 z
      | ifs e a b => exact hx e a b rfl
    cases n with
    | zero =>
      refine ⟨_, pss_cons (ps_set (i := 1) scSW.nd rfl (Or.inl rfl) (pe_ix ix_tup (pv 0) pe_int (fun _ _ => rfl))) (pss_cons (ps_if (pt_cmpR op_eq (pv 1) pe_str (nomark _)) (pss_one ps_never) pss_nil) ht), ?_⟩
      have hx : ∀ e a b, x ≠ .ifs e a b := fun e a b z => by
        rw [z] at ho
        obtain ⟨_, m, hm, _⟩ := ho
        cases hm
      refine ⟨_, rfl, a1, _, _, _, hv1, rfl, SqT.of ea, tix0, _, rfl, rfl, _, rfl, ?_⟩
      rw [decide_eq_false (nif hx)]
      exact iteF (rest hx)
    | succ n =>
      have I1 : Fn0 P w K mg base k "if_words" ["statement"] (spIW n) fI dI := I1
      refine ⟨_, pss_cons (ps_set (i := 1) scSW.nd rfl (Or.inl rfl) (pe_ix ix_tup (pv 0) pe_int (fun _ _ => rfl))) (pss_cons (ps_if (pt_cmpR op_eq (pv 1) pe_str (nomark _)) (pss_one (ps_ret (pe_call I1.ok hr (by rfl) I1.gl I1.kp I1.bd .nil pass0 (pa_cons (pv 0) pa_nil)))) pss_nil) ht), ?_⟩
      refine ⟨_, rfl, a1, _, _, _, hv1, rfl, SqT.of ea, tix0, _, rfl, rfl, _, rfl, ?_⟩
      by_cases hx : ∃ e a b, x = .ifs e a b
      · obtain ⟨e, a, b, rfl⟩ := hx
        obtain ⟨he, m, hm, ha, hb⟩ := ho
        have hm : n = m := Nat.succ.inj hm
        subst hm
        rw [decide_eq_true (show V.str (Sm.kind (.ifs e a b)) = V.str ("if" : Str) from rfl)]
        exact iteT ⟨_, rfl, v, e, a, b, rfl, hv, he, ha, hb, hw, fun p H' s1 np ep => q p H' s1 np ep⟩
      · have hx : ∀ e a b, x ≠ .ifs e a b := fun e a b z => hx ⟨e, a, b, z⟩
        rw [decide_eq_false (nif hx)]
        exact iteF (rest hx)
end
end K1

set_option Elab.async false
set_option linter.all false
set_option maxRecDepth 100000
set_option maxHeartbeats 1000000
namespace K1
open PySem PySem.Spec PyProof.Rows L2 Kx
/-! ### the text of a game -/
def varsW : List (Str × Int) → List Str
  | [] => []
  | p :: r => ("var" : Str) :: p.1 :: nt p.2 :: varsW r
def gameW (vs : List (Str × Int)) (b : Bk) : List Str := varsW vs ++ b.w
def gameT (vs : List (Str × Int)) (b : Bk) : Str := Txt.join " " (gameW vs b)
theorem varsW_len : ∀ vs, (varsW vs).length = 3 * vs.length
  | [] => rfl
  | p :: r => by
    show (varsW r).length + 1 + 1 + 1 = 3 * (r.length + 1)
    rw [varsW_len r]
    omega
theorem varsW_app : ∀ vs p, varsW (vs ++ [p]) = varsW vs ++ [("var" : Str), p.1, nt p.2]
  | [], p => rfl
  | q :: r, p => by
    show ("var" : Str) :: q.1 :: nt q.2 :: varsW (r ++ [p]) = ("var" : Str) :: q.1 :: nt q.2 :: (varsW r ++ _)
    rw [varsW_app r p]
/-- a text of so many words is no long line -/
def JoinOk (ws : List Str) : Prop := (ws.map (·.length)).sum + ws.length * (" " : Str).length ≤ 16777216
def spGT (C : Addr) : Sp := fun vs H Q _ => ∃ (g : Addr) (xs : List (Str × Int)) (b : Bk), vs = [.ref g] ∧ GameAt C H g (varsD xs) b.ds ∧ xs.length ≤ 5 ∧ (∀ p ∈ xs, 0 ≤ p.2 ∧ p.2 ≤ 65535) ∧ b.ok 4 ∧ b.w.length ≤ 90000 ∧ JoinOk (gameW xs b) ∧
  ∀ H', Same H H' → Q (.str (gameT xs b)) H'
section
variable {P : Program} {w : World} {K : PySem.W.Frag} {mg : Str → Option Value} {base : Heap} {C : Addr} {fB : Addr} {dB : FuncData}
theorem scGT : FnScope ["game", "words", "name", "size"] ["game"] (defScope sGT) := ⟨rfl, rfl, rfl, by decide +kernel, rfl, by decide +kernel, by decide +kernel⟩
theorem ok_gtext {f : Addr} {fd : FuncData} (F : Fun K "game_text" "game_text" sGT f fd) (T : TxG K mg C) (TS : TxS mg) (B1 : Fn0 P w K mg base 20 "block_words" ["block"] (spBW 4) fB dB) : FnOk P w K mg base CX0 21 f fd ["game"] (spGT C) := by
  refine F.ok scGT (fun vs H Q E h => ?_) (fun cdv A outer s H vs Q E hr h => ?_)
  · obtain ⟨g, xs, b, rfl, _⟩ := h
    rfl
  · obtain ⟨g, ps, b, rfl, hg, h5, hn, ho, hw, hj, q⟩ := h
    obtain ⟨dx, va, vb, eg, dva, dvb⟩ := id hg
    obtain ⟨a, xs, rfl, ea, da⟩ := dva.tupI
    refine ⟨_, pss_cons (ps_set (i := 1) scGT.nd rfl (Or.inl rfl) (pe_lst pa_nil))
      (pss_cons (ps_for PassesOwn.never rfl (pi_tup (pe_fld (pv 0) rfl)) (pg_tup (by rfl) (pgs_cons (pg_name (i := 2) scGT.nd rfl (Or.inl rfl)) (pgs_cons (pg_name (i := 3) scGT.nd rfl (Or.inl rfl)) pgs_nil)))
        (pss_one (ps_expr (pe_bm PySem.F.plainAttrs_list PySem.F.slot_list_extend PySem.F.type_list_extend mt_extend (pv 1) (pa_cons (pe_lst (pa_cons pe_str (pa_cons (pv 2) (pa_cons (pe_callTy call_str_int (by rfl) TS.str (by decide +kernel) (pa_cons (pv 3) pa_nil)) pa_nil)))) pa_nil)))))
      (pss_cons (ps_expr (pe_bm PySem.F.plainAttrs_list PySem.F.slot_list_extend PySem.F.type_list_extend mt_extend (pv 1) (pa_cons (pe_call B1.ok hr (by rfl) B1.gl B1.kp B1.bd .nil pass0 (pa_cons (pe_fld (pv 0) rfl) pa_nil)) pa_nil)))
      (pss_one (ps_ret (pe_join pe_str (pv 1)))))), ?_⟩
    refine ⟨Nat.zero_le _, fun D hD => ?_⟩
    have eg1 := same_upd (o := .lst []) hD _ _ eg
    refine ⟨_, rfl, g, C, dx, _, _, rfl, eg1, T.cl, T.nV, gfs_v _ _, a, rfl, ⟨xs, SqT.of (same_upd hD _ _ ea)⟩, for_tup (xs := xs) (fun i σ H' => (∃ v2 v3, σ = [some (.ref g), some (.ref D), v2, v3]) ∧ Same H H' ∧ H' D = some (.lst ((varsW (ps.take i)).map V.str))) ?_ ?_ ?_ ?_⟩
    · exact ⟨⟨_, _, rfl⟩, same_upd hD, upd_same⟩
    · rintro i σ H' hi ⟨_, s1, _⟩
      exact SqT.of (s1 _ _ ea)
    · rintro i v σ H' hx ⟨⟨v2, v3, rfl⟩, s1, eD⟩
      obtain ⟨d, hd, dv⟩ := da.get hx
      unfold varsD at hd
      rw [List.getElem?_map] at hd
      obtain ⟨p, hp2, rfl⟩ := Option.map_eq_some_iff.mp hd
      obtain ⟨a1, ys, rfl, ea1, da1⟩ := (Dt.keep (Tk.same s1) dv).tupI
      obtain ⟨y0, y1, rfl, d0, d1⟩ := da1.c2
      obtain rfl := d0.strI
      obtain rfl := d1.intI
      have hm := List.mem_of_getElem? hp2
      have hi5 : i < 5 := Nat.lt_of_lt_of_le (List.getElem?_eq_some_iff.mp hp2).1 h5
      refine ⟨a1, _, rfl, SqT.of ea1, rfl, _, _, rfl, _, _, rfl, rfl, ?_⟩
      refine ⟨_, rfl, .inl ⟨rfl, _, SqL.of eD⟩, _, rfl, _, rfl, p.2, rfl, num_log (hn p hm).1 (hn p hm).2, (by show 3 ≤ sizeLine; decide), fun t ht => ?_⟩
      have nDt : D ≠ t := fun z => by
        rw [z, ht] at eD
        cases eD
      refine ⟨D, t, _, _, rfl, rfl, by rw [upd_ne nDt]; exact eD, upd_same, ?_, ⟨_, _, rfl⟩, fun c o e => ?_, ?_⟩
      · rw [List.length_map, varsW_len, List.length_take]
        show _ + 3 ≤ _
        exact sz (by omega)
      · have := s1 _ _ e
        rw [upd_ne (ne_of_none e hD), upd_ne (ne_of_none this ht)]
        exact this
      · rw [upd_same, List.take_add_one, hp2]
        show _ = some (HO.lst ((varsW (ps.take i ++ [p])).map V.str))
        rw [varsW_app, List.map_append]
        rfl
    · rintro σ H' ⟨⟨v2, v3, rfl⟩, s1, eD⟩
      have hl : xs.length = ps.length := by
        rw [da.length]
        exact List.length_map ..
      rw [hl, List.take_length] at eD
      refine ⟨_, rfl, .inl ⟨rfl, _, SqL.of eD⟩, _, rfl, g, C, dx, _, _, rfl, s1 _ _ eg, T.cl, T.nB, gfs_b _ _, vb, b, rfl, Dt.keep (Tk.same s1) dvb, ho, by omega, fun p H2 s2 np ep => ?_⟩
      refine ⟨D, p, _, _, rfl, rfl, s2 _ _ eD, ep, ?_, ?_⟩
      · rw [List.length_map, List.length_map, varsW_len]
        exact sz (by omega)
      refine ⟨⟨_, rfl⟩, _, rfl, " ", D, gameW ps b, rfl, rfl, .inl (SqL.of ?_), hj, q _ fun c o e => ?_⟩
      · rw [upd_same]
        unfold gameW
        rw [List.map_append]
      · rw [upd_ne (ne_of_none e hD)]
        exact s2 _ _ (s1 _ _ e)
end
end K1

set_option Elab.async false
set_option linter.all false
set_option maxRecDepth 100000
set_option maxHeartbeats 4000000
namespace K1
open PySem PySem.Spec PyProof.Rows L2 Kx
abbrev sPool : Stmt := top 42
abbrev sDraw : Stmt := top 43
abbrev sSpend : Stmt := top 44
abbrev sNum : Stmt := top 45
abbrev sSame : Stmt := top 46
abbrev sVal : Stmt := top 47
abbrev sSta : Stmt := top 48
abbrev sBlo : Stmt := top 49
abbrev sNames : Stmt := top 50
abbrev sGame : Stmt := top 51
abbrev sVW : Stmt := top 52
abbrev sBlW : Stmt := top 53
abbrev sWo : Stmt := top 54
abbrev sLaw : Stmt := top 67
structure TxL (mg : Str → Option Value) : Prop where
  isi : mg "isinstance" = none
  int : mg "int" = none
  str : mg "str" = none
  len : mg "len" = none
  list : mg "list" = none
  tuple : mg "tuple" = none
  bool : mg "bool" = none
  range : mg "range" = none
/-! ### the pool that numbers are drawn from -/
def L6 (q : Addr) (i c s t b : Int) : List V := [.ref q, .int i, .int c, .int s, .int t, .int b]
theorem l6_ix {q : Addr} {i c s t b : Int} {k : Int} {j : Nat} (h : ixN 6 k = some j) : ixN (L6 q i c s t b).length k = some j := h
structure PoolV (H : Hp) (p q : Addr) (ns : List Int) (i c s t b : Int) : Prop where
  ne : p ≠ q
  hp : H p = some (.lst (L6 q i c s t b))
  hq : H q = some (.lst (ns.map V.int))
  i0 : 0 ≤ i
  s0 : 0 ≤ s
  s1 : s < 2147483648
def PoolAt (H : Hp) (p : Addr) (b : Int) : Prop := ∃ q ns i c s t, PoolV H p q ns i c s t b
/-- all but the pool is as it was; the pool's cells stand where they stood -/
structure Kp (p : Addr) (H H' : Hp) : Prop where
  all : ∀ b o, H b = some o → b ≠ p → H' b = some o
  hd : ∀ q r, H p = some (.lst (.ref q :: r)) → ∃ r', H' p = some (.lst (.ref q :: r'))
instance {p : Addr} {H H' : Hp} : CoeFun (Kp p H H') (fun _ => ∀ b o, H b = some o → b ≠ p → H' b = some o) := ⟨Kp.all⟩
theorem Kp.refl (p : Addr) (H : Hp) : Kp p H H := ⟨fun _ _ e _ => e, fun q r e => ⟨r, e⟩⟩
theorem Kp.trans {p : Addr} {H H1 H2 : Hp} (a : Kp p H H1) (b : Kp p H1 H2) : Kp p H H2 := ⟨fun c o e h => b.all c o (a.all c o e h) h, fun q r e => by
  obtain ⟨r1, e1⟩ := a.hd q r e
  exact b.hd q r1 e1⟩
theorem Kp.same {p : Addr} {H H' : Hp} (s : Same H H') : Kp p H H' := ⟨fun b o e _ => s b o e, fun q r e => ⟨r, s _ _ e⟩⟩
theorem PoolV.kp {H : Hp} {p q : Addr} {ns : List Int} {i c s t b i' c' s' t' b' : Int} (P : PoolV H p q ns i c s t b) : Kp p H (upd H p (.lst (L6 q i' c' s' t' b'))) :=
  ⟨fun b u e h => by rw [upd_ne h]; exact e, fun x r e => by
    rw [P.hp] at e
    injection e with e
    injection e with e
    injection e with e _
    injection e with e
    exact ⟨[.int i', .int c', .int s', .int t', .int b'], by rw [upd_same, ← e]; rfl⟩⟩
theorem PoolV.set {H : Hp} {p q : Addr} {ns : List Int} {i c s t b i' c' s' t' b' : Int} (P : PoolV H p q ns i c s t b) (hi : 0 ≤ i') (hs : 0 ≤ s') (hs' : s' < 2147483648) :
    PoolV (upd H p (.lst (L6 q i' c' s' t' b'))) p q ns i' c' s' t' b' := ⟨P.ne, upd_same, by rw [upd_ne P.ne.symm]; exact P.hq, hi, hs, hs'⟩
theorem PoolAt.same {H H' : Hp} {p : Addr} {b : Int} (P : PoolAt H p b) (s : Same H H') : PoolAt H' p b := by
  obtain ⟨q, ns, i, c, z, t, P⟩ := P
  exact ⟨q, ns, i, c, z, t, P.ne, s _ _ P.hp, s _ _ P.hq, P.i0, P.s0, P.s1⟩
def spPool (K : PySem.W.Frag) : Sp := fun vs H Q _ => ∃ (a : Addr) (ns : List Int) (b : Int), vs = [.ref a, .int b] ∧ SqL K H a (ns.map V.int) ∧ ∀ (p : Addr) (H' : Hp), Same H H' → H p = none → PoolAt H' p b → Q (.ref p) H'
def spDraw : Sp := fun vs H Q _ => ∃ (p : Addr) (n b : Int), vs = [.ref p, .int n] ∧ PoolAt H p b ∧ 0 < n ∧ n < 1073741824 ∧ ∀ (v : Int) (H' : Hp), 0 ≤ v → v < n → PoolAt H' p b → Kp p H H' → Q (.int v) H'
section
variable {P : Program} {w : World} {K : PySem.W.Frag} {mg : Str → Option Value} {base : Heap} {C : Addr}
theorem scPo : FnScope ["script", "budget"] ["script", "budget"] (defScope sPool) := ⟨rfl, rfl, rfl, by decide +kernel, rfl, by decide +kernel, by decide +kernel⟩
theorem ok_pool {f : Addr} {fd : FuncData} (F : Fun K "_law_pool" "_law_pool" sPool f fd) (T : TxL mg) : FnOk P w K mg base CX0 1 f fd ["script", "budget"] (spPool K) := by
  refine F.ok scPo (fun vs H Q E h => ?_) (fun cdv A outer s H vs Q E hr h => ?_)
  · obtain ⟨a, ns, b, rfl, _⟩ := h
    rfl
  · obtain ⟨a, ns, b, rfl, hS, k⟩ := h
    refine ⟨_, pss_one (ps_ret (pe_lst (pa_cons (pe_callTy call_list_of (by rfl) T.list (by decide +kernel) (pa_cons (pv 0) pa_nil)) (pa_cons pe_int (pa_cons pe_int (pa_cons pe_int (pa_cons pe_int (pa_cons (pv 1) pa_nil)))))))), ?_⟩
    refine ⟨_, rfl, a, _, rfl, .inl hS, fun l hl => ⟨_, rfl, (by show 6 ≤ sizeLine; decide), fun p hp => ?_⟩⟩
    have h1 : Same H (upd H l (.lst (ns.map V.int))) := same_upd hl
    have nlp : l ≠ p := fun e => by
      rw [← e, upd_same] at hp
      cases hp
    have h2 := same_upd (o := .lst (L6 l 0 0 1 0 b)) hp
    exact k p _ (h1.trans h2) (h1.free hp) ⟨l, ns, 0, 0, 1, 0, nlp.symm, upd_same, by rw [upd_ne nlp]; exact upd_same, by decide, by decide, by decide⟩
theorem scD : FnScope ["pool", "size", "cell", "value"] ["pool", "size"] (defScope sDraw) := ⟨rfl, rfl, rfl, by decide +kernel, rfl, by decide +kernel, by decide +kernel⟩
theorem ok_draw {f : Addr} {fd : FuncData} (F : Fun K "_law_draw" "_law_draw" sDraw f fd) (T : TxL mg) : FnOk P w K mg base CX0 1 f fd ["pool", "size"] spDraw := by
  refine F.ok scD (fun vs H Q E h => ?_) (fun cdv A outer s H vs Q E hr h => ?_)
  · obtain ⟨p, n, b0, rfl, _⟩ := h
    rfl
  · obtain ⟨p, n, b, rfl, PA, hn, hn2, k⟩ := h
    have at_ : ∀ {q : Addr} {i c s t b : Int} {j : Nat} {v : V}, (L6 q i c s t b)[j]? = some v → atI (L6 q i c s t b) (j : Int) = some v := fun h => atI_nat h
    have hrest : ∃ t, PSs (cxOf CX0 P w K mg base ["pool", "size", "cell", "value"] "_law_draw" (defScope sDraw) f cdv A outer s H E).nox ((defBody sDraw).drop 1) t ∧
        ∀ (σ' : L2.St) (H' : Hp), (∃ v2 v3, σ' = [some (.ref p), some (.int n), v2, v3]) → PoolAt H' p b → Kp p H H' → t { nx := fun _ H' => Q .non H', rt := Q } σ' H' := by
      refine ⟨_, pss_cons (ps_if (pt_cmpR op_gt (pe_ix ix_list (pv 0) pe_int (fun _ _ => rfl)) pe_int (nomark _))
          (pss_cons (ps_set (i := 3) scD.nd rfl (Or.inl rfl) (pe_op op_mod (pe_callTy call_int1 (by rfl) T.int (by decide +kernel) (pa_cons (pe_ix ix_list (pv 0) pe_int (fun _ _ => rfl)) pa_nil)) (pv 1)))
          (pss_cons (ps_asg (pe_op op_fdivN (pe_ix ix_list (pv 0) pe_int (fun _ _ => rfl)) (pv 1)) (pg_sub (pv 0) pe_int set_list))
          (pss_cons (ps_asg pe_int (pg_sub (pv 0) pe_int set_list))
          (pss_one (ps_ret (pv 3)))))) pss_nil)
        (pss_cons (ps_asg (pe_op op_sub (pe_ix ix_list (pv 0) pe_int (fun _ _ => rfl)) pe_int) (pg_sub (pv 0) pe_int set_list))
        (pss_cons (ps_asg (pe_op op_mod (pe_callTy call_int1 (by rfl) T.int (by decide +kernel) (pa_cons (pe_op op_add (pe_op op_mul (pe_ix ix_list (pv 0) pe_int (fun _ _ => rfl)) pe_int) pe_int) pa_nil)) pe_int) (pg_sub (pv 0) pe_int set_list))
        (pss_one (ps_ret (pe_op op_mod (pe_op op_mod (pe_callTy call_int1 (by rfl) T.int (by decide +kernel) (pa_cons (pe_op op_add (pe_op op_mul (pe_ix ix_list (pv 0) pe_int (fun _ _ => rfl)) pe_int) pe_int) pa_nil)) pe_int) (pv 1)))))), ?_⟩
      rintro σ' H' ⟨v2, v3, rfl⟩ ⟨q, ns, i, c, z, t, PV⟩ kp
      refine ⟨_, rfl, p, _, _, _, rfl, rfl, SqL.of PV.hp, at_ (j := 2) rfl, _, _, rfl, rfl, _, rfl, ite2 (fun _ => ?_) (fun _ => ?_)⟩
      · refine ⟨_, rfl, p, _, _, _, rfl, rfl, SqL.of PV.hp, at_ (j := 2) rfl, .inl ⟨_, rfl, _, rfl, _, _, rfl, rfl, hn, ?_⟩⟩
        refine ⟨_, rfl, p, _, _, _, rfl, rfl, SqL.of PV.hp, at_ (j := 2) rfl, _, rfl, _, _, rfl, rfl, ⟨by omega, by omega⟩, _, rfl, p, _, _, _, rfl, rfl, PV.hp, l6_ix (k := 2) (j := 2) (by decide), ?_⟩
        have PV2 := PV.set (i' := i) (c' := c.fdiv n) (s' := z) (t' := t) (b' := b) PV.i0 PV.s0 PV.s1
        refine ⟨_, rfl, p, _, _, _, rfl, rfl, PV2.hp, l6_ix (k := 4) (j := 4) (by decide), ?_⟩
        have PV3 := PV2.set (i' := i) (c' := c.fdiv n) (s' := z) (t' := 0) (b' := b) PV.i0 PV.s0 PV.s1
        exact ⟨_, rfl, k _ _ (Int.emod_nonneg _ (by omega)) (Int.emod_lt_of_pos _ hn) ⟨_, _, _, _, _, _, PV3⟩ ((kp.trans PV.kp).trans PV2.kp)⟩
      · refine ⟨_, rfl, p, _, _, _, rfl, rfl, SqL.of PV.hp, at_ (j := 4) rfl, _, _, rfl, rfl, _, rfl, p, _, _, _, rfl, rfl, PV.hp, l6_ix (k := 4) (j := 4) (by decide), ?_⟩
        have PV2 := PV.set (i' := i) (c' := c) (s' := z) (t' := t - 1) (b' := b) PV.i0 PV.s0 PV.s1
        refine ⟨_, rfl, p, _, _, _, rfl, rfl, SqL.of PV2.hp, at_ (j := 3) rfl, _, _, rfl, rfl, .inl ⟨by have := PV.s0; omega, by have := PV.s1; omega⟩, _, _, rfl, rfl, .inl ⟨_, rfl, _, _, rfl, rfl, (by show (0 : Int) < 2147483647; decide), ?_⟩⟩
        have h0 : (0 : Int) ≤ (z * 48271 + 12345) % 2147483647 := Int.emod_nonneg _ (by decide)
        have h1 : (z * 48271 + 12345) % 2147483647 < 2147483647 := Int.emod_lt_of_pos _ (by decide)
        refine ⟨_, rfl, p, _, _, _, rfl, rfl, PV2.hp, l6_ix (k := 3) (j := 3) (by decide), ?_⟩
        have PV3 := PV2.set (i' := i) (c' := c) (s' := (z * 48271 + 12345) % 2147483647) (t' := t - 1) (b' := b) PV.i0 h0 (by omega)
        refine ⟨_, rfl, p, _, _, _, rfl, rfl, SqL.of PV3.hp, at_ (j := 3) rfl, _, _, rfl, rfl, .inl ⟨by omega, by omega⟩, _, _, rfl, rfl, .inl ⟨_, rfl, _, _, rfl, rfl, (by show (0 : Int) < 2147483647; decide), _, rfl, _, _, rfl, rfl, hn, ?_⟩⟩
        exact k _ _ (Int.emod_nonneg _ (by omega)) (Int.emod_lt_of_pos _ hn) ⟨_, _, _, _, _, _, PV3⟩ ((kp.trans PV.kp).trans PV2.kp)
    obtain ⟨t, ht, rest⟩ := hrest
    refine ⟨_, pss_cons (ps_if (PW.pt (pw_and (pt_cmpR op_le (pe_ix ix_list (pv 0) pe_int (fun _ _ => rfl)) pe_int (nomark _)) (pw_and (pt_cmpR op_le (pe_ix ix_list (pv 0) pe_int (fun _ _ => rfl)) pe_int (nomark _))
        (pw_and1 (pt_cmpR op_lt (pe_ix ix_list (pv 0) pe_int (fun _ _ => rfl)) (pe_callB call_len_seq (by rfl) T.len PySem.boot_len (pa_cons (pe_ix ix_list (pv 0) pe_int (fun _ _ => rfl)) pa_nil)) (nomark _))))))
        (pss_cons (ps_set (i := 2) scD.nd rfl (Or.inl rfl) (pe_ix ix_list (pe_ix ix_list (pv 0) pe_int (fun _ _ => rfl)) (pe_ix ix_list (pv 0) pe_int (fun _ _ => rfl)) (fun _ _ => rfl)))
        (pss_cons (ps_asg (pe_op op_add (pe_ix ix_list (pv 0) pe_int (fun _ _ => rfl)) pe_int) (pg_sub (pv 0) pe_int set_list))
        (pss_cons (ps_asg (pe_op op_mod (pe_callTy call_int1 (by rfl) T.int (by decide +kernel) (pa_cons (pe_op op_add (pe_op op_mul (pe_ix ix_list (pv 0) pe_int (fun _ _ => rfl)) pe_int) (pv 2)) pa_nil)) pe_int) (pg_sub (pv 0) pe_int set_list))
        (pss_cons (ps_asg pe_int (pg_sub (pv 0) pe_int set_list))
        (pss_one (ps_if (pt_cmpR op_ge (pv 2) (pe_op op_pow pe_int pe_int) (nomark _)) (pss_one (ps_asg (pv 2) (pg_sub (pv 0) pe_int set_list))) pss_nil)))))) pss_nil) ht, ?_⟩
    obtain ⟨q, ns, i, c, z, tt, PV⟩ := id PA
    refine ⟨_, rfl, p, _, _, _, rfl, rfl, SqL.of PV.hp, at_ (j := 2) rfl, _, _, rfl, rfl, _, rfl, ite2 (fun _ => ?_) (fun _ => iteF (rest _ _ ⟨_, _, rfl⟩ PA (Kp.refl _ _)))⟩
    refine ⟨_, rfl, p, _, _, _, rfl, rfl, SqL.of PV.hp, at_ (j := 4) rfl, _, _, rfl, rfl, _, rfl, ite2 (fun _ => ?_) (fun _ => iteF (rest _ _ ⟨_, _, rfl⟩ PA (Kp.refl _ _)))⟩
    refine ⟨_, rfl, p, _, _, _, rfl, rfl, SqL.of PV.hp, at_ (j := 1) rfl, _, rfl, p, _, _, _, rfl, rfl, SqL.of PV.hp, at_ (j := 0) rfl, q, _, rfl, .inl (SqL.of PV.hq), _, _, rfl, rfl, _, rfl, ite2 (fun y => ?_) (fun _ => rest _ _ ⟨_, _, rfl⟩ PA (Kp.refl _ _))⟩
    have hi := of_decide_eq_true y
    obtain ⟨j, rfl⟩ : ∃ j : Nat, i = (j : Int) := ⟨i.toNat, by have := PV.i0; omega⟩
    have hj : j < ns.length := by
      rw [List.length_map] at hi
      omega
    have g : (ns.map V.int)[j]? = some (V.int ns[j]) := by
      rw [List.getElem?_map, List.getElem?_eq_getElem hj]
      rfl
    -- cell = pool[0][pool[1]]
    refine ⟨_, rfl, p, _, _, _, rfl, rfl, SqL.of PV.hp, at_ (j := 0) rfl, _, rfl, p, _, _, _, rfl, rfl, SqL.of PV.hp, at_ (j := 1) rfl, q, _, _, _, rfl, rfl, SqL.of PV.hq, atI_nat g, ?_⟩
    -- pool[1] = pool[1] + 1
    refine ⟨_, rfl, p, _, _, _, rfl, rfl, SqL.of PV.hp, at_ (j := 1) rfl, _, _, rfl, rfl, _, rfl, p, _, _, _, rfl, rfl, PV.hp, l6_ix (k := 1) (j := 1) (by decide), ?_⟩
    have PV2 := PV.set (i' := (j : Int) + 1) (c' := c) (s' := z) (t' := tt) (b' := b) (by omega) PV.s0 PV.s1
    -- pool[3] = ..
    refine ⟨_, rfl, p, _, _, _, rfl, rfl, SqL.of PV2.hp, at_ (j := 3) rfl, _, _, rfl, rfl, .inl ⟨by have := PV.s0; omega, by have := PV.s1; omega⟩, _, rfl, _, _, rfl, rfl, .inl ⟨_, rfl, _, _, rfl, rfl, (by show (0 : Int) < 2147483647; decide), ?_⟩⟩
    have h0 : (0 : Int) ≤ (z * 31 + ns[j]) % 2147483647 := Int.emod_nonneg _ (by decide)
    have h1 : (z * 31 + ns[j]) % 2147483647 < 2147483647 := Int.emod_lt_of_pos _ (by decide)
    refine ⟨_, rfl, p, _, _, _, rfl, rfl, PV2.hp, l6_ix (k := 3) (j := 3) (by decide), ?_⟩
    have PV3 := PV2.set (i' := (j : Int) + 1) (c' := c) (s' := (z * 31 + ns[j]) % 2147483647) (t' := tt) (b' := b) (by omega) h0 (by omega)
    -- pool[4] = 7
    refine ⟨_, rfl, p, _, _, _, rfl, rfl, PV3.hp, l6_ix (k := 4) (j := 4) (by decide), ?_⟩
    have PV4 := PV3.set (i' := (j : Int) + 1) (c' := c) (s' := (z * 31 + ns[j]) % 2147483647) (t' := 7) (b' := b) (by omega) h0 (by omega)
    have kp4 := ((PV.kp (i' := (j : Int) + 1) (c' := c) (s' := z) (t' := tt) (b' := b)).trans (PV2.kp (i' := (j : Int) + 1) (c' := c) (s' := (z * 31 + ns[j]) % 2147483647) (t' := tt) (b' := b))).trans (PV3.kp (i' := (j : Int) + 1) (c' := c) (s' := (z * 31 + ns[j]) % 2147483647) (t' := 7) (b' := b))
    refine ⟨_, rfl, _, _, rfl, rfl, ⟨by decide, by decide, by decide⟩, _, _, rfl, rfl, _, rfl, ite2 (fun _ => ?_) (fun _ => rest _ _ ⟨_, _, rfl⟩ ⟨_, _, _, _, _, _, PV4⟩ kp4)⟩
    refine ⟨_, rfl, _, rfl, p, _, _, _, rfl, rfl, PV4.hp, l6_ix (k := 2) (j := 2) (by decide), ?_⟩
    have PV5 := PV4.set (i' := (j : Int) + 1) (c' := ns[j]) (s' := (z * 31 + ns[j]) % 2147483647) (t' := 7) (b' := b) (by omega) h0 (by omega)
    exact rest _ _ ⟨_, _, rfl⟩ ⟨_, _, _, _, _, _, PV5⟩ (kp4.trans PV4.kp)
def spSpend : Sp := fun vs H Q _ => ∃ (p : Addr) (b : Int), vs = [.ref p] ∧ PoolAt H p b ∧ ∀ (H' : Hp), PoolAt H' p (b - 1) → Kp p H H' → Q (.bl (decide (0 ≤ b - 1))) H'
theorem scSp : FnScope ["pool"] ["pool"] (defScope sSpend) := ⟨rfl, rfl, rfl, by decide +kernel, rfl, by decide +kernel, by decide +kernel⟩
theorem ok_spend {f : Addr} {fd : FuncData} (F : Fun K "_law_spend" "_law_spend" sSpend f fd) : FnOk P w K mg base CX0 1 f fd ["pool"] spSpend := by
  refine F.ok scSp (fun vs H Q E h => ?_) (fun cdv A outer s H vs Q E hr h => ?_)
  · obtain ⟨p, b0, rfl, _⟩ := h
    rfl
  · obtain ⟨p, b, rfl, ⟨q, ns, i, c, z, t, PV⟩, k⟩ := h
    refine ⟨_, pss_cons (ps_asg (pe_op op_sub (pe_ix ix_list (pv 0) pe_int (fun _ _ => rfl)) pe_int) (pg_sub (pv 0) pe_int set_list))
      (pss_one (ps_ret (pe_cmpR op_ge (pe_ix ix_list (pv 0) pe_int (fun _ _ => rfl)) pe_int (nomark _)))), ?_⟩
    refine ⟨_, rfl, p, _, _, _, rfl, rfl, SqL.of PV.hp, atI_nat (j := 5) rfl, _, _, rfl, rfl, _, rfl, p, _, _, _, rfl, rfl, PV.hp, l6_ix (k := 5) (j := 5) (by decide), ?_⟩
    have PV2 := PV.set (i' := i) (c' := c) (s' := z) (t' := t) (b' := b - 1) PV.i0 PV.s0 PV.s1
    refine ⟨_, rfl, p, _, _, _, rfl, rfl, SqL.of PV2.hp, atI_nat (j := 5) rfl, _, _, rfl, rfl, k _ ⟨_, _, _, _, _, _, PV2⟩ PV.kp⟩
def spNum : Sp := fun vs H Q _ => ∃ (p : Addr) (b : Int), vs = [.ref p] ∧ PoolAt H p b ∧ ∀ (v : Int) (H' : Hp), 0 ≤ v → v ≤ 65535 → PoolAt H' p b → Kp p H H' → Q (.int v) H'
theorem scLN : FnScope ["pool"] ["pool"] (defScope sNum) := ⟨rfl, rfl, rfl, by decide +kernel, rfl, by decide +kernel, by decide +kernel⟩
variable {fD fN : Addr} {dD dN : FuncData}
theorem ok_num {f : Addr} {fd : FuncData} (F : Fun K "_law_number" "_law_number" sNum f fd) (D1 : Fn0 P w K mg base 1 "_law_draw" ["pool", "size"] spDraw fD dD) : FnOk P w K mg base CX0 2 f fd ["pool"] spNum := by
  refine F.ok scLN (fun vs H Q E h => ?_) (fun cdv A outer s H vs Q E hr h => ?_)
  · obtain ⟨p, b0, rfl, _⟩ := h
    rfl
  · obtain ⟨p, b, rfl, PA, k⟩ := h
    refine ⟨_, pss_cons (ps_if (pt_cmpR op_eq (pe_call D1.ok hr (by rfl) D1.gl D1.kp D1.bd .nil pass0 (pa_cons (pv 0) (pa_cons pe_int pa_nil))) pe_int (nomark _)) (pss_one (ps_ret (pe_call D1.ok hr (by rfl) D1.gl D1.kp D1.bd .nil pass0 (pa_cons (pv 0) (pa_cons pe_int pa_nil))))) pss_nil)
      (pss_one (ps_ret (pe_call D1.ok hr (by rfl) D1.gl D1.kp D1.bd .nil pass0 (pa_cons (pv 0) (pa_cons pe_int pa_nil))))), ?_⟩
    refine ⟨_, rfl, p, 3, b, rfl, PA, by decide, by decide, fun v H1 _ _ P1 k1 => ⟨rfl, _, rfl, ite2 (fun _ => ?_) (fun _ => ?_)⟩⟩
    · exact ⟨_, rfl, p, 65536, b, rfl, P1, by decide, by decide, fun v H2 h0 h1 P2 k2 => k v H2 h0 (by omega) P2 (k1.trans k2)⟩
    · exact ⟨_, rfl, p, 9, b, rfl, P1, by decide, by decide, fun v H2 h0 h1 P2 k2 => k v H2 h0 (by omega) P2 (k1.trans k2)⟩
end
end K1

set_option Elab.async false
set_option linter.all false
set_option maxRecDepth 100000
set_option maxHeartbeats 1000000
namespace K1
open PySem PySem.Spec PyProof.Rows L2 Kx
theorem atV {xs : List V} {v : Int} (h0 : 0 ≤ v) (h1 : v < xs.length) : ∃ x, x ∈ xs ∧ atI xs v = some x := by
  obtain ⟨j, rfl⟩ : ∃ j : Nat, v = (j : Int) := ⟨v.toNat, by omega⟩
  have hj : j < xs.length := by omega
  exact ⟨xs[j], List.getElem_mem hj, atI_nat (List.getElem?_eq_getElem hj)⟩
theorem atS {xs : List Str} {v : Int} (h0 : 0 ≤ v) (h1 : v < xs.length) : ∃ x, x ∈ xs ∧ atI (xs.map V.str) v = some (.str x) := by
  obtain ⟨y, hy, e⟩ := atV (xs := xs.map V.str) h0 (by rw [List.length_map]; exact h1)
  obtain ⟨x, hx, rfl⟩ := List.mem_map.mp hy
  exact ⟨x, hx, e⟩
theorem atN {xs : List Int} {v : Int} (h0 : 0 ≤ v) (h1 : v < xs.length) : ∃ x, x ∈ xs ∧ atI (xs.map V.int) v = some (.int x) := by
  obtain ⟨y, hy, e⟩ := atV (xs := xs.map V.int) h0 (by rw [List.length_map]; exact h1)
  obtain ⟨x, hx, rfl⟩ := List.mem_map.mp hy
  exact ⟨x, hx, e⟩
theorem PoolAt.ne0 {H : Hp} {p t : Addr} {b : Int} (P : PoolAt H p b) (h : H t = none) : t ≠ p := by
  obtain ⟨q, ns, i, c, z, tt, P⟩ := P
  exact (ne_of_none P.hp h).symm
theorem PoolAt.neT {H : Hp} {p t : Addr} {b : Int} {xs : List V} (P : PoolAt H p b) (h : H t = some (.tup xs)) : t ≠ p := by
  obtain ⟨q, ns, i, c, z, tt, P⟩ := P
  exact ne_of h P.hp (by intro z; cases z)
theorem Kp.tk {p : Addr} {H H' : Hp} {b : Int} (P : PoolAt H p b) (k : Kp p H H') : Tk H H' := fun a xs e => k a _ e (P.neT e)
/-- an expression as a game may have it -/
def Ex.vl (ns : List Str) : Ex → Nat → Prop
  | .num n, _ => 0 ≤ n ∧ n ≤ 65535
  | .var x, _ => x ∈ ns
  | .op o a b, d => OPS.contains o = true ∧ ∃ e, d = e + 1 ∧ a.vl ns e ∧ b.vl ns e
def spVal (n : Nat) : Sp := fun vs H Q _ => ∃ (p nl : Addr) (ns : List Str) (k : Nat) (b : Int), vs = [.ref p, .ref nl, .int (k : Int)] ∧ PoolAt H p b ∧ nl ≠ p ∧ H nl = some (.lst (ns.map V.str)) ∧ ns.length ≤ 5 ∧ k ≤ n ∧
  ∀ (v : V) (e : Ex) (H' : Hp), e.vl ns k → PoolAt H' p b → Kp p H H' → Dt H' v e.d → Q v H'
section
variable {P : Program} {w : World} {K : PySem.W.Frag} {mg : Str → Option Value} {base : Heap} {fD fN : Addr} {dD dN : FuncData}
theorem scVa : FnScope ["pool", "names", "deep", "kind", "sign", "left"] ["pool", "names", "deep"] (defScope sVal) := ⟨rfl, rfl, rfl, by decide +kernel, rfl, by decide +kernel, by decide +kernel⟩
theorem val_last {k : Nat} (hk : 2 ≤ k) {f : Addr} (D1 : Fn0 P w K mg base 1 "_law_draw" ["pool", "size"] spDraw fD dD) (N1 : Fn0 P w K mg base 2 "_law_number" ["pool"] spNum fN dN)
    {cdv : Value} {A : Around} {outer : List Env} {s : Shared} {H : Hp} {Q : VK} {E : XK} (hr : Room k (A.deeper (envOfC "_law_value" (defScope sVal) s.heap.objs.size f cdv))) {p : Addr} {ns : List Str} {m : Nat} {b : Int}
    (q : ∀ (v : V) (e : Ex) (H' : Hp), e.vl ns m → PoolAt H' p b → Kp p H H' → Dt H' v e.d → Q v H') :
    ∃ t, PSs (cxOf CX0 P w K mg base ["pool", "names", "deep", "kind", "sign", "left"] "_law_value" (defScope sVal) f cdv A outer s H E).nox ((defBody sVal).drop 3) t ∧
      ∀ (H' : Hp) (v1 v2 v3 v4 v5 : Option V), PoolAt H' p b → Kp p H H' → t { nx := fun _ H' => Q .non H', rt := Q } [some (.ref p), v1, v2, v3, v4, v5] H' := by
  have hr1 : Room 1 _ := hr.mono (by omega)
  have hr2 : Room 2 _ := hr.mono hk
  refine ⟨_, pss_one (ps_ret (pe_tup (pa_cons pe_str (pa_cons (pe_ix ix_tup (pe_tup (pa_cons (pe_call D1.ok hr1 (by rfl) D1.gl D1.kp D1.bd .nil pass0 (pa_cons (pv 0) (pa_cons pe_int pa_nil))) (pa_cons (pe_call D1.ok hr1 (by rfl) D1.gl D1.kp D1.bd .nil pass0 (pa_cons (pv 0) (pa_cons pe_int pa_nil)))
      (pa_cons (pe_call N1.ok hr2 (by rfl) N1.gl N1.kp N1.bd .nil pass0 (pa_cons (pv 0) pa_nil)) pa_nil)))) (pe_call D1.ok hr1 (by rfl) D1.gl D1.kp D1.bd .nil pass0 (pa_cons (pv 0) (pa_cons pe_int pa_nil))) (fun _ _ => rfl)) pa_nil)))), fun H1 v1 v2 v3 v4 v5 P1 k1 => ?_⟩
  refine ⟨_, rfl, p, 4, b, rfl, P1, by decide, by decide, fun x H2 x0 x1 P2 k2 => ⟨_, rfl, p, 9, b, rfl, P2, by decide, by decide, fun y H3 y0 y1 P3 k3 => ⟨_, rfl, p, b, rfl, P3, fun z H4 z0 z1 P4 k4 => ⟨(by show 3 ≤ sizeLine; decide), fun tp htp => ?_⟩⟩⟩⟩
  have s1 := same_upd (o := .tup [.int x, .int y, .int z]) htp
  refine ⟨_, rfl, p, 3, b, rfl, P4.same s1, by decide, by decide, fun j H5 j0 j1 P5 k5 => ?_⟩
  have e5 : H5 tp = some (.tup [.int x, .int y, .int z]) := k5 _ _ upd_same (P4.ne0 htp)
  obtain ⟨n, hn, en⟩ := atN (xs := [x, y, z]) j0 j1
  refine ⟨tp, _, _, _, rfl, rfl, SqT.of e5, en, (by show 2 ≤ sizeLine; decide), fun r hr' => ?_⟩
  have s2 := same_upd (o := .tup [.str ("number" : Str), .int n]) hr'
  refine q (.ref r) (.num n) _ ?_ (P5.same s2) (((((k1.trans k2).trans k3).trans k4).trans ((Kp.same s1).trans k5)).trans (Kp.same s2)) (.tup upd_same (.cons (.str _) (.cons (.int _) .nil)))
  show 0 ≤ n ∧ n ≤ 65535
  simp only [List.mem_cons, List.not_mem_nil, or_false] at hn
  rcases hn with rfl | rfl | rfl <;> omega
theorem val_rest {k n : Nat} (hk : 2 ≤ k) {f : Addr} (T : TxL mg) (D1 : Fn0 P w K mg base 1 "_law_draw" ["pool", "size"] spDraw fD dD) (N1 : Fn0 P w K mg base 2 "_law_number" ["pool"] spNum fN dN)
    {cdv : Value} {A : Around} {outer : List Env} {s : Shared} {H : Hp} {Q : VK} {E : XK} (hr : Room k (A.deeper (envOfC "_law_value" (defScope sVal) s.heap.objs.size f cdv))) {p nl : Addr} {ns : List Str} {m : Nat} {b : Int} (hN : nl ≠ p) (hn : H nl = some (.lst (ns.map V.str))) (h5 : ns.length ≤ 5)
    (PA : PoolAt H p b) (q : ∀ (v : V) (e : Ex) (H' : Hp), e.vl ns m → PoolAt H' p b → Kp p H H' → Dt H' v e.d → Q v H') :
    ∃ t, PSs (cxOf CX0 P w K mg base ["pool", "names", "deep", "kind", "sign", "left"] "_law_value" (defScope sVal) f cdv A outer s H E).nox ((defBody sVal).drop 2) t ∧
      ∀ (H' : Hp) (kd : Int) (v4 v5 : Option V), PoolAt H' p b → Kp p H H' → t { nx := fun _ H' => Q .non H', rt := Q } [some (.ref p), some (.ref nl), some (.int (m : Int)), some (.int kd), v4, v5] H' := by
  have hr1 : Room 1 _ := hr.mono (by omega)
  obtain ⟨t, ht, last⟩ := val_last (outer := outer) (E := E) hk D1 N1 hr q
  refine ⟨_, pss_cons (ps_if (PW.pt (pw_and (pt_cmpR op_lt (pv 3) pe_int (nomark _)) (pw_and1 (pt_cmpR op_gt (pe_callB call_len_seq (by rfl) T.len PySem.boot_len (pa_cons (pv 1) pa_nil)) pe_int (nomark _)))))
      (pss_one (ps_ret (pe_tup (pa_cons pe_str (pa_cons (pe_ix ix_list (pv 1) (pe_call D1.ok hr1 (by rfl) D1.gl D1.kp D1.bd .nil pass0 (pa_cons (pv 0) (pa_cons (pe_callB call_len_seq (by rfl) T.len PySem.boot_len (pa_cons (pv 1) pa_nil)) pa_nil))) (fun _ _ => rfl)) pa_nil))))) pss_nil)
    ht, fun H1 kd v4 v5 P1 k1 => ?_⟩
  have hn1 := k1 _ _ hn hN
  refine ⟨_, rfl, _, _, rfl, rfl, _, rfl, ite2 (fun _ => ?_) (fun _ => iteF (last _ _ _ _ _ _ P1 k1))⟩
  refine ⟨_, rfl, nl, _, rfl, .inl (SqL.of hn1), _, _, rfl, rfl, _, rfl, ite2 (fun y => ?_) (fun _ => last _ _ _ _ _ _ P1 k1)⟩
  have y := of_decide_eq_true y
  rw [List.length_map] at y
  refine ⟨_, rfl, _, rfl, _, rfl, nl, _, rfl, .inl (SqL.of hn1), p, _, b, rfl, P1, by rw [List.length_map]; omega, by rw [List.length_map]; omega, fun j H2 j0 j1 P2 k2 => ?_⟩
  have hn2 := k2 _ _ hn1 hN
  rw [List.length_map] at j1
  obtain ⟨x, hx, ex⟩ := atS (xs := ns) j0 j1
  refine ⟨nl, _, _, _, rfl, rfl, SqL.of hn2, ex, (by show 2 ≤ sizeLine; decide), fun r hr' => ?_⟩
  have s2 := same_upd (o := .tup [.str ("variable" : Str), .str x]) hr'
  exact q (.ref r) (.var x) _ hx (P2.same s2) ((k1.trans k2).trans (Kp.same s2)) (.tup upd_same (.cons (.str _) (.cons (.str _) .nil)))
theorem ok_val0 {f : Addr} {fd : FuncData} (F : Fun K "_law_value" "_law_value" sVal f fd) (T : TxL mg) (D1 : Fn0 P w K mg base 1 "_law_draw" ["pool", "size"] spDraw fD dD) (N1 : Fn0 P w K mg base 2 "_law_number" ["pool"] spNum fN dN) : FnOk P w K mg base CX0 3 f fd ["pool", "names", "deep"] (spVal 0) := by
  refine F.ok scVa (fun vs H Q E h => ?_) (fun cdv A outer s H vs Q E hr h => ?_)
  · obtain ⟨p, nl, ns, k, b, rfl, _⟩ := h
    rfl
  · obtain ⟨p, nl, ns, m, b, rfl, PA, hN, hn, h5, hm, q⟩ := h
    have hr1 : Room 1 _ := hr.mono (by decide)
    obtain ⟨t, ht, rest⟩ := val_rest (n := 0) (outer := outer) (E := E) (by decide) T D1 N1 hr hN hn h5 PA q
    refine ⟨_, pss_cons (ps_set (i := 3) scVa.nd rfl (Or.inl rfl) (pe_call D1.ok hr1 (by rfl) D1.gl D1.kp D1.bd .nil pass0 (pa_cons (pv 0) (pa_cons pe_int pa_nil))))
      (pss_cons (ps_if (PW.pt (pw_and (pt_cmpR op_lt (pv 3) pe_int (nomark _)) (pw_and1 (pt_cmpR op_gt (pv 2) pe_int (nomark _))))) (pss_cons ps_never (pss_cons ps_never (pss_one ps_never))) pss_nil) ht), ?_⟩
    refine ⟨_, rfl, p, 10, b, rfl, PA, by decide, by decide, fun kd H1 _ _ P1 k1 => ?_⟩
    refine ⟨_, rfl, _, _, rfl, rfl, _, rfl, ite2 (fun _ => ?_) (fun _ => iteF (rest _ _ _ _ P1 k1))⟩
    refine ⟨_, rfl, _, _, rfl, rfl, _, rfl, ite2 (fun y => ?_) (fun _ => rest _ _ _ _ P1 k1)⟩
    have y := of_decide_eq_true y
    exact absurd y (by omega)
theorem ok_valS {f : Addr} {fd : FuncData} {k n : Nat} (hk : 2 ≤ k) (F : Fun K "_law_value" "_law_value" sVal f fd) (T : TxL mg) (D1 : Fn0 P w K mg base 1 "_law_draw" ["pool", "size"] spDraw fD dD) (N1 : Fn0 P w K mg base 2 "_law_number" ["pool"] spNum fN dN)
    (G1 : Fn0 P w K mg base k "_law_value" ["pool", "names", "deep"] (spVal n) f fd) : FnOk P w K mg base CX0 (k + 1) f fd ["pool", "names", "deep"] (spVal (n + 1)) := by
  refine F.ok scVa (fun vs H Q E h => ?_) (fun cdv A outer s H vs Q E hr h => ?_)
  · obtain ⟨p, nl, ns, k, b, rfl, _⟩ := h
    rfl
  · obtain ⟨p, nl, ns, m, b, rfl, PA, hN, hn, h5, hm, q⟩ := h
    have hr1 : Room 1 _ := hr.mono (by omega)
    obtain ⟨t, ht, rest⟩ := val_rest (n := 0) (outer := outer) (E := E) hk T D1 N1 hr hN hn h5 PA q
    refine ⟨_, pss_cons (ps_set (i := 3) scVa.nd rfl (Or.inl rfl) (pe_call D1.ok hr1 (by rfl) D1.gl D1.kp D1.bd .nil pass0 (pa_cons (pv 0) (pa_cons pe_int pa_nil))))
      (pss_cons (ps_if (PW.pt (pw_and (pt_cmpR op_lt (pv 3) pe_int (nomark _)) (pw_and1 (pt_cmpR op_gt (pv 2) pe_int (nomark _)))))
        (pss_cons (ps_set (i := 4) scVa.nd rfl (Or.inl rfl) (pe_ix ix_tup (pe_tup (pa_cons pe_str (pa_cons pe_str (pa_cons pe_str (pa_cons pe_str (pa_cons pe_str (pa_cons pe_str (pa_cons pe_str pa_nil)))))))) (pe_call D1.ok hr1 (by rfl) D1.gl D1.kp D1.bd .nil pass0 (pa_cons (pv 0) (pa_cons pe_int pa_nil))) (fun _ _ => rfl)))
        (pss_cons (ps_set (i := 5) scVa.nd rfl (Or.inl rfl) (pe_call G1.ok hr (by rfl) G1.gl G1.kp G1.bd .nil pass0 (pa_cons (pv 0) (pa_cons (pv 1) (pa_cons (pe_op op_sub (pv 2) pe_int) pa_nil)))))
        (pss_one (ps_ret (pe_tup (pa_cons (pv 4) (pa_cons (pv 5) (pa_cons (pe_call G1.ok hr (by rfl) G1.gl G1.kp G1.bd .nil pass0 (pa_cons (pv 0) (pa_cons (pv 1) (pa_cons (pe_op op_sub (pv 2) pe_int) pa_nil)))) pa_nil)))))))) pss_nil) ht), ?_⟩
    refine ⟨_, rfl, p, 10, b, rfl, PA, by decide, by decide, fun kd H1 _ _ P1 k1 => ?_⟩
    refine ⟨_, rfl, _, _, rfl, rfl, _, rfl, ite2 (fun _ => ?_) (fun _ => iteF (rest _ _ _ _ P1 k1))⟩
    refine ⟨_, rfl, _, _, rfl, rfl, _, rfl, ite2 (fun y => ?_) (fun _ => rest _ _ _ _ P1 k1)⟩
    have y := of_decide_eq_true y
    obtain ⟨m, rfl⟩ : ∃ m', m = m' + 1 := ⟨m - 1, by omega⟩
    have em : ((m + 1 : Nat) : Int) - 1 = (m : Int) := by omega
    refine ⟨(by show 7 ≤ sizeLine; decide), fun tp htp => ?_⟩
    have s1 := same_upd (o := .tup (OPS.map V.str)) htp
    refine ⟨_, rfl, p, 7, b, rfl, P1.same s1, by decide, by decide, fun j H2 j0 j1 P2 k2 => ?_⟩
    have e2 : H2 tp = some (.tup (OPS.map V.str)) := k2 _ _ upd_same (P1.ne0 htp)
    obtain ⟨o, ho, eo⟩ := atS (xs := OPS) j0 j1
    have k12 := k1.trans ((Kp.same s1).trans k2)
    refine ⟨tp, _, _, _, rfl, rfl, SqT.of e2, eo, ?_⟩
    refine ⟨_, rfl, _, rfl, _, rfl, _, _, rfl, rfl, p, nl, ns, m, b, congrArg (fun z => [V.ref p, V.ref nl, V.int z]) em, P2, hN, k12 _ _ hn hN, h5, by omega, fun v1 a H3 va P3 k3 d1 => ?_⟩
    refine ⟨_, rfl, _, rfl, _, rfl, _, rfl, _, rfl, _, _, rfl, rfl, p, nl, ns, m, b, congrArg (fun z => [V.ref p, V.ref nl, V.int z]) em, P3, hN, k3 _ _ (k12 _ _ hn hN) hN, h5, by omega, fun v2 c H4 vc P4 k4 d2 => ⟨(by show 3 ≤ sizeLine; decide), fun r hr' => ?_⟩⟩
    have s2 := same_upd (o := .tup [.str o, v1, v2]) hr'
    refine q (.ref r) (.op o a c) _ ⟨List.contains_iff_mem.mpr ho, m, rfl, va, vc⟩ (P4.same s2) (((k12.trans k3).trans k4).trans (Kp.same s2)) (.tup upd_same (.cons (.str _) (.cons (Dt.keep (Tk.same s2) (Dt.keep (Kp.tk P3 k4) d1)) (.cons (Dt.keep (Tk.same s2) d2) .nil))))
end
end K1

set_option Elab.async false
set_option linter.all false
set_option maxRecDepth 100000
set_option maxHeartbeats 1000000
namespace K1
open PySem PySem.Spec PyProof.Rows L2 Kx
theorem Ex.vl_le {ns : List Str} : ∀ {e : Ex} {a b : Nat}, a ≤ b → e.vl ns a → e.vl ns b
  | .num _, _, _, _, h => h
  | .var _, _, _, _, h => h
  | .op o x y, a, b, hab, h => by
    obtain ⟨h1, e, he, h2, h3⟩ := h
    exact ⟨h1, b - 1, by omega, Ex.vl_le (by omega) h2, Ex.vl_le (by omega) h3⟩
mutual
def Sm.chs : Sm → Nat
  | .draw _ _ => 1
  | .move _ _ _ _ => 1
  | .ifs _ a b => a.chs + b.chs
  | _ => 0
def Bk.chs : Bk → Nat
  | .nil => 0
  | .cons s b => s.chs + b.chs
end
mutual
def Sm.mvs : Sm → Nat
  | .move _ _ _ _ => 1
  | .ifs _ a b => a.mvs + b.mvs
  | _ => 0
def Bk.mvs : Bk → Nat
  | .nil => 0
  | .cons s b => s.mvs + b.mvs
end
mutual
def Sm.cnt : Sm → Nat
  | .ifs _ a b => 1 + a.cnt + b.cnt
  | _ => 1
def Bk.cnt : Bk → Nat
  | .nil => 0
  | .cons s b => s.cnt + b.cnt
end
mutual
/-- a statement as a game may have it: the names, the ifs that may still be begun, the moves before it -/
def Sm.vl (ns : List Str) : Sm → Nat → Nat → Prop
  | .set x e, _, _ => x ∈ ns ∧ e.vl ns 5
  | .draw x n, _, _ => x ∈ ns ∧ 1 ≤ n ∧ n ≤ 8
  | .move k x n m, _, mv => (k = "choose" ∨ k = "come") ∧ x ∈ ns ∧ 1 ≤ n ∧ n ≤ 8 ∧ m = (mv : Int)
  | .show_ s e, _, _ => SEATS.contains s = true ∧ e.vl ns 5
  | .pay k e, _, _ => (k = "pay" ∨ k = "take") ∧ e.vl ns 5
  | .ifs e a b, r, mv => e.vl ns 5 ∧ ∃ q, r = q + 1 ∧ a.vl ns q mv ∧ b.vl ns q (mv + a.mvs)
def Bk.vl (ns : List Str) : Bk → Nat → Nat → Prop
  | .nil, _, _ => True
  | .cons s b, r, mv => s.vl ns r mv ∧ b.vl ns r (mv + s.mvs)
end
theorem pre_chs : ∀ (acc : List Sm) (b : Bk), (pre acc b).chs = (pre acc .nil).chs + b.chs
  | [], b => by
    show b.chs = 0 + b.chs
    omega
  | x :: r, b => by
    show x.chs + (pre r b).chs = x.chs + (pre r .nil).chs + b.chs
    rw [pre_chs r b]
    omega
theorem pre_mvs : ∀ (acc : List Sm) (b : Bk), (pre acc b).mvs = (pre acc .nil).mvs + b.mvs
  | [], b => by
    show b.mvs = 0 + b.mvs
    omega
  | x :: r, b => by
    show x.mvs + (pre r b).mvs = x.mvs + (pre r .nil).mvs + b.mvs
    rw [pre_mvs r b]
    omega
theorem pre_cnt : ∀ (acc : List Sm) (b : Bk), (pre acc b).cnt = (pre acc .nil).cnt + b.cnt
  | [], b => by
    show b.cnt = 0 + b.cnt
    omega
  | x :: r, b => by
    show x.cnt + (pre r b).cnt = x.cnt + (pre r .nil).cnt + b.cnt
    rw [pre_cnt r b]
    omega
theorem pre_vl {ns : List Str} {q : Nat} : ∀ (acc : List Sm) (b : Bk) (mv : Nat), (pre acc .nil).vl ns q mv → b.vl ns q (mv + (pre acc .nil).mvs) → (pre acc b).vl ns q mv
  | [], b, mv, _, h => h
  | x :: r, b, mv, h, h2 => by
    refine ⟨h.1, pre_vl r b _ h.2 ?_⟩
    have : mv + x.mvs + (pre r .nil).mvs = mv + (pre (x :: r) .nil).mvs := by
      show _ = mv + (x.mvs + (pre r .nil).mvs)
      omega
    rw [this]
    exact h2
/-! ### what the law keeps while a game is drawn -/
def Sc (nl : Addr) (C O D N : Nat) : List (Key × V) := [(Sum.inr "names", .ref nl), (Sum.inr "choose", .int C), (Sum.inr "come", .int O), (Sum.inr "draw", .int D), (Sum.inr "most", .int 8), (Sum.inr "next", .int N)]
theorem sc_names (nl : Addr) (C O D N : Nat) : valV (Sc nl C O D N) (Sum.inr "names") = some (.ref nl) := by rfl
theorem sc_choose (nl : Addr) (C O D N : Nat) : valV (Sc nl C O D N) (Sum.inr "choose") = some (.int C) := by rfl
theorem sc_come (nl : Addr) (C O D N : Nat) : valV (Sc nl C O D N) (Sum.inr "come") = some (.int O) := by rfl
theorem sc_draw (nl : Addr) (C O D N : Nat) : valV (Sc nl C O D N) (Sum.inr "draw") = some (.int D) := by rfl
theorem sc_most (nl : Addr) (C O D N : Nat) : valV (Sc nl C O D N) (Sum.inr "most") = some (.int 8) := by rfl
theorem sc_next (nl : Addr) (C O D N : Nat) : valV (Sc nl C O D N) (Sum.inr "next") = some (.int N) := by rfl
theorem sp_choose (nl : Addr) (C O D N n : Nat) : putK (Sc nl C O D N) (Sum.inr "choose") (.int n) = Sc nl n O D N := by rfl
theorem sp_come (nl : Addr) (C O D N n : Nat) : putK (Sc nl C O D N) (Sum.inr "come") (.int n) = Sc nl C n D N := by rfl
theorem sp_draw (nl : Addr) (C O D N n : Nat) : putK (Sc nl C O D N) (Sum.inr "draw") (.int n) = Sc nl C O n N := by rfl
theorem sp_next (nl : Addr) (C O D N n : Nat) : putK (Sc nl C O D N) (Sum.inr "next") (.int n) = Sc nl C O D n := by rfl
structure LS (H : Hp) (p sc nl : Addr) (ns : List Str) (b : Int) (C O D N : Nat) : Prop where
  pool : PoolAt H p b
  scp : H sc = some (.dK (Sc nl C O D N))
  nm : H nl = some (.lst (ns.map V.str))
  n1 : nl ≠ p
  n5 : ns.length ≤ 5
theorem PoolAt.neK {H : Hp} {p t : Addr} {b : Int} {u : List (Key × V)} (P : PoolAt H p b) (h : H t = some (.dK u)) : t ≠ p := by
  obtain ⟨q, ns, i, c, z, tt, P⟩ := P
  exact ne_of h P.hp (by intro z; cases z)
/-- all but the pool and what is kept of the scope is as it was; the pool's cells stand where they stood -/
structure Kq (p sc : Addr) (H H' : Hp) : Prop where
  all : ∀ c o, H c = some o → c ≠ p → c ≠ sc → H' c = some o
  hd : ∀ q r, H p = some (.lst (.ref q :: r)) → ∃ r', H' p = some (.lst (.ref q :: r'))
instance {p sc : Addr} {H H' : Hp} : CoeFun (Kq p sc H H') (fun _ => ∀ c o, H c = some o → c ≠ p → c ≠ sc → H' c = some o) := ⟨Kq.all⟩
theorem Kq.refl (p sc : Addr) (H : Hp) : Kq p sc H H := ⟨fun _ _ e _ _ => e, fun q r e => ⟨r, e⟩⟩
theorem Kq.trans {p sc : Addr} {H H1 H2 : Hp} (a : Kq p sc H H1) (b : Kq p sc H1 H2) : Kq p sc H H2 := ⟨fun c o e h h' => b.all c o (a.all c o e h h') h h', fun q r e => by
  obtain ⟨r1, e1⟩ := a.hd q r e
  exact b.hd q r1 e1⟩
theorem Kq.kp {p sc : Addr} {H H' : Hp} (k : Kp p H H') : Kq p sc H H' := ⟨fun c o e h _ => k c o e h, k.hd⟩
theorem Kq.same {p sc : Addr} {H H' : Hp} (k : Same H H') : Kq p sc H H' := ⟨fun c o e _ _ => k c o e, fun q r e => ⟨r, k _ _ e⟩⟩
theorem Kq.upd {p sc : Addr} {H : Hp} {o : HO} (n : sc ≠ p) : Kq p sc H (upd H sc o) := ⟨fun b u e _ h => by rw [upd_ne h]; exact e, fun q r e => ⟨r, by rw [upd_ne n.symm]; exact e⟩⟩
section
variable {H H' : Hp} {p sc nl : Addr} {ns : List Str} {b b' : Int} {C O D N : Nat}
theorem LS.kp (L : LS H p sc nl ns b C O D N) (P : PoolAt H' p b') (k : Kp p H H') : LS H' p sc nl ns b' C O D N := ⟨P, k _ _ L.scp (L.pool.neK L.scp), k _ _ L.nm L.n1, L.n1, L.n5⟩
theorem LS.same (L : LS H p sc nl ns b C O D N) (s : Same H H') : LS H' p sc nl ns b C O D N := ⟨L.pool.same s, s _ _ L.scp, s _ _ L.nm, L.n1, L.n5⟩
theorem LS.tk (L : LS H p sc nl ns b C O D N) (k : Kq p sc H H') : Tk H H' := fun a xs e => k a _ e (L.pool.neT e) (ne_of e L.scp (by intro z; cases z))
theorem LS.put (L : LS H p sc nl ns b C O D N) {C' O' D' N' : Nat} : LS (upd H sc (.dK (Sc nl C' O' D' N'))) p sc nl ns b C' O' D' N' := by
  have n := L.pool.neK L.scp
  obtain ⟨q, xs, i, c, z, t, PV⟩ := L.pool
  refine ⟨⟨q, xs, i, c, z, t, PV.ne, by rw [upd_ne n.symm]; exact PV.hp, by rw [upd_ne (ne_of PV.hq L.scp (by intro z; cases z))]; exact PV.hq, PV.i0, PV.s0, PV.s1⟩, upd_same, ?_, L.n1, L.n5⟩
  rw [upd_ne (ne_of L.nm L.scp (by intro z; cases z))]
  exact L.nm
/-- a list of one's own that wasn't there may change: it is not the pool's -/
theorem LS.own {H0 : Hp} {p sc nl G : Addr} {ns : List Str} {b b' : Int} {C O D N C' O' D' N' : Nat} {o : HO} (L0 : LS H0 p sc nl ns b C O D N) (hG : H0 G = none) {H : Hp} (k : Kq p sc H0 H) (L : LS H p sc nl ns b' C' O' D' N') :
    LS (upd H G o) p sc nl ns b' C' O' D' N' := by
  have nGp : G ≠ p := L0.pool.ne0 hG
  have nGs : G ≠ sc := (ne_of_none L0.scp hG).symm
  have nGn : G ≠ nl := (ne_of_none L0.nm hG).symm
  obtain ⟨q0, ns0, i0, c0, z0, t0, PV0⟩ := L0.pool
  obtain ⟨qq, xs, ii, c, z, t, PV⟩ := L.pool
  obtain ⟨r', e'⟩ := k.hd _ _ PV0.hp
  have nq : qq ≠ G := fun e => by
    have h := PV.hp
    rw [e'] at h
    injection h with h
    injection h with h
    injection h with h _
    injection h with h
    have h1 := PV0.hq
    rw [h, e, hG] at h1
    cases h1
  exact ⟨⟨qq, xs, ii, c, z, t, PV.ne, by rw [upd_ne nGp.symm]; exact PV.hp, by rw [upd_ne nq]; exact PV.hq, PV.i0, PV.s0, PV.s1⟩, by rw [upd_ne nGs.symm]; exact L.scp, by rw [upd_ne nGn.symm]; exact L.nm, L.n1, L.n5⟩
end
end K1

set_option Elab.async false
set_option linter.all false
set_option maxRecDepth 100000
set_option maxHeartbeats 1000000
namespace K1
open PySem PySem.Spec PyProof.Rows L2 Kx
theorem hu_r {A : Around} {k : Nat} (hr : Room k A) : A.units + 1 < cLine := Nat.lt_of_le_of_lt (Nat.add_le_add_left (by decide : 1 ≤ 64) _) hr.units
def StaPost (ns : List Str) (room : Nat) (p sc nl : Addr) (H : Hp) (Q : VK) (b : Int) (C O D N : Nat) : Prop := ∀ (v : V) (x : Sm) (H' : Hp) (b' : Int) (C' O' D' N' : Nat), x.vl ns room N → x.chs + (C' + O' + D') = C + O + D → N' = N + x.mvs → x.cnt + b'.toNat ≤ b.toNat + 1 →
  LS H' p sc nl ns b' C' O' D' N' → Kq p sc H H' → Dt H' v x.d → Q v H'
def BloPost (ns : List Str) (room : Nat) (p sc nl : Addr) (H : Hp) (Q : VK) (b : Int) (C O D N : Nat) : Prop := ∀ (v : V) (x : Bk) (H' : Hp) (b' : Int) (C' O' D' N' : Nat), x.vl ns room N → x.chs + (C' + O' + D') = C + O + D → N' = N + x.mvs → x.cnt + b'.toNat ≤ b.toNat →
  LS H' p sc nl ns b' C' O' D' N' → Kq p sc H H' → Dt H' v (.tuple x.ds) → Q v H'
def spSta (r : Nat) : Sp := fun vs H Q _ => ∃ (p sc nl : Addr) (ns : List Str) (room : Nat) (b : Int) (C O D N : Nat), vs = [.ref p, .ref sc, .int (room : Int)] ∧ room ≤ r ∧ LS H p sc nl ns b C O D N ∧ StaPost ns room p sc nl H Q b C O D N
def spBlo (r : Nat) : Sp := fun vs H Q _ => ∃ (p sc nl : Addr) (ns : List Str) (room : Nat) (most : Int) (b : Int) (C O D N : Nat), vs = [.ref p, .ref sc, .int (room : Int), .int most] ∧ room ≤ r ∧ 0 ≤ most ∧ most ≤ 9 ∧ LS H p sc nl ns b C O D N ∧ BloPost ns room p sc nl H Q b C O D N
/-- the draw of how deep an expression may be -/
theorem dps {x : Int} {xs : List Int} (h : ∀ y ∈ xs, 0 ≤ y ∧ y ≤ 5) (hx : x ∈ xs) : ∃ m : Nat, x = (m : Int) ∧ m ≤ 5 := by
  have := h x hx
  exact ⟨x.toNat, by omega, by omega⟩
section
variable {P : Program} {w : World} {K : PySem.W.Frag} {mg : Str → Option Value} {base : Heap} {fD fV fB : Addr} {dD dV dB : FuncData}
theorem scLS : FnScope ["pool", "scope", "room", "kind", "names", "word", "row", "test", "then"] ["pool", "scope", "room"] (defScope sSta) := ⟨rfl, rfl, rfl, by decide +kernel, rfl, by decide +kernel, by decide +kernel⟩
theorem sta6 {k : Nat} (hk : 8 ≤ k) {f : Addr} (T : TxL mg) (D1 : Fn0 P w K mg base 1 "_law_draw" ["pool", "size"] spDraw fD dD) (V1 : Fn0 P w K mg base 8 "_law_value" ["pool", "names", "deep"] (spVal 5) fV dV)
    {cdv : Value} {A : Around} {outer : List Env} {s : Shared} {H : Hp} {Q : VK} {E : XK} (hr : Room k (A.deeper (envOfC "_law_statement" (defScope sSta) s.heap.objs.size f cdv))) {p sc nl : Addr} {ns : List Str} {room : Nat} {b : Int} {C O D N : Nat}
    (q : StaPost ns room p sc nl H Q b C O D N) :
    ∃ t, PSs (cxOf CX0 P w K mg base ["pool", "scope", "room", "kind", "names", "word", "row", "test", "then"] "_law_statement" (defScope sSta) f cdv A outer s H E).nox ((defBody sSta).drop 6) t ∧
      ∀ (H' : Hp) (v2 v5 v6 v7 v8 : Option V) (kd : Int), v2 = some (.int (room : Int)) → LS H' p sc nl ns b C O D N → Kq p sc H H' → t { nx := fun _ H' => Q .non H', rt := Q } [some (.ref p), some (.ref sc), v2, some (.int kd), some (.ref nl), v5, v6, v7, v8] H' := by
  have hr1 : Room 1 _ := hr.mono (by omega)
  have hr8 : Room 8 _ := hr.mono hk
  refine ⟨_, pss_one (ps_ret (pe_tup (pa_cons (pe_ix ix_tup (pe_tup (pa_cons pe_str (pa_cons pe_str (pa_cons pe_str pa_nil)))) (pe_call D1.ok hr1 (by rfl) D1.gl D1.kp D1.bd .nil pass0 (pa_cons (pv 0) (pa_cons pe_int pa_nil))) (fun _ _ => rfl)) (pa_cons (pe_call V1.ok hr8 (by rfl) V1.gl V1.kp V1.bd .nil pass0 (pa_cons (pv 0) (pa_cons (pv 4) (pa_cons pe_int pa_nil)))) pa_nil)))), fun H1 v2 v5 v6 v7 v8 kd e2 L1 k1 => ?_⟩
  refine ⟨(by show 3 ≤ sizeLine; decide), fun tp htp => ?_⟩
  have s1 := same_upd (o := .tup [.str ("pay" : Str), .str ("pay" : Str), .str ("take" : Str)]) htp
  have L2 := L1.same s1
  refine ⟨_, rfl, p, 3, b, rfl, L2.pool, by decide, by decide, fun j H2 j0 j1 P2 k2 => ?_⟩
  have e3 : H2 tp = some (.tup ([("pay" : Str), "pay", "take"].map V.str)) := k2 _ _ upd_same (L1.pool.ne0 htp)
  obtain ⟨kw, hkw, ekw⟩ := atS (xs := [("pay" : Str), "pay", "take"]) j0 j1
  have L3 := L2.kp P2 k2
  refine ⟨tp, _, _, _, rfl, rfl, SqT.of e3, ekw, ?_⟩
  have hm : 2 ≤ 5 := by decide
  refine ⟨_, rfl, _, rfl, p, nl, ns, 2, b, rfl, L3.pool, L3.n1, L3.nm, L3.n5, hm, fun v9 e9 H5 ve P5 k5 de => ?_⟩
  have L5 := L3.kp P5 k5
  have kv : Kq p sc H2 H5 := Kq.kp k5
  have hpk : kw = "pay" ∨ kw = "take" := by
    simp only [List.mem_cons, List.not_mem_nil, or_false] at hkw
    rcases hkw with h | h | h
    · exact .inl h
    · exact .inl h
    · exact .inr h
  refine ⟨(by show 2 ≤ sizeLine; decide), fun r hr' => ?_⟩
  have s9 := same_upd (o := .tup [.str kw, v9]) hr'
  refine q (.ref r) (.pay kw e9) _ b C O D N ⟨hpk, Ex.vl_le hm ve⟩ (by show 0 + _ = _; omega) rfl (by show 1 + _ ≤ _; omega) (L5.same s9) ((((k1.trans (Kq.same s1)).trans (Kq.kp k2)).trans kv).trans (Kq.same s9)) (.tup upd_same (.cons (.str _) (.cons (Dt.keep (Tk.same s9) de) .nil)))
theorem sta5 {k : Nat} (hk : 8 ≤ k) {f : Addr} (T : TxL mg) (D1 : Fn0 P w K mg base 1 "_law_draw" ["pool", "size"] spDraw fD dD) (V1 : Fn0 P w K mg base 8 "_law_value" ["pool", "names", "deep"] (spVal 5) fV dV)
    {cdv : Value} {A : Around} {outer : List Env} {s : Shared} {H : Hp} {Q : VK} {E : XK} (hr : Room k (A.deeper (envOfC "_law_statement" (defScope sSta) s.heap.objs.size f cdv))) {p sc nl : Addr} {ns : List Str} {room : Nat} {b : Int} {C O D N : Nat}
    (q : StaPost ns room p sc nl H Q b C O D N) :
    ∃ t, PSs (cxOf CX0 P w K mg base ["pool", "scope", "room", "kind", "names", "word", "row", "test", "then"] "_law_statement" (defScope sSta) f cdv A outer s H E).nox ((defBody sSta).drop 5) t ∧
      ∀ (H' : Hp) (v2 v5 v6 v7 v8 : Option V) (kd : Int), v2 = some (.int (room : Int)) → LS H' p sc nl ns b C O D N → Kq p sc H H' → t { nx := fun _ H' => Q .non H', rt := Q } [some (.ref p), some (.ref sc), v2, some (.int kd), some (.ref nl), v5, v6, v7, v8] H' := by
  have hr1 : Room 1 _ := hr.mono (by omega)
  have hr8 : Room 8 _ := hr.mono hk
  obtain ⟨t, ht, last⟩ := sta6 (outer := outer) (E := E) hk T D1 V1 hr q
  refine ⟨_, pss_cons (ps_if (pt_cmpR op_lt (pv 3) pe_int (nomark _)) (pss_one (ps_ret (pe_tup (pa_cons pe_str (pa_cons (pe_ix ix_tup (pe_tup (pa_cons pe_str (pa_cons pe_str pa_nil))) (pe_call D1.ok hr1 (by rfl) D1.gl D1.kp D1.bd .nil pass0 (pa_cons (pv 0) (pa_cons pe_int pa_nil))) (fun _ _ => rfl)) (pa_cons (pe_call V1.ok hr8 (by rfl) V1.gl V1.kp V1.bd .nil pass0 (pa_cons (pv 0) (pa_cons (pv 4) (pa_cons pe_int pa_nil)))) pa_nil)))))) pss_nil) ht, fun H1 v2 v5 v6 v7 v8 kd e2 L1 k1 => ?_⟩
  refine ⟨_, rfl, _, _, rfl, rfl, _, rfl, ite2 (fun _ => ?_) (fun _ => last _ _ _ _ _ _ _ e2 L1 k1)⟩
  refine ⟨(by show 2 ≤ sizeLine; decide), fun tp htp => ?_⟩
  have s1 := same_upd (o := .tup [.str ("chooser" : Str), .str ("comer" : Str)]) htp
  have L2 := L1.same s1
  refine ⟨_, rfl, p, 2, b, rfl, L2.pool, by decide, by decide, fun j H2 j0 j1 P2 k2 => ?_⟩
  have e3 : H2 tp = some (.tup (SEATS.map V.str)) := k2 _ _ upd_same (L1.pool.ne0 htp)
  obtain ⟨kw, hkw, ekw⟩ := atS (xs := SEATS) j0 j1
  have L3 := L2.kp P2 k2
  refine ⟨tp, _, _, _, rfl, rfl, SqT.of e3, ekw, ?_⟩
  have hm : 1 ≤ 5 := by decide
  refine ⟨_, rfl, _, rfl, p, nl, ns, 1, b, rfl, L3.pool, L3.n1, L3.nm, L3.n5, hm, fun v9 e9 H5 ve P5 k5 de => ?_⟩
  have L5 := L3.kp P5 k5
  have kv : Kq p sc H2 H5 := Kq.kp k5
  refine ⟨(by show 3 ≤ sizeLine; decide), fun r hr' => ?_⟩
  have s9 := same_upd (o := .tup [.str ("show" : Str), .str kw, v9]) hr'
  refine q (.ref r) (.show_ kw e9) _ b C O D N ⟨List.contains_iff_mem.mpr hkw, Ex.vl_le hm ve⟩ (by show 0 + _ = _; omega) rfl (by show 1 + _ ≤ _; omega) (L5.same s9) ((((k1.trans (Kq.same s1)).trans (Kq.kp k2)).trans kv).trans (Kq.same s9)) (.tup upd_same (.cons (.str _) (.cons (.str _) (.cons (Dt.keep (Tk.same s9) de) .nil))))
theorem sta4 {k : Nat} (hk : 8 ≤ k) {f : Addr} (T : TxL mg) (D1 : Fn0 P w K mg base 1 "_law_draw" ["pool", "size"] spDraw fD dD) (V1 : Fn0 P w K mg base 8 "_law_value" ["pool", "names", "deep"] (spVal 5) fV dV)
    {cdv : Value} {A : Around} {outer : List Env} {s : Shared} {H : Hp} {Q : VK} {E : XK} (hr : Room k (A.deeper (envOfC "_law_statement" (defScope sSta) s.heap.objs.size f cdv))) {p sc nl : Addr} {ns : List Str} {room : Nat} {b : Int} {C O D N : Nat}
    (q : StaPost ns room p sc nl H Q b C O D N) :
    ∃ t, PSs (cxOf CX0 P w K mg base ["pool", "scope", "room", "kind", "names", "word", "row", "test", "then"] "_law_statement" (defScope sSta) f cdv A outer s H E).nox ((defBody sSta).drop 4) t ∧
      ∀ (H' : Hp) (v2 v5 v6 v7 v8 : Option V) (kd : Int), v2 = some (.int (room : Int)) → LS H' p sc nl ns b C O D N → Kq p sc H H' → t { nx := fun _ H' => Q .non H', rt := Q } [some (.ref p), some (.ref sc), v2, some (.int kd), some (.ref nl), v5, v6, v7, v8] H' := by
  have hr1 : Room 1 _ := hr.mono (by omega)
  have hr8 : Room 8 _ := hr.mono hk
  obtain ⟨t, ht, last⟩ := sta5 (outer := outer) (E := E) hk T D1 V1 hr q
  refine ⟨_, pss_cons (ps_if (PW.pt (pw_and (pt_cmpR op_eq (pv 3) pe_int (nomark _)) (pw_and1 (pt_cmpR op_gt (pe_callB call_len_seq (by rfl) T.len PySem.boot_len (pa_cons (pv 4) pa_nil)) pe_int (nomark _))))) (pss_one (ps_ret (pe_tup (pa_cons pe_str (pa_cons (pe_ix ix_list (pv 4) (pe_call D1.ok hr1 (by rfl) D1.gl D1.kp D1.bd .nil pass0 (pa_cons (pv 0) (pa_cons (pe_callB call_len_seq (by rfl) T.len PySem.boot_len (pa_cons (pv 4) pa_nil)) pa_nil))) (fun _ _ => rfl)) (pa_cons (pe_call V1.ok hr8 (by rfl) V1.gl V1.kp V1.bd .nil pass0 (pa_cons (pv 0) (pa_cons (pv 4) (pa_cons pe_int pa_nil)))) pa_nil)))))) pss_nil) ht, fun H1 v2 v5 v6 v7 v8 kd e2 L1 k1 => ?_⟩
  refine ⟨_, rfl, rfl, _, rfl, ite2 (fun _ => ?_) (fun _ => iteF (last _ _ _ _ _ _ _ e2 L1 k1))⟩
  refine ⟨_, rfl, nl, _, rfl, .inl (SqL.of L1.nm), _, _, rfl, rfl, _, rfl, ite2 (fun y => ?_) (fun _ => last _ _ _ _ _ _ _ e2 L1 k1)⟩
  have y := of_decide_eq_true y
  rw [List.length_map] at y
  have h5 := L1.n5
  refine ⟨_, rfl, _, rfl, _, rfl, nl, _, rfl, .inl (SqL.of L1.nm), p, _, b, rfl, L1.pool, by rw [List.length_map]; omega, by rw [List.length_map]; omega, fun j H2 j0 j1 P2 k2 => ?_⟩
  rw [List.length_map] at j1
  obtain ⟨x, hx, ex⟩ := atS (xs := ns) j0 j1
  have L3 := L1.kp P2 k2
  refine ⟨nl, _, _, _, rfl, rfl, SqL.of L3.nm, ex, ?_⟩
  have hm : 2 ≤ 5 := by decide
  refine ⟨_, rfl, _, rfl, p, nl, ns, 2, b, rfl, L3.pool, L3.n1, L3.nm, L3.n5, hm, fun v9 e9 H5 ve P5 k5 de => ?_⟩
  have L5 := L3.kp P5 k5
  have kv : Kq p sc H2 H5 := Kq.kp k5
  refine ⟨(by show 3 ≤ sizeLine; decide), fun r hr' => ?_⟩
  have s9 := same_upd (o := .tup [.str ("set" : Str), .str x, v9]) hr'
  refine q (.ref r) (.set x e9) _ b C O D N ⟨hx, Ex.vl_le hm ve⟩ (by show 0 + _ = _; omega) rfl (by show 1 + _ ≤ _; omega) (L5.same s9) (((k1.trans (Kq.kp k2)).trans kv).trans (Kq.same s9)) (.tup upd_same (.cons (.str _) (.cons (.str _) (.cons (Dt.keep (Tk.same s9) de) .nil))))
theorem sta3_0 {k : Nat} (hk : 8 ≤ k) {f : Addr} (T : TxL mg) (D1 : Fn0 P w K mg base 1 "_law_draw" ["pool", "size"] spDraw fD dD) (V1 : Fn0 P w K mg base 8 "_law_value" ["pool", "names", "deep"] (spVal 5) fV dV)
    {cdv : Value} {A : Around} {outer : List Env} {s : Shared} {H : Hp} {Q : VK} {E : XK} (hr : Room k (A.deeper (envOfC "_law_statement" (defScope sSta) s.heap.objs.size f cdv))) {p sc nl : Addr} {ns : List Str} {room : Nat} {b : Int} {C O D N : Nat}
    (q : StaPost ns room p sc nl H Q b C O D N) (h0 : room = 0) :
    ∃ t, PSs (cxOf CX0 P w K mg base ["pool", "scope", "room", "kind", "names", "word", "row", "test", "then"] "_law_statement" (defScope sSta) f cdv A outer s H E).nox ((defBody sSta).drop 3) t ∧
      ∀ (H' : Hp) (v2 v5 v6 v7 v8 : Option V) (kd : Int), v2 = some (.int (room : Int)) → LS H' p sc nl ns b C O D N → Kq p sc H H' → t { nx := fun _ H' => Q .non H', rt := Q } [some (.ref p), some (.ref sc), v2, some (.int kd), some (.ref nl), v5, v6, v7, v8] H' := by
  have hr1 : Room 1 _ := hr.mono (by omega)
  have hr8 : Room 8 _ := hr.mono hk
  obtain ⟨t, ht, last⟩ := sta4 (outer := outer) (E := E) hk T D1 V1 hr q
  refine ⟨_, pss_cons (ps_if (PW.pt (pw_and (pt_cmpR op_lt (pv 3) pe_int (nomark _)) (pw_and1 (pt_cmpR op_gt (pv 2) pe_int (nomark _))))) (pss_cons ps_never (pss_cons ps_never (pss_one ps_never))) pss_nil) ht, fun H1 v2 v5 v6 v7 v8 kd e2 L1 k1 => ?_⟩
  subst e2
  refine ⟨_, rfl, _, _, rfl, rfl, _, rfl, ite2 (fun _ => ?_) (fun _ => iteF (last _ _ _ _ _ _ _ rfl L1 k1))⟩
  refine ⟨_, rfl, _, _, rfl, rfl, _, rfl, ite2 (fun y => ?_) (fun _ => last _ _ _ _ _ _ _ rfl L1 k1)⟩
  have y := of_decide_eq_true y
  exact absurd y (by omega)
theorem sta3_S {rr : Nat} {k : Nat} (hk : 8 ≤ k) {f : Addr} (T : TxL mg) (D1 : Fn0 P w K mg base 1 "_law_draw" ["pool", "size"] spDraw fD dD) (V1 : Fn0 P w K mg base 8 "_law_value" ["pool", "names", "deep"] (spVal 5) fV dV)
    (B1 : Fn0 P w K mg base k "_law_block" ["pool", "scope", "room", "most"] (spBlo rr) fB dB)
    {cdv : Value} {A : Around} {outer : List Env} {s : Shared} {H : Hp} {Q : VK} {E : XK} (hr : Room k (A.deeper (envOfC "_law_statement" (defScope sSta) s.heap.objs.size f cdv))) {p sc nl : Addr} {ns : List Str} {room : Nat} {b : Int} {C O D N : Nat}
    (q : StaPost ns room p sc nl H Q b C O D N) (h0 : room ≤ rr + 1) :
    ∃ t, PSs (cxOf CX0 P w K mg base ["pool", "scope", "room", "kind", "names", "word", "row", "test", "then"] "_law_statement" (defScope sSta) f cdv A outer s H E).nox ((defBody sSta).drop 3) t ∧
      ∀ (H' : Hp) (v2 v5 v6 v7 v8 : Option V) (kd : Int), v2 = some (.int (room : Int)) → LS H' p sc nl ns b C O D N → Kq p sc H H' → t { nx := fun _ H' => Q .non H', rt := Q } [some (.ref p), some (.ref sc), v2, some (.int kd), some (.ref nl), v5, v6, v7, v8] H' := by
  have hr1 : Room 1 _ := hr.mono (by omega)
  have hr8 : Room 8 _ := hr.mono hk
  obtain ⟨t, ht, last⟩ := sta4 (outer := outer) (E := E) hk T D1 V1 hr q
  refine ⟨_, pss_cons (ps_if (PW.pt (pw_and (pt_cmpR op_lt (pv 3) pe_int (nomark _)) (pw_and1 (pt_cmpR op_gt (pv 2) pe_int (nomark _))))) (pss_cons (ps_set (i := 7) scLS.nd rfl (Or.inl rfl) (pe_call V1.ok hr8 (by rfl) V1.gl V1.kp V1.bd .nil pass0 (pa_cons (pv 0) (pa_cons (pv 4) (pa_cons pe_int pa_nil))))) (pss_cons (ps_set (i := 8) scLS.nd rfl (Or.inl rfl) (pe_call B1.ok hr (by rfl) B1.gl B1.kp B1.bd .nil pass0 (pa_cons (pv 0) (pa_cons (pv 1) (pa_cons (pe_op op_sub (pv 2) pe_int) (pa_cons pe_int pa_nil))))))
    (pss_one (ps_ret (pe_tup (pa_cons pe_str (pa_cons (pv 7) (pa_cons (pv 8) (pa_cons (pe_call B1.ok hr (by rfl) B1.gl B1.kp B1.bd .nil pass0 (pa_cons (pv 0) (pa_cons (pv 1) (pa_cons (pe_op op_sub (pv 2) pe_int) (pa_cons pe_int pa_nil))))) pa_nil))))))))) pss_nil) ht, fun H1 v2 v5 v6 v7 v8 kd e2 L1 k1 => ?_⟩
  subst e2
  refine ⟨_, rfl, _, _, rfl, rfl, _, rfl, ite2 (fun _ => ?_) (fun _ => iteF (last _ _ _ _ _ _ _ rfl L1 k1))⟩
  refine ⟨_, rfl, _, _, rfl, rfl, _, rfl, ite2 (fun y => ?_) (fun _ => last _ _ _ _ _ _ _ rfl L1 k1)⟩
  have y := of_decide_eq_true y
  obtain ⟨rm, rfl⟩ : ∃ rm, room = rm + 1 := ⟨room - 1, by omega⟩
  have em : ((rm + 1 : Nat) : Int) - 1 = (rm : Int) := by omega
  have hm : 1 ≤ 5 := by decide
  refine ⟨_, rfl, _, rfl, p, nl, ns, 1, b, rfl, L1.pool, L1.n1, L1.nm, L1.n5, hm, fun v9 e9 H5 ve P5 k5 de => ?_⟩
  have L5 := L1.kp P5 k5
  have kv : Kq p sc H1 H5 := Kq.kp k5
  refine ⟨_, rfl, _, rfl, _, rfl, _, _, rfl, rfl, p, sc, nl, ns, rm, 3, b, C, O, D, N, congrArg (fun z => [V.ref p, V.ref sc, V.int z, V.int 3]) em, by omega, by decide, by decide, L5, fun va a H6 b1 C1 O1 D2 N1 vl1 ch1 mv1 ct1 L6 k6 d6 => ?_⟩
  refine ⟨_, rfl, _, rfl, _, rfl, _, rfl, _, rfl, _, _, rfl, rfl, p, sc, nl, ns, rm, 2, b1, C1, O1, D2, N1, congrArg (fun z => [V.ref p, V.ref sc, V.int z, V.int 2]) em, by omega, by decide, by decide, L6, fun vb a2 H7 b2 C2 O2 D3 N2 vl2 ch2 mv2 ct2 L7 k7 d7 => ⟨(by show 4 ≤ sizeLine; decide), fun r hr' => ?_⟩⟩
  have s9 := same_upd (o := .tup [.str ("if" : Str), v9, va, vb]) hr'
  subst mv1
  refine q (.ref r) (.ifs e9 a a2) _ b2 C2 O2 D3 N2 ⟨Ex.vl_le hm ve, rm, rfl, vl1, vl2⟩ (by show a.chs + a2.chs + _ = _; omega) (by show N2 = N + (a.mvs + a2.mvs); omega) (by show 1 + a.cnt + a2.cnt + _ ≤ _; omega) (L7.same s9) ((((k1.trans kv).trans k6).trans k7).trans (Kq.same s9)) ?_
  exact .tup upd_same (.cons (.str _) (.cons (Dt.keep (Tk.same s9) (Dt.keep (L6.tk k7) (Dt.keep (L5.tk k6) de))) (.cons (Dt.keep (Tk.same s9) (Dt.keep (L6.tk k7) d6)) (.cons (Dt.keep (Tk.same s9) d7) .nil))))
end
end K1

set_option Elab.async false
set_option linter.all false
set_option maxRecDepth 100000
set_option maxHeartbeats 1000000
namespace K1
open PySem PySem.Spec PyProof.Rows L2 Kx
section
variable {H H' : Hp} {p sc nl : Addr} {ns : List Str} {b b' : Int} {C O D N : Nat}
theorem sc_len (nl : Addr) (C O D N : Nat) : (Sc nl C O D N).length < sizeLine := by show 6 < sizeLine; decide
theorem LS.gNames (L : LS H p sc nl ns b C O D N) : DGet H sc (.str "names") (some (.ref nl)) := DGet.k (k := Sum.inr "names") L.scp
theorem LS.gMost (L : LS H p sc nl ns b C O D N) : DGet H sc (.str "most") (some (.int 8)) := DGet.k (k := Sum.inr "most") L.scp
theorem LS.gNext (L : LS H p sc nl ns b C O D N) : DGet H sc (.str "next") (some (.int N)) := DGet.k (k := Sum.inr "next") L.scp
theorem LS.pNext (L : LS H p sc nl ns b C O D N) : DPut H sc (.str "next") (.int ((N : Int) + 1)) (upd H sc (.dK (Sc nl C O D (N + 1)))) := DPut.k (k := Sum.inr "next") L.scp (sc_len _ _ _ _ _)
theorem LS.word (L : LS H p sc nl ns b C O D N) {w : Str} (hw : w = "choose" ∨ w = "come" ∨ w = "draw") : ∃ cw : Nat, DGet H sc (.str w) (some (.int cw)) ∧ (0 < cw → ∃ C' O' D' : Nat, C' + O' + D' + 1 = C + O + D ∧
    DPut H sc (.str w) (.int ((cw : Int) - 1)) (upd H sc (.dK (Sc nl C' O' D' N)))) := by
  rcases hw with rfl | rfl | rfl
  · refine ⟨C, DGet.k (k := Sum.inr "choose") L.scp, fun h => ⟨C - 1, O, D, by omega, ?_⟩⟩
    have e : (C : Int) - 1 = ((C - 1 : Nat) : Int) := by omega
    rw [e]
    exact DPut.k (k := Sum.inr "choose") (v := .int ((C - 1 : Nat) : Int)) L.scp (sc_len _ _ _ _ _)
  · refine ⟨O, DGet.k (k := Sum.inr "come") L.scp, fun h => ⟨C, O - 1, D, by omega, ?_⟩⟩
    have e : (O : Int) - 1 = ((O - 1 : Nat) : Int) := by omega
    rw [e]
    exact DPut.k (k := Sum.inr "come") (v := .int ((O - 1 : Nat) : Int)) L.scp (sc_len _ _ _ _ _)
  · refine ⟨D, DGet.k (k := Sum.inr "draw") L.scp, fun h => ⟨C, O, D - 1, by omega, ?_⟩⟩
    have e : (D : Int) - 1 = ((D - 1 : Nat) : Int) := by omega
    rw [e]
    exact DPut.k (k := Sum.inr "draw") (v := .int ((D - 1 : Nat) : Int)) L.scp (sc_len _ _ _ _ _)
def WDS : List Str := ["choose", "come", "draw", "choose", "come", "choose"]
theorem wds {w : Str} (h : w ∈ WDS) : w = "choose" ∨ w = "come" ∨ w = "draw" := by
  simp only [WDS, List.mem_cons, List.not_mem_nil, or_false] at h
  rcases h with h | h | h | h | h | h
  · exact .inl h
  · exact .inr (.inl h)
  · exact .inr (.inr h)
  · exact .inl h
  · exact .inr (.inl h)
  · exact .inl h
end
section
variable {P : Program} {w : World} {K : PySem.W.Frag} {mg : Str → Option Value} {base : Heap} {fD fV fB : Addr} {dD dV dB : FuncData}
theorem sta2 {k : Nat} (hk : 8 ≤ k) {f : Addr} (T : TxL mg) (D1 : Fn0 P w K mg base 1 "_law_draw" ["pool", "size"] spDraw fD dD)
    {cdv : Value} {A : Around} {outer : List Env} {s : Shared} {H : Hp} {Q : VK} {E : XK} (hr : Room k (A.deeper (envOfC "_law_statement" (defScope sSta) s.heap.objs.size f cdv))) {p sc nl : Addr} {ns : List Str} {room : Nat} {b : Int} {C O D N : Nat}
    (q : StaPost ns room p sc nl H Q b C O D N)
    (h3 : ∃ t, PSs (cxOf CX0 P w K mg base ["pool", "scope", "room", "kind", "names", "word", "row", "test", "then"] "_law_statement" (defScope sSta) f cdv A outer s H E).nox ((defBody sSta).drop 3) t ∧
      ∀ (H' : Hp) (v2 v5 v6 v7 v8 : Option V) (kd : Int), v2 = some (.int (room : Int)) → LS H' p sc nl ns b C O D N → Kq p sc H H' → t { nx := fun _ H' => Q .non H', rt := Q } [some (.ref p), some (.ref sc), v2, some (.int kd), some (.ref nl), v5, v6, v7, v8] H') :
    ∃ t, PSs (cxOf CX0 P w K mg base ["pool", "scope", "room", "kind", "names", "word", "row", "test", "then"] "_law_statement" (defScope sSta) f cdv A outer s H E).nox ((defBody sSta).drop 2) t ∧
      ∀ (H' : Hp) (v2 v5 v6 v7 v8 : Option V) (kd : Int), v2 = some (.int (room : Int)) → LS H' p sc nl ns b C O D N → Kq p sc H H' → 0 ≤ kd → t { nx := fun _ H' => Q .non H', rt := Q } [some (.ref p), some (.ref sc), v2, some (.int kd), some (.ref nl), v5, v6, v7, v8] H' := by
  have hr1 : Room 1 _ := hr.mono (by omega)
  have hu := hu_r hr
  obtain ⟨t, ht, last⟩ := h3
  refine ⟨_, pss_cons (ps_if (PW.pt (pw_and (pt_cmpR op_lt (pv 3) pe_int (nomark _)) (pw_and1 (pt_cmpR op_gt (pe_callB call_len_seq (by rfl) T.len PySem.boot_len (pa_cons (pv 4) pa_nil)) pe_int (nomark _)))))
      (pss_cons (ps_set (i := 5) scLS.nd rfl (Or.inl rfl) (pe_ix ix_tup (pe_tup (pa_cons pe_str (pa_cons pe_str (pa_cons pe_str (pa_cons pe_str (pa_cons pe_str (pa_cons pe_str pa_nil))))))) (pv 3) (fun _ _ => rfl)))
      (pss_one (ps_if (pt_cmpR op_gt (pe_dget hu (pv 1) (pv 5) (fun _ _ => rfl)) pe_int (nomark _))
        (pss_cons (ps_dput hu (pv 1) (pv 5) (pe_op op_sub (pe_dget hu (pv 1) (pv 5) (fun _ _ => rfl)) pe_int) rfl)
        (pss_cons (ps_set (i := 6) scLS.nd rfl (Or.inl rfl) (pe_tup (pa_cons (pv 5) (pa_cons (pe_ix ix_list (pv 4) (pe_call D1.ok hr1 (by rfl) D1.gl D1.kp D1.bd .nil pass0 (pa_cons (pv 0) (pa_cons (pe_callB call_len_seq (by rfl) T.len PySem.boot_len (pa_cons (pv 4) pa_nil)) pa_nil))) (fun _ _ => rfl)) (pa_cons (pe_op op_add pe_int (pe_call D1.ok hr1 (by rfl) D1.gl D1.kp D1.bd .nil pass0 (pa_cons (pv 0) (pa_cons (pe_dget hu (pv 1) pe_str (fun _ _ => rfl)) pa_nil)))) pa_nil)))))
        (pss_cons (ps_if (pt_cmpR op_eq (pv 5) pe_str (nomark _)) (pss_one (ps_ret (pv 6))) pss_nil)
        (pss_cons (ps_dput hu (pv 1) pe_str (pe_op op_add (pe_dget hu (pv 1) pe_str (fun _ _ => rfl)) pe_int) rfl)
        (pss_one (ps_ret (pe_op op_catT (pv 6) (pe_tup (pa_cons (pe_op op_sub (pe_dget hu (pv 1) pe_str (fun _ _ => rfl)) pe_int) pa_nil))))))))) pss_nil))) pss_nil) ht, fun H1 v2 v5 v6 v7 v8 kd e2 L1 k1 kd0 => ?_⟩
  refine ⟨_, rfl, _, _, rfl, rfl, _, rfl, ite2 (fun yk => ?_) (fun _ => iteF (last _ _ _ _ _ _ _ e2 L1 k1))⟩
  have yk := of_decide_eq_true yk
  refine ⟨_, rfl, nl, _, rfl, .inl (SqL.of L1.nm), _, _, rfl, rfl, _, rfl, ite2 (fun y => ?_) (fun _ => last _ _ _ _ _ _ _ e2 L1 k1)⟩
  have y := of_decide_eq_true y
  rw [List.length_map] at y
  have h5 := L1.n5
  refine ⟨(by show 6 ≤ sizeLine; decide), fun tp htp => ?_⟩
  have s1 := same_upd (o := .tup (WDS.map V.str)) htp
  have L2 := L1.same s1
  have e3 : (upd H1 tp (.tup (WDS.map V.str))) tp = some (.tup (WDS.map V.str)) := upd_same
  obtain ⟨wd, hwd, ewd⟩ := atS (xs := WDS) kd0 yk
  have hwd := wds hwd
  refine ⟨_, rfl, tp, _, _, _, rfl, rfl, SqT.of e3, ewd, ?_⟩
  obtain ⟨cw, gw, pw⟩ := L2.word hwd
  have k2 := k1.trans (Kq.same (p := p) (sc := sc) s1)
  refine ⟨_, rfl, _, rfl, sc, _, rfl, gw, _, _, rfl, rfl, _, rfl, ite2 (fun y2 => ?_) (fun _ => last _ _ _ _ _ _ _ e2 L2 k2)⟩
  have y2 := of_decide_eq_true y2
  obtain ⟨C1, O1, D2, hc, pu⟩ := pw (by omega)
  refine ⟨_, rfl, _, rfl, sc, _, rfl, gw, _, _, rfl, rfl, _, rfl, _, rfl, sc, _, rfl, pu, ?_⟩
  have L3 : LS _ p sc nl ns b C1 O1 D2 N := L2.put
  have k3 := k2.trans (Kq.upd (L2.pool.neK L2.scp) (o := .dK (Sc nl C1 O1 D2 N)))
  refine ⟨_, rfl, _, rfl, _, rfl, _, rfl, nl, _, rfl, .inl (SqL.of L3.nm), p, _, b, rfl, L3.pool, by rw [List.length_map]; omega, by rw [List.length_map]; omega, fun j H4 j0 j1 P4 k4 => ?_⟩
  rw [List.length_map] at j1
  obtain ⟨x, hx, ex⟩ := atS (xs := ns) j0 j1
  have L4 := L3.kp P4 k4
  refine ⟨nl, _, _, _, rfl, rfl, SqL.of L4.nm, ex, ?_⟩
  refine ⟨_, rfl, _, rfl, sc, _, rfl, L4.gMost, p, 8, b, rfl, L4.pool, by decide, by decide, fun n0 H5 n1 n2 P5 k5 => ⟨_, _, rfl, rfl, (by show 3 ≤ sizeLine; decide), fun r hr' => ?_⟩⟩
  have s6 := same_upd (o := .tup [.str wd, .str x, .int (1 + n0)]) hr'
  have L6 := (L4.kp P5 k5).same s6
  have k6 := ((k3.trans (Kq.kp k4)).trans (Kq.kp k5)).trans (Kq.same (p := p) (sc := sc) s6)
  refine ⟨_, rfl, rfl, _, rfl, ite2 (fun z => ?_) (fun z => ?_)⟩
  · have z := V.str.inj (of_decide_eq_true z)
    subst z
    exact ⟨_, rfl, q (.ref r) (.draw x (1 + n0)) _ b C1 O1 D2 N ⟨hx, by omega, by omega⟩ (by show 1 + _ = _; omega) rfl (by show 1 + _ ≤ _; omega) L6 k6 (.tup upd_same (.cons (.str _) (.cons (.str _) (.cons (.int _) .nil))))⟩
  · have z : ¬ wd = ("draw" : Str) := fun e => z (decide_eq_true (by rw [e]))
    have hw2 : wd = "choose" ∨ wd = "come" := by
      rcases hwd with h | h | h
      · exact .inl h
      · exact .inr h
      · exact absurd h z
    refine ⟨_, rfl, sc, _, rfl, L6.gNext, _, _, rfl, rfl, _, rfl, sc, _, rfl, L6.pNext, ?_⟩
    have L7 : LS _ p sc nl ns b C1 O1 D2 (N + 1) := L6.put
    have k7 := k6.trans (Kq.upd (L6.pool.neK L6.scp) (o := .dK (Sc nl C1 O1 D2 (N + 1))))
    refine ⟨_, rfl, _, rfl, sc, _, rfl, L7.gNext, _, _, rfl, rfl, (by show 1 ≤ sizeLine; decide), fun r2 hr2 => ?_⟩
    have em : ((N + 1 : Nat) : Int) - 1 = (N : Int) := by omega
    have s8 := same_upd (o := .tup [.int (((N + 1 : Nat) : Int) - 1)]) hr2
    have nrs : r ≠ sc := ne_of (o := .tup [.str wd, .str x, .int (1 + n0)]) upd_same L6.scp (by intro z; cases z)
    have er : (upd (upd (upd H5 r (.tup [.str wd, .str x, .int (1 + n0)])) sc (.dK (Sc nl C1 O1 D2 (N + 1)))) r2 (.tup [.int (((N + 1 : Nat) : Int) - 1)])) r = some (.tup [.str wd, .str x, .int (1 + n0)]) := s8 _ _ (by rw [upd_ne nrs]; exact upd_same)
    refine ⟨r, r2, _, _, rfl, rfl, SqT.of er, SqT.of upd_same, (by intro z; cases z), (by show 3 + 1 ≤ sizeLine; decide), fun z => (by cases z), fun _ r3 hr3 => ?_⟩
    have s9 := same_upd (o := .tup ([.str wd, .str x, .int (1 + n0)] ++ [.int (((N + 1 : Nat) : Int) - 1)])) hr3
    refine q (.ref r3) (.move wd x (1 + n0) (N : Int)) _ b C1 O1 D2 (N + 1) ⟨hw2, hx, by omega, by omega, rfl⟩ (by show 1 + _ = _; omega) rfl (by show 1 + _ ≤ _; omega) ((L7.same s8).same s9) ((k7.trans (Kq.same s8)).trans (Kq.same s9)) ?_
    refine .tup (xs := [.str wd, .str x, .int (1 + n0), .int (N : Int)]) ?_ (.cons (.str _) (.cons (.str _) (.cons (.int _) (.cons (.int _) .nil))))
    rw [upd_same]
    exact congrArg (fun z => some (HO.tup [V.str wd, V.str x, V.int (1 + n0), V.int z])) em
theorem ok_sta0 {k : Nat} (hk : 8 ≤ k) {f : Addr} {fd : FuncData} (F : Fun K "_law_statement" "_law_statement" sSta f fd) (T : TxL mg) (D1 : Fn0 P w K mg base 1 "_law_draw" ["pool", "size"] spDraw fD dD)
    (V1 : Fn0 P w K mg base 8 "_law_value" ["pool", "names", "deep"] (spVal 5) fV dV) : FnOk P w K mg base CX0 (k + 1) f fd ["pool", "scope", "room"] (spSta 0) := by
  refine F.ok scLS (fun vs H Q E h => ?_) (fun cdv A outer s H vs Q E hr h => ?_)
  · obtain ⟨p, sc, nl, ns, room, b, C, O, D, N, rfl, _⟩ := h
    rfl
  · obtain ⟨p, sc, nl, ns, room, b, C, O, D, N, rfl, hrm, L, q⟩ := h
    have hr1 : Room 1 _ := hr.mono (by omega)
    have hu := hu_r hr
    obtain ⟨t, ht, rest⟩ := sta2 hk T D1 hr q (sta3_0 (outer := outer) (E := E) hk T D1 V1 hr q (by omega))
    refine ⟨_, pss_cons (ps_set (i := 3) scLS.nd rfl (Or.inl rfl) (pe_call D1.ok hr1 (by rfl) D1.gl D1.kp D1.bd .nil pass0 (pa_cons (pv 0) (pa_cons pe_int pa_nil))))
      (pss_cons (ps_set (i := 4) scLS.nd rfl (Or.inl rfl) (pe_dget hu (pv 1) pe_str (fun _ _ => rfl))) ht), ?_⟩
    refine ⟨_, rfl, p, 16, b, rfl, L.pool, by decide, by decide, fun kd H1 k0 _ P1 k1 => ?_⟩
    have L1 := L.kp P1 k1
    exact ⟨_, rfl, sc, _, rfl, L1.gNames, rest _ _ _ _ _ _ _ rfl L1 (Kq.kp k1) k0⟩
theorem ok_staS {rr : Nat} {k : Nat} (hk : 8 ≤ k) {f : Addr} {fd : FuncData} (F : Fun K "_law_statement" "_law_statement" sSta f fd) (T : TxL mg) (D1 : Fn0 P w K mg base 1 "_law_draw" ["pool", "size"] spDraw fD dD)
    (V1 : Fn0 P w K mg base 8 "_law_value" ["pool", "names", "deep"] (spVal 5) fV dV) (B1 : Fn0 P w K mg base k "_law_block" ["pool", "scope", "room", "most"] (spBlo rr) fB dB) : FnOk P w K mg base CX0 (k + 1) f fd ["pool", "scope", "room"] (spSta (rr + 1)) := by
  refine F.ok scLS (fun vs H Q E h => ?_) (fun cdv A outer s H vs Q E hr h => ?_)
  · obtain ⟨p, sc, nl, ns, room, b, C, O, D, N, rfl, _⟩ := h
    rfl
  · obtain ⟨p, sc, nl, ns, room, b, C, O, D, N, rfl, hrm, L, q⟩ := h
    have hr1 : Room 1 _ := hr.mono (by omega)
    have hu := hu_r hr
    obtain ⟨t, ht, rest⟩ := sta2 hk T D1 hr q (sta3_S (outer := outer) (E := E) hk T D1 V1 B1 hr q hrm)
    refine ⟨_, pss_cons (ps_set (i := 3) scLS.nd rfl (Or.inl rfl) (pe_call D1.ok hr1 (by rfl) D1.gl D1.kp D1.bd .nil pass0 (pa_cons (pv 0) (pa_cons pe_int pa_nil))))
      (pss_cons (ps_set (i := 4) scLS.nd rfl (Or.inl rfl) (pe_dget hu (pv 1) pe_str (fun _ _ => rfl))) ht), ?_⟩
    refine ⟨_, rfl, p, 16, b, rfl, L.pool, by decide, by decide, fun kd H1 k0 _ P1 k1 => ?_⟩
    have L1 := L.kp P1 k1
    exact ⟨_, rfl, sc, _, rfl, L1.gNames, rest _ _ _ _ _ _ _ rfl L1 (Kq.kp k1) k0⟩
end
end K1

set_option Elab.async false
set_option linter.all false
set_option maxRecDepth 100000
set_option maxHeartbeats 1000000
namespace K1
open PySem PySem.Spec PyProof.Rows L2 Kx
section
variable {P : Program} {w : World} {K : PySem.W.Frag} {mg : Str → Option Value} {base : Heap} {fD fS fP : Addr} {dD dS dP : FuncData}
theorem scLB : FnScope ["pool", "scope", "room", "most", "block", "k"] ["pool", "scope", "room", "most"] (defScope sBlo) := ⟨rfl, rfl, rfl, by decide +kernel, rfl, by decide +kernel, by decide +kernel⟩
theorem snoc_nil (acc : List Sm) (x : Sm) : pre (acc ++ [x]) .nil = pre acc (.cons x .nil) := pre_app acc x .nil
theorem ok_blo {k r : Nat} (hk : 1 ≤ k) {f : Addr} {fd : FuncData} (F : Fun K "_law_block" "_law_block" sBlo f fd) (T : TxL mg) (D1 : Fn0 P w K mg base 1 "_law_draw" ["pool", "size"] spDraw fD dD) (P1 : Fn0 P w K mg base 1 "_law_spend" ["pool"] spSpend fP dP)
    (S1 : Fn0 P w K mg base k "_law_statement" ["pool", "scope", "room"] (spSta r) fS dS) : FnOk P w K mg base CX0 (k + 1) f fd ["pool", "scope", "room", "most"] (spBlo r) := by
  refine F.ok scLB (fun vs H Q E h => ?_) (fun cdv A outer s H vs Q E hr h => ?_)
  · obtain ⟨p, sc, nl, ns, room, most, b, C, O, D, N, rfl, _⟩ := h
    rfl
  · obtain ⟨p, sc, nl, ns, room, most, b, C, O, D, N, rfl, hrm, m0, m9, L, q⟩ := h
    have hr1 : Room 1 _ := hr.mono hk
    refine ⟨_, pss_cons (ps_set (i := 4) scLB.nd rfl (Or.inl rfl) (pe_lst pa_nil))
      (pss_cons (ps_for PassesOwn.never rfl (pi_range1 rfl T.range (pa_cons (pe_call D1.ok hr1 (by rfl) D1.gl D1.kp D1.bd .nil pass0 (pa_cons (pv 0) (pa_cons (pe_op op_add (pv 3) pe_int) pa_nil))) pa_nil)) (pg_name (i := 5) scLB.nd rfl (Or.inl rfl))
        (pss_one (ps_if (pt_val (pe_call P1.ok hr1 (by rfl) P1.gl P1.kp P1.bd .nil pass0 (pa_cons (pv 0) pa_nil)))
          (pss_one (ps_expr (pe_bm PySem.F.plainAttrs_list PySem.F.slot_list_append PySem.F.type_list_append mt_append (pv 4) (pa_cons (pe_call S1.ok hr (by rfl) S1.gl S1.kp S1.bd .nil pass0 (pa_cons (pv 0) (pa_cons (pv 1) (pa_cons (pv 2) pa_nil)))) pa_nil)))) pss_nil)))
      (pss_one (ps_ret (pe_callTy call_tuple_of (by rfl) T.tuple (by decide +kernel) (pa_cons (pv 4) pa_nil))))), ?_⟩
    refine ⟨Nat.zero_le _, fun G hG => ?_⟩
    have s0 := same_upd (o := .lst []) hG
    refine ⟨_, rfl, _, rfl, _, _, rfl, rfl, p, most + 1, b, rfl, L.pool.same s0, by omega, by omega, fun n H1 n0 n1 P1 k1 => ?_⟩
    have nGp : G ≠ p := L.pool.ne0 hG
    have nGs : G ≠ sc := (ne_of_none L.scp hG).symm
    have nGn : G ≠ nl := (ne_of_none L.nm hG).symm
    refine ⟨n, rfl, by omega, by omega, for_range (lo := 0) (n := n.toNat) (fun i σ H' => (∃ v5, σ = [some (.ref p), some (.ref sc), some (.int (room : Int)), some (.int most), some (.ref G), v5]) ∧ ∃ (acc : List Sm) (vs : List V) (b' : Int) (C' O' D' N' : Nat),
      (pre acc .nil).vl ns room N ∧ (pre acc .nil).chs + (C' + O' + D') = C + O + D ∧ N' = N + (pre acc .nil).mvs ∧ (pre acc .nil).cnt + b'.toNat ≤ b.toNat ∧ LS H' p sc nl ns b' C' O' D' N' ∧ Kq p sc H H' ∧ H' G = some (.lst vs) ∧ DtAll H' vs (acc.map Sm.d) ∧ vs.length ≤ i) ?_ ?_ ?_⟩
    · refine ⟨⟨_, rfl⟩, [], [], b, C, O, D, N, trivial, by show 0 + _ = _; omega, rfl, by show 0 + _ ≤ _; omega, (L.same s0).kp P1 k1, (Kq.same s0).trans (Kq.kp k1), k1 _ _ upd_same nGp, .nil, Nat.le_refl _⟩
    · rintro i σ H2 hi ⟨⟨v5, rfl⟩, acc, vs, b2, C2, O2, D2, N2, hv, hc, hm, hb, L2, k2, eG, da, hl⟩
      refine ⟨_, rfl, p, b2, rfl, L2.pool, fun H3 P3 k3 => ⟨_, rfl, ite2 (fun y => ?_) (fun y => ?_)⟩⟩
      · have y := of_decide_eq_true y
        have L3 := L2.kp P3 k3
        have eG3 := k3 _ _ eG nGp
        refine ⟨_, rfl, .inl ⟨rfl, _, SqL.of eG3⟩, _, rfl, _, rfl, _, rfl, p, sc, nl, ns, room, b2 - 1, C2, O2, D2, N2, rfl, hrm, L3, fun v x H4 b4 C4 O4 D4 N4 hv4 hc4 hm4 hb4 L4 k4 d4 => ?_⟩
        have eG4 := k4 _ _ eG3 nGp nGs
        have tk4 : Tk H2 (upd H4 G (.lst (vs ++ [v]))) := fun a xs e => by
          have e3 := Kp.tk L2.pool k3 _ _ e
          have e4 := L3.tk k4 _ _ e3
          rw [upd_ne (ne_of e4 eG4 (by intro z; cases z))]
          exact e4
        have tk5 : Tk H4 (upd H4 G (.lst (vs ++ [v]))) := fun a xs e => by
          rw [upd_ne (ne_of e eG4 (by intro z; cases z))]
          exact e
        refine ⟨G, vs, v, rfl, rfl, eG4, Nat.lt_of_le_of_lt (show vs.length ≤ 9 by omega) (by decide), ⟨_, rfl⟩, acc ++ [x], vs ++ [v], b4, C4, O4, D4, N4, ?_, ?_, ?_, ?_, ?_, ?_, upd_same, ?_, ?_⟩
        · rw [snoc_nil]
          subst hm
          exact pre_vl acc _ _ hv ⟨hv4, trivial⟩
        · rw [snoc_nil, pre_chs]
          show _ + (x.chs + 0) + _ = _
          omega
        · rw [snoc_nil, pre_mvs]
          show _ = _ + (_ + (x.mvs + 0))
          omega
        · rw [snoc_nil, pre_cnt]
          show _ + (x.cnt + 0) + _ ≤ _
          omega
        · exact L.own hG (((k2.trans (Kq.kp k3)).trans k4)) L4
        · exact ⟨fun c o e h1 h2 => by
            rw [upd_ne (ne_of_none e hG)]
            exact k4 _ _ (k3 _ _ (k2 _ _ e h1 h2) h1) h1 h2, fun x r e => by
            rw [upd_ne nGp.symm]
            exact ((k2.trans (Kq.kp k3)).trans k4).hd x r e⟩
        · rw [List.map_append]
          exact DtAll.snoc (DtAll.keep tk4 da) (Dt.keep tk5 d4)
        · rw [List.length_append]
          show vs.length + 1 ≤ i + 1
          omega
      · refine ⟨⟨_, rfl⟩, acc, vs, b2 - 1, C2, O2, D2, N2, hv, hc, hm, by omega, L2.kp P3 k3, k2.trans (Kq.kp k3), k3 _ _ eG nGp, DtAll.keep (Kp.tk L2.pool k3) da, by omega⟩
    · rintro σ H2 ⟨⟨v5, rfl⟩, acc, vs, b2, C2, O2, D2, N2, hv, hc, hm, hb, L2, k2, eG, da, hl⟩
      refine ⟨_, rfl, G, vs, rfl, .inl ⟨SqL.of eG, fun t ht => ?_⟩⟩
      have s9 := same_upd (o := .tup vs) ht
      refine q (.ref t) (pre acc .nil) _ b2 C2 O2 D2 N2 hv hc hm hb (L2.same s9) (k2.trans (Kq.same s9)) (.tup upd_same ?_)
      rw [pre_ds]
      exact DtAll.keep (Tk.same s9) da
end
end K1

set_option Elab.async false
set_option linter.all false
set_option maxRecDepth 100000
set_option maxHeartbeats 1000000
namespace K1
open PySem PySem.Spec PyProof.Rows L2 Kx
/-! ### names -/
theorem PoolAt.own {H0 H : Hp} {p G : Addr} {b b' : Int} {o : HO} (P0 : PoolAt H0 p b) (hG : H0 G = none) (k : Kp p H0 H) (P : PoolAt H p b') : PoolAt (upd H G o) p b' := by
  have nGp : G ≠ p := P0.ne0 hG
  obtain ⟨q0, ns0, i0, c0, z0, t0, PV0⟩ := P0
  obtain ⟨qq, xs, ii, c, z, t, PV⟩ := P
  obtain ⟨r', e'⟩ := k.hd _ _ PV0.hp
  have nq : qq ≠ G := fun e => by
    have h := PV.hp
    rw [e'] at h
    injection h with h
    injection h with h
    injection h with h _
    injection h with h
    have h1 := PV0.hq
    rw [h, e, hG] at h1
    cases h1
  exact ⟨qq, xs, ii, c, z, t, PV.ne, by rw [upd_ne nGp.symm]; exact PV.hp, by rw [upd_ne nq]; exact PV.hq, PV.i0, PV.s0, PV.s1⟩
theorem Kp.own {H0 H : Hp} {p G : Addr} {b : Int} {o : HO} (P0 : PoolAt H0 p b) (hG : H0 G = none) (k : Kp p H0 H) : Kp p H0 (upd H G o) := ⟨fun c u e h => by
  rw [upd_ne (ne_of_none e hG)]
  exact k _ _ e h, fun x r e => by
  rw [upd_ne (P0.ne0 hG).symm]
  exact k.hd x r e⟩
def FIX : List Str := ["x", "y", "z", "ended", "i", "sets", "mods", "comers", "payed", "abcdefgh"]
def OTH : List Str := ["aa", "bb", "cc", "dd", "ee", "ff"]
theorem fix_ok : ∀ x ∈ FIX, nameB x = true := by decide +kernel
theorem oth_ok : ∀ x ∈ OTH, nameB x = true := by decide +kernel
theorem q_ok : nameB "q" = true := by decide +kernel
/-- a name before it is asked whether it is a key word -/
def preB (x : Str) : Prop := 1 ≤ x.length ∧ x.length ≤ 8 ∧ madeB x LET = true
theorem pre_of {x : Str} (h : nameB x = true) : preB x := by
  unfold nameB at h
  simp only [Bool.and_eq_true, decide_eq_true_eq] at h
  exact ⟨h.1.1.1, h.1.1.2, h.1.2⟩
theorem name_of {x : Str} (h : preB x) (k : KEYS.contains x = false) : nameB x = true := by
  unfold nameB
  rw [decide_eq_true h.1, decide_eq_true h.2.1, h.2.2, k]
  rfl
theorem made_of {x z : Str} (h : ∀ c ∈ x.cps.toList, c ∈ z.cps.toList) : madeB x z = true := by
  unfold madeB
  rw [List.all_eq_true]
  intro b hb
  obtain ⟨c, hc, rfl⟩ := List.mem_map.mp hb
  exact decide_eq_true (h c hc)
/-- the first of some names that isn't taken, if one's own is -/
def alt (ns : List Str) : Str → List Str → Str
  | x, [] => x
  | x, o :: r => alt ns (if ns.contains x then o else x) r
theorem alt_in (ns : List Str) : ∀ (os : List Str) (x : Str), x ∉ ns → alt ns x os = x
  | [], x, _ => rfl
  | o :: r, x, h => by
    show alt ns (if ns.contains x then o else x) r = x
    have : ns.contains x = false := by
      cases e : ns.contains x with
      | false => rfl
      | true => exact absurd (List.contains_iff_mem.mp e) h
    rw [this]
    exact alt_in ns r x h
theorem alt_free (ns : List Str) : ∀ (os : List Str) (x : Str), (∃ y, y ∈ (x :: os) ∧ y ∉ ns) → alt ns x os ∉ ns
  | [], x, ⟨y, hy, hn⟩ => by
    rcases List.mem_cons.mp hy with e | e
    · rw [← e]
      exact hn
    · cases e
  | o :: r, x, ⟨y, hy, hn⟩ => by
    show alt ns (if ns.contains x then o else x) r ∉ ns
    cases e : ns.contains x with
    | true =>
      rcases List.mem_cons.mp hy with e2 | e2
      · rw [e2] at hn
        exact absurd (List.contains_iff_mem.mp e) hn
      · exact alt_free ns r o ⟨y, e2, hn⟩
    | false =>
      have h : x ∉ ns := fun z => by
        rw [List.contains_iff_mem.mpr z] at e
        cases e
      rw [if_neg Bool.false_ne_true, alt_in ns r x h]
      exact h
theorem alt_ok (ns : List Str) : ∀ (os : List Str) (x : Str), nameB x = true → (∀ y ∈ os, nameB y = true) → nameB (alt ns x os) = true
  | [], x, h, _ => h
  | o :: r, x, h, ho => by
    show nameB (alt ns (if ns.contains x then o else x) r) = true
    refine alt_ok ns r _ ?_ fun y hy => ho y (List.mem_cons_of_mem _ hy)
    split
    · exact ho o (List.mem_cons_self ..)
    · exact h
theorem some_free : ∀ (os ns : List Str), os.Nodup → ns.length < os.length → ∃ y, y ∈ os ∧ y ∉ ns
  | [], ns, _, h => absurd h (by simp)
  | o :: r, ns, hd, h => by
    by_cases ho : o ∈ ns
    · have hd2 := List.nodup_cons.mp hd
      have hl : (ns.erase o).length < r.length := by
        rw [List.length_erase_of_mem ho]
        have := List.length_pos_of_mem ho
        rw [List.length_cons] at h
        omega
      obtain ⟨y, hy, hn⟩ := some_free r (ns.erase o) hd2.2 hl
      refine ⟨y, List.mem_cons_of_mem _ hy, fun z => hn ?_⟩
      exact (List.mem_erase_of_ne (fun e => hd2.1 (by rw [← e]; exact hy))).mpr z
    · exact ⟨o, List.mem_cons_self .., ho⟩
theorem alt_new {ns : List Str} (h : ns.length ≤ 4) (x : Str) : alt ns x OTH ∉ ns := by
  obtain ⟨y, hy, hn⟩ := some_free OTH ns (by decide +kernel) (by show ns.length < 6; omega)
  exact alt_free ns OTH x ⟨y, List.mem_cons_of_mem _ hy, hn⟩
theorem alt_take {ns : List Str} {x : Str} {i : Nat} {o : Str} (h : OTH[i]? = some o) : alt ns x (OTH.take (i + 1)) = (if ns.contains (alt ns x (OTH.take i)) then o else alt ns x (OTH.take i)) := by
  rw [List.take_add_one, h]
  have snoc : ∀ (os : List Str) (x o : Str), alt ns x (os ++ [o]) = (if ns.contains (alt ns x os) then o else alt ns x os) := by
    intro os
    induction os with
    | nil => intro x o; rfl
    | cons a r ih => intro x o; exact ih _ o
  exact snoc _ _ _
def forBody : Stmt → List Stmt
  | .For _ _ b _ _ => b
  | _ => []
abbrev nmBody : List Stmt := forBody ((defBody sNames).getD 1 (.Pass ⟨0, 0, 0, 0⟩))
def spNm : Sp := fun vs H Q _ => ∃ (p : Addr) (count b : Int), vs = [.ref p, .int count] ∧ PoolAt H p b ∧ 0 ≤ count ∧ count ≤ 5 ∧ ∀ (l : Addr) (ns : List Str) (H' : Hp), Kp p H H' → PoolAt H' p b → H l = none → H' l = some (.lst (ns.map V.str)) → (ns.length : Int) = count → (∀ x ∈ ns, nameB x = true) → ns.Nodup → Q (.ref l) H'
/-- what stands while names are drawn -/
structure NmS (H0 H : Hp) (p G : Addr) (b : Int) (ns : List Str) : Prop where
  pool : PoolAt H p b
  kp : Kp p H0 H
  gn : H0 G = none
  at_ : H G = some (.lst (ns.map V.str))
  ok : ∀ x ∈ ns, nameB x = true
  nd : ns.Nodup
theorem NmS.kp' {H0 H H' : Hp} {p G : Addr} {b : Int} {ns : List Str} (S : NmS H0 H p G b ns) (P0 : PoolAt H0 p b) (P : PoolAt H' p b) (k : Kp p H H') : NmS H0 H' p G b ns := ⟨P, S.kp.trans k, S.gn, k _ _ S.at_ (P0.ne0 S.gn), S.ok, S.nd⟩
section
variable {P : Program} {w : World} {K : PySem.W.Frag} {mg : Str → Option Value} {base : Heap} {fD : Addr} {dD : FuncData}
theorem scLm : FnScope ["pool", "count", "names", "k", "name", "turn", "other"] ["pool", "count"] (defScope sNames) := ⟨rfl, rfl, rfl, by decide +kernel, rfl, by decide +kernel, by decide +kernel⟩
theorem nm3 {f : Addr} {cdv : Value} {A : Around} {outer : List Env} {s : Shared} {H : Hp} {E : XK} (hr : Room 1 (A.deeper (envOfC "_law_names" (defScope sNames) s.heap.objs.size f cdv))) : ∃ t, PSs (cxOf CX0 P w K mg base ["pool", "count", "names", "k", "name", "turn", "other"] "_law_names" (defScope sNames) f cdv A outer s H E).nox (nmBody.drop 3) t ∧
    ∀ (D : Ends) (p G : Addr) (count b : Int) (ns : List Str) (x : Str) (v3 v5 v6 : Option V) (H' : Hp), PoolAt H p b → NmS H H' p G b ns → ns.length ≤ 4 → nameB x = true → (∀ (σ' : L2.St) (H'' : Hp) (y : Str), (∃ v3 v4 v5 v6, σ' = [some (.ref p), some (.int count), some (.ref G), v3, v4, v5, v6]) → NmS H H'' p G b (ns ++ [y]) → D.nx σ' H'') → t D [some (.ref p), some (.int count), some (.ref G), v3, some (.str x), v5, v6] H' := by
  refine ⟨_, pss_cons (ps_for PassesOwn.never rfl (pi_tup (pe_tup (pa_cons pe_str (pa_cons pe_str (pa_cons pe_str (pa_cons pe_str (pa_cons pe_str (pa_cons pe_str pa_nil)))))))) (pg_name (i := 6) scLm.nd rfl (Or.inl rfl))
      (pss_one (ps_if (pt_cmpR op_in_seq (pv 4) (pv 2) (by rfl)) (pss_one (ps_set (i := 4) scLm.nd rfl (Or.inl rfl) (pv 6))) pss_nil)))
    (pss_one (ps_expr (pe_bm PySem.F.plainAttrs_list PySem.F.slot_list_append PySem.F.type_list_append mt_append (pv 2) (pa_cons (pv 4) pa_nil)))), fun D p G count b ns x v3 v5 v6 H' P0 S h4 hx k => ?_⟩
  refine ⟨(by show 6 ≤ sizeLine; decide), fun tp htp => ?_⟩
  have s1 := same_upd (o := .tup (OTH.map V.str)) htp
  have S1 := S.kp' P0 (S.pool.same s1) (Kp.same s1)
  refine ⟨tp, rfl, ⟨OTH.map V.str, SqT.of upd_same⟩, for_tup (xs := OTH.map V.str) (fun i σ H2 => (∃ v6, σ = [some (.ref p), some (.int count), some (.ref G), v3, some (.str (alt ns x (OTH.take i))), v5, v6]) ∧ H2 = upd H' tp (.tup (OTH.map V.str))) ⟨⟨_, rfl⟩, rfl⟩ ?_ ?_ ?_⟩
  · rintro i σ H2 hi ⟨_, rfl⟩
    exact SqT.of upd_same
  · rintro i v σ H2 hv ⟨⟨v6, rfl⟩, rfl⟩
    rw [List.getElem?_map] at hv
    obtain ⟨o, ho, rfl⟩ := Option.map_eq_some_iff.mp hv
    have ea := alt_take (ns := ns) (x := x) ho
    refine ⟨_, rfl, _, rfl, G, _, rfl, .inl (SqL.of S1.at_), rfl, flat_strs _, ?_⟩
    rw [if_neg Bool.false_ne_true, inV_str]
    refine ⟨_, rfl, ?_⟩
    cases e : ns.contains (alt ns x (OTH.take i)) with
    | true =>
      rw [e, if_pos rfl] at ea
      exact iteT ⟨_, rfl, ⟨_, by rw [ea]; rfl⟩, rfl⟩
    | false =>
      rw [e, if_neg Bool.false_ne_true] at ea
      exact iteF ⟨⟨_, by rw [ea]; rfl⟩, rfl⟩
  · rintro σ H2 ⟨⟨v6, rfl⟩, rfl⟩
    have et : OTH.take (OTH.map V.str).length = OTH := by rw [List.length_map, List.take_length]
    refine ⟨_, rfl, .inl ⟨rfl, _, SqL.of S1.at_⟩, _, rfl, G, _, _, rfl, rfl, S1.at_, ?_, k _ _ (alt ns x OTH) ⟨_, _, _, _, rfl⟩ ⟨?_, ?_, S.gn, ?_, ?_, ?_⟩⟩
    · rw [List.length_map]
      exact Nat.lt_of_le_of_lt h4 (by decide)
    · exact PoolAt.own P0 S.gn S1.kp S1.pool
    · exact Kp.own P0 S.gn S1.kp
    · rw [upd_same, et, List.map_append]
      rfl
    · intro y hy
      rcases List.mem_append.mp hy with e | e
      · exact S.ok y e
      · rw [List.mem_singleton.mp e]
        exact alt_ok ns OTH x hx oth_ok
    · refine List.nodup_append.mpr ⟨S.nd, by simp, fun a ha c hc e => ?_⟩
      rw [List.mem_singleton.mp hc] at e
      exact alt_new h4 x (by rw [← e]; exact ha)
theorem nm2 {f : Addr} {cdv : Value} {A : Around} {outer : List Env} {s : Shared} {H : Hp} {E : XK} (hr : Room 1 (A.deeper (envOfC "_law_names" (defScope sNames) s.heap.objs.size f cdv))) : ∃ t, PSs (cxOf CX0 P w K mg base ["pool", "count", "names", "k", "name", "turn", "other"] "_law_names" (defScope sNames) f cdv A outer s H E).nox (nmBody.drop 2) t ∧
    ∀ (D : Ends) (p G : Addr) (count b : Int) (ns : List Str) (x : Str) (v3 v5 v6 : Option V) (H' : Hp), PoolAt H p b → NmS H H' p G b ns → ns.length ≤ 4 → preB x → (∀ (σ' : L2.St) (H'' : Hp) (y : Str), (∃ v3 v4 v5 v6, σ' = [some (.ref p), some (.int count), some (.ref G), v3, v4, v5, v6]) → NmS H H'' p G b (ns ++ [y]) → D.nx σ' H'') → t D [some (.ref p), some (.int count), some (.ref G), v3, some (.str x), v5, v6] H' := by
  obtain ⟨t, ht, rest⟩ := nm3 (outer := outer) (H := H) (E := E) hr
  refine ⟨_, pss_cons (ps_if (pt_cmpR op_in_seq (pv 4) (pe_tup (pa_cons pe_str (pa_cons pe_str (pa_cons pe_str (pa_cons pe_str (pa_cons pe_str (pa_cons pe_str (pa_cons pe_str (pa_cons pe_str (pa_cons pe_str (pa_cons pe_str (pa_cons pe_str (pa_cons pe_str (pa_cons pe_str (pa_cons pe_str pa_nil))))))))))))))) (by rfl)) (pss_one (ps_set (i := 4) scLm.nd rfl (Or.inl rfl) pe_str)) pss_nil) ht, fun D p G count b ns x v3 v5 v6 H' P0 S h4 hx k => ?_⟩
  refine ⟨_, rfl, (by show 14 ≤ sizeLine; decide), fun tp htp => ⟨tp, _, rfl, .inr (SqT.of upd_same), rfl, rfl, ?_⟩⟩
  have s1 := same_upd (o := .tup (KEYS.map V.str)) htp
  have S1 := S.kp' P0 (S.pool.same s1) (Kp.same s1)
  rw [if_neg Bool.false_ne_true, show inV (.str x) [V.str ("var" : Str), V.str ("set" : Str), V.str ("draw" : Str), V.str ("choose" : Str), V.str ("come" : Str), V.str ("show" : Str), V.str ("chooser" : Str), V.str ("comer" : Str), V.str ("pay" : Str), V.str ("take" : Str), V.str ("if" : Str), V.str ("else" : Str), V.str ("end" : Str), V.str ("mod" : Str)] = KEYS.contains x from inV_str x KEYS]
  refine ⟨_, rfl, ?_⟩
  cases e : KEYS.contains x with
  | true => exact iteT (rest D p G count b ns "q" v3 v5 v6 _ P0 S1 h4 q_ok k)
  | false => exact iteF (rest D p G count b ns x v3 v5 v6 _ P0 S1 h4 (name_of hx e) k)
theorem let_len : LET.length = 26 := by decide +kernel
theorem nmturn {f : Addr} (T : TxL mg) (D1 : Fn0 P w K mg base 1 "_law_draw" ["pool", "size"] spDraw fD dD) {cdv : Value} {A : Around} {outer : List Env} {s : Shared} {H : Hp} {E : XK} (hr : Room 1 (A.deeper (envOfC "_law_names" (defScope sNames) s.heap.objs.size f cdv))) : ∃ t, PSs (cxOf CX0 P w K mg base ["pool", "count", "names", "k", "name", "turn", "other"] "_law_names" (defScope sNames) f cdv A outer s H E).nox nmBody t ∧
    ∀ (D : Ends) (p G : Addr) (count b : Int) (ns : List Str) (v3 v4 v5 v6 : Option V) (H' : Hp), PoolAt H p b → NmS H H' p G b ns → ns.length ≤ 4 → (∀ (σ' : L2.St) (H'' : Hp) (y : Str), (∃ v3 v4 v5 v6, σ' = [some (.ref p), some (.int count), some (.ref G), v3, v4, v5, v6]) → NmS H H'' p G b (ns ++ [y]) → D.nx σ' H'') → t D [some (.ref p), some (.int count), some (.ref G), v3, v4, v5, v6] H' := by
  obtain ⟨t, ht, rest⟩ := nm2 (outer := outer) (H := H) (E := E) hr
  refine ⟨_, pss_cons (ps_set (i := 4) scLm.nd rfl (Or.inl rfl) (pe_ix ix_tup (pe_tup (pa_cons pe_str (pa_cons pe_str (pa_cons pe_str (pa_cons pe_str (pa_cons pe_str (pa_cons pe_str (pa_cons pe_str (pa_cons pe_str (pa_cons pe_str (pa_cons pe_str pa_nil))))))))))) (pe_call D1.ok hr (by rfl) D1.gl D1.kp D1.bd .nil pass0 (pa_cons (pv 0) (pa_cons pe_int pa_nil))) (fun _ _ => rfl)))
    (pss_cons (ps_if (pt_cmpR op_eq (pe_call D1.ok hr (by rfl) D1.gl D1.kp D1.bd .nil pass0 (pa_cons (pv 0) (pa_cons pe_int pa_nil))) pe_int (nomark _))
      (pss_cons (ps_set (i := 4) scLm.nd rfl (Or.inl rfl) pe_str)
      (pss_one (ps_for PassesOwn.never rfl (pi_range1 rfl T.range (pa_cons (pe_op op_add pe_int (pe_call D1.ok hr (by rfl) D1.gl D1.kp D1.bd .nil pass0 (pa_cons (pv 0) (pa_cons pe_int pa_nil)))) pa_nil)) (pg_name (i := 5) scLm.nd rfl (Or.inl rfl))
        (pss_one (ps_set (i := 4) scLm.nd rfl (Or.inl rfl) (pe_op op_add_str (pv 4) (pe_ix ix_str pe_str (pe_call D1.ok hr (by rfl) D1.gl D1.kp D1.bd .nil pass0 (pa_cons (pv 0) (pa_cons pe_int pa_nil))) (fun _ _ => rfl)))))))) pss_nil) ht), fun D p G count b ns v3 v4 v5 v6 H' P0 S h4 k => ?_⟩
  refine ⟨(by show 10 ≤ sizeLine; decide), fun tp htp => ?_⟩
  have s1 := same_upd (o := .tup (FIX.map V.str)) htp
  have S1 := S.kp' P0 (S.pool.same s1) (Kp.same s1)
  refine ⟨_, rfl, p, 10, b, rfl, S1.pool, by decide, by decide, fun j H2 j0 j1 P2 k2 => ?_⟩
  have e2 : H2 tp = some (.tup (FIX.map V.str)) := k2 _ _ upd_same (S.pool.ne0 htp)
  obtain ⟨x, hx, ex⟩ := atS (xs := FIX) j0 j1
  have S2 := S1.kp' P0 P2 k2
  refine ⟨tp, _, _, _, rfl, rfl, SqT.of e2, ex, ?_⟩
  refine ⟨_, rfl, p, 3, b, rfl, P2, by decide, by decide, fun j2 H3 _ _ P3 k3 => ⟨rfl, _, rfl, ite2 (fun _ => ?_) (fun _ => rest D p G count b ns x v3 v5 v6 _ P0 (S2.kp' P0 P3 k3) h4 (pre_of (fix_ok x hx)) k)⟩⟩
  have S3 := S2.kp' P0 P3 k3
  refine ⟨_, rfl, p, 8, b, rfl, P3, by decide, by decide, fun n H4 n0 n1 P4 k4 => ⟨_, _, rfl, rfl, 1 + n, rfl, by omega, by omega, for_range (lo := 0) (n := (1 + n).toNat) (fun i σ H5 => (∃ (y : Str) (v5 : Option V), σ = [some (.ref p), some (.int count), some (.ref G), v3, some (.str y), v5, v6] ∧ y.length = i ∧ ∀ c ∈ y.cps.toList, c ∈ LET.cps.toList) ∧ NmS H H5 p G b ns) ?_ ?_ ?_⟩⟩
  · exact ⟨⟨"", _, rfl, by decide +kernel, fun c hc => by rw [show ("" : Str).cps.toList = [] by decide +kernel] at hc; cases hc⟩, S3.kp' P0 P4 k4⟩
  · rintro i σ H5 hi ⟨⟨y, v5, rfl, hy, hc⟩, S5⟩
    refine ⟨_, rfl, _, rfl, p, 26, b, rfl, S5.pool, by decide, by decide, fun m H6 m0 m1 P6 k6 => ?_⟩
    obtain ⟨j, rfl⟩ : ∃ j : Nat, m = (j : Int) := ⟨m.toNat, by omega⟩
    have hj : j < LET.cps.toList.length := by
      have : LET.cps.toList.length = 26 := by decide +kernel
      omega
    refine ⟨LET, _, LET.cps.toList[j], rfl, rfl, by decide +kernel, atI_nat (List.getElem?_eq_getElem hj), y, ⟨#[LET.cps.toList[j]]⟩, rfl, rfl, ?_, ⟨y ++ ⟨#[LET.cps.toList[j]]⟩, _, rfl, ?_, ?_⟩, S5.kp' P0 P6 k6⟩
    · rw [hy]
      show i + 1 ≤ sizeLine
      exact Nat.le_trans (show i + 1 ≤ 100 by omega) (by decide)
    · rw [Str.length_append, hy]
      rfl
    · intro c h
      rw [Str.cps_append] at h
      rw [Array.toList_append] at h
      rcases List.mem_append.mp h with h | h
      · exact hc c h
      · have : c = LET.cps.toList[j] := by simpa using h
        rw [this]
        exact List.getElem_mem hj
  · rintro σ H5 ⟨⟨y, v5, rfl, hy, hc⟩, S5⟩
    exact rest D p G count b ns y v3 v5 v6 _ P0 S5 h4 ⟨by omega, by omega, made_of hc⟩ k
theorem ok_names {f : Addr} {fd : FuncData} (F : Fun K "_law_names" "_law_names" sNames f fd) (T : TxL mg) (D1 : Fn0 P w K mg base 1 "_law_draw" ["pool", "size"] spDraw fD dD) : FnOk P w K mg base CX0 2 f fd ["pool", "count"] spNm := by
  refine F.ok scLm (fun vs H Q E h => ?_) (fun cdv A outer s H vs Q E hr h => ?_)
  · obtain ⟨p, count, b, rfl, _⟩ := h
    rfl
  · obtain ⟨p, count, b, rfl, P0, c0, c5, q⟩ := h
    obtain ⟨t, ht, turn⟩ := nmturn (outer := outer) (H := H) (E := E) T D1 hr
    refine ⟨_, pss_cons (ps_set (i := 2) scLm.nd rfl (Or.inl rfl) (pe_lst pa_nil))
      (pss_cons (ps_for PassesOwn.never rfl (pi_range1 rfl T.range (pa_cons (pv 1) pa_nil)) (pg_name (i := 3) scLm.nd rfl (Or.inl rfl)) ht)
      (pss_one (ps_ret (pv 2)))), ?_⟩
    refine ⟨Nat.zero_le _, fun G hG => ?_⟩
    have s0 := same_upd (o := .lst []) hG
    refine ⟨_, rfl, count, rfl, by omega, by omega, for_range (lo := 0) (n := count.toNat) (fun i σ H5 => (∃ v3 v4 v5 v6, σ = [some (.ref p), some (.int count), some (.ref G), v3, v4, v5, v6]) ∧ ∃ ns : List Str, ns.length = i ∧ NmS H H5 p G b ns) ?_ ?_ ?_⟩
    · exact ⟨⟨_, _, _, _, rfl⟩, [], rfl, ⟨P0.same s0, Kp.same s0, hG, upd_same, fun x hx => (nomatch hx), .nil⟩⟩
    · rintro i σ H5 hi ⟨⟨v3, v4, v5, v6, rfl⟩, ns, hl, S⟩
      refine turn _ p G count b ns _ v4 v5 v6 H5 P0 S (by omega) fun σ' H6 y hσ S6 => ⟨hσ, ns ++ [y], ?_, S6⟩
      rw [List.length_append, hl]
      rfl
    · rintro σ H5 ⟨⟨v3, v4, v5, v6, rfl⟩, ns, hl, S⟩
      exact ⟨_, rfl, q G ns H5 S.kp S.pool hG S.at_ (by omega) S.ok S.nd⟩
end
end K1

set_option Elab.async false
set_option linter.all false
set_option maxRecDepth 100000
set_option maxHeartbeats 1000000
namespace K1
open PySem PySem.Spec PyProof.Rows L2 Kx
/-- a game as the law draws it -/
structure GmOk (xs : List (Str × Int)) (b : Bk) : Prop where
  n5 : xs.length ≤ 5
  nm : ∀ x ∈ xs.map (·.1), nameB x = true
  nd : (xs.map (·.1)).Nodup
  sz : ∀ p ∈ xs, 1 ≤ p.2 ∧ p.2 ≤ 65535
  vl : b.vl (xs.map (·.1)) 4 0
  chs : b.chs ≤ 10
  cnt : b.cnt ≤ 14
def gameD (xs : List (Str × Int)) (b : Bk) : PyData := .tuple [.tuple (varsD xs), .tuple b.ds]
def spGm : Sp := fun vs H Q _ => ∃ (p : Addr) (b : Int), vs = [.ref p, .int 4, .int 8] ∧ PoolAt H p b ∧ ∀ (v : V) (xs : List (Str × Int)) (bk : Bk) (b' : Int) (H' : Hp), GmOk xs bk → PoolAt H' p b' → Kp p H H' → Dt H' v (gameD xs bk) → Q v H'
theorem ix_tupK {X : Cx} {K : PySem.W.Frag} (h : X.K = K) : IxR X (rIxT K) := by
  subst h
  exact ix_tup
theorem ix_listK {X : Cx} {K : PySem.W.Frag} (h : X.K = K) : IxR X (rIxL K) := by
  subst h
  exact ix_list
section
variable {P : Program} {w : World} {K : PySem.W.Frag} {mg : Str → Option Value} {base : Heap} {fD fM fN fB : Addr} {dD dM dN dB : FuncData}
theorem scGm : FnScope ["pool", "moves", "most", "names", "variables", "scope", "k", "row"] ["pool", "moves", "most"] (defScope sGame) := ⟨rfl, rfl, rfl, by decide +kernel, rfl, by decide +kernel, by decide +kernel⟩
theorem ok_game {f : Addr} {fd : FuncData} (F : Fun K "_law_game" "_law_game" sGame f fd) (T : TxL mg) (D1 : Fn0 P w K mg base 1 "_law_draw" ["pool", "size"] spDraw fD dD) (M1 : Fn0 P w K mg base 2 "_law_number" ["pool"] spNum fM dM)
    (N1 : Fn0 P w K mg base 2 "_law_names" ["pool", "count"] spNm fN dN) (B1 : Fn0 P w K mg base 18 "_law_block" ["pool", "scope", "room", "most"] (spBlo 4) fB dB) : FnOk P w K mg base CX0 19 f fd ["pool", "moves", "most"] spGm := by
  refine F.ok scGm (fun vs H Q E h => ?_) (fun cdv A outer s H vs Q E hr h => ?_)
  · obtain ⟨p, b, rfl, _⟩ := h
    rfl
  · obtain ⟨p, b, rfl, P0, q⟩ := h
    have hr1 : Room 1 _ := hr.mono (by decide)
    have hr2 : Room 2 _ := hr.mono (by decide)
    refine ⟨_, pss_cons (ps_set (i := 3) scGm.nd rfl (Or.inr rfl) (pe_call N1.ok hr2 (by rfl) N1.gl N1.kp N1.bd .nil pass0 (pa_cons (pv 0) (pa_cons (pe_call D1.ok hr1 (by rfl) D1.gl D1.kp D1.bd .nil pass0 (pa_cons (pv 0) (pa_cons pe_int pa_nil))) pa_nil))))
      (pss_cons (ps_setLc (i := 4) (own := [("k", 6)]) (g := gName 6) (tt := tYes) rfl scGm.nd rfl rfl (sw_true rfl rfl rfl (by decide +kernel)) (pi_range1 rfl T.range (pa_cons (pe_callB call_len_seq (by rfl) T.len PySem.boot_len (pa_cons (pv 3) pa_nil)) pa_nil)) (blkOk_by (N := ["pool", "moves", "most", "names", "variables", "scope", "k", "row"]) (sc := defScope sGame) (by decide +kernel))
        (fun _ _ _ _ _ => pg_name (i := 6) scGm.nd rfl (Or.inl rfl)) (fun _ _ _ _ _ => pts_nil) (fun _ _ _ _ _ => (pe_tup (pa_cons (pe_ix (ix_listK (K := K) rfl) (pv 3) (pv 6) (fun _ _ => rfl)) (pa_cons (pe_op op_add pe_int (pe_ix (ix_tupK (K := K) rfl) (pe_tup (pa_cons (pe_call D1.ok hr1 (by rfl) D1.gl D1.kp D1.bd .nil pass0 (pa_cons (pv 0) (pa_cons pe_int pa_nil))) (pa_cons (pe_call D1.ok hr1 (by rfl) D1.gl D1.kp D1.bd .nil pass0 (pa_cons (pv 0) (pa_cons pe_int pa_nil))) (pa_cons (pe_op op_fdivN (pe_call M1.ok hr2 (by rfl) M1.gl M1.kp M1.bd .nil pass0 (pa_cons (pv 0) pa_nil)) pe_int) pa_nil)))) (pe_call D1.ok hr1 (by rfl) D1.gl D1.kp D1.bd .nil pass0 (pa_cons (pv 0) (pa_cons pe_int pa_nil))) (fun _ _ => rfl))) pa_nil)))))
      (pss_cons (ps_set (i := 5) scGm.nd rfl (Or.inl rfl) (pe_disp (pps_cons pe_str (pe_lc (own := [("row", 7)]) (g := gName 7) (tt := tYes) rfl scGm.nd (pi_list (pv 4)) (blkOk_by (N := ["pool", "moves", "most", "names", "variables", "scope", "k", "row"]) (sc := defScope sGame) (by decide +kernel)) (fun _ _ _ _ _ => pg_name (i := 7) scGm.nd rfl (Or.inl rfl)) (fun _ _ _ _ _ => pts_nil) (fun _ _ _ _ _ => pe_ix (ix_tupK (K := K) rfl) (pv 7) pe_int (fun _ _ => rfl))) (pps_cons pe_str (pv 1) (pps_cons pe_str (pv 1) (pps_cons pe_str (pe_op op_add pe_int (pe_op op_fdivN (pv 1) pe_int)) (pps_cons pe_str (pv 2) (pps_cons pe_str pe_int pps_nil)))))) (by rfl) (by rfl) (fun z => by cases z) (by decide)))
      (pss_cons (ps_asg pe_int (pg_sub (pv 0) pe_int set_list))
      (pss_one (ps_ret (pe_tup (pa_cons (pe_callTy call_tuple_of (by rfl) T.tuple (by decide +kernel) (pa_cons (pv 4) pa_nil)) (pa_cons (pe_call B1.ok hr (by rfl) B1.gl B1.kp B1.bd .nil pass0 (pa_cons (pv 0) (pa_cons (pv 5) (pa_cons pe_int (pa_cons pe_int pa_nil))))) pa_nil)))))))), ?_⟩
    refine ⟨_, rfl, _, rfl, p, 6, b, rfl, P0, by decide, by decide, fun c H1 c0 c1 P1 k1 => ?_⟩
    refine ⟨p, c, b, rfl, P1, c0, by omega, fun nl ns H2 k2 P2 hnl enl hlen hok hnd => ?_⟩
    have k02 := k1.trans k2
    have hl5 : ns.length ≤ 5 := by omega
    have hnp : nl ≠ p := P1.ne0 hnl
    -- the variables
    refine ⟨_, rfl, nl, _, rfl, .inl (SqL.of enl), ((ns.map V.str).length : Int), rfl, by rw [List.length_map]; omega, by rw [List.length_map]; omega, fun D hD => ?_⟩
    have hDp : D ≠ p := P2.ne0 hD
    have s2 := same_upd (o := .lst []) hD
    refine lc_range (lo := 0) (n := ((ns.map V.str).length : Int).toNat) (fun i H' => ∃ (acc : List (Str × Int)) (vs : List V), acc.map (·.1) = ns.take i ∧ (∀ x ∈ acc, 1 ≤ x.2 ∧ x.2 ≤ 65535) ∧ H' D = some (.lst vs) ∧ DtAll H' vs (varsD acc) ∧ PoolAt H' p b ∧ Kp p H2 H') ?_ ?_ ?_
    · exact ⟨[], [], rfl, fun x hx => (nomatch hx), upd_same, .nil, P2.same s2, Kp.same s2⟩
    · rintro i H3 hi ⟨acc, vs, ha, hs, eD, da, P3, k3⟩
      rw [List.length_map] at hi
      have hi : i < ns.length := by omega
      have en3 := k3 _ _ enl hnp
      have hx : (ns.map V.str)[i]? = some (V.str ns[i]) := by rw [List.getElem?_map, List.getElem?_eq_getElem hi]; rfl
      refine ⟨rfl, tYesI ?_⟩
      refine ⟨_, rfl, _, rfl, nl, _, _, _, rfl, rfl, SqL.of en3, by rw [Int.zero_add]; exact atI_nat hx, ?_⟩
      refine ⟨_, rfl, p, 4, b, rfl, P3, by decide, by decide, fun x1 H4 x10 x11 P4 k4 => ⟨_, rfl, p, 4, b, rfl, P4, by decide, by decide, fun x2 H5 x20 x21 P5 k5 => ⟨_, rfl, p, b, rfl, P5, fun x3 H6 x30 x31 P6 k6 => ⟨_, _, rfl, rfl, ⟨by decide, by decide⟩, ?_⟩⟩⟩⟩
      have fd : x3.fdiv 2 = x3 / 2 := Int.fdiv_eq_ediv_of_nonneg _ (by decide)
      refine ⟨(by show 3 ≤ sizeLine; decide), fun tp htp => ?_⟩
      have s6 := same_upd (o := .tup ([x1, x2, x3.fdiv 2].map V.int)) htp
      refine ⟨_, rfl, p, 3, b, rfl, P6.same s6, by decide, by decide, fun j H7 j0 j1 P7 k7 => ?_⟩
      have e7 : H7 tp = some (.tup ([x1, x2, x3.fdiv 2].map V.int)) := k7 _ _ upd_same (P6.ne0 htp)
      obtain ⟨z, hz, ez⟩ := atN (xs := [x1, x2, x3.fdiv 2]) j0 j1
      have hz2 : 0 ≤ z ∧ z ≤ 65534 := by
        simp only [List.mem_cons, List.not_mem_nil, or_false] at hz
        rcases hz with rfl | rfl | rfl <;> omega
      have k37 := ((k4.trans k5).trans k6).trans ((Kp.same s6).trans k7)
      refine ⟨tp, _, _, _, rfl, rfl, SqT.of e7, ez, _, _, rfl, rfl, (by show 2 ≤ sizeLine; decide), fun r hr' => ?_⟩
      have s8 := same_upd (o := .tup [.str ns[i], .int (1 + z)]) hr'
      have eD8 := s8 _ _ (k37 _ _ eD hDp)
      have lvs : vs.length ≤ 5 := by
        rw [da.length]
        unfold varsD
        rw [List.length_map, ← List.length_map (f := (·.1)) (as := acc), ha, List.length_take]
        omega
      have k38 : Kp p H2 _ := (k3.trans k37).trans (Kp.same s8)
      have t9 : Tk (upd H7 r (.tup [.str ns[i], .int (1 + z)])) (upd (upd H7 r (.tup [.str ns[i], .int (1 + z)])) D (.lst (vs ++ [.ref r]))) := fun a ys e => by
        rw [upd_ne (ne_of e eD8 (by intro z; cases z))]
        exact e
      refine ⟨vs, eD8, Nat.lt_of_le_of_lt lvs (by decide), acc ++ [(ns[i], 1 + z)], vs ++ [.ref r], ?_, ?_, upd_same, ?_, ?_, ?_⟩
      · rw [List.map_append, ha, List.take_add_one, List.getElem?_eq_getElem hi]
        rfl
      · intro x hx
        rcases List.mem_append.mp hx with e | e
        · exact hs x e
        · rw [List.mem_singleton.mp e]
          exact ⟨by show 1 ≤ 1 + z; omega, by show 1 + z ≤ 65535; omega⟩
      · unfold varsD
        rw [List.map_append]
        exact DtAll.snoc (DtAll.keep t9 (DtAll.keep (Tk.same s8) (DtAll.keep (Kp.tk P3 k37) da))) (.tup (t9 _ _ upd_same) (.cons (.str _) (.cons (.int _) .nil)))
      · exact PoolAt.own P2 hD k38 (P7.same s8)
      · exact Kp.own P2 hD k38
    · rintro H3 ⟨acc, vs, ha, hs, eD, da, P3, k3⟩
      have hn : ((ns.map V.str).length : Int).toNat = ns.length := by rw [List.length_map]; omega
      rw [hn, List.take_length] at ha
      have ls : vs.length = acc.length := by
        rw [da.length]
        exact List.length_map ..
      have la : acc.length = ns.length := by rw [← ha, List.length_map]
      -- the scope
      intro sc hsc
      have s4 := same_upd (o := .dK []) hsc
      have nDs : D ≠ sc := ne_of_none eD hsc
      have eDs := s4 _ _ eD
      refine ⟨_, rfl, D, rfl, ⟨vs, SqL.of eDs⟩, fun L hL => ?_⟩
      refine lc_list (K := K) (a := D) (xs := vs) (fun i H' => Same (upd H3 sc (.dK [])) H' ∧ H' L = some (.lst ((ns.take i).map V.str))) ⟨same_upd hL, upd_same⟩ (fun i H' _ ⟨s', _⟩ => SqL.of (s' _ _ eDs)) ?_ ?_
      · rintro i v H4 hv ⟨s5, eL⟩
        obtain ⟨d, hd, dv⟩ := da.get hv
        unfold varsD at hd
        rw [List.getElem?_map] at hd
        obtain ⟨pr, hp, rfl⟩ := Option.map_eq_some_iff.mp hd
        obtain ⟨a1, ys, rfl, ea1, da1⟩ := (Dt.keep (Tk.same (s4.trans s5)) dv).tupI
        obtain ⟨y0, y1, rfl, d0, d1⟩ := da1.c2
        obtain rfl := d0.strI
        have hm : ns[i]? = some pr.1 := by rw [← ha, List.getElem?_map, hp]; rfl
        refine ⟨rfl, tYesI ?_⟩
        refine ⟨_, rfl, a1, _, _, _, rfl, rfl, SqT.of ea1, tix0, (ns.take i).map V.str, eL, ?_, fun c o e => ?_, ?_⟩
        · rw [List.length_map, List.length_take]
          exact Nat.lt_of_le_of_lt (Nat.le_trans (Nat.min_le_right _ _) hl5) (by decide)
        · rw [upd_ne (ne_of_none e hL)]
          exact s5 _ _ e
        · rw [upd_same, List.take_add_one, hm, List.map_append]
          rfl
      · rintro H4 ⟨s5, eL⟩
        rw [ls, la, List.take_length] at eL
        refine ⟨_, rfl, _, rfl, _, rfl, _, _, rfl, rfl, ⟨by decide, by decide⟩, _, _, rfl, rfl, _, rfl, s5 _ _ upd_same, [(Sum.inr "names", .ref L), (Sum.inr "choose", .int 4), (Sum.inr "come", .int 4), (Sum.inr "draw", .int (1 + (4 : Int).fdiv 3)), (Sum.inr "most", .int 8), (Sum.inr "next", .int 0)], rfl, (by show 6 ≤ 15; decide), ?_⟩
        have s34 := s4.trans s5
        have P4 : PoolAt (upd H4 sc (.dK (Sc L 4 4 2 0))) p b := PoolAt.own P3 hsc (Kp.same s34) (P3.same s34)
        have k4 : Kp p H3 (upd H4 sc (.dK (Sc L 4 4 2 0))) := Kp.own P3 hsc (Kp.same s34)
        have nLs : L ≠ sc := fun e => by
          rw [e, upd_same] at hL
          cases hL
        have hL3 : H3 L = none := by
          rw [upd_ne nLs] at hL
          exact hL
        have nLp : L ≠ p := P3.ne0 hL3
        have nsp : sc ≠ p := P3.ne0 hsc
        obtain ⟨qq, cs, i0, c1', z0, t0, PV⟩ := P4
        refine ⟨_, rfl, p, _, _, _, rfl, rfl, PV.hp, l6_ix (k := 5) (j := 5) (by decide), ?_⟩
        have PV2 := PV.set (i' := i0) (c' := c1') (s' := z0) (t' := t0) (b' := 14) PV.i0 PV.s0 PV.s1
        have k5 := PV.kp (i' := i0) (c' := c1') (s' := z0) (t' := t0) (b' := 14)
        have k35 := k4.trans k5
        have eD6 := k35 _ _ eD hDp
        refine ⟨_, rfl, D, vs, rfl, .inl ⟨SqL.of eD6, fun tv htv => ?_⟩⟩
        have s7 := same_upd (o := .tup vs) htv
        have L7 : LS _ p sc L ns 14 4 4 2 0 := (LS.mk ⟨_, _, _, _, _, _, PV2⟩ (k5 _ _ upd_same nsp) (k5 _ _ (by rw [upd_ne nLs]; exact eL) nLp) nLp hl5 : LS _ p sc L ns 14 4 4 2 0).same s7
        refine ⟨_, rfl, _, rfl, p, sc, L, ns, 4, 9, 14, 4, 4, 2, 0, rfl, by decide, by decide, by decide, L7, fun v x H8 b8 C8 O8 D8 N8 hv hc hm hb L8 k8 d8 => ⟨(by show 2 ≤ sizeLine; decide), fun r hr' => ?_⟩⟩
        have s9 := same_upd (o := .tup [.ref tv, v]) hr'
        have lacc : acc.length ≤ 5 := by omega
        refine q (.ref r) acc x b8 _ ⟨lacc, by rw [ha]; exact hok, by rw [ha]; exact hnd, hs, by rw [ha]; exact hv, by omega, by have : (14 : Int).toNat = 14 := rfl; omega⟩ (L8.pool.same s9) ?_ ?_
        · have k03 := k02.trans k3
          refine Kp.trans k03 ⟨fun c o e h => s9 _ _ (k8 _ _ (s7 _ _ (k35 _ _ e h)) h (ne_of_none e hsc)), fun x r e => ?_⟩
          obtain ⟨r0, e0⟩ := k35.hd x r e
          obtain ⟨r1, e1⟩ := k8.hd x r0 (s7 _ _ e0)
          exact ⟨r1, s9 _ _ e1⟩
        · have et : H8 tv = some (.tup vs) := L7.tk k8 _ _ upd_same
          refine .tup upd_same (.cons (.tup (s9 _ _ et) ?_) (.cons (Dt.keep (Tk.same s9) d8) .nil))
          exact DtAll.keep (Tk.same s9) (DtAll.keep (L7.tk k8) (DtAll.keep (Tk.same s7) (DtAll.keep (Kp.tk P3 k35) da)))
end
end K1

set_option Elab.async false
set_option linter.all false
set_option maxRecDepth 100000
set_option maxHeartbeats 1000000
namespace K1
open PySem PySem.Spec PyProof.Rows L2 Kx
theorem call_str2 {X : Cx} : CallR X (.type "str") (fun xs H Q => (∃ i, xs = [.int i] ∧ i.natAbs.log2 < 1920 ∧ Q (.str (toString i)) H) ∨ ∃ a, xs = [.str a] ∧ Q (.str a) H) := by
  intro pins s σ H xs us Q I r h
  rcases h with h | h
  · exact call_str_int pins s σ H xs us Q I r h
  · exact SkE.call_str_str pins s σ H xs us Q I r h
def spVW (n : Nat) : Sp := fun vs H Q _ => ∃ (v : V) (e : Ex), vs = [v] ∧ Dt H v e.d ∧ e.okN ∧ e.dp ≤ n ∧ e.w.length ≤ 100000 ∧ WL e.w H Q
section
variable {P : Program} {w : World} {K : PySem.W.Frag} {mg : Str → Option Value} {base : Heap} {fV fB : Addr} {dV dB : FuncData}
theorem scVW : FnScope ["due"] ["due"] (defScope sVW) := ⟨rfl, rfl, rfl, by decide +kernel, rfl, by decide +kernel, by decide +kernel⟩
theorem leaf_vw {f : Addr} {fd : FuncData} {cdv : Value} {A : Around} {outer : List Env} {s : Shared} {H : Hp} {Q : VK} {E : XK} (T : TxL mg) :
    ∃ t, PS (cxOf CX0 P w K mg base ["due"] "_law_value_words" (defScope sVW) f cdv A outer s H E).nox ((defBody sVW).getD 0 (.Pass ⟨0, 0, 0, 0⟩)) t ∧
      ((∀ v x, Dt H v (Ex.num x).d → 0 ≤ x → x ≤ 65535 → WL [nt x] H Q → ∀ nx, t { nx := nx, rt := Q } [some v] H) ∧ (∀ v x, Dt H v (Ex.var x).d → WL [x] H Q → ∀ nx, t { nx := nx, rt := Q } [some v] H) ∧
        (∀ v o a b nx, Dt H v (Ex.op o a b).d → nx [some v] H → t { nx := nx, rt := Q } [some v] H)) := by
  refine ⟨_, ps_if (pt_cmpR op_eq (pe_callB call_len_seq (by rfl) T.len PySem.boot_len (pa_cons (pv 0) pa_nil)) pe_int (nomark _)) (pss_one (ps_ret (pe_lst (pa_cons (pe_callTy call_str2 (by rfl) T.str (by decide +kernel) (pa_cons (pe_ix ix_tup (pv 0) pe_int (fun _ _ => rfl)) pa_nil)) pa_nil)))) pss_nil, ?_, ?_, ?_⟩
  · intro v x hv h0 h1 q nx
    obtain ⟨a, xs, rfl, ea, da⟩ := hv.tupI
    obtain ⟨y, z, rfl, d1, d2⟩ := da.c2
    obtain rfl := d2.intI
    refine ⟨_, rfl, a, _, rfl, .inr (SqT.of ea), rfl, _, rfl, iteT ⟨_, rfl, a, _, _, _, rfl, rfl, SqT.of ea, tix1, .inl ⟨x, rfl, num_log h0 h1, (by show 1 ≤ sizeLine; decide), fun p hp => q p _ (same_upd hp) hp upd_same⟩⟩⟩
  · intro v x hv q nx
    obtain ⟨a, xs, rfl, ea, da⟩ := hv.tupI
    obtain ⟨y, z, rfl, d1, d2⟩ := da.c2
    obtain rfl := d2.strI
    refine ⟨_, rfl, a, _, rfl, .inr (SqT.of ea), rfl, _, rfl, iteT ⟨_, rfl, a, _, _, _, rfl, rfl, SqT.of ea, tix1, .inr ⟨x, rfl, (by show 1 ≤ sizeLine; decide), fun p hp => q p _ (same_upd hp) hp upd_same⟩⟩⟩
  · intro v o e1 e2 nx hv k
    obtain ⟨a, xs, rfl, ea, da⟩ := hv.tupI
    obtain ⟨y, z, u, rfl, d1, d2, d3⟩ := da.c3
    exact ⟨_, rfl, a, _, rfl, .inr (SqT.of ea), rfl, _, rfl, iteF k⟩
theorem ok_vw0 {f : Addr} {fd : FuncData} (F : Fun K "_law_value_words" "_law_value_words" sVW f fd) (T : TxL mg) : FnOk P w K mg base CX0 1 f fd ["due"] (spVW 0) := by
  refine F.ok scVW (fun vs H Q E h => ?_) (fun cdv A outer s H vs Q E hr h => ?_)
  · obtain ⟨v, e, rfl, _⟩ := h
    rfl
  · obtain ⟨v, e, rfl, hv, hn, hd, hw, q⟩ := h
    obtain ⟨t, ht, h1, h2, h3⟩ := leaf_vw (P := P) (w := w) (K := K) (mg := mg) (base := base) (f := f) (fd := fd) (cdv := cdv) (A := A) (outer := outer) (s := s) (H := H) (Q := Q) (E := E) T
    refine ⟨_, pss_cons ht (pss_one ps_never), ?_⟩
    cases e with
    | num x => exact h1 v x hv hn.1 hn.2 q _
    | var x => exact h2 v x hv q _
    | op o a b => exact absurd hd (by show ¬ max a.dp b.dp + 1 ≤ 0; omega)
theorem ok_vwS {f : Addr} {fd : FuncData} {k n : Nat} (F : Fun K "_law_value_words" "_law_value_words" sVW f fd) (T : TxL mg) (G : Fn0 P w K mg base k "_law_value_words" ["due"] (spVW n) f fd) : FnOk P w K mg base CX0 (k + 1) f fd ["due"] (spVW (n + 1)) := by
  refine F.ok scVW (fun vs H Q E h => ?_) (fun cdv A outer s H vs Q E hr h => ?_)
  · obtain ⟨v, e, rfl, _⟩ := h
    rfl
  · obtain ⟨v, e, rfl, hv, hn, hd, hw, q⟩ := h
    obtain ⟨t, ht, h1, h2, h3⟩ := leaf_vw (P := P) (w := w) (K := K) (mg := mg) (base := base) (f := f) (fd := fd) (cdv := cdv) (A := A) (outer := outer) (s := s) (H := H) (Q := Q) (E := E) T
    refine ⟨_, pss_cons ht (pss_one (ps_ret (pe_op op_cat (pe_op op_cat (pe_lst (pa_cons (pe_ix ix_tup (pv 0) pe_int (fun _ _ => rfl)) pa_nil)) (pe_call G.ok hr (by rfl) G.gl G.kp G.bd .nil pass0 (pa_cons (pe_ix ix_tup (pv 0) pe_int (fun _ _ => rfl)) pa_nil)))
      (pe_call G.ok hr (by rfl) G.gl G.kp G.bd .nil pass0 (pa_cons (pe_ix ix_tup (pv 0) pe_int (fun _ _ => rfl)) pa_nil))))), ?_⟩
    cases e with
    | num x => exact h1 v x hv hn.1 hn.2 q _
    | var x => exact h2 v x hv q _
    | op o e1 e2 =>
      refine h3 v o e1 e2 _ hv ?_
      obtain ⟨a, xs, rfl, ea, da⟩ := hv.tupI
      obtain ⟨x, y, z, rfl, d1, d2, d3⟩ := da.c3
      obtain rfl := d1.strI
      have hd' : max e1.dp e2.dp + 1 ≤ n + 1 := hd
      have hw' : (o :: (e1.w ++ e2.w)).length ≤ 100000 := hw
      rw [List.length_cons, List.length_append] at hw'
      refine ⟨_, rfl, a, _, _, _, rfl, rfl, SqT.of ea, tix0, (by show 1 ≤ sizeLine; decide), fun p1 hp1 => ?_⟩
      have s1 := same_upd (o := .lst [.str o]) hp1
      refine ⟨_, rfl, a, _, _, _, rfl, rfl, SqT.of (s1 _ _ ea), tix1, y, e1, rfl, Dt.keep (Tk.same s1) d2, hn.1, by omega, by omega, fun p2 H2 s2 np2 ep2 => ?_⟩
      refine ⟨p1, p2, _, _, rfl, rfl, s2 _ _ upd_same, ep2, ?_, fun p3 hp3 => ?_⟩
      · rw [List.length_map]
        show 1 + _ ≤ _
        exact sz (by omega)
      have s3 := same_upd (o := .lst ([.str o] ++ e1.w.map V.str)) hp3
      have s13 := (s1.trans s2).trans s3
      refine ⟨_, rfl, a, _, _, _, rfl, rfl, SqT.of (s13 _ _ ea), tix2, z, e2, rfl, Dt.keep (Tk.same s13) d3, hn.2, by omega, by omega, fun p4 H4 s4 np4 ep4 => ?_⟩
      refine ⟨p3, p4, _, _, rfl, rfl, s4 _ _ upd_same, ep4, ?_, fun p5 hp5 => ?_⟩
      · rw [List.length_append, List.length_map, List.length_map]
        show 1 + _ + _ ≤ _
        exact sz (by omega)
      refine q p5 _ ((s13.trans s4).trans (same_upd hp5)) ((s13.trans s4).free hp5) ?_
      rw [upd_same]
      show some (HO.lst ((V.str o :: e1.w.map V.str) ++ e2.w.map V.str)) = some (HO.lst ((o :: (e1.w ++ e2.w)).map V.str))
      rw [List.map_cons, List.map_append]
      rfl
end
end K1

set_option Elab.async false
set_option linter.all false
set_option maxRecDepth 100000
set_option maxHeartbeats 1000000
namespace K1
open PySem PySem.Spec PyProof.Rows L2 Kx
def ifElse : Stmt → List Stmt
  | .If _ _ e _ => e
  | _ => []
abbrev blIf : Stmt := (forBody ((defBody sBlW).getD 1 (.Pass ⟨0, 0, 0, 0⟩))).getD 0 (.Pass ⟨0, 0, 0, 0⟩)
/-- the words so far, in a list of its own -/
def WsAt (H0 : Hp) (a : Addr) (W : List Str) (σ : L2.St) (H : Hp) : Prop := ∃ L v2, σ = [some (.ref a), some (.ref L), v2] ∧ Same H0 H ∧ H0 L = none ∧ H L = some (.lst (W.map V.str))
theorem cutLast (xs : List V) (x : V) (h : xs ≠ []) : cutV (xs ++ [x]) none (some (-1)) = xs := by
  unfold cutV
  have h1 : HT.sIx (xs ++ [x]).length 0 none = 0 := rfl
  have h2 : HT.sIx (xs ++ [x]).length (xs ++ [x]).length (some (-1)) = xs.length := by
    show ((-1 : Int) + ((xs ++ [x]).length : Int)).toNat = xs.length
    rw [List.length_append, List.length_singleton]
    omega
  rw [h1, h2, List.drop_zero, Nat.sub_zero]
  simp
section
variable {P : Program} {w : World} {K : PySem.W.Frag} {mg : Str → Option Value} {base : Heap} {fV fB : Addr} {dV dB : FuncData}
theorem scBL : FnScope ["block", "words", "due"] ["block"] (defScope sBlW) := ⟨rfl, rfl, rfl, by decide +kernel, rfl, by decide +kernel, by decide +kernel⟩
theorem ch3 : inV (.str ("draw" : Str)) [.str ("draw" : Str), .str ("choose" : Str), .str ("come" : Str)] = true ∧ inV (.str ("choose" : Str)) [.str ("draw" : Str), .str ("choose" : Str), .str ("come" : Str)] = true ∧ inV (.str ("come" : Str)) [.str ("draw" : Str), .str ("choose" : Str), .str ("come" : Str)] = true ∧
    inV (.str ("set" : Str)) [.str ("draw" : Str), .str ("choose" : Str), .str ("come" : Str)] = false ∧ inV (.str ("show" : Str)) [.str ("draw" : Str), .str ("choose" : Str), .str ("come" : Str)] = false ∧ inV (.str ("pay" : Str)) [.str ("draw" : Str), .str ("choose" : Str), .str ("come" : Str)] = false ∧ inV (.str ("take" : Str)) [.str ("draw" : Str), .str ("choose" : Str), .str ("come" : Str)] = false := by decide +kernel
theorem bl_rest {n k : Nat} (hk : 6 ≤ k) {f : Addr} (T : TxL mg) (V1 : Fn0 P w K mg base 6 "_law_value_words" ["due"] (spVW 5) fV dV) {cdv : Value} {A : Around} {outer : List Env} {s : Shared} {H : Hp} {E : XK} (hr : Room k (A.deeper (envOfC "_law_block_words" (defScope sBlW) s.heap.objs.size f cdv))) :
    ∃ t, PSs (cxOf CX0 P w K mg base ["block", "words", "due"] "_law_block_words" (defScope sBlW) f cdv A outer s H E).nox (ifElse blIf) t ∧
      ∀ (D : Ends) (a L : Addr) (W : List Str) (v : V) (x : Sm) (H' : Hp), Same H H' → H L = none → H' L = some (.lst (W.map V.str)) → Dt H' v x.d → x.ok n → (∀ e p q, x ≠ .ifs e p q) → W.length + x.w.length ≤ 100000 →
        (∀ σ' H'', WsAt H a (W ++ x.w) σ' H'' → D.nx σ' H'') → t D [some (.ref a), some (.ref L), some v] H' := by
  have hr6 : Room 6 _ := hr.mono hk
  refine ⟨_, pss_one (ps_if (pt_cmpR op_in_seq (pe_ix ix_tup (pv 2) pe_int (fun _ _ => rfl)) (pe_tup (pa_cons pe_str (pa_cons pe_str (pa_cons pe_str pa_nil)))) (by rfl))
      (pss_one (ps_set (i := 1) scBL.nd rfl (Or.inl rfl) (pe_op op_cat (pv 1) (pe_lst (pa_cons (pe_ix ix_tup (pv 2) pe_int (fun _ _ => rfl)) (pa_cons (pe_ix ix_tup (pv 2) pe_int (fun _ _ => rfl)) (pa_cons (pe_callTy call_str_int (by rfl) T.str (by decide +kernel) (pa_cons (pe_ix ix_tup (pv 2) pe_int (fun _ _ => rfl)) pa_nil)) pa_nil)))))))
      (pss_one (ps_set (i := 1) scBL.nd rfl (Or.inl rfl) (pe_op op_cat (pe_op op_cat (pv 1) (pe_callTy call_list_of (by rfl) T.list (by decide +kernel) (pa_cons (pe_slice sl_tup (pv 2) po_none (po_some (pe_un un_neg pe_int))) pa_nil))) (pe_call V1.ok hr6 (by rfl) V1.gl V1.kp V1.bd .nil pass0 (pa_cons (pe_ix ix_tup (pv 2) (pe_un un_neg pe_int) (fun _ _ => rfl)) pa_nil)))))), ?_⟩
  intro D a L W v x H' s1 hL eL hv ho hx hw k
  have cs : (∃ a1 kd kr ve e, v = .ref a1 ∧ H' a1 = some (.tup ((kd :: kr).map V.str ++ [ve])) ∧ inV (.str kd) [.str ("draw" : Str), .str ("choose" : Str), .str ("come" : Str)] = false ∧ Dt H' ve (Ex.d e) ∧ e.okE ∧ x.w = (kd :: kr) ++ e.w) ∨
      (∃ a1 kd y m more, v = .ref a1 ∧ H' a1 = some (.tup (.str kd :: .str y :: .int m :: more)) ∧ inV (.str kd) [.str ("draw" : Str), .str ("choose" : Str), .str ("come" : Str)] = true ∧ 0 ≤ m ∧ m ≤ 65535 ∧ x.w = [kd, y, nt m]) := by
    cases x with
    | ifs e p q => exact absurd rfl (hx e p q)
    | set y e =>
      obtain ⟨a1, xs, rfl, ea, da⟩ := hv.tupI
      obtain ⟨y0, y1, y2, rfl, d0, d1, d2⟩ := da.c3
      obtain rfl := d0.strI
      obtain rfl := d1.strI
      exact .inl ⟨a1, "set", [y], y2, e, rfl, ea, ch3.2.2.2.1, d2, ho, rfl⟩
    | show_ y e =>
      obtain ⟨a1, xs, rfl, ea, da⟩ := hv.tupI
      obtain ⟨y0, y1, y2, rfl, d0, d1, d2⟩ := da.c3
      obtain rfl := d0.strI
      obtain rfl := d1.strI
      exact .inl ⟨a1, "show", [y], y2, e, rfl, ea, ch3.2.2.2.2.1, d2, ho, rfl⟩
    | pay kd e =>
      obtain ⟨a1, xs, rfl, ea, da⟩ := hv.tupI
      obtain ⟨y0, y1, rfl, d0, d1⟩ := da.c2
      obtain rfl := d0.strI
      refine .inl ⟨a1, kd, [], y1, e, rfl, ea, ?_, d1, ho.2, rfl⟩
      rcases ho.1 with rfl | rfl
      · exact ch3.2.2.2.2.2.1
      · exact ch3.2.2.2.2.2.2
    | draw y m =>
      obtain ⟨a1, xs, rfl, ea, da⟩ := hv.tupI
      obtain ⟨y0, y1, y2, rfl, d0, d1, d2⟩ := da.c3
      obtain rfl := d0.strI
      obtain rfl := d1.strI
      obtain rfl := d2.intI
      exact .inr ⟨a1, "draw", y, m, [], rfl, ea, ch3.1, ho.1, ho.2, rfl⟩
    | move kd y m j =>
      obtain ⟨a1, xs, rfl, ea, da⟩ := hv.tupI
      obtain ⟨y0, y1, y2, y3, rfl, d0, d1, d2, d3⟩ := da.c4
      obtain rfl := d0.strI
      obtain rfl := d1.strI
      obtain rfl := d2.intI
      refine .inr ⟨a1, kd, y, m, [y3], rfl, ea, ?_, ho.2.1, ho.2.2, rfl⟩
      rcases ho.1 with rfl | rfl
      · exact ch3.2.1
      · exact ch3.2.2.1
  rcases cs with ⟨a1, kd, kr, ve, e, rfl, ea, hi, de, he, hxw⟩ | ⟨a1, kd, y, m, more, rfl, ea, hi, m0, m1, hxw⟩
  · rw [hxw, List.length_append, List.length_cons] at hw
    refine ⟨_, rfl, a1, _, _, _, rfl, rfl, SqT.of ea, tix0, (by show 3 ≤ sizeLine; decide), fun tp htp => ⟨tp, _, rfl, .inr (SqT.of upd_same), rfl, rfl, ?_⟩⟩
    have s2 := same_upd (o := .tup [.str ("draw" : Str), .str ("choose" : Str), .str ("come" : Str)]) htp
    rw [if_neg Bool.false_ne_true, hi]
    refine ⟨_, rfl, iteF ?_⟩
    refine ⟨_, rfl, _, rfl, _, rfl, _, rfl, a1, _, rfl, SqT.of (s2 _ _ ea), ?_, fun p1 hp1 => ?_⟩
    · rintro ⟨_, h2⟩
      have h3 : HT.sIx ((kd :: kr).map V.str ++ [ve]).length ((kd :: kr).map V.str ++ [ve]).length (some (-1)) = ((kd :: kr).map V.str).length := by
        show ((-1 : Int) + (((kd :: kr).map V.str ++ [ve]).length : Int)).toNat = _
        rw [List.length_append, List.length_singleton]
        omega
      have h2 : HT.sIx ((kd :: kr).map V.str ++ [ve]).length ((kd :: kr).map V.str ++ [ve]).length (some (-1)) = ((kd :: kr).map V.str ++ [ve]).length := h2
      rw [h3, List.length_append, List.length_singleton] at h2
      omega
    have s3 := same_upd (o := .tup (cutV ((kd :: kr).map V.str ++ [ve]) none (some (-1)))) hp1
    refine ⟨p1, _, rfl, .inr (SqT.of upd_same), fun l hl => ?_⟩
    have s4 := same_upd (o := .lst (cutV ((kd :: kr).map V.str ++ [ve]) none (some (-1)))) hl
    have ec := cutLast ((kd :: kr).map V.str) ve (by intro z; cases z)
    refine ⟨L, l, _, _, rfl, rfl, s4 _ _ (s3 _ _ (s2 _ _ eL)), upd_same, ?_, fun p2 hp2 => ?_⟩
    · show _ + (cutV ((kd :: kr).map V.str ++ [ve]) none (some (-1))).length ≤ _
      rw [ec, List.length_map, List.length_map, List.length_cons]
      exact sz (by omega)
    have s5 := same_upd (o := .lst (W.map V.str ++ cutV ((kd :: kr).map V.str ++ [ve]) none (some (-1)))) hp2
    have s25 := ((s2.trans s3).trans s4).trans s5
    refine ⟨_, rfl, _, rfl, a1, _, _, _, rfl, rfl, SqT.of (s25 _ _ ea), atI_last _ _, ve, e, rfl, Dt.keep (Tk.same s25) de, he.1, he.2.2, by omega, fun p3 H3 s6 np3 ep3 => ?_⟩
    refine ⟨p2, p3, _, _, rfl, rfl, s6 _ _ upd_same, ep3, ?_, fun p4 hp4 => ?_⟩
    · show (W.map V.str ++ cutV ((kd :: kr).map V.str ++ [ve]) none (some (-1))).length + _ ≤ _
      rw [ec, List.length_append, List.length_map, List.length_map, List.length_map, List.length_cons]
      exact sz (by omega)
    have sf := (s1.trans (s25.trans s6))
    refine k _ _ ⟨p4, _, rfl, sf.trans (same_upd hp4), sf.free hp4, ?_⟩
    rw [upd_same, hxw]
    show some (HO.lst ((W.map V.str ++ cutV ((kd :: kr).map V.str ++ [ve]) none (some (-1))) ++ e.w.map V.str)) = _
    rw [ec, List.map_append, List.map_append, List.append_assoc]
  · rw [hxw] at hw
    have hw : W.length + 3 ≤ 100000 := hw
    refine ⟨_, rfl, a1, _, _, _, rfl, rfl, SqT.of ea, tix0, (by show 3 ≤ sizeLine; decide), fun tp htp => ⟨tp, _, rfl, .inr (SqT.of upd_same), rfl, rfl, ?_⟩⟩
    have s2 := same_upd (o := .tup [.str ("draw" : Str), .str ("choose" : Str), .str ("come" : Str)]) htp
    rw [if_neg Bool.false_ne_true, hi]
    refine ⟨_, rfl, iteT ?_⟩
    refine ⟨_, rfl, _, rfl, a1, _, _, _, rfl, rfl, SqT.of (s2 _ _ ea), tix0, _, rfl, a1, _, _, _, rfl, rfl, SqT.of (s2 _ _ ea), tix1, _, rfl, a1, _, _, _, rfl, rfl, SqT.of (s2 _ _ ea), tix2, m, rfl, num_log m0 m1, (by show 3 ≤ sizeLine; decide), fun l hl => ?_⟩
    have s3 := same_upd (o := .lst [.str kd, .str y, .str (nt m)]) hl
    refine ⟨L, l, _, _, rfl, rfl, s3 _ _ (s2 _ _ eL), upd_same, ?_, fun p4 hp4 => ?_⟩
    · rw [List.length_map]
      show W.length + 3 ≤ _
      exact sz (by omega)
    have sf := (s1.trans (s2.trans s3))
    refine k _ _ ⟨p4, _, rfl, sf.trans (same_upd hp4), sf.free hp4, ?_⟩
    rw [upd_same, hxw, List.map_append]
    rfl
theorem sm_head {H : Hp} {v : V} {x : Sm} (hv : Dt H v x.d) : ∃ a1 more, v = .ref a1 ∧ H a1 = some (.tup (.str x.kind :: more)) := by
  cases x with
  | set y e => obtain ⟨a1, xs, rfl, ea, da⟩ := hv.tupI; obtain ⟨y0, y1, y2, rfl, d0, d1, d2⟩ := da.c3; obtain rfl := d0.strI; exact ⟨a1, _, rfl, ea⟩
  | draw y n1 => obtain ⟨a1, xs, rfl, ea, da⟩ := hv.tupI; obtain ⟨y0, y1, y2, rfl, d0, d1, d2⟩ := da.c3; obtain rfl := d0.strI; exact ⟨a1, _, rfl, ea⟩
  | show_ y e => obtain ⟨a1, xs, rfl, ea, da⟩ := hv.tupI; obtain ⟨y0, y1, y2, rfl, d0, d1, d2⟩ := da.c3; obtain rfl := d0.strI; exact ⟨a1, _, rfl, ea⟩
  | pay k1 e => obtain ⟨a1, xs, rfl, ea, da⟩ := hv.tupI; obtain ⟨y0, y1, rfl, d0, d1⟩ := da.c2; obtain rfl := d0.strI; exact ⟨a1, _, rfl, ea⟩
  | move k1 y n1 m1 => obtain ⟨a1, xs, rfl, ea, da⟩ := hv.tupI; obtain ⟨y0, y1, y2, y3, rfl, d0, d1, d2, d3⟩ := da.c4; obtain rfl := d0.strI; exact ⟨a1, _, rfl, ea⟩
  | ifs e a b => obtain ⟨a1, xs, rfl, ea, da⟩ := hv.tupI; obtain ⟨y0, y1, y2, y3, rfl, d0, d1, d2, d3⟩ := da.c4; obtain rfl := d0.strI; exact ⟨a1, _, rfl, ea⟩
theorem sm_nif {x : Sm} {n : Nat} (ho : x.ok n) (hx : ∀ e a b, x ≠ .ifs e a b) : ¬ V.str x.kind = V.str ("if" : Str) := fun z => by
  have z := V.str.inj z
  cases x with
  | set y e => exact kd1.1 z
  | draw y n1 => exact kd1.2.1 z
  | show_ y e => exact kd1.2.2.2.2.1 z
  | pay k1 e => rcases ho.1 with rfl | rfl; exact kd1.2.2.2.2.2.1 z; exact kd1.2.2.2.2.2.2 z
  | move k1 y n1 m1 => rcases ho.1 with rfl | rfl; exact kd1.2.2.1 z; exact kd1.2.2.2.1 z
  | ifs e a b => exact hx e a b rfl
theorem ok_bl0 {f : Addr} {fd : FuncData} (F : Fun K "_law_block_words" "_law_block_words" sBlW f fd) (T : TxL mg) (V1 : Fn0 P w K mg base 6 "_law_value_words" ["due"] (spVW 5) fV dV) : FnOk P w K mg base CX0 7 f fd ["block"] (spBW 0) := by
  refine F.ok scBL (fun vs H Q E h => ?_) (fun cdv A outer s H vs Q E hr h => ?_)
  · obtain ⟨v, b, rfl, _⟩ := h
    rfl
  · obtain ⟨v, b, rfl, hv, ho, hw, q⟩ := h
    obtain ⟨a, xs, rfl, ea, da⟩ := hv.tupI
    have hr6 : Room 6 _ := hr.mono (by decide)
    obtain ⟨t, ht, rest⟩ := bl_rest (n := 0) (outer := outer) (H := H) (E := E) (by decide) T V1 hr
    refine ⟨_, pss_cons (ps_set (i := 1) scBL.nd rfl (Or.inl rfl) (pe_lst pa_nil))
      (pss_cons (ps_for PassesOwn.never rfl (pi_tup (pv 0)) (pg_name (i := 2) scBL.nd rfl (Or.inl rfl))
        (pss_one (ps_if (pt_cmpR op_eq (pe_ix ix_tup (pv 2) pe_int (fun _ _ => rfl)) pe_str (nomark _))
          (pss_cons ps_never (pss_cons ps_never (pss_one ps_never))) ht)))
      (pss_one (ps_ret (pv 1)))), ?_⟩
    refine ⟨Nat.zero_le _, fun D hD => ?_⟩
    refine ⟨_, rfl, a, rfl, ⟨xs, SqT.of (same_upd hD _ _ ea)⟩, for_tup (xs := xs) (fun i σ H' => WsAt H a (tkw b i) σ H') ⟨D, _, rfl, same_upd hD, hD, upd_same⟩ ?_ ?_ ?_⟩
    · rintro i σ H' hi ⟨_, _, _, s1, _, _⟩
      exact SqT.of (s1 _ _ ea)
    · rintro i v σ H' hx ⟨L, v2, rfl, s1, hL, eL⟩
      obtain ⟨d, hd, dv⟩ := da.get hx
      rw [ds_sl, List.getElem?_map] at hd
      obtain ⟨x, hx2, rfl⟩ := Option.map_eq_some_iff.mp hd
      have e1 := tkw_succ hx2
      have l1 := tkw_le b (i + 1)
      rw [e1, List.length_append] at l1
      have ox := ok_sl ho x (List.mem_of_getElem? hx2)
      have dv1 := Dt.keep (Tk.same s1) dv
      have hnx : ∀ e p q, x ≠ .ifs e p q := fun e p q z => by
        rw [z] at ox
        obtain ⟨_, m, hm, _⟩ := ox
        cases hm
      obtain ⟨a1, more, rfl, ea1⟩ := sm_head dv1
      refine ⟨_, rfl, a1, _, _, _, rfl, rfl, SqT.of ea1, tix0, rfl, _, rfl, ?_⟩
      rw [decide_eq_false (sm_nif ox hnx)]
      exact iteF (rest _ a L (tkw b i) _ x H' s1 hL eL dv1 ox hnx (by omega) (fun σ' H'' h => by rw [← e1] at h; exact h))
    · rintro σ H' ⟨L, v2, rfl, s1, hL, eL⟩
      rw [da.length, tkw_all] at eL
      exact ⟨_, rfl, q L H' s1 hL eL⟩
def ifThen : Stmt → List Stmt
  | .If _ b _ _ => b
  | _ => []
theorem bl_app {f : Addr} {cdv : Value} {A : Around} {outer : List Env} {s : Shared} {H : Hp} {E : XK} : ∃ t, PS (cxOf CX0 P w K mg base ["block", "words", "due"] "_law_block_words" (defScope sBlW) f cdv A outer s H E).nox ((ifThen blIf).getD 2 (.Pass ⟨0, 0, 0, 0⟩)) t ∧
    ∀ (D : Ends) (L : Addr) (v0 v2 : Option V) (ws : List Str) (H' : Hp), H' L = some (.lst (ws.map V.str)) → ws.length ≤ 100000 → D.nx [v0, some (.ref L), v2] (upd H' L (.lst ((ws ++ [("end" : Str)]).map V.str))) → t D [v0, some (.ref L), v2] H' := by
  refine ⟨_, (ps_expr (pe_bm PySem.F.plainAttrs_list PySem.F.slot_list_append PySem.F.type_list_append mt_append (pv 1) (pa_cons pe_str pa_nil))), fun D L v0 v2 ws H' eL hl k => ⟨_, rfl, .inl ⟨rfl, _, SqL.of eL⟩, L, _, _, rfl, rfl, eL, ?_, ?_⟩⟩
  · rw [List.length_map]
    exact Nat.lt_of_le_of_lt hl (by decide)
  · rw [List.map_append] at k
    exact k
theorem ok_blS {f : Addr} {fd : FuncData} {k n : Nat} (hk : 6 ≤ k) (F : Fun K "_law_block_words" "_law_block_words" sBlW f fd) (T : TxL mg) (V1 : Fn0 P w K mg base 6 "_law_value_words" ["due"] (spVW 5) fV dV) (G : Fn0 P w K mg base k "_law_block_words" ["block"] (spBW n) f fd) : FnOk P w K mg base CX0 (k + 1) f fd ["block"] (spBW (n + 1)) := by
  refine F.ok scBL (fun vs H Q E h => ?_) (fun cdv A outer s H vs Q E hr h => ?_)
  · obtain ⟨v, b, rfl, _⟩ := h
    rfl
  · obtain ⟨v, b, rfl, hv, ho, hw, q⟩ := h
    obtain ⟨a, xs, rfl, ea, da⟩ := hv.tupI
    have hr6 : Room 6 _ := hr.mono hk
    obtain ⟨ta, hta, app⟩ := bl_app (P := P) (w := w) (K := K) (mg := mg) (base := base) (f := f) (cdv := cdv) (A := A) (outer := outer) (s := s) (H := H) (E := E)
    obtain ⟨t, ht, rest⟩ := bl_rest (n := (n + 1)) (outer := outer) (H := H) (E := E) hk T V1 hr
    refine ⟨_, pss_cons (ps_set (i := 1) scBL.nd rfl (Or.inl rfl) (pe_lst pa_nil))
      (pss_cons (ps_for PassesOwn.never rfl (pi_tup (pv 0)) (pg_name (i := 2) scBL.nd rfl (Or.inl rfl))
        (pss_one (ps_if (pt_cmpR op_eq (pe_ix ix_tup (pv 2) pe_int (fun _ _ => rfl)) pe_str (nomark _))
          (pss_cons (ps_set (i := 1) scBL.nd rfl (Or.inl rfl) (pe_op op_cat (pe_op op_cat (pe_op op_cat (pv 1) (pe_lst (pa_cons pe_str pa_nil))) (pe_call V1.ok hr6 (by rfl) V1.gl V1.kp V1.bd .nil pass0 (pa_cons (pe_ix ix_tup (pv 2) pe_int (fun _ _ => rfl)) pa_nil))) (pe_call G.ok hr (by rfl) G.gl G.kp G.bd .nil pass0 (pa_cons (pe_ix ix_tup (pv 2) pe_int (fun _ _ => rfl)) pa_nil))))
          (pss_cons (ps_if (pt_cmpR op_gt (pe_callB call_len_seq (by rfl) T.len PySem.boot_len (pa_cons (pe_ix ix_tup (pv 2) pe_int (fun _ _ => rfl)) pa_nil)) pe_int (nomark _)) (pss_one (ps_set (i := 1) scBL.nd rfl (Or.inl rfl) (pe_op op_cat (pe_op op_cat (pv 1) (pe_lst (pa_cons pe_str pa_nil))) (pe_call G.ok hr (by rfl) G.gl G.kp G.bd .nil pass0 (pa_cons (pe_ix ix_tup (pv 2) pe_int (fun _ _ => rfl)) pa_nil))))) pss_nil)
          (pss_one hta))) ht)))
      (pss_one (ps_ret (pv 1)))), ?_⟩
    refine ⟨Nat.zero_le _, fun D hD => ?_⟩
    refine ⟨_, rfl, a, rfl, ⟨xs, SqT.of (same_upd hD _ _ ea)⟩, for_tup (xs := xs) (fun i σ H' => WsAt H a (tkw b i) σ H') ⟨D, _, rfl, same_upd hD, hD, upd_same⟩ ?_ ?_ ?_⟩
    · rintro i σ H' hi ⟨_, _, _, s1, _, _⟩
      exact SqT.of (s1 _ _ ea)
    · rintro i v σ H' hx ⟨L, v2, rfl, s1, hL, eL⟩
      obtain ⟨d, hd, dv⟩ := da.get hx
      rw [ds_sl, List.getElem?_map] at hd
      obtain ⟨x, hx2, rfl⟩ := Option.map_eq_some_iff.mp hd
      have e1 := tkw_succ hx2
      have l1 := tkw_le b (i + 1)
      rw [e1, List.length_append] at l1
      have ox := ok_sl ho x (List.mem_of_getElem? hx2)
      have dv1 := Dt.keep (Tk.same s1) dv
      by_cases hnx : ∀ e p q, x ≠ .ifs e p q
      · obtain ⟨a1, more, rfl, ea1⟩ := sm_head dv1
        refine ⟨_, rfl, a1, _, _, _, rfl, rfl, SqT.of ea1, tix0, rfl, _, rfl, ?_⟩
        rw [decide_eq_false (sm_nif ox hnx)]
        exact iteF (rest _ a L (tkw b i) _ x H' s1 hL eL dv1 ox hnx (by omega) (fun σ' H'' h => by rw [← e1] at h; exact h))
      · obtain ⟨e, A1, B1, hxe⟩ : ∃ e p q, x = .ifs e p q := by
          refine Classical.byContradiction fun z => hnx fun e p q y => z ⟨e, p, q, y⟩
        subst hxe
        obtain ⟨he, m, hm, hA, hB⟩ := ox
        have hm : n = m := Nat.succ.inj hm
        subst hm
        obtain ⟨a1, ys, rfl, ea1, da1⟩ := dv1.tupI
        obtain ⟨y0, y1, y2, y3, rfl, d0, d1, d2, d3⟩ := da1.c4
        obtain rfl := d0.strI
        have l2 : (tkw b i).length + (("if" : Str) :: (e.w ++ (A1.w ++ ((if B1.emp then [] else ("else" : Str) :: B1.w) ++ [("end" : Str)])))).length ≤ b.w.length := l1
        simp only [List.length_cons, List.length_append, List.length_nil] at l2
        refine ⟨_, rfl, a1, _, _, _, rfl, rfl, SqT.of ea1, tix0, rfl, _, rfl, ?_⟩
        rw [decide_eq_true rfl]
        refine iteT ⟨_, rfl, (by show 1 ≤ sizeLine; decide), fun l1' hl1 => ?_⟩
        have s2 := same_upd (o := .lst [.str ("if" : Str)]) hl1
        refine ⟨L, l1', _, _, rfl, rfl, s2 _ _ eL, upd_same, ?_, fun p1 hp1 => ?_⟩
        · rw [List.length_map]
          show _ + 1 ≤ _
          exact sz (by omega)
        have s3 := same_upd (o := .lst ((tkw b i).map V.str ++ [.str ("if" : Str)])) hp1
        have s13 := s2.trans s3
        refine ⟨_, rfl, a1, _, _, _, rfl, rfl, SqT.of (s13 _ _ ea1), tix1, y1, e, rfl, Dt.keep (Tk.same s13) d1, he.1, he.2.2, by omega, fun p2 H2 s4 np2 ep2 => ?_⟩
        refine ⟨p1, p2, _, _, rfl, rfl, s4 _ _ upd_same, ep2, ?_, fun p3 hp3 => ?_⟩
        · rw [List.length_append, List.length_map, List.length_map]
          show _ + 1 + _ ≤ _
          exact sz (by omega)
        have s5 := same_upd (o := .lst (((tkw b i).map V.str ++ [.str ("if" : Str)]) ++ e.w.map V.str)) hp3
        have s15 := (s13.trans s4).trans s5
        refine ⟨_, rfl, a1, _, _, _, rfl, rfl, SqT.of (s15 _ _ ea1), tix2, y2, A1, rfl, Dt.keep (Tk.same s15) d2, hA, by omega, fun p4 H4 s6 np4 ep4 => ?_⟩
        refine ⟨p3, p4, _, _, rfl, rfl, s6 _ _ upd_same, ep4, ?_, fun p5 hp5 => ?_⟩
        · rw [List.length_append, List.length_append, List.length_map, List.length_map, List.length_map]
          show _ + 1 + _ + _ ≤ _
          exact sz (by omega)
        have s7 := same_upd (o := .lst ((((tkw b i).map V.str ++ [.str ("if" : Str)]) ++ e.w.map V.str) ++ A1.w.map V.str)) hp5
        have s17 := (s15.trans s6).trans s7
        have hp50 : H p5 = none := ((s1.trans s15).trans s6).free hp5
        have e5 : (upd H4 p5 (.lst ((((tkw b i).map V.str ++ [.str ("if" : Str)]) ++ e.w.map V.str) ++ A1.w.map V.str))) p5 = some (.lst ((tkw b i ++ ("if" : Str) :: (e.w ++ A1.w)).map V.str)) := by
          rw [upd_same]
          simp
        obtain ⟨b4, zs, rfl, eb, db⟩ := d3.tupI
        refine ⟨_, rfl, a1, _, _, _, rfl, rfl, SqT.of (s17 _ _ ea1), atI_nat (j := 3) rfl, b4, _, rfl, .inr (SqT.of (s17 _ _ eb)), _, _, rfl, rfl, _, rfl, ite2 (fun y => ?_) (fun y => ?_)⟩
        · have y := of_decide_eq_true y
          have hem : B1.emp = false := by
            rw [emp_ds]
            have hl := db.length
            cases h1 : B1.ds with
            | nil =>
              rw [h1] at hl
              rw [hl] at y
              exact absurd y (by decide)
            | cons _ _ => rfl
          rw [hem] at l2
          simp only [Bool.false_eq_true, if_false, List.length_cons] at l2
          refine ⟨_, rfl, (by show 1 ≤ sizeLine; decide), fun l8 hl8 => ?_⟩
          have s8 := same_upd (o := .lst [.str ("else" : Str)]) hl8
          refine ⟨p5, l8, _, _, rfl, rfl, s8 _ _ e5, upd_same, ?_, fun p9 hp9 => ?_⟩
          · rw [List.length_map, List.length_append, List.length_cons, List.length_append]
            show _ + 1 ≤ _
            exact sz (by omega)
          have s9 := same_upd (o := .lst (((tkw b i ++ ("if" : Str) :: (e.w ++ A1.w)).map V.str) ++ [.str ("else" : Str)])) hp9
          have s19 := (s17.trans s8).trans s9
          refine ⟨_, rfl, a1, _, _, _, rfl, rfl, SqT.of (s19 _ _ ea1), atI_nat (j := 3) rfl, .ref b4, B1, rfl, Dt.keep (Tk.same s19) d3, hB, by omega, fun p10 H10 s10 np10 ep10 => ?_⟩
          refine ⟨p9, p10, _, _, rfl, rfl, s10 _ _ upd_same, ep10, ?_, fun p11 hp11 => ?_⟩
          · rw [List.length_append, List.length_map, List.length_append, List.length_cons, List.length_append, List.length_map]
            show _ + 1 + _ ≤ _
            exact sz (by omega)
          have s11 := same_upd (o := .lst ((((tkw b i ++ ("if" : Str) :: (e.w ++ A1.w)).map V.str) ++ [.str ("else" : Str)]) ++ B1.w.map V.str)) hp11
          have sf := (s1.trans s19).trans s10
          refine app _ p11 _ _ (tkw b i ++ ("if" : Str) :: (e.w ++ (A1.w ++ ("else" : Str) :: B1.w))) _ ?_ ?_ ⟨p11, _, rfl, fun c o z => ?_, sf.free hp11, ?_⟩
          · rw [upd_same]
            simp
          · simp only [List.length_append, List.length_cons]
            omega
          · have hc : c ≠ p11 := ne_of_none z (sf.free hp11)
            rw [upd_ne hc]
            exact (sf.trans s11) _ _ z
          · rw [upd_same, e1]
            show _ = some (HO.lst ((tkw b i ++ ("if" : Str) :: (e.w ++ (A1.w ++ ((if B1.emp then [] else ("else" : Str) :: B1.w) ++ [("end" : Str)])))).map V.str))
            rw [hem]
            simp
        · have hem : B1.emp = true := by
            rw [emp_ds]
            have hl := db.length
            cases h1 : B1.ds with
            | nil => rfl
            | cons _ _ =>
              rw [h1, List.length_cons] at hl
              exact absurd (decide_eq_true (by show (0 : Int) < (zs.length : Int); omega)) y
          refine app _ p5 _ _ (tkw b i ++ ("if" : Str) :: (e.w ++ A1.w)) _ e5 ?_ ⟨p5, _, rfl, fun c o z => ?_, hp50, ?_⟩
          · simp only [List.length_append, List.length_cons]
            omega
          · have hc : c ≠ p5 := ne_of_none z hp50
            rw [upd_ne hc]
            exact (s1.trans s17) _ _ z
          · rw [upd_same, e1]
            show _ = some (HO.lst ((tkw b i ++ ("if" : Str) :: (e.w ++ (A1.w ++ ((if B1.emp then [] else ("else" : Str) :: B1.w) ++ [("end" : Str)])))).map V.str))
            rw [hem]
            simp

    · rintro σ H' ⟨L, v2, rfl, s1, hL, eL⟩
      rw [da.length, tkw_all] at eL
      exact ⟨_, rfl, q L H' s1 hL eL⟩
end
end K1

set_option Elab.async false
set_option linter.all false
set_option maxRecDepth 100000
set_option maxHeartbeats 1000000
namespace K1
open PySem PySem.Spec PyProof.Rows L2 Kx
def spWo : Sp := fun vs H Q _ => ∃ (v : V) (xs : List (Str × Int)) (b : Bk), vs = [v] ∧ Dt H v (gameD xs b) ∧ xs.length ≤ 5 ∧ (∀ p ∈ xs, 0 ≤ p.2 ∧ p.2 ≤ 65535) ∧ b.ok 4 ∧ b.w.length ≤ 90000 ∧ WL (gameW xs b) H Q
section
variable {P : Program} {w : World} {K : PySem.W.Frag} {mg : Str → Option Value} {base : Heap} {fB : Addr} {dB : FuncData}
theorem scWs : FnScope ["game", "words", "name", "size"] ["game"] (defScope sWo) := ⟨rfl, rfl, rfl, by decide +kernel, rfl, by decide +kernel, by decide +kernel⟩
theorem ok_wo {f : Addr} {fd : FuncData} (F : Fun K "_law_words" "_law_words" sWo f fd) (T : TxL mg) (B1 : Fn0 P w K mg base 11 "_law_block_words" ["block"] (spBW 4) fB dB) : FnOk P w K mg base CX0 12 f fd ["game"] spWo := by
  refine F.ok scWs (fun vs H Q E h => ?_) (fun cdv A outer s H vs Q E hr h => ?_)
  · obtain ⟨v, xs, b, rfl, _⟩ := h
    rfl
  · obtain ⟨v, ps, b, rfl, hv, h5, hn, ho, hw, q⟩ := h
    obtain ⟨g, gs, rfl, eg, dg⟩ := hv.tupI
    obtain ⟨v1, v2, rfl, d1, d2⟩ := dg.c2
    obtain ⟨a, xs, rfl, ea, da⟩ := d1.tupI
    refine ⟨_, pss_cons (ps_set (i := 1) scWs.nd rfl (Or.inl rfl) (pe_lst pa_nil))
      (pss_cons (ps_for PassesOwn.never rfl (pi_tup (pe_ix ix_tup (pv 0) pe_int (fun _ _ => rfl))) (pg_tup (by rfl) (pgs_cons (pg_name (i := 2) scWs.nd rfl (Or.inl rfl)) (pgs_cons (pg_name (i := 3) scWs.nd rfl (Or.inl rfl)) pgs_nil)))
        (pss_one (ps_set (i := 1) scWs.nd rfl (Or.inl rfl) (pe_op op_cat (pv 1) (pe_lst (pa_cons pe_str (pa_cons (pv 2) (pa_cons (pe_callTy call_str_int (by rfl) T.str (by decide +kernel) (pa_cons (pv 3) pa_nil)) pa_nil))))))))
      (pss_one (ps_ret (pe_op op_cat (pv 1) (pe_call B1.ok hr (by rfl) B1.gl B1.kp B1.bd .nil pass0 (pa_cons (pe_ix ix_tup (pv 0) pe_int (fun _ _ => rfl)) pa_nil)))))), ?_⟩
    refine ⟨Nat.zero_le _, fun D hD => ?_⟩
    have s0 := same_upd (o := .lst []) hD
    refine ⟨_, rfl, g, _, _, _, rfl, rfl, SqT.of (s0 _ _ eg), tix0, a, rfl, ⟨xs, SqT.of (s0 _ _ ea)⟩, for_tup (xs := xs) (fun i σ H' => (∃ L v2 v3, σ = [some (.ref g), some (.ref L), v2, v3] ∧ H L = none ∧ H' L = some (.lst ((varsW (ps.take i)).map V.str))) ∧ Same H H') ?_ ?_ ?_ ?_⟩
    · exact ⟨⟨D, _, _, rfl, hD, upd_same⟩, s0⟩
    · rintro i σ H' hi ⟨_, s1⟩
      exact SqT.of (s1 _ _ ea)
    · rintro i v σ H' hx ⟨⟨L, v2, v3, rfl, hL, eL⟩, s1⟩
      obtain ⟨d, hd, dv⟩ := da.get hx
      unfold varsD at hd
      rw [List.getElem?_map] at hd
      obtain ⟨p, hp2, rfl⟩ := Option.map_eq_some_iff.mp hd
      obtain ⟨a1, ys, rfl, ea1, da1⟩ := (Dt.keep (Tk.same s1) dv).tupI
      obtain ⟨y0, y1, rfl, d0, d1⟩ := da1.c2
      obtain rfl := d0.strI
      obtain rfl := d1.intI
      have hm := List.mem_of_getElem? hp2
      have hi5 : i < 5 := Nat.lt_of_lt_of_le (List.getElem?_eq_some_iff.mp hp2).1 h5
      refine ⟨a1, _, rfl, SqT.of ea1, rfl, _, _, rfl, _, _, rfl, rfl, ?_⟩
      refine ⟨_, rfl, _, rfl, _, rfl, p.2, rfl, num_log (hn p hm).1 (hn p hm).2, (by show 3 ≤ sizeLine; decide), fun t ht => ?_⟩
      have s2 := same_upd (o := .lst [.str ("var" : Str), .str p.1, .str (nt p.2)]) ht
      refine ⟨L, t, _, _, rfl, rfl, s2 _ _ eL, upd_same, ?_, fun r hr' => ⟨⟨r, _, _, rfl, (s1.trans s2).free hr', ?_⟩, (s1.trans s2).trans (same_upd hr')⟩⟩
      · rw [List.length_map, varsW_len, List.length_take]
        show _ + 3 ≤ _
        exact sz (by omega)
      · rw [upd_same, List.take_add_one, hp2]
        show _ = some (HO.lst ((varsW (ps.take i ++ [p])).map V.str))
        rw [varsW_app, List.map_append]
        rfl
    · rintro σ H' ⟨⟨L, v2, v3, rfl, hL, eL⟩, s1⟩
      have hl : xs.length = ps.length := by
        rw [da.length]
        exact List.length_map ..
      rw [hl, List.take_length] at eL
      refine ⟨_, rfl, _, rfl, g, _, _, _, rfl, rfl, SqT.of (s1 _ _ eg), tix1, _, b, rfl, Dt.keep (Tk.same s1) d2, ho, by omega, fun p H2 s2 np ep => ?_⟩
      refine ⟨L, p, _, _, rfl, rfl, s2 _ _ eL, ep, ?_, fun r hr' => q r _ ((s1.trans s2).trans (same_upd hr')) ((s1.trans s2).free hr') ?_⟩
      · rw [List.length_map, List.length_map, varsW_len]
        exact sz (by omega)
      · rw [upd_same]
        unfold gameW
        rw [List.map_append]
end
end K1

set_option Elab.async false
set_option linter.all false
set_option maxRecDepth 100000
set_option maxHeartbeats 1000000
/-! What is written, read again. -/
namespace K1
open PySem PySem.Spec PyProof.Rows L2 Kx TL
theorem cps_nt (m : Nat) : (nt (m : Int)).cps.toList = numL m := tl_num m
theorem numL_head : ∀ m : Nat, 0 < m → (numL m).head? ≠ some 48 := by
  intro m
  induction m using Nat.strongRecOn with
  | _ m ih =>
    intro h
    by_cases h10 : m < 10
    · rw [numL_lt h10]
      intro z
      injection z with z
      omega
    · rw [numL_step (by omega)]
      have h1 := ih (m / 10) (by omega) (by omega)
      have h2 := numL_ne (m / 10)
      cases e : numL (m / 10) with
      | nil => exact absurd e h2
      | cons a r =>
        rw [e] at h1
        exact h1
theorem val_nt (m : Nat) : val (nt (m : Int)) = (m : Int) := by
  unfold val
  rw [cps_nt, numL_val]
theorem len_nt {m : Nat} (h : m ≤ 65535) : 1 ≤ (nt (m : Int)).length ∧ (nt (m : Int)).length ≤ 5 := by
  have e : (nt (m : Int)).length = (numL m).length := by rw [len_tl]; exact congrArg List.length (tl_num m)
  rw [e]
  exact ⟨Nat.pos_of_ne_zero fun z => numL_ne m (List.length_eq_zero_iff.mp z), numL_len (by decide) (by omega)⟩
theorem dig_in {c : Nat} (h1 : 48 ≤ c) (h2 : c ≤ 57) : c ∈ DIG.cps.toList := by
  have e : DIG.cps.toList = [48, 49, 50, 51, 52, 53, 54, 55, 56, 57] := by decide +kernel
  rw [e]
  simp only [List.mem_cons, List.not_mem_nil, or_false]
  omega
theorem numB_nt {m : Nat} (h : m ≤ 65535) : numB (nt (m : Int)) = true := by
  obtain ⟨l1, l5⟩ := len_nt h
  have hm : madeB (nt (m : Int)) DIG = true := made_of fun c hc => by
    rw [cps_nt] at hc
    have := numL_digits m c hc
    exact dig_in this.1 this.2
  unfold numB
  rw [decide_eq_true l1, decide_eq_true l5, hm, val_nt, decide_eq_true (show (m : Int) ≤ 65535 by omega), Bool.and_true, Bool.true_and, Bool.true_and, Bool.true_and, cps_nt]
  cases m with
  | zero =>
    have : (nt ((0 : Nat) : Int) == ("0" : Str)) = true := by decide +kernel
    rw [this]
    rfl
  | succ m =>
    rw [decide_eq_false (numL_head (m + 1) (by omega))]
    rw [Bool.not_false, Bool.or_true]
/-! ### where words stand -/
theorem ahead_drop {ws : List Str} {i : Nat} {x : Str} {post : List Str} (h : ws.drop i = x :: post) : ahead ws i = x ∧ ws.drop (i + 1) = post := by
  have h1 : ws[i]? = some x := by
    have := congrArg (fun l => l[0]?) h
    simpa using this
  refine ⟨by unfold ahead; rw [h1]; rfl, ?_⟩
  have : ws.drop (i + 1) = (ws.drop i).drop 1 := by rw [List.drop_drop]
  rw [this, h]
  rfl
theorem drop_add {ws us post : List Str} {i : Nat} (h : ws.drop i = us ++ post) : ws.drop (i + us.length) = post := by
  have : ws.drop (i + us.length) = (ws.drop i).drop us.length := by rw [List.drop_drop]
  rw [this, h, List.drop_left]
def S.go (s : S) (n : Nat) : S := { s with at_ := s.at_ + n }
theorem rName_back {ws ns : List Str} {s : S} {x : Str} {post : List Str} (h : ws.drop s.at_ = x :: post) (hx : x ∈ ns) : rName ws ns s = .ok (x, s.go 1) := by
  unfold rName
  rw [(ahead_drop h).1, List.contains_iff_mem.mpr hx]
  rfl
theorem rNum_back {ws : List Str} {s : S} {n lo hi : Int} {post : List Str} (h : ws.drop s.at_ = nt n :: post) (h0 : 0 ≤ n) (h1 : n ≤ 65535) (hlo : lo ≤ n) (hhi : n ≤ hi) : rNum ws lo hi s = .ok (n, s.go 1) := by
  obtain ⟨m, rfl⟩ : ∃ m : Nat, n = (m : Int) := ⟨n.toNat, by omega⟩
  unfold rNum
  rw [(ahead_drop h).1, numB_nt (by omega), val_nt, decide_eq_true hlo, decide_eq_true hhi]
  rfl
/-- names are neither operators nor numbers -/
theorem name_op {x : Str} (h : nameB x = true) : OPS.contains x = false ∧ numB x = false := by
  have hp := pre_of h
  have hk : KEYS.contains x = false := by
    unfold nameB at h
    simp only [Bool.and_eq_true, Bool.not_eq_true'] at h
    exact h.2
  have hm := made_all hp.2.2
  have ne : x.cps.toList ≠ [] := fun e => by
    have h1 := hp.1
    rw [len_tl] at h1
    have : (tl x).length = 0 := by
      show x.cps.toList.length = 0
      rw [e]
      rfl
    omega
  obtain ⟨c, r, e⟩ := List.exists_cons_of_ne_nil ne
  have hc := hm c (by rw [e]; exact List.mem_cons_self ..)
  constructor
  · cases z : OPS.contains x with
    | false => rfl
    | true =>
      have := List.contains_iff_mem.mp z
      simp only [OPS, List.mem_cons, List.not_mem_nil, or_false] at this
      rcases this with rfl | rfl | rfl | rfl | rfl | rfl | rfl
      all_goals first
        | exact absurd hp.2.2 (by decide +kernel)
        | exact absurd hk (by decide +kernel)
  · have hm2 : madeB x DIG = false := by
      cases z : madeB x DIG with
      | false => rfl
      | true =>
        have hd := made_all z c (by rw [e]; exact List.mem_cons_self ..)
        have dis : ∀ c ∈ LET.cps.toList, c ∉ DIG.cps.toList := by decide +kernel
        exact absurd hd (dis c hc)
    unfold numB
    rw [hm2]
    simp
theorem num_op {m : Nat} (h : m ≤ 65535) : OPS.contains (nt (m : Int)) = false := by
  cases z : OPS.contains (nt (m : Int)) with
  | false => rfl
  | true =>
    have hn := numB_nt h
    have := List.contains_iff_mem.mp z
    have no : ∀ x ∈ OPS, numB x = false := by decide +kernel
    rw [no _ this] at hn
    cases hn
theorem rEx_back {ws ns : List Str} (hns : ∀ x ∈ ns, nameB x = true) : ∀ {d : Nat} {e : Ex} {s : S} {post : List Str}, e.vl ns d → ws.drop s.at_ = e.w ++ post → rEx ws ns d s = .ok (e, s.go e.w.length) := by
  have leaf : ∀ {d : Nat} {e : Ex} {s : S} {post : List Str}, e.vl ns d → (∀ o a b, e ≠ .op o a b) → ws.drop s.at_ = e.w ++ post → rEx ws ns d s = .ok (e, s.go e.w.length) := by
    intro d e s post hv hx h
    cases e with
    | op o a b => exact absurd rfl (hx o a b)
    | num n =>
      have h : ws.drop s.at_ = nt n :: post := h
      have ha := (ahead_drop h).1
      have hb := rNum_back (lo := 0) (hi := 65535) h hv.1 hv.2 hv.1 hv.2
      obtain ⟨m, rfl⟩ : ∃ m : Nat, n = (m : Int) := ⟨n.toNat, by have := hv.1; omega⟩
      have hm : m ≤ 65535 := by have := hv.2; omega
      unfold rEx
      rw [ha, num_op hm, if_neg Bool.false_ne_true, numB_nt hm, if_pos rfl, hb]
      rfl
    | var x =>
      have h : ws.drop s.at_ = x :: post := h
      have ha := (ahead_drop h).1
      have hv : x ∈ ns := hv
      have hb := rName_back h hv
      have ho := name_op (hns x hv)
      unfold rEx
      rw [ha, ho.1, if_neg Bool.false_ne_true, ho.2, if_neg Bool.false_ne_true, hb]
      rfl
  intro d
  induction d with
  | zero =>
    intro e s post hv h
    refine leaf hv (fun o a b z => ?_) h
    rw [z] at hv
    obtain ⟨_, q, hq, _⟩ := hv
    cases hq
  | succ d ih =>
    intro e s post hv h
    cases e with
    | num n => exact leaf hv (fun o a b z => by cases z) h
    | var x => exact leaf hv (fun o a b z => by cases z) h
    | op o a b =>
      obtain ⟨ho, q, hq, va, vb⟩ := hv
      obtain rfl := Nat.succ.inj hq
      have h : ws.drop s.at_ = o :: (a.w ++ (b.w ++ post)) := by
        rw [h]
        show (o :: (a.w ++ b.w)) ++ post = _
        simp
      obtain ⟨ha, h1⟩ := ahead_drop h
      have e1 := ih (s := s.adv) va h1
      have h2 := drop_add h1
      have e2 := ih (s := s.adv.go a.w.length) vb h2
      unfold rEx
      rw [ha, ho, if_pos rfl]
      dsimp only
      rw [e1]
      dsimp only
      rw [e2]
      show Except.ok (Ex.op o a b, S.mk (s.at_ + 1 + a.w.length + b.w.length) s.ch s.mv) = Except.ok (Ex.op o a b, S.mk (s.at_ + (o :: (a.w ++ b.w)).length) s.ch s.mv)
      rw [List.length_cons, List.length_append]
      congr 3
      omega
end K1

set_option Elab.async false
set_option linter.all false
set_option maxRecDepth 100000
set_option maxHeartbeats 1000000
namespace K1
open PySem PySem.Spec PyProof.Rows L2 Kx TL
def S.to (s : S) (n c m : Nat) : S := ⟨s.at_ + n, s.ch + c, s.mv + m⟩
/-- what a reader of blocks does with the words of a block -/
def BackOk (ws ns : List Str) (q : Nat) (blk : S → Rs Bk) : Prop := ∀ (b : Bk) (s : S) (post : List Str), b.vl ns q s.mv → ws.drop s.at_ = b.w ++ post → STM.contains (post.headD Str.empty) = false → s.ch + b.chs ≤ 10 → blk s = .ok (b, s.to b.w.length b.chs b.mvs)
theorem kw1 : CHS.contains ("if" : Str) = false ∧ CHS.contains ("set" : Str) = false ∧ CHS.contains ("show" : Str) = false ∧ CHS.contains ("pay" : Str) = false ∧ CHS.contains ("take" : Str) = false ∧ CHS.contains ("draw" : Str) = true ∧ CHS.contains ("choose" : Str) = true ∧ CHS.contains ("come" : Str) = true := by decide +kernel
theorem kw2 : ¬ ("set" : Str) = "if" ∧ ¬ ("show" : Str) = "if" ∧ ¬ ("pay" : Str) = "if" ∧ ¬ ("take" : Str) = "if" ∧ ¬ ("show" : Str) = "set" ∧ ¬ ("pay" : Str) = "set" ∧ ¬ ("take" : Str) = "set" ∧ ¬ ("pay" : Str) = "show" ∧ ¬ ("take" : Str) = "show" ∧ ¬ ("choose" : Str) = "draw" ∧ ¬ ("come" : Str) = "draw" ∧ ¬ ("end" : Str) = "else" := by decide +kernel
theorem stm_else : STM.contains ("else" : Str) = false ∧ STM.contains ("end" : Str) = false := by decide +kernel
theorem pos_mem {x : Str} {ns : List Str} (h : x ∈ ns) : 0 < ns.length := List.length_pos_of_mem h
theorem rChance_back {ws ns : List Str} {k x : Str} {n : Int} {s : S} {post : List Str} (h : ws.drop s.at_ = k :: x :: nt n :: post) (hx : x ∈ ns) (h1 : 1 ≤ n) (h8 : n ≤ 8) (hc : s.ch + 1 ≤ 10) :
    rChance ws ns k s = if k = "draw" then .ok (.draw x n, s.to 3 1 0) else .ok (.move k x n (s.mv : Int), s.to 3 1 1) := by
  obtain ⟨_, d1⟩ := ahead_drop h
  have e1 := rName_back (s := { s.adv with ch := s.ch + 1 }) (ns := ns) d1 hx
  obtain ⟨_, d2⟩ := ahead_drop d1
  have e2 := rNum_back (s := (S.mk (s.at_ + 1) (s.ch + 1) s.mv).go 1) (lo := 1) (hi := 8) d2 (by omega) (by omega) h1 h8
  unfold rChance
  rw [decide_eq_true (pos_mem hx), decide_eq_true (show s.ch < 10 by omega)]
  rw [Bool.and_self, if_pos rfl, e1]
  dsimp only
  rw [show (S.mk (s.at_ + 1) (s.ch + 1) s.mv) = { s.adv with ch := s.ch + 1 } from rfl] at e2
  rw [e2]
  rfl
theorem rSm_back {ws ns : List Str} (hns : ∀ x ∈ ns, nameB x = true) {r : Nat} {blk : S → Rs Bk} (hb : ∀ q, r = q + 1 → BackOk ws ns q blk) {x : Sm} {s : S} {post : List Str} (hv : x.vl ns r s.mv) (h : ws.drop s.at_ = x.w ++ post) (hc : s.ch + x.chs ≤ 10) :
    rSm ws ns r blk s = .ok (x, s.to x.w.length x.chs x.mvs) := by
  cases x with
  | set y e =>
    have h : ws.drop s.at_ = ("set" : Str) :: y :: (e.w ++ post) := h
    obtain ⟨ha, d1⟩ := ahead_drop h
    obtain ⟨_, d2⟩ := ahead_drop d1
    have e1 := rName_back (s := s.adv) d1 hv.1
    have e2 := rEx_back hns (s := s.adv.go 1) hv.2 d2
    unfold rSm
    rw [ha, kw1.2.1, if_neg Bool.false_ne_true, if_neg kw2.1, if_pos rfl, if_pos (pos_mem hv.1), e1]
    dsimp only
    rw [e2]
    show Except.ok (Sm.set y e, S.mk (s.at_ + 1 + 1 + e.w.length) s.ch s.mv) = Except.ok (Sm.set y e, S.mk (s.at_ + (e.w.length + 1 + 1)) s.ch s.mv)
    congr 3
    omega
  | draw y n =>
    have h : ws.drop s.at_ = ("draw" : Str) :: y :: nt n :: post := h
    have ha := (ahead_drop h).1
    unfold rSm
    rw [ha, kw1.2.2.2.2.2.1, if_pos rfl, rChance_back h hv.1 hv.2.1 hv.2.2 hc, if_pos rfl]
    rfl
  | move k y n m =>
    obtain ⟨hk, hy, h1, h8, rfl⟩ := hv
    have h : ws.drop s.at_ = k :: y :: nt n :: post := h
    have ha := (ahead_drop h).1
    have hk2 : CHS.contains k = true ∧ ¬ k = "draw" := by
      rcases hk with rfl | rfl
      · exact ⟨kw1.2.2.2.2.2.2.1, kw2.2.2.2.2.2.2.2.2.2.1⟩
      · exact ⟨kw1.2.2.2.2.2.2.2, kw2.2.2.2.2.2.2.2.2.2.2.1⟩
    unfold rSm
    rw [ha, hk2.1, if_pos rfl, rChance_back h hy h1 h8 hc, if_neg hk2.2]
    rfl
  | show_ y e =>
    have h : ws.drop s.at_ = ("show" : Str) :: y :: (e.w ++ post) := h
    obtain ⟨ha, d1⟩ := ahead_drop h
    obtain ⟨hy, d2⟩ := ahead_drop d1
    have e2 := rEx_back hns (s := s.adv.adv) hv.2 d2
    unfold rSm
    rw [ha, kw1.2.2.1, if_neg Bool.false_ne_true, if_neg kw2.2.1, if_neg kw2.2.2.2.2.1, if_pos rfl, hy, hv.1, if_pos rfl, e2]
    show Except.ok (Sm.show_ y e, S.mk (s.at_ + 1 + 1 + e.w.length) s.ch s.mv) = Except.ok (Sm.show_ y e, S.mk (s.at_ + (e.w.length + 1 + 1)) s.ch s.mv)
    congr 3
    omega
  | pay k e =>
    have h : ws.drop s.at_ = k :: (e.w ++ post) := h
    obtain ⟨ha, d1⟩ := ahead_drop h
    have e2 := rEx_back hns (s := s.adv) hv.2 d1
    have hk : CHS.contains k = false ∧ ¬ k = "if" ∧ ¬ k = "set" ∧ ¬ k = "show" := by
      rcases hv.1 with rfl | rfl
      · exact ⟨kw1.2.2.2.1, kw2.2.2.1, kw2.2.2.2.2.2.1, kw2.2.2.2.2.2.2.2.1⟩
      · exact ⟨kw1.2.2.2.2.1, kw2.2.2.2.1, kw2.2.2.2.2.2.2.1, kw2.2.2.2.2.2.2.2.2.1⟩
    unfold rSm
    rw [ha, hk.1, if_neg Bool.false_ne_true, if_neg hk.2.1, if_neg hk.2.2.1, if_neg hk.2.2.2, e2]
    show Except.ok (Sm.pay k e, S.mk (s.at_ + 1 + e.w.length) s.ch s.mv) = Except.ok (Sm.pay k e, S.mk (s.at_ + (e.w.length + 1)) s.ch s.mv)
    congr 3
    omega
  | ifs e a b =>
    obtain ⟨he, q, hq, va, vb⟩ := hv
    have hB := hb q hq
    have h : ws.drop s.at_ = ("if" : Str) :: (e.w ++ (a.w ++ ((if b.emp then [] else ("else" : Str) :: b.w) ++ ([("end" : Str)] ++ post)))) := by
      rw [h]
      show (("if" : Str) :: (e.w ++ (a.w ++ ((if b.emp then [] else ("else" : Str) :: b.w) ++ [("end" : Str)])))) ++ post = _
      simp
    have hc : s.ch + (a.chs + b.chs) ≤ 10 := hc
    obtain ⟨ha, d1⟩ := ahead_drop h
    have e1 := rEx_back hns (s := s.adv) he d1
    have d2 := drop_add d1
    cases hem : b.emp with
    | true =>
      have hb0 : b = .nil := by
        cases b with
        | nil => rfl
        | cons _ _ => cases hem
      subst hb0
      rw [hem, if_pos rfl, List.nil_append] at d2
      have e2 := hB a (s.adv.go e.w.length) _ va d2 stm_else.2 (by show s.ch + a.chs ≤ 10; omega)
      have d3 := drop_add d2
      have a3 := (ahead_drop d3).1
      have a3' : ahead ws ((s.adv.go e.w.length).to a.w.length a.chs a.mvs).at_ = "end" := a3
      unfold rSm
      rw [ha, kw1.1, if_neg Bool.false_ne_true, if_pos rfl]
      unfold rIf
      rw [if_pos (by omega), e1]
      dsimp only
      rw [e2]
      dsimp only
      rw [a3', if_neg kw2.2.2.2.2.2.2.2.2.2.2.2, if_pos rfl]
      show Except.ok (Sm.ifs e a .nil, S.mk (s.at_ + 1 + e.w.length + a.w.length + 1) (s.ch + a.chs) (s.mv + a.mvs)) = Except.ok (Sm.ifs e a .nil, S.mk (s.at_ + (("if" : Str) :: (e.w ++ (a.w ++ ([] ++ [("end" : Str)])))).length) (s.ch + (a.chs + 0)) (s.mv + (a.mvs + 0)))
      simp only [List.length_cons, List.length_append, List.length_nil]
      congr 3
      all_goals omega
    | false =>
      rw [hem, if_neg Bool.false_ne_true] at d2
      have e2 := hB a (s.adv.go e.w.length) _ va d2 stm_else.1 (by show s.ch + a.chs ≤ 10; omega)
      have d3 : ws.drop ((s.adv.go e.w.length).to a.w.length a.chs a.mvs).at_ = ("else" : Str) :: (b.w ++ ([("end" : Str)] ++ post)) := drop_add d2
      obtain ⟨a3, d4⟩ := ahead_drop d3
      have e4 := hB b ((s.adv.go e.w.length).to a.w.length a.chs a.mvs).adv _ vb d4 stm_else.2 (by show s.ch + a.chs + b.chs ≤ 10; omega)
      have d5 := drop_add d4
      have a5 : ahead ws ((((s.adv.go e.w.length).to a.w.length a.chs a.mvs).adv).to b.w.length b.chs b.mvs).at_ = "end" := (ahead_drop d5).1
      unfold rSm
      rw [ha, kw1.1, if_neg Bool.false_ne_true, if_pos rfl]
      unfold rIf
      rw [if_pos (by omega), e1]
      dsimp only
      rw [e2]
      dsimp only
      rw [a3, if_pos rfl, e4]
      dsimp only
      rw [if_pos ⟨a5, hem⟩]
      show Except.ok (Sm.ifs e a b, S.mk (s.at_ + 1 + e.w.length + a.w.length + 1 + b.w.length + 1) (s.ch + a.chs + b.chs) (s.mv + a.mvs + b.mvs)) = Except.ok (Sm.ifs e a b, S.mk (s.at_ + (("if" : Str) :: (e.w ++ (a.w ++ ((if b.emp then [] else ("else" : Str) :: b.w) ++ [("end" : Str)])))).length) (s.ch + (a.chs + b.chs)) (s.mv + (a.mvs + b.mvs)))
      rw [hem]
      simp only [Bool.false_eq_true, if_false, List.length_cons, List.length_append, List.length_nil]
      congr 3
      all_goals omega
end K1

set_option Elab.async false
set_option linter.all false
set_option maxRecDepth 100000
set_option maxHeartbeats 1000000
namespace K1
open PySem PySem.Spec PyProof.Rows L2 Kx TL
theorem ahead_head {ws : List Str} {i : Nat} {us : List Str} (h : ws.drop i = us) : ahead ws i = us.headD Str.empty := by
  cases us with
  | nil =>
    have h2 : ws.length ≤ i := List.drop_eq_nil_iff.mp h
    unfold ahead
    rw [List.getElem?_eq_none h2]
    rfl
  | cons x r => exact (ahead_drop h).1
theorem sm_first {ns : List Str} {r mv : Nat} {x : Sm} (hv : x.vl ns r mv) : ∃ k us, x.w = k :: us ∧ STM.contains k = true := by
  have all : ∀ k ∈ STM, STM.contains k = true := fun k hk => List.contains_iff_mem.mpr hk
  cases x with
  | set y e => exact ⟨_, _, rfl, by decide +kernel⟩
  | draw y n => exact ⟨_, _, rfl, by decide +kernel⟩
  | show_ y e => exact ⟨_, _, rfl, by decide +kernel⟩
  | ifs e a b => exact ⟨_, _, rfl, by decide +kernel⟩
  | pay k e =>
    refine ⟨_, _, rfl, ?_⟩
    rcases hv.1 with rfl | rfl <;> decide +kernel
  | move k y n m =>
    refine ⟨_, _, rfl, ?_⟩
    rcases hv.1 with rfl | rfl <;> decide +kernel
theorem rLoop_back {ws ns : List Str} {q : Nat} {stm : S → Rs Sm} (hs : ∀ (x : Sm) (s : S) (post : List Str), x.vl ns q s.mv → ws.drop s.at_ = x.w ++ post → s.ch + x.chs ≤ 10 → stm s = .ok (x, s.to x.w.length x.chs x.mvs)) :
    ∀ (b : Bk) (f : Nat) (s : S) (post : List Str), b.vl ns q s.mv → ws.drop s.at_ = b.w ++ post → STM.contains (post.headD Str.empty) = false → s.ch + b.chs ≤ 10 → b.sl.length ≤ f → rLoop ws stm f s = .ok (b, s.to b.w.length b.chs b.mvs)
  | .nil, f, s, post, hv, h, hp, hc, hf => by
    have h : ws.drop s.at_ = post := h
    have ha := ahead_head h
    cases f with
    | zero => rfl
    | succ f =>
      unfold rLoop
      rw [ha, hp, if_neg Bool.false_ne_true]
      rfl
  | .cons x b, f, s, post, hv, h, hp, hc, hf => by
    obtain ⟨vx, vb⟩ := hv
    have hc : s.ch + (x.chs + b.chs) ≤ 10 := hc
    have h : ws.drop s.at_ = x.w ++ (b.w ++ post) := by
      rw [h]
      show (x.w ++ b.w) ++ post = _
      rw [List.append_assoc]
    obtain ⟨k, us, ek, hk⟩ := sm_first vx
    have ha : ahead ws s.at_ = k := by
      have h2 := h
      rw [ek] at h2
      exact (ahead_drop h2).1
    have e1 := hs x s _ vx h (by omega)
    have hf : b.sl.length + 1 ≤ f := hf
    obtain ⟨f, rfl⟩ : ∃ g, f = g + 1 := ⟨f - 1, by omega⟩
    have e2 := rLoop_back hs b f (s.to x.w.length x.chs x.mvs) post vb (drop_add h) hp (by show s.ch + x.chs + b.chs ≤ 10; omega) (by omega)
    unfold rLoop
    rw [ha, hk, if_pos rfl, e1]
    dsimp only
    rw [e2]
    show Except.ok (Bk.cons x b, S.mk (s.at_ + x.w.length + b.w.length) (s.ch + x.chs + b.chs) (s.mv + x.mvs + b.mvs)) = Except.ok (Bk.cons x b, S.mk (s.at_ + (x.w ++ b.w).length) (s.ch + (x.chs + b.chs)) (s.mv + (x.mvs + b.mvs)))
    rw [List.length_append]
    congr 3 <;> omega
theorem sl_le {ns : List Str} {q : Nat} : ∀ (b : Bk) (mv : Nat), b.vl ns q mv → b.sl.length ≤ b.w.length
  | .nil, _, _ => Nat.le_refl _
  | .cons x b, mv, hv => by
    obtain ⟨k, us, ek, _⟩ := sm_first hv.1
    have := sl_le b _ hv.2
    show b.sl.length + 1 ≤ (x.w ++ b.w).length
    rw [List.length_append, ek, List.length_cons]
    omega
theorem rBk_back {ws ns : List Str} (hns : ∀ x ∈ ns, nameB x = true) : ∀ r : Nat, BackOk ws ns r (rBk ws ns r)
  | 0 => fun b s post hv h hp hc => by
    have hl : b.sl.length ≤ ws.length + 1 := by
      have h1 := sl_le b _ hv
      have h2 := congrArg List.length h
      rw [List.length_drop, List.length_append] at h2
      omega
    exact rLoop_back (fun x s post hv h hc => rSm_back hns (fun q z => by cases z) hv h hc) b _ s post hv h hp hc hl
  | r + 1 => fun b s post hv h hp hc => by
    have hl : b.sl.length ≤ ws.length + 1 := by
      have h1 := sl_le b _ hv
      have h2 := congrArg List.length h
      rw [List.length_drop, List.length_append] at h2
      omega
    exact rLoop_back (fun x s post hv h hc => rSm_back hns (fun q z => by
      obtain rfl := Nat.succ.inj z
      exact rBk_back hns r) hv h hc) b _ s post hv h hp hc hl
theorem rVars_back {ws : List Str} : ∀ (xs : List (Str × Int)) (f : Nat) (vs : List (Str × Int)) (i : Nat) (post : List Str), ws.drop i = varsW xs ++ post → post.headD Str.empty ≠ ("var" : Str) → vs.length + xs.length ≤ 5 → xs.length < f → (∀ p ∈ xs, nameB p.1 = true) → ((vs ++ xs).map (·.1)).Nodup → (∀ p ∈ xs, 1 ≤ p.2 ∧ p.2 ≤ 65535) →
    rVars ws f vs i = .ok (vs ++ xs, i + (varsW xs).length)
  | [], f, vs, i, post, h, hp, h5, hf, hn, hd, hz => by
    obtain ⟨f, rfl⟩ : ∃ g, f = g + 1 := ⟨f - 1, by have : 0 < f := hf; omega⟩
    have h : ws.drop i = post := h
    unfold rVars
    rw [ahead_head h, if_neg hp, List.append_nil]
    rfl
  | p :: xs, f, vs, i, post, h, hp, h5, hf, hn, hd, hz => by
    rw [List.length_cons] at h5 hf
    obtain ⟨f, rfl⟩ : ∃ g, f = g + 1 := ⟨f - 1, by omega⟩
    have h : ws.drop i = ("var" : Str) :: p.1 :: nt p.2 :: (varsW xs ++ post) := h
    obtain ⟨a0, d1⟩ := ahead_drop h
    obtain ⟨a1, d2⟩ := ahead_drop d1
    have hz1 := hz p (List.mem_cons_self ..)
    have e2 := rNum_back (s := ⟨i + 2, 0, 0⟩) (lo := 1) (hi := 65535) d2 (by omega) hz1.2 hz1.1 hz1.2
    obtain ⟨_, d3⟩ := ahead_drop d2
    have hnew : (vs.map (·.1)).contains p.1 = false := by
      cases z : (vs.map (·.1)).contains p.1 with
      | false => rfl
      | true =>
        have hm := List.contains_iff_mem.mp z
        rw [List.map_append] at hd
        exact absurd rfl ((List.nodup_append.mp hd).2.2 _ hm p.1 (by simp))
    have ih := rVars_back xs f (vs ++ [p]) (i + 3) post d3 hp (by rw [List.length_append]; show vs.length + 1 + xs.length ≤ 5; omega) (by omega) (fun y hy => hn y (List.mem_cons_of_mem _ hy)) (by rw [List.append_assoc]; exact hd) (fun y hy => hz y (List.mem_cons_of_mem _ hy))
    unfold rVars
    rw [a0, if_pos rfl, if_pos (by omega), a1, hn p (List.mem_cons_self ..), hnew, Bool.not_false, Bool.and_self, if_pos rfl, e2]
    dsimp only
    show rVars ws f (vs ++ [p]) (i + 3) = _
    rw [ih, List.append_assoc]
    show Except.ok (vs ++ p :: xs, i + 3 + (varsW xs).length) = Except.ok (vs ++ p :: xs, i + ((varsW xs).length + 1 + 1 + 1))
    congr 2
    omega
theorem bw_head {ns : List Str} {q mv : Nat} {b : Bk} (hv : b.vl ns q mv) : b.w.headD Str.empty ≠ ("var" : Str) := by
  cases b with
  | nil => decide +kernel
  | cons x b =>
    obtain ⟨k, us, ek, hk⟩ := sm_first hv.1
    show (x.w ++ b.w).headD Str.empty ≠ _
    rw [ek]
    intro z
    have z : k = ("var" : Str) := z
    rw [z] at hk
    exact absurd hk (by decide +kernel)
theorem rAll_back {xs : List (Str × Int)} {b : Bk} (G : GmOk xs b) : rAll (gameW xs b) = .ok (xs, b) := by
  have e1 := rVars_back (ws := gameW xs b) xs 6 [] 0 b.w rfl (bw_head G.vl) (by show 0 + xs.length ≤ 5; have := G.n5; omega) (by have := G.n5; omega) (fun p hp => G.nm _ (List.mem_map.mpr ⟨p, hp, rfl⟩)) G.nd G.sz
  have hd : (gameW xs b).drop (0 + (varsW xs).length) = b.w ++ [] := by
    rw [Nat.zero_add, List.append_nil]
    exact List.drop_left ..
  have e2 := rBk_back (ws := gameW xs b) G.nm 4 b ⟨0 + (varsW xs).length, 0, 0⟩ [] G.vl hd (by decide +kernel) (by show 0 + b.chs ≤ 10; have := G.chs; omega)
  unfold rAll
  rw [e1]
  dsimp only
  rw [List.nil_append, e2]
  dsimp only
  rw [if_neg]
  show ¬ 0 + (varsW xs).length + b.w.length < (varsW xs ++ b.w).length
  rw [List.length_append]
  omega
end K1

set_option Elab.async false
set_option linter.all false
set_option maxRecDepth 100000
set_option maxHeartbeats 1000000
namespace K1
open PySem PySem.Spec PyProof.Rows L2 Kx TL
theorem vl_okE {ns : List Str} : ∀ {e : Ex} {d : Nat}, e.vl ns d → e.okN ∧ e.okO ∧ e.dp ≤ d
  | .num n, d, h => ⟨h, trivial, Nat.zero_le _⟩
  | .var x, d, h => ⟨trivial, trivial, Nat.zero_le _⟩
  | .op o a b, d, h => by
    obtain ⟨h1, q, hq, va, vb⟩ := h
    have ha := vl_okE va
    have hb := vl_okE vb
    refine ⟨⟨ha.1, hb.1⟩, ⟨h1, ha.2.1, hb.2.1⟩, ?_⟩
    show max a.dp b.dp + 1 ≤ d
    omega
mutual
theorem vl_sm {ns : List Str} : ∀ {x : Sm} {r mv : Nat}, x.vl ns r mv → x.ok r
  | .set y e, r, mv, h => vl_okE h.2
  | .draw y n, r, mv, h => ⟨by have := h.2.1; omega, by have := h.2.2; omega⟩
  | .move k y n m, r, mv, h => ⟨h.1, by have := h.2.2.1; omega, by have := h.2.2.2.1; omega⟩
  | .show_ y e, r, mv, h => vl_okE h.2
  | .pay k e, r, mv, h => ⟨h.1, vl_okE h.2⟩
  | .ifs e a b, r, mv, h => by
    obtain ⟨he, q, hq, va, vb⟩ := h
    exact ⟨vl_okE he, q, hq, vl_bk va, vl_bk vb⟩
theorem vl_bk {ns : List Str} : ∀ {b : Bk} {r mv : Nat}, b.vl ns r mv → b.ok r
  | .nil, r, mv, h => trivial
  | .cons x b, r, mv, h => ⟨vl_sm h.1, vl_bk h.2⟩
end
theorem ex_len {ns : List Str} : ∀ {e : Ex} {d : Nat}, e.vl ns d → e.w.length + 1 ≤ 2 ^ (d + 1)
  | .num n, d, h => by
    show 1 + 1 ≤ _
    rw [Nat.pow_succ]
    have := Nat.one_le_two_pow (n := d)
    omega
  | .var x, d, h => by
    show 1 + 1 ≤ _
    rw [Nat.pow_succ]
    have := Nat.one_le_two_pow (n := d)
    omega
  | .op o a b, d, h => by
    obtain ⟨h1, q, rfl, va, vb⟩ := h
    have ha := ex_len va
    have hb := ex_len vb
    show (o :: (a.w ++ b.w)).length + 1 ≤ 2 ^ (q + 1 + 1)
    rw [List.length_cons, List.length_append, Nat.pow_succ]
    omega
theorem ex5 {ns : List Str} {e : Ex} (h : e.vl ns 5) : e.w.length ≤ 63 := by
  have := ex_len h
  have e2 : 2 ^ (5 + 1) = 64 := by decide
  omega
mutual
theorem sm_len {ns : List Str} : ∀ {x : Sm} {r mv : Nat}, x.vl ns r mv → x.w.length ≤ 66 * x.cnt
  | .set y e, r, mv, h => by
    have := ex5 h.2
    show e.w.length + 1 + 1 ≤ 66 * 1
    omega
  | .draw y n, r, mv, h => by show 3 ≤ 66 * 1; omega
  | .move k y n m, r, mv, h => by show 3 ≤ 66 * 1; omega
  | .show_ y e, r, mv, h => by
    have := ex5 h.2
    show e.w.length + 1 + 1 ≤ 66 * 1
    omega
  | .pay k e, r, mv, h => by
    have := ex5 h.2
    show e.w.length + 1 ≤ 66 * 1
    omega
  | .ifs e a b, r, mv, h => by
    obtain ⟨he, q, hq, va, vb⟩ := h
    have h1 := ex5 he
    have h2 := bk_len va
    have h3 := bk_len vb
    show (("if" : Str) :: (e.w ++ (a.w ++ ((if b.emp then [] else ("else" : Str) :: b.w) ++ [("end" : Str)])))).length ≤ 66 * (1 + a.cnt + b.cnt)
    cases b.emp with
    | true =>
      simp only [if_true, List.length_cons, List.length_append, List.length_nil]
      omega
    | false =>
      simp only [Bool.false_eq_true, if_false, List.length_cons, List.length_append, List.length_nil]
      omega
theorem bk_len {ns : List Str} : ∀ {b : Bk} {r mv : Nat}, b.vl ns r mv → b.w.length ≤ 66 * b.cnt
  | .nil, r, mv, h => Nat.le_refl _
  | .cons x b, r, mv, h => by
    have h1 := sm_len h.1
    have h2 := bk_len h.2
    show (x.w ++ b.w).length ≤ 66 * (x.cnt + b.cnt)
    rw [List.length_append]
    omega
end
/-- a word without spaces, neither empty nor long -/
def Wd (x : Str) : Prop := 32 ∉ tl x ∧ 1 ≤ x.length ∧ x.length ≤ 8
theorem wd_name {x : Str} (h : nameB x = true) : Wd x := by
  have hp := pre_of h
  refine ⟨fun z => ?_, hp.1, hp.2.1⟩
  have := made_all hp.2.2 32 z
  exact absurd this (by decide +kernel)
theorem wd_nt {m : Nat} (h : m ≤ 65535) : Wd (nt (m : Int)) := by
  obtain ⟨l1, l5⟩ := len_nt h
  refine ⟨?_, l1, by omega⟩
  show 32 ∉ (nt (m : Int)).cps.toList
  rw [cps_nt]
  exact numL_free (.inl (by decide))
theorem wd_int {n : Int} (h0 : 0 ≤ n) (h1 : n ≤ 65535) : Wd (nt n) := by
  obtain ⟨m, rfl⟩ : ∃ m : Nat, n = (m : Int) := ⟨n.toNat, by omega⟩
  exact wd_nt (by omega)
theorem wd_key : ∀ x ∈ (["var", "set", "draw", "choose", "come", "show", "chooser", "comer", "pay", "take", "if", "else", "end", "+", "-", "*", "/", "mod", "<", "="] : List Str), 32 ∉ x.cps.toList ∧ 1 ≤ x.length ∧ x.length ≤ 8 := by decide +kernel
theorem wd_op {x : Str} (h : OPS.contains x = true) : Wd x := by
  have sub : ∀ y ∈ OPS, y ∈ (["var", "set", "draw", "choose", "come", "show", "chooser", "comer", "pay", "take", "if", "else", "end", "+", "-", "*", "/", "mod", "<", "="] : List Str) := by decide +kernel
  exact wd_key x (sub x (List.contains_iff_mem.mp h))
theorem wd_seat {x : Str} (h : SEATS.contains x = true) : Wd x := by
  have sub : ∀ y ∈ SEATS, y ∈ (["var", "set", "draw", "choose", "come", "show", "chooser", "comer", "pay", "take", "if", "else", "end", "+", "-", "*", "/", "mod", "<", "="] : List Str) := by decide +kernel
  exact wd_key x (sub x (List.contains_iff_mem.mp h))
theorem wd_ex {ns : List Str} (hns : ∀ x ∈ ns, nameB x = true) : ∀ {e : Ex} {d : Nat}, e.vl ns d → ∀ x ∈ e.w, Wd x
  | .num n, d, h, x, hx => by
    rw [List.mem_singleton.mp hx]
    exact wd_int h.1 h.2
  | .var y, d, h, x, hx => by
    rw [List.mem_singleton.mp hx]
    exact wd_name (hns y h)
  | .op o a b, d, h, x, hx => by
    obtain ⟨h1, q, _, va, vb⟩ := h
    rcases List.mem_cons.mp hx with e | e
    · rw [e]
      exact wd_op h1
    · rcases List.mem_append.mp e with e | e
      · exact wd_ex hns va x e
      · exact wd_ex hns vb x e
mutual
theorem wd_sm {ns : List Str} (hns : ∀ x ∈ ns, nameB x = true) : ∀ {x : Sm} {r mv : Nat}, x.vl ns r mv → ∀ y ∈ x.w, Wd y
  | .set z e, r, mv, h, y, hy => by
    rcases List.mem_cons.mp hy with rfl | hy
    · exact wd_key _ (by simp)
    · rcases List.mem_cons.mp hy with rfl | hy
      · exact wd_name (hns _ h.1)
      · exact wd_ex hns h.2 y hy
  | .draw z n, r, mv, h, y, hy => by
    simp only [Sm.w, List.mem_cons, List.not_mem_nil, or_false] at hy
    rcases hy with rfl | rfl | rfl
    · exact wd_key _ (by simp)
    · exact wd_name (hns _ h.1)
    · exact wd_int (by have := h.2.1; omega) (by have := h.2.2; omega)
  | .move k z n m, r, mv, h, y, hy => by
    simp only [Sm.w, List.mem_cons, List.not_mem_nil, or_false] at hy
    rcases hy with rfl | rfl | rfl
    · rcases h.1 with rfl | rfl <;> exact wd_key _ (by simp)
    · exact wd_name (hns _ h.2.1)
    · exact wd_int (by have := h.2.2.1; omega) (by have := h.2.2.2.1; omega)
  | .show_ z e, r, mv, h, y, hy => by
    rcases List.mem_cons.mp hy with rfl | hy
    · exact wd_key _ (by simp)
    · rcases List.mem_cons.mp hy with rfl | hy
      · exact wd_seat h.1
      · exact wd_ex hns h.2 y hy
  | .pay k e, r, mv, h, y, hy => by
    rcases List.mem_cons.mp hy with rfl | hy
    · rcases h.1 with rfl | rfl <;> exact wd_key _ (by simp)
    · exact wd_ex hns h.2 y hy
  | .ifs e a b, r, mv, h, y, hy => by
    obtain ⟨he, q, hq, va, vb⟩ := h
    have hy : y ∈ ("if" : Str) :: (e.w ++ (a.w ++ ((if b.emp then [] else ("else" : Str) :: b.w) ++ [("end" : Str)]))) := hy
    rcases List.mem_cons.mp hy with rfl | hy
    · exact wd_key _ (by simp)
    · rcases List.mem_append.mp hy with hy | hy
      · exact wd_ex hns he y hy
      · rcases List.mem_append.mp hy with hy | hy
        · exact wd_bk hns va y hy
        · rcases List.mem_append.mp hy with hy | hy
          · split at hy
            · cases hy
            · rcases List.mem_cons.mp hy with rfl | hy
              · exact wd_key _ (by simp)
              · exact wd_bk hns vb y hy
          · rw [List.mem_singleton.mp hy]
            exact wd_key _ (by simp)
theorem wd_bk {ns : List Str} (hns : ∀ x ∈ ns, nameB x = true) : ∀ {b : Bk} {r mv : Nat}, b.vl ns r mv → ∀ y ∈ b.w, Wd y
  | .nil, r, mv, h, y, hy => nomatch hy
  | .cons x b, r, mv, h, y, hy => by
    rcases List.mem_append.mp (show y ∈ x.w ++ b.w from hy) with e | e
    · exact wd_sm hns h.1 y e
    · exact wd_bk hns h.2 y e
end
theorem wd_vars : ∀ {xs : List (Str × Int)}, (∀ p ∈ xs, nameB p.1 = true) → (∀ p ∈ xs, 1 ≤ p.2 ∧ p.2 ≤ 65535) → ∀ y ∈ varsW xs, Wd y
  | [], _, _, y, hy => nomatch hy
  | p :: r, hn, hz, y, hy => by
    have hp := hz p (List.mem_cons_self ..)
    have hy : y ∈ ("var" : Str) :: p.1 :: nt p.2 :: varsW r := hy
    rcases List.mem_cons.mp hy with rfl | hy
    · exact wd_key _ (by simp)
    · rcases List.mem_cons.mp hy with rfl | hy
      · exact wd_name (hn p (List.mem_cons_self ..))
      · rcases List.mem_cons.mp hy with rfl | hy
        · exact wd_int (by omega) hp.2
        · exact wd_vars (fun q hq => hn q (List.mem_cons_of_mem _ hq)) (fun q hq => hz q (List.mem_cons_of_mem _ hq)) y hy
theorem wd_game {xs : List (Str × Int)} {b : Bk} (G : GmOk xs b) : ∀ y ∈ gameW xs b, Wd y := fun y hy => by
  rcases List.mem_append.mp hy with e | e
  · exact wd_vars (fun p hp => G.nm _ (List.mem_map.mpr ⟨p, hp, rfl⟩)) G.sz y e
  · exact wd_bk G.nm G.vl y e
theorem gw_len {xs : List (Str × Int)} {b : Bk} (G : GmOk xs b) : b.w.length ≤ 924 ∧ (gameW xs b).length ≤ 939 := by
  have h1 := bk_len G.vl
  have h2 := G.cnt
  have h3 := G.n5
  have h4 := varsW_len xs
  refine ⟨by omega, ?_⟩
  unfold gameW
  rw [List.length_append]
  omega
theorem sum_le {ws : List Str} (h : ∀ y ∈ ws, Wd y) : (ws.map (·.length)).sum ≤ 8 * ws.length := by
  induction ws with
  | nil => exact Nat.le_refl _
  | cons x r ih =>
    have h1 := (h x (List.mem_cons_self ..)).2.2
    have h2 := ih fun y hy => h y (List.mem_cons_of_mem _ hy)
    rw [List.map_cons, List.sum_cons, List.length_cons]
    omega
theorem join_ok {xs : List (Str × Int)} {b : Bk} (G : GmOk xs b) : JoinOk (gameW xs b) := by
  have h1 := sum_le (wd_game G)
  have h2 := (gw_len G).2
  have h3 : (" " : Str).length = 1 := by decide +kernel
  unfold JoinOk
  rw [h3]
  omega
theorem words_back {xs : List (Str × Int)} {b : Bk} (G : GmOk xs b) : wordsOf (gameT xs b) = gameW xs b := by
  have hw := wd_game G
  unfold gameT
  cases e : gameW xs b with
  | nil => decide +kernel
  | cons x r =>
    rw [e] at hw
    have hx := (hw x (List.mem_cons_self ..)).2.1
    have h32 : tl (" " : Str) = 32 :: [] := by decide +kernel
    have hlen : (Txt.join " " (x :: r)).length ≠ 0 := by
      rw [join_eq, len_tl, tl_join]
      cases r with
      | nil =>
        rw [len_tl] at hx
        show (tl x).length ≠ 0
        omega
      | cons y r =>
        rw [len_tl] at hx
        show (tl x ++ (tl (" " : Str) ++ joinL (tl (" " : Str)) ((y :: r).map tl))).length ≠ 0
        rw [List.length_append]
        omega
    unfold wordsOf
    rw [if_neg hlen]
    exact split_join h32 (by decide +kernel) (by simp) fun p hp => (hw p hp).1
end K1

set_option Elab.async false
set_option linter.all false
set_option maxRecDepth 100000
set_option maxHeartbeats 1000000
namespace K1
open PySem PySem.Spec PyProof.Rows L2 Kx
/-! ### _law_same: asked of what is the same -/
inductive Flat : V → Prop where
  | int (i : Int) : Flat (.int i)
  | bl (b : Bool) : Flat (.bl b)
  | str (z : Str) : Flat (.str z)
inductive Sd (H : Hp) : Nat → V → V → Prop where
  | flat (n : Nat) {x : V} (h : Flat x) : Sd H n x x
  | tup (n : Nat) {a b : Addr} {xs ys : List V} (ha : H a = some (.tup xs)) (hb : H b = some (.tup ys)) (hl : xs.length = ys.length) (hz : ys.length ≤ 200000) (h : ∀ (i : Nat) (x y : V), xs[i]? = some x → ys[i]? = some y → Sd H n x y) : Sd H (n + 1) (.ref a) (.ref b)
  | lst (n : Nat) {a b : Addr} {xs ys : List V} (ha : H a = some (.lst xs)) (hb : H b = some (.lst ys)) (hl : xs.length = ys.length) (hz : ys.length ≤ 200000) (h : ∀ (i : Nat) (x y : V), xs[i]? = some x → ys[i]? = some y → Sd H n x y) : Sd H (n + 1) (.ref a) (.ref b)
def spSame (n : Nat) : Sp := fun vs H Q _ => ∃ x y, vs = [x, y] ∧ Sd H n x y ∧ Q (.bl true) H
theorem DtAll.get' {H : Hp} {vs : List V} {ds : List PyData} {i : Nat} {v : V} {d : PyData} (h : DtAll H vs ds) (hv : vs[i]? = some v) (hd : ds[i]? = some d) : Dt H v d := by
  obtain ⟨e, he, z⟩ := h.get hv
  rw [hd] at he
  cases he
  exact z
theorem Sd.of {H : Hp} : ∀ {n : Nat} {d : PyData} {x y : V}, Dep n d → Dt H x d → Dt H y d → Sd H n x y := by
  intro n d x y h
  induction h generalizing x y with
  | int n i =>
    intro a b
    obtain rfl := a.intI
    obtain rfl := b.intI
    exact .flat n (.int i)
  | str n z _ =>
    intro a b
    obtain rfl := a.strI
    obtain rfl := b.strI
    exact .flat n (.str z)
  | tup n ds hl h ih =>
    intro a b
    obtain ⟨a1, xs, rfl, ea, da⟩ := a.tupI
    obtain ⟨b1, ys, rfl, eb, db⟩ := b.tupI
    have l1 := da.length
    have l2 := db.length
    refine .tup n ea eb (by omega) (by omega) fun i x y hx hy => ?_
    obtain ⟨e, he, dx⟩ := da.get hx
    exact ih e (List.mem_of_getElem? he) dx (db.get' hy he)
theorem tyI {K : PySem.W.Frag} {H : Hp} {i : Int} : TyX K H (.int i) (.type "int") := .base (.int i)
theorem tyB {K : PySem.W.Frag} {H : Hp} {b : Bool} : TyX K H (.bl b) (.type "bool") := .base (.bl b)
theorem tyS {K : PySem.W.Frag} {H : Hp} {z : Str} : TyX K H (.str z) (.type "str") := .base (.str z)
theorem tyL {K : PySem.W.Frag} {H : Hp} {a : Addr} {xs : List V} (e : H a = some (.lst xs)) : TyX K H (.ref a) (.type "list") := .base (.lst e)
theorem tyT {K : PySem.W.Frag} {H : Hp} {a : Addr} {xs : List V} (e : H a = some (.tup xs)) : TyX K H (.ref a) (.type "tuple") := .base (.tup e)
section
variable {P : Program} {w : World} {K : PySem.W.Frag} {mg : Str → Option Value} {base : Heap}
theorem scSa : FnScope ["actual", "due", "k"] ["actual", "due"] (defScope sSame) := ⟨rfl, rfl, rfl, by decide +kernel, rfl, by decide +kernel, by decide +kernel⟩
theorem same_flat {f : Addr} (T : TxL mg) {cdv : Value} {A : Around} {outer : List Env} {s : Shared} {H0 : Hp} {E : XK} :
    ∃ t, PSs (cxOf CX0 P w K mg base ["actual", "due", "k"] "_law_same" (defScope sSame) f cdv A outer s H0 E).nox ((defBody sSame).drop 1) t ∧ ∀ (x : V) (v2 : Option V) (D : Ends) (H : Hp), Flat x → D.rt (.bl true) H → t D [some x, some x, v2] H := by
  refine ⟨_, pss_cons (ps_if (PW.pt (pw_or (pt_cmpR op_isN (pv 1) pe_non (nomark _)) (pw_or1 (pt_val (pe_callB call_isi (by rfl) T.isi (by decide +kernel) (pa_cons (pv 1) (pa_cons (pe_bltn (v := .ty "bool") (by rfl) T.bool (by decide +kernel) rfl) pa_nil)))))))
        (pss_one (ps_ret (pe_and (pe_cmpR op_eq (pe_cmpR op_isN (pv 0) pe_non (nomark _)) (pe_cmpR op_isN (pv 1) pe_non (nomark _)) (nomark _))
          (pe_and (pe_or (pe_cmpR op_isN (pv 1) pe_non (nomark _)) (pe_one (pe_callB call_isi (by rfl) T.isi (by decide +kernel) (pa_cons (pv 0) (pa_cons (pe_bltn (v := .ty "bool") (by rfl) T.bool (by decide +kernel) rfl) pa_nil)))))
            (pe_one (pe_cmpR op_eq (pv 0) (pv 1) (nomark _))))))) pss_nil)
      (pss_cons (ps_if (pt_val (pe_callB call_isi (by rfl) T.isi (by decide +kernel) (pa_cons (pv 1) (pa_cons (pe_bltn (v := .ty "int") (by rfl) T.int (by decide +kernel) rfl) pa_nil))))
        (pss_one (ps_ret (pe_and (pe_callB call_isi (by rfl) T.isi (by decide +kernel) (pa_cons (pv 0) (pa_cons (pe_bltn (v := .ty "int") (by rfl) T.int (by decide +kernel) rfl) pa_nil)))
          (pe_and (pe_not (pe_callB call_isi (by rfl) T.isi (by decide +kernel) (pa_cons (pv 0) (pa_cons (pe_bltn (v := .ty "bool") (by rfl) T.bool (by decide +kernel) rfl) pa_nil))))
            (pe_one (pe_cmpR op_eq (pv 0) (pv 1) (nomark _))))))) pss_nil)
      (pss_one (ps_ret (pe_and (pe_callB call_isi (by rfl) T.isi (by decide +kernel) (pa_cons (pv 0) (pa_cons (pe_bltn (v := .ty "str") (by rfl) T.str (by decide +kernel) rfl) pa_nil)))
          (pe_one (pe_cmpR op_eq (pv 0) (pv 1) (nomark _))))))), fun x v2 D H hx k => ?_⟩
  cases hx with
  | int i =>
    refine ⟨_, rfl, rfl, _, rfl, iteF ⟨_, rfl, _, _, _, _, false, rfl, .ty "bool", tyI, kit_ty (by decide +kernel), _, rfl, iteF ?_⟩⟩
    refine ⟨_, rfl, _, _, _, _, true, rfl, .ty "int", tyI, kit_same, _, rfl, iteT ?_⟩
    refine ⟨_, rfl, _, _, _, _, true, rfl, .ty "int", tyI, kit_same, _, rfl, iteT ⟨_, rfl, _, _, _, _, false, rfl, .ty "bool", tyI, kit_ty (by decide +kernel), _, rfl, _, rfl, iteT ⟨_, rfl, _, rfl, rfl, ?_⟩⟩⟩
    rw [decide_eq_true rfl]
    exact k
  | bl b =>
    refine ⟨_, rfl, rfl, _, rfl, iteF ⟨_, rfl, _, _, _, _, true, rfl, .ty "bool", tyB, kit_same, _, rfl, iteT ?_⟩⟩
    refine ⟨_, rfl, rfl, _, rfl, rfl, rfl, _, rfl, iteT ⟨_, rfl, rfl, _, rfl, iteF ⟨_, rfl, _, _, _, _, true, rfl, .ty "bool", tyB, kit_same, _, rfl, iteT ⟨_, rfl, _, rfl, rfl, ?_⟩⟩⟩⟩
    rw [decide_eq_true rfl]
    exact k
  | str z =>
    refine ⟨_, rfl, rfl, _, rfl, iteF ⟨_, rfl, _, _, _, _, false, rfl, .ty "bool", tyS, kit_ty (by decide +kernel), _, rfl, iteF ?_⟩⟩
    refine ⟨_, rfl, _, _, _, _, false, rfl, .ty "int", tyS, kit_ty (by decide +kernel), _, rfl, iteF ?_⟩
    refine ⟨_, rfl, _, _, _, _, true, rfl, .ty "str", tyS, kit_same, _, rfl, iteT ⟨_, rfl, _, rfl, rfl, ?_⟩⟩
    rw [decide_eq_true rfl]
    exact k
def fT : {H : Hp} → {x : V} → Flat x → Prop := fun _ => True
theorem flat_ty {H : Hp} {x : V} (h : Flat x) : ∃ t : String, TyX K H x (.type t) ∧ PySem.W.kitOne K (.type t) (.type "tuple") = some false ∧ PySem.W.kitOne K (.type t) (.type "list") = some false := by
  cases h with
  | int i => exact ⟨"int", tyI, kit_ty (by decide +kernel), kit_ty (by decide +kernel)⟩
  | bl b => exact ⟨"bool", tyB, kit_ty (by decide +kernel), kit_ty (by decide +kernel)⟩
  | str z => exact ⟨"str", tyS, kit_ty (by decide +kernel), kit_ty (by decide +kernel)⟩
theorem ok_same0 {f : Addr} {fd : FuncData} (F : Fun K "_law_same" "_law_same" sSame f fd) (T : TxL mg) : FnOk P w K mg base CX0 1 f fd ["actual", "due"] (spSame 0) := by
  refine F.ok scSa (fun vs H Q E h => ?_) (fun cdv A outer s H vs Q E hr h => ?_)
  · obtain ⟨x, y, rfl, _⟩ := h
    rfl
  · obtain ⟨x, y, rfl, hs, q⟩ := h
    obtain ⟨t, ht, rest⟩ := same_flat (P := P) (w := w) (K := K) (base := base) (f := f) (cdv := cdv) (A := A) (outer := outer) (s := s) (H0 := H) (E := E) T
    refine ⟨_, pss_cons (ps_if (PW.pt (pw_or (pt_val (pe_callB call_isi (by rfl) T.isi (by decide +kernel) (pa_cons (pv 1) (pa_cons (pe_bltn (v := .ty "tuple") (by rfl) T.tuple (by decide +kernel) rfl) pa_nil))))
          (pw_or1 (pt_val (pe_callB call_isi (by rfl) T.isi (by decide +kernel) (pa_cons (pv 1) (pa_cons (pe_bltn (v := .ty "list") (by rfl) T.list (by decide +kernel) rfl) pa_nil)))))))
        (pss_cons ps_never (pss_cons ps_never (pss_cons ps_never (pss_one ps_never)))) pss_nil) ht, ?_⟩
    cases hs with
    | flat _ hx =>
      obtain ⟨ty, h1, h2, h3⟩ := flat_ty (K := K) (H := H) hx
      refine ⟨_, rfl, _, _, _, _, false, rfl, .ty "tuple", h1, h2, _, rfl, iteF ⟨_, rfl, _, _, _, _, false, rfl, .ty "list", h1, h3, _, rfl, iteF (rest _ _ _ _ hx q)⟩⟩
theorem ok_sameS {f : Addr} {fd : FuncData} {k n : Nat} (F : Fun K "_law_same" "_law_same" sSame f fd) (T : TxL mg) (G : Fn0 P w K mg base k "_law_same" ["actual", "due"] (spSame n) f fd) : FnOk P w K mg base CX0 (k + 1) f fd ["actual", "due"] (spSame (n + 1)) := by
  refine F.ok scSa (fun vs H Q E h => ?_) (fun cdv A outer s H vs Q E hr h => ?_)
  · obtain ⟨x, y, rfl, _⟩ := h
    rfl
  · obtain ⟨x, y, rfl, hs, q⟩ := h
    obtain ⟨t, ht, rest⟩ := same_flat (P := P) (w := w) (K := K) (base := base) (f := f) (cdv := cdv) (A := A) (outer := outer) (s := s) (H0 := H) (E := E) T
    refine ⟨_, pss_cons (ps_if (PW.pt (pw_or (pt_val (pe_callB call_isi (by rfl) T.isi (by decide +kernel) (pa_cons (pv 1) (pa_cons (pe_bltn (v := .ty "tuple") (by rfl) T.tuple (by decide +kernel) rfl) pa_nil))))
          (pw_or1 (pt_val (pe_callB call_isi (by rfl) T.isi (by decide +kernel) (pa_cons (pv 1) (pa_cons (pe_bltn (v := .ty "list") (by rfl) T.list (by decide +kernel) rfl) pa_nil)))))))
        (pss_cons (ps_if (PW.pt (pw_or
            (pt_cmpR op_ne (pe_callB call_isi (by rfl) T.isi (by decide +kernel) (pa_cons (pv 1) (pa_cons (pe_bltn (v := .ty "tuple") (by rfl) T.tuple (by decide +kernel) rfl) pa_nil))) (pe_callB call_isi (by rfl) T.isi (by decide +kernel) (pa_cons (pv 0) (pa_cons (pe_bltn (v := .ty "tuple") (by rfl) T.tuple (by decide +kernel) rfl) pa_nil))) (nomark _))
            (pw_or1 (pt_cmpR op_ne (pe_callB call_isi (by rfl) T.isi (by decide +kernel) (pa_cons (pv 1) (pa_cons (pe_bltn (v := .ty "list") (by rfl) T.list (by decide +kernel) rfl) pa_nil))) (pe_callB call_isi (by rfl) T.isi (by decide +kernel) (pa_cons (pv 0) (pa_cons (pe_bltn (v := .ty "list") (by rfl) T.list (by decide +kernel) rfl) pa_nil))) (nomark _)))))
            (pss_one (ps_ret pe_bl)) pss_nil)
        (pss_cons (ps_if (pt_cmpR op_ne (pe_callB call_len_seq (by rfl) T.len PySem.boot_len (pa_cons (pv 0) pa_nil)) (pe_callB call_len_seq (by rfl) T.len PySem.boot_len (pa_cons (pv 1) pa_nil)) (nomark _)) (pss_one (ps_ret pe_bl)) pss_nil)
        (pss_cons (ps_for PassesOwn.never rfl (pi_range1 rfl T.range (pa_cons (pe_callB call_len_seq (by rfl) T.len PySem.boot_len (pa_cons (pv 1) pa_nil)) pa_nil)) (pg_name (i := 2) scSa.nd rfl (Or.inl rfl))
          (pss_one (ps_if (pt_not (pt_val (pe_call G.ok hr (by rfl) G.gl G.kp G.bd .nil pass0 (pa_cons (pe_ix ix_seq (pv 0) (pv 2) (fun _ _ => rfl)) (pa_cons (pe_ix ix_seq (pv 1) (pv 2) (fun _ _ => rfl)) pa_nil))))) (pss_one (ps_ret pe_bl)) pss_nil)))
        (pss_one (ps_ret pe_bl))))) pss_nil) ht, ?_⟩
    cases hs with
    | flat _ hx =>
      obtain ⟨ty, h1, h2, h3⟩ := flat_ty (K := K) (H := H) hx
      refine ⟨_, rfl, _, _, _, _, false, rfl, .ty "tuple", h1, h2, _, rfl, iteF ⟨_, rfl, _, _, _, _, false, rfl, .ty "list", h1, h3, _, rfl, iteF (rest _ _ _ _ hx q)⟩⟩
    | @lst _ a b xs ys ha hb hl hz h =>
      refine ⟨_, rfl, _, _, _, _, false, rfl, .ty "tuple", tyL hb, kit_ty (by decide +kernel), _, rfl, iteF ⟨_, rfl, _, _, _, _, true, rfl, .ty "list", tyL hb, kit_same, _, rfl, iteT ?_⟩⟩
      refine ⟨_, rfl, _, _, _, _, false, rfl, .ty "tuple", tyL hb, kit_ty (by decide +kernel), _, rfl, _, _, _, _, false, rfl, .ty "tuple", tyL ha, kit_ty (by decide +kernel), rfl, _, rfl, iteF ?_⟩
      refine ⟨_, rfl, _, _, _, _, true, rfl, .ty "list", tyL hb, kit_same, _, rfl, _, _, _, _, true, rfl, .ty "list", tyL ha, kit_same, rfl, _, rfl, iteF ?_⟩
      refine ⟨_, rfl, a, _, rfl, .inl (SqL.of ha), _, rfl, b, _, rfl, .inl (SqL.of hb), rfl, _, rfl, ?_⟩
      rw [hl, decide_eq_true rfl]
      refine iteF ⟨_, rfl, b, _, rfl, .inl (SqL.of hb), (ys.length : Int), rfl, by omega, by omega, for_range (lo := 0) (n := (ys.length : Int).toNat) (fun i σ H2 => (∃ v2, σ = [some (.ref a), some (.ref b), v2]) ∧ H2 = H) ⟨⟨_, rfl⟩, rfl⟩ ?_ ?_⟩
      · rintro i σ H2 hi ⟨⟨v2, rfl⟩, rfl⟩
        have h2 : i < ys.length := by omega
        have h1 : i < xs.length := by omega
        have ex := List.getElem?_eq_getElem h1
        have ey := List.getElem?_eq_getElem h2
        refine ⟨_, rfl, _, rfl, .inl ⟨a, _, _, _, rfl, rfl, SqL.of ha, by rw [Int.zero_add]; exact atI_nat ex, _, rfl, _, rfl, .inl ⟨b, _, _, _, rfl, rfl, SqL.of hb, by rw [Int.zero_add]; exact atI_nat ey, _, _, rfl, h i _ _ ex ey, _, rfl, iteF ⟨⟨_, rfl⟩, rfl⟩⟩⟩⟩
      · rintro σ H2 ⟨⟨v2, rfl⟩, rfl⟩
        exact q
    | @tup _ a b xs ys ha hb hl hz h =>
      refine ⟨_, rfl, _, _, _, _, true, rfl, .ty "tuple", tyT hb, kit_same, _, rfl, iteT ?_⟩
      refine ⟨_, rfl, _, _, _, _, true, rfl, .ty "tuple", tyT hb, kit_same, _, rfl, _, _, _, _, true, rfl, .ty "tuple", tyT ha, kit_same, rfl, _, rfl, iteF ?_⟩
      refine ⟨_, rfl, _, _, _, _, false, rfl, .ty "list", tyT hb, kit_ty (by decide +kernel), _, rfl, _, _, _, _, false, rfl, .ty "list", tyT ha, kit_ty (by decide +kernel), rfl, _, rfl, iteF ?_⟩
      refine ⟨_, rfl, a, _, rfl, .inr (SqT.of ha), _, rfl, b, _, rfl, .inr (SqT.of hb), rfl, _, rfl, ?_⟩
      rw [hl, decide_eq_true rfl]
      refine iteF ⟨_, rfl, b, _, rfl, .inr (SqT.of hb), (ys.length : Int), rfl, by omega, by omega, for_range (lo := 0) (n := (ys.length : Int).toNat) (fun i σ H2 => (∃ v2, σ = [some (.ref a), some (.ref b), v2]) ∧ H2 = H) ⟨⟨_, rfl⟩, rfl⟩ ?_ ?_⟩
      · rintro i σ H2 hi ⟨⟨v2, rfl⟩, rfl⟩
        have h2 : i < ys.length := by omega
        have h1 : i < xs.length := by omega
        have ex := List.getElem?_eq_getElem h1
        have ey := List.getElem?_eq_getElem h2
        refine ⟨_, rfl, _, rfl, .inr (.inl ⟨a, _, _, _, rfl, rfl, SqT.of ha, by rw [Int.zero_add]; exact atI_nat ex, _, rfl, _, rfl, .inr (.inl ⟨b, _, _, _, rfl, rfl, SqT.of hb, by rw [Int.zero_add]; exact atI_nat ey, _, _, rfl, h i _ _ ex ey, _, rfl, iteF ⟨⟨_, rfl⟩, rfl⟩⟩)⟩)⟩
      · rintro σ H2 ⟨⟨v2, rfl⟩, rfl⟩
        exact q
end
end K1

set_option Elab.async false
set_option linter.all false
set_option maxRecDepth 100000
set_option maxHeartbeats 1000000
/-! What is open before each word: a machine of one's own, and that it finds what the reader finds. -/
namespace K1
open PySem PySem.Spec PyProof.Rows L2 Kx TL
inductive It where
  | one | seat | head | new
  | num (lo hi : Int)
  | value (room : Nat)
  | block (room : Nat) (kind : Str)
  deriving DecidableEq
structure M where
  ns : List Str
  left : Nat
  st : List It
def nValue (m : M) (w : Str) (r : Nat) : Option M := if (OPS.contains w && decide (1 < r)) = true then some { m with st := .value (r - 1) :: .value (r - 1) :: m.st } else if m.ns.contains w = true ∨ (numB w && (decide (0 ≤ val w) && decide (val w ≤ 65535))) = true then some m else none
def nBegin (m : M) (w : Str) (r : Nat) : Option M :=
  if w = "set" ∧ 0 < m.ns.length then some { m with st := .one :: .value 6 :: m.st }
  else if CHS.contains w = true ∧ 0 < m.ns.length ∧ 0 < m.left then some { m with left := m.left - 1, st := .one :: .num 1 8 :: m.st }
  else if w = "show" then some { m with st := .seat :: .value 6 :: m.st }
  else if w = "pay" ∨ w = "take" then some { m with st := .value 6 :: m.st }
  else if w = "if" ∧ 0 < r then some { m with st := .value 6 :: .block (r - 1) "then" :: m.st }
  else none
def nBlock (m : M) (w : Str) (r : Nat) (kind : Str) : Option M :=
  if w = "end" ∧ (kind = "then" ∨ kind = "else") then some m
  else if w = "else" ∧ kind = "then" then some { m with st := .block r "empty" :: m.st }
  else nBegin { m with st := .block r (if kind = "empty" then "else" else kind) :: m.st } w r
def nx (m : M) (w : Str) : Option M := match m.st with
  | [] => none
  | .one :: k => if m.ns.contains w = true then some { m with st := k } else none
  | .seat :: k => if SEATS.contains w = true then some { m with st := k } else none
  | .num lo hi :: k => if (numB w && (decide (lo ≤ val w) && decide (val w ≤ hi))) = true then some { m with st := k } else none
  | .value r :: k => nValue { m with st := k } w r
  | .block r kind :: k => nBlock { m with st := k } w r kind
  | .head :: k => if w = "var" ∧ m.ns.length < 5 then some { m with st := .new :: .num 1 65535 :: .head :: k } else nBlock { m with st := k } w 4 "game"
  | .new :: k => if m.ns.contains w = true ∨ nameB w = false then none else some { m with ns := m.ns ++ [w], st := k }
def run : M → List Str → Nat → Except Nat M
  | m, [], _ => .ok m
  | m, w :: r, i => match nx m w with
    | none => .error i
    | some m1 => run m1 r (i + 1)
def m0 : M := ⟨[], 10, [.head]⟩
def wrongM (ws : List Str) : Option Nat := match run m0 ws 0 with
  | .error i => some i
  | .ok m => if m.st = [.head] ∨ m.st = [.block 4 "game"] then none else some ws.length
/-! ### from a place on -/
def go (ws : List Str) (m : M) (i : Nat) : Except Nat M := run m (ws.drop i) i
theorem go_end {ws : List Str} {m : M} {i : Nat} (h : ws.length ≤ i) : go ws m i = .ok m := by
  unfold go
  rw [List.drop_eq_nil_iff.mpr h]
  rfl
theorem go_step {ws : List Str} {m : M} {i : Nat} (h : i < ws.length) : go ws m i = match nx m (ahead ws i) with
    | none => .error i
    | some m1 => go ws m1 (i + 1) := by
  unfold go
  have e : ws.drop i = ws[i] :: ws.drop (i + 1) := List.drop_eq_getElem_cons h
  have a : ahead ws i = ws[i] := by
    unfold ahead
    rw [List.getElem?_eq_getElem h]
    rfl
  rw [e, a]
  rfl
theorem ahead_out {ws : List Str} {i : Nat} (h : ws.length ≤ i) : ahead ws i = Str.empty := by
  unfold ahead
  rw [List.getElem?_eq_none h]
  rfl
theorem ahead_in {ws : List Str} {i : Nat} (h : ahead ws i ≠ Str.empty) : i < ws.length := by
  by_cases z : i < ws.length
  · exact z
  · exact absurd (ahead_out (by omega)) h
/-- it stops at j, with more open than k -/
def Bad (ws : List Str) (k : List It) (res : Except Nat M) (j : Nat) : Prop := (j < ws.length ∧ res = .error j) ∨ (j = ws.length ∧ ∃ m x, res = .ok m ∧ m.st = x ++ k ∧ x ≠ [])
theorem Bad.at {ws : List Str} {m : M} {i : Nat} {k : List It} {x : List It} (hi : i ≤ ws.length) (h : i < ws.length → nx m (ahead ws i) = none) (hs : m.st = x ++ k) (hx : x ≠ []) : Bad ws k (go ws m i) i := by
  by_cases z : i < ws.length
  · refine .inl ⟨z, ?_⟩
    rw [go_step z, h z]
  · exact .inr ⟨by omega, m, x, go_end (by omega), hs, hx⟩
theorem Bad.less {ws : List Str} {k y : List It} {res : Except Nat M} {j : Nat} (h : Bad ws (y ++ k) res j) : Bad ws k res j := by
  rcases h with h | ⟨h, m, x, e, s, hx⟩
  · exact .inl h
  · refine .inr ⟨h, m, x ++ y, e, by rw [s, List.append_assoc], ?_⟩
    cases x with
    | nil => exact absurd rfl hx
    | cons a r => exact nofun
theorem Bad.one {ws : List Str} {k : List It} {y : It} {res : Except Nat M} {j : Nat} (h : Bad ws (y :: k) res j) : Bad ws k res j := Bad.less (y := [y]) h
theorem emp_no : OPS.contains Str.empty = false ∧ numB Str.empty = false ∧ STM.contains Str.empty = false ∧ nameB Str.empty = false ∧ SEATS.contains Str.empty = false := by decide +kernel
/-! ### names and numbers -/
section
variable {ws ns : List Str}
theorem name_go (hns : ∀ x ∈ ns, nameB x = true) {s : S} (hs : s.at_ ≤ ws.length) {l : Nat} {k : List It} : match rName ws ns s with
    | .ok (_, s1) => s1 = s.adv ∧ s.at_ < ws.length ∧ go ws ⟨ns, l, .one :: k⟩ s.at_ = go ws ⟨ns, l, k⟩ (s.at_ + 1)
    | .error j => Bad ws k (go ws ⟨ns, l, .one :: k⟩ s.at_) j := by
  unfold rName
  cases h : ns.contains (ahead ws s.at_) with
  | true =>
    rw [if_pos rfl]
    have hi : s.at_ < ws.length := ahead_in fun z => by
      have := hns _ (List.contains_iff_mem.mp h)
      rw [z, emp_no.2.2.2.1] at this
      cases this
    refine ⟨rfl, hi, ?_⟩
    rw [go_step hi]
    show (match (if ns.contains (ahead ws s.at_) = true then some (⟨ns, l, k⟩ : M) else none) with
      | none => Except.error s.at_
      | some m1 => go ws m1 (s.at_ + 1)) = _
    rw [h, if_pos rfl]
  | false =>
    rw [if_neg Bool.false_ne_true]
    refine Bad.at (x := [.one]) hs (fun _ => ?_) rfl nofun
    show (if ns.contains (ahead ws s.at_) = true then some (⟨ns, l, k⟩ : M) else none) = none
    rw [h, if_neg Bool.false_ne_true]
theorem num_go {lo hi : Int} {s : S} (hs : s.at_ ≤ ws.length) {l : Nat} {k : List It} : match rNum ws lo hi s with
    | .ok (_, s1) => s1 = s.adv ∧ s.at_ < ws.length ∧ go ws ⟨ns, l, .num lo hi :: k⟩ s.at_ = go ws ⟨ns, l, k⟩ (s.at_ + 1)
    | .error j => Bad ws k (go ws ⟨ns, l, .num lo hi :: k⟩ s.at_) j := by
  unfold rNum
  cases h : (numB (ahead ws s.at_) && (decide (lo ≤ val (ahead ws s.at_)) && decide (val (ahead ws s.at_) ≤ hi))) with
  | true =>
    rw [if_pos rfl]
    have hi' : s.at_ < ws.length := ahead_in fun z => by
      rw [z, emp_no.2.1, Bool.false_and] at h
      cases h
    refine ⟨rfl, hi', ?_⟩
    rw [go_step hi']
    show (match (if (numB (ahead ws s.at_) && (decide (lo ≤ val (ahead ws s.at_)) && decide (val (ahead ws s.at_) ≤ hi))) = true then some (⟨ns, l, k⟩ : M) else none) with
      | none => Except.error s.at_
      | some m1 => go ws m1 (s.at_ + 1)) = _
    rw [h, if_pos rfl]
  | false =>
    rw [if_neg Bool.false_ne_true]
    refine Bad.at (x := [.num lo hi]) hs (fun _ => ?_) rfl nofun
    show (if (numB (ahead ws s.at_) && (decide (lo ≤ val (ahead ws s.at_)) && decide (val (ahead ws s.at_) ≤ hi))) = true then some (⟨ns, l, k⟩ : M) else none) = none
    rw [h, if_neg Bool.false_ne_true]
theorem numB_ok {w : Str} (h : numB w = true) : (numB w && (decide (0 ≤ val w) && decide (val w ≤ 65535))) = true := by
  have h2 := h
  unfold numB at h2
  simp only [Bool.and_eq_true, decide_eq_true_eq] at h2
  rw [h, Bool.true_and, Bool.and_eq_true, decide_eq_true_eq, decide_eq_true_eq]
  exact ⟨by unfold val; omega, h2.2⟩
/-- an expression, where so many levels are left -/
theorem ex_go (hns : ∀ x ∈ ns, nameB x = true) : ∀ (d : Nat) (s : S), s.at_ ≤ ws.length → ∀ (l : Nat) (k : List It), match rEx ws ns d s with
    | .ok (_, s1) => s1 = ⟨s1.at_, s.ch, s.mv⟩ ∧ s1.at_ ≤ ws.length ∧ go ws ⟨ns, l, .value (d + 1) :: k⟩ s.at_ = go ws ⟨ns, l, k⟩ s1.at_
    | .error j => Bad ws k (go ws ⟨ns, l, .value (d + 1) :: k⟩ s.at_) j := by
  have leaf : ∀ (d : Nat) (s : S), s.at_ ≤ ws.length → ∀ (l : Nat) (k : List It), (OPS.contains (ahead ws s.at_) && decide (1 < d + 1)) = false → OPS.contains (ahead ws s.at_) = false → match (if numB (ahead ws s.at_) = true then (match rNum ws 0 65535 s with
      | .error i => .error i
      | .ok (n, s1) => .ok (.num n, s1))
    else match rName ws ns s with
      | .error i => .error i
      | .ok (x, s1) => .ok (.var x, s1) : Rs Ex) with
    | .ok (_, s1) => s1 = ⟨s1.at_, s.ch, s.mv⟩ ∧ s1.at_ ≤ ws.length ∧ go ws ⟨ns, l, .value (d + 1) :: k⟩ s.at_ = go ws ⟨ns, l, k⟩ s1.at_
    | .error j => Bad ws k (go ws ⟨ns, l, .value (d + 1) :: k⟩ s.at_) j := by
    intro d s hs l k hop _
    have enx : nx ⟨ns, l, .value (d + 1) :: k⟩ (ahead ws s.at_) = if ns.contains (ahead ws s.at_) = true ∨ (numB (ahead ws s.at_) && (decide (0 ≤ val (ahead ws s.at_)) && decide (val (ahead ws s.at_) ≤ 65535))) = true then some ⟨ns, l, k⟩ else none := by
      show nValue ⟨ns, l, k⟩ (ahead ws s.at_) (d + 1) = _
      unfold nValue
      rw [hop, if_neg Bool.false_ne_true]
    cases hn : numB (ahead ws s.at_) with
    | true =>
      have hi : s.at_ < ws.length := ahead_in fun z => by
        rw [z, emp_no.2.1] at hn
        cases hn
      have h2 := numB_ok hn
      have e : rNum ws 0 65535 s = .ok (val (ahead ws s.at_), s.adv) := by
        unfold rNum
        rw [h2, if_pos rfl]
      rw [if_pos rfl, e]
      refine ⟨rfl, hi, ?_⟩
      rw [go_step hi, enx, if_pos (.inr h2)]
      rfl
    | false =>
      rw [if_neg Bool.false_ne_true]
      unfold rName
      cases h : ns.contains (ahead ws s.at_) with
      | true =>
        rw [if_pos rfl]
        have hi : s.at_ < ws.length := ahead_in fun z => by
          have := hns _ (List.contains_iff_mem.mp h)
          rw [z, emp_no.2.2.2.1] at this
          cases this
        refine ⟨rfl, hi, ?_⟩
        rw [go_step hi, enx, if_pos (.inl h)]
        rfl
      | false =>
        rw [if_neg Bool.false_ne_true]
        refine Bad.at (x := [.value (d + 1)]) hs (fun _ => ?_) rfl nofun
        rw [enx, h, hn, Bool.false_and, if_neg (by rintro (z | z) <;> cases z)]
  intro d
  induction d with
  | zero =>
    intro s hs l k
    unfold rEx
    cases ho : OPS.contains (ahead ws s.at_) with
    | true =>
      rw [if_pos rfl]
      refine Bad.at (x := [.value 1]) hs (fun _ => ?_) rfl nofun
      show nValue ⟨ns, l, k⟩ (ahead ws s.at_) 1 = none
      unfold nValue
      have h1 : ns.contains (ahead ws s.at_) = false := by
        cases z : ns.contains (ahead ws s.at_) with
        | false => rfl
        | true =>
          have := (name_op (hns _ (List.contains_iff_mem.mp z))).1
          rw [ho] at this
          cases this
      have h2 : numB (ahead ws s.at_) = false := by
        have no : ∀ x ∈ OPS, numB x = false := by decide +kernel
        exact no _ (List.contains_iff_mem.mp ho)
      show (if (OPS.contains (ahead ws s.at_) && decide (1 < 1)) = true then _ else if ns.contains (ahead ws s.at_) = true ∨ _ then _ else _) = _
      rw [h1, h2, Bool.false_and]
      simp
    | false =>
      rw [if_neg Bool.false_ne_true]
      exact leaf 0 s hs l k (by rw [ho]; rfl) ho
  | succ d ih =>
    intro s hs l k
    unfold rEx
    cases ho : OPS.contains (ahead ws s.at_) with
    | false =>
      rw [if_neg Bool.false_ne_true]
      exact leaf (d + 1) s hs l k (by rw [ho]; rfl) ho
    | true =>
      rw [if_pos rfl]
      have hi : s.at_ < ws.length := ahead_in fun z => by
        rw [z, emp_no.1] at ho
        cases ho
      have e0 : go ws ⟨ns, l, .value (d + 1 + 1) :: k⟩ s.at_ = go ws ⟨ns, l, .value (d + 1) :: .value (d + 1) :: k⟩ (s.at_ + 1) := by
        rw [go_step hi]
        show (match nValue ⟨ns, l, k⟩ (ahead ws s.at_) (d + 1 + 1) with
          | none => Except.error s.at_
          | some m1 => go ws m1 (s.at_ + 1)) = _
        unfold nValue
        rw [ho, decide_eq_true (show 1 < d + 1 + 1 by omega), Bool.and_self, if_pos rfl]
        rfl
      rw [e0]
      have i1 := ih s.adv (by show s.at_ + 1 ≤ _; omega) l (.value (d + 1) :: k)
      dsimp only
      cases q1 : rEx ws ns d s.adv with
      | error j =>
        rw [q1] at i1
        exact Bad.one i1
      | ok p =>
        obtain ⟨a, s1⟩ := p
        rw [q1] at i1
        obtain ⟨h1, h2, h3⟩ := i1
        have i2 := ih s1 h2 l k
        dsimp only
        rw [show go ws ⟨ns, l, .value (d + 1) :: .value (d + 1) :: k⟩ (s.at_ + 1) = _ from h3]
        cases q2 : rEx ws ns d s1 with
        | error j =>
          rw [q2] at i2
          exact i2
        | ok p =>
          obtain ⟨b, s2⟩ := p
          rw [q2] at i2
          obtain ⟨h4, h5, h6⟩ := i2
          refine ⟨?_, h5, h6⟩
          rw [h4, h1]
          rfl
end
end K1

set_option Elab.async false
set_option linter.all false
set_option maxRecDepth 100000
set_option maxHeartbeats 1000000
namespace K1
open PySem PySem.Spec PyProof.Rows L2 Kx TL
theorem begin_no {m : M} {w : Str} {r : Nat} (h : STM.contains w = false) : nBegin m w r = none := by
  have n1 : ¬ w = "set" := fun z => by rw [z] at h; exact absurd h (by decide +kernel)
  have n2 : CHS.contains w = false := by
    cases z : CHS.contains w with
    | false => rfl
    | true =>
      have sub : ∀ x ∈ CHS, STM.contains x = true := by decide +kernel
      rw [sub _ (List.contains_iff_mem.mp z)] at h
      cases h
  have n3 : ¬ w = "show" := fun z => by rw [z] at h; exact absurd h (by decide +kernel)
  have n4 : ¬ w = "pay" := fun z => by rw [z] at h; exact absurd h (by decide +kernel)
  have n5 : ¬ w = "take" := fun z => by rw [z] at h; exact absurd h (by decide +kernel)
  have n6 : ¬ w = "if" := fun z => by rw [z] at h; exact absurd h (by decide +kernel)
  unfold nBegin
  rw [if_neg (fun z => n1 z.1), n2, if_neg (fun z => Bool.false_ne_true z.1), if_neg n3, if_neg (by rintro (z | z); exact n4 z; exact n5 z), if_neg (fun z => n6 z.1)]
def aft (kind : Str) : Str := if kind = "empty" then "else" else kind
/-- what follows the first word of a statement -/
def beg (ws : List Str) (m : M) (i r : Nat) : Except Nat M := match nBegin m (ahead ws i) r with
  | none => .error i
  | some m1 => go ws m1 (i + 1)
def BlkGo (ws ns : List Str) (r : Nat) (blk : S → Rs Bk) : Prop := ∀ (s : S), s.at_ ≤ ws.length → s.ch ≤ 10 → ∀ (kind : Str) (k : List It), match blk s with
  | .ok (b, s1) => s1.at_ ≤ ws.length ∧ s1.ch ≤ 10 ∧ STM.contains (ahead ws s1.at_) = false ∧ go ws ⟨ns, 10 - s.ch, .block r kind :: k⟩ s.at_ = go ws ⟨ns, 10 - s1.ch, .block r (if b.emp = true then kind else aft kind) :: k⟩ s1.at_
  | .error j => ∃ k2, Bad ws (.block r k2 :: k) (go ws ⟨ns, 10 - s.ch, .block r kind :: k⟩ s.at_) j
def SmGo (ws ns : List Str) (r : Nat) (stm : S → Rs Sm) : Prop := ∀ (s : S), s.at_ ≤ ws.length → s.ch ≤ 10 → STM.contains (ahead ws s.at_) = true → ∀ (k : List It), match stm s with
  | .ok (_, s1) => s1.at_ ≤ ws.length ∧ s1.ch ≤ 10 ∧ beg ws ⟨ns, 10 - s.ch, k⟩ s.at_ r = go ws ⟨ns, 10 - s1.ch, k⟩ s1.at_
  | .error j => Bad ws k (beg ws ⟨ns, 10 - s.ch, k⟩ s.at_ r) j
section
variable {ws ns : List Str}
theorem beg_none {m : M} {i r : Nat} {k : List It} (hi : i < ws.length) (h : nBegin m (ahead ws i) r = none) : Bad ws k (beg ws m i r) i := by
  unfold beg
  rw [h]
  exact .inl ⟨hi, rfl⟩
theorem stm_in {i : Nat} (h : STM.contains (ahead ws i) = true) : i < ws.length := ahead_in fun z => by
  rw [z, emp_no.2.2.1] at h
  cases h
theorem chs_cases {w : Str} (h : CHS.contains w = true) : ¬ w = "set" ∧ ¬ w = "show" ∧ ¬ w = "pay" ∧ ¬ w = "take" ∧ ¬ w = "if" := by
  have all : ∀ x ∈ CHS, ¬ x = "set" ∧ ¬ x = "show" ∧ ¬ x = "pay" ∧ ¬ x = "take" ∧ ¬ x = "if" := by decide +kernel
  exact all _ (List.contains_iff_mem.mp h)
theorem chance_go (hns : ∀ x ∈ ns, nameB x = true) {r : Nat} (s : S) (hs : s.ch ≤ 10) (hc : CHS.contains (ahead ws s.at_) = true) (hi : s.at_ < ws.length) (k : List It) : match rChance ws ns (ahead ws s.at_) s with
  | .ok (_, s1) => s1.at_ ≤ ws.length ∧ s1.ch ≤ 10 ∧ beg ws ⟨ns, 10 - s.ch, k⟩ s.at_ r = go ws ⟨ns, 10 - s1.ch, k⟩ s1.at_
  | .error j => Bad ws k (beg ws ⟨ns, 10 - s.ch, k⟩ s.at_ r) j := by
  obtain ⟨n1, n2, n3, n4, n5⟩ := chs_cases hc
  unfold rChance
  cases hcond : (decide (0 < ns.length) && decide (s.ch < 10)) with
  | false =>
    rw [if_neg Bool.false_ne_true]
    refine beg_none hi ?_
    unfold nBegin
    rw [if_neg (fun z => n1 z.1), if_neg, if_neg n2, if_neg (by rintro (z | z); exact n3 z; exact n4 z), if_neg (fun z => n5 z.1)]
    rintro ⟨_, h1, h2⟩
    have h1 : 0 < ns.length := h1
    have h2 : 0 < 10 - s.ch := h2
    rw [decide_eq_true h1, decide_eq_true (show s.ch < 10 by omega)] at hcond
    cases hcond
  | true =>
    rw [if_pos rfl]
    simp only [Bool.and_eq_true, decide_eq_true_eq] at hcond
    have e0 : beg ws ⟨ns, 10 - s.ch, k⟩ s.at_ r = go ws ⟨ns, 10 - (s.ch + 1), .one :: .num 1 8 :: k⟩ (s.at_ + 1) := by
      unfold beg nBegin
      rw [if_neg (fun z => n1 z.1), if_pos ⟨hc, hcond.1, show 0 < 10 - s.ch by omega⟩]
      rfl
    rw [e0]
    have i1 := name_go (ws := ws) hns (s := { s.adv with ch := s.ch + 1 }) (show s.at_ + 1 ≤ ws.length by omega) (l := 10 - (s.ch + 1)) (k := .num 1 8 :: k)
    cases q1 : rName ws ns { s.adv with ch := s.ch + 1 } with
    | error j =>
      rw [q1] at i1
      exact Bad.one i1
    | ok p =>
      obtain ⟨x, s1⟩ := p
      rw [q1] at i1
      obtain ⟨rfl, h2, h3⟩ := i1
      dsimp only
      rw [show go ws ⟨ns, 10 - (s.ch + 1), .one :: .num 1 8 :: k⟩ (s.at_ + 1) = _ from h3]
      have h2 : s.at_ + 1 < ws.length := h2
      have i2 := num_go (ws := ws) (ns := ns) (lo := 1) (hi := 8) (s := S.adv { s.adv with ch := s.ch + 1 }) (show s.at_ + 1 + 1 ≤ ws.length by omega) (l := 10 - (s.ch + 1)) (k := k)
      cases q2 : rNum ws 1 8 (S.adv { s.adv with ch := s.ch + 1 }) with
      | error j =>
        rw [q2] at i2
        exact i2
      | ok p =>
        obtain ⟨n, s2⟩ := p
        rw [q2] at i2
        obtain ⟨rfl, h4, h5⟩ := i2
        have h4 : s.at_ + 1 + 1 < ws.length := h4
        dsimp only
        by_cases hd : ahead ws s.at_ = "draw"
        · rw [if_pos hd]
          exact ⟨show s.at_ + 1 + 1 + 1 ≤ ws.length by omega, show s.ch + 1 ≤ 10 by omega, h5⟩
        · rw [if_neg hd]
          exact ⟨show s.at_ + 1 + 1 + 1 ≤ ws.length by omega, show s.ch + 1 ≤ 10 by omega, h5⟩
theorem kwx : ¬ ("end" : Str) = "else" ∧ ¬ ("else" : Str) = "end" ∧ ¬ ("empty" : Str) = "then" ∧ ¬ ("empty" : Str) = "else" ∧ ¬ ("else" : Str) = "then" ∧ ¬ ("then" : Str) = "empty" ∧ ¬ ("else" : Str) = "empty" ∧ STM.contains ("end" : Str) = false ∧ STM.contains ("else" : Str) = false ∧ ¬ ("then" : Str) = "else" ∧ ¬ ("game" : Str) = "then" ∧ ¬ ("game" : Str) = "else" ∧ ¬ ("game" : Str) = "empty" := by decide +kernel
theorem if_go (hns : ∀ x ∈ ns, nameB x = true) {r : Nat} {blk : S → Rs Bk} (hb : ∀ q, r = q + 1 → BlkGo ws ns q blk) (s : S) (hs : s.ch ≤ 10) (hw : ahead ws s.at_ = "if") (hi : s.at_ < ws.length) (k : List It) : match rIf ws ns r blk s with
  | .ok (_, s1) => s1.at_ ≤ ws.length ∧ s1.ch ≤ 10 ∧ beg ws ⟨ns, 10 - s.ch, k⟩ s.at_ r = go ws ⟨ns, 10 - s1.ch, k⟩ s1.at_
  | .error j => Bad ws k (beg ws ⟨ns, 10 - s.ch, k⟩ s.at_ r) j := by
  have n1 : ¬ ("if" : Str) = "set" ∧ CHS.contains ("if" : Str) = false ∧ ¬ ("if" : Str) = "show" ∧ ¬ (("if" : Str) = "pay" ∨ ("if" : Str) = "take") := by decide +kernel
  have eb : nBegin ⟨ns, 10 - s.ch, k⟩ (ahead ws s.at_) r = if ("if" : Str) = "if" ∧ 0 < r then some ⟨ns, 10 - s.ch, .value 6 :: .block (r - 1) "then" :: k⟩ else none := by
    rw [hw]
    unfold nBegin
    rw [if_neg (fun z => n1.1 z.1), n1.2.1, if_neg (fun z => Bool.false_ne_true z.1), if_neg n1.2.2.1, if_neg n1.2.2.2]
  unfold rIf
  by_cases hr : 0 < r
  · rw [if_pos hr]
    obtain ⟨q, rfl⟩ : ∃ q, r = q + 1 := ⟨r - 1, by omega⟩
    have B := hb q rfl
    have e0 : beg ws ⟨ns, 10 - s.ch, k⟩ s.at_ (q + 1) = go ws ⟨ns, 10 - s.ch, .value 6 :: .block q "then" :: k⟩ (s.at_ + 1) := by
      unfold beg
      rw [eb, if_pos ⟨rfl, hr⟩]
      rfl
    rw [e0]
    have i1 := ex_go (ws := ws) hns 5 s.adv (show s.at_ + 1 ≤ _ by omega) (10 - s.ch) (.block q "then" :: k)
    cases q1 : rEx ws ns 5 s.adv with
    | error j =>
      rw [q1] at i1
      exact Bad.one i1
    | ok p =>
      obtain ⟨e, s1⟩ := p
      rw [q1] at i1
      obtain ⟨h1, h2, h3⟩ := i1
      have c1 : s1.ch = s.ch := by rw [h1]; rfl
      dsimp only
      rw [show go ws ⟨ns, 10 - s.ch, .value 6 :: .block q "then" :: k⟩ (s.at_ + 1) = _ from h3, ← c1]
      have i2 := B s1 h2 (by omega) "then" k
      cases q2 : blk s1 with
      | error j =>
        rw [q2] at i2
        obtain ⟨k2, i2⟩ := i2
        exact Bad.one i2
      | ok p =>
        obtain ⟨a, s2⟩ := p
        rw [q2] at i2
        obtain ⟨h4, h5, h6, h7⟩ := i2
        have ek : (if a.emp = true then ("then" : Str) else aft "then") = "then" := by
          unfold aft
          rw [if_neg kwx.2.2.2.2.2.1]
          split <;> rfl
        rw [ek] at h7
        dsimp only
        rw [h7]
        by_cases hel : ahead ws s2.at_ = "else"
        · rw [if_pos hel]
          have l2 : s2.at_ < ws.length := ahead_in fun z => by
            rw [hel] at z
            exact absurd z (by decide +kernel)
          have e2 : go ws ⟨ns, 10 - s2.ch, .block q "then" :: k⟩ s2.at_ = go ws ⟨ns, 10 - s2.ch, .block q "empty" :: k⟩ (s2.at_ + 1) := by
            rw [go_step l2]
            show (match nBlock ⟨ns, 10 - s2.ch, k⟩ (ahead ws s2.at_) q "then" with
              | none => Except.error s2.at_
              | some m1 => go ws m1 (s2.at_ + 1)) = _
            unfold nBlock
            rw [hel, if_neg (fun z => kwx.2.1 z.1), if_pos ⟨rfl, rfl⟩]
          rw [e2]
          have i3 := B s2.adv (show s2.at_ + 1 ≤ _ by omega) h5 "empty" k
          cases q3 : blk s2.adv with
          | error j =>
            rw [q3] at i3
            obtain ⟨k2, i3⟩ := i3
            exact Bad.one i3
          | ok p =>
            obtain ⟨b, s3⟩ := p
            rw [q3] at i3
            obtain ⟨g4, g5, g6, g7⟩ := i3
            dsimp only
            rw [show go ws ⟨ns, 10 - s2.ch, .block q "empty" :: k⟩ (s2.at_ + 1) = _ from g7]
            have ea : aft "empty" = "else" := by
              unfold aft
              rw [if_pos rfl]
            rw [ea]
            by_cases hend : ahead ws s3.at_ = "end" ∧ b.emp = false
            · rw [if_pos hend, hend.2, if_neg Bool.false_ne_true]
              have l3 : s3.at_ < ws.length := ahead_in fun z => by
                rw [hend.1] at z
                exact absurd z (by decide +kernel)
              refine ⟨show s3.at_ + 1 ≤ _ by omega, g5, ?_⟩
              rw [go_step l3]
              show (match nBlock ⟨ns, 10 - s3.ch, k⟩ (ahead ws s3.at_) q "else" with
                | none => Except.error s3.at_
                | some m1 => go ws m1 (s3.at_ + 1)) = _
              unfold nBlock
              rw [hend.1, if_pos ⟨rfl, .inr rfl⟩]
              rfl
            · rw [if_neg hend]
              refine Bad.at (x := [.block q (if b.emp = true then "empty" else "else")]) g4 (fun _ => ?_) rfl nofun
              show nBlock ⟨ns, 10 - s3.ch, k⟩ (ahead ws s3.at_) q (if b.emp = true then "empty" else "else") = none
              unfold nBlock
              rw [if_neg, if_neg]
              · exact begin_no g6
              · rintro ⟨_, z⟩
                cases hbe : b.emp with
                | true => rw [hbe, if_pos rfl] at z; exact kwx.2.2.1 z
                | false => rw [hbe, if_neg Bool.false_ne_true] at z; exact kwx.2.2.2.2.1 z
              · rintro ⟨z1, z⟩
                cases hbe : b.emp with
                | true =>
                  rw [hbe, if_pos rfl] at z
                  rcases z with z | z
                  · exact kwx.2.2.1 z
                  · exact kwx.2.2.2.1 z
                | false => exact hend ⟨z1, hbe⟩
        · rw [if_neg hel]
          by_cases hend : ahead ws s2.at_ = "end"
          · rw [if_pos hend]
            have l2 : s2.at_ < ws.length := ahead_in fun z => by
              rw [hend] at z
              exact absurd z (by decide +kernel)
            refine ⟨show s2.at_ + 1 ≤ _ by omega, h5, ?_⟩
            rw [go_step l2]
            show (match nBlock ⟨ns, 10 - s2.ch, k⟩ (ahead ws s2.at_) q "then" with
              | none => Except.error s2.at_
              | some m1 => go ws m1 (s2.at_ + 1)) = _
            unfold nBlock
            rw [hend, if_pos ⟨rfl, .inl rfl⟩]
            rfl
          · rw [if_neg hend]
            refine Bad.at (x := [.block q "then"]) h4 (fun _ => ?_) rfl nofun
            show nBlock ⟨ns, 10 - s2.ch, k⟩ (ahead ws s2.at_) q "then" = none
            unfold nBlock
            rw [if_neg (fun z => hend z.1), if_neg (fun z => hel z.1)]
            exact begin_no h6
  · rw [if_neg hr]
    refine beg_none hi ?_
    rw [eb, if_neg (fun z => hr z.2)]
theorem sm_go (hns : ∀ x ∈ ns, nameB x = true) {r : Nat} {blk : S → Rs Bk} (hb : ∀ q, r = q + 1 → BlkGo ws ns q blk) : SmGo ws ns r (rSm ws ns r blk) := by
  intro s hl hs hst k
  have hi := stm_in hst
  unfold rSm
  cases hc : CHS.contains (ahead ws s.at_) with
  | true =>
    rw [if_pos rfl]
    exact chance_go hns s hs hc hi k
  | false =>
    rw [if_neg Bool.false_ne_true]
    by_cases h1 : ahead ws s.at_ = "if"
    · rw [if_pos h1]
      exact if_go hns hb s hs h1 hi k
    rw [if_neg h1]
    by_cases h2 : ahead ws s.at_ = "set"
    · rw [if_pos h2]
      have n1 : CHS.contains ("set" : Str) = false ∧ ¬ ("set" : Str) = "show" ∧ ¬ (("set" : Str) = "pay" ∨ ("set" : Str) = "take") ∧ ¬ ("set" : Str) = "if" := by decide +kernel
      by_cases hn : 0 < ns.length
      · rw [if_pos hn]
        have e0 : beg ws ⟨ns, 10 - s.ch, k⟩ s.at_ r = go ws ⟨ns, 10 - s.ch, .one :: .value 6 :: k⟩ (s.at_ + 1) := by
          unfold beg nBegin
          rw [if_pos ⟨h2, hn⟩]
        rw [e0]
        have i1 := name_go (ws := ws) hns (s := s.adv) (show s.at_ + 1 ≤ ws.length by omega) (l := 10 - s.ch) (k := .value 6 :: k)
        cases q1 : rName ws ns s.adv with
        | error j =>
          rw [q1] at i1
          exact Bad.one i1
        | ok p =>
          obtain ⟨x, s1⟩ := p
          rw [q1] at i1
          obtain ⟨rfl, h3, h4⟩ := i1
          have h3 : s.at_ + 1 < ws.length := h3
          dsimp only
          rw [show go ws ⟨ns, 10 - s.ch, .one :: .value 6 :: k⟩ (s.at_ + 1) = _ from h4]
          have i2 := ex_go (ws := ws) hns 5 s.adv.adv (show s.at_ + 1 + 1 ≤ _ by omega) (10 - s.ch) k
          cases q2 : rEx ws ns 5 s.adv.adv with
          | error j =>
            rw [q2] at i2
            exact i2
          | ok p =>
            obtain ⟨e, s2⟩ := p
            rw [q2] at i2
            obtain ⟨g1, g2, g3⟩ := i2
            have c2 : s2.ch = s.ch := by rw [g1]; rfl
            exact ⟨g2, by rw [c2]; exact hs, by rw [c2]; exact g3⟩
      · rw [if_neg hn]
        refine beg_none hi ?_
        rw [h2]
        unfold nBegin
        rw [if_neg (fun z => hn z.2), n1.1, if_neg (fun z => Bool.false_ne_true z.1), if_neg n1.2.1, if_neg n1.2.2.1, if_neg (fun z => n1.2.2.2 z.1)]
    rw [if_neg h2]
    by_cases h3 : ahead ws s.at_ = "show"
    · rw [if_pos h3]
      have n1 : ¬ ("show" : Str) = "set" ∧ CHS.contains ("show" : Str) = false := by decide +kernel
      have e0 : beg ws ⟨ns, 10 - s.ch, k⟩ s.at_ r = go ws ⟨ns, 10 - s.ch, .seat :: .value 6 :: k⟩ (s.at_ + 1) := by
        unfold beg nBegin
        rw [h3, if_neg (fun z => n1.1 z.1), n1.2, if_neg (fun z => Bool.false_ne_true z.1), if_pos rfl]
      rw [e0]
      cases hse : SEATS.contains (ahead ws (s.at_ + 1)) with
      | true =>
        rw [if_pos rfl]
        have l1 : s.at_ + 1 < ws.length := ahead_in fun z => by
          rw [z, emp_no.2.2.2.2] at hse
          cases hse
        have e1 : go ws ⟨ns, 10 - s.ch, .seat :: .value 6 :: k⟩ (s.at_ + 1) = go ws ⟨ns, 10 - s.ch, .value 6 :: k⟩ (s.at_ + 1 + 1) := by
          rw [go_step l1]
          show (match (if SEATS.contains (ahead ws (s.at_ + 1)) = true then some (⟨ns, 10 - s.ch, .value 6 :: k⟩ : M) else none) with
            | none => Except.error (s.at_ + 1)
            | some m1 => go ws m1 (s.at_ + 1 + 1)) = _
          rw [hse, if_pos rfl]
        rw [e1]
        have i2 := ex_go (ws := ws) hns 5 s.adv.adv (show s.at_ + 1 + 1 ≤ _ by omega) (10 - s.ch) k
        cases q2 : rEx ws ns 5 s.adv.adv with
        | error j =>
          rw [q2] at i2
          exact i2
        | ok p =>
          obtain ⟨e, s2⟩ := p
          rw [q2] at i2
          obtain ⟨g1, g2, g3⟩ := i2
          have c2 : s2.ch = s.ch := by rw [g1]; rfl
          exact ⟨g2, by rw [c2]; exact hs, by rw [c2]; exact g3⟩
      | false =>
        rw [if_neg Bool.false_ne_true]
        refine Bad.one (Bad.at (x := [.seat]) (show s.at_ + 1 ≤ ws.length by omega) (fun _ => ?_) rfl nofun)
        show (if SEATS.contains (ahead ws (s.at_ + 1)) = true then some (⟨ns, 10 - s.ch, .value 6 :: k⟩ : M) else none) = none
        rw [hse, if_neg Bool.false_ne_true]
    rw [if_neg h3]
    have h4 : ahead ws s.at_ = "pay" ∨ ahead ws s.at_ = "take" := by
      have hm := List.contains_iff_mem.mp hst
      have hc2 : ∀ x ∈ CHS, ahead ws s.at_ ≠ x := fun x hx z => by
        rw [z, List.contains_iff_mem.mpr hx] at hc
        cases hc
      simp only [STM, List.mem_cons, List.not_mem_nil, or_false] at hm
      rcases hm with z | z | z | z | z | z | z | z
      · exact absurd z h2
      · exact absurd z (hc2 _ (by decide +kernel))
      · exact absurd z (hc2 _ (by decide +kernel))
      · exact absurd z (hc2 _ (by decide +kernel))
      · exact absurd z h3
      · exact .inl z
      · exact .inr z
      · exact absurd z h1
    have e0 : beg ws ⟨ns, 10 - s.ch, k⟩ s.at_ r = go ws ⟨ns, 10 - s.ch, .value 6 :: k⟩ (s.at_ + 1) := by
      unfold beg nBegin
      rw [if_neg (fun z => h2 z.1), hc, if_neg (fun z => Bool.false_ne_true z.1), if_neg h3, if_pos h4]
    rw [e0]
    have i2 := ex_go (ws := ws) hns 5 s.adv (show s.at_ + 1 ≤ _ by omega) (10 - s.ch) k
    cases q2 : rEx ws ns 5 s.adv with
    | error j =>
      rw [q2] at i2
      exact i2
    | ok p =>
      obtain ⟨e, s2⟩ := p
      rw [q2] at i2
      obtain ⟨g1, g2, g3⟩ := i2
      have c2 : s2.ch = s.ch := by rw [g1]; rfl
      exact ⟨g2, by rw [c2]; exact hs, by rw [c2]; exact g3⟩
end
end K1

set_option Elab.async false
set_option linter.all false
set_option maxRecDepth 100000
set_option maxHeartbeats 1000000
namespace K1
open PySem PySem.Spec PyProof.Rows L2 Kx TL
theorem aft2 (kind : Str) : aft (aft kind) = aft kind := by
  unfold aft
  by_cases h : kind = "empty"
  · rw [if_pos h, if_neg kwx.2.2.2.2.2.2.1]
  · rw [if_neg h, if_neg h]
theorem stm_not {w : Str} (h : STM.contains w = true) : ¬ w = "end" ∧ ¬ w = "else" ∧ ¬ w = "var" := by
  have all : ∀ x ∈ STM, ¬ x = "end" ∧ ¬ x = "else" ∧ ¬ x = "var" := by decide +kernel
  exact all _ (List.contains_iff_mem.mp h)
section
variable {ws ns : List Str}
theorem block_step {r l i : Nat} {kind : Str} {k : List It} (h : STM.contains (ahead ws i) = true) : go ws ⟨ns, l, .block r kind :: k⟩ i = beg ws ⟨ns, l, .block r (aft kind) :: k⟩ i r := by
  rw [go_step (stm_in h)]
  show (match nBlock ⟨ns, l, k⟩ (ahead ws i) r kind with
    | none => Except.error i
    | some m1 => go ws m1 (i + 1)) = _
  unfold nBlock
  rw [if_neg (fun z => (stm_not h).1 z.1), if_neg (fun z => (stm_not h).2.1 z.1)]
  rfl
theorem loop_go {r : Nat} {stm : S → Rs Sm} (hs : SmGo ws ns r stm) (ad : ∀ s x s1, stm s = .ok (x, s1) → s.at_ < s1.at_) : ∀ (f : Nat) (s : S), s.at_ ≤ ws.length → s.ch ≤ 10 → ws.length + 1 ≤ s.at_ + f → ∀ (kind : Str) (k : List It), match rLoop ws stm f s with
  | .ok (b, s1) => s1.at_ ≤ ws.length ∧ s1.ch ≤ 10 ∧ STM.contains (ahead ws s1.at_) = false ∧ go ws ⟨ns, 10 - s.ch, .block r kind :: k⟩ s.at_ = go ws ⟨ns, 10 - s1.ch, .block r (if b.emp = true then kind else aft kind) :: k⟩ s1.at_
  | .error j => ∃ k2, Bad ws (.block r k2 :: k) (go ws ⟨ns, 10 - s.ch, .block r kind :: k⟩ s.at_) j := by
  intro f
  induction f with
  | zero =>
    intro s h1 _ h3
    omega
  | succ f ih =>
    intro s h1 h2 h3 kind k
    unfold rLoop
    cases hst : STM.contains (ahead ws s.at_) with
    | false =>
      rw [if_neg Bool.false_ne_true]
      exact ⟨h1, h2, hst, rfl⟩
    | true =>
      rw [if_pos rfl, block_step hst]
      have i1 := hs s h1 h2 hst (.block r (aft kind) :: k)
      cases q1 : stm s with
      | error j =>
        rw [q1] at i1
        exact ⟨_, i1⟩
      | ok p =>
        obtain ⟨x, s1⟩ := p
        rw [q1] at i1
        obtain ⟨g1, g2, g3⟩ := i1
        have lt := ad _ _ _ q1
        have i2 := ih s1 g1 g2 (by omega) (aft kind) k
        dsimp only
        rw [g3]
        cases q2 : rLoop ws stm f s1 with
        | error j =>
          rw [q2] at i2
          exact i2
        | ok p =>
          obtain ⟨b, s2⟩ := p
          rw [q2] at i2
          obtain ⟨e1, e2, e3, e4⟩ := i2
          refine ⟨e1, e2, e3, ?_⟩
          rw [e4, aft2]
          show _ = go ws ⟨ns, 10 - s2.ch, .block r (if false = true then kind else aft kind) :: k⟩ s2.at_
          rw [if_neg Bool.false_ne_true]
          cases b.emp <;> rfl
theorem blk_go (hns : ∀ x ∈ ns, nameB x = true) : ∀ r : Nat, BlkGo ws ns r (rBk ws ns r) := by
  intro r
  induction r with
  | zero =>
    rw [rBk_eq]
    intro s h1 h2 kind k
    exact loop_go (sm_go hns fun q z => by cases z) (fun _ _ _ h => rStm_lt h) _ s h1 h2 (by omega) kind k
  | succ r ih =>
    rw [rBk_eq]
    intro s h1 h2 kind k
    refine loop_go (sm_go hns fun q z => ?_) (fun _ _ _ h => rStm_lt h) _ s h1 h2 (by omega) kind k
    obtain rfl := Nat.succ.inj z
    exact ih
theorem vars_go : ∀ (f : Nat) (vs : List (Str × Int)) (i : Nat), vs.length + f = 6 → vs.length ≤ 5 → i ≤ ws.length → (∀ p ∈ vs, nameB p.1 = true) → match rVars ws f vs i with
  | .ok (xs, j) => j ≤ ws.length ∧ ¬ (ahead ws j = "var") ∧ (∀ p ∈ xs, nameB p.1 = true) ∧ go ws ⟨vs.map (·.1), 10, [.head]⟩ i = go ws ⟨xs.map (·.1), 10, [.head]⟩ j
  | .error j => Bad ws [.head] (go ws ⟨vs.map (·.1), 10, [.head]⟩ i) j := by
  intro f
  induction f with
  | zero =>
    intro vs i h6 hl hi hn
    omega
  | succ f ih =>
    intro vs i h6 hl hi hn
    unfold rVars
    by_cases hv : ahead ws i = "var"
    · rw [if_pos hv]
      have l0 : i < ws.length := ahead_in fun z => by
        rw [hv] at z
        exact absurd z (by decide +kernel)
      by_cases h5 : vs.length < 5
      · rw [if_pos h5]
        have e0 : go ws ⟨vs.map (·.1), 10, [.head]⟩ i = go ws ⟨vs.map (·.1), 10, [.new, .num 1 65535, .head]⟩ (i + 1) := by
          rw [go_step l0]
          show (match (if ahead ws i = "var" ∧ (vs.map (·.1)).length < 5 then some (⟨vs.map (·.1), 10, [.new, .num 1 65535, .head]⟩ : M) else nBlock ⟨vs.map (·.1), 10, []⟩ (ahead ws i) 4 "game") with
            | none => Except.error i
            | some m1 => go ws m1 (i + 1)) = _
          rw [if_pos ⟨hv, by rw [List.length_map]; exact h5⟩]
        rw [e0]
        cases hnm : (nameB (ahead ws (i + 1)) && !(vs.map (·.1)).contains (ahead ws (i + 1))) with
        | false =>
          rw [if_neg Bool.false_ne_true]
          refine Bad.less (y := [.num 1 65535]) (Bad.at (x := [.new]) (show i + 1 ≤ _ by omega) (fun _ => ?_) rfl nofun)
          show (if (vs.map (·.1)).contains (ahead ws (i + 1)) = true ∨ nameB (ahead ws (i + 1)) = false then none else _) = none
          rw [if_pos]
          cases z1 : nameB (ahead ws (i + 1)) with
          | false => exact .inr rfl
          | true =>
            rw [z1, Bool.true_and] at hnm
            exact .inl (by simpa using hnm)
        | true =>
          rw [if_pos rfl]
          simp only [Bool.and_eq_true, Bool.not_eq_true'] at hnm
          have l1 : i + 1 < ws.length := ahead_in fun z => by
            have := hnm.1
            rw [z, emp_no.2.2.2.1] at this
            cases this
          have e1 : go ws ⟨vs.map (·.1), 10, [.new, .num 1 65535, .head]⟩ (i + 1) = go ws ⟨vs.map (·.1) ++ [ahead ws (i + 1)], 10, [.num 1 65535, .head]⟩ (i + 1 + 1) := by
            rw [go_step l1]
            show (match (if (vs.map (·.1)).contains (ahead ws (i + 1)) = true ∨ nameB (ahead ws (i + 1)) = false then none else some (⟨vs.map (·.1) ++ [ahead ws (i + 1)], 10, [.num 1 65535, .head]⟩ : M)) with
              | none => Except.error (i + 1)
              | some m1 => go ws m1 (i + 1 + 1)) = _
            rw [if_neg]
            rintro (z | z)
            · rw [hnm.2] at z
              cases z
            · rw [hnm.1] at z
              cases z
          rw [e1]
          have i2 := num_go (ws := ws) (ns := vs.map (·.1) ++ [ahead ws (i + 1)]) (lo := 1) (hi := 65535) (s := ⟨i + 2, 0, 0⟩) (show i + 2 ≤ ws.length by omega) (l := 10) (k := [.head])
          cases q2 : rNum ws 1 65535 ⟨i + 2, 0, 0⟩ with
          | error j =>
            rw [q2] at i2
            exact i2
          | ok p =>
            obtain ⟨n, s1⟩ := p
            rw [q2] at i2
            obtain ⟨rfl, g1, g2⟩ := i2
            dsimp only
            have g1 : i + 2 < ws.length := g1
            have g2 : go ws ⟨vs.map (·.1) ++ [ahead ws (i + 1)], 10, [.num 1 65535, .head]⟩ (i + 1 + 1) = go ws ⟨vs.map (·.1) ++ [ahead ws (i + 1)], 10, [.head]⟩ (i + 2 + 1) := g2
            rw [g2]
            have i3 := ih (vs ++ [(ahead ws (i + 1), n)]) (i + 2 + 1) (by rw [List.length_append, List.length_singleton]; omega) (by rw [List.length_append, List.length_singleton]; omega) (by omega) (fun p hp => by
              rcases List.mem_append.mp hp with z | z
              · exact hn p z
              · rw [List.mem_singleton.mp z]
                exact hnm.1)
            rw [show (vs ++ [(ahead ws (i + 1), n)]).map (·.1) = vs.map (·.1) ++ [ahead ws (i + 1)] by rw [List.map_append]; rfl] at i3
            exact i3
      · rw [if_neg h5]
        refine .inl ⟨l0, ?_⟩
        rw [go_step l0]
        show (match (if ahead ws i = "var" ∧ (vs.map (·.1)).length < 5 then some (⟨vs.map (·.1), 10, [.new, .num 1 65535, .head]⟩ : M) else nBlock ⟨vs.map (·.1), 10, []⟩ (ahead ws i) 4 "game") with
          | none => Except.error i
          | some m1 => go ws m1 (i + 1)) = _
        rw [if_neg (fun z => h5 (by rw [List.length_map] at z; exact z.2)), hv]
        unfold nBlock
        have n1 : ¬ ("var" : Str) = "end" ∧ ¬ ("var" : Str) = "else" ∧ STM.contains ("var" : Str) = false := by decide +kernel
        rw [if_neg (fun z => n1.1 z.1), if_neg (fun z => n1.2.1 z.1), begin_no n1.2.2]
    · rw [if_neg hv]
      exact ⟨hi, hv, hn, rfl⟩
/-- the machine stops where the reader stops -/
theorem wrong_all (ws : List Str) : wrongM ws = match rAll ws with
  | .error i => some i
  | .ok _ => none := by
  have no1 : ∀ (x : List It) (y z : It), x ≠ [] → x ++ [y] ≠ [z] := fun x y z hx e => by
    have := congrArg List.length e
    rw [List.length_append, List.length_singleton, List.length_singleton] at this
    cases x with
    | nil => exact hx rfl
    | cons a r =>
      rw [List.length_cons] at this
      omega
  have bad : ∀ (y : It) (j : Nat), Bad ws [y] (run m0 ws 0) j → wrongM ws = some j := fun y j h => by
    unfold wrongM
    rcases h with ⟨_, e⟩ | ⟨hj, m, x, e, hs, hx⟩
    · rw [e]
    · rw [e]
      dsimp only
      rw [if_neg, hj]
      rw [hs]
      rintro (z | z)
      · exact no1 _ _ _ hx z
      · exact no1 _ _ _ hx z
  have start : go ws m0 0 = run m0 ws 0 := rfl
  have i1 := vars_go (ws := ws) 6 [] 0 rfl (Nat.zero_le _) (Nat.zero_le _) nofun
  rw [show go ws ⟨([] : List (Str × Int)).map (·.1), 10, [.head]⟩ 0 = run m0 ws 0 from rfl] at i1
  unfold rAll
  cases q1 : rVars ws 6 [] 0 with
  | error j =>
    rw [q1] at i1
    exact bad _ _ i1
  | ok p =>
    obtain ⟨xs, j⟩ := p
    rw [q1] at i1
    obtain ⟨h1, h2, h3, h4⟩ := i1
    dsimp only
    have hns : ∀ x ∈ xs.map (·.1), nameB x = true := fun x hx => by
      obtain ⟨p, hp, rfl⟩ := List.mem_map.mp hx
      exact h3 p hp
    by_cases hj : j < ws.length
    · have e0 : go ws ⟨xs.map (·.1), 10, [.head]⟩ j = go ws ⟨xs.map (·.1), 10, [.block 4 "game"]⟩ j := by
        rw [go_step hj, go_step hj]
        show (match (if ahead ws j = "var" ∧ (xs.map (·.1)).length < 5 then some (⟨xs.map (·.1), 10, [.new, .num 1 65535, .head]⟩ : M) else nBlock ⟨xs.map (·.1), 10, []⟩ (ahead ws j) 4 "game") with
          | none => Except.error j
          | some m1 => go ws m1 (j + 1)) = _
        rw [if_neg (fun z => h2 z.1)]
        rfl
      rw [e0] at h4
      have i2 := blk_go (ws := ws) hns 4 ⟨j, 0, 0⟩ h1 (Nat.zero_le _) "game" []
      rw [show go ws ⟨xs.map (·.1), 10 - (⟨j, 0, 0⟩ : S).ch, [.block 4 "game"]⟩ (⟨j, 0, 0⟩ : S).at_ = run m0 ws 0 from h4.symm] at i2
      cases q2 : rBk ws (xs.map (·.1)) 4 ⟨j, 0, 0⟩ with
      | error i =>
        rw [q2] at i2
        obtain ⟨k2, i2⟩ := i2
        exact bad _ _ i2
      | ok p =>
        obtain ⟨b, s1⟩ := p
        rw [q2] at i2
        obtain ⟨g1, g2, g3, g4⟩ := i2
        dsimp only
        have ek : (if b.emp = true then ("game" : Str) else aft "game") = "game" := by
          unfold aft
          rw [if_neg kwx.2.2.2.2.2.2.2.2.2.2.2.2]
          split <;> rfl
        rw [ek] at g4
        by_cases hl : s1.at_ < ws.length
        · rw [if_pos hl]
          unfold wrongM
          rw [g4, go_step hl]
          show (match (match nBlock ⟨xs.map (·.1), 10 - s1.ch, []⟩ (ahead ws s1.at_) 4 "game" with
            | none => Except.error s1.at_
            | some m1 => go ws m1 (s1.at_ + 1) : Except Nat M) with
            | .error i => some i
            | .ok m => if m.st = [.head] ∨ m.st = [.block 4 "game"] then none else some ws.length) = some s1.at_
          unfold nBlock
          rw [if_neg (by rintro ⟨_, z | z⟩; exact kwx.2.2.2.2.2.2.2.2.2.2.1 z; exact kwx.2.2.2.2.2.2.2.2.2.2.2.1 z), if_neg (fun z => kwx.2.2.2.2.2.2.2.2.2.2.1 z.2), begin_no g3]
        · rw [if_neg hl]
          unfold wrongM
          rw [g4, go_end (by omega)]
          dsimp only
          rw [if_pos (.inr rfl)]
    · have hj : j = ws.length := by omega
      have e1 : rBk ws (xs.map (·.1)) 4 ⟨j, 0, 0⟩ = .ok (.nil, ⟨j, 0, 0⟩) := by
        rw [rBk_eq]
        unfold rLoop
        rw [show ahead ws (⟨j, 0, 0⟩ : S).at_ = Str.empty from ahead_out (by show ws.length ≤ j; omega), emp_no.2.2.1, if_neg Bool.false_ne_true]
      rw [e1]
      dsimp only
      rw [if_neg (show ¬ j < ws.length by omega)]
      unfold wrongM
      rw [h4, go_end (by omega)]
      dsimp only
      rw [if_pos (.inl rfl)]
end
end K1

set_option Elab.async false
set_option linter.all false
set_option maxRecDepth 100000
set_option maxHeartbeats 1000000
/-! What is read has the words that were read. -/
namespace K1
open PySem PySem.Spec PyProof.Rows L2 Kx TL
theorem num_back : ∀ l : List Nat, PySem.NumText.AllDigits l → l ≠ [] → (l = [48] ∨ l.head? ≠ some 48) → numL (PySem.NumText.digitsVal l) = l := by
  intro l
  induction h : l.length using Nat.strongRecOn generalizing l with
  | _ n ih =>
    intro hd hne hz
    obtain ⟨r, c, rfl⟩ : ∃ r c, l = r ++ [c] := ⟨l.dropLast, l.getLast hne, (List.dropLast_concat_getLast hne).symm⟩
    have hc := hd c (by simp)
    rw [PySem.NumText.digitsVal_snoc]
    cases r with
    | nil =>
      show numL (0 * 10 + (c - 48)) = [c]
      rw [numL_lt (by omega)]
      congr 1
      omega
    | cons a r =>
      have hz2 : (a :: r).head? ≠ some 48 := by
        rcases hz with z | z
        · have := congrArg List.length z
          simp at this
        · exact z
      have ha := hd a (by simp)
      have ha48 : a ≠ 48 := fun z => hz2 (by rw [z]; rfl)
      have hpos : 0 < PySem.NumText.digitsVal (a :: r) := PySem.NumText.digitsVal_pos (by omega)
      have i1 := ih (a :: r).length (by rw [← h, List.length_append, List.length_singleton]; omega) (a :: r) rfl (fun d hd' => hd d (List.mem_append.mpr (.inl hd'))) nofun (.inr hz2)
      rw [numL_step (by omega)]
      have e1 : (PySem.NumText.digitsVal (a :: r) * 10 + (c - 48)) / 10 = PySem.NumText.digitsVal (a :: r) := by omega
      have e2 : (PySem.NumText.digitsVal (a :: r) * 10 + (c - 48)) % 10 = c - 48 := by omega
      rw [e1, e2, i1]
      congr 2
      omega
theorem nt_val {w : Str} (h : numB w = true) : nt (val w) = w ∧ 0 ≤ val w ∧ val w ≤ 65535 := by
  have h2 := h
  unfold numB at h2
  simp only [Bool.and_eq_true, decide_eq_true_eq, Bool.or_eq_true, beq_iff_eq, Bool.not_eq_true', decide_eq_false_iff_not] at h2
  obtain ⟨⟨⟨⟨h1, h5⟩, hm⟩, hz⟩, hv⟩ := h2
  refine ⟨?_, by unfold val; omega, hv⟩
  refine ext_tl ?_
  unfold val
  show (nt _).cps.toList = w.cps.toList
  rw [cps_nt]
  refine num_back _ (digits_of hm) (fun e => ?_) ?_
  · rw [len_tl] at h1
    have : (tl w).length = 0 := by
      show w.cps.toList.length = 0
      rw [e]
      rfl
    omega
  · rcases hz with rfl | hz
    · exact .inl (by decide +kernel)
    · exact .inr hz
section
variable {ws ns : List Str}
theorem drop_at {i : Nat} (h : i < ws.length) : ws.drop i = ahead ws i :: ws.drop (i + 1) := by
  have a : ahead ws i = ws[i] := by
    unfold ahead
    rw [List.getElem?_eq_getElem h]
    rfl
  rw [a]
  exact List.drop_eq_getElem_cons h
theorem name_ex (hns : ∀ x ∈ ns, nameB x = true) {s s1 : S} {x : Str} (h : rName ws ns s = .ok (x, s1)) : s1 = s.adv ∧ x ∈ ns ∧ s.at_ < ws.length ∧ ws.drop s.at_ = x :: ws.drop (s.at_ + 1) := by
  have e := rName_at h
  unfold rName at h
  split at h
  · rename_i hc
    injection h with h
    injection h with h _
    have hm := List.contains_iff_mem.mp hc
    have hi : s.at_ < ws.length := ahead_in fun z => by
      have := hns _ hm
      rw [z, emp_no.2.2.2.1] at this
      cases this
    rw [h] at hm
    exact ⟨e, hm, hi, by rw [drop_at hi, h]⟩
  · cases h
theorem num_ex {lo hi : Int} {s s1 : S} {n : Int} (h : rNum ws lo hi s = .ok (n, s1)) : s1 = s.adv ∧ lo ≤ n ∧ n ≤ hi ∧ 0 ≤ n ∧ n ≤ 65535 ∧ s.at_ < ws.length ∧ ws.drop s.at_ = nt n :: ws.drop (s.at_ + 1) := by
  have e := rNum_at h
  unfold rNum at h
  split at h
  · rename_i hc
    injection h with h
    injection h with h _
    simp only [Bool.and_eq_true, decide_eq_true_eq] at hc
    obtain ⟨c1, c2, c3⟩ := hc
    have hv := nt_val c1
    have hl : s.at_ < ws.length := ahead_in fun z => by
      rw [z, emp_no.2.1] at c1
      cases c1
    rw [h] at hv c2 c3
    exact ⟨e, c2, c3, hv.2.1, hv.2.2, hl, by rw [drop_at hl, hv.1]⟩
  · cases h
theorem ex_ex (hns : ∀ x ∈ ns, nameB x = true) : ∀ (d : Nat) (s s1 : S) (e : Ex), rEx ws ns d s = .ok (e, s1) → e.vl ns d ∧ s1 = ⟨s1.at_, s.ch, s.mv⟩ ∧ s1.at_ ≤ ws.length ∧ ws.drop s.at_ = e.w ++ ws.drop s1.at_ := by
  have leaf : ∀ (d : Nat) (s s1 : S) (e : Ex), (if numB (ahead ws s.at_) = true then (match rNum ws 0 65535 s with
      | .error i => .error i
      | .ok (n, s1) => .ok (.num n, s1))
    else match rName ws ns s with
      | .error i => .error i
      | .ok (x, s1) => .ok (.var x, s1) : Rs Ex) = .ok (e, s1) → e.vl ns d ∧ s1 = ⟨s1.at_, s.ch, s.mv⟩ ∧ s1.at_ ≤ ws.length ∧ ws.drop s.at_ = e.w ++ ws.drop s1.at_ := by
    intro d s s1 e h
    split at h
    · split at h
      · cases h
      · rename_i q
        injection h with h
        injection h with h h'
        subst h h'
        obtain ⟨rfl, _, _, h0, h1, hl, hd⟩ := num_ex q
        exact ⟨⟨h0, h1⟩, rfl, hl, hd⟩
    · split at h
      · cases h
      · rename_i q
        injection h with h
        injection h with h h'
        subst h h'
        obtain ⟨rfl, hm, hl, hd⟩ := name_ex hns q
        exact ⟨hm, rfl, hl, hd⟩
  intro d
  induction d with
  | zero =>
    intro s s1 e h
    unfold rEx at h
    split at h
    · cases h
    · exact leaf 0 s s1 e h
  | succ d ih =>
    intro s s1 e h
    unfold rEx at h
    split at h
    · rename_i ho
      dsimp only at h
      have hi : s.at_ < ws.length := ahead_in fun z => by
        rw [z, emp_no.1] at ho
        cases ho
      split at h
      · cases h
      · rename_i q1
        split at h
        · cases h
        · rename_i q2
          injection h with h
          injection h with h h'
          subst h h'
          obtain ⟨v1, e1, l1, d1⟩ := ih _ _ _ q1
          obtain ⟨v2, e2, l2, d2⟩ := ih _ _ _ q2
          refine ⟨⟨ho, d, rfl, v1, v2⟩, ?_, l2, ?_⟩
          · rw [e2, e1]
            rfl
          · rw [drop_at hi, show ws.drop (s.at_ + 1) = _ from d1, d2]
            simp [Ex.w]
    · exact leaf (d + 1) s s1 e h
/-- what a reader of blocks leaves -/
def BkEx (ws ns : List Str) (q : Nat) (blk : S → Rs Bk) : Prop := ∀ (s s1 : S) (b : Bk), s.at_ ≤ ws.length → blk s = .ok (b, s1) → b.vl ns q s.mv ∧ s1.mv = s.mv + b.mvs ∧ s1.at_ ≤ ws.length ∧ ws.drop s.at_ = b.w ++ ws.drop s1.at_
theorem chance_ex (hns : ∀ x ∈ ns, nameB x = true) {r : Nat} {s s1 : S} {x : Sm} (hc : CHS.contains (ahead ws s.at_) = true) (hi : s.at_ < ws.length) (h : rChance ws ns (ahead ws s.at_) s = .ok (x, s1)) : x.vl ns r s.mv ∧ s1.mv = s.mv + x.mvs ∧ s1.at_ ≤ ws.length ∧ ws.drop s.at_ = x.w ++ ws.drop s1.at_ := by
  unfold rChance at h
  split at h
  · split at h
    · cases h
    · rename_i q1
      split at h
      · cases h
      · rename_i q2
        obtain ⟨rfl, hm, l1, d1⟩ := name_ex hns q1
        obtain ⟨rfl, h1, h8, _, _, l2, d2⟩ := num_ex q2
        have l2 : s.at_ + 1 + 1 < ws.length := l2
        have d1 : ws.drop (s.at_ + 1) = _ :: ws.drop (s.at_ + 1 + 1) := d1
        have d2 : ws.drop (s.at_ + 1 + 1) = _ :: ws.drop (s.at_ + 1 + 1 + 1) := d2
        split at h
        · rename_i hd
          injection h with h
          injection h with h h'
          subst h h'
          refine ⟨⟨hm, h1, h8⟩, rfl, l2, ?_⟩
          rw [drop_at hi, d1, d2, hd]
          rfl
        · rename_i hd
          injection h with h
          injection h with h h'
          subst h h'
          have hk : ahead ws s.at_ = "choose" ∨ ahead ws s.at_ = "come" := by
            have := List.contains_iff_mem.mp hc
            simp only [CHS, List.mem_cons, List.not_mem_nil, or_false] at this
            rcases this with z | z | z
            · exact absurd z hd
            · exact .inl z
            · exact .inr z
          refine ⟨⟨hk, hm, h1, h8, rfl⟩, rfl, l2, ?_⟩
          rw [drop_at hi, d1, d2]
          rfl
  · cases h
theorem if_ex (hns : ∀ x ∈ ns, nameB x = true) {r : Nat} {blk : S → Rs Bk} (hb : ∀ q, r = q + 1 → BkEx ws ns q blk) {s s1 : S} {x : Sm} (hw : ahead ws s.at_ = "if") (hi : s.at_ < ws.length) (h : rIf ws ns r blk s = .ok (x, s1)) : x.vl ns r s.mv ∧ s1.mv = s.mv + x.mvs ∧ s1.at_ ≤ ws.length ∧ ws.drop s.at_ = x.w ++ ws.drop s1.at_ := by
  unfold rIf at h
  split at h
  · rename_i hr
    obtain ⟨q, rfl⟩ : ∃ q, r = q + 1 := ⟨r - 1, by omega⟩
    have B := hb q rfl
    split at h
    · cases h
    · rename_i e s2 q1
      obtain ⟨ve, e1, l1, d1⟩ := ex_ex hns _ _ _ _ q1
      have m1 : s2.mv = s.mv := by rw [e1]; rfl
      split at h
      · cases h
      · rename_i a s3 q2
        obtain ⟨va, m2, l2, d2⟩ := B _ _ _ l1 q2
        split at h
        · rename_i hel
          have i3 : s3.at_ < ws.length := ahead_in fun z => by
            rw [hel] at z
            exact absurd z (by decide +kernel)
          split at h
          · cases h
          · rename_i b s4 q3
            obtain ⟨vb, m3, l3, d3⟩ := B _ _ _ (show s3.adv.at_ ≤ _ from i3) q3
            have m3 : s4.mv = s3.mv + b.mvs := m3
            split at h
            · rename_i hend
              have i4 : s4.at_ < ws.length := ahead_in fun z => by
                rw [hend.1] at z
                exact absurd z (by decide +kernel)
              injection h with h
              injection h with h h'
              subst h h'
              refine ⟨⟨ve, q, rfl, by rw [← m1]; exact va, by rw [← m1, ← m2]; exact vb⟩, ?_, i4, ?_⟩
              · show s4.mv = s.mv + (a.mvs + b.mvs)
                omega
              · rw [drop_at hi, hw, show ws.drop (s.at_ + 1) = _ from d1, d2, drop_at i3, hel, show ws.drop (s3.at_ + 1) = _ from d3, drop_at i4, hend.1]
                simp only [Sm.w, hend.2, S.adv]
                simp
            · cases h
        · split at h
          · rename_i hend
            have i3 : s3.at_ < ws.length := ahead_in fun z => by
              rw [hend] at z
              exact absurd z (by decide +kernel)
            injection h with h
            injection h with h h'
            subst h h'
            refine ⟨⟨ve, q, rfl, by rw [← m1]; exact va, trivial⟩, ?_, i3, ?_⟩
            · show s3.mv = s.mv + (a.mvs + 0)
              omega
            · rw [drop_at hi, hw, show ws.drop (s.at_ + 1) = _ from d1, d2, drop_at i3, hend]
              simp only [Sm.w, Bk.emp, S.adv]
              simp
          · cases h
  · cases h
theorem sm_ex (hns : ∀ x ∈ ns, nameB x = true) {r : Nat} {blk : S → Rs Bk} (hb : ∀ q, r = q + 1 → BkEx ws ns q blk) {s s1 : S} {x : Sm} (hst : STM.contains (ahead ws s.at_) = true) (h : rSm ws ns r blk s = .ok (x, s1)) : x.vl ns r s.mv ∧ s1.mv = s.mv + x.mvs ∧ s1.at_ ≤ ws.length ∧ ws.drop s.at_ = x.w ++ ws.drop s1.at_ := by
  have hi := stm_in hst
  unfold rSm at h
  split at h
  · rename_i hc
    exact chance_ex hns hc hi h
  rename_i hc
  split at h
  · rename_i h1
    exact if_ex hns hb h1 hi h
  rename_i h1
  split at h
  · rename_i h2
    split at h
    · split at h
      · cases h
      · rename_i q1
        split at h
        · cases h
        · rename_i q2
          obtain ⟨rfl, hm, l1, d1⟩ := name_ex hns q1
          obtain ⟨ve, e1, l2, d2⟩ := ex_ex hns _ _ _ _ q2
          injection h with h
          injection h with h h'
          subst h h'
          refine ⟨⟨hm, ve⟩, by rw [e1]; rfl, l2, ?_⟩
          rw [drop_at hi, h2, show ws.drop (s.at_ + 1) = _ from d1, show ws.drop (s.adv.at_ + 1) = _ from d2]
          rfl
    · cases h
  rename_i h2
  split at h
  · rename_i h3
    split at h
    · rename_i hse
      have l1 : s.at_ + 1 < ws.length := ahead_in fun z => by
        rw [z, emp_no.2.2.2.2] at hse
        cases hse
      split at h
      · cases h
      · rename_i q2
        obtain ⟨ve, e1, l2, d2⟩ := ex_ex hns _ _ _ _ q2
        injection h with h
        injection h with h h'
        subst h h'
        refine ⟨⟨hse, ve⟩, by rw [e1]; rfl, l2, ?_⟩
        rw [drop_at hi, h3, drop_at l1, show ws.drop (s.at_ + 1 + 1) = _ from d2]
        rfl
    · cases h
  rename_i h3
  split at h
  · cases h
  · rename_i q2
    obtain ⟨ve, e1, l2, d2⟩ := ex_ex hns _ _ _ _ q2
    injection h with h
    injection h with h h'
    subst h h'
    have h4 : ahead ws s.at_ = "pay" ∨ ahead ws s.at_ = "take" := by
      have hm := List.contains_iff_mem.mp hst
      have hc2 : ∀ x ∈ CHS, ahead ws s.at_ ≠ x := fun x hx z => by
        rw [z, List.contains_iff_mem.mpr hx] at hc
        exact hc rfl
      simp only [STM, List.mem_cons, List.not_mem_nil, or_false] at hm
      rcases hm with z | z | z | z | z | z | z | z
      · exact absurd z h2
      · exact absurd z (hc2 _ (by decide +kernel))
      · exact absurd z (hc2 _ (by decide +kernel))
      · exact absurd z (hc2 _ (by decide +kernel))
      · exact absurd z h3
      · exact .inl z
      · exact .inr z
      · exact absurd z h1
    refine ⟨⟨h4, ve⟩, by rw [e1]; rfl, l2, ?_⟩
    rw [drop_at hi, show ws.drop (s.at_ + 1) = _ from d2]
    rfl
theorem loop_ex {r : Nat} {stm : S → Rs Sm} (hs : ∀ s s1 x, STM.contains (ahead ws s.at_) = true → stm s = .ok (x, s1) → x.vl ns r s.mv ∧ s1.mv = s.mv + x.mvs ∧ s1.at_ ≤ ws.length ∧ ws.drop s.at_ = x.w ++ ws.drop s1.at_) : ∀ (f : Nat), BkEx ws ns r (rLoop ws stm f) := by
  intro f
  induction f with
  | zero =>
    intro s s1 b hl h
    injection h with h
    injection h with h h'
    subst h h'
    exact ⟨trivial, rfl, hl, rfl⟩
  | succ f ih =>
    intro s s1 b hl h
    unfold rLoop at h
    split at h
    · rename_i hst
      split at h
      · cases h
      · rename_i q1
        split at h
        · cases h
        · rename_i q2
          obtain ⟨v1, m1, l1, d1⟩ := hs _ _ _ hst q1
          obtain ⟨v2, m2, l2, d2⟩ := ih _ _ _ l1 q2
          injection h with h
          injection h with h h'
          subst h h'
          refine ⟨⟨v1, by rw [← m1]; exact v2⟩, ?_, l2, ?_⟩
          · show _ = s.mv + (_ + _)
            omega
          · rw [d1, d2]
            simp [Bk.w]
    · injection h with h
      injection h with h h'
      subst h h'
      exact ⟨trivial, rfl, hl, rfl⟩
theorem blk_ex (hns : ∀ x ∈ ns, nameB x = true) : ∀ r : Nat, BkEx ws ns r (rBk ws ns r) := by
  intro r
  induction r with
  | zero =>
    rw [rBk_eq]
    exact loop_ex (fun s s1 x h1 h2 => sm_ex hns (fun q z => by cases z) h1 h2) _
  | succ r ih =>
    rw [rBk_eq]
    refine loop_ex (fun s s1 x h1 h2 => sm_ex hns (fun q z => ?_) h1 h2) _
    obtain rfl := Nat.succ.inj z
    exact ih
theorem varsW_snoc (vs : List (Str × Int)) (p : Str × Int) : varsW (vs ++ [p]) = varsW vs ++ [("var" : Str), p.1, nt p.2] := varsW_app vs p
theorem vars_ex : ∀ (f : Nat) (vs xs : List (Str × Int)) (i j : Nat), vs.length ≤ 5 → i ≤ ws.length → (∀ p ∈ vs, nameB p.1 = true ∧ 0 ≤ p.2 ∧ p.2 ≤ 65535) → ws = varsW vs ++ ws.drop i → rVars ws f vs i = .ok (xs, j) → xs.length ≤ 5 ∧ j ≤ ws.length ∧ (∀ p ∈ xs, nameB p.1 = true ∧ 0 ≤ p.2 ∧ p.2 ≤ 65535) ∧ ws = varsW xs ++ ws.drop j := by
  intro f
  induction f with
  | zero =>
    intro vs xs i j h5 hi hn hw h
    injection h with h
    injection h with h h'
    subst h h'
    exact ⟨h5, hi, hn, hw⟩
  | succ f ih =>
    intro vs xs i j h5 hi hn hw h
    unfold rVars at h
    split at h
    · rename_i hv
      have l0 : i < ws.length := ahead_in fun z => by
        rw [hv] at z
        exact absurd z (by decide +kernel)
      split at h
      · rename_i h4
        split at h
        · rename_i hnm
          simp only [Bool.and_eq_true, Bool.not_eq_true'] at hnm
          have l1 : i + 1 < ws.length := ahead_in fun z => by
            have := hnm.1
            rw [z, emp_no.2.2.2.1] at this
            cases this
          split at h
          · cases h
          · rename_i n s1 q
            obtain ⟨rfl, _, _, n0, n1, l2, d2⟩ := num_ex q
            have l2 : i + 2 < ws.length := l2
            refine ih _ _ _ _ (by rw [List.length_append, List.length_singleton]; omega) (show i + 2 + 1 ≤ _ by omega) (fun p hp => ?_) ?_ h
            · rcases List.mem_append.mp hp with z | z
              · exact hn p z
              · rw [List.mem_singleton.mp z]
                exact ⟨hnm.1, n0, n1⟩
            · rw [varsW_snoc, List.append_assoc]
              have : ws.drop i = [("var" : Str), ahead ws (i + 1), nt n] ++ ws.drop (i + 2 + 1) := by
                rw [drop_at l0, hv, drop_at l1, show ws.drop (i + 1 + 1) = _ from d2]
                rfl
              rw [← show ws.drop i = _ from this]
              exact hw
        · cases h
      · cases h
    · injection h with h
      injection h with h h'
      subst h h'
      exact ⟨h5, hi, hn, hw⟩
/-- a game that was read -/
theorem all_ex {xs : List (Str × Int)} {b : Bk} (h : rAll ws = .ok (xs, b)) : gameW xs b = ws ∧ xs.length ≤ 5 ∧ (∀ p ∈ xs, 0 ≤ p.2 ∧ p.2 ≤ 65535) ∧ b.ok 4 ∧ b.vl (xs.map (·.1)) 4 0 := by
  unfold rAll at h
  split at h
  · cases h
  · rename_i vs i q1
    obtain ⟨h5, hi, hn, hw⟩ := vars_ex 6 [] vs 0 i (Nat.zero_le _) (Nat.zero_le _) nofun rfl q1
    split at h
    · cases h
    · rename_i bk s q2
      have hns : ∀ x ∈ vs.map (·.1), nameB x = true := fun x hx => by
        obtain ⟨p, hp, rfl⟩ := List.mem_map.mp hx
        exact (hn p hp).1
      obtain ⟨vb, mb, lb, db⟩ := blk_ex (ws := ws) hns 4 ⟨i, 0, 0⟩ s bk hi q2
      split at h
      · cases h
      · rename_i hl
        injection h with h
        injection h with h h'
        subst h h'
        refine ⟨?_, h5, fun p hp => (hn p hp).2, vl_bk vb, vb⟩
        have e : ws.drop s.at_ = [] := List.drop_eq_nil_iff.mpr (by omega)
        rw [e, List.append_nil] at db
        have db : ws.drop i = bk.w := db
        show varsW vs ++ bk.w = ws
        rw [← db]
        exact hw.symm
end
end K1

set_option Elab.async false
set_option linter.all false
set_option maxRecDepth 100000
set_option maxHeartbeats 1000000
namespace K1
open PySem PySem.Spec PyProof.Rows L2 Kx TL
abbrev sLNm : Stmt := top 55
abbrev sLNu : Stmt := top 56
abbrev sLVs : Stmt := top 57
abbrev sLBg : Stmt := top 58
abbrev sLBs : Stmt := top 59
abbrev sLNx : Stmt := top 60
abbrev sLWr : Stmt := top 61
abbrev sLMe : Stmt := top 62
abbrev sLNe : Stmt := top 63
abbrev sLCh : Stmt := top 64
abbrev sLWk : Stmt := top 65
abbrev sLMv : Stmt := top 66
theorem lt1 (c d : Nat) : (([c] : List Nat) < [d]) ↔ c < d := by
  rw [List.cons_lt_cons_iff]
  constructor
  · rintro (h | ⟨_, h⟩)
    · exact h
    · exact absurd h (by decide)
  · exact .inl
theorem lets {c : Nat} : c ∈ LET.cps.toList ↔ 97 ≤ c ∧ c ≤ 122 := by
  have e : LET.cps.toList = [97, 98, 99, 100, 101, 102, 103, 104, 105, 106, 107, 108, 109, 110, 111, 112, 113, 114, 115, 116, 117, 118, 119, 120, 121, 122] := by decide +kernel
  rw [e]
  simp only [List.mem_cons, List.not_mem_nil, or_false]
  omega
theorem digs {c : Nat} : c ∈ DIG.cps.toList ↔ 48 ≤ c ∧ c ≤ 57 := ⟨dig_mem, fun h => dig_in h.1 h.2⟩
theorem cps_a : ("a" : Str).cps.toList = [97] ∧ ("z" : Str).cps.toList = [122] ∧ ("0" : Str).cps.toList = [48] ∧ ("9" : Str).cps.toList = [57] := by decide +kernel
theorem take_get {l : List Nat} {i c : Nat} (h : l[i]? = some c) : l.take (i + 1) = l.take i ++ [c] := by
  rw [List.take_add_one, h]
  rfl
section
variable {P : Program} {w : World} {K : PySem.W.Frag} {mg : Str → Option Value} {base : Heap}
theorem sc4N : FnScope ["word", "keys", "char"] ["word"] (defScope sLNm) := ⟨rfl, rfl, rfl, by decide +kernel, rfl, by decide +kernel, by decide +kernel⟩
def between (w : Str) (lo hi : Nat) : Prop := ∀ c ∈ w.cps.toList, lo ≤ c ∧ c ≤ hi
theorem ok_lname {f : Addr} {fd : FuncData} (F : Fun K "_law_is_name" "_law_is_name" sLNm f fd) (T : TxL mg) : FnOk P w K mg base CX0 1 f fd ["word"] (spB nameB) := by
  refine F.ok sc4N (fun vs H Q E h => ?_) (fun cdv A outer s H vs Q E hr h => ?_)
  · obtain ⟨x, rfl, _⟩ := h
    rfl
  · obtain ⟨x, rfl, hx, k⟩ := h
    refine ⟨_, pss_cons (ps_set (i := 1) sc4N.nd rfl (Or.inl rfl) (pe_tup (pa_cons pe_str (pa_cons pe_str (pa_cons pe_str (pa_cons pe_str (pa_cons pe_str (pa_cons pe_str (pa_cons pe_str (pa_cons pe_str (pa_cons pe_str (pa_cons pe_str (pa_cons pe_str (pa_cons pe_str (pa_cons pe_str (pa_cons pe_str pa_nil))))))))))))))))
      (pss_cons (ps_if (PW.pt (pw_or (pt_cmpR op_in_seq (pv 0) (pv 1) rfl) (pw_or1 (pt_not (pt_chain op_lt op_lt pe_int (pe_callB call_len_str (by rfl) T.len PySem.boot_len (pa_cons (pv 0) pa_nil)) pe_int))))) (pss_one (ps_ret pe_bl)) pss_nil)
      (pss_cons (ps_for PassesOwn.never rfl (pi_str (pv 0)) (pg_name (i := 2) sc4N.nd rfl (Or.inl rfl)) (pss_one (ps_if (pt_not (pt_chain op_le_str op_le_str pe_str (pv 2) pe_str)) (pss_one (ps_ret pe_bl)) pss_nil)))
      (pss_one (ps_ret pe_bl)))), ?_⟩
    refine ⟨(by show 14 ≤ sizeLine; decide), fun tk hk => ?_⟩
    have s1 := same_upd (o := .tup (KEYS.map V.str)) hk
    have no : nameB x = false → ∀ H', Same H H' → Q (.bl false) H' := fun e H' s' => by
      have := k H' s'
      rw [e] at this
      exact this
    refine ⟨_, rfl, _, rfl, tk, KEYS.map V.str, rfl, .inr (SqT.of upd_same), rfl, flat_strs _, _, rfl, ?_⟩
    rw [inV_str]
    cases hk : KEYS.contains x with
    | true =>
      refine iteT (iteT (no ?_ _ s1))
      unfold nameB
      rw [hk, Bool.not_true, Bool.and_false]
    | false =>
      refine iteF ⟨_, rfl, x, rfl, hx, _, _, rfl, rfl, _, rfl, ite2 (fun h1 => ?_) (fun h1 => ?_)⟩
      · have l1 : 0 < (x.length : Int) := of_decide_eq_true h1
        refine ⟨_, _, rfl, rfl, _, rfl, ?_⟩
        by_cases h2 : (x.length : Int) < 9
        · rw [decide_eq_true h2]
          refine iteF ?_
          refine ⟨_, rfl, x, rfl, for_it walk_str (fun i σ H' => (∃ v, σ = [some (.str x), some (.ref tk), v]) ∧ H' = upd H tk (.tup (KEYS.map V.str)) ∧ ∀ c ∈ x.cps.toList.take i, 97 ≤ c ∧ c ≤ 122) ⟨⟨_, rfl⟩, rfl, by simp⟩ (fun _ _ _ _ _ => trivial) ?_ ?_⟩
          · rintro i v σ H1 H2 hi ⟨⟨v2, rfl⟩, rfl, hc⟩ ⟨rfl, c, ec, rfl⟩
            have ec' : x.cps.toList[i]? = some c := by simpa using ec
            refine ⟨_, rfl, _, _, rfl, rfl, _, rfl, ?_⟩
            rw [cps_a.1]
            show if (!decide (([c] : List Nat) < [97])) = true then _ else _
            by_cases a1 : c < 97
            · rw [decide_eq_true ((lt1 _ _).mpr a1)]
              refine iteF ⟨_, rfl, iteT (no ?_ _ s1)⟩
              unfold nameB
              rw [show madeB x LET = false from ?_, Bool.and_false, Bool.false_and]
              cases z : madeB x LET with
              | false => rfl
              | true =>
                have := lets.mp (made_all z c (List.mem_of_getElem? ec'))
                omega
            · rw [decide_eq_false (fun z => a1 ((lt1 _ _).mp z))]
              refine iteT ⟨_, _, rfl, rfl, _, rfl, ?_⟩
              rw [cps_a.2.1]
              show if (!!decide (([122] : List Nat) < [c])) = true then _ else _
              by_cases a2 : 122 < c
              · rw [decide_eq_true ((lt1 _ _).mpr a2)]
                refine iteT (no ?_ _ s1)
                unfold nameB
                rw [show madeB x LET = false from ?_, Bool.and_false, Bool.false_and]
                cases z : madeB x LET with
                | false => rfl
                | true =>
                  have := lets.mp (made_all z c (List.mem_of_getElem? ec'))
                  omega
              · rw [decide_eq_false (fun z => a2 ((lt1 _ _).mp z))]
                refine iteF ⟨⟨_, rfl⟩, rfl, fun d hd => ?_⟩
                rw [take_get ec'] at hd
                rcases List.mem_append.mp hd with z | z
                · exact hc d z
                · rw [List.mem_singleton.mp z]
                  omega
          · rintro σ H1 ⟨⟨v2, rfl⟩, rfl, hc⟩
            have := k _ s1
            rw [show nameB x = true from ?_] at this
            · exact this
            · unfold nameB
              rw [decide_eq_true (show 1 ≤ x.length by omega), decide_eq_true (show x.length ≤ 8 by omega), hk, made_of (fun c hcc => lets.mpr (hc c (by rw [List.take_of_length_le (by simp)]; exact hcc)))]
              rfl
        · rw [decide_eq_false h2]
          refine iteT (no ?_ _ s1)
          unfold nameB
          rw [decide_eq_false (show ¬ x.length ≤ 8 by omega), Bool.and_false, Bool.false_and, Bool.false_and]
      · refine ⟨_, rfl, iteT (no ?_ _ s1)⟩
        unfold nameB
        rw [decide_eq_false (show ¬ 1 ≤ x.length from fun z => h1 (decide_eq_true (by omega))), Bool.false_and, Bool.false_and, Bool.false_and]
end
end K1

set_option Elab.async false
set_option linter.all false
set_option maxRecDepth 100000
set_option maxHeartbeats 1000000
namespace K1
open PySem PySem.Spec PyProof.Rows L2 Kx TL
def numIn (w : Str) (lo hi : Int) : Bool := numB w && (decide (lo ≤ val w) && decide (val w ≤ hi))
def spLNu : Sp := fun vs H Q _ => ∃ (w : Str) (lo hi : Int), vs = [.str w, .int lo, .int hi] ∧ w.length ≤ sizeLine ∧ hi ≤ 65535 ∧ ∀ H', Same H H' → Q (.bl (numIn w lo hi)) H'
theorem val_big {w : Str} (h5 : w.length ≤ 5) (hd : PySem.NumText.AllDigits w.cps.toList) : val w < 100000 := by
  have key : ∀ l : List Nat, PySem.NumText.AllDigits l → PySem.NumText.digitsVal l < 10 ^ l.length := by
    intro l
    induction h : l.length using Nat.strongRecOn generalizing l with
    | _ n ih =>
      intro hd
      by_cases hne : l = []
      · subst hne
        subst h
        decide
      · obtain ⟨r, c, rfl⟩ : ∃ r c, l = r ++ [c] := ⟨l.dropLast, l.getLast hne, (List.dropLast_concat_getLast hne).symm⟩
        have hc := hd c (by simp)
        have hl : r.length + 1 = n := by rw [← h, List.length_append, List.length_singleton]
        have i1 := ih r.length (by omega) r rfl (fun d hd' => hd d (List.mem_append.mpr (.inl hd')))
        rw [PySem.NumText.digitsVal_snoc, ← hl, Nat.pow_succ]
        omega
  have h1 := key _ hd
  have h2 : w.cps.toList.length ≤ 5 := by
    rw [len_tl] at h5
    exact h5
  have h3 : (10 : Nat) ^ w.cps.toList.length ≤ 10 ^ 5 := Nat.pow_le_pow_right (by decide) h2
  unfold val
  have : (10 : Nat) ^ 5 = 100000 := by decide
  omega
theorem val_nn (w : Str) : 0 ≤ val w := by unfold val; omega
theorem numB_eq {w : Str} (l1 : 1 ≤ w.length) (l5 : w.length ≤ 5) (hm : madeB w DIG = true) (hv : val w ≤ 65535) : numB w = decide (nt (val w) = w) := by
  by_cases h : nt (val w) = w
  · rw [decide_eq_true h]
    obtain ⟨m, em⟩ : ∃ m : Nat, val w = (m : Int) := ⟨(val w).toNat, by have := val_nn w; omega⟩
    have := numB_nt (m := m) (by omega)
    rw [← em, h] at this
    exact this
  · rw [decide_eq_false h]
    cases z : numB w with
    | false => rfl
    | true => exact absurd (nt_val z).1 h
section
variable {P : Program} {w : World} {K : PySem.W.Frag} {mg : Str → Option Value} {base : Heap}
theorem sc4U : FnScope ["word", "least", "most", "char"] ["word", "least", "most"] (defScope sLNu) := ⟨rfl, rfl, rfl, by decide +kernel, rfl, by decide +kernel, by decide +kernel⟩
theorem ok_lnum {f : Addr} {fd : FuncData} (F : Fun K "_law_is_number" "_law_is_number" sLNu f fd) (T : TxL mg) : FnOk P w K mg base CX0 1 f fd ["word", "least", "most"] spLNu := by
  refine F.ok sc4U (fun vs H Q E h => ?_) (fun cdv A outer s H vs Q E hr h => ?_)
  · obtain ⟨x, lo, hi, rfl, _⟩ := h
    rfl
  · obtain ⟨x, lo, hi, rfl, hx, h65, k⟩ := h
    refine ⟨_, pss_cons (ps_if (pt_not (pt_chain op_lt op_lt pe_int (pe_callB call_len_str (by rfl) T.len PySem.boot_len (pa_cons (pv 0) pa_nil)) pe_int)) (pss_one (ps_ret pe_bl)) pss_nil)
      (pss_cons (ps_for PassesOwn.never rfl (pi_str (pv 0)) (pg_name (i := 3) sc4U.nd rfl (Or.inl rfl)) (pss_one (ps_if (pt_not (pt_chain op_le_str op_le_str pe_str (pv 3) pe_str)) (pss_one (ps_ret pe_bl)) pss_nil)))
      (pss_one (ps_ret (pe_and (pe_cmpR op_eq (pe_callTy call_str_int (by rfl) T.str (by decide +kernel) (pa_cons (pe_callTy call_int_str (by rfl) T.int (by decide +kernel) (pa_cons (pv 0) pa_nil)) pa_nil)) (pv 0) (nomark _))
        (pe_one (pe_chain op_le op_le (pv 1) (pe_callTy call_int_str (by rfl) T.int (by decide +kernel) (pa_cons (pv 0) pa_nil)) (pv 2))))))), ?_⟩
    have no : numB x = false → Q (.bl false) H := fun e => by
      have := k H (Same.refl H)
      unfold numIn at this
      rw [e] at this
      exact this
    refine ⟨_, rfl, x, rfl, hx, _, _, rfl, rfl, _, rfl, ite2 (fun h1 => ?_) (fun h1 => ?_)⟩
    · have l1 : 0 < (x.length : Int) := of_decide_eq_true h1
      refine ⟨_, _, rfl, rfl, _, rfl, ?_⟩
      by_cases h2 : (x.length : Int) < 6
      · rw [decide_eq_true h2]
        refine iteF ?_
        have l1' : 1 ≤ x.length := by omega
        have l5' : x.length ≤ 5 := by omega
        refine ⟨_, rfl, x, rfl, for_it walk_str (fun i σ H' => (∃ v, σ = [some (.str x), some (.int lo), some (.int hi), v]) ∧ H' = H ∧ ∀ c ∈ x.cps.toList.take i, 48 ≤ c ∧ c ≤ 57) ⟨⟨_, rfl⟩, rfl, by simp⟩ (fun _ _ _ _ _ => trivial) ?_ ?_⟩
        · rintro i v σ H1 H2 hi ⟨⟨v2, rfl⟩, rfl, hc⟩ ⟨rfl, c, ec, rfl⟩
          have ec' : x.cps.toList[i]? = some c := by simpa using ec
          have bad : (c < 48 ∨ 57 < c) → numB x = false := fun q => by
            unfold numB
            rw [show madeB x DIG = false from ?_, Bool.and_false, Bool.false_and, Bool.false_and]
            cases z : madeB x DIG with
            | false => rfl
            | true =>
              have := digs.mp (made_all z c (List.mem_of_getElem? ec'))
              omega
          refine ⟨_, rfl, _, _, rfl, rfl, _, rfl, ?_⟩
          rw [cps_a.2.2.1]
          show if (!decide (([c] : List Nat) < [48])) = true then _ else _
          by_cases a1 : c < 48
          · rw [decide_eq_true ((lt1 _ _).mpr a1)]
            exact iteF ⟨_, rfl, iteT (no (bad (.inl a1)))⟩
          · rw [decide_eq_false (fun z => a1 ((lt1 _ _).mp z))]
            refine iteT ⟨_, _, rfl, rfl, _, rfl, ?_⟩
            rw [cps_a.2.2.2]
            show if (!!decide (([57] : List Nat) < [c])) = true then _ else _
            by_cases a2 : 57 < c
            · rw [decide_eq_true ((lt1 _ _).mpr a2)]
              exact iteT (no (bad (.inr a2)))
            · rw [decide_eq_false (fun z => a2 ((lt1 _ _).mp z))]
              refine iteF ⟨⟨_, rfl⟩, rfl, fun d hd => ?_⟩
              rw [take_get ec'] at hd
              rcases List.mem_append.mp hd with z | z
              · exact hc d z
              · rw [List.mem_singleton.mp z]
                omega
        · rintro σ H1 ⟨⟨v2, rfl⟩, rfl, hc⟩
          have hm : madeB x DIG = true := made_of (fun c hcc => digs.mpr (hc c (by rw [List.take_of_length_le (by simp)]; exact hcc)))
          have hint := int_of hm l1' l5'
          have hb := val_big l5' (digits_of hm)
          have hn := val_nn x
          have hlog : (val x).natAbs.log2 < 1920 := by
            have p : (2 : Nat) ^ 17 = 131072 := by decide
            have q : (val x).natAbs < 2 ^ 17 := by omega
            exact Nat.lt_of_lt_of_le (PySem.Flt.log2_lt_of (by decide) q) (by decide)
          refine ⟨_, rfl, x, val x, rfl, hint, by omega, _, rfl, hlog, _, rfl, rfl, ?_⟩
          have kk := k H1 (Same.refl _)
          unfold numIn at kk
          refine ⟨_, rfl, ?_⟩
          by_cases z : nt (val x) = x
          · rw [decide_eq_true (show V.str (Str.ofString (toString (val x))) = V.str x from congrArg V.str z)]
            refine iteT ⟨_, rfl, _, rfl, x, val x, rfl, hint, by omega, _, _, rfl, rfl, _, rfl, ite2 (fun z1 => ?_) (fun z1 => ?_)⟩
            · have z1 : lo ≤ val x := of_decide_eq_true z1
              rw [decide_eq_true z1, Bool.true_and] at kk
              refine ⟨_, rfl, _, _, rfl, rfl, ?_⟩
              by_cases z2 : val x ≤ hi
              · rw [numB_eq l1' l5' hm (by omega), decide_eq_true z, Bool.true_and] at kk
                exact kk
              · rw [decide_eq_false z2, Bool.and_false] at kk
                show Q (.bl (decide (val x ≤ hi))) H1
                rw [decide_eq_false z2]
                exact kk
            · have z1 : ¬ lo ≤ val x := fun q => z1 (decide_eq_true q)
              rw [decide_eq_false z1, Bool.false_and, Bool.and_false] at kk
              exact kk
          · rw [decide_eq_false (show ¬ V.str (Str.ofString (toString (val x))) = V.str x from fun q => z (V.str.inj q))]
            refine iteF ?_
            cases zn : numB x with
            | true => exact absurd (nt_val zn).1 z
            | false =>
              rw [zn, Bool.false_and] at kk
              exact kk
      · rw [decide_eq_false h2]
        refine iteT (no ?_)
        unfold numB
        rw [decide_eq_false (show ¬ x.length ≤ 5 by omega), Bool.and_false, Bool.false_and, Bool.false_and, Bool.false_and]
    · refine ⟨_, rfl, iteT (no ?_)⟩
      unfold numB
      rw [decide_eq_false (show ¬ 1 ≤ x.length from fun z => h1 (decide_eq_true (by omega))), Bool.false_and, Bool.false_and, Bool.false_and, Bool.false_and]
end
end K1

set_option Elab.async false
set_option linter.all false
set_option maxRecDepth 100000
set_option maxHeartbeats 1000000
namespace K1
open PySem PySem.Spec PyProof.Rows L2 Kx TL
def It.d : It → PyData
  | .one => .tuple [.str "one"]
  | .seat => .tuple [.str "seat"]
  | .head => .tuple [.str "head"]
  | .new => .tuple [.str "new"]
  | .num lo hi => .tuple [.str "number", .int lo, .int hi]
  | .value r => .tuple [.str "value", .int (r : Int)]
  | .block r k => .tuple [.str "block", .int (r : Int), .str k]
def KND : List Str := ["game", "then", "else", "empty"]
def It.fit : It → Prop
  | .num _ hi => hi ≤ 65535
  | .block _ k => k ∈ KND
  | _ => True
def ScV (nl : Addr) (l : Nat) : List (Key × V) := [(Sum.inr ("var" : Str), .ref nl), (Sum.inr ("left" : Str), .int (l : Int))]
/-- the machine in the heap; the stack's top stands at its end -/
structure MV (H : Hp) (sk sc nl : Addr) (vs : List V) (m : M) : Prop where
  hs : H sk = some (.lst vs)
  da : DtAll H vs (m.st.reverse.map It.d)
  hc : H sc = some (.dK (ScV nl m.left))
  hn : H nl = some (.lst (m.ns.map V.str))
  ne : sk ≠ nl
  fit : ∀ x ∈ m.st, x.fit
  sz : m.st.length ≤ 500000
  nz : m.ns.length ≤ 500000
def MAt (H : Hp) (sk sc nl : Addr) (m : M) : Prop := ∃ vs, MV H sk sc nl vs m
/-- all but the machine is as it was -/
def Km (sk sc nl : Addr) (H H' : Hp) : Prop := ∀ b o, H b = some o → b ≠ sk → b ≠ sc → b ≠ nl → H' b = some o
theorem Km.refl (sk sc nl : Addr) (H : Hp) : Km sk sc nl H H := fun _ _ e _ _ _ => e
theorem Km.trans {sk sc nl : Addr} {H H1 H2 : Hp} (a : Km sk sc nl H H1) (b : Km sk sc nl H1 H2) : Km sk sc nl H H2 := fun c o e h1 h2 h3 => b c o (a c o e h1 h2 h3) h1 h2 h3
theorem Km.same {sk sc nl : Addr} {H H' : Hp} (s : Same H H') : Km sk sc nl H H' := fun b o e _ _ _ => s b o e
theorem Km.upd {sk sc nl l : Addr} {H : Hp} {o : HO} (h : l = sk ∨ l = sc ∨ l = nl) : Km sk sc nl H (upd H l o) := fun b u e h1 h2 h3 => by
  rw [upd_ne (by rcases h with rfl | rfl | rfl <;> assumption)]
  exact e
theorem dt_int {H : Hp} {v k : Int} (e : v = k) : Dt H (.int v) (.int k) := e ▸ .int _
theorem tk_lst {H : Hp} {l : Addr} {xs : List V} {o : HO} (e : H l = some (.lst xs)) : Tk H (upd H l o) := fun b ys z => by
  rw [upd_ne (ne_of z e (by intro q; cases q))]
  exact z
theorem tk_dk {H : Hp} {l : Addr} {xs : List (Key × V)} {o : HO} (e : H l = some (.dK xs)) : Tk H (upd H l o) := fun b ys z => by
  rw [upd_ne (ne_of z e (by intro q; cases q))]
  exact z
theorem DtAll.append {H : Hp} : ∀ {vs us : List V} {ds es : List PyData}, DtAll H vs ds → DtAll H us es → DtAll H (vs ++ us) (ds ++ es)
  | _, _, _, _, .nil, h => h
  | _, _, _, _, .cons a r, h => .cons a (r.append h)
section
variable {H H' : Hp} {sk sc nl : Addr} {vs : List V} {m : M}
theorem MV.same (A : MV H sk sc nl vs m) (s : Same H H') : MV H' sk sc nl vs m := ⟨s _ _ A.hs, A.da.keep (Tk.same s), s _ _ A.hc, s _ _ A.hn, A.ne, A.fit, A.sz, A.nz⟩
theorem MV.kc (A : MV H sk sc nl vs m) : sk ≠ sc := ne_of A.hs A.hc (by intro z; cases z)
theorem MV.nc (A : MV H sk sc nl vs m) : nl ≠ sc := ne_of A.hn A.hc (by intro z; cases z)
theorem MV.push (A : MV H sk sc nl vs m) {us : List V} {is : List It} (hu : DtAll H us (is.reverse.map It.d)) (hf : ∀ x ∈ is, x.fit) (hz : m.st.length + is.length ≤ 500000) : MV (upd H sk (.lst (vs ++ us))) sk sc nl (vs ++ us) { m with st := is ++ m.st } where
  hs := upd_same
  da := by
    show DtAll _ _ ((is ++ m.st).reverse.map It.d)
    rw [List.reverse_append, List.map_append]
    have t := tk_lst (o := .lst (vs ++ us)) A.hs
    have h1 := A.da.keep t
    have h2 := hu.keep t
    exact h1.append h2
  hc := by
    rw [upd_ne A.kc.symm]
    exact A.hc
  hn := by
    rw [upd_ne A.ne.symm]
    exact A.hn
  ne := A.ne
  fit := fun x hx => (List.mem_append.mp hx).elim (hf x) (A.fit x)
  sz := by
    show (is ++ m.st).length ≤ _
    rw [List.length_append]
    omega
  nz := A.nz
theorem MV.lenv (A : MV H sk sc nl vs m) : vs.length = m.st.length := by
  rw [A.da.length, List.length_map, List.length_reverse]
theorem MV.room (A : MV H sk sc nl vs m) {n : Nat} (hn : n ≤ 1000) : vs.length + n ≤ sizeLine := by
  have h1 := A.lenv
  have h2 := A.sz
  exact Nat.le_trans (show vs.length + n ≤ 501000 by omega) (by decide)
theorem MV.gVar (A : MV H sk sc nl vs m) : DGet H sc (.str "var") (some (.ref nl)) := DGet.k (k := Sum.inr "var") A.hc
theorem MV.gLeft (A : MV H sk sc nl vs m) : DGet H sc (.str "left") (some (.int (m.left : Int))) := DGet.k (k := Sum.inr "left") A.hc
end
/-- what is wanted behind a step: whether the word fits; the machine if it does -/
def MPost (sk sc nl : Addr) (H : Hp) (Q : VK) : Option M → Prop
  | none => ∀ H', Km sk sc nl H H' → Q (.bl false) H'
  | some m1 => ∀ H', MAt H' sk sc nl m1 → Km sk sc nl H H' → Q (.bl true) H'
theorem MPost.mono {sk sc nl : Addr} {H H1 : Hp} {Q : VK} {o : Option M} (h : MPost sk sc nl H Q o) (k : Km sk sc nl H H1) : MPost sk sc nl H1 Q o := by
  cases o with
  | none => exact fun H' k' => h H' (k.trans k')
  | some m1 => exact fun H' A k' => h H' A (k.trans k')
def spLVs : Sp := fun vs H Q _ => ∃ (sk sc nl : Addr) (w : Str) (r : Nat) (m : M), vs = [.ref sk, .ref sc, .str w, .int (r : Int)] ∧ MAt H sk sc nl m ∧ m.st.length ≤ 400000 ∧ w.length ≤ sizeLine ∧ MPost sk sc nl H Q (nValue m w r)
section
variable {P : Program} {w : World} {K : PySem.W.Frag} {mg : Str → Option Value} {base : Heap} {fN fU : Addr} {dN dU : FuncData}
theorem sc4V : FnScope ["stack", "scope", "word", "room"] ["stack", "scope", "word", "room"] (defScope sLVs) := ⟨rfl, rfl, rfl, by decide +kernel, rfl, by decide +kernel, by decide +kernel⟩
theorem ok_lvs {f : Addr} {fd : FuncData} (F : Fun K "_law_values" "_law_values" sLVs f fd) (U1 : Fn0 P w K mg base 1 "_law_is_number" ["word", "least", "most"] spLNu fU dU) : FnOk P w K mg base CX0 2 f fd ["stack", "scope", "word", "room"] spLVs := by
  refine F.ok sc4V (fun vs H Q E h => ?_) (fun cdv A outer s H vs Q E hr h => ?_)
  · obtain ⟨sk, sc, nl, x, r, m, rfl, _⟩ := h
    rfl
  · obtain ⟨sk, sc, nl, x, r, m, rfl, ⟨vs, A1⟩, hz, hx, q⟩ := h
    have hu := hu_r hr
    have hrest : ∃ t, PSs (cxOf CX0 P w K mg base ["stack", "scope", "word", "room"] "_law_values" (defScope sLVs) f cdv A outer s H E).nox ((defBody sLVs).drop 1) t ∧
        ∀ H1, (OPS.contains x && decide (1 < r)) = false → MV H1 sk sc nl vs m → Km sk sc nl H H1 → t { nx := fun _ H' => Q .non H', rt := Q } [some (.ref sk), some (.ref sc), some (.str x), some (.int (r : Int))] H1 := by
      refine ⟨_, pss_one (ps_ret (pe_or (pe_cmpR op_in_seq (pv 2) (pe_dget hu (pv 1) pe_str (fun _ _ => rfl)) rfl) (pe_one (pe_call U1.ok hr (by rfl) U1.gl U1.kp U1.bd .nil pass0 (pa_cons (pv 2) (pa_cons pe_int (pa_cons pe_int pa_nil))))))), fun H1 ho B k1 => ?_⟩
      unfold nValue at q
      rw [ho, if_neg Bool.false_ne_true] at q
      refine ⟨_, rfl, _, rfl, sc, _, rfl, B.gVar, nl, m.ns.map V.str, rfl, .inl (SqL.of B.hn), rfl, flat_strs _, ?_⟩
      rw [inV_str]
      refine ⟨_, rfl, ?_⟩
      cases hc : m.ns.contains x with
      | true =>
        rw [if_pos (.inl hc)] at q
        exact iteT (q H1 ⟨vs, B⟩ k1)
      | false =>
        refine iteF ⟨_, rfl, x, 0, 65535, rfl, hx, by decide, fun H2 s2 => ?_⟩
        unfold numIn
        cases hn : (numB x && (decide (0 ≤ val x) && decide (val x ≤ 65535))) with
        | true =>
          rw [if_pos (.inr hn)] at q
          exact q H2 ⟨vs, B.same s2⟩ (k1.trans (Km.same s2))
        | false =>
          rw [if_neg (by rw [hc, hn]; rintro (z | z) <;> cases z)] at q
          exact q H2 (k1.trans (Km.same s2))
    obtain ⟨t, ht, rest⟩ := hrest
    refine ⟨_, pss_cons (ps_if (PW.pt (pw_and (pt_cmpR op_in_seq (pv 2) (pe_tup (pa_cons pe_str (pa_cons pe_str (pa_cons pe_str (pa_cons pe_str (pa_cons pe_str (pa_cons pe_str (pa_cons pe_str pa_nil)))))))) rfl) (pw_and1 (pt_cmpR op_gt (pv 3) pe_int (nomark _)))))
        (pss_cons (ps_expr (pe_bm PySem.F.plainAttrs_list PySem.F.slot_list_extend PySem.F.type_list_extend mt_extend (pv 0) (pa_cons (pe_lst (pa_cons (pe_tup (pa_cons pe_str (pa_cons (pe_op op_sub (pv 3) pe_int) pa_nil))) (pa_cons (pe_tup (pa_cons pe_str (pa_cons (pe_op op_sub (pv 3) pe_int) pa_nil))) pa_nil))) pa_nil)))
        (pss_one (ps_ret pe_bl))) pss_nil) ht, ?_⟩
    refine ⟨_, rfl, (by show 7 ≤ sizeLine; decide), fun tk htk => ?_⟩
    have s1 := same_upd (o := .tup (OPS.map V.str)) htk
    have A2 := A1.same s1
    refine ⟨tk, OPS.map V.str, rfl, .inr (SqT.of upd_same), rfl, flat_strs _, _, rfl, ?_⟩
    rw [inV_str]
    cases ho : OPS.contains x with
    | false => exact iteF (rest _ (by rw [ho]; rfl) A2 (Km.same s1))
    | true =>
      refine iteT ⟨_, rfl, _, _, rfl, rfl, _, rfl, ?_⟩
      by_cases hr1 : (r : Int) > 1
      · rw [decide_eq_true hr1]
        refine iteT ⟨_, rfl, .inl ⟨rfl, _, SqL.of A2.hs⟩, _, rfl, _, _, rfl, rfl, (by show 2 ≤ sizeLine; decide), fun t1 h1 => ⟨_, rfl, _, _, rfl, rfl, (by show 2 ≤ sizeLine; decide), fun t2 h2 => ⟨(by show 2 ≤ sizeLine; decide), fun l hl => ?_⟩⟩⟩
        have e1 : (r : Int) - 1 = ((r - 1 : Nat) : Int) := by omega
        have s2 := same_upd (o := .tup [.str ("value" : Str), .int ((r : Int) - 1)]) h1
        have s3 := same_upd (o := .tup [.str ("value" : Str), .int ((r : Int) - 1)]) h2
        have s4 := same_upd (o := .lst [.ref t1, .ref t2]) hl
        have A5 := A2.same ((s2.trans s3).trans s4)
        refine ⟨sk, l, vs, _, rfl, rfl, A5.hs, upd_same, A5.room (n := 2) (by decide), ?_⟩
        unfold nValue at q
        rw [ho, decide_eq_true (show 1 < r by omega), Bool.and_self, if_pos rfl] at q
        refine q _ ⟨_, A5.push (is := [.value (r - 1), .value (r - 1)]) ?_ (fun x hx => ?_) (by show m.st.length + 2 ≤ _; omega)⟩ ((Km.same (s1.trans ((s2.trans s3).trans s4))).trans (Km.upd (.inl rfl)))
        · refine .cons (.tup (s4 _ _ (s3 _ _ upd_same)) ?_) (.cons (.tup (s4 _ _ upd_same) ?_) .nil)
          · exact .cons (.str _) (.cons (dt_int e1) .nil)
          · exact .cons (.str _) (.cons (dt_int e1) .nil)
        · simp only [List.mem_cons, List.not_mem_nil, or_false] at hx
          rcases hx with rfl | rfl <;> trivial
      · rw [decide_eq_false hr1]
        exact iteF (rest _ (by rw [ho, decide_eq_false (show ¬ 1 < r by omega)]; rfl) A2 (Km.same s1))
end
end K1

set_option Elab.async false
set_option linter.all false
set_option maxRecDepth 100000
set_option maxHeartbeats 1000000
namespace K1
open PySem PySem.Spec PyProof.Rows L2 Kx TL
def orelse (s : Stmt) : List Stmt := match s with
  | .If _ _ e _ => e
  | _ => []
def el0 : List Stmt := [(defBody sLBg).getD 1 (.Pass ⟨0, 0, 0, 0⟩)]
def el (l : List Stmt) : List Stmt := orelse (l.getD 0 (.Pass ⟨0, 0, 0, 0⟩))
def nB5 (m : M) (w : Str) (r : Nat) : Option M := if w = "if" ∧ 0 < r then some { m with st := .value 6 :: .block (r - 1) "then" :: m.st } else none
def nB4 (m : M) (w : Str) (r : Nat) : Option M := if w = "pay" ∨ w = "take" then some { m with st := .value 6 :: m.st } else nB5 m w r
def nB3 (m : M) (w : Str) (r : Nat) : Option M := if w = "show" then some { m with st := .seat :: .value 6 :: m.st } else nB4 m w r
def nB2 (m : M) (w : Str) (r : Nat) : Option M := if CHS.contains w = true ∧ 0 < m.ns.length ∧ 0 < m.left then some { m with left := m.left - 1, st := .one :: .num 1 8 :: m.st } else nB3 m w r
theorem nB_eq (m : M) (w : Str) (r : Nat) : nBegin m w r = if w = "set" ∧ 0 < m.ns.length then some { m with st := .one :: .value 6 :: m.st } else nB2 m w r := rfl
theorem push_two {H : Hp} {sk sc nl : Addr} {vs : List V} {m : M} (A : MV H sk sc nl vs m) {t1 t2 l : Addr} {xs ys : List V} (h1 : H t1 = none) (h2 : upd H t1 (.tup xs) t2 = none) (hl : upd (upd H t1 (.tup xs)) t2 (.tup ys) l = none) (a b : It)
    (da : ∀ H', H' t1 = some (.tup xs) → Dt H' (.ref t1) a.d) (db : ∀ H', H' t2 = some (.tup ys) → Dt H' (.ref t2) b.d) (fa : a.fit) (fb : b.fit) (hz : m.st.length + 2 ≤ 500000) :
    MV (upd (upd (upd H t1 (.tup xs)) t2 (.tup ys)) l (.lst [.ref t1, .ref t2])) sk sc nl vs m ∧ MV (upd (upd (upd (upd H t1 (.tup xs)) t2 (.tup ys)) l (.lst [.ref t1, .ref t2])) sk (.lst (vs ++ [.ref t1, .ref t2]))) sk sc nl (vs ++ [.ref t1, .ref t2]) { m with st := b :: a :: m.st } ∧
      Km sk sc nl H (upd (upd (upd (upd H t1 (.tup xs)) t2 (.tup ys)) l (.lst [.ref t1, .ref t2])) sk (.lst (vs ++ [.ref t1, .ref t2]))) := by
  have s1 := same_upd (o := .tup xs) h1
  have s2 := same_upd (o := .tup ys) h2
  have s3 := same_upd (o := .lst [.ref t1, .ref t2]) hl
  have A3 := A.same ((s1.trans s2).trans s3)
  refine ⟨A3, A3.push (is := [b, a]) (.cons (da _ (s3 _ _ (s2 _ _ upd_same))) (.cons (db _ (s3 _ _ upd_same)) .nil)) (fun x hx => ?_) hz, (Km.same ((s1.trans s2).trans s3)).trans (Km.upd (.inl rfl))⟩
  simp only [List.mem_cons, List.not_mem_nil, or_false] at hx
  rcases hx with rfl | rfl
  · exact fb
  · exact fa
def spLBg : Sp := fun vs H Q _ => ∃ (sk sc nl : Addr) (w : Str) (r : Nat) (m : M), vs = [.ref sk, .ref sc, .str w, .int (r : Int)] ∧ MAt H sk sc nl m ∧ m.st.length ≤ 450000 ∧ MPost sk sc nl H Q (nBegin m w r)
section
variable {P : Program} {w : World} {K : PySem.W.Frag} {mg : Str → Option Value} {base : Heap}
theorem sc4B : FnScope ["stack", "scope", "word", "room", "named"] ["stack", "scope", "word", "room"] (defScope sLBg) := ⟨rfl, rfl, rfl, by decide +kernel, rfl, by decide +kernel, by decide +kernel⟩
abbrev DB (Q : VK) : Ends := { nx := fun _ H' => Q (.bl true) H', rt := Q }
theorem beg5 {f : Addr} {cdv : Value} {A : Around} {outer : List Env} {s : Shared} {H : Hp} {Q : VK} {E : XK} {sk sc nl : Addr} {vs : List V} {x : Str} {r : Nat} {m : M} (hz : m.st.length ≤ 450000) :
    ∃ t, PSs (cxOf CX0 P w K mg base ["stack", "scope", "word", "room", "named"] "_law_begins" (defScope sLBg) f cdv A outer s H E).nox (el (el (el (el el0)))) t ∧
      ∀ H1 v4, MV H1 sk sc nl vs m → MPost sk sc nl H1 Q (nB5 m x r) → t (DB Q) [some (.ref sk), some (.ref sc), some (.str x), some (.int (r : Int)), v4] H1 := by
  refine ⟨_, pss_one (ps_if (PW.pt (pw_and (pt_cmpR op_eq (pv 2) pe_str (nomark _)) (pw_and1 (pt_cmpR op_gt (pv 3) pe_int (nomark _)))))
    (pss_one (ps_expr (pe_bm PySem.F.plainAttrs_list PySem.F.slot_list_extend PySem.F.type_list_extend mt_extend (pv 0) (pa_cons (pe_lst (pa_cons (pe_tup (pa_cons pe_str (pa_cons (pe_op op_sub (pv 3) pe_int) (pa_cons pe_str pa_nil)))) (pa_cons (pe_tup (pa_cons pe_str (pa_cons pe_int pa_nil))) pa_nil))) pa_nil))))
    (pss_one (ps_ret pe_bl))), fun H1 v4 A1 q => ?_⟩
  unfold nB5 at q
  refine ⟨_, rfl, rfl, _, rfl, ?_⟩
  by_cases hx : x = "if"
  · rw [decide_eq_true (show V.str x = V.str "if" from congrArg V.str hx)]
    refine iteT ⟨_, rfl, _, _, rfl, rfl, _, rfl, ?_⟩
    by_cases hr : (r : Int) > 0
    · rw [decide_eq_true hr]
      refine iteT ⟨_, rfl, .inl ⟨rfl, _, SqL.of A1.hs⟩, _, rfl, _, _, rfl, rfl, (by show 3 ≤ sizeLine; decide), fun t1 h1 => ⟨(by show 2 ≤ sizeLine; decide), fun t2 h2 => ⟨(by show 2 ≤ sizeLine; decide), fun l hl => ?_⟩⟩⟩
      have e1 : (r : Int) - 1 = ((r - 1 : Nat) : Int) := by omega
      obtain ⟨B1, B2, k⟩ := push_two A1 h1 h2 hl (.block (r - 1) "then") (.value 6) (fun H' e => .tup e (.cons (.str _) (.cons (dt_int e1) (.cons (.str _) .nil)))) (fun H' e => .tup e (.cons (.str _) (.cons (.int _) .nil))) (show ("then" : Str) ∈ KND by decide +kernel) trivial (by omega)
      rw [if_pos ⟨hx, by omega⟩] at q
      exact ⟨sk, l, vs, _, rfl, rfl, B1.hs, upd_same, B1.room (n := 2) (by decide), q _ ⟨_, B2⟩ k⟩
    · rw [decide_eq_false hr]
      rw [if_neg (fun z => hr (by omega))] at q
      exact iteF (q _ (Km.refl _ _ _ _))
  · rw [decide_eq_false (show ¬ V.str x = V.str "if" from fun z => hx (V.str.inj z))]
    rw [if_neg (fun z => hx z.1)] at q
    exact iteF (iteF (q _ (Km.refl _ _ _ _)))
theorem beg4 {f : Addr} {cdv : Value} {A : Around} {outer : List Env} {s : Shared} {H : Hp} {Q : VK} {E : XK} {sk sc nl : Addr} {vs : List V} {x : Str} {r : Nat} {m : M} (hz : m.st.length ≤ 450000) :
    ∃ t, PSs (cxOf CX0 P w K mg base ["stack", "scope", "word", "room", "named"] "_law_begins" (defScope sLBg) f cdv A outer s H E).nox (el (el (el el0))) t ∧
      ∀ H1 v4, MV H1 sk sc nl vs m → MPost sk sc nl H1 Q (nB4 m x r) → t (DB Q) [some (.ref sk), some (.ref sc), some (.str x), some (.int (r : Int)), v4] H1 := by
  obtain ⟨t, ht, rest⟩ := beg5 (P := P) (w := w) (K := K) (mg := mg) (base := base) (f := f) (cdv := cdv) (A := A) (outer := outer) (s := s) (H := H) (Q := Q) (E := E) (sk := sk) (sc := sc) (nl := nl) (vs := vs) (x := x) (r := r) hz
  refine ⟨_, pss_one (ps_if (PW.pt (pw_or (pt_cmpR op_eq (pv 2) pe_str (nomark _)) (pw_or1 (pt_cmpR op_eq (pv 2) pe_str (nomark _)))))
    (pss_one (ps_expr (pe_bm PySem.F.plainAttrs_list PySem.F.slot_list_append PySem.F.type_list_append mt_append (pv 0) (pa_cons (pe_tup (pa_cons pe_str (pa_cons pe_int pa_nil))) pa_nil))))
    ht), fun H1 v4 A1 q => ?_⟩
  unfold nB4 at q
  have push : x = "pay" ∨ x = "take" → (tBM K "list" rAppend (tVar 0) (tCons (tTup (tCons (tC (V.str "value")) (tCons (tC (V.int 6)) tNil))) tNil) [some (.ref sk), some (.ref sc), some (.str x), some (.int (r : Int)), v4] H1 fun _ H2 => Q (.bl true) H2) := fun hx => by
    rw [if_pos hx] at q
    refine ⟨_, rfl, .inl ⟨rfl, _, SqL.of A1.hs⟩, (by show 2 ≤ sizeLine; decide), fun t1 h1 => ?_⟩
    have s1 := same_upd (o := .tup [.str ("value" : Str), .int 6]) h1
    have B1 := A1.same s1
    refine ⟨sk, vs, _, rfl, rfl, B1.hs, Nat.lt_of_succ_le (B1.room (n := 1) (by decide)), ?_⟩
    exact q _ ⟨_, B1.push (us := [.ref t1]) (is := [.value 6]) (.cons (.tup upd_same (.cons (.str _) (.cons (.int _) .nil))) .nil) (fun y hy => by rw [List.mem_singleton.mp hy]; trivial) (by show m.st.length + 1 ≤ _; omega)⟩ ((Km.same s1).trans (Km.upd (.inl rfl)))
  refine ⟨_, rfl, rfl, _, rfl, ?_⟩
  by_cases hx : x = "pay"
  · rw [decide_eq_true (show V.str x = V.str "pay" from congrArg V.str hx)]
    exact iteT (push (.inl hx))
  · rw [decide_eq_false (show ¬ V.str x = V.str "pay" from fun z => hx (V.str.inj z))]
    refine iteF ⟨_, rfl, rfl, _, rfl, ?_⟩
    by_cases hx2 : x = "take"
    · rw [decide_eq_true (show V.str x = V.str "take" from congrArg V.str hx2)]
      exact iteT (push (.inr hx2))
    · rw [decide_eq_false (show ¬ V.str x = V.str "take" from fun z => hx2 (V.str.inj z))]
      rw [if_neg (by rintro (z | z); exact hx z; exact hx2 z)] at q
      exact iteF (rest _ _ A1 q)
theorem beg3 {f : Addr} {cdv : Value} {A : Around} {outer : List Env} {s : Shared} {H : Hp} {Q : VK} {E : XK} {sk sc nl : Addr} {vs : List V} {x : Str} {r : Nat} {m : M} (hz : m.st.length ≤ 450000) :
    ∃ t, PSs (cxOf CX0 P w K mg base ["stack", "scope", "word", "room", "named"] "_law_begins" (defScope sLBg) f cdv A outer s H E).nox (el (el el0)) t ∧
      ∀ H1 v4, MV H1 sk sc nl vs m → MPost sk sc nl H1 Q (nB3 m x r) → t (DB Q) [some (.ref sk), some (.ref sc), some (.str x), some (.int (r : Int)), v4] H1 := by
  obtain ⟨t, ht, rest⟩ := beg4 (P := P) (w := w) (K := K) (mg := mg) (base := base) (f := f) (cdv := cdv) (A := A) (outer := outer) (s := s) (H := H) (Q := Q) (E := E) (sk := sk) (sc := sc) (nl := nl) (vs := vs) (x := x) (r := r) hz
  refine ⟨_, pss_one (ps_if (pt_cmpR op_eq (pv 2) pe_str (nomark _))
    (pss_one (ps_expr (pe_bm PySem.F.plainAttrs_list PySem.F.slot_list_extend PySem.F.type_list_extend mt_extend (pv 0) (pa_cons (pe_lst (pa_cons (pe_tup (pa_cons pe_str (pa_cons pe_int pa_nil))) (pa_cons (pe_tup (pa_cons pe_str pa_nil)) pa_nil))) pa_nil))))
    ht), fun H1 v4 A1 q => ?_⟩
  unfold nB3 at q
  refine ⟨_, rfl, rfl, _, rfl, ?_⟩
  by_cases hx : x = "show"
  · rw [decide_eq_true (show V.str x = V.str "show" from congrArg V.str hx)]
    refine iteT ⟨_, rfl, .inl ⟨rfl, _, SqL.of A1.hs⟩, (by show 2 ≤ sizeLine; decide), fun t1 h1 => ⟨(by show 1 ≤ sizeLine; decide), fun t2 h2 => ⟨(by show 2 ≤ sizeLine; decide), fun l hl => ?_⟩⟩⟩
    obtain ⟨B1, B2, k⟩ := push_two A1 h1 h2 hl (.value 6) .seat (fun H' e => .tup e (.cons (.str _) (.cons (.int _) .nil))) (fun H' e => .tup e (.cons (.str _) .nil)) trivial trivial (by omega)
    rw [if_pos hx] at q
    exact ⟨sk, l, vs, _, rfl, rfl, B1.hs, upd_same, B1.room (n := 2) (by decide), q _ ⟨_, B2⟩ k⟩
  · rw [decide_eq_false (show ¬ V.str x = V.str "show" from fun z => hx (V.str.inj z))]
    rw [if_neg hx] at q
    exact iteF (rest _ _ A1 q)
theorem beg2 {f : Addr} {cdv : Value} {A : Around} {outer : List Env} {s : Shared} {H : Hp} {Q : VK} {E : XK} {sk sc nl : Addr} {vs : List V} {x : Str} {r : Nat} {m : M} (hz : m.st.length ≤ 450000) {k0 : Nat} (hr : Room k0 (A.deeper (envOfC "_law_begins" (defScope sLBg) s.heap.objs.size f cdv))) :
    ∃ t, PSs (cxOf CX0 P w K mg base ["stack", "scope", "word", "room", "named"] "_law_begins" (defScope sLBg) f cdv A outer s H E).nox (el el0) t ∧
      ∀ H1, MV H1 sk sc nl vs m → MPost sk sc nl H1 Q (nB2 m x r) → t (DB Q) [some (.ref sk), some (.ref sc), some (.str x), some (.int (r : Int)), some (.bl (decide ((0 : Int) < (m.ns.length : Int))))] H1 := by
  have hu := hu_r hr
  obtain ⟨t, ht, rest⟩ := beg3 (P := P) (w := w) (K := K) (mg := mg) (base := base) (f := f) (cdv := cdv) (A := A) (outer := outer) (s := s) (H := H) (Q := Q) (E := E) (sk := sk) (sc := sc) (nl := nl) (vs := vs) (x := x) (r := r) hz
  refine ⟨_, pss_one (ps_if (PW.pt (pw_and (pt_cmpR op_in_seq (pv 2) (pe_tup (pa_cons pe_str (pa_cons pe_str (pa_cons pe_str pa_nil)))) rfl) (pw_and (pt_val (pv 4)) (pw_and1 (pt_cmpR op_gt (pe_dget hu (pv 1) pe_str (fun _ _ => rfl)) pe_int (nomark _))))))
    (pss_cons (ps_dput hu (pv 1) pe_str (pe_op op_sub (pe_dget hu (pv 1) pe_str (fun _ _ => rfl)) pe_int) rfl)
    (pss_one (ps_expr (pe_bm PySem.F.plainAttrs_list PySem.F.slot_list_extend PySem.F.type_list_extend mt_extend (pv 0) (pa_cons (pe_lst (pa_cons (pe_tup (pa_cons pe_str (pa_cons pe_int (pa_cons pe_int pa_nil)))) (pa_cons (pe_tup (pa_cons pe_str pa_nil)) pa_nil))) pa_nil)))))
    ht), fun H1 A1 q => ?_⟩
  unfold nB2 at q
  refine ⟨_, rfl, (by show 3 ≤ sizeLine; decide), fun tk htk => ?_⟩
  have s1 := same_upd (o := .tup (CHS.map V.str)) htk
  have A2 := A1.same s1
  have q2 := q.mono (Km.same s1)
  refine ⟨tk, CHS.map V.str, rfl, .inr (SqT.of upd_same), rfl, flat_strs _, _, rfl, ?_⟩
  rw [inV_str]
  cases hc : CHS.contains x with
  | false =>
    rw [hc, if_neg (fun z => Bool.false_ne_true z.1)] at q2
    exact iteF (iteF (rest _ _ A2 q2))
  | true =>
    refine iteT ⟨_, rfl, _, rfl, ?_⟩
    by_cases hn : 0 < m.ns.length
    · rw [decide_eq_true (show (0 : Int) < (m.ns.length : Int) by omega)]
      refine iteT ⟨_, rfl, sc, _, rfl, A2.gLeft, _, _, rfl, rfl, _, rfl, ?_⟩
      by_cases hl : (m.left : Int) > 0
      · rw [decide_eq_true hl]
        have hl' : 0 < m.left := by omega
        rw [if_pos ⟨hc, hn, hl'⟩] at q2
        have e1 : (m.left : Int) - 1 = ((m.left - 1 : Nat) : Int) := by omega
        refine iteT ⟨_, rfl, sc, _, rfl, A2.gLeft, _, _, rfl, rfl, _, rfl, sc, _, rfl, DPut.k (k := Sum.inr "left") A2.hc (by show 2 < sizeLine; decide), ?_⟩
        have A3 : MV (upd (upd H1 tk (.tup (CHS.map V.str))) sc (.dK (putK (ScV nl m.left) (Sum.inr "left") (.int ((m.left : Int) - 1))))) sk sc nl vs { m with left := m.left - 1 } := by
          have ep : putK (ScV nl m.left) (Sum.inr "left") (.int ((m.left : Int) - 1)) = ScV nl (m.left - 1) := by
            rw [e1]
            rfl
          refine ⟨by rw [upd_ne A2.kc]; exact A2.hs, A2.da.keep (tk_dk A2.hc), by rw [upd_same, ep], by rw [upd_ne A2.nc]; exact A2.hn, A2.ne, A2.fit, A2.sz, A2.nz⟩
        refine ⟨_, rfl, .inl ⟨rfl, _, SqL.of A3.hs⟩, (by show 3 ≤ sizeLine; decide), fun t1 h1 => ⟨(by show 1 ≤ sizeLine; decide), fun t2 h2 => ⟨(by show 2 ≤ sizeLine; decide), fun l hl2 => ?_⟩⟩⟩
        obtain ⟨B1, B2, k⟩ := push_two A3 h1 h2 hl2 (.num 1 8) .one (fun H' e => .tup e (.cons (.str _) (.cons (.int _) (.cons (.int _) .nil)))) (fun H' e => .tup e (.cons (.str _) .nil)) (by show (8 : Int) ≤ 65535; decide) trivial (by show m.st.length + 2 ≤ _; omega)
        exact ⟨sk, l, vs, _, rfl, rfl, B1.hs, upd_same, B1.room (n := 2) (by decide), q2 _ ⟨_, B2⟩ ((Km.upd (.inr (.inl rfl))).trans k)⟩
      · rw [decide_eq_false hl]
        rw [if_neg (fun z => hl (by have := z.2.2; omega))] at q2
        exact iteF (rest _ _ A2 q2)
    · rw [if_neg (fun z => hn z.2.1)] at q2
      rw [decide_eq_false (show ¬ (0 : Int) < (m.ns.length : Int) by omega)] at *
      exact iteF (iteF (rest _ _ A2 q2))
end
end K1

set_option Elab.async false
set_option linter.all false
set_option maxRecDepth 100000
set_option maxHeartbeats 1000000
namespace K1
open PySem PySem.Spec PyProof.Rows L2 Kx TL
theorem iteFe {A B : Prop} {b : Bool} (e : b = false) (h : B) : if b = true then A else B := by
  subst e
  exact iteF h
theorem iteTe {A B : Prop} {b : Bool} (e : b = true) (h : A) : if b = true then A else B := by
  subst e
  exact iteT h
def spLBs : Sp := fun vs H Q _ => ∃ (sk sc nl : Addr) (w : Str) (r : Nat) (kind : Str) (m : M), vs = [.ref sk, .ref sc, .str w, .int (r : Int), .str kind] ∧ kind ∈ KND ∧ MAt H sk sc nl m ∧ m.st.length ≤ 440000 ∧ MPost sk sc nl H Q (nBlock m w r kind)
section
variable {P : Program} {w : World} {K : PySem.W.Frag} {mg : Str → Option Value} {base : Heap} {fB fN fU fV fG : Addr} {dB dN dU dV dG : FuncData}
theorem ok_lbg {f : Addr} {fd : FuncData} (F : Fun K "_law_begins" "_law_begins" sLBg f fd) (T : TxL mg) : FnOk P w K mg base CX0 1 f fd ["stack", "scope", "word", "room"] spLBg := by
  refine F.ok sc4B (fun vs H Q E h => ?_) (fun cdv A outer s H vs Q E hr h => ?_)
  · obtain ⟨sk, sc, nl, x, r, m, rfl, _⟩ := h
    rfl
  · obtain ⟨sk, sc, nl, x, r, m, rfl, ⟨vs, A1⟩, hz, q⟩ := h
    have hu := hu_r hr
    obtain ⟨t, ht, rest⟩ := beg2 (P := P) (w := w) (K := K) (mg := mg) (base := base) (f := f) (cdv := cdv) (A := A) (outer := outer) (s := s) (H := H) (Q := Q) (E := E) (sk := sk) (sc := sc) (nl := nl) (vs := vs) (x := x) (r := r) hz hr
    refine ⟨_, pss_cons (ps_set (i := 4) sc4B.nd rfl (Or.inl rfl) (pe_cmpR op_gt (pe_callB call_len_seq (by rfl) T.len PySem.boot_len (pa_cons (pe_dget hu (pv 1) pe_str (fun _ _ => rfl)) pa_nil)) pe_int (nomark _)))
      (pss_cons (ps_if (PW.pt (pw_and (pt_cmpR op_eq (pv 2) pe_str (nomark _)) (pw_and1 (pt_val (pv 4)))))
        (pss_one (ps_expr (pe_bm PySem.F.plainAttrs_list PySem.F.slot_list_extend PySem.F.type_list_extend mt_extend (pv 0) (pa_cons (pe_lst (pa_cons (pe_tup (pa_cons pe_str (pa_cons pe_int pa_nil))) (pa_cons (pe_tup (pa_cons pe_str pa_nil)) pa_nil))) pa_nil))))
        ht) (pss_one (ps_ret pe_bl))), ?_⟩
    refine ⟨_, rfl, sc, _, rfl, A1.gVar, nl, m.ns.map V.str, rfl, .inl (SqL.of A1.hn), _, _, rfl, rfl, ?_⟩
    rw [nB_eq] at q
    rw [List.length_map]
    refine ⟨_, rfl, rfl, _, rfl, ?_⟩
    by_cases hx : x = "set"
    · rw [decide_eq_true (show V.str x = V.str "set" from congrArg V.str hx)]
      refine iteT ⟨_, rfl, _, rfl, ?_⟩
      by_cases hn : 0 < m.ns.length
      · rw [if_pos ⟨hx, hn⟩] at q
        rw [show decide ((0 : Int) < (m.ns.length : Int)) = true from decide_eq_true (by omega)]
        refine iteT ⟨_, rfl, .inl ⟨rfl, _, SqL.of A1.hs⟩, (by show 2 ≤ sizeLine; decide), fun t1 h1 => ⟨(by show 1 ≤ sizeLine; decide), fun t2 h2 => ⟨(by show 2 ≤ sizeLine; decide), fun l hl => ?_⟩⟩⟩
        obtain ⟨B1, B2, k⟩ := push_two A1 h1 h2 hl (.value 6) .one (fun H' e => .tup e (.cons (.str _) (.cons (.int _) .nil))) (fun H' e => .tup e (.cons (.str _) .nil)) trivial trivial (by omega)
        exact ⟨sk, l, vs, _, rfl, rfl, B1.hs, upd_same, B1.room (n := 2) (by decide), q _ ⟨_, B2⟩ k⟩
      · rw [if_neg (fun z => hn z.2)] at q
        have e0 : decide ((0 : Int) < (m.ns.length : Int)) = false := decide_eq_false (by omega)
        exact iteFe e0 (rest H A1 q)
    · rw [decide_eq_false (show ¬ V.str x = V.str "set" from fun z => hx (V.str.inj z))]
      rw [if_neg (fun z => hx z.1)] at q
      exact iteF (iteF (rest H A1 q))
theorem sc4K : FnScope ["stack", "scope", "word", "room", "kind"] ["stack", "scope", "word", "room", "kind"] (defScope sLBs) := ⟨rfl, rfl, rfl, by decide +kernel, rfl, by decide +kernel, by decide +kernel⟩
theorem str_in2 (x a b : Str) : inV (.str x) [.str a, .str b] = (decide (x = a) || decide (x = b)) := by
  rw [show ([.str a, .str b] : List V) = [a, b].map V.str from rfl, inV_str]
  simp only [List.contains_cons, List.contains_nil, Bool.or_false]
  congr 1
theorem ok_lbs {f : Addr} {fd : FuncData} (F : Fun K "_law_blocks" "_law_blocks" sLBs f fd) (B1 : Fn0 P w K mg base 1 "_law_begins" ["stack", "scope", "word", "room"] spLBg fB dB) : FnOk P w K mg base CX0 2 f fd ["stack", "scope", "word", "room", "kind"] spLBs := by
  refine F.ok sc4K (fun vs H Q E h => ?_) (fun cdv A outer s H vs Q E hr h => ?_)
  · obtain ⟨sk, sc, nl, x, r, kind, m, rfl, _⟩ := h
    rfl
  · obtain ⟨sk, sc, nl, x, r, kind, m, rfl, hkn, ⟨vs, A1⟩, hz, q⟩ := h
    -- the last two statements
    have h3 : ∃ t, PSs (cxOf CX0 P w K mg base ["stack", "scope", "word", "room", "kind"] "_law_blocks" (defScope sLBs) f cdv A outer s H E).nox ((defBody sLBs).drop 3) t ∧
        ∀ H1 k2, k2 ∈ KND → MV H1 sk sc nl vs m → MPost sk sc nl H1 Q (nBegin { m with st := .block r k2 :: m.st } x r) → t { nx := fun _ H' => Q .non H', rt := Q } [some (.ref sk), some (.ref sc), some (.str x), some (.int (r : Int)), some (.str k2)] H1 := by
      refine ⟨_, pss_cons (ps_expr (pe_bm PySem.F.plainAttrs_list PySem.F.slot_list_append PySem.F.type_list_append mt_append (pv 0) (pa_cons (pe_tup (pa_cons pe_str (pa_cons (pv 3) (pa_cons (pv 4) pa_nil)))) pa_nil)))
        (pss_one (ps_ret (pe_call B1.ok hr (by rfl) B1.gl B1.kp B1.bd .nil pass0 (pa_cons (pv 0) (pa_cons (pv 1) (pa_cons (pv 2) (pa_cons (pv 3) pa_nil))))))), fun H1 k2 kn A2 q2 => ?_⟩
      refine ⟨_, rfl, .inl ⟨rfl, _, SqL.of A2.hs⟩, _, rfl, _, rfl, (by show 3 ≤ sizeLine; decide), fun t1 h1 => ?_⟩
      have s1 := same_upd (o := .tup [.str ("block" : Str), .int (r : Int), .str k2]) h1
      have A3 := A2.same s1
      refine ⟨sk, vs, _, rfl, rfl, A3.hs, Nat.lt_of_succ_le (A3.room (n := 1) (by decide)), ?_⟩
      have A4 := A3.push (us := [.ref t1]) (is := [.block r k2]) (.cons (.tup upd_same (.cons (.str _) (.cons (.int _) (.cons (.str _) .nil)))) .nil) (fun y hy => by rw [List.mem_singleton.mp hy]; exact kn) (by show m.st.length + 1 ≤ _; omega)
      exact ⟨_, rfl, _, rfl, _, rfl, _, rfl, sk, sc, nl, x, r, _, rfl, ⟨_, A4⟩, (by show m.st.length + 1 ≤ _; omega), q2.mono ((Km.same s1).trans (Km.upd (.inl rfl)))⟩
    obtain ⟨t3, ht3, rest3⟩ := h3
    have h2 : ∃ t, PSs (cxOf CX0 P w K mg base ["stack", "scope", "word", "room", "kind"] "_law_blocks" (defScope sLBs) f cdv A outer s H E).nox ((defBody sLBs).drop 2) t ∧
        ∀ H1, MV H1 sk sc nl vs m → MPost sk sc nl H1 Q (nBegin { m with st := .block r (if kind = "empty" then "else" else kind) :: m.st } x r) → t { nx := fun _ H' => Q .non H', rt := Q } [some (.ref sk), some (.ref sc), some (.str x), some (.int (r : Int)), some (.str kind)] H1 := by
      refine ⟨_, pss_cons (ps_if (pt_cmpR op_eq (pv 4) pe_str (nomark _)) (pss_one (ps_set (i := 4) sc4K.nd rfl (Or.inl rfl) pe_str)) pss_nil) ht3, fun H1 A2 q2 => ?_⟩
      refine ⟨_, rfl, rfl, _, rfl, ?_⟩
      by_cases hk : kind = "empty"
      · rw [decide_eq_true (show V.str kind = V.str "empty" from congrArg V.str hk)]
        rw [if_pos hk] at q2
        exact iteT (rest3 _ _ (by decide +kernel) A2 q2)
      · rw [decide_eq_false (show ¬ V.str kind = V.str "empty" from fun z => hk (V.str.inj z))]
        rw [if_neg hk] at q2
        exact iteF (rest3 _ _ hkn A2 q2)
    obtain ⟨t2, ht2, rest2⟩ := h2
    have h1 : ∃ t, PSs (cxOf CX0 P w K mg base ["stack", "scope", "word", "room", "kind"] "_law_blocks" (defScope sLBs) f cdv A outer s H E).nox ((defBody sLBs).drop 1) t ∧
        ∀ H1, MV H1 sk sc nl vs m → MPost sk sc nl H1 Q (if x = "else" ∧ kind = "then" then some { m with st := .block r "empty" :: m.st } else nBegin { m with st := .block r (if kind = "empty" then "else" else kind) :: m.st } x r) → t { nx := fun _ H' => Q .non H', rt := Q } [some (.ref sk), some (.ref sc), some (.str x), some (.int (r : Int)), some (.str kind)] H1 := by
      refine ⟨_, pss_cons (ps_if (PW.pt (pw_and (pt_cmpR op_eq (pv 2) pe_str (nomark _)) (pw_and1 (pt_cmpR op_eq (pv 4) pe_str (nomark _)))))
        (pss_cons (ps_expr (pe_bm PySem.F.plainAttrs_list PySem.F.slot_list_append PySem.F.type_list_append mt_append (pv 0) (pa_cons (pe_tup (pa_cons pe_str (pa_cons (pv 3) (pa_cons pe_str pa_nil)))) pa_nil))) (pss_one (ps_ret pe_bl))) pss_nil) ht2, fun H1 A2 q2 => ?_⟩
      refine ⟨_, rfl, rfl, _, rfl, ?_⟩
      by_cases hx : x = "else"
      · rw [decide_eq_true (show V.str x = V.str "else" from congrArg V.str hx)]
        refine iteT ⟨_, rfl, rfl, _, rfl, ?_⟩
        by_cases hk : kind = "then"
        · rw [decide_eq_true (show V.str kind = V.str "then" from congrArg V.str hk)]
          rw [if_pos ⟨hx, hk⟩] at q2
          refine iteT ⟨_, rfl, .inl ⟨rfl, _, SqL.of A2.hs⟩, _, rfl, (by show 3 ≤ sizeLine; decide), fun t1 h1 => ?_⟩
          have s1 := same_upd (o := .tup [.str ("block" : Str), .int (r : Int), .str ("empty" : Str)]) h1
          have A3 := A2.same s1
          refine ⟨sk, vs, _, rfl, rfl, A3.hs, Nat.lt_of_succ_le (A3.room (n := 1) (by decide)), ?_⟩
          exact q2 _ ⟨_, A3.push (us := [.ref t1]) (is := [.block r "empty"]) (.cons (.tup upd_same (.cons (.str _) (.cons (.int _) (.cons (.str _) .nil)))) .nil) (fun y hy => by rw [List.mem_singleton.mp hy]; show ("empty" : Str) ∈ KND; decide +kernel) (by show m.st.length + 1 ≤ _; omega)⟩ ((Km.same s1).trans (Km.upd (.inl rfl)))
        · rw [decide_eq_false (show ¬ V.str kind = V.str "then" from fun z => hk (V.str.inj z))]
          rw [if_neg (fun z => hk z.2)] at q2
          exact iteF (rest2 _ A2 q2)
      · rw [decide_eq_false (show ¬ V.str x = V.str "else" from fun z => hx (V.str.inj z))]
        rw [if_neg (fun z => hx z.1)] at q2
        exact iteF (iteF (rest2 _ A2 q2))
    obtain ⟨t1, ht1, rest1⟩ := h1
    unfold nBlock at q
    refine ⟨_, pss_cons (ps_if (PW.pt (pw_and (pt_cmpR op_eq (pv 2) pe_str (nomark _)) (pw_and1 (pt_cmpR op_in_seq (pv 4) (pe_tup (pa_cons pe_str (pa_cons pe_str pa_nil))) rfl)))) (pss_one (ps_ret pe_bl)) pss_nil) ht1, ?_⟩
    refine ⟨_, rfl, rfl, _, rfl, ?_⟩
    by_cases hx : x = "end"
    · rw [decide_eq_true (show V.str x = V.str "end" from congrArg V.str hx)]
      refine iteT ⟨_, rfl, (by show 2 ≤ sizeLine; decide), fun tk htk => ?_⟩
      have s1 := same_upd (o := .tup [.str ("then" : Str), .str ("else" : Str)]) htk
      have q2 := q.mono (Km.same s1)
      refine ⟨tk, [.str ("then" : Str), .str ("else" : Str)], rfl, .inr (SqT.of upd_same), rfl, rfl, _, rfl, ?_⟩
      rw [str_in2]
      by_cases hk : kind = "then" ∨ kind = "else"
      · rw [if_pos ⟨hx, hk⟩] at q2
        have e : (decide (kind = "then") || decide (kind = "else")) = true := by
          rcases hk with z | z
          · rw [decide_eq_true z, Bool.true_or]
          · rw [decide_eq_true z, Bool.or_true]
        rw [e]
        exact iteT (q2 _ ⟨_, A1.same s1⟩ (Km.refl _ _ _ _))
      · rw [if_neg (fun z => hk z.2)] at q2
        have e : (decide (kind = "then") || decide (kind = "else")) = false := by
          rw [decide_eq_false (fun z => hk (.inl z)), decide_eq_false (fun z => hk (.inr z))]
          rfl
        rw [e]
        exact iteF (rest1 _ (A1.same s1) q2)
    · rw [decide_eq_false (show ¬ V.str x = V.str "end" from fun z => hx (V.str.inj z))]
      rw [if_neg (fun z => hx z.1)] at q
      exact iteF (iteF (rest1 _ A1 q))
end
end K1

set_option Elab.async false
set_option linter.all false
set_option maxRecDepth 100000
set_option maxHeartbeats 1000000
namespace K1
open PySem PySem.Spec PyProof.Rows L2 Kx TL
def It.kd : It → Str
  | .one => "one"
  | .seat => "seat"
  | .head => "head"
  | .new => "new"
  | .num _ _ => "number"
  | .value _ => "value"
  | .block _ _ => "block"
def It.tl : It → List V
  | .num lo hi => [.int lo, .int hi]
  | .value r => [.int (r : Int)]
  | .block r k => [.int (r : Int), .str k]
  | _ => []
theorem top_vs {H : Hp} {u : V} {it : It} (h : Dt H u it.d) : ∃ a, u = .ref a ∧ H a = some (.tup (.str it.kd :: it.tl)) := by
  cases it with
  | one => obtain ⟨a, xs, rfl, e, d⟩ := h.tupI; refine ⟨a, rfl, ?_⟩; rw [e]; cases d with | cons d0 d1 => cases d1; obtain rfl := d0.strI; rfl
  | seat => obtain ⟨a, xs, rfl, e, d⟩ := h.tupI; refine ⟨a, rfl, ?_⟩; rw [e]; cases d with | cons d0 d1 => cases d1; obtain rfl := d0.strI; rfl
  | head => obtain ⟨a, xs, rfl, e, d⟩ := h.tupI; refine ⟨a, rfl, ?_⟩; rw [e]; cases d with | cons d0 d1 => cases d1; obtain rfl := d0.strI; rfl
  | new => obtain ⟨a, xs, rfl, e, d⟩ := h.tupI; refine ⟨a, rfl, ?_⟩; rw [e]; cases d with | cons d0 d1 => cases d1; obtain rfl := d0.strI; rfl
  | num lo hi =>
    obtain ⟨a, xs, rfl, e, d⟩ := h.tupI
    obtain ⟨x, y, z, rfl, d0, d1, d2⟩ := d.c3
    obtain rfl := d0.strI
    obtain rfl := d1.intI
    obtain rfl := d2.intI
    exact ⟨a, rfl, e⟩
  | value r =>
    obtain ⟨a, xs, rfl, e, d⟩ := h.tupI
    obtain ⟨x, y, rfl, d0, d1⟩ := d.c2
    obtain rfl := d0.strI
    obtain rfl := d1.intI
    exact ⟨a, rfl, e⟩
  | block r k =>
    obtain ⟨a, xs, rfl, e, d⟩ := h.tupI
    obtain ⟨x, y, z, rfl, d0, d1, d2⟩ := d.c3
    obtain rfl := d0.strI
    obtain rfl := d1.intI
    obtain rfl := d2.strI
    exact ⟨a, rfl, e⟩
theorem DtAll.unsnoc {H : Hp} : ∀ {vs : List V} {ds : List PyData} {d : PyData}, DtAll H vs (ds ++ [d]) → ∃ us u, vs = us ++ [u] ∧ DtAll H us ds ∧ Dt H u d
  | _, [], _, .cons a r => by
    cases r
    exact ⟨[], _, rfl, .nil, a⟩
  | _, _ :: ds, _, .cons a r => by
    obtain ⟨us, u, rfl, h1, h2⟩ := DtAll.unsnoc r
    exact ⟨_ :: us, u, rfl, .cons a h1, h2⟩
theorem MV.pop {H : Hp} {sk sc nl : Addr} {vs : List V} {ns : List Str} {l : Nat} {it : It} {k : List It} (A : MV H sk sc nl vs ⟨ns, l, it :: k⟩) : ∃ us a, vs = us ++ [.ref a] ∧ H a = some (.tup (.str it.kd :: it.tl)) ∧ it.fit ∧ MV (upd H sk (.lst us)) sk sc nl us ⟨ns, l, k⟩ := by
  have da := A.da
  have da : DtAll H vs ((it :: k).reverse.map It.d) := da
  rw [List.reverse_cons, List.map_append] at da
  obtain ⟨us, u, rfl, d1, d2⟩ := DtAll.unsnoc da
  obtain ⟨a, rfl, ea⟩ := top_vs d2
  refine ⟨us, a, rfl, ea, A.fit it (List.mem_cons_self ..), upd_same, d1.keep (tk_lst A.hs), by rw [upd_ne A.kc.symm]; exact A.hc, by rw [upd_ne A.ne.symm]; exact A.hn, A.ne, fun x hx => A.fit x (List.mem_cons_of_mem _ hx), ?_, A.nz⟩
  have := A.sz
  have : (it :: k).length ≤ 500000 := this
  rw [List.length_cons] at this
  show k.length ≤ _
  omega
theorem nope {x : Str} {a : Str} (h : ¬ x = a) : decide (V.str x = V.str a) = false := decide_eq_false fun z => h (V.str.inj z)
theorem yep {x : Str} {a : Str} (h : x = a) : decide (V.str x = V.str a) = true := decide_eq_true (congrArg V.str h)
theorem kd_new {it : It} (h1 : ¬ it.kd = "one") (h2 : ¬ it.kd = "seat") (h3 : ¬ it.kd = "number") (h4 : ¬ it.kd = "value") (h5 : ¬ it.kd = "block") (h6 : ¬ it.kd = "head") : it = .new := by
  cases it with
  | one => exact absurd rfl h1
  | seat => exact absurd rfl h2
  | num _ _ => exact absurd rfl h3
  | value _ => exact absurd rfl h4
  | block _ _ => exact absurd rfl h5
  | head => exact absurd rfl h6
  | new => rfl
theorem kd_is {it : It} : (it.kd = "one" → it = .one) ∧ (it.kd = "seat" → it = .seat) ∧ (it.kd = "number" → ∃ lo hi, it = .num lo hi) ∧ (it.kd = "value" → ∃ r, it = .value r) ∧ (it.kd = "block" → ∃ r k, it = .block r k) ∧ (it.kd = "head" → it = .head) := by
  have n : ∀ a ∈ (["one", "seat", "head", "new", "number", "value", "block"] : List Str), ∀ b ∈ (["one", "seat", "head", "new", "number", "value", "block"] : List Str), a = b ∨ ¬ a = b := fun a _ b _ => Decidable.em _
  cases it with
  | one => exact ⟨fun _ => rfl, fun z => absurd (show ("one" : Str) = _ from z) (by decide +kernel), fun z => absurd (show ("one" : Str) = _ from z) (by decide +kernel), fun z => absurd (show ("one" : Str) = _ from z) (by decide +kernel), fun z => absurd (show ("one" : Str) = _ from z) (by decide +kernel), fun z => absurd (show ("one" : Str) = _ from z) (by decide +kernel)⟩
  | seat => exact ⟨fun z => absurd (show ("seat" : Str) = _ from z) (by decide +kernel), fun _ => rfl, fun z => absurd (show ("seat" : Str) = _ from z) (by decide +kernel), fun z => absurd (show ("seat" : Str) = _ from z) (by decide +kernel), fun z => absurd (show ("seat" : Str) = _ from z) (by decide +kernel), fun z => absurd (show ("seat" : Str) = _ from z) (by decide +kernel)⟩
  | num lo hi => exact ⟨fun z => absurd (show ("number" : Str) = _ from z) (by decide +kernel), fun z => absurd (show ("number" : Str) = _ from z) (by decide +kernel), fun _ => ⟨lo, hi, rfl⟩, fun z => absurd (show ("number" : Str) = _ from z) (by decide +kernel), fun z => absurd (show ("number" : Str) = _ from z) (by decide +kernel), fun z => absurd (show ("number" : Str) = _ from z) (by decide +kernel)⟩
  | value r => exact ⟨fun z => absurd (show ("value" : Str) = _ from z) (by decide +kernel), fun z => absurd (show ("value" : Str) = _ from z) (by decide +kernel), fun z => absurd (show ("value" : Str) = _ from z) (by decide +kernel), fun _ => ⟨r, rfl⟩, fun z => absurd (show ("value" : Str) = _ from z) (by decide +kernel), fun z => absurd (show ("value" : Str) = _ from z) (by decide +kernel)⟩
  | block r k => exact ⟨fun z => absurd (show ("block" : Str) = _ from z) (by decide +kernel), fun z => absurd (show ("block" : Str) = _ from z) (by decide +kernel), fun z => absurd (show ("block" : Str) = _ from z) (by decide +kernel), fun z => absurd (show ("block" : Str) = _ from z) (by decide +kernel), fun _ => ⟨r, k, rfl⟩, fun z => absurd (show ("block" : Str) = _ from z) (by decide +kernel)⟩
  | head => exact ⟨fun z => absurd (show ("head" : Str) = _ from z) (by decide +kernel), fun z => absurd (show ("head" : Str) = _ from z) (by decide +kernel), fun z => absurd (show ("head" : Str) = _ from z) (by decide +kernel), fun z => absurd (show ("head" : Str) = _ from z) (by decide +kernel), fun z => absurd (show ("head" : Str) = _ from z) (by decide +kernel), fun _ => rfl⟩
  | new => exact ⟨fun z => absurd (show ("new" : Str) = _ from z) (by decide +kernel), fun z => absurd (show ("new" : Str) = _ from z) (by decide +kernel), fun z => absurd (show ("new" : Str) = _ from z) (by decide +kernel), fun z => absurd (show ("new" : Str) = _ from z) (by decide +kernel), fun z => absurd (show ("new" : Str) = _ from z) (by decide +kernel), fun z => absurd (show ("new" : Str) = _ from z) (by decide +kernel)⟩
def spLNx : Sp := fun vs H Q _ => ∃ (sk sc nl : Addr) (w : Str) (m : M), vs = [.ref sk, .ref sc, .str w] ∧ MAt H sk sc nl m ∧ m.st ≠ [] ∧ m.st.length ≤ 390000 ∧ m.ns.length ≤ 390000 ∧ w.length ≤ sizeLine ∧ MPost sk sc nl H Q (nx m w)
section
variable {P : Program} {w : World} {K : PySem.W.Frag} {mg : Str → Option Value} {base : Heap} {fB fN fU fV fG : Addr} {dB dN dU dV dG : FuncData}
theorem sc4X : FnScope ["stack", "scope", "word", "top", "names"] ["stack", "scope", "word"] (defScope sLNx) := ⟨rfl, rfl, rfl, by decide +kernel, rfl, by decide +kernel, by decide +kernel⟩
abbrev XN : List Str := ["stack", "scope", "word", "top", "names"]
/-- the state behind the pop -/
structure XS (H1 : Hp) (sk sc nl a : Addr) (us : List V) (ns : List Str) (l : Nat) (it : It) (k : List It) : Prop where
  mv : MV H1 sk sc nl us ⟨ns, l, k⟩
  ea : H1 a = some (.tup (.str it.kd :: it.tl))
  ft : it.fit
  hk : k.length ≤ 390000
  hn : ns.length ≤ 390000
theorem XS.same {H1 H2 : Hp} {sk sc nl a : Addr} {us : List V} {ns : List Str} {l : Nat} {it : It} {k : List It} (h : XS H1 sk sc nl a us ns l it k) (s : Same H1 H2) : XS H2 sk sc nl a us ns l it k := ⟨h.mv.same s, s _ _ h.ea, h.ft, h.hk, h.hn⟩
section
variable {f : Addr} {cdv : Value} {A : Around} {outer : List Env} {s : Shared} {H : Hp} {Q : VK} {E : XK} {sk sc nl a : Addr} {x : Str} {us : List V} {ns : List Str} {l : Nat} {it : It} {k : List It}
def XC (P : Program) (w : World) (K : PySem.W.Frag) (mg : Str → Option Value) (base : Heap) (f : Addr) (cdv : Value) (A : Around) (outer : List Env) (s : Shared) (H : Hp) (Q : VK) (E : XK) (sk sc nl a : Addr) (x : Str) (us : List V) (ns : List Str) (l : Nat) (it : It) (k : List It) (n : Nat) (pre : Prop) : Prop :=
  ∃ t, PSs (cxOf CX0 P w K mg base XN "_law_next" (defScope sLNx) f cdv A outer s H E).nox ((defBody sLNx).drop n) t ∧
    ∀ H1 v4, pre → XS H1 sk sc nl a us ns l it k → MPost sk sc nl H1 Q (nx ⟨ns, l, it :: k⟩ x) → t { nx := fun _ H' => Q .non H', rt := Q } [some (.ref sk), some (.ref sc), some (.str x), some (.ref a), v4] H1
theorem nx7 (T : TxL mg) (N1 : Fn0 P w K mg base 1 "_law_is_name" ["word"] (spB nameB) fN dN) (hr : Room 2 (A.deeper (envOfC "_law_next" (defScope sLNx) s.heap.objs.size f cdv))) (hx : x.length ≤ sizeLine) : XC P w K mg base f cdv A outer s H Q E sk sc nl a x us ns l it k 7 (it = .new) := by
  have hu := hu_r hr
  have hr1 : Room 1 _ := hr.mono (by decide)
  refine ⟨_, pss_cons (ps_set (i := 4) sc4X.nd rfl (Or.inl rfl) (pe_dget hu (pv 1) pe_str (fun _ _ => rfl)))
    (pss_cons (ps_if (PW.pt (pw_or (pt_cmpR op_in_seq (pv 2) (pv 4) rfl) (pw_or1 (pt_not (pt_val (pe_call N1.ok hr1 (by rfl) N1.gl N1.kp N1.bd .nil pass0 (pa_cons (pv 2) pa_nil))))))) (pss_one (ps_ret pe_bl)) pss_nil)
    (pss_cons (ps_expr (pe_bm PySem.F.plainAttrs_list PySem.F.slot_list_append PySem.F.type_list_append mt_append (pv 4) (pa_cons (pv 2) pa_nil)))
    (pss_one (ps_ret pe_bl)))), fun H1 v4 e S q => ?_⟩
  subst e
  have q : MPost sk sc nl H1 Q (if ns.contains x = true ∨ nameB x = false then none else some ⟨ns ++ [x], l, k⟩) := q
  refine ⟨_, rfl, sc, _, rfl, S.mv.gVar, _, rfl, _, rfl, nl, ns.map V.str, rfl, .inl (SqL.of S.mv.hn), rfl, flat_strs _, _, rfl, ?_⟩
  rw [inV_str]
  cases hc : ns.contains x with
  | true =>
    rw [if_pos (.inl hc)] at q
    exact iteT (iteT (q _ (Km.refl _ _ _ _)))
  | false =>
    refine iteF ⟨_, rfl, x, rfl, hx, fun H2 s2 => ⟨_, rfl, ?_⟩⟩
    have S2 := S.same s2
    have q2 := q.mono (Km.same s2)
    cases hn : nameB x with
    | false =>
      rw [if_pos (.inr hn)] at q2
      exact iteT (q2 _ (Km.refl _ _ _ _))
    | true =>
      rw [if_neg (by rw [hc, hn]; rintro (z | z) <;> cases z)] at q2
      have h3 := S2.hn
      refine iteF ⟨_, rfl, .inl ⟨rfl, _, SqL.of S2.mv.hn⟩, _, rfl, nl, _, _, rfl, rfl, S2.mv.hn, ?_, ?_⟩
      · rw [List.length_map]
        exact Nat.lt_of_le_of_lt h3 (by decide)
      · refine q2 _ ⟨us, by rw [upd_ne S2.mv.ne]; exact S2.mv.hs, S2.mv.da.keep (tk_lst S2.mv.hn), by rw [upd_ne S2.mv.nc.symm]; exact S2.mv.hc, ?_, S2.mv.ne, S2.mv.fit, S2.mv.sz, ?_⟩ (Km.upd (.inr (.inr rfl)))
        · rw [upd_same]
          show _ = some (HO.lst ((ns ++ [x]).map V.str))
          rw [List.map_append]
          rfl
        · show (ns ++ [x]).length ≤ _
          rw [List.length_append, List.length_singleton]
          omega
end
end
end K1

set_option Elab.async false
set_option linter.all false
set_option maxRecDepth 100000
set_option maxHeartbeats 1000000
namespace K1
open PySem PySem.Spec PyProof.Rows L2 Kx TL
section
variable {P : Program} {w : World} {K : PySem.W.Frag} {mg : Str → Option Value} {base : Heap} {fB fN fU fV fG : Addr} {dB dN dU dV dG : FuncData}
variable {f : Addr} {cdv : Value} {A : Around} {outer : List Env} {s : Shared} {H : Hp} {Q : VK} {E : XK} {sk sc nl a : Addr} {x : Str} {us : List V} {ns : List Str} {l : Nat} {it : It} {k : List It}
theorem nx6 (T : TxL mg) (N1 : Fn0 P w K mg base 1 "_law_is_name" ["word"] (spB nameB) fN dN) (G1 : Fn0 P w K mg base 2 "_law_blocks" ["stack", "scope", "word", "room", "kind"] spLBs fG dG) (hr : Room 2 (A.deeper (envOfC "_law_next" (defScope sLNx) s.heap.objs.size f cdv))) (hx : x.length ≤ sizeLine) :
    XC P w K mg base f cdv A outer s H Q E sk sc nl a x us ns l it k 6 (¬ it.kd = "one" ∧ ¬ it.kd = "seat" ∧ ¬ it.kd = "number" ∧ ¬ it.kd = "value" ∧ ¬ it.kd = "block") := by
  have hu := hu_r hr
  obtain ⟨t, ht, rest⟩ := nx7 (P := P) (outer := outer) (H := H) (Q := Q) (E := E) (sk := sk) (sc := sc) (nl := nl) (a := a) (us := us) (ns := ns) (l := l) (it := it) (k := k) T N1 hr hx
  refine ⟨_, pss_cons (ps_if (pt_cmpR op_eq (pe_ix ix_tup (pv 3) pe_int (fun _ _ => rfl)) pe_str (nomark _))
      (pss_cons (ps_if (PW.pt (pw_and (pt_cmpR op_eq (pv 2) pe_str (nomark _)) (pw_and1 (pt_cmpR op_lt (pe_callB call_len_seq (by rfl) T.len PySem.boot_len (pa_cons (pe_dget hu (pv 1) pe_str (fun _ _ => rfl)) pa_nil)) pe_int (nomark _)))))
          (pss_cons (ps_expr (pe_bm PySem.F.plainAttrs_list PySem.F.slot_list_extend PySem.F.type_list_extend mt_extend (pv 0) (pa_cons (pe_lst (pa_cons (pe_tup (pa_cons pe_str pa_nil)) (pa_cons (pe_tup (pa_cons pe_str (pa_cons pe_int (pa_cons pe_int pa_nil)))) (pa_cons (pe_tup (pa_cons pe_str pa_nil)) pa_nil)))) pa_nil)))
          (pss_one (ps_ret pe_bl))) pss_nil)
      (pss_one (ps_ret (pe_call G1.ok hr (by rfl) G1.gl G1.kp G1.bd .nil pass0 (pa_cons (pv 0) (pa_cons (pv 1) (pa_cons (pv 2) (pa_cons pe_int (pa_cons pe_str pa_nil))))))))) pss_nil) ht, fun H1 v4 e S q => ?_⟩
  refine ⟨_, rfl, a, _, _, _, rfl, rfl, SqT.of S.ea, tix0, rfl, _, rfl, ?_⟩
  by_cases hk : it.kd = "head"
  · refine iteTe (yep hk) ?_
    obtain rfl := kd_is.2.2.2.2.2 hk
    have q : MPost sk sc nl H1 Q (if x = "var" ∧ ns.length < 5 then some ⟨ns, l, .new :: .num 1 65535 :: .head :: k⟩ else nBlock ⟨ns, l, k⟩ x 4 "game") := q
    have blk : MPost sk sc nl H1 Q (nBlock ⟨ns, l, k⟩ x 4 "game") → (tCall spLBs [] E0 (tCons (tVar 0) (tCons (tVar 1) (tCons (tVar 2) (tCons (tC (V.int 4)) (tCons (tC (V.str "game")) tNil)))))) [some (.ref sk), some (.ref sc), some (.str x), some (.ref a), v4] H1 Q := fun q =>
      ⟨_, rfl, _, rfl, _, rfl, sk, sc, nl, x, 4, "game", ⟨ns, l, k⟩, rfl, by decide +kernel, ⟨us, S.mv⟩, by have := S.hk; show k.length ≤ _; omega, q⟩
    refine ⟨_, rfl, rfl, _, rfl, ?_⟩
    by_cases hv : x = "var"
    · refine iteTe (yep hv) ⟨_, rfl, sc, _, rfl, S.mv.gVar, nl, ns.map V.str, rfl, .inl (SqL.of S.mv.hn), _, _, rfl, rfl, _, rfl, ?_⟩
      rw [List.length_map]
      by_cases h5 : (ns.length : Int) < 5
      · rw [if_pos ⟨hv, by omega⟩] at q
        refine iteTe (decide_eq_true h5) ⟨_, rfl, .inl ⟨rfl, _, SqL.of S.mv.hs⟩, (by show 1 ≤ sizeLine; decide), fun t1 h1 => ⟨(by show 3 ≤ sizeLine; decide), fun t2 h2 => ⟨(by show 1 ≤ sizeLine; decide), fun t3 h3 => ⟨(by show 3 ≤ sizeLine; decide), fun ll hl => ?_⟩⟩⟩⟩
        have s1 := same_upd (o := .tup [.str ("head" : Str)]) h1
        have s2 := same_upd (o := .tup [.str ("number" : Str), .int 1, .int 65535]) h2
        have s3 := same_upd (o := .tup [.str ("new" : Str)]) h3
        have s4 := same_upd (o := .lst [.ref t1, .ref t2, .ref t3]) hl
        have sA := ((s1.trans s2).trans s3).trans s4
        have B := S.mv.same sA
        refine ⟨sk, ll, us, _, rfl, rfl, B.hs, upd_same, B.room (n := 3) (by decide), ?_⟩
        refine q _ ⟨_, B.push (is := [.new, .num 1 65535, .head]) (.cons (.tup (s4 _ _ (s3 _ _ (s2 _ _ upd_same))) (.cons (.str _) .nil)) (.cons (.tup (s4 _ _ (s3 _ _ upd_same)) (.cons (.str _) (.cons (.int _) (.cons (.int _) .nil)))) (.cons (.tup (s4 _ _ upd_same) (.cons (.str _) .nil)) .nil))) (fun y hy => ?_) (by have := S.hk; show k.length + 3 ≤ _; omega)⟩ ((Km.same sA).trans (Km.upd (.inl rfl)))
        simp only [List.mem_cons, List.not_mem_nil, or_false] at hy
        rcases hy with rfl | rfl | rfl
        · trivial
        · show (65535 : Int) ≤ 65535
          decide
        · trivial
      · rw [if_neg (fun z => h5 (by omega))] at q
        exact iteFe (decide_eq_false h5) (blk q)
    · rw [if_neg (fun z => hv z.1)] at q
      exact iteFe (nope hv) (iteF (blk q))
  · exact iteFe (nope hk) (rest H1 v4 (kd_new e.1 e.2.1 e.2.2.1 e.2.2.2.1 e.2.2.2.2 hk) S q)
theorem nx5 (T : TxL mg) (N1 : Fn0 P w K mg base 1 "_law_is_name" ["word"] (spB nameB) fN dN) (G1 : Fn0 P w K mg base 2 "_law_blocks" ["stack", "scope", "word", "room", "kind"] spLBs fG dG) (hr : Room 2 (A.deeper (envOfC "_law_next" (defScope sLNx) s.heap.objs.size f cdv))) (hx : x.length ≤ sizeLine) :
    XC P w K mg base f cdv A outer s H Q E sk sc nl a x us ns l it k 5 (¬ it.kd = "one" ∧ ¬ it.kd = "seat" ∧ ¬ it.kd = "number" ∧ ¬ it.kd = "value") := by
  obtain ⟨t, ht, rest⟩ := nx6 (P := P) (outer := outer) (H := H) (Q := Q) (E := E) (sk := sk) (sc := sc) (nl := nl) (a := a) (us := us) (ns := ns) (l := l) (it := it) (k := k) T N1 G1 hr hx
  refine ⟨_, pss_cons (ps_if (pt_cmpR op_eq (pe_ix ix_tup (pv 3) pe_int (fun _ _ => rfl)) pe_str (nomark _))
      (pss_one (ps_ret (pe_call G1.ok hr (by rfl) G1.gl G1.kp G1.bd .nil pass0 (pa_cons (pv 0) (pa_cons (pv 1) (pa_cons (pv 2) (pa_cons (pe_ix ix_tup (pv 3) pe_int (fun _ _ => rfl)) (pa_cons (pe_ix ix_tup (pv 3) pe_int (fun _ _ => rfl)) pa_nil)))))))) pss_nil) ht, fun H1 v4 e S q => ?_⟩
  refine ⟨_, rfl, a, _, _, _, rfl, rfl, SqT.of S.ea, tix0, rfl, _, rfl, ?_⟩
  by_cases hk : it.kd = "block"
  · refine iteTe (yep hk) ?_
    obtain ⟨r, kk, rfl⟩ := kd_is.2.2.2.2.1 hk
    exact ⟨_, rfl, _, rfl, _, rfl, _, rfl, a, _, _, _, rfl, rfl, SqT.of S.ea, tix1, _, rfl, a, _, _, _, rfl, rfl, SqT.of S.ea, tix2, sk, sc, nl, x, r, kk, ⟨ns, l, k⟩, rfl, S.ft, ⟨us, S.mv⟩, by have := S.hk; show k.length ≤ _; omega, q⟩
  · exact iteFe (nope hk) (rest H1 v4 ⟨e.1, e.2.1, e.2.2.1, e.2.2.2, hk⟩ S q)
theorem nx4 (T : TxL mg) (N1 : Fn0 P w K mg base 1 "_law_is_name" ["word"] (spB nameB) fN dN) (G1 : Fn0 P w K mg base 2 "_law_blocks" ["stack", "scope", "word", "room", "kind"] spLBs fG dG) (V1 : Fn0 P w K mg base 2 "_law_values" ["stack", "scope", "word", "room"] spLVs fV dV) (hr : Room 2 (A.deeper (envOfC "_law_next" (defScope sLNx) s.heap.objs.size f cdv))) (hx : x.length ≤ sizeLine) :
    XC P w K mg base f cdv A outer s H Q E sk sc nl a x us ns l it k 4 (¬ it.kd = "one" ∧ ¬ it.kd = "seat" ∧ ¬ it.kd = "number") := by
  obtain ⟨t, ht, rest⟩ := nx5 (P := P) (outer := outer) (H := H) (Q := Q) (E := E) (sk := sk) (sc := sc) (nl := nl) (a := a) (us := us) (ns := ns) (l := l) (it := it) (k := k) T N1 G1 hr hx
  refine ⟨_, pss_cons (ps_if (pt_cmpR op_eq (pe_ix ix_tup (pv 3) pe_int (fun _ _ => rfl)) pe_str (nomark _))
      (pss_one (ps_ret (pe_call V1.ok hr (by rfl) V1.gl V1.kp V1.bd .nil pass0 (pa_cons (pv 0) (pa_cons (pv 1) (pa_cons (pv 2) (pa_cons (pe_ix ix_tup (pv 3) pe_int (fun _ _ => rfl)) pa_nil))))))) pss_nil) ht, fun H1 v4 e S q => ?_⟩
  refine ⟨_, rfl, a, _, _, _, rfl, rfl, SqT.of S.ea, tix0, rfl, _, rfl, ?_⟩
  by_cases hk : it.kd = "value"
  · refine iteTe (yep hk) ?_
    obtain ⟨r, rfl⟩ := kd_is.2.2.2.1 hk
    exact ⟨_, rfl, _, rfl, _, rfl, _, rfl, a, _, _, _, rfl, rfl, SqT.of S.ea, tix1, sk, sc, nl, x, r, ⟨ns, l, k⟩, rfl, ⟨us, S.mv⟩, by have := S.hk; show k.length ≤ _; omega, hx, q⟩
  · exact iteFe (nope hk) (rest H1 v4 ⟨e.1, e.2.1, e.2.2, hk⟩ S q)
theorem nx3 (T : TxL mg) (N1 : Fn0 P w K mg base 1 "_law_is_name" ["word"] (spB nameB) fN dN) (U1 : Fn0 P w K mg base 1 "_law_is_number" ["word", "least", "most"] spLNu fU dU) (G1 : Fn0 P w K mg base 2 "_law_blocks" ["stack", "scope", "word", "room", "kind"] spLBs fG dG) (V1 : Fn0 P w K mg base 2 "_law_values" ["stack", "scope", "word", "room"] spLVs fV dV) (hr : Room 2 (A.deeper (envOfC "_law_next" (defScope sLNx) s.heap.objs.size f cdv))) (hx : x.length ≤ sizeLine) :
    XC P w K mg base f cdv A outer s H Q E sk sc nl a x us ns l it k 3 (¬ it.kd = "one" ∧ ¬ it.kd = "seat") := by
  have hr1 : Room 1 _ := hr.mono (by decide)
  obtain ⟨t, ht, rest⟩ := nx4 (P := P) (outer := outer) (H := H) (Q := Q) (E := E) (sk := sk) (sc := sc) (nl := nl) (a := a) (us := us) (ns := ns) (l := l) (it := it) (k := k) T N1 G1 V1 hr hx
  refine ⟨_, pss_cons (ps_if (pt_cmpR op_eq (pe_ix ix_tup (pv 3) pe_int (fun _ _ => rfl)) pe_str (nomark _))
      (pss_one (ps_ret (pe_call U1.ok hr1 (by rfl) U1.gl U1.kp U1.bd .nil pass0 (pa_cons (pv 2) (pa_cons (pe_ix ix_tup (pv 3) pe_int (fun _ _ => rfl)) (pa_cons (pe_ix ix_tup (pv 3) pe_int (fun _ _ => rfl)) pa_nil)))))) pss_nil) ht, fun H1 v4 e S q => ?_⟩
  refine ⟨_, rfl, a, _, _, _, rfl, rfl, SqT.of S.ea, tix0, rfl, _, rfl, ?_⟩
  by_cases hk : it.kd = "number"
  · refine iteTe (yep hk) ?_
    obtain ⟨lo, hi, rfl⟩ := kd_is.2.2.1 hk
    have q : MPost sk sc nl H1 Q (if numIn x lo hi = true then some ⟨ns, l, k⟩ else none) := q
    refine ⟨_, rfl, _, rfl, a, _, _, _, rfl, rfl, SqT.of S.ea, tix1, _, rfl, a, _, _, _, rfl, rfl, SqT.of S.ea, tix2, x, lo, hi, rfl, hx, S.ft, fun H2 s2 => ?_⟩
    cases hb : numIn x lo hi with
    | true =>
      rw [hb, if_pos rfl] at q
      exact q H2 ⟨us, S.mv.same s2⟩ (Km.same s2)
    | false =>
      rw [hb, if_neg Bool.false_ne_true] at q
      exact q H2 (Km.same s2)
  · exact iteFe (nope hk) (rest H1 v4 ⟨e.1, e.2, hk⟩ S q)
theorem nx2 (T : TxL mg) (N1 : Fn0 P w K mg base 1 "_law_is_name" ["word"] (spB nameB) fN dN) (U1 : Fn0 P w K mg base 1 "_law_is_number" ["word", "least", "most"] spLNu fU dU) (G1 : Fn0 P w K mg base 2 "_law_blocks" ["stack", "scope", "word", "room", "kind"] spLBs fG dG) (V1 : Fn0 P w K mg base 2 "_law_values" ["stack", "scope", "word", "room"] spLVs fV dV) (hr : Room 2 (A.deeper (envOfC "_law_next" (defScope sLNx) s.heap.objs.size f cdv))) (hx : x.length ≤ sizeLine) :
    XC P w K mg base f cdv A outer s H Q E sk sc nl a x us ns l it k 2 (¬ it.kd = "one") := by
  obtain ⟨t, ht, rest⟩ := nx3 (P := P) (outer := outer) (H := H) (Q := Q) (E := E) (sk := sk) (sc := sc) (nl := nl) (a := a) (us := us) (ns := ns) (l := l) (it := it) (k := k) T N1 U1 G1 V1 hr hx
  refine ⟨_, pss_cons (ps_if (pt_cmpR op_eq (pe_ix ix_tup (pv 3) pe_int (fun _ _ => rfl)) pe_str (nomark _))
      (pss_one (ps_ret (pe_cmpR op_in_seq (pv 2) (pe_tup (pa_cons pe_str (pa_cons pe_str pa_nil))) rfl))) pss_nil) ht, fun H1 v4 e S q => ?_⟩
  refine ⟨_, rfl, a, _, _, _, rfl, rfl, SqT.of S.ea, tix0, rfl, _, rfl, ?_⟩
  by_cases hk : it.kd = "seat"
  · refine iteTe (yep hk) ?_
    obtain rfl := kd_is.2.1 hk
    have q : MPost sk sc nl H1 Q (if SEATS.contains x = true then some ⟨ns, l, k⟩ else none) := q
    refine ⟨_, rfl, (by show 2 ≤ sizeLine; decide), fun tk htk => ?_⟩
    have s1 := same_upd (o := .tup (SEATS.map V.str)) htk
    refine ⟨tk, SEATS.map V.str, rfl, .inr (SqT.of upd_same), rfl, flat_strs _, ?_⟩
    rw [inV_str]
    cases hb : SEATS.contains x with
    | true =>
      rw [hb, if_pos rfl] at q
      exact q _ ⟨us, S.mv.same s1⟩ (Km.same s1)
    | false =>
      rw [hb, if_neg Bool.false_ne_true] at q
      exact q _ (Km.same s1)
  · exact iteFe (nope hk) (rest H1 v4 ⟨e, hk⟩ S q)
theorem nx1 (T : TxL mg) (N1 : Fn0 P w K mg base 1 "_law_is_name" ["word"] (spB nameB) fN dN) (U1 : Fn0 P w K mg base 1 "_law_is_number" ["word", "least", "most"] spLNu fU dU) (G1 : Fn0 P w K mg base 2 "_law_blocks" ["stack", "scope", "word", "room", "kind"] spLBs fG dG) (V1 : Fn0 P w K mg base 2 "_law_values" ["stack", "scope", "word", "room"] spLVs fV dV) (hr : Room 2 (A.deeper (envOfC "_law_next" (defScope sLNx) s.heap.objs.size f cdv))) (hx : x.length ≤ sizeLine) :
    XC P w K mg base f cdv A outer s H Q E sk sc nl a x us ns l it k 1 True := by
  have hu := hu_r hr
  obtain ⟨t, ht, rest⟩ := nx2 (P := P) (outer := outer) (H := H) (Q := Q) (E := E) (sk := sk) (sc := sc) (nl := nl) (a := a) (us := us) (ns := ns) (l := l) (it := it) (k := k) T N1 U1 G1 V1 hr hx
  refine ⟨_, pss_cons (ps_if (pt_cmpR op_eq (pe_ix ix_tup (pv 3) pe_int (fun _ _ => rfl)) pe_str (nomark _))
      (pss_one (ps_ret (pe_cmpR op_in_seq (pv 2) (pe_dget hu (pv 1) pe_str (fun _ _ => rfl)) rfl))) pss_nil) ht, fun H1 v4 e S q => ?_⟩
  refine ⟨_, rfl, a, _, _, _, rfl, rfl, SqT.of S.ea, tix0, rfl, _, rfl, ?_⟩
  by_cases hk : it.kd = "one"
  · refine iteTe (yep hk) ?_
    obtain rfl := kd_is.1 hk
    have q : MPost sk sc nl H1 Q (if ns.contains x = true then some ⟨ns, l, k⟩ else none) := q
    refine ⟨_, rfl, _, rfl, sc, _, rfl, S.mv.gVar, nl, ns.map V.str, rfl, .inl (SqL.of S.mv.hn), rfl, flat_strs _, ?_⟩
    rw [inV_str]
    cases hb : ns.contains x with
    | true =>
      rw [hb, if_pos rfl] at q
      exact q _ ⟨us, S.mv⟩ (Km.refl _ _ _ _)
    | false =>
      rw [hb, if_neg Bool.false_ne_true] at q
      exact q _ (Km.refl _ _ _ _)
  · exact iteFe (nope hk) (rest H1 v4 hk S q)
theorem ok_lnx {f : Addr} {fd : FuncData} (F : Fun K "_law_next" "_law_next" sLNx f fd) (T : TxL mg) (N1 : Fn0 P w K mg base 1 "_law_is_name" ["word"] (spB nameB) fN dN) (U1 : Fn0 P w K mg base 1 "_law_is_number" ["word", "least", "most"] spLNu fU dU) (G1 : Fn0 P w K mg base 2 "_law_blocks" ["stack", "scope", "word", "room", "kind"] spLBs fG dG) (V1 : Fn0 P w K mg base 2 "_law_values" ["stack", "scope", "word", "room"] spLVs fV dV) :
    FnOk P w K mg base CX0 3 f fd ["stack", "scope", "word"] spLNx := by
  refine F.ok sc4X (fun vs H Q E h => ?_) (fun cdv A outer s H vs Q E hr h => ?_)
  · obtain ⟨sk, sc, nl, x, m, rfl, _⟩ := h
    rfl
  · obtain ⟨sk, sc, nl, x, m, rfl, ⟨vs, A1⟩, hne, hz, hn, hx, q⟩ := h
    obtain ⟨ns, l, st⟩ := m
    cases st with
    | nil => exact absurd rfl hne
    | cons it k =>
      obtain ⟨us, a, rfl, ea, ft, B⟩ := A1.pop
      obtain ⟨t, ht, rest⟩ := nx1 (P := P) (outer := outer) (H := H) (Q := Q) (E := E) (sk := sk) (sc := sc) (nl := nl) (a := a) (us := us) (ns := ns) (l := l) (it := it) (k := k) T N1 U1 G1 V1 hr hx
      refine ⟨_, pss_cons (ps_set (i := 3) sc4X.nd rfl (Or.inl rfl) (pe_bm0 PySem.F.plainAttrs_list PySem.F.slot_list_pop PySem.F.type_list_pop mt_pop (pv 0))) ht, ?_⟩
      refine ⟨_, rfl, .inl ⟨rfl, _, SqL.of A1.hs⟩, sk, us ++ [.ref a], .ref a, rfl, rfl, A1.hs, by simp, ?_⟩
      rw [List.dropLast_concat]
      have hz : (it :: k).length ≤ 390000 := hz
      rw [List.length_cons] at hz
      exact rest _ _ trivial ⟨B, by rw [upd_ne (ne_of ea A1.hs (by intro z; cases z))]; exact ea, ft, by omega, hn⟩ (q.mono (Km.upd (.inl rfl)))
end
end K1

set_option Elab.async false
set_option linter.all false
set_option maxRecDepth 100000
set_option maxHeartbeats 1000000
namespace K1
open PySem PySem.Spec PyProof.Rows L2 Kx TL
def Bot (st : List It) : Prop := ∃ k it, st = k ++ [it] ∧ (it = .head ∨ it = .block 4 "game")
theorem begin_grow {m m1 : M} {w : Str} {r : Nat} (h : nBegin m w r = some m1) : ∃ y, m1.st = y ++ m.st ∧ y.length ≤ 2 ∧ m1.ns = m.ns := by
  unfold nBegin at h
  split at h
  · injection h with h
    subst h
    exact ⟨[.one, .value 6], rfl, by decide, rfl⟩
  · split at h
    · injection h with h
      subst h
      exact ⟨[.one, .num 1 8], rfl, by decide, rfl⟩
    · split at h
      · injection h with h
        subst h
        exact ⟨[.seat, .value 6], rfl, by decide, rfl⟩
      · split at h
        · injection h with h
          subst h
          exact ⟨[.value 6], rfl, by decide, rfl⟩
        · split at h
          · injection h with h
            subst h
            exact ⟨[.value 6, .block (r - 1) "then"], rfl, Nat.le_refl 2, rfl⟩
          · cases h
theorem block_grow {m m1 : M} {w kind : Str} {r : Nat} (h : nBlock m w r kind = some m1) : (∃ y, m1.st = y ++ m.st ∧ y.length ≤ 3 ∧ m1.ns = m.ns) ∧ (kind = "game" → ∃ y, m1.st = y ++ (.block r "game" :: m.st)) := by
  unfold nBlock at h
  split at h
  · rename_i q
    injection h with h
    subst h
    refine ⟨⟨[], rfl, by decide, rfl⟩, fun z => ?_⟩
    rw [z] at q
    rcases q.2 with q | q
    · exact absurd q (by decide +kernel)
    · exact absurd q (by decide +kernel)
  · split at h
    · rename_i q
      injection h with h
      subst h
      refine ⟨⟨[_], rfl, (by show 1 ≤ 3; decide), rfl⟩, fun z => ?_⟩
      rw [z] at q
      exact absurd q.2 (by decide +kernel)
    · obtain ⟨y, e, l, n⟩ := begin_grow h
      refine ⟨⟨y ++ [_], by rw [e, List.append_assoc]; rfl, by rw [List.length_append, List.length_singleton]; omega, n⟩, fun z => ⟨y, ?_⟩⟩
      rw [e, z]
      rfl
theorem nx_grow {ns : List Str} {l : Nat} {x : It} {k : List It} {m1 : M} {w : Str} (h : nx ⟨ns, l, x :: k⟩ w = some m1) : (∃ y, m1.st = y ++ k ∧ y.length ≤ 3) ∧ m1.ns.length ≤ ns.length + 1 := by
  cases x with
  | one =>
    have h : (if ns.contains w = true then some (⟨ns, l, k⟩ : M) else none) = some m1 := h
    split at h
    · injection h with h
      subst h
      exact ⟨⟨[], rfl, by decide⟩, Nat.le_succ _⟩
    · cases h
  | seat =>
    have h : (if SEATS.contains w = true then some (⟨ns, l, k⟩ : M) else none) = some m1 := h
    split at h
    · injection h with h
      subst h
      exact ⟨⟨[], rfl, by decide⟩, Nat.le_succ _⟩
    · cases h
  | num lo hi =>
    have h : (if (numB w && (decide (lo ≤ val w) && decide (val w ≤ hi))) = true then some (⟨ns, l, k⟩ : M) else none) = some m1 := h
    split at h
    · injection h with h
      subst h
      exact ⟨⟨[], rfl, by decide⟩, Nat.le_succ _⟩
    · cases h
  | new =>
    have h : (if ns.contains w = true ∨ nameB w = false then none else some (⟨ns ++ [w], l, k⟩ : M)) = some m1 := h
    split at h
    · cases h
    · injection h with h
      subst h
      exact ⟨⟨[], rfl, by decide⟩, by show (ns ++ [w]).length ≤ _; rw [List.length_append]; exact Nat.le_refl _⟩
  | value r =>
    have h : nValue ⟨ns, l, k⟩ w r = some m1 := h
    unfold nValue at h
    split at h
    · injection h with h
      subst h
      exact ⟨⟨[_, _], rfl, (by show 2 ≤ 3; decide)⟩, Nat.le_succ _⟩
    · split at h
      · injection h with h
        subst h
        exact ⟨⟨[], rfl, by decide⟩, Nat.le_succ _⟩
      · cases h
  | block r kind =>
    have h : nBlock ⟨ns, l, k⟩ w r kind = some m1 := h
    obtain ⟨⟨y, e, l, n⟩, _⟩ := block_grow h
    exact ⟨⟨y, e, l⟩, by rw [n]; exact Nat.le_succ _⟩
  | head =>
    have h : (if w = "var" ∧ ns.length < 5 then some (⟨ns, l, .new :: .num 1 65535 :: .head :: k⟩ : M) else nBlock ⟨ns, l, k⟩ w 4 "game") = some m1 := h
    split at h
    · injection h with h
      subst h
      exact ⟨⟨[_, _, _], rfl, by decide⟩, Nat.le_succ _⟩
    · obtain ⟨⟨y, e, l, n⟩, _⟩ := block_grow h
      exact ⟨⟨y, e, l⟩, by rw [n]; exact Nat.le_succ _⟩
theorem nx_bot {m m1 : M} {w : Str} (h : nx m w = some m1) (b : Bot m.st) : Bot m1.st := by
  obtain ⟨ns, l, st⟩ := m
  obtain ⟨k, it, e, hit⟩ := b
  have e : st = k ++ [it] := e
  subst e
  cases k with
  | cons x k =>
    obtain ⟨⟨y, e, _⟩, _⟩ := nx_grow (ns := ns) (l := l) (x := x) (k := k ++ [it]) h
    exact ⟨y ++ k, it, by rw [e, List.append_assoc], hit⟩
  | nil =>
    rcases hit with rfl | rfl
    · have h : (if w = "var" ∧ ns.length < 5 then some (⟨ns, l, .new :: .num 1 65535 :: .head :: []⟩ : M) else nBlock ⟨ns, l, []⟩ w 4 "game") = some m1 := h
      split at h
      · injection h with h
        subst h
        exact ⟨[.new, .num 1 65535], .head, rfl, .inl rfl⟩
      · obtain ⟨y, e⟩ := (block_grow h).2 rfl
        exact ⟨y, _, e, .inr rfl⟩
    · have h : nBlock ⟨ns, l, []⟩ w 4 "game" = some m1 := h
      obtain ⟨y, e⟩ := (block_grow h).2 rfl
      exact ⟨y, _, e, .inr rfl⟩
theorem bot_ne {st : List It} (b : Bot st) : st ≠ [] := by
  obtain ⟨k, it, rfl, _⟩ := b
  simp
/-! ### is the stack one of the two -/
theorem kwe : (("head" : Str) == "one") = false ∧ (("head" : Str) == "seat") = false ∧ (("head" : Str) == "new") = false ∧ (("head" : Str) == "number") = false ∧ (("head" : Str) == "value") = false ∧ (("head" : Str) == "block") = false ∧
    (("block" : Str) == "one") = false ∧ (("block" : Str) == "seat") = false ∧ (("block" : Str) == "new") = false ∧ (("block" : Str) == "number") = false ∧ (("block" : Str) == "value") = false ∧ (("block" : Str) == "head") = false := by decide +kernel
theorem eqv_head (it : It) : PyData.eqv It.head.d it.d = decide (it = .head) := by
  cases it <;> simp [It.d, PyData.eqv, PyData.eqvAll, kwe]
theorem eqv_game4 (it : It) : PyData.eqv (It.block 4 "game").d it.d = decide (it = .block 4 "game") := by
  cases it with
  | block r k =>
    simp only [It.d, PyData.eqv, PyData.eqvAll, Bool.and_true]
    by_cases hr : r = 4
    · subst hr
      by_cases hk : k = "game"
      · subst hk
        rw [decide_eq_true rfl]
        decide +kernel
      · rw [decide_eq_false (fun z => hk (by injection z)), show ((("game" : Str)) == k) = false from beq_eq_false_iff_ne.mpr fun z => hk z.symm, Bool.and_false, Bool.and_false]
    · rw [decide_eq_false (fun z => hr (by injection z)), show (((4 : Nat) : Int) == (r : Int)) = false from beq_eq_false_iff_ne.mpr fun z => hr (by omega), Bool.false_and, Bool.and_false]
  | _ => simp [It.d, PyData.eqv, PyData.eqvAll, kwe]
theorem eqv_st (x : It) (hx : ∀ it : It, PyData.eqv x.d it.d = decide (it = x)) (st : List It) : PyData.eqv (.list [x.d]) (.list (st.reverse.map It.d)) = decide (st = [x]) := by
  have e : PyData.eqv (.list [x.d]) (.list (st.reverse.map It.d)) = PyData.eqvAll [x.d] (st.reverse.map It.d) := by simp only [PyData.eqv]
  rw [e]
  cases h : st.reverse with
  | nil =>
    have : st = [] := by simpa using h
    subst this
    rfl
  | cons y r =>
    rw [List.map_cons, PyData.eqvAll, hx]
    cases r with
    | nil =>
      have : st = [y] := by simpa using congrArg List.reverse h
      subst this
      rw [List.map_nil, PyData.eqvAll, Bool.and_true]
      simp
    | cons z r =>
      have hl : st.length = r.length + 2 := by rw [← List.length_reverse, h]; rfl
      rw [List.map_cons, PyData.eqvAll, Bool.and_false, decide_eq_false]
      intro q
      rw [q] at hl
      simp at hl
/-! ### x in (a, b), where these are data -/
theorem op_inT {X : Cx} (hu : X.A.units + 65 < cLine) : OpR X (compareOp .In) (fun x y H Q => ∃ d ds, Dp X.K H x d ∧ Dp X.K H y (.tuple ds) ∧ SeqAt.shaped d = true ∧ PyData.canLayAll0 ds = true ∧ Q (.bl (ds.any fun z => PyData.eqv z d)) H) := by
  intro pins s σ H x y v u Q I rx ry h
  obtain ⟨d, ds, hd, he, sd, se, q⟩ := h
  obtain ⟨as, r1⟩ := Dp.reads I d x v hd rx
  obtain ⟨bs, r2⟩ := Dp.reads I (.tuple ds) y u he ry
  exact SeqAt.in_tuple_reads r2 r1 se (SeqAt.canLay_of_shaped sd) (room_in_shaped sd hu) ⟨.bl _, H, I, rfl, q⟩
theorem knd_ok : ∀ k ∈ KND, OkS k := by unfold OkS; decide +kernel
theorem kdS_ok : ∀ k ∈ (["one", "seat", "head", "new", "number", "value", "block"] : List Str), OkS k := by unfold OkS; decide +kernel
theorem it_dep {it : It} (h : it.fit) : Dep 1 it.d := by
  have z : ∀ k ∈ (["one", "seat", "head", "new", "number", "value", "block"] : List Str), ∀ n, Dep n (.str k) := fun k hk n => .str n k (kdS_ok k hk)
  cases it with
  | one => exact .tup 0 _ (by show 1 ≤ 200000; decide) fun d hd => by rw [List.mem_singleton.mp hd]; exact z _ (by decide +kernel) 0
  | seat => exact .tup 0 _ (by show 1 ≤ 200000; decide) fun d hd => by rw [List.mem_singleton.mp hd]; exact z _ (by decide +kernel) 0
  | head => exact .tup 0 _ (by show 1 ≤ 200000; decide) fun d hd => by rw [List.mem_singleton.mp hd]; exact z _ (by decide +kernel) 0
  | new => exact .tup 0 _ (by show 1 ≤ 200000; decide) fun d hd => by rw [List.mem_singleton.mp hd]; exact z _ (by decide +kernel) 0
  | num lo hi =>
    refine .tup 0 _ (by show 3 ≤ 200000; decide) fun d hd => ?_
    simp only [List.mem_cons, List.not_mem_nil, or_false] at hd
    rcases hd with rfl | rfl | rfl
    · exact z _ (by decide +kernel) 0
    · exact .int _ _
    · exact .int _ _
  | value r =>
    refine .tup 0 _ (by show 2 ≤ 200000; decide) fun d hd => ?_
    simp only [List.mem_cons, List.not_mem_nil, or_false] at hd
    rcases hd with rfl | rfl
    · exact z _ (by decide +kernel) 0
    · exact .int _ _
  | block r k =>
    refine .tup 0 _ (by show 3 ≤ 200000; decide) fun d hd => ?_
    simp only [List.mem_cons, List.not_mem_nil, or_false] at hd
    rcases hd with rfl | rfl | rfl
    · exact z _ (by decide +kernel) 0
    · exact .int _ _
    · exact .str 0 k (knd_ok k h)
theorem st_shaped {st : List It} (h : ∀ x ∈ st, x.fit) : SeqAt.shaped (.list (st.reverse.map It.d)) = true := by
  have hd : ∀ d ∈ st.reverse.map It.d, d.canLay0 = true ∧ d.depth ≤ 1 := fun d hd => by
    obtain ⟨x, hx, rfl⟩ := List.mem_map.mp hd
    exact (it_dep (h x (List.mem_reverse.mp hx))).sh
  unfold SeqAt.shaped
  simp only [PyData.canLay0, PyData.depth]
  rw [canAll fun d hd' => (hd d hd').1, Bool.true_and]
  refine decide_eq_true ?_
  have : ∀ ds : List PyData, (∀ d ∈ ds, d.depth ≤ 1) → PyData.depthAll ds ≤ 1 := fun ds => by
    induction ds with
    | nil => intro _; simp only [PyData.depthAll]; omega
    | cons d ds ih =>
      intro hh
      simp only [PyData.depthAll]
      have h1 := hh d (List.mem_cons_self ..)
      have h2 := ih fun e he => hh e (List.mem_cons_of_mem _ he)
      omega
  have := this _ fun d hd' => (hd d hd').2
  omega
end K1

set_option Elab.async false
set_option linter.all false
set_option maxRecDepth 100000
set_option maxHeartbeats 1000000
namespace K1
open PySem PySem.Spec PyProof.Rows L2 Kx TL
def wv : Option Nat → V
  | none => .non
  | some i => .int (i : Int)
def spLWr : Sp := fun vs H Q _ => ∃ (a : Addr) (ws : List Str), vs = [.ref a] ∧ H a = some (.lst (ws.map V.str)) ∧ ws.length ≤ 100000 ∧ (∀ x ∈ ws, x.length ≤ sizeLine) ∧ ∀ H', Same H H' → Q (wv (wrongM ws)) H'
section
variable {P : Program} {w : World} {K : PySem.W.Frag} {mg : Str → Option Value} {base : Heap} {fX : Addr} {dX : FuncData}
theorem sc4W : FnScope ["words", "scope", "stack", "at"] ["words"] (defScope sLWr) := ⟨rfl, rfl, rfl, by decide +kernel, rfl, by decide +kernel, by decide +kernel⟩
theorem ok_lwr {f : Addr} {fd : FuncData} (F : Fun K "_law_wrong" "_law_wrong" sLWr f fd) (T : TxL mg) (X1 : Fn0 P w K mg base 3 "_law_next" ["stack", "scope", "word"] spLNx fX dX) : FnOk P w K mg base CX0 4 f fd ["words"] spLWr := by
  refine F.ok sc4W (fun vs H Q E h => ?_) (fun cdv A outer s H vs Q E hr h => ?_)
  · obtain ⟨a, ws, rfl, _⟩ := h
    rfl
  · obtain ⟨a, ws, rfl, ea, hl, hz, q⟩ := h
    have hu65 : (A.deeper (envOfC "_law_wrong" (defScope sLWr) s.heap.objs.size f cdv)).units + 65 < cLine := by
      have := hr.un
      omega
    refine ⟨_, pss_cons (ps_set (i := 1) sc4W.nd rfl (Or.inl rfl) (pe_disp (pps_cons pe_str (pe_lst pa_nil) (pps_cons pe_str pe_int pps_nil)) (by rfl) (by rfl) (fun z => by cases z) (by decide)))
      (pss_cons (ps_set (i := 2) sc4W.nd rfl (Or.inl rfl) (pe_lst (pa_cons (pe_tup (pa_cons pe_str pa_nil)) pa_nil)))
      (pss_cons (ps_for PassesOwn.never rfl (pi_range1 rfl T.range (pa_cons (pe_callB call_len_seq (by rfl) T.len PySem.boot_len (pa_cons (pv 0) pa_nil)) pa_nil)) (pg_name (i := 3) sc4W.nd rfl (Or.inl rfl))
        (pss_one (ps_if (pt_not (pt_val (pe_call X1.ok hr (by rfl) X1.gl X1.kp X1.bd .nil pass0 (pa_cons (pv 2) (pa_cons (pv 1) (pa_cons (pe_ix ix_list (pv 0) (pv 3) (fun _ _ => rfl)) pa_nil)))))) (pss_one (ps_ret (pv 3))) pss_nil)))
      (pss_cons (ps_if (pt_cmpR (op_inT hu65) (pv 2) (pe_tup (pa_cons (pe_lst (pa_cons (pe_tup (pa_cons pe_str pa_nil)) pa_nil)) (pa_cons (pe_lst (pa_cons (pe_tup (pa_cons pe_str (pa_cons pe_int (pa_cons pe_str pa_nil)))) pa_nil)) pa_nil))) rfl) (pss_one (ps_ret pe_non)) pss_nil)
      (pss_one (ps_ret (pe_callB call_len_seq (by rfl) T.len PySem.boot_len (pa_cons (pv 0) pa_nil))))))), ?_⟩
    refine fun sc hsc => ⟨Nat.zero_le _, fun nl hnl => ⟨?_, [(Sum.inr "var", .ref nl), (Sum.inr "left", .int 10)], rfl, (by show 2 ≤ 15; decide), ?_⟩⟩
    · exact (same_upd hnl) _ _ upd_same
    have s1 := same_upd (o := .dK []) hsc
    have s2 := same_upd (o := .lst []) hnl
    have nsc : nl ≠ sc := (ne_of_none upd_same hnl).symm
    have sH : Same H (upd (upd (upd H sc (.dK [])) nl (.lst [])) sc (.dK (ScV nl 10))) := fun b o e => by
      rw [upd_ne (ne_of_none e hsc)]
      exact s2 _ _ (s1 _ _ e)
    refine ⟨(by show 1 ≤ sizeLine; decide), fun t1 h1 => ⟨(by show 1 ≤ sizeLine; decide), fun sk hsk => ?_⟩⟩
    have s3 := same_upd (o := .tup [.str ("head" : Str)]) h1
    have s4 := same_upd (o := .lst [.ref t1]) hsk
    have s34 := s3.trans s4
    have sH4 := sH.trans s34
    have A0 : MV (upd (upd (upd (upd (upd H sc (.dK [])) nl (.lst [])) sc (.dK (ScV nl 10))) t1 (.tup [.str ("head" : Str)])) sk (.lst [.ref t1])) sk sc nl [.ref t1] m0 := by
      refine ⟨upd_same, .cons (.tup (s4 _ _ upd_same) (.cons (.str _) .nil)) .nil, s34 _ _ upd_same, s34 _ _ (by rw [upd_ne nsc]; exact upd_same), ?_, fun x hx => ?_, by show 1 ≤ 500000; decide, by show 0 ≤ 500000; decide⟩
      · have e : (upd (upd (upd (upd H sc (.dK [])) nl (.lst [])) sc (.dK (ScV nl 10))) t1 (.tup [.str ("head" : Str)])) nl = some (.lst []) := s3 _ _ (by rw [upd_ne nsc]; exact upd_same)
        exact (ne_of_none e hsk).symm
      · rw [List.mem_singleton.mp hx]
        trivial
    -- what was there before is never touched
    have fsk : H sk = none := sH.free (s3.free hsk)
    have fsc : H sc = none := hsc
    have fnl : H nl = none := s1.free hnl
    have old : ∀ {H1 H2 : Hp}, Same H H1 → Km sk sc nl H1 H2 → Same H H2 := fun s k b o e => k b o (s b o e) (ne_of_none e fsk) (ne_of_none e fsc) (ne_of_none e fnl)
    refine ⟨_, rfl, a, ws.map V.str, rfl, .inl (SqL.of (sH4 _ _ ea)), _, rfl, by rw [List.length_map]; omega, by rw [List.length_map]; omega, for_range (lo := 0) (n := ((ws.map V.str).length : Int).toNat) (fun i σ H' => (∃ v3, σ = [some (.ref a), some (.ref sc), some (.ref sk), v3]) ∧ ∃ m, MAt H' sk sc nl m ∧ run m0 ws 0 = run m (ws.drop i) i ∧ Bot m.st ∧ m.st.length ≤ 3 * i + 1 ∧ m.ns.length ≤ i ∧ Same H H') ?_ ?_ ?_⟩
    · exact ⟨⟨_, rfl⟩, m0, ⟨_, A0⟩, rfl, ⟨[], .head, rfl, .inl rfl⟩, Nat.le_refl _, Nat.le_refl _, sH4⟩
    · rintro i σ H1 hi ⟨⟨v3, rfl⟩, m, A1, er, hb, hs, hn, so⟩
      have hi : i < ws.length := by
        rw [List.length_map] at hi
        omega
      have ei : (0 : Int) + (i : Int) = (i : Int) := Int.zero_add _
      have ex : (ws.map V.str)[i]? = some (V.str ws[i]) := by rw [List.getElem?_map, List.getElem?_eq_getElem hi]; rfl
      refine ⟨_, rfl, _, rfl, _, rfl, _, rfl, a, _, _, _, rfl, rfl, SqL.of (so _ _ ea), by rw [ei]; exact atI_nat ex, sk, sc, nl, ws[i], m, rfl, A1, bot_ne hb, by omega, by omega, hz _ (List.getElem_mem hi), ?_⟩
      have ed : ws.drop i = ws[i] :: ws.drop (i + 1) := List.drop_eq_getElem_cons hi
      rw [ed] at er
      cases hx : nx m ws[i] with
      | none =>
        intro H2 k2
        have er : run m0 ws 0 = (match nx m ws[i] with | none => .error i | some m1 => run m1 (ws.drop (i + 1)) (i + 1)) := er
        rw [hx] at er
        refine ⟨_, rfl, iteT ⟨_, rfl, ?_⟩⟩
        have := q H2 (old so k2)
        unfold wrongM at this
        rw [er] at this
        rw [ei]
        exact this
      | some m1 =>
        intro H2 A2 k2
        have er : run m0 ws 0 = (match nx m ws[i] with | none => .error i | some m1 => run m1 (ws.drop (i + 1)) (i + 1)) := er
        rw [hx] at er
        refine ⟨_, rfl, iteF ⟨⟨_, rfl⟩, m1, A2, er, nx_bot hx hb, ?_, ?_, old so k2⟩⟩
        · obtain ⟨ns, l, st⟩ := m
          cases st with
          | nil => exact absurd rfl (bot_ne hb)
          | cons x k =>
            obtain ⟨⟨y, e, ly⟩, _⟩ := nx_grow hx
            have hs : k.length + 1 ≤ 3 * i + 1 := hs
            rw [e, List.length_append]
            omega
        · obtain ⟨ns, l, st⟩ := m
          cases st with
          | nil => exact absurd rfl (bot_ne hb)
          | cons x k =>
            have := (nx_grow hx).2
            have hn : ns.length ≤ i := hn
            omega
    · rintro σ H1 ⟨⟨v3, rfl⟩, m, ⟨vs, A1⟩, er, hb, hs, hn, so⟩
      have hn0 : ((ws.map V.str).length : Int).toNat = ws.length := by rw [List.length_map]; omega
      rw [hn0, List.drop_length] at er
      have er : run m0 ws 0 = .ok m := er
      have qv : ∀ H', Same H H' → Q (wv (if m.st = [.head] ∨ m.st = [.block 4 "game"] then none else some ws.length)) H' := fun H' s' => by
        have := q H' s'
        unfold wrongM at this
        rw [er] at this
        exact this
      refine ⟨_, rfl, (by show 1 ≤ sizeLine; decide), fun u1 g1 => ⟨(by show 1 ≤ sizeLine; decide), fun l1 g2 => ⟨(by show 3 ≤ sizeLine; decide), fun u2 g3 => ⟨(by show 1 ≤ sizeLine; decide), fun l2 g4 => ⟨(by show 2 ≤ sizeLine; decide), fun tp g5 => ?_⟩⟩⟩⟩⟩
      have z1 := same_upd (o := .tup [.str ("head" : Str)]) g1
      have z2 := same_upd (o := .lst [.ref u1]) g2
      have z3 := same_upd (o := .tup [.str ("block" : Str), .int 4, .str ("game" : Str)]) g3
      have z4 := same_upd (o := .lst [.ref u2]) g4
      have z5 := same_upd (o := .tup [.ref l1, .ref l2]) g5
      have B := A1.same ((((z1.trans z2).trans z3).trans z4).trans z5)
      have so5 := so.trans ((((z1.trans z2).trans z3).trans z4).trans z5)
      refine ⟨.list (m.st.reverse.map It.d), [.list [It.head.d], .list [(It.block 4 "game").d]], .lst (SqL.of B.hs) B.da.dp, ?_, st_shaped B.fit, ?_, _, rfl, ?_⟩
      · refine .tup (SqT.of upd_same) (.cons (.lst (SqL.of (z5 _ _ (z4 _ _ (z3 _ _ upd_same)))) ?_) (.cons (.lst (SqL.of (z5 _ _ upd_same)) ?_) .nil))
        · exact .cons (Dt.dp (.tup (z5 _ _ (z4 _ _ (z3 _ _ (z2 _ _ upd_same)))) (.cons (.str _) .nil))) .nil
        · exact .cons (Dt.dp (.tup (z5 _ _ (z4 _ _ upd_same)) (.cons (.str _) (.cons (.int _) (.cons (.str _) .nil))))) .nil
      · have h1 := (st_shaped (st := [.head]) (fun x hx => by rw [List.mem_singleton.mp hx]; trivial))
        have h2 := (st_shaped (st := [.block 4 "game"]) (fun x hx => by rw [List.mem_singleton.mp hx]; show ("game" : Str) ∈ KND; decide +kernel))
        have c1 := SeqAt.canLay_of_shaped h1
        have c2 := SeqAt.canLay_of_shaped h2
        simp only [PyData.canLayAll0, Bool.and_true]
        rw [Bool.and_eq_true]
        exact ⟨c1, c2⟩
      · have e1 := eqv_st .head eqv_head m.st
        have e2 := eqv_st (.block 4 "game") eqv_game4 m.st
        have ea2 : ([PyData.list [It.head.d], .list [(It.block 4 "game").d]].any fun z => PyData.eqv z (.list (m.st.reverse.map It.d))) = (decide (m.st = [.head]) || decide (m.st = [.block 4 "game"])) := by
          simp only [List.any_cons, List.any_nil, Bool.or_false]
          rw [e1, e2]
        refine ite2 (fun y => ?_) (fun y => ?_)
        · have y : ([PyData.list [It.head.d], .list [(It.block 4 "game").d]].any fun z => PyData.eqv z (.list (m.st.reverse.map It.d))) = true := y
          rw [ea2, Bool.or_eq_true, decide_eq_true_eq, decide_eq_true_eq] at y
          have := qv _ so5
          rw [if_pos y] at this
          exact this
        · have y : ¬ ([PyData.list [It.head.d], .list [(It.block 4 "game").d]].any fun z => PyData.eqv z (.list (m.st.reverse.map It.d))) = true := y
          rw [ea2, Bool.or_eq_true, decide_eq_true_eq, decide_eq_true_eq] at y
          have := qv _ so5
          rw [if_neg y] at this
          refine ⟨_, rfl, a, ws.map V.str, rfl, .inl (SqL.of (so5 _ _ ea)), ?_⟩
          rw [List.length_map]
          exact this
end
end K1

set_option Elab.async false
set_option linter.all false
set_option maxRecDepth 100000
set_option maxHeartbeats 2000000
namespace K1
open PySem PySem.Spec PyProof.Rows L2 Kx TL
/-- a drawn word -/
def Wz (z : Str) : Prop := 32 ∉ tl z ∧ z.length ≤ 20
def SG : Str := "!\"#$&'()*+,-./0123456789:;<=>?@ABCDEFGHIJKLMNOPQRSTUVWXYZ[\\]^_`abcdefghijklmnopqrstuvwxyz{|}~"
def SN : Str := "!\"#$&'()*+,-./0123456789:;<=>?@ABCDEFGHIJKLMNOPQRSTUVWXYZ[]^_`abcdefghijklmnopqrstuvwxyz{|}~\n\t"
def W1 : List Str := ["end", "else", "if", "set", "draw", "choose", "come", "show", "chooser", "comer", "pay", "take", "var", "+", "mod"]
def W2 : List Str := ["<", "x", "y", "z", "0", "1", "2", "7", "8", "9", "65535", "65536", "", "?", "01", "n", "abcdefghi", "abcdefgh"]
def W3 : List Str := ["X", "xY", "x1", "x_", "ended", "00", "007", "000000", "+5", "1_0", "-0", "5?", "PAY", "Pay", "END", "IF", "Set"]
def W4 : List Str := ["=", "-", "/", "*", "==", ">=", "<=", "!=", "//", "**", "&&", "Draw", "Choose", "Come", "Take", "Var", "Mod"]
theorem w_ok : ∀ z ∈ W1 ++ W2 ++ W3 ++ W4, 32 ∉ z.cps.toList ∧ z.length ≤ 9 := by decide +kernel
theorem sg_ok : 32 ∉ SG.cps.toList ∧ 32 ∉ SN.cps.toList ∧ SG.length ≤ 100 ∧ SN.length ≤ 100 ∧ 0 < SG.length ∧ 0 < SN.length := by decide +kernel
theorem cut_in {z : Str} {lo hi : Option Int} {c : Nat} (h : c ∈ (cutS z lo hi).cps.toList) : c ∈ z.cps.toList := by
  have h : c ∈ ((z.cps.toList.drop (HT.sIx z.length 0 lo)).take (HT.sIx z.length z.length hi - HT.sIx z.length 0 lo)).toArray.toList := h
  rw [List.toList_toArray] at h
  exact List.mem_of_mem_drop (List.mem_of_mem_take h)
theorem at_sign {z : Str} {v : Int} (h0 : 0 ≤ v) (h1 : v < (z.length : Int)) : ∃ c, c ∈ z.cps.toList ∧ atI z.cps.toList v = some c := by
  have hl : z.cps.toList.length = z.length := (len_tl z).symm
  have hi : v.toNat < z.cps.toList.length := by omega
  refine ⟨z.cps.toList[v.toNat], List.getElem_mem hi, ?_⟩
  have := atI_nat (xs := z.cps.toList) (j := v.toNat) (List.getElem?_eq_getElem hi)
  rw [show ((v.toNat : Nat) : Int) = v by omega] at this
  exact this
theorem sign_len (c : Nat) : (⟨#[c]⟩ : Str).length = 1 := rfl
theorem sign_tl (c : Nat) : tl (⟨#[c]⟩ : Str) = [c] := rfl
def spNear : Sp := fun vs H Q _ => ∃ (p : Addr) (z : Str) (b : Int), vs = [.ref p, .str z] ∧ PoolAt H p b ∧ 32 ∉ tl z ∧ z.length ≤ 9 ∧ ∀ (y : Str) (H' : Hp), Wz y → PoolAt H' p b → Kp p H H' → Q (.str y) H'
def spMenu : Sp := fun vs H Q _ => ∃ (p : Addr) (b : Int), vs = [.ref p] ∧ PoolAt H p b ∧ ∀ (y : Str) (H' : Hp), Wz y → PoolAt H' p b → Kp p H H' → Q (.str y) H'
section
variable {P : Program} {w : World} {K : PySem.W.Frag} {mg : Str → Option Value} {base : Heap} {fD fN : Addr} {dD dN : FuncData}
theorem sc4n : FnScope ["pool", "word", "signs", "at"] ["pool", "word"] (defScope sLNe) := ⟨rfl, rfl, rfl, by decide +kernel, rfl, by decide +kernel, by decide +kernel⟩
theorem ok_lne {f : Addr} {fd : FuncData} (F : Fun K "_law_near" "_law_near" sLNe f fd) (T : TxL mg) (D1 : Fn0 P w K mg base 1 "_law_draw" ["pool", "size"] spDraw fD dD) : FnOk P w K mg base CX0 2 f fd ["pool", "word"] spNear := by
  refine F.ok sc4n (fun vs H Q E h => ?_) (fun cdv A outer s H vs Q E hr h => ?_)
  · obtain ⟨p, z, b, rfl, _⟩ := h
    rfl
  · obtain ⟨p, z, b, rfl, P0, h32, h9, q⟩ := h
    refine ⟨_, pss_cons (ps_set (i := 2) sc4n.nd rfl (Or.inl rfl) pe_str)
      (pss_cons (ps_set (i := 3) sc4n.nd rfl (Or.inl rfl) (pe_call D1.ok hr (by rfl) D1.gl D1.kp D1.bd .nil pass0 (pa_cons (pv 0) (pa_cons (pe_op op_add (pe_callB call_len_str (by rfl) T.len PySem.boot_len (pa_cons (pv 1) pa_nil)) pe_int) pa_nil))))
      (pss_one (ps_ret (pe_op op_add_str (pe_op op_add_str (pe_slice sl_str (pv 1) po_none (po_some (pv 3))) (pe_ix ix_str (pv 2) (pe_call D1.ok hr (by rfl) D1.gl D1.kp D1.bd .nil pass0 (pa_cons (pv 0) (pa_cons (pe_callB call_len_str (by rfl) T.len PySem.boot_len (pa_cons (pv 2) pa_nil)) pa_nil))) (fun _ _ => rfl)))
        (pe_slice sl_str (pv 1) (po_some (pe_op op_add (pv 3) (pe_call D1.ok hr (by rfl) D1.gl D1.kp D1.bd .nil pass0 (pa_cons (pv 0) (pa_cons pe_int pa_nil))))) po_none))))), ?_⟩
    have sz9 : ∀ n : Nat, n ≤ 1000 → n ≤ sizeLine := fun n h => Nat.le_trans h (by decide)
    refine ⟨_, rfl, _, rfl, z, rfl, sz9 _ (by omega), _, _, rfl, rfl, p, _, b, rfl, P0, by omega, by omega, fun v H1 v0 v1 P1 k1 => ?_⟩
    have sgl := sg_ok
    refine ⟨_, rfl, _, rfl, _, rfl, z, rfl, sz9 _ (by omega), _, rfl, _, rfl, _, rfl, SN, rfl, sz9 _ (by omega), p, _, b, rfl, P1, by omega, by omega, fun u H2 u0 u1 P2 k2 => ?_⟩
    obtain ⟨c, hc, ec⟩ := at_sign (z := SN) u0 u1
    have hc32 : c ≠ 32 := fun e => sgl.2.1 (by rw [← e]; exact hc)
    refine ⟨SN, u, c, rfl, rfl, sz9 _ (by omega), ec, _, _, rfl, rfl, ?_, _, rfl, _, rfl, _, rfl, p, 2, b, rfl, P2, by decide, by decide, fun t H3 t0 t1 P3 k3 => ⟨_, _, rfl, rfl, _, rfl, z, rfl, sz9 _ (by omega), _, _, rfl, rfl, ?_, ?_⟩⟩
    · have := cutS_length z none (some v)
      exact sz9 _ (by rw [sign_len]; omega)
    · have h1 := cutS_length z none (some v)
      have h2 := cutS_length z (some (v + t)) none
      refine sz9 _ ?_
      rw [Str.length_append, sign_len]
      show _ + 1 + (cutS z (some (v + t)) none).length ≤ _
      omega
    · refine q _ H3 ⟨fun e => ?_, ?_⟩ P3 ((k1.trans k2).trans k3)
      · rw [tl_append, tl_append, sign_tl] at e
        rcases List.mem_append.mp e with e | e
        · rcases List.mem_append.mp e with e | e
          · exact h32 (cut_in e)
          · exact hc32 (List.mem_singleton.mp e).symm
        · exact h32 (cut_in e)
      · have h1 := cutS_length z none (some v)
        have h2 := cutS_length z (some (v + t)) none
        rw [Str.length_append, Str.length_append, sign_len]
        show _ + 1 + (cutS z (some (v + t)) none).length ≤ _
        omega
end
end K1

set_option Elab.async false
set_option linter.all false
set_option maxRecDepth 100000
set_option maxHeartbeats 2000000
namespace K1
open PySem PySem.Spec PyProof.Rows L2 Kx TL
theorem joinL_mem {sp : List Nat} {c : Nat} : ∀ {ps : List (List Nat)}, c ∈ TL.joinL sp ps → c ∈ sp ∨ ∃ p ∈ ps, c ∈ p
  | [], h => by cases h
  | [p], h => .inr ⟨p, List.mem_singleton.mpr rfl, h⟩
  | p :: r :: t, h => by
    have h : c ∈ p ++ (sp ++ TL.joinL sp (r :: t)) := h
    rcases List.mem_append.mp h with h | h
    · exact .inr ⟨p, List.mem_cons_self .., h⟩
    · rcases List.mem_append.mp h with h | h
      · exact .inl h
      · rcases joinL_mem h with h | ⟨q, hq, hc⟩
        · exact .inl h
        · exact .inr ⟨q, List.mem_cons_of_mem _ hq, hc⟩
theorem joinL_len (sp : List Nat) : ∀ ps : List (List Nat), (TL.joinL sp ps).length ≤ (ps.map List.length).sum + ps.length * sp.length
  | [] => Nat.zero_le _
  | [p] => by simp [TL.joinL]
  | p :: r :: t => by
    have ih := joinL_len sp (r :: t)
    show (p ++ (sp ++ TL.joinL sp (r :: t))).length ≤ _
    rw [List.length_append, List.length_append, List.map_cons, List.sum_cons, List.length_cons (a := p)]
    rw [Nat.add_mul]
    omega
/-- signs put together -/
theorem signs_ok {cs : List Nat} (h : ∀ c ∈ cs, c ≠ 32) (hl : cs.length ≤ 3) : Wz (Txt.join ("" : Str) (cs.map fun c => (⟨#[c]⟩ : Str))) ∧ ((cs.map fun c => (⟨#[c]⟩ : Str)).map (·.length)).sum + (cs.map fun c => (⟨#[c]⟩ : Str)).length * ("" : Str).length ≤ 16777216 := by
  have e1 : tl ("" : Str) = [] := by decide +kernel
  have e2 : (cs.map fun c => (⟨#[c]⟩ : Str)).map tl = cs.map fun c => [c] := by rw [List.map_map]; rfl
  have es : ∀ xs : List Nat, ((xs.map fun c => (⟨#[c]⟩ : Str)).map (·.length)).sum = xs.length := fun xs => by
    induction xs with
    | nil => rfl
    | cons x r ih =>
      rw [List.map_cons, List.map_cons, List.sum_cons, ih, sign_len]
      show 1 + r.length = r.length + 1
      omega
  have el : ∀ xs : List Nat, ((xs.map fun c => [c]).map List.length).sum = xs.length := fun xs => by
    induction xs with
    | nil => rfl
    | cons x r ih =>
      rw [List.map_cons, List.map_cons, List.sum_cons, ih]
      show 1 + r.length = r.length + 1
      omega
  have l0 : ("" : Str).length = 0 := by decide +kernel
  refine ⟨⟨fun z => ?_, ?_⟩, ?_⟩
  · rw [TL.join_eq, TL.tl_join, e1, e2] at z
    rcases joinL_mem z with z | ⟨q, hq, hc⟩
    · cases z
    · obtain ⟨c, hcs, rfl⟩ := List.mem_map.mp hq
      exact h c hcs (List.mem_singleton.mp hc).symm
  · rw [TL.join_eq, TL.len_tl, TL.tl_join, e1, e2]
    have := joinL_len [] (cs.map fun c => [c])
    rw [el, List.length_map] at this
    have h0 : ([] : List Nat).length = 0 := rfl
    rw [h0, Nat.mul_zero] at this
    omega
  · rw [es, l0, Nat.mul_zero]
    omega
section
variable {P : Program} {w : World} {K : PySem.W.Frag} {mg : Str → Option Value} {base : Heap} {fD fN : Addr} {dD dN : FuncData}
theorem sc4m : FnScope ["pool", "words", "signs", "k"] ["pool"] (defScope sLMe) := ⟨rfl, rfl, rfl, by decide +kernel, rfl, by decide +kernel, by decide +kernel⟩
theorem map_app {xs ys : List Str} : xs.map V.str ++ ys.map V.str = (xs ++ ys).map V.str := (List.map_append ..).symm
theorem ok_lme {f : Addr} {fd : FuncData} (F : Fun K "_law_menu" "_law_menu" sLMe f fd) (T : TxL mg) (D1 : Fn0 P w K mg base 1 "_law_draw" ["pool", "size"] spDraw fD dD) (N1 : Fn0 P w K mg base 2 "_law_near" ["pool", "word"] spNear fN dN) : FnOk P w K mg base CX0 3 f fd ["pool"] spMenu := by
  refine F.ok sc4m (fun vs H Q E h => ?_) (fun cdv A outer s H vs Q E hr h => ?_)
  · obtain ⟨p, b, rfl, _⟩ := h
    rfl
  · obtain ⟨p, b, rfl, P0, q⟩ := h
    have hr1 : Room 1 _ := hr.mono (by decide)
    have hrest : ∃ t, PSs (cxOf CX0 P w K mg base ["pool", "words", "signs", "k"] "_law_menu" (defScope sLMe) f cdv A outer s H E).nox ((defBody sLMe).drop 4) t ∧
        ∀ (H7 : Hp) (a4 : Addr) (v2 v3 : Option V), Same H H7 → H7 a4 = some (.lst ((W1 ++ W2 ++ W3 ++ W4).map V.str)) → a4 ≠ p → t { nx := fun _ H' => Q .non H', rt := Q } [some (.ref p), some (.ref a4), v2, v3] H7 := by
      refine ⟨_, pss_cons (ps_if (pt_cmpR op_eq (pe_call D1.ok hr1 (by rfl) D1.gl D1.kp D1.bd .nil pass0 (pa_cons (pv 0) (pa_cons pe_int pa_nil))) pe_int (nomark _)) (pss_cons (ps_set (i := 2) sc4m.nd rfl (Or.inr rfl) pe_str) (pss_one (ps_ret (pe_join pe_str (pe_lc (own := [("k", 3)]) (g := gName 3) (tt := tYes) rfl sc4m.nd (pi_range1 rfl T.range (pa_cons (pe_op op_add pe_int (pe_call D1.ok hr1 (by rfl) D1.gl D1.kp D1.bd .nil pass0 (pa_cons (pv 0) (pa_cons pe_int pa_nil)))) pa_nil)) (blkOk_by (N := ["pool", "words", "signs", "k"]) (sc := defScope sLMe) (by decide +kernel)) (fun _ _ _ _ _ => pg_name (i := 3) sc4m.nd rfl (Or.inl rfl)) (fun _ _ _ _ _ => pts_nil) (fun _ _ _ _ _ => pe_ix ix_str (pv 2) (pe_call D1.ok hr1 (by rfl) D1.gl D1.kp D1.bd .nil pass0 (pa_cons (pv 0) (pa_cons (pe_callB call_len_str (by rfl) T.len PySem.boot_len (pa_cons (pv 2) pa_nil)) pa_nil))) (fun _ _ => rfl))))))) pss_nil)
        (pss_cons (ps_if (pt_cmpR op_eq (pe_call D1.ok hr1 (by rfl) D1.gl D1.kp D1.bd .nil pass0 (pa_cons (pv 0) (pa_cons pe_int pa_nil))) pe_int (nomark _)) (pss_one (ps_ret (pe_call N1.ok hr (by rfl) N1.gl N1.kp N1.bd .nil pass0 (pa_cons (pv 0) (pa_cons (pe_ix ix_list (pv 1) (pe_call D1.ok hr1 (by rfl) D1.gl D1.kp D1.bd .nil pass0 (pa_cons (pv 0) (pa_cons (pe_callB call_len_seq (by rfl) T.len PySem.boot_len (pa_cons (pv 1) pa_nil)) pa_nil))) (fun _ _ => rfl)) pa_nil))))) pss_nil)
        (pss_one (ps_ret (pe_ix ix_list (pv 1) (pe_call D1.ok hr1 (by rfl) D1.gl D1.kp D1.bd .nil pass0 (pa_cons (pv 0) (pa_cons (pe_callB call_len_seq (by rfl) T.len PySem.boot_len (pa_cons (pv 1) pa_nil)) pa_nil))) (fun _ _ => rfl))))), fun H7 a4 v2 v3 sA ea na => ?_⟩
      have P1 := P0.same sA
      have k1 : Kp p H H7 := Kp.same sA
      have hlen : ((W1 ++ W2 ++ W3 ++ W4).map V.str).length = 67 := by decide +kernel
      refine ⟨_, rfl, p, 8, b, rfl, P1, by decide, by decide, fun j H8 j0 j1 P2 k2 => ⟨rfl, _, rfl, ite2 (fun _ => ?_) (fun _ => ?_)⟩⟩
      · -- some signs
        have sgl := sg_ok
        refine ⟨⟨_, rfl⟩, _, rfl, p, 3, b, rfl, P2, by decide, by decide, fun j3 H9 j30 j31 P3 k3 => ⟨_, _, rfl, rfl, 1 + j3, rfl, by omega, by omega, fun D hD => ?_⟩⟩
        have hDp : D ≠ p := P3.ne0 hD
        have sD := same_upd (o := .lst []) hD
        refine lc_range (lo := 0) (n := (1 + j3).toNat) (fun i H' => ∃ cs : List Nat, cs.length = i ∧ (∀ c ∈ cs, c ≠ 32) ∧ H' D = some (.lst ((cs.map fun c => (⟨#[c]⟩ : Str)).map V.str)) ∧ PoolAt H' p b ∧ Kp p H9 H') ?_ ?_ ?_
        · exact ⟨[], rfl, fun c hc => (nomatch hc), upd_same, P3.same sD, Kp.same sD⟩
        · rintro i H10 hi ⟨cs, hcl, hc, eD, P10, k10⟩
          refine ⟨rfl, tYesI ?_⟩
          refine ⟨_, rfl, _, rfl, _, rfl, SG, rfl, sz (by omega), p, _, b, rfl, P10, by omega, by omega, fun u H11 u0 u1 P11 k11 => ?_⟩
          obtain ⟨c, hcm, ec⟩ := at_sign (z := SG) u0 u1
          have eD11 := k11 _ _ eD hDp
          refine ⟨SG, u, c, rfl, rfl, sz (by omega), ec, (cs.map fun c => (⟨#[c]⟩ : Str)).map V.str, eD11, ?_, cs ++ [c], ?_, ?_, ?_, PoolAt.own P3 hD (k10.trans k11) P11, Kp.own P3 hD (k10.trans k11)⟩
          · rw [List.length_map, List.length_map, hcl]
            exact Nat.lt_of_le_of_lt (show i ≤ 3 by omega) (by decide)
          · rw [List.length_append, List.length_singleton, hcl]
          · intro d hd
            rcases List.mem_append.mp hd with z | z
            · exact hc d z
            · rw [List.mem_singleton.mp z]
              intro e
              exact sgl.1 (by rw [← e]; exact hcm)
          · rw [upd_same, List.map_append, List.map_append]
            rfl
        · rintro H10 ⟨cs, hcl, hc, eD, P10, k10⟩
          obtain ⟨hw, hs⟩ := signs_ok hc (by omega)
          exact ⟨_, D, cs.map fun c => (⟨#[c]⟩ : Str), rfl, rfl, .inl (SqL.of eD), hs, q _ H10 hw P10 (((k1.trans k2).trans k3).trans k10)⟩
      · refine ⟨_, rfl, p, 6, b, rfl, P2, by decide, by decide, fun j6 H9 j60 j61 P3 k3 => ⟨rfl, _, rfl, ?_⟩⟩
        have k13 := (k1.trans k2).trans k3
        have e9 := (k2.trans k3) _ _ ea na
        refine ite2 (fun _ => ?_) (fun _ => ?_)
        · refine ⟨_, rfl, _, rfl, _, rfl, _, rfl, a4, _, rfl, .inl (SqL.of e9), p, _, b, rfl, P3, by rw [hlen]; decide, by rw [hlen]; decide, fun v H10 v0 v1 P4 k4 => ?_⟩
          rw [List.length_map] at v1
          obtain ⟨x, hx, ex⟩ := atS (xs := W1 ++ W2 ++ W3 ++ W4) v0 v1
          have hwx := w_ok x hx
          exact ⟨a4, _, _, _, rfl, rfl, SqL.of (k4 _ _ e9 na), ex, p, x, b, rfl, P4, hwx.1, hwx.2, fun y H11 hy P5 k5 => q y H11 hy P5 ((k13.trans k4).trans k5)⟩
        · refine ⟨_, rfl, _, rfl, _, rfl, a4, _, rfl, .inl (SqL.of e9), p, _, b, rfl, P3, by rw [hlen]; decide, by rw [hlen]; decide, fun v H10 v0 v1 P4 k4 => ?_⟩
          rw [List.length_map] at v1
          obtain ⟨x, hx, ex⟩ := atS (xs := W1 ++ W2 ++ W3 ++ W4) v0 v1
          have hwx := w_ok x hx
          exact ⟨a4, _, _, _, rfl, rfl, SqL.of (k4 _ _ e9 na), ex, q x H10 ⟨hwx.1, by omega⟩ P4 (k13.trans k4)⟩
    obtain ⟨t4, ht4, rest⟩ := hrest
    refine ⟨_, pss_cons (ps_set (i := 1) sc4m.nd rfl (Or.inl rfl) (pe_lst (pa_cons pe_str (pa_cons pe_str (pa_cons pe_str (pa_cons pe_str (pa_cons pe_str (pa_cons pe_str (pa_cons pe_str (pa_cons pe_str (pa_cons pe_str (pa_cons pe_str (pa_cons pe_str (pa_cons pe_str (pa_cons pe_str (pa_cons pe_str (pa_cons pe_str pa_nil)))))))))))))))))
      (pss_cons (ps_set (i := 1) sc4m.nd rfl (Or.inl rfl) (pe_op op_cat (pv 1) (pe_lst (pa_cons pe_str (pa_cons pe_str (pa_cons pe_str (pa_cons pe_str (pa_cons pe_str (pa_cons pe_str (pa_cons pe_str (pa_cons pe_str (pa_cons pe_str (pa_cons pe_str (pa_cons pe_str (pa_cons pe_str (pa_cons pe_str (pa_cons pe_str (pa_cons pe_str (pa_cons pe_str (pa_cons pe_str (pa_cons pe_str pa_nil)))))))))))))))))))))
      (pss_cons (ps_set (i := 1) sc4m.nd rfl (Or.inl rfl) (pe_op op_cat (pv 1) (pe_lst (pa_cons pe_str (pa_cons pe_str (pa_cons pe_str (pa_cons pe_str (pa_cons pe_str (pa_cons pe_str (pa_cons pe_str (pa_cons pe_str (pa_cons pe_str (pa_cons pe_str (pa_cons pe_str (pa_cons pe_str (pa_cons pe_str (pa_cons pe_str (pa_cons pe_str (pa_cons pe_str (pa_cons pe_str pa_nil))))))))))))))))))))
      (pss_cons (ps_set (i := 1) sc4m.nd rfl (Or.inl rfl) (pe_op op_cat (pv 1) (pe_lst (pa_cons pe_str (pa_cons pe_str (pa_cons pe_str (pa_cons pe_str (pa_cons pe_str (pa_cons pe_str (pa_cons pe_str (pa_cons pe_str (pa_cons pe_str (pa_cons pe_str (pa_cons pe_str (pa_cons pe_str (pa_cons pe_str (pa_cons pe_str (pa_cons pe_str (pa_cons pe_str (pa_cons pe_str pa_nil)))))))))))))))))))) ht4))), ?_⟩
    refine ⟨(by show 15 ≤ sizeLine; decide), fun a1 g1 => ?_⟩
    have s1 := same_upd (o := .lst (W1.map V.str)) g1
    refine ⟨_, rfl, (by show 18 ≤ sizeLine; decide), fun b1 g2 => ?_⟩
    have s2 := same_upd (o := .lst (W2.map V.str)) g2
    refine ⟨a1, b1, W1.map V.str, W2.map V.str, rfl, rfl, s2 _ _ upd_same, upd_same, (by show 33 ≤ sizeLine; decide), fun a2 g3 => ?_⟩
    have s3 := same_upd (o := .lst (W1.map V.str ++ W2.map V.str)) g3
    refine ⟨_, rfl, (by show 17 ≤ sizeLine; decide), fun b2 g4 => ?_⟩
    have s4 := same_upd (o := .lst (W3.map V.str)) g4
    refine ⟨a2, b2, W1.map V.str ++ W2.map V.str, W3.map V.str, rfl, rfl, s4 _ _ upd_same, upd_same, (by show 50 ≤ sizeLine; decide), fun a3 g5 => ?_⟩
    have s5 := same_upd (o := .lst (W1.map V.str ++ W2.map V.str ++ W3.map V.str)) g5
    refine ⟨_, rfl, (by show 17 ≤ sizeLine; decide), fun b3 g6 => ?_⟩
    have s6 := same_upd (o := .lst (W4.map V.str)) g6
    refine ⟨a3, b3, W1.map V.str ++ W2.map V.str ++ W3.map V.str, W4.map V.str, rfl, rfl, s6 _ _ upd_same, upd_same, (by show 67 ≤ sizeLine; decide), fun a4 g7 => ?_⟩
    have s7 := same_upd (o := .lst (W1.map V.str ++ W2.map V.str ++ W3.map V.str ++ W4.map V.str)) g7
    have s16 := ((((s1.trans s2).trans s3).trans s4).trans s5).trans s6
    refine rest _ a4 _ _ (s16.trans s7) ?_ ((P0.same s16).ne0 g7)
    rw [upd_same, map_app, map_app, map_app]
end
end K1

set_option Elab.async false
set_option linter.all false
set_option maxRecDepth 100000
set_option maxHeartbeats 2000000
namespace K1
open PySem PySem.Spec PyProof.Rows L2 Kx TL
def WLv (vs : List V) : Prop := ∀ v ∈ vs, ∃ z, v = .str z ∧ Wz z
theorem WLv.cut {vs : List V} (h : WLv vs) (lo hi : Option Int) : WLv (cutV vs lo hi) := fun v hv => h v (List.mem_of_mem_drop (List.mem_of_mem_take hv))
theorem WLv.app {vs us : List V} (h : WLv vs) (h' : WLv us) : WLv (vs ++ us) := fun v hv => (List.mem_append.mp hv).elim (h v) (h' v)
theorem WLv.one {z : Str} (h : Wz z) : WLv [.str z] := fun v hv => ⟨z, List.mem_singleton.mp hv, h⟩
theorem len_to (xs : List V) {v : Int} (h0 : 0 ≤ v) : (cutV xs none (some v)).length = min v.toNat xs.length := by
  unfold cutV
  rw [HT.sIx_none, show HT.sIx xs.length xs.length (some v) = min v.toNat xs.length from by rw [show v = ((v.toNat : Nat) : Int) by omega]; exact HT.sIx_nat _ _ _]
  rw [List.length_take, List.length_drop]
  omega
theorem len_from (xs : List V) {v : Int} (h0 : 0 ≤ v) : (cutV xs (some v) none).length = xs.length - v.toNat := by
  unfold cutV
  rw [HT.sIx_none, show HT.sIx xs.length 0 (some v) = min v.toNat xs.length from by rw [show v = ((v.toNat : Nat) : Int) by omega]; exact HT.sIx_nat _ _ _]
  rw [List.length_take, List.length_drop]
  omega
theorem len_mid (xs : List V) {v u : Int} (h0 : 0 ≤ v) (h1 : v ≤ u) : (cutV xs (some v) (some u)).length ≤ (u - v).toNat := by
  unfold cutV
  rw [show HT.sIx xs.length 0 (some v) = min v.toNat xs.length from by rw [show v = ((v.toNat : Nat) : Int) by omega]; exact HT.sIx_nat _ _ _]
  rw [show HT.sIx xs.length xs.length (some u) = min u.toNat xs.length from by rw [show u = ((u.toNat : Nat) : Int) by omega]; exact HT.sIx_nat _ _ _]
  rw [List.length_take, List.length_drop]
  omega
/-- what stands while words are put together: the words at a, the pool at p -/
structure WS (H : Hp) (p a : Addr) (b : Int) (xs : List V) : Prop where
  pool : PoolAt H p b
  ea : H a = some (.lst xs)
  na : a ≠ p
  wl : WLv xs
theorem WS.kp {H H' : Hp} {p a : Addr} {b : Int} {xs : List V} (h : WS H p a b xs) (P : PoolAt H' p b) (k : Kp p H H') : WS H' p a b xs := ⟨P, k _ _ h.ea h.na, h.na, h.wl⟩
/-- it gives a new list of words, at most so many -/
def EvW (te : TE) (σ : L2.St) (p a : Addr) (b : Int) (xs : List V) (n : Nat) : Prop := ∀ H, WS H p a b xs → ∀ Q : VK, (∀ c H' ys, H' c = some (.lst ys) → c ≠ p → WLv ys → ys.length ≤ n → PoolAt H' p b → Kp p H H' → Q (.ref c) H') → te σ H Q
def EvI (to : TO) (σ : L2.St) (o : Option Int) : Prop := ∀ H (Q : Option Int → Hp → Prop), Q o H → to σ H Q
section
variable {σ : L2.St} {p a : Addr} {b : Int} {xs : List V} {K : PySem.W.Frag}
theorem ew_sl {tl th : TO} {lo hi : Option Int} {n : Nat} (hv : σ[1]? = some (some (.ref a))) (hl : EvI tl σ lo) (hh : EvI th σ hi) (hn : (cutV xs lo hi).length ≤ n) : EvW (tSl (rSlL K) (tVar 1) tl th) σ p a b xs n := fun H W Q q =>
  ⟨_, hv, hl H _ (hh H _ ⟨a, xs, rfl, SqL.of W.ea, fun c hc => q c _ _ upd_same (W.pool.ne0 hc) (W.wl.cut lo hi) hn (W.pool.same (same_upd hc)) (Kp.same (same_upd hc))⟩)⟩
theorem ew_cat {ta tb : TE} {n m : Nat} (ha : EvW ta σ p a b xs n) (hb : EvW tb σ p a b xs m) (hz : n + m ≤ 100000) : EvW (tOp rCat ta tb) σ p a b xs (n + m) := fun H W Q q =>
  ha H W _ fun c1 H1 ys e1 n1 w1 l1 P1 k1 => hb H1 (W.kp P1 k1) _ fun c2 H2 zs e2 n2 w2 l2 P2 k2 =>
    ⟨c1, c2, ys, zs, rfl, rfl, k2 _ _ e1 n1, e2, sz (by omega), fun c hc => q c _ _ upd_same (P2.ne0 hc) (w1.app w2) (by rw [List.length_append]; omega) (P2.same (same_upd hc)) ((k1.trans k2).trans (Kp.same (same_upd hc)))⟩
theorem ew_menu (hv : σ[0]? = some (some (.ref p))) : EvW (tLst (tCons (tCall spMenu [] E0 (tCons (tVar 0) tNil)) tNil)) σ p a b xs 1 := fun H W Q q =>
  ⟨_, hv, p, b, rfl, W.pool, fun y H1 hy P1 k1 => ⟨(by show 1 ≤ sizeLine; decide), fun c hc => q c _ _ upd_same (P1.ne0 hc) (WLv.one hy) (Nat.le_refl _) (P1.same (same_upd hc)) (k1.trans (Kp.same (same_upd hc)))⟩⟩
theorem ei_none : EvI tNoPart σ none := fun _ _ q => q
theorem ei_var {i : Nat} {v : Int} (hv : σ[i]? = some (some (.int v))) : EvI (tPart (tVar i)) σ (some v) := fun _ _ q => ⟨_, hv, _, rfl, q⟩
theorem ei_add {i : Nat} {v k : Int} (hv : σ[i]? = some (some (.int v))) : EvI (tPart (tOp (rI0 fun i j => .int (i + j)) (tVar i) (tC (.int k)))) σ (some (v + k)) := fun _ _ q => ⟨_, hv, _, _, rfl, rfl, _, rfl, q⟩
end
def PvC (p : Addr) (b : Int) (H : Hp) (i : Nat) (σ : L2.St) (H' : Hp) : Prop := (∃ a' v2 v3 v4 v5 us', σ = [some (.ref p), some (.ref a'), v2, v3, v4, v5] ∧ H' a' = some (.lst us') ∧ a' ≠ p ∧ WLv us' ∧ us'.length ≤ 20000 + 3 * i) ∧ PoolAt H' p b ∧ Kp p H H'
def spChg : Sp := fun vs H Q _ => ∃ (p a : Addr) (us : List V) (b : Int), vs = [.ref p, .ref a] ∧ PoolAt H p b ∧ a ≠ p ∧ H a = some (.lst us) ∧ WLv us ∧ us.length ≤ 20000 ∧ ∀ (c : Addr) (xs : List V) (H' : Hp), H' c = some (.lst xs) → c ≠ p → WLv xs → xs.length ≤ 20020 → PoolAt H' p b → Kp p H H' → Q (.ref c) H'
section
variable {P : Program} {w : World} {K : PySem.W.Frag} {mg : Str → Option Value} {base : Heap} {fD fM fX : Addr} {dD dM dX : FuncData}
theorem sc4c : FnScope ["pool", "words", "k", "way", "place", "other"] ["pool", "words"] (defScope sLCh) := ⟨rfl, rfl, rfl, by decide +kernel, rfl, by decide +kernel, by decide +kernel⟩
theorem ok_lch {f : Addr} {fd : FuncData} (F : Fun K "_law_changed" "_law_changed" sLCh f fd) (T : TxL mg) (D1 : Fn0 P w K mg base 1 "_law_draw" ["pool", "size"] spDraw fD dD) (M1 : Fn0 P w K mg base 3 "_law_menu" ["pool"] spMenu fM dM) : FnOk P w K mg base CX0 4 f fd ["pool", "words"] spChg := by
  refine F.ok sc4c (fun vs H Q E h => ?_) (fun cdv A outer s H vs Q E hr h => ?_)
  · obtain ⟨p, a, us, b, rfl, _⟩ := h
    rfl
  · obtain ⟨p, a, us, b, rfl, P0, nap, ea, wl, hl, q⟩ := h
    have hr1 : Room 1 _ := hr.mono (by decide)
    refine ⟨_, pss_cons (ps_for PassesOwn.never rfl (pi_range1 rfl T.range (pa_cons (pe_call D1.ok hr1 (by rfl) D1.gl D1.kp D1.bd .nil pass0 (pa_cons (pv 0) (pa_cons pe_int pa_nil))) pa_nil)) (pg_name (i := 2) sc4c.nd rfl (Or.inl rfl))
        (pss_cons (ps_set (i := 3) sc4c.nd rfl (Or.inl rfl) (pe_call D1.ok hr1 (by rfl) D1.gl D1.kp D1.bd .nil pass0 (pa_cons (pv 0) (pa_cons pe_int pa_nil))))
        (pss_cons (ps_set (i := 4) sc4c.nd rfl (Or.inl rfl) (pe_call D1.ok hr1 (by rfl) D1.gl D1.kp D1.bd .nil pass0 (pa_cons (pv 0) (pa_cons (pe_op op_add (pe_callB call_len_seq (by rfl) T.len PySem.boot_len (pa_cons (pv 1) pa_nil)) pe_int) pa_nil))))
        (pss_cons (ps_set (i := 5) sc4c.nd rfl (Or.inl rfl) (pe_call D1.ok hr1 (by rfl) D1.gl D1.kp D1.bd .nil pass0 (pa_cons (pv 0) (pa_cons (pe_op op_add (pe_callB call_len_seq (by rfl) T.len PySem.boot_len (pa_cons (pv 1) pa_nil)) pe_int) pa_nil))))
        (pss_one (ps_if (pt_cmpR op_eq (pv 3) pe_int (nomark _)) (pss_one (ps_set (i := 1) sc4c.nd rfl (Or.inl rfl) (pe_op op_cat (pe_slice sl_list (pv 1) po_none (po_some (pv 4))) (pe_slice sl_list (pv 1) (po_some (pe_op op_add (pv 4) pe_int)) po_none)))) (pss_one (ps_if (pt_cmpR op_eq (pv 3) pe_int (nomark _)) (pss_one (ps_set (i := 1) sc4c.nd rfl (Or.inl rfl) (pe_op op_cat (pe_op op_cat (pe_slice sl_list (pv 1) po_none (po_some (pv 4))) (pe_lst (pa_cons (pe_call M1.ok hr (by rfl) M1.gl M1.kp M1.bd .nil pass0 (pa_cons (pv 0) pa_nil)) pa_nil))) (pe_slice sl_list (pv 1) (po_some (pv 4)) po_none)))) (pss_one (ps_if (pt_cmpR op_eq (pv 3) pe_int (nomark _)) (pss_one (ps_set (i := 1) sc4c.nd rfl (Or.inl rfl) (pe_op op_cat (pe_op op_cat (pe_slice sl_list (pv 1) po_none (po_some (pv 4))) (pe_lst (pa_cons (pe_call M1.ok hr (by rfl) M1.gl M1.kp M1.bd .nil pass0 (pa_cons (pv 0) pa_nil)) pa_nil))) (pe_slice sl_list (pv 1) (po_some (pe_op op_add (pv 4) pe_int)) po_none)))) (pss_one (ps_if (pt_cmpR op_eq (pv 3) pe_int (nomark _)) (pss_one (ps_set (i := 1) sc4c.nd rfl (Or.inl rfl) (pe_op op_cat (pe_op op_cat (pe_slice sl_list (pv 1) po_none (po_some (pv 4))) (pe_slice sl_list (pv 1) (po_some (pv 5)) (po_some (pe_op op_add (pv 5) pe_int)))) (pe_slice sl_list (pv 1) (po_some (pe_op op_add (pv 4) pe_int)) po_none)))) (pss_one (ps_if (pt_cmpR op_eq (pv 3) pe_int (nomark _)) (pss_one (ps_set (i := 1) sc4c.nd rfl (Or.inl rfl) (pe_op op_cat (pe_op op_cat (pe_slice sl_list (pv 1) po_none (po_some (pv 4))) (pe_slice sl_list (pv 1) (po_some (pv 5)) (po_some (pe_op op_add (pv 5) pe_int)))) (pe_slice sl_list (pv 1) (po_some (pv 4)) po_none)))) (pss_one (ps_set (i := 1) sc4c.nd rfl (Or.inl rfl) (pe_op op_cat (pe_op op_cat (pe_op op_cat (pe_slice sl_list (pv 1) po_none (po_some (pv 4))) (pe_slice sl_list (pv 1) (po_some (pe_op op_add (pv 4) pe_int)) (po_some (pe_op op_add (pv 4) pe_int)))) (pe_slice sl_list (pv 1) (po_some (pv 4)) (po_some (pe_op op_add (pv 4) pe_int)))) (pe_slice sl_list (pv 1) (po_some (pe_op op_add (pv 4) pe_int)) po_none))))))))))))))))))
      (pss_one (ps_ret (pv 1))), ?_⟩
    refine ⟨_, rfl, p, 5, b, rfl, P0, by decide, by decide, fun n H1 n0 n1 P1 k1 => ?_⟩
    refine ⟨n, rfl, by omega, by omega, for_range (lo := 0) (n := n.toNat) (PvC p b H) ?_ ?_ ?_⟩
    · exact ⟨⟨a, _, _, _, _, us, rfl, k1 _ _ ea nap, nap, wl, by omega⟩, P1, k1⟩
    · rintro i σ H2 hi ⟨⟨a2, v2, v3, v4, v5, xs, rfl, e2, na2, wl2, hl2⟩, P2, k2⟩
      have hi5 : i < 5 := by omega
      refine ⟨_, rfl, p, 6, b, rfl, P2, by decide, by decide, fun way H3 _ _ P3 k3 => ?_⟩
      have e3 := k3 _ _ e2 na2
      refine ⟨_, rfl, _, rfl, a2, _, rfl, .inl (SqL.of e3), _, _, rfl, rfl, p, _, b, rfl, P3, by omega, by omega, fun pl H4 pl0 pl1 P4 k4 => ?_⟩
      have e4 := k4 _ _ e3 na2
      refine ⟨_, rfl, _, rfl, a2, _, rfl, .inl (SqL.of e4), _, _, rfl, rfl, p, _, b, rfl, P4, by omega, by omega, fun ot H5 ot0 ot1 P5 k5 => ?_⟩
      have e5 := k5 _ _ e4 na2
      have k25 := ((k2.trans k3).trans k4).trans k5
      have lt := len_to xs pl0
      have lf := len_from xs pl0
      have lf1 := len_from xs (v := pl + 1) (by omega)
      have lf2 := len_from xs (v := pl + 2) (by omega)
      have lm1 := len_mid xs (v := ot) (u := ot + 1) ot0 (by omega)
      have lm3 := len_mid xs (v := ot) (u := ot + 3) ot0 (by omega)
      have lp1 := len_mid xs (v := pl) (u := pl + 1) pl0 (by omega)
      have lp2 := len_mid xs (v := pl + 1) (u := pl + 2) (by omega) (by omega)
      have W : WS H5 p a2 b xs := ⟨P5, e5, na2, wl2⟩
      have lx : xs.length ≤ 20012 := by omega
      -- a new list behind the turn
      have fin : ∀ {te : TE} {n : Nat}, EvW te [some (.ref p), some (.ref a2), some (.int (0 + (i : Int))), some (.int way), some (.int pl), some (.int ot)] p a2 b xs n → n ≤ xs.length + 3 → tAsg te (gName 1) { nx := PvC p b H (i + 1), ct := PvC p b H (i + 1), bk := fun σ H' => tRet (tVar 1) { nx := fun _ H' => Q .non H', rt := Q } σ H', rt := Q } [some (.ref p), some (.ref a2), some (.int (0 + (i : Int))), some (.int way), some (.int pl), some (.int ot)] H5 := fun h hn => h H5 W _ fun c H6 ys ec nc wc lc P6 k6 =>
        ⟨⟨c, _, _, _, _, ys, rfl, ec, nc, wc, by omega⟩, P6, k25.trans k6⟩
      refine ⟨_, rfl, rfl, _, rfl, ite2 (fun _ => ?_) (fun _ => ?_)⟩
      · exact fin (ew_cat (ew_sl rfl ei_none (ei_var (i := 4) rfl) (Nat.le_of_eq lt)) (ew_sl rfl (ei_add (i := 4) rfl) ei_none (Nat.le_of_eq lf1)) (by omega)) (by omega)
      refine ⟨_, rfl, rfl, _, rfl, ite2 (fun _ => ?_) (fun _ => ?_)⟩
      · exact fin (ew_cat (ew_cat (ew_sl rfl ei_none (ei_var (i := 4) rfl) (Nat.le_of_eq lt)) (ew_menu rfl) (by omega)) (ew_sl rfl (ei_var (i := 4) rfl) ei_none (Nat.le_of_eq lf)) (by omega)) (by omega)
      refine ⟨_, rfl, rfl, _, rfl, ite2 (fun _ => ?_) (fun _ => ?_)⟩
      · exact fin (ew_cat (ew_cat (ew_sl rfl ei_none (ei_var (i := 4) rfl) (Nat.le_of_eq lt)) (ew_menu rfl) (by omega)) (ew_sl rfl (ei_add (i := 4) rfl) ei_none (Nat.le_of_eq lf1)) (by omega)) (by omega)
      refine ⟨_, rfl, rfl, _, rfl, ite2 (fun _ => ?_) (fun _ => ?_)⟩
      · exact fin (ew_cat (ew_cat (ew_sl rfl ei_none (ei_var (i := 4) rfl) (Nat.le_of_eq lt)) (ew_sl rfl (ei_var (i := 5) rfl) (ei_add (i := 5) rfl) lm1) (by omega)) (ew_sl rfl (ei_add (i := 4) rfl) ei_none (Nat.le_of_eq lf1)) (by omega)) (by omega)
      refine ⟨_, rfl, rfl, _, rfl, ite2 (fun _ => ?_) (fun _ => ?_)⟩
      · exact fin (ew_cat (ew_cat (ew_sl rfl ei_none (ei_var (i := 4) rfl) (Nat.le_of_eq lt)) (ew_sl rfl (ei_var (i := 5) rfl) (ei_add (i := 5) rfl) lm3) (by omega)) (ew_sl rfl (ei_var (i := 4) rfl) ei_none (Nat.le_of_eq lf)) (by omega)) (by omega)
      · exact fin (ew_cat (ew_cat (ew_cat (ew_sl rfl ei_none (ei_var (i := 4) rfl) (Nat.le_of_eq lt)) (ew_sl rfl (ei_add (i := 4) rfl) (ei_add (i := 4) rfl) lp2) (by omega)) (ew_sl rfl (ei_var (i := 4) rfl) (ei_add (i := 4) rfl) lp1) (by omega)) (ew_sl rfl (ei_add (i := 4) rfl) ei_none (Nat.le_of_eq lf2)) (by omega)) (by omega)
    · rintro σ H2 ⟨⟨a2, v2, v3, v4, v5, xs, rfl, e2, na2, wl2, hl2⟩, P2, k2⟩
      exact ⟨_, rfl, q a2 xs H2 e2 na2 wl2 (by omega) P2 k2⟩
end
end K1

set_option Elab.async false
set_option linter.all false
set_option maxRecDepth 100000
set_option maxHeartbeats 2000000
namespace K1
open PySem PySem.Spec PyProof.Rows L2 Kx TL
theorem wl_map {xs : List V} (h : WLv xs) : ∃ us : List Str, xs = us.map V.str ∧ ∀ z ∈ us, Wz z := by
  induction xs with
  | nil => exact ⟨[], rfl, nofun⟩
  | cons x r ih =>
    obtain ⟨z, rfl, hz⟩ := h x (List.mem_cons_self ..)
    obtain ⟨us, rfl, hu⟩ := ih fun v hv => h v (List.mem_cons_of_mem _ hv)
    refine ⟨z :: us, rfl, fun y hy => ?_⟩
    rcases List.mem_cons.mp hy with rfl | hy
    · exact hz
    · exact hu y hy
def spWk : Sp := fun vs H Q _ => ∃ (p : Addr) (b : Int), vs = [.ref p] ∧ PoolAt H p b ∧ ∀ (c : Addr) (xs : List V) (H' : Hp), H' c = some (.lst xs) → c ≠ p → WLv xs → xs.length ≤ 20020 → PoolAt H' p b → Kp p H H' → Q (.ref c) H'
section
variable {P : Program} {w : World} {K : PySem.W.Frag} {mg : Str → Option Value} {base : Heap} {fD fM fX : Addr} {dD dM dX : FuncData}
theorem sc4k : FnScope ["pool", "words", "k", "word", "turn"] ["pool"] (defScope sLWk) := ⟨rfl, rfl, rfl, by decide +kernel, rfl, by decide +kernel, by decide +kernel⟩
theorem vx7 : WLv [.str "var", .str "x", .str "7"] := fun v hv => by
  have h : ∀ z ∈ (["var", "x", "7"] : List Str), 32 ∉ z.cps.toList ∧ z.length ≤ 20 := by decide +kernel
  simp only [List.mem_cons, List.not_mem_nil, or_false] at hv
  rcases hv with rfl | rfl | rfl
  · exact ⟨_, rfl, h _ (by decide +kernel)⟩
  · exact ⟨_, rfl, h _ (by decide +kernel)⟩
  · exact ⟨_, rfl, h _ (by decide +kernel)⟩
theorem rep_wl {xs : List V} (h : WLv xs) : ∀ n : Nat, WLv (List.replicate n xs).flatten ∧ (List.replicate n xs).flatten.length = n * xs.length
  | 0 => ⟨fun v hv => (nomatch hv), (Nat.zero_mul _).symm⟩
  | n + 1 => by
    obtain ⟨h1, h2⟩ := rep_wl h n
    rw [List.replicate_succ, List.flatten_cons]
    exact ⟨h.app h1, by rw [List.length_append, h2, Nat.add_mul]; omega⟩
theorem ok_lwk {f : Addr} {fd : FuncData} (F : Fun K "_law_walked" "_law_walked" sLWk f fd) (T : TxL mg) (D1 : Fn0 P w K mg base 1 "_law_draw" ["pool", "size"] spDraw fD dD) (M1 : Fn0 P w K mg base 3 "_law_menu" ["pool"] spMenu fM dM) (X1 : Fn0 P w K mg base 4 "_law_wrong" ["words"] spLWr fX dX) : FnOk P w K mg base CX0 5 f fd ["pool"] spWk := by
  refine F.ok sc4k (fun vs H Q E h => ?_) (fun cdv A outer s H vs Q E hr h => ?_)
  · obtain ⟨p, b, rfl, _⟩ := h
    rfl
  · obtain ⟨p, b, rfl, P0, q⟩ := h
    have hr1 : Room 1 _ := hr.mono (by decide)
    have hr3 : Room 3 _ := hr.mono (by decide)
    refine ⟨_, pss_cons (ps_set (i := 1) sc4k.nd rfl (Or.inl rfl) (pe_op op_rep (pe_lst (pa_cons pe_str (pa_cons pe_str (pa_cons pe_str pa_nil)))) (pe_call D1.ok hr1 (by rfl) D1.gl D1.kp D1.bd .nil pass0 (pa_cons (pv 0) (pa_cons pe_int pa_nil)))))
      (pss_cons (ps_for PassesOwn.never rfl (pi_range1 rfl T.range (pa_cons (pe_call D1.ok hr1 (by rfl) D1.gl D1.kp D1.bd .nil pass0 (pa_cons (pv 0) (pa_cons pe_int pa_nil))) pa_nil)) (pg_name (i := 2) sc4k.nd rfl (Or.inl rfl))
        (pss_cons (ps_set (i := 3) sc4k.nd rfl (Or.inl rfl) (pe_call M1.ok hr3 (by rfl) M1.gl M1.kp M1.bd .nil pass0 (pa_cons (pv 0) pa_nil)))
        (pss_cons (ps_for PassesOwn.never rfl (pi_range1 rfl T.range (pa_cons pe_int pa_nil)) (pg_name (i := 4) sc4k.nd rfl (Or.inl rfl))
          (pss_one (ps_if (pt_cmpR op_eq (pe_call X1.ok hr (by rfl) X1.gl X1.kp X1.bd .nil pass0 (pa_cons (pe_op op_cat (pv 1) (pe_lst (pa_cons (pv 3) pa_nil))) pa_nil)) (pe_callB call_len_seq (by rfl) T.len PySem.boot_len (pa_cons (pv 1) pa_nil)) (nomark _))
            (pss_one (ps_set (i := 3) sc4k.nd rfl (Or.inl rfl) (pe_call M1.ok hr3 (by rfl) M1.gl M1.kp M1.bd .nil pass0 (pa_cons (pv 0) pa_nil)))) pss_nil)))
        (pss_one (ps_expr (pe_bm PySem.F.plainAttrs_list PySem.F.slot_list_append PySem.F.type_list_append mt_append (pv 1) (pa_cons (pv 3) pa_nil)))))))
      (pss_one (ps_ret (pv 1)))), ?_⟩
    refine ⟨(by show 3 ≤ sizeLine; decide), fun l1 g1 => ?_⟩
    have s1 := same_upd (o := .lst [.str "var", .str "x", .str "7"]) g1
    have P1 := P0.same s1
    refine ⟨_, rfl, p, 2, b, rfl, P1, by decide, by decide, fun r H2 r0 r1 P2 k2 => ?_⟩
    have e2 := k2 _ _ (show (upd H l1 (.lst [.str "var", .str "x", .str "7"])) l1 = _ from upd_same) (P0.ne0 g1)
    refine ⟨l1, r, [.str "var", .str "x", .str "7"], rfl, rfl, e2, by omega, by omega, sz (by show 3 * _ ≤ _; omega), fun c hc => ?_⟩
    obtain ⟨w0, l0⟩ := rep_wl vx7 r.toNat
    have hl0 : (List.replicate r.toNat [V.str "var", .str "x", .str "7"]).flatten.length ≤ 6 := by rw [l0]; show _ * 3 ≤ 6; omega
    generalize (List.replicate r.toNat [V.str "var", .str "x", .str "7"]).flatten = xs0 at *
    have s3 := same_upd (o := .lst xs0) hc
    have hcp : c ≠ p := P2.ne0 hc
    have k02 : Kp p H H2 := (Kp.same s1).trans k2
    refine ⟨_, rfl, p, 30, b, rfl, P2.same s3, by decide, by decide, fun n H4 n0 n1 P4 k4 => ?_⟩
    have e4 := k4 _ _ (show (upd H2 c (.lst xs0)) c = _ from upd_same) hcp
    have k24 : Kp p H2 H4 := (Kp.same s3).trans k4
    refine ⟨n, rfl, by omega, by omega, for_range (lo := 0) (n := n.toNat) (fun i σ H' => (∃ v2 v3 v4 xs, σ = [some (.ref p), some (.ref c), v2, v3, v4] ∧ H' c = some (.lst xs) ∧ WLv xs ∧ xs.length ≤ 6 + i) ∧ PoolAt H' p b ∧ Kp p H2 H') ?_ ?_ ?_⟩
    · exact ⟨⟨_, _, _, xs0, rfl, e4, w0, by omega⟩, P4, k24⟩
    · rintro i σ H5 hi ⟨⟨v2, v3, v4, xs, rfl, e5, w5, l5⟩, P5, k5⟩
      refine ⟨_, rfl, p, b, rfl, P5, fun y H6 hy P6 k6 => ?_⟩
      have e6 := k6 _ _ e5 hcp
      refine ⟨8, rfl, by decide, by decide, for_range (lo := 0) (n := 8) (fun j σ H' => (∃ z v4, σ = [some (.ref p), some (.ref c), some (.int (0 + (i : Int))), some (.str z), v4] ∧ Wz z) ∧ H' c = some (.lst xs) ∧ PoolAt H' p b ∧ Kp p H2 H') ?_ ?_ ?_⟩
      · exact ⟨⟨y, _, rfl, hy⟩, e6, P6, k5.trans k6⟩
      · rintro j σ H7 hj ⟨⟨z, v4', rfl, hz⟩, e7, P7, k7⟩
        refine ⟨_, rfl, _, rfl, (by show 1 ≤ sizeLine; decide), fun l2 g2 => ?_⟩
        have s8 := same_upd (o := .lst [.str z]) g2
        refine ⟨c, l2, xs, [.str z], rfl, rfl, s8 _ _ e7, upd_same, sz (by show xs.length + 1 ≤ _; omega), fun l3 g3 => ?_⟩
        have s9 := same_upd (o := .lst (xs ++ [.str z])) g3
        obtain ⟨us, eu, hu⟩ := wl_map (w5.app (WLv.one hz))
        have lu : us.length = xs.length + 1 := by
          have := congrArg List.length eu
          rw [List.length_map, List.length_append, List.length_singleton] at this
          exact this.symm
        refine ⟨l3, us, rfl, by rw [upd_same, eu], by omega, fun x hx => sz (by have := (hu x hx).2; omega), fun H8 s10 => ?_⟩
        have s7 := (s8.trans s9).trans s10
        have P8 := P7.same s7
        have e8 := s7 _ _ e7
        have k78 := k7.trans (Kp.same s7)
        refine ⟨_, rfl, c, xs, rfl, .inl (SqL.of e8), ?_⟩
        cases hw : wrongM us with
        | none =>
          refine ⟨rfl, _, rfl, ite2 (fun _ => ?_) (fun _ => ?_)⟩
          · exact ⟨_, rfl, p, b, rfl, P8, fun y2 H9 hy2 P9 k9 => ⟨⟨y2, _, rfl, hy2⟩, k9 _ _ e8 hcp, P9, k78.trans k9⟩⟩
          · exact ⟨⟨z, _, rfl, hz⟩, e8, P8, k78⟩
        | some m =>
          refine ⟨rfl, _, rfl, ite2 (fun _ => ?_) (fun _ => ?_)⟩
          · exact ⟨_, rfl, p, b, rfl, P8, fun y2 H9 hy2 P9 k9 => ⟨⟨y2, _, rfl, hy2⟩, k9 _ _ e8 hcp, P9, k78.trans k9⟩⟩
          · exact ⟨⟨z, _, rfl, hz⟩, e8, P8, k78⟩
      · rintro σ H7 ⟨⟨z, v4', rfl, hz⟩, e7, P7, k7⟩
        refine ⟨_, rfl, .inl ⟨rfl, _, SqL.of e7⟩, _, rfl, c, xs, _, rfl, rfl, e7, Nat.lt_of_le_of_lt (show xs.length ≤ 40 by omega) (by decide), ?_⟩
        exact ⟨⟨_, _, _, xs ++ [.str z], rfl, upd_same, w5.app (WLv.one hz), by rw [List.length_append, List.length_singleton]; omega⟩, PoolAt.own P2 hc k7 P7, Kp.own P2 hc k7⟩
    · rintro σ H5 ⟨⟨v2, v3, v4, xs, rfl, e5, w5, l5⟩, P5, k5⟩
      exact ⟨_, rfl, q c xs H5 e5 hcp w5 (by omega) P5 (k02.trans k5)⟩
end
end K1

set_option Elab.async false
set_option linter.all false
set_option maxRecDepth 100000
set_option maxHeartbeats 2000000
namespace K1
open PySem PySem.Spec PyProof.Rows L2 Kx TL
mutual
def Sm.ml : Sm → List Int
  | .move _ _ _ m => [m]
  | .ifs _ a b => a.ml ++ b.ml
  | _ => []
def Bk.ml : Bk → List Int
  | .nil => []
  | .cons s b => s.ml ++ b.ml
end
theorem ml_sl : ∀ b : Bk, b.ml = (b.sl.map Sm.ml).flatten
  | .nil => rfl
  | .cons s b => by
    show s.ml ++ b.ml = _
    rw [ml_sl b]
    rfl
mutual
theorem ml_sm {ns : List Str} : ∀ {x : Sm} {r mv : Nat}, x.vl ns r mv → x.ml = (List.range x.mvs).map fun i => ((mv + i : Nat) : Int)
  | .set _ _, _, _, _ => rfl
  | .draw _ _, _, _, _ => rfl
  | .show_ _ _, _, _, _ => rfl
  | .pay _ _, _, _, _ => rfl
  | .move k y n m, r, mv, h => by
    obtain ⟨_, _, _, _, rfl⟩ := h
    rfl
  | .ifs e a b, r, mv, h => by
    obtain ⟨_, q, _, va, vb⟩ := h
    show a.ml ++ b.ml = (List.range (a.mvs + b.mvs)).map _
    rw [ml_bk va, ml_bk vb, List.range_add, List.map_append, List.map_map]
    congr 1
    refine List.map_congr_left fun i _ => ?_
    show ((mv + a.mvs + i : Nat) : Int) = ((mv + (a.mvs + i) : Nat) : Int)
    rw [Nat.add_assoc]
theorem ml_bk {ns : List Str} : ∀ {b : Bk} {r mv : Nat}, b.vl ns r mv → b.ml = (List.range b.mvs).map fun i => ((mv + i : Nat) : Int)
  | .nil, _, _, _ => rfl
  | .cons s b, r, mv, h => by
    obtain ⟨va, vb⟩ := h
    show s.ml ++ b.ml = (List.range (s.mvs + b.mvs)).map _
    rw [ml_sm va, ml_bk vb, List.range_add, List.map_append, List.map_map]
    congr 1
    refine List.map_congr_left fun i _ => ?_
    show ((mv + s.mvs + i : Nat) : Int) = ((mv + (s.mvs + i) : Nat) : Int)
    rw [Nat.add_assoc]
end
def spMv (n : Nat) : Sp := fun vs H Q _ => ∃ (v : V) (b : Bk), vs = [v] ∧ Dt H v (.tuple b.ds) ∧ b.ok n ∧ b.w.length ≤ 100000 ∧ ∀ (c : Addr) (H' : Hp), H' c = some (.lst (b.ml.map V.int)) → H c = none → Same H H' → Q (.ref c) H'
theorem tix3 {x y z u : V} {xs : List V} : atI (x :: y :: z :: u :: xs) 3 = some u := atI_nat (j := 3) rfl
mutual
theorem ml_le_sm : ∀ x : Sm, x.ml.length ≤ x.w.length
  | .set _ _ => Nat.zero_le _
  | .draw _ _ => Nat.zero_le _
  | .show_ _ _ => Nat.zero_le _
  | .pay _ _ => Nat.zero_le _
  | .move _ _ _ _ => by show 1 ≤ 3; decide
  | .ifs e a b => by
    have h1 := ml_le_bk a
    have h2 := ml_le_bk b
    show (a.ml ++ b.ml).length ≤ (("if" : Str) :: (e.w ++ (a.w ++ ((if b.emp then [] else ("else" : Str) :: b.w) ++ [("end" : Str)])))).length
    cases hb : b.emp with
    | true =>
      have : b.ml = [] := by
        cases b with
        | nil => rfl
        | cons _ _ => cases hb
      rw [this]
      simp only [List.length_cons, List.length_append, List.length_nil]
      omega
    | false =>
      simp only [Bool.false_eq_true, if_false, List.length_cons, List.length_append, List.length_nil]
      omega
theorem ml_le_bk : ∀ b : Bk, b.ml.length ≤ b.w.length
  | .nil => Nat.zero_le _
  | .cons s b => by
    have h1 := ml_le_sm s
    have h2 := ml_le_bk b
    show (s.ml ++ b.ml).length ≤ (s.w ++ b.w).length
    rw [List.length_append, List.length_append]
    omega
end
def mlt (b : Bk) (i : Nat) : List Int := ((b.sl.take i).map Sm.ml).flatten
theorem mlt_step {b : Bk} {i : Nat} {x : Sm} (h : b.sl[i]? = some x) : mlt b (i + 1) = mlt b i ++ x.ml := by
  unfold mlt
  rw [List.take_add_one, h, List.map_append, List.flatten_append]
  show _ ++ [x.ml].flatten = _
  rw [List.flatten_singleton]
theorem mlt_le (b : Bk) (i : Nat) : (mlt b i).length ≤ b.ml.length := by
  have : b.ml = mlt b i ++ ((b.sl.drop i).map Sm.ml).flatten := by
    rw [ml_sl]
    unfold mlt
    rw [← List.flatten_append, ← List.map_append, List.take_append_drop]
  rw [this, List.length_append]
  omega
theorem mlt_all (b : Bk) : mlt b b.ds.length = b.ml := by
  rw [ml_sl, ds_sl, List.length_map]
  unfold mlt
  rw [List.take_length]
/-- the kinds that the law asks for -/
theorem kd_mv {x : Sm} {n : Nat} (h : x.ok n) : (∃ k y m N, x = .move k y m N ∧ (k = "choose" ∨ k = "come")) ∨ (∃ e a b, x = .ifs e a b) ∨ (x.ml = [] ∧ x.kind ∈ (["set", "draw", "show", "pay", "take"] : List Str)) := by
  cases x with
  | move k y m N => exact .inl ⟨k, y, m, N, rfl, h.1⟩
  | ifs e a b => exact .inr (.inl ⟨e, a, b, rfl⟩)
  | set _ _ => exact .inr (.inr ⟨rfl, by show ("set" : Str) ∈ _; decide +kernel⟩)
  | draw _ _ => exact .inr (.inr ⟨rfl, by show ("draw" : Str) ∈ _; decide +kernel⟩)
  | show_ _ _ => exact .inr (.inr ⟨rfl, by show ("show" : Str) ∈ _; decide +kernel⟩)
  | pay k _ =>
    refine .inr (.inr ⟨rfl, ?_⟩)
    show k ∈ _
    rcases h.1 with rfl | rfl
    · decide +kernel
    · decide +kernel
theorem kind_tup {H : Hp} {v : V} {x : Sm} (h : Dt H v x.d) : ∃ a xs, v = .ref a ∧ H a = some (.tup (.str x.kind :: xs)) := by
  have : ∃ ds, x.d = .tuple (.str x.kind :: ds) := by cases x <;> exact ⟨_, rfl⟩
  obtain ⟨ds, e⟩ := this
  rw [e] at h
  obtain ⟨a, xs, rfl, ea, da⟩ := h.tupI
  cases da with
  | cons d0 _ =>
    obtain rfl := d0.strI
    exact ⟨a, _, rfl, ea⟩
theorem other_no : ∀ k ∈ (["set", "draw", "show", "pay", "take"] : List Str), ¬ k = "choose" ∧ ¬ k = "come" ∧ ¬ k = "if" := by decide +kernel
section
variable {P : Program} {w : World} {K : PySem.W.Frag} {mg : Str → Option Value} {base : Heap}
def MvG (P : Program) (w : World) (K : PySem.W.Frag) (mg : Str → Option Value) (base : Heap) (k : Nat) (f : Addr) (fd : FuncData) : Nat → Prop
  | 0 => True
  | n + 1 => Fn0 P w K mg base k "_law_moves" ["block"] (spMv n) f fd
theorem sc4v : FnScope ["block", "found", "due"] ["block"] (defScope sLMv) := ⟨rfl, rfl, rfl, by decide +kernel, rfl, by decide +kernel, by decide +kernel⟩
abbrev mvFor : List Stmt := forBody ((defBody sLMv).getD 1 (.Pass ⟨0, 0, 0, 0⟩))
/-- the turn for an if -/
theorem mv_if {k n : Nat} {f : Addr} {fd : FuncData} (G : MvG P w K mg base k f fd n) {cdv : Value} {A : Around} {outer : List Env} {s : Shared} {H : Hp} {E : XK} (hr : Room k (A.deeper (envOfC "_law_moves" (defScope sLMv) s.heap.objs.size f cdv))) :
    ∃ t, PSs (cxOf CX0 P w K mg base ["block", "found", "due"] "_law_moves" (defScope sLMv) f cdv A outer s H E).nox (mvFor.drop 1) t ∧
      (∀ (D : Ends) (v0 : Option V) (c u : Addr) (H1 : Hp) (kd : Str) (xs : List V), H1 u = some (.tup (.str kd :: xs)) → ¬ kd = "if" → D.nx [v0, some (.ref c), some (.ref u)] H1 → t D [v0, some (.ref c), some (.ref u)] H1) ∧
      (∀ (D : Ends) (v0 : Option V) (c u : Addr) (H1 : Hp) (e : Ex) (a b : Bk) (ys : List V), Dt H1 (.ref u) (Sm.ifs e a b).d → (Sm.ifs e a b).ok n → (Sm.ifs e a b).w.length ≤ 100000 → H1 c = some (.lst ys) → ys.length ≤ 100000 →
        (∀ c2 H2, H1 c2 = none → Same H1 H2 → H2 c2 = some (.lst (ys ++ (Sm.ifs e a b).ml.map V.int)) → D.nx [v0, some (.ref c2), some (.ref u)] H2) → t D [v0, some (.ref c), some (.ref u)] H1) := by
  cases n with
  | zero =>
    refine ⟨_, pss_one (ps_if (pt_cmpR op_eq (pe_ix ix_tup (pv 2) pe_int (fun _ _ => rfl)) pe_str (nomark _)) (pss_one ps_never) pss_nil), fun D v0 c u H1 kd xs eu hk hd => ?_, fun D v0 c u H1 e a b ys hv ho _ _ _ _ => ?_⟩
    · exact ⟨_, rfl, u, _, _, _, rfl, rfl, SqT.of eu, tix0, rfl, _, rfl, iteFe (nope hk) hd⟩
    · obtain ⟨_, q, hq, _⟩ := ho
      cases hq
  | succ n =>
    have G : Fn0 P w K mg base k "_law_moves" ["block"] (spMv n) f fd := G
    refine ⟨_, pss_one (ps_if (pt_cmpR op_eq (pe_ix ix_tup (pv 2) pe_int (fun _ _ => rfl)) pe_str (nomark _))
      (pss_one (ps_set (i := 1) sc4v.nd rfl (Or.inl rfl) (pe_op op_cat (pe_op op_cat (pv 1) (pe_call G.ok hr (by rfl) G.gl G.kp G.bd .nil pass0 (pa_cons (pe_ix ix_tup (pv 2) pe_int (fun _ _ => rfl)) pa_nil))) (pe_call G.ok hr (by rfl) G.gl G.kp G.bd .nil pass0 (pa_cons (pe_ix ix_tup (pv 2) pe_int (fun _ _ => rfl)) pa_nil))))) pss_nil), fun D v0 c u H1 kd xs eu hk hd => ?_, fun D v0 c u H1 e a b ys hv ho hw ec ly hd => ?_⟩
    · exact ⟨_, rfl, u, _, _, _, rfl, rfl, SqT.of eu, tix0, rfl, _, rfl, iteFe (nope hk) hd⟩
    · obtain ⟨_, q, hq, va, vb⟩ := ho
      obtain rfl := Nat.succ.inj hq
      obtain ⟨u', us, eu', eu, da⟩ := hv.tupI
      cases eu'
      obtain ⟨w0, w1, w2, w3, rfl, d0, d1, d2, d3⟩ := da.c4
      obtain rfl := d0.strI
      have la : a.w.length ≤ 100000 ∧ b.w.length ≤ 100000 := by
        have hw : (("if" : Str) :: (e.w ++ (a.w ++ ((if b.emp then [] else ("else" : Str) :: b.w) ++ [("end" : Str)])))).length ≤ 100000 := hw
        cases hb : b.emp with
        | true =>
          rw [hb] at hw
          simp only [if_true, List.length_cons, List.length_append, List.length_nil] at hw
          refine ⟨by omega, ?_⟩
          cases b with
          | nil => exact Nat.zero_le _
          | cons _ _ => cases hb
        | false =>
          rw [hb] at hw
          simp only [Bool.false_eq_true, if_false, List.length_cons, List.length_append, List.length_nil] at hw
          omega
      have ma := ml_le_bk a
      have mb := ml_le_bk b
      refine ⟨_, rfl, u, _, _, _, rfl, rfl, SqT.of eu, tix0, rfl, _, rfl, iteTe (yep rfl) ?_⟩
      refine ⟨_, rfl, _, rfl, u, _, _, _, rfl, rfl, SqT.of eu, tix2, w2, a, rfl, d2, va, la.1, fun c1 H2 e1 f1 s1 => ?_⟩
      refine ⟨c, c1, ys, _, rfl, rfl, s1 _ _ ec, e1, sz (by rw [List.length_map]; omega), fun c2 f2 => ?_⟩
      have s2 := same_upd (o := .lst (ys ++ a.ml.map V.int)) f2
      refine ⟨_, rfl, u, _, _, _, rfl, rfl, SqT.of ((s1.trans s2) _ _ eu), tix3, w3, b, rfl, Dt.keep (Tk.same (s1.trans s2)) d3, vb, la.2, fun c3 H4 e3 f3 s3 => ?_⟩
      refine ⟨c2, c3, _, _, rfl, rfl, s3 _ _ upd_same, e3, ?_, fun c4 f4 => ?_⟩
      · have h1 : (ys ++ a.ml.map V.int).length ≤ 200000 := by rw [List.length_append, List.length_map]; omega
        have h2 : (b.ml.map V.int).length ≤ 100000 := by rw [List.length_map]; omega
        exact Nat.le_trans (Nat.add_le_add h1 h2) (by decide)
      · have s4 := same_upd (o := .lst (ys ++ a.ml.map V.int ++ b.ml.map V.int)) f4
        refine hd c4 _ (((s1.trans s2).trans s3).free f4) (((s1.trans s2).trans s3).trans s4) ?_
        rw [upd_same, List.append_assoc]
        show _ = some (HO.lst (ys ++ (a.ml ++ b.ml).map V.int))
        rw [List.map_append]
theorem ok_lmv {k n : Nat} {f : Addr} {fd : FuncData} (F : Fun K "_law_moves" "_law_moves" sLMv f fd) (G : MvG P w K mg base k f fd n) : FnOk P w K mg base CX0 (k + 1) f fd ["block"] (spMv n) := by
  refine F.ok sc4v (fun vs H Q E h => ?_) (fun cdv A outer s H vs Q E hr h => ?_)
  · obtain ⟨v, b, rfl, _⟩ := h
    rfl
  · obtain ⟨v, b, rfl, hv, ho, hw, q⟩ := h
    obtain ⟨a, xs, rfl, ea, da⟩ := hv.tupI
    obtain ⟨t, ht, no, yes⟩ := mv_if (outer := outer) (H := H) (E := E) G hr
    have ml0 := ml_le_bk b
    refine ⟨_, pss_cons (ps_set (i := 1) sc4v.nd rfl (Or.inl rfl) (pe_lst pa_nil))
      (pss_cons (ps_for PassesOwn.never rfl (pi_tup (pv 0)) (pg_name (i := 2) sc4v.nd rfl (Or.inl rfl))
        (pss_cons (ps_if (pt_cmpR op_in_seq (pe_ix ix_tup (pv 2) pe_int (fun _ _ => rfl)) (pe_tup (pa_cons pe_str (pa_cons pe_str pa_nil))) rfl)
          (pss_one (ps_expr (pe_bm PySem.F.plainAttrs_list PySem.F.slot_list_append PySem.F.type_list_append mt_append (pv 1) (pa_cons (pe_ix ix_tup (pv 2) pe_int (fun _ _ => rfl)) pa_nil)))) pss_nil) ht))
      (pss_one (ps_ret (pv 1)))), ?_⟩
    refine ⟨Nat.zero_le _, fun c hc => ?_⟩
    have s0 := same_upd (o := .lst []) hc
    refine ⟨_, rfl, a, rfl, ⟨xs, SqT.of (s0 _ _ ea)⟩, for_it (walk_tup (K := K) (a := a) (xs := xs)) (fun i σ H' => ∃ c v2, σ = [some (.ref a), some (.ref c), v2] ∧ H c = none ∧ Same H H' ∧ H' c = some (.lst ((mlt b i).map V.int))) ⟨c, _, rfl, hc, s0, upd_same⟩ (fun i σ H' _ h => ?_) ?_ ?_⟩
    · obtain ⟨c, v2, _, _, s', _⟩ := h
      exact SqT.of (s' _ _ ea)
    · rintro i v σ H1 H2 hi ⟨c1, v2, rfl, f1, s1, e1⟩ ⟨rfl, hx⟩
      obtain ⟨d, hd, dv⟩ := da.get hx
      rw [ds_sl, List.getElem?_map] at hd
      obtain ⟨x, hsl, rfl⟩ := Option.map_eq_some_iff.mp hd
      have hok := ok_sl ho x (List.mem_of_getElem? hsl)
      have dv1 := Dt.keep (Tk.same s1) dv
      obtain ⟨u, us, rfl, eu⟩ := kind_tup dv1
      have lm := mlt_le b i
      have lm1 := mlt_le b (i + 1)
      rw [mlt_step hsl] at *
      refine ⟨_, rfl, u, _, _, _, rfl, rfl, SqT.of eu, tix0, (by show 2 ≤ sizeLine; decide), fun tp htp => ?_⟩
      have s2 := same_upd (o := .tup [.str ("choose" : Str), .str ("come" : Str)]) htp
      refine ⟨tp, [.str ("choose" : Str), .str ("come" : Str)], rfl, .inr (SqT.of upd_same), rfl, rfl, _, rfl, ?_⟩
      rw [str_in2]
      have e2 := s2 _ _ e1
      have eu2 := s2 _ _ eu
      rcases kd_mv hok with ⟨k0, y, m0, N, rfl, hk⟩ | ⟨e, a1, b1, rfl⟩ | ⟨hml, hkd⟩
      · have dv2 := Dt.keep (Tk.same s2) dv1
        obtain ⟨u', us', eu', eu3, da3⟩ := dv2.tupI
        cases eu'
        obtain ⟨w0, w1, w2, w3, rfl, d0, d1, d2, d3⟩ := da3.c4
        obtain rfl := d0.strI
        obtain rfl := d3.intI
        have et : (decide (Sm.kind (.move k0 y m0 N) = "choose") || decide (Sm.kind (.move k0 y m0 N) = "come")) = true := by
          show (decide (k0 = "choose") || decide (k0 = "come")) = true
          rcases hk with z | z
          · rw [decide_eq_true z, Bool.true_or]
          · rw [decide_eq_true z, Bool.or_true]
        have nif : ¬ k0 = "if" := by rcases hk with rfl | rfl <;> decide +kernel
        refine iteTe et ⟨_, rfl, .inl ⟨rfl, _, SqL.of e2⟩, _, rfl, u, _, _, _, rfl, rfl, SqT.of eu3, tix3, c1, _, _, rfl, rfl, e2, ?_, ?_⟩
        · rw [List.length_map]
          exact Nat.lt_of_le_of_lt (show (mlt b i).length ≤ 100000 by omega) (by decide)
        · refine no _ _ c1 u _ k0 _ (by rw [upd_ne (ne_of eu3 e2 (by intro z; cases z))]; exact eu3) nif ⟨c1, _, rfl, f1, fun g o eg => ?_, ?_⟩
          · rw [upd_ne (ne_of_none eg f1)]
            exact s2 _ _ (s1 _ _ eg)
          · rw [upd_same, List.map_append]
            rfl
      · have nt' : (decide (Sm.kind (.ifs e a1 b1) = "choose") || decide (Sm.kind (.ifs e a1 b1) = "come")) = false := by
          show (decide (("if" : Str) = "choose") || decide (("if" : Str) = "come")) = false
          decide +kernel
        refine iteFe nt' (yes _ _ c1 u _ e a1 b1 _ (Dt.keep (Tk.same s2) dv1) hok ?_ e2 (by rw [List.length_map]; omega) fun c2 H2 f2 s3 e3 => ⟨c2, _, rfl, (s1.trans s2).free f2, (s1.trans s2).trans s3, ?_⟩)
        · have h1 := tkw_le b (i + 1)
          rw [tkw_succ hsl, List.length_append] at h1
          omega
        · rw [List.map_append]
          exact e3
      · have nn := other_no _ hkd
        have nt' : (decide (x.kind = "choose") || decide (x.kind = "come")) = false := by
          rw [decide_eq_false nn.1, decide_eq_false nn.2.1]
          rfl
        refine iteFe nt' (no _ _ c1 u _ x.kind _ eu2 nn.2.2 ⟨c1, _, rfl, f1, s1.trans s2, ?_⟩)
        rw [hml, List.append_nil]
        exact e2
    · rintro σ H1 ⟨c1, v2, rfl, f1, s1, e1⟩
      rw [da.length, mlt_all] at e1
      exact ⟨_, rfl, q c1 H1 e1 f1 s1⟩
end
end K1

set_option Elab.async false
set_option linter.all false
set_option maxRecDepth 100000
set_option maxHeartbeats 4000000
/-! isinstance, and a field, of a caught error that has a dict of its own. -/
namespace Kx
open PySem PySem.W PySem.Spec PySem.Calls PyProof.Rows L2
section
variable {prog : Program} {w : World} {A : Around} {E : Value → Shared → Prop} {s : Shared} {K : Frag} {x D : Addr} {ox : Obj} {od : Option Obj}
theorem find_dsc {C : Addr} {name : Str} {a g : Value} (c1 : (clsIn K C).isSome = true) (c2 : findIn K (.ref C) name = some (some a)) (c3 : specialIn K a "__get__" = some (some g)) (c4 : takesIn K a = some true) : findObj K C od name = some (.bind g a) := by
  obtain ⟨cd, e⟩ := Option.isSome_iff_exists.mp c1
  unfold findObj
  rw [e, Option.bind_some, c2, Option.bind_some] ; simp [c3, c4]
theorem cls_of_err {Q : Option Value → Shared → Prop} (C : ExcC K D) (X : K.In s.heap) (I : InstAt s.heap x ox D od) (q : Q (some (.ref D)) { s with toks := s.toks + 1 }) : wpAny (model prog w) A (getAttr? (.ref x) "__class__") Q E s := by
  have hfo : findObj K D od "__class__" = some (.bind (.builtin "getset_descriptor.__get__") (.builtin "object.__class__")) := find_dsc (by obtain ⟨_, e, _⟩ := any_some C.hd; rw [e]; rfl) C.ha C.hn C.ht
  obtain ⟨hp, gg, dd, tk, os⟩ := s
  have la := I.type (M := model prog w) ; have lb := looks_findIn (M := model prog w) X C.hg ; have lc := looks_findIn (M := model prog w) X C.hk ; have ld := looks_find (M := model prog w) X I hfo
  have isb : Looks (model prog w) hp (isInstance (.ref x) (.type "BaseException")) true := la.andThen (looks_subIn X C.hs)
  have f0 : (false && onTheHeap (Value.builtin "BaseException.__getattribute__")) = false := rfl
  have f1 : (onTheHeap (Value.ref D) && Value.builtin "BaseException.__getattribute__" == Value.builtin "object.__getattribute__") = false := by rw [show (Value.builtin "BaseException.__getattribute__" == Value.builtin "object.__getattribute__") = false from by decide +kernel, Bool.and_false]
  unfold getAttr? getAttrBy? getAttrBy
  refine wpAny_bind (wpAny_mkText (wpAny_bind (wpAny_attempt (wpAny_holding (wpAny_bind (la.at (wpAny_bind (lb.at ?_)))))))) ; show wpAny _ _ (if (onTheHeap (Value.ref D) && Value.builtin "BaseException.__getattribute__" == Value.builtin "object.__getattribute__") = true then _ else _) _ _ _
  rw [f1, if_neg Bool.false_ne_true]
  unfold getAttrByItsOwn hookBefore
  refine wpAny_bind ?_ ; rw [if_pos (show onTheHeap (Value.ref D) = true from rfl)]
  refine lc.at ?_ ; refine wpAny_bind (wpAny_attempt (wpAny_holding ?_))
  unfold callGetattribute ; rw [f0, if_neg Bool.false_ne_true]
  unfold boundAndCalled ; rw [PySem.F.excAttr_ValueError.ga.bind (.ref x)]
  refine wpAny_bind (wpAny_pure ?_) ; show wpAny _ _ (call (.builtin "BaseException.__getattribute__") [.ref x, .str "__class__" tk]) _ _ _
  refine wpAny_call (codeAny_call_builtin PySem.F.excAttr_ValueError.ga.plain PySem.F.entry_bexc_ga ?_)
  refine @check_slot (model prog w) _ _ ⟨hp, gg, dd, tk + 1, os⟩ "BaseException.__getattribute__" "BaseException" "__getattribute__" (.ref x) [.str "__class__" tk] [] _ (by decide +kernel) (by decide +kernel) isb (PySem.F.args_bexc_ga (.ref x) (.str "__class__" tk)) ?_
  unfold Builtin.«object.__getattribute__»
  refine wpAny_bind (wpAny_of_eq (a := ((Value.ref x : Value), [Value.str "__class__" tk])) (by first | rfl | (simp only [slotArgs]; rfl)) ?_) ; refine wpAny_bind (wpAny_pure (wpAny_bind (la.at (wpAny_bind (ld.at ?_)))))
  show wpAny _ _ (holding [Value.builtin "object.__class__"] (call (.builtin "getset_descriptor.__get__") [.builtin "object.__class__", .ref x, .ref D]) >>= ret) _ _ _
  refine wpAny_bind (wpAny_holding (wpAny_call (class_get (s := ⟨hp, gg, dd, tk + 1, os⟩) (ox := ox) (od := od) X I C.hm ?_))) ; refine wpAny_pure ?_
  show wpAny _ _ (handedOut (.ref D)) _ _ _
  rw [handedOut_of (v := .ref D) rfl]
  first | exact wpAny_pure (wpAny_pure q) | exact wpAny_pure q | exact wpAny_pure (wpAny_bind (wpAny_pure (wpAny_pure q)))
theorem kit_of_err (C : ExcC K D) : KitX K (.ref x) (.ref D) (fun h => InstAt h x ox D od) where
  ty := fun M h X I => I.type
  it := fun M h X I => by
    obtain ⟨cd, e, _⟩ := any_some C.hd ; unfold clsIn at e
    split at e
    · rename_i _ _ _ _ ho
      intro A' Q' E' s' k q ; unfold isType loadHead
      exact wpAny_bind (wpAny_loadPart (k _ _ (X _ _ ho)) (wpAny_pure q))
    · cases e
  ne := fun h tp dd its n sl X ht => by
    obtain ⟨cd, e, _⟩ := any_some C.hd ; refine Bool.eq_false_iff.mpr fun q => ?_
    have same : D = tp := Value.ref.inj (beq_iff_eq.mp q) ; subst same ; unfold clsIn at e
    split at e
    · rename_i _ _ _ _ ho
      have z := (X _ _ ho).symm.trans ht ; cases z
    · cases e
  ca := fun X I k => cls_of_err C X I k
end
end Kx
namespace Kx
open PySem PySem.Spec PyProof.Rows L2
section
variable {X : Cx} {a D : Addr} {oe : Obj} {pn : List (Addr × Obj)} {cls : Value} {d : Option Addr}
/-- how the caught error stands: its class, its dict's one field -/
theorem err_inst {s : Shared} {H : Hp} {f : Str} {v : V} (hz : Zc cls d oe) (hf : ∃ vs, oe.data = .fields vs) {dd : Addr} (ec : cls = .ref D) (ed : d = some dd) (ha : s.heap.get? a = some oe) (hok : ObjOk X.prog X.w H s.heap dd (.xd [(f, v)])) :
    ∃ od u, PySem.W.InstAt s.heap a oe D (some od) ∧ PySem.W.lookIn f od = some (some u) ∧ RelV v u := by
  obtain ⟨mA, hns, hr⟩ := hok
  obtain ⟨od, ho, hl⟩ := lookIn_ns hns
  have l : List.lookup f [(f, v)] = some v := by simp [List.lookup]
  obtain ⟨u, hu, ru⟩ := RelO.some_of (v := v) (o := mA f) (by rw [← l]; exact hr f)
  obtain ⟨vs, hd⟩ := hf
  refine ⟨od, u, ⟨ha, by rw [hz.1, ec], by unfold PySem.W.notCls; rw [hd] <;> rfl, by rw [hz.2, ed]; exact ho⟩, by rw [hl, hu], ru⟩
def rErr1 (K : PySem.W.Frag) (D a : Addr) (f : Str) (cls : Value) (d : Option Addr) : List V → Hp → VK → Prop := fun xs H Q => ∃ (dd : Addr) (v c : V) (cv : Value) (b : Bool), cls = .ref D ∧ d = some dd ∧ H dd = some (.xd [(f, v)]) ∧ xs = [.ref a, c] ∧ (∀ u, RelV c u → u = cv) ∧ PySem.W.kitOne K (.ref D) cv = some b ∧ Q (.bl b) H
theorem call_err1 {f : Str} (C : ExcC X.K D) (hz : Zc cls d oe) (hf : ∃ vs, oe.data = .fields vs) : CallR (X.suite a ((a, oe) :: pn)) (.builtin "isinstance") (rErr1 X.K D a f cls d) := by
  intro pins s σ H xs us Q I r h
  obtain ⟨dd, v, c, cv, b, ec, ed, hd, rfl, hcv, e, q⟩ := h
  obtain ⟨u1, u2, rfl, r1, r2⟩ := vals2 r
  cases (show u1 = Value.ref a from r1)
  have e2 := hcv _ r2
  subst e2
  obtain ⟨ha, _⟩ := I.pin (a, oe) (List.mem_append.mpr (.inl List.mem_cons_self))
  obtain ⟨od, u, J, _, _⟩ := err_inst (X := X) hz hf ec ed ha (I.hok dd _ hd)
  exact PySem.W.kia_one (kit_of_err C) I.kIn J e (fun z => nomatch z) fun tk => ⟨.bl b, H, I.kept (t' := tk) fun _ _ z => z, rfl, q⟩
def rErrT (K : PySem.W.Frag) (D a : Addr) (f : Str) (cls : Value) (d : Option Addr) : List V → Hp → VK → Prop := fun xs H Q => ∃ (dd : Addr) (v : V) (tp : Addr) (cs : List V) (us : List Value) (b : Bool), cls = .ref D ∧ d = some dd ∧ H dd = some (.xd [(f, v)]) ∧ xs = [.ref a, .ref tp] ∧ H tp = some (.tup cs) ∧ Paired ClsV cs us ∧ PySem.W.kitAny K (.ref D) us = some b ∧ Q (.bl b) H
theorem call_errT {f : Str} (C : ExcC X.K D) (hz : Zc cls d oe) (hf : ∃ vs, oe.data = .fields vs) : CallR (X.suite a ((a, oe) :: pn)) (.builtin "isinstance") (rErrT X.K D a f cls d) := by
  intro pins s σ H xs us Q I r h
  obtain ⟨dd, v, tp, cs, ws, b, ec, ed, hd, rfl, hT, k, e, q⟩ := h
  obtain ⟨u1, u2, rfl, r1, r2⟩ := vals2 r
  cases (show u1 = Value.ref a from r1)
  cases (show u2 = Value.ref tp from r2)
  obtain ⟨ha, _⟩ := I.pin (a, oe) (List.mem_append.mpr (.inl List.mem_cons_self))
  obtain ⟨od, u, J, _, _⟩ := err_inst (X := X) hz hf ec ed ha (I.hok dd _ hd)
  obtain ⟨_, its, rv, o, h1, h2, n, h3⟩ := (show ObjOk X.prog X.w H s.heap tp (.tup cs) from I.hok tp _ hT)
  have e3 := ClsV.all k rv
  subst e3
  obtain ⟨oc, oD, dt, sl⟩ := o
  simp only at h2 h3
  subst h2 h3
  exact PySem.W.kia_tup (kit_of_err C) I.kIn J h1 e (fun z => nomatch z) fun tk => ⟨.bl b, H, I.kept (t' := tk) fun _ _ z => z, rfl, q⟩
/-- e.f of the caught error -/
def tErrF (D a : Addr) (f : Str) (cls : Value) (d : Option Addr) (te : TE) : TE := fun σ H Q => te σ H fun x H1 => ∃ (dd : Addr) (v : V), x = .ref a ∧ cls = .ref D ∧ d = some dd ∧ H1 dd = some (.xd [(f, v)]) ∧ Q v H1
theorem pe_errF {f : Str} {e : Expr} {te : TE} {pos : Pos} (C : ExcC X.K D) (no : PySem.W.findIn X.K (.ref D) f = some none) (hz : Zc cls d oe) (hf : ∃ vs, oe.data = .fields vs) (he : PE (X.suite a ((a, oe) :: pn)) e te)
    (hb : attributeBase e f X.env (eval e X.env) = eval e X.env := by rfl) : PE (X.suite a ((a, oe) :: pn)) (.Attribute e f pos) (tErrF D a f cls d te) := by
  refine ⟨fun pins s σ H Q I h => attr_of hb (thn (he.run pins s σ H _ I h) fun u s1 hh => ?_)⟩
  obtain ⟨x, H1, I1, rx, dd, v, ex, ec, ed, ea, q⟩ := hh
  subst ex
  obtain rfl : u = Value.ref a := rx
  obtain ⟨ha, _⟩ := I1.pin (a, oe) (List.mem_append_left _ List.mem_cons_self)
  obtain ⟨od, y, J, hl, ry⟩ := err_inst (X := X) hz hf ec ed ha (I1.hok dd _ ea)
  exact HandSPX.exc_get I1.kIn J C.hg C.hk C.hs (PySem.W.findObj_own C.hd no rfl hl) (handed_of ry) ⟨v, H1, I1.tok _, ry, q⟩
end
end Kx

set_option Elab.async false
set_option linter.all false
set_option maxRecDepth 100000
set_option maxHeartbeats 4000000
/-! A call of a def in an except suite, where nothing is known of the caught error's context: for defs that raise nothing. -/
namespace Kx
open PySem PySem.Spec PyProof.Rows L2
structure FnW (P : Program) (w : World) (K : PySem.W.Frag) (mg : Str → Option Value) (base : Heap) (CX : CXT) (k : Nat) (f : Addr) (fd : FuncData) (ps : List Str) (sp : Sp) : Prop where
  len : ∀ vs H Q E, sp vs H Q E → vs.length = ps.length
  run : ∀ (A : Around) (outer : List Env) (s : Shared) (H : Hp) (args : Args) (us : List Value) (vs : List V) (Q : VK) (E : XK) (p : Addr × Obj), L2H.RoomH k A → L2H.PinOk outer H s p → Env0 P w K mg base A outer s H → BindsTo s fd args (ps.zip us) → Vals vs us → sp vs H Q E →
    codeAny (model P w) A (.call (.ref f) args) (CR CX outer P w H s Q E) s
theorem fn_ofW {CX : CXT} {P : Program} {w : World} {K : PySem.W.Frag} {mg : Str → Option Value} {base : Heap} {k : Nat} {f : Addr} {name qual : Str} {params : Arguments} {body : List Stmt} {scope : Scope} {dV kV doc pm cdv ct oc : Value} {an od : Option Addr} {osl : Array (Option Value)} {N ps : List Str} {sp : Sp}
    (lk : List.lookup f K = some ⟨oc, od, .func (PySem.W.fnOf name qual params body scope dV kV doc pm an cdv ct), osl⟩) (hcd : PySem.W.codeIn K cdv qual = true) (S : FnScope N ps scope) (len : ∀ vs H Q E, sp vs H Q E → vs.length = ps.length)
    (hbody : ∀ (A : Around) (outer : List Env) (s : Shared) (H : Hp) (vs : List V) (Q : VK) (E : XK) (p : Addr × Obj), L2H.RoomH k (A.deeper (envOfC qual scope s.heap.objs.size f cdv)) → sp vs H Q E →
      ∃ t, PSs (L2H.cxH CX P w K mg base N qual scope f cdv A outer s H E p) body t ∧ t { nx := fun _ H' => Q .non H', rt := Q } (L2.start N vs) H) :
    FnW P w K mg base CX (k + 1) f (PySem.W.fnOf name qual params body scope dV kV doc pm an cdv ct) ps sp := by
  refine ⟨len, fun A outer s H args us vs Q E p hr hpin e0 hb r hsp => ?_⟩
  have hl := len vs H Q E hsp
  have KX := PySem.W.Frag.In.keeps e0.mod.kin fun b o e => (e0.bs b o e).left
  have lim := Heap.NoLimit.keeps e0.mod.nolimit fun b o e => (e0.bs b o e).left
  refine codeAny_call_function (L2H.RoomH.depth hr) (KX f _ lk) rfl S.co S.gen rfl (PySem.W.codeRec_of KX hcd) (hb _ _ _ _ (wpAny_newFunctionEnv_cells S.kind (fun x hy => ?_) fun env he s1 x => ?_))
  · obtain ⟨n, v⟩ := x
    exact (S.par n (List.of_mem_zip hy).left).elim (fun q => Or.inl q) fun q => Or.inr ⟨q, PySem.W.cellsFrom_some scope.names (s.heap.objs.size + 1) [] (Or.inl q)⟩
  · subst he
    refine ⟨Heap.NoLimit.keeps lim x.toInCall.keep, codeAny_func ?_⟩
    obtain ⟨t, ht, hq⟩ := hbody A outer s H vs Q E p (L2H.RoomH.deeper hr (envOfC qual scope s.heap.objs.size f cdv)) hsp
    have I := L2H.inv_startH (CX := CX) (E := E) S hpin e0 hl r x
    refine wpAny_mono (ht.run [] s1 (L2.start N vs) H _ I hq) (fun fl s' hs => ?_) fun e s' hs => hs
    cases fl with
    | next =>
      obtain ⟨σ', H', J, q⟩ := hs
      exact ⟨.non, H', J.os, J.bare, J.base, J.hok, rfl, q⟩
    | brk =>
      obtain ⟨_, _, _, q⟩ := hs
      exact q.elim
    | cont =>
      obtain ⟨_, _, _, q⟩ := hs
      exact q.elim
    | ret u =>
      obtain ⟨v, σ', H', J, rv, q⟩ := hs
      exact ⟨_, H', J.os, J.bare, J.base, J.hok, rv, q⟩
section
variable {X : Cx} {CX : CXT} {k : Nat} {f : Addr} {fd : FuncData} {ps : List Str} {sp : Sp}
theorem run_fnW {E : L2.St → XK} {pins : List (Addr × Obj)} {σ : L2.St} {H : Hp} {s : Shared} {Q : VK} {us : List Value} {vs : List V} (F : FnW X.prog X.w X.K X.mg X.base CX k f fd ps sp) (hr : L2H.RoomH k X.A) (hc : ∃ p, p ∈ X.pn) (hb : L2.Binds X.K fd ps []) (hx : PassesAt CX X σ (E σ)) (I : L2.Inv X pins σ H s) (r : Vals vs us) (h : sp vs H Q (E σ)) :
    wpAny (model X.prog X.w) X.A (call (.ref f) us) (EP X pins σ Q) X.xe s := by
  obtain ⟨p, hp⟩ := hc
  have hl : us.length = ps.length := by rw [← r.length]; exact F.len vs H Q (E σ) h
  have b := hb s us (Inv.kIn I) (by rw [List.append_nil]; exact hl)
  rw [List.append_nil] at b
  have P1 := I.pin p (List.mem_append_left pins hp)
  have hpin : L2H.PinOk X.stack H s p := ⟨P1.1, P1.2.1, fun hm => (List.mem_cons.mp (Inv.stkSub I p.fst hm)).elim P1.2.2.1 P1.2.2.2.1, P1.2.2.2.2⟩
  refine wpAny_call (codeAny_mono (F.run X.A X.stack s H { pos := us } us vs Q (E σ) p hr hpin (Inv.env0 I) b r h) fun r s' hq => ?_)
  cases r with
  | error e => exact hx pins H s e s' I hq
  | ok fl =>
    cases fl with
    | ret u => exact Inv.after I hq
    | next => exact hq.elim
    | brk => exact hq.elim
    | cont => exact hq.elim
theorem pe_callW {E : L2.St → XK} {x : Str} {q pos : Pos} {e : Expr} {es : List Expr} {t : TA} (F : FnW X.prog X.w X.K X.mg X.base CX k f fd ps sp) (hr : L2H.RoomH k X.A) (hc : ∃ p, p ∈ X.pn) (hg : Gl X x) (hm : X.mg x = some (.ref f)) (hk : PySem.W.keepIn X.K (.ref f) = true)
    (hb : L2.Binds X.K fd ps []) (hx : ∀ σ, PassesAt CX X σ (E σ)) (ha : PA X (e :: es) t) (hdb : (x == "__debug__") = false := by rfl) (he : starEach (e :: es) X.env = (false, eval e X.env) :: starEach es X.env := by rfl) (hpl : ((backTo pos (starEach es X.env)).any fun x => x.fst) = false := by rfl) :
    PE X (.Call (.Name x q) (e :: es) [] pos) (tCallS sp E t) :=
  ⟨fun pins s σ H Q I h => wpAny_Call_Name_kw (ld_glob I hg hm (PySem.W.callWith_K I.ok.mod.kin hk (thn (ha.run pos pins s σ H (fun vs H1 => sp vs H1 Q (E σ)) I h) fun us s1 x => by
    obtain ⟨vs, H1, I1, r, q⟩ := x
    exact ⟨Inv.kIn I1, run_fnW F hr hc hb (hx σ) I1 r q⟩) he hpl) hdb)⟩
end
end Kx

set_option Elab.async false
set_option linter.all false
set_option maxRecDepth 100000
set_option maxHeartbeats 2000000
namespace K1
open PySem PySem.Spec PyProof.Rows L2 Kx TL
/-! ### texts of drawn words -/
structure TX (us : List Str) : Prop where
  wd : ∀ z ∈ us, 32 ∉ tl z ∧ z.length ≤ 60
  len : us.length ≤ 20020
  ne : us ≠ [Str.empty]
def txt (us : List Str) : Str := Txt.join (" " : Str) us
theorem sp32 : tl (" " : Str) = [32] ∧ (" " : Str).length = 1 := by decide +kernel
theorem sum_60 : ∀ {us : List Str}, (∀ z ∈ us, z.length ≤ 60) → (us.map (·.length)).sum ≤ 60 * us.length
  | [], _ => Nat.le_refl _
  | z :: r, h => by
    have h1 := h z (List.mem_cons_self ..)
    have h2 := sum_60 (us := r) fun y hy => h y (List.mem_cons_of_mem _ hy)
    rw [List.map_cons, List.sum_cons, List.length_cons]
    omega
theorem TX.join {us : List Str} (h : TX us) : JoinOk us := by
  unfold JoinOk
  have h1 := sum_60 fun z hz => (h.wd z hz).2
  have h2 := h.len
  rw [sp32.2]
  omega
theorem TX.tlen {us : List Str} (h : TX us) : (txt us).length + 2 ≤ sizeLine := by
  unfold txt
  rw [TL.join_eq, TL.len_tl, TL.tl_join, sp32.1]
  have h1 := joinL_len [32] (us.map tl)
  have h2 : ((us.map tl).map List.length).sum = (us.map (·.length)).sum := by
    rw [List.map_map]
    exact congrArg List.sum (List.map_congr_left fun z _ => (len_tl z).symm)
  have h3 := sum_60 fun z hz => (h.wd z hz).2
  have h4 := h.len
  rw [h2, List.length_map] at h1
  exact Nat.le_trans (show _ ≤ 2000000 by simp only [List.length_singleton] at h1; omega) (by decide)
theorem TX.back {us : List Str} (h : TX us) : wordsOf (txt us) = us := by
  unfold txt
  cases us with
  | nil => decide +kernel
  | cons x r =>
    have hl : (Txt.join " " (x :: r)).length ≠ 0 := by
      rw [TL.join_eq, TL.len_tl, TL.tl_join, sp32.1]
      cases r with
      | nil =>
        show (tl x).length ≠ 0
        intro z
        have : x = Str.empty := ext_tl (by rw [List.length_eq_zero_iff.mp z]; decide +kernel)
        exact h.ne (by rw [this])
      | cons y r =>
        show (tl x ++ ([32] ++ joinL [32] ((y :: r).map tl))).length ≠ 0
        rw [List.length_append, List.length_append, List.length_singleton]
        omega
    unfold wordsOf
    rw [if_neg hl]
    exact split_join sp32.1 (by decide +kernel) (by simp) fun p hp => (h.wd p hp).1
theorem TX.split {us : List Str} (h : TX us) (hl : (txt us).length ≠ 0) : Txt.split (txt us) " " = us := by
  have := h.back
  unfold wordsOf at this
  rw [if_neg hl] at this
  exact this
theorem TX.small {us : List Str} (h : TX us) : us.length ≤ 100000 ∧ ∀ z ∈ us, z.length ≤ sizeLine := ⟨by have := h.len; omega, fun z hz => sz (by have := (h.wd z hz).2; omega)⟩
section
variable {P : Program} {w : World} {K : PySem.W.Frag} {mg : Str → Option Value} {base : Heap}
/-- _law_same of two numbers, where an error is handled -/
theorem ok_sameH {f : Addr} {fd : FuncData} (F : Fun K "_law_same" "_law_same" sSame f fd) (T : TxL mg) : FnW P w K mg base CX0 1 f fd ["actual", "due"] (spSame 0) := by
  obtain ⟨oc, od, kV, doc, pm, an, cdv, ct, osl, rfl, lk, hcd⟩ := F.ex
  refine fn_ofW lk hcd scSa (fun vs H Q E h => ?_) (fun A outer s H vs Q E p hr h => ?_)
  · obtain ⟨x, y, rfl, _⟩ := h
    rfl
  · obtain ⟨x, y, rfl, hs, q⟩ := h
    refine ⟨_, pss_cons (ps_if (PW.pt (pw_or (pt_val (pe_callB call_isi (by rfl) T.isi (by decide +kernel) (pa_cons (pv 1) (pa_cons (pe_bltn (v := .ty "tuple") (by rfl) T.tuple (by decide +kernel) rfl) pa_nil))))
          (pw_or1 (pt_val (pe_callB call_isi (by rfl) T.isi (by decide +kernel) (pa_cons (pv 1) (pa_cons (pe_bltn (v := .ty "list") (by rfl) T.list (by decide +kernel) rfl) pa_nil)))))))
        (pss_cons ps_never (pss_cons ps_never (pss_cons ps_never (pss_one ps_never)))) pss_nil)
      (pss_cons (ps_if (PW.pt (pw_or (pt_cmpR op_isN (pv 1) pe_non (nomark _)) (pw_or1 (pt_val (pe_callB call_isi (by rfl) T.isi (by decide +kernel) (pa_cons (pv 1) (pa_cons (pe_bltn (v := .ty "bool") (by rfl) T.bool (by decide +kernel) rfl) pa_nil)))))))
        (pss_one (ps_ret (pe_and (pe_cmpR op_eq (pe_cmpR op_isN (pv 0) pe_non (nomark _)) (pe_cmpR op_isN (pv 1) pe_non (nomark _)) (nomark _))
          (pe_and (pe_or (pe_cmpR op_isN (pv 1) pe_non (nomark _)) (pe_one (pe_callB call_isi (by rfl) T.isi (by decide +kernel) (pa_cons (pv 0) (pa_cons (pe_bltn (v := .ty "bool") (by rfl) T.bool (by decide +kernel) rfl) pa_nil)))))
            (pe_one (pe_cmpR op_eq (pv 0) (pv 1) (nomark _))))))) pss_nil)
      (pss_cons (ps_if (pt_val (pe_callB call_isi (by rfl) T.isi (by decide +kernel) (pa_cons (pv 1) (pa_cons (pe_bltn (v := .ty "int") (by rfl) T.int (by decide +kernel) rfl) pa_nil))))
        (pss_one (ps_ret (pe_and (pe_callB call_isi (by rfl) T.isi (by decide +kernel) (pa_cons (pv 0) (pa_cons (pe_bltn (v := .ty "int") (by rfl) T.int (by decide +kernel) rfl) pa_nil)))
          (pe_and (pe_not (pe_callB call_isi (by rfl) T.isi (by decide +kernel) (pa_cons (pv 0) (pa_cons (pe_bltn (v := .ty "bool") (by rfl) T.bool (by decide +kernel) rfl) pa_nil))))
            (pe_one (pe_cmpR op_eq (pv 0) (pv 1) (nomark _))))))) pss_nil)
      (pss_one (ps_ret (pe_and (pe_callB call_isi (by rfl) T.isi (by decide +kernel) (pa_cons (pv 0) (pa_cons (pe_bltn (v := .ty "str") (by rfl) T.str (by decide +kernel) rfl) pa_nil)))
          (pe_one (pe_cmpR op_eq (pv 0) (pv 1) (nomark _)))))))), ?_⟩
    cases hs with
    | flat _ hx =>
      cases hx with
      | int i =>
        refine ⟨_, rfl, _, _, _, _, false, rfl, .ty "tuple", tyI, kit_ty (by decide +kernel), _, rfl, iteF ⟨_, rfl, _, _, _, _, false, rfl, .ty "list", tyI, kit_ty (by decide +kernel), _, rfl, iteF ?_⟩⟩
        refine ⟨_, rfl, rfl, _, rfl, iteF ⟨_, rfl, _, _, _, _, false, rfl, .ty "bool", tyI, kit_ty (by decide +kernel), _, rfl, iteF ?_⟩⟩
        refine ⟨_, rfl, _, _, _, _, true, rfl, .ty "int", tyI, kit_same, _, rfl, iteT ?_⟩
        refine ⟨_, rfl, _, _, _, _, true, rfl, .ty "int", tyI, kit_same, _, rfl, iteT ⟨_, rfl, _, _, _, _, false, rfl, .ty "bool", tyI, kit_ty (by decide +kernel), _, rfl, _, rfl, iteT ⟨_, rfl, _, rfl, rfl, ?_⟩⟩⟩
        rw [decide_eq_true rfl]
        exact q
      | bl b =>
        refine ⟨_, rfl, _, _, _, _, false, rfl, .ty "tuple", tyB, kit_ty (by decide +kernel), _, rfl, iteF ⟨_, rfl, _, _, _, _, false, rfl, .ty "list", tyB, kit_ty (by decide +kernel), _, rfl, iteF ?_⟩⟩
        refine ⟨_, rfl, rfl, _, rfl, iteF ⟨_, rfl, _, _, _, _, true, rfl, .ty "bool", tyB, kit_same, _, rfl, iteT ?_⟩⟩
        refine ⟨_, rfl, rfl, _, rfl, rfl, rfl, _, rfl, iteT ⟨_, rfl, rfl, _, rfl, iteF ⟨_, rfl, _, _, _, _, true, rfl, .ty "bool", tyB, kit_same, _, rfl, iteT ⟨_, rfl, _, rfl, rfl, ?_⟩⟩⟩⟩
        rw [decide_eq_true rfl]
        exact q
      | str z =>
        refine ⟨_, rfl, _, _, _, _, false, rfl, .ty "tuple", tyS, kit_ty (by decide +kernel), _, rfl, iteF ⟨_, rfl, _, _, _, _, false, rfl, .ty "list", tyS, kit_ty (by decide +kernel), _, rfl, iteF ?_⟩⟩
        refine ⟨_, rfl, rfl, _, rfl, iteF ⟨_, rfl, _, _, _, _, false, rfl, .ty "bool", tyS, kit_ty (by decide +kernel), _, rfl, iteF ?_⟩⟩
        refine ⟨_, rfl, _, _, _, _, false, rfl, .ty "int", tyS, kit_ty (by decide +kernel), _, rfl, iteF ?_⟩
        refine ⟨_, rfl, _, _, _, _, true, rfl, .ty "str", tyS, kit_same, _, rfl, iteT ⟨_, rfl, _, rfl, rfl, ?_⟩⟩
        rw [decide_eq_true rfl]
        exact q
end
end K1

set_option Elab.async false
set_option linter.all false
set_option maxRecDepth 100000
set_option maxHeartbeats 2000000
namespace K1
open PySem PySem.Spec PyProof.Rows L2 Kx TL
/-! ### words put together by another sign -/
theorem joinL_cons (sp a : List Nat) {r : List (List Nat)} (h : r ≠ []) : TL.joinL sp (a :: r) = a ++ (sp ++ TL.joinL sp r) := by
  cases r with
  | nil => exact absurd rfl h
  | cons b t => rfl
theorem joinL_merge (sp x s y : List Nat) (bs : List (List Nat)) : ∀ as : List (List Nat), TL.joinL sp (as ++ [x]) ++ s ++ TL.joinL sp (y :: bs) = TL.joinL sp (as ++ (x ++ s ++ y) :: bs)
  | [] => by
    cases bs with
    | nil => rfl
    | cons b t =>
      show x ++ s ++ (y ++ (sp ++ TL.joinL sp (b :: t))) = (x ++ s ++ y) ++ (sp ++ TL.joinL sp (b :: t))
      simp only [List.append_assoc]
  | a :: r => by
    rw [List.cons_append, List.cons_append, joinL_cons sp a (by simp), joinL_cons sp a (by simp), ← joinL_merge sp x s y bs r]
    simp only [List.append_assoc]
def merged (as : List Str) (x s y : Str) (bs : List Str) : List Str := as ++ (x ++ s ++ y) :: bs
theorem txt_merge (as : List Str) (x s y : Str) (bs : List Str) : txt (as ++ [x]) ++ s ++ txt (y :: bs) = txt (merged as x s y bs) := by
  refine ext_tl ?_
  unfold txt merged
  rw [TL.tl_append, TL.tl_append, TL.join_eq, TL.join_eq, TL.join_eq, TL.tl_join, TL.tl_join, TL.tl_join, List.map_append, List.map_append, List.map_cons, List.map_cons, List.map_cons, TL.tl_append, TL.tl_append]
  exact joinL_merge _ _ _ _ _ _
theorem TX.of {us : List Str} (h : ∀ z ∈ us, Wz z) (hl : us.length ≤ 20020) (hn : us ≠ [Str.empty]) : TX us := ⟨fun z hz => ⟨(h z hz).1, by have := (h z hz).2; omega⟩, hl, hn⟩
theorem TX.merged {as bs : List Str} {x s y : Str} (ha : ∀ z ∈ as, Wz z) (hb : ∀ z ∈ bs, Wz z) (hx : Wz x) (hy : Wz y) (hs : 32 ∉ tl s ∧ s.length = 1) (hl : as.length + bs.length ≤ 20019) : TX (merged as x s y bs) := by
  refine ⟨fun z hz => ?_, ?_, fun e => ?_⟩
  · rcases List.mem_append.mp hz with q | q
    · exact ⟨(ha z q).1, by have := (ha z q).2; omega⟩
    · rcases List.mem_cons.mp q with rfl | q
      · refine ⟨?_, ?_⟩
        · rw [TL.tl_append, TL.tl_append]
          intro m
          rcases List.mem_append.mp m with m | m
          · rcases List.mem_append.mp m with m | m
            · exact hx.1 m
            · exact hs.1 m
          · exact hy.1 m
        · have h1 := hx.2
          have h2 := hy.2
          have h3 := hs.2
          rw [TL.len_tl] at h1 h2 h3
          rw [TL.len_tl, TL.tl_append, TL.tl_append, List.length_append, List.length_append]
          omega
      · exact ⟨(hb z q).1, by have := (hb z q).2; omega⟩
  · unfold K1.merged
    rw [List.length_append, List.length_cons]
    omega
  · have h1 : (x ++ s ++ y) ∈ K1.merged as x s y bs := List.mem_append.mpr (.inr (List.mem_cons_self ..))
    rw [e] at h1
    have h2 := congrArg Str.length (List.mem_singleton.mp h1)
    have h3 := hs.2
    rw [TL.len_tl] at h3
    rw [TL.len_tl, TL.len_tl, TL.tl_append, TL.tl_append, List.length_append, List.length_append] at h2
    have h4 : (tl Str.empty).length = 0 := by decide +kernel
    omega
theorem merged_ne {as bs : List Str} {x s y : Str} (hs : s.length = 1) : (txt (merged as x s y bs)).length ≠ 0 := by
  rw [← txt_merge, TL.len_tl, TL.tl_append, TL.tl_append, List.length_append, List.length_append]
  rw [TL.len_tl] at hs
  omega
end K1

set_option Elab.async false
set_option linter.all false
set_option maxRecDepth 100000
set_option maxHeartbeats 2000000
namespace K1
open PySem PySem.Spec PyProof.Rows L2 Kx TL
theorem shL (ns : List Int) : PySem.SeqAt.shaped (.list (ns.map PyData.int)) = true := by
  have h1 : (PyData.list (ns.map PyData.int)).canLay0 = true := canAll fun d hd => by
    obtain ⟨i, _, rfl⟩ := List.mem_map.mp hd
    rfl
  have h2 : (PyData.list (ns.map PyData.int)).depth ≤ 1 := Nat.succ_le_succ (depthAll_le fun d hd => by
    obtain ⟨i, _, rfl⟩ := List.mem_map.mp hd
    exact Nat.le_refl _)
  unfold PySem.SeqAt.shaped
  rw [h1, Bool.true_and]
  exact decide_eq_true (by omega)
theorem reflL (ns : List Int) : PyData.eqv (.list (ns.map PyData.int)) (.list (ns.map PyData.int)) = true :=
  PySem.SeqAt.eqv_refl _ (canAll fun d hd => by
    obtain ⟨i, _, rfl⟩ := List.mem_map.mp hd
    rfl)
theorem dpInts {K : PySem.W.Frag} {H : Hp} : ∀ ns : List Int, DpAll K H (ns.map V.int) (ns.map PyData.int)
  | [] => .nil
  | n :: r => .cons (.int n) (dpInts r)
structure TxE4 (K : PySem.W.Frag) (mg : Str → Option Value) (BT LE c1 c2 c3 c4 c5 c6 : Addr) : Prop where
  EC : ExcC K BT
  nB : PySem.W.findIn K (.ref BT) "at" = some none
  gLE : mg "LossError" = some (.ref LE)
  te : PySem.W.exmOne K (.ref BT) (.ref LE) = some true
  gB : mg "BadText" = some (.ref BT)
  g1 : mg "BadPaper" = some (.ref c1)
  g2 : mg "BadPlan" = some (.ref c2)
  g3 : mg "BadRatio" = some (.ref c3)
  g4 : mg "NoPlan" = some (.ref c4)
  g5 : mg "NoShare" = some (.ref c5)
  g6 : mg "TooLarge" = some (.ref c6)
  k1 : PySem.W.kitOne K (.ref BT) (.ref c1) = some false
  k2 : PySem.W.kitOne K (.ref BT) (.ref c2) = some false
  k3 : PySem.W.kitOne K (.ref BT) (.ref c3) = some false
  k4 : PySem.W.kitOne K (.ref BT) (.ref c4) = some false
  k5 : PySem.W.kitOne K (.ref BT) (.ref c5) = some false
  k6 : PySem.W.kitOne K (.ref BT) (.ref c6) = some false
structure FnX4 (P : Program) (w : World) (K : PySem.W.Frag) (mg : Str → Option Value) (base : Heap) (k : Nat) (x : Str) (ps : List Str) (sp : Sp) (f : Addr) (fd : FuncData) : Prop where
  ok : FnOk P w K mg base (L2.CX P w) k f fd ps sp
  gl : mg x = some (.ref f)
  kp : PySem.W.keepIn K (.ref f) = true
  bd : L2.Binds K fd ps []
structure FnW0 (P : Program) (w : World) (K : PySem.W.Frag) (mg : Str → Option Value) (base : Heap) (k : Nat) (x : Str) (ps : List Str) (sp : Sp) (f : Addr) (fd : FuncData) : Prop where
  ok : FnW P w K mg base CX0 k f fd ps sp
  gl : mg x = some (.ref f)
  kp : PySem.W.keepIn K (.ref f) = true
  bd : L2.Binds K fd ps []
abbrev NL4 : List Str := ["script", "pool", "words", "text", "place", "wrong", "actual", "e", "moves", "k"]
section
variable {P : Program} {w : World} {K : PySem.W.Frag} {mg : Str → Option Value} {base : Heap} {CG BT LE c1 c2 c3 c4 c5 c6 : Addr} {fR fW fT fS fV : Addr} {dR dW dT dS dV : FuncData}
theorem sc4L : FnScope NL4 ["script"] (defScope sLaw) := ⟨rfl, rfl, rfl, by decide +kernel, rfl, by decide +kernel, by decide +kernel⟩
theorem law_rest {f : Addr} {cdv : Value} {A : Around} {outer : List Env} {s : Shared} {H : Hp} {E : XK} {Q : VK} (hr : Room 26 (cxOf CX0 P w K mg base NL4 "law" (defScope sLaw) f cdv A outer s H E).nox.A) (T : TxL mg) (TG : TxG K mg CG) (TE : TxE4 K mg BT LE c1 c2 c3 c4 c5 c6)
    (RG : FnX4 P w K mg base 26 "read_game" ["text"] (spRG CG BT) fR dR) (WR : Fn0 P w K mg base 4 "_law_wrong" ["words"] spLWr fW dW) (GT : Fn0 P w K mg base 21 "game_text" ["game"] (spGT CG) fT dT) (SA : Fn0 P w K mg base 1 "_law_same" ["actual", "due"] (spSame 0) fS dS)
    (SH : FnW0 P w K mg base 1 "_law_same" ["actual", "due"] (spSame 0) fS dS) (MV : Fn0 P w K mg base 5 "_law_moves" ["block"] (spMv 4) fV dV) (q : ∀ H', Q (.bl true) H') :
    ∃ t, PSs (cxOf CX0 P w K mg base NL4 "law" (defScope sLaw) f cdv A outer s H E).nox ((defBody sLaw).drop 5) t ∧
      ∀ (H' : Hp) (a : Addr) (us : List Str) (v0 v1 v4 v5 v6 v7 v8 v9 : Option V), TX us → H' a = some (.lst (us.map V.str)) → t { nx := fun _ H' => Q .non H', rt := Q } [v0, v1, some (.ref a), some (.str (txt us)), v4, v5, v6, v7, v8, v9] H' := by
  have hr1 : Room 1 _ := hr.mono (by decide)
  have hr4 : Room 4 _ := hr.mono (by decide)
  have hr5 : Room 5 _ := hr.mono (by decide)
  have hr21 : Room 21 _ := hr.mono (by decide)
  refine ⟨_, pss_cons (ps_set (i := 5) sc4L.nd rfl (Or.inl rfl) (pe_call WR.ok hr4 (by rfl) WR.gl WR.kp WR.bd .nil pass0 (pa_cons (pv 2) pa_nil)))
    (pss_cons (ps_try_as (i := 7) (Wout := fun _ _ _ _ => False) rfl rfl sc4L.nd rfl rfl ⟨rfl, by decide, Or.inl TE.gLE⟩ takes0
        (fun W pn xe tk _ => pss_one (ps_set (i := 6) sc4L.nd rfl (Or.inl rfl) (pe_callS RG.ok hr (by rfl) RG.gl RG.kp RG.bd (fun σ => passAt tk σ) (pa_cons (pv 3) pa_nil))))
        (fun a oe cls d pn hz hf => pss_cons (ps_if (PW.pt (pw_or (pt_not (pt_val (pe_callB (call_err1 (f := "at") TE.EC hz hf) (by rfl) T.isi (by decide +kernel) (pa_cons (pv 7) (pa_cons (pe_glob (v := .ref BT) rfl TE.gB rfl) pa_nil)))))
            (pw_or1 (pt_val (pe_callB (call_errT (f := "at") TE.EC hz hf) (by rfl) T.isi (by decide +kernel) (pa_cons (pv 7) (pa_cons (pe_tup (pa_cons (pe_glob (v := .ref c1) rfl TE.g1 rfl) (pa_cons (pe_glob (v := .ref c2) rfl TE.g2 rfl) (pa_cons (pe_glob (v := .ref c3) rfl TE.g3 rfl)
              (pa_cons (pe_glob (v := .ref c4) rfl TE.g4 rfl) (pa_cons (pe_glob (v := .ref c5) rfl TE.g5 rfl) (pa_cons (pe_glob (v := .ref c6) rfl TE.g6 rfl) pa_nil))))))) pa_nil)))))))
            (pss_one (ps_ret pe_bl)) pss_nil)
          (pss_one (ps_ret (pe_and (pe_cmpR op_notN (pv 5) pe_non (nomark _)) (pe_one (pe_callW (E := fun _ => E0) SH.ok ⟨hr1.dp, hr1.un⟩ ⟨_, List.mem_cons_self ..⟩ (by rfl) SH.gl SH.kp SH.bd (fun σ _ _ _ _ _ _ z => z.elim) (pa_cons (pe_errF TE.EC TE.nB hz hf (pv 7)) (pa_cons (pv 5) pa_nil)))))))))
    (pss_cons (ps_set (i := 8) sc4L.nd rfl (Or.inl rfl) (pe_call MV.ok hr5 (by rfl) MV.gl MV.kp MV.bd .nil pass0 (pa_cons (pe_fld (pv 6) rfl) pa_nil)))
    (pss_one (ps_ret (pe_and (pe_cmpR op_isN (pv 5) pe_non (nomark _)) (pe_and (pe_call SA.ok hr1 (by rfl) SA.gl SA.kp SA.bd .nil pass0 (pa_cons (pe_call GT.ok hr21 (by rfl) GT.gl GT.kp GT.bd .nil pass0 (pa_cons (pv 6) pa_nil)) (pa_cons (pe_join pe_str (pv 2)) pa_nil)))
      (pe_one (pe_cmpR (op_eqD hr.units) (pv 8) (pe_lc (own := [("k", 9)]) (g := gName 9) (tt := tYes) rfl sc4L.nd (pi_range1 rfl T.range (pa_cons (pe_callB call_len_seq (by rfl) T.len PySem.boot_len (pa_cons (pv 8) pa_nil)) pa_nil)) (blkOk_by (N := NL4) (sc := defScope sLaw) (by decide +kernel)) (fun _ _ _ _ _ => pg_name (i := 9) sc4L.nd rfl (Or.inl rfl)) (fun _ _ _ _ _ => pts_nil) (fun _ _ _ _ _ => pv 9)) (nomark _))))))))), ?_⟩
  intro H' a us v0 v1 v4 v5 v6 v7 v8 v9 X ea
  obtain ⟨l1, l2⟩ := X.small
  refine ⟨_, rfl, a, us, rfl, ea, l1, l2, fun H1 s1 => ?_⟩
  have hw := wrong_all us
  refine ⟨_, rfl, txt us, rfl, X.tlen, by rw [X.back]; exact l1, by rw [X.back]; exact l2, ?_⟩
  rw [X.back]
  cases hA : rAll us with
  | error i =>
    rw [hA] at hw
    dsimp only at hw ⊢
    rw [hw]
    intro d H2 s2 ed
    refine ⟨true, TE.te, fun _ x hx => ?_, fun z => nomatch z⟩
    have kt : PySem.W.kitAny K (.ref BT) [.ref c1, .ref c2, .ref c3, .ref c4, .ref c5, .ref c6] = some false := by
      simp only [PySem.W.kitAny, TE.k1, TE.k2, TE.k3, TE.k4, TE.k5, TE.k6]
    refine ⟨_, rfl, d, .int (i : Int), .ref BT, .ref BT, true, rfl, rfl, ed, rfl, fun u r => r, kit_same, _, rfl, iteF ?_⟩
    refine ⟨_, rfl, (by show 6 ≤ sizeLine; decide), fun p hp => ⟨d, .int (i : Int), p, _, [.ref c1, .ref c2, .ref c3, .ref c4, .ref c5, .ref c6], false, rfl, rfl, same_upd hp _ _ ed, rfl, upd_same, .cons (.own _) (.cons (.own _) (.cons (.own _) (.cons (.own _) (.cons (.own _) (.cons (.own _) .nil))))), kt, _, rfl, iteF ?_⟩⟩
    refine ⟨_, rfl, rfl, _, rfl, iteT ⟨_, rfl, d, .int (i : Int), rfl, rfl, rfl, same_upd hp _ _ ed, _, rfl, _, _, rfl, .flat 0 (.int _), ?_⟩⟩
    exact q _
  | ok p =>
    obtain ⟨xs, b⟩ := p
    rw [hA] at hw
    dsimp only at hw ⊢
    rw [hw]
    obtain ⟨eg, h5, hsz, okb, vlb⟩ := all_ex hA
    intro g H2 s2 ga
    have lb : b.w.length ≤ 20020 := by
      have h1 := congrArg List.length eg
      unfold gameW at h1
      rw [List.length_append] at h1
      have := X.len
      omega
    obtain ⟨dx, va, vb, eg2, dva, dvb⟩ := id ga
    refine ⟨_, rfl, g, CG, dx, _, _, rfl, eg2, TG.cl, TG.nB, gfs_b _ _, vb, b, rfl, dvb, okb, by omega, fun c H3 ec nc s3 => ?_⟩
    have ga3 := ga.same s3
    refine ⟨_, rfl, rfl, _, rfl, iteT ?_⟩
    refine ⟨_, rfl, g, xs, b, rfl, ga3, h5, hsz, okb, by omega, by rw [eg]; exact X.join, fun H4 s4 => ?_⟩
    have ea4 : H4 a = some (.lst (us.map V.str)) := ((s1.trans s2).trans (s3.trans s4)) _ _ ea
    have ec4 := s4 _ _ ec
    refine ⟨⟨_, rfl⟩, _, rfl, " ", a, us, rfl, rfl, .inl (SqL.of ea4), X.join, ?_⟩
    have et : gameT xs b = txt us := by
      unfold gameT
      rw [eg]
      rfl
    refine ⟨_, _, rfl, by rw [et]; exact .flat 0 (.str _), _, rfl, iteT ?_⟩
    have em : b.ml = (List.range b.mvs).map fun i : Nat => (i : Int) := by
      rw [ml_bk vlb]
      exact List.map_congr_left fun i _ => by rw [Nat.zero_add]
    have lm := ml_le_bk b
    have lr : b.ml.length = b.mvs := by rw [em, List.length_map, List.length_range]
    refine ⟨_, rfl, _, rfl, c, _, rfl, .inl (SqL.of ec4), ((b.ml.map V.int).length : Int), rfl, by rw [List.length_map]; omega, by rw [List.length_map]; omega, fun D hD => ?_⟩
    have ln : ((b.ml.map V.int).length : Int).toNat = b.mvs := by rw [List.length_map, lr]; omega
    refine lc_range (lo := 0) (n := ((b.ml.map V.int).length : Int).toNat) (fun i H' => H' D = some (.lst (((List.range i).map fun i : Nat => (i : Int)).map V.int)) ∧ H' c = some (.lst (b.ml.map V.int))) ?_ ?_ ?_
    · exact ⟨upd_same, same_upd hD _ _ ec4⟩
    · rintro i H5 hi ⟨eD, ec5⟩
      rw [ln] at hi
      refine ⟨rfl, tYesI ?_⟩
      refine ⟨_, rfl, _, eD, ?_, ?_, ?_⟩
      · rw [List.length_map, List.length_map, List.length_range]
        exact Nat.lt_of_le_of_lt (show i ≤ 20020 by omega) (by decide)
      · rw [upd_same, List.range_succ, List.map_append, List.map_append, Int.zero_add]
        rfl
      · rw [upd_ne (ne_of_none ec4 hD)]
        exact ec5
    · rintro H5 ⟨eD, ec5⟩
      rw [ln, ← em] at eD
      exact ⟨_, _, .lst (SqL.of ec5) (dpInts b.ml), .lst (SqL.of eD) (dpInts b.ml), shL _, shL _, by rw [reflL]; exact q _⟩
end
end K1

set_option Elab.async false
set_option linter.all false
set_option maxRecDepth 100000
set_option maxHeartbeats 2000000
namespace K1
open PySem PySem.Spec PyProof.Rows L2 Kx TL
theorem join_ok20 {us : List Str} (h : ∀ z ∈ us, Wz z) (hl : us.length ≤ 20020) : JoinOk us := by
  unfold JoinOk
  have h1 := sum_60 fun z hz => Nat.le_trans (h z hz).2 (by decide : 20 ≤ 60)
  rw [sp32.2]
  omega
theorem cut_to (us : List Str) (n : Nat) : cutV (us.map V.str) none (some (n : Int)) = (us.take n).map V.str := by
  unfold cutV
  rw [HT.sIx_none, HT.sIx_nat, List.drop_zero, Nat.sub_zero, ← List.map_take]
  congr 1
  rw [List.length_map, Nat.min_comm, ← List.take_take]
  exact List.take_of_length_le (by rw [List.length_take]; exact Nat.min_le_right ..)
theorem cut_of (us : List Str) (n : Nat) : cutV (us.map V.str) (some (n : Int)) none = (us.drop n).map V.str := by
  unfold cutV
  rw [HT.sIx_none, HT.sIx_nat, ← List.map_drop, ← List.map_take]
  congr 1
  rw [List.length_map]
  rcases Nat.le_total n us.length with h | h
  · rw [Nat.min_eq_left h, List.take_of_length_le (by rw [List.length_drop]; exact Nat.le_refl _)]
  · rw [Nat.min_eq_right h, List.drop_of_length_le h, List.drop_length, List.take_nil]
def spLaw (K : PySem.W.Frag) : Sp := fun vs H Q _ => ∃ (a : Addr) (ns : List Int), vs = [.ref a] ∧ SqL K H a (ns.map V.int) ∧ ∀ H', Q (.bl true) H'
section
variable {P : Program} {w : World} {K : PySem.W.Frag} {mg : Str → Option Value} {base : Heap} {CG BT LE c1 c2 c3 c4 c5 c6 : Addr} {fP fD fK fC fO fM fR fW fT fS fV : Addr} {dP dD dK dC dO dM dR dW dT dS dV : FuncData}
theorem ok_law {f : Addr} {fd : FuncData} (F : Fun K "law" "law" sLaw f fd) (T : TxL mg) (TG : TxG K mg CG) (TE : TxE4 K mg BT LE c1 c2 c3 c4 c5 c6)
    (PO : Fn0 P w K mg base 1 "_law_pool" ["script", "budget"] (spPool K) fP dP) (D1 : Fn0 P w K mg base 1 "_law_draw" ["pool", "size"] spDraw fD dD) (WK : Fn0 P w K mg base 5 "_law_walked" ["pool"] spWk fK dK) (CH : Fn0 P w K mg base 4 "_law_changed" ["pool", "words"] spChg fC dC)
    (WO : Fn0 P w K mg base 12 "_law_words" ["game"] spWo fO dO) (GM : Fn0 P w K mg base 19 "_law_game" ["pool", "moves", "most"] spGm fM dM)
    (RG : FnX4 P w K mg base 26 "read_game" ["text"] (spRG CG BT) fR dR) (WR : Fn0 P w K mg base 4 "_law_wrong" ["words"] spLWr fW dW) (GT : Fn0 P w K mg base 21 "game_text" ["game"] (spGT CG) fT dT) (SA : Fn0 P w K mg base 1 "_law_same" ["actual", "due"] (spSame 0) fS dS)
    (SH : FnW0 P w K mg base 1 "_law_same" ["actual", "due"] (spSame 0) fS dS) (MV : Fn0 P w K mg base 5 "_law_moves" ["block"] (spMv 4) fV dV) : FnOk P w K mg base CX0 27 f fd ["script"] (spLaw K) := by
  refine F.ok sc4L (fun vs H Q E h => ?_) (fun cdv A outer s H vs Q E hr h => ?_)
  · obtain ⟨a, ns, rfl, _⟩ := h
    rfl
  · obtain ⟨a, ns, rfl, hS, q⟩ := h
    have hr1 : Room 1 _ := hr.mono (by decide)
    have hr4 : Room 4 _ := hr.mono (by decide)
    have hr5 : Room 5 _ := hr.mono (by decide)
    have hr12 : Room 12 _ := hr.mono (by decide)
    have hr19 : Room 19 _ := hr.mono (by decide)
    obtain ⟨t6, ht6, last⟩ := law_rest (P := P) (w := w) (K := K) (mg := mg) (base := base) (f := f) (cdv := cdv) (A := A) (outer := outer) (s := s) (H := H) (E := E) (Q := Q) hr T TG TE RG WR GT SA SH MV q
    have h4 : ∃ t, PSs (cxOf CX0 P w K mg base NL4 "law" (defScope sLaw) f cdv A outer s H E).nox ((defBody sLaw).drop 3) t ∧
        ∀ (H' : Hp) (p a : Addr) (b : Int) (us : List Str) (v0 v3 v4 v5 v6 v7 v8 v9 : Option V), PoolAt H' p b → a ≠ p → (∀ z ∈ us, Wz z) → us.length ≤ 20020 → us ≠ [Str.empty] → H' a = some (.lst (us.map V.str)) → t { nx := fun _ H' => Q .non H', rt := Q } [v0, some (.ref p), some (.ref a), v3, v4, v5, v6, v7, v8, v9] H' := by
      refine ⟨_, pss_cons (ps_set (i := 3) sc4L.nd rfl (Or.inl rfl) (pe_join pe_str (pv 2)))
        (pss_cons (ps_if (PW.pt (pw_and (pt_cmpR op_eq (pe_call D1.ok hr1 (by rfl) D1.gl D1.kp D1.bd .nil pass0 (pa_cons (pv 1) (pa_cons pe_int pa_nil))) pe_int (nomark _)) (pw_and1 (pt_cmpR op_gt (pe_callB call_len_seq (by rfl) T.len PySem.boot_len (pa_cons (pv 2) pa_nil)) pe_int (nomark _)))))
          (pss_cons (ps_set (i := 4) sc4L.nd rfl (Or.inl rfl) (pe_op op_add pe_int (pe_call D1.ok hr1 (by rfl) D1.gl D1.kp D1.bd .nil pass0 (pa_cons (pv 1) (pa_cons (pe_op op_sub (pe_callB call_len_seq (by rfl) T.len PySem.boot_len (pa_cons (pv 2) pa_nil)) pe_int) pa_nil)))))
          (pss_cons (ps_set (i := 3) sc4L.nd rfl (Or.inl rfl) (pe_op op_add_str (pe_op op_add_str (pe_join pe_str (pe_slice sl_list (pv 2) po_none (po_some (pv 4)))) (pe_ix ix_str pe_str (pe_call D1.ok hr1 (by rfl) D1.gl D1.kp D1.bd .nil pass0 (pa_cons (pv 1) (pa_cons pe_int pa_nil))) (fun _ _ => rfl))) (pe_join pe_str (pe_slice sl_list (pv 2) (po_some (pv 4)) po_none))))
          (pss_one (ps_set (i := 2) sc4L.nd rfl (Or.inl rfl) (pe_split (pv 3) pe_str))))) pss_nil)
        ht6), ?_⟩
      intro H1 p a b us v0 v3 v4 v5 v6 v7 v8 v9 P1 nap wz hl hn ea
      refine ⟨⟨_, rfl⟩, _, rfl, " ", a, us, rfl, rfl, .inl (SqL.of ea), join_ok20 wz hl, ?_⟩
      refine ⟨_, rfl, p, 12, b, rfl, P1, by decide, by decide, fun j H2 j0 j1 P2 k2 => ⟨rfl, _, rfl, ?_⟩⟩
      have ea2 := k2 _ _ ea nap
      refine ite2 (fun _ => ?_) (fun _ => iteF (last _ _ us _ _ _ _ _ _ _ _ (TX.of wz hl hn) ea2))
      refine ⟨_, rfl, a, _, rfl, .inl (SqL.of ea2), _, _, rfl, rfl, _, rfl, ite2 (fun y => ?_) (fun _ => last _ _ us _ _ _ _ _ _ _ _ (TX.of wz hl hn) ea2)⟩
      have y := of_decide_eq_true y
      rw [List.length_map] at y
      refine ⟨_, rfl, _, rfl, a, _, rfl, .inl (SqL.of ea2), _, _, rfl, rfl, p, _, b, rfl, P2, by rw [List.length_map]; omega, by rw [List.length_map]; omega, fun pl H3 p0 p1 P3 k3 => ?_⟩
      rw [List.length_map] at p1
      have ea3 := k3 _ _ ea2 nap
      obtain ⟨m, rfl⟩ : ∃ m : Nat, pl = m := ⟨pl.toNat, by omega⟩
      have hm : m + 1 < us.length := by omega
      have em : (1 : Int) + (m : Int) = ((m + 1 : Nat) : Int) := by omega
      have et : us.take (m + 1) = us.take m ++ [us[m]] := List.take_succ_eq_append_getElem (by omega)
      have ed : us.drop (m + 1) = us[m + 1] :: us.drop (m + 2) := List.drop_eq_getElem_cons hm
      have wt : ∀ z ∈ us.take (m + 1), Wz z := fun z hz => wz z (List.mem_of_mem_take hz)
      have wd : ∀ z ∈ us.drop (m + 1), Wz z := fun z hz => wz z (List.mem_of_mem_drop hz)
      refine ⟨_, _, rfl, rfl, ?_⟩
      dsimp only
      rw [em]
      refine ⟨⟨_, rfl⟩, _, rfl, _, rfl, _, rfl, a, _, rfl, SqL.of ea3, fun d1 hd1 => ?_⟩
      rw [cut_to]
      have s4 := same_upd (o := .lst ((us.take (m + 1)).map V.str)) hd1
      refine ⟨" ", d1, us.take (m + 1), rfl, rfl, .inl (SqL.of upd_same), join_ok20 wt (by rw [List.length_take]; omega), ?_⟩
      refine ⟨_, rfl, p, 2, b, rfl, P3.same s4, by decide, by decide, fun u H5 u0 u1 P5 k5 => ?_⟩
      have hnt : (32 : Nat) ∉ ("\n\t" : Str).cps.toList ∧ ("\n\t" : Str).length = 2 := by decide +kernel
      obtain ⟨c, hc, ec⟩ := at_sign (z := ("\n\t" : Str)) u0 (by rw [hnt.2]; omega)
      have hs : 32 ∉ tl (⟨#[c]⟩ : Str) ∧ (⟨#[c]⟩ : Str).length = 1 := ⟨by
        rw [sign_tl]
        intro z
        exact hnt.1 (by rw [List.mem_singleton.mp z]; exact hc), sign_len c⟩
      have X2 : TX (merged (us.take m) us[m] ⟨#[c]⟩ us[m + 1] (us.drop (m + 2))) := TX.merged (fun z hz => wz z (List.mem_of_mem_take hz)) (fun z hz => wz z (List.mem_of_mem_drop hz)) (wz _ (List.getElem_mem _)) (wz _ (List.getElem_mem _)) hs (by rw [List.length_take, List.length_drop]; omega)
      have key : txt (us.take (m + 1)) ++ (⟨#[c]⟩ : Str) ++ txt (us.drop (m + 1)) = txt (merged (us.take m) us[m] ⟨#[c]⟩ us[m + 1] (us.drop (m + 2))) := by rw [et, ed, txt_merge]
      have hn2 := merged_ne (as := us.take m) (bs := us.drop (m + 2)) (x := us[m]) (y := us[m + 1]) hs.2
      generalize merged (us.take m) us[m] ⟨#[c]⟩ us[m + 1] (us.drop (m + 2)) = ws at X2 key hn2
      have tl2 := X2.tlen
      have lk := congrArg Str.length key
      rw [Str.length_append, Str.length_append, sign_len] at lk
      refine ⟨"\n\t", u, c, rfl, rfl, by rw [hnt.2]; decide, ec, ?_⟩
      refine ⟨txt (us.take (m + 1)), ⟨#[c]⟩, rfl, rfl, by rw [sign_len]; omega, ?_⟩
      have ea5 := k5 _ _ (s4 _ _ ea3) nap
      refine ⟨⟨_, rfl⟩, _, rfl, _, rfl, _, rfl, a, _, rfl, SqL.of ea5, fun d2 hd2 => ?_⟩
      rw [cut_of]
      refine ⟨" ", d2, us.drop (m + 1), rfl, rfl, .inl (SqL.of upd_same), join_ok20 wd (by rw [List.length_drop]; omega), ?_⟩
      refine ⟨txt (us.take (m + 1)) ++ (⟨#[c]⟩ : Str), txt (us.drop (m + 1)), rfl, rfl, by rw [Str.length_append, sign_len]; omega, ?_⟩
      rw [key]
      refine ⟨_, rfl, ⟨_, rfl⟩, txt ws, _, rfl, rfl, by decide +kernel, tl2, fun d3 hd3 => ?_⟩
      rw [X2.split hn2]
      exact last _ d3 ws _ _ _ _ _ _ _ _ X2 upd_same
    obtain ⟨t4, ht4, last4⟩ := h4
    have h3 : ∃ t, PSs (cxOf CX0 P w K mg base NL4 "law" (defScope sLaw) f cdv A outer s H E).nox ((defBody sLaw).drop 2) t ∧
        ∀ (H' : Hp) (p a : Addr) (b : Int) (us : List Str) (v0 v3 v4 v5 v6 v7 v8 v9 : Option V), PoolAt H' p b → a ≠ p → (∀ z ∈ us, Wz z) → us.length ≤ 20020 → H' a = some (.lst (us.map V.str)) → t { nx := fun _ H' => Q .non H', rt := Q } [v0, some (.ref p), some (.ref a), v3, v4, v5, v6, v7, v8, v9] H' := by
      refine ⟨_, pss_cons (ps_if (PW.pt (pw_and (pt_cmpR op_eq (pe_callB call_len_seq (by rfl) T.len PySem.boot_len (pa_cons (pv 2) pa_nil)) pe_int (nomark _)) (pw_and1 (pt_cmpR op_eq (pe_ix ix_list (pv 2) pe_int (fun _ _ => rfl)) pe_str (nomark _)))))
        (pss_one (ps_set (i := 2) sc4L.nd rfl (Or.inl rfl) (pe_lst pa_nil))) pss_nil) ht4, ?_⟩
      intro H1 p a b us v0 v3 v4 v5 v6 v7 v8 v9 P1 nap wz hl ea
      refine ⟨_, rfl, a, _, rfl, .inl (SqL.of ea), rfl, _, rfl, ?_⟩
      rw [List.length_map]
      refine ite2 (fun y => ?_) (fun y => iteF (last4 _ p a b us _ _ _ _ _ _ _ _ P1 nap wz hl (fun z => y (by rw [z]; rfl)) ea))
      have y := V.int.inj (of_decide_eq_true y)
      obtain ⟨z0, rfl⟩ := List.length_eq_one_iff.mp (show us.length = 1 by omega)
      refine ⟨_, rfl, a, _, 0, .str z0, rfl, rfl, SqL.of ea, atI_nat (j := 0) rfl, rfl, _, rfl, ite2 (fun z => ?_) (fun z => last4 _ p a b [z0] _ _ _ _ _ _ _ _ P1 nap wz hl (fun e => z (by rw [(List.cons.inj e).1]; rfl)) ea)⟩
      exact ⟨Nat.zero_le _, fun c hc => last4 _ p c b [] _ _ _ _ _ _ _ _ (P1.same (same_upd hc)) (P1.ne0 hc) nofun (Nat.zero_le _) (fun e => nomatch e) upd_same⟩
    obtain ⟨t3, ht3, last3⟩ := h3
    refine ⟨_, pss_cons (ps_set (i := 1) sc4L.nd rfl (Or.inl rfl) (pe_call PO.ok hr1 (by rfl) PO.gl PO.kp PO.bd .nil pass0 (pa_cons (pv 0) (pa_cons pe_int pa_nil))))
      (pss_cons (ps_if (pt_cmpR op_eq (pe_call D1.ok hr1 (by rfl) D1.gl D1.kp D1.bd .nil pass0 (pa_cons (pv 1) (pa_cons pe_int pa_nil))) pe_int (nomark _))
        (pss_one (ps_set (i := 2) sc4L.nd rfl (Or.inl rfl) (pe_call WK.ok hr5 (by rfl) WK.gl WK.kp WK.bd .nil pass0 (pa_cons (pv 1) pa_nil))))
        (pss_one (ps_set (i := 2) sc4L.nd rfl (Or.inl rfl) (pe_call CH.ok hr4 (by rfl) CH.gl CH.kp CH.bd .nil pass0 (pa_cons (pv 1) (pa_cons (pe_call WO.ok hr12 (by rfl) WO.gl WO.kp WO.bd .nil pass0 (pa_cons (pe_call GM.ok hr19 (by rfl) GM.gl GM.kp GM.bd .nil pass0 (pa_cons (pv 1) (pa_cons pe_int (pa_cons pe_int pa_nil)))) pa_nil)) pa_nil))))))
      ht3), ?_⟩
    refine ⟨_, rfl, a, ns, 0, rfl, hS, fun p H1 s1 np P1 => ?_⟩
    refine ⟨_, rfl, p, 3, 0, rfl, P1, by decide, by decide, fun j H2 j0 j1 P2 k2 => ⟨rfl, _, rfl, ite2 (fun _ => ?_) (fun _ => ?_)⟩⟩
    · refine ⟨_, rfl, p, 0, rfl, P2, fun c xs H3 ec nc wl hl P3 k3 => ?_⟩
      obtain ⟨us, rfl, wz⟩ := wl_map wl
      rw [List.length_map] at hl
      exact last3 H3 p c 0 us _ _ _ _ _ _ _ _ P3 nc wz hl ec
    · refine ⟨_, rfl, _, rfl, p, 0, rfl, P2, fun g xs b b1 H3 G P3 k3 dg => ?_⟩
      obtain ⟨g0, gs, rfl, eg, dgs⟩ := dg.tupI
      have hsz : ∀ p ∈ xs, 0 ≤ p.2 ∧ p.2 ≤ 65535 := fun p hp => ⟨by have := (G.sz p hp).1; omega, (G.sz p hp).2⟩
      have lw := gw_len G
      refine ⟨.ref g0, xs, b, rfl, .tup eg dgs, G.n5, hsz, vl_bk G.vl, by omega, fun wl H4 s4 nwl ewl => ?_⟩
      have P4 := P3.same s4
      have nwp : wl ≠ p := P3.ne0 nwl
      have ww : WLv ((gameW xs b).map V.str) := fun v hv => by
        obtain ⟨z, hz, rfl⟩ := List.mem_map.mp hv
        have := wd_game G z hz
        exact ⟨z, rfl, this.1, by have := this.2.2; omega⟩
      refine ⟨p, wl, _, b1, rfl, P4, nwp, ewl, ww, by rw [List.length_map]; omega, fun c xs H5 ec nc wl hl P5 k5 => ?_⟩
      obtain ⟨us, rfl, wz⟩ := wl_map wl
      rw [List.length_map] at hl
      exact last3 H5 p c b1 us _ _ _ _ _ _ _ _ P5 nc wz hl ec
end
end K1

set_option Elab.async false
set_option linter.all false
set_option maxRecDepth 100000
set_option maxHeartbeats 4000000
/-! A head by facts, for any law of this program: which names stand, which classes, which tables. -/
namespace Hk
open PySem PySem.Spec PyProof.Rows L2
/-! ### the addresses that the module's names reach, each once (a bit an address) -/
def take1 (p : Nat × List Addr) (a : Addr) : Nat × List Addr := match Nat.testBit p.1 a with
  | true => p
  | false => (Nat.lor p.1 (Nat.shiftLeft 1 a), a :: p.2)
def wave (g : Addr → Option Obj) (mask : Nat) (front : List Addr) : Nat × List Addr :=
  front.foldl (fun p a => match g a with
    | some o => (He.refsD o).foldl take1 p
    | none => p) (mask, [])
def reach (g : Addr → Option Obj) : Nat → Nat → List Addr → List Addr → List Addr
  | 0, _, _, all => all
  | n + 1, mask, front, all => match wave g mask front with
    | (m2, new) => reach g n m2 new (new ++ all)
def roots : List Addr := [mainGlobals, PySem.cStatics]
def asK (g : Addr → Option Obj) (n : Nat) : List Addr := match roots.foldl take1 (0, []) with
  | (m, l) => reach g n m l l
/-! ### facts by names -/
inductive Fk where
  | glo (x : Str)
  | free (x : Str)
  | int (x : Str) (i : Int)
  | str (x z : Str)
  | texts (x : Str) (zs : List Str)
  | cls (x : Str)
  | noat (x f : Str)
  | meth (x m : Str)
  | mkr (x : Str)
  | keep (x : Str)
  | si (x : Str)
  | own (x : Str)
  | base (x : Str)
  | fn (x m : Str)
  | exm (x y : Str) (b : Bool)
  | kit (x y : Str) (b : Bool)
  | err (x : Str)
  deriving DecidableEq
def oexB (K : PySem.W.Frag) (C : Addr) : Bool := match K.lookup C with
  | some ⟨.type t, _, .cls ⟨_, _, .ref C' :: bm, _, _, hd, _, _, _, _, del⟩, sl⟩ => (match sl.toList with
    | [_, _, _, _, some (.builtin n), _] => decide (t = "type") && (decide (C' = C) && (PySem.HandSPX.refsVE bm && (hd && (!del && decide (n = "ValueError.__new__")))))
    | _ => false)
  | _ => false
def valB (c : Option PySem.W.CFound) (v : Value) : Bool := match c with
  | some (.val u) => decide (u = v)
  | _ => false
def Fk.ok (K : PySem.W.Frag) : Fk → Bool
  | .glo x => (He.Fa.glo x).ok K
  | .free x => (He.Fa.free x).ok K
  | .int x i => (He.Fa.int x i).ok K
  | .str x z => (He.Fa.str x z).ok K
  | .texts x zs => (He.Fa.glo x).ok K && He.tupB K x (zs.map He.Dv.str)
  | .cls x => (He.Fa.cls x).ok K
  | .noat x f => (He.Fa.noat x f).ok K
  | .meth x m => (He.Fa.meth x m).ok K
  | .mkr x => (He.Fa.mkr x).ok K
  | .keep x => (He.Fa.keep x).ok K
  | .si x => He.eqO (PySem.W.findIn K (.ref (He.ga K x)) "__class__") (some (some (.builtin "object.__class__"))) && (He.eqO (PySem.W.specialIn K (.builtin "object.__class__") "__get__") (some (some (.builtin "getset_descriptor.__get__"))) && (decide (PySem.W.takesIn K (.builtin "object.__class__") = some true) && decide (PySem.W.mroIn K (He.ga K x) (.type "object") = some true)))
  | .own x => oexB K (He.ga K x) && (He.eqO (PySem.W.findIn K (.ref (He.ga K x)) "__setattr__") (some (some (.builtin "object.__setattr__"))) && (decide (PySem.W.subIn K (.ref (He.ga K x)) (.type "BaseException") = some true) && (decide (PySem.W.typeIn K (.ref (He.ga K x)) = some (.type "type")) && PySem.W.keepIn K (.ref (He.ga K x)))))
  | .base x => He.eqO (PySem.W.specialIn K (.ref (He.ga K x)) "__getattribute__") (some (some (.builtin "type.__getattribute__"))) && (PySem.W.readsIn K (He.ga K x) (.type "type") && valB (PySem.W.findCls K (.ref (He.ga K x)) (.type "type") "__init__") (.builtin "ValueError.__init__"))
  | .fn x m => He.eqO (PySem.W.findIn K (.ref (He.ga K x)) m) (some (some (.ref (He.ma K (He.ga K x) m)))) && decide (PySem.W.typeIn K (.ref (He.ma K (He.ga K x) m)) = some (.type "function"))
  | .exm x y b => decide (PySem.W.exmOne K (.ref (He.ga K x)) (.ref (He.ga K y)) = some b)
  | .kit x y b => decide (PySem.W.kitOne K (.ref (He.ga K x)) (.ref (He.ga K y)) = some b)
  | .err x => He.eqO (PySem.W.findIn K (.ref (He.ga K x)) "__getattribute__") (some (some (.builtin "BaseException.__getattribute__"))) && (He.eqO (PySem.W.findIn K (.ref (He.ga K x)) "__getattr__") (some none) && (decide (PySem.W.subIn K (.ref (He.ga K x)) (.type "BaseException") = some true) && (PySem.W.hasDictIn K (He.ga K x) && (He.eqO (PySem.W.findIn K (.ref (He.ga K x)) "__class__") (some (some (.builtin "object.__class__"))) && (He.eqO (PySem.W.specialIn K (.builtin "object.__class__") "__get__") (some (some (.builtin "getset_descriptor.__get__"))) && (decide (PySem.W.takesIn K (.builtin "object.__class__") = some true) && decide (PySem.W.mroIn K (He.ga K x) (.type "object") = some true)))))))
theorem oex_ok {K : PySem.W.Frag} {C : Addr} (h : oexB K C = true) : ∃ nm q N bs bm sn sub ab col dd k0 k1 k2 k3 k5, K.lookup C = some (excClassObj nm q C N bs bm true sn sub ab col dd k0 k1 k2 k3 k5 "ValueError.__new__") ∧ PySem.HandSPX.refsVE bm = true := by
  unfold oexB at h
  split at h
  · rename_i t dd nm bs C' bm ns q hd sn sub ab col del sl e
    split at h
    · rename_i k0 k1 k2 k3 n k5 hs
      simp only [Bool.and_eq_true, decide_eq_true_eq, Bool.not_eq_true'] at h
      obtain ⟨rfl, rfl, h1, rfl, rfl, rfl⟩ := h
      refine ⟨nm, q, ns, bs, bm, sn, sub, ab, col, dd, k0, k1, k2, k3, k5, ?_, h1⟩
      rw [e]
      have : sl = #[k0, k1, k2, k3, some (.builtin "ValueError.__new__"), k5] := by
        apply Array.ext'
        rw [hs]
      rw [this]
    · cases h
  · cases h
theorem val_ok {c : Option PySem.W.CFound} {v : Value} (h : valB c v = true) : c = some (.val v) := by
  unfold valB at h
  split at h
  · rw [of_decide_eq_true h]
  · cases h
/-! ### the Hook -/
def obsF (fa : List Fk) (fn : List He.DefD) (K : PySem.W.Frag) : He.AlD := ((fa.all fun f => f.ok K) && fn.all fun d => d.ok K, fn.map fun d => He.fnW K d.at_)
def SaysF (fa : List Fk) (fn : List He.DefD) (K : PySem.W.Frag) : Prop := obsF fa fn K = He.valD fn
def obsFG (n : Nat) (fa : List Fk) (fn : List He.DefD) (g : Addr → Option Obj) : He.AlD := obsF fa fn (He.frG g (asK g n))
def hookF (n : Nat) (fa : List Fk) (fn : List He.DefD) : PySem.W.Hook where
  α := He.AlD
  obs := fun s => obsFG n fa fn s.heap.get?
  val := fun _ => He.valD fn
  says := fun _ h => ∃ K : PySem.W.Frag, K.In h ∧ SaysF fa fn K
  of := fun _ _ e => ⟨_, He.frG_in, e⟩
  keeps := fun _ _ _ ⟨K, hK, c⟩ k => ⟨K, PySem.W.Frag.In.keeps hK k, c⟩
theorem obsF_eq {n : Nat} {fa : List Fk} {fn : List He.DefD} {g : Addr → Option Obj} {s : Shared} (h : ∀ a, g a = s.heap.get? a) : obsFG n fa fn g = (hookF n fa fn).obs s := by
  have e : g = s.heap.get? := funext h
  rw [e] <;> rfl
section
variable {fa : List Fk} {fn : List He.DefD} {K : PySem.W.Frag} {h : Heap} {mg : Str → Option Value}
theorem SaysF.fact (c : SaysF fa fn K) (f : Fk) (m : f ∈ fa) : f.ok K = true := by
  have c1 := (He.ba (show ((fa.all fun f => f.ok K) && fn.all fun d => d.ok K) = true from congrArg (fun z : He.AlD => z.1) c)).1
  exact List.all_eq_true.mp c1 f m
theorem SaysF.def_ (c : SaysF fa fn K) (i : Nat) {d : He.DefD} (h : fn[i]? = some d := by rfl) : ∃ fd, FunD K d.name d.qual d.params d.body d.scope (d.dvs K) (d.kws K) (He.fAd K d.at_) fd := by
  have c2 := (He.ba (show ((fa.all fun f => f.ok K) && fn.all fun d => d.ok K) = true from congrArg (fun z : He.AlD => z.1) c)).2
  have e : fn.map (fun d => He.fnW K d.at_) = fn.map He.DefD.val := congrArg (fun z : He.AlD => z.2) c
  have e2 : (fn.map fun d => He.fnW K d.at_)[i]? = (fn.map He.DefD.val)[i]? := by rw [e]
  rw [List.getElem?_map, List.getElem?_map, h] at e2
  exact He.DefD.funD (Option.some.inj e2) (List.all_eq_true.mp c2 d (List.mem_of_getElem? h))
/-- a def without defaults -/
theorem fun_of {x qual : Str} {st : Stmt} {f : Addr} {fd : FuncData} (F : FunD K x qual (defArgs st) (defBody st) (defScope st) [] [] f fd) : Fun K x qual st f fd := by
  obtain ⟨oc, od, dV, kV, doc, pm, an, cdv, ct, osl, e, lk, hcd, hD, _⟩ := F.ex
  rcases hD with ⟨_, rfl⟩ | ⟨z, _⟩
  · exact ⟨⟨oc, od, kV, doc, pm, an, cdv, ct, osl, e, lk, hcd⟩, F.kp⟩
  · exact absurd rfl z
theorem glo_ok (X : K.In h) (G : h.Ns mainGlobals mg) {x : Str} (c : (Fk.glo x).ok K = true) : mg x = some (.ref (He.ga K x)) := He.glo_ok X G c
theorem free_ok (X : K.In h) (G : h.Ns mainGlobals mg) {x : Str} (c : (Fk.free x).ok K = true) : mg x = none := He.free_ok X G c
theorem int_ok (X : K.In h) (G : h.Ns mainGlobals mg) {x : Str} {i : Int} (c : (Fk.int x i).ok K = true) : ∃ t, mg x = some (.int i t) := He.int_ok X G c
theorem str_ok (X : K.In h) (G : h.Ns mainGlobals mg) {x z : Str} (c : (Fk.str x z).ok K = true) : ∃ t, mg x = some (.str z t) := He.str_ok X G c
theorem texts_ok (X : K.In h) (G : h.Ns mainGlobals mg) {x : Str} {zs : List Str} (c : (Fk.texts x zs).ok K = true) : ∃ a, mg x = some (.ref a) ∧ ∀ H, SqT K H a (zs.map V.str) := by
  obtain ⟨c1, c2⟩ := He.ba (show ((He.Fa.glo x).ok K && He.tupB K x (zs.map He.Dv.str)) = true from c)
  refine ⟨_, He.glo_ok X G c1, fun H => ?_⟩
  have := He.tupB_ok c2 H
  rw [List.map_map] at this
  exact this
theorem cls_ok {x : Str} (c : (Fk.cls x).ok K = true) : Cls K (He.ga K x) := He.cls_ok c
theorem noat_ok {x f : Str} (c : (Fk.noat x f).ok K = true) : NoAttr K (He.ga K x) f := He.noat_ok c
theorem meth_ok {x m : Str} (c : (Fk.meth x m).ok K = true) : Meth K (He.ga K x) m (He.ma K (He.ga K x) m) := He.meth_ok c
theorem mkr_ok {x : Str} (c : (Fk.mkr x).ok K = true) : Mk K (He.ga K x) (He.ma K (He.ga K x) "__init__") := He.mkr_ok c
theorem keep_ok {x : Str} (c : (Fk.keep x).ok K = true) : PySem.W.keepIn K (.ref (He.ga K x)) = true := He.keep_ok c
theorem si_ok {x : Str} (c : (Fk.si x).ok K = true) : SlX.SIsi K (He.ga K x) := by
  obtain ⟨c1, c⟩ := He.ba c
  obtain ⟨c2, c⟩ := He.ba c
  obtain ⟨c3, c4⟩ := He.ba c
  exact ⟨He.eqO_ok c1, He.eqO_ok c2, of_decide_eq_true c3, of_decide_eq_true c4⟩
theorem own_ok {x : Str} (c : (Fk.own x).ok K = true) : OexC K (He.ga K x) := by
  obtain ⟨c1, c⟩ := He.ba c
  obtain ⟨c2, c⟩ := He.ba c
  obtain ⟨c3, c⟩ := He.ba c
  obtain ⟨c4, c5⟩ := He.ba c
  exact ⟨oex_ok c1, He.eqO_ok c2, of_decide_eq_true c3, of_decide_eq_true c4, c5⟩
theorem base_ok {x : Str} (c : (Fk.base x).ok K = true) : Kx.BaseC K (He.ga K x) := by
  obtain ⟨c1, c⟩ := He.ba c
  obtain ⟨c2, c3⟩ := He.ba c
  exact ⟨He.eqO_ok c1, c2, val_ok c3⟩
theorem fn_ok {x m : Str} (c : (Fk.fn x m).ok K = true) : PySem.W.findIn K (.ref (He.ga K x)) m = some (some (.ref (He.ma K (He.ga K x) m))) ∧ PySem.W.typeIn K (.ref (He.ma K (He.ga K x) m)) = some (.type "function") := by
  obtain ⟨c1, c2⟩ := He.ba c
  exact ⟨He.eqO_ok c1, of_decide_eq_true c2⟩
theorem exm_ok {x y : Str} {b : Bool} (c : (Fk.exm x y b).ok K = true) : PySem.W.exmOne K (.ref (He.ga K x)) (.ref (He.ga K y)) = some b := of_decide_eq_true c
theorem kit_ok {x y : Str} {b : Bool} (c : (Fk.kit x y b).ok K = true) : PySem.W.kitOne K (.ref (He.ga K x)) (.ref (He.ga K y)) = some b := of_decide_eq_true c
theorem err_ok {x : Str} (c : (Fk.err x).ok K = true) : ExcC K (He.ga K x) := by
  obtain ⟨c1, c⟩ := He.ba c
  obtain ⟨c2, c⟩ := He.ba c
  obtain ⟨c3, c⟩ := He.ba c
  obtain ⟨c4, c⟩ := He.ba c
  obtain ⟨c5, c⟩ := He.ba c
  obtain ⟨c6, c⟩ := He.ba c
  obtain ⟨c7, c8⟩ := He.ba c
  exact ⟨He.eqO_ok c1, He.eqO_ok c2, of_decide_eq_true c3, c4, He.eqO_ok c5, He.eqO_ok c6, of_decide_eq_true c7, of_decide_eq_true c8⟩
end
/-- a law's end over such a head; what may leave hangs on the world -/
theorem walk_end {l : PySem.W.OpenLaw} {n k : Nat} {q : Program} {loose : List Str} {XP : (Str → Option Value) → Heap → Prop} {YP : World → Heap → Prop} {d : DefRec} {CX : World → CXT} {x : Str}
    (hn : l.most = some n) (hn2 : n ≤ sizeLine) (hdf : d.params.defaults = []) (hr : Room k callerA)
    (F : ∀ (w : World) (mg : Str → Option Value) (fa : Addr) (h : Heap), YP w h → h.Ns mainGlobals mg → mg d.name = some (.ref fa) →
      ∃ (K : PySem.W.Frag) (fd : FuncData) (sp : Sp), K.In h ∧ (∀ (s : Shared) (u : Value), BindsTo s fd ⟨[u], []⟩ [(x, u)]) ∧
        (∀ (H : Hp) (a : Addr) (ns : List Int), ns.length ≤ n → Only H → SqL K H a (ns.map V.int) → sp [.ref a] H (fun v _ => v = .bl true) fun _ _ _ => False) ∧
        ∀ base : Heap, K.In base → base.Ns mainGlobals mg → FnOk l.prog w K mg base (CX w) k fa fd [x] sp)
    (hCX : ∀ (w : World) (H : Hp) (s : Shared) (e : Value) (s' : Shared), CX w [] H s (fun _ _ _ => False) e s' → False) :
    PySem.W.WalkO q loose XP YP l.row.toRowW d [] (fun f vs => PySem.call f vs) := by
  refine Att.attach_call hn hdf fun w sa sb mg mb fa o pm cd doc a vs ns Gt Yt ho hd hcd hmg hobj hints hlen hg => ?_
  obtain ⟨K, fd, sp, X, hb, hs, hf⟩ := F w mg fa _ Yt Gt.T.g hmg
  have many := Nat.le_trans hlen hn2
  exact law_call X Gt.T.g Gt.T.b Gt.T.builtins Gt.T.nolimit hg hobj hints many hr hf hb (fun H hO hS => hs H a ns hlen hO hS) (fun H e s' => hCX w H sb e s')
end Hk

set_option Elab.async false
set_option linter.all false
set_option maxRecDepth 100000
set_option maxHeartbeats 4000000
namespace K1
open PySem PySem.Spec PyProof.Rows L2 Kx
/-! ### the head: facts by names -/
def dd (x : Str) (st : Stmt) : He.DefD := ⟨(x, none), x, x, defArgs st, defBody st, defScope st, [], []⟩
def dm (C x q : Str) (st : Stmt) : He.DefD := ⟨(C, some x), x, q, defArgs st, defBody st, defScope st, [], []⟩
def fn : List He.DefD := [
  dd "words_of" sWords,
  dd "is_made_of" sMade,
  dd "is_name" sName,
  dd "is_number" sNumb,
  dm "BadText" "__init__" "BadText.__init__" sBT,
  dm "Reader" "__init__" "Reader.__init__" sRI,
  dm "Reader" "ahead" "Reader.ahead" sAhead,
  dm "Reader" "step" "Reader.step" sStep,
  dm "Reader" "finish" "Reader.finish" sFin,
  dm "Reader" "read_variables" "Reader.read_variables" sRVars,
  dm "Reader" "read_block" "Reader.read_block" sRBlock,
  dm "Reader" "read_statement" "Reader.read_statement" sRStat,
  dm "Reader" "read_chance" "Reader.read_chance" sRChance,
  dm "Reader" "read_if" "Reader.read_if" sRIf,
  dm "Reader" "read_expression" "Reader.read_expression" sRExpr,
  dm "Reader" "read_name" "Reader.read_name" sRName,
  dm "Reader" "read_seat" "Reader.read_seat" sRSeat,
  dm "Reader" "read_number" "Reader.read_number" sRNum,
  dm "Game" "__init__" "Game.__init__" sGI,
  dm "Game" "__eq__" "Game.__eq__" sGE,
  dd "in_tuples" sInT,
  dd "read_game" sRG,
  dd "game_text" sGT,
  dd "block_words" sBW,
  dd "statement_words" sSW,
  dd "if_words" sIW,
  dd "expression_words" sEW,
  dd "_law_pool" sPool,
  dd "_law_draw" sDraw,
  dd "_law_spend" sSpend,
  dd "_law_number" sNum,
  dd "_law_same" sSame,
  dd "_law_value" sVal,
  dd "_law_statement" sSta,
  dd "_law_block" sBlo,
  dd "_law_names" sNames,
  dd "_law_game" sGame,
  dd "_law_value_words" sVW,
  dd "_law_block_words" sBlW,
  dd "_law_words" sWo,
  dd "_law_is_name" sLNm,
  dd "_law_is_number" sLNu,
  dd "_law_values" sLVs,
  dd "_law_begins" sLBg,
  dd "_law_blocks" sLBs,
  dd "_law_next" sLNx,
  dd "_law_wrong" sLWr,
  dd "_law_menu" sLMe,
  dd "_law_near" sLNe,
  dd "_law_changed" sLCh,
  dd "_law_walked" sLWk,
  dd "_law_moves" sLMv,
  dd "law" sLaw,
  dd "begins_rightly" sBeg]
def fa : List Hk.Fk := [
  .glo "words_of", .glo "is_made_of", .glo "is_name", .glo "is_number", .glo "in_tuples", .glo "read_game", .glo "game_text", .glo "block_words", .glo "statement_words", .glo "if_words", .glo "expression_words", .glo "_law_pool", .glo "_law_draw", .glo "_law_spend", .glo "_law_number", .glo "_law_same", .glo "_law_value", .glo "_law_statement", .glo "_law_block", .glo "_law_names", .glo "_law_game", .glo "_law_value_words", .glo "_law_block_words", .glo "_law_words", .glo "_law_is_name", .glo "_law_is_number", .glo "_law_values", .glo "_law_begins", .glo "_law_blocks", .glo "_law_next", .glo "_law_wrong", .glo "_law_menu", .glo "_law_near", .glo "_law_changed", .glo "_law_walked", .glo "_law_moves", .glo "law", .glo "begins_rightly", .glo "Reader", .glo "Game", .glo "LossError", .glo "BadText", .glo "BadPaper", .glo "BadPlan", .glo "BadRatio", .glo "NoPlan", .glo "NoShare", .glo "TooLarge", .free "all", .free "len", .free "int", .free "list", .free "tuple", .free "isinstance", .free "str", .free "bool", .free "range", .texts "KEY_WORDS" KEYS, .texts "CHANCES" CHS, .texts "SEATS" SEATS, .texts "STATEMENTS" STM, .texts "OPERATORS" OPS, .str "LETTERS" LET, .str "DIGITS" DIG, .int "LONGEST_NAME" 8, .int "LONGEST_NUMBER" 5, .int "LARGEST_NUMBER" 65535, .int "DEEPEST_EXPRESSION" 6, .int "DEEPEST_IF" 4, .int "MOST_RESULTS" 8, .int "MOST_CHANCES" 10, .int "MOST_VARIABLES" 5, .cls "Reader", .noat "Reader" "words", .noat "Reader" "at", .noat "Reader" "names", .noat "Reader" "chances", .noat "Reader" "moves", .meth "Reader" "ahead", .meth "Reader" "step", .meth "Reader" "finish", .meth "Reader" "read_variables", .meth "Reader" "read_block", .meth "Reader" "read_statement", .meth "Reader" "read_chance", .meth "Reader" "read_if", .meth "Reader" "read_expression", .meth "Reader" "read_name", .meth "Reader" "read_seat", .meth "Reader" "read_number", .mkr "Reader", .cls "Game", .noat "Game" "variables", .noat "Game" "block", .mkr "Game", .si "Game", .base "LossError", .own "BadText", .noat "BadText" "at", .fn "BadText" "__init__", .err "BadText", .exm "BadText" "LossError" true, .kit "BadText" "BadPaper" false, .kit "BadText" "BadPlan" false, .kit "BadText" "BadRatio" false, .kit "BadText" "NoPlan" false, .kit "BadText" "NoShare" false, .kit "BadText" "TooLarge" false]
theorem facts {P : Program} {w : World} {K : PySem.W.Frag} {h : Heap} {mg : Str → Option Value} {f : Addr} (X : K.In h) (G : h.Ns mainGlobals mg) (hfa : mg ("law" : Str) = some (.ref f)) (c : Hk.SaysF fa fn K) :
    ∃ fd : FuncData, (∀ (s : Shared) (v : Value), BindsTo s fd ⟨[v], []⟩ [("script", v)]) ∧ ∀ base : Heap, K.In base → base.Ns mainGlobals mg → FnOk P w K mg base CX0 27 f fd ["script"] (spLaw K) := by
  obtain ⟨d0, D0⟩ := c.def_ 0 (d := dd "words_of" sWords) rfl
  have F0 : Fun K "words_of" "words_of" sWords (He.ga K "words_of") d0 := Hk.fun_of D0
  have b0 := F0.binds (ps := ["text"]) fun _ _ _ _ _ _ us hl => match us, hl with | [_], _ => rfl
  have g0 : mg "words_of" = some (.ref (He.ga K "words_of")) := Hk.glo_ok X G (c.fact (.glo "words_of") (by decide +kernel))
  obtain ⟨d1, D1⟩ := c.def_ 1 (d := dd "is_made_of" sMade) rfl
  have F1 : Fun K "is_made_of" "is_made_of" sMade (He.ga K "is_made_of") d1 := Hk.fun_of D1
  have b1 := F1.binds (ps := ["word", "signs"]) fun _ _ _ _ _ _ us hl => match us, hl with | [_, _], _ => rfl
  have g1 : mg "is_made_of" = some (.ref (He.ga K "is_made_of")) := Hk.glo_ok X G (c.fact (.glo "is_made_of") (by decide +kernel))
  obtain ⟨d2, D2⟩ := c.def_ 2 (d := dd "is_name" sName) rfl
  have F2 : Fun K "is_name" "is_name" sName (He.ga K "is_name") d2 := Hk.fun_of D2
  have b2 := F2.binds (ps := ["word"]) fun _ _ _ _ _ _ us hl => match us, hl with | [_], _ => rfl
  have g2 : mg "is_name" = some (.ref (He.ga K "is_name")) := Hk.glo_ok X G (c.fact (.glo "is_name") (by decide +kernel))
  obtain ⟨d3, D3⟩ := c.def_ 3 (d := dd "is_number" sNumb) rfl
  have F3 : Fun K "is_number" "is_number" sNumb (He.ga K "is_number") d3 := Hk.fun_of D3
  have b3 := F3.binds (ps := ["word"]) fun _ _ _ _ _ _ us hl => match us, hl with | [_], _ => rfl
  have g3 : mg "is_number" = some (.ref (He.ga K "is_number")) := Hk.glo_ok X G (c.fact (.glo "is_number") (by decide +kernel))
  obtain ⟨d4, D4⟩ := c.def_ 4 (d := dm "BadText" "__init__" "BadText.__init__" sBT) rfl
  have F4 : Fun K "__init__" "BadText.__init__" sBT (He.ma K (He.ga K "BadText") "__init__") d4 := Hk.fun_of D4
  have b4 := F4.binds (ps := ["self", "at"]) fun _ _ _ _ _ _ us hl => match us, hl with | [_, _], _ => rfl
  obtain ⟨d5, D5⟩ := c.def_ 5 (d := dm "Reader" "__init__" "Reader.__init__" sRI) rfl
  have F5 : Fun K "__init__" "Reader.__init__" sRI (He.ma K (He.ga K "Reader") "__init__") d5 := Hk.fun_of D5
  have b5 := F5.binds (ps := ["self", "words"]) fun _ _ _ _ _ _ us hl => match us, hl with | [_, _], _ => rfl
  obtain ⟨d6, D6⟩ := c.def_ 6 (d := dm "Reader" "ahead" "Reader.ahead" sAhead) rfl
  have F6 : Fun K "ahead" "Reader.ahead" sAhead (He.ma K (He.ga K "Reader") "ahead") d6 := Hk.fun_of D6
  have b6 := F6.binds (ps := ["self"]) fun _ _ _ _ _ _ us hl => match us, hl with | [_], _ => rfl
  have m6 := Hk.meth_ok (c.fact (.meth "Reader" "ahead") (by decide +kernel))
  obtain ⟨d7, D7⟩ := c.def_ 7 (d := dm "Reader" "step" "Reader.step" sStep) rfl
  have F7 : Fun K "step" "Reader.step" sStep (He.ma K (He.ga K "Reader") "step") d7 := Hk.fun_of D7
  have b7 := F7.binds (ps := ["self", "fits"]) fun _ _ _ _ _ _ us hl => match us, hl with | [_, _], _ => rfl
  have m7 := Hk.meth_ok (c.fact (.meth "Reader" "step") (by decide +kernel))
  obtain ⟨d8, D8⟩ := c.def_ 8 (d := dm "Reader" "finish" "Reader.finish" sFin) rfl
  have F8 : Fun K "finish" "Reader.finish" sFin (He.ma K (He.ga K "Reader") "finish") d8 := Hk.fun_of D8
  have b8 := F8.binds (ps := ["self"]) fun _ _ _ _ _ _ us hl => match us, hl with | [_], _ => rfl
  have m8 := Hk.meth_ok (c.fact (.meth "Reader" "finish") (by decide +kernel))
  obtain ⟨d9, D9⟩ := c.def_ 9 (d := dm "Reader" "read_variables" "Reader.read_variables" sRVars) rfl
  have F9 : Fun K "read_variables" "Reader.read_variables" sRVars (He.ma K (He.ga K "Reader") "read_variables") d9 := Hk.fun_of D9
  have b9 := F9.binds (ps := ["self"]) fun _ _ _ _ _ _ us hl => match us, hl with | [_], _ => rfl
  have m9 := Hk.meth_ok (c.fact (.meth "Reader" "read_variables") (by decide +kernel))
  obtain ⟨d10, D10⟩ := c.def_ 10 (d := dm "Reader" "read_block" "Reader.read_block" sRBlock) rfl
  have F10 : Fun K "read_block" "Reader.read_block" sRBlock (He.ma K (He.ga K "Reader") "read_block") d10 := Hk.fun_of D10
  have b10 := F10.binds (ps := ["self", "depth"]) fun _ _ _ _ _ _ us hl => match us, hl with | [_, _], _ => rfl
  have m10 := Hk.meth_ok (c.fact (.meth "Reader" "read_block") (by decide +kernel))
  obtain ⟨d11, D11⟩ := c.def_ 11 (d := dm "Reader" "read_statement" "Reader.read_statement" sRStat) rfl
  have F11 : Fun K "read_statement" "Reader.read_statement" sRStat (He.ma K (He.ga K "Reader") "read_statement") d11 := Hk.fun_of D11
  have b11 := F11.binds (ps := ["self", "depth"]) fun _ _ _ _ _ _ us hl => match us, hl with | [_, _], _ => rfl
  have m11 := Hk.meth_ok (c.fact (.meth "Reader" "read_statement") (by decide +kernel))
  obtain ⟨d12, D12⟩ := c.def_ 12 (d := dm "Reader" "read_chance" "Reader.read_chance" sRChance) rfl
  have F12 : Fun K "read_chance" "Reader.read_chance" sRChance (He.ma K (He.ga K "Reader") "read_chance") d12 := Hk.fun_of D12
  have b12 := F12.binds (ps := ["self", "kind"]) fun _ _ _ _ _ _ us hl => match us, hl with | [_, _], _ => rfl
  have m12 := Hk.meth_ok (c.fact (.meth "Reader" "read_chance") (by decide +kernel))
  obtain ⟨d13, D13⟩ := c.def_ 13 (d := dm "Reader" "read_if" "Reader.read_if" sRIf) rfl
  have F13 : Fun K "read_if" "Reader.read_if" sRIf (He.ma K (He.ga K "Reader") "read_if") d13 := Hk.fun_of D13
  have b13 := F13.binds (ps := ["self", "depth"]) fun _ _ _ _ _ _ us hl => match us, hl with | [_, _], _ => rfl
  have m13 := Hk.meth_ok (c.fact (.meth "Reader" "read_if") (by decide +kernel))
  obtain ⟨d14, D14⟩ := c.def_ 14 (d := dm "Reader" "read_expression" "Reader.read_expression" sRExpr) rfl
  have F14 : Fun K "read_expression" "Reader.read_expression" sRExpr (He.ma K (He.ga K "Reader") "read_expression") d14 := Hk.fun_of D14
  have b14 := F14.binds (ps := ["self", "depth"]) fun _ _ _ _ _ _ us hl => match us, hl with | [_, _], _ => rfl
  have m14 := Hk.meth_ok (c.fact (.meth "Reader" "read_expression") (by decide +kernel))
  obtain ⟨d15, D15⟩ := c.def_ 15 (d := dm "Reader" "read_name" "Reader.read_name" sRName) rfl
  have F15 : Fun K "read_name" "Reader.read_name" sRName (He.ma K (He.ga K "Reader") "read_name") d15 := Hk.fun_of D15
  have b15 := F15.binds (ps := ["self"]) fun _ _ _ _ _ _ us hl => match us, hl with | [_], _ => rfl
  have m15 := Hk.meth_ok (c.fact (.meth "Reader" "read_name") (by decide +kernel))
  obtain ⟨d16, D16⟩ := c.def_ 16 (d := dm "Reader" "read_seat" "Reader.read_seat" sRSeat) rfl
  have F16 : Fun K "read_seat" "Reader.read_seat" sRSeat (He.ma K (He.ga K "Reader") "read_seat") d16 := Hk.fun_of D16
  have b16 := F16.binds (ps := ["self"]) fun _ _ _ _ _ _ us hl => match us, hl with | [_], _ => rfl
  have m16 := Hk.meth_ok (c.fact (.meth "Reader" "read_seat") (by decide +kernel))
  obtain ⟨d17, D17⟩ := c.def_ 17 (d := dm "Reader" "read_number" "Reader.read_number" sRNum) rfl
  have F17 : Fun K "read_number" "Reader.read_number" sRNum (He.ma K (He.ga K "Reader") "read_number") d17 := Hk.fun_of D17
  have b17 := F17.binds (ps := ["self", "low", "high"]) fun _ _ _ _ _ _ us hl => match us, hl with | [_, _, _], _ => rfl
  have m17 := Hk.meth_ok (c.fact (.meth "Reader" "read_number") (by decide +kernel))
  obtain ⟨d18, D18⟩ := c.def_ 18 (d := dm "Game" "__init__" "Game.__init__" sGI) rfl
  have F18 : Fun K "__init__" "Game.__init__" sGI (He.ma K (He.ga K "Game") "__init__") d18 := Hk.fun_of D18
  have b18 := F18.binds (ps := ["self", "variables", "block"]) fun _ _ _ _ _ _ us hl => match us, hl with | [_, _, _], _ => rfl
  obtain ⟨d19, D19⟩ := c.def_ 19 (d := dm "Game" "__eq__" "Game.__eq__" sGE) rfl
  have F19 : Fun K "__eq__" "Game.__eq__" sGE (He.ma K (He.ga K "Game") "__eq__") d19 := Hk.fun_of D19
  have b19 := F19.binds (ps := ["self", "other"]) fun _ _ _ _ _ _ us hl => match us, hl with | [_, _], _ => rfl
  obtain ⟨d20, D20⟩ := c.def_ 20 (d := dd "in_tuples" sInT) rfl
  have F20 : Fun K "in_tuples" "in_tuples" sInT (He.ga K "in_tuples") d20 := Hk.fun_of D20
  have b20 := F20.binds (ps := ["data"]) fun _ _ _ _ _ _ us hl => match us, hl with | [_], _ => rfl
  have g20 : mg "in_tuples" = some (.ref (He.ga K "in_tuples")) := Hk.glo_ok X G (c.fact (.glo "in_tuples") (by decide +kernel))
  obtain ⟨d21, D21⟩ := c.def_ 21 (d := dd "read_game" sRG) rfl
  have F21 : Fun K "read_game" "read_game" sRG (He.ga K "read_game") d21 := Hk.fun_of D21
  have b21 := F21.binds (ps := ["text"]) fun _ _ _ _ _ _ us hl => match us, hl with | [_], _ => rfl
  have g21 : mg "read_game" = some (.ref (He.ga K "read_game")) := Hk.glo_ok X G (c.fact (.glo "read_game") (by decide +kernel))
  obtain ⟨d22, D22⟩ := c.def_ 22 (d := dd "game_text" sGT) rfl
  have F22 : Fun K "game_text" "game_text" sGT (He.ga K "game_text") d22 := Hk.fun_of D22
  have b22 := F22.binds (ps := ["game"]) fun _ _ _ _ _ _ us hl => match us, hl with | [_], _ => rfl
  have g22 : mg "game_text" = some (.ref (He.ga K "game_text")) := Hk.glo_ok X G (c.fact (.glo "game_text") (by decide +kernel))
  obtain ⟨d23, D23⟩ := c.def_ 23 (d := dd "block_words" sBW) rfl
  have F23 : Fun K "block_words" "block_words" sBW (He.ga K "block_words") d23 := Hk.fun_of D23
  have b23 := F23.binds (ps := ["block"]) fun _ _ _ _ _ _ us hl => match us, hl with | [_], _ => rfl
  have g23 : mg "block_words" = some (.ref (He.ga K "block_words")) := Hk.glo_ok X G (c.fact (.glo "block_words") (by decide +kernel))
  obtain ⟨d24, D24⟩ := c.def_ 24 (d := dd "statement_words" sSW) rfl
  have F24 : Fun K "statement_words" "statement_words" sSW (He.ga K "statement_words") d24 := Hk.fun_of D24
  have b24 := F24.binds (ps := ["statement"]) fun _ _ _ _ _ _ us hl => match us, hl with | [_], _ => rfl
  have g24 : mg "statement_words" = some (.ref (He.ga K "statement_words")) := Hk.glo_ok X G (c.fact (.glo "statement_words") (by decide +kernel))
  obtain ⟨d25, D25⟩ := c.def_ 25 (d := dd "if_words" sIW) rfl
  have F25 : Fun K "if_words" "if_words" sIW (He.ga K "if_words") d25 := Hk.fun_of D25
  have b25 := F25.binds (ps := ["statement"]) fun _ _ _ _ _ _ us hl => match us, hl with | [_], _ => rfl
  have g25 : mg "if_words" = some (.ref (He.ga K "if_words")) := Hk.glo_ok X G (c.fact (.glo "if_words") (by decide +kernel))
  obtain ⟨d26, D26⟩ := c.def_ 26 (d := dd "expression_words" sEW) rfl
  have F26 : Fun K "expression_words" "expression_words" sEW (He.ga K "expression_words") d26 := Hk.fun_of D26
  have b26 := F26.binds (ps := ["expression"]) fun _ _ _ _ _ _ us hl => match us, hl with | [_], _ => rfl
  have g26 : mg "expression_words" = some (.ref (He.ga K "expression_words")) := Hk.glo_ok X G (c.fact (.glo "expression_words") (by decide +kernel))
  obtain ⟨d27, D27⟩ := c.def_ 27 (d := dd "_law_pool" sPool) rfl
  have F27 : Fun K "_law_pool" "_law_pool" sPool (He.ga K "_law_pool") d27 := Hk.fun_of D27
  have b27 := F27.binds (ps := ["script", "budget"]) fun _ _ _ _ _ _ us hl => match us, hl with | [_, _], _ => rfl
  have g27 : mg "_law_pool" = some (.ref (He.ga K "_law_pool")) := Hk.glo_ok X G (c.fact (.glo "_law_pool") (by decide +kernel))
  obtain ⟨d28, D28⟩ := c.def_ 28 (d := dd "_law_draw" sDraw) rfl
  have F28 : Fun K "_law_draw" "_law_draw" sDraw (He.ga K "_law_draw") d28 := Hk.fun_of D28
  have b28 := F28.binds (ps := ["pool", "size"]) fun _ _ _ _ _ _ us hl => match us, hl with | [_, _], _ => rfl
  have g28 : mg "_law_draw" = some (.ref (He.ga K "_law_draw")) := Hk.glo_ok X G (c.fact (.glo "_law_draw") (by decide +kernel))
  obtain ⟨d29, D29⟩ := c.def_ 29 (d := dd "_law_spend" sSpend) rfl
  have F29 : Fun K "_law_spend" "_law_spend" sSpend (He.ga K "_law_spend") d29 := Hk.fun_of D29
  have b29 := F29.binds (ps := ["pool"]) fun _ _ _ _ _ _ us hl => match us, hl with | [_], _ => rfl
  have g29 : mg "_law_spend" = some (.ref (He.ga K "_law_spend")) := Hk.glo_ok X G (c.fact (.glo "_law_spend") (by decide +kernel))
  obtain ⟨d30, D30⟩ := c.def_ 30 (d := dd "_law_number" sNum) rfl
  have F30 : Fun K "_law_number" "_law_number" sNum (He.ga K "_law_number") d30 := Hk.fun_of D30
  have b30 := F30.binds (ps := ["pool"]) fun _ _ _ _ _ _ us hl => match us, hl with | [_], _ => rfl
  have g30 : mg "_law_number" = some (.ref (He.ga K "_law_number")) := Hk.glo_ok X G (c.fact (.glo "_law_number") (by decide +kernel))
  obtain ⟨d31, D31⟩ := c.def_ 31 (d := dd "_law_same" sSame) rfl
  have F31 : Fun K "_law_same" "_law_same" sSame (He.ga K "_law_same") d31 := Hk.fun_of D31
  have b31 := F31.binds (ps := ["actual", "due"]) fun _ _ _ _ _ _ us hl => match us, hl with | [_, _], _ => rfl
  have g31 : mg "_law_same" = some (.ref (He.ga K "_law_same")) := Hk.glo_ok X G (c.fact (.glo "_law_same") (by decide +kernel))
  obtain ⟨d32, D32⟩ := c.def_ 32 (d := dd "_law_value" sVal) rfl
  have F32 : Fun K "_law_value" "_law_value" sVal (He.ga K "_law_value") d32 := Hk.fun_of D32
  have b32 := F32.binds (ps := ["pool", "names", "deep"]) fun _ _ _ _ _ _ us hl => match us, hl with | [_, _, _], _ => rfl
  have g32 : mg "_law_value" = some (.ref (He.ga K "_law_value")) := Hk.glo_ok X G (c.fact (.glo "_law_value") (by decide +kernel))
  obtain ⟨d33, D33⟩ := c.def_ 33 (d := dd "_law_statement" sSta) rfl
  have F33 : Fun K "_law_statement" "_law_statement" sSta (He.ga K "_law_statement") d33 := Hk.fun_of D33
  have b33 := F33.binds (ps := ["pool", "scope", "room"]) fun _ _ _ _ _ _ us hl => match us, hl with | [_, _, _], _ => rfl
  have g33 : mg "_law_statement" = some (.ref (He.ga K "_law_statement")) := Hk.glo_ok X G (c.fact (.glo "_law_statement") (by decide +kernel))
  obtain ⟨d34, D34⟩ := c.def_ 34 (d := dd "_law_block" sBlo) rfl
  have F34 : Fun K "_law_block" "_law_block" sBlo (He.ga K "_law_block") d34 := Hk.fun_of D34
  have b34 := F34.binds (ps := ["pool", "scope", "room", "most"]) fun _ _ _ _ _ _ us hl => match us, hl with | [_, _, _, _], _ => rfl
  have g34 : mg "_law_block" = some (.ref (He.ga K "_law_block")) := Hk.glo_ok X G (c.fact (.glo "_law_block") (by decide +kernel))
  obtain ⟨d35, D35⟩ := c.def_ 35 (d := dd "_law_names" sNames) rfl
  have F35 : Fun K "_law_names" "_law_names" sNames (He.ga K "_law_names") d35 := Hk.fun_of D35
  have b35 := F35.binds (ps := ["pool", "count"]) fun _ _ _ _ _ _ us hl => match us, hl with | [_, _], _ => rfl
  have g35 : mg "_law_names" = some (.ref (He.ga K "_law_names")) := Hk.glo_ok X G (c.fact (.glo "_law_names") (by decide +kernel))
  obtain ⟨d36, D36⟩ := c.def_ 36 (d := dd "_law_game" sGame) rfl
  have F36 : Fun K "_law_game" "_law_game" sGame (He.ga K "_law_game") d36 := Hk.fun_of D36
  have b36 := F36.binds (ps := ["pool", "moves", "most"]) fun _ _ _ _ _ _ us hl => match us, hl with | [_, _, _], _ => rfl
  have g36 : mg "_law_game" = some (.ref (He.ga K "_law_game")) := Hk.glo_ok X G (c.fact (.glo "_law_game") (by decide +kernel))
  obtain ⟨d37, D37⟩ := c.def_ 37 (d := dd "_law_value_words" sVW) rfl
  have F37 : Fun K "_law_value_words" "_law_value_words" sVW (He.ga K "_law_value_words") d37 := Hk.fun_of D37
  have b37 := F37.binds (ps := ["due"]) fun _ _ _ _ _ _ us hl => match us, hl with | [_], _ => rfl
  have g37 : mg "_law_value_words" = some (.ref (He.ga K "_law_value_words")) := Hk.glo_ok X G (c.fact (.glo "_law_value_words") (by decide +kernel))
  obtain ⟨d38, D38⟩ := c.def_ 38 (d := dd "_law_block_words" sBlW) rfl
  have F38 : Fun K "_law_block_words" "_law_block_words" sBlW (He.ga K "_law_block_words") d38 := Hk.fun_of D38
  have b38 := F38.binds (ps := ["block"]) fun _ _ _ _ _ _ us hl => match us, hl with | [_], _ => rfl
  have g38 : mg "_law_block_words" = some (.ref (He.ga K "_law_block_words")) := Hk.glo_ok X G (c.fact (.glo "_law_block_words") (by decide +kernel))
  obtain ⟨d39, D39⟩ := c.def_ 39 (d := dd "_law_words" sWo) rfl
  have F39 : Fun K "_law_words" "_law_words" sWo (He.ga K "_law_words") d39 := Hk.fun_of D39
  have b39 := F39.binds (ps := ["game"]) fun _ _ _ _ _ _ us hl => match us, hl with | [_], _ => rfl
  have g39 : mg "_law_words" = some (.ref (He.ga K "_law_words")) := Hk.glo_ok X G (c.fact (.glo "_law_words") (by decide +kernel))
  obtain ⟨d40, D40⟩ := c.def_ 40 (d := dd "_law_is_name" sLNm) rfl
  have F40 : Fun K "_law_is_name" "_law_is_name" sLNm (He.ga K "_law_is_name") d40 := Hk.fun_of D40
  have b40 := F40.binds (ps := ["word"]) fun _ _ _ _ _ _ us hl => match us, hl with | [_], _ => rfl
  have g40 : mg "_law_is_name" = some (.ref (He.ga K "_law_is_name")) := Hk.glo_ok X G (c.fact (.glo "_law_is_name") (by decide +kernel))
  obtain ⟨d41, D41⟩ := c.def_ 41 (d := dd "_law_is_number" sLNu) rfl
  have F41 : Fun K "_law_is_number" "_law_is_number" sLNu (He.ga K "_law_is_number") d41 := Hk.fun_of D41
  have b41 := F41.binds (ps := ["word", "least", "most"]) fun _ _ _ _ _ _ us hl => match us, hl with | [_, _, _], _ => rfl
  have g41 : mg "_law_is_number" = some (.ref (He.ga K "_law_is_number")) := Hk.glo_ok X G (c.fact (.glo "_law_is_number") (by decide +kernel))
  obtain ⟨d42, D42⟩ := c.def_ 42 (d := dd "_law_values" sLVs) rfl
  have F42 : Fun K "_law_values" "_law_values" sLVs (He.ga K "_law_values") d42 := Hk.fun_of D42
  have b42 := F42.binds (ps := ["stack", "scope", "word", "room"]) fun _ _ _ _ _ _ us hl => match us, hl with | [_, _, _, _], _ => rfl
  have g42 : mg "_law_values" = some (.ref (He.ga K "_law_values")) := Hk.glo_ok X G (c.fact (.glo "_law_values") (by decide +kernel))
  obtain ⟨d43, D43⟩ := c.def_ 43 (d := dd "_law_begins" sLBg) rfl
  have F43 : Fun K "_law_begins" "_law_begins" sLBg (He.ga K "_law_begins") d43 := Hk.fun_of D43
  have b43 := F43.binds (ps := ["stack", "scope", "word", "room"]) fun _ _ _ _ _ _ us hl => match us, hl with | [_, _, _, _], _ => rfl
  have g43 : mg "_law_begins" = some (.ref (He.ga K "_law_begins")) := Hk.glo_ok X G (c.fact (.glo "_law_begins") (by decide +kernel))
  obtain ⟨d44, D44⟩ := c.def_ 44 (d := dd "_law_blocks" sLBs) rfl
  have F44 : Fun K "_law_blocks" "_law_blocks" sLBs (He.ga K "_law_blocks") d44 := Hk.fun_of D44
  have b44 := F44.binds (ps := ["stack", "scope", "word", "room", "kind"]) fun _ _ _ _ _ _ us hl => match us, hl with | [_, _, _, _, _], _ => rfl
  have g44 : mg "_law_blocks" = some (.ref (He.ga K "_law_blocks")) := Hk.glo_ok X G (c.fact (.glo "_law_blocks") (by decide +kernel))
  obtain ⟨d45, D45⟩ := c.def_ 45 (d := dd "_law_next" sLNx) rfl
  have F45 : Fun K "_law_next" "_law_next" sLNx (He.ga K "_law_next") d45 := Hk.fun_of D45
  have b45 := F45.binds (ps := ["stack", "scope", "word"]) fun _ _ _ _ _ _ us hl => match us, hl with | [_, _, _], _ => rfl
  have g45 : mg "_law_next" = some (.ref (He.ga K "_law_next")) := Hk.glo_ok X G (c.fact (.glo "_law_next") (by decide +kernel))
  obtain ⟨d46, D46⟩ := c.def_ 46 (d := dd "_law_wrong" sLWr) rfl
  have F46 : Fun K "_law_wrong" "_law_wrong" sLWr (He.ga K "_law_wrong") d46 := Hk.fun_of D46
  have b46 := F46.binds (ps := ["words"]) fun _ _ _ _ _ _ us hl => match us, hl with | [_], _ => rfl
  have g46 : mg "_law_wrong" = some (.ref (He.ga K "_law_wrong")) := Hk.glo_ok X G (c.fact (.glo "_law_wrong") (by decide +kernel))
  obtain ⟨d47, D47⟩ := c.def_ 47 (d := dd "_law_menu" sLMe) rfl
  have F47 : Fun K "_law_menu" "_law_menu" sLMe (He.ga K "_law_menu") d47 := Hk.fun_of D47
  have b47 := F47.binds (ps := ["pool"]) fun _ _ _ _ _ _ us hl => match us, hl with | [_], _ => rfl
  have g47 : mg "_law_menu" = some (.ref (He.ga K "_law_menu")) := Hk.glo_ok X G (c.fact (.glo "_law_menu") (by decide +kernel))
  obtain ⟨d48, D48⟩ := c.def_ 48 (d := dd "_law_near" sLNe) rfl
  have F48 : Fun K "_law_near" "_law_near" sLNe (He.ga K "_law_near") d48 := Hk.fun_of D48
  have b48 := F48.binds (ps := ["pool", "word"]) fun _ _ _ _ _ _ us hl => match us, hl with | [_, _], _ => rfl
  have g48 : mg "_law_near" = some (.ref (He.ga K "_law_near")) := Hk.glo_ok X G (c.fact (.glo "_law_near") (by decide +kernel))
  obtain ⟨d49, D49⟩ := c.def_ 49 (d := dd "_law_changed" sLCh) rfl
  have F49 : Fun K "_law_changed" "_law_changed" sLCh (He.ga K "_law_changed") d49 := Hk.fun_of D49
  have b49 := F49.binds (ps := ["pool", "words"]) fun _ _ _ _ _ _ us hl => match us, hl with | [_, _], _ => rfl
  have g49 : mg "_law_changed" = some (.ref (He.ga K "_law_changed")) := Hk.glo_ok X G (c.fact (.glo "_law_changed") (by decide +kernel))
  obtain ⟨d50, D50⟩ := c.def_ 50 (d := dd "_law_walked" sLWk) rfl
  have F50 : Fun K "_law_walked" "_law_walked" sLWk (He.ga K "_law_walked") d50 := Hk.fun_of D50
  have b50 := F50.binds (ps := ["pool"]) fun _ _ _ _ _ _ us hl => match us, hl with | [_], _ => rfl
  have g50 : mg "_law_walked" = some (.ref (He.ga K "_law_walked")) := Hk.glo_ok X G (c.fact (.glo "_law_walked") (by decide +kernel))
  obtain ⟨d51, D51⟩ := c.def_ 51 (d := dd "_law_moves" sLMv) rfl
  have F51 : Fun K "_law_moves" "_law_moves" sLMv (He.ga K "_law_moves") d51 := Hk.fun_of D51
  have b51 := F51.binds (ps := ["block"]) fun _ _ _ _ _ _ us hl => match us, hl with | [_], _ => rfl
  have g51 : mg "_law_moves" = some (.ref (He.ga K "_law_moves")) := Hk.glo_ok X G (c.fact (.glo "_law_moves") (by decide +kernel))
  obtain ⟨d52, D52⟩ := c.def_ 52 (d := dd "law" sLaw) rfl
  have F52 : Fun K "law" "law" sLaw (He.ga K "law") d52 := Hk.fun_of D52
  have b52 := F52.binds (ps := ["script"]) fun _ _ _ _ _ _ us hl => match us, hl with | [_], _ => rfl
  have g52 : mg "law" = some (.ref (He.ga K "law")) := Hk.glo_ok X G (c.fact (.glo "law") (by decide +kernel))
  obtain ⟨d53, D53⟩ := c.def_ 53 (d := dd "begins_rightly" sBeg) rfl
  have F53 : Fun K "begins_rightly" "begins_rightly" sBeg (He.ga K "begins_rightly") d53 := Hk.fun_of D53
  have b53 := F53.binds (ps := ["word"]) fun _ _ _ _ _ _ us hl => match us, hl with | [_], _ => rfl
  have g53 : mg "begins_rightly" = some (.ref (He.ga K "begins_rightly")) := Hk.glo_ok X G (c.fact (.glo "begins_rightly") (by decide +kernel))
  have TW : TxW K mg := ⟨Hk.texts_ok X G (c.fact (.texts "KEY_WORDS" KEYS) (by decide +kernel)), Hk.texts_ok X G (c.fact (.texts "CHANCES" CHS) (by decide +kernel)), Hk.texts_ok X G (c.fact (.texts "SEATS" SEATS) (by decide +kernel)), Hk.texts_ok X G (c.fact (.texts "STATEMENTS" STM) (by decide +kernel)), Hk.texts_ok X G (c.fact (.texts "OPERATORS" OPS) (by decide +kernel)), Hk.str_ok X G (c.fact (.str "LETTERS" LET) (by decide +kernel)), Hk.str_ok X G (c.fact (.str "DIGITS" DIG) (by decide +kernel)), Hk.int_ok X G (c.fact (.int "LONGEST_NAME" 8) (by decide +kernel)), Hk.int_ok X G (c.fact (.int "LONGEST_NUMBER" 5) (by decide +kernel)), Hk.int_ok X G (c.fact (.int "LARGEST_NUMBER" 65535) (by decide +kernel)), Hk.free_ok X G (c.fact (.free "all") (by decide +kernel)), Hk.free_ok X G (c.fact (.free "len") (by decide +kernel)), Hk.free_ok X G (c.fact (.free "int") (by decide +kernel))⟩
  have TM : TxM mg := ⟨Hk.int_ok X G (c.fact (.int "DEEPEST_EXPRESSION" 6) (by decide +kernel)), Hk.int_ok X G (c.fact (.int "DEEPEST_IF" 4) (by decide +kernel)), Hk.int_ok X G (c.fact (.int "MOST_RESULTS" 8) (by decide +kernel)), Hk.int_ok X G (c.fact (.int "MOST_CHANCES" 10) (by decide +kernel)), Hk.int_ok X G (c.fact (.int "MOST_VARIABLES" 5) (by decide +kernel))⟩
  have gR := Hk.glo_ok X G (c.fact (.glo "Reader") (by decide +kernel))
  have gG := Hk.glo_ok X G (c.fact (.glo "Game") (by decide +kernel))
  have gL := Hk.glo_ok X G (c.fact (.glo "LossError") (by decide +kernel))
  have gB := Hk.glo_ok X G (c.fact (.glo "BadText") (by decide +kernel))
  obtain ⟨iB, tB⟩ := Hk.fn_ok (c.fact (.fn "BadText" "__init__") (by decide +kernel))
  have TR : TxR K mg (He.ga K "Reader") (He.ga K "LossError") (He.ga K "BadText") (He.ma K (He.ga K "BadText") "__init__") := ⟨Hk.cls_ok (c.fact (.cls "Reader") (by decide +kernel)), Hk.noat_ok (c.fact (.noat "Reader" "words") (by decide +kernel)), Hk.noat_ok (c.fact (.noat "Reader" "at") (by decide +kernel)), Hk.noat_ok (c.fact (.noat "Reader" "names") (by decide +kernel)), Hk.noat_ok (c.fact (.noat "Reader" "chances") (by decide +kernel)), Hk.noat_ok (c.fact (.noat "Reader" "moves") (by decide +kernel)), gR, gL, gB, Hk.base_ok (c.fact (.base "LossError") (by decide +kernel)), Hk.own_ok (c.fact (.own "BadText") (by decide +kernel)), Hk.noat_ok (c.fact (.noat "BadText" "at") (by decide +kernel)), iB, tB, Hk.free_ok X G (c.fact (.free "len") (by decide +kernel)), Hk.free_ok X G (c.fact (.free "list") (by decide +kernel)), Hk.free_ok X G (c.fact (.free "tuple") (by decide +kernel)), Hk.free_ok X G (c.fact (.free "int") (by decide +kernel))⟩
  have TT : TxT K mg := ⟨Hk.free_ok X G (c.fact (.free "isinstance") (by decide +kernel)), Hk.free_ok X G (c.fact (.free "list") (by decide +kernel)), Hk.free_ok X G (c.fact (.free "tuple") (by decide +kernel))⟩
  have TG : TxG K mg (He.ga K "Game") := ⟨Hk.cls_ok (c.fact (.cls "Game") (by decide +kernel)), Hk.noat_ok (c.fact (.noat "Game" "variables") (by decide +kernel)), Hk.noat_ok (c.fact (.noat "Game" "block") (by decide +kernel)), gG, Hk.si_ok (c.fact (.si "Game") (by decide +kernel)), Hk.free_ok X G (c.fact (.free "isinstance") (by decide +kernel))⟩
  have TS : TxS mg := ⟨Hk.free_ok X G (c.fact (.free "str") (by decide +kernel))⟩
  have TL : TxL mg := ⟨Hk.free_ok X G (c.fact (.free "isinstance") (by decide +kernel)), Hk.free_ok X G (c.fact (.free "int") (by decide +kernel)), Hk.free_ok X G (c.fact (.free "str") (by decide +kernel)), Hk.free_ok X G (c.fact (.free "len") (by decide +kernel)), Hk.free_ok X G (c.fact (.free "list") (by decide +kernel)), Hk.free_ok X G (c.fact (.free "tuple") (by decide +kernel)), Hk.free_ok X G (c.fact (.free "bool") (by decide +kernel)), Hk.free_ok X G (c.fact (.free "range") (by decide +kernel))⟩
  have TE : TxE4 K mg (He.ga K "BadText") (He.ga K "LossError") (He.ga K "BadPaper") (He.ga K "BadPlan") (He.ga K "BadRatio") (He.ga K "NoPlan") (He.ga K "NoShare") (He.ga K "TooLarge") := ⟨Hk.err_ok (c.fact (.err "BadText") (by decide +kernel)), TR.nB, gL, Hk.exm_ok (c.fact (.exm "BadText" "LossError" true) (by decide +kernel)), gB, Hk.glo_ok X G (c.fact (.glo "BadPaper") (by decide +kernel)), Hk.glo_ok X G (c.fact (.glo "BadPlan") (by decide +kernel)), Hk.glo_ok X G (c.fact (.glo "BadRatio") (by decide +kernel)), Hk.glo_ok X G (c.fact (.glo "NoPlan") (by decide +kernel)), Hk.glo_ok X G (c.fact (.glo "NoShare") (by decide +kernel)), Hk.glo_ok X G (c.fact (.glo "TooLarge") (by decide +kernel)), Hk.kit_ok (c.fact (.kit "BadText" "BadPaper" false) (by decide +kernel)), Hk.kit_ok (c.fact (.kit "BadText" "BadPlan" false) (by decide +kernel)), Hk.kit_ok (c.fact (.kit "BadText" "BadRatio" false) (by decide +kernel)), Hk.kit_ok (c.fact (.kit "BadText" "NoPlan" false) (by decide +kernel)), Hk.kit_ok (c.fact (.kit "BadText" "NoShare" false) (by decide +kernel)), Hk.kit_ok (c.fact (.kit "BadText" "TooLarge" false) (by decide +kernel))⟩
  have hb : ∀ (s : Shared) (v : Value), BindsTo s d52 ⟨[v], []⟩ [("script", v)] := by
    obtain ⟨oc, od, kV, doc, pm, an, cdv, ct, osl, e, _, _⟩ := F52.ex
    intro s v
    rw [e]
    exact .of_eq rfl
  have e := hfa.symm.trans g52
  cases e
  refine ⟨d52, fun s v => hb s v, fun base _ _ => ?_⟩
  have W1 : Fn0 P w K mg base 1 "words_of" ["text"] spWords _ _ := ⟨ok_words F0, g0, F0.kp, b0⟩
  have M1 : Fn0 P w K mg base 1 "is_made_of" ["word", "signs"] spMade _ _ := ⟨ok_made F1 TW, g1, F1.kp, b1⟩
  have NA1 : Fn0 P w K mg base 2 "is_name" ["word"] (spB nameB) _ _ := ⟨ok_name F2 TW M1.ok M1.gl M1.kp M1.bd, g2, F2.kp, b2⟩
  have NU1 : Fn0 P w K mg base 2 "is_number" ["word"] (spB numB) _ _ := ⟨ok_numb F3 TW M1.ok M1.gl M1.kp M1.bd (ok_beg F53) g53 F53.kp b53, g3, F3.kp, b3⟩
  have BT1 := ok_bt (P := P) (w := w) (base := base) F4 TR
  have R1 : Mk1 P w K mg base (He.ga K "Reader") 1 "Reader" ["self", "words"] (spRInit K (He.ga K "Reader")) _ _ := ⟨Hk.mkr_ok (c.fact (.mkr "Reader") (by decide +kernel)), ok_rinit F5 TR, gR, b5⟩
  have A1 : Mt0 P w K mg base (He.ga K "Reader") 1 "ahead" ["self"] (spAhead (He.ga K "Reader")) _ _ := ⟨ok_ahead F6 TR, m6, b6⟩
  have S1 : MtX P w K mg base (He.ga K "Reader") 3 "step" ["self", "fits"] (spStep (He.ga K "Reader") (He.ga K "BadText")) _ _ := ⟨ok_step F7 TR BT1 b4, m7, b7⟩
  have FI1 : MtX P w K mg base (He.ga K "Reader") 3 "finish" ["self"] (spFin (He.ga K "Reader") (He.ga K "BadText")) _ _ := ⟨ok_fin (fdB' := 0) F8 TR BT1 b4, m8, b8⟩
  have RN1 : MtX P w K mg base (He.ga K "Reader") 4 "read_name" ["self"] (spRd (He.ga K "Reader") (He.ga K "BadText") rStr rName) _ _ := ⟨ok_rname F15 TR A1.ok A1.mt A1.bd S1.ok S1.mt S1.bd, m15, b15⟩
  have RS1 : MtX P w K mg base (He.ga K "Reader") 4 "read_seat" ["self"] (spRd (He.ga K "Reader") (He.ga K "BadText") rStr rSeat) _ _ := ⟨ok_rseat F16 TR TW A1 S1, m16, b16⟩
  have RU1 : MtX P w K mg base (He.ga K "Reader") 4 "read_number" ["self", "low", "high"] (spRdN (He.ga K "Reader") (He.ga K "BadText")) _ _ := ⟨ok_rnum F17 TR A1 S1 NU1, m17, b17⟩
  have REa : ∀ d : Nat, MtX P w K mg base (He.ga K "Reader") (5 + d) "read_expression" ["self", "depth"] (spEx (He.ga K "Reader") (He.ga K "BadText") d) (He.ma K (He.ga K "Reader") "read_expression") d14 := fun d => by
    induction d with
    | zero => exact ⟨ok_rexpr0 F14 TR TW TM A1 S1 NU1 RN1 RU1, m14, b14⟩
    | succ d ih => exact ⟨ok_rexprS (k := 5 + d) (by omega) F14 TR TW TM A1 S1 NU1 RN1 RU1 ih, m14, b14⟩
  have RE1 := REa 5
  have RC1 : MtX P w K mg base (He.ga K "Reader") 5 "read_chance" ["self", "kind"] (spChance (He.ga K "Reader") (He.ga K "BadText")) _ _ := ⟨ok_rchance F12 TR TM S1 RN1 RU1, m12, b12⟩
  have RBa : ∀ d : Nat, d ≤ 4 → MtX P w K mg base (He.ga K "Reader") (13 + 3 * d) "read_block" ["self", "depth"] (spBk (He.ga K "Reader") (He.ga K "BadText") d) (He.ma K (He.ga K "Reader") "read_block") d10 := fun d => by
    induction d with
    | zero =>
      intro _
      have I0 : MtX P w K mg base (He.ga K "Reader") 11 "read_if" ["self", "depth"] (spIf (He.ga K "Reader") (He.ga K "BadText") 0) _ _ := ⟨ok_rif0 F13 TR TM S1, m13, b13⟩
      have T0 : MtX P w K mg base (He.ga K "Reader") 12 "read_statement" ["self", "depth"] (spSm (He.ga K "Reader") (He.ga K "BadText") 0) _ _ := ⟨ok_rstat (k := 11) (by decide) F11 TR TW A1 S1 RN1 RS1 RE1 RC1 I0, m11, b11⟩
      exact ⟨ok_rblock (k := 12) (by decide) F10 TR TW A1 T0, m10, b10⟩
    | succ d ih =>
      intro hd
      have B0 := ih (by omega)
      have I0 : MtX P w K mg base (He.ga K "Reader") (13 + 3 * d + 1) "read_if" ["self", "depth"] (spIf (He.ga K "Reader") (He.ga K "BadText") (d + 1)) _ _ := ⟨ok_rifS (by omega) (by omega) F13 TR TM A1 S1 RE1 B0, m13, b13⟩
      have T0 : MtX P w K mg base (He.ga K "Reader") (13 + 3 * d + 2) "read_statement" ["self", "depth"] (spSm (He.ga K "Reader") (He.ga K "BadText") (d + 1)) _ _ := ⟨ok_rstat (k := 13 + 3 * d + 1) (by omega) F11 TR TW A1 S1 RN1 RS1 RE1 RC1 I0, m11, b11⟩
      exact ⟨ok_rblock (k := 13 + 3 * d + 2) (by omega) F10 TR TW A1 T0, m10, b10⟩
  have RB1 := RBa 4 (Nat.le_refl _)
  have RV1 : MtX P w K mg base (He.ga K "Reader") 5 "read_variables" ["self"] (spVars (He.ga K "Reader") (He.ga K "BadText")) _ _ := ⟨ok_rvars F9 TR TW TM A1 S1 NA1 RU1, m9, b9⟩
  have ITa : ∀ n : Nat, FnOk P w K mg base CX0 (n + 1) (He.ga K "in_tuples") d20 ["data"] (spTup n) := fun n => by
    induction n with
    | zero => exact ok_int0 F20 TT
    | succ n ih => exact ok_intS F20 TT g20 b20 ih
  have IT1 : Fn0 P w K mg base 18 "in_tuples" ["data"] (spIn 16) _ _ := ⟨in_ok (ITa 17) (ok_intL F20 TT g20 b20 (ITa 16)), g20, F20.kp, b20⟩
  have GI1 : Mk1 P w K mg base (He.ga K "Game") 19 "Game" ["self", "variables", "block"] (spGI (He.ga K "Game") 16) _ _ := ⟨Hk.mkr_ok (c.fact (.mkr "Game") (by decide +kernel)), ok_ginit F18 TG IT1, gG, b18⟩
  have RG1 : FnX4 P w K mg base 26 "read_game" ["text"] (spRG (He.ga K "Game") (He.ga K "BadText")) _ _ := ⟨ok_rgame F21 TR W1 R1 RV1 RB1 FI1 GI1, g21, F21.kp, b21⟩
  have EWa : ∀ n : Nat, FnOk P w K mg base CX0 (n + 1) (He.ga K "expression_words") d26 ["expression"] (spEW n) := fun n => by
    induction n with
    | zero => exact ok_ew0 F26 TS
    | succ n ih => exact ok_ewS F26 TS g26 b26 ih
  have EW1 : Fn0 P w K mg base 6 "expression_words" ["expression"] (spEW 5) _ _ := ⟨EWa 5, g26, F26.kp, b26⟩
  have BWa : ∀ n : Nat, Fn0 P w K mg base (8 + 3 * n) "block_words" ["block"] (spBW n) (He.ga K "block_words") d23 := fun n => by
    induction n with
    | zero =>
      have S0 : Fn0 P w K mg base 7 "statement_words" ["statement"] (spSW 0) _ _ := ⟨ok_sw (k := 6) (n := 0) (fI := 0) (dI := d0) (by decide) F24 TS EW1 trivial, g24, F24.kp, b24⟩
      exact ⟨ok_bw F23 S0, g23, F23.kp, b23⟩
    | succ n ih =>
      have I0 : Fn0 P w K mg base (8 + 3 * n + 1) "if_words" ["statement"] (spIW n) _ _ := ⟨ok_iw (by omega) F25 EW1 ih, g25, F25.kp, b25⟩
      have S0 : Fn0 P w K mg base (8 + 3 * n + 2) "statement_words" ["statement"] (spSW (n + 1)) _ _ := ⟨ok_sw (k := 8 + 3 * n + 1) (n := n + 1) (by omega) F24 TS EW1 I0, g24, F24.kp, b24⟩
      exact ⟨ok_bw F23 S0, g23, F23.kp, b23⟩
  have GT1 : Fn0 P w K mg base 21 "game_text" ["game"] (spGT (He.ga K "Game")) _ _ := ⟨ok_gtext F22 TG TS (BWa 4), g22, F22.kp, b22⟩
  have PO1 : Fn0 P w K mg base 1 "_law_pool" ["script", "budget"] (spPool K) _ _ := ⟨ok_pool F27 TL, g27, F27.kp, b27⟩
  have DR1 : Fn0 P w K mg base 1 "_law_draw" ["pool", "size"] spDraw _ _ := ⟨ok_draw F28 TL, g28, F28.kp, b28⟩
  have SP1 : Fn0 P w K mg base 1 "_law_spend" ["pool"] spSpend _ _ := ⟨ok_spend F29, g29, F29.kp, b29⟩
  have NB1 : Fn0 P w K mg base 2 "_law_number" ["pool"] spNum _ _ := ⟨ok_num F30 DR1, g30, F30.kp, b30⟩
  have SA1 : Fn0 P w K mg base 1 "_law_same" ["actual", "due"] (spSame 0) _ _ := ⟨ok_same0 F31 TL, g31, F31.kp, b31⟩
  have SH1 : FnW0 P w K mg base 1 "_law_same" ["actual", "due"] (spSame 0) _ _ := ⟨ok_sameH F31 TL, g31, F31.kp, b31⟩
  have VAa : ∀ n : Nat, Fn0 P w K mg base (3 + n) "_law_value" ["pool", "names", "deep"] (spVal n) (He.ga K "_law_value") d32 := fun n => by
    induction n with
    | zero => exact ⟨ok_val0 F32 TL DR1 NB1, g32, F32.kp, b32⟩
    | succ n ih => exact ⟨ok_valS (k := 3 + n) (by omega) F32 TL DR1 NB1 ih, g32, F32.kp, b32⟩
  have BLa : ∀ n : Nat, Fn0 P w K mg base (10 + 2 * n) "_law_block" ["pool", "scope", "room", "most"] (spBlo n) (He.ga K "_law_block") d34 := fun n => by
    induction n with
    | zero =>
      have S0 : Fn0 P w K mg base 9 "_law_statement" ["pool", "scope", "room"] (spSta 0) _ _ := ⟨ok_sta0 (k := 8) (by decide) F33 TL DR1 (VAa 5), g33, F33.kp, b33⟩
      exact ⟨ok_blo (k := 9) (by decide) F34 TL DR1 SP1 S0, g34, F34.kp, b34⟩
    | succ n ih =>
      have S0 : Fn0 P w K mg base (10 + 2 * n + 1) "_law_statement" ["pool", "scope", "room"] (spSta (n + 1)) _ _ := ⟨ok_staS (by omega) F33 TL DR1 (VAa 5) ih, g33, F33.kp, b33⟩
      exact ⟨ok_blo (k := 10 + 2 * n + 1) (by omega) F34 TL DR1 SP1 S0, g34, F34.kp, b34⟩
  have NM1 : Fn0 P w K mg base 2 "_law_names" ["pool", "count"] spNm _ _ := ⟨ok_names F35 TL DR1, g35, F35.kp, b35⟩
  have GM1 : Fn0 P w K mg base 19 "_law_game" ["pool", "moves", "most"] spGm _ _ := ⟨ok_game F36 TL DR1 NB1 NM1 (BLa 4), g36, F36.kp, b36⟩
  have VWa : ∀ n : Nat, Fn0 P w K mg base (n + 1) "_law_value_words" ["due"] (spVW n) (He.ga K "_law_value_words") d37 := fun n => by
    induction n with
    | zero => exact ⟨ok_vw0 F37 TL, g37, F37.kp, b37⟩
    | succ n ih => exact ⟨ok_vwS F37 TL ih, g37, F37.kp, b37⟩
  have LBa : ∀ n : Nat, Fn0 P w K mg base (7 + n) "_law_block_words" ["block"] (spBW n) (He.ga K "_law_block_words") d38 := fun n => by
    induction n with
    | zero => exact ⟨ok_bl0 F38 TL (VWa 5), g38, F38.kp, b38⟩
    | succ n ih => exact ⟨ok_blS (k := 7 + n) (by omega) F38 TL (VWa 5) ih, g38, F38.kp, b38⟩
  have WO1 : Fn0 P w K mg base 12 "_law_words" ["game"] spWo _ _ := ⟨ok_wo F39 TL (LBa 4), g39, F39.kp, b39⟩
  have LNm : Fn0 P w K mg base 1 "_law_is_name" ["word"] (spB nameB) _ _ := ⟨ok_lname F40 TL, g40, F40.kp, b40⟩
  have LNu : Fn0 P w K mg base 1 "_law_is_number" ["word", "least", "most"] spLNu _ _ := ⟨ok_lnum F41 TL, g41, F41.kp, b41⟩
  have LVs : Fn0 P w K mg base 2 "_law_values" ["stack", "scope", "word", "room"] spLVs _ _ := ⟨ok_lvs F42 LNu, g42, F42.kp, b42⟩
  have LBg : Fn0 P w K mg base 1 "_law_begins" ["stack", "scope", "word", "room"] spLBg _ _ := ⟨ok_lbg F43 TL, g43, F43.kp, b43⟩
  have LBs : Fn0 P w K mg base 2 "_law_blocks" ["stack", "scope", "word", "room", "kind"] spLBs _ _ := ⟨ok_lbs F44 LBg, g44, F44.kp, b44⟩
  have LNx : Fn0 P w K mg base 3 "_law_next" ["stack", "scope", "word"] spLNx _ _ := ⟨ok_lnx F45 TL LNm LNu LBs LVs, g45, F45.kp, b45⟩
  have LWr : Fn0 P w K mg base 4 "_law_wrong" ["words"] spLWr _ _ := ⟨ok_lwr F46 TL LNx, g46, F46.kp, b46⟩
  have LNe : Fn0 P w K mg base 2 "_law_near" ["pool", "word"] spNear _ _ := ⟨ok_lne F48 TL DR1, g48, F48.kp, b48⟩
  have LMe : Fn0 P w K mg base 3 "_law_menu" ["pool"] spMenu _ _ := ⟨ok_lme F47 TL DR1 LNe, g47, F47.kp, b47⟩
  have LCh : Fn0 P w K mg base 4 "_law_changed" ["pool", "words"] spChg _ _ := ⟨ok_lch F49 TL DR1 LMe, g49, F49.kp, b49⟩
  have LWk : Fn0 P w K mg base 5 "_law_walked" ["pool"] spWk _ _ := ⟨ok_lwk F50 TL DR1 LMe LWr, g50, F50.kp, b50⟩
  have MVa : ∀ n : Nat, Fn0 P w K mg base (n + 1) "_law_moves" ["block"] (spMv n) (He.ga K "_law_moves") d51 := fun n => by
    induction n with
    | zero => exact ⟨ok_lmv (k := 0) (n := 0) F51 trivial, g51, F51.kp, b51⟩
    | succ n ih => exact ⟨ok_lmv F51 ih, g51, F51.kp, b51⟩
  exact ok_law F52 TL TG TE PO1 DR1 LWk LCh WO1 GM1 RG1 LWr GT1 SA1 SH1 (MVa 4)
end K1

set_option Elab.async false
set_option linter.all false
set_option maxRecDepth 100000
set_option maxHeartbeats 0
namespace K1
open PySem PySem.Spec PyProof.Rows L2
abbrev R : PySem.W.OpenRow := PySem.W.OpenLaw.row PySem.Challenge.rw_lostleast_k04_whole_texts_are_read_exact
abbrev hk : PySem.W.Hook := Hk.hookF 6 fa fn
def ob (s : PySem.W.SharedT) : He.AlD := Hk.obsFG 6 fa fn (HandSHeadRun.getT s)
theorem ob_eq (s : PySem.W.SharedT) : ob s = hk.obs s.abs := Hk.obsF_eq (HandSHeadRun.getT_eq s)
def loose1 : List Str := ["LossError", "BadText", "BadPlan", "BadPaper", "NoShare", "TooLarge", "NoPlan", "BadRatio", "CHANCES", "SEATS", "STATEMENTS", "KEY_WORDS", "OPERATORS", "LETTERS", "DIGITS", "LONGEST_NAME", "LONGEST_NUMBER", "LARGEST_NUMBER", "words_of", "is_made_of", "is_name", "is_number", "begins_rightly", "MOST_VARIABLES", "MOST_CHANCES", "MOST_RESULTS", "DEEPEST_IF", "DEEPEST_EXPRESSION", "Reader", "Game", "in_tuples"]
def loose2 : List Str := ["read_game", "game_text", "block_words", "statement_words", "if_words", "expression_words", "_law_pool", "_law_draw", "_law_spend", "_law_number", "_law_same", "_law_value", "_law_statement", "_law_block", "_law_names", "_law_game", "_law_value_words", "_law_block_words", "_law_words", "_law_is_name", "_law_is_number", "_law_values", "_law_begins", "_law_blocks", "_law_next", "_law_wrong", "_law_menu", "_law_near", "_law_changed", "_law_walked", "_law_moves"]
theorem hrun (w : World) : HandSHeadRun.RunEq R (PySem.W.view R.prog [67]) hk ob 6000 (loose1 ++ loose2) w := by
  intro os
  kernel_rfl
end K1

set_option Elab.async false
set_option linter.all false
set_option maxRecDepth 100000
open PySem PySem.W PySem.Calls PyProof.Rows
set_option maxHeartbeats 0 in
theorem PySem.Challenge.cw_lostleast_k04_whole_texts_are_read_exact_holds : PySem.Challenge.rw_lostleast_k04_whole_texts_are_read_exact.Holds := by
  w_on; o_law
  refine HandSHeadRun.head_any (r := OpenLaw.row PySem.Challenge.rw_lostleast_k04_whole_texts_are_read_exact) (q := view (OpenLaw.row PySem.Challenge.rw_lostleast_k04_whole_texts_are_read_exact).prog [67]) (H := K1.hk) (ob := K1.ob) (M := 6000) (loose := K1.loose1 ++ K1.loose2)
    (d := HandSHeadRun.topDef (OpenLaw.row PySem.Challenge.rw_lostleast_k04_whole_texts_are_read_exact).prog 67) (kwd := []) K1.ob_eq
    (by kernel_rfl) (fun s => by kernel_rfl) K1.hrun (by kernel_rfl) (by kernel_rfl) (by kernel_rfl) (by rfl) (by first | assumption | decide +kernel) (by decide +kernel) ⟨rfl, rfl, rfl, rfl, rfl, by decide +kernel⟩ ?hw ?hc
  case hw => w_witness2
  case hc =>
    refine Hk.walk_end (l := PySem.Challenge.rw_lostleast_k04_whole_texts_are_read_exact) (n := 63) (k := 27) (x := "script") (CX := fun _ => L2.CX0) rfl (by decide) (by kernel_rfl) ⟨rfl, by decide, by decide⟩ ?F (fun w H s e s' z => ?X)
    case F =>
      intro w mg fa h Y G hmg0
      obtain ⟨K, KX, c⟩ := Y
      have hmg : mg ("law" : PySem.Str) = some (.ref fa) := by
        have e : (HandSHeadRun.topDef (OpenLaw.row PySem.Challenge.rw_lostleast_k04_whole_texts_are_read_exact).prog 67).name = ("law" : PySem.Str) := by kernel_rfl
        rw [← e]
        exact hmg0
      obtain ⟨fd, hb, hF⟩ := K1.facts (P := (PySem.Challenge.rw_lostleast_k04_whole_texts_are_read_exact).prog) (w := w) KX G hmg c
      exact ⟨K, fd, K1.spLaw K, KX, hb, fun H a ns hl _ hS => ⟨a, ns, rfl, hS, fun _ => rfl⟩, hF⟩
    case X =>
      exact z.elim
