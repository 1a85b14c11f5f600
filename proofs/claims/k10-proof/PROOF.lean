import PyProof.Rows.All
import Wide.All
import OpenK.AllK
import Wide.FinOn
import HandS.ForExc
import HandS.ExcInit
import HandS.FStr
import HandS.ForMost
import HandS.Flow
import HandS.Star
import HandS.IsInst
import HandS.SlotsOwn
import HandS.Zip
import HandS.Dict
import HandS.ForDict
import HandS.RaiseMore
import KE.KDictKeyed
import HandS.Small
import HandS.Style
import HandS.List
import HandS.DictComp
import PyProof.AutoSeq1
import KE.KRevSl
import KE.KDictPairs
import HandS.ExcIs
import KE.KIsAll
import HandS.HotCalls
import HandS.ExcInitHot
import HandS.Hot
import PyProof.TupleIter
import HandS.Comp
import HandS.RevRange
import HandS.Walk
import HandS.Deep
import HandS.Iter
import KE.KEqDict
import HandS.ListItems
import KE.KDictItemsList
import HandS.TupAny
import KE.KStateDown
import HandS.Defaults
import HandS.Head0
import HandS.Head1
import HandS.Head2
import HandS.HeadEnd
import HandS.HeadHook1
import HandS.HeadHook2
import HandS.HeadHook3
import HandS.Head3
import HandS.Head4
import PySem.Challenge.RW_lostleast_k10_trees
set_option Elab.async false
set_option linter.all false
set_option maxRecDepth 100000
set_option maxHeartbeats 4000000
/-! An own error below an own error: its __init__ calls the base's by name. -/
namespace Kx
open PySem PySem.Spec PyProof.Rows L2
/-- what the written part says of the base class at B, so that B.__init__ may be called with an instance of a class below it -/
structure BaseC (K : PySem.W.Frag) (B : Addr) : Prop where
  ga : PySem.W.specialIn K (.ref B) "__getattribute__" = some (some (.builtin "type.__getattribute__"))
  rd : PySem.W.readsIn K B (.type "type") = true
  it : PySem.W.findCls K (.ref B) (.type "type") "__init__" = some (.val (.builtin "ValueError.__init__"))
section
variable {X : Cx} {e : Expr} {es : List Expr} {ta : TA} {x : Str} {B : Addr} {p1 p2 pos : Pos}
theorem pe_binit {pl : Sem Bool} (T : BaseC X.K B) (hg : Gl X x) (hm : X.mg x = some (.ref B)) (ha : PA X (e :: es) ta)
    (hc : eval (.Call (.Attribute (.Name x p1) "__init__" p2) (e :: es) [] pos) X.env = (do
      let ov ← eval (.Name x p1) X.env
      standAt p2.atName
      let (f, first) ← holding [ov] (getMethod ov "__init__" pl)
      callWith pos f first (backTo pos (starEach (e :: es) X.env)) (backToKw pos (keywordEach [] X.env))) := by rfl)
    (hdb : (x == ("__debug__" : Str)) = false := by decide)
    (he : starEach (e :: es) X.env = (false, eval e X.env) :: starEach es X.env := by rfl) (hpl : (backTo pos (starEach es X.env)).any (·.1) = false := by rfl) :
    PE X (.Call (.Attribute (.Name x p1) "__init__" p2) (e :: es) [] pos) (tVeI X.K ta) := by
  refine ⟨fun pins s σ H Q I h => ?_⟩
  refine PySem.W.methodCall_KW (ld_glob I hg hm ?_ hdb) hc
  refine PySem.W.method_cls I.kIn T.ga ?_
  refine PySem.W.cls_value I.kIn T.rd T.it (by decide +kernel) ?_
  show wpAny _ _ (callWith pos (Value.builtin "ValueError.__init__") [] (backTo pos (starEach (e :: es) X.env)) []) _ _ _
  refine PyProof.Rows.callWith_method1 (thn (ha.run pos pins _ σ H _ (I.tok _) h) fun us s1 hh => ?_) he hpl
  obtain ⟨vs, H1, I1, r1, a, C, ws, ev, hl, TC, ea, q⟩ := hh
  subst ev
  cases r1 with
  | @cons _ u0 _ ur ra rw' =>
    obtain rfl : u0 = Value.ref a := ra
    have hlen : ur.length ≤ sizeLine := Nat.le_trans (Nat.le_of_eq (Paired.length rw').symm) (Nat.le_trans hl (by decide))
    exact oinit_ok TC I1 ea hlen fun s' J => ⟨.non, H1, J, rfl, q⟩
end
/-- the promise of `def __init__(self, at): B.__init__(self, f'..'); self.at = at` -/
def spErr (C : Addr) (f : Str) : Sp := fun vs H Q _ => ∃ (a : Addr) (n : Int), vs = [.ref a, .int n] ∧ H a = some (exo a C none) ∧ n.natAbs < 2 ^ 64 ∧
  ∀ dx, H dx = none → dx ≠ a → Q .non (upd (upd H dx (exd dx [(f, .int n)])) a (exo a C (some dx)))
end Kx

set_option Elab.async false
set_option linter.all false
set_option maxRecDepth 100000
set_option maxHeartbeats 4000000
namespace K1
open PySem PySem.Spec PyProof.Rows L2 Kx
def OPS : List Str := ["+", "-", "*", "/", "mod", "<", "="]
def SEATS : List Str := ["chooser", "comer"]
def nt (n : Int) : Str := toString n
inductive Ex where
  | num (n : Int)
  | var (x : Str)
  | op (o : Str) (a b : Ex)
mutual
inductive Sm where
  | set (x : Str) (e : Ex)
  | draw (x : Str) (n : Int)
  | move (k x : Str) (n m : Int)
  | show_ (seat : Str) (e : Ex)
  | pay (k : Str) (e : Ex)
  | ifs (e : Ex) (a b : Bk)
inductive Bk where
  | nil
  | cons (s : Sm) (b : Bk)
end
def Bk.emp : Bk → Bool
  | .nil => true
  | .cons _ _ => false
def Ex.d : Ex → PyData
  | .num n => .tuple [.str "number", .int n]
  | .var x => .tuple [.str "variable", .str x]
  | .op o a b => .tuple [.str o, a.d, b.d]
mutual
def Sm.d : Sm → PyData
  | .set x e => .tuple [.str "set", .str x, e.d]
  | .draw x n => .tuple [.str "draw", .str x, .int n]
  | .move k x n m => .tuple [.str k, .str x, .int n, .int m]
  | .show_ s e => .tuple [.str "show", .str s, e.d]
  | .pay k e => .tuple [.str k, e.d]
  | .ifs e a b => .tuple [.str "if", e.d, .tuple a.ds, .tuple b.ds]
def Bk.ds : Bk → List PyData
  | .nil => []
  | .cons s b => s.d :: b.ds
end
def Ex.w : Ex → List Str
  | .num n => [nt n]
  | .var x => [x]
  | .op o a b => o :: (a.w ++ b.w)
mutual
def Sm.w : Sm → List Str
  | .set x e => "set" :: x :: e.w
  | .draw x n => ["draw", x, nt n]
  | .move k x n _ => [k, x, nt n]
  | .show_ s e => "show" :: s :: e.w
  | .pay k e => k :: e.w
  | .ifs e a b => "if" :: (e.w ++ (a.w ++ ((if b.emp then [] else ("else" : Str) :: b.w) ++ [("end" : Str)])))
def Bk.w : Bk → List Str
  | .nil => []
  | .cons s b => s.w ++ b.w
end
/-- where the reader stands: the place, draws and moves so far, moves so far -/
structure S where
  at_ : Nat
  ch : Nat
  mv : Nat
def top (i : Nat) : Stmt := PySem.Challenge.pw_lostleast_k10_trees.main.body.getD i (.Pass ⟨0, 0, 0, 0⟩)
theorem tYesI {σ : L2.St} {H : Hp} {A B : Hp → Prop} (h : A H) : tYes σ H (fun b H3 => if b = true then A H3 else B H3) := by
  show (if true = true then A H else B H)
  rw [if_pos rfl]
  exact h
theorem same_upd {H : Hp} {p : Addr} {o : HO} (h : H p = none) : Same H (upd H p o) := fun b u e => by rw [upd_ne (ne_of_none e h)]; exact e
/-- the reader's attributes -/
def rfs (lw : Addr) (i : Int) (ln : Addr) (c m : Int) : List (Str × V) := [("words", .ref lw), ("at", .int i), ("names", .ref ln), ("chances", .int c), ("moves", .int m)]
/-- a reader at r, its words ws and names ns, standing at s -/
structure RdAt (C : Addr) (H : Hp) (r lw ln : Addr) (ws ns : List Str) (s : S) : Prop where
  ob : ∃ dx, H r = some (.ins C dx (rfs lw s.at_ ln s.ch s.mv))
  hw : H lw = some (.lst (ws.map V.str))
  hn : H ln = some (.lst (ns.map V.str))
  wl : ws.length ≤ 100000
  wz : ∀ x ∈ ws, x.length ≤ sizeLine
  al : s.at_ ≤ ws.length
  nz : ∀ x ∈ ns, 1 ≤ x.length
/-- all but the reader is as it was -/
def Kr (r : Addr) (H H' : Hp) : Prop := ∀ b o, H b = some o → b ≠ r → H' b = some o
theorem Kr.refl (r : Addr) (H : Hp) : Kr r H H := fun _ _ e _ => e
theorem Kr.trans {r : Addr} {H H1 H2 : Hp} (a : Kr r H H1) (b : Kr r H1 H2) : Kr r H H2 := fun c o e h => b c o (a c o e h) h
theorem Kr.same {r : Addr} {H H' : Hp} (s : Same H H') : Kr r H H' := fun b o e _ => s b o e
theorem Kr.upd {r : Addr} {H : Hp} {o : HO} : Kr r H (upd H r o) := fun b u e h => by rw [upd_ne h]; exact e
section
variable {C : Addr} {H H' : Hp} {r lw ln : Addr} {ws ns : List Str} {s s' : S}
theorem RdAt.nw (R : RdAt C H r lw ln ws ns s) : lw ≠ r := by
  obtain ⟨dx, e⟩ := R.ob
  exact ne_of R.hw e (by intro z; cases z)
end
section
variable {C : Addr} {H H' : Hp} {r lw ln : Addr} {ws ns : List Str} {s s' : S}
theorem RdAt.nn (R : RdAt C H r lw ln ws ns s) : ln ≠ r := by
  obtain ⟨dx, e⟩ := R.ob
  exact ne_of R.hn e (by intro z; cases z)
end
section
variable {C : Addr} {H H' : Hp} {r lw ln : Addr} {ws ns : List Str} {s s' : S}
theorem RdAt.same (R : RdAt C H r lw ln ws ns s) (q : Same H H') : RdAt C H' r lw ln ws ns s := by
  obtain ⟨dx, e⟩ := R.ob
  exact ⟨⟨dx, q _ _ e⟩, q _ _ R.hw, q _ _ R.hn, R.wl, R.wz, R.al, R.nz⟩
end
section
variable {C : Addr} {H H' : Hp} {r lw ln : Addr} {ws ns : List Str} {s s' : S}
theorem RdAt.set (R : RdAt C H r lw ln ws ns s) {dx : Addr} (s' : S) (hs : s'.at_ ≤ ws.length) : RdAt C (upd H r (.ins C dx (rfs lw s'.at_ ln s'.ch s'.mv))) r lw ln ws ns s' :=
  ⟨⟨dx, upd_same⟩, by rw [upd_ne R.nw]; exact R.hw, by rw [upd_ne R.nn]; exact R.hn, R.wl, R.wz, hs, R.nz⟩
end
/-- an error at the word i -/
def ErrAt (BT : Addr) (E : XK) (r : Addr) (H : Hp) (i : Nat) : Prop := ∀ d H', Kr r H H' → H' d = some (.xd [(("at" : Str), .int (i : Int))]) → E (.ref BT) (some d) H'
theorem ErrAt.mono {BT : Addr} {E : XK} {r : Addr} {H H1 : Hp} {i : Nat} (h : ErrAt BT E r H i) (k : Kr r H H1) : ErrAt BT E r H1 i := fun d H' k' e => h d H' (k.trans k') e
mutual
inductive Dt (H : Hp) : V → PyData → Prop
  | int (i : Int) : Dt H (.int i) (.int i)
  | str (x : Str) : Dt H (.str x) (.str x)
  | tup {a : Addr} {xs : List V} {ds : List PyData} : H a = some (.tup xs) → DtAll H xs ds → Dt H (.ref a) (.tuple ds)
inductive DtAll (H : Hp) : List V → List PyData → Prop
  | nil : DtAll H [] []
  | cons {v : V} {vs : List V} {d : PyData} {ds : List PyData} : Dt H v d → DtAll H vs ds → DtAll H (v :: vs) (d :: ds)
end
/-- tuples are kept -/
def Tk (H H' : Hp) : Prop := ∀ a xs, H a = some (.tup xs) → H' a = some (.tup xs)
theorem Tk.refl (H : Hp) : Tk H H := fun _ _ e => e
theorem Tk.trans {H H1 H2 : Hp} (a : Tk H H1) (b : Tk H1 H2) : Tk H H2 := fun c xs e => b c xs (a c xs e)
theorem Tk.same {H H' : Hp} (s : Same H H') : Tk H H' := fun a xs e => s a _ e
mutual
theorem Dt.keep {H H' : Hp} (t : Tk H H') : ∀ {v : V} {d : PyData}, Dt H v d → Dt H' v d
  | _, _, .int i => .int i
  | _, _, .str x => .str x
  | _, _, .tup e a => .tup (t _ _ e) (DtAll.keep t a)
theorem DtAll.keep {H H' : Hp} (t : Tk H H') : ∀ {vs : List V} {ds : List PyData}, DtAll H vs ds → DtAll H' vs ds
  | _, _, .nil => .nil
  | _, _, .cons a b => .cons (Dt.keep t a) (DtAll.keep t b)
end
theorem Kr.tk {C : Addr} {H H' : Hp} {r lw ln : Addr} {ws ns : List Str} {s : S} (R : RdAt C H r lw ln ws ns s) (k : Kr r H H') : Tk H H' := fun a xs e => k a _ e (by
  obtain ⟨dx, q⟩ := R.ob
  exact ne_of e q (by intro z; cases z))
theorem Tk.upd {H : Hp} {p : Addr} {o : HO} (h : H p = none) : Tk H (upd H p o) := Tk.same (same_upd h)
structure Mt0 (P : Program) (w : World) (K : PySem.W.Frag) (mg : Str → Option Value) (base : Heap) (C : Addr) (k : Nat) (m : Str) (ps : List Str) (sp : Sp) (f : Addr) (fd : FuncData) : Prop where
  ok : FnOk P w K mg base CX0 k f fd ps sp
  mt : Meth K C m f
  bd : Binds K fd ps []
structure Fn0 (P : Program) (w : World) (K : PySem.W.Frag) (mg : Str → Option Value) (base : Heap) (k : Nat) (x : Str) (ps : List Str) (sp : Sp) (f : Addr) (fd : FuncData) : Prop where
  ok : FnOk P w K mg base CX0 k f fd ps sp
  gl : mg x = some (.ref f)
  kp : PySem.W.keepIn K (.ref f) = true
  bd : Binds K fd ps []
/-- statements in front of a block -/
def pre : List Sm → Bk → Bk
  | [], b => b
  | x :: xs, b => .cons x (pre xs b)
theorem pre_app (xs : List Sm) (x : Sm) (b : Bk) : pre (xs ++ [x]) b = pre xs (.cons x b) := by
  induction xs with
  | nil => rfl
  | cons y ys ih =>
    show Bk.cons y (pre (ys ++ [x]) b) = Bk.cons y (pre ys (.cons x b))
    rw [ih]
theorem pre_ds (xs : List Sm) : (pre xs .nil).ds = xs.map Sm.d := by
  induction xs with
  | nil => rfl
  | cons y ys ih =>
    show y.d :: (pre ys .nil).ds = y.d :: ys.map Sm.d
    rw [ih]
theorem DtAll.length {H : Hp} : ∀ {vs : List V} {ds : List PyData}, DtAll H vs ds → vs.length = ds.length
  | _, _, .nil => rfl
  | _, _, .cons _ r => congrArg Nat.succ r.length
theorem DtAll.snoc {H : Hp} : ∀ {vs : List V} {ds : List PyData} {v : V} {d : PyData}, DtAll H vs ds → Dt H v d → DtAll H (vs ++ [v]) (ds ++ [d])
  | _, _, _, _, .nil, h => .cons h .nil
  | _, _, _, _, .cons a r, h => .cons a (r.snoc h)
def Kr2 (r ln : Addr) (H H' : Hp) : Prop := ∀ b o, H b = some o → b ≠ r → b ≠ ln → H' b = some o
theorem Kr2.of {r ln : Addr} {H H' : Hp} (k : Kr r H H') : Kr2 r ln H H' := fun b o e h _ => k b o e h
theorem Kr2.trans {r ln : Addr} {H H1 H2 : Hp} (a : Kr2 r ln H H1) (b : Kr2 r ln H1 H2) : Kr2 r ln H H2 := fun c o e h h' => b c o (a c o e h h') h h'
def varsD (vs : List (Str × Int)) : List PyData := vs.map fun p => .tuple [.str p.1, .int p.2]
def ErrA2 (BT : Addr) (E : XK) (r ln : Addr) (H : Hp) (i : Nat) : Prop := ∀ d H', Kr2 r ln H H' → H' d = some (.xd [(("at" : Str), .int (i : Int))]) → E (.ref BT) (some d) H'
theorem ErrA2.at {BT : Addr} {E : XK} {r ln : Addr} {H H1 : Hp} {i : Nat} (h : ErrA2 BT E r ln H i) (k : Kr2 r ln H H1) : ErrAt BT E r H1 i := fun d H' k' e => h d H' (k.trans (Kr2.of k')) e
theorem Kr2.tk {C : Addr} {H H' : Hp} {r lw ln : Addr} {ws ns : List Str} {s : S} (R : RdAt C H r lw ln ws ns s) (k : Kr2 r ln H H') : Tk H H' := fun a xs e => k a _ e (by
    obtain ⟨dx, q⟩ := R.ob
    exact ne_of e q (by intro z; cases z)) (ne_of e R.hn (by intro z; cases z))
inductive Dep : Nat → PyData → Prop
  | int (n : Nat) (i : Int) : Dep n (.int i)
  | str (n : Nat) (x : Str) (h : (PyData.str x).canLay0 = true) : Dep n (.str x)
  | tup (n : Nat) (ds : List PyData) (hl : ds.length ≤ 200000) (h : ∀ d ∈ ds, Dep n d) : Dep (n + 1) (.tuple ds)
mutual
theorem Dt.dp {K : PySem.W.Frag} {H : Hp} : ∀ {v : V} {d : PyData}, Dt H v d → Dp K H v d
  | _, _, .int i => .int i
  | _, _, .str x => .str x
  | _, _, .tup e a => .tup (SqT.of e) (DtAll.dp a)
theorem DtAll.dp {K : PySem.W.Frag} {H : Hp} : ∀ {vs : List V} {ds : List PyData}, DtAll H vs ds → DpAll K H vs ds
  | _, _, .nil => .nil
  | _, _, .cons a b => .cons (Dt.dp a) (DtAll.dp b)
end
theorem DtAll.get {H : Hp} : ∀ {vs : List V} {ds : List PyData} {i : Nat} {v : V}, DtAll H vs ds → vs[i]? = some v → ∃ d, ds[i]? = some d ∧ Dt H v d
  | _, _, i, v, .nil, h => by simp at h
  | _, _, 0, v, .cons a b, h => by
    simp at h
    subst h
    exact ⟨_, rfl, a⟩
  | _, _, i + 1, v, .cons a b, h => by
    simp at h
    obtain ⟨d, e, q⟩ := b.get h
    exact ⟨d, by simpa using e, q⟩
abbrev sInT : Stmt := top 32
abbrev sGI : Stmt := inClass (top 31) 0
def spTup (n : Nat) : Sp := fun vs H Q _ => ∃ (v : V) (d : PyData), vs = [v] ∧ Dt H v d ∧ Dep n d ∧ ∀ v' H', Same H H' → Dt H' v' d → Q v' H'
def spTupL (n : Nat) : Sp := fun vs H Q _ => ∃ (a : Addr) (xs : List V) (ds : List PyData), vs = [.ref a] ∧ H a = some (.lst xs) ∧ DtAll H xs ds ∧ ds.length ≤ 200000 ∧ (∀ d ∈ ds, Dep n d) ∧ ∀ v' H', Same H H' → Dt H' v' (.tuple ds) → Q v' H'
structure TxT (K : PySem.W.Frag) (mg : Str → Option Value) : Prop where
  isi : mg "isinstance" = none
  list : mg "list" = none
  tuple : mg "tuple" = none
theorem tyD {K : PySem.W.Frag} {H : Hp} {v : V} {d : PyData} (h : Dt H v d) : (∃ ds, d = .tuple ds ∧ TyX K H v (.type "tuple")) ∨ ((∀ ds, d ≠ .tuple ds) ∧ ∃ t, (t = "int" ∨ t = "str") ∧ TyX K H v (.type t)) := by
  cases h with
  | int i => exact .inr ⟨fun ds z => (by cases z), "int", .inl rfl, .base (.int i)⟩
  | str x => exact .inr ⟨fun ds z => (by cases z), "str", .inr rfl, .base (.str x)⟩
  | tup e a => exact .inl ⟨_, rfl, .base (.tup e)⟩
section
variable {P : Program} {w : World} {K : PySem.W.Frag} {mg : Str → Option Value} {base : Heap}
theorem scIT : FnScope ["data", "part"] ["data"] (defScope sInT) := ⟨rfl, rfl, rfl, by decide +kernel, rfl, by decide +kernel, by decide +kernel⟩
end
section
variable {P : Program} {w : World} {K : PySem.W.Frag} {mg : Str → Option Value} {base : Heap}
theorem kit_lt {K : PySem.W.Frag} {t : String} (h : t = "int" ∨ t = "str") : PySem.W.kitAny K (.type t) [.type "list", .type "tuple"] = some false := by
  rcases h with rfl | rfl
  · exact kitAny_cons (b := false) (kit_ty (by decide +kernel)) (fun _ => kitAny_cons (b := false) (kit_ty (by decide +kernel)) (fun _ => kitAny_nil) nofun) nofun
  · exact kitAny_cons (b := false) (kit_ty (by decide +kernel)) (fun _ => kitAny_cons (b := false) (kit_ty (by decide +kernel)) (fun _ => kitAny_nil) nofun) nofun
end
section
variable {P : Program} {w : World} {K : PySem.W.Frag} {mg : Str → Option Value} {base : Heap}
theorem kit_tt {K : PySem.W.Frag} : PySem.W.kitAny K (.type "tuple") [.type "list", .type "tuple"] = some true :=
  kitAny_cons (b := false) (kit_ty (by decide +kernel)) (fun _ => kitAny_cons (b := true) (kit_ty (by decide +kernel)) nofun (fun _ => rfl)) nofun
end
section
variable {P : Program} {w : World} {K : PySem.W.Frag} {mg : Str → Option Value} {base : Heap}
theorem kit_ll {K : PySem.W.Frag} : PySem.W.kitAny K (.type "list") [.type "list", .type "tuple"] = some true :=
  kitAny_cons (b := true) (kit_ty (by decide +kernel)) nofun (fun _ => rfl)
end
section
variable {P : Program} {w : World} {K : PySem.W.Frag} {mg : Str → Option Value} {base : Heap}
theorem ok_int0 {f : Addr} {fd : FuncData} (F : Fun K "in_tuples" "in_tuples" sInT f fd) (T : TxT K mg) : FnOk P w K mg base CX0 1 f fd ["data"] (spTup 0) := by
  refine F.ok scIT (fun vs H Q E h => ?_) (fun cdv A outer s H vs Q E hr h => ?_)
  · obtain ⟨v, d, rfl, _⟩ := h
    rfl
  · obtain ⟨v, d, rfl, hv, hd, k⟩ := h
    refine ⟨_, pss_cons (ps_if (pt_val (pe_callB call_isiT (by rfl) T.isi (by decide +kernel) (pa_cons (pv 0) (pa_cons (pe_tup (pa_cons (pe_bltn (v := .ty "list") (by rfl) T.list (by decide +kernel) rfl) (pa_cons (pe_bltn (v := .ty "tuple") (by rfl) T.tuple (by decide +kernel) rfl) pa_nil))) pa_nil)))) (pss_one ps_never) pss_nil)
      (pss_one (ps_ret (pv 0))), ?_⟩
    refine ⟨_, rfl, (by show 2 ≤ sizeLine; decide), fun p hp => ?_⟩
    have s1 := same_upd (o := .tup [.ty "list", .ty "tuple"]) hp
    have hv1 := Dt.keep (Tk.same s1) hv
    rcases tyD (K := K) hv1 with ⟨ds, rfl, _⟩ | ⟨_, t, ht, ty⟩
    · cases hd
    · exact ⟨_, p, _, _, _, false, rfl, upd_same, .cons (.ty _) (.cons (.ty _) .nil), ty, kit_lt ht, _, rfl, iteF ⟨_, rfl, k _ _ s1 hv1⟩⟩
end
section
variable {P : Program} {w : World} {K : PySem.W.Frag} {mg : Str → Option Value} {base : Heap}
theorem ok_intS {f : Addr} {fd : FuncData} {n k : Nat} (F : Fun K "in_tuples" "in_tuples" sInT f fd) (T : TxT K mg) (gl : mg "in_tuples" = some (.ref f)) (bd : Binds K fd ["data"] []) (G : FnOk P w K mg base CX0 k f fd ["data"] (spTup n)) : FnOk P w K mg base CX0 (k + 1) f fd ["data"] (spTup (n + 1)) := by
  refine F.ok scIT (fun vs H Q E h => ?_) (fun cdv A outer s H vs Q E hr h => ?_)
  · obtain ⟨v, d, rfl, _⟩ := h
    rfl
  · obtain ⟨v, d, rfl, hv, hd, q⟩ := h
    refine ⟨_, pss_cons (ps_if (pt_val (pe_callB call_isiT (by rfl) T.isi (by decide +kernel) (pa_cons (pv 0) (pa_cons (pe_tup (pa_cons (pe_bltn (v := .ty "list") (by rfl) T.list (by decide +kernel) rfl) (pa_cons (pe_bltn (v := .ty "tuple") (by rfl) T.tuple (by decide +kernel) rfl) pa_nil))) pa_nil))))
        (pss_one (ps_ret (pe_callTy call_tuple_of (by rfl) T.tuple (by decide +kernel) (pa_cons (pe_lc (own := [("part", 1)]) (g := gName 1) (tt := tYes) rfl scIT.nd (pi_tup (pv 0)) (blkOk_by (N := ["data", "part"]) (sc := defScope sInT) (by decide +kernel))
          (fun _ _ _ _ _ => pg_name (i := 1) scIT.nd rfl (Or.inl rfl)) (fun _ _ _ _ _ => pts_nil) (fun _ _ _ _ _ => pe_call G hr (by rfl) gl F.kp bd .nil pass0 (pa_cons (pv 1) pa_nil))) pa_nil)))) pss_nil)
      (pss_one (ps_ret (pv 0))), ?_⟩
    refine ⟨_, rfl, (by show 2 ≤ sizeLine; decide), fun p hp => ?_⟩
    have s1 := same_upd (o := .tup [.ty "list", .ty "tuple"]) hp
    have hv1 := Dt.keep (Tk.same s1) hv
    rcases tyD (K := K) hv1 with ⟨ds, rfl, ty⟩ | ⟨_, t, ht, ty⟩
    · refine ⟨_, p, _, _, _, true, rfl, upd_same, .cons (.ty _) (.cons (.ty _) .nil), ty, kit_tt, _, rfl, iteT ?_⟩
      cases hv1 with
      | @tup a xs _ ea da =>
        cases hd with
        | tup _ _ hl hds =>
          refine ⟨_, rfl, a, rfl, ⟨_, SqT.of ea⟩, fun D hD => ?_⟩
          refine lc_tup (K := K) (a := a) (xs := xs) (fun i H' => ∃ vs', H' D = some (.lst vs') ∧ DtAll H' vs' (ds.take i) ∧ Same (upd H p (.tup [.ty "list", .ty "tuple"])) H') ⟨[], upd_same, .nil, same_upd hD⟩ (fun i H' _ ⟨_, _, _, s'⟩ => SqT.of (s' _ _ ea)) ?_ ?_
          · rintro i x H' hx ⟨vs', eD, da', s'⟩
            obtain ⟨d, hd', dx⟩ := da.get hx
            refine ⟨rfl, tYesI ?_⟩
            refine ⟨_, rfl, x, d, rfl, Dt.keep (Tk.same s') dx, hds d (List.mem_of_getElem? hd'), fun v' H2 s2 dv => ?_⟩
            have hD2 := s2 _ _ eD
            have lenv : vs'.length ≤ 200000 := by
              rw [da'.length, List.length_take]
              exact Nat.le_trans (Nat.min_le_right _ _) hl
            refine ⟨vs', hD2, Nat.lt_of_le_of_lt lenv (by decide), vs' ++ [v'], upd_same, ?_, ?_⟩
            · have t2 : Tk H2 (upd H2 D (.lst (vs' ++ [v']))) := fun b ys e => by
                rw [upd_ne (ne_of e hD2 (by intro z; cases z))]
                exact e
              rw [List.take_add_one, hd']
              exact DtAll.snoc (DtAll.keep ((Tk.same s2).trans t2) da') (Dt.keep t2 dv)
            · intro b o e
              rw [upd_ne (ne_of_none e hD)]
              exact s2 _ _ (s' _ _ e)
          · rintro H' ⟨vs', eD, da', s'⟩
            rw [da.length, List.take_length] at da'
            refine ⟨D, vs', rfl, .inl ⟨SqL.of eD, fun l hl' => ?_⟩⟩
            exact q _ _ ((s1.trans s').trans (same_upd hl')) (.tup upd_same (DtAll.keep (Tk.upd hl') da'))
    · exact ⟨_, p, _, _, _, false, rfl, upd_same, .cons (.ty _) (.cons (.ty _) .nil), ty, kit_lt ht, _, rfl, iteF ⟨_, rfl, q _ _ s1 hv1⟩⟩
end
section
variable {P : Program} {w : World} {K : PySem.W.Frag} {mg : Str → Option Value} {base : Heap}
theorem ok_intL {f : Addr} {fd : FuncData} {n k : Nat} (F : Fun K "in_tuples" "in_tuples" sInT f fd) (T : TxT K mg) (gl : mg "in_tuples" = some (.ref f)) (bd : Binds K fd ["data"] []) (G : FnOk P w K mg base CX0 k f fd ["data"] (spTup n)) : FnOk P w K mg base CX0 (k + 1) f fd ["data"] (spTupL n) := by
  refine F.ok scIT (fun vs H Q E h => ?_) (fun cdv A outer s H vs Q E hr h => ?_)
  · obtain ⟨a, xs, ds, rfl, _⟩ := h
    rfl
  · obtain ⟨a, xs, ds, rfl, ea0, da0, hl, hds, q⟩ := h
    refine ⟨_, pss_cons (ps_if (pt_val (pe_callB call_isiT (by rfl) T.isi (by decide +kernel) (pa_cons (pv 0) (pa_cons (pe_tup (pa_cons (pe_bltn (v := .ty "list") (by rfl) T.list (by decide +kernel) rfl) (pa_cons (pe_bltn (v := .ty "tuple") (by rfl) T.tuple (by decide +kernel) rfl) pa_nil))) pa_nil))))
        (pss_one (ps_ret (pe_callTy call_tuple_of (by rfl) T.tuple (by decide +kernel) (pa_cons (pe_lc (own := [("part", 1)]) (g := gName 1) (tt := tYes) rfl scIT.nd (pi_list (pv 0)) (blkOk_by (N := ["data", "part"]) (sc := defScope sInT) (by decide +kernel))
          (fun _ _ _ _ _ => pg_name (i := 1) scIT.nd rfl (Or.inl rfl)) (fun _ _ _ _ _ => pts_nil) (fun _ _ _ _ _ => pe_call G hr (by rfl) gl F.kp bd .nil pass0 (pa_cons (pv 1) pa_nil))) pa_nil)))) pss_nil)
      (pss_one (ps_ret (pv 0))), ?_⟩
    refine ⟨_, rfl, (by show 2 ≤ sizeLine; decide), fun p hp => ?_⟩
    have s1 := same_upd (o := .tup [.ty "list", .ty "tuple"]) hp
    have ea := s1 _ _ ea0
    have da := DtAll.keep (Tk.same s1) da0
    refine ⟨_, p, _, _, _, true, rfl, upd_same, .cons (.ty _) (.cons (.ty _) .nil), .base (.lst ea), kit_ll, _, rfl, iteT ?_⟩
    refine ⟨_, rfl, a, rfl, ⟨_, SqL.of ea⟩, fun D hD => ?_⟩
    have naD : a ≠ D := ne_of_none ea hD
    refine lc_list (K := K) (a := a) (xs := xs) (fun i H' => ∃ vs', H' D = some (.lst vs') ∧ DtAll H' vs' (ds.take i) ∧ Same (upd H p (.tup [.ty "list", .ty "tuple"])) H') ⟨[], upd_same, .nil, same_upd hD⟩ (fun i H' _ ⟨_, _, _, s'⟩ => SqL.of (s' _ _ ea)) ?_ ?_
    · rintro i x H' hx ⟨vs', eD, da', s'⟩
      obtain ⟨d, hd', dx⟩ := da.get hx
      refine ⟨rfl, tYesI ?_⟩
      refine ⟨_, rfl, x, d, rfl, Dt.keep (Tk.same s') dx, hds d (List.mem_of_getElem? hd'), fun v' H2 s2 dv => ?_⟩
      have hD2 := s2 _ _ eD
      have lenv : vs'.length ≤ 200000 := by
        rw [da'.length, List.length_take]
        exact Nat.le_trans (Nat.min_le_right _ _) hl
      refine ⟨vs', hD2, Nat.lt_of_le_of_lt lenv (by decide), vs' ++ [v'], upd_same, ?_, ?_⟩
      · have t2 : Tk H2 (upd H2 D (.lst (vs' ++ [v']))) := fun b ys e => by
          rw [upd_ne (ne_of e hD2 (by intro z; cases z))]
          exact e
        rw [List.take_add_one, hd']
        exact DtAll.snoc (DtAll.keep ((Tk.same s2).trans t2) da') (Dt.keep t2 dv)
      · intro b o e
        rw [upd_ne (ne_of_none e hD)]
        exact s2 _ _ (s' _ _ e)
    · rintro H' ⟨vs', eD, da', s'⟩
      rw [da.length, List.take_length] at da'
      refine ⟨D, vs', rfl, .inl ⟨SqL.of eD, fun l hl' => ?_⟩⟩
      exact q _ _ ((s1.trans s').trans (same_upd hl')) (.tup upd_same (DtAll.keep (Tk.upd hl') da'))
end
theorem gf1 : ¬ ("block" : Str) = "variables" := by decide +kernel
def gfs (a b : V) : List (Str × V) := putF "block" b (putF "variables" a [])
theorem gfs_v (a b : V) : (gfs a b).lookup ("variables" : Str) = some a := by
  unfold gfs
  rw [lookup_putF, if_neg (fun e => gf1 e.symm), lookup_putF, if_pos rfl]
theorem gfs_b (a b : V) : (gfs a b).lookup ("block" : Str) = some b := by
  unfold gfs
  rw [lookup_putF, if_pos rfl]
/-- a game of the data -/
def GameAt (C : Addr) (H : Hp) (g : Addr) (ds es : List PyData) : Prop := ∃ dx va vb, H g = some (.ins C dx (gfs va vb)) ∧ Dt H va (.tuple ds) ∧ Dt H vb (.tuple es)
theorem GameAt.same {C : Addr} {H H' : Hp} {g : Addr} {ds es : List PyData} (h : GameAt C H g ds es) (s : Same H H') : GameAt C H' g ds es := by
  obtain ⟨dx, va, vb, e, a, b⟩ := h
  exact ⟨dx, va, vb, s _ _ e, Dt.keep (Tk.same s) a, Dt.keep (Tk.same s) b⟩
/-- a list or a tuple of data -/
def LT (H : Hp) (v : V) (ds : List PyData) : Prop := ∃ a xs, v = .ref a ∧ (H a = some (.lst xs) ∨ H a = some (.tup xs)) ∧ DtAll H xs ds
def spIn (n : Nat) : Sp := fun vs H Q _ => ∃ (v : V) (ds : List PyData), vs = [v] ∧ LT H v ds ∧ ds.length ≤ 200000 ∧ (∀ d ∈ ds, Dep n d) ∧ ∀ v' H', Same H H' → Dt H' v' (.tuple ds) → Q v' H'
def spGI (C : Addr) (n : Nat) : Sp := fun vs H Q _ => ∃ (p dx : Addr) (v1 v2 : V) (ds es : List PyData), vs = [.ref p, v1, v2] ∧ H p = some (.ins C dx []) ∧ LT H v1 ds ∧ LT H v2 es ∧ ds.length ≤ 200000 ∧ es.length ≤ 200000 ∧ (∀ d ∈ ds, Dep n d) ∧ (∀ d ∈ es, Dep n d) ∧
  ∀ H', GameAt C H' p ds es → (∀ b o, H b = some o → b ≠ p → H' b = some o) → Q .non H'
structure TxG (K : PySem.W.Frag) (mg : Str → Option Value) (C : Addr) : Prop where
  cl : Cls K C
  nV : NoAttr K C "variables"
  nB : NoAttr K C "block"
  mgC : mg "Game" = some (.ref C)
  si : SlX.SIsi K C
  isi : mg "isinstance" = none
section
variable {P : Program} {w : World} {K : PySem.W.Frag} {mg : Str → Option Value} {base : Heap} {C LE BT fB : Addr}
theorem FnOk.or2 {CX : CXT} {k : Nat} {f : Addr} {fd : FuncData} {ps : List Str} {sp sp' : Sp} (F : FnOk P w K mg base CX k f fd ps sp) (F' : FnOk P w K mg base CX k f fd ps sp') : FnOk P w K mg base CX k f fd ps (fun vs H Q E => sp vs H Q E ∨ sp' vs H Q E) :=
  ⟨fun vs H Q E q => q.elim (F.len vs H Q E) (F'.len vs H Q E), fun A outer s H args us vs Q E hr he hb hv hs => hs.elim (F.run A outer s H args us vs Q E hr he hb hv) (F'.run A outer s H args us vs Q E hr he hb hv)⟩
end
section
variable {P : Program} {w : World} {K : PySem.W.Frag} {mg : Str → Option Value} {base : Heap} {C LE BT fB : Addr}
theorem in_ok {k n : Nat} {f : Addr} {fd : FuncData} (F : FnOk P w K mg base CX0 k f fd ["data"] (spTup (n + 1))) (F' : FnOk P w K mg base CX0 k f fd ["data"] (spTupL n)) : FnOk P w K mg base CX0 k f fd ["data"] (spIn n) :=
  (FnOk.or2 F F').imp fun vs H Q E h => by
    obtain ⟨v, ds, rfl, ⟨a, xs, rfl, ea | ea, da⟩, hl, hd, q⟩ := h
    · exact .inr ⟨a, xs, ds, rfl, ea, da, hl, hd, q⟩
    · exact .inl ⟨.ref a, .tuple ds, rfl, .tup ea da, .tup n _ hl hd, q⟩
end
section
variable {P : Program} {w : World} {K : PySem.W.Frag} {mg : Str → Option Value} {base : Heap} {C LE BT fB : Addr}
theorem scGI : FnScope ["self", "variables", "block"] ["self", "variables", "block"] (defScope sGI) := ⟨rfl, rfl, rfl, by decide +kernel, rfl, by decide +kernel, by decide +kernel⟩
end
section
variable {P : Program} {w : World} {K : PySem.W.Frag} {mg : Str → Option Value} {base : Heap} {C LE BT fB : Addr}
theorem LT.keep {H H' : Hp} {v : V} {ds : List PyData} (h : LT H v ds) (k : ∀ b xs, (H b = some (.lst xs) → H' b = some (.lst xs)) ∧ (H b = some (.tup xs) → H' b = some (.tup xs))) : LT H' v ds := by
  obtain ⟨a, xs, e, q, d⟩ := h
  exact ⟨a, xs, e, q.elim (fun q => .inl ((k a xs).1 q)) (fun q => .inr ((k a xs).2 q)), DtAll.keep (fun b ys z => (k b ys).2 z) d⟩
end
section
variable {P : Program} {w : World} {K : PySem.W.Frag} {mg : Str → Option Value} {base : Heap} {C LE BT fB : Addr}
theorem ok_ginit {k n : Nat} {f fI : Addr} {fd fdI : FuncData} (F : Fun K "__init__" "Game.__init__" sGI f fd) (T : TxG K mg C) (N1 : Fn0 P w K mg base k "in_tuples" ["data"] (spIn n) fI fdI) : FnOk P w K mg base CX0 (k + 1) f fd ["self", "variables", "block"] (spGI C n) := by
  refine F.ok scGI (fun vs H Q E h => ?_) (fun cdv A outer s H vs Q E hr h => ?_)
  · obtain ⟨p, dx, v1, v2, ds, es, rfl, _⟩ := h
    rfl
  · obtain ⟨p, dx, v1, v2, ds, es, rfl, hp, l1, l2, n1, n2, d1, d2, q⟩ := h
    refine ⟨_, pss_cons (ps_fld (pv 0) (pe_call N1.ok hr (by rfl) N1.gl N1.kp N1.bd .nil pass0 (pa_cons (pv 1) pa_nil)) rfl)
      (pss_one (ps_fld (pv 0) (pe_call N1.ok hr (by rfl) N1.gl N1.kp N1.bd .nil pass0 (pa_cons (pv 2) pa_nil)) rfl)), ?_⟩
    refine ⟨_, rfl, v1, ds, rfl, l1, n1, d1, fun va H1 s1 da => ?_⟩
    have hp1 := s1 _ _ hp
    have kp : ∀ b o, H b = some o → b ≠ p → (upd H1 p (.ins C dx (putF "variables" va []))) b = some o := fun b o e hb => by
      rw [upd_ne hb]
      exact s1 _ _ e
    have t1 : Tk H1 (upd H1 p (.ins C dx (putF "variables" va []))) := fun b xs e => by
      rw [upd_ne (ne_of e hp1 (by intro z; cases z))]
      exact e
    refine ⟨_, rfl, p, C, dx, [], rfl, hp1, T.cl, T.nV, (by show 0 < 1000; decide), ?_⟩
    refine ⟨_, rfl, v2, es, rfl, l2.keep (fun b xs => ⟨fun e => kp b _ e (ne_of e hp (by intro z; cases z)), fun e => kp b _ e (ne_of e hp (by intro z; cases z))⟩), n2, d2, fun vb H2 s2 db => ?_⟩
    have hp2 := s2 _ _ (show (upd H1 p (.ins C dx (putF "variables" va []))) p = _ from upd_same)
    refine ⟨_, rfl, p, C, dx, _, rfl, hp2, T.cl, T.nB, (by show 1 < 1000; decide), ?_⟩
    have t2 : Tk H2 (upd H2 p (.ins C dx (gfs va vb))) := fun b xs e => by
      rw [upd_ne (ne_of e hp2 (by intro z; cases z))]
      exact e
    refine q _ ⟨dx, va, vb, upd_same, Dt.keep ((t1.trans (Tk.same s2)).trans t2) da, Dt.keep t2 db⟩ fun b o e hb => ?_
    rw [upd_ne hb]
    exact s2 _ _ (kp b o e hb)
end
section
variable {P : Program} {w : World} {K : PySem.W.Frag} {mg : Str → Option Value} {base : Heap} {C LE BT fB : Addr}
theorem kit_same {K : PySem.W.Frag} {t : Value} : PySem.W.kitOne K t t = some true := by
  unfold PySem.W.kitOne
  rw [if_pos (by simp)]
end
/-- how a class stands that is made -/
structure Mk1 (P : Program) (w : World) (K : PySem.W.Frag) (mg : Str → Option Value) (base : Heap) (C : Addr) (k : Nat) (x : Str) (ps : List Str) (sp : Sp) (f : Addr) (fd : FuncData) : Prop where
  mkc : Mk K C f
  ok : FnOk P w K mg base CX0 k f fd ps sp
  gl : mg x = some (.ref C)
  bd : Binds K fd ps []
/-- the numbers of an expression are such as a game has -/
def Ex.okN : Ex → Prop
  | .num n => 0 ≤ n ∧ n ≤ 65535
  | .var _ => True
  | .op _ a b => a.okN ∧ b.okN
/-- how deep an expression is -/
def Ex.dp : Ex → Nat
  | .num _ => 0
  | .var _ => 0
  | .op _ a b => max a.dp b.dp + 1
/-- operators are no words that tell the kind of an expression -/
def Ex.okO : Ex → Prop
  | .num _ => True
  | .var _ => True
  | .op o a b => OPS.contains o = true ∧ a.okO ∧ b.okO
theorem ops_num : ∀ x ∈ OPS, x ≠ ("number" : Str) ∧ x ≠ ("variable" : Str) := by decide +kernel
theorem tix0 {x : V} {xs : List V} : atI (x :: xs) 0 = some x := atI_nat (j := 0) rfl
theorem tix1 {x y : V} {xs : List V} : atI (x :: y :: xs) 1 = some y := atI_nat (j := 1) rfl
theorem tix2 {x y z : V} {xs : List V} : atI (x :: y :: z :: xs) 2 = some z := atI_nat (j := 2) rfl
theorem Dt.tupI {H : Hp} {v : V} {ds : List PyData} (h : Dt H v (.tuple ds)) : ∃ a xs, v = .ref a ∧ H a = some (.tup xs) ∧ DtAll H xs ds := by
  cases h with
  | tup e a => exact ⟨_, _, rfl, e, a⟩
theorem Dt.strI {H : Hp} {v : V} {x : Str} (h : Dt H v (.str x)) : v = .str x := by
  cases h
  rfl
theorem Dt.intI {H : Hp} {v : V} {x : Int} (h : Dt H v (.int x)) : v = .int x := by
  cases h
  rfl
theorem DtAll.c2 {H : Hp} {xs : List V} {d e : PyData} (h : DtAll H xs [d, e]) : ∃ x y, xs = [x, y] ∧ Dt H x d ∧ Dt H y e := by
  cases h with
  | cons a r =>
    cases r with
    | cons b r =>
      cases r
      exact ⟨_, _, rfl, a, b⟩
theorem DtAll.c3 {H : Hp} {xs : List V} {d e f : PyData} (h : DtAll H xs [d, e, f]) : ∃ x y z, xs = [x, y, z] ∧ Dt H x d ∧ Dt H y e ∧ Dt H z f := by
  cases h with
  | cons a r =>
    obtain ⟨y, z, rfl, b, c⟩ := r.c2
    exact ⟨_, y, z, rfl, a, b, c⟩
theorem DtAll.c4 {H : Hp} {xs : List V} {d e f g : PyData} (h : DtAll H xs [d, e, f, g]) : ∃ x y z w, xs = [x, y, z, w] ∧ Dt H x d ∧ Dt H y e ∧ Dt H z f ∧ Dt H w g := by
  cases h with
  | cons a r =>
    obtain ⟨y, z, w, rfl, b, c, d⟩ := r.c3
    exact ⟨_, y, z, w, rfl, a, b, c, d⟩
def Ex.okE (e : Ex) : Prop := e.okN ∧ e.okO ∧ e.dp ≤ 5
mutual
def Sm.ok : Sm → Nat → Prop
  | .set _ e, _ => e.okE
  | .draw _ n, _ => 0 ≤ n ∧ n ≤ 65535
  | .move k _ n _, _ => (k = "choose" ∨ k = "come") ∧ 0 ≤ n ∧ n ≤ 65535
  | .show_ _ e, _ => e.okE
  | .pay k e, _ => (k = "pay" ∨ k = "take") ∧ e.okE
  | .ifs e a b, n => e.okE ∧ ∃ m, n = m + 1 ∧ a.ok m ∧ b.ok m
def Bk.ok : Bk → Nat → Prop
  | .nil, _ => True
  | .cons s b, n => s.ok n ∧ b.ok n
end
def Bk.sl : Bk → List Sm
  | .nil => []
  | .cons s b => s :: b.sl
theorem ds_sl : ∀ b : Bk, b.ds = b.sl.map Sm.d
  | .nil => rfl
  | .cons s b => by
    show s.d :: b.ds = s.d :: b.sl.map Sm.d
    rw [ds_sl b]
theorem ok_sl {n : Nat} : ∀ {b : Bk}, b.ok n → ∀ x ∈ b.sl, x.ok n
  | .nil, _, x, hx => nomatch hx
  | .cons s b, h, x, hx => by
    obtain ⟨h1, h2⟩ := h
    rcases List.mem_cons.mp hx with e | e
    · rw [e]
      exact h1
    · exact ok_sl h2 x e
section
variable {P : Program} {w : World} {K : PySem.W.Frag} {mg : Str → Option Value} {base : Heap} {fE fS fI fB : Addr} {dE dS dI dB : FuncData}
def Sm.kind : Sm → Str
  | .set _ _ => "set"
  | .draw _ _ => "draw"
  | .move k _ _ _ => k
  | .show_ _ _ => "show"
  | .pay k _ => k
  | .ifs _ _ _ => "if"
end
abbrev sPool : Stmt := top 34
abbrev sDraw : Stmt := top 35
abbrev sSpend : Stmt := top 36
abbrev sNum : Stmt := top 37
abbrev sSame : Stmt := top 38
abbrev sVal : Stmt := top 39
structure TxL (mg : Str → Option Value) : Prop where
  isi : mg "isinstance" = none
  int : mg "int" = none
  str : mg "str" = none
  len : mg "len" = none
  list : mg "list" = none
  tuple : mg "tuple" = none
  bool : mg "bool" = none
  range : mg "range" = none
def L6 (q : Addr) (i c s t b : Int) : List V := [.ref q, .int i, .int c, .int s, .int t, .int b]
theorem l6_ix {q : Addr} {i c s t b : Int} {k : Int} {j : Nat} (h : ixN 6 k = some j) : ixN (L6 q i c s t b).length k = some j := h
structure PoolV (H : Hp) (p q : Addr) (ns : List Int) (i c s t b : Int) : Prop where
  ne : p ≠ q
  hp : H p = some (.lst (L6 q i c s t b))
  hq : H q = some (.lst (ns.map V.int))
  i0 : 0 ≤ i
  s0 : 0 ≤ s
  s1 : s < 2147483648
def PoolAt (H : Hp) (p : Addr) (b : Int) : Prop := ∃ q ns i c s t, PoolV H p q ns i c s t b
/-- all but the pool is as it was; the pool's cells stand where they stood -/
structure Kp (p : Addr) (H H' : Hp) : Prop where
  all : ∀ b o, H b = some o → b ≠ p → H' b = some o
  hd : ∀ q r, H p = some (.lst (.ref q :: r)) → ∃ r', H' p = some (.lst (.ref q :: r'))
instance {p : Addr} {H H' : Hp} : CoeFun (Kp p H H') (fun _ => ∀ b o, H b = some o → b ≠ p → H' b = some o) := ⟨Kp.all⟩
theorem Kp.refl (p : Addr) (H : Hp) : Kp p H H := ⟨fun _ _ e _ => e, fun q r e => ⟨r, e⟩⟩
theorem Kp.trans {p : Addr} {H H1 H2 : Hp} (a : Kp p H H1) (b : Kp p H1 H2) : Kp p H H2 := ⟨fun c o e h => b.all c o (a.all c o e h) h, fun q r e => by
  obtain ⟨r1, e1⟩ := a.hd q r e
  exact b.hd q r1 e1⟩
theorem Kp.same {p : Addr} {H H' : Hp} (s : Same H H') : Kp p H H' := ⟨fun b o e _ => s b o e, fun q r e => ⟨r, s _ _ e⟩⟩
theorem PoolV.kp {H : Hp} {p q : Addr} {ns : List Int} {i c s t b i' c' s' t' b' : Int} (P : PoolV H p q ns i c s t b) : Kp p H (upd H p (.lst (L6 q i' c' s' t' b'))) :=
  ⟨fun b u e h => by rw [upd_ne h]; exact e, fun x r e => by
    rw [P.hp] at e
    injection e with e
    injection e with e
    injection e with e _
    injection e with e
    exact ⟨[.int i', .int c', .int s', .int t', .int b'], by rw [upd_same, ← e]; rfl⟩⟩
theorem PoolV.set {H : Hp} {p q : Addr} {ns : List Int} {i c s t b i' c' s' t' b' : Int} (P : PoolV H p q ns i c s t b) (hi : 0 ≤ i') (hs : 0 ≤ s') (hs' : s' < 2147483648) :
    PoolV (upd H p (.lst (L6 q i' c' s' t' b'))) p q ns i' c' s' t' b' := ⟨P.ne, upd_same, by rw [upd_ne P.ne.symm]; exact P.hq, hi, hs, hs'⟩
theorem PoolAt.same {H H' : Hp} {p : Addr} {b : Int} (P : PoolAt H p b) (s : Same H H') : PoolAt H' p b := by
  obtain ⟨q, ns, i, c, z, t, P⟩ := P
  exact ⟨q, ns, i, c, z, t, P.ne, s _ _ P.hp, s _ _ P.hq, P.i0, P.s0, P.s1⟩
def spPool (K : PySem.W.Frag) : Sp := fun vs H Q _ => ∃ (a : Addr) (ns : List Int) (b : Int), vs = [.ref a, .int b] ∧ SqL K H a (ns.map V.int) ∧ ∀ (p : Addr) (H' : Hp), Same H H' → H p = none → PoolAt H' p b → Q (.ref p) H'
def spDraw : Sp := fun vs H Q _ => ∃ (p : Addr) (n b : Int), vs = [.ref p, .int n] ∧ PoolAt H p b ∧ 0 < n ∧ n < 1073741824 ∧ ∀ (v : Int) (H' : Hp), 0 ≤ v → v < n → PoolAt H' p b → Kp p H H' → Q (.int v) H'
section
variable {P : Program} {w : World} {K : PySem.W.Frag} {mg : Str → Option Value} {base : Heap} {C : Addr}
theorem scPo : FnScope ["script", "budget"] ["script", "budget"] (defScope sPool) := ⟨rfl, rfl, rfl, by decide +kernel, rfl, by decide +kernel, by decide +kernel⟩
end
section
variable {P : Program} {w : World} {K : PySem.W.Frag} {mg : Str → Option Value} {base : Heap} {C : Addr}
theorem ok_pool {f : Addr} {fd : FuncData} (F : Fun K "_law_pool" "_law_pool" sPool f fd) (T : TxL mg) : FnOk P w K mg base CX0 1 f fd ["script", "budget"] (spPool K) := by
  refine F.ok scPo (fun vs H Q E h => ?_) (fun cdv A outer s H vs Q E hr h => ?_)
  · obtain ⟨a, ns, b, rfl, _⟩ := h
    rfl
  · obtain ⟨a, ns, b, rfl, hS, k⟩ := h
    refine ⟨_, pss_one (ps_ret (pe_lst (pa_cons (pe_callTy call_list_of (by rfl) T.list (by decide +kernel) (pa_cons (pv 0) pa_nil)) (pa_cons pe_int (pa_cons pe_int (pa_cons pe_int (pa_cons pe_int (pa_cons (pv 1) pa_nil)))))))), ?_⟩
    refine ⟨_, rfl, a, _, rfl, .inl hS, fun l hl => ⟨_, rfl, (by show 6 ≤ sizeLine; decide), fun p hp => ?_⟩⟩
    have h1 : Same H (upd H l (.lst (ns.map V.int))) := same_upd hl
    have nlp : l ≠ p := fun e => by
      rw [← e, upd_same] at hp
      cases hp
    have h2 := same_upd (o := .lst (L6 l 0 0 1 0 b)) hp
    exact k p _ (h1.trans h2) (h1.free hp) ⟨l, ns, 0, 0, 1, 0, nlp.symm, upd_same, by rw [upd_ne nlp]; exact upd_same, by decide, by decide, by decide⟩
end
section
variable {P : Program} {w : World} {K : PySem.W.Frag} {mg : Str → Option Value} {base : Heap} {C : Addr}
theorem scD : FnScope ["pool", "size", "cell", "value"] ["pool", "size"] (defScope sDraw) := ⟨rfl, rfl, rfl, by decide +kernel, rfl, by decide +kernel, by decide +kernel⟩
end
section
variable {P : Program} {w : World} {K : PySem.W.Frag} {mg : Str → Option Value} {base : Heap} {C : Addr}
theorem ok_draw {f : Addr} {fd : FuncData} (F : Fun K "_law_draw" "_law_draw" sDraw f fd) (T : TxL mg) : FnOk P w K mg base CX0 1 f fd ["pool", "size"] spDraw := by
  refine F.ok scD (fun vs H Q E h => ?_) (fun cdv A outer s H vs Q E hr h => ?_)
  · obtain ⟨p, n, b0, rfl, _⟩ := h
    rfl
  · obtain ⟨p, n, b, rfl, PA, hn, hn2, k⟩ := h
    have at_ : ∀ {q : Addr} {i c s t b : Int} {j : Nat} {v : V}, (L6 q i c s t b)[j]? = some v → atI (L6 q i c s t b) (j : Int) = some v := fun h => atI_nat h
    have hrest : ∃ t, PSs (cxOf CX0 P w K mg base ["pool", "size", "cell", "value"] "_law_draw" (defScope sDraw) f cdv A outer s H E).nox ((defBody sDraw).drop 1) t ∧
        ∀ (σ' : L2.St) (H' : Hp), (∃ v2 v3, σ' = [some (.ref p), some (.int n), v2, v3]) → PoolAt H' p b → Kp p H H' → t { nx := fun _ H' => Q .non H', rt := Q } σ' H' := by
      refine ⟨_, pss_cons (ps_if (pt_cmpR op_gt (pe_ix ix_list (pv 0) pe_int (fun _ _ => rfl)) pe_int (nomark _))
          (pss_cons (ps_set (i := 3) scD.nd rfl (Or.inl rfl) (pe_op op_mod (pe_callTy call_int1 (by rfl) T.int (by decide +kernel) (pa_cons (pe_ix ix_list (pv 0) pe_int (fun _ _ => rfl)) pa_nil)) (pv 1)))
          (pss_cons (ps_asg (pe_op op_fdivN (pe_ix ix_list (pv 0) pe_int (fun _ _ => rfl)) (pv 1)) (pg_sub (pv 0) pe_int set_list))
          (pss_cons (ps_asg pe_int (pg_sub (pv 0) pe_int set_list))
          (pss_one (ps_ret (pv 3)))))) pss_nil)
        (pss_cons (ps_asg (pe_op op_sub (pe_ix ix_list (pv 0) pe_int (fun _ _ => rfl)) pe_int) (pg_sub (pv 0) pe_int set_list))
        (pss_cons (ps_asg (pe_op op_mod (pe_callTy call_int1 (by rfl) T.int (by decide +kernel) (pa_cons (pe_op op_add (pe_op op_mul (pe_ix ix_list (pv 0) pe_int (fun _ _ => rfl)) pe_int) pe_int) pa_nil)) pe_int) (pg_sub (pv 0) pe_int set_list))
        (pss_one (ps_ret (pe_op op_mod (pe_op op_mod (pe_callTy call_int1 (by rfl) T.int (by decide +kernel) (pa_cons (pe_op op_add (pe_op op_mul (pe_ix ix_list (pv 0) pe_int (fun _ _ => rfl)) pe_int) pe_int) pa_nil)) pe_int) (pv 1)))))), ?_⟩
      rintro σ' H' ⟨v2, v3, rfl⟩ ⟨q, ns, i, c, z, t, PV⟩ kp
      refine ⟨_, rfl, p, _, _, _, rfl, rfl, SqL.of PV.hp, at_ (j := 2) rfl, _, _, rfl, rfl, _, rfl, ite2 (fun _ => ?_) (fun _ => ?_)⟩
      · refine ⟨_, rfl, p, _, _, _, rfl, rfl, SqL.of PV.hp, at_ (j := 2) rfl, .inl ⟨_, rfl, _, rfl, _, _, rfl, rfl, hn, ?_⟩⟩
        refine ⟨_, rfl, p, _, _, _, rfl, rfl, SqL.of PV.hp, at_ (j := 2) rfl, _, rfl, _, _, rfl, rfl, ⟨by omega, by omega⟩, _, rfl, p, _, _, _, rfl, rfl, PV.hp, l6_ix (k := 2) (j := 2) (by decide), ?_⟩
        have PV2 := PV.set (i' := i) (c' := c.fdiv n) (s' := z) (t' := t) (b' := b) PV.i0 PV.s0 PV.s1
        refine ⟨_, rfl, p, _, _, _, rfl, rfl, PV2.hp, l6_ix (k := 4) (j := 4) (by decide), ?_⟩
        have PV3 := PV2.set (i' := i) (c' := c.fdiv n) (s' := z) (t' := 0) (b' := b) PV.i0 PV.s0 PV.s1
        exact ⟨_, rfl, k _ _ (Int.emod_nonneg _ (by omega)) (Int.emod_lt_of_pos _ hn) ⟨_, _, _, _, _, _, PV3⟩ ((kp.trans PV.kp).trans PV2.kp)⟩
      · refine ⟨_, rfl, p, _, _, _, rfl, rfl, SqL.of PV.hp, at_ (j := 4) rfl, _, _, rfl, rfl, _, rfl, p, _, _, _, rfl, rfl, PV.hp, l6_ix (k := 4) (j := 4) (by decide), ?_⟩
        have PV2 := PV.set (i' := i) (c' := c) (s' := z) (t' := t - 1) (b' := b) PV.i0 PV.s0 PV.s1
        refine ⟨_, rfl, p, _, _, _, rfl, rfl, SqL.of PV2.hp, at_ (j := 3) rfl, _, _, rfl, rfl, .inl ⟨by have := PV.s0; omega, by have := PV.s1; omega⟩, _, _, rfl, rfl, .inl ⟨_, rfl, _, _, rfl, rfl, (by show (0 : Int) < 2147483647; decide), ?_⟩⟩
        have h0 : (0 : Int) ≤ (z * 48271 + 12345) % 2147483647 := Int.emod_nonneg _ (by decide)
        have h1 : (z * 48271 + 12345) % 2147483647 < 2147483647 := Int.emod_lt_of_pos _ (by decide)
        refine ⟨_, rfl, p, _, _, _, rfl, rfl, PV2.hp, l6_ix (k := 3) (j := 3) (by decide), ?_⟩
        have PV3 := PV2.set (i' := i) (c' := c) (s' := (z * 48271 + 12345) % 2147483647) (t' := t - 1) (b' := b) PV.i0 h0 (by omega)
        refine ⟨_, rfl, p, _, _, _, rfl, rfl, SqL.of PV3.hp, at_ (j := 3) rfl, _, _, rfl, rfl, .inl ⟨by omega, by omega⟩, _, _, rfl, rfl, .inl ⟨_, rfl, _, _, rfl, rfl, (by show (0 : Int) < 2147483647; decide), _, rfl, _, _, rfl, rfl, hn, ?_⟩⟩
        exact k _ _ (Int.emod_nonneg _ (by omega)) (Int.emod_lt_of_pos _ hn) ⟨_, _, _, _, _, _, PV3⟩ ((kp.trans PV.kp).trans PV2.kp)
    obtain ⟨t, ht, rest⟩ := hrest
    refine ⟨_, pss_cons (ps_if (PW.pt (pw_and (pt_cmpR op_le (pe_ix ix_list (pv 0) pe_int (fun _ _ => rfl)) pe_int (nomark _)) (pw_and (pt_cmpR op_le (pe_ix ix_list (pv 0) pe_int (fun _ _ => rfl)) pe_int (nomark _))
        (pw_and1 (pt_cmpR op_lt (pe_ix ix_list (pv 0) pe_int (fun _ _ => rfl)) (pe_callB call_len_seq (by rfl) T.len PySem.boot_len (pa_cons (pe_ix ix_list (pv 0) pe_int (fun _ _ => rfl)) pa_nil)) (nomark _))))))
        (pss_cons (ps_set (i := 2) scD.nd rfl (Or.inl rfl) (pe_ix ix_list (pe_ix ix_list (pv 0) pe_int (fun _ _ => rfl)) (pe_ix ix_list (pv 0) pe_int (fun _ _ => rfl)) (fun _ _ => rfl)))
        (pss_cons (ps_asg (pe_op op_add (pe_ix ix_list (pv 0) pe_int (fun _ _ => rfl)) pe_int) (pg_sub (pv 0) pe_int set_list))
        (pss_cons (ps_asg (pe_op op_mod (pe_callTy call_int1 (by rfl) T.int (by decide +kernel) (pa_cons (pe_op op_add (pe_op op_mul (pe_ix ix_list (pv 0) pe_int (fun _ _ => rfl)) pe_int) (pv 2)) pa_nil)) pe_int) (pg_sub (pv 0) pe_int set_list))
        (pss_cons (ps_asg pe_int (pg_sub (pv 0) pe_int set_list))
        (pss_one (ps_if (pt_cmpR op_ge (pv 2) (pe_op op_pow pe_int pe_int) (nomark _)) (pss_one (ps_asg (pv 2) (pg_sub (pv 0) pe_int set_list))) pss_nil)))))) pss_nil) ht, ?_⟩
    obtain ⟨q, ns, i, c, z, tt, PV⟩ := id PA
    refine ⟨_, rfl, p, _, _, _, rfl, rfl, SqL.of PV.hp, at_ (j := 2) rfl, _, _, rfl, rfl, _, rfl, ite2 (fun _ => ?_) (fun _ => iteF (rest _ _ ⟨_, _, rfl⟩ PA (Kp.refl _ _)))⟩
    refine ⟨_, rfl, p, _, _, _, rfl, rfl, SqL.of PV.hp, at_ (j := 4) rfl, _, _, rfl, rfl, _, rfl, ite2 (fun _ => ?_) (fun _ => iteF (rest _ _ ⟨_, _, rfl⟩ PA (Kp.refl _ _)))⟩
    refine ⟨_, rfl, p, _, _, _, rfl, rfl, SqL.of PV.hp, at_ (j := 1) rfl, _, rfl, p, _, _, _, rfl, rfl, SqL.of PV.hp, at_ (j := 0) rfl, q, _, rfl, .inl (SqL.of PV.hq), _, _, rfl, rfl, _, rfl, ite2 (fun y => ?_) (fun _ => rest _ _ ⟨_, _, rfl⟩ PA (Kp.refl _ _))⟩
    have hi := of_decide_eq_true y
    obtain ⟨j, rfl⟩ : ∃ j : Nat, i = (j : Int) := ⟨i.toNat, by have := PV.i0; omega⟩
    have hj : j < ns.length := by
      rw [List.length_map] at hi
      omega
    have g : (ns.map V.int)[j]? = some (V.int ns[j]) := by
      rw [List.getElem?_map, List.getElem?_eq_getElem hj]
      rfl
    -- cell = pool[0][pool[1]]
    refine ⟨_, rfl, p, _, _, _, rfl, rfl, SqL.of PV.hp, at_ (j := 0) rfl, _, rfl, p, _, _, _, rfl, rfl, SqL.of PV.hp, at_ (j := 1) rfl, q, _, _, _, rfl, rfl, SqL.of PV.hq, atI_nat g, ?_⟩
    -- pool[1] = pool[1] + 1
    refine ⟨_, rfl, p, _, _, _, rfl, rfl, SqL.of PV.hp, at_ (j := 1) rfl, _, _, rfl, rfl, _, rfl, p, _, _, _, rfl, rfl, PV.hp, l6_ix (k := 1) (j := 1) (by decide), ?_⟩
    have PV2 := PV.set (i' := (j : Int) + 1) (c' := c) (s' := z) (t' := tt) (b' := b) (by omega) PV.s0 PV.s1
    -- pool[3] = ..
    refine ⟨_, rfl, p, _, _, _, rfl, rfl, SqL.of PV2.hp, at_ (j := 3) rfl, _, _, rfl, rfl, .inl ⟨by have := PV.s0; omega, by have := PV.s1; omega⟩, _, rfl, _, _, rfl, rfl, .inl ⟨_, rfl, _, _, rfl, rfl, (by show (0 : Int) < 2147483647; decide), ?_⟩⟩
    have h0 : (0 : Int) ≤ (z * 31 + ns[j]) % 2147483647 := Int.emod_nonneg _ (by decide)
    have h1 : (z * 31 + ns[j]) % 2147483647 < 2147483647 := Int.emod_lt_of_pos _ (by decide)
    refine ⟨_, rfl, p, _, _, _, rfl, rfl, PV2.hp, l6_ix (k := 3) (j := 3) (by decide), ?_⟩
    have PV3 := PV2.set (i' := (j : Int) + 1) (c' := c) (s' := (z * 31 + ns[j]) % 2147483647) (t' := tt) (b' := b) (by omega) h0 (by omega)
    -- pool[4] = 7
    refine ⟨_, rfl, p, _, _, _, rfl, rfl, PV3.hp, l6_ix (k := 4) (j := 4) (by decide), ?_⟩
    have PV4 := PV3.set (i' := (j : Int) + 1) (c' := c) (s' := (z * 31 + ns[j]) % 2147483647) (t' := 7) (b' := b) (by omega) h0 (by omega)
    have kp4 := ((PV.kp (i' := (j : Int) + 1) (c' := c) (s' := z) (t' := tt) (b' := b)).trans (PV2.kp (i' := (j : Int) + 1) (c' := c) (s' := (z * 31 + ns[j]) % 2147483647) (t' := tt) (b' := b))).trans (PV3.kp (i' := (j : Int) + 1) (c' := c) (s' := (z * 31 + ns[j]) % 2147483647) (t' := 7) (b' := b))
    refine ⟨_, rfl, _, _, rfl, rfl, ⟨by decide, by decide, by decide⟩, _, _, rfl, rfl, _, rfl, ite2 (fun _ => ?_) (fun _ => rest _ _ ⟨_, _, rfl⟩ ⟨_, _, _, _, _, _, PV4⟩ kp4)⟩
    refine ⟨_, rfl, _, rfl, p, _, _, _, rfl, rfl, PV4.hp, l6_ix (k := 2) (j := 2) (by decide), ?_⟩
    have PV5 := PV4.set (i' := (j : Int) + 1) (c' := ns[j]) (s' := (z * 31 + ns[j]) % 2147483647) (t' := 7) (b' := b) (by omega) h0 (by omega)
    exact rest _ _ ⟨_, _, rfl⟩ ⟨_, _, _, _, _, _, PV5⟩ (kp4.trans PV4.kp)
end
section
variable {P : Program} {w : World} {K : PySem.W.Frag} {mg : Str → Option Value} {base : Heap} {C : Addr}
def spSpend : Sp := fun vs H Q _ => ∃ (p : Addr) (b : Int), vs = [.ref p] ∧ PoolAt H p b ∧ ∀ (H' : Hp), PoolAt H' p (b - 1) → Kp p H H' → Q (.bl (decide (0 ≤ b - 1))) H'
end
section
variable {P : Program} {w : World} {K : PySem.W.Frag} {mg : Str → Option Value} {base : Heap} {C : Addr}
theorem scSp : FnScope ["pool"] ["pool"] (defScope sSpend) := ⟨rfl, rfl, rfl, by decide +kernel, rfl, by decide +kernel, by decide +kernel⟩
end
section
variable {P : Program} {w : World} {K : PySem.W.Frag} {mg : Str → Option Value} {base : Heap} {C : Addr}
theorem ok_spend {f : Addr} {fd : FuncData} (F : Fun K "_law_spend" "_law_spend" sSpend f fd) : FnOk P w K mg base CX0 1 f fd ["pool"] spSpend := by
  refine F.ok scSp (fun vs H Q E h => ?_) (fun cdv A outer s H vs Q E hr h => ?_)
  · obtain ⟨p, b0, rfl, _⟩ := h
    rfl
  · obtain ⟨p, b, rfl, ⟨q, ns, i, c, z, t, PV⟩, k⟩ := h
    refine ⟨_, pss_cons (ps_asg (pe_op op_sub (pe_ix ix_list (pv 0) pe_int (fun _ _ => rfl)) pe_int) (pg_sub (pv 0) pe_int set_list))
      (pss_one (ps_ret (pe_cmpR op_ge (pe_ix ix_list (pv 0) pe_int (fun _ _ => rfl)) pe_int (nomark _)))), ?_⟩
    refine ⟨_, rfl, p, _, _, _, rfl, rfl, SqL.of PV.hp, atI_nat (j := 5) rfl, _, _, rfl, rfl, _, rfl, p, _, _, _, rfl, rfl, PV.hp, l6_ix (k := 5) (j := 5) (by decide), ?_⟩
    have PV2 := PV.set (i' := i) (c' := c) (s' := z) (t' := t) (b' := b - 1) PV.i0 PV.s0 PV.s1
    refine ⟨_, rfl, p, _, _, _, rfl, rfl, SqL.of PV2.hp, atI_nat (j := 5) rfl, _, _, rfl, rfl, k _ ⟨_, _, _, _, _, _, PV2⟩ PV.kp⟩
end
section
variable {P : Program} {w : World} {K : PySem.W.Frag} {mg : Str → Option Value} {base : Heap} {C : Addr}
def spNum : Sp := fun vs H Q _ => ∃ (p : Addr) (b : Int), vs = [.ref p] ∧ PoolAt H p b ∧ ∀ (v : Int) (H' : Hp), 0 ≤ v → v ≤ 65535 → PoolAt H' p b → Kp p H H' → Q (.int v) H'
end
section
variable {P : Program} {w : World} {K : PySem.W.Frag} {mg : Str → Option Value} {base : Heap} {C : Addr}
theorem scLN : FnScope ["pool"] ["pool"] (defScope sNum) := ⟨rfl, rfl, rfl, by decide +kernel, rfl, by decide +kernel, by decide +kernel⟩
end
section
variable {P : Program} {w : World} {K : PySem.W.Frag} {mg : Str → Option Value} {base : Heap} {C : Addr}
variable {fD fN : Addr} {dD dN : FuncData}
theorem ok_num {f : Addr} {fd : FuncData} (F : Fun K "_law_number" "_law_number" sNum f fd) (D1 : Fn0 P w K mg base 1 "_law_draw" ["pool", "size"] spDraw fD dD) : FnOk P w K mg base CX0 2 f fd ["pool"] spNum := by
  refine F.ok scLN (fun vs H Q E h => ?_) (fun cdv A outer s H vs Q E hr h => ?_)
  · obtain ⟨p, b0, rfl, _⟩ := h
    rfl
  · obtain ⟨p, b, rfl, PA, k⟩ := h
    refine ⟨_, pss_cons (ps_if (pt_cmpR op_eq (pe_call D1.ok hr (by rfl) D1.gl D1.kp D1.bd .nil pass0 (pa_cons (pv 0) (pa_cons pe_int pa_nil))) pe_int (nomark _)) (pss_one (ps_ret (pe_call D1.ok hr (by rfl) D1.gl D1.kp D1.bd .nil pass0 (pa_cons (pv 0) (pa_cons pe_int pa_nil))))) pss_nil)
      (pss_one (ps_ret (pe_call D1.ok hr (by rfl) D1.gl D1.kp D1.bd .nil pass0 (pa_cons (pv 0) (pa_cons pe_int pa_nil))))), ?_⟩
    refine ⟨_, rfl, p, 3, b, rfl, PA, by decide, by decide, fun v H1 _ _ P1 k1 => ⟨rfl, _, rfl, ite2 (fun _ => ?_) (fun _ => ?_)⟩⟩
    · exact ⟨_, rfl, p, 65536, b, rfl, P1, by decide, by decide, fun v H2 h0 h1 P2 k2 => k v H2 h0 (by omega) P2 (k1.trans k2)⟩
    · exact ⟨_, rfl, p, 9, b, rfl, P1, by decide, by decide, fun v H2 h0 h1 P2 k2 => k v H2 h0 (by omega) P2 (k1.trans k2)⟩
end
theorem atV {xs : List V} {v : Int} (h0 : 0 ≤ v) (h1 : v < xs.length) : ∃ x, x ∈ xs ∧ atI xs v = some x := by
  obtain ⟨j, rfl⟩ : ∃ j : Nat, v = (j : Int) := ⟨v.toNat, by omega⟩
  have hj : j < xs.length := by omega
  exact ⟨xs[j], List.getElem_mem hj, atI_nat (List.getElem?_eq_getElem hj)⟩
theorem atS {xs : List Str} {v : Int} (h0 : 0 ≤ v) (h1 : v < xs.length) : ∃ x, x ∈ xs ∧ atI (xs.map V.str) v = some (.str x) := by
  obtain ⟨y, hy, e⟩ := atV (xs := xs.map V.str) h0 (by rw [List.length_map]; exact h1)
  obtain ⟨x, hx, rfl⟩ := List.mem_map.mp hy
  exact ⟨x, hx, e⟩
theorem atN {xs : List Int} {v : Int} (h0 : 0 ≤ v) (h1 : v < xs.length) : ∃ x, x ∈ xs ∧ atI (xs.map V.int) v = some (.int x) := by
  obtain ⟨y, hy, e⟩ := atV (xs := xs.map V.int) h0 (by rw [List.length_map]; exact h1)
  obtain ⟨x, hx, rfl⟩ := List.mem_map.mp hy
  exact ⟨x, hx, e⟩
theorem PoolAt.ne0 {H : Hp} {p t : Addr} {b : Int} (P : PoolAt H p b) (h : H t = none) : t ≠ p := by
  obtain ⟨q, ns, i, c, z, tt, P⟩ := P
  exact (ne_of_none P.hp h).symm
theorem PoolAt.neT {H : Hp} {p t : Addr} {b : Int} {xs : List V} (P : PoolAt H p b) (h : H t = some (.tup xs)) : t ≠ p := by
  obtain ⟨q, ns, i, c, z, tt, P⟩ := P
  exact ne_of h P.hp (by intro z; cases z)
theorem Kp.tk {p : Addr} {H H' : Hp} {b : Int} (P : PoolAt H p b) (k : Kp p H H') : Tk H H' := fun a xs e => k a _ e (P.neT e)
/-- an expression as a game may have it -/
def Ex.vl (ns : List Str) : Ex → Nat → Prop
  | .num n, _ => 0 ≤ n ∧ n ≤ 65535
  | .var x, _ => x ∈ ns
  | .op o a b, d => OPS.contains o = true ∧ ∃ e, d = e + 1 ∧ a.vl ns e ∧ b.vl ns e
def spVal (n : Nat) : Sp := fun vs H Q _ => ∃ (p nl : Addr) (ns : List Str) (k : Nat) (b : Int), vs = [.ref p, .ref nl, .int (k : Int)] ∧ PoolAt H p b ∧ nl ≠ p ∧ H nl = some (.lst (ns.map V.str)) ∧ ns.length ≤ 5 ∧ k ≤ n ∧
  ∀ (v : V) (e : Ex) (H' : Hp), e.vl ns k → PoolAt H' p b → Kp p H H' → Dt H' v e.d → Q v H'
section
variable {P : Program} {w : World} {K : PySem.W.Frag} {mg : Str → Option Value} {base : Heap} {fD fN : Addr} {dD dN : FuncData}
theorem scVa : FnScope ["pool", "names", "deep", "kind", "sign", "left"] ["pool", "names", "deep"] (defScope sVal) := ⟨rfl, rfl, rfl, by decide +kernel, rfl, by decide +kernel, by decide +kernel⟩
end
section
variable {P : Program} {w : World} {K : PySem.W.Frag} {mg : Str → Option Value} {base : Heap} {fD fN : Addr} {dD dN : FuncData}
theorem val_last {k : Nat} (hk : 2 ≤ k) {f : Addr} (D1 : Fn0 P w K mg base 1 "_law_draw" ["pool", "size"] spDraw fD dD) (N1 : Fn0 P w K mg base 2 "_law_number" ["pool"] spNum fN dN)
    {cdv : Value} {A : Around} {outer : List Env} {s : Shared} {H : Hp} {Q : VK} {E : XK} (hr : Room k (A.deeper (envOfC "_law_value" (defScope sVal) s.heap.objs.size f cdv))) {p : Addr} {ns : List Str} {m : Nat} {b : Int}
    (q : ∀ (v : V) (e : Ex) (H' : Hp), e.vl ns m → PoolAt H' p b → Kp p H H' → Dt H' v e.d → Q v H') :
    ∃ t, PSs (cxOf CX0 P w K mg base ["pool", "names", "deep", "kind", "sign", "left"] "_law_value" (defScope sVal) f cdv A outer s H E).nox ((defBody sVal).drop 3) t ∧
      ∀ (H' : Hp) (v1 v2 v3 v4 v5 : Option V), PoolAt H' p b → Kp p H H' → t { nx := fun _ H' => Q .non H', rt := Q } [some (.ref p), v1, v2, v3, v4, v5] H' := by
  have hr1 : Room 1 _ := hr.mono (by omega)
  have hr2 : Room 2 _ := hr.mono hk
  refine ⟨_, pss_one (ps_ret (pe_tup (pa_cons pe_str (pa_cons (pe_ix ix_tup (pe_tup (pa_cons (pe_call D1.ok hr1 (by rfl) D1.gl D1.kp D1.bd .nil pass0 (pa_cons (pv 0) (pa_cons pe_int pa_nil))) (pa_cons (pe_call D1.ok hr1 (by rfl) D1.gl D1.kp D1.bd .nil pass0 (pa_cons (pv 0) (pa_cons pe_int pa_nil)))
      (pa_cons (pe_call N1.ok hr2 (by rfl) N1.gl N1.kp N1.bd .nil pass0 (pa_cons (pv 0) pa_nil)) pa_nil)))) (pe_call D1.ok hr1 (by rfl) D1.gl D1.kp D1.bd .nil pass0 (pa_cons (pv 0) (pa_cons pe_int pa_nil))) (fun _ _ => rfl)) pa_nil)))), fun H1 v1 v2 v3 v4 v5 P1 k1 => ?_⟩
  refine ⟨_, rfl, p, 4, b, rfl, P1, by decide, by decide, fun x H2 x0 x1 P2 k2 => ⟨_, rfl, p, 9, b, rfl, P2, by decide, by decide, fun y H3 y0 y1 P3 k3 => ⟨_, rfl, p, b, rfl, P3, fun z H4 z0 z1 P4 k4 => ⟨(by show 3 ≤ sizeLine; decide), fun tp htp => ?_⟩⟩⟩⟩
  have s1 := same_upd (o := .tup [.int x, .int y, .int z]) htp
  refine ⟨_, rfl, p, 3, b, rfl, P4.same s1, by decide, by decide, fun j H5 j0 j1 P5 k5 => ?_⟩
  have e5 : H5 tp = some (.tup [.int x, .int y, .int z]) := k5 _ _ upd_same (P4.ne0 htp)
  obtain ⟨n, hn, en⟩ := atN (xs := [x, y, z]) j0 j1
  refine ⟨tp, _, _, _, rfl, rfl, SqT.of e5, en, (by show 2 ≤ sizeLine; decide), fun r hr' => ?_⟩
  have s2 := same_upd (o := .tup [.str ("number" : Str), .int n]) hr'
  refine q (.ref r) (.num n) _ ?_ (P5.same s2) (((((k1.trans k2).trans k3).trans k4).trans ((Kp.same s1).trans k5)).trans (Kp.same s2)) (.tup upd_same (.cons (.str _) (.cons (.int _) .nil)))
  show 0 ≤ n ∧ n ≤ 65535
  simp only [List.mem_cons, List.not_mem_nil, or_false] at hn
  rcases hn with rfl | rfl | rfl <;> omega
end
section
variable {P : Program} {w : World} {K : PySem.W.Frag} {mg : Str → Option Value} {base : Heap} {fD fN : Addr} {dD dN : FuncData}
theorem val_rest {k n : Nat} (hk : 2 ≤ k) {f : Addr} (T : TxL mg) (D1 : Fn0 P w K mg base 1 "_law_draw" ["pool", "size"] spDraw fD dD) (N1 : Fn0 P w K mg base 2 "_law_number" ["pool"] spNum fN dN)
    {cdv : Value} {A : Around} {outer : List Env} {s : Shared} {H : Hp} {Q : VK} {E : XK} (hr : Room k (A.deeper (envOfC "_law_value" (defScope sVal) s.heap.objs.size f cdv))) {p nl : Addr} {ns : List Str} {m : Nat} {b : Int} (hN : nl ≠ p) (hn : H nl = some (.lst (ns.map V.str))) (h5 : ns.length ≤ 5)
    (PA : PoolAt H p b) (q : ∀ (v : V) (e : Ex) (H' : Hp), e.vl ns m → PoolAt H' p b → Kp p H H' → Dt H' v e.d → Q v H') :
    ∃ t, PSs (cxOf CX0 P w K mg base ["pool", "names", "deep", "kind", "sign", "left"] "_law_value" (defScope sVal) f cdv A outer s H E).nox ((defBody sVal).drop 2) t ∧
      ∀ (H' : Hp) (kd : Int) (v4 v5 : Option V), PoolAt H' p b → Kp p H H' → t { nx := fun _ H' => Q .non H', rt := Q } [some (.ref p), some (.ref nl), some (.int (m : Int)), some (.int kd), v4, v5] H' := by
  have hr1 : Room 1 _ := hr.mono (by omega)
  obtain ⟨t, ht, last⟩ := val_last (outer := outer) (E := E) hk D1 N1 hr q
  refine ⟨_, pss_cons (ps_if (PW.pt (pw_and (pt_cmpR op_lt (pv 3) pe_int (nomark _)) (pw_and1 (pt_cmpR op_gt (pe_callB call_len_seq (by rfl) T.len PySem.boot_len (pa_cons (pv 1) pa_nil)) pe_int (nomark _)))))
      (pss_one (ps_ret (pe_tup (pa_cons pe_str (pa_cons (pe_ix ix_list (pv 1) (pe_call D1.ok hr1 (by rfl) D1.gl D1.kp D1.bd .nil pass0 (pa_cons (pv 0) (pa_cons (pe_callB call_len_seq (by rfl) T.len PySem.boot_len (pa_cons (pv 1) pa_nil)) pa_nil))) (fun _ _ => rfl)) pa_nil))))) pss_nil)
    ht, fun H1 kd v4 v5 P1 k1 => ?_⟩
  have hn1 := k1 _ _ hn hN
  refine ⟨_, rfl, _, _, rfl, rfl, _, rfl, ite2 (fun _ => ?_) (fun _ => iteF (last _ _ _ _ _ _ P1 k1))⟩
  refine ⟨_, rfl, nl, _, rfl, .inl (SqL.of hn1), _, _, rfl, rfl, _, rfl, ite2 (fun y => ?_) (fun _ => last _ _ _ _ _ _ P1 k1)⟩
  have y := of_decide_eq_true y
  rw [List.length_map] at y
  refine ⟨_, rfl, _, rfl, _, rfl, nl, _, rfl, .inl (SqL.of hn1), p, _, b, rfl, P1, by rw [List.length_map]; omega, by rw [List.length_map]; omega, fun j H2 j0 j1 P2 k2 => ?_⟩
  have hn2 := k2 _ _ hn1 hN
  rw [List.length_map] at j1
  obtain ⟨x, hx, ex⟩ := atS (xs := ns) j0 j1
  refine ⟨nl, _, _, _, rfl, rfl, SqL.of hn2, ex, (by show 2 ≤ sizeLine; decide), fun r hr' => ?_⟩
  have s2 := same_upd (o := .tup [.str ("variable" : Str), .str x]) hr'
  exact q (.ref r) (.var x) _ hx (P2.same s2) ((k1.trans k2).trans (Kp.same s2)) (.tup upd_same (.cons (.str _) (.cons (.str _) .nil)))
end
section
variable {P : Program} {w : World} {K : PySem.W.Frag} {mg : Str → Option Value} {base : Heap} {fD fN : Addr} {dD dN : FuncData}
theorem ok_val0 {f : Addr} {fd : FuncData} (F : Fun K "_law_value" "_law_value" sVal f fd) (T : TxL mg) (D1 : Fn0 P w K mg base 1 "_law_draw" ["pool", "size"] spDraw fD dD) (N1 : Fn0 P w K mg base 2 "_law_number" ["pool"] spNum fN dN) : FnOk P w K mg base CX0 3 f fd ["pool", "names", "deep"] (spVal 0) := by
  refine F.ok scVa (fun vs H Q E h => ?_) (fun cdv A outer s H vs Q E hr h => ?_)
  · obtain ⟨p, nl, ns, k, b, rfl, _⟩ := h
    rfl
  · obtain ⟨p, nl, ns, m, b, rfl, PA, hN, hn, h5, hm, q⟩ := h
    have hr1 : Room 1 _ := hr.mono (by decide)
    obtain ⟨t, ht, rest⟩ := val_rest (n := 0) (outer := outer) (E := E) (by decide) T D1 N1 hr hN hn h5 PA q
    refine ⟨_, pss_cons (ps_set (i := 3) scVa.nd rfl (Or.inl rfl) (pe_call D1.ok hr1 (by rfl) D1.gl D1.kp D1.bd .nil pass0 (pa_cons (pv 0) (pa_cons pe_int pa_nil))))
      (pss_cons (ps_if (PW.pt (pw_and (pt_cmpR op_lt (pv 3) pe_int (nomark _)) (pw_and1 (pt_cmpR op_gt (pv 2) pe_int (nomark _))))) (pss_cons ps_never (pss_cons ps_never (pss_one ps_never))) pss_nil) ht), ?_⟩
    refine ⟨_, rfl, p, 10, b, rfl, PA, by decide, by decide, fun kd H1 _ _ P1 k1 => ?_⟩
    refine ⟨_, rfl, _, _, rfl, rfl, _, rfl, ite2 (fun _ => ?_) (fun _ => iteF (rest _ _ _ _ P1 k1))⟩
    refine ⟨_, rfl, _, _, rfl, rfl, _, rfl, ite2 (fun y => ?_) (fun _ => rest _ _ _ _ P1 k1)⟩
    have y := of_decide_eq_true y
    exact absurd y (by omega)
end
section
variable {P : Program} {w : World} {K : PySem.W.Frag} {mg : Str → Option Value} {base : Heap} {fD fN : Addr} {dD dN : FuncData}
theorem ok_valS {f : Addr} {fd : FuncData} {k n : Nat} (hk : 2 ≤ k) (F : Fun K "_law_value" "_law_value" sVal f fd) (T : TxL mg) (D1 : Fn0 P w K mg base 1 "_law_draw" ["pool", "size"] spDraw fD dD) (N1 : Fn0 P w K mg base 2 "_law_number" ["pool"] spNum fN dN)
    (G1 : Fn0 P w K mg base k "_law_value" ["pool", "names", "deep"] (spVal n) f fd) : FnOk P w K mg base CX0 (k + 1) f fd ["pool", "names", "deep"] (spVal (n + 1)) := by
  refine F.ok scVa (fun vs H Q E h => ?_) (fun cdv A outer s H vs Q E hr h => ?_)
  · obtain ⟨p, nl, ns, k, b, rfl, _⟩ := h
    rfl
  · obtain ⟨p, nl, ns, m, b, rfl, PA, hN, hn, h5, hm, q⟩ := h
    have hr1 : Room 1 _ := hr.mono (by omega)
    obtain ⟨t, ht, rest⟩ := val_rest (n := 0) (outer := outer) (E := E) hk T D1 N1 hr hN hn h5 PA q
    refine ⟨_, pss_cons (ps_set (i := 3) scVa.nd rfl (Or.inl rfl) (pe_call D1.ok hr1 (by rfl) D1.gl D1.kp D1.bd .nil pass0 (pa_cons (pv 0) (pa_cons pe_int pa_nil))))
      (pss_cons (ps_if (PW.pt (pw_and (pt_cmpR op_lt (pv 3) pe_int (nomark _)) (pw_and1 (pt_cmpR op_gt (pv 2) pe_int (nomark _)))))
        (pss_cons (ps_set (i := 4) scVa.nd rfl (Or.inl rfl) (pe_ix ix_tup (pe_tup (pa_cons pe_str (pa_cons pe_str (pa_cons pe_str (pa_cons pe_str (pa_cons pe_str (pa_cons pe_str (pa_cons pe_str pa_nil)))))))) (pe_call D1.ok hr1 (by rfl) D1.gl D1.kp D1.bd .nil pass0 (pa_cons (pv 0) (pa_cons pe_int pa_nil))) (fun _ _ => rfl)))
        (pss_cons (ps_set (i := 5) scVa.nd rfl (Or.inl rfl) (pe_call G1.ok hr (by rfl) G1.gl G1.kp G1.bd .nil pass0 (pa_cons (pv 0) (pa_cons (pv 1) (pa_cons (pe_op op_sub (pv 2) pe_int) pa_nil)))))
        (pss_one (ps_ret (pe_tup (pa_cons (pv 4) (pa_cons (pv 5) (pa_cons (pe_call G1.ok hr (by rfl) G1.gl G1.kp G1.bd .nil pass0 (pa_cons (pv 0) (pa_cons (pv 1) (pa_cons (pe_op op_sub (pv 2) pe_int) pa_nil)))) pa_nil)))))))) pss_nil) ht), ?_⟩
    refine ⟨_, rfl, p, 10, b, rfl, PA, by decide, by decide, fun kd H1 _ _ P1 k1 => ?_⟩
    refine ⟨_, rfl, _, _, rfl, rfl, _, rfl, ite2 (fun _ => ?_) (fun _ => iteF (rest _ _ _ _ P1 k1))⟩
    refine ⟨_, rfl, _, _, rfl, rfl, _, rfl, ite2 (fun y => ?_) (fun _ => rest _ _ _ _ P1 k1)⟩
    have y := of_decide_eq_true y
    obtain ⟨m, rfl⟩ : ∃ m', m = m' + 1 := ⟨m - 1, by omega⟩
    have em : ((m + 1 : Nat) : Int) - 1 = (m : Int) := by omega
    refine ⟨(by show 7 ≤ sizeLine; decide), fun tp htp => ?_⟩
    have s1 := same_upd (o := .tup (OPS.map V.str)) htp
    refine ⟨_, rfl, p, 7, b, rfl, P1.same s1, by decide, by decide, fun j H2 j0 j1 P2 k2 => ?_⟩
    have e2 : H2 tp = some (.tup (OPS.map V.str)) := k2 _ _ upd_same (P1.ne0 htp)
    obtain ⟨o, ho, eo⟩ := atS (xs := OPS) j0 j1
    have k12 := k1.trans ((Kp.same s1).trans k2)
    refine ⟨tp, _, _, _, rfl, rfl, SqT.of e2, eo, ?_⟩
    refine ⟨_, rfl, _, rfl, _, rfl, _, _, rfl, rfl, p, nl, ns, m, b, congrArg (fun z => [V.ref p, V.ref nl, V.int z]) em, P2, hN, k12 _ _ hn hN, h5, by omega, fun v1 a H3 va P3 k3 d1 => ?_⟩
    refine ⟨_, rfl, _, rfl, _, rfl, _, rfl, _, rfl, _, _, rfl, rfl, p, nl, ns, m, b, congrArg (fun z => [V.ref p, V.ref nl, V.int z]) em, P3, hN, k3 _ _ (k12 _ _ hn hN) hN, h5, by omega, fun v2 c H4 vc P4 k4 d2 => ⟨(by show 3 ≤ sizeLine; decide), fun r hr' => ?_⟩⟩
    have s2 := same_upd (o := .tup [.str o, v1, v2]) hr'
    refine q (.ref r) (.op o a c) _ ⟨List.contains_iff_mem.mpr ho, m, rfl, va, vc⟩ (P4.same s2) (((k12.trans k3).trans k4).trans (Kp.same s2)) (.tup upd_same (.cons (.str _) (.cons (Dt.keep (Tk.same s2) (Dt.keep (Kp.tk P3 k4) d1)) (.cons (Dt.keep (Tk.same s2) d2) .nil))))
end
theorem Ex.vl_le {ns : List Str} : ∀ {e : Ex} {a b : Nat}, a ≤ b → e.vl ns a → e.vl ns b
  | .num _, _, _, _, h => h
  | .var _, _, _, _, h => h
  | .op o x y, a, b, hab, h => by
    obtain ⟨h1, e, he, h2, h3⟩ := h
    exact ⟨h1, b - 1, by omega, Ex.vl_le (by omega) h2, Ex.vl_le (by omega) h3⟩
mutual
def Sm.chs : Sm → Nat
  | .draw _ _ => 1
  | .move _ _ _ _ => 1
  | .ifs _ a b => a.chs + b.chs
  | _ => 0
def Bk.chs : Bk → Nat
  | .nil => 0
  | .cons s b => s.chs + b.chs
end
mutual
def Sm.mvs : Sm → Nat
  | .move _ _ _ _ => 1
  | .ifs _ a b => a.mvs + b.mvs
  | _ => 0
def Bk.mvs : Bk → Nat
  | .nil => 0
  | .cons s b => s.mvs + b.mvs
end
mutual
def Sm.cnt : Sm → Nat
  | .ifs _ a b => 1 + a.cnt + b.cnt
  | _ => 1
def Bk.cnt : Bk → Nat
  | .nil => 0
  | .cons s b => s.cnt + b.cnt
end
mutual
/-- a statement as a game may have it: the names, the ifs that may still be begun, the moves before it -/
def Sm.vl (ns : List Str) : Sm → Nat → Nat → Prop
  | .set x e, _, _ => x ∈ ns ∧ e.vl ns 5
  | .draw x n, _, _ => x ∈ ns ∧ 1 ≤ n ∧ n ≤ 8
  | .move k x n m, _, mv => (k = "choose" ∨ k = "come") ∧ x ∈ ns ∧ 1 ≤ n ∧ n ≤ 8 ∧ m = (mv : Int)
  | .show_ s e, _, _ => SEATS.contains s = true ∧ e.vl ns 5
  | .pay k e, _, _ => (k = "pay" ∨ k = "take") ∧ e.vl ns 5
  | .ifs e a b, r, mv => e.vl ns 5 ∧ ∃ q, r = q + 1 ∧ a.vl ns q mv ∧ b.vl ns q (mv + a.mvs)
def Bk.vl (ns : List Str) : Bk → Nat → Nat → Prop
  | .nil, _, _ => True
  | .cons s b, r, mv => s.vl ns r mv ∧ b.vl ns r (mv + s.mvs)
end
theorem pre_chs : ∀ (acc : List Sm) (b : Bk), (pre acc b).chs = (pre acc .nil).chs + b.chs
  | [], b => by
    show b.chs = 0 + b.chs
    omega
  | x :: r, b => by
    show x.chs + (pre r b).chs = x.chs + (pre r .nil).chs + b.chs
    rw [pre_chs r b]
    omega
theorem pre_mvs : ∀ (acc : List Sm) (b : Bk), (pre acc b).mvs = (pre acc .nil).mvs + b.mvs
  | [], b => by
    show b.mvs = 0 + b.mvs
    omega
  | x :: r, b => by
    show x.mvs + (pre r b).mvs = x.mvs + (pre r .nil).mvs + b.mvs
    rw [pre_mvs r b]
    omega
theorem pre_cnt : ∀ (acc : List Sm) (b : Bk), (pre acc b).cnt = (pre acc .nil).cnt + b.cnt
  | [], b => by
    show b.cnt = 0 + b.cnt
    omega
  | x :: r, b => by
    show x.cnt + (pre r b).cnt = x.cnt + (pre r .nil).cnt + b.cnt
    rw [pre_cnt r b]
    omega
theorem pre_vl {ns : List Str} {q : Nat} : ∀ (acc : List Sm) (b : Bk) (mv : Nat), (pre acc .nil).vl ns q mv → b.vl ns q (mv + (pre acc .nil).mvs) → (pre acc b).vl ns q mv
  | [], b, mv, _, h => h
  | x :: r, b, mv, h, h2 => by
    refine ⟨h.1, pre_vl r b _ h.2 ?_⟩
    have : mv + x.mvs + (pre r .nil).mvs = mv + (pre (x :: r) .nil).mvs := by
      show _ = mv + (x.mvs + (pre r .nil).mvs)
      omega
    rw [this]
    exact h2
def Sc (nl : Addr) (C O D N : Nat) : List (Key × V) := [(Sum.inr "names", .ref nl), (Sum.inr "choose", .int C), (Sum.inr "come", .int O), (Sum.inr "draw", .int D), (Sum.inr "most", .int 8), (Sum.inr "next", .int N)]
structure LS (H : Hp) (p sc nl : Addr) (ns : List Str) (b : Int) (C O D N : Nat) : Prop where
  pool : PoolAt H p b
  scp : H sc = some (.dK (Sc nl C O D N))
  nm : H nl = some (.lst (ns.map V.str))
  n1 : nl ≠ p
  n5 : ns.length ≤ 5
theorem PoolAt.neK {H : Hp} {p t : Addr} {b : Int} {u : List (Key × V)} (P : PoolAt H p b) (h : H t = some (.dK u)) : t ≠ p := by
  obtain ⟨q, ns, i, c, z, tt, P⟩ := P
  exact ne_of h P.hp (by intro z; cases z)
/-- all but the pool and what is kept of the scope is as it was; the pool's cells stand where they stood -/
structure Kq (p sc : Addr) (H H' : Hp) : Prop where
  all : ∀ c o, H c = some o → c ≠ p → c ≠ sc → H' c = some o
  hd : ∀ q r, H p = some (.lst (.ref q :: r)) → ∃ r', H' p = some (.lst (.ref q :: r'))
instance {p sc : Addr} {H H' : Hp} : CoeFun (Kq p sc H H') (fun _ => ∀ c o, H c = some o → c ≠ p → c ≠ sc → H' c = some o) := ⟨Kq.all⟩
theorem Kq.refl (p sc : Addr) (H : Hp) : Kq p sc H H := ⟨fun _ _ e _ _ => e, fun q r e => ⟨r, e⟩⟩
theorem Kq.trans {p sc : Addr} {H H1 H2 : Hp} (a : Kq p sc H H1) (b : Kq p sc H1 H2) : Kq p sc H H2 := ⟨fun c o e h h' => b.all c o (a.all c o e h h') h h', fun q r e => by
  obtain ⟨r1, e1⟩ := a.hd q r e
  exact b.hd q r1 e1⟩
theorem Kq.kp {p sc : Addr} {H H' : Hp} (k : Kp p H H') : Kq p sc H H' := ⟨fun c o e h _ => k c o e h, k.hd⟩
theorem Kq.same {p sc : Addr} {H H' : Hp} (k : Same H H') : Kq p sc H H' := ⟨fun c o e _ _ => k c o e, fun q r e => ⟨r, k _ _ e⟩⟩
theorem Kq.upd {p sc : Addr} {H : Hp} {o : HO} (n : sc ≠ p) : Kq p sc H (upd H sc o) := ⟨fun b u e _ h => by rw [upd_ne h]; exact e, fun q r e => ⟨r, by rw [upd_ne n.symm]; exact e⟩⟩
section
variable {H H' : Hp} {p sc nl : Addr} {ns : List Str} {b b' : Int} {C O D N : Nat}
theorem LS.kp (L : LS H p sc nl ns b C O D N) (P : PoolAt H' p b') (k : Kp p H H') : LS H' p sc nl ns b' C O D N := ⟨P, k _ _ L.scp (L.pool.neK L.scp), k _ _ L.nm L.n1, L.n1, L.n5⟩
end
section
variable {H H' : Hp} {p sc nl : Addr} {ns : List Str} {b b' : Int} {C O D N : Nat}
/-- a list of one's own that wasn't there may change: it is not the pool's -/
theorem LS.own {H0 : Hp} {p sc nl G : Addr} {ns : List Str} {b b' : Int} {C O D N C' O' D' N' : Nat} {o : HO} (L0 : LS H0 p sc nl ns b C O D N) (hG : H0 G = none) {H : Hp} (k : Kq p sc H0 H) (L : LS H p sc nl ns b' C' O' D' N') :
    LS (upd H G o) p sc nl ns b' C' O' D' N' := by
  have nGp : G ≠ p := L0.pool.ne0 hG
  have nGs : G ≠ sc := (ne_of_none L0.scp hG).symm
  have nGn : G ≠ nl := (ne_of_none L0.nm hG).symm
  obtain ⟨q0, ns0, i0, c0, z0, t0, PV0⟩ := L0.pool
  obtain ⟨qq, xs, ii, c, z, t, PV⟩ := L.pool
  obtain ⟨r', e'⟩ := k.hd _ _ PV0.hp
  have nq : qq ≠ G := fun e => by
    have h := PV.hp
    rw [e'] at h
    injection h with h
    injection h with h
    injection h with h _
    injection h with h
    have h1 := PV0.hq
    rw [h, e, hG] at h1
    cases h1
  exact ⟨⟨qq, xs, ii, c, z, t, PV.ne, by rw [upd_ne nGp.symm]; exact PV.hp, by rw [upd_ne nq]; exact PV.hq, PV.i0, PV.s0, PV.s1⟩, by rw [upd_ne nGs.symm]; exact L.scp, by rw [upd_ne nGn.symm]; exact L.nm, L.n1, L.n5⟩
end
theorem hu_r {A : Around} {k : Nat} (hr : Room k A) : A.units + 1 < cLine := Nat.lt_of_le_of_lt (Nat.add_le_add_left (by decide : 1 ≤ 64) _) hr.units
theorem PoolAt.own {H0 H : Hp} {p G : Addr} {b b' : Int} {o : HO} (P0 : PoolAt H0 p b) (hG : H0 G = none) (k : Kp p H0 H) (P : PoolAt H p b') : PoolAt (upd H G o) p b' := by
  have nGp : G ≠ p := P0.ne0 hG
  obtain ⟨q0, ns0, i0, c0, z0, t0, PV0⟩ := P0
  obtain ⟨qq, xs, ii, c, z, t, PV⟩ := P
  obtain ⟨r', e'⟩ := k.hd _ _ PV0.hp
  have nq : qq ≠ G := fun e => by
    have h := PV.hp
    rw [e'] at h
    injection h with h
    injection h with h
    injection h with h _
    injection h with h
    have h1 := PV0.hq
    rw [h, e, hG] at h1
    cases h1
  exact ⟨qq, xs, ii, c, z, t, PV.ne, by rw [upd_ne nGp.symm]; exact PV.hp, by rw [upd_ne nq]; exact PV.hq, PV.i0, PV.s0, PV.s1⟩
theorem Kp.own {H0 H : Hp} {p G : Addr} {b : Int} {o : HO} (P0 : PoolAt H0 p b) (hG : H0 G = none) (k : Kp p H0 H) : Kp p H0 (upd H G o) := ⟨fun c u e h => by
  rw [upd_ne (ne_of_none e hG)]
  exact k _ _ e h, fun x r e => by
  rw [upd_ne (P0.ne0 hG).symm]
  exact k.hd x r e⟩
def gameD (xs : List (Str × Int)) (b : Bk) : PyData := .tuple [.tuple (varsD xs), .tuple b.ds]
theorem ix_tupK {X : Cx} {K : PySem.W.Frag} (h : X.K = K) : IxR X (rIxT K) := by
  subst h
  exact ix_tup
theorem ix_listK {X : Cx} {K : PySem.W.Frag} (h : X.K = K) : IxR X (rIxL K) := by
  subst h
  exact ix_list
inductive Flat : V → Prop where
  | int (i : Int) : Flat (.int i)
  | bl (b : Bool) : Flat (.bl b)
  | str (z : Str) : Flat (.str z)
inductive Sd (H : Hp) : Nat → V → V → Prop where
  | flat (n : Nat) {x : V} (h : Flat x) : Sd H n x x
  | tup (n : Nat) {a b : Addr} {xs ys : List V} (ha : H a = some (.tup xs)) (hb : H b = some (.tup ys)) (hl : xs.length = ys.length) (hz : ys.length ≤ 200000) (h : ∀ (i : Nat) (x y : V), xs[i]? = some x → ys[i]? = some y → Sd H n x y) : Sd H (n + 1) (.ref a) (.ref b)
  | lst (n : Nat) {a b : Addr} {xs ys : List V} (ha : H a = some (.lst xs)) (hb : H b = some (.lst ys)) (hl : xs.length = ys.length) (hz : ys.length ≤ 200000) (h : ∀ (i : Nat) (x y : V), xs[i]? = some x → ys[i]? = some y → Sd H n x y) : Sd H (n + 1) (.ref a) (.ref b)
def spSame (n : Nat) : Sp := fun vs H Q _ => ∃ x y, vs = [x, y] ∧ Sd H n x y ∧ Q (.bl true) H
theorem DtAll.get' {H : Hp} {vs : List V} {ds : List PyData} {i : Nat} {v : V} {d : PyData} (h : DtAll H vs ds) (hv : vs[i]? = some v) (hd : ds[i]? = some d) : Dt H v d := by
  obtain ⟨e, he, z⟩ := h.get hv
  rw [hd] at he
  cases he
  exact z
theorem Sd.of {H : Hp} : ∀ {n : Nat} {d : PyData} {x y : V}, Dep n d → Dt H x d → Dt H y d → Sd H n x y := by
  intro n d x y h
  induction h generalizing x y with
  | int n i =>
    intro a b
    obtain rfl := a.intI
    obtain rfl := b.intI
    exact .flat n (.int i)
  | str n z _ =>
    intro a b
    obtain rfl := a.strI
    obtain rfl := b.strI
    exact .flat n (.str z)
  | tup n ds hl h ih =>
    intro a b
    obtain ⟨a1, xs, rfl, ea, da⟩ := a.tupI
    obtain ⟨b1, ys, rfl, eb, db⟩ := b.tupI
    have l1 := da.length
    have l2 := db.length
    refine .tup n ea eb (by omega) (by omega) fun i x y hx hy => ?_
    obtain ⟨e, he, dx⟩ := da.get hx
    exact ih e (List.mem_of_getElem? he) dx (db.get' hy he)
theorem tyI {K : PySem.W.Frag} {H : Hp} {i : Int} : TyX K H (.int i) (.type "int") := .base (.int i)
theorem tyB {K : PySem.W.Frag} {H : Hp} {b : Bool} : TyX K H (.bl b) (.type "bool") := .base (.bl b)
theorem tyS {K : PySem.W.Frag} {H : Hp} {z : Str} : TyX K H (.str z) (.type "str") := .base (.str z)
theorem tyL {K : PySem.W.Frag} {H : Hp} {a : Addr} {xs : List V} (e : H a = some (.lst xs)) : TyX K H (.ref a) (.type "list") := .base (.lst e)
theorem tyT {K : PySem.W.Frag} {H : Hp} {a : Addr} {xs : List V} (e : H a = some (.tup xs)) : TyX K H (.ref a) (.type "tuple") := .base (.tup e)
section
variable {P : Program} {w : World} {K : PySem.W.Frag} {mg : Str → Option Value} {base : Heap}
theorem scSa : FnScope ["actual", "due", "k"] ["actual", "due"] (defScope sSame) := ⟨rfl, rfl, rfl, by decide +kernel, rfl, by decide +kernel, by decide +kernel⟩
end
section
variable {P : Program} {w : World} {K : PySem.W.Frag} {mg : Str → Option Value} {base : Heap}
theorem same_flat {f : Addr} (T : TxL mg) {cdv : Value} {A : Around} {outer : List Env} {s : Shared} {H0 : Hp} {E : XK} :
    ∃ t, PSs (cxOf CX0 P w K mg base ["actual", "due", "k"] "_law_same" (defScope sSame) f cdv A outer s H0 E).nox ((defBody sSame).drop 1) t ∧ ∀ (x : V) (v2 : Option V) (D : Ends) (H : Hp), Flat x → D.rt (.bl true) H → t D [some x, some x, v2] H := by
  refine ⟨_, pss_cons (ps_if (PW.pt (pw_or (pt_cmpR op_isN (pv 1) pe_non (nomark _)) (pw_or1 (pt_val (pe_callB call_isi (by rfl) T.isi (by decide +kernel) (pa_cons (pv 1) (pa_cons (pe_bltn (v := .ty "bool") (by rfl) T.bool (by decide +kernel) rfl) pa_nil)))))))
        (pss_one (ps_ret (pe_and (pe_cmpR op_eq (pe_cmpR op_isN (pv 0) pe_non (nomark _)) (pe_cmpR op_isN (pv 1) pe_non (nomark _)) (nomark _))
          (pe_and (pe_or (pe_cmpR op_isN (pv 1) pe_non (nomark _)) (pe_one (pe_callB call_isi (by rfl) T.isi (by decide +kernel) (pa_cons (pv 0) (pa_cons (pe_bltn (v := .ty "bool") (by rfl) T.bool (by decide +kernel) rfl) pa_nil)))))
            (pe_one (pe_cmpR op_eq (pv 0) (pv 1) (nomark _))))))) pss_nil)
      (pss_cons (ps_if (pt_val (pe_callB call_isi (by rfl) T.isi (by decide +kernel) (pa_cons (pv 1) (pa_cons (pe_bltn (v := .ty "int") (by rfl) T.int (by decide +kernel) rfl) pa_nil))))
        (pss_one (ps_ret (pe_and (pe_callB call_isi (by rfl) T.isi (by decide +kernel) (pa_cons (pv 0) (pa_cons (pe_bltn (v := .ty "int") (by rfl) T.int (by decide +kernel) rfl) pa_nil)))
          (pe_and (pe_not (pe_callB call_isi (by rfl) T.isi (by decide +kernel) (pa_cons (pv 0) (pa_cons (pe_bltn (v := .ty "bool") (by rfl) T.bool (by decide +kernel) rfl) pa_nil))))
            (pe_one (pe_cmpR op_eq (pv 0) (pv 1) (nomark _))))))) pss_nil)
      (pss_one (ps_ret (pe_and (pe_callB call_isi (by rfl) T.isi (by decide +kernel) (pa_cons (pv 0) (pa_cons (pe_bltn (v := .ty "str") (by rfl) T.str (by decide +kernel) rfl) pa_nil)))
          (pe_one (pe_cmpR op_eq (pv 0) (pv 1) (nomark _))))))), fun x v2 D H hx k => ?_⟩
  cases hx with
  | int i =>
    refine ⟨_, rfl, rfl, _, rfl, iteF ⟨_, rfl, _, _, _, _, false, rfl, .ty "bool", tyI, kit_ty (by decide +kernel), _, rfl, iteF ?_⟩⟩
    refine ⟨_, rfl, _, _, _, _, true, rfl, .ty "int", tyI, kit_same, _, rfl, iteT ?_⟩
    refine ⟨_, rfl, _, _, _, _, true, rfl, .ty "int", tyI, kit_same, _, rfl, iteT ⟨_, rfl, _, _, _, _, false, rfl, .ty "bool", tyI, kit_ty (by decide +kernel), _, rfl, _, rfl, iteT ⟨_, rfl, _, rfl, rfl, ?_⟩⟩⟩
    rw [decide_eq_true rfl]
    exact k
  | bl b =>
    refine ⟨_, rfl, rfl, _, rfl, iteF ⟨_, rfl, _, _, _, _, true, rfl, .ty "bool", tyB, kit_same, _, rfl, iteT ?_⟩⟩
    refine ⟨_, rfl, rfl, _, rfl, rfl, rfl, _, rfl, iteT ⟨_, rfl, rfl, _, rfl, iteF ⟨_, rfl, _, _, _, _, true, rfl, .ty "bool", tyB, kit_same, _, rfl, iteT ⟨_, rfl, _, rfl, rfl, ?_⟩⟩⟩⟩
    rw [decide_eq_true rfl]
    exact k
  | str z =>
    refine ⟨_, rfl, rfl, _, rfl, iteF ⟨_, rfl, _, _, _, _, false, rfl, .ty "bool", tyS, kit_ty (by decide +kernel), _, rfl, iteF ?_⟩⟩
    refine ⟨_, rfl, _, _, _, _, false, rfl, .ty "int", tyS, kit_ty (by decide +kernel), _, rfl, iteF ?_⟩
    refine ⟨_, rfl, _, _, _, _, true, rfl, .ty "str", tyS, kit_same, _, rfl, iteT ⟨_, rfl, _, rfl, rfl, ?_⟩⟩
    rw [decide_eq_true rfl]
    exact k
end
section
variable {P : Program} {w : World} {K : PySem.W.Frag} {mg : Str → Option Value} {base : Heap}
theorem flat_ty {H : Hp} {x : V} (h : Flat x) : ∃ t : String, TyX K H x (.type t) ∧ PySem.W.kitOne K (.type t) (.type "tuple") = some false ∧ PySem.W.kitOne K (.type t) (.type "list") = some false := by
  cases h with
  | int i => exact ⟨"int", tyI, kit_ty (by decide +kernel), kit_ty (by decide +kernel)⟩
  | bl b => exact ⟨"bool", tyB, kit_ty (by decide +kernel), kit_ty (by decide +kernel)⟩
  | str z => exact ⟨"str", tyS, kit_ty (by decide +kernel), kit_ty (by decide +kernel)⟩
end
section
variable {P : Program} {w : World} {K : PySem.W.Frag} {mg : Str → Option Value} {base : Heap}
theorem ok_same0 {f : Addr} {fd : FuncData} (F : Fun K "_law_same" "_law_same" sSame f fd) (T : TxL mg) : FnOk P w K mg base CX0 1 f fd ["actual", "due"] (spSame 0) := by
  refine F.ok scSa (fun vs H Q E h => ?_) (fun cdv A outer s H vs Q E hr h => ?_)
  · obtain ⟨x, y, rfl, _⟩ := h
    rfl
  · obtain ⟨x, y, rfl, hs, q⟩ := h
    obtain ⟨t, ht, rest⟩ := same_flat (P := P) (w := w) (K := K) (base := base) (f := f) (cdv := cdv) (A := A) (outer := outer) (s := s) (H0 := H) (E := E) T
    refine ⟨_, pss_cons (ps_if (PW.pt (pw_or (pt_val (pe_callB call_isi (by rfl) T.isi (by decide +kernel) (pa_cons (pv 1) (pa_cons (pe_bltn (v := .ty "tuple") (by rfl) T.tuple (by decide +kernel) rfl) pa_nil))))
          (pw_or1 (pt_val (pe_callB call_isi (by rfl) T.isi (by decide +kernel) (pa_cons (pv 1) (pa_cons (pe_bltn (v := .ty "list") (by rfl) T.list (by decide +kernel) rfl) pa_nil)))))))
        (pss_cons ps_never (pss_cons ps_never (pss_cons ps_never (pss_one ps_never)))) pss_nil) ht, ?_⟩
    cases hs with
    | flat _ hx =>
      obtain ⟨ty, h1, h2, h3⟩ := flat_ty (K := K) (H := H) hx
      refine ⟨_, rfl, _, _, _, _, false, rfl, .ty "tuple", h1, h2, _, rfl, iteF ⟨_, rfl, _, _, _, _, false, rfl, .ty "list", h1, h3, _, rfl, iteF (rest _ _ _ _ hx q)⟩⟩
end
section
variable {P : Program} {w : World} {K : PySem.W.Frag} {mg : Str → Option Value} {base : Heap}
theorem ok_sameS {f : Addr} {fd : FuncData} {k n : Nat} (F : Fun K "_law_same" "_law_same" sSame f fd) (T : TxL mg) (G : Fn0 P w K mg base k "_law_same" ["actual", "due"] (spSame n) f fd) : FnOk P w K mg base CX0 (k + 1) f fd ["actual", "due"] (spSame (n + 1)) := by
  refine F.ok scSa (fun vs H Q E h => ?_) (fun cdv A outer s H vs Q E hr h => ?_)
  · obtain ⟨x, y, rfl, _⟩ := h
    rfl
  · obtain ⟨x, y, rfl, hs, q⟩ := h
    obtain ⟨t, ht, rest⟩ := same_flat (P := P) (w := w) (K := K) (base := base) (f := f) (cdv := cdv) (A := A) (outer := outer) (s := s) (H0 := H) (E := E) T
    refine ⟨_, pss_cons (ps_if (PW.pt (pw_or (pt_val (pe_callB call_isi (by rfl) T.isi (by decide +kernel) (pa_cons (pv 1) (pa_cons (pe_bltn (v := .ty "tuple") (by rfl) T.tuple (by decide +kernel) rfl) pa_nil))))
          (pw_or1 (pt_val (pe_callB call_isi (by rfl) T.isi (by decide +kernel) (pa_cons (pv 1) (pa_cons (pe_bltn (v := .ty "list") (by rfl) T.list (by decide +kernel) rfl) pa_nil)))))))
        (pss_cons (ps_if (PW.pt (pw_or
            (pt_cmpR op_ne (pe_callB call_isi (by rfl) T.isi (by decide +kernel) (pa_cons (pv 1) (pa_cons (pe_bltn (v := .ty "tuple") (by rfl) T.tuple (by decide +kernel) rfl) pa_nil))) (pe_callB call_isi (by rfl) T.isi (by decide +kernel) (pa_cons (pv 0) (pa_cons (pe_bltn (v := .ty "tuple") (by rfl) T.tuple (by decide +kernel) rfl) pa_nil))) (nomark _))
            (pw_or1 (pt_cmpR op_ne (pe_callB call_isi (by rfl) T.isi (by decide +kernel) (pa_cons (pv 1) (pa_cons (pe_bltn (v := .ty "list") (by rfl) T.list (by decide +kernel) rfl) pa_nil))) (pe_callB call_isi (by rfl) T.isi (by decide +kernel) (pa_cons (pv 0) (pa_cons (pe_bltn (v := .ty "list") (by rfl) T.list (by decide +kernel) rfl) pa_nil))) (nomark _)))))
            (pss_one (ps_ret pe_bl)) pss_nil)
        (pss_cons (ps_if (pt_cmpR op_ne (pe_callB call_len_seq (by rfl) T.len PySem.boot_len (pa_cons (pv 0) pa_nil)) (pe_callB call_len_seq (by rfl) T.len PySem.boot_len (pa_cons (pv 1) pa_nil)) (nomark _)) (pss_one (ps_ret pe_bl)) pss_nil)
        (pss_cons (ps_for PassesOwn.never rfl (pi_range1 rfl T.range (pa_cons (pe_callB call_len_seq (by rfl) T.len PySem.boot_len (pa_cons (pv 1) pa_nil)) pa_nil)) (pg_name (i := 2) scSa.nd rfl (Or.inl rfl))
          (pss_one (ps_if (pt_not (pt_val (pe_call G.ok hr (by rfl) G.gl G.kp G.bd .nil pass0 (pa_cons (pe_ix ix_seq (pv 0) (pv 2) (fun _ _ => rfl)) (pa_cons (pe_ix ix_seq (pv 1) (pv 2) (fun _ _ => rfl)) pa_nil))))) (pss_one (ps_ret pe_bl)) pss_nil)))
        (pss_one (ps_ret pe_bl))))) pss_nil) ht, ?_⟩
    cases hs with
    | flat _ hx =>
      obtain ⟨ty, h1, h2, h3⟩ := flat_ty (K := K) (H := H) hx
      refine ⟨_, rfl, _, _, _, _, false, rfl, .ty "tuple", h1, h2, _, rfl, iteF ⟨_, rfl, _, _, _, _, false, rfl, .ty "list", h1, h3, _, rfl, iteF (rest _ _ _ _ hx q)⟩⟩
    | @lst _ a b xs ys ha hb hl hz h =>
      refine ⟨_, rfl, _, _, _, _, false, rfl, .ty "tuple", tyL hb, kit_ty (by decide +kernel), _, rfl, iteF ⟨_, rfl, _, _, _, _, true, rfl, .ty "list", tyL hb, kit_same, _, rfl, iteT ?_⟩⟩
      refine ⟨_, rfl, _, _, _, _, false, rfl, .ty "tuple", tyL hb, kit_ty (by decide +kernel), _, rfl, _, _, _, _, false, rfl, .ty "tuple", tyL ha, kit_ty (by decide +kernel), rfl, _, rfl, iteF ?_⟩
      refine ⟨_, rfl, _, _, _, _, true, rfl, .ty "list", tyL hb, kit_same, _, rfl, _, _, _, _, true, rfl, .ty "list", tyL ha, kit_same, rfl, _, rfl, iteF ?_⟩
      refine ⟨_, rfl, a, _, rfl, .inl (SqL.of ha), _, rfl, b, _, rfl, .inl (SqL.of hb), rfl, _, rfl, ?_⟩
      rw [hl, decide_eq_true rfl]
      refine iteF ⟨_, rfl, b, _, rfl, .inl (SqL.of hb), (ys.length : Int), rfl, by omega, by omega, for_range (lo := 0) (n := (ys.length : Int).toNat) (fun i σ H2 => (∃ v2, σ = [some (.ref a), some (.ref b), v2]) ∧ H2 = H) ⟨⟨_, rfl⟩, rfl⟩ ?_ ?_⟩
      · rintro i σ H2 hi ⟨⟨v2, rfl⟩, rfl⟩
        have h2 : i < ys.length := by omega
        have h1 : i < xs.length := by omega
        have ex := List.getElem?_eq_getElem h1
        have ey := List.getElem?_eq_getElem h2
        refine ⟨_, rfl, _, rfl, .inl ⟨a, _, _, _, rfl, rfl, SqL.of ha, by rw [Int.zero_add]; exact atI_nat ex, _, rfl, _, rfl, .inl ⟨b, _, _, _, rfl, rfl, SqL.of hb, by rw [Int.zero_add]; exact atI_nat ey, _, _, rfl, h i _ _ ex ey, _, rfl, iteF ⟨⟨_, rfl⟩, rfl⟩⟩⟩⟩
      · rintro σ H2 ⟨⟨v2, rfl⟩, rfl⟩
        exact q
    | @tup _ a b xs ys ha hb hl hz h =>
      refine ⟨_, rfl, _, _, _, _, true, rfl, .ty "tuple", tyT hb, kit_same, _, rfl, iteT ?_⟩
      refine ⟨_, rfl, _, _, _, _, true, rfl, .ty "tuple", tyT hb, kit_same, _, rfl, _, _, _, _, true, rfl, .ty "tuple", tyT ha, kit_same, rfl, _, rfl, iteF ?_⟩
      refine ⟨_, rfl, _, _, _, _, false, rfl, .ty "list", tyT hb, kit_ty (by decide +kernel), _, rfl, _, _, _, _, false, rfl, .ty "list", tyT ha, kit_ty (by decide +kernel), rfl, _, rfl, iteF ?_⟩
      refine ⟨_, rfl, a, _, rfl, .inr (SqT.of ha), _, rfl, b, _, rfl, .inr (SqT.of hb), rfl, _, rfl, ?_⟩
      rw [hl, decide_eq_true rfl]
      refine iteF ⟨_, rfl, b, _, rfl, .inr (SqT.of hb), (ys.length : Int), rfl, by omega, by omega, for_range (lo := 0) (n := (ys.length : Int).toNat) (fun i σ H2 => (∃ v2, σ = [some (.ref a), some (.ref b), v2]) ∧ H2 = H) ⟨⟨_, rfl⟩, rfl⟩ ?_ ?_⟩
      · rintro i σ H2 hi ⟨⟨v2, rfl⟩, rfl⟩
        have h2 : i < ys.length := by omega
        have h1 : i < xs.length := by omega
        have ex := List.getElem?_eq_getElem h1
        have ey := List.getElem?_eq_getElem h2
        refine ⟨_, rfl, _, rfl, .inr (.inl ⟨a, _, _, _, rfl, rfl, SqT.of ha, by rw [Int.zero_add]; exact atI_nat ex, _, rfl, _, rfl, .inr (.inl ⟨b, _, _, _, rfl, rfl, SqT.of hb, by rw [Int.zero_add]; exact atI_nat ey, _, _, rfl, h i _ _ ex ey, _, rfl, iteF ⟨⟨_, rfl⟩, rfl⟩⟩)⟩)⟩
      · rintro σ H2 ⟨⟨v2, rfl⟩, rfl⟩
        exact q
end
end K1

set_option Elab.async false
set_option linter.all false
set_option maxRecDepth 100000
set_option maxHeartbeats 4000000
/-! combined, value_of. -/
namespace K1
open PySem PySem.Spec PyProof.Rows L2 Kx
abbrev sVo : Stmt := top 11
abbrev sCo : Stmt := top 12
abbrev sSeat : Stmt := top 18
def comb (o : Str) (a b : Int) : Int :=
  if o = "+" then (a + b) % 65536 else if o = "-" then max 0 (a - b) else if o = "*" then a * b % 65536 else if o = "<" then (if a < b then 1 else 0) else if o = "=" then (if a = b then 1 else 0)
  else if b = 0 then 0 else if o = "/" then a / b else a % b
def Sml (n : Int) : Prop := 0 ≤ n ∧ n ≤ 65535
theorem comb_sml {o : Str} {a b : Int} (ha : Sml a) (hb : Sml b) : Sml (comb o a b) := by
  obtain ⟨a0, a1⟩ := ha
  obtain ⟨b0, b1⟩ := hb
  unfold comb Sml
  split
  · omega
  · split
    · omega
    · split
      · constructor
        · exact Int.emod_nonneg _ (by decide)
        · have := Int.emod_lt_of_pos (a * b) (show (0 : Int) < 65536 by decide)
          omega
      · split
        · split <;> decide
        · split
          · split <;> decide
          · split
            · decide
            · split
              · have h1 := Int.ediv_nonneg a0 b0
                have h2 := Int.ediv_le_self b a0
                omega
              · have h1 := Int.emod_nonneg a (show b ≠ 0 by assumption)
                have h2 := Int.emod_lt_of_pos a (show (0 : Int) < b by omega)
                omega
/-- what is stored: names and numbers, in the order of the variables -/
def stK (st : List (Str × Int)) : List (L2.Key × V) := st.map fun p => (Sum.inr p.1, V.int p.2)
def look (st : List (Str × Int)) (x : Str) : Option Int := (st.find? fun p => decide (p.1 = x)).map (·.2)
theorem stK_val (st : List (Str × Int)) (x : Str) : valV (stK st) (Sum.inr x) = (look st x).map V.int := by
  unfold valV look stK
  induction st with
  | nil => rfl
  | cons p r ih =>
    rw [List.map_cons, List.find?_cons, List.find?_cons]
    by_cases h : p.1 = x
    · rw [decide_eq_true h, show decide ((Sum.inr p.1 : L2.Key) = Sum.inr x) = true from decide_eq_true (by rw [h])]
      rfl
    · rw [decide_eq_false h, show decide ((Sum.inr p.1 : L2.Key) = Sum.inr x) = false from decide_eq_false fun e => h (Sum.inr.inj e)]
      exact ih
theorem look_in {st : List (Str × Int)} {x : Str} (h : x ∈ st.map (·.1)) : ∃ v, look st x = some v ∧ (x, v) ∈ st := by
  induction st with
  | nil => exact nomatch h
  | cons p r ih =>
    unfold look
    rw [List.find?_cons]
    by_cases e : p.1 = x
    · rw [decide_eq_true e]
      exact ⟨p.2, rfl, by rw [← e]; exact List.mem_cons_self ..⟩
    · rw [decide_eq_false e]
      rw [List.map_cons] at h
      rcases List.mem_cons.mp h with h | h
      · exact absurd h.symm e
      · obtain ⟨v, h1, h2⟩ := ih h
        exact ⟨v, h1, List.mem_cons_of_mem _ h2⟩
def evE (st : List (Str × Int)) : Ex → Int
  | .num n => n
  | .var x => (look st x).getD 0
  | .op o a b => comb o (evE st a) (evE st b)
/-- stored numbers are small -/
def StOk (ns : List Str) (st : List (Str × Int)) : Prop := st.map (·.1) = ns ∧ ∀ p ∈ st, Sml p.2
theorem evE_sml {ns : List Str} {st : List (Str × Int)} (h : StOk ns st) : ∀ {e : Ex} {d : Nat}, e.vl ns d → Sml (evE st e)
  | .num n, d, he => he
  | .var x, d, he => by
    have he : x ∈ ns := he
    rw [← h.1] at he
    obtain ⟨v, h1, h2⟩ := look_in he
    show Sml ((look st x).getD 0)
    rw [h1]
    exact h.2 _ h2
  | .op o a b, d, he => by
    obtain ⟨_, e, _, ha, hb⟩ := he
    exact comb_sml (evE_sml h ha) (evE_sml h hb)
theorem ops_in {o : Str} (h : OPS.contains o = true) : o = "+" ∨ o = "-" ∨ o = "*" ∨ o = "/" ∨ o = "mod" ∨ o = "<" ∨ o = "=" := by
  have : o ∈ OPS := by simpa using h
  unfold OPS at this
  simpa only [List.mem_cons, List.not_mem_nil, or_false] using this
structure TxV (mg : Str → Option Value) : Prop where
  val : mg "VALUES" = some (.int 65536 0)
  max : mg "max" = none
def spCo : Sp := fun vs H Q _ => ∃ (o : Str) (a b : Int), vs = [.str o, .int a, .int b] ∧ Sml a ∧ Sml b ∧ Q (.int (comb o a b)) H
section
variable {P : Program} {w : World} {K : PySem.W.Frag} {mg : Str → Option Value} {base : Heap}
theorem scCo : FnScope ["operator", "first", "second"] ["operator", "first", "second"] (defScope sCo) := ⟨rfl, rfl, rfl, by decide +kernel, rfl, by decide +kernel, by decide +kernel⟩
theorem ok_co {f : Addr} {fd : FuncData} (F : Fun K "combined" "combined" sCo f fd) {tv : Tok} (hv : mg "VALUES" = some (.int 65536 tv)) (hm : mg "max" = none) : FnOk P w K mg base CX0 1 f fd ["operator", "first", "second"] spCo := by
  refine F.ok scCo (fun vs H Q E h => ?_) (fun cdv A outer s H vs Q E hr h => ?_)
  · obtain ⟨o, a, b, rfl, _⟩ := h
    rfl
  · obtain ⟨o, a, b, rfl, ha, hb, q⟩ := h
    refine ⟨_, pss_cons (ps_if (pt_cmpR op_eq (pv 0) pe_str (nomark _)) (pss_one (ps_ret (pe_op op_mod (pe_op op_add (pv 1) (pv 2)) (pe_glob (v := .int 65536) rfl hv ⟨_, rfl⟩)))) pss_nil)
      (pss_cons (ps_if (pt_cmpR op_eq (pv 0) pe_str (nomark _)) (pss_one (ps_ret (pe_callB (call_max2 rfl) (by rfl) hm (by decide +kernel) (pa_cons pe_int (pa_cons (pe_op op_sub (pv 1) (pv 2)) pa_nil))))) pss_nil)
      (pss_cons (ps_if (pt_cmpR op_eq (pv 0) pe_str (nomark _)) (pss_one (ps_ret (pe_op op_mod (pe_op op_mul (pv 1) (pv 2)) (pe_glob (v := .int 65536) rfl hv ⟨_, rfl⟩)))) pss_nil)
      (pss_cons (ps_if (pt_cmpR op_eq (pv 0) pe_str (nomark _)) (pss_one (ps_ret (pe_ifExp (pt_cmpR op_lt (pv 1) (pv 2) (nomark _)) pe_int pe_int))) pss_nil)
      (pss_cons (ps_if (pt_cmpR op_eq (pv 0) pe_str (nomark _)) (pss_one (ps_ret (pe_ifExp (pt_cmpR op_eq (pv 1) (pv 2) (nomark _)) pe_int pe_int))) pss_nil)
      (pss_cons (ps_if (pt_cmpR op_eq (pv 2) pe_int (nomark _)) (pss_one (ps_ret pe_int)) pss_nil)
      (pss_one (ps_ret (pe_ifExp (pt_cmpR op_eq (pv 0) pe_str (nomark _)) (pe_op op_fdiv (pv 1) (pv 2)) (pe_op op_mod (pv 1) (pv 2)))))))))), ?_⟩
    have ds : ∀ z : Str, decide (V.str o = V.str z) = decide (o = z) := fun z => by
      by_cases h : o = z
      · rw [decide_eq_true h, decide_eq_true (by rw [h])]
      · rw [decide_eq_false h, decide_eq_false fun e => h (V.str.inj e)]
    unfold comb at q
    obtain ⟨a0, a1⟩ := ha
    obtain ⟨b0, b1⟩ := hb
    refine ⟨_, rfl, rfl, _, rfl, ?_⟩
    rw [ds]
    by_cases h1 : o = "+"
    · rw [if_pos h1] at q
      rw [decide_eq_true h1]
      exact iteT ⟨_, rfl, _, rfl, _, _, rfl, rfl, _, _, rfl, rfl, (show (0 : Int) < 65536 by decide), q⟩
    rw [decide_eq_false h1]
    rw [if_neg h1] at q
    refine iteF ⟨_, rfl, rfl, _, rfl, ?_⟩
    rw [ds]
    by_cases h2 : o = "-"
    · rw [if_pos h2] at q
      rw [decide_eq_true h2]
      refine iteT ⟨_, rfl, _, rfl, _, _, rfl, rfl, _, _, rfl, ?_⟩
      rw [show (if a - b > 0 then a - b else 0) = max 0 (a - b) by split <;> omega]
      exact q
    rw [decide_eq_false h2]
    rw [if_neg h2] at q
    refine iteF ⟨_, rfl, rfl, _, rfl, ?_⟩
    rw [ds]
    by_cases h3 : o = "*"
    · rw [if_pos h3] at q
      rw [decide_eq_true h3]
      exact iteT ⟨_, rfl, _, rfl, _, _, rfl, rfl, .inl ⟨by omega, by omega⟩, _, _, rfl, rfl, (show (0 : Int) < 65536 by decide), q⟩
    rw [decide_eq_false h3]
    rw [if_neg h3] at q
    refine iteF ⟨_, rfl, rfl, _, rfl, ?_⟩
    rw [ds]
    by_cases h4 : o = "<"
    · rw [if_pos h4] at q
      rw [decide_eq_true h4]
      refine iteT ⟨_, rfl, _, rfl, _, _, rfl, rfl, _, rfl, ?_⟩
      by_cases h : a < b
      · rw [if_pos h] at q
        rw [decide_eq_true h]
        exact iteT q
      · rw [if_neg h] at q
        rw [decide_eq_false h]
        exact iteF q
    rw [decide_eq_false h4]
    rw [if_neg h4] at q
    refine iteF ⟨_, rfl, rfl, _, rfl, ?_⟩
    rw [ds]
    by_cases h5 : o = "="
    · rw [if_pos h5] at q
      rw [decide_eq_true h5]
      refine iteT ⟨_, rfl, _, rfl, rfl, _, rfl, ?_⟩
      by_cases h : a = b
      · rw [if_pos h] at q
        rw [decide_eq_true (show V.int a = V.int b by rw [h])]
        exact iteT q
      · rw [if_neg h] at q
        rw [decide_eq_false (show ¬ V.int a = V.int b from fun e => h (V.int.inj e))]
        exact iteF q
    rw [decide_eq_false h5]
    rw [if_neg h5] at q
    refine iteF ⟨_, rfl, rfl, _, rfl, ?_⟩
    by_cases h6 : b = 0
    · rw [if_pos h6] at q
      rw [decide_eq_true (show V.int b = V.int 0 by rw [h6])]
      exact iteT q
    rw [if_neg h6] at q
    rw [decide_eq_false (show ¬ V.int b = V.int 0 from fun e => h6 (V.int.inj e))]
    refine iteF ⟨_, rfl, rfl, _, rfl, ?_⟩
    rw [ds]
    by_cases h7 : o = "/"
    · rw [if_pos h7] at q
      rw [decide_eq_true h7]
      exact iteT ⟨_, rfl, _, rfl, _, _, rfl, rfl, ⟨by omega, by omega⟩, q⟩
    · rw [if_neg h7] at q
      rw [decide_eq_false h7]
      exact iteF ⟨_, rfl, _, rfl, _, _, rfl, rfl, by omega, q⟩
end
/-! ### value_of -/
def spVo (n : Nat) : Sp := fun vs H Q _ => ∃ (v : V) (d : Addr) (e : Ex) (ns : List Str) (st : List (Str × Int)), vs = [v, .ref d] ∧ Dt H v e.d ∧ e.vl ns n ∧ StOk ns st ∧ H d = some (.dK (stK st)) ∧ Q (.int (evE st e)) H
section
variable {P : Program} {w : World} {K : PySem.W.Frag} {mg : Str → Option Value} {base : Heap} {fC : Addr} {dC : FuncData}
theorem scVo : FnScope ["expression", "stored", "operator", "first", "second"] ["expression", "stored"] (defScope sVo) := ⟨rfl, rfl, rfl, by decide +kernel, rfl, by decide +kernel, by decide +kernel⟩
theorem st_get {H : Hp} {d : Addr} {ns : List Str} {st : List (Str × Int)} {x : Str} (hs : StOk ns st) (hd : H d = some (.dK (stK st))) (hx : x ∈ ns) : DGet H d (.str x) (some (.int (evE st (.var x)))) := by
  have := DGet.k (k := Sum.inr x) hd
  rw [stK_val] at this
  rw [← hs.1] at hx
  obtain ⟨v, h1, _⟩ := look_in hx
  show DGet H d (.str x) (some (.int ((look st x).getD 0)))
  rw [h1] at this ⊢
  exact this
theorem ok_vo0 {f : Addr} {fd : FuncData} (F : Fun K "value_of" "value_of" sVo f fd) : FnOk P w K mg base CX0 1 f fd ["expression", "stored"] (spVo 0) := by
  refine F.ok scVo (fun vs H Q E h => ?_) (fun cdv A outer s H vs Q E hr h => ?_)
  · obtain ⟨v, d, e, ns, st, rfl, _⟩ := h
    rfl
  · obtain ⟨v, d, e, ns, st, rfl, hv, he, hs, hd, q⟩ := h
    have hu1 : (A.deeper (envOfC "value_of" (defScope sVo) s.heap.objs.size f cdv)).units + 1 < cLine := by have := hr.un; omega
    refine ⟨_, pss_cons (ps_if (pt_cmpR op_eq (pe_ix ix_tup (pv 0) pe_int (fun _ _ => rfl)) pe_str (nomark _)) (pss_one (ps_ret (pe_ix ix_tup (pv 0) pe_int (fun _ _ => rfl)))) pss_nil)
      (pss_cons (ps_if (pt_cmpR op_eq (pe_ix ix_tup (pv 0) pe_int (fun _ _ => rfl)) pe_str (nomark _)) (pss_one (ps_ret (pe_dget hu1 (pv 1) (pe_ix ix_tup (pv 0) pe_int (fun _ _ => rfl)) (fun _ _ => rfl)))) pss_nil)
      (pss_cons ps_never (pss_one ps_never))), ?_⟩
    cases e with
    | num n =>
      obtain ⟨a, xs, rfl, ea, da⟩ := hv.tupI
      obtain ⟨x, y, rfl, d1, d2⟩ := da.c2
      obtain rfl := d1.strI
      obtain rfl := d2.intI
      refine ⟨_, rfl, a, _, _, _, rfl, rfl, SqT.of ea, tix0, rfl, _, rfl, ?_⟩
      rw [decide_eq_true rfl]
      exact iteT ⟨_, rfl, a, _, _, _, rfl, rfl, SqT.of ea, tix1, q⟩
    | var x =>
      obtain ⟨a, xs, rfl, ea, da⟩ := hv.tupI
      obtain ⟨z, y, rfl, d1, d2⟩ := da.c2
      obtain rfl := d1.strI
      obtain rfl := d2.strI
      refine ⟨_, rfl, a, _, _, _, rfl, rfl, SqT.of ea, tix0, rfl, _, rfl, ?_⟩
      rw [decide_eq_false (show ¬ V.str ("variable" : Str) = V.str ("number" : Str) from fun z => absurd (V.str.inj z) (by decide +kernel))]
      refine iteF ⟨_, rfl, a, _, _, _, rfl, rfl, SqT.of ea, tix0, rfl, _, rfl, ?_⟩
      rw [decide_eq_true rfl]
      exact iteT ⟨_, rfl, _, rfl, a, _, _, _, rfl, rfl, SqT.of ea, tix1, d, _, rfl, st_get hs hd he, q⟩
    | op o a b =>
      obtain ⟨_, e, he0, _⟩ := he
      exact absurd he0 (by omega)
theorem ok_voS {f : Addr} {fd : FuncData} {k n : Nat} (hk : 1 ≤ k) (F : Fun K "value_of" "value_of" sVo f fd) (gl : mg "value_of" = some (.ref f)) (bd : Binds K fd ["expression", "stored"] []) (G : FnOk P w K mg base CX0 k f fd ["expression", "stored"] (spVo n)) (C1 : Fn0 P w K mg base 1 "combined" ["operator", "first", "second"] spCo fC dC) : FnOk P w K mg base CX0 (k + 1) f fd ["expression", "stored"] (spVo (n + 1)) := by
  refine F.ok scVo (fun vs H Q E h => ?_) (fun cdv A outer s H vs Q E hr h => ?_)
  · obtain ⟨v, d, e, ns, st, rfl, _⟩ := h
    rfl
  · obtain ⟨v, d, e, ns, st, rfl, hv, he, hs, hd, q⟩ := h
    have hu1 : (A.deeper (envOfC "value_of" (defScope sVo) s.heap.objs.size f cdv)).units + 1 < cLine := by have := hr.un; omega
    have hr1 : Room 1 _ := hr.mono hk
    refine ⟨_, pss_cons (ps_if (pt_cmpR op_eq (pe_ix ix_tup (pv 0) pe_int (fun _ _ => rfl)) pe_str (nomark _)) (pss_one (ps_ret (pe_ix ix_tup (pv 0) pe_int (fun _ _ => rfl)))) pss_nil)
      (pss_cons (ps_if (pt_cmpR op_eq (pe_ix ix_tup (pv 0) pe_int (fun _ _ => rfl)) pe_str (nomark _)) (pss_one (ps_ret (pe_dget hu1 (pv 1) (pe_ix ix_tup (pv 0) pe_int (fun _ _ => rfl)) (fun _ _ => rfl)))) pss_nil)
      (pss_cons (ps_asg (pv 0) (pg_tup (by rfl) (pgs_cons (pg_name (i := 2) scVo.nd rfl (Or.inl rfl)) (pgs_cons (pg_name (i := 3) scVo.nd rfl (Or.inl rfl)) (pgs_cons (pg_name (i := 4) scVo.nd rfl (Or.inl rfl)) pgs_nil)))))
      (pss_one (ps_ret (pe_call C1.ok hr1 (by rfl) C1.gl C1.kp C1.bd .nil pass0 (pa_cons (pv 2) (pa_cons (pe_call G hr (by rfl) gl F.kp bd .nil pass0 (pa_cons (pv 3) (pa_cons (pv 1) pa_nil))) (pa_cons (pe_call G hr (by rfl) gl F.kp bd .nil pass0 (pa_cons (pv 4) (pa_cons (pv 1) pa_nil))) pa_nil)))))))), ?_⟩
    cases e with
    | num n =>
      obtain ⟨a, xs, rfl, ea, da⟩ := hv.tupI
      obtain ⟨x, y, rfl, d1, d2⟩ := da.c2
      obtain rfl := d1.strI
      obtain rfl := d2.intI
      refine ⟨_, rfl, a, _, _, _, rfl, rfl, SqT.of ea, tix0, rfl, _, rfl, ?_⟩
      rw [decide_eq_true rfl]
      exact iteT ⟨_, rfl, a, _, _, _, rfl, rfl, SqT.of ea, tix1, q⟩
    | var x =>
      obtain ⟨a, xs, rfl, ea, da⟩ := hv.tupI
      obtain ⟨z, y, rfl, d1, d2⟩ := da.c2
      obtain rfl := d1.strI
      obtain rfl := d2.strI
      refine ⟨_, rfl, a, _, _, _, rfl, rfl, SqT.of ea, tix0, rfl, _, rfl, ?_⟩
      rw [decide_eq_false (show ¬ V.str ("variable" : Str) = V.str ("number" : Str) from fun z => absurd (V.str.inj z) (by decide +kernel))]
      refine iteF ⟨_, rfl, a, _, _, _, rfl, rfl, SqT.of ea, tix0, rfl, _, rfl, ?_⟩
      rw [decide_eq_true rfl]
      exact iteT ⟨_, rfl, _, rfl, a, _, _, _, rfl, rfl, SqT.of ea, tix1, d, _, rfl, st_get hs hd he, q⟩
    | op o x y =>
      obtain ⟨ho, e, he0, hx, hy⟩ := he
      obtain rfl : n = e := by omega
      obtain ⟨a, xs, rfl, ea, da⟩ := hv.tupI
      obtain ⟨z, u1, u2, rfl, d1, d2, d3⟩ := da.c3
      obtain rfl := d1.strI
      obtain ⟨n1, n2⟩ := ops_num o (by simpa using ho)
      refine ⟨_, rfl, a, _, _, _, rfl, rfl, SqT.of ea, tix0, rfl, _, rfl, ?_⟩
      rw [decide_eq_false (show ¬ V.str o = V.str ("number" : Str) from fun z => n1 (V.str.inj z))]
      refine iteF ⟨_, rfl, a, _, _, _, rfl, rfl, SqT.of ea, tix0, rfl, _, rfl, ?_⟩
      rw [decide_eq_false (show ¬ V.str o = V.str ("variable" : Str) from fun z => n2 (V.str.inj z))]
      refine iteF ⟨_, rfl, a, _, rfl, SqT.of ea, rfl, _, _, rfl, _, _, rfl, _, _, rfl, rfl, ?_⟩
      exact ⟨_, rfl, _, rfl, _, rfl, u1, d, x, ns, st, rfl, d2, hx, hs, hd, _, rfl, _, rfl, u2, d, y, ns, st, rfl, d3, hy, hs, hd, o, _, _, rfl, evE_sml hs hx, evE_sml hs hy, q⟩
end
end K1

set_option Elab.async false
set_option linter.all false
set_option maxRecDepth 100000
set_option maxHeartbeats 2000000
/-! Dicts whose keys are tuples of tuples, numbers and texts, in the hand layer. -/
namespace Kd
open PySem PySem.Spec PyProof.Rows L2
/-! ### keys as they stand in the abstract heap -/
mutual
inductive Nest (H : Hp) : NestedKey → V → Prop where
  | none : Nest H .none .non
  | num (i : Int) : Nest H (.num i) (.int i)
  | text (z : Str) : Nest H (.text z) (.str z)
  | tup {a : Addr} {vs : List V} {ks : List NestedKey} (h : H a = some (.tup vs)) (r : NestL H ks vs) : Nest H (.tup ks) (.ref a)
inductive NestL (H : Hp) : List NestedKey → List V → Prop where
  | nil : NestL H [] []
  | cons {k : NestedKey} {v : V} {ks : List NestedKey} {vs : List V} (h : Nest H k v) (r : NestL H ks vs) : NestL H (k :: ks) (v :: vs)
end
mutual
theorem Nest.keep {H H' : Hp} (e : ∀ a xs, H a = some (.tup xs) → H' a = some (.tup xs)) : ∀ {k : NestedKey} {v : V}, Nest H k v → Nest H' k v
  | _, _, .none => .none
  | _, _, .num i => .num i
  | _, _, .text z => .text z
  | _, _, .tup h r => .tup (e _ _ h) (NestL.keep e r)
theorem NestL.keep {H H' : Hp} (e : ∀ a xs, H a = some (.tup xs) → H' a = some (.tup xs)) : ∀ {ks : List NestedKey} {vs : List V}, NestL H ks vs → NestL H' ks vs
  | _, _, .nil => .nil
  | _, _, .cons h r => .cons (Nest.keep e h) (NestL.keep e r)
end
section
variable {P : Program} {w : World} {H : Hp} {h : Heap}
mutual
theorem Nest.is (ok : HOk P w H h) : ∀ {k : NestedKey} {v : V} {u : Value}, Nest H k v → RelV v u → NestedIs h k u
  | _, _, u, .none, r => by
    cases (show u = Value.none from r)
    exact .none
  | _, _, u, .num i, r => by
    obtain ⟨t, e⟩ := (show ∃ t, u = Value.int i t from r)
    rw [e]
    exact .int i t
  | _, _, u, .text z, r => by
    obtain ⟨t, e⟩ := (show ∃ t, u = Value.str z t from r)
    rw [e]
    exact .text z t
  | _, _, u, .tup (a := a) (vs := vs) e n, r => by
    cases (show u = Value.ref a from r)
    obtain ⟨_, its, rv, ⟨o, h1, h2, k, h3⟩⟩ := (show ObjOk P w H h a (.tup vs) from ok a _ e)
    exact .tup h1 h2 h3 (NestL.is ok n rv)
theorem NestL.is (ok : HOk P w H h) : ∀ {ks : List NestedKey} {vs : List V} {us : List Value}, NestL H ks vs → Vals vs us → NestedAll h ks us
  | _, _, _, .nil, r => by
    cases r
    exact .nil
  | _, _, _, .cons n m, r => by
    cases r with
    | cons a b => exact .cons (Nest.is ok n a) (NestL.is ok m b)
end
end
/-! ### the dict: what stands at its address -/
def rawD (d : Addr) (es : Array DictEntry) (ep : Nat) : Heap → Prop := fun h => ∃ o, h.get? d = some o ∧ o.ExactDict ∧ o.data = .dict es ep
/-- the keys in order, each with where its tuple stands, and the value -/
abbrev Kvs := List (NestedKey × Addr × V)
def rel (p : NestedKey × Addr × V) (q : NestedKey × Addr × Value) : Prop := p.1 = q.1 ∧ p.2.1 = q.2.1 ∧ RelV p.2.2 q.2.2
structure KDD (P : Program) (w : World) (H : Hp) (d : Addr) (kvs : Kvs) (es : Array DictEntry) (ep : Nat) (xs : List (NestedKey × Addr × Value)) : Prop where
  at_ : H d = some (.ext (rawD d es ep))
  es_ : es.toList = xs.map (entryOfKey (nestedKind P w))
  rel_ : Paired rel kvs xs
/-- a dict of such keys at d -/
structure KD (P : Program) (w : World) (H : Hp) (d : Addr) (kvs : Kvs) : Prop where
  nd : (kvs.map (·.1)).Nodup
  key : ∀ p ∈ kvs, Nest H p.1 (.ref p.2.1) ∧ p.1.depth ≤ 8
  sys : (d == sysModules) = false
  len : kvs.length ≤ 100000
  ok : ∃ es ep xs, KDD P w H d kvs es ep xs
theorem KD.keep {P : Program} {w : World} {H H' : Hp} {d : Addr} {kvs : Kvs} (k : KD P w H d kvs) (e : ∀ a xs, H a = some (.tup xs) → H' a = some (.tup xs)) (hd : H' d = H d) : KD P w H' d kvs := by
  obtain ⟨es, ep, xs, q⟩ := k.ok
  exact ⟨k.nd, fun p hp => ⟨(k.key p hp).1.keep e, (k.key p hp).2⟩, k.sys, k.len, es, ep, xs, by rw [hd]; exact q.at_, q.es_, q.rel_⟩
theorem KD.same {P : Program} {w : World} {H H' : Hp} {d : Addr} {kvs : Kvs} (k : KD P w H d kvs) (s : Same H H') : KD P w H' d kvs := by
  obtain ⟨es, ep, xs, q⟩ := id k.ok
  exact k.keep (fun a xs e => s _ _ e) (by rw [q.at_, s _ _ q.at_])
theorem paired_fst {kvs : Kvs} {xs : List (NestedKey × Addr × Value)} (r : Paired rel kvs xs) : xs.map (·.1) = kvs.map (·.1) := by
  induction r with
  | nil => rfl
  | cons a _ ih => rw [List.map_cons, List.map_cons, ih, a.1]
theorem paired_len {kvs : Kvs} {xs : List (NestedKey × Addr × Value)} (r : Paired rel kvs xs) : xs.length = kvs.length := by
  induction r with
  | nil => rfl
  | cons a _ ih => rw [List.length_cons, List.length_cons, ih]
theorem paired_mem {kvs : Kvs} {xs : List (NestedKey × Addr × Value)} (r : Paired rel kvs xs) : ∀ x ∈ xs, ∃ p ∈ kvs, rel p x := by
  induction r with
  | nil => exact fun x hx => nomatch hx
  | cons a _ ih =>
    intro x hx
    rcases List.mem_cons.mp hx with rfl | hx
    · exact ⟨_, List.mem_cons_self .., a⟩
    · obtain ⟨p, hp, q⟩ := ih x hx
      exact ⟨p, List.mem_cons_of_mem _ hp, q⟩
/-- what is in the dict -/
theorem KD.heap {P : Program} {w : World} {H : Hp} {h : Heap} {d : Addr} {kvs : Kvs} (k : KD P w H d kvs) (ok : HOk P w H h) : ∃ xs, Paired rel kvs xs ∧ Heap.DictOfH (nestedKind P w) h d xs := by
  obtain ⟨es, ep, xs, q⟩ := k.ok
  obtain ⟨⟨o, h1, h2, h3⟩, _, _⟩ := (show ObjOk P w H h d (.ext (rawD d es ep)) from ok d _ q.at_)
  refine ⟨xs, q.rel_, o, es, ep, h1, h2, h3, q.es_, fun x hx => ?_, by rw [paired_fst q.rel_]; exact k.nd⟩
  obtain ⟨p, hp, e1, e2, _⟩ := paired_mem q.rel_ x hx
  obtain ⟨n1, n2⟩ := k.key p hp
  rw [← e1, ← e2]
  exact ⟨n1.is ok rfl, n2⟩
/-- a new empty one -/
def tDNewX : TE := fun _ H Q => ∀ p, H p = none → (p == sysModules) = false → Q (.ref p) (upd H p (.ext (rawD p #[] 0)))
theorem pe_dnewX {X : Cx} {pos : Pos} : PE X (.Dict [] [] pos) tDNewX := ⟨fun pins s σ H Q I h => by
  have g : (s.heap.push { cls := .type "dict", data := .dict #[] }).get? s.heap.objs.size = some { cls := .type "dict", data := .dict #[] } := Heap.get?_push_size _ rfl
  have hm : (s.heap.objs.size == sysModules) = false := beq_eq_false_iff_ne.mpr (Nat.ne_of_gt I.big)
  exact wpAny_Dict_empty ⟨.ref s.heap.objs.size, _, I.laid (a := s.heap.objs.size) (o := .ext (rawD s.heap.objs.size #[] 0)) (t' := s.toks) (fun _ _ q => Heap.get?_push_of_some _ q) (Nat.le_refl _)
    ⟨⟨_, g, ⟨rfl, rfl, rfl⟩, rfl⟩, ⟨_, g⟩, fun _ _ ⟨o', q1, q2⟩ kk => ⟨o', kk _ q1, q2⟩⟩, rfl, h _ (I.hok.fresh (Nat.le_refl _)) hm⟩⟩
theorem KD.new {P : Program} {w : World} {H : Hp} {p : Addr} (h : H p = some (.ext (rawD p #[] 0))) (hm : (p == sysModules) = false) : KD P w H p [] :=
  ⟨List.nodup_nil, (fun x hx => nomatch hx), hm, Nat.zero_le _, #[], 0, [], h, rfl, .nil⟩
def atK (kvs : Kvs) (k : NestedKey) : Option V := (kvs.find? fun p => decide (p.1 = k)).map (·.2.2)
theorem find_rel {kvs : Kvs} {xs : List (NestedKey × Addr × Value)} (r : Paired rel kvs xs) (k : NestedKey) : (atK kvs k = none ∧ atKey xs k = none) ∨ ∃ v p, atK kvs k = some v ∧ atKey xs k = some p ∧ RelV v p.2 := by
  induction r with
  | nil => exact .inl ⟨rfl, rfl⟩
  | cons a r ih =>
    rename_i p x ps ys
    unfold atK atKey at *
    rw [List.find?_cons, List.find?_cons, ← a.1]
    by_cases e : p.1 = k
    · rw [decide_eq_true e]
      exact .inr ⟨_, _, rfl, rfl, a.2.2⟩
    · rw [decide_eq_false e]
      exact ih
section
variable {X : Cx}
/-- k in d -/
def rInK (P : Program) (w : World) : R2 := fun x y H Q => ∃ (a d : Addr) (k : NestedKey) (kvs : Kvs), x = .ref a ∧ y = .ref d ∧ KD P w H d kvs ∧ Nest H k (.ref a) ∧ k.depth ≤ 8 ∧ Q (.bl (atK kvs k).isSome) H
theorem op_inK (hu : X.A.units + 64 < cLine) : OpR X (compareOp .In) (rInK X.prog X.w) := by
  intro pins s σ H x y v u Q I rx ry h
  obtain ⟨a, d, k, kvs, rfl, rfl, kd, n, hk, q⟩ := h
  cases (show v = Value.ref a from rx)
  cases (show u = Value.ref d from ry)
  obtain ⟨xs, r, D⟩ := kd.heap I.hok
  refine wpAny_in_heap (knd := nestedKind X.prog X.w) (k := k) (by show X.A.units + 1 + 8 < cLine; omega) ⟨n.is I.hok rfl, hk⟩ kd.sys D ⟨.bl (atK kvs k).isSome, H, I.kept (t' := _) fun _ _ z => z, ?_, q⟩
  rcases find_rel r k with ⟨e1, e2⟩ | ⟨v, p, e1, e2, _⟩
  · rw [e1, e2]
    rfl
  · rw [e1, e2]
    rfl
end
def putKv (kvs : Kvs) (k : NestedKey) (a : Addr) (v : V) : Kvs := if (atK kvs k).isSome = true then kvs.map fun p => if p.1 = k then (p.1, p.2.1, v) else p else kvs ++ [(k, a, v)]
theorem paired_map {kvs : Kvs} {xs : List (NestedKey × Addr × Value)} {k : NestedKey} {v : V} {u : Value} (rv : RelV v u) (r : Paired rel kvs xs) : Paired rel (kvs.map fun p => if p.1 = k then (p.1, p.2.1, v) else p) (xs.map (putAt k u)) := by
  induction r with
  | nil => exact .nil
  | cons a _ ih =>
    rw [List.map_cons, List.map_cons]
    refine .cons ?_ ih
    unfold putAt
    rw [← a.1]
    split
    · exact ⟨rfl, a.2.1, rv⟩
    · exact a
theorem paired_snoc {kvs : Kvs} {xs : List (NestedKey × Addr × Value)} {p : NestedKey × Addr × V} {q : NestedKey × Addr × Value} (r : Paired rel kvs xs) (h : rel p q) : Paired rel (kvs ++ [p]) (xs ++ [q]) := by
  induction r with
  | nil => exact .cons h .nil
  | cons a _ ih => exact .cons a ih
theorem paired_put {kvs : Kvs} {xs : List (NestedKey × Addr × Value)} {k : NestedKey} {a : Addr} {v : V} {u : Value} (rv : RelV v u) (r : Paired rel kvs xs) : Paired rel (putKv kvs k a v) (storedH xs k a u) := by
  unfold putKv storedH
  rcases find_rel r k with ⟨e1, e2⟩ | ⟨v', p, e1, e2, _⟩
  · rw [e1, e2]
    exact paired_snoc r ⟨rfl, rfl, rv⟩
  · rw [e1, e2]
    exact paired_map rv r
theorem len_put (kvs : Kvs) (k : NestedKey) (a : Addr) (v : V) : (putKv kvs k a v).length ≤ kvs.length + 1 := by
  unfold putKv
  split
  · rw [List.length_map]
    exact Nat.le_succ _
  · rw [List.length_append, List.length_singleton]
    exact Nat.le_refl _
theorem mem_put {kvs : Kvs} {k : NestedKey} {a : Addr} {v : V} : ∀ p ∈ putKv kvs k a v, (∃ q ∈ kvs, q.1 = p.1 ∧ q.2.1 = p.2.1) ∨ (p.1 = k ∧ p.2.1 = a) := by
  intro p hp
  unfold putKv at hp
  split at hp
  · obtain ⟨q, hq, rfl⟩ := List.mem_map.mp hp
    refine .inl ⟨q, hq, ?_⟩
    split <;> exact ⟨rfl, rfl⟩
  · rcases List.mem_append.mp hp with hp | hp
    · exact .inl ⟨p, hp, rfl, rfl⟩
    · rw [List.mem_singleton.mp hp]
      exact .inr ⟨rfl, rfl⟩
section
variable {X : Cx}
/-- d[k] = v -/
def rSetK (P : Program) (w : World) : V → V → V → Hp → (Hp → Prop) → Prop := fun o i v H Q => ∃ (a d : Addr) (k : NestedKey) (kvs : Kvs), o = .ref d ∧ i = .ref a ∧ KD P w H d kvs ∧ Nest H k (.ref a) ∧ k.depth ≤ 8 ∧ kvs.length < 100000 ∧
  ∀ H', KD P w H' d (putKv kvs k a v) → (∀ b, b ≠ d → H' b = H b) → Q H'
theorem KD.mut {P : Program} {w : World} {H : Hp} {d : Addr} {kvs : Kvs} (k : KD P w H d kvs) : Mut (H d) ∧ ∀ xs, H d ≠ some (.tup xs) := by
  obtain ⟨es, ep, xs, q⟩ := k.ok
  rw [q.at_]
  exact ⟨trivial, fun xs z => nomatch z⟩
theorem set_K (hu : X.A.units + 64 < cLine) : PSet X (rSetK X.prog X.w) := by
  intro pins s σ H o i v ov iv u Q I ro ri rv h
  obtain ⟨a, d, k, kvs, rfl, rfl, kd, n, hk, hl, q⟩ := h
  cases (show ov = Value.ref d from ro)
  cases (show iv = Value.ref a from ri)
  obtain ⟨xs, r, D⟩ := kd.heap I.hok
  obtain ⟨hm, nt⟩ := kd.mut
  refine wpAny_setItem_heap (knd := nestedKind X.prog X.w) (k := k) (by show X.A.units + 1 + 8 < cLine; omega) ⟨n.is I.hok rfl, hk⟩ D (fun h' D' hs => ?_) (by rw [paired_len r]; exact Nat.le_trans (Nat.le_of_lt hl) (by decide))
  obtain ⟨ob, es, ep, h1, h2, h3, h4, h5, h6⟩ := D'
  have rp := paired_put (k := k) (a := a) rv r
  have e0 : ∀ b xs, H b = some (.tup xs) → upd H d (.ext (rawD d es ep)) b = some (.tup xs) := fun b xs e => by
    rw [upd_ne (fun z => nt xs (by rw [← z]; exact e))]
    exact e
  refine ⟨upd H d (.ext (rawD d es ep)), d_write I hm hs ⟨ob, h1⟩ ⟨⟨ob, h1, h2, h3⟩, ⟨ob, h1⟩, fun _ _ ⟨o', q1, q2⟩ kk => ⟨o', kk _ q1, q2⟩⟩, q _ ⟨?_, fun p hp => ?_, kd.sys, ?_, es, ep, _, upd_same, h4, rp⟩ fun b hb => upd_ne hb⟩
  · rw [← paired_fst rp]
    exact h6
  · rcases mem_put p hp with ⟨p', hp', e1, e2⟩ | ⟨e1, e2⟩
    · rw [← e1, ← e2]
      exact ⟨(kd.key p' hp').1.keep e0, (kd.key p' hp').2⟩
    · rw [e1, e2]
      exact ⟨n.keep e0, hk⟩
  · have := len_put kvs k a v
    omega
/-- d[k] -/
def rIxK (P : Program) (w : World) : R2 := fun x y H Q => ∃ (a d : Addr) (k : NestedKey) (kvs : Kvs) (v : V), x = .ref d ∧ y = .ref a ∧ KD P w H d kvs ∧ Nest H k (.ref a) ∧ k.depth ≤ 8 ∧ atK kvs k = some v ∧ Q v H
theorem ix_K (hu : X.A.units + 64 < cLine) : IxR X (rIxK X.prog X.w) := by
  intro value slice pins s σ H x y v u Q I rx ry h hs
  obtain ⟨a, d, k, kvs, r, rfl, rfl, kd, n, hk, e, q⟩ := h
  cases (show v = Value.ref d from rx)
  cases (show u = Value.ref a from ry)
  obtain ⟨xs, rr, D⟩ := kd.heap I.hok
  rcases find_rel rr k with ⟨e1, _⟩ | ⟨v', p, e1, e2, rv⟩
  · rw [e] at e1
    cases e1
  · rw [e] at e1
    cases e1
    exact tail_any D.typeIs PySem.F.slot_dict_getitem.lookup (wpAny_getItem_heap (knd := nestedKind X.prog X.w) (k := k) (by show X.A.units + 1 + 8 < cLine; omega) ⟨n.is I.hok rfl, hk⟩ D e2 ⟨r, H, I.kept (t' := _) fun _ _ z => z, rv, q⟩) hs
/-- k not in d -/
def rNinK (P : Program) (w : World) : R2 := fun x y H Q => ∃ (a d : Addr) (k : NestedKey) (kvs : Kvs), x = .ref a ∧ y = .ref d ∧ KD P w H d kvs ∧ Nest H k (.ref a) ∧ k.depth ≤ 8 ∧ Q (.bl !(atK kvs k).isSome) H
theorem op_ninK (hu : X.A.units + 64 < cLine) : OpR X (compareOp .NotIn) (rNinK X.prog X.w) := by
  intro pins s σ H x y v u Q I rx ry h
  obtain ⟨a, d, k, kvs, rfl, rfl, kd, n, hk, q⟩ := h
  cases (show v = Value.ref a from rx)
  cases (show u = Value.ref d from ry)
  obtain ⟨xs, r, D⟩ := kd.heap I.hok
  refine PyProof.Rows.wpAny_notIn_heap (knd := nestedKind X.prog X.w) (k := k) (by show X.A.units + 1 + 8 < cLine; omega) ⟨n.is I.hok rfl, hk⟩ kd.sys D ⟨.bl (!(atK kvs k).isSome), H, I.kept (t' := _) fun _ _ z => z, ?_, q⟩
  rcases find_rel r k with ⟨e1, e2⟩ | ⟨v, p, e1, e2, _⟩
  · rw [e1, e2]
    rfl
  · rw [e1, e2]
    rfl
end
end Kd

set_option Elab.async false
set_option linter.all false
set_option maxRecDepth 100000
set_option maxHeartbeats 4000000
/-! tuple[::-1]; list.extend of a tuple. -/
namespace Kt
open PySem PySem.Spec PyProof.Rows L2
theorem fm_congr {α β : Type} {f g : α → Option β} : ∀ {l : List α}, (∀ x ∈ l, f x = g x) → l.filterMap f = l.filterMap g
  | [], _ => rfl
  | x :: l, h => by
    rw [List.filterMap_cons, List.filterMap_cons, h x (List.mem_cons_self ..), fm_congr fun y hy => h y (List.mem_cons_of_mem _ hy)]
theorem places_rev (n : Nat) : Builtin.Slice.slicePlaces ((n : Int) - 1) (-1) (-1) = n := by
  unfold Builtin.Slice.slicePlaces
  rw [if_neg (by decide)]
  by_cases h : (n : Int) - 1 > -1
  · rw [if_pos h, show (-(-1) : Int) = 1 by decide, Int.ediv_one]
    omega
  · rw [if_neg h]
    omega
theorem pick_rev {α : Type} (xs : Array α) : ((List.range xs.size).filterMap fun (m : Nat) => xs[(((xs.size : Int) - 1) + (m : Int) * (-1)).toNat]?).toArray = xs.toList.reverse.toArray := by
  have h1 : ((List.range xs.size).map fun k => xs.size - 1 - k).filterMap (xs[·]?) = xs.toList.reverse := by
    rw [PySem.W.krv_range, List.filterMap_reverse, PySem.W.krv_all]
  rw [List.filterMap_map] at h1
  rw [← h1]
  congr 1
  refine fm_congr fun k hk => ?_
  have := List.mem_range.mp hk
  show xs[(((xs.size : Int) - 1) + (k : Int) * (-1)).toNat]? = xs[xs.size - 1 - k]?
  rw [show (((xs.size : Int) - 1) + (k : Int) * (-1)).toNat = xs.size - 1 - k by omega]
section
variable {prog : Program} {w : World} {A : Around} {E : Value → Shared → Prop} {s : Shared}
theorem sliceApplied_rev {sl : Addr} {vl vu vs : Value} {n : Nat} {Q : Int × Int × Nat → Shared → Prop} (hs : s.heap.IsSliceOf sl vl vu vs) (pl : IsPart vl none) (pu : IsPart vu none) (ps : IsPart vs (some (-1)))
    (h : Q ((n : Int) - 1, -1, n) s) : wpAny (model prog w) A (Builtin.Slice.sliceApplied (.ref sl) (pure (n : Int))) Q E s := by
  obtain ⟨os, hos, hcs, hds⟩ := id hs
  unfold Builtin.Slice.sliceApplied Builtin.Slice.sliceFields
  refine wpAny_bind (wpAny_bind (wpAny_field hos hds (x := vl) rfl (wpAny_bind (wpAny_field hos hds (x := vu) rfl (wpAny_bind (wpAny_field hos hds (x := vs) rfl (wpAny_pure ?_)))))))
  refine wpAny_bind (HT.slicePart_ ps ?_)
  show wpAny _ _ (if ((-1 : Int) == 0) = true then _ else _) _ _ s
  rw [if_neg (by decide)]
  refine wpAny_bind (HT.slicePart_ pl (wpAny_bind (HT.slicePart_ pu (wpAny_bind (wpAny_pure ?_)))))
  show wpAny _ _ (pure ((n : Int) - 1, (-1 : Int), Builtin.Slice.slicePlaces ((n : Int) - 1) (-1) (-1))) _ _ s
  rw [places_rev]
  exact wpAny_pure h
theorem getItem_tuple_rev {t sl : Addr} {items : Array Value} {vl vu vs : Value} {Q : Value → Shared → Prop} (ht : IsTup s.heap t items) (hs : s.heap.IsSliceOf sl vl vu vs) (pl : IsPart vl none) (pu : IsPart vu none) (ps : IsPart vs (some (-1)))
    (h : Q (.ref s.heap.objs.size) { s with heap := s.heap.push { cls := .type "tuple", data := .seq items.toList.reverse.toArray } })
    (hsz : items.size ≤ sizeLine) : wpAny (model prog w) A (getItem (.ref t) (.ref sl)) Q E s := by
  have htake : sizeOk (.seq items.toList.reverse.toArray) := by
    show items.toList.reverse.toArray.size ≤ sizeLine
    rw [List.size_toArray, List.length_reverse, Array.length_toList]
    exact hsz
  obtain ⟨os, hos, hcs, hds⟩ := id hs
  have hTs : s.TypeIs (.ref sl) "slice" := ⟨os, hos, hcs⟩
  unfold getItem
  try with_reducible refine wpAny_holding ?_
  first | refine wpAny_bind (wpAny_pure ?_) | skip
  refine wpAny_bind (wpAny_sequenceKey ht.typeIs (by decide) ?_)
  refine wpAny_bind (wpAny_callSpecial?_slot (name := Str.ofString "__getitem__") ht.typeIs PyProof.Rows.slot_tuple_getitem
    (wpAny_call_entry PyProof.Rows.slot_tuple_getitem ht.typeIs PySem.F.entry_tuple_getitem ?_ (PySem.F.args_tuple_getitem_2 _ _)))
  show wpAny _ _ (Builtin.Tuple.tupleItemsOf (.ref t) >>= _) _ _ s
  refine wpAny_bind (tupleItemsOf_ ht ?_)
  refine wpAny_bind (wpAny_typeOf hTs ?_)
  rw [if_pos (by decide)]
  refine wpAny_bind (sliceApplied_rev hs pl pu ps ?_)
  have hno : ¬ ((((items.size : Int) - 1) == 0 && (-1 : Int) == 1 && items.size == items.size) = true) := by
    intro q
    rw [Bool.and_eq_true, Bool.and_eq_true] at q
    exact absurd q.1.2 (by decide)
  show wpAny _ _ (if ((((items.size : Int) - 1) == 0 && (-1 : Int) == 1 && items.size == items.size) = true) then _ else _) _ _ s
  rw [if_neg hno, pick_rev]
  first
    | exact wpAny_bind (m := Builtin.Tuple.tupleExact _) (wpAny_newObj_type (wpAny_pure ⟨_, rfl, wpAny_pure h⟩) htake)
    | exact wpAny_bind (m := Builtin.Tuple.tupleExact _) (wpAny_newObj_type (wpAny_bind (wpAny_pure (wpAny_pure ⟨_, rfl, wpAny_pure h⟩))) htake)
    | exact wpAny_bind (wpAny_bind (m := Builtin.Tuple.tupleExact _) (wpAny_newObj_type (wpAny_pure (wpAny_pure ⟨_, rfl, wpAny_pure h⟩)) htake))
    | exact wpAny_bind (wpAny_bind (m := Builtin.Tuple.tupleExact _) (wpAny_newObj_type (wpAny_pure ⟨_, rfl, wpAny_pure h⟩) htake))
end
section
variable {X : Cx}
def tRevT (K : PySem.W.Frag) (te : TE) : TE := fun σ H Q => te σ H fun x H1 => ∃ a xs, x = .ref a ∧ SqT K H1 a xs ∧ ∀ p, H1 p = none → Q (.ref p) (upd H1 p (.tup xs.reverse))
theorem pe_revT {e : Expr} {te : TE} {k : Nat} {p1 p2 p3 pos : Pos} (he : PE X e te) : PE X (.Subscript e (.Slice none none (some (.UnaryOp .USub (.Constant (.int 1) k p1) p2)) p3) pos) (tRevT X.K te) := by
  refine ⟨fun pins s σ H Q I h => ?_⟩
  refine Subscript_ (thn (he.run pins s σ H _ I h) fun v s1 ⟨x, H1, I1, r1, q1⟩ => ?_)
  obtain ⟨a, xs, ex, hx, q⟩ := q1
  subst ex
  cases r1
  have hst : PO X (some (.UnaryOp .USub (.Constant (.int 1) k p1) p2)) (tPart (tUn (rU fun i => .int (-i)) (tC (.int 1)))) := po_some (pe_un un_neg pe_int)
  refine wpAny_Slice (thn (po_none.run pins s1 σ H1 (fun o H2 => o = none ∧ H2 = H1) I1 ⟨rfl, rfl⟩) fun vl s2 ⟨l, H2, I2, pl, el, e2⟩ => ?_)
  subst el e2
  refine thn (po_none.run pins s2 σ H2 (fun o H3 => o = none ∧ H3 = H2) I2 ⟨rfl, rfl⟩) fun vu s3 ⟨u, H3, I3, pu, eu, e3⟩ => ?_
  subst eu e3
  refine thn (hst.run pins s3 σ H3 (fun o H4 => o = some (-1) ∧ H4 = H3) I3 ⟨1, rfl, -1, rfl, rfl, rfl⟩) fun vs s4 ⟨o, H4, I4, ps, eo, e4⟩ => ?_
  subst eo e4
  have I5 : Inv X pins σ H4 { s4 with heap := s4.heap.push { cls := .type "slice", data := .fields #[vl, vu, vs] } } := I4.kept (t' := s4.toks) fun b ob q => Heap.get?_push_of_some _ q
  obtain ⟨its, r, ht, hz⟩ := I5.tuple hx
  have hlen := r.length
  show wpAny (model X.prog X.w) X.A (subscriptTail e (.Slice none none (some (.UnaryOp .USub (.Constant (.int 1) k p1) p2)) p3) (.ref a) (.ref s4.heap.objs.size)) (EP X pins σ Q) X.xe { s4 with heap := s4.heap.push { cls := .type "slice", data := .fields #[vl, vu, vs] } }
  refine tail_any (ops := [.ref a, .ref s4.heap.objs.size]) ht.typeIs (PyProof.Rows.slot_tuple_getitem.lookup) ?_ (by with_unfolding_all rfl)
  refine getItem_tuple_rev ht (Heap.IsSliceOf.new _ vl vu vs) pl pu ps ?_ (by rw [List.size_toArray]; omega)
  refine ⟨.ref _, _, I5.laid (t' := s4.toks) (o := .tup xs.reverse) (fun b ob q => Heap.get?_push_of_some _ q) (Nat.le_refl _) ?_, rfl, q _ (I5.hok.fresh (Nat.le_refl _))⟩
  exact ⟨by rw [List.length_reverse]; exact hz, _, r.reverse, IsTup.new _ _⟩
theorem extT (l : Addr) (items : Array Value) (n : Nat) (b : Addr) (items2 : Array Value) (n2 : Nat) (dct : Option Addr) (sl2 : Array (Option Value)) (hs0 : ¬(!items.isEmpty && Builtin.List.listTooLong (items.size + items2.size)) = true) (hs1 : items.size ≤ sizeLine) (hs2 : items.size + items2.size ≤ sizeLine + 1) :
    Meets (Builtin.«list.extend» ⟨[.ref l, .ref b], []⟩) (fun _ R s => s.heap.get? l = some { cls := .type "list", dict := none, data := .seq items n, slots := #[] } ∧ s.heap.get? b = some { cls := .type "tuple", dict := dct, data := .seq items2 n2, slots := sl2 } ∧ R (.ok (.ret Value.none)) { s with heap := s.heap.update l (Obj.mapSeq fun x => x ++ items2), toks := s.toks }) :=
  .of_wp fun prog w A R s h => by
    obtain ⟨hp, g, d, tk, os⟩ := s; obtain ⟨hl, hb, h⟩ := h; have f1 := AutoSeq1.idx_int; have f2 := AutoSeq1.sub_tuple_tuple; have f3 := AutoSeq1.sub_list_list; have f4 := AutoSeq1.sub_tuple_list; have f5 := AutoSeq1.sub_list_tuple;
    have hz' : (items ++ items2).size ≤ sizeLine + 1 := by rw [Array.size_append]; exact hs2
    wp_walk using (wpAny_updateSeq hl rfl (hz := hs1) (_hz' := hz')), AutoSeq1.wpAny_loadPart' hl, AutoSeq1.wpAny_loadPart' hb; exact ⟨_, rfl, h⟩
def rExtendT (K : PySem.W.Frag) : V → List V → Hp → VK → Prop := fun x vs H Q => ∃ l b xs zs, x = .ref l ∧ vs = [.ref b] ∧ H l = some (.lst xs) ∧ SqT K H b zs ∧ xs.length + zs.length ≤ sizeLine ∧ Q .non (upd H l (.lst (xs ++ zs)))
theorem mt_extendT : MtM X "list.extend" (rExtendT X.K) := by
  intro pins s σ H x vs v us Q I rx rv h
  obtain ⟨l, b, xs, zs, rfl, rfl, hH, hB, hz, q⟩ := h
  cases rx
  obtain ⟨u, rfl, ru⟩ := rv.one
  cases ru
  obtain ⟨z, its, n, r, hl, e⟩ := I.lstM hH
  obtain ⟨its2, r2, e2, hz2⟩ := I.tuple hB
  have l2 := r2.length
  have hsz : its.toArray.size + its2.toArray.size ≤ sizeLine := by rw [List.size_toArray, List.size_toArray]; omega
  have hlong : ¬ (!its.toArray.isEmpty && Builtin.List.listTooLong (its.toArray.size + its2.toArray.size)) = true := by
    rw [notLongL hsz, Bool.and_false]
    exact Bool.false_ne_true
  obtain ⟨⟨c2, dct, dat, sl2⟩, e2, hc2, n2, hd2⟩ := e2
  simp only at hc2 hd2
  subst hc2 hd2
  refine call_meets PySem.F.slot_list_extend ⟨_, e, rfl⟩ PySem.F.entry_list_extend (PySem.F.args_list_extend_2 _ _)
    (extT l its.toArray n b its2.toArray n2 dct sl2 hlong (by rw [List.size_toArray]; omega) (by omega)) ⟨e, e2, ?_⟩
  refine ⟨.non, _, I.lset (its' := its ++ its2) hH e (by simp) (r.append r2) ?_, rfl, q⟩
  rw [List.length_append]
  omega
/-- name = {k: v for ..} on one line, the name a local -/
theorem ps_setDc {i : Nat} {y : Str} {py : Pos} {kx vx tg iter : Expr} {ifs : List Expr} {scope : Scope} {own : List (Str × Nat)} {pos spos : Pos} {wi : TI} {g : TG} {tt : TT} {tk tv : TE} (hc : X.calm = true) (hN : X.N.Nodup) (hy : X.N[i]? = some y) (hyl : X.env.scope.names.lookup y = some .local)
    (hsw : swapsWith (.DictComp kx vx [⟨tg, iter, ifs, 0⟩] scope pos) (some (.Name y py)) spos.line X.env = pure true) (hi : PI X tg iter wi) (ok : BlkOk X.N X.env.scope scope own)
    (hg : ∀ (s : Shared) (H : Hp) (C : Addr) (cl : List (Str × Addr)) (fp : List Addr), PG (X.blk s H scope (compEnvC scope cl C X.env) fp) tg g) (ht : ∀ (s : Shared) (H : Hp) (C : Addr) (cl : List (Str × Addr)) (fp : List Addr), PTs (X.blk s H scope (compEnvC scope cl C X.env) fp) ifs tt)
    (hk : ∀ (s : Shared) (H : Hp) (C : Addr) (cl : List (Str × Addr)) (fp : List Addr), PE (X.blk s H scope (compEnvC scope cl C X.env) fp) kx tk)
    (he : ∀ (s : Shared) (H : Hp) (C : Addr) (cl : List (Str × Addr)) (fp : List Addr), PE (X.blk s H scope (compEnvC scope cl C X.env) fp) vx tv) (hs : ∀ x, foldedSetIterable iter X.env x = pure x := by intro _; rfl) :
    PS X (.Assign [.Name y py] (.DictComp kx vx [⟨tg, iter, ifs, 0⟩] scope pos) spos) (tAsg (tDc wi g tt tk tv (own.map (·.2))) (gName i)) := by
  refine ⟨fun pins s σ H D I h => ?_⟩
  rw [exec_Assign_Name_used _ _ _ _ hsw]
  refine wpAny_bind (wpAny_standAt (wpAny_bind ?_))
  show wpAny _ X.A (do let _ ← comprehension (.DictComp kx vx [⟨tg, iter, ifs, 0⟩] scope pos) scope X.env (firstIterPos [⟨tg, iter, ifs, 0⟩] pos) newDict false (eval iter X.env) (some (assign (.Name y py) X.env))) _ _ s
  have h : tDc wi g tt tk tv (own.map (·.2)) σ H (fun x H1 => gName i x σ H1 D.nx) := h
  refine wpAny_bind (thn (dc_core (Qf := fun _ s' => SP X pins D .next s') hc hN I hi ok hg ht hk he hs h fun L C s' m H' I' q hn f => ?_) fun _ s' hq => wpAny_pure (wpAny_pure hq))
  show wpAny _ _ (assign (.Name y py) X.env (.ref L)) _ _ _
  refine wpAny_assign_Name (store_ok2 (v := V.ref L) I' hN hy (.inl hyl) rfl (fun s2 I2 ⟨a, sb, ha⟩ => ?_) (.inr hyl))
  obtain ⟨f0, f1, f2, f3, f4, f5⟩ := f
  have haC : C ≠ a := by
    rcases ha with z | z
    · rw [z]; exact f1
    · exact fun e => f4 y a z e.symm
  refine ⟨m, hn.sameBut sb haC, fun h3 sb3 => ?_⟩
  exact ⟨_, H', I2.turned (t' := s2.toks) (fun b o hb e => (sb3.2 b hb).trans e) f0 f1 f3 f4 f5, q⟩
theorem swD_true {kx vx : Expr} {gs : List Comprehension} {scope : Scope} {pos py : Pos} {y : Str} {l : Nat} {env : Env} (hk : env.scope.kind = .function) (hy : env.scope.names.lookup y = some .local) (hl : (py.line == pos.line) = true)
    (ha : (scope.names.any fun (n, k) => n == y && (k == .local || k == .cell)) = false) : swapsWith (.DictComp kx vx gs scope pos) (some (.Name y py)) l env = pure true := by
  have ky : env.kindOf y = some .local := hy
  have hb : env.blockKind = .function := by unfold Env.blockKind; rw [hk]; rfl
  unfold swapsWith
  simp only [hb, ky, ha, Expr.pos, hl]
  rfl
end
end Kt

set_option Elab.async false
set_option linter.all false
set_option maxRecDepth 100000
set_option maxHeartbeats 4000000
/-! A play: what stands, value_now, store. -/
namespace K1
open PySem PySem.Spec PyProof.Rows L2 Kx Kd
abbrev sPIn : Stmt := inClass (top 16) 0
abbrev sGo : Stmt := inClass (top 16) 1
abbrev sPerf : Stmt := inClass (top 16) 2
abbrev sVN : Stmt := inClass (top 16) 3
abbrev sStore : Stmt := inClass (top 16) 4
abbrev sAsk : Stmt := inClass (top 16) 5
abbrev sBeh : Stmt := inClass (top 16) 6
/-- what a play is, as data -/
structure Pl where
  st : List (Str × Int)
  paid : Int
  e1 : List NestedKey
  e2 : List NestedKey
  todo : List Sm
def setS (st : List (Str × Int)) (x : Str) (v : Int) : List (Str × Int) := st.map fun p => if p.1 = x then (p.1, v) else p
theorem setS_keys (st : List (Str × Int)) (x : Str) (v : Int) : (setS st x v).map (·.1) = st.map (·.1) := by
  unfold setS
  rw [List.map_map]
  refine List.map_congr_left fun p _ => ?_
  show (if p.1 = x then (p.1, v) else p).1 = p.1
  split <;> rfl
theorem stK_put {st : List (Str × Int)} {x : Str} (v : Int) (h : x ∈ st.map (·.1)) : putK (stK st) (Sum.inr x) (V.int v) = stK (setS st x v) := by
  unfold putK
  have ha : ((stK st).any fun kv => decide (kv.1 = Sum.inr x)) = true := by
    obtain ⟨p, hp, e⟩ := List.mem_map.mp h
    exact List.any_eq_true.mpr ⟨(Sum.inr p.1, V.int p.2), List.mem_map.mpr ⟨p, hp, rfl⟩, decide_eq_true (by rw [e])⟩
  rw [if_pos ha]
  unfold stK setS
  rw [List.map_map, List.map_map]
  refine List.map_congr_left fun p _ => ?_
  show (if (Sum.inr p.1 : L2.Key) = Sum.inr x then ((Sum.inr p.1 : L2.Key), V.int v) else (Sum.inr p.1, V.int p.2)) = (Sum.inr (if p.1 = x then (p.1, v) else p).1, V.int (if p.1 = x then (p.1, v) else p).2)
  by_cases e : p.1 = x
  · rw [if_pos (by rw [e]), if_pos e]
  · rw [if_neg fun q => e (Sum.inr.inj q), if_neg e]
theorem setS_ok {ns : List Str} {st : List (Str × Int)} (h : StOk ns st) {x : Str} {v : Int} (hv : Sml v) : StOk ns (setS st x v) := by
  refine ⟨by rw [setS_keys]; exact h.1, fun p hp => ?_⟩
  unfold setS at hp
  obtain ⟨q, hq, rfl⟩ := List.mem_map.mp hp
  split
  · exact hv
  · exact h.2 q hq
/-- the variables' sizes -/
structure SzOk (ns : List Str) (xs : List (Str × Int)) : Prop where
  keys : xs.map (·.1) = ns
  sz : ∀ p ∈ xs, 1 ≤ p.2 ∧ p.2 ≤ 65535
  few : ns.length ≤ 5
def sizeOf (xs : List (Str × Int)) (x : Str) : Int := (look xs x).getD 1
theorem SzOk.pos {ns : List Str} {xs : List (Str × Int)} (h : SzOk ns xs) {x : Str} (hx : x ∈ ns) : ∃ v, look xs x = some v ∧ 1 ≤ v ∧ v ≤ 65535 := by
  rw [← h.keys] at hx
  obtain ⟨v, h1, h2⟩ := look_in hx
  exact ⟨v, h1, h.sz _ h2⟩
def stP (xs : List (Str × Int)) (pl : Pl) (x : Str) (v : Int) : Pl := { pl with st := setS pl.st x (v % sizeOf xs x) }
/-! ### the object -/
def pfs (sz so : Addr) (paid : Int) (sn td : Addr) : List (Str × V) := [("sizes", .ref sz), ("stored", .ref so), ("paid", .int paid), ("seen", .ref sn), ("todo", .ref td)]
def seK (l1 l2 : Addr) : List (L2.Key × V) := [(Sum.inr "chooser", .ref l1), (Sum.inr "comer", .ref l2)]
section
variable (sz so sn td : Addr) (i y : Int)
theorem pfs_sz : (pfs sz so i sn td).lookup ("sizes" : Str) = some (.ref sz) := by
  unfold pfs
  rw [lookup_put, if_pos rfl]
theorem pfs_so : (pfs sz so i sn td).lookup ("stored" : Str) = some (.ref so) := by
  unfold pfs
  rw [lookup_put, if_neg (by decide +kernel), lookup_put, if_pos rfl]
theorem pfs_pd : (pfs sz so i sn td).lookup ("paid" : Str) = some (.int i) := by
  unfold pfs
  rw [lookup_put, if_neg (by decide +kernel), lookup_put, if_neg (by decide +kernel), lookup_put, if_pos rfl]
theorem pfs_sn : (pfs sz so i sn td).lookup ("seen" : Str) = some (.ref sn) := by
  unfold pfs
  rw [lookup_put, if_neg (by decide +kernel), lookup_put, if_neg (by decide +kernel), lookup_put, if_neg (by decide +kernel), lookup_put, if_pos rfl]
theorem pfs_td : (pfs sz so i sn td).lookup ("todo" : Str) = some (.ref td) := by
  unfold pfs
  rw [lookup_put, if_neg (by decide +kernel), lookup_put, if_neg (by decide +kernel), lookup_put, if_neg (by decide +kernel), lookup_put, if_neg (by decide +kernel), lookup_put, if_pos rfl]
theorem pfs_put : putF "paid" (.int y) (pfs sz so i sn td) = pfs sz so y sn td := by
  unfold pfs
  simp only [putF]
  rw [if_neg (by decide +kernel), if_neg (by decide +kernel), if_pos True.intro]
theorem pfs_no {f : Str} (h1 : ¬ f = "sizes") (h2 : ¬ f = "stored") (h3 : ¬ f = "paid") (h4 : ¬ f = "seen") (h5 : ¬ f = "todo") : (pfs sz so i sn td).lookup f = none := by
  unfold pfs
  rw [lookup_put, if_neg h1, lookup_put, if_neg h2, lookup_put, if_neg h3, lookup_put, if_neg h4, lookup_put, if_neg h5]
  rfl
theorem pfs_len : (pfs sz so i sn td).length = 5 := rfl
end
/-- where a play's parts lie -/
structure Pad where
  p : Addr
  dx : Addr
  sz : Addr
  so : Addr
  sn : Addr
  td : Addr
  l1 : Addr
  l2 : Addr
structure PlayAt (C : Addr) (H : Hp) (A : Pad) (ns : List Str) (xs : List (Str × Int)) (pl : Pl) : Prop where
  ob : H A.p = some (.ins C A.dx (pfs A.sz A.so pl.paid A.sn A.td))
  hz : H A.sz = some (.dK (stK xs))
  hs : H A.so = some (.dK (stK pl.st))
  hn : H A.sn = some (.dK (seK A.l1 A.l2))
  h1 : ∃ us, H A.l1 = some (.lst us) ∧ NestL H pl.e1 us ∧ us.length ≤ 100000
  h2 : ∃ us, H A.l2 = some (.lst us) ∧ NestL H pl.e2 us ∧ us.length ≤ 100000
  ht : ∃ us, H A.td = some (.lst us) ∧ DtAll H us (pl.todo.reverse.map Sm.d) ∧ us.length ≤ 100000
  n1 : A.sz ≠ A.so
  n2 : A.so ≠ A.sn
  n3 : A.l1 ≠ A.l2
  n4 : A.l1 ≠ A.td
  n5 : A.l2 ≠ A.td
  n6 : A.sz ≠ A.sn
  ok : StOk ns pl.st
  zk : SzOk ns xs
/-- all but a play's own parts is as it was -/
def Fr (A : Pad) (H H' : Hp) : Prop := ∀ b o, H b = some o → b ≠ A.p → b ≠ A.so → b ≠ A.td → b ≠ A.l1 → b ≠ A.l2 → H' b = some o
theorem Fr.refl (A : Pad) (H : Hp) : Fr A H H := fun _ _ e _ _ _ _ _ => e
theorem Fr.trans {A : Pad} {H H1 H2 : Hp} (a : Fr A H H1) (b : Fr A H1 H2) : Fr A H H2 := fun c o e h1 h2 h3 h4 h5 => b c o (a c o e h1 h2 h3 h4 h5) h1 h2 h3 h4 h5
theorem Fr.same {A : Pad} {H H' : Hp} (s : Same H H') : Fr A H H' := fun b o e _ _ _ _ _ => s b o e
/-- nothing is lost -/
def Dm (H H' : Hp) : Prop := ∀ b, H' b = none → H b = none
theorem Dm.trans {H H1 H2 : Hp} (a : Dm H H1) (b : Dm H1 H2) : Dm H H2 := fun c h => a c (b c h)
theorem Dm.same {H H' : Hp} (s : Same H H') : Dm H H' := fun b h => s.free h
theorem Dm.upd {H : Hp} {l : Addr} {o : HO} : Dm H (L2.upd H l o) := fun b h => by
  by_cases q : b = l
  · rw [q, upd_same] at h
    cases h
  · rw [upd_ne q] at h
    exact h
/-- tuples stay -/
theorem nestL_tk {H H' : Hp} (t : Tk H H') {ks : List NestedKey} {us : List V} (h : NestL H ks us) : NestL H' ks us := h.keep t
section
variable {C : Addr} {H H' : Hp} {A : Pad} {ns : List Str} {xs : List (Str × Int)} {pl : Pl}
theorem PlayAt.same (h : PlayAt C H A ns xs pl) (s : Same H H') : PlayAt C H' A ns xs pl := by
  obtain ⟨u1, a1, b1, c1⟩ := h.h1
  obtain ⟨u2, a2, b2, c2⟩ := h.h2
  obtain ⟨u3, a3, b3, c3⟩ := h.ht
  exact ⟨s _ _ h.ob, s _ _ h.hz, s _ _ h.hs, s _ _ h.hn, ⟨u1, s _ _ a1, nestL_tk (Tk.same s) b1, c1⟩, ⟨u2, s _ _ a2, nestL_tk (Tk.same s) b2, c2⟩, ⟨u3, s _ _ a3, b3.keep (Tk.same s), c3⟩, h.n1, h.n2, h.n3, h.n4, h.n5, h.n6, h.ok, h.zk⟩
/-- what is stored changes -/
theorem PlayAt.putS (h : PlayAt C H A ns xs pl) {st : List (Str × Int)} (hs : StOk ns st) : PlayAt C (upd H A.so (.dK (stK st))) A ns xs { pl with st := st } ∧ Fr A H (upd H A.so (.dK (stK st))) := by
  obtain ⟨u1, a1, b1, c1⟩ := h.h1
  obtain ⟨u2, a2, b2, c2⟩ := h.h2
  obtain ⟨u3, a3, b3, c3⟩ := h.ht
  have nt : ∀ {b o}, H b = some o → (∀ k, o ≠ .dK k) → b ≠ A.so := fun {b o} e hn q => by
    rw [q, h.hs] at e
    cases e
    exact hn _ rfl
  have tk : Tk H (upd H A.so (.dK (stK st))) := fun a ys e => by
    rw [upd_ne (nt e fun k z => by cases z)]
    exact e
  refine ⟨⟨?_, ?_, upd_same, ?_, ⟨u1, ?_, nestL_tk tk b1, c1⟩, ⟨u2, ?_, nestL_tk tk b2, c2⟩, ⟨u3, ?_, b3.keep tk, c3⟩, h.n1, h.n2, h.n3, h.n4, h.n5, h.n6, hs, h.zk⟩, fun b o e _ hb _ _ _ => by rw [upd_ne hb]; exact e⟩
  · rw [upd_ne (nt h.ob fun k z => by cases z)]
    exact h.ob
  · rw [upd_ne h.n1]
    exact h.hz
  · rw [upd_ne h.n2.symm]
    exact h.hn
  · rw [upd_ne (nt a1 fun k z => by cases z)]
    exact a1
  · rw [upd_ne (nt a2 fun k z => by cases z)]
    exact a2
  · rw [upd_ne (nt a3 fun k z => by cases z)]
    exact a3
/-- the sum that is paid changes -/
theorem PlayAt.putP (h : PlayAt C H A ns xs pl) (y : Int) : PlayAt C (upd H A.p (.ins C A.dx (pfs A.sz A.so y A.sn A.td))) A ns xs { pl with paid := y } ∧ Fr A H (upd H A.p (.ins C A.dx (pfs A.sz A.so y A.sn A.td))) := by
  obtain ⟨u1, a1, b1, c1⟩ := h.h1
  obtain ⟨u2, a2, b2, c2⟩ := h.h2
  obtain ⟨u3, a3, b3, c3⟩ := h.ht
  have nt : ∀ {b o}, H b = some o → (∀ D d k, o ≠ .ins D d k) → b ≠ A.p := fun {b o} e hn q => by
    rw [q, h.ob] at e
    cases e
    exact hn _ _ _ rfl
  have tk : Tk H (upd H A.p (.ins C A.dx (pfs A.sz A.so y A.sn A.td))) := fun a ys e => by
    rw [upd_ne (nt e fun _ _ _ z => by cases z)]
    exact e
  have st : ∀ {b o}, H b = some o → (∀ D d k, o ≠ .ins D d k) → upd H A.p (.ins C A.dx (pfs A.sz A.so y A.sn A.td)) b = some o := fun {b o} e hn => by
    rw [upd_ne (nt e hn)]
    exact e
  exact ⟨⟨upd_same, st h.hz (fun _ _ _ z => by cases z), st h.hs (fun _ _ _ z => by cases z), st h.hn (fun _ _ _ z => by cases z), ⟨u1, st a1 (fun _ _ _ z => by cases z), nestL_tk tk b1, c1⟩, ⟨u2, st a2 (fun _ _ _ z => by cases z), nestL_tk tk b2, c2⟩, ⟨u3, st a3 (fun _ _ _ z => by cases z), b3.keep tk, c3⟩, h.n1, h.n2, h.n3, h.n4, h.n5, h.n6, h.ok, h.zk⟩, fun b o e hb _ _ _ _ => by rw [upd_ne hb]; exact e⟩
end
theorem nf {m : Str} (h : (decide (m = "sizes") || decide (m = "stored") || decide (m = "paid") || decide (m = "seen") || decide (m = "todo")) = false) (sz so sn td : Addr) (i : Int) : (pfs sz so i sn td).lookup m = none := by
  simp only [Bool.or_eq_false_iff, decide_eq_false_iff_not] at h
  exact pfs_no _ _ _ _ _ h.1.1.1.1 h.1.1.1.2 h.1.1.2 h.1.2 h.2
structure TxPl (K : PySem.W.Frag) (mg : Str → Option Value) (C : Addr) : Prop where
  cl : Cls K C
  n1 : NoAttr K C "sizes"
  n2 : NoAttr K C "stored"
  n3 : NoAttr K C "paid"
  n4 : NoAttr K C "seen"
  n5 : NoAttr K C "todo"
  mgC : mg "Play" = some (.ref C)
def spVN (C : Addr) : Sp := fun vs H Q _ => ∃ (A : Pad) (ns : List Str) (xs : List (Str × Int)) (pl : Pl) (v : V) (e : Ex), vs = [.ref A.p, v] ∧ PlayAt C H A ns xs pl ∧ Dt H v e.d ∧ e.vl ns 5 ∧ Q (.int (evE pl.st e)) H
def spStore (C : Addr) : Sp := fun vs H Q _ => ∃ (A : Pad) (ns : List Str) (xs : List (Str × Int)) (pl : Pl) (x : Str) (v : Int), vs = [.ref A.p, .str x, .int v] ∧ PlayAt C H A ns xs pl ∧ x ∈ ns ∧ 0 ≤ v ∧
  ∀ H', PlayAt C H' A ns xs (stP xs pl x v) → Fr A H H' → Dm H H' → Q .non H'
section
variable {P : Program} {w : World} {K : PySem.W.Frag} {mg : Str → Option Value} {base : Heap} {C : Addr} {fV : Addr} {dV : FuncData}
theorem scVN : FnScope ["self", "expression"] ["self", "expression"] (defScope sVN) := ⟨rfl, rfl, rfl, by decide +kernel, rfl, by decide +kernel, by decide +kernel⟩
theorem ok_vn {k : Nat} {f : Addr} {fd : FuncData} (F : Fun K "value_now" "Play.value_now" sVN f fd) (T : TxPl K mg C) (V1 : Fn0 P w K mg base k "value_of" ["expression", "stored"] (spVo 5) fV dV) : FnOk P w K mg base CX0 (k + 1) f fd ["self", "expression"] (spVN C) := by
  refine F.ok scVN (fun vs H Q E h => ?_) (fun cdv A0 outer s H vs Q E hr h => ?_)
  · obtain ⟨A, ns, xs, pl, v, e, rfl, _⟩ := h
    rfl
  · obtain ⟨A, ns, xs, pl, v, e, rfl, R, hv, he, q⟩ := h
    refine ⟨_, pss_one (ps_ret (pe_call V1.ok hr (by rfl) V1.gl V1.kp V1.bd .nil pass0 (pa_cons (pv 1) (pa_cons (pe_fld (pv 0) rfl) pa_nil)))), ?_⟩
    exact ⟨_, rfl, _, rfl, A.p, C, A.dx, _, _, rfl, R.ob, T.cl, T.n2, pfs_so _ _ _ _ _, v, A.so, e, ns, pl.st, rfl, hv, he, R.ok, R.hs, q⟩
theorem scStore : FnScope ["self", "name", "value"] ["self", "name", "value"] (defScope sStore) := ⟨rfl, rfl, rfl, by decide +kernel, rfl, by decide +kernel, by decide +kernel⟩
theorem ok_store {f : Addr} {fd : FuncData} (F : Fun K "store" "Play.store" sStore f fd) (T : TxPl K mg C) : FnOk P w K mg base CX0 1 f fd ["self", "name", "value"] (spStore C) := by
  refine F.ok scStore (fun vs H Q E h => ?_) (fun cdv A0 outer s H vs Q E hr h => ?_)
  · obtain ⟨A, ns, xs, pl, x, v, rfl, _⟩ := h
    rfl
  · obtain ⟨A, ns, xs, pl, x, v, rfl, R, hx, hv, q⟩ := h
    have hu1 : (A0.deeper (envOfC "Play.store" (defScope sStore) s.heap.objs.size f cdv)).units + 1 < cLine := by have := hr.un; omega
    refine ⟨_, pss_one (ps_dput hu1 (pe_fld (pv 0) rfl) (pv 1) (pe_op op_mod (pv 2) (pe_dget hu1 (pe_fld (pv 0) rfl) (pv 1) (fun _ _ => rfl))) rfl), ?_⟩
    obtain ⟨z, hz, z1, z2⟩ := R.zk.pos hx
    have g : DGet H A.sz (.str x) (some (.int z)) := by
      have := DGet.k (k := Sum.inr x) R.hz
      rw [stK_val, hz] at this
      exact this
    have hxs : x ∈ pl.st.map (·.1) := by rw [R.ok.1]; exact hx
    have m0 : 0 ≤ v % z := Int.emod_nonneg _ (by omega)
    have m1 : v % z < z := Int.emod_lt_of_pos _ (by omega)
    have hst : StOk ns (setS pl.st x (v % z)) := setS_ok R.ok ⟨m0, by omega⟩
    obtain ⟨R', fr⟩ := R.putS hst
    have hl : (stK pl.st).length < sizeLine := by
      unfold stK
      have := congrArg List.length R.ok.1
      rw [List.length_map] at this
      rw [List.length_map, this]
      exact Nat.lt_of_le_of_lt R.zk.few (by decide)
    refine ⟨_, rfl, _, rfl, A.p, C, A.dx, _, _, rfl, R.ob, T.cl, T.n1, pfs_sz _ _ _ _ _, _, rfl, A.sz, _, rfl, g, _, _, rfl, rfl, (show (0 : Int) < z by omega), ?_⟩
    refine ⟨_, rfl, A.p, C, A.dx, _, _, rfl, R.ob, T.cl, T.n2, pfs_so _ _ _ _ _, _, rfl, A.so, _, rfl, DPut.k (k := Sum.inr x) R.hs hl, ?_⟩
    rw [stK_put _ hxs]
    refine q _ ?_ fr Dm.upd
    have e : sizeOf xs x = z := by
      unfold sizeOf
      rw [hz]
      rfl
    unfold stP
    rw [e]
    exact R'
end
end K1

set_option Elab.async false
set_option linter.all false
set_option maxRecDepth 100000
set_option maxHeartbeats 4000000
/-! A play: seats, events, ask; __init__. -/
namespace K1
open PySem PySem.Spec PyProof.Rows L2 Kx Kd
def Seat (s : Str) : Prop := s = "chooser" ∨ s = "comer"
def seatL (A : Pad) (s : Str) : Addr := if s = "chooser" then A.l1 else A.l2
def evs (pl : Pl) (s : Str) : List NestedKey := if s = "chooser" then pl.e1 else pl.e2
def addE (pl : Pl) (s : Str) (k : NestedKey) : Pl := if s = "chooser" then { pl with e1 := pl.e1 ++ [k] } else { pl with e2 := pl.e2 ++ [k] }
theorem snocN {H : Hp} {k : NestedKey} {v : V} : ∀ {ks : List NestedKey} {vs : List V}, NestL H ks vs → Nest H k v → NestL H (ks ++ [k]) (vs ++ [v])
  | [], [], .nil, h => .cons h .nil
  | _ :: _, _ :: _, .cons a r, h => .cons a (snocN r h)
theorem lenN {H : Hp} : ∀ {ks : List NestedKey} {vs : List V}, NestL H ks vs → vs.length = ks.length
  | [], [], .nil => rfl
  | _ :: _, _ :: _, .cons a r => congrArg (· + 1) (lenN r)
section
variable {C : Addr} {H H' : Hp} {A : Pad} {ns : List Str} {xs : List (Str × Int)} {pl : Pl}
theorem PlayAt.seat (R : PlayAt C H A ns xs pl) {s : Str} (hs : Seat s) : DGet H A.sn (.str s) (some (.ref (seatL A s))) := by
  have := DGet.k (k := Sum.inr s) R.hn
  rcases hs with rfl | rfl
  · exact this
  · have e : seatL A "comer" = A.l2 := if_neg (by decide +kernel)
    rw [e]
    exact this
theorem PlayAt.evs (R : PlayAt C H A ns xs pl) (s : Str) : ∃ us, H (seatL A s) = some (.lst us) ∧ NestL H (K1.evs pl s) us := by
  unfold seatL K1.evs
  split
  · obtain ⟨us, a, b, _⟩ := R.h1
    exact ⟨us, a, b⟩
  · obtain ⟨us, a, b, _⟩ := R.h2
    exact ⟨us, a, b⟩
theorem tk_lst {H : Hp} {l : Addr} {us vs : List V} (e : H l = some (.lst us)) : Tk H (upd H l (.lst vs)) := fun a ys z => by
  rw [upd_ne (fun q => by rw [q, e] at z; cases z)]
  exact z
/-- an event more -/
theorem PlayAt.putE (R : PlayAt C H A ns xs pl) {s : Str} {us : List V} {k : NestedKey} {v : V} (e : H (seatL A s) = some (.lst us)) (hn : NestL H (K1.evs pl s) us) (hk : Nest H k v) (hl : us.length < 100000) :
    PlayAt C (upd H (seatL A s) (.lst (us ++ [v]))) A ns xs (addE pl s k) ∧ Fr A H (upd H (seatL A s) (.lst (us ++ [v]))) := by
  have tk := tk_lst (vs := us ++ [v]) e
  have nl : ∀ {b o}, H b = some o → (∀ ys, o ≠ .lst ys) → upd H (seatL A s) (.lst (us ++ [v])) b = some o := fun {b o} z h => by
    rw [upd_ne (fun q => by rw [q, e] at z; cases z; exact h _ rfl)]
    exact z
  have hz : (us ++ [v]).length ≤ 100000 := by
    rw [List.length_append]
    exact hl
  obtain ⟨u1, a1, b1, c1⟩ := R.h1
  obtain ⟨u2, a2, b2, c2⟩ := R.h2
  obtain ⟨u3, a3, b3, c3⟩ := R.ht
  have fr : Fr A H (upd H (seatL A s) (.lst (us ++ [v]))) := fun b o z _ _ _ h1 h2 => by
    have : b ≠ seatL A s := by
      unfold seatL
      split
      · exact h1
      · exact h2
    rw [upd_ne this]
    exact z
  refine ⟨?_, fr⟩
  clear fr
  generalize hsl : seatL A s = sl at *
  by_cases hs : s = "chooser"
  · have e1 : addE pl s k = { pl with e1 := pl.e1 ++ [k] } := if_pos hs
    have e2 : sl = A.l1 := by rw [← hsl]; exact if_pos hs
    have e3 : K1.evs pl s = pl.e1 := if_pos hs
    rw [e1]
    subst e2
    rw [e3] at hn
    exact ⟨nl R.ob (fun _ z => by cases z), nl R.hz (fun _ z => by cases z), nl R.hs (fun _ z => by cases z), nl R.hn (fun _ z => by cases z), ⟨_, upd_same, nestL_tk tk (snocN hn hk), hz⟩, ⟨u2, by rw [upd_ne R.n3.symm]; exact a2, nestL_tk tk b2, c2⟩, ⟨u3, by rw [upd_ne R.n4.symm]; exact a3, b3.keep tk, c3⟩, R.n1, R.n2, R.n3, R.n4, R.n5, R.n6, R.ok, R.zk⟩
  · have e1 : addE pl s k = { pl with e2 := pl.e2 ++ [k] } := if_neg hs
    have e2 : sl = A.l2 := by rw [← hsl]; exact if_neg hs
    have e3 : K1.evs pl s = pl.e2 := if_neg hs
    rw [e1]
    subst e2
    rw [e3] at hn
    exact ⟨nl R.ob (fun _ z => by cases z), nl R.hz (fun _ z => by cases z), nl R.hs (fun _ z => by cases z), nl R.hn (fun _ z => by cases z), ⟨u1, by rw [upd_ne R.n3]; exact a1, nestL_tk tk b1, c1⟩, ⟨_, upd_same, nestL_tk tk (snocN hn hk), hz⟩, ⟨u3, by rw [upd_ne R.n5.symm]; exact a3, b3.keep tk, c3⟩, R.n1, R.n2, R.n3, R.n4, R.n5, R.n6, R.ok, R.zk⟩
/-- other statements ahead -/
theorem PlayAt.putT (R : PlayAt C H A ns xs pl) {us : List V} {td : List Sm} (e : DtAll H us (td.reverse.map Sm.d)) (hl : us.length ≤ 100000) : PlayAt C (upd H A.td (.lst us)) A ns xs { pl with todo := td } ∧ Fr A H (upd H A.td (.lst us)) := by
  obtain ⟨u1, a1, b1, c1⟩ := R.h1
  obtain ⟨u2, a2, b2, c2⟩ := R.h2
  obtain ⟨u3, a3, b3, c3⟩ := R.ht
  have tk := tk_lst (vs := us) a3
  have nl : ∀ {b o}, H b = some o → (∀ ys, o ≠ .lst ys) → upd H A.td (.lst us) b = some o := fun {b o} z h => by
    rw [upd_ne (fun q => by rw [q, a3] at z; cases z; exact h _ rfl)]
    exact z
  exact ⟨⟨nl R.ob (fun _ z => by cases z), nl R.hz (fun _ z => by cases z), nl R.hs (fun _ z => by cases z), nl R.hn (fun _ z => by cases z), ⟨u1, by rw [upd_ne R.n4]; exact a1, nestL_tk tk b1, c1⟩, ⟨u2, by rw [upd_ne R.n5]; exact a2, nestL_tk tk b2, c2⟩, ⟨us, upd_same, e.keep tk, hl⟩, R.n1, R.n2, R.n3, R.n4, R.n5, R.n6, R.ok, R.zk⟩, fun b o z _ _ h _ _ => by rw [upd_ne h]; exact z⟩
end
/-! ### seat_of -/
def seatOf (x : Sm) : Str := if x.kind = "choose" then "chooser" else "comer"
theorem sm_head {H : Hp} {v : V} {x : Sm} (h : Dt H v x.d) : ∃ a us, v = .ref a ∧ H a = some (.tup (.str x.kind :: us)) := by
  have key : ∀ {k : Str} {ds : List PyData}, Dt H v (.tuple (.str k :: ds)) → ∃ a us, v = .ref a ∧ H a = some (.tup (.str k :: us)) := fun {k ds} h => by
    obtain ⟨a, xs, e1, e2, da⟩ := h.tupI
    cases da with
    | cons d r =>
      obtain rfl := d.strI
      exact ⟨a, _, e1, e2⟩
  cases x <;> exact key h
def spSeat : Sp := fun vs H Q _ => ∃ (v : V) (x : Sm), vs = [v] ∧ Dt H v x.d ∧ Q (.str (seatOf x)) H
section
variable {P : Program} {w : World} {K : PySem.W.Frag} {mg : Str → Option Value} {base : Heap} {C : Addr}
theorem scSeat : FnScope ["statement"] ["statement"] (defScope sSeat) := ⟨rfl, rfl, rfl, by decide +kernel, rfl, by decide +kernel, by decide +kernel⟩
theorem ok_seat {f : Addr} {fd : FuncData} (F : Fun K "seat_of" "seat_of" sSeat f fd) : FnOk P w K mg base CX0 1 f fd ["statement"] spSeat := by
  refine F.ok scSeat (fun vs H Q E h => ?_) (fun cdv A outer s H vs Q E hr h => ?_)
  · obtain ⟨v, x, rfl, _⟩ := h
    rfl
  · obtain ⟨v, x, rfl, hv, q⟩ := h
    obtain ⟨a, us, rfl, ea⟩ := sm_head hv
    refine ⟨_, pss_one (ps_ret (pe_ifExp (pt_cmpR op_eq (pe_ix ix_tup (pv 0) pe_int (fun _ _ => rfl)) pe_str (nomark _)) pe_str pe_str)), ?_⟩
    refine ⟨_, rfl, a, _, _, _, rfl, rfl, SqT.of ea, tix0, rfl, _, rfl, ?_⟩
    unfold seatOf at q
    by_cases h : x.kind = "choose"
    · rw [if_pos h] at q
      rw [h, decide_eq_true rfl]
      exact iteT q
    · rw [if_neg h] at q
      rw [decide_eq_false fun e => h (V.str.inj e)]
      exact iteF q
end
/-! ### Play.__init__, ask -/
def spPIn (C : Addr) : Sp := fun vs H Q _ => ∃ (p dx sz so sn td : Addr) (i : Int), vs = [.ref p, .ref sz, .ref so, .int i, .ref sn, .ref td] ∧ H p = some (.ins C dx []) ∧
  ∀ H', H' p = some (.ins C dx (pfs sz so i sn td)) → (∀ b o, H b = some o → b ≠ p → H' b = some o) → Q .non H'
def askK (m n : Int) : NestedKey := .tup [.text "asked", .num m, .num n]
def spAsk (C : Addr) : Sp := fun vs H Q _ => ∃ (A : Pad) (ns : List Str) (xs : List (Str × Int)) (pl : Pl) (s : Str) (m n : Int), vs = [.ref A.p, .str s, .int m, .int n] ∧ PlayAt C H A ns xs pl ∧ Seat s ∧ (evs pl s).length < 1000 ∧
  ∀ (t : Addr) H', H t = none → PlayAt C H' A ns xs (addE pl s (askK m n)) → Fr A H H' → Dm H H' → Nest H' (.tup (evs pl s ++ [askK m n])) (.ref t) → Q (.ref t) H'
section
variable {P : Program} {w : World} {K : PySem.W.Frag} {mg : Str → Option Value} {base : Heap} {C : Addr}
theorem scPIn : FnScope ["self", "sizes", "stored", "paid", "seen", "todo"] ["self", "sizes", "stored", "paid", "seen", "todo"] (defScope sPIn) := ⟨rfl, rfl, rfl, by decide +kernel, rfl, by decide +kernel, by decide +kernel⟩
theorem ok_pin {f : Addr} {fd : FuncData} (F : Fun K "__init__" "Play.__init__" sPIn f fd) (T : TxPl K mg C) : FnOk P w K mg base CX0 1 f fd ["self", "sizes", "stored", "paid", "seen", "todo"] (spPIn C) := by
  refine F.ok scPIn (fun vs H Q E h => ?_) (fun cdv A outer s H vs Q E hr h => ?_)
  · obtain ⟨p, dx, sz, so, sn, td, i, rfl, _⟩ := h
    rfl
  · obtain ⟨p, dx, sz, so, sn, td, i, rfl, hp, q⟩ := h
    refine ⟨_, pss_cons (ps_fld (pv 0) (pv 1) rfl) (pss_cons (ps_fld (pv 0) (pv 2) rfl) (pss_cons (ps_fld (pv 0) (pv 3) rfl) (pss_cons (ps_fld (pv 0) (pv 4) rfl) (pss_one (ps_fld (pv 0) (pv 5) rfl))))), ?_⟩
    refine ⟨_, rfl, _, rfl, p, C, dx, [], rfl, hp, T.cl, T.n1, (by show 0 < 1000; decide), ?_⟩
    refine ⟨_, rfl, _, rfl, p, C, dx, _, rfl, upd_same, T.cl, T.n2, (by show 1 < 1000; decide), ?_⟩
    refine ⟨_, rfl, _, rfl, p, C, dx, _, rfl, upd_same, T.cl, T.n3, (by show 2 < 1000; decide), ?_⟩
    refine ⟨_, rfl, _, rfl, p, C, dx, _, rfl, upd_same, T.cl, T.n4, (by show 3 < 1000; decide), ?_⟩
    refine ⟨_, rfl, _, rfl, p, C, dx, _, rfl, upd_same, T.cl, T.n5, (by show 4 < 1000; decide), ?_⟩
    exact q _ upd_same fun b o e hb => by
      rw [upd_ne hb, upd_ne hb, upd_ne hb, upd_ne hb, upd_ne hb]
      exact e
theorem scAsk : FnScope ["self", "seat", "move", "results"] ["self", "seat", "move", "results"] (defScope sAsk) := ⟨rfl, rfl, rfl, by decide +kernel, rfl, by decide +kernel, by decide +kernel⟩
theorem ok_ask {f : Addr} {fd : FuncData} (F : Fun K "ask" "Play.ask" sAsk f fd) (T : TxPl K mg C) (ht : mg "tuple" = none) : FnOk P w K mg base CX0 1 f fd ["self", "seat", "move", "results"] (spAsk C) := by
  refine F.ok scAsk (fun vs H Q E h => ?_) (fun cdv A0 outer s H vs Q E hr h => ?_)
  · obtain ⟨A, ns, xs, pl, st, m, n, rfl, _⟩ := h
    rfl
  · obtain ⟨A, ns, xs, pl, st, m, n, rfl, R, hs, hl, q⟩ := h
    have hu1 : (A0.deeper (envOfC "Play.ask" (defScope sAsk) s.heap.objs.size f cdv)).units + 1 < cLine := by have := hr.un; omega
    refine ⟨_, pss_cons (ps_expr (pe_bm PySem.F.plainAttrs_list PySem.F.slot_list_append PySem.F.type_list_append mt_append (pe_dget hu1 (pe_fld (pv 0) rfl) (pv 1) (fun _ _ => rfl)) (pa_cons (pe_tup (pa_cons pe_str (pa_cons (pv 2) (pa_cons (pv 3) pa_nil)))) pa_nil)))
      (pss_one (ps_ret (pe_callTy call_tuple_of (by rfl) ht (by decide +kernel) (pa_cons (pe_dget hu1 (pe_fld (pv 0) rfl) (pv 1) (fun _ _ => rfl)) pa_nil)))), ?_⟩
    obtain ⟨us, ea, nu⟩ := R.evs st
    have hul : us.length < 1000 := by rw [lenN nu]; exact hl
    refine ⟨_, rfl, A.p, C, A.dx, _, _, rfl, R.ob, T.cl, T.n4, pfs_sn _ _ _ _ _, _, rfl, A.sn, _, rfl, R.seat hs, .inl ⟨rfl, _, SqL.of ea⟩, _, rfl, _, rfl, by show 3 ≤ sizeLine; decide, fun t ht => ?_⟩
    have s1 := same_upd (o := .tup [.str "asked", .int m, .int n]) ht
    have R1 := R.same s1
    have nk : Nest (upd H t (.tup [.str "asked", .int m, .int n])) (askK m n) (.ref t) := .tup upd_same (.cons (.text _) (.cons (.num _) (.cons (.num _) .nil)))
    have ea1 := s1 _ _ ea
    have nu1 := nestL_tk (Tk.same s1) nu
    obtain ⟨R2, fr⟩ := R1.putE ea1 nu1 nk (by omega)
    refine ⟨seatL A st, _, _, rfl, rfl, ea1, Nat.lt_of_lt_of_le hul (by decide), ?_⟩
    have tk2 := tk_lst (vs := us ++ [V.ref t]) ea1
    have e2 : upd (upd H t (.tup [.str "asked", .int m, .int n])) (seatL A st) (.lst (us ++ [.ref t])) (seatL A st) = some (.lst (us ++ [.ref t])) := upd_same
    have n2 := nestL_tk tk2 (snocN nu1 nk)
    have dm : Dm H (upd (upd H t (.tup [.str "asked", .int m, .int n])) (seatL A st) (.lst (us ++ [.ref t]))) := (Dm.same s1).trans Dm.upd
    generalize upd (upd H t (.tup [.str "asked", .int m, .int n])) (seatL A st) (.lst (us ++ [.ref t])) = H2 at *
    refine ⟨_, rfl, A.p, C, A.dx, _, _, rfl, R2.ob, T.cl, T.n4, pfs_sn _ _ _ _ _, _, rfl, A.sn, _, rfl, R2.seat hs, seatL A st, _, rfl, .inl ⟨SqL.of e2, fun t2 ht2 => ?_⟩⟩
    have s3 := same_upd (o := .tup (us ++ [.ref t])) ht2
    have hH : H t2 = none := dm t2 ht2
    refine q t2 _ hH (R2.same s3) (((Fr.same s1).trans fr).trans (Fr.same s3)) (dm.trans (Dm.same s3)) (.tup upd_same (nestL_tk (Tk.same s3) n2))
end
end K1

set_option Elab.async false
set_option linter.all false
set_option maxRecDepth 100000
set_option maxHeartbeats 4000000
/-! Play.perform. -/
namespace K1
open PySem PySem.Spec PyProof.Rows L2 Kx Kd
mutual
/-- statements of a game that is played -/
def Sm.pv (ns : List Str) : Sm → Prop
  | .set x e => x ∈ ns ∧ e.vl ns 5
  | .draw x n => x ∈ ns ∧ 1 ≤ n ∧ n ≤ 8
  | .move k x n m => (k = "choose" ∨ k = "come") ∧ x ∈ ns ∧ 1 ≤ n ∧ n ≤ 8 ∧ 0 ≤ m ∧ m ≤ 100
  | .show_ s e => Seat s ∧ e.vl ns 5
  | .pay k e => (k = "pay" ∨ k = "take") ∧ e.vl ns 5
  | .ifs e a b => e.vl ns 5 ∧ a.pv ns ∧ b.pv ns
def Bk.pv (ns : List Str) : Bk → Prop
  | .nil => True
  | .cons s b => s.pv ns ∧ b.pv ns
end
def shownK (n : Int) : NestedKey := .tup [.text "shown", .num n]
/-- one statement that is no draw and no move -/
def perf (xs : List (Str × Int)) (pl : Pl) : Sm → Pl
  | .ifs e a b => { pl with todo := (if evE pl.st e ≠ 0 then a.sl else b.sl) ++ pl.todo }
  | .set x e => stP xs pl x (evE pl.st e)
  | .show_ s e => addE pl s (shownK (evE pl.st e))
  | .pay k e => { pl with paid := if k = "pay" then pl.paid + evE pl.st e else pl.paid - evE pl.st e }
  | _ => pl
def Sm.chance : Sm → Bool
  | .draw _ _ => true
  | .move _ _ _ _ => true
  | _ => false
/-- the parts of an if are not too long -/
def Sm.wide : Sm → Prop
  | .ifs _ a b => a.sl.length ≤ 1000 ∧ b.sl.length ≤ 1000
  | _ => True
def spPerf (C : Addr) : Sp := fun vs H Q _ => ∃ (A : Pad) (ns : List Str) (xs : List (Str × Int)) (pl : Pl) (v : V) (x : Sm), vs = [.ref A.p, v] ∧ PlayAt C H A ns xs pl ∧ Dt H v x.d ∧ x.pv ns ∧ x.chance = false ∧ x.wide ∧ pl.e1.length < 1000 ∧ pl.e2.length < 1000 ∧ pl.todo.length ≤ 1000 ∧
  ∀ H', PlayAt C H' A ns xs (perf xs pl x) → Fr A H H' → Dm H H' → Q .non H'
theorem dt_revA {H : Hp} : ∀ {us : List V} {ds : List PyData}, DtAll H us ds → DtAll H us.reverse ds.reverse
  | [], [], .nil => .nil
  | v :: us, d :: ds, .cons h r => by
    rw [List.reverse_cons, List.reverse_cons]
    exact dt_appA (dt_revA r) (.cons h .nil)
where
  dt_appA {H : Hp} : ∀ {us vs : List V} {ds es : List PyData}, DtAll H us ds → DtAll H vs es → DtAll H (us ++ vs) (ds ++ es)
    | [], _, [], _, .nil, h => h
    | _ :: _, _, _ :: _, _, .cons a r, h => .cons a (dt_appA r h)
theorem lenD {H : Hp} : ∀ {us : List V} {ds : List PyData}, DtAll H us ds → us.length = ds.length
  | [], [], .nil => rfl
  | _ :: _, _ :: _, .cons a r => congrArg (· + 1) (lenD r)
section
variable {P : Program} {w : World} {K : PySem.W.Frag} {mg : Str → Option Value} {base : Heap} {C : Addr} {fV fS : Addr} {dV dS : FuncData}
abbrev NPf : List Str := ["self", "statement", "kind", "_", "test", "then", "otherwise", "part"]
theorem scPerf : FnScope NPf ["self", "statement"] (defScope sPerf) := ⟨rfl, rfl, rfl, by decide +kernel, rfl, by decide +kernel, by decide +kernel⟩
theorem ok_perf {k : Nat} (hk : 1 ≤ k) {f : Addr} {fd : FuncData} (F : Fun K "perform" "Play.perform" sPerf f fd) (T : TxPl K mg C) (V1 : Mt0 P w K mg base C k "value_now" ["self", "expression"] (spVN C) fV dV) (S1 : Mt0 P w K mg base C 1 "store" ["self", "name", "value"] (spStore C) fS dS) : FnOk P w K mg base CX0 (k + 1) f fd ["self", "statement"] (spPerf C) := by
  refine F.ok scPerf (fun vs H Q E h => ?_) (fun cdv A0 outer s H vs Q E hr h => ?_)
  · obtain ⟨A, ns, xs, pl, v, x, rfl, _⟩ := h
    rfl
  · obtain ⟨A, ns, xs, pl, v, x, rfl, R, hv, hx, hc, hwd, hl1, hl2, hl3, q⟩ := h
    have hr1 : Room 1 _ := hr.mono hk
    have hu1 : (A0.deeper (envOfC "Play.perform" (defScope sPerf) s.heap.objs.size f cdv)).units + 1 < cLine := by have := hr.un; omega
    refine ⟨_, pss_cons (ps_set (i := 2) scPerf.nd rfl (Or.inl rfl) (pe_ix ix_tup (pv 1) pe_int (fun _ _ => rfl)))
      (pss_one (ps_if (pt_cmpR op_eq (pv 2) pe_str (nomark _))
        (pss_cons (ps_asg (pv 1) (pg_tup (by rfl) (pgs_cons (pg_name (i := 3) scPerf.nd rfl (Or.inl rfl)) (pgs_cons (pg_name (i := 4) scPerf.nd rfl (Or.inl rfl)) (pgs_cons (pg_name (i := 5) scPerf.nd rfl (Or.inl rfl)) (pgs_cons (pg_name (i := 6) scPerf.nd rfl (Or.inl rfl)) pgs_nil))))))
        (pss_cons (ps_set (i := 7) scPerf.nd rfl (Or.inl rfl) (pe_ifExp (pt_cmpR op_ne (pe_meth (pv 0) T.cl V1.mt V1.ok hr V1.bd .nil pass0 (pa_cons (pv 4) pa_nil)) pe_int (nomark _)) (pv 5) (pv 6)))
        (pss_one (ps_expr (pe_bm PySem.F.plainAttrs_list PySem.F.slot_list_extend PySem.F.type_list_extend Kt.mt_extendT (pe_fld (pv 0) rfl) (pa_cons (Kt.pe_revT (pv 7)) pa_nil))))))
        (pss_one (ps_if (pt_cmpR op_eq (pv 2) pe_str (nomark _))
          (pss_one (ps_expr (pe_meth (pv 0) T.cl S1.mt S1.ok hr1 S1.bd .nil pass0 (pa_cons (pe_ix ix_tup (pv 1) pe_int (fun _ _ => rfl)) (pa_cons (pe_meth (pv 0) T.cl V1.mt V1.ok hr V1.bd .nil pass0 (pa_cons (pe_ix ix_tup (pv 1) pe_int (fun _ _ => rfl)) pa_nil)) pa_nil)))))
          (pss_one (ps_if (pt_cmpR op_eq (pv 2) pe_str (nomark _))
            (pss_one (ps_expr (pe_bm PySem.F.plainAttrs_list PySem.F.slot_list_append PySem.F.type_list_append mt_append (pe_dget hu1 (pe_fld (pv 0) rfl) (pe_ix ix_tup (pv 1) pe_int (fun _ _ => rfl)) (fun _ _ => rfl)) (pa_cons (pe_tup (pa_cons pe_str (pa_cons (pe_meth (pv 0) T.cl V1.mt V1.ok hr V1.bd .nil pass0 (pa_cons (pe_ix ix_tup (pv 1) pe_int (fun _ _ => rfl)) pa_nil)) pa_nil))) pa_nil))))
            (pss_one (ps_if (pt_cmpR op_eq (pv 2) pe_str (nomark _))
              (pss_one (ps_fldaug (pv 0) (pe_meth (pv 0) T.cl V1.mt V1.ok hr V1.bd .nil pass0 (pa_cons (pe_ix ix_tup (pv 1) pe_int (fun _ _ => rfl)) pa_nil)) in_add))
              (pss_one (ps_fldaug (pv 0) (pe_meth (pv 0) T.cl V1.mt V1.ok hr V1.bd .nil pass0 (pa_cons (pe_ix ix_tup (pv 1) pe_int (fun _ _ => rfl)) pa_nil)) in_sub)))))))))), ?_⟩
    have vnf := nf (m := "value_now") (by decide +kernel)
    have snf := nf (m := "store") (by decide +kernel)
    obtain ⟨a, us, rfl, ea⟩ := sm_head hv
    have hd : ∀ {y z : Str}, y ≠ z → decide (V.str y = V.str z) = false := fun h => decide_eq_false fun e => h (V.str.inj e)
    refine ⟨_, rfl, a, _, _, _, rfl, rfl, SqT.of ea, tix0, ?_⟩
    refine ⟨_, rfl, rfl, _, rfl, ?_⟩
    cases x with
    | draw x n => cases hc
    | move k x n m => cases hc
    | ifs e b1 b2 =>
      obtain ⟨a2, xs2, e1, ea2, da⟩ := hv.tupI
      cases e1
      obtain ⟨z, y1, y2, y3, rfl, d1, d2, d3, d4⟩ := da.c4
      obtain rfl := d1.strI
      rw [show decide (V.str (Sm.kind (.ifs e b1 b2)) = V.str ("if" : Str)) = true from decide_eq_true rfl]
      obtain ⟨he, hb1, hb2⟩ := hx
      obtain ⟨w1, w2⟩ := hwd
      refine iteT ⟨_, rfl, a, _, rfl, SqT.of ea2, rfl, _, _, rfl, _, _, rfl, _, _, rfl, _, _, rfl, rfl, ?_⟩
      refine ⟨_, rfl, A.p, A.dx, _, rfl, R.ob, vnf _ _ _ _ _, _, rfl, A, ns, xs, pl, y1, e, rfl, R, d2, he, rfl, _, rfl, ?_⟩
      have go : ∀ (b : Bk) (y : V), Dt H y (.tuple b.ds) → b.sl.length ≤ 1000 → (∀ H', PlayAt C H' A ns xs { pl with todo := b.sl ++ pl.todo } → Fr A H H' → Dm H H' → Q .non H') →
          ∃ a ys, y = .ref a ∧ H a = some (.tup ys) ∧ ∀ p, H p = none → ∃ zs, upd H p (.tup ys.reverse) A.td = some (.lst zs) ∧ zs.length + ys.reverse.length ≤ sizeLine ∧ Q .non (upd (upd H p (.tup ys.reverse)) A.td (.lst (zs ++ ys.reverse))) := fun b y hy hb q => by
        obtain ⟨a, ys, rfl, ea, dy⟩ := hy.tupI
        obtain ⟨zs, ez, dz, _⟩ := R.ht
        refine ⟨a, ys, rfl, ea, fun p hp => ?_⟩
        have s1 := same_upd (o := .tup ys.reverse) hp
        have hyl : ys.length = b.sl.length := by rw [lenD dy, ds_sl, List.length_map]
        have hzl : zs.length = pl.todo.length := by rw [lenD dz, List.length_map, List.length_reverse]
        have dt2 : DtAll (upd H p (.tup ys.reverse)) (zs ++ ys.reverse) ((b.sl ++ pl.todo).reverse.map Sm.d) := by
          rw [List.reverse_append, List.map_append]
          refine dt_revA.dt_appA (dz.keep (Tk.same s1)) ?_
          have := dt_revA (dy.keep (Tk.same s1))
          rw [ds_sl, ← List.map_reverse] at this
          exact this
        obtain ⟨R2, fr⟩ := (R.same s1).putT (td := b.sl ++ pl.todo) dt2 (by rw [List.length_append, List.length_reverse]; omega)
        exact ⟨zs, s1 _ _ ez, by rw [List.length_reverse, hyl, hzl]; exact Nat.le_trans (show pl.todo.length + b.sl.length ≤ 2000 by omega) (by decide), q _ R2 ((Fr.same s1).trans fr) ((Dm.same s1).trans Dm.upd)⟩
      by_cases hz : evE pl.st e = 0
      · rw [show (!decide (V.int (evE pl.st e) = V.int 0)) = false by rw [decide_eq_true (by rw [hz])]; rfl]
        obtain ⟨a3, ys, rfl, ea3, g⟩ := go b2 y3 d4 w2 fun H' R' fr dm => q H' (by
          show PlayAt C H' A ns xs { pl with todo := (if evE pl.st e ≠ 0 then b1.sl else b2.sl) ++ pl.todo }
          rw [if_neg (fun h => h hz)]
          exact R') fr dm
        refine iteF ⟨_, rfl, ?_⟩
        refine ⟨_, rfl, A.p, C, A.dx, _, _, rfl, R.ob, T.cl, T.n5, pfs_td _ _ _ _ _, ?_⟩
        obtain ⟨zs, ez, _, _⟩ := R.ht
        refine ⟨.inl ⟨rfl, _, SqL.of ez⟩, _, rfl, a3, ys, rfl, SqT.of ea3, fun p hp => ?_⟩
        obtain ⟨zs2, g1, g2, g3⟩ := g p hp
        exact ⟨A.td, p, zs2, ys.reverse, rfl, rfl, g1, SqT.of upd_same, g2, g3⟩
      · rw [show (!decide (V.int (evE pl.st e) = V.int 0)) = true by rw [decide_eq_false (fun h => hz (V.int.inj h))]; rfl]
        obtain ⟨a3, ys, rfl, ea3, g⟩ := go b1 y2 d3 w1 fun H' R' fr dm => q H' (by
          show PlayAt C H' A ns xs { pl with todo := (if evE pl.st e ≠ 0 then b1.sl else b2.sl) ++ pl.todo }
          rw [if_pos hz]
          exact R') fr dm
        refine iteT ⟨_, rfl, ?_⟩
        refine ⟨_, rfl, A.p, C, A.dx, _, _, rfl, R.ob, T.cl, T.n5, pfs_td _ _ _ _ _, ?_⟩
        obtain ⟨zs, ez, _, _⟩ := R.ht
        refine ⟨.inl ⟨rfl, _, SqL.of ez⟩, _, rfl, a3, ys, rfl, SqT.of ea3, fun p hp => ?_⟩
        obtain ⟨zs2, g1, g2, g3⟩ := g p hp
        exact ⟨A.td, p, zs2, ys.reverse, rfl, rfl, g1, SqT.of upd_same, g2, g3⟩
    | set x e =>
      obtain ⟨a2, xs2, e1, ea2, da⟩ := hv.tupI
      cases e1
      obtain ⟨z, y1, y2, rfl, d1, d2, d3⟩ := da.c3
      obtain rfl := d1.strI
      obtain rfl := d2.strI
      rw [hd (show Sm.kind (.set x e) ≠ "if" by show ("set" : Str) ≠ "if"; decide +kernel)]
      obtain ⟨hxn, he⟩ := hx
      refine iteF ⟨_, rfl, rfl, _, rfl, ?_⟩
      rw [show decide (V.str (Sm.kind (.set x e)) = V.str ("set" : Str)) = true from decide_eq_true rfl]
      refine iteT ⟨_, rfl, A.p, A.dx, _, rfl, R.ob, snf _ _ _ _ _, _, rfl, a, _, _, _, rfl, rfl, SqT.of ea2, tix1, _, rfl, A.p, A.dx, _, rfl, R.ob, vnf _ _ _ _ _, _, rfl, a, _, _, _, rfl, rfl, SqT.of ea2, tix2, A, ns, xs, pl, y2, e, rfl, R, d3, he, A, ns, xs, pl, x, _, rfl, R, hxn, (evE_sml R.ok he).1, fun H' R' fr dm => ?_⟩
      exact q H' R' fr dm
    | show_ st e =>
      obtain ⟨a2, xs2, e1, ea2, da⟩ := hv.tupI
      cases e1
      obtain ⟨z, y1, y2, rfl, d1, d2, d3⟩ := da.c3
      obtain rfl := d1.strI
      obtain rfl := d2.strI
      rw [hd (show Sm.kind (.show_ st e) ≠ "if" by show ("show" : Str) ≠ "if"; decide +kernel)]
      obtain ⟨hst, he⟩ := hx
      refine iteF ⟨_, rfl, rfl, _, rfl, ?_⟩
      rw [hd (show Sm.kind (.show_ st e) ≠ "set" by show ("show" : Str) ≠ "set"; decide +kernel)]
      refine iteF ⟨_, rfl, rfl, _, rfl, ?_⟩
      rw [show decide (V.str (Sm.kind (.show_ st e)) = V.str ("show" : Str)) = true from decide_eq_true rfl]
      obtain ⟨us2, eu, nu⟩ := R.evs st
      have hul : us2.length < 1000 := by
        rw [lenN nu]
        unfold evs
        split
        · exact hl1
        · exact hl2
      refine iteT ⟨_, rfl, A.p, C, A.dx, _, _, rfl, R.ob, T.cl, T.n4, pfs_sn _ _ _ _ _, _, rfl, a, _, _, _, rfl, rfl, SqT.of ea2, tix1, A.sn, _, rfl, R.seat hst, .inl ⟨rfl, _, SqL.of eu⟩, _, rfl, A.p, A.dx, _, rfl, R.ob, vnf _ _ _ _ _, _, rfl, a, _, _, _, rfl, rfl, SqT.of ea2, tix2, A, ns, xs, pl, y2, e, rfl, R, d3, he, by show 2 ≤ sizeLine; decide, fun t ht => ?_⟩
      have s1 := same_upd (o := .tup [.str "shown", .int (evE pl.st e)]) ht
      have R1 := R.same s1
      have nk : Nest (upd H t (.tup [.str "shown", .int (evE pl.st e)])) (shownK (evE pl.st e)) (.ref t) := .tup upd_same (.cons (.text _) (.cons (.num _) .nil))
      obtain ⟨R2, fr⟩ := R1.putE (s1 _ _ eu) (nestL_tk (Tk.same s1) nu) nk (by omega)
      exact ⟨seatL A st, _, _, rfl, rfl, s1 _ _ eu, Nat.lt_of_lt_of_le hul (by decide), q _ R2 ((Fr.same s1).trans fr) ((Dm.same s1).trans Dm.upd)⟩
    | pay k e =>
      obtain ⟨a2, xs2, e1, ea2, da⟩ := hv.tupI
      cases e1
      obtain ⟨z, y2, rfl, d1, d3⟩ := da.c2
      obtain rfl := d1.strI
      obtain ⟨hk, he⟩ := hx
      rw [hd (show Sm.kind (.pay k e) ≠ "if" by show k ≠ "if"; rcases hk with rfl | rfl <;> decide +kernel)]
      refine iteF ⟨_, rfl, rfl, _, rfl, ?_⟩
      rw [hd (show Sm.kind (.pay k e) ≠ "set" by show k ≠ "set"; rcases hk with rfl | rfl <;> decide +kernel)]
      refine iteF ⟨_, rfl, rfl, _, rfl, ?_⟩
      rw [hd (show Sm.kind (.pay k e) ≠ "show" by show k ≠ "show"; rcases hk with rfl | rfl <;> decide +kernel)]
      refine iteF ⟨_, rfl, rfl, _, rfl, ?_⟩
      by_cases hp : k = "pay"
      · subst hp
        rw [show decide (V.str (Sm.kind (.pay "pay" e)) = V.str ("pay" : Str)) = true from decide_eq_true rfl]
        obtain ⟨R2, fr⟩ := R.putP (pl.paid + evE pl.st e)
        refine iteT ⟨_, rfl, A.p, C, A.dx, _, _, rfl, R.ob, T.cl, T.n3, pfs_pd _ _ _ _ _, _, rfl, A.p, A.dx, _, rfl, R.ob, vnf _ _ _ _ _, _, rfl, a, _, _, _, rfl, rfl, SqT.of ea2, tix1, A, ns, xs, pl, y2, e, rfl, R, d3, he, _, _, rfl, rfl, A.dx, _, R.ob, by rw [pfs_len]; decide, ?_⟩
        rw [pfs_put]
        exact q _ R2 fr Dm.upd
      · rw [hd (show Sm.kind (.pay k e) ≠ "pay" from hp)]
        obtain ⟨R2, fr⟩ := R.putP (pl.paid - evE pl.st e)
        refine iteF ⟨_, rfl, A.p, C, A.dx, _, _, rfl, R.ob, T.cl, T.n3, pfs_pd _ _ _ _ _, _, rfl, A.p, A.dx, _, rfl, R.ob, vnf _ _ _ _ _, _, rfl, a, _, _, _, rfl, rfl, SqT.of ea2, tix1, A, ns, xs, pl, y2, e, rfl, R, d3, he, _, _, rfl, rfl, A.dx, _, R.ob, by rw [pfs_len]; decide, ?_⟩
        rw [pfs_put]
        refine q _ ?_ fr Dm.upd
        show PlayAt C _ A ns xs { pl with paid := if k = "pay" then pl.paid + evE pl.st e else pl.paid - evE pl.st e }
        rw [if_neg hp]
        exact R2
end
end K1

set_option Elab.async false
set_option linter.all false
set_option maxRecDepth 100000
set_option maxHeartbeats 4000000
/-! Play.go_on. -/
namespace K1
open PySem PySem.Spec PyProof.Rows L2 Kx Kd
mutual
/-- how many statements -/
def Sm.wt : Sm → Nat
  | .ifs _ a b => a.wt + b.wt + 1
  | _ => 1
def Bk.wt : Bk → Nat
  | .nil => 0
  | .cons s b => s.wt + b.wt
end
def wtL (l : List Sm) : Nat := (l.map Sm.wt).sum
theorem wtL_cons (x : Sm) (l : List Sm) : wtL (x :: l) = x.wt + wtL l := by
  unfold wtL
  rw [List.map_cons, List.sum_cons]
theorem wtL_app (a b : List Sm) : wtL (a ++ b) = wtL a + wtL b := by
  induction a with
  | nil => rw [List.nil_append]; show _ = 0 + _; rw [Nat.zero_add]
  | cons x r ih => rw [List.cons_append, wtL_cons, wtL_cons, ih, Nat.add_assoc]
theorem wt_sl : ∀ b : Bk, wtL b.sl = b.wt
  | .nil => rfl
  | .cons s b => by
    show wtL (s :: b.sl) = s.wt + b.wt
    rw [wtL_cons, wt_sl b]
theorem wt_pos (x : Sm) : 1 ≤ x.wt := by
  cases x with
  | ifs e a b => show 1 ≤ a.wt + b.wt + 1; omega
  | _ => exact Nat.le_refl _
theorem len_wt : ∀ l : List Sm, l.length ≤ wtL l
  | [] => Nat.le_refl _
  | x :: r => by
    have := len_wt r
    have := wt_pos x
    rw [List.length_cons, wtL_cons]
    omega
theorem pv_sl {ns : List Str} : ∀ {b : Bk}, b.pv ns → ∀ x ∈ b.sl, x.pv ns
  | .nil, _, x, hx => nomatch hx
  | .cons s b, h, x, hx => by
    obtain ⟨h1, h2⟩ := h
    rcases List.mem_cons.mp hx with rfl | hx
    · exact h1
    · exact pv_sl h2 x hx
/-- what is ahead is small and right -/
structure PlOk (ns : List Str) (B : Nat) (pl : Pl) : Prop where
  pv : ∀ x ∈ pl.todo, x.pv ns
  b1 : pl.e1.length + 2 * wtL pl.todo ≤ B
  b2 : pl.e2.length + 2 * wtL pl.todo ≤ B
theorem perf_ok {ns : List Str} {B : Nat} {xs : List (Str × Int)} {pl : Pl} {x : Sm} {r : List Sm} (h : PlOk ns B pl) (e : pl.todo = x :: r) (hc : x.chance = false) : PlOk ns B (perf xs { pl with todo := r } x) ∧ wtL (perf xs { pl with todo := r } x).todo < wtL pl.todo := by
  obtain ⟨pv, b1, b2⟩ := h
  rw [e] at pv b1 b2
  rw [wtL_cons] at b1 b2
  have hp := wt_pos x
  have hx := pv x (List.mem_cons_self ..)
  have hr : ∀ y ∈ r, y.pv ns := fun y hy => pv y (List.mem_cons_of_mem _ hy)
  rw [e, wtL_cons]
  cases x with
  | draw x n => cases hc
  | move k x n m => cases hc
  | set x ex => exact ⟨⟨hr, show pl.e1.length + 2 * wtL r ≤ B by omega, show pl.e2.length + 2 * wtL r ≤ B by omega⟩, show wtL r < _ by omega⟩
  | pay k ex => exact ⟨⟨hr, show pl.e1.length + 2 * wtL r ≤ B by omega, show pl.e2.length + 2 * wtL r ≤ B by omega⟩, show wtL r < _ by omega⟩
  | show_ s ex =>
    show PlOk ns B (addE { pl with todo := r } s _) ∧ wtL (addE { pl with todo := r } s _).todo < _
    unfold addE
    split
    · exact ⟨⟨hr, show (pl.e1 ++ [_]).length + 2 * wtL r ≤ B by rw [List.length_append, List.length_singleton]; omega, show pl.e2.length + 2 * wtL r ≤ B by omega⟩, show wtL r < _ by omega⟩
    · exact ⟨⟨hr, show pl.e1.length + 2 * wtL r ≤ B by omega, show (pl.e2 ++ [_]).length + 2 * wtL r ≤ B by rw [List.length_append, List.length_singleton]; omega⟩, show wtL r < _ by omega⟩
  | ifs ex a b =>
    obtain ⟨_, ha, hb⟩ := hx
    have hw : (Sm.ifs ex a b).wt = a.wt + b.wt + 1 := rfl
    show PlOk ns B { pl with todo := (if evE pl.st ex ≠ 0 then a.sl else b.sl) ++ r } ∧ wtL ((if evE pl.st ex ≠ 0 then a.sl else b.sl) ++ r) < _
    have key : ∀ c : Bk, c.pv ns → c.wt ≤ a.wt + b.wt → PlOk ns B { pl with todo := c.sl ++ r } ∧ wtL (c.sl ++ r) < (Sm.ifs ex a b).wt + wtL r := fun c hc hw2 => by
      have e2 : wtL (c.sl ++ r) = c.wt + wtL r := by rw [wtL_app, wt_sl]
      refine ⟨⟨fun y hy => ?_, ?_, ?_⟩, by omega⟩
      · rcases List.mem_append.mp hy with hy | hy
        · exact pv_sl hc y hy
        · exact hr y hy
      · show pl.e1.length + 2 * wtL (c.sl ++ r) ≤ B
        omega
      · show pl.e2.length + 2 * wtL (c.sl ++ r) ≤ B
        omega
    split
    · exact key a ha (by omega)
    · exact key b hb (by omega)
def goOn (xs : List (Str × Int)) : Nat → Pl → Pl × Option Sm
  | 0, pl => (pl, none)
  | n + 1, pl => match pl.todo with
    | [] => (pl, none)
    | x :: r => if x.chance = true then ({ pl with todo := r }, some x) else goOn xs n (perf xs { pl with todo := r } x)
theorem goOn_nil {xs : List (Str × Int)} {n : Nat} {pl : Pl} (h : pl.todo = []) : goOn xs n pl = (pl, none) := by
  cases n with
  | zero => rfl
  | succ n =>
    unfold goOn
    rw [h]
theorem goOn_chance {xs : List (Str × Int)} {n : Nat} {pl : Pl} {x : Sm} {r : List Sm} (h : pl.todo = x :: r) (hc : x.chance = true) : goOn xs (n + 1) pl = ({ pl with todo := r }, some x) := by
  show (match pl.todo with
    | [] => (pl, none)
    | x :: r => if x.chance = true then ({ pl with todo := r }, some x) else goOn xs n (perf xs { pl with todo := r } x)) = _
  rw [h]
  dsimp only
  rw [if_pos hc]
theorem goOn_step {xs : List (Str × Int)} {n : Nat} {pl : Pl} {x : Sm} {r : List Sm} (h : pl.todo = x :: r) (hc : x.chance = false) : goOn xs (n + 1) pl = goOn xs n (perf xs { pl with todo := r } x) := by
  show (match pl.todo with
    | [] => (pl, none)
    | x :: r => if x.chance = true then ({ pl with todo := r }, some x) else goOn xs n (perf xs { pl with todo := r } x)) = _
  rw [h]
  dsimp only
  rw [hc, if_neg Bool.false_ne_true]
/-- what stands behind go_on -/
theorem goOn_ok {ns : List Str} {B : Nat} {xs : List (Str × Int)} : ∀ {n : Nat} {pl : Pl}, PlOk ns B pl → wtL pl.todo ≤ n → PlOk ns B (goOn xs n pl).1 ∧ (∀ x, (goOn xs n pl).2 = some x → x.chance = true ∧ x.pv ns ∧ (goOn xs n pl).1.e1.length + 2 * wtL (goOn xs n pl).1.todo + 2 ≤ B ∧ (goOn xs n pl).1.e2.length + 2 * wtL (goOn xs n pl).1.todo + 2 ≤ B) ∧ ((goOn xs n pl).2 = none → (goOn xs n pl).1.todo = [])
  | 0, pl, h, hn => by
    refine ⟨h, (fun x e => nomatch e), fun _ => ?_⟩
    have := len_wt pl.todo
    exact List.length_eq_zero_iff.mp (by show pl.todo.length = 0; omega)
  | n + 1, pl, h, hn => by
    cases e : pl.todo with
    | nil =>
      rw [goOn_nil e]
      exact ⟨h, fun x e => (nomatch e), fun _ => e⟩
    | cons x r =>
      cases hc : x.chance with
      | true =>
        rw [goOn_chance e hc]
        obtain ⟨pv, b1, b2⟩ := h
        rw [e] at pv b1 b2
        rw [wtL_cons] at b1 b2
        have hp := wt_pos x
        refine ⟨⟨fun y hy => pv y (List.mem_cons_of_mem _ hy), show pl.e1.length + 2 * wtL r ≤ B by omega, show pl.e2.length + 2 * wtL r ≤ B by omega⟩, fun y hy => ?_, fun z => nomatch z⟩
        have hy : x = y := Option.some.inj hy
        subst hy
        exact ⟨hc, pv x (List.mem_cons_self ..), show pl.e1.length + 2 * wtL r + 2 ≤ B by omega, show pl.e2.length + 2 * wtL r + 2 ≤ B by omega⟩
      | false =>
        rw [goOn_step e hc]
        obtain ⟨h1, h2⟩ := perf_ok (xs := xs) h e hc
        exact goOn_ok h1 (by omega)
/-! ### the def -/
theorem eqV_str (a b : Str) : eqV (.str a) (.str b) = (a == b) := rfl
theorem inV_str (x : Str) : ∀ xs : List Str, inV (.str x) (xs.map V.str) = xs.contains x
  | [] => rfl
  | y :: xs => by
    show (eqV (.str y) (.str x) || inV (.str x) (xs.map V.str)) = _
    rw [inV_str x xs, List.contains_cons, eqV_str]
    congr 1
    exact Bool.eq_iff_iff.mpr ⟨fun h => by rw [eq_of_beq h]; exact beq_self_eq_true _, fun h => by rw [eq_of_beq h]; exact beq_self_eq_true _⟩
theorem flat_strs (xs : List Str) : (xs.map V.str).all flatV = true := by
  rw [List.all_map]
  exact List.all_eq_true.mpr fun _ _ => rfl
def CHS : List Str := ["draw", "choose", "come"]
theorem chance_in {ns : List Str} {x : Sm} (h : x.pv ns) : CHS.contains x.kind = x.chance := by
  cases x with
  | draw y n => show CHS.contains "draw" = true; decide +kernel
  | set y e => show CHS.contains "set" = false; decide +kernel
  | show_ s e => show CHS.contains "show" = false; decide +kernel
  | ifs e a b => show CHS.contains "if" = false; decide +kernel
  | move k y n m =>
    show CHS.contains k = true
    rcases h.1 with rfl | rfl <;> decide +kernel
  | pay k e =>
    show CHS.contains k = false
    rcases h.1 with rfl | rfl <;> decide +kernel
theorem dt_snoc {H : Hp} {x : PyData} : ∀ {us : List V} {ds : List PyData}, DtAll H us (ds ++ [x]) → ∃ vs v, us = vs ++ [v] ∧ DtAll H vs ds ∧ Dt H v x
  | [], [], h => nomatch h
  | [], _ :: _, h => nomatch h
  | v :: us, [], h => by
    cases h with
    | cons a r =>
      cases r
      exact ⟨[], v, rfl, .nil, a⟩
  | v :: us, d :: ds, h => by
    cases h with
    | cons a r =>
      obtain ⟨vs, y, rfl, h1, h2⟩ := dt_snoc r
      exact ⟨v :: vs, y, rfl, .cons a h1, h2⟩
def spGo (C : Addr) : Sp := fun vs H Q _ => ∃ (A : Pad) (ns : List Str) (xs : List (Str × Int)) (pl : Pl) (B : Nat), vs = [.ref A.p] ∧ PlayAt C H A ns xs pl ∧ PlOk ns B pl ∧ B ≤ 900 ∧
  ∀ (v : V) H', PlayAt C H' A ns xs (goOn xs (wtL pl.todo) pl).1 → Fr A H H' → Dm H H' → (match (goOn xs (wtL pl.todo) pl).2 with | none => v = .non | some x => Dt H' v x.d) → Q v H'
section
variable {P : Program} {w : World} {K : PySem.W.Frag} {mg : Str → Option Value} {base : Heap} {C : Addr} {fP : Addr} {dP : FuncData}
theorem scGo : FnScope ["self", "statement"] ["self"] (defScope sGo) := ⟨rfl, rfl, rfl, by decide +kernel, rfl, by decide +kernel, by decide +kernel⟩
theorem ok_go {k : Nat} {f : Addr} {fd : FuncData} (F : Fun K "go_on" "Play.go_on" sGo f fd) (T : TxPl K mg C) {aC : Addr} (hC : mg "CHANCES" = some (.ref aC)) (hC2 : ∀ H, SqT K H aC (CHS.map V.str)) (P1 : Mt0 P w K mg base C k "perform" ["self", "statement"] (spPerf C) fP dP) : FnOk P w K mg base CX0 (k + 1) f fd ["self"] (spGo C) := by
  refine F.ok scGo (fun vs H Q E h => ?_) (fun cdv A0 outer s H vs Q E hr h => ?_)
  · obtain ⟨A, ns, xs, pl, B, rfl, _⟩ := h
    rfl
  · obtain ⟨A, ns, xs, pl, B, rfl, R, ok, hB, q⟩ := h
    refine ⟨_, pss_cons (ps_while PassesOwn.never (pt_truth (pe_fld (pv 0) rfl) (by intro _; rfl))
        (pss_cons (ps_set (i := 1) scGo.nd rfl (Or.inl rfl) (pe_bm0 PySem.F.plainAttrs_list PySem.F.slot_list_pop PySem.F.type_list_pop mt_pop (pe_fld (pv 0) rfl)))
        (pss_cons (ps_if (pt_cmpR op_in_seq (pe_ix ix_tup (pv 1) pe_int (fun _ _ => rfl)) (pe_glob (v := .ref aC) rfl hC rfl) rfl) (pss_one (ps_ret (pv 1))) pss_nil)
        (pss_one (ps_expr (pe_meth (pv 0) T.cl P1.mt P1.ok hr P1.bd .nil pass0 (pa_cons (pv 1) pa_nil)))))))
      (pss_one (ps_ret pe_non)), ?_⟩
    have pnf := nf (m := "perform") (by decide +kernel)
    let Pv : Nat → L2.St → Hp → Prop := fun n σ H' => ∃ (v1 : Option V) (pl' : Pl) (m : Nat), n = wtL pl'.todo ∧ σ = [some (.ref A.p), v1] ∧ PlayAt C H' A ns xs pl' ∧ PlOk ns B pl' ∧ Fr A H H' ∧ Dm H H' ∧ wtL pl'.todo ≤ m ∧ goOn xs (wtL pl.todo) pl = goOn xs m pl'
    refine ⟨Pv, ⟨_, none, pl, wtL pl.todo, rfl, rfl, R, ok, Fr.refl _ _, fun _ h => h, Nat.le_refl _, rfl⟩, ?_⟩
    rintro n σ H1 ⟨v1, pl', m, rfl, rfl, R1, ok1, fr, dm, hm, hg⟩
    obtain ⟨us, eu, du, _⟩ := R1.ht
    refine ⟨_, rfl, A.p, C, A.dx, _, _, rfl, R1.ob, T.cl, T.n5, pfs_td _ _ _ _ _, !us.isEmpty, .inl ⟨us, SqL.of eu, rfl⟩, ?_⟩
    cases htd : pl'.todo with
    | nil =>
      rw [htd] at du
      have hu : us = [] := by
        have := lenD du
        exact List.length_eq_zero_iff.mp this
      subst hu
      refine iteF ?_
      rw [goOn_nil htd] at hg
      refine q .non H1 ?_ fr dm ?_
      · rw [hg]
        exact R1
      · rw [hg]
    | cons x r =>
      rw [htd, List.reverse_cons, List.map_append] at du
      obtain ⟨vs, v, rfl, d1, d2⟩ := dt_snoc du
      have he : (!(vs ++ [v]).isEmpty) = true := by cases vs <;> rfl
      rw [he]
      refine iteT ⟨fun σ' H' => ∃ n', n' < wtL (x :: r) ∧ Pv n' σ' H', fun _ _ h => h, ?_⟩
      have hpv := ok1.pv
      rw [htd] at hpv
      have hxv := hpv x (List.mem_cons_self ..)
      have dr : (vs ++ [v]).dropLast = vs := List.dropLast_concat
      have hat : (vs ++ [v])[(vs ++ [v]).length - 1]? = some v := by
        rw [List.length_append, List.length_singleton, Nat.add_sub_cancel, List.getElem?_append_right (Nat.le_refl _), Nat.sub_self]
        rfl
      have hvl : vs.length ≤ 100000 := by
        have h1 := lenD d1
        rw [List.length_map, List.length_reverse] at h1
        have h2 := len_wt pl'.todo
        have h3 := ok1.b1
        rw [htd, List.length_cons] at h2
        rw [htd] at h3
        omega
      obtain ⟨R2, fr2⟩ := R1.putT (us := vs) (td := r) d1 hvl
      have dv : Dt (upd H1 A.td (.lst vs)) v x.d := d2.keep (tk_lst eu)
      have dm2 : Dm H1 (upd H1 A.td (.lst vs)) := Dm.upd
      refine ⟨_, rfl, A.p, C, A.dx, _, _, rfl, R1.ob, T.cl, T.n5, pfs_td _ _ _ _ _, .inl ⟨rfl, _, SqL.of eu⟩, A.td, _, v, rfl, rfl, eu, hat, ?_⟩
      rw [dr]
      generalize upd H1 A.td (.lst vs) = H2 at *
      obtain ⟨a, us2, rfl, ea⟩ := sm_head dv
      refine ⟨_, rfl, a, _, _, _, rfl, rfl, SqT.of ea, tix0, aC, _, rfl, .inr (hC2 _), rfl, flat_strs _, ?_⟩
      rw [if_neg Bool.false_ne_true, inV_str, chance_in hxv]
      refine ⟨_, rfl, ?_⟩
      have hmp : 1 ≤ m := by
        have := wt_pos x
        rw [htd, wtL_cons] at hm
        omega
      obtain ⟨m, rfl⟩ : ∃ m', m = m' + 1 := ⟨m - 1, by omega⟩
      cases hc : x.chance with
      | true =>
        rw [goOn_chance htd hc] at hg
        refine iteT ⟨_, rfl, q _ H2 ?_ (fr.trans fr2) (dm.trans dm2) ?_⟩
        · rw [hg]
          exact R2
        · rw [hg]
          exact dv
      | false =>
        rw [goOn_step htd hc] at hg
        obtain ⟨ok2, hlt⟩ := perf_ok (xs := xs) ok1 htd hc
        have hwide : x.wide := by
          cases x with
          | ifs e b1 b2 =>
            have hw : (Sm.ifs e b1 b2).wt = b1.wt + b2.wt + 1 := rfl
            have h1 := len_wt b1.sl
            have h2 := len_wt b2.sl
            rw [wt_sl] at h1 h2
            have h3 := ok1.b1
            rw [htd, wtL_cons] at h3
            exact ⟨by omega, by omega⟩
          | _ => trivial
        have h1 := ok1.b1
        have h2 := ok1.b2
        have h3 := len_wt r
        rw [htd, wtL_cons] at h1 h2
        have h4 := wt_pos x
        refine iteF ⟨_, rfl, A.p, A.dx, _, rfl, R2.ob, pnf _ _ _ _ _, _, rfl, A, ns, xs, _, .ref a, x, rfl, R2, dv, hxv, hc, hwide, show pl'.e1.length < 1000 by omega, show pl'.e2.length < 1000 by omega, show r.length ≤ 1000 by omega, fun H3 R3 fr3 dm3 => ?_⟩
        exact ⟨_, by rw [← htd]; exact hlt, _, _, m, rfl, rfl, R3, ok2, (fr.trans fr2).trans fr3, (dm.trans dm2).trans dm3, by omega, hg⟩
end
end K1

set_option Elab.async false
set_option linter.all false
set_option maxRecDepth 100000
set_option maxHeartbeats 4000000
/-! Play.behind. -/
namespace K1
open PySem PySem.Spec PyProof.Rows L2 Kx Kd
def rLof (K : PySem.W.Frag) : List V → Hp → VK → Prop := fun xs H Q => ∃ p ys, xs = [.ref p] ∧ (SqL K H p ys ∨ SqT K H p ys) ∧ ∀ l, H l = none → Q (.ref l) (upd H l (.lst ys))
theorem call_list_ofK {X : Cx} {K : PySem.W.Frag} (h : X.K = K) : CallR X (.type "list") (rLof K) := by
  subst h
  exact call_list_of
theorem pe_fldK {X : Cx} {K : PySem.W.Frag} {e : Expr} {f : Str} {pos : Pos} {ta : TE} (h : X.K = K) (he : PE X e ta) (hb : attributeBase e f X.env (eval e X.env) = eval e X.env) : PE X (.Attribute e f pos) (tFld K ta f) := by
  subst h
  exact pe_fld he hb
def didK (n : Int) : NestedKey := .tup [.text "did", .num n]
def Sm.nm : Sm → Str
  | .draw x _ => x
  | .move _ x _ _ => x
  | _ => ""
def Sm.rs : Sm → Int
  | .draw _ n => n
  | .move _ _ n _ => n
  | _ => 0
def behE (pl : Pl) (x : Sm) (r : Int) : Pl := if x.kind = "draw" then pl else addE pl (seatOf x) (didK r)
def behP (xs : List (Str × Int)) (pl : Pl) (x : Sm) (r : Int) : Pl := stP xs (behE pl x r) x.nm r
/-- all parts but the sizes are new -/
structure New (H : Hp) (A : Pad) : Prop where
  p : H A.p = none
  so : H A.so = none
  sn : H A.sn = none
  td : H A.td = none
  l1 : H A.l1 = none
  l2 : H A.l2 = none
theorem Fr.new {H H1 H2 : Hp} {A : Pad} (n : New H A) (s : Same H H1) (f : Fr A H1 H2) : Same H H2 := fun b o e => f b o (s b o e) (ne_of_none e n.p) (ne_of_none e n.so) (ne_of_none e n.td) (ne_of_none e n.l1) (ne_of_none e n.l2)
theorem seat_ok (x : Sm) : Seat (seatOf x) := by
  unfold seatOf
  split
  · exact .inl rfl
  · exact .inr rfl
def spBeh (C : Addr) : Sp := fun vs H Q _ => ∃ (A : Pad) (ns : List Str) (xs : List (Str × Int)) (pl : Pl) (v : V) (x : Sm) (r : Int), vs = [.ref A.p, v, .int r] ∧ PlayAt C H A ns xs pl ∧ Dt H v x.d ∧ x.chance = true ∧ x.pv ns ∧ 0 ≤ r ∧ pl.e1.length < 1000 ∧ pl.e2.length < 1000 ∧
  ∀ (A' : Pad) (H' : Hp), PlayAt C H' A' ns xs (behP xs pl x r) → Same H H' → A'.sz = A.sz → New H A' → Q (.ref A'.p) H'
theorem chance_nm {ns : List Str} {x : Sm} (hc : x.chance = true) (h : x.pv ns) : x.nm ∈ ns := by
  cases x with
  | draw y n => exact h.1
  | move k y n m => exact h.2.1
  | set y e => cases hc
  | show_ s e => cases hc
  | pay k e => cases hc
  | ifs e a b => cases hc
/-- the second item of a chance is its variable -/
theorem chance_at {H : Hp} {v : V} {x : Sm} (hc : x.chance = true) (h : Dt H v x.d) : ∃ a us, v = .ref a ∧ H a = some (.tup (.str x.kind :: .str x.nm :: .int x.rs :: us)) := by
  cases x with
  | draw y n =>
    obtain ⟨a, xs, rfl, ea, da⟩ := h.tupI
    obtain ⟨u1, u2, u3, rfl, d1, d2, d3⟩ := da.c3
    obtain rfl := d1.strI
    obtain rfl := d2.strI
    obtain rfl := d3.intI
    exact ⟨a, _, rfl, ea⟩
  | move k y n m =>
    obtain ⟨a, xs, rfl, ea, da⟩ := h.tupI
    obtain ⟨u1, u2, u3, u4, rfl, d1, d2, d3, d4⟩ := da.c4
    obtain rfl := d1.strI
    obtain rfl := d2.strI
    obtain rfl := d3.intI
    exact ⟨a, _, rfl, ea⟩
  | set y e => cases hc
  | show_ s e => cases hc
  | pay k e => cases hc
  | ifs e a b => cases hc
abbrev SEA : List Str := ["chooser", "comer"]
abbrev NBe : List Str := ["self", "statement", "result", "seen", "play", "seat"]
section
variable {P : Program} {w : World} {K : PySem.W.Frag} {mg : Str → Option Value} {base : Heap} {C : Addr} {fI fS fO : Addr} {dI dS dO : FuncData}
theorem scBeh : FnScope NBe ["self", "statement", "result"] (defScope sBeh) := ⟨rfl, rfl, rfl, by decide +kernel, rfl, by decide +kernel, by decide +kernel⟩
theorem ok_beh {f : Addr} {fd : FuncData} (F : Fun K "behind" "Play.behind" sBeh f fd) (T : TxPl K mg C) (hlist : mg "list" = none) (hdict : mg "dict" = none) {aS : Addr} (hS : mg "SEATS" = some (.ref aS)) (hS2 : ∀ H, SqT K H aS (SEA.map V.str)) (MI : Mk K C fI) (GI : FnOk P w K mg base CX0 1 fI dI ["self", "sizes", "stored", "paid", "seen", "todo"] (spPIn C)) (bI : Binds K dI ["self", "sizes", "stored", "paid", "seen", "todo"] [])
    (O1 : Fn0 P w K mg base 1 "seat_of" ["statement"] spSeat fO dO) (S1 : Mt0 P w K mg base C 1 "store" ["self", "name", "value"] (spStore C) fS dS) : FnOk P w K mg base CX0 3 f fd ["self", "statement", "result"] (spBeh C) := by
  refine F.ok scBeh (fun vs H Q E h => ?_) (fun cdv A0 outer s H vs Q E hr h => ?_)
  · obtain ⟨A, ns, xs, pl, v, x, r, rfl, _⟩ := h
    rfl
  · obtain ⟨A, ns, xs, pl, v, x, r, rfl, R, hv, hc, hx, hr0, hl1, hl2, q⟩ := h
    have hr1 : Room 1 _ := hr.mono (by decide)
    have hr2 : Room 2 _ := hr
    have hu1 : (A0.deeper (envOfC "Play.behind" (defScope sBeh) s.heap.objs.size f cdv)).units + 1 < cLine := by have := hr.un; omega
    have snf := nf (m := "store") (by decide +kernel)
    have hrest : ∃ t, PSs (cxOf CX0 P w K mg base NBe "Play.behind" (defScope sBeh) f cdv A0 outer s H E).nox ((defBody sBeh).drop 3) t ∧ ∀ (H1 : Hp) (A' : Pad) (v3 : Option V), PlayAt C H1 A' ns xs (behE pl x r) → Same H H1 → A'.sz = A.sz → New H A' → t { nx := fun _ H' => Q .non H', rt := Q } [some (.ref A.p), some v, some (.int r), v3, some (.ref A'.p), none] H1 := by
      refine ⟨_, pss_cons (ps_expr (pe_meth (pv 4) T.cl S1.mt S1.ok hr1 S1.bd .nil pass0 (pa_cons (pe_ix ix_tup (pv 1) pe_int (fun _ _ => rfl)) (pa_cons (pv 2) pa_nil)))) (pss_one (ps_ret (pv 4))), ?_⟩
      intro H1 A' v3 R1 s1 ez nw
      obtain ⟨a, us, rfl, ea⟩ := chance_at hc hv
      refine ⟨_, rfl, A'.p, A'.dx, _, rfl, R1.ob, snf _ _ _ _ _, _, rfl, a, _, _, _, rfl, rfl, SqT.of (s1 _ _ ea), tix1, _, rfl, A', ns, xs, _, x.nm, r, rfl, R1, chance_nm hc hx, hr0, fun H2 R2 fr dm => ⟨_, rfl, ?_⟩⟩
      exact q A' H2 R2 (Fr.new nw s1 fr) ez nw
    obtain ⟨tr, htr, rest⟩ := hrest
    refine ⟨_, pss_cons (Kt.ps_setDc (i := 3) (own := [("seat", 5)]) (g := gName 5) (tt := tYes) (tk := tVar 5) (tv := tCB (rLof K) (tCons (tDGet (tFld K (tVar 0) "seen") (tVar 5)) tNil)) rfl scBeh.nd rfl rfl (Kt.swD_true rfl rfl rfl (by decide +kernel)) (pi_tup (pe_glob (v := .ref aS) rfl hS rfl)) (blkOk_by (N := NBe) (sc := defScope sBeh) (by decide +kernel))
          (fun _ _ _ _ _ => pg_name (i := 5) scBeh.nd rfl (Or.inl rfl)) (fun _ _ _ _ _ => pts_nil) (fun _ _ _ _ _ => pv 5) (fun _ _ _ _ _ => pe_callTy (call_list_ofK (K := K) (by rfl)) (by rfl) hlist (by decide +kernel) (pa_cons (pe_dget (by exact hu1) (pe_fldK (by rfl) (pv 0) rfl) (pv 5) (fun _ _ => rfl)) pa_nil)))
      (pss_cons (ps_set (i := 4) scBeh.nd rfl (Or.inl rfl) (pe_make MI GI hr2 rfl T.mgC bI .nil pass0 (pa_cons (pe_fld (pv 0) rfl) (pa_cons (pe_callTy call_dictD (by rfl) hdict (by decide +kernel) (pa_cons (pe_fld (pv 0) rfl) pa_nil)) (pa_cons (pe_fld (pv 0) rfl) (pa_cons (pv 3) (pa_cons (pe_callTy call_list_of (by rfl) hlist (by decide +kernel) (pa_cons (pe_fld (pv 0) rfl) pa_nil)) pa_nil)))))))
      (pss_cons (ps_if (pt_cmpR op_ne (pe_ix ix_tup (pv 1) pe_int (fun _ _ => rfl)) pe_str (nomark _)) (pss_one (ps_expr (pe_bm PySem.F.plainAttrs_list PySem.F.slot_list_append PySem.F.type_list_append mt_append (pe_dget hu1 (pv 3) (pe_call O1.ok hr1 (by rfl) O1.gl O1.kp O1.bd .nil pass0 (pa_cons (pv 1) pa_nil)) (fun _ _ => rfl)) (pa_cons (pe_tup (pa_cons pe_str (pa_cons (pv 2) pa_nil))) pa_nil)))) pss_nil)
      htr)), ?_⟩
    obtain ⟨u1, a1, n1, c1⟩ := R.h1
    obtain ⟨u2, a2, n2, c2⟩ := R.h2
    obtain ⟨u3, a3, n3, c3⟩ := R.ht
    refine ⟨aS, rfl, ⟨_, hS2 _⟩, fun D hD => ?_⟩
    let Pv : Nat → Hp → Prop := fun i H' => Same H H' ∧ (i = 0 → H' D = some (.dK [])) ∧ (i = 1 → ∃ l1, H l1 = none ∧ l1 ≠ D ∧ H' l1 = some (.lst u1) ∧ H' D = some (.dK [(Sum.inr "chooser", .ref l1)])) ∧
      (i = 2 → ∃ l1 l2, H l1 = none ∧ H l2 = none ∧ l1 ≠ D ∧ l2 ≠ D ∧ l1 ≠ l2 ∧ H' l1 = some (.lst u1) ∧ H' l2 = some (.lst u2) ∧ H' D = some (.dK (seK l1 l2)))
    refine dc_tup (xs := SEA.map V.str) Pv ⟨same_upd hD, fun _ => upd_same, (fun z => nomatch z), (fun z => nomatch z)⟩ (fun i H' _ _ => hS2 H') ?_ ?_
    · rintro i y H1 hy ⟨s1, p0, p1, p2⟩
      match i, hy with
      | 0, hy =>
        cases hy
        have eD := p0 rfl
        refine ⟨rfl, tYesI ⟨_, rfl, _, rfl, A.p, C, A.dx, _, _, rfl, s1 _ _ R.ob, T.cl, T.n4, pfs_sn _ _ _ _ _, _, rfl, A.sn, _, rfl, (R.same s1).seat (.inl rfl), A.l1, u1, rfl, .inl (SqL.of (s1 _ _ a1)), fun l hl => ?_⟩⟩
        have nlD : l ≠ D := fun e => by rw [e, eD] at hl; cases hl
        have hlH : H l = none := s1.free hl
        refine ⟨[], Sum.inr "chooser", rfl, by rw [upd_ne nlD.symm]; exact eD, by show 0 < sizeLine; decide, fun b o z => ?_, (fun z => nomatch z), fun _ => ⟨l, hlH, nlD, ?_, upd_same⟩, (fun z => nomatch z)⟩
        · rw [upd_ne (ne_of_none z hD), upd_ne (ne_of_none z hlH)]
          exact s1 _ _ z
        · rw [upd_ne nlD]
          exact upd_same
      | 1, hy =>
        cases hy
        obtain ⟨l1, hl1H, nl1, el1, eD⟩ := p1 rfl
        have sl2 : seatL A "comer" = A.l2 := if_neg (by decide +kernel)
        have g := (R.same s1).seat (s := "comer") (.inr rfl)
        rw [sl2] at g
        refine ⟨rfl, tYesI ⟨_, rfl, _, rfl, A.p, C, A.dx, _, _, rfl, s1 _ _ R.ob, T.cl, T.n4, pfs_sn _ _ _ _ _, _, rfl, A.sn, _, rfl, g, A.l2, u2, rfl, .inl (SqL.of (s1 _ _ a2)), fun l hl => ?_⟩⟩
        have nlD : l ≠ D := fun e => by rw [e, eD] at hl; cases hl
        have nl12 : l1 ≠ l := fun e => by rw [← e, el1] at hl; cases hl
        have hlH : H l = none := s1.free hl
        refine ⟨[(Sum.inr "chooser", .ref l1)], Sum.inr "comer", rfl, by rw [upd_ne nlD.symm]; exact eD, by show 1 < sizeLine; decide, fun b o z => ?_, (fun z => nomatch z), (fun z => nomatch z), fun _ => ⟨l1, l, hl1H, hlH, nl1, nlD, nl12, ?_, ?_, ?_⟩⟩
        · rw [upd_ne (ne_of_none z hD), upd_ne (ne_of_none z hlH)]
          exact s1 _ _ z
        · rw [upd_ne nl1, upd_ne nl12]
          exact el1
        · rw [upd_ne nlD]
          exact upd_same
        · rw [upd_same]
          rfl
      | n + 2, hy => cases hy
    rintro H1 ⟨s1, _, _, p2⟩
    obtain ⟨l1, l2, hl1H, hl2H, nl1, nl2, nl12, el1, el2, eD⟩ := p2 rfl
    have R1 := R.same s1
    refine ⟨_, rfl, A.p, C, A.dx, _, _, rfl, R1.ob, T.cl, T.n1, pfs_sz _ _ _ _ _, _, rfl, A.p, C, A.dx, _, _, rfl, R1.ob, T.cl, T.n2, pfs_so _ _ _ _ _, A.so, _, rfl, .inl R1.hs, fun so hso => ?_⟩
    have s2 := same_upd (o := .dK (stK pl.st)) hso
    have R2 := R1.same s2
    refine ⟨_, rfl, A.p, C, A.dx, _, _, rfl, R2.ob, T.cl, T.n3, pfs_pd _ _ _ _ _, _, rfl, _, rfl, A.p, C, A.dx, _, _, rfl, R2.ob, T.cl, T.n5, pfs_td _ _ _ _ _, A.td, u3, rfl, .inl (SqL.of (s2 _ _ (s1 _ _ a3))), fun td htd => ?_⟩
    have s3 := same_upd (o := .lst u3) htd
    intro z dz nz ndz nez
    have s4 : Same (upd (upd H1 so (.dK (stK pl.st))) td (.lst u3)) (upd (upd (upd (upd H1 so (.dK (stK pl.st))) td (.lst u3)) dz (.own z)) z (.ins C dz [])) := fun b o e => by
      rw [upd_ne (ne_of_none e nz), upd_ne (ne_of_none e ndz)]
      exact e
    refine ⟨z, dz, A.sz, so, D, td, pl.paid, rfl, upd_same, fun H5 e5 k5 => ⟨rfl, ?_⟩⟩
    have s5 : Same (upd (upd H1 so (.dK (stK pl.st))) td (.lst u3)) H5 := fun b o e => k5 _ _ (s4 _ _ e) (ne_of_none e nz)
    have esoX : H5 so = some (.dK (stK pl.st)) := s5 _ _ (s3 _ _ upd_same)
    have etdX : H5 td = some (.lst u3) := s5 _ _ upd_same
    have s15 : Same H1 H5 := (s2.trans s3).trans s5
    have s05 : Same H H5 := s1.trans s15
    have fz : H z = none := s1.free (s2.free (s3.free nz))
    have fso : H so = none := s1.free hso
    have ftd : H td = none := s1.free (s2.free htd)
    have hDso : so ≠ D := fun e => by rw [e, eD] at hso; cases hso
    have R5 : PlayAt C H5 ⟨z, dz, A.sz, so, D, td, l1, l2⟩ ns xs pl := by
      refine ⟨e5, s05 _ _ R.hz, esoX, s15 _ _ eD, ⟨u1, s15 _ _ el1, nestL_tk (Tk.same s05) n1, c1⟩, ⟨u2, s15 _ _ el2, nestL_tk (Tk.same s05) n2, c2⟩, ⟨u3, etdX, n3.keep (Tk.same s05), c3⟩, ?_, hDso, nl12, ?_, ?_, ?_, R.ok, R.zk⟩
      · exact ne_of_none R.hz fso
      · intro e
        have e : l1 = td := e
        have := s2 _ _ el1
        rw [e, htd] at this
        cases this
      · intro e
        have e : l2 = td := e
        have := s2 _ _ el2
        rw [e, htd] at this
        cases this
      · exact ne_of_none R.hz hD
    have nw : New H ⟨z, dz, A.sz, so, D, td, l1, l2⟩ := ⟨fz, fso, hD, ftd, hl1H, hl2H⟩
    obtain ⟨a, us, rfl, ea⟩ := sm_head hv
    refine ⟨_, rfl, a, _, _, _, rfl, rfl, SqT.of (s05 _ _ ea), tix0, rfl, _, rfl, ?_⟩
    by_cases hd : x.kind = "draw"
    · rw [show (!decide (V.str x.kind = V.str ("draw" : Str))) = false by rw [hd, decide_eq_true rfl]; rfl]
      refine iteF (rest H5 ⟨z, dz, A.sz, so, D, td, l1, l2⟩ _ ?_ s05 rfl nw)
      unfold behE
      rw [if_pos hd]
      exact R5
    · rw [show (!decide (V.str x.kind = V.str ("draw" : Str))) = true by rw [decide_eq_false (fun e => hd (V.str.inj e))]; rfl]
      obtain ⟨us2, eu, nu⟩ := R5.evs (seatOf x)
      have hul : us2.length < 1000 := by
        rw [lenN nu]
        unfold evs
        split
        · exact hl1
        · exact hl2
      refine iteT ⟨_, rfl, _, rfl, .ref a, x, rfl, hv.keep (Tk.same s05), D, _, rfl, R5.seat (seat_ok x), .inl ⟨rfl, _, SqL.of eu⟩, _, rfl, by show 2 ≤ sizeLine; decide, fun t ht => ?_⟩
      have s6 := same_upd (o := .tup [.str "did", .int r]) ht
      have R6 := R5.same s6
      have nk : Nest (upd H5 t (.tup [.str "did", .int r])) (didK r) (.ref t) := .tup upd_same (.cons (.text _) (.cons (.num _) .nil))
      obtain ⟨R7, fr⟩ := R6.putE (s6 _ _ eu) (nestL_tk (Tk.same s6) nu) nk (by omega)
      refine ⟨_, _, _, rfl, rfl, s6 _ _ eu, Nat.lt_of_lt_of_le hul (by decide), ?_⟩
      refine rest _ ⟨z, dz, A.sz, so, D, td, l1, l2⟩ _ ?_ (Fr.new nw (s05.trans s6) fr) rfl nw
      unfold behE
      rw [if_neg hd]
      exact R7
end
end K1

set_option Elab.async false
set_option linter.all false
set_option maxRecDepth 100000
set_option maxHeartbeats 4000000
/-! tuple(list) whose object is known to have no attributes (frozen); dict() of such a tuple of pairs. -/
namespace Kt
open PySem PySem.Spec PyProof.Rows L2
/-- a tuple whose object has no attributes -/
def FrzT (H : Hp) (a : Addr) (ys : List V) : Prop := ∃ o, H a = some (.frz o (.tup ys)) ∧ o.cls = .type "tuple" ∧ o.dict = none
theorem FrzT.same {H H' : Hp} {a : Addr} {ys : List V} (h : FrzT H a ys) (s : Same H H') : FrzT H' a ys := by
  obtain ⟨o, e, c, d⟩ := h
  exact ⟨o, s _ _ e, c, d⟩
theorem FrzT.rd {H : Hp} {a : Addr} {ys : List V} (h : FrzT H a ys) : Rd H a (.tup ys) := by
  obtain ⟨o, e, _⟩ := h
  exact .inr ⟨o, e⟩
theorem FrzT.sq {K : PySem.W.Frag} {H : Hp} {a : Addr} {ys : List V} (h : FrzT H a ys) : SqT K H a ys := .inl h.rd
section
variable {X : Cx}
theorem call_tuple_frz : CallR X (.type "tuple") (fun xs H Q => ∃ p ys, xs = [.ref p] ∧ SqL X.K H p ys ∧ ∀ l H', H l = none → FrzT H' l ys → (∀ b, b ≠ l → H' b = H b) → Q (.ref l) H') := by
  intro pins s σ H xs us Q I r h
  obtain ⟨p, ys, rfl, hq, q⟩ := h
  obtain ⟨u, rfl, rx⟩ := vals1 r
  cases rx
  obtain ⟨its, r', pl, hz⟩ := I.list hq
  have hlen := r'.length
  refine call_tuple_list pl.isList (fun h' kp => ?_) (by simp only [List.size_toArray] <;> omega)
  have I1 : Inv X pins σ H { s with heap := h' } := I.kept (t' := s.toks) kp
  have I2 : Inv X pins σ (upd H h'.objs.size (.frz { cls := .type "tuple", data := .seq its.toArray } (.tup ys))) { s with heap := h'.push { cls := .type "tuple", data := .seq its.toArray } } :=
    I1.laid (t' := s.toks) (fun b o e => Heap.get?_push_of_some _ e) (Nat.le_refl _) (show ObjOk X.prog X.w _ _ _ (.frz _ (.tup ys)) from ⟨Heap.get?_push_size _ rfl, hz, its, r', IsTup.new _ _⟩)
  exact ⟨.ref h'.objs.size, _, I2, rfl, q _ _ (I1.hok.fresh (Nat.le_refl _)) ⟨_, upd_same, rfl, rfl⟩ fun b hb => upd_ne hb⟩
theorem pairs_of2 {pins : List (Addr × Obj)} {σ : L2.St} {H : Hp} {s : Shared} (I : Inv X pins σ H s) : ∀ {ps : List Addr} {kvs : List (Key × V)}, Paired (fun p kv => SqT X.K H p [kV kv.1, kv.2]) ps kvs →
    ∃ (prs : List (Key × Value)) (uv : List (Value × Value)), KV kvs prs ∧ prs.length = ps.length ∧ uv.length = ps.length ∧ ∀ (j : Nat) (k v : Value), uv[j]? = some (k, v) → ∃ (b : Addr) (y : Key), ps[j]? = some b ∧ prs[j]? = some (y, v) ∧ IsTup s.heap b #[k, v] ∧ (mixKind X.prog X.w).is y k = true
  | _, _, .nil => ⟨[], [], .nil, rfl, rfl, fun j k v e => by simp at e⟩
  | _, _, .cons (a := p) (b := kv) h t => by
    obtain ⟨prs, uv, r, hl, hl2, hp⟩ := pairs_of2 I t
    obtain ⟨its, rv, ht, _⟩ := I.tuple h
    obtain ⟨u, y, ei, ru, ry⟩ := vals2 rv
    subst ei
    refine ⟨(kv.1, y) :: prs, (u, y) :: uv, .cons ⟨rfl, ry⟩ r, by rw [List.length_cons, List.length_cons, hl], by rw [List.length_cons, List.length_cons, hl2], fun j k v e => ?_⟩
    cases j with
    | zero =>
      have e' : (u, y) = (k, v) := Option.some.inj e
      cases e'
      exact ⟨p, kv.1, rfl, rfl, ht, kV_is (P := X.prog) (w := X.w) ru⟩
    | succ j =>
      obtain ⟨b, y', e1, e2, e3, e4⟩ := hp j k v (by simpa using e)
      exact ⟨b, y', by simpa using e1, by simpa using e2, e3, e4⟩
theorem call_dictT (hcalm : X.calm = true) : CallR X (.type "dict") (fun xs H Q => ∃ (a : Addr) (ps : List Addr) (kvs : List (Key × V)), xs = [.ref a] ∧ FrzT H a (ps.map V.ref) ∧ Paired (fun p kv => SqT X.K H p [kV kv.1, kv.2]) ps kvs ∧
    ∀ p, H p = none → Q (.ref p) (upd H p (.dK (mergeK [] kvs)))) := by
  intro pins s σ H xs us Q I r q
  obtain ⟨a, Ts, kvs, ex, ⟨o, ha, hoc, hod⟩, hp, q⟩ := q
  subst ex
  obtain ⟨u, eu, rx⟩ := vals1 r
  subst eu
  cases rx
  obtain ⟨hg, hz, its, rv, ⟨o', ho', hc', n, hd'⟩⟩ := (show ObjOk X.prog X.w H s.heap a (.frz o (.tup (Ts.map V.ref))) from I.hok a _ ha)
  rw [hg] at ho'
  cases ho'
  have ei := refs_at rv
  subst ei
  rw [List.length_map] at hz
  obtain ⟨prs, uv, rel, hl, hl2, hpr⟩ := pairs_of2 I hp
  have PA := PairArg.tuple (prog := X.prog) (w := X.w) a (Ts.map Value.ref).toArray (fun j => Ts.getD j 0) uv
  have ok : PlainSeq "tuple" s.heap a (Ts.map Value.ref).toArray ∧ PairItems s.heap (Ts.map Value.ref).toArray (fun j => Ts.getD j 0) uv := by
    refine ⟨⟨o, n, hg, hoc, hod, hd'⟩, by rw [hl2]; simp, fun j k v e => ?_⟩
    obtain ⟨T, y, hT, _, it, _⟩ := hpr j k v e
    have hgd : Ts.getD j 0 = T := by rw [List.getD_eq_getElem?_getD, hT]; rfl
    refine ⟨?_, ?_⟩
    · show (Ts.map Value.ref).toArray[j]? = some (.ref (Ts.getD j 0))
      rw [hgd]
      simp [hT]
    · show PairAt s.heap (Ts.getD j 0) _ _
      rw [hgd]
      exact .inl it
  refine PySem.call_dict_pairs (knd := mixKind X.prog X.w) (kvs := prs) PA (I.ok.hd hcalm) ok ⟨by rw [hl, hl2], fun i key v e => ?_⟩ (by rw [hl2]; exact hz) fun h' tk hd2 hk => ?_
  · obtain ⟨b, y, _, e2, _, e4⟩ := hpr i key v e
    exact ⟨y, e2, e4⟩
  · have hm : (s.heap.objs.size == sysModules) = false := beq_eq_false_iff_ne.mpr (Nat.ne_of_gt I.big)
    have hlen : (mergeK [] kvs).length ≤ sizeLine := by
      refine Nat.le_trans (length_mergeK kvs []) ?_
      rw [List.length_nil, Nat.zero_add, rel.length, hl]
      exact hz
    exact ⟨.ref s.heap.objs.size, upd H s.heap.objs.size (.dK (mergeK [] kvs)), I.laid (t' := tk) (fun b o e => hk b o (by simp) e) (Nat.le_refl _) (show ObjOk X.prog X.w _ _ _ (.dK (mergeK [] kvs)) from ⟨hlen, hm, merged [] prs, KV.merge rel .nil, hd2⟩), rfl, q _ (I.hok.fresh (Nat.le_refl _))⟩
end
end Kt

set_option Elab.async false
set_option linter.all false
set_option maxRecDepth 100000
set_option maxHeartbeats 4000000
/-! in_tuples with a known object; Game.__init__; play_of. -/
namespace K1
open PySem PySem.Spec PyProof.Rows L2 Kx Kd Kt
abbrev sPO : Stmt := top 17
def spTupZ (n : Nat) : Sp := fun vs H Q _ => ∃ (a : Addr) (us : List V) (ds : List PyData), vs = [.ref a] ∧ H a = some (.tup us) ∧ DtAll H us ds ∧ ds.length ≤ 200000 ∧ (∀ d ∈ ds, Dep n d) ∧ ∀ (a' : Addr) (us' : List V) H', Same H H' → FrzT H' a' us' → DtAll H' us' ds → Q (.ref a') H'
/-- a game whose tuples are known objects -/
def GameZ (C : Addr) (H : Hp) (g : Addr) (ds es : List PyData) : Prop := ∃ dx a1 a2 us1 us2, H g = some (.ins C dx (gfs (.ref a1) (.ref a2))) ∧ FrzT H a1 us1 ∧ DtAll H us1 ds ∧ FrzT H a2 us2 ∧ DtAll H us2 es
theorem GameZ.same {C : Addr} {H H' : Hp} {g : Addr} {ds es : List PyData} (h : GameZ C H g ds es) (s : Same H H') : GameZ C H' g ds es := by
  obtain ⟨dx, a1, a2, u1, u2, e, b1, c1, b2, c2⟩ := h
  exact ⟨dx, a1, a2, u1, u2, s _ _ e, b1.same s, c1.keep (Tk.same s), b2.same s, c2.keep (Tk.same s)⟩
def spGZ (C : Addr) (n : Nat) : Sp := fun vs H Q _ => ∃ (p dx a1 a2 : Addr) (u1 u2 : List V) (ds es : List PyData), vs = [.ref p, .ref a1, .ref a2] ∧ H p = some (.ins C dx []) ∧ H a1 = some (.tup u1) ∧ H a2 = some (.tup u2) ∧ DtAll H u1 ds ∧ DtAll H u2 es ∧ ds.length ≤ 200000 ∧ es.length ≤ 200000 ∧ (∀ d ∈ ds, Dep n d) ∧ (∀ d ∈ es, Dep n d) ∧
  ∀ H', GameZ C H' p ds es → (∀ b o, H b = some o → b ≠ p → H' b = some o) → Q .non H'
section
variable {P : Program} {w : World} {K : PySem.W.Frag} {mg : Str → Option Value} {base : Heap} {C : Addr}
theorem ok_intZ {f : Addr} {fd : FuncData} {n k : Nat} (F : Fun K "in_tuples" "in_tuples" sInT f fd) (T : TxT K mg) (gl : mg "in_tuples" = some (.ref f)) (bd : Binds K fd ["data"] []) (G : FnOk P w K mg base CX0 k f fd ["data"] (spTup n)) : FnOk P w K mg base CX0 (k + 1) f fd ["data"] (spTupZ n) := by
  refine F.ok scIT (fun vs H Q E h => ?_) (fun cdv A outer s H vs Q E hr h => ?_)
  · obtain ⟨a, us, ds, rfl, _⟩ := h
    rfl
  · obtain ⟨a, xs, ds, rfl, ea0, da0, hl, hds, q⟩ := h
    refine ⟨_, pss_cons (ps_if (pt_val (pe_callB call_isiT (by rfl) T.isi (by decide +kernel) (pa_cons (pv 0) (pa_cons (pe_tup (pa_cons (pe_bltn (v := .ty "list") (by rfl) T.list (by decide +kernel) rfl) (pa_cons (pe_bltn (v := .ty "tuple") (by rfl) T.tuple (by decide +kernel) rfl) pa_nil))) pa_nil))))
        (pss_one (ps_ret (pe_callTy call_tuple_frz (by rfl) T.tuple (by decide +kernel) (pa_cons (pe_lc (own := [("part", 1)]) (g := gName 1) (tt := tYes) rfl scIT.nd (pi_tup (pv 0)) (blkOk_by (N := ["data", "part"]) (sc := defScope sInT) (by decide +kernel))
          (fun _ _ _ _ _ => pg_name (i := 1) scIT.nd rfl (Or.inl rfl)) (fun _ _ _ _ _ => pts_nil) (fun _ _ _ _ _ => pe_call G hr (by rfl) gl F.kp bd .nil pass0 (pa_cons (pv 1) pa_nil))) pa_nil)))) pss_nil)
      (pss_one (ps_ret (pv 0))), ?_⟩
    refine ⟨_, rfl, (by show 2 ≤ sizeLine; decide), fun p hp => ?_⟩
    have s1 := same_upd (o := .tup [.ty "list", .ty "tuple"]) hp
    have ea := s1 _ _ ea0
    have da := DtAll.keep (Tk.same s1) da0
    refine ⟨_, p, _, _, _, true, rfl, upd_same, .cons (.ty _) (.cons (.ty _) .nil), .base (.tup ea), kit_tt, _, rfl, iteT ?_⟩
    refine ⟨_, rfl, a, rfl, ⟨_, SqT.of ea⟩, fun D hD => ?_⟩
    refine lc_tup (K := K) (a := a) (xs := xs) (fun i H' => ∃ vs', H' D = some (.lst vs') ∧ DtAll H' vs' (ds.take i) ∧ Same (upd H p (.tup [.ty "list", .ty "tuple"])) H') ⟨[], upd_same, .nil, same_upd hD⟩ (fun i H' _ ⟨_, _, _, s'⟩ => SqT.of (s' _ _ ea)) ?_ ?_
    · rintro i x H' hx ⟨vs', eD, da', s'⟩
      obtain ⟨d, hd', dx⟩ := da.get hx
      refine ⟨rfl, tYesI ?_⟩
      refine ⟨_, rfl, x, d, rfl, Dt.keep (Tk.same s') dx, hds d (List.mem_of_getElem? hd'), fun v' H2 s2 dv => ?_⟩
      have hD2 := s2 _ _ eD
      have lenv : vs'.length ≤ 200000 := by
        rw [da'.length, List.length_take]
        exact Nat.le_trans (Nat.min_le_right _ _) hl
      refine ⟨vs', hD2, Nat.lt_of_le_of_lt lenv (by decide), vs' ++ [v'], upd_same, ?_, ?_⟩
      · have t2 : Tk H2 (upd H2 D (.lst (vs' ++ [v']))) := fun b ys e => by
          rw [upd_ne (ne_of e hD2 (by intro z; cases z))]
          exact e
        rw [List.take_add_one, hd']
        exact DtAll.snoc (DtAll.keep ((Tk.same s2).trans t2) da') (Dt.keep t2 dv)
      · intro b o e
        rw [upd_ne (ne_of_none e hD)]
        exact s2 _ _ (s' _ _ e)
    · rintro H' ⟨vs', eD, da', s'⟩
      rw [da.length, List.take_length] at da'
      refine ⟨D, vs', rfl, SqL.of eD, fun l H2 hl' fz hk => ?_⟩
      have s2 : Same H' H2 := fun b o e => by
        rw [hk b (ne_of_none e hl')]
        exact e
      exact q l vs' H2 ((s1.trans s').trans s2) fz (DtAll.keep (Tk.same s2) da')
theorem ok_gz {k n : Nat} {f fI : Addr} {fd fdI : FuncData} (F : Fun K "__init__" "Game.__init__" sGI f fd) (T : TxG K mg C) (N1 : Fn0 P w K mg base k "in_tuples" ["data"] (spTupZ n) fI fdI) : FnOk P w K mg base CX0 (k + 1) f fd ["self", "variables", "block"] (spGZ C n) := by
  refine F.ok scGI (fun vs H Q E h => ?_) (fun cdv A outer s H vs Q E hr h => ?_)
  · obtain ⟨p, dx, a1, a2, u1, u2, ds, es, rfl, _⟩ := h
    rfl
  · obtain ⟨p, dx, a1, a2, u1, u2, ds, es, rfl, hp, l1, l2, d1, d2, n1, n2, c1, c2, q⟩ := h
    refine ⟨_, pss_cons (ps_fld (pv 0) (pe_call N1.ok hr (by rfl) N1.gl N1.kp N1.bd .nil pass0 (pa_cons (pv 1) pa_nil)) rfl)
      (pss_one (ps_fld (pv 0) (pe_call N1.ok hr (by rfl) N1.gl N1.kp N1.bd .nil pass0 (pa_cons (pv 2) pa_nil)) rfl)), ?_⟩
    refine ⟨_, rfl, a1, u1, ds, rfl, l1, d1, n1, c1, fun va ua H1 s1 fz1 da => ?_⟩
    have hp1 := s1 _ _ hp
    have kp : ∀ b o, H b = some o → b ≠ p → (upd H1 p (.ins C dx (putF "variables" (.ref va) []))) b = some o := fun b o e hb => by
      rw [upd_ne hb]
      exact s1 _ _ e
    have fk : ∀ {H1 : Hp} {u : HO} {D dd : Addr} {fs : List (Str × V)}, H1 p = some (.ins D dd fs) → ∀ {x ys}, FrzT H1 x ys → FrzT (upd H1 p u) x ys := fun {H1 u D dd fs} e {x ys} ⟨o, h, a, b⟩ => ⟨o, by
      rw [upd_ne (fun q => by rw [q, e] at h; cases h)]
      exact h, a, b⟩
    have t1 : Tk H1 (upd H1 p (.ins C dx (putF "variables" (.ref va) []))) := fun b xs e => by
      rw [upd_ne (ne_of e hp1 (by intro z; cases z))]
      exact e
    have np2 : a2 ≠ p := ne_of l2 hp (by intro z; cases z)
    refine ⟨_, rfl, p, C, dx, [], rfl, hp1, T.cl, T.nV, (by show 0 < 1000; decide), ?_⟩
    have tH : Tk H (upd H1 p (.ins C dx (putF "variables" (.ref va) []))) := (Tk.same s1).trans t1
    refine ⟨_, rfl, a2, u2, es, rfl, kp _ _ l2 np2, d2.keep tH, n2, c2, fun vb ub H2 s2 fz2 db => ?_⟩
    have hp2 := s2 _ _ (show (upd H1 p (.ins C dx (putF "variables" (.ref va) []))) p = _ from upd_same)
    refine ⟨_, rfl, p, C, dx, _, rfl, hp2, T.cl, T.nB, (by show 1 < 1000; decide), ?_⟩
    have t2 : Tk H2 (upd H2 p (.ins C dx (gfs (.ref va) (.ref vb)))) := fun b xs e => by
      rw [upd_ne (ne_of e hp2 (by intro z; cases z))]
      exact e
    refine q _ ⟨dx, va, vb, ua, ub, upd_same, fk hp2 ((fk hp1 fz1).same s2), DtAll.keep ((t1.trans (Tk.same s2)).trans t2) da, fk hp2 fz2, DtAll.keep t2 db⟩ fun b o e hb => ?_
    rw [upd_ne hb]
    exact s2 _ _ (kp b o e hb)
end
end K1

set_option Elab.async false
set_option linter.all false
set_option maxRecDepth 100000
set_option maxHeartbeats 4000000
/-! play_of. -/
namespace K1
open PySem PySem.Spec PyProof.Rows L2 Kx Kd Kt
theorem stK_new {l : List (Str × Int)} {x : Str} (v : Int) (h : x ∉ l.map (·.1)) : putK (stK l) (Sum.inr x) (V.int v) = stK (l ++ [(x, v)]) := by
  unfold putK
  have ha : ¬ ((stK l).any fun kv => decide (kv.1 = Sum.inr x)) = true := fun q => by
    obtain ⟨kv, hk, e⟩ := List.any_eq_true.mp q
    unfold stK at hk
    obtain ⟨p, hp, rfl⟩ := List.mem_map.mp hk
    exact h (List.mem_map.mpr ⟨p, hp, Sum.inr.inj (of_decide_eq_true e)⟩)
  rw [if_neg ha]
  unfold stK
  rw [List.map_append]
  rfl
theorem stK_merge : ∀ (l acc : List (Str × Int)), (∀ p ∈ l, p.1 ∉ acc.map (·.1)) → (l.map (·.1)).Nodup → mergeK (stK acc) (stK l) = stK (acc ++ l)
  | [], acc, _, _ => by
    rw [List.append_nil]
    rfl
  | p :: r, acc, h, hn => by
    rw [List.map_cons] at hn
    obtain ⟨h1, h2⟩ := List.nodup_cons.mp hn
    show mergeK (putK (stK acc) (Sum.inr p.1) (V.int p.2)) (stK r) = _
    rw [stK_new p.2 (h p (List.mem_cons_self ..)), stK_merge r (acc ++ [p]) (fun q hq => ?_) h2, List.append_assoc]
    · rfl
    · rw [List.map_append, List.mem_append]
      rintro (hm | hm)
      · exact h q (List.mem_cons_of_mem _ hq) hm
      · rw [List.map_singleton, List.mem_singleton] at hm
        exact h1 (List.mem_map.mpr ⟨q, hq, hm⟩)
theorem vars_pairs {K : PySem.W.Frag} {H : Hp} : ∀ {xs : List (Str × Int)} {us : List V}, DtAll H us (varsD xs) → ∃ ps : List Addr, us = ps.map V.ref ∧ Paired (fun p kv => SqT K H p [kV kv.1, kv.2]) ps (stK xs) ∧ ∀ (i : Nat) (p : Addr) (q : Str × Int), ps[i]? = some p → xs[i]? = some q → H p = some (.tup [.str q.1, .int q.2])
  | [], [], .nil => ⟨[], rfl, .nil, fun i p q h => by simp at h⟩
  | q :: xs, v :: us, .cons h r => by
    obtain ⟨ps, rfl, pr, hp⟩ := vars_pairs r
    obtain ⟨a, ys, rfl, ea, da⟩ := h.tupI
    obtain ⟨u1, u2, rfl, d1, d2⟩ := da.c2
    obtain rfl := d1.strI
    obtain rfl := d2.intI
    refine ⟨a :: ps, rfl, .cons (SqT.of ea) pr, fun i p x h1 h2 => ?_⟩
    cases i with
    | zero =>
      cases h1
      cases h2
      exact ea
    | succ i => exact hp i p x h1 h2
def zeros (xs : List (Str × Int)) : List (Str × Int) := xs.map fun p => (p.1, 0)
def pl0 (xs : List (Str × Int)) (b : Bk) : Pl := ⟨zeros xs, 0, [], [], b.sl⟩
theorem zeros_keys (xs : List (Str × Int)) : (zeros xs).map (·.1) = xs.map (·.1) := by
  unfold zeros
  rw [List.map_map]
  rfl
def spPO (CG C : Addr) : Sp := fun vs H Q _ => ∃ (g : Addr) (xs : List (Str × Int)) (b : Bk), vs = [.ref g] ∧ GameZ CG H g (varsD xs) b.ds ∧ (xs.map (·.1)).Nodup ∧ SzOk (xs.map (·.1)) xs ∧ b.ds.length ≤ 1000 ∧
  ∀ (A : Pad) (H' : Hp), PlayAt C H' A (xs.map (·.1)) xs (pl0 xs b) → Same H H' → New H A → H A.sz = none → Q (.ref A.p) H'
abbrev NPo : List Str := ["game", "stored", "seen", "name", "_", "seat"]
section
variable {P : Program} {w : World} {K : PySem.W.Frag} {mg : Str → Option Value} {base : Heap} {C CG : Addr} {fI : Addr} {dI : FuncData}
theorem scPO : FnScope NPo ["game"] (defScope sPO) := ⟨rfl, rfl, rfl, by decide +kernel, rfl, by decide +kernel, by decide +kernel⟩
theorem ok_po {f : Addr} {fd : FuncData} (F : Fun K "play_of" "play_of" sPO f fd) (T : TxPl K mg C) (TG : TxG K mg CG) (hlist : mg "list" = none) (hdict : mg "dict" = none) {aS : Addr} (hS : mg "SEATS" = some (.ref aS)) (hS2 : ∀ H, SqT K H aS (SEA.map V.str)) (MI : Mk K C fI) (GI : FnOk P w K mg base CX0 1 fI dI ["self", "sizes", "stored", "paid", "seen", "todo"] (spPIn C)) (bI : Binds K dI ["self", "sizes", "stored", "paid", "seen", "todo"] []) :
    FnOk P w K mg base CX0 3 f fd ["game"] (spPO CG C) := by
  refine F.ok scPO (fun vs H Q E h => ?_) (fun cdv A0 outer s H vs Q E hr h => ?_)
  · obtain ⟨g, xs, b, rfl, _⟩ := h
    rfl
  · obtain ⟨g, xs, b, rfl, ⟨dx, a1, a2, u1, u2, eg, fz1, dv, fz2, db⟩, hnd, hsz, hbl, q⟩ := h
    have hr2 : Room 2 _ := hr
    refine ⟨_, pss_cons (Kt.ps_setDc (i := 1) (own := [("name", 3), ("_", 4)]) (g := gTup K 2 (gCons (gName 3) (gCons (gName 4) gNil))) (tt := tYes) (tk := tVar 3) (tv := tC (.int 0)) rfl scPO.nd rfl rfl (Kt.swD_true rfl rfl rfl (by decide +kernel)) (pi_tup (pe_fld (pv 0) rfl)) (blkOk_by (N := NPo) (sc := defScope sPO) (by decide +kernel))
          (fun _ _ _ _ _ => pg_tup rfl (pgs_cons (pg_name (i := 3) scPO.nd rfl (Or.inl rfl)) (pgs_cons (pg_name (i := 4) scPO.nd rfl (Or.inl rfl)) pgs_nil))) (fun _ _ _ _ _ => pts_nil) (fun _ _ _ _ _ => pv 3) (fun _ _ _ _ _ => pe_int))
      (pss_cons (Kt.ps_setDc (i := 2) (own := [("seat", 5)]) (g := gName 5) (tt := tYes) (tk := tVar 5) (tv := tLst tNil) rfl scPO.nd rfl rfl (Kt.swD_true rfl rfl rfl (by decide +kernel)) (pi_tup (pe_glob (v := .ref aS) rfl hS rfl)) (blkOk_by (N := NPo) (sc := defScope sPO) (by decide +kernel))
          (fun _ _ _ _ _ => pg_name (i := 5) scPO.nd rfl (Or.inl rfl)) (fun _ _ _ _ _ => pts_nil) (fun _ _ _ _ _ => pv 5) (fun _ _ _ _ _ => pe_lst pa_nil))
      (pss_one (ps_ret (pe_make MI GI hr2 rfl T.mgC bI .nil pass0 (pa_cons (pe_callTy (call_dictT rfl) (by rfl) hdict (by decide +kernel) (pa_cons (pe_fld (pv 0) rfl) pa_nil)) (pa_cons (pv 1) (pa_cons pe_int (pa_cons (pv 2) (pa_cons (pe_callTy call_list_of (by rfl) hlist (by decide +kernel) (pa_cons (Kt.pe_revT (pe_fld (pv 0) rfl)) pa_nil)) pa_nil))))))))), ?_⟩
    obtain ⟨ps, rfl, _, hps⟩ := vars_pairs (K := K) dv
    have hpl : ps.length = xs.length := by
      have := lenD dv
      unfold varsD at this
      rw [List.length_map, List.length_map] at this
      exact this
    have hx5 : xs.length ≤ 5 := by
      have := hsz.few
      rw [List.length_map] at this
      exact this
    refine ⟨_, rfl, g, CG, dx, _, _, rfl, eg, TG.cl, TG.nV, gfs_v _ _, a1, rfl, ⟨_, fz1.sq⟩, fun D hD => ?_⟩
    refine dc_tup (xs := ps.map V.ref) (fun i H' => Same H H' ∧ H' D = some (.dK (stK (zeros (xs.take i))))) ⟨same_upd hD, upd_same⟩ (fun i H' _ h => (fz1.same h.1).sq) ?_ ?_
    · rintro i y H1 hy ⟨s1, eD⟩
      obtain ⟨p, hp, rfl⟩ := Option.map_eq_some_iff.mp ((List.getElem?_map ..).symm.trans hy)
      have hi : i < xs.length := by
        have := (List.getElem?_eq_some_iff.mp hp).1
        omega
      have eq := List.getElem?_eq_getElem hi
      have ep := s1 _ _ (hps i p _ hp eq)
      have hnx : xs[i].1 ∉ (zeros (xs.take i)).map (·.1) := by
        rw [zeros_keys, List.map_take]
        intro hm
        have e2 : (xs.map (·.1))[i]'(by rw [List.length_map]; exact hi) = xs[i].1 := by rw [List.getElem_map]
        have := List.drop_eq_getElem_cons (show i < (xs.map (·.1)).length by rw [List.length_map]; exact hi)
        have hap := List.take_append_drop i (xs.map (·.1))
        rw [← hap, this, e2] at hnd
        exact (List.nodup_append.mp hnd).2.2 _ hm _ (List.mem_cons_self ..) rfl
      refine ⟨p, _, rfl, SqT.of ep, rfl, _, _, rfl, _, _, rfl, rfl, rfl, tYesI ⟨_, rfl, _, Sum.inr xs[i].1, rfl, eD, ?_, fun b o z => ?_, ?_⟩⟩
      · unfold stK zeros
        rw [List.length_map, List.length_map, List.length_take]
        exact Nat.lt_of_le_of_lt (show min i xs.length ≤ 100 by omega) (by decide)
      · rw [upd_ne (ne_of_none z hD)]
        exact s1 _ _ z
      · rw [upd_same, stK_new 0 hnx, List.take_succ_eq_append_getElem hi]
        unfold zeros
        rw [List.map_append]
        rfl
    rintro H1 ⟨s1, eD⟩
    rw [List.length_map, hpl, List.take_length] at eD
    refine ⟨aS, rfl, ⟨_, hS2 _⟩, fun D2 hD2 => ?_⟩
    let Pv : Nat → Hp → Prop := fun i H' => Same H1 H' ∧ (i = 0 → H' D2 = some (.dK [])) ∧ (i = 1 → ∃ l1, H1 l1 = none ∧ l1 ≠ D2 ∧ H' l1 = some (.lst []) ∧ H' D2 = some (.dK [(Sum.inr "chooser", .ref l1)])) ∧
      (i = 2 → ∃ l1 l2, H1 l1 = none ∧ H1 l2 = none ∧ l1 ≠ D2 ∧ l2 ≠ D2 ∧ l1 ≠ l2 ∧ H' l1 = some (.lst []) ∧ H' l2 = some (.lst []) ∧ H' D2 = some (.dK (seK l1 l2)))
    refine dc_tup (xs := SEA.map V.str) Pv ⟨same_upd hD2, fun _ => upd_same, (fun z => nomatch z), (fun z => nomatch z)⟩ (fun i H' _ _ => hS2 H') ?_ ?_
    · rintro i y H2 hy ⟨s2, p0, p1, p2⟩
      match i, hy with
      | 0, hy =>
        cases hy
        have eD2 := p0 rfl
        refine ⟨rfl, tYesI ⟨_, rfl, by show 0 ≤ sizeLine; decide, fun l hl => ?_⟩⟩
        have nlD : l ≠ D2 := fun e => by rw [e, eD2] at hl; cases hl
        have hlH : H1 l = none := s2.free hl
        refine ⟨[], Sum.inr "chooser", rfl, by rw [upd_ne nlD.symm]; exact eD2, by show 0 < sizeLine; decide, fun b o z => ?_, (fun z => nomatch z), fun _ => ⟨l, hlH, nlD, ?_, upd_same⟩, (fun z => nomatch z)⟩
        · rw [upd_ne (ne_of_none z hD2), upd_ne (ne_of_none z hlH)]
          exact s2 _ _ z
        · rw [upd_ne nlD]
          exact upd_same
      | 1, hy =>
        cases hy
        obtain ⟨l1, hl1H, nl1, el1, eD2⟩ := p1 rfl
        refine ⟨rfl, tYesI ⟨_, rfl, by show 0 ≤ sizeLine; decide, fun l hl => ?_⟩⟩
        have nlD : l ≠ D2 := fun e => by rw [e, eD2] at hl; cases hl
        have nl12 : l1 ≠ l := fun e => by rw [← e, el1] at hl; cases hl
        have hlH : H1 l = none := s2.free hl
        refine ⟨[(Sum.inr "chooser", .ref l1)], Sum.inr "comer", rfl, by rw [upd_ne nlD.symm]; exact eD2, by show 1 < sizeLine; decide, fun b o z => ?_, (fun z => nomatch z), (fun z => nomatch z), fun _ => ⟨l1, l, hl1H, hlH, nl1, nlD, nl12, ?_, ?_, ?_⟩⟩
        · rw [upd_ne (ne_of_none z hD2), upd_ne (ne_of_none z hlH)]
          exact s2 _ _ z
        · rw [upd_ne nl1, upd_ne nl12]
          exact el1
        · rw [upd_ne nlD]
          exact upd_same
        · rw [upd_same]
          rfl
      | n + 2, hy => cases hy
    rintro H2 ⟨s2, _, _, p2⟩
    obtain ⟨l1, l2, hl1H, hl2H, nl1, nl2, nl12, el1, el2, eD2⟩ := p2 rfl
    have s02 := s1.trans s2
    obtain ⟨ps2, eps, pr2, _⟩ := vars_pairs (K := K) (dv.keep (Tk.same s02))
    have : ps2 = ps := by
      have := congrArg (List.map fun v => match v with | V.ref a => a | _ => 0) eps
      rw [List.map_map, List.map_map] at this
      have e : ∀ l : List Addr, l.map ((fun v => match v with | V.ref a => a | _ => 0) ∘ V.ref) = l := fun l => by
        induction l with
        | nil => rfl
        | cons x r ih => rw [List.map_cons, ih]; rfl
      rw [e, e] at this
      exact this.symm
    subst this
    refine ⟨_, rfl, g, CG, dx, _, _, rfl, s02 _ _ eg, TG.cl, TG.nV, gfs_v _ _, a1, ps2, stK xs, rfl, fz1.same s02, pr2, fun sz hsz2 => ?_⟩
    have em : mergeK [] (stK xs) = stK xs := stK_merge xs [] (fun p _ h => nomatch h) hnd
    rw [em]
    have s3 := same_upd (o := .dK (stK xs)) hsz2
    have s03 := s02.trans s3
    refine ⟨_, rfl, _, rfl, _, rfl, g, CG, dx, _, _, rfl, s03 _ _ eg, TG.cl, TG.nB, gfs_b _ _, a2, u2, rfl, (fz2.same s03).sq, fun rp hrp => ?_⟩
    have s4 := same_upd (o := .tup u2.reverse) hrp
    refine ⟨rp, u2.reverse, rfl, .inr (SqT.of upd_same), fun td htd => ?_⟩
    have s5 := same_upd (o := .lst u2.reverse) htd
    intro z dz nz ndz nez
    have s6 : Same (upd (upd (upd H2 sz (.dK (stK xs))) rp (.tup u2.reverse)) td (.lst u2.reverse)) (upd (upd (upd (upd (upd H2 sz (.dK (stK xs))) rp (.tup u2.reverse)) td (.lst u2.reverse)) dz (.own z)) z (.ins C dz [])) := fun b o e => by
      rw [upd_ne (ne_of_none e nz), upd_ne (ne_of_none e ndz)]
      exact e
    refine ⟨z, dz, sz, D, D2, td, 0, rfl, upd_same, fun H5 e5 k5 => ⟨rfl, ?_⟩⟩
    have s7 : Same (upd (upd (upd H2 sz (.dK (stK xs))) rp (.tup u2.reverse)) td (.lst u2.reverse)) H5 := fun b o e => k5 _ _ (s6 _ _ e) (ne_of_none e nz)
    have s25 : Same H2 H5 := ((s3.trans s4).trans s5).trans s7
    have s05 : Same H H5 := s02.trans s25
    have eszX : H5 sz = some (.dK (stK xs)) := s7 _ _ (s5 _ _ (s4 _ _ upd_same))
    have etdX : H5 td = some (.lst u2.reverse) := s7 _ _ upd_same
    have fsz2 : H2 sz = none := hsz2
    have ftd2 : H2 td = none := s3.free (s4.free htd)
    have fz2' : H2 z = none := s3.free (s4.free (s5.free nz))
    have eD2' := s2 _ _ eD
    refine q ⟨z, dz, sz, D, D2, td, l1, l2⟩ H5 ?_ s05 ⟨s02.free fz2', hD, s1.free hD2, s02.free ftd2, s1.free hl1H, s1.free hl2H⟩ (s02.free fsz2)
    have ul : u2.length = b.ds.length := lenD db
    have dt5 : DtAll H5 u2.reverse ((pl0 xs b).todo.reverse.map Sm.d) := by
      have := dt_revA (db.keep (Tk.same s05))
      rw [ds_sl, ← List.map_reverse] at this
      exact this
    refine ⟨e5, eszX, s25 _ _ eD2', s25 _ _ eD2, ⟨[], s25 _ _ el1, .nil, Nat.zero_le _⟩, ⟨[], s25 _ _ el2, .nil, Nat.zero_le _⟩, ⟨u2.reverse, etdX, dt5, by rw [List.length_reverse]; omega⟩, ?_, ?_, nl12, ?_, ?_, ?_, ⟨zeros_keys xs, fun p hp => ?_⟩, hsz⟩
    · exact (ne_of_none eD2' fsz2).symm
    · intro e
      have e : D = D2 := e
      rw [← e, eD] at hD2
      cases hD2
    · exact ne_of_none el1 ftd2
    · exact ne_of_none el2 ftd2
    · exact (ne_of_none eD2 fsz2).symm
    · unfold zeros at hp
      obtain ⟨x, _, rfl⟩ := List.mem_map.mp hp
      exact ⟨show (0 : Int) ≤ 0 by decide, show (0 : Int) ≤ 65535 by decide⟩
end
end K1

set_option Elab.async false
set_option linter.all false
set_option maxRecDepth 100000
set_option maxHeartbeats 4000000
/-! Nodes: End, Lot, Move; node_at. -/
namespace K1
open PySem PySem.Spec PyProof.Rows L2 Kx Kd Kt
abbrev sEI : Stmt := inClass (top 21) 0
abbrev sLI : Stmt := inClass (top 22) 0
abbrev sMI : Stmt := inClass (top 23) 0
abbrev sTO : Stmt := top 24
abbrev sNA : Stmt := top 25
abbrev sJo : Stmt := top 26
abbrev sNO : Stmt := top 27
abbrev sEO : Stmt := top 28
abbrev sVW2 : Stmt := top 29
/-! ### trees as data -/
mutual
inductive Tr where
  | end_ (p : Int)
  | lot (ps : Ts)
  | move (seat : Str) (view : List NestedKey) (ps : Ts)
inductive Ts where
  | nil
  | cons (t : Tr) (r : Ts)
end
/-- a node without what hangs at it -/
inductive Hd where
  | e (p : Int)
  | l
  | m (seat : Str) (view : List NestedKey)
def efs (p : Int) : List (Str × V) := [("paid", .int p)]
def lfs (t : Addr) : List (Str × V) := [("parts", .ref t)]
def mfs (s : Str) (v t : Addr) : List (Str × V) := [("seat", .str s), ("view", .ref v), ("parts", .ref t)]
structure Cls3 where
  E : Addr
  L : Addr
  M : Addr
inductive HdAt (c : Cls3) (H : Hp) (a : Addr) (us : List V) : Hd → Prop
  | e {dx : Addr} {p : Int} (h : H a = some (.ins c.E dx (efs p))) (hu : us = []) : HdAt c H a us (.e p)
  | l {dx t : Addr} (h : H a = some (.ins c.L dx (lfs t))) (ht : H t = some (.tup us)) : HdAt c H a us .l
  | m {dx v t : Addr} {s : Str} {view : List NestedKey} (h : H a = some (.ins c.M dx (mfs s v t))) (hv : Nest H (.tup view) (.ref v)) (ht : H t = some (.tup us)) : HdAt c H a us (.m s view)
theorem HdAt.same {c : Cls3} {H H' : Hp} {a : Addr} {us : List V} {k : Hd} (h : HdAt c H a us k) (s : Same H H') : HdAt c H' a us k := by
  cases h with
  | e h hu => exact .e (s _ _ h) hu
  | l h ht => exact .l (s _ _ h) (s _ _ ht)
  | m h hv ht => exact .m (s _ _ h) (hv.keep fun a xs e => s _ _ e) (s _ _ ht)
structure TxN (K : PySem.W.Frag) (mg : Str → Option Value) (c : Cls3) : Prop where
  cE : Cls K c.E
  cL : Cls K c.L
  cM : Cls K c.M
  nE : NoAttr K c.E "paid"
  nL : NoAttr K c.L "parts"
  nM1 : NoAttr K c.M "seat"
  nM2 : NoAttr K c.M "view"
  nM3 : NoAttr K c.M "parts"
  gE : mg "End" = some (.ref c.E)
  gL : mg "Lot" = some (.ref c.L)
  gM : mg "Move" = some (.ref c.M)
  tuple : mg "tuple" = none
def spEI (c : Cls3) : Sp := fun vs H Q _ => ∃ (p dx : Addr) (i : Int), vs = [.ref p, .int i] ∧ H p = some (.ins c.E dx []) ∧ Q .non (upd H p (.ins c.E dx (efs i)))
def spLI (c : Cls3) : Sp := fun vs H Q _ => ∃ (p dx t : Addr) (us : List V), vs = [.ref p, .ref t] ∧ H p = some (.ins c.L dx []) ∧ H t = some (.tup us) ∧ Q .non (upd H p (.ins c.L dx (lfs t)))
def spMI (c : Cls3) : Sp := fun vs H Q _ => ∃ (p dx t v : Addr) (s : Str) (us : List V), vs = [.ref p, .str s, .ref v, .ref t] ∧ H p = some (.ins c.M dx []) ∧ H t = some (.tup us) ∧ ∀ H', H' p = some (.ins c.M dx (mfs s v t)) → (∀ b o, H b = some o → b ≠ p → H' b = some o) → Q .non H'
section
variable {P : Program} {w : World} {K : PySem.W.Frag} {mg : Str → Option Value} {base : Heap} {C : Addr} {c : Cls3}
theorem scEI : FnScope ["self", "paid"] ["self", "paid"] (defScope sEI) := ⟨rfl, rfl, rfl, by decide +kernel, rfl, by decide +kernel, by decide +kernel⟩
theorem ok_ei {f : Addr} {fd : FuncData} (F : Fun K "__init__" "End.__init__" sEI f fd) (T : TxN K mg c) : FnOk P w K mg base CX0 1 f fd ["self", "paid"] (spEI c) := by
  refine F.ok scEI (fun vs H Q E h => ?_) (fun cdv A outer s H vs Q E hr h => ?_)
  · obtain ⟨p, dx, i, rfl, _⟩ := h
    rfl
  · obtain ⟨p, dx, i, rfl, hp, q⟩ := h
    refine ⟨_, pss_one (ps_fld (pv 0) (pv 1) rfl), ?_⟩
    exact ⟨_, rfl, _, rfl, p, c.E, dx, [], rfl, hp, T.cE, T.nE, (by show 0 < 1000; decide), q⟩
theorem scLI : FnScope ["self", "parts"] ["self", "parts"] (defScope sLI) := ⟨rfl, rfl, rfl, by decide +kernel, rfl, by decide +kernel, by decide +kernel⟩
theorem ok_li {f : Addr} {fd : FuncData} (F : Fun K "__init__" "Lot.__init__" sLI f fd) (T : TxN K mg c) : FnOk P w K mg base CX0 1 f fd ["self", "parts"] (spLI c) := by
  refine F.ok scLI (fun vs H Q E h => ?_) (fun cdv A outer s H vs Q E hr h => ?_)
  · obtain ⟨p, dx, t, us, rfl, _⟩ := h
    rfl
  · obtain ⟨p, dx, t, us, rfl, hp, ht, q⟩ := h
    refine ⟨_, pss_one (ps_fld (pv 0) (pe_callTy call_tuple_of (by rfl) T.tuple (by decide +kernel) (pa_cons (pv 1) pa_nil)) rfl), ?_⟩
    exact ⟨_, rfl, t, us, rfl, .inr ⟨SqT.of ht, _, rfl, p, c.L, dx, [], rfl, hp, T.cL, T.nL, (by show 0 < 1000; decide), q⟩⟩
theorem scMI : FnScope ["self", "seat", "view", "parts"] ["self", "seat", "view", "parts"] (defScope sMI) := ⟨rfl, rfl, rfl, by decide +kernel, rfl, by decide +kernel, by decide +kernel⟩
theorem ok_mi {f : Addr} {fd : FuncData} (F : Fun K "__init__" "Move.__init__" sMI f fd) (T : TxN K mg c) : FnOk P w K mg base CX0 1 f fd ["self", "seat", "view", "parts"] (spMI c) := by
  refine F.ok scMI (fun vs H Q E h => ?_) (fun cdv A outer s H vs Q E hr h => ?_)
  · obtain ⟨p, dx, t, v, st, us, rfl, _⟩ := h
    rfl
  · obtain ⟨p, dx, t, v, st, us, rfl, hp, ht, q⟩ := h
    refine ⟨_, pss_cons (ps_fld (pv 0) (pv 1) rfl) (pss_cons (ps_fld (pv 0) (pv 2) rfl) (pss_one (ps_fld (pv 0) (pe_callTy call_tuple_of (by rfl) T.tuple (by decide +kernel) (pa_cons (pv 3) pa_nil)) rfl))), ?_⟩
    have np : t ≠ p := ne_of ht hp (by intro z; cases z)
    refine ⟨_, rfl, _, rfl, p, c.M, dx, [], rfl, hp, T.cM, T.nM1, (by show 0 < 1000; decide), ?_⟩
    refine ⟨_, rfl, _, rfl, p, c.M, dx, _, rfl, upd_same, T.cM, T.nM2, (by show 1 < 1000; decide), ?_⟩
    refine ⟨_, rfl, t, us, rfl, .inr ⟨SqT.of (by rw [upd_ne np, upd_ne np]; exact ht), _, rfl, p, c.M, dx, _, rfl, upd_same, T.cM, T.nM3, (by show 2 < 1000; decide), ?_⟩⟩
    exact q _ upd_same fun b o e hb => by
      rw [upd_ne hb, upd_ne hb, upd_ne hb]
      exact e
end
/-! ### node_at -/
def Sm.mv : Sm → Int
  | .move _ _ _ m => m
  | _ => 0
def askP (pl : Pl) : Option Sm → Pl
  | some (.move k x n m) => addE pl (seatOf (.move k x n m)) (askK m n)
  | _ => pl
def hdOf (pl : Pl) : Option Sm → Hd
  | none => .e pl.paid
  | some (.move k x n m) => .m (seatOf (.move k x n m)) (evs pl (seatOf (.move k x n m)) ++ [askK m n])
  | some _ => .l
def spNA (c : Cls3) (C : Addr) : Sp := fun vs H Q _ => ∃ (A : Pad) (ns : List Str) (xs : List (Str × Int)) (pl : Pl) (v : V) (x : Option Sm), vs = [.ref A.p, v] ∧ PlayAt C H A ns xs pl ∧ (match x with | none => v = .non | some y => Dt H v y.d ∧ y.chance = true ∧ y.pv ns) ∧ pl.e1.length < 1000 ∧ pl.e2.length < 1000 ∧
  ∀ (a : Addr) H', PlayAt C H' A ns xs (askP pl x) → Fr A H H' → Dm H H' → H a = none → HdAt c H' a [] (hdOf pl x) → Q (.ref a) H'
abbrev NNa : List Str := ["play", "statement", "_", "results", "move", "seat"]
section
variable {P : Program} {w : World} {K : PySem.W.Frag} {mg : Str → Option Value} {base : Heap} {C : Addr} {c : Cls3} {fE fL fM fO fA : Addr} {dE dL dM dO dA : FuncData}
theorem scNA : FnScope NNa ["play", "statement"] (defScope sNA) := ⟨rfl, rfl, rfl, by decide +kernel, rfl, by decide +kernel, by decide +kernel⟩
theorem ok_na {f : Addr} {fd : FuncData} (F : Fun K "node_at" "node_at" sNA f fd) (T : TxPl K mg C) (TN : TxN K mg c) (ME : Mk K c.E fE) (GE : FnOk P w K mg base CX0 1 fE dE ["self", "paid"] (spEI c)) (bE : Binds K dE ["self", "paid"] []) (ML : Mk K c.L fL) (GL : FnOk P w K mg base CX0 1 fL dL ["self", "parts"] (spLI c)) (bL : Binds K dL ["self", "parts"] [])
    (MM : Mk K c.M fM) (GM : FnOk P w K mg base CX0 1 fM dM ["self", "seat", "view", "parts"] (spMI c)) (bM : Binds K dM ["self", "seat", "view", "parts"] []) (O1 : Fn0 P w K mg base 1 "seat_of" ["statement"] spSeat fO dO) (A1 : Mt0 P w K mg base C 1 "ask" ["self", "seat", "move", "results"] (spAsk C) fA dA) :
    FnOk P w K mg base CX0 3 f fd ["play", "statement"] (spNA c C) := by
  refine F.ok scNA (fun vs H Q E h => ?_) (fun cdv A0 outer s H vs Q E hr h => ?_)
  · obtain ⟨A, ns, xs, pl, v, x, rfl, _⟩ := h
    rfl
  · obtain ⟨A, ns, xs, pl, v, x, rfl, R, hx, hl1, hl2, q⟩ := h
    have hr1 : Room 1 _ := hr.mono (by decide)
    have hr2 : Room 2 _ := hr
    have anf := nf (m := "ask") (by decide +kernel)
    refine ⟨_, pss_cons (ps_if (pt_cmpR op_isN (pv 1) pe_non (nomark _)) (pss_one (ps_ret (pe_make ME GE hr2 rfl TN.gE bE .nil pass0 (pa_cons (pe_fld (pv 0) rfl) pa_nil)))) pss_nil)
      (pss_cons (ps_if (pt_cmpR op_eq (pe_ix ix_tup (pv 1) pe_int (fun _ _ => rfl)) pe_str (nomark _)) (pss_one (ps_ret (pe_make ML GL hr2 rfl TN.gL bL .nil pass0 (pa_cons (pe_tup pa_nil) pa_nil)))) pss_nil)
      (pss_cons (ps_asg (pv 1) (pg_tup (by rfl) (pgs_cons (pg_name (i := 2) scNA.nd rfl (Or.inl rfl)) (pgs_cons (pg_name (i := 2) scNA.nd rfl (Or.inl rfl)) (pgs_cons (pg_name (i := 3) scNA.nd rfl (Or.inl rfl)) (pgs_cons (pg_name (i := 4) scNA.nd rfl (Or.inl rfl)) pgs_nil))))))
      (pss_cons (ps_set (i := 5) scNA.nd rfl (Or.inl rfl) (pe_call O1.ok hr1 (by rfl) O1.gl O1.kp O1.bd .nil pass0 (pa_cons (pv 1) pa_nil)))
      (pss_one (ps_ret (pe_make MM GM hr2 rfl TN.gM bM .nil pass0 (pa_cons (pv 5) (pa_cons (pe_meth (pv 0) T.cl A1.mt A1.ok hr1 A1.bd .nil pass0 (pa_cons (pv 5) (pa_cons (pv 4) (pa_cons (pv 3) pa_nil)))) (pa_cons (pe_tup pa_nil) pa_nil))))))))), ?_⟩
    have mk : ∀ {H1 : Hp} {z dz : Addr} {D : Addr} {o : HO}, H1 z = none → H1 dz = none → Same H1 (upd (upd (upd H1 dz (.own z)) z (.ins D dz [])) z o) := fun {H1 z dz D o} nz nd b u e => by
      rw [upd_ne (ne_of_none e nz), upd_ne (ne_of_none e nz), upd_ne (ne_of_none e nd)]
      exact e
    have mk0 : ∀ {H1 : Hp} {z dz : Addr} {D : Addr}, H1 z = none → H1 dz = none → Same H1 (upd (upd H1 dz (.own z)) z (.ins D dz [])) := fun {H1 z dz D} nz nd b u e => by
      rw [upd_ne (ne_of_none e nz), upd_ne (ne_of_none e nd)]
      exact e
    refine ⟨_, rfl, rfl, _, rfl, ?_⟩
    cases x with
    | none =>
      have hx : v = .non := hx
      subst hx
      rw [decide_eq_true rfl]
      refine iteT ⟨_, rfl, A.p, C, A.dx, _, _, rfl, R.ob, T.cl, T.n3, pfs_pd _ _ _ _ _, fun z dz nz ndz nez => ⟨z, dz, pl.paid, rfl, upd_same, rfl, ?_⟩⟩
      have s1 := mk (D := c.E) (o := .ins c.E dz (efs pl.paid)) nz ndz
      exact q z _ (R.same s1) (Fr.same s1) (Dm.same s1) nz (.e upd_same rfl)
    | some y =>
      obtain ⟨hv, hc, hpv⟩ := hx
      obtain ⟨a, us, rfl, ea⟩ := sm_head hv
      rw [decide_eq_false (show ¬ V.ref a = V.non from fun z => by cases z)]
      refine iteF ⟨_, rfl, a, _, _, _, rfl, rfl, SqT.of ea, tix0, rfl, _, rfl, ?_⟩
      cases y with
      | set x e => cases hc
      | show_ s e => cases hc
      | pay k e => cases hc
      | ifs e b1 b2 => cases hc
      | draw x n =>
        rw [show decide (V.str (Sm.kind (.draw x n)) = V.str ("draw" : Str)) = true from decide_eq_true rfl]
        refine iteT ⟨by show 0 ≤ sizeLine; decide, fun t ht => fun z dz nz ndz nez => ?_⟩
        have s1 := same_upd (o := .tup []) ht
        have et : upd H t (.tup []) t = some (.tup []) := upd_same
        generalize upd H t (.tup []) = H1 at *
        have s2 := mk (D := c.L) (o := .ins c.L dz (lfs t)) nz ndz
        have s3 := mk0 (D := c.L) nz ndz
        refine ⟨z, dz, t, [], rfl, upd_same, s3 _ _ et, rfl, ?_⟩
        exact q z _ (R.same (s1.trans s2)) (Fr.same (s1.trans s2)) (Dm.same (s1.trans s2)) (s1.free nz) (.l upd_same (s2 _ _ et))
      | move k x n m =>
        have hk : k ≠ "draw" := by
          rcases hpv.1 with rfl | rfl <;> decide +kernel
        rw [decide_eq_false (show ¬ V.str (Sm.kind (.move k x n m)) = V.str ("draw" : Str) from fun e => hk (V.str.inj e))]
        obtain ⟨a2, xs2, e1, ea2, da⟩ := hv.tupI
        cases e1
        obtain ⟨z1, y1, y2, y3, rfl, d1, d2, d3, d4⟩ := da.c4
        obtain rfl := d3.intI
        obtain rfl := d4.intI
        have hs := seat_ok (.move k x n m)
        have hln : (evs pl (seatOf (.move k x n m))).length < 1000 := by
          unfold evs
          split
          · exact hl1
          · exact hl2
        refine iteF ⟨_, rfl, a, _, rfl, SqT.of ea2, rfl, _, _, rfl, _, _, rfl, _, _, rfl, _, _, rfl, rfl, ?_⟩
        refine ⟨_, rfl, .ref a, .move k x n m, rfl, hv, ?_⟩
        refine ⟨_, rfl, _, rfl, A.p, A.dx, _, rfl, R.ob, anf _ _ _ _ _, _, rfl, _, rfl, _, rfl, A, ns, xs, pl, seatOf (.move k x n m), m, n, rfl, R, hs, hln, fun t H1 ht R1 fr dm nt => ⟨by show 0 ≤ sizeLine; decide, fun t2 ht2 => fun z dz nz ndz nez => ?_⟩⟩
        have s1 := same_upd (o := .tup []) ht2
        have et : upd H1 t2 (.tup []) t2 = some (.tup []) := upd_same
        generalize upd H1 t2 (.tup []) = H2 at *
        have s3 := mk0 (D := c.M) nz ndz
        refine ⟨z, dz, t2, t, seatOf (.move k x n m), [], rfl, upd_same, s3 _ _ et, fun H5 e5 k5 => ⟨rfl, ?_⟩⟩
        have s5 : Same H2 H5 := fun b o e => k5 _ _ (s3 _ _ e) (ne_of_none e nz)
        have s15 := s1.trans s5
        exact q z H5 (R1.same s15) (fr.trans (Fr.same s15)) (dm.trans (Dm.same s15)) (dm _ (s1.free nz)) (.m e5 (nt.keep fun b ys e => s15 _ _ e) (s5 _ _ et))
end
end K1

set_option Elab.async false
set_option linter.all false
set_option maxRecDepth 100000
set_option maxHeartbeats 4000000
/-! Plays side by side; the drafts of a tree. -/
namespace K1
open PySem PySem.Spec PyProof.Rows L2 Kx Kd Kt
/-- two plays share nothing that changes -/
structure Dj (A B : Pad) : Prop where
  p : A.p ≠ B.p
  so : A.so ≠ B.so
  s1 : A.sn ≠ B.so
  s2 : B.sn ≠ A.so
  a1 : A.td ≠ B.td
  a2 : A.td ≠ B.l1
  a3 : A.td ≠ B.l2
  b1 : A.l1 ≠ B.td
  b2 : A.l1 ≠ B.l1
  b3 : A.l1 ≠ B.l2
  c1 : A.l2 ≠ B.td
  c2 : A.l2 ≠ B.l1
  c3 : A.l2 ≠ B.l2
theorem Dj.symm {A B : Pad} (h : Dj A B) : Dj B A := ⟨h.p.symm, h.so.symm, h.s2, h.s1, h.a1.symm, h.b1.symm, h.c1.symm, h.a2.symm, h.b2.symm, h.c2.symm, h.a3.symm, h.b3.symm, h.c3.symm⟩
section
variable {C : Addr} {H H' : Hp} {A B : Pad} {ns ms : List Str} {xs ys : List (Str × Int)} {pl pm : Pl}
theorem New.dj (n : New H A) (R : PlayAt C H B ms ys pm) : Dj A B := by
  obtain ⟨u1, a1, _⟩ := R.h1
  obtain ⟨u2, a2, _⟩ := R.h2
  obtain ⟨u3, a3, _⟩ := R.ht
  exact ⟨(ne_of_none R.ob n.p).symm, (ne_of_none R.hs n.so).symm, (ne_of_none R.hs n.sn).symm, ne_of_none R.hn n.so, (ne_of_none a3 n.td).symm, (ne_of_none a1 n.td).symm, (ne_of_none a2 n.td).symm, (ne_of_none a3 n.l1).symm, (ne_of_none a1 n.l1).symm, (ne_of_none a2 n.l1).symm, (ne_of_none a3 n.l2).symm, (ne_of_none a1 n.l2).symm, (ne_of_none a2 n.l2).symm⟩
/-- what is no play's own part stays -/
theorem Fr.far (R : PlayAt C H A ns xs pl) (f : Fr A H H') {b : Addr} {o : HO} (e : H b = some o) (h1 : ∀ D d i, o ≠ .ins D d (pfs A.sz A.so i A.sn A.td)) (h2 : ∀ ys, o ≠ .lst ys) (h3 : b ≠ A.so) : H' b = some o := by
  obtain ⟨u1, a1, _⟩ := R.h1
  obtain ⟨u2, a2, _⟩ := R.h2
  obtain ⟨u3, a3, _⟩ := R.ht
  refine f b o e (fun q => ?_) h3 (fun q => ?_) (fun q => ?_) (fun q => ?_)
  · rw [q, R.ob] at e
    cases e
    exact h1 _ _ _ rfl
  · rw [q, a3] at e
    cases e
    exact h2 _ rfl
  · rw [q, a1] at e
    cases e
    exact h2 _ rfl
  · rw [q, a2] at e
    cases e
    exact h2 _ rfl
theorem Fr.tk (R : PlayAt C H A ns xs pl) (f : Fr A H H') : Tk H H' := fun b ys e => f.far R e (fun _ _ _ z => by cases z) (fun _ z => by cases z) fun q => by
  rw [q, R.hs] at e
  cases e
/-- another play stays -/
theorem PlayAt.fr (R' : PlayAt C H B ms ys pm) (R : PlayAt C H A ns xs pl) (d : Dj A B) (hz : A.sz = B.sz) (f : Fr A H H') : PlayAt C H' B ms ys pm := by
  obtain ⟨u1, a1, b1, c1⟩ := R'.h1
  obtain ⟨u2, a2, b2, c2⟩ := R'.h2
  obtain ⟨u3, a3, b3, c3⟩ := R'.ht
  have tk := f.tk R
  have so' : ∀ {b o}, H b = some o → (∀ k, o ≠ .dK k) → b ≠ A.so := fun {b o} e hn q => by
    rw [q, R.hs] at e
    cases e
    exact hn _ rfl
  obtain ⟨v1, e1, _⟩ := R.h1
  obtain ⟨v2, e2, _⟩ := R.h2
  obtain ⟨v3, e3, _⟩ := R.ht
  have li : ∀ {b us}, H b = some (.lst us) → b ≠ A.td → b ≠ A.l1 → b ≠ A.l2 → H' b = some (.lst us) := fun {b us} e h1 h2 h3 => f b _ e (ne_of e R.ob (by intro z; cases z)) (so' e fun k z => by cases z) h1 h2 h3
  have dk : ∀ {b k}, H b = some (.dK k) → b ≠ A.so → H' b = some (.dK k) := fun {b k} e h => f.far R e (fun _ _ _ z => by cases z) (fun _ z => by cases z) h
  refine ⟨f _ _ R'.ob d.p.symm (so' R'.ob fun k z => by cases z) (ne_of R'.ob e3 (by intro z; cases z)) (ne_of R'.ob e1 (by intro z; cases z)) (ne_of R'.ob e2 (by intro z; cases z)), dk R'.hz (by rw [← hz]; exact R.n1), dk R'.hs d.so.symm, dk R'.hn d.s2, ⟨u1, li a1 d.a2.symm d.b2.symm d.c2.symm, nestL_tk tk b1, c1⟩, ⟨u2, li a2 d.a3.symm d.b3.symm d.c3.symm, nestL_tk tk b2, c2⟩, ⟨u3, li a3 d.a1.symm d.b1.symm d.c1.symm, b3.keep tk, c3⟩, R'.n1, R'.n2, R'.n3, R'.n4, R'.n5, R'.n6, R'.ok, R'.zk⟩
theorem HdAt.fr {c : Cls3} {a : Addr} {us : List V} {k : Hd} (h : HdAt c H a us k) (R : PlayAt C H A ns xs pl) (f : Fr A H H') : HdAt c H' a us k := by
  have nso : ∀ {b o}, H b = some o → (∀ k, o ≠ .dK k) → b ≠ A.so := fun {b o} e hn q => by
    rw [q, R.hs] at e
    cases e
    exact hn _ rfl
  have tk := f.tk R
  cases h with
  | e h hu => exact .e (f.far R h (fun D d i z => by injection z with _ _ z; have := congrArg List.length z; cases this) (fun _ z => by cases z) (nso h fun _ z => by cases z)) hu
  | l h ht => exact .l (f.far R h (fun D d i z => by injection z with _ _ z; have := congrArg List.length z; cases this) (fun _ z => by cases z) (nso h fun _ z => by cases z)) (tk _ _ ht)
  | m h hv ht => exact .m (f.far R h (fun D d i z => by injection z with _ _ z; have := congrArg List.length z; cases this) (fun _ z => by cases z) (nso h fun _ z => by cases z)) (hv.keep tk) (tk _ _ ht)
end
/-! ### the drafts -/
/-- what a play comes to, and its chance -/
def cameTo (xs : List (Str × Int)) (pl : Pl) : Pl × Option Sm := goOn xs (wtL pl.todo) pl
def nRes : Option Sm → Nat
  | none => 0
  | some x => x.rs.toNat
/-- the plays behind a chance, in order -/
def kids (xs : List (Str × Int)) (pl : Pl) : List Pl := match (cameTo xs pl).2 with
  | none => []
  | some x => (List.range x.rs.toNat).map fun r : Nat => behP xs (askP (cameTo xs pl).1 (some x)) x (r : Int)
def draft (xs : List (Str × Int)) (pl : Pl) : Hd × Nat := (hdOf (cameTo xs pl).1 (cameTo xs pl).2, nRes (cameTo xs pl).2)
def runT (xs : List (Str × Int)) : Nat → List Pl → List (Hd × Nat)
  | 0, _ => []
  | _ + 1, [] => []
  | f + 1, pl :: r => draft xs pl :: runT xs f (kids xs pl ++ r)
theorem addE_todo (pl : Pl) (s : Str) (k : NestedKey) : (addE pl s k).todo = pl.todo ∧ (addE pl s k).st = pl.st ∧ (addE pl s k).e1.length + (addE pl s k).e2.length = pl.e1.length + pl.e2.length + 1 ∧ (addE pl s k).e1.length ≤ pl.e1.length + 1 ∧ (addE pl s k).e2.length ≤ pl.e2.length + 1 := by
  unfold addE
  split
  · exact ⟨rfl, rfl, by show (pl.e1 ++ [k]).length + pl.e2.length = _; rw [List.length_append, List.length_singleton]; omega, by show (pl.e1 ++ [k]).length ≤ _; rw [List.length_append, List.length_singleton]; exact Nat.le_refl _, Nat.le_succ _⟩
  · exact ⟨rfl, rfl, by show pl.e1.length + (pl.e2 ++ [k]).length = _; rw [List.length_append, List.length_singleton]; omega, Nat.le_succ _, by show (pl.e2 ++ [k]).length ≤ _; rw [List.length_append, List.length_singleton]; exact Nat.le_refl _⟩
/-- what stands behind a chance is small and right -/
theorem kids_ok {ns : List Str} {B : Nat} {xs : List (Str × Int)} {pl : Pl} (h : PlOk ns B pl) {x : Sm} (hx : (cameTo xs pl).2 = some x) (r : Int) : PlOk ns B (behP xs (askP (cameTo xs pl).1 (some x)) x r) ∧ (askP (cameTo xs pl).1 (some x)).e1.length ≤ B ∧ (askP (cameTo xs pl).1 (some x)).e2.length ≤ B := by
  obtain ⟨h1, h2, _⟩ := goOn_ok (xs := xs) h (Nat.le_refl _)
  obtain ⟨hc, hp, b1, b2⟩ := h2 x hx
  unfold cameTo at *
  generalize (goOn xs (wtL pl.todo) pl).1 = pm at *
  have ha : (askP pm (some x)).todo = pm.todo ∧ (askP pm (some x)).e1.length ≤ pm.e1.length + 1 ∧ (askP pm (some x)).e2.length ≤ pm.e2.length + 1 := by
    cases x with
    | move k y n m =>
      obtain ⟨a, _, _, b, c⟩ := addE_todo pm (seatOf (.move k y n m)) (askK m n)
      exact ⟨a, b, c⟩
    | _ => exact ⟨rfl, Nat.le_succ _, Nat.le_succ _⟩
  generalize askP pm (some x) = pa at *
  have hb : (behE pa x r).todo = pa.todo ∧ (behE pa x r).e1.length ≤ pa.e1.length + 1 ∧ (behE pa x r).e2.length ≤ pa.e2.length + 1 := by
    unfold behE
    split
    · exact ⟨rfl, Nat.le_succ _, Nat.le_succ _⟩
    · obtain ⟨a, _, _, b, c⟩ := addE_todo pa (seatOf x) (didK r)
      exact ⟨a, b, c⟩
  obtain ⟨e1, e2, e3⟩ := ha
  obtain ⟨f1, f2, f3⟩ := hb
  refine ⟨⟨?_, ?_, ?_⟩, by omega, by omega⟩
  · show ∀ y ∈ (behE pa x r).todo, y.pv ns
    rw [f1, e1]
    exact h1.pv
  · show (behE pa x r).e1.length + 2 * wtL (behE pa x r).todo ≤ B
    rw [f1, e1]
    omega
  · show (behE pa x r).e2.length + 2 * wtL (behE pa x r).todo ≤ B
    rw [f1, e1]
    omega
end K1

set_option Elab.async false
set_option linter.all false
set_option maxRecDepth 100000
set_option maxHeartbeats 4000000
/-! Trees in the store; joined. -/
namespace K1
open PySem PySem.Spec PyProof.Rows L2 Kx Kd Kt
def Tr.hd : Tr → Hd
  | .end_ p => .e p
  | .lot _ => .l
  | .move s v _ => .m s v
def Tr.ps : Tr → Ts
  | .end_ _ => .nil
  | .lot ps => ps
  | .move _ _ ps => ps
def mkT : Hd → Ts → Tr
  | .e p, _ => .end_ p
  | .l, ps => .lot ps
  | .m s v, ps => .move s v ps
def Ts.ls : Ts → List Tr
  | .nil => []
  | .cons t r => t :: r.ls
def tsOf : List Tr → Ts
  | [] => .nil
  | t :: r => .cons t (tsOf r)
def Hd.isE : Hd → Bool
  | .e _ => true
  | _ => false
/-- what the drafts of a list come to, the last first -/
def joinT : List (Hd × Nat) → List Tr
  | [] => []
  | (k, n) :: r => mkT k (tsOf ((joinT r).take n)) :: (joinT r).drop n
def okJ : List (Hd × Nat) → Prop
  | [] => True
  | (k, n) :: r => n ≤ (joinT r).length ∧ (k.isE = true → n = 0) ∧ okJ r
mutual
inductive TrAt (c : Cls3) (H : Hp) (F : Addr → Prop) : Addr → Tr → Prop
  | mk {a : Addr} {k : Hd} {us : List V} {ps : Ts} (hf : F a) (h : HdAt c H a us k) (hp : TsAt c H F us ps) (he : k.isE = true → ps = .nil) : TrAt c H F a (mkT k ps)
inductive TsAt (c : Cls3) (H : Hp) (F : Addr → Prop) : List V → Ts → Prop
  | nil : TsAt c H F [] .nil
  | cons {a : Addr} {t : Tr} {us : List V} {ps : Ts} (h : TrAt c H F a t) (hr : TsAt c H F us ps) : TsAt c H F (.ref a :: us) (.cons t ps)
end
theorem HdAt.keep {c : Cls3} {H H' : Hp} {a : Addr} {us : List V} {k : Hd} (h : HdAt c H a us k) (ha : ∀ o, H a = some o → H' a = some o) (tk : Tk H H') : HdAt c H' a us k := by
  cases h with
  | e h hu => exact .e (ha _ h) hu
  | l h ht => exact .l (ha _ h) (tk _ _ ht)
  | m h hv ht => exact .m (ha _ h) (hv.keep tk) (tk _ _ ht)
mutual
theorem TrAt.keep {c : Cls3} {H H' : Hp} {F G : Addr → Prop} (hf : ∀ a, F a → G a) (hk : ∀ a o, F a → H a = some o → H' a = some o) (tk : Tk H H') : ∀ {a : Addr} {t : Tr}, TrAt c H F a t → TrAt c H' G a t
  | _, _, .mk f h hp he => .mk (hf _ f) (h.keep (fun o e => hk _ o f e) tk) (TsAt.keep hf hk tk hp) he
theorem TsAt.keep {c : Cls3} {H H' : Hp} {F G : Addr → Prop} (hf : ∀ a, F a → G a) (hk : ∀ a o, F a → H a = some o → H' a = some o) (tk : Tk H H') : ∀ {us : List V} {ps : Ts}, TsAt c H F us ps → TsAt c H' G us ps
  | _, _, .nil => .nil
  | _, _, .cons h hr => .cons (TrAt.keep hf hk tk h) (TsAt.keep hf hk tk hr)
end
theorem TsAt.len {c : Cls3} {H : Hp} {F : Addr → Prop} : ∀ {l : List Tr} {us : List V}, TsAt c H F us (tsOf l) → us.length = l.length
  | [], _, h => by
    cases h
    rfl
  | t :: l, _, h => by
    cases h with
    | cons h hr => rw [List.length_cons, List.length_cons, TsAt.len hr]
theorem TsAt.split {c : Cls3} {H : Hp} {F : Addr → Prop} : ∀ {n : Nat} {l : List Tr} {us : List V}, TsAt c H F us (tsOf l) → TsAt c H F (us.take n) (tsOf (l.take n)) ∧ TsAt c H F (us.drop n) (tsOf (l.drop n))
  | 0, l, us, h => ⟨.nil, h⟩
  | n + 1, [], _, h => by
    cases h
    exact ⟨.nil, .nil⟩
  | n + 1, t :: l, _, h => by
    cases h with
    | cons h hr =>
      obtain ⟨a, b⟩ := TsAt.split (n := n) hr
      exact ⟨.cons h a, b⟩
/-- a draft -/
structure It where
  a : Addr
  k : Hd
  n : Nat
def It.d (x : It) : Hd × Nat := (x.k, x.n)
def spJo (K : PySem.W.Frag) (c : Cls3) : Sp := fun vs H Q _ => ∃ (l : Addr) (us : List V) (its : List It) (t : Tr), vs = [.ref l] ∧ H l = some (.lst us) ∧ (∀ (i : Nat) u x, us[i]? = some u → its[i]? = some x → ∃ p, u = V.ref p ∧ H p = some (.tup [.ref x.a, .int x.n])) ∧ us.length = its.length ∧ its.length ≤ 1000 ∧ (its.map It.a).Nodup ∧ (∀ x ∈ its, HdAt c H x.a [] x.k) ∧ okJ (its.map It.d) ∧ joinT (its.map It.d) = [t] ∧
  ∀ (x : Addr) H', TrAt c H' (fun a => ∃ x ∈ its, a = x.a) x t → (∀ b o, H b = some o → (∀ x ∈ its, b ≠ x.a) → H' b = some o) → Q (.ref x) H'
theorem joinT_len : ∀ l : List (Hd × Nat), (joinT l).length ≤ l.length
  | [] => Nat.le_refl _
  | (k, n) :: r => by
    have := joinT_len r
    show ((joinT r).drop n).length + 1 ≤ r.length + 1
    rw [List.length_drop]
    omega
abbrev NJo : List Str := ["drafts", "nodes", "node", "parts", "_"]
section
variable {P : Program} {w : World} {K : PySem.W.Frag} {mg : Str → Option Value} {base : Heap} {c : Cls3}
theorem scJo : FnScope NJo ["drafts"] (defScope sJo) := ⟨rfl, rfl, rfl, by decide +kernel, rfl, by decide +kernel, by decide +kernel⟩
/-- a node gets its parts -/
theorem HdAt.put {H : Hp} {a : Addr} {k : Hd} {us0 : List V} (h : HdAt c H a us0 k) (hk : k.isE = false) : ∃ C dx fs, H a = some (.ins C dx fs) ∧ (C = c.L ∨ C = c.M) ∧ fs.length ≤ 3 ∧ ∀ (t : Addr) (us : List V) (H' : Hp), H' t = some (.tup us) → H' a = some (.ins C dx (putF "parts" (.ref t) fs)) → Tk H H' → HdAt c H' a us k := by
  cases h with
  | e h hu => cases hk
  | l h ht => exact ⟨_, _, _, h, .inl rfl, by show 1 ≤ 3; decide, fun t us H' e1 e2 tk => .l e2 e1⟩
  | m h hv ht => exact ⟨_, _, _, h, .inr rfl, by show 3 ≤ 3; decide, fun t us H' e1 e2 tk => .m e2 (hv.keep tk) e1⟩
theorem okJ_drop : ∀ {l : List (Hd × Nat)} (n : Nat), okJ l → okJ (l.drop n)
  | l, 0, h => h
  | [], n + 1, h => trivial
  | (k, m) :: r, n + 1, h => okJ_drop n h.2.2
theorem ok_jo {f : Addr} {fd : FuncData} (F : Fun K "joined" "joined" sJo f fd) (T : TxN K mg c) (hrange : mg "range" = none) : FnOk P w K mg base CX0 1 f fd ["drafts"] (spJo K c) := by
  refine F.ok scJo (fun vs H Q E h => ?_) (fun cdv A0 outer s H vs Q E hr h => ?_)
  · obtain ⟨l, us, its, t, rfl, _⟩ := h
    rfl
  · obtain ⟨l, us, its, t, rfl, hl, hus, hlen, hmax, hnd, hhd, hok, hj, q⟩ := h
    refine ⟨_, pss_cons (ps_set (i := 1) scJo.nd rfl (Or.inr rfl) (pe_lst pa_nil))
      (pss_cons (ps_for PassesOwn.never rfl (pi_list (pe_revL (pv 0))) (pg_tup (by rfl) (pgs_cons (pg_name (i := 2) scJo.nd rfl (Or.inl rfl)) (pgs_cons (pg_name (i := 3) scJo.nd rfl (Or.inl rfl)) pgs_nil)))
        (pss_cons (ps_if (pt_cmpR op_gt (pv 3) pe_int (nomark _)) (pss_one (ps_fld (pv 2) (pe_callTy call_tuple_of (by rfl) T.tuple (by decide +kernel) (pa_cons (pe_lc (own := [("_", 4)]) (g := gName 4) (tt := tYes) (te := tBM0 K "list" rPop (tVar 1)) rfl scJo.nd (pi_range1 rfl hrange (pa_cons (pv 3) pa_nil)) (blkOk_by (N := NJo) (sc := defScope sJo) (by decide +kernel))
            (fun _ _ _ _ _ => pg_name (i := 4) scJo.nd rfl (Or.inl rfl)) (fun _ _ _ _ _ => pts_nil) (fun _ _ _ _ _ => pe_bm0 PySem.F.plainAttrs_list PySem.F.slot_list_pop PySem.F.type_list_pop mt_pop (pv 1))) pa_nil)) rfl)) pss_nil)
        (pss_one (ps_expr (pe_bm PySem.F.plainAttrs_list PySem.F.slot_list_append PySem.F.type_list_append mt_append (pv 1) (pa_cons (pv 2) pa_nil))))))
      (pss_one (ps_ret (pe_ix ix_list (pv 1) pe_int (fun _ _ => rfl))))), ?_⟩
    refine ⟨by show 0 ≤ sizeLine; decide, fun Dn hDn => ?_⟩
    have s0 := same_upd (o := .lst []) hDn
    have eD0 : upd H Dn (.lst []) Dn = some (.lst []) := upd_same
    generalize upd H Dn (.lst []) = H1 at *
    refine ⟨_, rfl, l, _, rfl, SqL.of (s0 _ _ hl), fun R hR => ?_⟩
    have s1 := same_upd (o := .lst us.reverse) hR
    have eR : upd H1 R (.lst us.reverse) R = some (.lst us.reverse) := upd_same
    have nDR : Dn ≠ R := ne_of_none eD0 hR
    generalize upd H1 R (.lst us.reverse) = H2 at *
    have s2 := s0.trans s1
    let sf : Nat → List It := fun i => its.drop (its.length - i)
    let Pv : Nat → L2.St → Hp → Prop := fun i σ H' => (∃ v2 v3, σ = [some (.ref l), some (.ref Dn), v2, v3, none]) ∧ ∃ as : List V, H' Dn = some (.lst as.reverse) ∧ TsAt c H' (fun a => ∃ x ∈ sf i, a = x.a) as (tsOf (joinT ((sf i).map It.d))) ∧ H' R = some (.lst us.reverse) ∧ (∀ b o, H b = some o → (∀ x ∈ its, b ≠ x.a) → H' b = some o) ∧ (∀ x ∈ its.take (its.length - i), HdAt c H' x.a [] x.k)
    have hins : ∀ x ∈ its, ∃ C dx fs, H x.a = some (.ins C dx fs) := fun x hx => by
      have := hhd x hx
      cases hk : x.k with
      | e p =>
        rw [hk] at this
        cases this with
        | e h hu => exact ⟨_, _, _, h⟩
      | l =>
        rw [hk] at this
        cases this with
        | l h ht => exact ⟨_, _, _, h⟩
      | m a b =>
        rw [hk] at this
        cases this with
        | m h hv ht => exact ⟨_, _, _, h⟩
    have hpn : ∀ p us, H p = some (.tup us) → ∀ x ∈ its, p ≠ x.a := fun p us e x hx q => by
      obtain ⟨C, dx, fs, e2⟩ := hins x hx
      rw [q, e2] at e
      cases e
    refine ⟨R, rfl, ⟨_, SqL.of eR⟩, ?_⟩
    have hs0 : sf 0 = [] := List.drop_eq_nil_of_le (Nat.le_refl _)
    refine for_list (xs := us.reverse) Pv ⟨⟨none, none, rfl⟩, [], s1 _ _ eD0, ?_, eR, fun b o e _ => s2 _ _ e, fun x hx => ?_⟩ (fun i σ H' _ h => ?_) ?_ ?_
    · rw [hs0]
      exact .nil
    · exact (hhd x (List.mem_of_mem_take hx)).same s2
    · obtain ⟨_, as, _, _, eR', _⟩ := h
      exact SqL.of eR'
    · rintro i u σ H' hu ⟨⟨v2, v3, rfl⟩, as, eD, ht, eR', kp, hh⟩
      have hi : i < its.length := by
        have := (List.getElem?_eq_some_iff.mp hu).1
        rw [List.length_reverse] at this
        omega
      have hm : its.length - i - 1 < its.length := by omega
      rw [List.getElem?_reverse (by omega)] at hu
      have hx := List.getElem?_eq_getElem hm
      have hsf : sf (i + 1) = its[its.length - i - 1] :: sf i := by
        show its.drop (its.length - (i + 1)) = _ :: its.drop (its.length - i)
        rw [show its.length - (i + 1) = its.length - i - 1 by omega, List.drop_eq_getElem_cons hm, show its.length - i - 1 + 1 = its.length - i by omega]
      have htk : its.take (its.length - i) = its.take (its.length - i - 1) ++ [its[its.length - i - 1]] := by
        have := List.take_succ_eq_append_getElem hm
        rw [show its.length - i - 1 + 1 = its.length - i by omega] at this
        exact this
      obtain ⟨p, rfl, ep⟩ := hus (its.length - i - 1) u _ (by rw [← hu, hlen]; congr 1; omega) hx
      have hxm : its[its.length - i - 1] ∈ its := List.getElem_mem hm
      have ep' := kp _ _ ep (hpn _ _ ep)
      have hok1 := okJ_drop (its.length - (i + 1)) hok
      rw [← List.map_drop, show its.drop (its.length - (i + 1)) = sf (i + 1) from rfl, hsf] at hok1
      have hhx : HdAt c H' its[its.length - i - 1].a [] its[its.length - i - 1].k := hh _ (by rw [htk]; exact List.mem_append_right _ (List.mem_singleton.mpr rfl))
      have hfar : ∀ y ∈ its.take (its.length - i - 1), y.a ≠ its[its.length - i - 1].a := fun y hy e => by
        have h2 : (its.take (its.length - i) ++ its.drop (its.length - i)).map It.a = its.map It.a := by rw [List.take_append_drop]
        rw [← h2, List.map_append, htk, List.map_append] at hnd
        exact (List.nodup_append.mp (List.nodup_append.mp hnd).1).2.2 _ (List.mem_map.mpr ⟨y, hy, rfl⟩) _ (List.mem_singleton.mpr rfl) e
      have hfar2 : ∀ y ∈ sf i, y.a ≠ its[its.length - i - 1].a := fun y hy e => by
        have h2 : (its.take (its.length - i) ++ its.drop (its.length - i)).map It.a = its.map It.a := by rw [List.take_append_drop]
        rw [← h2, List.map_append, htk, List.map_append] at hnd
        exact (List.nodup_append.mp hnd).2.2 _ (List.mem_append_right _ (List.mem_singleton.mpr rfl)) _ (List.mem_map.mpr ⟨y, hy, rfl⟩) e.symm
      generalize its[its.length - i - 1] = x at *
      obtain ⟨k1, k2, _⟩ := hok1
      have hal : as.length = (joinT ((sf i).map It.d)).length := ht.len
      have hnl : x.n ≤ as.length := by rw [hal]; exact k1
      have hasl : as.length ≤ 1000 := by
        have := joinT_len ((sf i).map It.d)
        rw [List.length_map] at this
        have h3 : (sf i).length ≤ its.length := by show (its.drop _).length ≤ _; rw [List.length_drop]; omega
        omega
      have nDx : Dn ≠ x.a := fun e => by
        obtain ⟨C, dx, fs, e2⟩ := hins x hxm
        rw [← e, hDn] at e2
        cases e2
      have nRx : R ≠ x.a := fun e => by
        obtain ⟨C, dx, fs, e2⟩ := hins x hxm
        rw [← e] at e2
        have := s0 _ _ e2
        rw [hR] at this
        cases this
      have fin : ∀ H3 : Hp, H3 Dn = some (.lst (as.drop x.n).reverse) → HdAt c H3 x.a (as.take x.n) x.k → (∀ b o, H' b = some o → b ≠ Dn → b ≠ x.a → H3 b = some o) → Pv (i + 1) [some (.ref l), some (.ref Dn), some (.ref x.a), some (.int x.n), none] (upd H3 Dn (.lst ((as.drop x.n).reverse ++ [V.ref x.a]))) := fun H3 e3 h3 k3 => by
        have ups : ∀ b o, H' b = some o → b ≠ Dn → b ≠ x.a → upd H3 Dn (.lst ((as.drop x.n).reverse ++ [V.ref x.a])) b = some o := fun b o e n1 n2 => by
          rw [upd_ne n1]
          exact k3 _ _ e n1 n2
        have tk3 : Tk H3 (upd H3 Dn (.lst ((as.drop x.n).reverse ++ [V.ref x.a]))) := tk_lst e3
        have tkx : Tk H' (upd H3 Dn (.lst ((as.drop x.n).reverse ++ [V.ref x.a]))) := fun b ys e => ups _ _ e (ne_of e eD (by intro z; cases z)) fun e2 => by
          have := hhx
          rw [e2] at e
          cases hk : x.k with
          | e p => rw [hk] at this; cases this with | e h hu => rw [e] at h; cases h
          | l => rw [hk] at this; cases this with | l h ht => rw [e] at h; cases h
          | m a b => rw [hk] at this; cases this with | m h hv ht => rw [e] at h; cases h
        refine ⟨⟨_, _, rfl⟩, V.ref x.a :: as.drop x.n, ?_, ?_, ups _ _ eR' nDR.symm nRx, fun b o e hn => ups _ _ (kp _ _ e hn) (ne_of_none e hDn) (hn x hxm), fun y hy => ?_⟩
        · rw [upd_same, List.reverse_cons]
        · rw [hsf]
          obtain ⟨t1, t2⟩ := ht.split (n := x.n)
          have sub : ∀ a : Addr, (∃ y ∈ sf i, a = y.a) → ∃ y ∈ x :: sf i, a = y.a := fun a ⟨y, hy, e⟩ => ⟨y, List.mem_cons_of_mem _ hy, e⟩
          have kk : ∀ (a : Addr) (o : HO), (∃ y ∈ sf i, a = y.a) → H' a = some o → upd H3 Dn (.lst ((as.drop x.n).reverse ++ [V.ref x.a])) a = some o := fun a o ⟨y, hy, e⟩ e2 => ups _ _ e2 (fun e3 => by
            have hym : y ∈ its := List.mem_of_mem_drop hy
            obtain ⟨C, dx, fs, e4⟩ := hins y hym
            rw [← e, e3, hDn] at e4
            cases e4) (by rw [e]; exact hfar2 y hy)
          refine .cons (.mk ⟨x, List.mem_cons_self .., rfl⟩ (h3.keep (fun o e => by rw [upd_ne nDx.symm]; exact e) tk3) (t1.keep sub kk tkx) fun he => ?_) (t2.keep sub kk tkx)
          have h0 : x.n = 0 := k2 he
          rw [h0]
          rfl
        · rw [show its.length - (i + 1) = its.length - i - 1 by omega] at hy
          refine (hh y (by rw [htk]; exact List.mem_append_left _ hy)).keep (fun o e => ups _ _ e (fun e3 => ?_) (hfar y hy)) tkx
          obtain ⟨C, dx, fs, e4⟩ := hins y (List.mem_of_mem_take hy)
          rw [e3, hDn] at e4
          cases e4
      refine ⟨p, _, rfl, SqT.of ep', rfl, _, _, rfl, _, _, rfl, rfl, ?_⟩
      refine ⟨_, rfl, _, _, rfl, rfl, _, rfl, ?_⟩
      by_cases hn : (x.n : Int) > 0
      · rw [decide_eq_true hn]
        have hE : x.k.isE = false := by
          cases hk : x.k.isE with
          | false => rfl
          | true =>
            have h0 : x.n = 0 := k2 hk
            omega
        refine iteT ⟨_, rfl, (x.n : Int), rfl, by omega, by omega, fun D2 hD2 => ?_⟩
        have nD2 : Dn ≠ D2 := ne_of_none eD hD2
        refine lc_range (lo := 0) (n := (x.n : Int).toNat) (fun j H2 => H2 D2 = some (.lst (as.take j)) ∧ H2 Dn = some (.lst (as.drop j).reverse) ∧ ∀ b o, H' b = some o → b ≠ Dn → H2 b = some o) ⟨upd_same, by rw [upd_ne nD2]; exact eD, fun b o e _ => by rw [upd_ne (ne_of_none e hD2)]; exact e⟩ ?_ ?_
        · rintro j H3 hjn ⟨e1, e2, k3⟩
          have hjl : j < as.length := by omega
          have hdj := List.drop_eq_getElem_cons hjl
          have hat : (as.drop j).reverse[(as.drop j).reverse.length - 1]? = some as[j] := by
            rw [hdj, List.reverse_cons, List.length_append, List.length_singleton, Nat.add_sub_cancel, List.getElem?_append_right (Nat.le_refl _), Nat.sub_self]
            rfl
          refine ⟨rfl, tYesI ⟨_, rfl, .inl ⟨rfl, _, SqL.of e2⟩, Dn, _, _, rfl, rfl, e2, hat, ?_⟩⟩
          refine ⟨as.take j, by rw [upd_ne nD2.symm]; exact e1, by rw [List.length_take]; exact Nat.lt_of_le_of_lt (show min j as.length ≤ 1000 by omega) (by decide), ?_, ?_, fun b o e hb => ?_⟩
          · rw [upd_same, List.take_succ_eq_append_getElem hjl]
          · rw [upd_ne nD2, upd_same, hdj, List.reverse_cons, List.dropLast_concat]
          · rw [upd_ne (ne_of_none e hD2), upd_ne hb]
            exact k3 _ _ e hb
        · rintro H3 ⟨e1, e2, k3⟩
          rw [Int.toNat_natCast] at e1 e2
          obtain ⟨C, dx, fs, ex, hC, hsz, hput⟩ := hhx.put hE
          have ex3 := k3 _ _ ex nDx.symm
          refine ⟨D2, _, rfl, .inl ⟨SqL.of e1, fun t2 ht2 => ?_⟩⟩
          have s4 := same_upd (o := .tup (as.take x.n)) ht2
          have et2 : upd H3 t2 (.tup (as.take x.n)) t2 = some (.tup (as.take x.n)) := upd_same
          generalize upd H3 t2 (.tup (as.take x.n)) = H4 at *
          have ex4 := s4 _ _ ex3
          have nt2 : t2 ≠ x.a := ne_of et2 ex4 (by intro z; cases z)
          refine ⟨_, rfl, x.a, C, dx, fs, rfl, ex4, (by rcases hC with rfl | rfl <;> first | exact T.cL | exact T.cM), (by rcases hC with rfl | rfl <;> first | exact T.nL | exact T.nM3), by omega, ?_⟩
          have e5 : upd H4 x.a (.ins C dx (putF "parts" (.ref t2) fs)) x.a = some (.ins C dx (putF "parts" (.ref t2) fs)) := upd_same
          have k5 : ∀ b o, H' b = some o → b ≠ Dn → b ≠ x.a → upd H4 x.a (.ins C dx (putF "parts" (.ref t2) fs)) b = some o := fun b o e n1 n2 => by
            rw [upd_ne n2]
            exact s4 _ _ (k3 _ _ e n1)
          have eDn : upd H4 x.a (.ins C dx (putF "parts" (.ref t2) fs)) Dn = some (.lst (as.drop x.n).reverse) := by
            rw [upd_ne nDx]
            exact s4 _ _ e2
          have et5 : upd H4 x.a (.ins C dx (putF "parts" (.ref t2) fs)) t2 = some (.tup (as.take x.n)) := by
            rw [upd_ne nt2]
            exact et2
          have tk5 : Tk H' (upd H4 x.a (.ins C dx (putF "parts" (.ref t2) fs))) := fun b ys e => k5 _ _ e (ne_of e eD (by intro z; cases z)) (ne_of e ex (by intro z; cases z))
          refine ⟨_, rfl, .inl ⟨rfl, _, SqL.of eDn⟩, _, rfl, Dn, _, _, rfl, rfl, eDn, ?_, fin _ eDn (hput t2 _ _ et5 e5 tk5) k5⟩
          rw [List.length_reverse, List.length_drop]
          exact Nat.lt_of_le_of_lt (show as.length - x.n ≤ 1000 by omega) (by decide)
      · rw [decide_eq_false hn]
        have h0 : x.n = 0 := by omega
        refine iteF ⟨_, rfl, .inl ⟨rfl, _, SqL.of eD⟩, _, rfl, Dn, _, _, rfl, rfl, eD, ?_, ?_⟩
        · rw [List.length_reverse]
          exact Nat.lt_of_le_of_lt hasl (by decide)
        · have := fin H' (by rw [h0]; exact eD) (by rw [h0]; exact hhx) fun b o e _ _ => e
          have e2 : (as.drop x.n).reverse = as.reverse := by rw [h0]; rfl
          rw [e2] at this
          exact this
    · rintro σ H' ⟨⟨v2, v3, rfl⟩, as, eD, ht, eR', kp, hh⟩
      have hs : sf us.reverse.length = its := by
        show its.drop (its.length - us.reverse.length) = its
        rw [List.length_reverse, hlen, Nat.sub_self]
        rfl
      rw [hs, hj] at ht
      cases ht with
      | cons h hr =>
        cases hr
        exact ⟨_, rfl, Dn, _, _, _, rfl, rfl, SqL.of eD, tix0, q _ _ h kp⟩
end
end K1

set_option Elab.async false
set_option linter.all false
set_option maxRecDepth 100000
set_option maxHeartbeats 4000000
/-! isinstance, and a field, of a caught error that has a dict of its own. -/
namespace Kx
open PySem PySem.W PySem.Spec PySem.Calls PyProof.Rows L2
section
variable {prog : Program} {w : World} {A : Around} {E : Value → Shared → Prop} {s : Shared} {K : Frag} {x D : Addr} {ox : Obj} {od : Option Obj}
theorem find_dsc {C : Addr} {name : Str} {a g : Value} (c1 : (clsIn K C).isSome = true) (c2 : findIn K (.ref C) name = some (some a)) (c3 : specialIn K a "__get__" = some (some g)) (c4 : takesIn K a = some true) : findObj K C od name = some (.bind g a) := by
  obtain ⟨cd, e⟩ := Option.isSome_iff_exists.mp c1
  unfold findObj
  rw [e, Option.bind_some, c2, Option.bind_some] ; simp [c3, c4]
theorem cls_of_err {Q : Option Value → Shared → Prop} (C : ExcC K D) (X : K.In s.heap) (I : InstAt s.heap x ox D od) (q : Q (some (.ref D)) { s with toks := s.toks + 1 }) : wpAny (model prog w) A (getAttr? (.ref x) "__class__") Q E s := by
  have hfo : findObj K D od "__class__" = some (.bind (.builtin "getset_descriptor.__get__") (.builtin "object.__class__")) := find_dsc (by obtain ⟨_, e, _⟩ := any_some C.hd; rw [e]; rfl) C.ha C.hn C.ht
  obtain ⟨hp, gg, dd, tk, os⟩ := s
  have la := I.type (M := model prog w) ; have lb := looks_findIn (M := model prog w) X C.hg ; have lc := looks_findIn (M := model prog w) X C.hk ; have ld := looks_find (M := model prog w) X I hfo
  have isb : Looks (model prog w) hp (isInstance (.ref x) (.type "BaseException")) true := la.andThen (looks_subIn X C.hs)
  have f0 : (false && onTheHeap (Value.builtin "BaseException.__getattribute__")) = false := rfl
  have f1 : (onTheHeap (Value.ref D) && Value.builtin "BaseException.__getattribute__" == Value.builtin "object.__getattribute__") = false := by rw [show (Value.builtin "BaseException.__getattribute__" == Value.builtin "object.__getattribute__") = false from by decide +kernel, Bool.and_false]
  unfold getAttr? getAttrBy? getAttrBy
  refine wpAny_bind (wpAny_mkText (wpAny_bind (wpAny_attempt (wpAny_holding (wpAny_bind (la.at (wpAny_bind (lb.at ?_)))))))) ; show wpAny _ _ (if (onTheHeap (Value.ref D) && Value.builtin "BaseException.__getattribute__" == Value.builtin "object.__getattribute__") = true then _ else _) _ _ _
  rw [f1, if_neg Bool.false_ne_true]
  unfold getAttrByItsOwn hookBefore
  refine wpAny_bind ?_ ; rw [if_pos (show onTheHeap (Value.ref D) = true from rfl)]
  refine lc.at ?_ ; refine wpAny_bind (wpAny_attempt (wpAny_holding ?_))
  unfold callGetattribute ; rw [f0, if_neg Bool.false_ne_true]
  unfold boundAndCalled ; rw [PySem.F.excAttr_ValueError.ga.bind (.ref x)]
  refine wpAny_bind (wpAny_pure ?_) ; show wpAny _ _ (call (.builtin "BaseException.__getattribute__") [.ref x, .str "__class__" tk]) _ _ _
  refine wpAny_call (codeAny_call_builtin PySem.F.excAttr_ValueError.ga.plain PySem.F.entry_bexc_ga ?_)
  refine @check_slot (model prog w) _ _ ⟨hp, gg, dd, tk + 1, os⟩ "BaseException.__getattribute__" "BaseException" "__getattribute__" (.ref x) [.str "__class__" tk] [] _ (by decide +kernel) (by decide +kernel) isb (PySem.F.args_bexc_ga (.ref x) (.str "__class__" tk)) ?_
  unfold Builtin.«object.__getattribute__»
  refine wpAny_bind (wpAny_of_eq (a := ((Value.ref x : Value), [Value.str "__class__" tk])) (by first | rfl | (simp only [slotArgs]; rfl)) ?_) ; refine wpAny_bind (wpAny_pure (wpAny_bind (la.at (wpAny_bind (ld.at ?_)))))
  show wpAny _ _ (holding [Value.builtin "object.__class__"] (call (.builtin "getset_descriptor.__get__") [.builtin "object.__class__", .ref x, .ref D]) >>= ret) _ _ _
  refine wpAny_bind (wpAny_holding (wpAny_call (class_get (s := ⟨hp, gg, dd, tk + 1, os⟩) (ox := ox) (od := od) X I C.hm ?_))) ; refine wpAny_pure ?_
  show wpAny _ _ (handedOut (.ref D)) _ _ _
  rw [handedOut_of (v := .ref D) rfl]
  first | exact wpAny_pure (wpAny_pure q) | exact wpAny_pure q | exact wpAny_pure (wpAny_bind (wpAny_pure (wpAny_pure q)))
theorem kit_of_err (C : ExcC K D) : KitX K (.ref x) (.ref D) (fun h => InstAt h x ox D od) where
  ty := fun M h X I => I.type
  it := fun M h X I => by
    obtain ⟨cd, e, _⟩ := any_some C.hd ; unfold clsIn at e
    split at e
    · rename_i _ _ _ _ ho
      intro A' Q' E' s' k q ; unfold isType loadHead
      exact wpAny_bind (wpAny_loadPart (k _ _ (X _ _ ho)) (wpAny_pure q))
    · cases e
  ne := fun h tp dd its n sl X ht => by
    obtain ⟨cd, e, _⟩ := any_some C.hd ; refine Bool.eq_false_iff.mpr fun q => ?_
    have same : D = tp := Value.ref.inj (beq_iff_eq.mp q) ; subst same ; unfold clsIn at e
    split at e
    · rename_i _ _ _ _ ho
      have z := (X _ _ ho).symm.trans ht ; cases z
    · cases e
  ca := fun X I k => cls_of_err C X I k
end
end Kx
namespace Kx
open PySem PySem.Spec PyProof.Rows L2
section
variable {X : Cx} {a D : Addr} {oe : Obj} {pn : List (Addr × Obj)} {cls : Value} {d : Option Addr}
/-- how the caught error stands: its class, its dict's one field -/
theorem err_inst {s : Shared} {H : Hp} {f : Str} {v : V} (hz : Zc cls d oe) (hf : ∃ vs, oe.data = .fields vs) {dd : Addr} (ec : cls = .ref D) (ed : d = some dd) (ha : s.heap.get? a = some oe) (hok : ObjOk X.prog X.w H s.heap dd (.xd [(f, v)])) :
    ∃ od u, PySem.W.InstAt s.heap a oe D (some od) ∧ PySem.W.lookIn f od = some (some u) ∧ RelV v u := by
  obtain ⟨mA, hns, hr⟩ := hok
  obtain ⟨od, ho, hl⟩ := lookIn_ns hns
  have l : List.lookup f [(f, v)] = some v := by simp [List.lookup]
  obtain ⟨u, hu, ru⟩ := RelO.some_of (v := v) (o := mA f) (by rw [← l]; exact hr f)
  obtain ⟨vs, hd⟩ := hf
  refine ⟨od, u, ⟨ha, by rw [hz.1, ec], by unfold PySem.W.notCls; rw [hd] <;> rfl, by rw [hz.2, ed]; exact ho⟩, by rw [hl, hu], ru⟩
def rErr1 (K : PySem.W.Frag) (D a : Addr) (f : Str) (cls : Value) (d : Option Addr) : List V → Hp → VK → Prop := fun xs H Q => ∃ (dd : Addr) (v c : V) (cv : Value) (b : Bool), cls = .ref D ∧ d = some dd ∧ H dd = some (.xd [(f, v)]) ∧ xs = [.ref a, c] ∧ (∀ u, RelV c u → u = cv) ∧ PySem.W.kitOne K (.ref D) cv = some b ∧ Q (.bl b) H
theorem call_err1 {f : Str} (C : ExcC X.K D) (hz : Zc cls d oe) (hf : ∃ vs, oe.data = .fields vs) : CallR (X.suite a ((a, oe) :: pn)) (.builtin "isinstance") (rErr1 X.K D a f cls d) := by
  intro pins s σ H xs us Q I r h
  obtain ⟨dd, v, c, cv, b, ec, ed, hd, rfl, hcv, e, q⟩ := h
  obtain ⟨u1, u2, rfl, r1, r2⟩ := vals2 r
  cases (show u1 = Value.ref a from r1)
  have e2 := hcv _ r2
  subst e2
  obtain ⟨ha, _⟩ := I.pin (a, oe) (List.mem_append.mpr (.inl List.mem_cons_self))
  obtain ⟨od, u, J, _, _⟩ := err_inst (X := X) hz hf ec ed ha (I.hok dd _ hd)
  exact PySem.W.kia_one (kit_of_err C) I.kIn J e (fun z => nomatch z) fun tk => ⟨.bl b, H, I.kept (t' := tk) fun _ _ z => z, rfl, q⟩
def rErrT (K : PySem.W.Frag) (D a : Addr) (f : Str) (cls : Value) (d : Option Addr) : List V → Hp → VK → Prop := fun xs H Q => ∃ (dd : Addr) (v : V) (tp : Addr) (cs : List V) (us : List Value) (b : Bool), cls = .ref D ∧ d = some dd ∧ H dd = some (.xd [(f, v)]) ∧ xs = [.ref a, .ref tp] ∧ H tp = some (.tup cs) ∧ Paired ClsV cs us ∧ PySem.W.kitAny K (.ref D) us = some b ∧ Q (.bl b) H
theorem call_errT {f : Str} (C : ExcC X.K D) (hz : Zc cls d oe) (hf : ∃ vs, oe.data = .fields vs) : CallR (X.suite a ((a, oe) :: pn)) (.builtin "isinstance") (rErrT X.K D a f cls d) := by
  intro pins s σ H xs us Q I r h
  obtain ⟨dd, v, tp, cs, ws, b, ec, ed, hd, rfl, hT, k, e, q⟩ := h
  obtain ⟨u1, u2, rfl, r1, r2⟩ := vals2 r
  cases (show u1 = Value.ref a from r1)
  cases (show u2 = Value.ref tp from r2)
  obtain ⟨ha, _⟩ := I.pin (a, oe) (List.mem_append.mpr (.inl List.mem_cons_self))
  obtain ⟨od, u, J, _, _⟩ := err_inst (X := X) hz hf ec ed ha (I.hok dd _ hd)
  obtain ⟨_, its, rv, o, h1, h2, n, h3⟩ := (show ObjOk X.prog X.w H s.heap tp (.tup cs) from I.hok tp _ hT)
  have e3 := ClsV.all k rv
  subst e3
  obtain ⟨oc, oD, dt, sl⟩ := o
  simp only at h2 h3
  subst h2 h3
  exact PySem.W.kia_tup (kit_of_err C) I.kIn J h1 e (fun z => nomatch z) fun tk => ⟨.bl b, H, I.kept (t' := tk) fun _ _ z => z, rfl, q⟩
/-- e.f of the caught error -/
def tErrF (D a : Addr) (f : Str) (cls : Value) (d : Option Addr) (te : TE) : TE := fun σ H Q => te σ H fun x H1 => ∃ (dd : Addr) (v : V), x = .ref a ∧ cls = .ref D ∧ d = some dd ∧ H1 dd = some (.xd [(f, v)]) ∧ Q v H1
theorem pe_errF {f : Str} {e : Expr} {te : TE} {pos : Pos} (C : ExcC X.K D) (no : PySem.W.findIn X.K (.ref D) f = some none) (hz : Zc cls d oe) (hf : ∃ vs, oe.data = .fields vs) (he : PE (X.suite a ((a, oe) :: pn)) e te)
    (hb : attributeBase e f X.env (eval e X.env) = eval e X.env := by rfl) : PE (X.suite a ((a, oe) :: pn)) (.Attribute e f pos) (tErrF D a f cls d te) := by
  refine ⟨fun pins s σ H Q I h => attr_of hb (thn (he.run pins s σ H _ I h) fun u s1 hh => ?_)⟩
  obtain ⟨x, H1, I1, rx, dd, v, ex, ec, ed, ea, q⟩ := hh
  subst ex
  obtain rfl : u = Value.ref a := rx
  obtain ⟨ha, _⟩ := I1.pin (a, oe) (List.mem_append_left _ List.mem_cons_self)
  obtain ⟨od, y, J, hl, ry⟩ := err_inst (X := X) hz hf ec ed ha (I1.hok dd _ ea)
  exact HandSPX.exc_get I1.kIn J C.hg C.hk C.hs (PySem.W.findObj_own C.hd no rfl hl) (handed_of ry) ⟨v, H1, I1.tok _, ry, q⟩
end
end Kx

set_option Elab.async false
set_option linter.all false
set_option maxRecDepth 100000
set_option maxHeartbeats 4000000
/-! A call of a def in an except suite, where nothing is known of the caught error's context: for defs that raise nothing. -/
namespace Kx
open PySem PySem.Spec PyProof.Rows L2
structure FnW (P : Program) (w : World) (K : PySem.W.Frag) (mg : Str → Option Value) (base : Heap) (CX : CXT) (k : Nat) (f : Addr) (fd : FuncData) (ps : List Str) (sp : Sp) : Prop where
  len : ∀ vs H Q E, sp vs H Q E → vs.length = ps.length
  run : ∀ (A : Around) (outer : List Env) (s : Shared) (H : Hp) (args : Args) (us : List Value) (vs : List V) (Q : VK) (E : XK) (p : Addr × Obj), L2H.RoomH k A → L2H.PinOk outer H s p → Env0 P w K mg base A outer s H → BindsTo s fd args (ps.zip us) → Vals vs us → sp vs H Q E →
    codeAny (model P w) A (.call (.ref f) args) (CR CX outer P w H s Q E) s
theorem fn_ofW {CX : CXT} {P : Program} {w : World} {K : PySem.W.Frag} {mg : Str → Option Value} {base : Heap} {k : Nat} {f : Addr} {name qual : Str} {params : Arguments} {body : List Stmt} {scope : Scope} {dV kV doc pm cdv ct oc : Value} {an od : Option Addr} {osl : Array (Option Value)} {N ps : List Str} {sp : Sp}
    (lk : List.lookup f K = some ⟨oc, od, .func (PySem.W.fnOf name qual params body scope dV kV doc pm an cdv ct), osl⟩) (hcd : PySem.W.codeIn K cdv qual = true) (S : FnScope N ps scope) (len : ∀ vs H Q E, sp vs H Q E → vs.length = ps.length)
    (hbody : ∀ (A : Around) (outer : List Env) (s : Shared) (H : Hp) (vs : List V) (Q : VK) (E : XK) (p : Addr × Obj), L2H.RoomH k (A.deeper (envOfC qual scope s.heap.objs.size f cdv)) → sp vs H Q E →
      ∃ t, PSs (L2H.cxH CX P w K mg base N qual scope f cdv A outer s H E p) body t ∧ t { nx := fun _ H' => Q .non H', rt := Q } (L2.start N vs) H) :
    FnW P w K mg base CX (k + 1) f (PySem.W.fnOf name qual params body scope dV kV doc pm an cdv ct) ps sp := by
  refine ⟨len, fun A outer s H args us vs Q E p hr hpin e0 hb r hsp => ?_⟩
  have hl := len vs H Q E hsp
  have KX := PySem.W.Frag.In.keeps e0.mod.kin fun b o e => (e0.bs b o e).left
  have lim := Heap.NoLimit.keeps e0.mod.nolimit fun b o e => (e0.bs b o e).left
  refine codeAny_call_function (L2H.RoomH.depth hr) (KX f _ lk) rfl S.co S.gen rfl (PySem.W.codeRec_of KX hcd) (hb _ _ _ _ (wpAny_newFunctionEnv_cells S.kind (fun x hy => ?_) fun env he s1 x => ?_))
  · obtain ⟨n, v⟩ := x
    exact (S.par n (List.of_mem_zip hy).left).elim (fun q => Or.inl q) fun q => Or.inr ⟨q, PySem.W.cellsFrom_some scope.names (s.heap.objs.size + 1) [] (Or.inl q)⟩
  · subst he
    refine ⟨Heap.NoLimit.keeps lim x.toInCall.keep, codeAny_func ?_⟩
    obtain ⟨t, ht, hq⟩ := hbody A outer s H vs Q E p (L2H.RoomH.deeper hr (envOfC qual scope s.heap.objs.size f cdv)) hsp
    have I := L2H.inv_startH (CX := CX) (E := E) S hpin e0 hl r x
    refine wpAny_mono (ht.run [] s1 (L2.start N vs) H _ I hq) (fun fl s' hs => ?_) fun e s' hs => hs
    cases fl with
    | next =>
      obtain ⟨σ', H', J, q⟩ := hs
      exact ⟨.non, H', J.os, J.bare, J.base, J.hok, rfl, q⟩
    | brk =>
      obtain ⟨_, _, _, q⟩ := hs
      exact q.elim
    | cont =>
      obtain ⟨_, _, _, q⟩ := hs
      exact q.elim
    | ret u =>
      obtain ⟨v, σ', H', J, rv, q⟩ := hs
      exact ⟨_, H', J.os, J.bare, J.base, J.hok, rv, q⟩
section
variable {X : Cx} {CX : CXT} {k : Nat} {f : Addr} {fd : FuncData} {ps : List Str} {sp : Sp}
theorem run_fnW {E : L2.St → XK} {pins : List (Addr × Obj)} {σ : L2.St} {H : Hp} {s : Shared} {Q : VK} {us : List Value} {vs : List V} (F : FnW X.prog X.w X.K X.mg X.base CX k f fd ps sp) (hr : L2H.RoomH k X.A) (hc : ∃ p, p ∈ X.pn) (hb : L2.Binds X.K fd ps []) (hx : PassesAt CX X σ (E σ)) (I : L2.Inv X pins σ H s) (r : Vals vs us) (h : sp vs H Q (E σ)) :
    wpAny (model X.prog X.w) X.A (call (.ref f) us) (EP X pins σ Q) X.xe s := by
  obtain ⟨p, hp⟩ := hc
  have hl : us.length = ps.length := by rw [← r.length]; exact F.len vs H Q (E σ) h
  have b := hb s us (Inv.kIn I) (by rw [List.append_nil]; exact hl)
  rw [List.append_nil] at b
  have P1 := I.pin p (List.mem_append_left pins hp)
  have hpin : L2H.PinOk X.stack H s p := ⟨P1.1, P1.2.1, fun hm => (List.mem_cons.mp (Inv.stkSub I p.fst hm)).elim P1.2.2.1 P1.2.2.2.1, P1.2.2.2.2⟩
  refine wpAny_call (codeAny_mono (F.run X.A X.stack s H { pos := us } us vs Q (E σ) p hr hpin (Inv.env0 I) b r h) fun r s' hq => ?_)
  cases r with
  | error e => exact hx pins H s e s' I hq
  | ok fl =>
    cases fl with
    | ret u => exact Inv.after I hq
    | next => exact hq.elim
    | brk => exact hq.elim
    | cont => exact hq.elim
theorem pe_callW {E : L2.St → XK} {x : Str} {q pos : Pos} {e : Expr} {es : List Expr} {t : TA} (F : FnW X.prog X.w X.K X.mg X.base CX k f fd ps sp) (hr : L2H.RoomH k X.A) (hc : ∃ p, p ∈ X.pn) (hg : Gl X x) (hm : X.mg x = some (.ref f)) (hk : PySem.W.keepIn X.K (.ref f) = true)
    (hb : L2.Binds X.K fd ps []) (hx : ∀ σ, PassesAt CX X σ (E σ)) (ha : PA X (e :: es) t) (hdb : (x == "__debug__") = false := by rfl) (he : starEach (e :: es) X.env = (false, eval e X.env) :: starEach es X.env := by rfl) (hpl : ((backTo pos (starEach es X.env)).any fun x => x.fst) = false := by rfl) :
    PE X (.Call (.Name x q) (e :: es) [] pos) (tCallS sp E t) :=
  ⟨fun pins s σ H Q I h => wpAny_Call_Name_kw (ld_glob I hg hm (PySem.W.callWith_K I.ok.mod.kin hk (thn (ha.run pos pins s σ H (fun vs H1 => sp vs H1 Q (E σ)) I h) fun us s1 x => by
    obtain ⟨vs, H1, I1, r, q⟩ := x
    exact ⟨Inv.kIn I1, run_fnW F hr hc hb (hx σ) I1 r q⟩) he hpl) hdb)⟩
end
end Kx

set_option Elab.async false
set_option linter.all false
set_option maxRecDepth 100000
set_option maxHeartbeats 4000000
/-! Walks of lists, targets that are tuples and comprehensions while an error is handled whose context is None. -/
namespace Kh
open PySem PySem.Spec PyProof.Rows L2 HotX
/-! ### the ends of a list's and a tuple's walk -/
section
variable {prog : Program} {w : World} {A : Around} {E : Value → Shared → Prop} {s : Shared}
/-- a StopIteration that is raised and caught at once, while x1 is handled -/
theorem stop_hot {x1 it : Addr} {f : Obj → Obj} {Q : Option Value → Shared → Prop} {s0 : Shared} (hot : HotAt A x1 s.heap) (hx : x1 ≠ it) (hs0 : s0 = { s with heap := s.heap.update it f })
    (hQ : ∀ h', Heap.ExtBut it s.heap h' → Q none { s with heap := h' }) :
    wpAny (model prog w) A.in1 (Builtin.SmallTypes.stopIteration : Sem Fin) (fun _ _ => False)
      (fun e s' => wpAny (model prog w) A (isInstance e (.type "StopIteration")) (fun b s'' => b = true ∧ Q none s'') E s') s0 := by
  subst hs0
  obtain ⟨hh, o1, vs1, h1, d1, c1⟩ := hot
  show wpAny _ _ (newExc (.type "StopIteration") [] >>= _) _ _ _
  refine wpAny_bind ?_
  simp only [newExc, newTuple]
  refine wpAny_bind (wpAny_newObj_type ?_ (by size_fits))
  refine wpAny_bind (m := firstArgMember _ _) (wpAny_of_eq (a := Value.none) (by first | rfl | (simp only [firstArgMember]; rfl)) ?_)
  refine wpAny_newObj_type ?_ (by size_fits)
  have e1 : (s.heap.update it f).get? x1 = some o1 := (Heap.get?_update_other _ _ (Ne.symm hx)).trans h1
  refine raiseNew_hot (x1 := x1) ⟨hh, o1, vs1, Heap.get?_push_of_some _ (Heap.get?_push_of_some _ e1), d1, c1⟩ (Nat.ne_of_lt (Heap.lt_size (Heap.get?_push_of_some _ e1))) (Heap.get?_push_size _ rfl) rfl (by first | (simp; done) | (simp; omega) | (simp only [Array.size_append]; simp; omega)) ?_
  refine wpAny_isInstance (T := "StopIteration") (b := true) ⟨_, Heap.get?_update_self _ (Heap.get?_push_size _ rfl) rfl, rfl⟩ isSubtype_stop ⟨rfl, hQ _ fun b o hb e => ?_⟩
  have e2 : (s.heap.update it f).get? b = some o := (Heap.get?_update_other _ _ (Ne.symm hb)).trans e
  rw [Heap.get?_update_other _ _ (Nat.ne_of_gt (Heap.lt_size (Heap.get?_push_of_some _ e2)))]
  exact Heap.get?_push_of_some _ (Heap.get?_push_of_some _ e2)
theorem list_end {it l x1 : Addr} {i : Nat} {items : Array Value} {Q : Option Value → Shared → Prop} (hot : HotAt A x1 s.heap) (hx : x1 ≠ it) (hit : s.heap.IsListIter it l i) (hl : s.heap.IsList l items) (hi : items[i]? = none)
    (hQ : ∀ h', Heap.ExtBut it s.heap h' → Q none { s with heap := h' }) : wpAny (model prog w) A (pyNext (.ref it)) Q E s := by
  obtain ⟨o, ho, hc, hd⟩ := id hit
  obtain ⟨ol, hol, _, nl, hdl⟩ := hl
  unfold pyNext
  refine wpAny_bind (wpAny_attempt (wpAny_callSpecial?_slot (name := Str.ofString "__next__") hit.typeIs slot_listiter_next
    (wpAny_call_entry slot_listiter_next hit.typeIs entry_listiter_next ?_ (args_listiter_next _))))
  show wpAny _ _ (field (.ref it) 0 >>= _) _ _ s
  refine wpAny_bind (wpAny_field ho hd (x := .ref l) rfl ?_)
  show wpAny _ _ (if (Value.ref l == Value.none) = true then _ else _) _ _ s
  rw [if_neg (show ¬ ((Value.ref l == Value.none) = true) from Bool.false_ne_true)]
  show wpAny _ _ (field (.ref it) 1 >>= _) _ _ s
  refine wpAny_bind (wpAny_field ho hd (x := .int i 0) rfl ?_)
  show wpAny _ _ (seqItems? (.ref l) >>= _) _ _ s
  refine wpAny_bind (wpAny_seqItems hol hdl ?_)
  simp only [Int.toNat_natCast, hi]
  refine wpAny_bind (wpAny_rule (wpAny_bind (wpAny_setField ho hd (by simp) ?_)))
  refine wpAny_mono (stop_hot (E := E) hot hx rfl hQ) (fun _ _ z => False.elim z) fun e s' z => ?_
  refine wpAny_bind (wpAny_mono z (fun b s'' y => ?_) fun _ _ y => y)
  obtain ⟨rfl, y⟩ := y
  exact wpAny_pure y
theorem tuple_end {it t x1 : Addr} {i : Nat} {items : Array Value} {Q : Option Value → Shared → Prop} (hot : HotAt A x1 s.heap) (hx : x1 ≠ it) (hit : s.heap.IsTupleIter it t i) (ht : s.heap.IsTuple t items) (hi : items[i]? = none)
    (hQ : ∀ h', Heap.ExtBut it s.heap h' → Q none { s with heap := h' }) : wpAny (model prog w) A (pyNext (.ref it)) Q E s := by
  obtain ⟨o, ho, hc, hd⟩ := id hit
  obtain ⟨ol, hol, _, nl, hdl⟩ := ht
  unfold pyNext
  refine wpAny_bind (wpAny_attempt (wpAny_callSpecial?_slot (name := Str.ofString "__next__") hit.typeIs PySem.F.slot_tuple_iterator_next
    (wpAny_call_entry PySem.F.slot_tuple_iterator_next hit.typeIs PySem.F.entry_tuple_iterator_next ?_ (PySem.F.args_tuple_iterator_next_1 _))))
  show wpAny _ _ (field (.ref it) 0 >>= _) _ _ s
  refine wpAny_bind (wpAny_field ho hd (x := .ref t) rfl ?_)
  show wpAny _ _ (if (Value.ref t == Value.none) = true then _ else _) _ _ s
  rw [if_neg (show ¬ ((Value.ref t == Value.none) = true) from Bool.false_ne_true)]
  show wpAny _ _ (field (.ref it) 1 >>= _) _ _ s
  refine wpAny_bind (wpAny_field ho hd (x := .int i 0) rfl ?_)
  show wpAny _ _ (seqItems? (.ref t) >>= _) _ _ s
  refine wpAny_bind (wpAny_seqItems hol hdl ?_)
  simp only [Int.toNat_natCast, hi]
  refine wpAny_bind (wpAny_rule (wpAny_bind (wpAny_setField ho hd (by simp) ?_)))
  refine wpAny_mono (stop_hot (E := E) hot hx rfl hQ) (fun _ _ z => False.elim z) fun e s' z => ?_
  refine wpAny_bind (wpAny_mono z (fun b s'' y => ?_) fun _ _ y => y)
  obtain ⟨rfl, y⟩ := y
  exact wpAny_pure y
theorem unpack_hot {t x1 : Addr} {items : Array Value} {env : Env} {elts : List Expr} {k : Nat} {pos : Pos} {Q : Unit → Shared → Prop} (hot : HotAt A x1 s.heap) (ht : s.heap.IsTuple t items)
    (hn : (assignEach elts env).length = items.size) (hstar : (assignEach elts env).findIdx? (·.1) = none)
    (h : ∀ h', Heap.ExtBut s.heap.objs.size s.heap h' → wpAny (model prog w) A (assignInOrder ((assignEach elts env).map (·.2)) items.toList) Q E { s with heap := h' }) :
    wpAny (model prog w) A (assign (.Tuple elts k pos) env (.ref t)) Q E s := by
  have hlt : t ≠ s.heap.objs.size := by obtain ⟨o, ho, _⟩ := ht; exact Nat.ne_of_lt (Heap.lt_size ho)
  have hx : x1 ≠ s.heap.objs.size := by obtain ⟨_, o, _, ho, _⟩ := id hot; exact Nat.ne_of_lt (Heap.lt_size ho)
  rw [assign_Tuple]
  refine wpAny_bind (wpAny_standAt ?_)
  unfold unpack
  rw [hn, hstar]
  refine wpAny_bind (wpAny_holding ?_)
  unfold unpackItems
  refine wpAny_bind ?_
  unfold notIterableAtAll
  refine wpAny_bind (wpAny_specialOf ht.typeIs PySem.F.slot_tuple_iter.lookup ?_)
  refine wpAny_pure ?_
  simp only [Bool.false_eq_true, if_false]
  refine wpAny_bind (wpAny_holding (wpAny_pyIter_tuple ht ?_))
  refine wpAny_bind (wpAny_holding (wpAny_draw_tuple hlt items.size 0 _ _ ⟨_, Heap.get?_push_size _ rfl, rfl, rfl⟩ (ht.push _) (by omega) fun h₁ hit₁ hs₁ => ?_))
  rw [List.drop_zero, List.take_of_length_le (by simp), if_neg (by simp)]
  obtain ⟨hh, o1, vs1, g1, d1, c1⟩ := hot
  have hot2 : HotAt A x1 h₁ := ⟨hh, o1, vs1, hs₁.extBut x1 o1 hx (Heap.get?_push_of_some _ g1), d1, c1⟩
  refine wpAny_bind (wpAny_holding (tuple_end hot2 hx hit₁ ((ht.push _).extBut hs₁.extBut hlt) (by simp) fun h₂ he₂ => ?_))
  simp only [Option.isSome_none, Bool.false_eq_true, if_false]
  exact wpAny_pure (h h₂ fun b o hb e => he₂ b o hb (hs₁.extBut b o hb (Heap.get?_push_of_some _ e)))
end
end Kh

set_option Elab.async false
set_option linter.all false
set_option maxRecDepth 100000
set_option maxHeartbeats 4000000
namespace Kh
open PySem PySem.Spec PyProof.Rows L2 HotX L2H
/-- the handled error stands in the entry's state, out of reach; its context is None -/
def HotI (X : Cx) : Prop := ∃ (x1 : Addr) (o : Obj) (vs : Array Value), X.A.handled = some (.ref x1) ∧ o.data = .fields vs ∧ vs[2]? = some .none ∧ X.s_0.heap.get? x1 = some o ∧ X.H_0 x1 = none ∧ x1 ∉ X.ex ∧ x1 ∉ X.fs
theorem HotI.at_ {X : Cx} {pins : List (Addr × Obj)} {σ : L2.St} {H : Hp} {s : Shared} (h : HotI X) (I : L2.Inv X pins σ H s) : ∃ x1, HotAt X.A x1 s.heap ∧ H x1 = none ∧ x1 ∉ X.ex ∧ x1 ∉ X.fs ∧ x1 ≠ X.env.locals ∧ x1 < X.s_0.heap.objs.size := by
  obtain ⟨x1, o, vs, h1, h2, h3, h4, h5, h6, h7⟩ := h
  exact ⟨x1, ⟨h1, o, vs, I.base.keep x1 o h4 h5 h7 h6, h2, h3⟩, I.base.free x1 o h4 h5 h6, h6, h7, Nat.ne_of_lt (Nat.lt_of_lt_of_le (Heap.lt_size h4) I.ok.above), Heap.lt_size h4⟩
theorem HotI.ne {X : Cx} {pins : List (Addr × Obj)} {H : Hp} {b x1 : Addr} (hx : x1 ∉ X.ex) (hl : x1 < X.s_0.heap.objs.size) (f : FpOk X pins H b) : x1 ≠ b := fun e => by
  rcases f.2.2.2.1 with z | z
  · exact hx (e ▸ z)
  · exact Nat.not_lt.mpr z (e ▸ hl)
/-- .. and it does at a comprehension's entry -/
theorem HotI.blk {X : Cx} {pins : List (Addr × Obj)} {σ : L2.St} {H : Hp} {s : Shared} {scope : Scope} {ce : Env} {fp : List Addr} (h : HotI X) (I : L2.Inv X pins σ H s) (hf : ∀ b ∈ fp, FpOk X pins H b) : HotI (X.blk s H scope ce fp) := by
  obtain ⟨x1, ⟨hh, o, vs, g, d, c⟩, n, he, hs, hl, hlt⟩ := h.at_ I
  refine ⟨x1, o, vs, hh, d, c, g, n, fun hb => HotI.ne he hlt (hf x1 hb) rfl, fun hb => ?_⟩
  have hb : x1 ∈ frs X.stack := hb
  rcases I.ok.stk with z | ⟨z, z2⟩
  · rw [z] at hb
    exact hs hb
  · rw [z] at hb
    obtain ⟨e, he2, q⟩ := List.mem_filterMap.mp hb
    rcases List.mem_cons.mp he2 with rfl | he2
    · rw [z2] at q
      exact hl (Option.some.inj q).symm
    · exact hs (List.mem_filterMap.mpr ⟨e, he2, q⟩)
/-! ### what is walked -/
structure TurnI (P : Program) (w : World) (K : PySem.W.Frag) (tg : Expr) (J : It) (fp : List Addr) (it : Addr) (tn : Nat → Heap → Prop) : Prop where
  mem : it ∈ fp
  obj : ∀ i h, tn i h → ∀ b ∈ fp, ∃ o, h.get? b = some o ∧ ∀ v, o.data ≠ .cell v
  keep : ∀ i h h', tn i h → (∀ b ∈ fp, ∀ o, h.get? b = some o → h'.get? b = some o) → tn i h'
  item : ∀ (X : Cx), X.prog = P → X.w = w → X.K = K → ∀ (i : Nat) (pins : List (Addr × Obj)) (s : Shared) (σ : L2.St) (H : Hp) (E : Value → Shared → Prop), L2.Inv X pins σ H s → (∀ b ∈ fp, FpOk X pins H b) → tn i s.heap → J.go i H →
    wpAny (model P w) X.A (pyNext (.ref it)) (fun r s1 => ∃ u, r = some u ∧
      wpAny (model P w) X.A (letOwnedTupleGo tg (.ref it) u) (fun _ s2 => ∃ x H', L2.Inv X pins σ H' s2 ∧ RelV x u ∧ J.yld i H x H' ∧ tn (i + 1) s2.heap ∧ ∀ b ∈ fp, H' b = none) E s1) E s
  done : ∀ (X : Cx), X.prog = P → X.w = w → X.K = K → HotI X → ∀ (i : Nat) (pins : List (Addr × Obj)) (s : Shared) (σ : L2.St) (H : Hp) (E : Value → Shared → Prop), L2.Inv X pins σ H s → (∀ b ∈ fp, FpOk X pins H b) → tn i s.heap → J.stop i H →
    wpAny (model P w) X.A (pyNext (.ref it)) (fun r s1 => r = none ∧ L2.Inv X pins σ H s1) E s
  self : ∀ (A : Around) (i : Nat) (s : Shared) (Q : Value → Shared → Prop) (E : Value → Shared → Prop), tn i s.heap → Q (.ref it) s → wpAny (model P w) A (pyIter (.ref it)) Q E s
theorem turn_listI {P : Program} {w : World} {K : PySem.W.Frag} {tg : Expr} (a it : Addr) : TurnI P w K tg (Itl K a) [it] it (fun i h => h.IsListIter it a i) where
  mem := List.mem_singleton.mpr rfl
  obj := fun i h st b hb => by
    cases List.mem_singleton.mp hb
    obtain ⟨o, e, c, d⟩ := st
    exact ⟨o, e, fun v z => by rw [d] at z; cases z⟩
  keep := fun i h h' st k => st.at fun o e => k it (List.mem_singleton.mpr rfl) o e
  item := by
    intro X hP hw hK i pins s σ H E I hf st hg
    cases hP; cases hw; cases hK
    obtain ⟨xs, x, hq, hx⟩ := hg
    obtain ⟨its, rv, p, hz⟩ := I.list hq
    obtain ⟨u, hu, ru⟩ := rv.get hx
    obtain ⟨f0, f1, f2, f3, f4, f5⟩ := hf it (List.mem_singleton.mpr rfl)
    refine wpAny_pyNext_list_item st p.isList (x := u) (by simpa using hu) fun h' st' sb => ?_
    have I1 : L2.Inv X pins σ H { s with heap := h' } := I.turned (t' := s.toks) (fun b o hb e => (sb.2 b hb).trans e) f0 f1 f3 f4 f5
    obtain ⟨o, e, c, d⟩ := id st'
    exact ⟨u, rfl, go_of (s := { s with heap := h' }) e c d (by decide) ⟨x, H, I1, ru, ⟨rfl, fun ys hy => by rw [I.list_inj hy hq]; exact hx⟩, st', fun b hb => (hf b hb).1⟩⟩
  done := by
    intro X hP hw hK hot i pins s σ H E I hf st hg
    cases hP; cases hw; cases hK
    obtain ⟨xs, hq, hx⟩ := hg
    obtain ⟨its, rv, p, hz⟩ := I.list hq
    have fi := hf it (List.mem_singleton.mpr rfl)
    obtain ⟨f0, f1, f2, f3, f4, f5⟩ := id fi
    obtain ⟨x1, ha, _, he, _, _, hlt⟩ := hot.at_ I
    have hl := rv.length
    exact list_end ha (HotI.ne he hlt fi) st p.isList (by simp; omega) fun h' eb => ⟨rfl, I.turned (t' := s.toks) (fun b o hb e => eb b o hb e) f0 f1 f3 f4 f5⟩
  self := fun _ _ _ _ _ st h => wpAny_pyIter_listiter st h
def PIEI (X : Cx) (pins : List (Addr × Obj)) (σ : L2.St) (tg : Expr) (R : It → Hp → Prop) (itv : Value) (s2 : Shared) : Prop :=
  ∃ (it : Addr) (fp : List Addr) (tn : Nat → Heap → Prop) (J : It) (H' : Hp), itv = .ref it ∧ L2.Inv X pins σ H' s2 ∧ TurnI X.prog X.w X.K tg J fp it tn ∧ tn 0 s2.heap ∧ (∀ b ∈ fp, FpOk X pins H' b) ∧ R J H'
structure PII (X : Cx) (tg iter : Expr) (wi : TI) : Prop where
  run : ∀ (pins : List (Addr × Obj)) (s : Shared) (σ : L2.St) (H : Hp) (R : It → Hp → Prop), L2.Inv X pins σ H s → wi σ H R →
    wpAny (model X.prog X.w) X.A (eval iter X.env) (fun v s1 => wpAny (model X.prog X.w) X.A (pyIter v) (PIEI X pins σ tg R) X.xe s1) X.xe s
theorem pi_listI {X : Cx} {tg l : Expr} {tl : TE} (hl : PE X l tl) : PII X tg l (iList X.K tl) := by
  refine ⟨fun pins s σ H R I h => ?_⟩
  refine thn (hl.run pins s σ H _ I h) fun v s1 ⟨x, H1, I1, r1, q1⟩ => ?_
  obtain ⟨a, e, ⟨xs, hq⟩, q⟩ := q1
  subst e
  cases r1
  obtain ⟨its, rv, p, hz⟩ := I1.list hq
  refine wpAny_pyIter_list p.isList ⟨s1.heap.objs.size, [s1.heap.objs.size], _, _, H1, rfl, I1.kept (t' := s1.toks) fun b o e => Heap.get?_push_of_some _ e, turn_listI a _, ⟨_, Heap.get?_push_size _ rfl, rfl, rfl⟩, fun b hb => ?_, q⟩
  cases List.mem_singleton.mp hb
  exact I1.fpOk (Nat.le_refl _) (I1.hok.fresh (Nat.le_refl _))
/-- a target that is a tuple -/
theorem pg_tupI {X : Cx} {es : List Expr} {k : Nat} {t : TGs} {n : Nat} {pos : Pos} (hot : HotI X) (h : PGs X es t)
    (hn : (assignEach es X.env).length = n := by rfl) (hst : (assignEach es X.env).findIdx? (·.1) = none := by rfl) : PG X (.Tuple es k pos) (gTup X.K n t) := by
  refine ⟨fun pins s σ H v u Q I r hw => ?_⟩
  obtain ⟨a, xs, e1, hq, hl, hw⟩ := hw
  subst e1
  cases r
  obtain ⟨its, rv, ht, hz⟩ := I.tuple hq
  obtain ⟨x1, ha, _⟩ := hot.at_ I
  refine unpack_hot ha ht (by simp [hn, ← hl, rv.length]) hst fun h' hx => ?_
  have I1 : L2.Inv X pins σ H { s with heap := h' } := I.kept (t' := s.toks) fun b o e => hx b o (Nat.ne_of_lt (Heap.lt_size e)) e
  exact h.run pins _ σ H xs _ Q I1 (by simpa using rv) hw
/-! ### a comprehension -/
section
variable {X : Cx}
theorem lc_hot {pins : List (Addr × Obj)} {s : Shared} {σ : L2.St} {H : Hp} {Q : VK} {elt tg iter : Expr} {ifs : List Expr} {scope : Scope} {own : List (Str × Nat)} {pos pos' : Pos} {wi : TI} {g : TG} {tt : TT} {te : TE} {use : Option (Value → Sem Unit)} {Qf : Value → Shared → Prop}
    (hot : HotI X) (hN : X.N.Nodup) (I : L2.Inv X pins σ H s) (hi : PII X tg iter wi) (ok : BlkOk X.N X.env.scope scope own)
    (hg : ∀ (s : Shared) (H : Hp) (C : Addr) (cl : List (Str × Addr)) (fp : List Addr), HotI (X.blk s H scope (compEnvC scope cl C X.env) fp) → PG (X.blk s H scope (compEnvC scope cl C X.env) fp) tg g)
    (ht : ∀ (s : Shared) (H : Hp) (C : Addr) (cl : List (Str × Addr)) (fp : List Addr), HotI (X.blk s H scope (compEnvC scope cl C X.env) fp) → PTs (X.blk s H scope (compEnvC scope cl C X.env) fp) ifs tt)
    (he : ∀ (s : Shared) (H : Hp) (C : Addr) (cl : List (Str × Addr)) (fp : List Addr), HotI (X.blk s H scope (compEnvC scope cl C X.env) fp) → PE (X.blk s H scope (compEnvC scope cl C X.env) fp) elt te) (hs : ∀ x, foldedSetIterable iter X.env x = pure x)
    (h : tLc wi g tt te (own.map (·.2)) σ H Q)
    (hRR : ∀ D C s' m H', L2.Inv X pins σ H' s' → Q (.ref D) H' → s'.heap.Ns C m → FpOk X pins H' C → compPost (model X.prog X.w) X.A X.xe use Qf (.ref D) C (.ok .next) s') :
    wpAny (model X.prog X.w) X.A (comprehension (.ListComp elt [⟨tg, iter, ifs, 0⟩] scope pos) scope X.env pos' (newList []) false (eval iter X.env) use) Qf X.xe s := by
  have hfree : ∀ y ∈ scope.names, y.2 = .free → ∃ c, X.env.cells.lookup y.1 = some c := fun y hy e => (ok.free y hy e).elim (fun k => I.ok.has _ (.inl k)) fun k => I.ok.has _ (.inr k)
  refine wpAny_comprehension_free (use := use) rfl hs (closure_ok hfree) ok.kind (fun y hy e => by rw [ok.uniq y hy, e]) (thn (hi.run pins s σ H _ I h) fun xv s1 hx => thn hx fun itv s2 h2 => ?_)
  obtain ⟨it, fp, tn, J, H2, rfl, I2, T, st2, f2, q⟩ := h2
  refine wpAny_newObj_type (newEnv_comp ?_) (Nat.zero_le _)
  generalize hD : s2.heap.objs.size = D
  have hDn : H2 D = none := I2.hok.fresh (Nat.le_of_eq hD)
  obtain ⟨W, ⟨m0, w0⟩, turn⟩ := q D hDn
  have sz : ∀ b ∈ fp, b < s2.heap.objs.size := fun b hb => let ⟨_, e, _⟩ := T.obj _ _ st2 b hb; Heap.lt_size e
  generalize hs3 : ({ s2 with heap := s2.heap.push { cls := .type "list", data := .seq ([] : List Value).toArray } } : Shared) = s3
  have h3 : s3.heap = s2.heap.push { cls := .type "list", data := .seq ([] : List Value).toArray } := by rw [← hs3]
  have I3 : L2.Inv X pins σ (upd H2 D (.lst [])) s3 := by
    rw [← hs3]
    refine I2.laid (t' := s2.toks) (fun b o e => Heap.get?_push_of_some _ e) (Nat.le_of_eq hD) ⟨Nat.zero_le _, [], 0, .nil, ?_⟩
    rw [← hD]
    exact Heap.get?_push_size _ rfl
  have f3 : ∀ b ∈ fp, FpOk X pins (upd H2 D (.lst [])) b := fun b hb => ⟨by rw [upd_ne (by rw [← hD]; exact Nat.ne_of_lt (sz b hb))]; exact (f2 b hb).1, (f2 b hb).2⟩
  have l3 : ∀ b ∈ fp, b < s3.heap.objs.size := fun b hb => by
    rw [h3, Heap.size_push]
    exact Nat.lt_succ_of_lt (sz b hb)
  have st3 : tn 0 s3.heap := T.keep _ _ _ st2 fun b _ o e => by
    rw [h3]
    exact Heap.get?_push_of_some _ e
  have I4 := block_start I3 ok hN fun b hb => ⟨f3 b hb, l3 b hb⟩
  have hotB := HotI.blk (scope := scope) (ce := compEnvC scope (cellsFrom (s3.heap.objs.size + 1) scope.names (cloFrom X.env.cells scope.names [])) s3.heap.objs.size X.env) hot I3 f3
  have pg := hg s3 (upd H2 D (.lst [])) s3.heap.objs.size (cellsFrom (s3.heap.objs.size + 1) scope.names (cloFrom X.env.cells scope.names [])) fp hotB
  have pt := ht s3 (upd H2 D (.lst [])) s3.heap.objs.size (cellsFrom (s3.heap.objs.size + 1) scope.names (cloFrom X.env.cells scope.names [])) fp hotB
  have pe := he s3 (upd H2 D (.lst [])) s3.heap.objs.size (cellsFrom (s3.heap.objs.size + 1) scope.names (cloFrom X.env.cells scope.names [])) fp hotB
  show codeAny _ _ (.compStart (.ListComp elt [⟨tg, iter, ifs, 0⟩] scope pos) 0 (.ref it) (.ref D) (compEnvC scope (cellsFrom (s3.heap.objs.size + 1) scope.names (cloFrom X.env.cells scope.names [])) s3.heap.objs.size X.env)) (compPost (model X.prog X.w) X.A X.xe use Qf (.ref D) s3.heap.objs.size) { s3 with heap := pushCells (s3.heap.push { cls := .type "dict", data := .dict #[] }) scope.names }
  generalize hce : compEnvC scope (cellsFrom (s3.heap.objs.size + 1) scope.names (cloFrom X.env.cells scope.names [])) s3.heap.objs.size X.env = ce at I4 pg pt pe hotB ⊢
  have cL : ce.locals = s3.heap.objs.size := by
    rw [← hce]
    rfl
  generalize hH3 : upd H2 D (.lst []) = H3 at I3 I4 pg pt pe w0 f3 hotB
  generalize hs4 : ({ s3 with heap := pushCells (s3.heap.push { cls := .type "dict", data := .dict #[] }) scope.names } : Shared) = s4 at I4 ⊢
  have st4 : tn 0 s4.heap := T.keep _ _ _ st3 fun b _ o e => by
    rw [← hs4]
    exact pushCells_keeps _ _ _ _ (Heap.get?_push_of_some _ e)
  have stat : ∀ {σ' : L2.St} {H' : Hp} {s' : Shared}, L2.Inv (X.blk s3 H3 scope ce fp) [] σ' H' s' → (∀ b ∈ fp, H' b = none) → ∀ b ∈ fp, FpOk (X.blk s3 H3 scope ce fp) [] H' b := fun I' hn b hb =>
    ⟨hn b hb, (I'.ok.exf b hb).1, I'.ok.exfs b hb, .inl hb, fun x c e => (I'.ok.exf b hb).2 x c e, fun p hp => nomatch hp⟩
  have loop : codeAny (model X.prog X.w) X.A (.compLoop (.ListComp elt [⟨tg, iter, ifs, 0⟩] scope pos) 0 (.ref it) (.ref D) ce) (compPost (model X.prog X.w) X.A X.xe use Qf (.ref D) s3.heap.objs.size) s4 := by
    refine compLoop_any (fun n s' => ∃ i H', L2.Inv (X.blk s3 H3 scope ce fp) [] (wipe σ (own.map (·.2))) H' s' ∧ tn i s'.heap ∧ (∀ b ∈ fp, H' b = none) ∧ W i n H') ?_ m0 ⟨0, H3, I4, st4, fun b hb => (f3 b hb).1, w0⟩
    rintro n s5 ⟨i, H5, I5, st5, n5, w5⟩
    rcases turn i n H5 w5 with ⟨stop, qq⟩ | ⟨go, Nx, hNx, step⟩
    · refine thnF (T.done (X.blk s3 H3 scope ce fp) rfl rfl rfl hotB i [] s5 _ H5 (fun _ _ => False) I5 (stat I5 n5) st5 stop) fun r s6 ⟨hr, I6⟩ => ?_
      subst hr
      have I7 : L2.Inv X pins σ H5 s6 := I3.call' (ch := fp) I6.os I6.base I6.hok I6.bare fun b hb => ⟨(f3 b hb).2.2.2.1, (f3 b hb).2.1, (f3 b hb).2.2.2.2.1, (f3 b hb).2.2.2.2.2⟩
      have nC : H5 s3.heap.objs.size = none := cL ▸ I6.free
      obtain ⟨m, hn, _⟩ := I6.loc
      exact hRR D s3.heap.objs.size s6 m H5 I7 qq (cL ▸ hn) (I3.fpOk (Nat.le_refl _) nC)
    · refine thnF (T.item (X.blk s3 H3 scope ce fp) rfl rfl rfl i [] s5 _ H5 (fun _ _ => False) I5 (stat I5 n5) st5 go) fun r s6 ⟨u, hr, h6⟩ => ?_
      subst hr
      refine thnF h6 fun _ s7 ⟨x, H7, I7, r7, y7, st7, n7⟩ => ?_
      refine thnF (pg.run _ s7 _ H7 x u _ (I7.pinned (stat I7 n7) (T.obj _ _ st7)) r7 (step x H7 y7)) fun _ s8 ⟨σ8, H8, I8, hw8, q8⟩ => ?_
      refine thnF (pt.run _ s8 σ8 H8 _ I8 q8) fun b s9 ⟨H9, I9, q9⟩ => ?_
      have fin : ∀ {s' : Shared} {H' : Hp}, L2.Inv (X.blk s3 H3 scope ce fp) ([] ++ pinsAt fp s7.heap) σ8 H' s' → Nx H' → ∃ m, m < n ∧ ∃ i H', L2.Inv (X.blk s3 H3 scope ce fp) [] (wipe σ (own.map (·.2))) H' s' ∧ tn i s'.heap ∧ (∀ b ∈ fp, H' b = none) ∧ W i m H' := fun {s' H'} I' nx => by
        obtain ⟨m', hm, w'⟩ := hNx H' nx
        have pin' : ∀ b ∈ fp, ∀ o, s7.heap.get? b = some o → s'.heap.get? b = some o ∧ H' b = none := fun b hb o e =>
          let z := I'.pin (b, o) (List.mem_append_right _ (List.mem_append_right _ (mem_pinsAt hb e)))
          ⟨z.1, z.2.1⟩
        refine ⟨m', hm, i + 1, H', (I'.unpinned (pins := [])).weak (by rw [← hw8, wipe_length]) (fun j v e => ?_), T.keep _ _ _ st7 fun b hb o e => (pin' b hb o e).1, fun b hb => ?_, w'⟩
        · rw [← hw8] at e
          exact (wipe_some e).1
        · obtain ⟨o, e, _⟩ := T.obj _ _ st7 b hb
          exact (pin' b hb o e).2
      cases b with
      | false =>
        simp only [Bool.false_eq_true, if_false] at q9 ⊢
        exact fin I9 q9
      | true =>
        simp only [if_true] at q9 ⊢
        refine thnF (pe.run _ s9 σ8 H9 _ I9 q9) fun z s10 ⟨yv, H10, I10, r10, acc, hD10, hz10, nx⟩ => ?_
        exact app_ok (X := X.blk s3 H3 scope ce fp) I10 hD10 hz10 r10 fun s11 I11 => fin I11 nx
  exact codeAny_compStart_list loop (T.self X.A 0 _ _ _ st4 loop)
theorem pe_lcI {elt tg iter : Expr} {ifs : List Expr} {scope : Scope} {own : List (Str × Nat)} {pos : Pos} {wi : TI} {g : TG} {tt : TT} {te : TE} (hot : HotI X) (hN : X.N.Nodup) (hi : PII X tg iter wi) (ok : BlkOk X.N X.env.scope scope own)
    (hg : ∀ (s : Shared) (H : Hp) (C : Addr) (cl : List (Str × Addr)) (fp : List Addr), HotI (X.blk s H scope (compEnvC scope cl C X.env) fp) → PG (X.blk s H scope (compEnvC scope cl C X.env) fp) tg g)
    (ht : ∀ (s : Shared) (H : Hp) (C : Addr) (cl : List (Str × Addr)) (fp : List Addr), HotI (X.blk s H scope (compEnvC scope cl C X.env) fp) → PTs (X.blk s H scope (compEnvC scope cl C X.env) fp) ifs tt)
    (he : ∀ (s : Shared) (H : Hp) (C : Addr) (cl : List (Str × Addr)) (fp : List Addr), HotI (X.blk s H scope (compEnvC scope cl C X.env) fp) → PE (X.blk s H scope (compEnvC scope cl C X.env) fp) elt te) (hs : ∀ x, foldedSetIterable iter X.env x = pure x := by intro _; rfl) :
    PE X (.ListComp elt [⟨tg, iter, ifs, 0⟩] scope pos) (tLc wi g tt te (own.map (·.2))) := by
  refine ⟨fun pins s σ H Q I h => ?_⟩
  rw [eval_ListComp]
  refine lc_hot hot hN I hi ok hg ht he hs h fun D C s' m H' I' q hn f => ⟨m, hn, fun h'' sb => ?_⟩
  obtain ⟨f0, f1, f2, f3, f4, f5⟩ := f
  exact ⟨.ref D, H', I'.turned (t' := s'.toks) (fun b o hb e => (sb.2 b hb).trans e) f0 f1 f3 f4 f5, rfl, q⟩
end
/-! ### defs called there -/
theorem fn_ofI {CX : CXT} {P : Program} {w : World} {K : PySem.W.Frag} {mg : Str → Option Value} {base : Heap} {k : Nat} {f : Addr} {name qual : Str} {params : Arguments} {body : List Stmt} {scope : Scope} {dV kV doc pm cdv ct oc : Value} {an od : Option Addr} {osl : Array (Option Value)} {N ps : List Str} {sp : Sp}
    (lk : List.lookup f K = some ⟨oc, od, .func (PySem.W.fnOf name qual params body scope dV kV doc pm an cdv ct), osl⟩) (hcd : PySem.W.codeIn K cdv qual = true) (S : FnScope N ps scope) (len : ∀ vs H Q E, sp vs H Q E → vs.length = ps.length)
    (hbody : ∀ (A : Around) (outer : List Env) (s : Shared) (H : Hp) (vs : List V) (Q : VK) (E : XK) (p : Addr × Obj), HotI (cxH CX P w K mg base N qual scope f cdv A outer s H E p) → RoomH k (A.deeper (envOfC qual scope s.heap.objs.size f cdv)) → sp vs H Q E →
      ∃ t, PSs (cxH CX P w K mg base N qual scope f cdv A outer s H E p) body t ∧ t { nx := fun _ H' => Q .non H', rt := Q } (L2.start N vs) H) :
    FnH P w K mg base CX (k + 1) f (PySem.W.fnOf name qual params body scope dV kV doc pm an cdv ct) ps sp := by
  refine ⟨len, fun A outer s H args us vs Q E p hr hot hpin e0 hb r hsp => ?_⟩
  have KX := PySem.W.Frag.In.keeps e0.mod.kin fun b o e => (e0.bs b o e).left
  have lim := Heap.NoLimit.keeps e0.mod.nolimit fun b o e => (e0.bs b o e).left
  refine codeAny_call_function (RoomH.depth hr) (KX f _ lk) rfl S.co S.gen rfl (PySem.W.codeRec_of KX hcd) (hb _ _ _ _ (wpAny_newFunctionEnv_cells S.kind (fun x hy => ?_) fun env he s1 x => ?_))
  · obtain ⟨n, v⟩ := x
    exact (S.par n (List.of_mem_zip hy).left).elim (fun q => Or.inl q) fun q => Or.inr ⟨q, PySem.W.cellsFrom_some scope.names (s.heap.objs.size + 1) [] (Or.inl q)⟩
  · subst he
    refine ⟨Heap.NoLimit.keeps lim x.toInCall.keep, codeAny_func ?_⟩
    have hI : HotI (cxH CX P w K mg base N qual scope f cdv A outer s H E p) := by
      obtain ⟨hh, vs1, e1, c1⟩ := hot
      exact ⟨p.1, p.2, vs1, hh, e1, c1, hpin.get, hpin.free, (fun z => nomatch z), hpin.nofs⟩
    obtain ⟨t, ht, hq⟩ := hbody A outer s H vs Q E p hI (RoomH.deeper hr (envOfC qual scope s.heap.objs.size f cdv)) hsp
    have I := inv_startH (CX := CX) (E := E) S hpin e0 (len vs H Q E hsp) r x
    refine wpAny_mono (ht.run [] s1 (L2.start N vs) H _ I hq) (fun fl s' hs => ?_) fun e s' hs => hs
    cases fl with
    | next =>
      obtain ⟨σ', H', J, q⟩ := hs
      exact ⟨.non, H', J.os, J.bare, J.base, J.hok, rfl, q⟩
    | brk =>
      obtain ⟨_, _, _, q⟩ := hs
      exact q.elim
    | cont =>
      obtain ⟨_, _, _, q⟩ := hs
      exact q.elim
    | ret u =>
      obtain ⟨v, σ', H', J, rv, q⟩ := hs
      exact ⟨_, H', J.os, J.bare, J.base, J.hok, rv, q⟩
end Kh

set_option Elab.async false
set_option linter.all false
set_option maxRecDepth 100000
set_option maxHeartbeats 4000000
namespace Kh
open PySem PySem.Spec PyProof.Rows L2
/-! ### errors whose context is None -/
theorem passN {X : Cx} : Passes (L2N.CX X.prog X.w) X E0 := fun _ _ _ _ _ _ _ h => by
  obtain ⟨_, _, _, _, _, _, _, _, _, _, _, _, z⟩ := h
  exact z.elim
theorem takes0N {X : Cx} : L2N.Takes X (fun _ _ _ _ => False) := fun _ _ x => by
  obtain ⟨_, _, _, _, _, _, _, _, _, _, _, _, _, _, _, _, z⟩ := x
  exact z.elim
section
variable {P : Program} {w : World} {K : PySem.W.Frag} {mg : Str → Option Value} {base : Heap}
theorem Fun.okN {x qual : Str} {st : Stmt} {f : Addr} {fd : FuncData} {N ps : List Str} {k : Nat} {sp : Sp} (F : Fun K x qual st f fd) (S : FnScope N ps (defScope st)) (len : ∀ vs H Q E, sp vs H Q E → vs.length = ps.length)
    (hb : ∀ (cdv : Value) (A : Around) (outer : List Env) (s : Shared) (H : Hp) (vs : List V) (Q : VK) (E : XK), Room k (A.deeper (envOfC qual (defScope st) s.heap.objs.size f cdv)) → sp vs H Q E →
      ∃ t, PSs (cxOf (L2N.CX P w) P w K mg base N qual (defScope st) f cdv A outer s H E) (defBody st) t ∧ t { nx := fun _ H' => Q .non H', rt := Q } (L2.start N vs) H) : FnOk P w K mg base (L2N.CX P w) (k + 1) f fd ps sp := by
  obtain ⟨oc, od, kV, doc, pm, an, cdv, ct, osl, e, lk, hcd⟩ := F.ex
  subst e
  exact fn_of lk hcd S len fun A outer s H vs Q E => hb cdv A outer s H vs Q E
/-- a def of the text that is called while an error is handled -/
theorem Fun.okI {x qual : Str} {st : Stmt} {f : Addr} {fd : FuncData} {N ps : List Str} {k : Nat} {sp : Sp} (F : Fun K x qual st f fd) (S : FnScope N ps (defScope st)) (len : ∀ vs H Q E, sp vs H Q E → vs.length = ps.length)
    (hb : ∀ (cdv : Value) (A : Around) (outer : List Env) (s : Shared) (H : Hp) (vs : List V) (Q : VK) (E : XK) (p : Addr × Obj), HotI (L2H.cxH CX0 P w K mg base N qual (defScope st) f cdv A outer s H E p) → L2H.RoomH k (A.deeper (envOfC qual (defScope st) s.heap.objs.size f cdv)) → sp vs H Q E →
      ∃ t, PSs (L2H.cxH CX0 P w K mg base N qual (defScope st) f cdv A outer s H E p) (defBody st) t ∧ t { nx := fun _ H' => Q .non H', rt := Q } (L2.start N vs) H) : L2H.FnH P w K mg base CX0 (k + 1) f fd ps sp := by
  obtain ⟨oc, od, kV, doc, pm, an, cdv, ct, osl, e, lk, hcd⟩ := F.ex
  subst e
  exact fn_ofI lk hcd S len fun A outer s H vs Q E p => hb cdv A outer s H vs Q E p
end
section
variable {X : Cx} {e : Expr} {es : List Expr} {ta : TA}
/-- C(e, ..) of an error with an __init__ of its own -/
theorem pmk_oexN {CX : CXT} {x : Str} {C fI : Addr} {k : Nat} {fd : FuncData} {ps : List Str} {sp : Sp} {p pos : Pos} (T : OexC X.K C) (iC : PySem.W.findIn X.K (.ref C) "__init__" = some (some (.ref fI))) (tI : PySem.W.typeIn X.K (.ref fI) = some (.type "function"))
    (F1 : FnOk X.prog X.w X.K X.mg X.base CX k fI fd ps sp) (hr : Room (k + 1) X.A) (hb : L2.Binds X.K fd ps []) (hx : Passes CX X (fun _ _ _ => False)) (hg : Gl X x) (hm : X.mg x = some (.ref C)) (ha : PA X (e :: es) ta)
    (hdb : (x == ("__debug__" : Str)) = false := by decide) (he : starEach (e :: es) X.env = (false, eval e X.env) :: starEach es X.env := by rfl) (hpl : (backTo pos (starEach es X.env)).any (·.1) = false := by rfl) :
    L2N.PMk X (.Call (.Name x p) (e :: es) [] pos) (tMkO C sp [] ta) := by
  intro pins s σ H Q I h
  obtain ⟨nm, q, N, bs, bm, sn, sub, ab, col, dd, k0, k1, k2, k3, k5, hC, hbm⟩ := T.cls
  refine wpAny_Call_Name_kw (ld_glob I hg hm ?_ hdb)
  refine PySem.W.callWith_K (h₀ := X.base) I.ok.mod.kin T.kC (thn (ha.run pos pins s σ H _ I h) fun us s1 ⟨vs, H1, I1, r1, hz, q1⟩ => ⟨I1.kIn, ?_⟩) he hpl
  show wpAny _ _ (call (.ref C) us) _ _ _
  obtain ⟨hp, g, dr, tk, os⟩ := s1
  generalize hA : hp.objs.size + 1 = a
  have hsz : hp.objs.size ≤ a := by omega
  have hq := q1 a (I1.hok.fresh hsz)
  rw [List.append_nil] at hq
  have kk : ∀ b o, hp.get? b = some o → ((hp.push (PySem.W.kdv_tup us)).push (PySem.HandSPX.excO C hp.objs.size)).get? b = some o := fun b o e => Heap.get?_push_of_some _ (Heap.get?_push_of_some _ e)
  have hget : ((hp.push (PySem.W.kdv_tup us)).push (PySem.HandSPX.excO C hp.objs.size)).get? a = some (PySem.HandSPX.excO C hp.objs.size) := by
    rw [← hA]
    heap_get
  have I2 : L2.Inv X pins σ (upd H1 a (exo a C none)) ⟨(hp.push (PySem.W.kdv_tup us)).push (PySem.HandSPX.excO C hp.objs.size), g, dr, tk, os⟩ := I1.laid (t' := tk) (o := exo a C none) kk hsz (exo_ok hget)
  have r2 : Vals (V.ref a :: vs) (Value.ref a :: us) := .cons rfl r1
  have hl : (Value.ref a :: us ++ []).length = ps.length := by
    rw [List.append_nil, ← F1.len _ _ _ _ hq]
    exact r2.length.symm
  have hus : us.length ≤ sizeLine := by
    rw [← Paired.length r1, sizeLine_eq]
    omega
  have b2 := hb _ (Value.ref a :: us) I2.kIn hl
  rw [List.append_nil] at b2
  subst hA
  refine wpAny_call (PySem.HandSPX.call_own PySem.F.excBase_ValueError (fun Y => PySem.HandSPX.refsVE_contains Y bm hbm) (I1.kIn _ _ hC) (PySem.W.looks_findIn I1.kIn iC) (fun self => PySem.W.bind_fn I1.kIn self tI) hus
    (codeAny_mono (F1.run _ X.stack _ _ ⟨_, []⟩ _ _ _ (fun _ _ _ => False) (hr.make C us []) (I2.env0.make C us []) b2 r2 hq) fun r s' hq' => ?_))
  cases r with
  | error er => exact hx pins σ _ _ er s' I2 hq'
  | ok fl =>
    cases fl with
    | ret u =>
      obtain ⟨v, H2, os2, bare2, un2, hok2, rv, ev, d, fs, ea, ed, hd1, q2⟩ := hq'
      subst ev
      obtain ⟨h2, g2, d2, t2, os'⟩ := s'
      obtain ⟨t0, G, J, kG, ge, hoe, na⟩ := mk_end0 (d2 := d2) (t2 := t2) I1 hsz kk un2 hok2 os2 bare2 ea ed hd1
      exact ⟨rv, _, _, _, ⟨G, g2, d2, t2, os'⟩, _, .ref C, some d, rfl, J, kG, ge, hoe, ⟨rfl, rfl, fun vs hv => by cases hv; rfl⟩, rfl, rfl, na, rfl, bare2, raises_own T.exC T.tyC, q2⟩
    | next => exact hq'.elim
    | brk => exact hq'.elim
    | cont => exact hq'.elim
end
end Kh

set_option Elab.async false
set_option linter.all false
set_option maxRecDepth 100000
set_option maxHeartbeats 4000000
/-! TooLarge.__init__; what tree_of needs. -/
namespace K1
open PySem PySem.Spec PyProof.Rows L2 Kx Kd Kt Kh
abbrev sTL : Stmt := inClass (top 6) 0
structure TxTL (K : PySem.W.Frag) (mg : Str → Option Value) (LE BP fB : Addr) : Prop where
  mgL : mg "LossError" = some (.ref LE)
  mgB : mg "TooLarge" = some (.ref BP)
  bl : BaseC K LE
  ox : OexC K BP
  nB : PySem.W.findIn K (.ref BP) "what" = some none
  iB : PySem.W.findIn K (.ref BP) "__init__" = some (some (.ref fB))
  tB : PySem.W.typeIn K (.ref fB) = some (.type "function")
def spErrT (C : Addr) : Sp := fun vs H Q _ => ∃ (a : Addr) (z : Str), vs = [.ref a, .str z] ∧ H a = some (exo a C none) ∧ z.length ≤ 100 ∧
  ∀ dx, H dx = none → dx ≠ a → Q .non (upd (upd H dx (exd dx [("what", .str z)])) a (exo a C (some dx)))
section
variable {P : Program} {w : World} {K : PySem.W.Frag} {mg : Str → Option Value} {base : Heap} {LE BP fB : Addr}
theorem scTL : FnScope ["self", "what"] ["self", "what"] (defScope sTL) := ⟨rfl, rfl, rfl, by decide +kernel, rfl, by decide +kernel, by decide +kernel⟩
theorem ok_tl {fd : FuncData} (F : Fun K "__init__" "TooLarge.__init__" sTL fB fd) (T : TxTL K mg LE BP fB) : FnOk P w K mg base CX0 1 fB fd ["self", "what"] (spErrT BP) := by
  refine F.ok scTL (fun vs H Q E h => ?_) (fun cdv A outer s H vs Q E hr h => ?_)
  · obtain ⟨a, n, rfl, _⟩ := h
    rfl
  · obtain ⟨a, z, rfl, ha, hz, k⟩ := h
    refine ⟨_, pss_cons (ps_expr (pe_binit T.bl rfl T.mgL (pa_cons (pv 0) (pa_cons (pe_joined (.cons pe_str (.cons (pe_fmt (pv 1)) .nil))) pa_nil))))
      (pss_one (ps_ost (pv 0) (pv 1))), ?_⟩
    have l1 : Str.length ("there are too many " : Str) ≤ 40 := by decide +kernel
    refine ⟨_, rfl, _, rfl, ?_, _, rfl, .inl ⟨z, rfl, Nat.le_trans hz (by decide), _, rfl, ?_, ?_⟩⟩
    · rw [Str.empty_append]
      exact Nat.le_trans l1 (by decide)
    · rw [Str.empty_append, Str.length_append]
      exact Nat.le_trans (Nat.add_le_add l1 hz) (by decide)
    · exact ⟨a, BP, _, rfl, (by show 1 ≤ 1000; decide), T.ox, ha, _, rfl, _, rfl, a, BP, rfl, T.ox, T.nB, .inl ⟨ha, fun dx n1 n2 => k dx n1 n2⟩⟩
end
/-- what a list that is no part of a play holds is nothing to it -/
theorem PlayAt.updL {C : Addr} {H : Hp} {A : Pad} {ns : List Str} {xs : List (Str × Int)} {pl : Pl} (R : PlayAt C H A ns xs pl) {b : Addr} {us ys : List V} (e : H b = some (.lst us)) (h1 : b ≠ A.td) (h2 : b ≠ A.l1) (h3 : b ≠ A.l2) : PlayAt C (upd H b (.lst ys)) A ns xs pl := by
  obtain ⟨u1, a1, b1, c1⟩ := R.h1
  obtain ⟨u2, a2, b2, c2⟩ := R.h2
  obtain ⟨u3, a3, b3, c3⟩ := R.ht
  have tk : Tk H (upd H b (.lst ys)) := tk_lst e
  have go : ∀ {a o}, H a = some o → (∀ us, o ≠ .lst us) → upd H b (.lst ys) a = some o := fun {a o} ea hn => by
    rw [upd_ne fun q => by rw [q, e] at ea; cases ea; exact hn _ rfl]
    exact ea
  have gl : ∀ {a us}, H a = some (.lst us) → b ≠ a → upd H b (.lst ys) a = some (.lst us) := fun {a us} ea hn => by
    rw [upd_ne hn.symm]
    exact ea
  exact ⟨go R.ob (fun _ z => by cases z), go R.hz (fun _ z => by cases z), go R.hs (fun _ z => by cases z), go R.hn (fun _ z => by cases z), ⟨u1, gl a1 h2, nestL_tk tk b1, c1⟩, ⟨u2, gl a2 h3, nestL_tk tk b2, c2⟩, ⟨u3, gl a3 h1, b3.keep tk, c3⟩, R.n1, R.n2, R.n3, R.n4, R.n5, R.n6, R.ok, R.zk⟩
theorem HdAt.updL {c : Cls3} {H : Hp} {a b : Addr} {vs us ys : List V} {k : Hd} (h : HdAt c H a vs k) (e : H b = some (.lst us)) : HdAt c (upd H b (.lst ys)) a vs k := by
  have go : ∀ {a o}, H a = some o → (∀ us, o ≠ .lst us) → upd H b (.lst ys) a = some o := fun {a o} ea hn => by
    rw [upd_ne fun q => by rw [q, e] at ea; cases ea; exact hn _ rfl]
    exact ea
  have tk : Tk H (upd H b (.lst ys)) := tk_lst e
  cases h with
  | e h hu => exact .e (go h (fun _ z => by cases z)) hu
  | l h ht => exact .l (go h (fun _ z => by cases z)) (tk _ _ ht)
  | m h hv ht => exact .m (go h (fun _ z => by cases z)) (hv.keep tk) (tk _ _ ht)
theorem kids_len (xs : List (Str × Int)) (pl : Pl) : (kids xs pl).length = (draft xs pl).2 := by
  unfold kids draft nRes
  cases (cameTo xs pl).2 with
  | none => rfl
  | some x => exact (List.length_map ..).trans List.length_range
theorem draft_e (xs : List (Str × Int)) (pl : Pl) (h : (draft xs pl).1.isE = true) : (draft xs pl).2 = 0 := by
  unfold draft at *
  cases hx : (cameTo xs pl).2 with
  | none => rfl
  | some x =>
    rw [hx] at h
    cases x <;> cases h
/-- what is run whole is joined whole -/
theorem runT_join (xs : List (Str × Int)) : ∀ (f : Nat) (l : List Pl), (runT xs f l).length < f → okJ (runT xs f l) ∧ (joinT (runT xs f l)).length = l.length
  | 0, _, h => absurd h (Nat.not_lt_zero _)
  | f + 1, [], _ => ⟨trivial, rfl⟩
  | f + 1, pl :: r, h => by
    have h2 : (runT xs f (kids xs pl ++ r)).length < f := Nat.lt_of_succ_lt_succ h
    obtain ⟨a, b⟩ := runT_join xs f _ h2
    rw [List.length_append, kids_len] at b
    refine ⟨⟨?_, draft_e xs pl, a⟩, ?_⟩
    · rw [b]
      exact Nat.le_add_right _ _
    · show ((joinT (runT xs f (kids xs pl ++ r))).drop (draft xs pl).2).length + 1 = r.length + 1
      rw [List.length_drop, b]
      omega
end K1

set_option Elab.async false
set_option linter.all false
set_option maxRecDepth 100000
set_option maxHeartbeats 4000000
/-! tree_of. -/
namespace K1
open PySem PySem.Spec PyProof.Rows L2 Kx Kd Kt Kh
/-- b is no list of a play -/
structure Off (b : Addr) (A : Pad) : Prop where
  h1 : b ≠ A.td
  h2 : b ≠ A.l1
  h3 : b ≠ A.l2
structure PlG (C : Addr) (H0 H : Hp) (ns : List Str) (xs : List (Str × Int)) (B : Nat) (sz Dl Sl : Addr) (x : Pad × Pl) : Prop where
  pa : PlayAt C H x.1 ns xs x.2
  ok : PlOk ns B x.2
  sz : x.1.sz = sz
  new : New H0 x.1
  o1 : Off Dl x.1
  o2 : Off Sl x.1
structure DrG (c : Cls3) (H0 H : Hp) (us : List V) (its : List It) : Prop where
  tup : ∀ (i : Nat) u x, us[i]? = some u → its[i]? = some x → ∃ p, u = V.ref p ∧ H p = some (.tup [.ref x.a, .int x.n])
  len : us.length = its.length
  nd : (its.map It.a).Nodup
  hd : ∀ x ∈ its, HdAt c H x.a [] x.k
  new : ∀ x ∈ its, H0 x.a = none
theorem DrG.map {c : Cls3} {H0 H H' : Hp} {us : List V} {its : List It} (h : DrG c H0 H us its) (tk : Tk H H') (kh : ∀ x ∈ its, HdAt c H x.a [] x.k → HdAt c H' x.a [] x.k) : DrG c H0 H' us its :=
  ⟨fun i u x h1 h2 => by
    obtain ⟨p, e, ep⟩ := h.tup i u x h1 h2
    exact ⟨p, e, tk _ _ ep⟩, h.len, h.nd, fun x hx => kh x hx (h.hd x hx), h.new⟩
theorem HdAt.some {c : Cls3} {H : Hp} {a : Addr} {us : List V} {k : Hd} (h : HdAt c H a us k) : ∃ o, H a = some o := by
  cases h with
  | e h hu => exact ⟨_, h⟩
  | l h ht => exact ⟨_, h⟩
  | m h hv ht => exact ⟨_, h⟩
theorem DrG.snoc {c : Cls3} {H0 H : Hp} {us : List V} {its : List It} (h : DrG c H0 H us its) {t a : Addr} {k : Hd} {n : Nat} (et : H t = some (.tup [.ref a, .int (n : Int)])) (ha : HdAt c H a [] k) (na : H0 a = none) (nm : ∀ x ∈ its, x.a ≠ a) : DrG c H0 H (us ++ [.ref t]) (its ++ [⟨a, k, n⟩]) := by
  refine ⟨fun i u x h1 h2 => ?_, by rw [List.length_append, List.length_append, h.len]; rfl, ?_, fun x hx => ?_, fun x hx => ?_⟩
  · by_cases hi : i < its.length
    · rw [List.getElem?_append_left hi] at h2
      rw [List.getElem?_append_left (by rw [h.len]; exact hi)] at h1
      exact h.tup i u x h1 h2
    · have hl := (List.getElem?_eq_some_iff.mp h2).1
      rw [List.length_append, List.length_singleton] at hl
      have e : i = its.length := by omega
      subst e
      rw [List.getElem?_append_right (Nat.le_refl _), Nat.sub_self] at h2
      rw [← h.len, List.getElem?_append_right (Nat.le_refl _), Nat.sub_self] at h1
      cases h1
      cases h2
      exact ⟨t, rfl, et⟩
  · rw [List.map_append]
    refine List.nodup_append.mpr ⟨h.nd, List.nodup_cons.mpr ⟨(fun z => nomatch z), List.nodup_nil⟩, fun y hy z hz => ?_⟩
    obtain ⟨x, hx, rfl⟩ := List.mem_map.mp hy
    rw [List.map_singleton, List.mem_singleton] at hz
    rw [hz]
    exact nm x hx
  · rcases List.mem_append.mp hx with hx | hx
    · exact h.hd x hx
    · rw [List.mem_singleton.mp hx]
      exact ha
  · rcases List.mem_append.mp hx with hx | hx
    · exact h.new x hx
    · rw [List.mem_singleton.mp hx]
      exact na
theorem Fr.lst {C : Addr} {H H' : Hp} {A : Pad} {ns : List Str} {xs : List (Str × Int)} {pl : Pl} (R : PlayAt C H A ns xs pl) (f : Fr A H H') {b : Addr} {us : List V} (e : H b = some (.lst us)) (o : Off b A) : H' b = some (.lst us) :=
  f b _ e (ne_of e R.ob (by intro z; cases z)) (ne_of e R.hs (by intro z; cases z)) o.h1 o.h2 o.h3
section
variable {C : Addr} {H0 H H' : Hp} {ns : List Str} {xs : List (Str × Int)} {B : Nat} {sz Dl Sl : Addr} {x : Pad × Pl}
theorem PlG.same (h : PlG C H0 H ns xs B sz Dl Sl x) (s : Same H H') : PlG C H0 H' ns xs B sz Dl Sl x := ⟨h.pa.same s, h.ok, h.sz, h.new, h.o1, h.o2⟩
theorem PlG.updL (h : PlG C H0 H ns xs B sz Dl Sl x) {b : Addr} {us ys : List V} (e : H b = some (.lst us)) (o : Off b x.1) : PlG C H0 (upd H b (.lst ys)) ns xs B sz Dl Sl x := ⟨h.pa.updL e o.h1 o.h2 o.h3, h.ok, h.sz, h.new, h.o1, h.o2⟩
theorem PlG.fr (h : PlG C H0 H ns xs B sz Dl Sl x) {A : Pad} {pl : Pl} (R : PlayAt C H A ns xs pl) (d : Dj A x.1) (hz : A.sz = sz) (f : Fr A H H') : PlG C H0 H' ns xs B sz Dl Sl x := ⟨h.pa.fr R d (by rw [hz, h.sz]) f, h.ok, h.sz, h.new, h.o1, h.o2⟩
theorem New.off {A : Pad} (n : New H A) {b : Addr} {o : HO} (e : H b = some o) : Off b A := ⟨ne_of_none e n.td, ne_of_none e n.l1, ne_of_none e n.l2⟩
theorem New.free {A : Pad} (n : New H' A) (s : Same H H') : New H A := ⟨s.free n.p, s.free n.so, s.free n.sn, s.free n.td, s.free n.l1, s.free n.l2⟩
end
theorem same_updN {H H' : Hp} (s : Same H H') {b : Addr} {o : HO} (n : H b = none) : Same H (upd H' b o) := fun c u e => by
  rw [upd_ne (ne_of_none e n)]
  exact s _ _ e
/-- the play behind a result, if there is one -/
def bh (xs : List (Str × Int)) (pl : Pl) (r : Int) : Pl := match (cameTo xs pl).2 with
  | none => pl
  | some x => behP xs (askP (cameTo xs pl).1 (some x)) x r
theorem kids_bh (xs : List (Str × Int)) (pl : Pl) : kids xs pl = (List.range (nRes (cameTo xs pl).2)).map fun r : Nat => bh xs pl (r : Int) := by
  unfold kids bh nRes
  cases (cameTo xs pl).2 <;> rfl
theorem rev_range {α : Type} (n : Nat) (f : Nat → α) : ((List.range n).map fun i => f (n - 1 - i)).reverse = (List.range n).map f := by
  have h := PySem.W.krv_range n
  have h2 : (List.range n).map (fun i => f (n - 1 - i)) = ((List.range n).map fun k => n - 1 - k).map f := by
    rw [List.map_map]
    rfl
  rw [h2, h, List.map_reverse, List.reverse_reverse]
theorem gName_ap {j : Nat} {v : V} {σ : L2.St} {H : Hp} {k : L2.St → Hp → Prop} : gName j v σ H k = k (σ.set j (some v)) H := rfl
theorem asg_of {i : Nat} {D : Ends} {u : TS} {σ : L2.St} {H : Hp} {te : TE} {v : V} (hv : ∀ Q : VK, Q v H → te σ H Q) (h : u D (σ.set i (some v)) H) : tSeq (tAsg te (gName i)) u D σ H := hv _ h
def ErrT (BP : Addr) (E : XK) (H : Hp) (z : Str) : Prop := ∀ d H', Same H H' → H' d = some (.xd [("what", .str z)]) → E (.ref BP) (some d) H'
theorem raise_t {BP : Addr} {E : XK} {H H1 : Hp} {z : Str} (s : Same H H1) (h : ErrT BP E H z) (hz : z.length ≤ 100) {a : Addr} (na : H1 a = none) : spErrT BP [.ref a, .str z] (upd H1 a (exo a BP none)) (fun v H2 => v = .non ∧ ∃ (d : Addr) (fs : List (Str × V)), H2 a = some (exo a BP (some d)) ∧ H2 d = some (exd d fs) ∧ H1 d = none ∧ E (.ref BP) (some d) (upd (del H2 a) d (.xd fs))) (fun _ _ _ => False) := by
  refine ⟨a, z, rfl, upd_same, hz, fun d2 nd ne => ⟨rfl, d2, _, upd_same, by rw [upd_ne ne]; exact upd_same, ?_, ?_⟩⟩
  · rw [upd_ne ne] at nd
    exact nd
  · rw [upd_ne ne] at nd
    refine h d2 _ (fun b o e => ?_) upd_same
    have e1 := s _ _ e
    rw [upd_ne (ne_of_none e1 nd)]
    unfold del
    rw [if_neg (ne_of_none e1 na), upd_ne (ne_of_none e1 na), upd_ne (ne_of_none e1 nd), upd_ne (ne_of_none e1 na)]
    exact e1
def spTO (c : Cls3) (CG BP : Addr) : Sp := fun vs H Q E => ∃ (g : Addr) (xs : List (Str × Int)) (b : Bk) (B : Nat), vs = [.ref g] ∧ GameZ CG H g (varsD xs) b.ds ∧ (xs.map (·.1)).Nodup ∧ SzOk (xs.map (·.1)) xs ∧ b.ds.length ≤ 1000 ∧ PlOk (xs.map (·.1)) B (pl0 xs b) ∧ B ≤ 900 ∧
  (400 < (runT xs 401 [pl0 xs b]).length → ErrT BP E H "nodes") ∧
  ((runT xs 401 [pl0 xs b]).length ≤ 400 → ∀ t, joinT (runT xs 401 [pl0 xs b]) = [t] → ∀ (x : Addr) H', TrAt c H' (fun _ => True) x t → Same H H' → Q (.ref x) H')
abbrev NTo : List Str := ["game", "drafts", "plays", "play", "statement", "results", "result"]
section
variable {P : Program} {w : World} {K : PySem.W.Frag} {mg : Str → Option Value} {base : Heap} {C CG LE BP fB : Addr} {c : Cls3} {fP fG fN fH fJ : Addr} {dB dP dG dN dH dJ : FuncData}
theorem scTO : FnScope NTo ["game"] (defScope sTO) := ⟨rfl, rfl, rfl, by decide +kernel, rfl, by decide +kernel, by decide +kernel⟩
theorem ok_to {f : Addr} {fd : FuncData} (F : Fun K "tree_of" "tree_of" sTO f fd) (T : TxPl K mg C) (TB : TxTL K mg LE BP fB) (GB : FnOk P w K mg base CX0 1 fB dB ["self", "what"] (spErrT BP)) (bB : L2.Binds K dB ["self", "what"] [])
    (hlen : mg "len" = none) (hrev : mg "reversed" = none) (hrange : mg "range" = none) {tM : Tok} (hM : mg "MOST_NODES" = some (.int 400 tM))
    (PO : Fn0 P w K mg base 3 "play_of" ["game"] (spPO CG C) fP dP) (GO : Mt0 P w K mg base C 9 "go_on" ["self"] (spGo C) fG dG) (NA : Fn0 P w K mg base 3 "node_at" ["play", "statement"] (spNA c C) fN dN)
    (BE : Mt0 P w K mg base C 3 "behind" ["self", "statement", "result"] (spBeh C) fH dH) (JO : Fn0 P w K mg base 1 "joined" ["drafts"] (spJo K c) fJ dJ) :
    FnOk P w K mg base (L2N.CX P w) 10 f fd ["game"] (spTO c CG BP) := by
  refine Kh.Fun.okN F scTO (fun vs H Q E h => ?_) (fun cdv A0 outer s H vs Q E hr h => ?_)
  · obtain ⟨g, xs, b, B, rfl, _⟩ := h
    rfl
  · obtain ⟨g, xs, b, B, rfl, hg, hnd, hsz, hbl, hok, hB, qe, q⟩ := h
    have hr2 : Room 2 _ := hr.mono (by decide)
    have hr3 : Room 3 _ := hr.mono (by decide)
    have hr1 : Room 1 _ := hr.mono (by decide)
    have hr5 : Room 9 _ := hr
    refine ⟨_, pss_cons (ps_set (i := 1) scTO.nd rfl (Or.inl rfl) (pe_lst pa_nil))
      (pss_cons (ps_set (i := 2) scTO.nd rfl (Or.inl rfl) (pe_lst (pa_cons (pe_call PO.ok hr3 (by rfl) PO.gl PO.kp PO.bd .nil pass0 (pa_cons (pv 0) pa_nil)) pa_nil)))
      (pss_cons (ps_while (passes_of rfl) (pt_truth (pv 2) (by intro _; rfl))
        (pss_cons (ps_if (pt_cmpR op_eq (pe_callB call_len_seq (by rfl) hlen PySem.boot_len (pa_cons (pv 1) pa_nil)) (pe_glob (v := .int 400) rfl hM ⟨tM, rfl⟩) (nomark _)) (pss_one (L2N.ps_raise rfl (L2N.takes_of rfl rfl rfl rfl) (pmk_oexN TB.ox TB.iB TB.tB GB hr2 bB pass0 rfl TB.mgB (pa_cons pe_str pa_nil)))) pss_nil)
        (pss_cons (ps_set (i := 3) scTO.nd rfl (Or.inr rfl) (pe_bm0 PySem.F.plainAttrs_list PySem.F.slot_list_pop PySem.F.type_list_pop mt_pop (pv 2)))
        (pss_cons (ps_set (i := 4) scTO.nd rfl (Or.inr rfl) (pe_meth0 (pv 3) T.cl GO.mt GO.ok hr5 GO.bd .nil pass0))
        (pss_cons (ps_set (i := 5) scTO.nd rfl (Or.inl rfl) (pe_ifExp (pt_cmpR op_isN (pv 4) pe_non (nomark _)) pe_int (pe_ix ix_tup (pv 4) pe_int (fun _ _ => rfl))))
        (pss_cons (ps_expr (pe_bm PySem.F.plainAttrs_list PySem.F.slot_list_append PySem.F.type_list_append mt_append (pv 1) (pa_cons (pe_tup (pa_cons (pe_call NA.ok hr3 (by rfl) NA.gl NA.kp NA.bd .nil pass0 (pa_cons (pv 3) (pa_cons (pv 4) pa_nil))) (pa_cons (pv 5) pa_nil))) pa_nil)))
        (pss_one (ps_expr (pe_bm PySem.F.plainAttrs_list PySem.F.slot_list_extend PySem.F.type_list_extend mt_extend (pv 2) (pa_cons (pe_lc (own := [("result", 6)]) (g := gName 6) (tt := tYes) (te := tMeth C "behind" (spBeh C) [] E0 (tVar 3) (tCons (tVar 4) (tCons (tVar 6) tNil))) rfl scTO.nd (pi_revR rfl hrev (prg_1 rfl hrange (pv 5))) (blkOk_by (N := NTo) (sc := defScope sTO) (by decide +kernel))
            (fun _ _ _ _ _ => pg_name (i := 6) scTO.nd rfl (Or.inl rfl)) (fun _ _ _ _ _ => pts_nil) (fun _ _ _ _ _ => pe_meth (pv 3) T.cl BE.mt BE.ok hr3 BE.bd .nil pass0 (pa_cons (pv 4) (pa_cons (pv 6) pa_nil)))) pa_nil))))))))))
      (pss_one (ps_ret (pe_call JO.ok hr1 (by rfl) JO.gl JO.kp JO.bd .nil pass0 (pa_cons (pv 1) pa_nil)))))), ?_⟩
    refine ⟨by show 0 ≤ sizeLine; decide, fun Dl hDl => ?_⟩
    have s0 := same_upd (o := .lst []) hDl
    have eDl0 : upd H Dl (.lst []) Dl = some (.lst []) := upd_same
    generalize upd H Dl (.lst []) = H1 at *
    refine ⟨_, rfl, g, xs, b, rfl, hg.same s0, hnd, hsz, hbl, fun A H2 R2 s1 nw nz => ⟨by show 1 ≤ sizeLine; decide, fun Sl hSl => ?_⟩⟩
    have s2 := same_upd (o := .lst [V.ref A.p]) hSl
    have eSl0 : upd H2 Sl (.lst [V.ref A.p]) Sl = some (.lst [V.ref A.p]) := upd_same
    have nDS : Dl ≠ Sl := ne_of_none (s1 _ _ eDl0) hSl
    have hSl2 := hSl
    generalize hH3 : upd H2 Sl (.lst [V.ref A.p]) = H3 at *
    have R3 := R2.same s2
    have nDl := s1 _ _ eDl0
    have hDlA : ∀ {u : List V} {a : Addr}, H2 a = some (.lst u) → H1 a = none → Dl ≠ a := fun _ n e => by rw [← e, eDl0] at n; cases n
    have hSlA : ∀ {u : List V} {a : Addr}, H2 a = some (.lst u) → Sl ≠ a := fun h e => by rw [← e, hSl2] at h; cases h
    obtain ⟨u1, a1, _⟩ := R2.h1
    obtain ⟨u2, a2, _⟩ := R2.h2
    obtain ⟨u3, a3, _⟩ := R2.ht
    have g0 : PlG C H H3 (xs.map (·.1)) xs B A.sz Dl Sl (A, pl0 xs b) := ⟨R3, hok, rfl, ⟨s0.free nw.p, s0.free nw.so, s0.free nw.sn, s0.free nw.td, s0.free nw.l1, s0.free nw.l2⟩, ⟨hDlA a3 nw.td, hDlA a1 nw.l1, hDlA a2 nw.l2⟩, ⟨hSlA a3, hSlA a1, hSlA a2⟩⟩
    let Pv : Nat → L2.St → Hp → Prop := fun n σ H' => ∃ (v3 v4 v5 : Option V) (us : List V) (its : List It) (stk : List (Pad × Pl)), n = 401 - its.length ∧ its.length ≤ 400 ∧ stk.length ≤ 1 + 8 * its.length ∧ σ = [some (.ref g), some (.ref Dl), some (.ref Sl), v3, v4, v5, none] ∧
      H' Dl = some (.lst us) ∧ H' Sl = some (.lst (stk.map fun x => V.ref x.1.p).reverse) ∧ DrG c H H' us its ∧ (∀ x ∈ stk, PlG C H H' (xs.map (·.1)) xs B A.sz Dl Sl x) ∧ stk.Pairwise (fun a b => Dj a.1 b.1) ∧ Same H H' ∧ its.map It.d ++ runT xs (401 - its.length) (stk.map (·.2)) = runT xs 401 [pl0 xs b]
    refine ⟨Pv, ⟨_, none, none, none, [], [], [(A, pl0 xs b)], rfl, Nat.zero_le _, (by show 1 ≤ 1 + 8 * 0; decide), rfl, s2 _ _ nDl, eSl0, ⟨fun i u x h => by simp at h, rfl, List.nodup_nil, (fun x hx => nomatch hx), fun x hx => nomatch hx⟩, fun x hx => by rw [List.mem_singleton.mp hx]; exact g0, List.pairwise_singleton .., (s0.trans s1).trans s2, rfl⟩, ?_⟩
    rintro n σ H4 ⟨v3, v4, v5, us, its, stk, rfl, hi, hk, rfl, eD, eS, dr, pg, dj, s4, run⟩
    refine ⟨_, rfl, _, .inl ⟨_, SqL.of eS, rfl⟩, ?_⟩
    cases stk with
    | nil =>
      have run : its.map It.d ++ runT xs (401 - its.length) [] = runT xs 401 [pl0 xs b] := run
      have hrn : runT xs (401 - its.length) [] = [] := by
        rw [show 401 - its.length = (400 - its.length) + 1 by omega]
        rfl
      rw [hrn, List.append_nil] at run
      have hl : (runT xs 401 [pl0 xs b]).length ≤ 400 := by
        rw [← run, List.length_map]
        exact hi
      obtain ⟨hok2, hjl⟩ := runT_join xs 401 [pl0 xs b] (Nat.lt_succ_of_le hl)
      obtain ⟨t, ht⟩ := List.length_eq_one_iff.mp hjl
      refine iteF ⟨_, rfl, Dl, us, its, t, rfl, eD, dr.tup, dr.len, by omega, dr.nd, dr.hd, (by rw [run]; exact hok2), (by rw [run]; exact ht), fun x H5 tr k => ?_⟩
      exact q hl t ht x H5 (tr.keep (fun _ _ => trivial) (fun _ _ _ e => e) fun _ _ e => e) fun b o e => k _ _ (s4 _ _ e) fun y hy => ne_of_none e (dr.new y hy)
    | cons x r =>
      obtain ⟨A1, pl⟩ := x
      have hne : (!(((A1, pl) :: r).map fun x => V.ref x.1.p).reverse.isEmpty) = true := by
        rw [List.map_cons, List.reverse_cons]
        cases (r.map fun x => V.ref x.1.p).reverse <;> rfl
      rw [hne]
      refine iteT ⟨fun σ' H' => ∃ n', n' < 401 - its.length ∧ Pv n' σ' H', fun _ _ h => h, ?_⟩
      refine ⟨_, rfl, Dl, us, rfl, .inl (SqL.of eD), rfl, _, rfl, ?_⟩
      have hun : us.length = its.length := dr.len
      have g1 := pg _ (List.mem_cons_self ..)
      obtain ⟨R4, ok4, hz4, nw4, o14, o24⟩ := g1
      dsimp only at R4 ok4 hz4 nw4 o14 o24
      by_cases hf : its.length = 400
      · rw [show decide (V.int ((us.length : Nat) : Int) = V.int 400) = true by rw [hun, hf]; exact decide_eq_true rfl]
        refine iteT ⟨by show 1 ≤ 1000; decide, fun a na => raise_t s4 (qe ?_) (by decide +kernel) na⟩
        rw [← run, List.length_append, List.length_map, hf]
        show 400 < 400 + (runT xs 1 (pl :: _)).length
        show 400 < 400 + (1 + 0)
        decide
      rw [show decide (V.int ((us.length : Nat) : Int) = V.int 400) = false from decide_eq_false fun e => hf (by
        have := V.int.inj e
        omega)]
      have hrev : (((A1, pl) :: r).map fun x => V.ref x.1.p).reverse = (r.map fun x => V.ref x.1.p).reverse ++ [V.ref A1.p] := by rw [List.map_cons, List.reverse_cons]
      rw [hrev] at eS
      have hat : ((r.map fun x => V.ref x.1.p).reverse ++ [V.ref A1.p])[((r.map fun x => V.ref x.1.p).reverse ++ [V.ref A1.p]).length - 1]? = some (V.ref A1.p) := by
        rw [List.length_append, List.length_singleton, Nat.add_sub_cancel, List.getElem?_append_right (Nat.le_refl _), Nat.sub_self]
        rfl
      refine iteF ⟨_, rfl, .inl ⟨rfl, _, SqL.of eS⟩, Sl, _, _, rfl, rfl, eS, hat, ?_⟩
      rw [List.dropLast_concat]
      obtain ⟨dj1, dj2⟩ := List.pairwise_cons.mp dj
      have gnf := nf (m := "go_on") (by decide +kernel)
      have bnf := nf (m := "behind") (by decide +kernel)
      have hSl0 : H Sl = none := s0.free (s1.free hSl2)
      have s5 : Same H (upd H4 Sl (.lst (r.map fun x => V.ref x.1.p).reverse)) := same_updN s4 hSl0
      have R5 : PlayAt C (upd H4 Sl (.lst (r.map fun x => V.ref x.1.p).reverse)) A1 (xs.map (·.1)) xs pl := R4.updL eS o24.h1 o24.h2 o24.h3
      have dr5 : DrG c H (upd H4 Sl (.lst (r.map fun x => V.ref x.1.p).reverse)) us its := dr.map (tk_lst eS) fun y _ hy => hy.updL eS
      have pg5 : ∀ y ∈ r, PlG C H (upd H4 Sl (.lst (r.map fun x => V.ref x.1.p).reverse)) (xs.map (·.1)) xs B A.sz Dl Sl y := fun y hy => (pg y (List.mem_cons_of_mem _ hy)).updL eS (pg y (List.mem_cons_of_mem _ hy)).o2
      have eS5 : upd H4 Sl (.lst (r.map fun x => V.ref x.1.p).reverse) Sl = some (.lst (r.map fun x => V.ref x.1.p).reverse) := upd_same
      have eD5 : upd H4 Sl (.lst (r.map fun x => V.ref x.1.p).reverse) Dl = some (.lst us) := by
        rw [upd_ne nDS]
        exact eD
      generalize upd H4 Sl (.lst (r.map fun x => V.ref x.1.p).reverse) = H5 at *
      refine ⟨_, rfl, A1.p, A1.dx, _, rfl, R5.ob, gnf _ _ _ _ _, A1, _, xs, pl, B, rfl, R5, ok4, hB, fun v H6 R6 fr6 dm6 hv => ?_⟩
      obtain ⟨okm, okc, _⟩ := goOn_ok (xs := xs) ok4 (Nat.le_refl _)
      have hkid := fun x hx rr => kids_ok (xs := xs) ok4 (x := x) hx rr
      have s6 := Fr.new nw4 s5 fr6
      have eS6 := fr6.lst R5 eS5 o24
      have eD6 := fr6.lst R5 eD5 o14
      have dr6 : DrG c H H6 us its := dr5.map (fr6.tk R5) fun y _ hy => hy.fr R5 fr6
      have pg6 : ∀ y ∈ r, PlG C H H6 (xs.map (·.1)) xs B A.sz Dl Sl y := fun y hy => (pg5 y hy).fr R5 (dj1 y hy) hz4 fr6
      have hkb := kids_bh xs pl
      have hbh : ∀ x, (cameTo xs pl).2 = some x → ∀ rr, bh xs pl rr = behP xs (askP (cameTo xs pl).1 (some x)) x rr := fun x hx rr => by
        unfold bh
        rw [hx]
      have hdr : draft xs pl = (hdOf (cameTo xs pl).1 (cameTo xs pl).2, nRes (cameTo xs pl).2) := rfl
      change PlayAt C H6 A1 (xs.map (·.1)) xs (cameTo xs pl).1 at R6
      change match (cameTo xs pl).2 with | none => v = V.non | some x => Dt H6 v x.d at hv
      change PlOk (xs.map (·.1)) B (cameTo xs pl).1 at okm
      change ∀ x, (cameTo xs pl).2 = some x → _ at okc
      generalize ho : (cameTo xs pl).2 = o at *
      generalize hpm : (cameTo xs pl).1 = pm at *
      have hn8 : nRes o ≤ 8 := by
        cases o with
        | none => exact Nat.zero_le _
        | some x =>
          obtain ⟨hc, hp, _⟩ := okc x rfl
          show x.rs.toNat ≤ 8
          cases x with
          | draw y n => have := hp.2.2; show n.toNat ≤ 8; omega
          | move k y n m => have := hp.2.2.2.1; show n.toNat ≤ 8; omega
          | set y e => cases hc
          | show_ s e => cases hc
          | pay k e => cases hc
          | ifs e a b => cases hc
      rw [gName_ap]
      dsimp only
      refine asg_of (i := 5) (v := .int (nRes o : Int)) (fun Q' hQ' => ?_) ?_
      · refine ⟨_, rfl, rfl, _, rfl, ?_⟩
        cases o with
        | none =>
          have hv : v = V.non := hv
          rw [hv, decide_eq_true rfl]
          exact iteT hQ'
        | some x =>
          obtain ⟨hc, hp, _⟩ := okc x rfl
          obtain ⟨av, us2, rfl, ea⟩ := chance_at hc hv
          rw [decide_eq_false (show ¬ V.ref av = V.non from fun z => by cases z)]
          refine iteF ⟨_, rfl, av, _, _, _, rfl, rfl, SqT.of ea, tix2, ?_⟩
          have hr0 : 0 ≤ x.rs := by
            cases x with
            | draw y n => have := hp.2.1; show 0 ≤ n; omega
            | move k y n m => have := hp.2.2.1; show 0 ≤ n; omega
            | set y e => cases hc
            | show_ s e => cases hc
            | pay k e => cases hc
            | ifs e a b => cases hc
          have : (nRes (some x) : Int) = x.rs := Int.toNat_of_nonneg hr0
          rw [this] at hQ'
          exact hQ'
      have hel : pm.e1.length < 1000 ∧ pm.e2.length < 1000 := by
        have h1 := okm.b1
        have h2 := okm.b2
        omega
      refine ⟨_, rfl, .inl ⟨rfl, _, SqL.of eD6⟩, _, rfl, _, rfl, A1, _, xs, pm, v, o, rfl, R6, ?_, hel.1, hel.2, fun a H7 R7 fr7 dm7 na7 hd7 => ⟨_, rfl, by show 2 ≤ sizeLine; decide, fun t ht => ?_⟩⟩
      · cases o with
        | none => exact hv
        | some x => exact ⟨hv, (okc x rfl).1, (okc x rfl).2.1⟩
      have s7 := Fr.new nw4 s6 fr7
      have eS7 := fr7.lst R6 eS6 o24
      have eD7 := fr7.lst R6 eD6 o14
      have dr7 : DrG c H H7 us its := dr6.map (fr7.tk R6) fun y _ hy => hy.fr R6 fr7
      have pg7 : ∀ y ∈ r, PlG C H H7 (xs.map (·.1)) xs B A.sz Dl Sl y := fun y hy => (pg6 y hy).fr R6 (dj1 y hy) hz4 fr7
      have hv7 : ∀ x, o = some x → Dt H7 v x.d := fun x hx => by
        subst hx
        exact hv.keep (fr7.tk R6)
      have hnm : ∀ y ∈ its, y.a ≠ a := fun y hy e => by
        obtain ⟨ob, eo⟩ := (dr6.hd y hy).some
        rw [e, na7] at eo
        cases eo
      have ha0 : H a = none := s6.free na7
      have s8 := same_upd (o := .tup [.ref a, .int (nRes o : Int)]) ht
      have et : upd H7 t (.tup [.ref a, .int (nRes o : Int)]) t = some (.tup [.ref a, .int (nRes o : Int)]) := upd_same
      generalize upd H7 t (.tup [.ref a, .int (nRes o : Int)]) = H8 at *
      have eD8 := s8 _ _ eD7
      have hDl0 : H Dl = none := hDl
      have s9 : Same H (upd H8 Dl (.lst (us ++ [.ref t]))) := same_updN (s7.trans s8) hDl0
      have R9 : PlayAt C (upd H8 Dl (.lst (us ++ [.ref t]))) A1 (xs.map (·.1)) xs (askP pm o) := (R7.same s8).updL eD8 o14.h1 o14.h2 o14.h3
      have tk9 : Tk H8 (upd H8 Dl (.lst (us ++ [.ref t]))) := tk_lst eD8
      have dr9 : DrG c H (upd H8 Dl (.lst (us ++ [.ref t]))) (us ++ [.ref t]) (its ++ [⟨a, hdOf pm o, nRes o⟩]) := ((dr7.map (Tk.same s8) fun y _ hy => hy.same s8).map tk9 fun y _ hy => hy.updL eD8).snoc (tk9 _ _ et) ((hd7.same s8).updL eD8) ha0 hnm
      have pg9 : ∀ y ∈ r, PlG C H (upd H8 Dl (.lst (us ++ [.ref t]))) (xs.map (·.1)) xs B A.sz Dl Sl y := fun y hy => ((pg7 y hy).same s8).updL eD8 (pg7 y hy).o1
      have eS9 : upd H8 Dl (.lst (us ++ [.ref t])) Sl = some (.lst (r.map fun x => V.ref x.1.p).reverse) := by
        rw [upd_ne nDS.symm]
        exact s8 _ _ eS7
      have eD9 : upd H8 Dl (.lst (us ++ [.ref t])) Dl = some (.lst (us ++ [.ref t])) := upd_same
      have hv9 : ∀ x, o = some x → Dt (upd H8 Dl (.lst (us ++ [.ref t]))) v x.d := fun x hx => ((hv7 x hx).keep (Tk.same s8)).keep tk9
      refine ⟨Dl, us, _, rfl, rfl, eD8, by rw [hun]; exact Nat.lt_of_le_of_lt hi (by decide), ?_⟩
      generalize upd H8 Dl (.lst (us ++ [.ref t])) = H9 at *
      clear s8 et ht eD8 tk9 dr7 dr6 dr5 pg7 pg6 pg5 s7 s6 s5 R7 R6 R5 fr7 fr6 eS7 eS6 eS5 eD7 eD6 eD5
      refine ⟨_, rfl, .inl ⟨rfl, _, SqL.of eS9⟩, _, rfl, _, rfl, by decide, by decide, by omega, by omega, fun D hD => ?_⟩
      have hnn : (((nRes o : Int) - 0).toNat) = nRes o := by omega
      rw [hnn]
      generalize hN : nRes o = N at *
      let Pw : Nat → Hp → Prop := fun j H' => ∃ Bs : List (Pad × Pl), Bs.length = j ∧ H' D = some (.lst (Bs.map fun x => V.ref x.1.p)) ∧ Bs.map (·.2) = (List.range j).map (fun i => bh xs pl ((N - 1 - i : Nat) : Int)) ∧ (∀ y ∈ Bs, PlG C H H' (xs.map (·.1)) xs B A.sz Dl Sl y ∧ Off D y.1) ∧ Bs.Pairwise (fun a b => Dj b.1 a.1) ∧ (∀ y ∈ Bs, ∀ z ∈ r, Dj y.1 z.1) ∧ Same H9 H'
      have hD9 := hD
      refine lc_it walk_rangeC Pw ⟨[], rfl, upd_same, rfl, (fun y hy => nomatch hy), .nil, (fun y hy => nomatch hy), same_upd hD⟩ (fun _ _ _ _ => trivial) ?_ ?_
      · rintro j u H10 H11 hj ⟨Bs, hbl2, eB, hb2, hbp, hbd, hbr, s10⟩ ⟨e11, eu⟩
        subst e11 eu
        cases o with
        | none =>
          have : nRes none = 0 := rfl
          omega
        | some x =>
          obtain ⟨hc, hp, _⟩ := okc x rfl
          obtain ⟨k1, k2, k3⟩ := hkid x rfl ((N - 1 - j : Nat) : Int)
          have er : (0 : Int) + (N : Int) - 1 + ((j : Nat) : Int) * (-1) = ((N - 1 - j : Nat) : Int) := by omega
          refine ⟨rfl, tYesI ⟨_, rfl, A1.p, A1.dx, _, rfl, (R9.same s10).ob, bnf _ _ _ _ _, _, rfl, _, rfl, A1, _, xs, _, v, x, _, rfl, R9.same s10, (hv9 x rfl).keep (Tk.same s10), hc, hp, ?_, ?_, ?_, fun A' H12 R12 s12 ez nw12 => ?_⟩⟩
          · rw [er]; exact Int.natCast_nonneg _
          · omega
          · omega
          · rw [er] at R12
            have eB12 := s12 _ _ eB
            have sall := s9.trans (s10.trans s12)
            have nD : Off D A' := nw12.off eB
            have gN : PlG C H H12 (xs.map (·.1)) xs B A.sz Dl Sl (A', behP xs (askP pm (some x)) x ((N - 1 - j : Nat) : Int)) := ⟨R12, k1, by rw [ez, hz4], nw12.free (s9.trans s10), nw12.off (s10 _ _ eD9), nw12.off (s10 _ _ eS9)⟩
            refine ⟨_, eB12, by rw [List.length_map, hbl2]; exact Nat.lt_of_le_of_lt (show j ≤ 8 by omega) (by decide), Bs ++ [(A', behP xs (askP pm (some x)) x ((N - 1 - j : Nat) : Int))], by rw [List.length_append, hbl2]; rfl, ?_, ?_, fun y hy => ?_, ?_, fun y hy z hz => ?_, ?_⟩
            · rw [upd_same, List.map_append]
              rfl
            · rw [List.map_append, hb2, List.range_succ, List.map_append]
              congr 1
              exact congrArg (fun z => [z]) (hbh x rfl ((N - 1 - j : Nat) : Int)).symm
            · rcases List.mem_append.mp hy with hy | hy
              · exact ⟨((hbp y hy).1.same s12).updL eB12 (hbp y hy).2, (hbp y hy).2⟩
              · rw [List.mem_singleton.mp hy]
                exact ⟨gN.updL eB12 nD, nD⟩
            · refine List.pairwise_append.mpr ⟨hbd, List.pairwise_singleton .., fun y hy z hz => ?_⟩
              rw [List.mem_singleton.mp hz]
              exact nw12.dj (hbp y hy).1.pa
            · rcases List.mem_append.mp hy with hy | hy
              · exact hbr y hy z hz
              · rw [List.mem_singleton.mp hy]
                exact nw12.dj ((pg9 z hz).pa.same s10)
            · intro b2 o2 e2
              rw [upd_ne (ne_of_none e2 hD9)]
              exact s12 _ _ (s10 _ _ e2)
      · rintro H10 ⟨Bs, hbl2, eB, hb2, hbp, hbd, hbr, s10⟩
        have eS10 := s10 _ _ eS9
        have nSD : Sl ≠ D := ne_of_none eS9 hD9
        have hkk : Bs.reverse.map (·.2) = kids xs pl := by
          rw [List.map_reverse, hb2, hkb]
          exact rev_range N fun i : Nat => bh xs pl (i : Int)
        refine ⟨Sl, D, _, _, rfl, rfl, eS10, eB, ?_, ?_⟩
        · rw [List.length_reverse, List.length_map, List.length_map, hbl2]
          rw [List.length_cons] at hk
          exact Nat.le_trans (show r.length + N ≤ 4000 by omega) (by decide)
        · refine ⟨_, ?_, _, _, _, us ++ [.ref t], its ++ [⟨a, hdOf pm o, N⟩], Bs.reverse ++ r, rfl, ?_, ?_, rfl, ?_, ?_, ?_, fun y hy => ?_, ?_, ?_, ?_⟩
          · rw [List.length_append, List.length_singleton]
            omega
          · rw [List.length_append, List.length_singleton]
            omega
          · rw [List.length_append, List.length_reverse, List.length_append, List.length_singleton, hbl2]
            rw [List.length_cons] at hk
            omega
          · rw [upd_ne nDS]
            exact s10 _ _ eD9
          · rw [upd_same, List.map_append, List.reverse_append, List.map_reverse, List.reverse_reverse]
          · exact (dr9.map (Tk.same s10) fun y _ hy => hy.same s10).map (tk_lst eS10) fun y _ hy => hy.updL eS10
          · rcases List.mem_append.mp hy with hy | hy
            · have hy := List.mem_reverse.mp hy
              exact (hbp y hy).1.updL eS10 (hbp y hy).1.o2
            · exact ((pg9 y hy).same s10).updL eS10 (pg9 y hy).o2
          · refine List.pairwise_append.mpr ⟨List.pairwise_reverse.mpr hbd, dj2, fun y hy z hz => hbr y (List.mem_reverse.mp hy) z hz⟩
          · exact same_updN (s9.trans s10) hSl0
          · rw [List.map_append, List.map_append, hkk, ← run, List.length_append, List.length_singleton, List.append_assoc]
            congr 1
            rw [show 401 - its.length = (401 - (its.length + 1)) + 1 by omega]
            show _ = draft xs pl :: runT xs (401 - (its.length + 1)) (kids xs pl ++ r.map (·.2))
            rw [hdr]
            rfl
end
end K1

set_option Elab.async false
set_option linter.all false
set_option maxRecDepth 100000
set_option maxHeartbeats 4000000
/-! nodes_of. -/
namespace K1
open PySem PySem.Spec PyProof.Rows L2 Kx Kd Kt Kh
mutual
/-- all nodes, each ahead of its parts -/
def Tr.all : Tr → List Tr
  | .end_ p => [.end_ p]
  | .lot ps => .lot ps :: ps.all
  | .move s v ps => .move s v ps :: ps.all
def Ts.all : Ts → List Tr
  | .nil => []
  | .cons t r => t.all ++ r.all
end
theorem all_ls : ∀ ps : Ts, ps.all = ps.ls.flatMap Tr.all
  | .nil => rfl
  | .cons t r => by
    show t.all ++ r.all = _
    rw [all_ls r]
    rfl
theorem all_mk {k : Hd} {ps : Ts} (h : k.isE = true → ps = .nil) : (mkT k ps).all = mkT k ps :: ps.all := by
  cases k with
  | e p =>
    rw [h rfl]
    rfl
  | l => rfl
  | m s v => rfl
mutual
theorem TrAt.updL {c : Cls3} {H : Hp} {F : Addr → Prop} {b : Addr} {us ys : List V} (e : H b = some (.lst us)) : ∀ {a : Addr} {t : Tr}, TrAt c H F a t → TrAt c (upd H b (.lst ys)) F a t
  | _, _, .mk f h hp he => .mk f (h.updL e) (TsAt.updL e hp) he
theorem TsAt.updL {c : Cls3} {H : Hp} {F : Addr → Prop} {b : Addr} {us ys : List V} (e : H b = some (.lst us)) : ∀ {vs : List V} {ps : Ts}, TsAt c H F vs ps → TsAt c (upd H b (.lst ys)) F vs ps
  | _, _, .nil => .nil
  | _, _, .cons h hr => .cons (TrAt.updL e h) (TsAt.updL e hr)
end
theorem TrAt.same {c : Cls3} {H H' : Hp} {F : Addr → Prop} {a : Addr} {t : Tr} (h : TrAt c H F a t) (s : Same H H') : TrAt c H' F a t := h.keep (fun _ f => f) (fun a o _ e => s _ _ e) (Tk.same s)
def NdR (c : Cls3) (H : Hp) (F : Addr → Prop) (v : V) (t : Tr) : Prop := ∃ a, v = V.ref a ∧ TrAt c H F a t
theorem nd_of {c : Cls3} {H : Hp} {F : Addr → Prop} : ∀ {ps : Ts} {us : List V}, TsAt c H F us ps → Paired (NdR c H F) us ps.ls
  | _, _, .nil => .nil
  | _, _, .cons h hr => .cons ⟨_, rfl, h⟩ (nd_of hr)
theorem paired_map {α β : Type} {R S : α → β → Prop} (f : ∀ a b, R a b → S a b) : ∀ {xs : List α} {ys : List β}, Paired R xs ys → Paired S xs ys
  | _, _, .nil => .nil
  | _, _, .cons h r => .cons (f _ _ h) (paired_map f r)
theorem paired_app {α β : Type} {R : α → β → Prop} : ∀ {xs xs2 : List α} {ys ys2 : List β}, Paired R xs ys → Paired R xs2 ys2 → Paired R (xs ++ xs2) (ys ++ ys2)
  | _, _, _, _, .nil, r => r
  | _, _, _, _, .cons h r, r2 => .cons h (paired_app r r2)
theorem paired_len {α β : Type} {R : α → β → Prop} : ∀ {xs : List α} {ys : List β}, Paired R xs ys → xs.length = ys.length
  | _, _, .nil => rfl
  | _, _, .cons h r => by rw [List.length_cons, List.length_cons, paired_len r]
theorem nd_updL {c : Cls3} {H : Hp} {F : Addr → Prop} {b : Addr} {us ys : List V} (e : H b = some (.lst us)) {vs : List V} {ts : List Tr} (h : Paired (NdR c H F) vs ts) : Paired (NdR c (upd H b (.lst ys)) F) vs ts := paired_map (fun _ _ ⟨a, e1, h⟩ => ⟨a, e1, h.updL e⟩) h
theorem nd_same {c : Cls3} {H H' : Hp} {F : Addr → Prop} {vs : List V} {ts : List Tr} (h : Paired (NdR c H F) vs ts) (s : Same H H') : Paired (NdR c H' F) vs ts := paired_map (fun _ _ ⟨a, e1, h⟩ => ⟨a, e1, h.same s⟩) h
theorem flat_len : ∀ l : List Tr, l.length ≤ (l.flatMap Tr.all).length
  | [] => Nat.le_refl _
  | t :: r => by
    have := flat_len r
    have h1 : 1 ≤ t.all.length := by cases t <;> exact Nat.succ_le_succ (Nat.zero_le _)
    rw [List.flatMap_cons, List.length_append, List.length_cons]
    omega
structure TxI (K : PySem.W.Frag) (mg : Str → Option Value) (c : Cls3) : Prop where
  isi : mg "isinstance" = none
  tE : ∀ {H : Hp} {a dx : Addr} {fs : List (Str × V)}, H a = some (.ins c.E dx fs) → TyX K H (.ref a) (.ref c.E)
  tL : ∀ {H : Hp} {a dx : Addr} {fs : List (Str × V)}, H a = some (.ins c.L dx fs) → TyX K H (.ref a) (.ref c.L)
  tM : ∀ {H : Hp} {a dx : Addr} {fs : List (Str × V)}, H a = some (.ins c.M dx fs) → TyX K H (.ref a) (.ref c.M)
  eE : PySem.W.kitOne K (.ref c.E) (.ref c.E) = some true
  eL : PySem.W.kitOne K (.ref c.L) (.ref c.E) = some false
  eM : PySem.W.kitOne K (.ref c.M) (.ref c.E) = some false
  mE : PySem.W.kitOne K (.ref c.E) (.ref c.M) = some false
  mL : PySem.W.kitOne K (.ref c.L) (.ref c.M) = some false
  mM : PySem.W.kitOne K (.ref c.M) (.ref c.M) = some true
def spNO (c : Cls3) : Sp := fun vs H Q _ => ∃ (a : Addr) (t : Tr) (F : Addr → Prop), vs = [.ref a] ∧ TrAt c H F a t ∧ t.all.length ≤ 400 ∧ ∀ (l : Addr) (us : List V) H', Same H H' → H l = none → H' l = some (.lst us) → Paired (NdR c H' F) us t.all → Q (.ref l) H'
abbrev NNo : List Str := ["tree", "nodes", "ahead", "node"]
section
variable {P : Program} {w : World} {K : PySem.W.Frag} {mg : Str → Option Value} {base : Heap} {c : Cls3}
theorem scNO : FnScope NNo ["tree"] (defScope sNO) := ⟨rfl, rfl, rfl, by decide +kernel, rfl, by decide +kernel, by decide +kernel⟩
theorem ok_no {f : Addr} {fd : FuncData} (F0 : Fun K "nodes_of" "nodes_of" sNO f fd) (T : TxN K mg c) (TI : TxI K mg c) : FnOk P w K mg base CX0 1 f fd ["tree"] (spNO c) := by
  refine F0.ok scNO (fun vs H Q E h => ?_) (fun cdv A0 outer s H vs Q E hr h => ?_)
  · obtain ⟨a, t, F, rfl, _⟩ := h
    rfl
  · obtain ⟨a, t, F, rfl, ha, hsz, q⟩ := h
    refine ⟨_, pss_cons (ps_set (i := 1) scNO.nd rfl (Or.inl rfl) (pe_lst pa_nil))
      (pss_cons (ps_set (i := 2) scNO.nd rfl (Or.inl rfl) (pe_lst (pa_cons (pv 0) pa_nil)))
      (pss_cons (ps_while PassesOwn.never (pt_truth (pv 2) (by intro _; rfl))
        (pss_cons (ps_set (i := 3) scNO.nd rfl (Or.inl rfl) (pe_bm0 PySem.F.plainAttrs_list PySem.F.slot_list_pop PySem.F.type_list_pop mt_pop (pv 2)))
        (pss_cons (ps_expr (pe_bm PySem.F.plainAttrs_list PySem.F.slot_list_append PySem.F.type_list_append mt_append (pv 1) (pa_cons (pv 3) pa_nil)))
        (pss_one (ps_if (pt_not (pt_val (pe_callB call_isi (by rfl) TI.isi (by decide +kernel) (pa_cons (pv 3) (pa_cons (pe_glob (v := .ref c.E) rfl T.gE rfl) pa_nil)))))
          (pss_one (ps_expr (pe_bm PySem.F.plainAttrs_list PySem.F.slot_list_extend PySem.F.type_list_extend mt_extendT (pv 2) (pa_cons (Kt.pe_revT (pe_fld (pv 3) rfl)) pa_nil)))) pss_nil)))))
      (pss_one (ps_ret (pv 1))))), ?_⟩
    refine ⟨by show 0 ≤ sizeLine; decide, fun Nl hNl => ⟨_, rfl, by show 1 ≤ sizeLine; decide, fun Al hAl => ?_⟩⟩
    have s0 := same_upd (o := .lst []) hNl
    have eN0 : upd H Nl (.lst []) Nl = some (.lst []) := upd_same
    generalize upd H Nl (.lst []) = H1 at *
    have s1 := same_upd (o := .lst [V.ref a]) hAl
    have eA0 : upd H1 Al (.lst [V.ref a]) Al = some (.lst [V.ref a]) := upd_same
    have nNA : Nl ≠ Al := ne_of_none eN0 hAl
    have hAl0 : H Al = none := s0.free hAl
    have eN1 := s1 _ _ eN0
    generalize upd H1 Al (.lst [V.ref a]) = H2 at *
    let Pv : Nat → L2.St → Hp → Prop := fun n σ H' => ∃ (v3 : Option V) (dn stk : List Tr) (vd vs : List V), n = (stk.flatMap Tr.all).length ∧ σ = [some (.ref a), some (.ref Nl), some (.ref Al), v3] ∧ H' Nl = some (.lst vd) ∧ H' Al = some (.lst vs.reverse) ∧ Paired (NdR c H' F) vd dn ∧ Paired (NdR c H' F) vs stk ∧ Same H H' ∧ t.all = dn ++ stk.flatMap Tr.all
    refine ⟨Pv, ⟨_, none, [], [t], [], [V.ref a], rfl, rfl, eN1, eA0, .nil, .cons ⟨a, rfl, ha.same (s0.trans s1)⟩ .nil, s0.trans s1, by rw [List.flatMap_singleton]; rfl⟩, ?_⟩
    rintro n σ H3 ⟨v3, dn, stk, vd, vs, rfl, rfl, eN, eA, pd, ps, s3, hall⟩
    refine ⟨_, rfl, _, .inl ⟨_, SqL.of eA, rfl⟩, ?_⟩
    cases ps with
    | nil =>
      refine iteF ⟨_, rfl, ?_⟩
      have hall : t.all = dn ++ [] := hall
      rw [List.append_nil] at hall
      exact q Nl vd H3 s3 hNl eN (by rw [hall]; exact pd)
    | @cons v x vs stk hx ps =>
      obtain ⟨a1, rfl, hx⟩ := hx
      rw [List.reverse_cons] at eA ⊢
      have hne : (!(vs.reverse ++ [V.ref a1]).isEmpty) = true := by cases vs.reverse <;> rfl
      rw [hne]
      refine iteT ⟨fun σ' H' => ∃ n', n' < ((x :: stk).flatMap Tr.all).length ∧ Pv n' σ' H', fun _ _ h => h, ?_⟩
      have hat : (vs.reverse ++ [V.ref a1])[(vs.reverse ++ [V.ref a1]).length - 1]? = some (V.ref a1) := by
        rw [List.length_append, List.length_singleton, Nat.add_sub_cancel, List.getElem?_append_right (Nat.le_refl _), Nat.sub_self]
        rfl
      refine ⟨_, rfl, .inl ⟨rfl, _, SqL.of eA⟩, Al, _, _, rfl, rfl, eA, hat, ?_⟩
      rw [List.dropLast_concat]
      have s4 : Same H (upd H3 Al (.lst vs.reverse)) := same_updN s3 hAl0
      have eN4 : upd H3 Al (.lst vs.reverse) Nl = some (.lst vd) := by
        rw [upd_ne nNA]
        exact eN
      have eA4 : upd H3 Al (.lst vs.reverse) Al = some (.lst vs.reverse) := upd_same
      have pd4 := nd_updL (ys := vs.reverse) eA pd
      have ps4 := nd_updL (ys := vs.reverse) eA ps
      have hx4 := hx.updL (ys := vs.reverse) eA
      generalize upd H3 Al (.lst vs.reverse) = H4 at *
      have hcnt : dn.length + (x.all.length + (stk.flatMap Tr.all).length) ≤ 400 := by
        have := congrArg List.length hall
        rw [List.length_append, List.flatMap_cons, List.length_append] at this
        omega
      have hvd : vd.length ≤ 400 := by
        rw [paired_len pd]
        omega
      refine ⟨_, rfl, .inl ⟨rfl, _, SqL.of eN4⟩, _, rfl, Nl, _, _, rfl, rfl, eN4, Nat.lt_of_le_of_lt hvd (by decide), ?_⟩
      have s5 : Same H (upd H4 Nl (.lst (vd ++ [V.ref a1]))) := same_updN s4 hNl
      have eA5 : upd H4 Nl (.lst (vd ++ [V.ref a1])) Al = some (.lst vs.reverse) := by
        rw [upd_ne nNA.symm]
        exact eA4
      have eN5 : upd H4 Nl (.lst (vd ++ [V.ref a1])) Nl = some (.lst (vd ++ [V.ref a1])) := upd_same
      have ps5 := nd_updL (ys := vd ++ [V.ref a1]) eN4 ps4
      have hx5 := hx4.updL (ys := vd ++ [V.ref a1]) eN4
      have pd5 : Paired (NdR c (upd H4 Nl (.lst (vd ++ [V.ref a1]))) F) (vd ++ [V.ref a1]) (dn ++ [x]) := paired_app (nd_updL eN4 pd4) (.cons ⟨a1, rfl, hx5⟩ .nil)
      generalize upd H4 Nl (.lst (vd ++ [V.ref a1])) = H5 at *
      have hxx := hx5
      cases hx5 with
      | @mk _ k us qs hf hh hp he =>
      have hak := all_mk he
      rw [List.flatMap_cons, hak] at hall
      rw [hak] at hcnt
      rw [List.length_cons] at hcnt
      have hlt : (qs.all ++ stk.flatMap Tr.all).length < ((mkT k qs :: stk).flatMap Tr.all).length := by
        rw [List.flatMap_cons, hak, List.length_append, List.length_append, List.length_cons]
        omega
      have hpl : us.length ≤ 400 := by
        have h1 := paired_len (nd_of hp)
        have h2 := flat_len qs.ls
        rw [← all_ls] at h2
        omega
      have hsl : vs.length ≤ 400 := by
        have h1 := paired_len ps5
        have h2 := flat_len stk
        omega
      have hls : (qs.ls ++ stk).flatMap Tr.all = qs.all ++ stk.flatMap Tr.all := by rw [List.flatMap_append, all_ls]
      have fin : ∀ (p : Addr), H5 p = none → ∃ n', n' < ((mkT k qs :: stk).flatMap Tr.all).length ∧ Pv n' [some (.ref a), some (.ref Nl), some (.ref Al), some (.ref a1)] (upd (upd H5 p (.tup us.reverse)) Al (.lst (vs.reverse ++ us.reverse))) := fun p np => by
        have s6 := same_upd (o := .tup us.reverse) np
        have eA6 := s6 _ _ eA5
        have eN6 := s6 _ _ eN5
        have pd6 := nd_same pd5 s6
        have ps6 := nd_same ps5 s6
        have pp6 := nd_same (nd_of hp) s6
        have s06 := s5.trans s6
        generalize upd H5 p (.tup us.reverse) = H6 at *
        refine ⟨_, hlt, _, dn ++ [mkT k qs], qs.ls ++ stk, vd ++ [V.ref a1], us ++ vs, by rw [hls], rfl, ?_, ?_, nd_updL eA6 pd6, nd_updL eA6 (paired_app pp6 ps6), same_updN s06 hAl0, ?_⟩
        · rw [upd_ne nNA]
          exact eN6
        · rw [upd_same, List.reverse_append]
        · rw [hall, hls, List.append_assoc]
          rfl
      cases hh with
      | e h hu =>
        have hq : qs = .nil := he rfl
        subst hq
        refine ⟨_, rfl, .ref a1, .ref c.E, .ref c.E, .ref c.E, true, rfl, .own c.E, TI.tE h, TI.eE, _, rfl, iteF ?_⟩
        refine ⟨_, hlt, _, dn ++ [_], stk, vd ++ [V.ref a1], vs, rfl, rfl, eN5, eA5, pd5, ps5, s5, ?_⟩
        rw [hall, List.append_assoc]
        rfl
      | l h ht =>
        refine ⟨_, rfl, .ref a1, .ref c.E, .ref c.L, .ref c.E, false, rfl, .own c.E, TI.tL h, TI.eL, _, rfl, iteT ?_⟩
        refine ⟨_, rfl, .inl ⟨rfl, _, SqL.of eA5⟩, _, rfl, a1, c.L, _, _, _, rfl, h, T.cL, T.nL, rfl, _, us, rfl, SqT.of ht, fun p np => ?_⟩
        refine ⟨Al, p, _, _, rfl, rfl, same_upd np _ _ eA5, SqT.of upd_same, ?_, fin p np⟩
        rw [List.length_reverse, List.length_reverse]
        exact Nat.le_trans (show vs.length + us.length ≤ 800 by omega) (by decide)
      | m h hv ht =>
        refine ⟨_, rfl, .ref a1, .ref c.E, .ref c.M, .ref c.E, false, rfl, .own c.E, TI.tM h, TI.eM, _, rfl, iteT ?_⟩
        refine ⟨_, rfl, .inl ⟨rfl, _, SqL.of eA5⟩, _, rfl, a1, c.M, _, _, _, rfl, h, T.cM, T.nM3, rfl, _, us, rfl, SqT.of ht, fun p np => ?_⟩
        refine ⟨Al, p, _, _, rfl, rfl, same_upd np _ _ eA5, SqT.of upd_same, ?_, fin p np⟩
        rw [List.length_reverse, List.length_reverse]
        exact Nat.le_trans (show vs.length + us.length ≤ 800 by omega) (by decide)
end
end K1

set_option Elab.async false
set_option linter.all false
set_option maxRecDepth 100000
set_option maxHeartbeats 4000000
/-! ends_of. -/
namespace K1
open PySem PySem.Spec PyProof.Rows L2 Kx Kd Kt Kh
theorem call_isiF {X : Cx} {K : PySem.W.Frag} (h : X.K = K) : CallR X (.builtin "isinstance") (rIsi K) := by
  subst h
  exact call_isi
def Tr.pd : Tr → Option Int
  | .end_ p => some p
  | _ => none
def endsL (l : List Tr) : List Int := l.filterMap Tr.pd
theorem endsL_snoc (l : List Tr) (t : Tr) : endsL (l ++ [t]) = endsL l ++ (match t.pd with | some p => [p] | none => []) := by
  unfold endsL
  rw [List.filterMap_append]
  congr 1
  rw [List.filterMap_cons]
  cases t.pd <;> rfl
theorem endsL_len (l : List Tr) : (endsL l).length ≤ l.length := List.length_filterMap_le ..
theorem paired_at {α β : Type} {R : α → β → Prop} {xs : List α} {ys : List β} (h : Paired R xs ys) : ∀ {i : Nat} {x : α}, xs[i]? = some x → ∃ y, ys[i]? = some y ∧ R x y := by
  induction h with
  | nil =>
    intro i x e
    simp at e
  | cons h r ih =>
    intro i x e
    cases i with
    | zero =>
      cases e
      exact ⟨_, rfl, h⟩
    | succ i => exact ih e
/-- what a node is, by its kind -/
theorem nd_cases {c : Cls3} {H : Hp} {F : Addr → Prop} {v : V} {t : Tr} (h : NdR c H F v t) : ∃ a, v = V.ref a ∧ ((∃ p dx, t = .end_ p ∧ H a = some (.ins c.E dx (efs p))) ∨ (∃ ps us dx tp, t = .lot ps ∧ H a = some (.ins c.L dx (lfs tp)) ∧ H tp = some (.tup us) ∧ TsAt c H F us ps) ∨ (∃ s view ps us dx va tp, t = .move s view ps ∧ H a = some (.ins c.M dx (mfs s va tp)) ∧ Nest H (.tup view) (.ref va) ∧ H tp = some (.tup us) ∧ TsAt c H F us ps)) := by
  obtain ⟨a, rfl, h⟩ := h
  refine ⟨a, rfl, ?_⟩
  cases h with
  | mk f hh hp he =>
    cases hh with
    | e h hu => exact .inl ⟨_, _, rfl, h⟩
    | l h ht => exact .inr (.inl ⟨_, _, _, _, rfl, h, ht, hp⟩)
    | m h hv ht => exact .inr (.inr ⟨_, _, _, _, _, _, _, rfl, h, hv, ht, hp⟩)
def spEO (c : Cls3) : Sp := fun vs H Q _ => ∃ (a : Addr) (t : Tr) (F : Addr → Prop), vs = [.ref a] ∧ TrAt c H F a t ∧ t.all.length ≤ 400 ∧ ∀ (l : Addr) H', Same H H' → H l = none → H' l = some (.lst ((endsL t.all).map V.int)) → Q (.ref l) H'
abbrev NEo : List Str := ["tree", "node"]
section
variable {P : Program} {w : World} {K : PySem.W.Frag} {mg : Str → Option Value} {base : Heap} {c : Cls3} {fN : Addr} {dN : FuncData}
theorem scEO : FnScope NEo ["tree"] (defScope sEO) := ⟨rfl, rfl, rfl, by decide +kernel, rfl, by decide +kernel, by decide +kernel⟩
theorem ok_eo {f : Addr} {fd : FuncData} (F0 : Fun K "ends_of" "ends_of" sEO f fd) (T : TxN K mg c) (TI : TxI K mg c) (NO : Fn0 P w K mg base 1 "nodes_of" ["tree"] (spNO c) fN dN) : FnOk P w K mg base CX0 2 f fd ["tree"] (spEO c) := by
  refine F0.ok scEO (fun vs H Q E h => ?_) (fun cdv A0 outer s H vs Q E hr h => ?_)
  · obtain ⟨a, t, F, rfl, _⟩ := h
    rfl
  · obtain ⟨a, t, F, rfl, ha, hsz, q⟩ := h
    refine ⟨_, pss_one (ps_ret (pe_lc (own := [("node", 1)]) (g := gName 1) (tt := tB (tCB (rIsi K) (tCons (tVar 1) (tCons (tC (.ref c.E)) tNil)))) (te := tFld K (tVar 1) "paid") rfl scEO.nd (pi_list (pe_call NO.ok hr (by rfl) NO.gl NO.kp NO.bd .nil pass0 (pa_cons (pv 0) pa_nil))) (blkOk_by (N := NEo) (sc := defScope sEO) (by decide +kernel))
          (fun _ _ _ _ _ => pg_name (i := 1) scEO.nd rfl (Or.inl rfl)) (fun _ _ _ _ _ => pts_one (pt_val (pe_callB (call_isiF (K := K) (by rfl)) (by rfl) TI.isi (by decide +kernel) (pa_cons (pv 1) (pa_cons (pe_glob (v := .ref c.E) rfl T.gE rfl) pa_nil))))) (fun _ _ _ _ _ => pe_fldK (by rfl) (pv 1) rfl))), ?_⟩
    refine ⟨_, rfl, a, t, F, rfl, ha, hsz, fun l us H1 s1 nl el pr => ⟨l, rfl, ⟨us, SqL.of el⟩, fun D hD => ?_⟩⟩
    refine lc_list (xs := us) (fun i H' => H' D = some (.lst ((endsL (t.all.take i)).map V.int)) ∧ Same H1 H') ⟨upd_same, same_upd hD⟩ (fun i H' _ h => SqL.of (h.2 _ _ el)) ?_ ?_
    · rintro i v H' hv ⟨eD, s'⟩
      obtain ⟨x, hx, hn⟩ := paired_at pr hv
      have htk : t.all.take (i + 1) = t.all.take i ++ [x] := by
        rw [List.take_add_one, hx]
        rfl
      rw [htk, endsL_snoc]
      have hlen : ((endsL (t.all.take i)).map V.int).length < sizeLine := by
        rw [List.length_map]
        have h1 := endsL_len (t.all.take i)
        rw [List.length_take] at h1
        exact Nat.lt_of_le_of_lt (show _ ≤ 400 by omega) (by decide)
      refine ⟨rfl, ?_⟩
      obtain ⟨a1, rfl, ⟨p, dx, rfl, h⟩ | ⟨ps, us2, dx, tp, rfl, h, _⟩ | ⟨s2, view, ps, us2, dx, va, tp, rfl, h, _⟩⟩ := nd_cases hn
      · have h := s' _ _ h
        refine ⟨_, rfl, .ref a1, .ref c.E, .ref c.E, .ref c.E, true, rfl, .own c.E, TI.tE h, TI.eE, _, rfl, iteT ⟨_, rfl, a1, c.E, dx, _, _, rfl, h, T.cE, T.nE, rfl, _, eD, hlen, ?_, fun b o e => ?_⟩⟩
        · rw [upd_same, List.map_append]
          rfl
        · rw [upd_ne (ne_of_none e hD)]
          exact s' _ _ e
      · have h := s' _ _ h
        refine ⟨_, rfl, .ref a1, .ref c.E, .ref c.L, .ref c.E, false, rfl, .own c.E, TI.tL h, TI.eL, _, rfl, iteF ⟨?_, s'⟩⟩
        show H' D = some (.lst ((endsL (t.all.take i) ++ []).map V.int))
        rw [List.append_nil]
        exact eD
      · have h := s' _ _ h
        refine ⟨_, rfl, .ref a1, .ref c.E, .ref c.M, .ref c.E, false, rfl, .own c.E, TI.tM h, TI.eM, _, rfl, iteF ⟨?_, s'⟩⟩
        show H' D = some (.lst ((endsL (t.all.take i) ++ []).map V.int))
        rw [List.append_nil]
        exact eD
    · rintro H' ⟨eD, s'⟩
      rw [paired_len pr, List.take_length] at eD
      exact q D H' (s1.trans s') (s1.free hD) eD
end
end K1

set_option Elab.async false
set_option linter.all false
set_option maxRecDepth 100000
set_option maxHeartbeats 4000000
/-! The tree of a play by its parts, against its drafts. -/
namespace K1
open PySem PySem.Spec PyProof.Rows L2 Kx Kd Kt Kh
mutual
/-- the tree behind a play, and its number of nodes -/
inductive TrOf (xs : List (Str × Int)) : Pl → Tr → Nat → Prop
  | mk {pl : Pl} {ps : Ts} {n : Nat} (h : TsOf xs (kids xs pl) ps n) : TrOf xs pl (mkT (draft xs pl).1 ps) (n + 1)
inductive TsOf (xs : List (Str × Int)) : List Pl → Ts → Nat → Prop
  | nil : TsOf xs [] .nil 0
  | cons {pl : Pl} {t : Tr} {n : Nat} {r : List Pl} {ps : Ts} {m : Nat} (h : TrOf xs pl t n) (hr : TsOf xs r ps m) : TsOf xs (pl :: r) (.cons t ps) (n + m)
end
theorem tsOf_ls : ∀ ps : Ts, tsOf ps.ls = ps
  | .nil => rfl
  | .cons t r => by
    show Ts.cons t (tsOf r.ls) = _
    rw [tsOf_ls r]
mutual
theorem TrOf.run {xs : List (Str × Int)} : ∀ {pl : Pl} {t : Tr} {n : Nat}, TrOf xs pl t n → ∃ D : List (Hd × Nat), D.length = n ∧ (∀ f r, runT xs (n + f) (pl :: r) = D ++ runT xs f r) ∧ ∀ rest, joinT (D ++ rest) = t :: joinT rest
  | pl, _, _, .mk (ps := ps) (n := n) h => by
    obtain ⟨D, hl, h1, h2, h3⟩ := TsOf.run h
    refine ⟨draft xs pl :: D, by rw [List.length_cons, hl], fun f r => ?_, fun rest => ?_⟩
    · rw [show n + 1 + f = (n + f) + 1 by omega]
      show draft xs pl :: runT xs (n + f) (kids xs pl ++ r) = _
      rw [h1]
      rfl
    · show mkT (draft xs pl).1 (tsOf ((joinT (D ++ rest)).take (draft xs pl).2)) :: (joinT (D ++ rest)).drop (draft xs pl).2 = _
      have hk : (draft xs pl).2 = ps.ls.length := by rw [← kids_len, h3]
      rw [h2, hk, List.take_left', List.drop_left', tsOf_ls]
      · rfl
      · rfl
theorem TsOf.run {xs : List (Str × Int)} : ∀ {l : List Pl} {ps : Ts} {n : Nat}, TsOf xs l ps n → ∃ D : List (Hd × Nat), D.length = n ∧ (∀ f r, runT xs (n + f) (l ++ r) = D ++ runT xs f r) ∧ (∀ rest, joinT (D ++ rest) = ps.ls ++ joinT rest) ∧ l.length = ps.ls.length
  | _, _, _, .nil => ⟨[], rfl, fun f r => by rw [Nat.zero_add]; rfl, fun _ => rfl, rfl⟩
  | _, _, _, .cons (pl := pl) (t := t) (n := n) (r := r) (ps := ps) (m := m) h hr => by
    obtain ⟨D, hl, h1, h2⟩ := TrOf.run h
    obtain ⟨D2, hl2, k1, k2, k3⟩ := TsOf.run hr
    refine ⟨D ++ D2, by rw [List.length_append, hl, hl2], fun f r2 => ?_, fun rest => ?_, by rw [List.length_cons, k3]; rfl⟩
    · rw [Nat.add_assoc, List.cons_append, h1, k1, List.append_assoc]
    · rw [List.append_assoc, h2, k2]
      rfl
end
theorem runT_take (xs : List (Str × Int)) : ∀ (f g : Nat) (l : List Pl), runT xs f l = (runT xs (f + g) l).take f
  | 0, g, l => rfl
  | f + 1, g, [] => by
    rw [show f + 1 + g = (f + g) + 1 by omega]
    rfl
  | f + 1, g, pl :: r => by
    rw [show f + 1 + g = (f + g) + 1 by omega]
    show draft xs pl :: runT xs f (kids xs pl ++ r) = draft xs pl :: (runT xs (f + g) (kids xs pl ++ r)).take f
    rw [← runT_take xs f g]
theorem runT_nil (xs : List (Str × Int)) (f : Nat) : runT xs f [] = [] := by cases f <;> rfl
/-- a tree of up to 400 nodes is joined from its drafts -/
theorem small_tree {xs : List (Str × Int)} {pl : Pl} {t : Tr} {n : Nat} (h : TrOf xs pl t n) (hn : n ≤ 400) : (runT xs 401 [pl]).length ≤ 400 ∧ joinT (runT xs 401 [pl]) = [t] := by
  obtain ⟨D, hl, h1, h2⟩ := h.run
  have e := h1 (401 - n) []
  rw [show n + (401 - n) = 401 by omega, runT_nil, List.append_nil] at e
  rw [e]
  refine ⟨by omega, ?_⟩
  have := h2 []
  rw [List.append_nil] at this
  exact this
/-- a larger one isn't -/
theorem large_tree {xs : List (Str × Int)} {pl : Pl} {t : Tr} {n : Nat} (h : TrOf xs pl t n) (hn : 400 < n) : 400 < (runT xs 401 [pl]).length := by
  obtain ⟨D, hl, h1, _⟩ := h.run
  have e := h1 0 []
  have e2 := runT_take xs 401 (n - 401) [pl]
  rw [show 401 + (n - 401) = n + 0 by omega, e, runT_nil, List.append_nil] at e2
  rw [e2, List.length_take]
  omega
/-- what is ahead becomes less at each chance -/
theorem goOn_wt {ns : List Str} {B : Nat} {xs : List (Str × Int)} : ∀ {n : Nat} {pl : Pl}, PlOk ns B pl → ∀ x, (goOn xs n pl).2 = some x → wtL (goOn xs n pl).1.todo < wtL pl.todo
  | 0, pl, h, x, e => nomatch e
  | n + 1, pl, h, x, hx => by
    cases e : pl.todo with
    | nil =>
      rw [goOn_nil e] at hx
      cases hx
    | cons y r =>
      cases hc : y.chance with
      | true =>
        rw [goOn_chance e hc]
        have := wt_pos y
        rw [wtL_cons]
        show wtL r < _
        omega
      | false =>
        rw [goOn_step e hc] at hx ⊢
        obtain ⟨h1, h2⟩ := perf_ok (xs := xs) h e hc
        rw [e] at h2
        exact Nat.lt_trans (goOn_wt h1 x hx) h2
end K1

set_option Elab.async false
set_option linter.all false
set_option maxRecDepth 100000
set_option maxHeartbeats 4000000
/-! Each play has a tree. -/
namespace K1
open PySem PySem.Spec PyProof.Rows L2 Kx Kd Kt Kh
theorem kid_todo (xs : List (Str × Int)) (pm : Pl) (x : Sm) (r : Int) : (behP xs (askP pm (some x)) x r).todo = pm.todo := by
  have ha : (askP pm (some x)).todo = pm.todo := by
    cases x with
    | move k y n m => exact (addE_todo pm (seatOf (.move k y n m)) (askK m n)).1
    | _ => rfl
  have hb : (behE (askP pm (some x)) x r).todo = (askP pm (some x)).todo := by
    unfold behE
    split
    · rfl
    · exact (addE_todo _ (seatOf x) (didK r)).1
  show (behE (askP pm (some x)) x r).todo = _
  rw [hb, ha]
theorem kids_mem {ns : List Str} {B : Nat} {xs : List (Str × Int)} {pl q : Pl} (h : PlOk ns B pl) (hq : q ∈ kids xs pl) : PlOk ns B q ∧ wtL q.todo < wtL pl.todo := by
  have hc : (cameTo xs pl).2 = none ∨ ∃ x, (cameTo xs pl).2 = some x := by
    cases (cameTo xs pl).2 with
    | none => exact .inl rfl
    | some x => exact .inr ⟨x, rfl⟩
  rcases hc with hc | ⟨x, hc⟩
  · unfold kids at hq
    rw [hc] at hq
    cases hq
  · have hk : kids xs pl = (List.range x.rs.toNat).map fun r : Nat => behP xs (askP (cameTo xs pl).1 (some x)) x (r : Int) := by
      unfold kids
      rw [hc]
    rw [hk] at hq
    obtain ⟨r, _, rfl⟩ := List.mem_map.mp hq
    refine ⟨(kids_ok h hc r).1, ?_⟩
    rw [kid_todo]
    exact goOn_wt h x hc
theorem tr_ex {ns : List Str} {B : Nat} {xs : List (Str × Int)} : ∀ (k : Nat) {pl : Pl}, PlOk ns B pl → wtL pl.todo < k → ∃ t n, TrOf xs pl t n
  | 0, _, _, hk => absurd hk (Nat.not_lt_zero _)
  | k + 1, pl, h, hk => by
    have key : ∀ l : List Pl, (∀ q ∈ l, PlOk ns B q ∧ wtL q.todo < k) → ∃ ps n, TsOf xs l ps n := fun l => by
      induction l with
      | nil => exact fun _ => ⟨_, _, .nil⟩
      | cons q r ih =>
        intro hl
        obtain ⟨t, n, h1⟩ := tr_ex k (hl q (List.mem_cons_self ..)).1 (hl q (List.mem_cons_self ..)).2
        obtain ⟨ps, m, h2⟩ := ih fun y hy => hl y (List.mem_cons_of_mem _ hy)
        exact ⟨_, _, .cons h1 h2⟩
    obtain ⟨ps, n, h2⟩ := key (kids xs pl) fun q hq => by
      obtain ⟨a, b⟩ := kids_mem h hq
      exact ⟨a, by omega⟩
    exact ⟨_, _, .mk h2⟩
mutual
theorem TrOf.det {xs : List (Str × Int)} : ∀ {pl : Pl} {t t2 : Tr} {n n2 : Nat}, TrOf xs pl t n → TrOf xs pl t2 n2 → t = t2 ∧ n = n2
  | _, _, _, _, _, .mk h, .mk h2 => by
    obtain ⟨rfl, rfl⟩ := TsOf.det h h2
    exact ⟨rfl, rfl⟩
theorem TsOf.det {xs : List (Str × Int)} : ∀ {l : List Pl} {ps ps2 : Ts} {n n2 : Nat}, TsOf xs l ps n → TsOf xs l ps2 n2 → ps = ps2 ∧ n = n2
  | _, _, _, _, _, .nil, .nil => ⟨rfl, rfl⟩
  | _, _, _, _, _, .cons h hr, .cons h2 hr2 => by
    obtain ⟨rfl, rfl⟩ := TrOf.det h h2
    obtain ⟨rfl, rfl⟩ := TsOf.det hr hr2
    exact ⟨rfl, rfl⟩
end
mutual
theorem TrOf.all_len {xs : List (Str × Int)} : ∀ {pl : Pl} {t : Tr} {n : Nat}, TrOf xs pl t n → t.all.length = n
  | pl, _, _, .mk (ps := ps) h => by
    have he : (draft xs pl).1.isE = true → ps = .nil := fun q => by
      have h0 := draft_e xs pl q
      rw [← kids_len] at h0
      rw [List.length_eq_zero_iff.mp h0] at h
      cases h
      rfl
    rw [all_mk he, List.length_cons, TsOf.all_len h]
theorem TsOf.all_len {xs : List (Str × Int)} : ∀ {l : List Pl} {ps : Ts} {n : Nat}, TsOf xs l ps n → ps.all.length = n
  | _, _, _, .nil => rfl
  | _, _, _, .cons h hr => by
    show List.length (_ ++ _) = _
    rw [List.length_append, TrOf.all_len h, TsOf.all_len hr]
end
end K1

set_option Elab.async false
set_option linter.all false
set_option maxRecDepth 100000
set_option maxHeartbeats 4000000
/-! _law_number_of, flat data. -/
namespace K1
open PySem PySem.Spec PyProof.Rows L2 Kx Kd Kt Kh
abbrev sNu : Stmt := top 44
abbrev NNu : List Str := ["due", "table", "a", "b", "whole"]
section
variable {P : Program} {w : World} {K : PySem.W.Frag} {mg : Str → Option Value} {base : Heap}
theorem scNu : FnScope NNu ["due", "table"] (defScope sNu) := ⟨rfl, rfl, rfl, by decide +kernel, rfl, by decide +kernel, by decide +kernel⟩
theorem ok_nu0 {f : Addr} {fd : FuncData} (F : Fun K "_law_number_of" "_law_number_of" sNu f fd) : FnOk P w K mg base CX0 1 f fd ["due", "table"] (spVo 0) := by
  refine F.ok scNu (fun vs H Q E h => ?_) (fun cdv A outer s H vs Q E hr h => ?_)
  · obtain ⟨v, d, e, ns, st, rfl, _⟩ := h
    rfl
  · obtain ⟨v, d, e, ns, st, rfl, hv, he, hs, hd, q⟩ := h
    have hu1 : (A.deeper (envOfC "_law_number_of" (defScope sNu) s.heap.objs.size f cdv)).units + 1 < cLine := by have := hr.un; omega
    refine ⟨_, pss_cons (ps_if (pt_cmpR op_eq (pe_ix ix_tup (pv 0) pe_int (fun _ _ => rfl)) pe_str (nomark _)) (pss_one (ps_ret (pe_ix ix_tup (pv 0) pe_int (fun _ _ => rfl)))) pss_nil)
      (pss_cons (ps_if (pt_cmpR op_eq (pe_ix ix_tup (pv 0) pe_int (fun _ _ => rfl)) pe_str (nomark _)) (pss_one (ps_ret (pe_dget hu1 (pv 1) (pe_ix ix_tup (pv 0) pe_int (fun _ _ => rfl)) (fun _ _ => rfl)))) pss_nil)
      (pss_cons ps_never (pss_cons ps_never (pss_cons ps_never (pss_cons ps_never (pss_cons ps_never (pss_cons ps_never (pss_cons ps_never (pss_cons ps_never (pss_cons ps_never (pss_cons ps_never (pss_one ps_never))))))))))))  , ?_⟩
    cases e with
    | num n =>
      obtain ⟨a, xs, rfl, ea, da⟩ := hv.tupI
      obtain ⟨x, y, rfl, d1, d2⟩ := da.c2
      obtain rfl := d1.strI
      obtain rfl := d2.intI
      refine ⟨_, rfl, a, _, _, _, rfl, rfl, SqT.of ea, tix0, rfl, _, rfl, ?_⟩
      rw [decide_eq_true rfl]
      exact iteT ⟨_, rfl, a, _, _, _, rfl, rfl, SqT.of ea, tix1, q⟩
    | var x =>
      obtain ⟨a, xs, rfl, ea, da⟩ := hv.tupI
      obtain ⟨z, y, rfl, d1, d2⟩ := da.c2
      obtain rfl := d1.strI
      obtain rfl := d2.strI
      refine ⟨_, rfl, a, _, _, _, rfl, rfl, SqT.of ea, tix0, rfl, _, rfl, ?_⟩
      rw [decide_eq_false (show ¬ V.str ("variable" : Str) = V.str ("number" : Str) from fun z => absurd (V.str.inj z) (by decide +kernel))]
      refine iteF ⟨_, rfl, a, _, _, _, rfl, rfl, SqT.of ea, tix0, rfl, _, rfl, ?_⟩
      rw [decide_eq_true rfl]
      exact iteT ⟨_, rfl, _, rfl, a, _, _, _, rfl, rfl, SqT.of ea, tix1, d, _, rfl, st_get hs hd he, q⟩
    | op o a b =>
      obtain ⟨_, e, he0, _⟩ := he
      exact absurd he0 (by omega)
end
end K1

set_option Elab.async false
set_option linter.all false
set_option maxRecDepth 100000
set_option maxHeartbeats 4000000
/-! _law_number_of. -/
namespace K1
open PySem PySem.Spec PyProof.Rows L2 Kx Kd Kt Kh
section
variable {P : Program} {w : World} {K : PySem.W.Frag} {mg : Str → Option Value} {base : Heap}
theorem ok_nuS {f : Addr} {fd : FuncData} {k n : Nat} (F : Fun K "_law_number_of" "_law_number_of" sNu f fd) (gl : mg "_law_number_of" = some (.ref f)) (bd : Binds K fd ["due", "table"] []) (hint : mg "int" = none) (hmax : mg "max" = none) (G : FnOk P w K mg base CX0 k f fd ["due", "table"] (spVo n)) : FnOk P w K mg base CX0 (k + 1) f fd ["due", "table"] (spVo (n + 1)) := by
  refine F.ok scNu (fun vs H Q E h => ?_) (fun cdv A outer s H vs Q E hr h => ?_)
  · obtain ⟨v, d, e, ns, st, rfl, _⟩ := h
    rfl
  · obtain ⟨v, d, e, ns, st, rfl, hv, he, hs, hd, q⟩ := h
    have hu1 : (A.deeper (envOfC "_law_number_of" (defScope sNu) s.heap.objs.size f cdv)).units + 1 < cLine := by have := hr.un; omega
    refine ⟨_, pss_cons (ps_if (pt_cmpR op_eq (pe_ix ix_tup (pv 0) pe_int (fun _ _ => rfl)) pe_str (nomark _)) (pss_one (ps_ret (pe_ix ix_tup (pv 0) pe_int (fun _ _ => rfl)))) pss_nil)
      (pss_cons (ps_if (pt_cmpR op_eq (pe_ix ix_tup (pv 0) pe_int (fun _ _ => rfl)) pe_str (nomark _)) (pss_one (ps_ret (pe_dget hu1 (pv 1) (pe_ix ix_tup (pv 0) pe_int (fun _ _ => rfl)) (fun _ _ => rfl)))) pss_nil)
      (pss_cons (ps_set (i := 2) scNu.nd rfl (Or.inl rfl) (pe_call G hr (by rfl) gl F.kp bd .nil pass0 (pa_cons (pe_ix ix_tup (pv 0) pe_int (fun _ _ => rfl)) (pa_cons (pv 1) pa_nil))))
      (pss_cons (ps_set (i := 3) scNu.nd rfl (Or.inl rfl) (pe_call G hr (by rfl) gl F.kp bd .nil pass0 (pa_cons (pe_ix ix_tup (pv 0) pe_int (fun _ _ => rfl)) (pa_cons (pv 1) pa_nil))))
      (pss_cons (ps_if (pt_cmpR op_eq (pe_ix ix_tup (pv 0) pe_int (fun _ _ => rfl)) pe_str (nomark _)) (pss_one (ps_ret (pe_op op_sub (pe_op op_add (pv 2) (pv 3)) (pe_op op_mul pe_int (pe_callTy call_int1 (by rfl) hint (by decide +kernel) (pa_cons (pe_cmpR op_gt (pe_op op_add (pv 2) (pv 3)) pe_int (nomark _)) pa_nil)))))) pss_nil)
      (pss_cons (ps_if (pt_cmpR op_eq (pe_ix ix_tup (pv 0) pe_int (fun _ _ => rfl)) pe_str (nomark _)) (pss_one (ps_ret (pe_callB (call_max2 rfl) (by rfl) hmax (by decide +kernel) (pa_cons pe_int (pa_cons (pe_op op_sub (pv 2) (pv 3)) pa_nil))))) pss_nil)
      (pss_cons (ps_if (pt_cmpR op_eq (pe_ix ix_tup (pv 0) pe_int (fun _ _ => rfl)) pe_str (nomark _)) (pss_one (ps_ret (pe_op op_sub (pe_op op_mul (pv 2) (pv 3)) (pe_op op_mul (pe_op op_fdiv (pe_op op_mul (pv 2) (pv 3)) pe_int) pe_int)))) pss_nil)
      (pss_cons (ps_if (pt_cmpR op_eq (pe_ix ix_tup (pv 0) pe_int (fun _ _ => rfl)) pe_str (nomark _)) (pss_one (ps_ret (pe_callTy call_int1 (by rfl) hint (by decide +kernel) (pa_cons (pe_cmpR op_lt (pv 2) (pv 3) (nomark _)) pa_nil)))) pss_nil)
      (pss_cons (ps_if (pt_cmpR op_eq (pe_ix ix_tup (pv 0) pe_int (fun _ _ => rfl)) pe_str (nomark _)) (pss_one (ps_ret (pe_callTy call_int1 (by rfl) hint (by decide +kernel) (pa_cons (pe_cmpR op_eq (pv 2) (pv 3) (nomark _)) pa_nil)))) pss_nil)
      (pss_cons (ps_if (pt_cmpR op_eq (pv 3) pe_int (nomark _)) (pss_one (ps_ret pe_int)) pss_nil)
      (pss_cons (ps_set (i := 4) scNu.nd rfl (Or.inl rfl) (pe_op op_fdiv (pv 2) (pv 3)))
      (pss_cons (ps_if (pt_cmpR op_eq (pe_ix ix_tup (pv 0) pe_int (fun _ _ => rfl)) pe_str (nomark _)) (pss_one (ps_ret (pv 4))) pss_nil)
      (pss_one (ps_ret (pe_op op_sub (pv 2) (pe_op op_mul (pv 4) (pv 3))))))))))))))))
      , ?_⟩
    cases e with
    | num n =>
      obtain ⟨a, xs, rfl, ea, da⟩ := hv.tupI
      obtain ⟨x, y, rfl, d1, d2⟩ := da.c2
      obtain rfl := d1.strI
      obtain rfl := d2.intI
      refine ⟨_, rfl, a, _, _, _, rfl, rfl, SqT.of ea, tix0, rfl, _, rfl, ?_⟩
      rw [decide_eq_true rfl]
      exact iteT ⟨_, rfl, a, _, _, _, rfl, rfl, SqT.of ea, tix1, q⟩
    | var x =>
      obtain ⟨a, xs, rfl, ea, da⟩ := hv.tupI
      obtain ⟨z, y, rfl, d1, d2⟩ := da.c2
      obtain rfl := d1.strI
      obtain rfl := d2.strI
      refine ⟨_, rfl, a, _, _, _, rfl, rfl, SqT.of ea, tix0, rfl, _, rfl, ?_⟩
      rw [decide_eq_false (show ¬ V.str ("variable" : Str) = V.str ("number" : Str) from fun z => absurd (V.str.inj z) (by decide +kernel))]
      refine iteF ⟨_, rfl, a, _, _, _, rfl, rfl, SqT.of ea, tix0, rfl, _, rfl, ?_⟩
      rw [decide_eq_true rfl]
      exact iteT ⟨_, rfl, _, rfl, a, _, _, _, rfl, rfl, SqT.of ea, tix1, d, _, rfl, st_get hs hd he, q⟩
    | op o x y =>
      obtain ⟨ho, e, he0, hx, hy⟩ := he
      obtain rfl : n = e := by omega
      obtain ⟨a, xs, rfl, ea, da⟩ := hv.tupI
      obtain ⟨z, u1, u2, rfl, d1, d2, d3⟩ := da.c3
      obtain rfl := d1.strI
      obtain ⟨n1, n2⟩ := ops_num o (by simpa using ho)
      have ds : ∀ z : Str, decide (V.str o = V.str z) = decide (o = z) := fun z => by
        by_cases h : o = z
        · rw [decide_eq_true h, decide_eq_true (by rw [h])]
        · rw [decide_eq_false h, decide_eq_false fun e => h (V.str.inj e)]
      refine ⟨_, rfl, a, _, _, _, rfl, rfl, SqT.of ea, tix0, rfl, _, rfl, ?_⟩
      rw [decide_eq_false (show ¬ V.str o = V.str ("number" : Str) from fun z => n1 (V.str.inj z))]
      refine iteF ⟨_, rfl, a, _, _, _, rfl, rfl, SqT.of ea, tix0, rfl, _, rfl, ?_⟩
      rw [decide_eq_false (show ¬ V.str o = V.str ("variable" : Str) from fun z => n2 (V.str.inj z))]
      refine iteF ⟨_, rfl, a, _, _, _, rfl, rfl, SqT.of ea, tix1, _, rfl, u1, d, x, ns, st, rfl, d2, hx, hs, hd, ?_⟩
      refine ⟨_, rfl, a, _, _, _, rfl, rfl, SqT.of ea, tix2, _, rfl, u2, d, y, ns, st, rfl, d3, hy, hs, hd, ?_⟩
      obtain ⟨a0, a1⟩ := evE_sml hs hx
      obtain ⟨b0, b1⟩ := evE_sml hs hy
      have q : Q (.int (comb o (evE st x) (evE st y))) H := q
      generalize evE st x = m at *
      generalize evE st y = r at *
      unfold comb at q
      refine ⟨_, rfl, a, _, _, _, rfl, rfl, SqT.of ea, tix0, rfl, _, rfl, ?_⟩
      rw [ds]
      by_cases h1 : o = "+"
      · rw [if_pos h1] at q
        rw [decide_eq_true h1]
        refine iteT ⟨_, rfl, _, rfl, _, _, rfl, rfl, _, rfl, _, rfl, _, _, rfl, rfl, _, _, rfl, rfl, .inr ⟨_, rfl, ?_⟩⟩
        by_cases hc : m + r > 65535
        · rw [decide_eq_true hc, if_pos rfl]
          refine ⟨_, _, rfl, rfl, .inl ⟨by omega, by omega⟩, _, _, rfl, rfl, ?_⟩
          have ee : m + r - 65536 * 1 = (m + r) % 65536 := by omega
          rw [← ee] at q
          exact q
        · rw [decide_eq_false hc, if_neg Bool.false_ne_true]
          refine ⟨_, _, rfl, rfl, .inl ⟨by omega, by omega⟩, _, _, rfl, rfl, ?_⟩
          have ee : m + r - 65536 * 0 = (m + r) % 65536 := by omega
          rw [← ee] at q
          exact q
      rw [decide_eq_false h1]
      rw [if_neg h1] at q
      refine iteF ⟨_, rfl, a, _, _, _, rfl, rfl, SqT.of ea, tix0, rfl, _, rfl, ?_⟩
      rw [ds]
      by_cases h2 : o = "-"
      · rw [if_pos h2] at q
        rw [decide_eq_true h2]
        refine iteT ⟨_, rfl, _, rfl, _, _, rfl, rfl, _, _, rfl, ?_⟩
        have ee : (if m - r > 0 then m - r else 0) = max 0 (m - r) := by split <;> omega
        rw [← ee] at q
        exact q
      rw [decide_eq_false h2]
      rw [if_neg h2] at q
      refine iteF ⟨_, rfl, a, _, _, _, rfl, rfl, SqT.of ea, tix0, rfl, _, rfl, ?_⟩
      rw [ds]
      by_cases h3 : o = "*"
      · rw [if_pos h3] at q
        rw [decide_eq_true h3]
        have hp0 : 0 ≤ m * r := Int.mul_nonneg a0 b0
        have hp1 : m * r ≤ 65535 * 65535 := Int.mul_le_mul a1 b1 b0 (by decide)
        refine iteT ⟨_, rfl, _, rfl, _, _, rfl, rfl, .inl ⟨by omega, by omega⟩, _, rfl, _, rfl, _, _, rfl, rfl, .inl ⟨by omega, by omega⟩, _, _, rfl, rfl, ⟨by omega, by omega⟩, _, _, rfl, rfl, .inl ⟨by omega, by omega⟩, _, _, rfl, rfl, ?_⟩
        have ee : m * r - m * r / 65536 * 65536 = m * r % 65536 := by omega
        rw [← ee] at q
        exact q
      rw [decide_eq_false h3]
      rw [if_neg h3] at q
      refine iteF ⟨_, rfl, a, _, _, _, rfl, rfl, SqT.of ea, tix0, rfl, _, rfl, ?_⟩
      rw [ds]
      by_cases h4 : o = "<"
      · rw [if_pos h4] at q
        rw [decide_eq_true h4]
        refine iteT ⟨_, rfl, _, rfl, _, _, rfl, rfl, .inr ⟨_, rfl, ?_⟩⟩
        have ee : (if decide (m < r) = true then (1 : Int) else 0) = if m < r then 1 else 0 := by simp only [decide_eq_true_eq]
        rw [← ee] at q
        exact q
      rw [decide_eq_false h4]
      rw [if_neg h4] at q
      refine iteF ⟨_, rfl, a, _, _, _, rfl, rfl, SqT.of ea, tix0, rfl, _, rfl, ?_⟩
      rw [ds]
      by_cases h5 : o = "="
      · rw [if_pos h5] at q
        rw [decide_eq_true h5]
        refine iteT ⟨_, rfl, _, rfl, rfl, .inr ⟨_, rfl, ?_⟩⟩
        have ee : (if decide (V.int m = V.int r) = true then (1 : Int) else 0) = if m = r then 1 else 0 := by simp only [decide_eq_true_eq, V.int.injEq]
        rw [← ee] at q
        exact q
      rw [decide_eq_false h5]
      rw [if_neg h5] at q
      refine iteF ⟨_, rfl, rfl, _, rfl, ?_⟩
      by_cases h6 : r = 0
      · rw [if_pos h6] at q
        rw [decide_eq_true (show V.int r = V.int 0 by rw [h6])]
        exact iteT q
      rw [if_neg h6] at q
      rw [decide_eq_false (show ¬ V.int r = V.int 0 from fun e => h6 (V.int.inj e))]
      have hd0 := Int.ediv_nonneg a0 b0
      have hd1 := Int.ediv_le_self r a0
      refine iteF ⟨_, rfl, _, rfl, _, _, rfl, rfl, ⟨by omega, by omega⟩, ?_⟩
      refine ⟨_, rfl, a, _, _, _, rfl, rfl, SqT.of ea, tix0, rfl, _, rfl, ?_⟩
      rw [ds]
      by_cases h7 : o = "/"
      · rw [if_pos h7] at q
        rw [decide_eq_true h7]
        exact iteT ⟨_, rfl, q⟩
      · rw [if_neg h7] at q
        rw [decide_eq_false h7]
        refine iteF ⟨_, rfl, _, rfl, _, rfl, _, _, rfl, rfl, .inl ⟨by omega, by omega⟩, _, _, rfl, rfl, ?_⟩
        have ee : m - m / r * r = m % r := by rw [Int.emod_def, Int.mul_comm]
        rw [← ee] at q
        exact q
end
end K1

set_option Elab.async false
set_option linter.all false
set_option maxRecDepth 100000
set_option maxHeartbeats 4000000
/-! The law's own trees; _law_parts. -/
namespace K1
open PySem PySem.Spec PyProof.Rows L2 Kx Kd Kt Kh
abbrev sLP : Stmt := top 48
mutual
inductive DueAt (H : Hp) : V → Tr → Prop
  | e {a : Addr} {p : Int} (h : H a = some (.tup [.str "end", .int p])) : DueAt H (.ref a) (.end_ p)
  | l {a l : Addr} {us : List V} {ps : Ts} (h : H a = some (.tup [.str "lot", .ref l])) (hl : H l = some (.lst us)) (hp : DusAt H us ps) : DueAt H (.ref a) (.lot ps)
  | m {a l v : Addr} {s : Str} {view : List NestedKey} {us : List V} {ps : Ts} (h : H a = some (.tup [.str "move", .str s, .ref v, .ref l])) (hv : Nest H (.tup view) (.ref v)) (hl : H l = some (.lst us)) (hp : DusAt H us ps) : DueAt H (.ref a) (.move s view ps)
inductive DusAt (H : Hp) : List V → Ts → Prop
  | nil : DusAt H [] .nil
  | cons {v : V} {t : Tr} {us : List V} {ps : Ts} (h : DueAt H v t) (hr : DusAt H us ps) : DusAt H (v :: us) (.cons t ps)
end
mutual
theorem DueAt.same {H H' : Hp} (s : Same H H') : ∀ {v : V} {t : Tr}, DueAt H v t → DueAt H' v t
  | _, _, .e h => .e (s _ _ h)
  | _, _, .l h hl hp => .l (s _ _ h) (s _ _ hl) (DusAt.same s hp)
  | _, _, .m h hv hl hp => .m (s _ _ h) (hv.keep (Tk.same s)) (s _ _ hl) (DusAt.same s hp)
theorem DusAt.same {H H' : Hp} (s : Same H H') : ∀ {us : List V} {ps : Ts}, DusAt H us ps → DusAt H' us ps
  | _, _, .nil => .nil
  | _, _, .cons h hr => .cons (DueAt.same s h) (DusAt.same s hr)
end
def spLP : Sp := fun vs H Q _ => ∃ (v : V) (t : Tr), vs = [v] ∧ DueAt H v t ∧ ∀ (l : Addr) (us : List V) H', Same H H' → H' l = some (.lst us) → DusAt H' us t.ps → Q (.ref l) H'
section
variable {P : Program} {w : World} {K : PySem.W.Frag} {mg : Str → Option Value} {base : Heap}
theorem scLP : FnScope ["node"] ["node"] (defScope sLP) := ⟨rfl, rfl, rfl, by decide +kernel, rfl, by decide +kernel, by decide +kernel⟩
theorem ok_lp {f : Addr} {fd : FuncData} (F : Fun K "_law_parts" "_law_parts" sLP f fd) : FnOk P w K mg base CX0 1 f fd ["node"] spLP := by
  refine F.ok scLP (fun vs H Q E h => ?_) (fun cdv A outer s H vs Q E hr h => ?_)
  · obtain ⟨v, t, rfl, _⟩ := h
    rfl
  · obtain ⟨v, t, rfl, hv, q⟩ := h
    refine ⟨_, pss_cons (ps_if (pt_cmpR op_eq (pe_ix ix_tup (pv 0) pe_int (fun _ _ => rfl)) pe_str (nomark _)) (pss_one (ps_ret (pe_lst pa_nil))) pss_nil)
      (pss_one (ps_ret (pe_ix ix_tup (pv 0) (pe_un un_neg pe_int) (fun _ _ => rfl)))), ?_⟩
    cases hv with
    | e h =>
      refine ⟨_, rfl, _, _, _, _, rfl, rfl, SqT.of h, tix0, rfl, _, rfl, ?_⟩
      rw [decide_eq_true rfl]
      refine iteT ⟨by show 0 ≤ sizeLine; decide, fun l hl => ?_⟩
      exact q l [] _ (same_upd hl) upd_same .nil
    | l h hl hp =>
      refine ⟨_, rfl, _, _, _, _, rfl, rfl, SqT.of h, tix0, rfl, _, rfl, ?_⟩
      rw [decide_eq_false (show ¬ V.str ("lot" : Str) = V.str ("end" : Str) from fun z => absurd (V.str.inj z) (by decide +kernel))]
      refine iteF ⟨_, rfl, _, rfl, _, _, _, _, rfl, rfl, SqT.of h, rfl, ?_⟩
      exact q _ _ H (fun _ _ e => e) hl hp
    | m h hv hl hp =>
      refine ⟨_, rfl, _, _, _, _, rfl, rfl, SqT.of h, tix0, rfl, _, rfl, ?_⟩
      rw [decide_eq_false (show ¬ V.str ("move" : Str) = V.str ("end" : Str) from fun z => absurd (V.str.inj z) (by decide +kernel))]
      refine iteF ⟨_, rfl, _, rfl, _, _, _, _, rfl, rfl, SqT.of h, rfl, ?_⟩
      exact q _ _ H (fun _ _ e => e) hl hp
end
end K1

set_option Elab.async false
set_option linter.all false
set_option maxRecDepth 100000
set_option maxHeartbeats 4000000
/-! _law_all. -/
namespace K1
open PySem PySem.Spec PyProof.Rows L2 Kx Kd Kt Kh
abbrev sLA : Stmt := top 53
mutual
def Tr.dp : Tr → Nat
  | .end_ _ => 0
  | .lot ps => ps.dp + 1
  | .move _ _ ps => ps.dp + 1
def Ts.dp : Ts → Nat
  | .nil => 0
  | .cons t r => max t.dp r.dp
end
theorem dp_mem : ∀ {ps : Ts} {t : Tr}, t ∈ ps.ls → t.dp ≤ ps.dp
  | .nil, _, h => nomatch h
  | .cons x r, t, h => by
    show t.dp ≤ max x.dp r.dp
    rcases List.mem_cons.mp h with rfl | h
    · exact Nat.le_max_left ..
    · exact Nat.le_trans (dp_mem h) (Nat.le_max_right ..)
theorem due_of {H : Hp} : ∀ {ps : Ts} {us : List V}, DusAt H us ps → Paired (DueAt H) us ps.ls
  | _, _, .nil => .nil
  | _, _, .cons h hr => .cons h (due_of hr)
def spLA (n : Nat) : Sp := fun vs H Q _ => ∃ (v : V) (t : Tr), vs = [v] ∧ DueAt H v t ∧ t.dp ≤ n ∧ t.all.length ≤ 400 ∧ ∀ (l : Addr) H', Same H H' → H l = none → H' l = some (.lst ((endsL t.all).map V.int)) → Q (.ref l) H'
abbrev NLa : List Str := ["node", "found", "part"]
theorem ends_app (a b : List Tr) : endsL (a ++ b) = endsL a ++ endsL b := List.filterMap_append ..
section
variable {P : Program} {w : World} {K : PySem.W.Frag} {mg : Str → Option Value} {base : Heap} {fP : Addr} {dP : FuncData}
theorem scLA : FnScope NLa ["node"] (defScope sLA) := ⟨rfl, rfl, rfl, by decide +kernel, rfl, by decide +kernel, by decide +kernel⟩
theorem ok_la0 {f : Addr} {fd : FuncData} (F : Fun K "_law_all" "_law_all" sLA f fd) : FnOk P w K mg base CX0 1 f fd ["node"] (spLA 0) := by
  refine F.ok scLA (fun vs H Q E h => ?_) (fun cdv A outer s H vs Q E hr h => ?_)
  · obtain ⟨v, t, rfl, _⟩ := h
    rfl
  · obtain ⟨v, t, rfl, hv, hd, hz, q⟩ := h
    refine ⟨_, pss_cons (ps_if (pt_cmpR op_eq (pe_ix ix_tup (pv 0) pe_int (fun _ _ => rfl)) pe_str (nomark _)) (pss_one (ps_ret (pe_lst (pa_cons (pe_ix ix_tup (pv 0) pe_int (fun _ _ => rfl)) pa_nil)))) pss_nil)
      (pss_cons ps_never (pss_cons ps_never (pss_one ps_never))), ?_⟩
    cases hv with
    | e h =>
      refine ⟨_, rfl, _, _, _, _, rfl, rfl, SqT.of h, tix0, rfl, _, rfl, ?_⟩
      rw [decide_eq_true rfl]
      exact iteT ⟨_, rfl, _, _, _, _, rfl, rfl, SqT.of h, tix1, by show 1 ≤ sizeLine; decide, fun l hl => q l _ (same_upd hl) hl upd_same⟩
    | l h hl hp => exact absurd hd (Nat.not_succ_le_zero _)
    | m h hv hl hp => exact absurd hd (Nat.not_succ_le_zero _)
theorem ok_laS {f : Addr} {fd : FuncData} {k n : Nat} (hk : 1 ≤ k) (F : Fun K "_law_all" "_law_all" sLA f fd) (gl : mg "_law_all" = some (.ref f)) (bd : Binds K fd ["node"] []) (G : FnOk P w K mg base CX0 k f fd ["node"] (spLA n)) (LP : Fn0 P w K mg base 1 "_law_parts" ["node"] spLP fP dP) : FnOk P w K mg base CX0 (k + 1) f fd ["node"] (spLA (n + 1)) := by
  refine F.ok scLA (fun vs H Q E h => ?_) (fun cdv A outer s H vs Q E hr h => ?_)
  · obtain ⟨v, t, rfl, _⟩ := h
    rfl
  · obtain ⟨v, t, rfl, hv, hd, hz, q⟩ := h
    have hr1 : Room 1 _ := hr.mono hk
    have hrest : ∃ ts, PSs (cxOf CX0 P w K mg base NLa "_law_all" (defScope sLA) f cdv A outer s H E).nox ((defBody sLA).drop 1) ts ∧ (DueAt H v t → endsL t.all = endsL (t.ps.ls.flatMap Tr.all) → t.ps.dp ≤ n → (t.ps.ls.flatMap Tr.all).length ≤ 400 → ts { nx := fun _ H' => Q .non H', rt := Q } [some v, none, none] H) := by
      refine ⟨_, pss_cons (ps_set (i := 1) scLA.nd rfl (Or.inl rfl) (pe_lst pa_nil))
        (pss_cons (ps_for PassesOwn.never rfl (pi_list (pe_call LP.ok hr1 (by rfl) LP.gl LP.kp LP.bd .nil pass0 (pa_cons (pv 0) pa_nil))) (pg_name (i := 2) scLA.nd rfl (Or.inl rfl))
          (pss_one (ps_set (i := 1) scLA.nd rfl (Or.inl rfl) (pe_op op_cat (pv 1) (pe_call G hr (by rfl) gl F.kp bd .nil pass0 (pa_cons (pv 2) pa_nil))))))
        (pss_one (ps_ret (pv 1)))), fun hv he hdn hz2 => ?_⟩
      refine ⟨by show 0 ≤ sizeLine; decide, fun D hD => ?_⟩
      have s0 := same_upd (o := .lst []) hD
      have e0 : upd H D (.lst []) D = some (.lst []) := upd_same
      generalize upd H D (.lst []) = H1 at *
      refine ⟨_, rfl, v, t, rfl, hv.same s0, fun l us H2 s1 el hu => ?_⟩
      have pr := due_of hu
      have s2 := s0.trans s1
      refine ⟨l, rfl, ⟨us, SqL.of el⟩, for_list (xs := us) (fun i σ H' => ∃ (v2 : Option V) (b : Addr), σ = [some v, some (.ref b), v2] ∧ H b = none ∧ H' b = some (.lst ((endsL ((t.ps.ls.take i).flatMap Tr.all)).map V.int)) ∧ Same H2 H') ⟨none, D, rfl, hD, s1 _ _ e0, fun _ _ e => e⟩ (fun i σ H' _ h => ?_) ?_ ?_⟩
      · obtain ⟨_, _, _, _, _, s3⟩ := h
        exact SqL.of (s3 _ _ el)
      · rintro i u σ H3 hu3 ⟨v2, b, rfl, nb, eb, s3⟩
        obtain ⟨x, hx, hn⟩ := paired_at pr hu3
        have hmem : x ∈ t.ps.ls := List.mem_of_getElem? hx
        have hxl : x.all.length ≤ 400 := by
          obtain ⟨a, c, e⟩ := List.append_of_mem hmem
          rw [e, List.flatMap_append, List.length_append, List.flatMap_cons, List.length_append] at hz2
          omega
        have htk : t.ps.ls.take (i + 1) = t.ps.ls.take i ++ [x] := by
          rw [List.take_add_one, hx]
          rfl
        have hacc : ((t.ps.ls.take (i + 1)).flatMap Tr.all).length ≤ 400 := by
          have h := congrArg (fun l => (l.flatMap Tr.all).length) (List.take_append_drop (i + 1) t.ps.ls)
          rw [List.flatMap_append, List.length_append] at h
          omega
        refine ⟨_, rfl, _, rfl, u, x, rfl, hn.same s3, Nat.le_trans (dp_mem hmem) hdn, hxl, fun l2 H4 s4 nl2 el2 => ?_⟩
        rw [htk, List.flatMap_append, List.flatMap_singleton] at hacc ⊢
        have hl1 := endsL_len ((t.ps.ls.take i).flatMap Tr.all ++ x.all)
        rw [ends_app, List.length_append] at hl1
        refine ⟨_, _, _, _, rfl, rfl, s4 _ _ eb, el2, ?_, fun p hp => ?_⟩
        · rw [List.length_map, List.length_map]
          exact Nat.le_trans (Nat.le_trans hl1 hacc) (by decide)
        · refine ⟨_, p, rfl, s2.free (s3.free (s4.free hp)), ?_, fun c o e => ?_⟩
          · rw [upd_same, ends_app, List.map_append]
          · rw [upd_ne (ne_of_none (s4 _ _ (s3 _ _ e)) hp)]
            exact s4 _ _ (s3 _ _ e)
      · rintro σ H3 ⟨v2, b, rfl, nb, eb, s3⟩
        rw [paired_len pr, List.take_length, ← he] at eb
        exact ⟨_, rfl, q b H3 (s2.trans s3) nb eb⟩
    obtain ⟨tr, htr, rest⟩ := hrest
    refine ⟨_, pss_cons (ps_if (pt_cmpR op_eq (pe_ix ix_tup (pv 0) pe_int (fun _ _ => rfl)) pe_str (nomark _)) (pss_one (ps_ret (pe_lst (pa_cons (pe_ix ix_tup (pv 0) pe_int (fun _ _ => rfl)) pa_nil)))) pss_nil) htr, ?_⟩
    cases hv with
    | e h =>
      refine ⟨_, rfl, _, _, _, _, rfl, rfl, SqT.of h, tix0, rfl, _, rfl, ?_⟩
      rw [decide_eq_true rfl]
      exact iteT ⟨_, rfl, _, _, _, _, rfl, rfl, SqT.of h, tix1, by show 1 ≤ sizeLine; decide, fun l hl => q l _ (same_upd hl) hl upd_same⟩
    | @l _ _ _ ps h hl hp =>
      refine ⟨_, rfl, _, _, _, _, rfl, rfl, SqT.of h, tix0, rfl, _, rfl, ?_⟩
      rw [decide_eq_false (show ¬ V.str ("lot" : Str) = V.str ("end" : Str) from fun z => absurd (V.str.inj z) (by decide +kernel))]
      have hz : (Tr.lot ps :: ps.all).length ≤ 400 := hz
      rw [List.length_cons, all_ls] at hz
      refine iteF (rest (.l h hl hp) ?_ (Nat.le_of_succ_le_succ hd) (Nat.le_of_succ_le hz))
      show endsL (Tr.lot ps :: ps.all) = endsL (ps.ls.flatMap Tr.all)
      rw [all_ls]
      rfl
    | @m _ _ _ s view _ ps h hv hl hp =>
      refine ⟨_, rfl, _, _, _, _, rfl, rfl, SqT.of h, tix0, rfl, _, rfl, ?_⟩
      rw [decide_eq_false (show ¬ V.str ("move" : Str) = V.str ("end" : Str) from fun z => absurd (V.str.inj z) (by decide +kernel))]
      have hz : (Tr.move s view ps :: ps.all).length ≤ 400 := hz
      rw [List.length_cons, all_ls] at hz
      refine iteF (rest (.m h hv hl hp) ?_ (Nat.le_of_succ_le_succ hd) (Nat.le_of_succ_le hz))
      show endsL (Tr.move s view ps :: ps.all) = endsL (ps.ls.flatMap Tr.all)
      rw [all_ls]
      rfl
end
end K1

set_option Elab.async false
set_option linter.all false
set_option maxRecDepth 100000
set_option maxHeartbeats 4000000
/-! _law_by_hand. -/
namespace K1
open PySem PySem.Spec PyProof.Rows L2 Kx Kd Kt Kh
abbrev sBH : Stmt := top 50
abbrev AnyA : Addr → Prop := fun _ => True
def spBH (c : Cls3) (n : Nat) : Sp := fun vs H Q _ => ∃ (v : V) (t : Tr), vs = [v] ∧ DueAt H v t ∧ t.dp ≤ n ∧ t.all.length ≤ 400 ∧ ∀ (a : Addr) H', Same H H' → TrAt c H' AnyA a t → Q (.ref a) H'
abbrev NBh : List Str := ["due", "parts", "part"]
section
variable {P : Program} {w : World} {K : PySem.W.Frag} {mg : Str → Option Value} {base : Heap} {c : Cls3} {fP fE fL fM : Addr} {dP dE dL dM : FuncData}
theorem scBH : FnScope NBh ["due"] (defScope sBH) := ⟨rfl, rfl, rfl, by decide +kernel, rfl, by decide +kernel, by decide +kernel⟩
theorem ok_bh0 {f : Addr} {fd : FuncData} (F : Fun K "_law_by_hand" "_law_by_hand" sBH f fd) (TN : TxN K mg c) (ME : Mk K c.E fE) (GE : FnOk P w K mg base CX0 1 fE dE ["self", "paid"] (spEI c)) (bE : Binds K dE ["self", "paid"] []) : FnOk P w K mg base CX0 3 f fd ["due"] (spBH c 0) := by
  refine F.ok scBH (fun vs H Q E h => ?_) (fun cdv A outer s H vs Q E hr h => ?_)
  · obtain ⟨v, t, rfl, _⟩ := h
    rfl
  · obtain ⟨v, t, rfl, hv, hd, hz, q⟩ := h
    have hr2 : Room 2 _ := hr
    refine ⟨_, pss_cons (ps_if (pt_cmpR op_eq (pe_ix ix_tup (pv 0) pe_int (fun _ _ => rfl)) pe_str (nomark _)) (pss_one (ps_ret (pe_make ME GE hr2 rfl TN.gE bE .nil pass0 (pa_cons (pe_ix ix_tup (pv 0) pe_int (fun _ _ => rfl)) pa_nil)))) pss_nil)
      (pss_cons ps_never (pss_cons ps_never (pss_one ps_never))), ?_⟩
    cases hv with
    | @e a0 p h =>
      refine ⟨_, rfl, _, _, _, _, rfl, rfl, SqT.of h, tix0, rfl, _, rfl, ?_⟩
      rw [decide_eq_true rfl]
      refine iteT ⟨_, rfl, _, _, _, _, rfl, rfl, SqT.of h, tix1, fun z dz nz ndz nez => ⟨z, dz, p, rfl, upd_same, rfl, ?_⟩⟩
      refine q z _ (fun b o e => ?_) (.mk (k := .e p) trivial (.e upd_same rfl) .nil fun _ => rfl)
      rw [upd_ne (ne_of_none e nz), upd_ne (ne_of_none e nz), upd_ne (ne_of_none e ndz)]
      exact e
    | l h hl hp => exact absurd hd (Nat.not_succ_le_zero _)
    | m h hv hl hp => exact absurd hd (Nat.not_succ_le_zero _)
end
end K1

set_option Elab.async false
set_option linter.all false
set_option maxRecDepth 100000
set_option maxHeartbeats 4000000
/-! _law_by_hand. -/
namespace K1
open PySem PySem.Spec PyProof.Rows L2 Kx Kd Kt Kh
theorem TsAt.snoc {c : Cls3} {H : Hp} {F : Addr → Prop} : ∀ {l : List Tr} {us : List V} {a : Addr} {t : Tr}, TsAt c H F us (tsOf l) → TrAt c H F a t → TsAt c H F (us ++ [.ref a]) (tsOf (l ++ [t]))
  | [], _, a, t, h, ht => by
    cases h
    exact .cons ht .nil
  | x :: l, _, a, t, h, ht => by
    cases h with
    | cons h hr => exact .cons h (TsAt.snoc hr ht)
theorem TsAt.same {c : Cls3} {H H' : Hp} {F : Addr → Prop} {us : List V} {ps : Ts} (h : TsAt c H F us ps) (s : Same H H') : TsAt c H' F us ps := TsAt.keep (fun _ f => f) (fun a o _ e => s _ _ e) (Tk.same s) h
section
variable {P : Program} {w : World} {K : PySem.W.Frag} {mg : Str → Option Value} {base : Heap} {c : Cls3} {fP fE fL fM : Addr} {dP dE dL dM : FuncData}
theorem ok_bhS {f : Addr} {fd : FuncData} {k n : Nat} (hk : 3 ≤ k) (F : Fun K "_law_by_hand" "_law_by_hand" sBH f fd) (gl : mg "_law_by_hand" = some (.ref f)) (bd : Binds K fd ["due"] []) (G : FnOk P w K mg base CX0 k f fd ["due"] (spBH c n)) (LP : Fn0 P w K mg base 1 "_law_parts" ["node"] spLP fP dP) (TN : TxN K mg c) (ME : Mk K c.E fE) (GE : FnOk P w K mg base CX0 1 fE dE ["self", "paid"] (spEI c)) (bE : Binds K dE ["self", "paid"] [])
    (ML : Mk K c.L fL) (GL : FnOk P w K mg base CX0 1 fL dL ["self", "parts"] (spLI c)) (bL : Binds K dL ["self", "parts"] []) (MM : Mk K c.M fM) (GM : FnOk P w K mg base CX0 1 fM dM ["self", "seat", "view", "parts"] (spMI c)) (bM : Binds K dM ["self", "seat", "view", "parts"] []) :
    FnOk P w K mg base CX0 (k + 1) f fd ["due"] (spBH c (n + 1)) := by
  refine F.ok scBH (fun vs H Q E h => ?_) (fun cdv A outer s H vs Q E hr h => ?_)
  · obtain ⟨v, t, rfl, _⟩ := h
    rfl
  · obtain ⟨v, t, rfl, hv, hd, hz, q⟩ := h
    have hr2 : Room 2 _ := hr.mono (by omega)
    have hr1 : Room 1 _ := hr.mono (by omega)
    refine ⟨_, pss_cons (ps_if (pt_cmpR op_eq (pe_ix ix_tup (pv 0) pe_int (fun _ _ => rfl)) pe_str (nomark _)) (pss_one (ps_ret (pe_make ME GE hr2 rfl TN.gE bE .nil pass0 (pa_cons (pe_ix ix_tup (pv 0) pe_int (fun _ _ => rfl)) pa_nil)))) pss_nil)
      (pss_cons (ps_set (i := 1) scBH.nd rfl (Or.inl rfl) (pe_callTy call_tuple_of (by rfl) TN.tuple (by decide +kernel) (pa_cons (pe_lc (own := [("part", 2)]) (g := gName 2) (tt := tYes) rfl scBH.nd (pi_list (pe_call LP.ok hr1 (by rfl) LP.gl LP.kp LP.bd .nil pass0 (pa_cons (pv 0) pa_nil))) (blkOk_by (N := NBh) (sc := defScope sBH) (by decide +kernel))
          (fun _ _ _ _ _ => pg_name (i := 2) scBH.nd rfl (Or.inl rfl)) (fun _ _ _ _ _ => pts_nil) (fun _ _ _ _ _ => pe_call G hr (by rfl) gl F.kp bd .nil pass0 (pa_cons (pv 2) pa_nil))) pa_nil)))
      (pss_cons (ps_if (pt_cmpR op_eq (pe_ix ix_tup (pv 0) pe_int (fun _ _ => rfl)) pe_str (nomark _)) (pss_one (ps_ret (pe_make ML GL hr2 rfl TN.gL bL .nil pass0 (pa_cons (pv 1) pa_nil)))) pss_nil)
      (pss_one (ps_ret (pe_make MM GM hr2 rfl TN.gM bM .nil pass0 (pa_cons (pe_ix ix_tup (pv 0) pe_int (fun _ _ => rfl)) (pa_cons (pe_ix ix_tup (pv 0) pe_int (fun _ _ => rfl)) (pa_cons (pv 1) pa_nil)))))))), ?_⟩
    cases hv with
    | @e a0 p h =>
      refine ⟨_, rfl, _, _, _, _, rfl, rfl, SqT.of h, tix0, rfl, _, rfl, ?_⟩
      rw [decide_eq_true rfl]
      refine iteT ⟨_, rfl, _, _, _, _, rfl, rfl, SqT.of h, tix1, fun z dz nz ndz nez => ⟨z, dz, p, rfl, upd_same, rfl, ?_⟩⟩
      refine q z _ (fun b o e => ?_) (.mk (k := .e p) trivial (.e upd_same rfl) .nil fun _ => rfl)
      rw [upd_ne (ne_of_none e nz), upd_ne (ne_of_none e nz), upd_ne (ne_of_none e ndz)]
      exact e
    | @l a0 l0 us0 ps h hl hp =>
      refine ⟨_, rfl, _, _, _, _, rfl, rfl, SqT.of h, tix0, rfl, _, rfl, ?_⟩
      rw [decide_eq_false (show ¬ V.str ("lot" : Str) = V.str ("end" : Str) from fun z => absurd (V.str.inj z) (by decide +kernel))]
      have hz := hz
      have hz : (Tr.lot ps :: ps.all).length ≤ 400 := hz
      rw [List.length_cons, all_ls] at hz
      refine iteF ⟨_, rfl, _, _, rfl, .l h hl hp, fun l us H2 s1 el hu => ⟨l, rfl, ⟨us, SqL.of el⟩, fun D hD => ?_⟩⟩
      have hu : DusAt H2 us ps := hu
      have pr := due_of hu
      refine lc_list (xs := us) (fun i H' => ∃ as, H' D = some (.lst as) ∧ TsAt c H' AnyA as (tsOf (ps.ls.take i)) ∧ Same H2 H') ⟨[], upd_same, .nil, same_upd hD⟩ (fun i H' _ h => by
        obtain ⟨_, _, _, s3⟩ := h
        exact SqL.of (s3 _ _ el)) ?_ ?_
      · rintro i u H3 hu3 ⟨as, eD, ht, s3⟩
        obtain ⟨x, hx, hn⟩ := paired_at pr hu3
        have hmem : x ∈ ps.ls := List.mem_of_getElem? hx
        have hxl : x.all.length ≤ 400 := by
          obtain ⟨a, c, e⟩ := List.append_of_mem hmem
          rw [e, List.flatMap_append, List.length_append, List.flatMap_cons, List.length_append] at hz
          omega
        have hal := ht.len
        have hil : i < ps.ls.length := (List.getElem?_eq_some_iff.mp hx).1
        have hfl := flat_len ps.ls
        refine ⟨rfl, tYesI ⟨_, rfl, u, x, rfl, hn.same s3, Nat.le_trans (dp_mem hmem) (Nat.le_of_succ_le_succ hd), hxl, fun a H4 s4 ta => ?_⟩⟩
        have htk : ps.ls.take (i + 1) = ps.ls.take i ++ [x] := by
          rw [List.take_add_one, hx]
          rfl
        rw [List.length_take] at hal
        refine ⟨as, s4 _ _ eD, Nat.lt_of_le_of_lt (show as.length ≤ 400 by omega) (by decide), as ++ [.ref a], upd_same, ?_, fun b o e => ?_⟩
        · rw [htk]
          exact TsAt.updL (s4 _ _ eD) ((ht.same s4).snoc ta)
        · rw [upd_ne (ne_of_none e hD)]
          exact s4 _ _ (s3 _ _ e)
      · rintro H3 ⟨as, eD, ht, s3⟩
        rw [paired_len pr, List.take_length, tsOf_ls] at ht
        refine ⟨D, as, rfl, .inl ⟨SqL.of eD, fun tp ntp => ?_⟩⟩
        have s4 := same_upd (o := .tup as) ntp
        have et : upd H3 tp (.tup as) tp = some (.tup as) := upd_same
        have ht4 := ht.same s4
        have s04 : Same H (upd H3 tp (.tup as)) := (s1.trans s3).trans s4
        generalize upd H3 tp (.tup as) = H4 at *
        have mk0 : ∀ {z dz : Addr} {C : Addr}, H4 z = none → H4 dz = none → Same H4 (upd (upd H4 dz (.own z)) z (.ins C dz [])) := fun {z dz C} nz nd b u e => by
          rw [upd_ne (ne_of_none e nz), upd_ne (ne_of_none e nd)]
          exact e
        refine ⟨_, rfl, _, _, _, _, rfl, rfl, SqT.of (s04 _ _ h), tix0, rfl, _, rfl, ?_⟩
        rw [decide_eq_true rfl]
        refine iteT ⟨_, rfl, fun z dz nz ndz nez => ⟨z, dz, tp, as, rfl, upd_same, mk0 nz ndz _ _ et, rfl, ?_⟩⟩
        have s5 : Same H4 (upd (upd (upd H4 dz (.own z)) z (.ins c.L dz [])) z (.ins c.L dz (lfs tp))) := fun b o e => by
          rw [upd_ne (ne_of_none e nz)]
          exact mk0 nz ndz _ _ e
        exact q z _ (s04.trans s5) (.mk (k := .l) trivial (.l upd_same (s5 _ _ et)) (ht4.same s5) fun z => nomatch z)
    | @m a0 l0 v0 s view us0 ps h hv hl hp =>
      refine ⟨_, rfl, _, _, _, _, rfl, rfl, SqT.of h, tix0, rfl, _, rfl, ?_⟩
      rw [decide_eq_false (show ¬ V.str ("move" : Str) = V.str ("end" : Str) from fun z => absurd (V.str.inj z) (by decide +kernel))]
      have hz := hz
      have hz : (Tr.move s view ps :: ps.all).length ≤ 400 := hz
      rw [List.length_cons, all_ls] at hz
      refine iteF ⟨_, rfl, _, _, rfl, .m h hv hl hp, fun l us H2 s1 el hu => ⟨l, rfl, ⟨us, SqL.of el⟩, fun D hD => ?_⟩⟩
      have hu : DusAt H2 us ps := hu
      have pr := due_of hu
      refine lc_list (xs := us) (fun i H' => ∃ as, H' D = some (.lst as) ∧ TsAt c H' AnyA as (tsOf (ps.ls.take i)) ∧ Same H2 H') ⟨[], upd_same, .nil, same_upd hD⟩ (fun i H' _ h => by
        obtain ⟨_, _, _, s3⟩ := h
        exact SqL.of (s3 _ _ el)) ?_ ?_
      · rintro i u H3 hu3 ⟨as, eD, ht, s3⟩
        obtain ⟨x, hx, hn⟩ := paired_at pr hu3
        have hmem : x ∈ ps.ls := List.mem_of_getElem? hx
        have hxl : x.all.length ≤ 400 := by
          obtain ⟨a, c, e⟩ := List.append_of_mem hmem
          rw [e, List.flatMap_append, List.length_append, List.flatMap_cons, List.length_append] at hz
          omega
        have hal := ht.len
        have hil : i < ps.ls.length := (List.getElem?_eq_some_iff.mp hx).1
        have hfl := flat_len ps.ls
        refine ⟨rfl, tYesI ⟨_, rfl, u, x, rfl, hn.same s3, Nat.le_trans (dp_mem hmem) (Nat.le_of_succ_le_succ hd), hxl, fun a H4 s4 ta => ?_⟩⟩
        have htk : ps.ls.take (i + 1) = ps.ls.take i ++ [x] := by
          rw [List.take_add_one, hx]
          rfl
        rw [List.length_take] at hal
        refine ⟨as, s4 _ _ eD, Nat.lt_of_le_of_lt (show as.length ≤ 400 by omega) (by decide), as ++ [.ref a], upd_same, ?_, fun b o e => ?_⟩
        · rw [htk]
          exact TsAt.updL (s4 _ _ eD) ((ht.same s4).snoc ta)
        · rw [upd_ne (ne_of_none e hD)]
          exact s4 _ _ (s3 _ _ e)
      · rintro H3 ⟨as, eD, ht, s3⟩
        rw [paired_len pr, List.take_length, tsOf_ls] at ht
        refine ⟨D, as, rfl, .inl ⟨SqL.of eD, fun tp ntp => ?_⟩⟩
        have s4 := same_upd (o := .tup as) ntp
        have et : upd H3 tp (.tup as) tp = some (.tup as) := upd_same
        have ht4 := ht.same s4
        have s04 : Same H (upd H3 tp (.tup as)) := (s1.trans s3).trans s4
        generalize upd H3 tp (.tup as) = H4 at *
        have mk0 : ∀ {z dz : Addr} {C : Addr}, H4 z = none → H4 dz = none → Same H4 (upd (upd H4 dz (.own z)) z (.ins C dz [])) := fun {z dz C} nz nd b u e => by
          rw [upd_ne (ne_of_none e nz), upd_ne (ne_of_none e nd)]
          exact e
        refine ⟨_, rfl, _, _, _, _, rfl, rfl, SqT.of (s04 _ _ h), tix0, rfl, _, rfl, ?_⟩
        rw [decide_eq_false (show ¬ V.str ("move" : Str) = V.str ("lot" : Str) from fun z => absurd (V.str.inj z) (by decide +kernel))]
        refine iteF ⟨_, rfl, _, _, _, _, rfl, rfl, SqT.of (s04 _ _ h), tix1, _, rfl, _, _, _, _, rfl, rfl, SqT.of (s04 _ _ h), tix2, _, rfl, fun z dz nz ndz nez => ⟨z, dz, tp, v0, s, as, rfl, upd_same, mk0 nz ndz _ _ et, fun H5 e5 k5 => ⟨rfl, ?_⟩⟩⟩
        have s5 : Same H4 H5 := fun b o e => k5 _ _ (mk0 nz ndz _ _ e) (ne_of_none e nz)
        exact q z _ (s04.trans s5) (.mk (k := .m s view) trivial (.m e5 (hv.keep (Tk.same (s04.trans s5))) (s5 _ _ et)) (ht4.same s5) fun z => nomatch z)
end
end K1

set_option Elab.async false
set_option linter.all false
set_option maxRecDepth 100000
set_option maxHeartbeats 4000000
/-! _law_stored. -/
namespace K1
open PySem PySem.Spec PyProof.Rows L2 Kx Kd Kt Kh
abbrev sLS : Stmt := top 45
def spLS : Sp := fun vs H Q _ => ∃ (gv : V) (d : Addr) (x : Str) (v : Int) (ns : List Str) (xs st : List (Str × Int)) (b : Bk), vs = [gv, .ref d, .str x, .int v] ∧ Dt H gv (gameD xs b) ∧ H d = some (.dK (stK st)) ∧ StOk ns st ∧ SzOk ns xs ∧ x ∈ ns ∧ 0 ≤ v ∧
  ∀ (d2 : Addr) H', Same H H' → H d2 = none → H' d2 = some (.dK (stK (setS st x (v % sizeOf xs x)))) → Q (.ref d2) H'
abbrev NLs : List Str := ["game", "table", "name", "value", "after", "own", "size"]
def ofN (x : Str) (l : List (Str × Int)) : List (Str × Int) := l.filter fun p => decide (p.1 = x)
theorem ofN_head {xs : List (Str × Int)} {x : Str} {z : Int} (h : look xs x = some z) : ∃ r, (ofN x xs).map (fun p => V.int p.2) = V.int z :: r := by
  unfold look at h
  have hh : (ofN x xs).head? = xs.find? fun p => decide (p.1 = x) := List.head?_filter ..
  cases hf : ofN x xs with
  | nil =>
    rw [hf] at hh
    rw [← hh] at h
    cases h
  | cons p r =>
    rw [hf] at hh
    rw [← hh] at h
    have hz : p.2 = z := Option.some.inj h
    exact ⟨r.map (fun p => V.int p.2), by rw [List.map_cons, hz]⟩
section
variable {P : Program} {w : World} {K : PySem.W.Frag} {mg : Str → Option Value} {base : Heap}
theorem scLS : FnScope NLs ["game", "table", "name", "value"] (defScope sLS) := ⟨rfl, rfl, rfl, by decide +kernel, rfl, by decide +kernel, by decide +kernel⟩
theorem ok_ls {f : Addr} {fd : FuncData} (F : Fun K "_law_stored" "_law_stored" sLS f fd) (hdict : mg "dict" = none) (hint : mg "int" = none) : FnOk P w K mg base CX0 1 f fd ["game", "table", "name", "value"] spLS := by
  refine F.ok scLS (fun vs H Q E h => ?_) (fun cdv A0 outer s H vs Q E hr h => ?_)
  · obtain ⟨gv, d, x, v, ns, xs, st, b, rfl, _⟩ := h
    rfl
  · obtain ⟨gv, d, x, v, ns, xs, st, b, rfl, hg, hd, hst, hsz, hx, hv, q⟩ := h
    have hu1 : (A0.deeper (envOfC "_law_stored" (defScope sLS) s.heap.objs.size f cdv)).units + 1 < cLine := by have := hr.un; omega
    refine ⟨_, pss_cons (ps_set (i := 4) scLS.nd rfl (Or.inl rfl) (pe_callTy call_dictD (by rfl) hdict (by decide +kernel) (pa_cons (pv 1) pa_nil)))
      (pss_cons (ps_dput hu1 (pv 4) (pv 2) (pe_op op_mod (pe_callTy call_int1 (by rfl) hint (by decide +kernel) (pa_cons (pv 3) pa_nil)) (pe_ix ix_list (pe_lc (own := [("own", 5), ("size", 6)]) (g := gTup K 2 (gCons (gName 5) (gCons (gName 6) gNil))) rfl scLS.nd (pi_tup (pe_ix ix_tup (pv 0) pe_int (fun _ _ => rfl))) (blkOk_by (N := NLs) (sc := defScope sLS) (by decide +kernel))
          (fun _ _ _ _ _ => pg_tup rfl (pgs_cons (pg_name (i := 5) scLS.nd rfl (Or.inl rfl)) (pgs_cons (pg_name (i := 6) scLS.nd rfl (Or.inl rfl)) pgs_nil))) (fun _ _ _ _ _ => pts_one (pt_cmpR op_eq (pv 5) (pv 2) (nomark _))) (fun _ _ _ _ _ => pv 6)) pe_int (fun _ _ => rfl))) rfl)
      (pss_one (ps_ret (pv 4)))), ?_⟩
    obtain ⟨z, hz, z1, z2⟩ := hsz.pos hx
    refine ⟨_, rfl, d, _, rfl, .inl hd, fun d2 hd2 => ?_⟩
    have s1 := same_upd (o := .dK (stK st)) hd2
    have e1 : upd H d2 (.dK (stK st)) d2 = some (.dK (stK st)) := upd_same
    have hg1 := hg.keep (Tk.same s1)
    generalize upd H d2 (.dK (stK st)) = H1 at *
    obtain ⟨a, ys, rfl, ea, da⟩ := hg1.tupI
    obtain ⟨u1, u2, rfl, t1, t2⟩ := da.c2
    obtain ⟨a1, us1, rfl, ea1, dv⟩ := t1.tupI
    obtain ⟨ps, rfl, _, hps⟩ := vars_pairs (K := K) dv
    have hpl : ps.length = xs.length := by
      have := lenD dv
      unfold varsD at this
      rw [List.length_map, List.length_map] at this
      exact this
    have hx5 : xs.length ≤ 5 := by
      have h1 := hsz.few
      rw [← hsz.keys, List.length_map] at h1
      exact h1
    refine ⟨_, rfl, .inl ⟨_, rfl, _, rfl, a, _, _, _, rfl, rfl, SqT.of ea, tix0, a1, rfl, ⟨_, SqT.of ea1⟩, fun D hD => ?_⟩⟩
    refine lc_tup (xs := ps.map V.ref) (fun i H' => H' D = some (.lst ((ofN x (xs.take i)).map fun p => V.int p.2)) ∧ Same H1 H') ⟨upd_same, same_upd hD⟩ (fun i H' _ h => SqT.of (h.2 _ _ ea1)) ?_ ?_
    · rintro i y H3 hy ⟨eD, s3⟩
      obtain ⟨p, hp, rfl⟩ := Option.map_eq_some_iff.mp ((List.getElem?_map ..).symm.trans hy)
      have hi : i < xs.length := by
        have := (List.getElem?_eq_some_iff.mp hp).1
        omega
      have ep := s3 _ _ (hps i p _ hp (List.getElem?_eq_getElem hi))
      have htk : ofN x (xs.take (i + 1)) = ofN x (xs.take i) ++ ofN x [xs[i]] := by
        unfold ofN
        rw [List.take_succ_eq_append_getElem hi, List.filter_append]
      rw [htk]
      refine ⟨p, _, rfl, SqT.of ep, rfl, _, _, rfl, _, _, rfl, rfl, rfl, ?_⟩
      refine ⟨_, rfl, _, rfl, rfl, _, rfl, ?_⟩
      by_cases hc : xs[i].1 = x
      · rw [decide_eq_true (show V.str xs[i].1 = V.str x by rw [hc])]
        have e2 : ofN x [xs[i]] = [xs[i]] := by
          unfold ofN
          rw [List.filter_cons, decide_eq_true hc]
          rfl
        rw [e2]
        refine iteT ⟨_, rfl, _, eD, ?_, ?_, fun c o e => ?_⟩
        · rw [List.length_map]
          have h1 : (ofN x (xs.take i)).length ≤ (xs.take i).length := List.length_filter_le ..
          rw [List.length_take] at h1
          exact Nat.lt_of_le_of_lt (show _ ≤ 5 by omega) (by decide)
        · rw [upd_same, List.map_append]
          rfl
        · rw [upd_ne (ne_of_none e hD)]
          exact s3 _ _ e
      · rw [decide_eq_false (show ¬ V.str xs[i].1 = V.str x from fun e => hc (V.str.inj e))]
        have e2 : ofN x [xs[i]] = [] := by
          unfold ofN
          rw [List.filter_cons, decide_eq_false hc]
          rfl
        rw [e2, List.append_nil]
        exact iteF ⟨eD, s3⟩
    · rintro H3 ⟨eD, s3⟩
      rw [List.length_map, hpl, List.take_length] at eD
      obtain ⟨rr, er⟩ := ofN_head hz
      rw [er] at eD
      have hl : (stK st).length < sizeLine := by
        unfold stK
        have := congrArg List.length hst.1
        rw [List.length_map] at this
        rw [List.length_map, this]
        exact Nat.lt_of_le_of_lt hsz.few (by decide)
      have hxs : x ∈ st.map (·.1) := by rw [hst.1]; exact hx
      refine ⟨D, _, _, _, rfl, rfl, SqL.of eD, tix0, _, _, rfl, rfl, (show (0 : Int) < z by omega), ?_⟩
      refine ⟨_, rfl, _, rfl, d2, _, rfl, DPut.k (k := Sum.inr x) (s3 _ _ e1) hl, ?_⟩
      rw [stK_put _ hxs]
      refine ⟨_, rfl, q d2 _ (fun c o e => ?_) hd2 ?_⟩
      · rw [upd_ne (ne_of_none e hd2)]
        exact s3 _ _ (s1 _ _ e)
      · rw [upd_same]
        unfold sizeOf
        rw [hz]
        rfl
end
end K1

set_option Elab.async false
set_option linter.all false
set_option maxRecDepth 100000
set_option maxHeartbeats 4000000
/-! _law_deep. -/
namespace K1
open PySem PySem.Spec PyProof.Rows L2 Kx Kd Kt Kh
abbrev sDp : Stmt := top 51
abbrev OP8 : List Str := ["+", "-", "*", "/", "mod", "<", "=", "+"]
def spDeep (n : Nat) : Sp := fun vs H Q _ => ∃ (p nl : Addr) (ns : List Str) (k : Nat) (b : Int), vs = [.ref p, .ref nl, .int (k : Int)] ∧ PoolAt H p b ∧ nl ≠ p ∧ H nl = some (.lst (ns.map V.str)) ∧ ns.length ≤ 5 ∧ k ≤ n ∧
  ∀ (v : V) (e : Ex) (H' : Hp), e.vl ns (k + 1) → PoolAt H' p b → Kp p H H' → Dt H' v e.d → Q v H'
section
variable {P : Program} {w : World} {K : PySem.W.Frag} {mg : Str → Option Value} {base : Heap} {fD fV : Addr} {dD dV : FuncData}
theorem scDp : FnScope ["pool", "names", "deep", "value", "sign"] ["pool", "names", "deep"] (defScope sDp) := ⟨rfl, rfl, rfl, by decide +kernel, rfl, by decide +kernel, by decide +kernel⟩
theorem ok_dp0 {f : Addr} {fd : FuncData} {k : Nat} (F : Fun K "_law_deep" "_law_deep" sDp f fd) (V1 : Fn0 P w K mg base k "_law_value" ["pool", "names", "deep"] (spVal 1) fV dV) : FnOk P w K mg base CX0 (k + 1) f fd ["pool", "names", "deep"] (spDeep 0) := by
  refine F.ok scDp (fun vs H Q E h => ?_) (fun cdv A outer s H vs Q E hr h => ?_)
  · obtain ⟨p, nl, ns, k, b, rfl, _⟩ := h
    rfl
  · obtain ⟨p, nl, ns, m, b, rfl, PA, hN, hn, h5, hm, q⟩ := h
    refine ⟨_, pss_cons (ps_set (i := 3) scDp.nd rfl (Or.inl rfl) (pe_call V1.ok hr (by rfl) V1.gl V1.kp V1.bd .nil pass0 (pa_cons (pv 0) (pa_cons (pv 1) (pa_cons pe_int pa_nil)))))
      (pss_cons (ps_if (pt_cmpR op_eq (pv 2) pe_int (nomark _)) (pss_one (ps_ret (pv 3))) pss_nil)
      (pss_cons ps_never (pss_cons ps_never (pss_one ps_never)))), ?_⟩
    have hm0 : m = 0 := by omega
    subst hm0
    refine ⟨_, rfl, _, rfl, p, nl, ns, 1, b, rfl, PA, hN, hn, h5, Nat.le_refl _, fun v e H1 ve P1 k1 d1 => ?_⟩
    exact ⟨_, rfl, rfl, _, rfl, ite2 (fun _ => ⟨_, rfl, q v e H1 ve P1 k1 d1⟩) (fun z => absurd (decide_eq_true rfl) z)⟩
theorem ok_dpS {f : Addr} {fd : FuncData} {k n : Nat} (hk : 1 ≤ k) (F : Fun K "_law_deep" "_law_deep" sDp f fd) (D1 : Fn0 P w K mg base 1 "_law_draw" ["pool", "size"] spDraw fD dD) (V1 : Fn0 P w K mg base k "_law_value" ["pool", "names", "deep"] (spVal 1) fV dV)
    (G1 : Fn0 P w K mg base k "_law_deep" ["pool", "names", "deep"] (spDeep n) f fd) : FnOk P w K mg base CX0 (k + 1) f fd ["pool", "names", "deep"] (spDeep (n + 1)) := by
  refine F.ok scDp (fun vs H Q E h => ?_) (fun cdv A outer s H vs Q E hr h => ?_)
  · obtain ⟨p, nl, ns, k, b, rfl, _⟩ := h
    rfl
  · obtain ⟨p, nl, ns, m, b, rfl, PA, hN, hn, h5, hm, q⟩ := h
    have hr1 : Room 1 _ := hr.mono hk
    refine ⟨_, pss_cons (ps_set (i := 3) scDp.nd rfl (Or.inl rfl) (pe_call V1.ok hr (by rfl) V1.gl V1.kp V1.bd .nil pass0 (pa_cons (pv 0) (pa_cons (pv 1) (pa_cons pe_int pa_nil)))))
      (pss_cons (ps_if (pt_cmpR op_eq (pv 2) pe_int (nomark _)) (pss_one (ps_ret (pv 3))) pss_nil)
      (pss_cons (ps_set (i := 4) scDp.nd rfl (Or.inl rfl) (pe_ix ix_tup (pe_tup (pa_cons pe_str (pa_cons pe_str (pa_cons pe_str (pa_cons pe_str (pa_cons pe_str (pa_cons pe_str (pa_cons pe_str (pa_cons pe_str pa_nil))))))))) (pe_call D1.ok hr1 (by rfl) D1.gl D1.kp D1.bd .nil pass0 (pa_cons (pv 0) (pa_cons pe_int pa_nil))) (fun _ _ => rfl)))
      (pss_cons (ps_if (pt_cmpR op_eq (pe_call D1.ok hr1 (by rfl) D1.gl D1.kp D1.bd .nil pass0 (pa_cons (pv 0) (pa_cons pe_int pa_nil))) pe_int (nomark _))
        (pss_one (ps_ret (pe_tup (pa_cons (pv 4) (pa_cons (pv 3) (pa_cons (pe_call G1.ok hr (by rfl) G1.gl G1.kp G1.bd .nil pass0 (pa_cons (pv 0) (pa_cons (pv 1) (pa_cons (pe_op op_sub (pv 2) pe_int) pa_nil)))) pa_nil)))))) pss_nil)
      (pss_one (ps_ret (pe_tup (pa_cons (pv 4) (pa_cons (pe_call G1.ok hr (by rfl) G1.gl G1.kp G1.bd .nil pass0 (pa_cons (pv 0) (pa_cons (pv 1) (pa_cons (pe_op op_sub (pv 2) pe_int) pa_nil)))) (pa_cons (pv 3) pa_nil))))))))), ?_⟩
    refine ⟨_, rfl, _, rfl, p, nl, ns, 1, b, rfl, PA, hN, hn, h5, Nat.le_refl _, fun v e H1 ve P1 k1 d1 => ?_⟩
    refine ⟨_, rfl, rfl, _, rfl, ite2 (fun z => ?_) (fun z => ?_)⟩
    · have z := V.int.inj (of_decide_eq_true z)
      have : m = 0 := by omega
      subst this
      exact ⟨_, rfl, q v e H1 ve P1 k1 d1⟩
    · have hm1 : m ≠ 0 := fun e0 => z (decide_eq_true (by rw [e0]; rfl))
      obtain ⟨m, rfl⟩ : ∃ m', m = m' + 1 := ⟨m - 1, by omega⟩
      have em : ((m + 1 : Nat) : Int) - 1 = (m : Int) := by omega
      refine ⟨(by show 8 ≤ sizeLine; decide), fun tp htp => ?_⟩
      have s1 := same_upd (o := .tup (OP8.map V.str)) htp
      refine ⟨_, rfl, p, 8, b, rfl, P1.same s1, by decide, by decide, fun j H2 j0 j1 P2 k2 => ?_⟩
      have e2 : H2 tp = some (.tup (OP8.map V.str)) := k2 _ _ upd_same (P1.ne0 htp)
      obtain ⟨o, ho, eo⟩ := atS (xs := OP8) j0 j1
      have ho7 : OPS.contains o = true := by
        have : ∀ o ∈ OP8, OPS.contains o = true := by decide +kernel
        exact this o ho
      have k12 := k1.trans ((Kp.same s1).trans k2)
      have d2 := (d1.keep (Tk.same s1)).keep (Kp.tk (P1.same s1) k2)
      refine ⟨tp, _, _, _, rfl, rfl, SqT.of e2, eo, ?_⟩
      refine ⟨_, rfl, p, 2, b, rfl, P2, by decide, by decide, fun j3 H3 _ _ P3 k3 => ?_⟩
      have k13 := k12.trans k3
      have d3 := d2.keep (Kp.tk P2 k3)
      have ve' : e.vl ns (m + 1) := Ex.vl_le (by omega) ve
      refine ⟨rfl, _, rfl, ite2 (fun _ => ?_) (fun _ => ?_)⟩
      · refine ⟨_, rfl, _, rfl, _, rfl, _, rfl, _, rfl, _, _, rfl, rfl, p, nl, ns, m, b, congrArg (fun z => [V.ref p, V.ref nl, V.int z]) em, P3, hN, k13 _ _ hn hN, h5, by omega, fun v2 c H4 vc P4 k4 d4 => ⟨(by show 3 ≤ sizeLine; decide), fun r hr' => ?_⟩⟩
        have s2 := same_upd (o := .tup [.str o, v, v2]) hr'
        exact q (.ref r) (.op o e c) _ ⟨ho7, m + 1, rfl, ve', vc⟩ (P4.same s2) ((k13.trans k4).trans (Kp.same s2)) (.tup upd_same (.cons (.str _) (.cons (Dt.keep (Tk.same s2) (Dt.keep (Kp.tk P3 k4) d3)) (.cons (Dt.keep (Tk.same s2) d4) .nil))))
      · refine ⟨_, rfl, _, rfl, _, rfl, _, rfl, _, _, rfl, rfl, p, nl, ns, m, b, congrArg (fun z => [V.ref p, V.ref nl, V.int z]) em, P3, hN, k13 _ _ hn hN, h5, by omega, fun v2 c H4 vc P4 k4 d4 => ⟨_, rfl, (by show 3 ≤ sizeLine; decide), fun r hr' => ?_⟩⟩
        have s2 := same_upd (o := .tup [.str o, v2, v]) hr'
        exact q (.ref r) (.op o c e) _ ⟨ho7, m + 1, rfl, vc, ve'⟩ (P4.same s2) ((k13.trans k4).trans (Kp.same s2)) (.tup upd_same (.cons (.str _) (.cons (Dt.keep (Tk.same s2) d4) (.cons (Dt.keep (Tk.same s2) (Dt.keep (Kp.tk P3 k4) d3)) .nil))))
end
end K1

set_option Elab.async false
set_option linter.all false
set_option maxRecDepth 100000
set_option maxHeartbeats 4000000
/-! What the law keeps while it draws a game (k01's K1R, with another bound of parts). -/
namespace K1
open PySem PySem.Spec PyProof.Rows L2 Kx Kd Kt Kh
def ScM (M : Nat) (nl : Addr) (C O D N : Nat) : List (Key × V) := [(Sum.inr "names", .ref nl), (Sum.inr "choose", .int C), (Sum.inr "come", .int O), (Sum.inr "draw", .int D), (Sum.inr "most", .int M), (Sum.inr "next", .int N)]
structure LM (M : Nat) (H : Hp) (p sc nl : Addr) (ns : List Str) (b : Int) (C O D N : Nat) : Prop where
  pool : PoolAt H p b
  scp : H sc = some (.dK (ScM M nl C O D N))
  nm : H nl = some (.lst (ns.map V.str))
  n1 : nl ≠ p
  n5 : ns.length ≤ 5
  m1 : 1 ≤ M
  m8 : M ≤ 8
section
variable {H H' : Hp} {M : Nat} {p sc nl : Addr} {ns : List Str} {b b' : Int} {C O D N : Nat}
theorem LM.kp (L : LM M H p sc nl ns b C O D N) (P : PoolAt H' p b') (k : Kp p H H') : LM M H' p sc nl ns b' C O D N := ⟨P, k _ _ L.scp (L.pool.neK L.scp), k _ _ L.nm L.n1, L.n1, L.n5, L.m1, L.m8⟩
theorem LM.same (L : LM M H p sc nl ns b C O D N) (s : Same H H') : LM M H' p sc nl ns b C O D N := ⟨L.pool.same s, s _ _ L.scp, s _ _ L.nm, L.n1, L.n5, L.m1, L.m8⟩
theorem LM.tk (L : LM M H p sc nl ns b C O D N) (k : Kq p sc H H') : Tk H H' := fun a xs e => k a _ e (L.pool.neT e) (ne_of e L.scp (by intro z; cases z))
theorem LM.put (L : LM M H p sc nl ns b C O D N) {C' O' D' N' : Nat} : LM M (upd H sc (.dK (ScM M nl C' O' D' N'))) p sc nl ns b C' O' D' N' := by
  have n := L.pool.neK L.scp
  obtain ⟨q, xs, i, c, z, t, PV⟩ := L.pool
  refine ⟨⟨q, xs, i, c, z, t, PV.ne, by rw [upd_ne n.symm]; exact PV.hp, by rw [upd_ne (ne_of PV.hq L.scp (by intro z; cases z))]; exact PV.hq, PV.i0, PV.s0, PV.s1⟩, upd_same, ?_, L.n1, L.n5, L.m1, L.m8⟩
  rw [upd_ne (ne_of L.nm L.scp (by intro z; cases z))]
  exact L.nm
/-- a list of one's own that wasn't there may change: it is not the pool's -/
theorem LM.own {H0 : Hp} {M : Nat} {p sc nl G : Addr} {ns : List Str} {b b' : Int} {C O D N C' O' D' N' : Nat} {o : HO} (L0 : LM M H0 p sc nl ns b C O D N) (hG : H0 G = none) {H : Hp} (k : Kq p sc H0 H) (L : LM M H p sc nl ns b' C' O' D' N') :
    LM M (upd H G o) p sc nl ns b' C' O' D' N' := by
  have nGp : G ≠ p := L0.pool.ne0 hG
  have nGs : G ≠ sc := (ne_of_none L0.scp hG).symm
  have nGn : G ≠ nl := (ne_of_none L0.nm hG).symm
  obtain ⟨q0, ns0, i0, c0, z0, t0, PV0⟩ := L0.pool
  obtain ⟨qq, xs, ii, c, z, t, PV⟩ := L.pool
  obtain ⟨r', e'⟩ := k.hd _ _ PV0.hp
  have nq : qq ≠ G := fun e => by
    have h := PV.hp
    rw [e'] at h
    injection h with h
    injection h with h
    injection h with h _
    injection h with h
    have h1 := PV0.hq
    rw [h, e, hG] at h1
    cases h1
  exact ⟨⟨qq, xs, ii, c, z, t, PV.ne, by rw [upd_ne nGp.symm]; exact PV.hp, by rw [upd_ne nq]; exact PV.hq, PV.i0, PV.s0, PV.s1⟩, by rw [upd_ne nGs.symm]; exact L.scp, by rw [upd_ne nGn.symm]; exact L.nm, L.n1, L.n5, L.m1, L.m8⟩
end
section
variable {H H' : Hp} {M : Nat} {p sc nl : Addr} {ns : List Str} {b b' : Int} {C O D N : Nat}
theorem sc_len (M : Nat) (nl : Addr) (C O D N : Nat) : (ScM M nl C O D N).length < sizeLine := by show 6 < sizeLine; decide
theorem LM.gNames (L : LM M H p sc nl ns b C O D N) : DGet H sc (.str "names") (some (.ref nl)) := DGet.k (k := Sum.inr "names") L.scp
theorem LM.gMost (L : LM M H p sc nl ns b C O D N) : DGet H sc (.str "most") (some (.int M)) := DGet.k (k := Sum.inr "most") L.scp
theorem LM.gNext (L : LM M H p sc nl ns b C O D N) : DGet H sc (.str "next") (some (.int N)) := DGet.k (k := Sum.inr "next") L.scp
theorem LM.pNext (L : LM M H p sc nl ns b C O D N) : DPut H sc (.str "next") (.int ((N : Int) + 1)) (upd H sc (.dK (ScM M nl C O D (N + 1)))) := DPut.k (k := Sum.inr "next") L.scp (sc_len _ _ _ _ _ _)
theorem LM.word (L : LM M H p sc nl ns b C O D N) {w : Str} (hw : w = "choose" ∨ w = "come" ∨ w = "draw") : ∃ cw : Nat, DGet H sc (.str w) (some (.int cw)) ∧ (0 < cw → ∃ C' O' D' : Nat, C' + O' + D' + 1 = C + O + D ∧
    DPut H sc (.str w) (.int ((cw : Int) - 1)) (upd H sc (.dK (ScM M nl C' O' D' N)))) := by
  rcases hw with rfl | rfl | rfl
  · refine ⟨C, DGet.k (k := Sum.inr "choose") L.scp, fun h => ⟨C - 1, O, D, by omega, ?_⟩⟩
    have e : (C : Int) - 1 = ((C - 1 : Nat) : Int) := by omega
    rw [e]
    exact DPut.k (k := Sum.inr "choose") (v := .int ((C - 1 : Nat) : Int)) L.scp (sc_len _ _ _ _ _ _)
  · refine ⟨O, DGet.k (k := Sum.inr "come") L.scp, fun h => ⟨C, O - 1, D, by omega, ?_⟩⟩
    have e : (O : Int) - 1 = ((O - 1 : Nat) : Int) := by omega
    rw [e]
    exact DPut.k (k := Sum.inr "come") (v := .int ((O - 1 : Nat) : Int)) L.scp (sc_len _ _ _ _ _ _)
  · refine ⟨D, DGet.k (k := Sum.inr "draw") L.scp, fun h => ⟨C, O, D - 1, by omega, ?_⟩⟩
    have e : (D : Int) - 1 = ((D - 1 : Nat) : Int) := by omega
    rw [e]
    exact DPut.k (k := Sum.inr "draw") (v := .int ((D - 1 : Nat) : Int)) L.scp (sc_len _ _ _ _ _ _)
def WDS : List Str := ["choose", "come", "draw", "choose", "come", "choose"]
theorem wds {w : Str} (h : w ∈ WDS) : w = "choose" ∨ w = "come" ∨ w = "draw" := by
  simp only [WDS, List.mem_cons, List.not_mem_nil, or_false] at h
  rcases h with h | h | h | h | h | h
  · exact .inl h
  · exact .inr (.inl h)
  · exact .inr (.inr h)
  · exact .inl h
  · exact .inr (.inl h)
  · exact .inl h
end
end K1

set_option Elab.async false
set_option linter.all false
set_option maxRecDepth 100000
set_option maxHeartbeats 4000000
/-! _law_statement. -/
namespace K1
open PySem PySem.Spec PyProof.Rows L2 Kx Kd Kt Kh
abbrev sSta : Stmt := top 40
abbrev sBlo : Stmt := top 41
def StaPost (M : Nat) (ns : List Str) (room : Nat) (p sc nl : Addr) (H : Hp) (Q : VK) (b : Int) (C O D N : Nat) : Prop := ∀ (v : V) (x : Sm) (H' : Hp) (b' : Int) (C' O' D' N' : Nat), x.vl ns room N → x.chs + (C' + O' + D') = C + O + D → N' = N + x.mvs → x.cnt + b'.toNat ≤ b.toNat + 1 →
  LM M H' p sc nl ns b' C' O' D' N' → Kq p sc H H' → Dt H' v x.d → Q v H'
def BloPost (M : Nat) (ns : List Str) (room : Nat) (p sc nl : Addr) (H : Hp) (Q : VK) (b : Int) (C O D N : Nat) : Prop := ∀ (v : V) (x : Bk) (H' : Hp) (b' : Int) (C' O' D' N' : Nat), x.vl ns room N → x.chs + (C' + O' + D') = C + O + D → N' = N + x.mvs → x.cnt + b'.toNat ≤ b.toNat →
  LM M H' p sc nl ns b' C' O' D' N' → Kq p sc H H' → Dt H' v (.tuple x.ds) → Q v H'
def spSta (r : Nat) : Sp := fun vs H Q _ => ∃ (M : Nat) (p sc nl : Addr) (ns : List Str) (room : Nat) (b : Int) (C O D N : Nat), vs = [.ref p, .ref sc, .int (room : Int)] ∧ room ≤ r ∧ LM M H p sc nl ns b C O D N ∧ StaPost M ns room p sc nl H Q b C O D N
def spBlo (r : Nat) : Sp := fun vs H Q _ => ∃ (M : Nat) (p sc nl : Addr) (ns : List Str) (room : Nat) (most : Int) (b : Int) (C O D N : Nat), vs = [.ref p, .ref sc, .int (room : Int), .int most] ∧ room ≤ r ∧ 0 ≤ most ∧ most ≤ 9 ∧ LM M H p sc nl ns b C O D N ∧ BloPost M ns room p sc nl H Q b C O D N
section
variable {P : Program} {w : World} {K : PySem.W.Frag} {mg : Str → Option Value} {base : Heap} {fD fV fB fE : Addr} {dD dV dB dE : FuncData}
theorem scSta : FnScope ["pool", "scope", "room", "kind", "names", "word", "row", "test", "then"] ["pool", "scope", "room"] (defScope sSta) := ⟨rfl, rfl, rfl, by decide +kernel, rfl, by decide +kernel, by decide +kernel⟩
theorem sta7 {k : Nat} (hk : 9 ≤ k) {f : Addr} (T : TxL mg) (D1 : Fn0 P w K mg base 1 "_law_draw" ["pool", "size"] spDraw fD dD) (V1 : Fn0 P w K mg base 9 "_law_value" ["pool", "names", "deep"] (spVal 2) fV dV)
    {cdv : Value} {A : Around} {outer : List Env} {s : Shared} {H : Hp} {Q : VK} {E : XK} (hr : Room k (A.deeper (envOfC "_law_statement" (defScope sSta) s.heap.objs.size f cdv))) {M : Nat} {p sc nl : Addr} {ns : List Str} {room : Nat} {b : Int} {C O D N : Nat}
    (q : StaPost M ns room p sc nl H Q b C O D N) :
    ∃ t, PSs (cxOf CX0 P w K mg base ["pool", "scope", "room", "kind", "names", "word", "row", "test", "then"] "_law_statement" (defScope sSta) f cdv A outer s H E).nox ((defBody sSta).drop 7) t ∧
      ∀ (H' : Hp) (v2 v5 v6 v7 v8 : Option V) (kd : Int), v2 = some (.int (room : Int)) → LM M H' p sc nl ns b C O D N → Kq p sc H H' → t { nx := fun _ H' => Q .non H', rt := Q } [some (.ref p), some (.ref sc), v2, some (.int kd), some (.ref nl), v5, v6, v7, v8] H' := by
  have hr1 : Room 1 _ := hr.mono (by omega)
  have hr9 : Room 9 _ := hr.mono hk
  refine ⟨_, pss_one (ps_ret (pe_tup (pa_cons (pe_ix ix_tup (pe_tup (pa_cons pe_str (pa_cons pe_str (pa_cons pe_str pa_nil)))) (pe_call D1.ok hr1 (by rfl) D1.gl D1.kp D1.bd .nil pass0 (pa_cons (pv 0) (pa_cons pe_int pa_nil))) (fun _ _ => rfl)) (pa_cons (pe_call V1.ok hr9 (by rfl) V1.gl V1.kp V1.bd .nil pass0 (pa_cons (pv 0) (pa_cons (pv 4) (pa_cons pe_int pa_nil)))) pa_nil)))), fun H1 v2 v5 v6 v7 v8 kd e2 L1 k1 => ?_⟩
  refine ⟨(by show 3 ≤ sizeLine; decide), fun tp htp => ?_⟩
  have s1 := same_upd (o := .tup [.str ("pay" : Str), .str ("pay" : Str), .str ("take" : Str)]) htp
  have L2 := L1.same s1
  refine ⟨_, rfl, p, 3, b, rfl, L2.pool, by decide, by decide, fun j H2 j0 j1 P2 k2 => ?_⟩
  have e3 : H2 tp = some (.tup ([("pay" : Str), "pay", "take"].map V.str)) := k2 _ _ upd_same (L1.pool.ne0 htp)
  obtain ⟨kw, hkw, ekw⟩ := atS (xs := [("pay" : Str), "pay", "take"]) j0 j1
  have L3 := L2.kp P2 k2
  refine ⟨tp, _, _, _, rfl, rfl, SqT.of e3, ekw, ?_⟩
  refine ⟨_, rfl, _, rfl, p, nl, ns, 2, b, rfl, L3.pool, L3.n1, L3.nm, L3.n5, by decide, fun v9 e9 H5 ve P5 k5 de => ?_⟩
  have L5 := L3.kp P5 k5
  have kv : Kq p sc H2 H5 := Kq.kp k5
  have hpk : kw = "pay" ∨ kw = "take" := by
    simp only [List.mem_cons, List.not_mem_nil, or_false] at hkw
    rcases hkw with h | h | h
    · exact .inl h
    · exact .inl h
    · exact .inr h
  refine ⟨(by show 2 ≤ sizeLine; decide), fun r hr' => ?_⟩
  have s9 := same_upd (o := .tup [.str kw, v9]) hr'
  refine q (.ref r) (.pay kw e9) _ b C O D N ⟨hpk, Ex.vl_le (by decide) ve⟩ (by show 0 + _ = _; omega) rfl (by show 1 + _ ≤ _; omega) (L5.same s9) ((((k1.trans (Kq.same s1)).trans (Kq.kp k2)).trans kv).trans (Kq.same s9)) (.tup upd_same (.cons (.str _) (.cons (Dt.keep (Tk.same s9) de) .nil)))
theorem sta6 {k : Nat} (hk : 9 ≤ k) {f : Addr} (T : TxL mg) (D1 : Fn0 P w K mg base 1 "_law_draw" ["pool", "size"] spDraw fD dD) (V1 : Fn0 P w K mg base 9 "_law_value" ["pool", "names", "deep"] (spVal 2) fV dV)
    (DP : Fn0 P w K mg base 9 "_law_deep" ["pool", "names", "deep"] (spDeep 4) fE dE) {cdv : Value} {A : Around} {outer : List Env} {s : Shared} {H : Hp} {Q : VK} {E : XK} (hr : Room k (A.deeper (envOfC "_law_statement" (defScope sSta) s.heap.objs.size f cdv))) {M : Nat} {p sc nl : Addr} {ns : List Str} {room : Nat} {b : Int} {C O D N : Nat}
    (q : StaPost M ns room p sc nl H Q b C O D N) :
    ∃ t, PSs (cxOf CX0 P w K mg base ["pool", "scope", "room", "kind", "names", "word", "row", "test", "then"] "_law_statement" (defScope sSta) f cdv A outer s H E).nox ((defBody sSta).drop 6) t ∧
      ∀ (H' : Hp) (v2 v5 v6 v7 v8 : Option V) (kd : Int), v2 = some (.int (room : Int)) → LM M H' p sc nl ns b C O D N → Kq p sc H H' → t { nx := fun _ H' => Q .non H', rt := Q } [some (.ref p), some (.ref sc), v2, some (.int kd), some (.ref nl), v5, v6, v7, v8] H' := by
  have hr1 : Room 1 _ := hr.mono (by omega)
  have hr9 : Room 9 _ := hr.mono hk
  obtain ⟨t, ht, last⟩ := sta7 (outer := outer) (E := E) hk T D1 V1 hr q
  refine ⟨_, pss_cons (ps_if (pt_cmpR op_eq (pe_call D1.ok hr1 (by rfl) D1.gl D1.kp D1.bd .nil pass0 (pa_cons (pv 0) (pa_cons pe_int pa_nil))) pe_int (nomark _))
      (pss_one (ps_ret (pe_tup (pa_cons (pe_ix ix_tup (pe_tup (pa_cons pe_str (pa_cons pe_str pa_nil))) (pe_call D1.ok hr1 (by rfl) D1.gl D1.kp D1.bd .nil pass0 (pa_cons (pv 0) (pa_cons pe_int pa_nil))) (fun _ _ => rfl)) (pa_cons (pe_call DP.ok hr9 (by rfl) DP.gl DP.kp DP.bd .nil pass0 (pa_cons (pv 0) (pa_cons (pv 4) (pa_cons pe_int pa_nil)))) pa_nil))))) pss_nil) ht, fun H1 v2 v5 v6 v7 v8 kd e2 L1 k1 => ?_⟩
  refine ⟨_, rfl, p, 3, b, rfl, L1.pool, by decide, by decide, fun j0 H1b _ _ P1b k1b => ⟨rfl, _, rfl, ite2 (fun _ => ?_) (fun _ => last _ _ _ _ _ _ _ e2 (L1.kp P1b k1b) (k1.trans (Kq.kp k1b)))⟩⟩
  have L1b := L1.kp P1b k1b
  refine ⟨(by show 2 ≤ sizeLine; decide), fun tp htp => ?_⟩
  have s1 := same_upd (o := .tup [.str ("pay" : Str), .str ("take" : Str)]) htp
  have L2 := L1b.same s1
  refine ⟨_, rfl, p, 2, b, rfl, L2.pool, by decide, by decide, fun j H2 j0 j1 P2 k2 => ?_⟩
  have e3 : H2 tp = some (.tup ([("pay" : Str), "take"].map V.str)) := k2 _ _ upd_same (L1b.pool.ne0 htp)
  obtain ⟨kw, hkw, ekw⟩ := atS (xs := [("pay" : Str), "take"]) j0 j1
  have L3 := L2.kp P2 k2
  refine ⟨tp, _, _, _, rfl, rfl, SqT.of e3, ekw, ?_⟩
  refine ⟨_, rfl, _, rfl, p, nl, ns, 4, b, rfl, L3.pool, L3.n1, L3.nm, L3.n5, by decide, fun v9 e9 H5 ve P5 k5 de => ?_⟩
  have L5 := L3.kp P5 k5
  have hpk : kw = "pay" ∨ kw = "take" := by
    simp only [List.mem_cons, List.not_mem_nil, or_false] at hkw
    exact hkw
  refine ⟨(by show 2 ≤ sizeLine; decide), fun r hr' => ?_⟩
  have s9 := same_upd (o := .tup [.str kw, v9]) hr'
  refine q (.ref r) (.pay kw e9) _ b C O D N ⟨hpk, Ex.vl_le (by decide) ve⟩ (by show 0 + _ = _; omega) rfl (by show 1 + _ ≤ _; omega) (L5.same s9) ((((((k1.trans (Kq.kp k1b)).trans (Kq.same s1)).trans (Kq.kp k2)).trans (Kq.kp k5))).trans (Kq.same s9)) (.tup upd_same (.cons (.str _) (.cons (Dt.keep (Tk.same s9) de) .nil)))
theorem sta5 {k : Nat} (hk : 9 ≤ k) {f : Addr} (T : TxL mg) (D1 : Fn0 P w K mg base 1 "_law_draw" ["pool", "size"] spDraw fD dD) (V1 : Fn0 P w K mg base 9 "_law_value" ["pool", "names", "deep"] (spVal 2) fV dV)
    (DP : Fn0 P w K mg base 9 "_law_deep" ["pool", "names", "deep"] (spDeep 4) fE dE) {cdv : Value} {A : Around} {outer : List Env} {s : Shared} {H : Hp} {Q : VK} {E : XK} (hr : Room k (A.deeper (envOfC "_law_statement" (defScope sSta) s.heap.objs.size f cdv))) {M : Nat} {p sc nl : Addr} {ns : List Str} {room : Nat} {b : Int} {C O D N : Nat}
    (q : StaPost M ns room p sc nl H Q b C O D N) :
    ∃ t, PSs (cxOf CX0 P w K mg base ["pool", "scope", "room", "kind", "names", "word", "row", "test", "then"] "_law_statement" (defScope sSta) f cdv A outer s H E).nox ((defBody sSta).drop 5) t ∧
      ∀ (H' : Hp) (v2 v5 v6 v7 v8 : Option V) (kd : Int), v2 = some (.int (room : Int)) → LM M H' p sc nl ns b C O D N → Kq p sc H H' → t { nx := fun _ H' => Q .non H', rt := Q } [some (.ref p), some (.ref sc), v2, some (.int kd), some (.ref nl), v5, v6, v7, v8] H' := by
  have hr1 : Room 1 _ := hr.mono (by omega)
  have hr9 : Room 9 _ := hr.mono hk
  obtain ⟨t, ht, last⟩ := sta6 (outer := outer) (E := E) hk T D1 V1 DP hr q
  refine ⟨_, pss_cons (ps_if (pt_cmpR op_lt (pv 3) pe_int (nomark _)) (pss_one (ps_ret (pe_tup (pa_cons pe_str (pa_cons (pe_ix ix_tup (pe_tup (pa_cons pe_str (pa_cons pe_str pa_nil))) (pe_call D1.ok hr1 (by rfl) D1.gl D1.kp D1.bd .nil pass0 (pa_cons (pv 0) (pa_cons pe_int pa_nil))) (fun _ _ => rfl)) (pa_cons (pe_call V1.ok hr9 (by rfl) V1.gl V1.kp V1.bd .nil pass0 (pa_cons (pv 0) (pa_cons (pv 4) (pa_cons pe_int pa_nil)))) pa_nil)))))) pss_nil) ht, fun H1 v2 v5 v6 v7 v8 kd e2 L1 k1 => ?_⟩
  refine ⟨_, rfl, _, _, rfl, rfl, _, rfl, ite2 (fun _ => ?_) (fun _ => last _ _ _ _ _ _ _ e2 L1 k1)⟩
  refine ⟨(by show 2 ≤ sizeLine; decide), fun tp htp => ?_⟩
  have s1 := same_upd (o := .tup [.str ("chooser" : Str), .str ("comer" : Str)]) htp
  have L2 := L1.same s1
  refine ⟨_, rfl, p, 2, b, rfl, L2.pool, by decide, by decide, fun j H2 j0 j1 P2 k2 => ?_⟩
  have e3 : H2 tp = some (.tup (SEATS.map V.str)) := k2 _ _ upd_same (L1.pool.ne0 htp)
  obtain ⟨kw, hkw, ekw⟩ := atS (xs := SEATS) j0 j1
  have L3 := L2.kp P2 k2
  refine ⟨tp, _, _, _, rfl, rfl, SqT.of e3, ekw, ?_⟩
  refine ⟨_, rfl, _, rfl, p, nl, ns, 1, b, rfl, L3.pool, L3.n1, L3.nm, L3.n5, by decide, fun v9 e9 H5 ve P5 k5 de => ?_⟩
  have L5 := L3.kp P5 k5
  have kv : Kq p sc H2 H5 := Kq.kp k5
  refine ⟨(by show 3 ≤ sizeLine; decide), fun r hr' => ?_⟩
  have s9 := same_upd (o := .tup [.str ("show" : Str), .str kw, v9]) hr'
  refine q (.ref r) (.show_ kw e9) _ b C O D N ⟨List.contains_iff_mem.mpr hkw, Ex.vl_le (by decide) ve⟩ (by show 0 + _ = _; omega) rfl (by show 1 + _ ≤ _; omega) (L5.same s9) ((((k1.trans (Kq.same s1)).trans (Kq.kp k2)).trans kv).trans (Kq.same s9)) (.tup upd_same (.cons (.str _) (.cons (.str _) (.cons (Dt.keep (Tk.same s9) de) .nil))))
theorem sta4 {k : Nat} (hk : 9 ≤ k) {f : Addr} (T : TxL mg) (D1 : Fn0 P w K mg base 1 "_law_draw" ["pool", "size"] spDraw fD dD) (V1 : Fn0 P w K mg base 9 "_law_value" ["pool", "names", "deep"] (spVal 2) fV dV)
    (DP : Fn0 P w K mg base 9 "_law_deep" ["pool", "names", "deep"] (spDeep 4) fE dE) {cdv : Value} {A : Around} {outer : List Env} {s : Shared} {H : Hp} {Q : VK} {E : XK} (hr : Room k (A.deeper (envOfC "_law_statement" (defScope sSta) s.heap.objs.size f cdv))) {M : Nat} {p sc nl : Addr} {ns : List Str} {room : Nat} {b : Int} {C O D N : Nat}
    (q : StaPost M ns room p sc nl H Q b C O D N) :
    ∃ t, PSs (cxOf CX0 P w K mg base ["pool", "scope", "room", "kind", "names", "word", "row", "test", "then"] "_law_statement" (defScope sSta) f cdv A outer s H E).nox ((defBody sSta).drop 4) t ∧
      ∀ (H' : Hp) (v2 v5 v6 v7 v8 : Option V) (kd : Int), v2 = some (.int (room : Int)) → LM M H' p sc nl ns b C O D N → Kq p sc H H' → t { nx := fun _ H' => Q .non H', rt := Q } [some (.ref p), some (.ref sc), v2, some (.int kd), some (.ref nl), v5, v6, v7, v8] H' := by
  have hr1 : Room 1 _ := hr.mono (by omega)
  have hr9 : Room 9 _ := hr.mono hk
  obtain ⟨t, ht, last⟩ := sta5 (outer := outer) (E := E) hk T D1 V1 DP hr q
  refine ⟨_, pss_cons (ps_if (PW.pt (pw_and (pt_cmpR op_eq (pv 3) pe_int (nomark _)) (pw_and1 (pt_cmpR op_gt (pe_callB call_len_seq (by rfl) T.len PySem.boot_len (pa_cons (pv 4) pa_nil)) pe_int (nomark _))))) (pss_one (ps_ret (pe_tup (pa_cons pe_str (pa_cons (pe_ix ix_list (pv 4) (pe_call D1.ok hr1 (by rfl) D1.gl D1.kp D1.bd .nil pass0 (pa_cons (pv 0) (pa_cons (pe_callB call_len_seq (by rfl) T.len PySem.boot_len (pa_cons (pv 4) pa_nil)) pa_nil))) (fun _ _ => rfl)) (pa_cons (pe_call V1.ok hr9 (by rfl) V1.gl V1.kp V1.bd .nil pass0 (pa_cons (pv 0) (pa_cons (pv 4) (pa_cons pe_int pa_nil)))) pa_nil)))))) pss_nil) ht, fun H1 v2 v5 v6 v7 v8 kd e2 L1 k1 => ?_⟩
  refine ⟨_, rfl, rfl, _, rfl, ite2 (fun _ => ?_) (fun _ => iteF (last _ _ _ _ _ _ _ e2 L1 k1))⟩
  refine ⟨_, rfl, nl, _, rfl, .inl (SqL.of L1.nm), _, _, rfl, rfl, _, rfl, ite2 (fun y => ?_) (fun _ => last _ _ _ _ _ _ _ e2 L1 k1)⟩
  have y := of_decide_eq_true y
  rw [List.length_map] at y
  have h5 := L1.n5
  refine ⟨_, rfl, _, rfl, _, rfl, nl, _, rfl, .inl (SqL.of L1.nm), p, _, b, rfl, L1.pool, by rw [List.length_map]; omega, by rw [List.length_map]; omega, fun j H2 j0 j1 P2 k2 => ?_⟩
  rw [List.length_map] at j1
  obtain ⟨x, hx, ex⟩ := atS (xs := ns) j0 j1
  have L3 := L1.kp P2 k2
  refine ⟨nl, _, _, _, rfl, rfl, SqL.of L3.nm, ex, ?_⟩
  refine ⟨_, rfl, _, rfl, p, nl, ns, 2, b, rfl, L3.pool, L3.n1, L3.nm, L3.n5, by decide, fun v9 e9 H5 ve P5 k5 de => ?_⟩
  have L5 := L3.kp P5 k5
  have kv : Kq p sc H2 H5 := Kq.kp k5
  refine ⟨(by show 3 ≤ sizeLine; decide), fun r hr' => ?_⟩
  have s9 := same_upd (o := .tup [.str ("set" : Str), .str x, v9]) hr'
  refine q (.ref r) (.set x e9) _ b C O D N ⟨hx, Ex.vl_le (by decide) ve⟩ (by show 0 + _ = _; omega) rfl (by show 1 + _ ≤ _; omega) (L5.same s9) (((k1.trans (Kq.kp k2)).trans kv).trans (Kq.same s9)) (.tup upd_same (.cons (.str _) (.cons (.str _) (.cons (Dt.keep (Tk.same s9) de) .nil))))
theorem sta3_0 {k : Nat} (hk : 9 ≤ k) {f : Addr} (T : TxL mg) (D1 : Fn0 P w K mg base 1 "_law_draw" ["pool", "size"] spDraw fD dD) (V1 : Fn0 P w K mg base 9 "_law_value" ["pool", "names", "deep"] (spVal 2) fV dV)
    (DP : Fn0 P w K mg base 9 "_law_deep" ["pool", "names", "deep"] (spDeep 4) fE dE) {cdv : Value} {A : Around} {outer : List Env} {s : Shared} {H : Hp} {Q : VK} {E : XK} (hr : Room k (A.deeper (envOfC "_law_statement" (defScope sSta) s.heap.objs.size f cdv))) {M : Nat} {p sc nl : Addr} {ns : List Str} {room : Nat} {b : Int} {C O D N : Nat}
    (q : StaPost M ns room p sc nl H Q b C O D N) (h0 : room = 0) :
    ∃ t, PSs (cxOf CX0 P w K mg base ["pool", "scope", "room", "kind", "names", "word", "row", "test", "then"] "_law_statement" (defScope sSta) f cdv A outer s H E).nox ((defBody sSta).drop 3) t ∧
      ∀ (H' : Hp) (v2 v5 v6 v7 v8 : Option V) (kd : Int), v2 = some (.int (room : Int)) → LM M H' p sc nl ns b C O D N → Kq p sc H H' → t { nx := fun _ H' => Q .non H', rt := Q } [some (.ref p), some (.ref sc), v2, some (.int kd), some (.ref nl), v5, v6, v7, v8] H' := by
  have hr1 : Room 1 _ := hr.mono (by omega)
  have hr9 : Room 9 _ := hr.mono hk
  obtain ⟨t, ht, last⟩ := sta4 (outer := outer) (E := E) hk T D1 V1 DP hr q
  refine ⟨_, pss_cons (ps_if (PW.pt (pw_and (pt_cmpR op_lt (pv 3) pe_int (nomark _)) (pw_and1 (pt_cmpR op_gt (pv 2) pe_int (nomark _))))) (pss_cons ps_never (pss_cons ps_never (pss_one ps_never))) pss_nil) ht, fun H1 v2 v5 v6 v7 v8 kd e2 L1 k1 => ?_⟩
  subst e2
  refine ⟨_, rfl, _, _, rfl, rfl, _, rfl, ite2 (fun _ => ?_) (fun _ => iteF (last _ _ _ _ _ _ _ rfl L1 k1))⟩
  refine ⟨_, rfl, _, _, rfl, rfl, _, rfl, ite2 (fun y => ?_) (fun _ => last _ _ _ _ _ _ _ rfl L1 k1)⟩
  have y := of_decide_eq_true y
  exact absurd y (by omega)
theorem sta3_S {rr : Nat} {k : Nat} (hk : 9 ≤ k) {f : Addr} (T : TxL mg) (D1 : Fn0 P w K mg base 1 "_law_draw" ["pool", "size"] spDraw fD dD) (V1 : Fn0 P w K mg base 9 "_law_value" ["pool", "names", "deep"] (spVal 2) fV dV)
    (B1 : Fn0 P w K mg base k "_law_block" ["pool", "scope", "room", "most"] (spBlo rr) fB dB)
    (DP : Fn0 P w K mg base 9 "_law_deep" ["pool", "names", "deep"] (spDeep 4) fE dE) {cdv : Value} {A : Around} {outer : List Env} {s : Shared} {H : Hp} {Q : VK} {E : XK} (hr : Room k (A.deeper (envOfC "_law_statement" (defScope sSta) s.heap.objs.size f cdv))) {M : Nat} {p sc nl : Addr} {ns : List Str} {room : Nat} {b : Int} {C O D N : Nat}
    (q : StaPost M ns room p sc nl H Q b C O D N) (h0 : room ≤ rr + 1) :
    ∃ t, PSs (cxOf CX0 P w K mg base ["pool", "scope", "room", "kind", "names", "word", "row", "test", "then"] "_law_statement" (defScope sSta) f cdv A outer s H E).nox ((defBody sSta).drop 3) t ∧
      ∀ (H' : Hp) (v2 v5 v6 v7 v8 : Option V) (kd : Int), v2 = some (.int (room : Int)) → LM M H' p sc nl ns b C O D N → Kq p sc H H' → t { nx := fun _ H' => Q .non H', rt := Q } [some (.ref p), some (.ref sc), v2, some (.int kd), some (.ref nl), v5, v6, v7, v8] H' := by
  have hr1 : Room 1 _ := hr.mono (by omega)
  have hr9 : Room 9 _ := hr.mono hk
  obtain ⟨t, ht, last⟩ := sta4 (outer := outer) (E := E) hk T D1 V1 DP hr q
  refine ⟨_, pss_cons (ps_if (PW.pt (pw_and (pt_cmpR op_lt (pv 3) pe_int (nomark _)) (pw_and1 (pt_cmpR op_gt (pv 2) pe_int (nomark _))))) (pss_cons (ps_set (i := 7) scSta.nd rfl (Or.inl rfl) (pe_call V1.ok hr9 (by rfl) V1.gl V1.kp V1.bd .nil pass0 (pa_cons (pv 0) (pa_cons (pv 4) (pa_cons pe_int pa_nil))))) (pss_cons (ps_set (i := 8) scSta.nd rfl (Or.inl rfl) (pe_call B1.ok hr (by rfl) B1.gl B1.kp B1.bd .nil pass0 (pa_cons (pv 0) (pa_cons (pv 1) (pa_cons (pe_op op_sub (pv 2) pe_int) (pa_cons pe_int pa_nil))))))
    (pss_one (ps_ret (pe_tup (pa_cons pe_str (pa_cons (pv 7) (pa_cons (pv 8) (pa_cons (pe_call B1.ok hr (by rfl) B1.gl B1.kp B1.bd .nil pass0 (pa_cons (pv 0) (pa_cons (pv 1) (pa_cons (pe_op op_sub (pv 2) pe_int) (pa_cons pe_int pa_nil))))) pa_nil))))))))) pss_nil) ht, fun H1 v2 v5 v6 v7 v8 kd e2 L1 k1 => ?_⟩
  subst e2
  refine ⟨_, rfl, _, _, rfl, rfl, _, rfl, ite2 (fun _ => ?_) (fun _ => iteF (last _ _ _ _ _ _ _ rfl L1 k1))⟩
  refine ⟨_, rfl, _, _, rfl, rfl, _, rfl, ite2 (fun y => ?_) (fun _ => last _ _ _ _ _ _ _ rfl L1 k1)⟩
  have y := of_decide_eq_true y
  obtain ⟨rm, rfl⟩ : ∃ rm, room = rm + 1 := ⟨room - 1, by omega⟩
  have em : ((rm + 1 : Nat) : Int) - 1 = (rm : Int) := by omega
  refine ⟨_, rfl, _, rfl, p, nl, ns, 1, b, rfl, L1.pool, L1.n1, L1.nm, L1.n5, by decide, fun v9 e9 H5 ve P5 k5 de => ?_⟩
  have L5 := L1.kp P5 k5
  have kv : Kq p sc H1 H5 := Kq.kp k5
  refine ⟨_, rfl, _, rfl, _, rfl, _, _, rfl, rfl, M, p, sc, nl, ns, rm, 3, b, C, O, D, N, congrArg (fun z => [V.ref p, V.ref sc, V.int z, V.int 3]) em, by omega, by decide, by decide, L5, fun va a H6 b1 C1 O1 D2 N1 vl1 ch1 mv1 ct1 L6 k6 d6 => ?_⟩
  refine ⟨_, rfl, _, rfl, _, rfl, _, rfl, _, rfl, _, _, rfl, rfl, M, p, sc, nl, ns, rm, 2, b1, C1, O1, D2, N1, congrArg (fun z => [V.ref p, V.ref sc, V.int z, V.int 2]) em, by omega, by decide, by decide, L6, fun vb a2 H7 b2 C2 O2 D3 N2 vl2 ch2 mv2 ct2 L7 k7 d7 => ⟨(by show 4 ≤ sizeLine; decide), fun r hr' => ?_⟩⟩
  have s9 := same_upd (o := .tup [.str ("if" : Str), v9, va, vb]) hr'
  subst mv1
  refine q (.ref r) (.ifs e9 a a2) _ b2 C2 O2 D3 N2 ⟨Ex.vl_le (by decide) ve, rm, rfl, vl1, vl2⟩ (by show a.chs + a2.chs + _ = _; omega) (by show N2 = N + (a.mvs + a2.mvs); omega) (by show 1 + a.cnt + a2.cnt + _ ≤ _; omega) (L7.same s9) ((((k1.trans kv).trans k6).trans k7).trans (Kq.same s9)) ?_
  exact .tup upd_same (.cons (.str _) (.cons (Dt.keep (Tk.same s9) (Dt.keep (L6.tk k7) (Dt.keep (L5.tk k6) de))) (.cons (Dt.keep (Tk.same s9) (Dt.keep (L6.tk k7) d6)) (.cons (Dt.keep (Tk.same s9) d7) .nil))))
end
end K1

set_option Elab.async false
set_option linter.all false
set_option maxRecDepth 100000
set_option maxHeartbeats 4000000
/-! _law_statement, whole. -/
namespace K1
open PySem PySem.Spec PyProof.Rows L2 Kx Kd Kt Kh
section
variable {P : Program} {w : World} {K : PySem.W.Frag} {mg : Str → Option Value} {base : Heap} {fD fV fB fE : Addr} {dD dV dB dE : FuncData}
theorem sta2 {k : Nat} (hk : 9 ≤ k) {f : Addr} (T : TxL mg) (D1 : Fn0 P w K mg base 1 "_law_draw" ["pool", "size"] spDraw fD dD)
    {cdv : Value} {A : Around} {outer : List Env} {s : Shared} {H : Hp} {Q : VK} {E : XK} (hr : Room k (A.deeper (envOfC "_law_statement" (defScope sSta) s.heap.objs.size f cdv))) {M : Nat} {p sc nl : Addr} {ns : List Str} {room : Nat} {b : Int} {C O D N : Nat}
    (q : StaPost M ns room p sc nl H Q b C O D N)
    (h3 : ∃ t, PSs (cxOf CX0 P w K mg base ["pool", "scope", "room", "kind", "names", "word", "row", "test", "then"] "_law_statement" (defScope sSta) f cdv A outer s H E).nox ((defBody sSta).drop 3) t ∧
      ∀ (H' : Hp) (v2 v5 v6 v7 v8 : Option V) (kd : Int), v2 = some (.int (room : Int)) → LM M H' p sc nl ns b C O D N → Kq p sc H H' → t { nx := fun _ H' => Q .non H', rt := Q } [some (.ref p), some (.ref sc), v2, some (.int kd), some (.ref nl), v5, v6, v7, v8] H') :
    ∃ t, PSs (cxOf CX0 P w K mg base ["pool", "scope", "room", "kind", "names", "word", "row", "test", "then"] "_law_statement" (defScope sSta) f cdv A outer s H E).nox ((defBody sSta).drop 2) t ∧
      ∀ (H' : Hp) (v2 v5 v6 v7 v8 : Option V) (kd : Int), v2 = some (.int (room : Int)) → LM M H' p sc nl ns b C O D N → Kq p sc H H' → 0 ≤ kd → t { nx := fun _ H' => Q .non H', rt := Q } [some (.ref p), some (.ref sc), v2, some (.int kd), some (.ref nl), v5, v6, v7, v8] H' := by
  have hr1 : Room 1 _ := hr.mono (by omega)
  have hu := hu_r hr
  obtain ⟨t, ht, last⟩ := h3
  refine ⟨_, pss_cons (ps_if (PW.pt (pw_and (pt_cmpR op_lt (pv 3) pe_int (nomark _)) (pw_and1 (pt_cmpR op_gt (pe_callB call_len_seq (by rfl) T.len PySem.boot_len (pa_cons (pv 4) pa_nil)) pe_int (nomark _)))))
      (pss_cons (ps_set (i := 5) scSta.nd rfl (Or.inl rfl) (pe_ix ix_tup (pe_tup (pa_cons pe_str (pa_cons pe_str (pa_cons pe_str (pa_cons pe_str (pa_cons pe_str (pa_cons pe_str pa_nil))))))) (pv 3) (fun _ _ => rfl)))
      (pss_one (ps_if (pt_cmpR op_gt (pe_dget hu (pv 1) (pv 5) (fun _ _ => rfl)) pe_int (nomark _))
        (pss_cons (ps_dput hu (pv 1) (pv 5) (pe_op op_sub (pe_dget hu (pv 1) (pv 5) (fun _ _ => rfl)) pe_int) rfl)
        (pss_cons (ps_set (i := 6) scSta.nd rfl (Or.inl rfl) (pe_tup (pa_cons (pv 5) (pa_cons (pe_ix ix_list (pv 4) (pe_call D1.ok hr1 (by rfl) D1.gl D1.kp D1.bd .nil pass0 (pa_cons (pv 0) (pa_cons (pe_callB call_len_seq (by rfl) T.len PySem.boot_len (pa_cons (pv 4) pa_nil)) pa_nil))) (fun _ _ => rfl)) (pa_cons (pe_op op_add pe_int (pe_call D1.ok hr1 (by rfl) D1.gl D1.kp D1.bd .nil pass0 (pa_cons (pv 0) (pa_cons (pe_dget hu (pv 1) pe_str (fun _ _ => rfl)) pa_nil)))) pa_nil)))))
        (pss_cons (ps_if (pt_cmpR op_eq (pv 5) pe_str (nomark _)) (pss_one (ps_ret (pv 6))) pss_nil)
        (pss_cons (ps_dput hu (pv 1) pe_str (pe_op op_add (pe_dget hu (pv 1) pe_str (fun _ _ => rfl)) pe_int) rfl)
        (pss_one (ps_ret (pe_op op_catT (pv 6) (pe_tup (pa_cons (pe_op op_sub (pe_dget hu (pv 1) pe_str (fun _ _ => rfl)) pe_int) pa_nil))))))))) pss_nil))) pss_nil) ht, fun H1 v2 v5 v6 v7 v8 kd e2 L1 k1 kd0 => ?_⟩
  refine ⟨_, rfl, _, _, rfl, rfl, _, rfl, ite2 (fun yk => ?_) (fun _ => iteF (last _ _ _ _ _ _ _ e2 L1 k1))⟩
  have yk := of_decide_eq_true yk
  refine ⟨_, rfl, nl, _, rfl, .inl (SqL.of L1.nm), _, _, rfl, rfl, _, rfl, ite2 (fun y => ?_) (fun _ => last _ _ _ _ _ _ _ e2 L1 k1)⟩
  have y := of_decide_eq_true y
  rw [List.length_map] at y
  have h5 := L1.n5
  refine ⟨(by show 6 ≤ sizeLine; decide), fun tp htp => ?_⟩
  have s1 := same_upd (o := .tup (WDS.map V.str)) htp
  have L2 := L1.same s1
  have e3 : (upd H1 tp (.tup (WDS.map V.str))) tp = some (.tup (WDS.map V.str)) := upd_same
  obtain ⟨wd, hwd, ewd⟩ := atS (xs := WDS) kd0 yk
  have hwd := wds hwd
  refine ⟨_, rfl, tp, _, _, _, rfl, rfl, SqT.of e3, ewd, ?_⟩
  obtain ⟨cw, gw, pw⟩ := L2.word hwd
  have k2 := k1.trans (Kq.same (p := p) (sc := sc) s1)
  refine ⟨_, rfl, _, rfl, sc, _, rfl, gw, _, _, rfl, rfl, _, rfl, ite2 (fun y2 => ?_) (fun _ => last _ _ _ _ _ _ _ e2 L2 k2)⟩
  have y2 := of_decide_eq_true y2
  obtain ⟨C1, O1, D2, hc, pu⟩ := pw (by omega)
  refine ⟨_, rfl, _, rfl, sc, _, rfl, gw, _, _, rfl, rfl, _, rfl, _, rfl, sc, _, rfl, pu, ?_⟩
  have L3 : LM M _ p sc nl ns b C1 O1 D2 N := L2.put
  have k3 := k2.trans (Kq.upd (L2.pool.neK L2.scp) (o := .dK (ScM M nl C1 O1 D2 N)))
  refine ⟨_, rfl, _, rfl, _, rfl, _, rfl, nl, _, rfl, .inl (SqL.of L3.nm), p, _, b, rfl, L3.pool, by rw [List.length_map]; omega, by rw [List.length_map]; omega, fun j H4 j0 j1 P4 k4 => ?_⟩
  rw [List.length_map] at j1
  obtain ⟨x, hx, ex⟩ := atS (xs := ns) j0 j1
  have L4 := L3.kp P4 k4
  have m8 := L4.m8
  refine ⟨nl, _, _, _, rfl, rfl, SqL.of L4.nm, ex, ?_⟩
  refine ⟨_, rfl, _, rfl, sc, _, rfl, L4.gMost, p, _, b, rfl, L4.pool, by have := L4.m1; omega, by have := L4.m8; omega, fun n0 H5 n1 n2 P5 k5 => ⟨_, _, rfl, rfl, (by show 3 ≤ sizeLine; decide), fun r hr' => ?_⟩⟩
  have s6 := same_upd (o := .tup [.str wd, .str x, .int (1 + n0)]) hr'
  have L6 := (L4.kp P5 k5).same s6
  have k6 := ((k3.trans (Kq.kp k4)).trans (Kq.kp k5)).trans (Kq.same (p := p) (sc := sc) s6)
  refine ⟨_, rfl, rfl, _, rfl, ite2 (fun z => ?_) (fun z => ?_)⟩
  · have z := V.str.inj (of_decide_eq_true z)
    subst z
    exact ⟨_, rfl, q (.ref r) (.draw x (1 + n0)) _ b C1 O1 D2 N ⟨hx, by omega, by omega⟩ (by show 1 + _ = _; omega) rfl (by show 1 + _ ≤ _; omega) L6 k6 (.tup upd_same (.cons (.str _) (.cons (.str _) (.cons (.int _) .nil))))⟩
  · have z : ¬ wd = ("draw" : Str) := fun e => z (decide_eq_true (by rw [e]))
    have hw2 : wd = "choose" ∨ wd = "come" := by
      rcases hwd with h | h | h
      · exact .inl h
      · exact .inr h
      · exact absurd h z
    refine ⟨_, rfl, sc, _, rfl, L6.gNext, _, _, rfl, rfl, _, rfl, sc, _, rfl, L6.pNext, ?_⟩
    have L7 : LM M _ p sc nl ns b C1 O1 D2 (N + 1) := L6.put
    have k7 := k6.trans (Kq.upd (L6.pool.neK L6.scp) (o := .dK (ScM M nl C1 O1 D2 (N + 1))))
    refine ⟨_, rfl, _, rfl, sc, _, rfl, L7.gNext, _, _, rfl, rfl, (by show 1 ≤ sizeLine; decide), fun r2 hr2 => ?_⟩
    have em : ((N + 1 : Nat) : Int) - 1 = (N : Int) := by omega
    have s8 := same_upd (o := .tup [.int (((N + 1 : Nat) : Int) - 1)]) hr2
    have nrs : r ≠ sc := ne_of (o := .tup [.str wd, .str x, .int (1 + n0)]) upd_same L6.scp (by intro z; cases z)
    have er : (upd (upd (upd H5 r (.tup [.str wd, .str x, .int (1 + n0)])) sc (.dK (ScM M nl C1 O1 D2 (N + 1)))) r2 (.tup [.int (((N + 1 : Nat) : Int) - 1)])) r = some (.tup [.str wd, .str x, .int (1 + n0)]) := s8 _ _ (by rw [upd_ne nrs]; exact upd_same)
    refine ⟨r, r2, _, _, rfl, rfl, SqT.of er, SqT.of upd_same, (by intro z; cases z), (by show 3 + 1 ≤ sizeLine; decide), fun z => (by cases z), fun _ r3 hr3 => ?_⟩
    have s9 := same_upd (o := .tup ([.str wd, .str x, .int (1 + n0)] ++ [.int (((N + 1 : Nat) : Int) - 1)])) hr3
    refine q (.ref r3) (.move wd x (1 + n0) (N : Int)) _ b C1 O1 D2 (N + 1) ⟨hw2, hx, by omega, by omega, rfl⟩ (by show 1 + _ = _; omega) rfl (by show 1 + _ ≤ _; omega) ((L7.same s8).same s9) ((k7.trans (Kq.same s8)).trans (Kq.same s9)) ?_
    refine .tup (xs := [.str wd, .str x, .int (1 + n0), .int (N : Int)]) ?_ (.cons (.str _) (.cons (.str _) (.cons (.int _) (.cons (.int _) .nil))))
    rw [upd_same]
    exact congrArg (fun z => some (HO.tup [V.str wd, V.str x, V.int (1 + n0), V.int z])) em
theorem ok_sta0 {k : Nat} (hk : 9 ≤ k) {f : Addr} {fd : FuncData} (F : Fun K "_law_statement" "_law_statement" sSta f fd) (T : TxL mg) (D1 : Fn0 P w K mg base 1 "_law_draw" ["pool", "size"] spDraw fD dD)
    (V1 : Fn0 P w K mg base 9 "_law_value" ["pool", "names", "deep"] (spVal 2) fV dV) (DP : Fn0 P w K mg base 9 "_law_deep" ["pool", "names", "deep"] (spDeep 4) fE dE) : FnOk P w K mg base CX0 (k + 1) f fd ["pool", "scope", "room"] (spSta 0) := by
  refine F.ok scSta (fun vs H Q E h => ?_) (fun cdv A outer s H vs Q E hr h => ?_)
  · obtain ⟨M, p, sc, nl, ns, room, b, C, O, D, N, rfl, _⟩ := h
    rfl
  · obtain ⟨M, p, sc, nl, ns, room, b, C, O, D, N, rfl, hrm, L, q⟩ := h
    have hr1 : Room 1 _ := hr.mono (by omega)
    have hu := hu_r hr
    obtain ⟨t, ht, rest⟩ := sta2 hk T D1 hr q (sta3_0 (outer := outer) (E := E) hk T D1 V1 DP hr q (by omega))
    refine ⟨_, pss_cons (ps_set (i := 3) scSta.nd rfl (Or.inl rfl) (pe_call D1.ok hr1 (by rfl) D1.gl D1.kp D1.bd .nil pass0 (pa_cons (pv 0) (pa_cons pe_int pa_nil))))
      (pss_cons (ps_set (i := 4) scSta.nd rfl (Or.inl rfl) (pe_dget hu (pv 1) pe_str (fun _ _ => rfl))) ht), ?_⟩
    refine ⟨_, rfl, p, 16, b, rfl, L.pool, by decide, by decide, fun kd H1 k0 _ P1 k1 => ?_⟩
    have L1 := L.kp P1 k1
    exact ⟨_, rfl, sc, _, rfl, L1.gNames, rest _ _ _ _ _ _ _ rfl L1 (Kq.kp k1) k0⟩
theorem ok_staS {rr : Nat} {k : Nat} (hk : 9 ≤ k) {f : Addr} {fd : FuncData} (F : Fun K "_law_statement" "_law_statement" sSta f fd) (T : TxL mg) (D1 : Fn0 P w K mg base 1 "_law_draw" ["pool", "size"] spDraw fD dD)
    (V1 : Fn0 P w K mg base 9 "_law_value" ["pool", "names", "deep"] (spVal 2) fV dV) (B1 : Fn0 P w K mg base k "_law_block" ["pool", "scope", "room", "most"] (spBlo rr) fB dB) (DP : Fn0 P w K mg base 9 "_law_deep" ["pool", "names", "deep"] (spDeep 4) fE dE) : FnOk P w K mg base CX0 (k + 1) f fd ["pool", "scope", "room"] (spSta (rr + 1)) := by
  refine F.ok scSta (fun vs H Q E h => ?_) (fun cdv A outer s H vs Q E hr h => ?_)
  · obtain ⟨M, p, sc, nl, ns, room, b, C, O, D, N, rfl, _⟩ := h
    rfl
  · obtain ⟨M, p, sc, nl, ns, room, b, C, O, D, N, rfl, hrm, L, q⟩ := h
    have hr1 : Room 1 _ := hr.mono (by omega)
    have hu := hu_r hr
    obtain ⟨t, ht, rest⟩ := sta2 hk T D1 hr q (sta3_S (outer := outer) (E := E) hk T D1 V1 B1 DP hr q hrm)
    refine ⟨_, pss_cons (ps_set (i := 3) scSta.nd rfl (Or.inl rfl) (pe_call D1.ok hr1 (by rfl) D1.gl D1.kp D1.bd .nil pass0 (pa_cons (pv 0) (pa_cons pe_int pa_nil))))
      (pss_cons (ps_set (i := 4) scSta.nd rfl (Or.inl rfl) (pe_dget hu (pv 1) pe_str (fun _ _ => rfl))) ht), ?_⟩
    refine ⟨_, rfl, p, 16, b, rfl, L.pool, by decide, by decide, fun kd H1 k0 _ P1 k1 => ?_⟩
    have L1 := L.kp P1 k1
    exact ⟨_, rfl, sc, _, rfl, L1.gNames, rest _ _ _ _ _ _ _ rfl L1 (Kq.kp k1) k0⟩
end
end K1

set_option Elab.async false
set_option linter.all false
set_option maxRecDepth 100000
set_option maxHeartbeats 4000000
/-! _law_block. -/
namespace K1
open PySem PySem.Spec PyProof.Rows L2 Kx Kd Kt Kh
section
variable {P : Program} {w : World} {K : PySem.W.Frag} {mg : Str → Option Value} {base : Heap} {fD fS fP : Addr} {dD dS dP : FuncData}
theorem scLB : FnScope ["pool", "scope", "room", "most", "block", "k"] ["pool", "scope", "room", "most"] (defScope sBlo) := ⟨rfl, rfl, rfl, by decide +kernel, rfl, by decide +kernel, by decide +kernel⟩
theorem snoc_nil (acc : List Sm) (x : Sm) : pre (acc ++ [x]) .nil = pre acc (.cons x .nil) := pre_app acc x .nil
theorem ok_blo {k r : Nat} (hk : 1 ≤ k) {f : Addr} {fd : FuncData} (F : Fun K "_law_block" "_law_block" sBlo f fd) (T : TxL mg) (D1 : Fn0 P w K mg base 1 "_law_draw" ["pool", "size"] spDraw fD dD) (P1 : Fn0 P w K mg base 1 "_law_spend" ["pool"] spSpend fP dP)
    (S1 : Fn0 P w K mg base k "_law_statement" ["pool", "scope", "room"] (spSta r) fS dS) : FnOk P w K mg base CX0 (k + 1) f fd ["pool", "scope", "room", "most"] (spBlo r) := by
  refine F.ok scLB (fun vs H Q E h => ?_) (fun cdv A outer s H vs Q E hr h => ?_)
  · obtain ⟨M, p, sc, nl, ns, room, most, b, C, O, D, N, rfl, _⟩ := h
    rfl
  · obtain ⟨M, p, sc, nl, ns, room, most, b, C, O, D, N, rfl, hrm, m0, m9, L, q⟩ := h
    have hr1 : Room 1 _ := hr.mono hk
    refine ⟨_, pss_cons (ps_set (i := 4) scLB.nd rfl (Or.inl rfl) (pe_lst pa_nil))
      (pss_cons (ps_for PassesOwn.never rfl (pi_range1 rfl T.range (pa_cons (pe_call D1.ok hr1 (by rfl) D1.gl D1.kp D1.bd .nil pass0 (pa_cons (pv 0) (pa_cons (pe_op op_add (pv 3) pe_int) pa_nil))) pa_nil)) (pg_name (i := 5) scLB.nd rfl (Or.inl rfl))
        (pss_one (ps_if (pt_val (pe_call P1.ok hr1 (by rfl) P1.gl P1.kp P1.bd .nil pass0 (pa_cons (pv 0) pa_nil)))
          (pss_one (ps_expr (pe_bm PySem.F.plainAttrs_list PySem.F.slot_list_append PySem.F.type_list_append mt_append (pv 4) (pa_cons (pe_call S1.ok hr (by rfl) S1.gl S1.kp S1.bd .nil pass0 (pa_cons (pv 0) (pa_cons (pv 1) (pa_cons (pv 2) pa_nil)))) pa_nil)))) pss_nil)))
      (pss_one (ps_ret (pe_callTy call_tuple_of (by rfl) T.tuple (by decide +kernel) (pa_cons (pv 4) pa_nil))))), ?_⟩
    refine ⟨Nat.zero_le _, fun G hG => ?_⟩
    have s0 := same_upd (o := .lst []) hG
    refine ⟨_, rfl, _, rfl, _, _, rfl, rfl, p, most + 1, b, rfl, L.pool.same s0, by omega, by omega, fun n H1 n0 n1 P1 k1 => ?_⟩
    have nGp : G ≠ p := L.pool.ne0 hG
    have nGs : G ≠ sc := (ne_of_none L.scp hG).symm
    have nGn : G ≠ nl := (ne_of_none L.nm hG).symm
    refine ⟨n, rfl, by omega, by omega, for_range (lo := 0) (n := n.toNat) (fun i σ H' => (∃ v5, σ = [some (.ref p), some (.ref sc), some (.int (room : Int)), some (.int most), some (.ref G), v5]) ∧ ∃ (acc : List Sm) (vs : List V) (b' : Int) (C' O' D' N' : Nat),
      (pre acc .nil).vl ns room N ∧ (pre acc .nil).chs + (C' + O' + D') = C + O + D ∧ N' = N + (pre acc .nil).mvs ∧ (pre acc .nil).cnt + b'.toNat ≤ b.toNat ∧ LM M H' p sc nl ns b' C' O' D' N' ∧ Kq p sc H H' ∧ H' G = some (.lst vs) ∧ DtAll H' vs (acc.map Sm.d) ∧ vs.length ≤ i) ?_ ?_ ?_⟩
    · refine ⟨⟨_, rfl⟩, [], [], b, C, O, D, N, trivial, by show 0 + _ = _; omega, rfl, by show 0 + _ ≤ _; omega, (L.same s0).kp P1 k1, (Kq.same s0).trans (Kq.kp k1), k1 _ _ upd_same nGp, .nil, Nat.le_refl _⟩
    · rintro i σ H2 hi ⟨⟨v5, rfl⟩, acc, vs, b2, C2, O2, D2, N2, hv, hc, hm, hb, L2, k2, eG, da, hl⟩
      refine ⟨_, rfl, p, b2, rfl, L2.pool, fun H3 P3 k3 => ⟨_, rfl, ite2 (fun y => ?_) (fun y => ?_)⟩⟩
      · have y := of_decide_eq_true y
        have L3 := L2.kp P3 k3
        have eG3 := k3 _ _ eG nGp
        refine ⟨_, rfl, .inl ⟨rfl, _, SqL.of eG3⟩, _, rfl, _, rfl, _, rfl, M, p, sc, nl, ns, room, b2 - 1, C2, O2, D2, N2, rfl, hrm, L3, fun v x H4 b4 C4 O4 D4 N4 hv4 hc4 hm4 hb4 L4 k4 d4 => ?_⟩
        have eG4 := k4 _ _ eG3 nGp nGs
        have tk4 : Tk H2 (upd H4 G (.lst (vs ++ [v]))) := fun a xs e => by
          have e3 := Kp.tk L2.pool k3 _ _ e
          have e4 := L3.tk k4 _ _ e3
          rw [upd_ne (ne_of e4 eG4 (by intro z; cases z))]
          exact e4
        have tk5 : Tk H4 (upd H4 G (.lst (vs ++ [v]))) := fun a xs e => by
          rw [upd_ne (ne_of e eG4 (by intro z; cases z))]
          exact e
        refine ⟨G, vs, v, rfl, rfl, eG4, Nat.lt_of_le_of_lt (show vs.length ≤ 9 by omega) (by decide), ⟨_, rfl⟩, acc ++ [x], vs ++ [v], b4, C4, O4, D4, N4, ?_, ?_, ?_, ?_, ?_, ?_, upd_same, ?_, ?_⟩
        · rw [snoc_nil]
          subst hm
          exact pre_vl acc _ _ hv ⟨hv4, trivial⟩
        · rw [snoc_nil, pre_chs]
          show _ + (x.chs + 0) + _ = _
          omega
        · rw [snoc_nil, pre_mvs]
          show _ = _ + (_ + (x.mvs + 0))
          omega
        · rw [snoc_nil, pre_cnt]
          show _ + (x.cnt + 0) + _ ≤ _
          omega
        · exact L.own hG (((k2.trans (Kq.kp k3)).trans k4)) L4
        · exact ⟨fun c o e h1 h2 => by
            rw [upd_ne (ne_of_none e hG)]
            exact k4 _ _ (k3 _ _ (k2 _ _ e h1 h2) h1) h1 h2, fun x r e => by
            rw [upd_ne nGp.symm]
            exact ((k2.trans (Kq.kp k3)).trans k4).hd x r e⟩
        · rw [List.map_append]
          exact DtAll.snoc (DtAll.keep tk4 da) (Dt.keep tk5 d4)
        · rw [List.length_append]
          show vs.length + 1 ≤ i + 1
          omega
      · refine ⟨⟨_, rfl⟩, acc, vs, b2 - 1, C2, O2, D2, N2, hv, hc, hm, by omega, L2.kp P3 k3, k2.trans (Kq.kp k3), k3 _ _ eG nGp, DtAll.keep (Kp.tk L2.pool k3) da, by omega⟩
    · rintro σ H2 ⟨⟨v5, rfl⟩, acc, vs, b2, C2, O2, D2, N2, hv, hc, hm, hb, L2, k2, eG, da, hl⟩
      refine ⟨_, rfl, G, vs, rfl, .inl ⟨SqL.of eG, fun t ht => ?_⟩⟩
      have s9 := same_upd (o := .tup vs) ht
      refine q (.ref t) (pre acc .nil) _ b2 C2 O2 D2 N2 hv hc hm hb (L2.same s9) (k2.trans (Kq.same s9)) (.tup upd_same ?_)
      rw [pre_ds]
      exact DtAll.keep (Tk.same s9) da
end
end K1

set_option Elab.async false
set_option linter.all false
set_option maxRecDepth 100000
set_option maxHeartbeats 2000000
/-! Dicts with keys of nested tuples: walked, made of pairs, compared; keys as data. -/
namespace Kd
open PySem PySem.Spec PyProof.Rows L2
/-! ### keys are data -/
mutual
theorem Nest.dp {K : PySem.W.Frag} {H : Hp} : ∀ {k : NestedKey} {v : V}, Nest H k v → Dp K H v k.data
  | _, _, .none => .non
  | _, _, .num i => .int i
  | _, _, .text z => .str z
  | _, _, .tup h r => .tup (SqT.of h) (NestL.dp r)
theorem NestL.dp {K : PySem.W.Frag} {H : Hp} : ∀ {ks : List NestedKey} {vs : List V}, NestL H ks vs → DpAll K H vs (NestedKey.datas ks)
  | _, _, .nil => .nil
  | _, _, .cons h r => .cons (Nest.dp h) (NestL.dp r)
end
mutual
theorem Nest.det {H : Hp} : ∀ {k k' : NestedKey} {v : V}, Nest H k v → Nest H k' v → k = k'
  | _, _, _, .none, h => by cases h; rfl
  | _, _, _, .num i, h => by cases h; rfl
  | _, _, _, .text z, h => by cases h; rfl
  | _, _, _, .tup e r, h => by
    cases h with
    | tup e' r' =>
      rw [e] at e'
      injection e' with e'
      injection e' with e'
      subst e'
      rw [NestL.det r r']
theorem NestL.det {H : Hp} : ∀ {ks ks' : List NestedKey} {vs : List V}, NestL H ks vs → NestL H ks' vs → ks = ks'
  | _, _, _, .nil, h => by cases h; rfl
  | _, _, _, .cons a r, h => by
    cases h with
    | cons a' r' => rw [Nest.det a a', NestL.det r r']
end
mutual
theorem eqv_beq : ∀ a b : NestedKey, PyData.eqv a.data b.data = NestedKey.beq a b
  | .none, .none => rfl
  | .none, .num _ => rfl
  | .none, .text _ => rfl
  | .none, .tup _ => rfl
  | .num _, .none => rfl
  | .num i, .num j => by
    show (i == j) = decide (i = j)
    by_cases h : i = j <;> simp [h]
  | .num _, .text _ => rfl
  | .num _, .tup _ => rfl
  | .text _, .none => rfl
  | .text _, .num _ => rfl
  | .text x, .text y => by
    show (x == y) = decide (x = y)
    by_cases h : x = y <;> simp [h]
  | .text _, .tup _ => rfl
  | .tup _, .none => rfl
  | .tup _, .num _ => rfl
  | .tup _, .text _ => rfl
  | .tup as, .tup bs => by
    show PyData.eqvAll (NestedKey.datas as) (NestedKey.datas bs) = NestedKey.beqAll as bs
    exact eqv_beqAll as bs
theorem eqv_beqAll : ∀ as bs : List NestedKey, PyData.eqvAll (NestedKey.datas as) (NestedKey.datas bs) = NestedKey.beqAll as bs
  | [], [] => rfl
  | [], _ :: _ => rfl
  | _ :: _, [] => rfl
  | a :: as, b :: bs => by
    show (PyData.eqv a.data b.data && PyData.eqvAll (NestedKey.datas as) (NestedKey.datas bs)) = (NestedKey.beq a b && NestedKey.beqAll as bs)
    rw [eqv_beq a b, eqv_beqAll as bs]
end
theorem eqv_key (a b : NestedKey) : PyData.eqv a.data b.data = decide (a = b) := by
  rw [eqv_beq, NestedKey.decide_eq]
/-! ### walked -/
/-- the keys in order: the tuples that stand in the dict -/
def ItKD (d : Addr) (es : Array DictEntry) (ep : Nat) (kvs : Kvs) : It :=
  ⟨fun i H => H d = some (.ext (rawD d es ep)) ∧ i < kvs.length, fun i H x H' => H' = H ∧ ∃ p, kvs[i]? = some p ∧ x = .ref p.2.1, fun i H => H d = some (.ext (rawD d es ep)) ∧ kvs.length ≤ i⟩
theorem KDD.entry {P : Program} {w : World} {H : Hp} {d : Addr} {kvs : Kvs} {es : Array DictEntry} {ep : Nat} {xs : List (NestedKey × Addr × Value)} (q : KDD P w H d kvs es ep xs) :
    es.size = kvs.length ∧ ∀ (i : Nat) (p : NestedKey × Addr × V), kvs[i]? = some p → ∃ (en : DictEntry) (u : Value), es[i]? = some en ∧ en.key = .ref p.2.1 ∧ en.val = u ∧ RelV p.2.2 u := by
  refine ⟨?_, fun i p hp => ?_⟩
  · rw [size_of_entries q.es_, paired_len q.rel_]
  · obtain ⟨x, hx, e1, e2, e3⟩ := paired_get q.rel_ hp
    have := entry_at q.es_ i
    rw [hx] at this
    exact ⟨_, _, this, by rw [e2]; rfl, rfl, e3⟩
theorem turn_kd {P : Program} {w : World} {K : PySem.W.Frag} {tg : Expr} {d : Addr} {es : Array DictEntry} {ep : Nat} {kvs : Kvs} (it : Addr) (hsz : es.size = kvs.length)
    (ent : ∀ (i : Nat) (p : NestedKey × Addr × V), kvs[i]? = some p → ∃ (en : DictEntry) (u : Value), es[i]? = some en ∧ en.key = .ref p.2.1 ∧ en.val = u ∧ RelV p.2.2 u) : Turn P w K tg (ItKD d es ep kvs) [it] it (fun i h => h.IsKeyIter it d i kvs.length ep) where
  mem := by simp
  obj := fun i h st b hb => by
    have e : b = it := by simpa using hb
    subst e
    obtain ⟨oi, e, c, dd⟩ := st
    exact ⟨oi, e, fun v z => by rw [dd] at z; cases z⟩
  keep := fun i h h' st k => st.at fun oi e => k it (by simp) oi e
  item := by
    intro X hP hw hK hc i pins s σ H E I hf st hg
    subst hP hw hK
    obtain ⟨hd, hi⟩ := hg
    obtain ⟨f0, f1, f2, f3, f4, f5⟩ := hf it (by simp)
    obtain ⟨⟨o, hgd, hx, hdt⟩, _, _⟩ := (show ObjOk X.prog X.w H s.heap d (.ext (rawD d es ep)) from I.hok d _ hd)
    obtain ⟨p, hp⟩ : ∃ p, kvs[i]? = some p := ⟨kvs[i], List.getElem?_eq_getElem hi⟩
    obtain ⟨en, u, hen, hkey, _, _⟩ := ent i p hp
    refine next_key_item st hgd hdt hsz hen fun h' st' sb => ?_
    have I1 : Inv X pins σ H { s with heap := h' } := I.turned (t' := s.toks) (fun b ob hb e => (sb.2 b hb).trans e) f0 f1 f3 f4 f5
    obtain ⟨oi, e, c, dd⟩ := id st'
    exact ⟨en.key, rfl, go_of (s := { s with heap := h' }) e c dd (by decide) ⟨.ref p.2.1, H, I1, hkey, ⟨rfl, p, hp, rfl⟩, st', fun b hb => (hf b hb).1⟩⟩
  done := by
    intro X hP hw hK hc i pins s σ H E I hf st hg
    subst hP hw hK
    obtain ⟨hd, hi⟩ := hg
    obtain ⟨f0, f1, f2, f3, f4, f5⟩ := hf it (by simp)
    obtain ⟨⟨o, hgd, hx, hdt⟩, _, _⟩ := (show ObjOk X.prog X.w H s.heap d (.ext (rawD d es ep)) from I.hok d _ hd)
    exact next_key_end (I.ok.hd hc) st hgd hdt hsz hi fun h' eb => ⟨rfl, I.turned (t' := s.toks) (fun b ob hb e => eb b ob hb e) f0 f1 f3 f4 f5⟩
  self := fun A i s Q E st h => by
    refine wpAny_pyIter_slot st.typeIs PySem.F.slot_dict_keyiterator_iter (wpAny_call_entry PySem.F.slot_dict_keyiterator_iter st.typeIs PySem.F.entry_dict_keyiterator_iter ?_ (PySem.F.args_dict_keyiterator_iter_1 _))
    show wpAny _ _ (ret (.ref it)) _ _ s
    exact wpAny_pure ⟨_, rfl, "dict_keyiterator", _, st.typeIs, PySem.F.slot_dict_keyiterator_next.lookup, h⟩
def iKD (P : Program) (w : World) (td : TE) : TI := fun σ H R => td σ H fun x H1 => ∃ (d : Addr) (kvs : Kvs), x = .ref d ∧ KD P w H1 d kvs ∧ ∀ es ep, H1 d = some (.ext (rawD d es ep)) → R (ItKD d es ep kvs) H1
theorem pi_kd {X : Cx} {tg e : Expr} {td : TE} (he : PE X e td) : PI X tg e (iKD X.prog X.w td) := by
  refine ⟨fun pins s σ H R I h => ?_⟩
  refine thn (he.run pins s σ H _ I h) fun u s1 ⟨x, H1, I1, rx, d, kvs, ex, kd, q⟩ => ?_
  subst ex
  obtain rfl : u = Value.ref d := rx
  obtain ⟨es, ep, xs, kq⟩ := kd.ok
  obtain ⟨hsz, ent⟩ := kq.entry
  obtain ⟨⟨o, hgd, hx, hdt⟩, _, _⟩ := (show ObjOk X.prog X.w H1 s1.heap d (.ext (rawD d es ep)) from I1.hok d _ kq.at_)
  refine iter_keys kd.sys hgd hx hdt (pi_one (tk := s1.toks) I1 _ (turn_kd _ hsz ent) ⟨_, Heap.get?_push_size _ rfl, rfl, ?_⟩ (q es ep kq.at_))
  rw [hsz] <;> rfl
/-- a comprehension over such a dict -/
theorem lc_kd {d : Addr} {es : Array DictEntry} {ep : Nat} {kvs : Kvs} {g : TG} {tt : TT} {te : TE} {vs : List Nat} {σ : L2.St} {H1 : Hp} {D : Addr} {Qd : Hp → Prop} (Pv : Nat → Hp → Prop) (h0 : Pv 0 (upd H1 D (.lst []))) (hl : ∀ i H, i ≤ kvs.length → Pv i H → H d = some (.ext (rawD d es ep)))
    (hs : ∀ i p H, kvs[i]? = some p → Pv i H → g (.ref p.2.1) (wipe σ vs) H fun σ2 H2 => wipe σ2 vs = wipe σ vs ∧ tt σ2 H2 fun b H3 =>
      if b = true then te σ2 H3 fun y H4 => ∃ acc, H4 D = some (.lst acc) ∧ acc.length < sizeLine ∧ Pv (i + 1) (upd H4 D (.lst (acc ++ [y]))) else Pv (i + 1) H3) (hd : ∀ H, Pv kvs.length H → Qd H) :
    ∃ W : Nat → Nat → Hp → Prop, (∃ m, W 0 m (upd H1 D (.lst []))) ∧ ∀ i m H, W i m H →
      ((ItKD d es ep kvs).stop i H ∧ Qd H) ∨ ((ItKD d es ep kvs).go i H ∧ ∃ Nx : Hp → Prop, (∀ H', Nx H' → ∃ m', m' < m ∧ W (i + 1) m' H') ∧ ∀ x H', (ItKD d es ep kvs).yld i H x H' → g x (wipe σ vs) H' fun σ2 H2 => wipe σ2 vs = wipe σ vs ∧ tt σ2 H2 fun b H3 =>
        if b = true then te σ2 H3 fun y H4 => ∃ acc, H4 D = some (.lst acc) ∧ acc.length < sizeLine ∧ Nx (upd H4 D (.lst (acc ++ [y]))) else Nx H3) := by
  refine ⟨fun i m H => m = kvs.length - i ∧ i ≤ kvs.length ∧ Pv i H, ⟨kvs.length, by simp, Nat.zero_le _, h0⟩, ?_⟩
  rintro i m H ⟨rfl, hi, p⟩
  have q := hl i H hi p
  by_cases hlt : i < kvs.length
  · refine .inr ⟨⟨q, hlt⟩, Pv (i + 1), fun H' p' => ⟨kvs.length - (i + 1), by omega, rfl, hlt, p'⟩, fun x H' y => ?_⟩
    obtain ⟨e, pp, hp, rfl⟩ := y
    subst e
    exact hs i pp _ hp p
  · have e : i = kvs.length := by omega
    subst e
    exact .inl ⟨⟨q, Nat.le_refl _⟩, hd H p⟩
theorem for_kd {d : Addr} {es : Array DictEntry} {ep : Nat} {kvs : Kvs} {g : TG} {tb : TS} {D : Ends} {σ : L2.St} {H : Hp} (Pv : Nat → L2.St → Hp → Prop) (h0 : Pv 0 σ H) (hl : ∀ i σ H, i ≤ kvs.length → Pv i σ H → H d = some (.ext (rawD d es ep)))
    (hs : ∀ i p σ H, kvs[i]? = some p → Pv i σ H → g (.ref p.2.1) σ H fun σ2 H2 => tb { D with nx := Pv (i + 1), ct := Pv (i + 1), bk := D.nx } σ2 H2) (hd : ∀ σ H, Pv kvs.length σ H → D.nx σ H) :
    ∃ W : Nat → Nat → L2.St → Hp → Prop, (∃ m, W 0 m σ H) ∧ ∀ i m σ H, W i m σ H →
      ((ItKD d es ep kvs).stop i H ∧ D.nx σ H) ∨ ((ItKD d es ep kvs).go i H ∧ ∃ N : L2.St → Hp → Prop, (∀ σ' H', N σ' H' → ∃ m', m' < m ∧ W (i + 1) m' σ' H') ∧ ∀ x H', (ItKD d es ep kvs).yld i H x H' → g x σ H' fun σ2 H2 => tb { D with nx := N, ct := N, bk := D.nx } σ2 H2) := by
  refine ⟨fun i m σ H => m = kvs.length - i ∧ i ≤ kvs.length ∧ Pv i σ H, ⟨kvs.length, by simp, Nat.zero_le _, h0⟩, ?_⟩
  rintro i m σ H ⟨rfl, hi, p⟩
  have q := hl i σ H hi p
  by_cases hlt : i < kvs.length
  · refine .inr ⟨⟨q, hlt⟩, Pv (i + 1), fun σ' H' p' => ⟨kvs.length - (i + 1), by omega, rfl, hlt, p'⟩, fun x H' y => ?_⟩
    obtain ⟨e, pp, hp, rfl⟩ := y
    subst e
    exact hs i pp σ _ hp p
  · have e : i = kvs.length := by omega
    subst e
    exact .inl ⟨⟨q, Nat.le_refl _⟩, hd σ H p⟩
/-! ### dict(pairs) -/
def mergeKv (kvs ps : Kvs) : Kvs := ps.foldl (fun acc p => putKv acc p.1 p.2.1 p.2.2) kvs
theorem paired_merge {ps : Kvs} {qs : List (NestedKey × Addr × Value)} (r : Paired rel ps qs) : ∀ {kvs : Kvs} {xs : List (NestedKey × Addr × Value)}, Paired rel kvs xs → Paired rel (mergeKv kvs ps) (storedAllH xs qs) := by
  induction r with
  | nil => exact fun h => h
  | cons a r ih =>
    intro kvs xs h
    obtain ⟨e1, e2, e3⟩ := a
    show Paired rel (mergeKv (putKv kvs _ _ _) _) (storedAllH (storedH xs _ _ _) _)
    rw [← e1, ← e2]
    exact ih (paired_put e3 h)
theorem len_merge : ∀ (ps kvs : Kvs), (mergeKv kvs ps).length ≤ kvs.length + ps.length
  | [], kvs => Nat.le_refl _
  | p :: ps, kvs => by
    have h1 := len_merge ps (putKv kvs p.1 p.2.1 p.2.2)
    have h2 := len_put kvs p.1 p.2.1 p.2.2
    show (mergeKv (putKv kvs p.1 p.2.1 p.2.2) ps).length ≤ _
    rw [List.length_cons]
    omega
theorem mem_merge {R : NestedKey → Addr → Prop} : ∀ (ps kvs : Kvs), (∀ p ∈ kvs, R p.1 p.2.1) → (∀ p ∈ ps, R p.1 p.2.1) → ∀ p ∈ mergeKv kvs ps, R p.1 p.2.1
  | [], kvs, h, _ => h
  | q :: ps, kvs, h, h2 => by
    refine mem_merge ps (putKv kvs q.1 q.2.1 q.2.2) (fun p hp => ?_) fun p hp => h2 p (List.mem_cons_of_mem _ hp)
    rcases mem_put p hp with ⟨p', hp', e1, e2⟩ | ⟨e1, e2⟩
    · rw [← e1, ← e2]
      exact h p' hp'
    · rw [e1, e2]
      exact h2 q (List.mem_cons_self ..)
theorem relP_of {X : Cx} {pins : List (Addr × Obj)} {σ : L2.St} {H : Hp} {s : Shared} (I : L2.Inv X pins σ H s) : ∀ {Ts : List Addr} {ps : Kvs}, Paired (fun T p => SqT X.K H T [.ref p.2.1, p.2.2]) Ts ps →
    ∃ qs : List (NestedKey × Addr × Value), Paired rel ps qs ∧ qs.length = Ts.length ∧ ∀ (j : Nat) (q : NestedKey × Addr × Value), qs[j]? = some q → ∃ T, Ts[j]? = some T ∧ IsTup s.heap T #[.ref q.2.1, q.2.2]
  | _, _, .nil => ⟨[], .nil, rfl, fun j q e => by simp at e⟩
  | _, _, .cons (a := T) (b := p) h t => by
    obtain ⟨qs, r, hl, hp⟩ := relP_of I t
    obtain ⟨its, rv, ht, _⟩ := I.tuple h
    obtain ⟨u, y, ei, ru, ry⟩ := vals2 rv
    subst ei
    cases (show u = Value.ref p.2.1 from ru)
    refine ⟨(p.1, p.2.1, y) :: qs, .cons ⟨rfl, rfl, ry⟩ r, by simp [hl], fun j q e => ?_⟩
    cases j with
    | zero =>
      simp only [List.getElem?_cons_zero, Option.some.injEq] at e
      subst e
      exact ⟨T, rfl, ht⟩
    | succ j =>
      simp only [List.getElem?_cons_succ] at e ⊢
      exact hp j q e
def rDictN (P : Program) (w : World) (K : PySem.W.Frag) : List V → Hp → VK → Prop := fun xs H Q => ∃ (a : Addr) (Ts : List Addr) (ps : Kvs), xs = [.ref a] ∧ SqL K H a (Ts.map V.ref) ∧ Paired (fun T p => SqT K H T [.ref p.2.1, p.2.2]) Ts ps ∧ (∀ p ∈ ps, Nest H p.1 (.ref p.2.1) ∧ p.1.depth ≤ 8) ∧ ps.length ≤ 100000 ∧
  ∀ (d : Addr) (H' : Hp), H d = none → Same H H' → KD P w H' d (mergeKv [] ps) → Q (.ref d) H'
theorem call_dictN {X : Cx} (hcalm : X.calm = true) (hu : X.A.units + 64 < cLine) : CallR X (.type "dict") (rDictN X.prog X.w X.K) := by
  intro pins s σ H xs us Q I r q
  obtain ⟨a, Ts, ps, ex, hq, hp, hkey, hlen, q⟩ := q
  subst ex
  obtain ⟨u, eu, rx⟩ := vals1 r
  subst eu
  cases rx
  obtain ⟨its, rv, pl, hz⟩ := I.list hq
  have ei := refs_at rv
  subst ei
  obtain ⟨qs, rr, hl, hqs⟩ := relP_of I hp
  obtain ⟨o, n, ho, hc, hd, hdat⟩ := pl
  have hlT : Ts.length = ps.length := hp.length
  let prs : List (Value × Value) := qs.map fun q => (Value.ref q.2.1, q.2.2)
  have hpl : prs.length = ps.length := by rw [List.length_map, hl, hlT]
  have PA := PairArg.list (prog := X.prog) (w := X.w) a (Ts.map Value.ref).toArray (fun j => Ts.getD j 0) prs
  have ok : PlainSeq "list" s.heap a (Ts.map Value.ref).toArray ∧ PairItems s.heap (Ts.map Value.ref).toArray (fun j => Ts.getD j 0) prs := by
    refine ⟨⟨o, n, ho, hc, hd, hdat⟩, by rw [hpl, ← hlT]; simp, fun j k v e => ?_⟩
    obtain ⟨q', e1, e2⟩ := Option.map_eq_some_iff.mp ((List.getElem?_map ..).symm.trans (show prs[j]? = some (k, v) from e))
    cases e2
    obtain ⟨T, hT, it⟩ := hqs j q' e1
    have hg : Ts.getD j 0 = T := by rw [List.getD_eq_getElem?_getD, hT]; rfl
    refine ⟨?_, ?_⟩
    · show (Ts.map Value.ref).toArray[j]? = some (.ref (Ts.getD j 0))
      rw [hg]
      simp [hT]
    · show PairAt s.heap (Ts.getD j 0) _ _
      rw [hg]
      exact .inl it
  have hkN : ∀ x ∈ qs, (nestedKind X.prog X.w).is s.heap x.1 x.2.1 := fun x hx => by
    obtain ⟨p, hp, e1, e2, _⟩ := paired_mem rr x hx
    obtain ⟨n1, n2⟩ := hkey p hp
    rw [← e1, ← e2]
    exact ⟨n1.is I.hok rfl, n2⟩
  have hqp : qs.length = ps.length := by rw [hl, hlT]
  refine call_dict_pairsH (knd := nestedKind X.prog X.w) (ps := qs) PA (I.ok.hd hcalm) (by show X.A.units + 1 + 1 + 8 < cLine; omega) ok ⟨by rw [hpl, hqp], fun i key v e => ?_⟩ (fun h' hk x hx => ?_) (by rw [hpl]; exact Nat.le_trans hlen (by decide)) fun h' tk hd' hk => ?_
  · obtain ⟨q', e1, e2⟩ := Option.map_eq_some_iff.mp ((List.getElem?_map ..).symm.trans (show prs[i]? = some (key, v) from e))
    cases e2
    exact ⟨q'.1, q'.2.1, e1, rfl⟩
  · exact nestedKind_stays.stays (fun b ob vs n hb _ => hk b ob (Nat.ne_of_lt (Heap.lt_size hb)) (by simp) hb) (hkN x hx)
  · have hm : (s.heap.objs.size == sysModules) = false := beq_eq_false_iff_ne.mpr (Nat.ne_of_gt I.big)
    obtain ⟨ob, es, ep, h1, h2, h3, h4, h5, h6⟩ := hd'
    have rp := paired_merge rr (kvs := []) (xs := []) .nil
    have hn : H s.heap.objs.size = none := I.hok.fresh (Nat.le_refl _)
    have e0 : ∀ b xs, H b = some (.tup xs) → upd H s.heap.objs.size (.ext (rawD s.heap.objs.size es ep)) b = some (.tup xs) := fun b xs e => by
      rw [upd_ne (ne_of_none e hn)]
      exact e
    refine ⟨.ref s.heap.objs.size, upd H s.heap.objs.size (.ext (rawD s.heap.objs.size es ep)), I.laid (t' := tk) (fun b u e => hk b u (by simp) e) (Nat.le_refl _) ⟨⟨ob, h1, h2, h3⟩, ⟨ob, h1⟩, fun _ _ ⟨o', q1, q2⟩ kk => ⟨o', kk _ q1, q2⟩⟩, rfl, q _ _ hn (fun b o' e => ?_) ⟨?_, fun p hp' => ?_, hm, ?_, es, ep, _, upd_same, h4, rp⟩⟩
    · rw [upd_ne (ne_of_none e hn)]
      exact e
    · rw [← paired_fst rp]
      exact h6
    · obtain ⟨n1, n2⟩ := mem_merge (R := fun k a => Nest H k (.ref a) ∧ k.depth ≤ 8) ps [] (fun x hx => nomatch hx) hkey p hp'
      exact ⟨n1.keep e0, n2⟩
    · have := len_merge ps []
      rw [List.length_nil] at this
      omega
/-! ### == of two such dicts whose values are data -/
def isData (K : PySem.W.Frag) (H : Hp) (p : NestedKey × Addr × V) (q : NestedKey × PyData) : Prop := p.1 = q.1 ∧ Dp K H p.2.2 q.2 ∧ SeqAt.shaped q.2 = true
def lookD (kb : List (NestedKey × PyData)) (k : NestedKey) : Option PyData := (kb.find? fun p => decide (p.1 = k)).map (·.2)
def hitsD (kb : List (NestedKey × PyData)) : List (NestedKey × PyData) → Bool
  | [] => true
  | q :: r => (match lookD kb q.1 with | none => false | some e => PyData.eqv q.2 e) && hitsD kb r
def eqD (ka kb : List (NestedKey × PyData)) : Bool := (ka.length == kb.length) && hitsD kb ka
theorem look_rel {K : PySem.W.Frag} {H : Hp} {kvs : Kvs} {ds : List (NestedKey × PyData)} (r : Paired (isData K H) kvs ds) (k : NestedKey) : (atK kvs k = none ∧ lookD ds k = none) ∨ ∃ v d, atK kvs k = some v ∧ lookD ds k = some d ∧ Dp K H v d ∧ SeqAt.shaped d = true := by
  induction r with
  | nil => exact .inl ⟨rfl, rfl⟩
  | cons a r ih =>
    unfold atK lookD at *
    rw [List.find?_cons, List.find?_cons, ← a.1]
    rename_i p q ps qs
    by_cases e : p.1 = k
    · rw [decide_eq_true e]
      exact .inr ⟨_, _, rfl, rfl, a.2.1, a.2.2⟩
    · rw [decide_eq_false e]
      exact ih
theorem find_at {kvs : Kvs} {xs : List (NestedKey × Addr × Value)} (r : Paired rel kvs xs) (nd : (kvs.map (·.1)).Nodup) (k : NestedKey) : (atK kvs k = none ∧ ∀ (j : Nat) (p : Addr × Value), xs[j]? ≠ some (k, p)) ∨
    ∃ v, atK kvs k = some v ∧ ∀ (j : Nat) (p : Addr × Value), xs[j]? = some (k, p) → RelV v p.2 := by
  induction r with
  | nil => exact .inl ⟨rfl, fun j p z => by simp at z⟩
  | cons a r ih =>
    rename_i p x ps ys
    rw [List.map_cons, List.nodup_cons] at nd
    unfold atK
    rw [List.find?_cons]
    by_cases e : p.1 = k
    · rw [decide_eq_true e]
      refine .inr ⟨_, rfl, fun j q hq => ?_⟩
      cases j with
      | zero =>
        simp only [List.getElem?_cons_zero, Option.some.injEq] at hq
        have h3 := a.2.2
        rw [hq] at h3
        exact h3
      | succ j =>
        exfalso
        simp only [List.getElem?_cons_succ] at hq
        have hm := List.mem_of_getElem? hq
        obtain ⟨p', hp', e1, _⟩ := paired_mem r _ hm
        exact nd.1 (List.mem_map.mpr ⟨p', hp', by rw [e1, e]⟩)
    · rw [decide_eq_false e]
      rcases ih nd.2 with ⟨h1, h2⟩ | ⟨v, h1, h2⟩
      · refine .inl ⟨h1, fun j q hq => ?_⟩
        cases j with
        | zero =>
          simp only [List.getElem?_cons_zero, Option.some.injEq] at hq
          have := a.1
          rw [hq] at this
          exact e this
        | succ j => exact h2 j q (by simpa using hq)
      · refine .inr ⟨v, h1, fun j q hq => ?_⟩
        cases j with
        | zero =>
          simp only [List.getElem?_cons_zero, Option.some.injEq] at hq
          have := a.1
          rw [hq] at this
          exact absurd this e
        | succ j => exact h2 j q (by simpa using hq)
theorem same_pairsN {X : Cx} {pins : List (Addr × Obj)} {σ : L2.St} {H : Hp} {s : Shared} {E : Value → Shared → Prop} (I : L2.Inv X pins σ H s) {A : Around} {nm : String} {a b : Addr} {ka kb : Kvs} {da db : List (NestedKey × PyData)} {Q : Bool → Shared → Prop} (hu : A.units + 64 < cLine)
    (kA : KD X.prog X.w H a ka) (kB : KD X.prog X.w H b kb) (rA : Paired (isData X.K H) ka da) (rB : Paired (isData X.K H) kb db) (h : Q (eqD da db) s) :
    wpAny (model X.prog X.w) A (Builtin.Dict.samePairs nm a b) Q E s := by
  obtain ⟨xa, ra, oa, es, ep, hoa, _, hda, hea, hia, hna⟩ := kA.heap I.hok
  obtain ⟨xb, rb, ob, es', ep', hob, _, hdb, heb, hib, hnb⟩ := kB.heap I.hok
  have hla : es.size = da.length := by rw [size_of_entries hea, paired_len ra, rA.length]
  have hlb : es'.size = db.length := by rw [size_of_entries heb, paired_len rb, rB.length]
  unfold eqD at h
  rw [← hla, ← hlb] at h
  unfold Builtin.Dict.samePairs Builtin.Dict.showsAll
  rw [if_neg (show ¬ (a == sysModules) = true by rw [kA.sys]; exact Bool.false_ne_true), if_neg (show ¬ (b == sysModules) = true by rw [kB.sys]; exact Bool.false_ne_true)]
  refine wpAny_bind (wpAny_pure (wpAny_bind (wpAny_pure ?_)))
  refine wpAny_bind (wpAny_dictEntries hoa hda ?_)
  dsimp only
  refine wpAny_bind (wpAny_dictEntries hob hdb ?_)
  by_cases hsz : es.size = es'.size
  case neg =>
    rw [if_pos (by simpa using hsz)]
    have hbf : (es.size == es'.size) = false := by simpa using hsz
    rw [hbf, Bool.false_and] at h
    exact wpAny_bind (wpAny_rule (wpAny_pure h))
  case pos =>
    have h' : Q (hitsD db da) s := by simpa [hsz] using h
    rw [if_neg (by rw [hsz]; simp)]
    refine wpAny_bind (wpAny_dictEpoch hoa hda ?_)
    refine wpAny_bind ?_
    rw [Std.Legacy.Range.forIn_eq_forIn_range']
    simp only [Std.Legacy.Range.size, Nat.sub_zero, Nat.add_sub_cancel, Nat.div_one]
    refine wpAny_forIn_list _
      (fun rest q s' => s' = s ∧ q = (none, ()) ∧ ∃ i, rest = List.range' i (es.size - i) ∧ i ≤ es.size ∧ hitsD db da = hitsD db (da.drop i))
      _ ?_ ?_ _ _ ⟨rfl, rfl, 0, by simp, Nat.zero_le _, rfl⟩
    · rintro x rest q s' ⟨rfl, rfl, i, hr, hi, hpre⟩
      have hlt : i < es.size := by
        rcases Nat.lt_or_ge i es.size with h | h
        · exact h
        · rw [Nat.sub_eq_zero_of_le h] at hr; simp at hr
      obtain ⟨rfl, hrest⟩ : x = i ∧ rest = List.range' (i + 1) (es.size - (i + 1)) := by
        have e : es.size - i = (es.size - (i + 1)) + 1 := by omega
        rw [e, List.range'_succ] at hr
        injection hr with h1 h2
        exact ⟨h1, h2⟩
      refine wpAny_bind (wpAny_dictEntries hoa hda ?_)
      rw [Array.getElem?_eq_getElem hlt]
      have hda' : x < da.length := by omega
      have hdrop : da.drop x = da[x] :: da.drop (x + 1) := List.drop_eq_getElem_cons hda'
      have hka' : x < ka.length := by rw [rA.length]; exact hda'
      obtain ⟨qd, hqd, e1, dp1, sh1⟩ := paired_get rA (List.getElem?_eq_getElem hka')
      have eqd : qd = da[x] := by
        rw [List.getElem?_eq_getElem hda'] at hqd
        exact (Option.some.inj hqd).symm
      obtain ⟨xv, hxv, f1, f2, f3⟩ := paired_get ra (List.getElem?_eq_getElem hka')
      have hent := entry_at hea x
      rw [hxv, Array.getElem?_eq_getElem hlt] at hent
      have hent : es[x] = entryOfKey (nestedKind X.prog X.w) xv := Option.some.inj hent
      rw [hdrop] at hpre
      have hkx := hia xv (List.mem_of_getElem? hxv)
      show wpAny _ _ (holding [es[x].key, es[x].val] _ >>= _) _ _ _
      rw [hent]
      obtain ⟨as, rd1⟩ := Dp.reads I qd.2 _ xv.2.2 dp1 f3
      have ekey : xv.1 = qd.1 := by rw [← f1, e1]
      refine wpAny_bind (wpAny_holding (wpAny_bind (wpAny_dictFind_heap (knd := nestedKind X.prog X.w) (k := xv.1) (by show A.units + 8 < cLine; omega) hkx hob hdb heb hib hnb (fun hno => ?_) (fun j p hj => ?_))))
      · have hn : lookD db qd.1 = none := by
          rcases find_at rb kB.nd qd.1 with ⟨z1, _⟩ | ⟨v, z1, z2⟩
          · rcases look_rel rB qd.1 with ⟨_, y⟩ | ⟨v', d', y, _⟩
            · exact y
            · rw [z1] at y; cases y
          · exfalso
            obtain ⟨p', hp', hv⟩ : ∃ p' ∈ kb, p'.1 = qd.1 := by
              unfold atK at z1
              obtain ⟨p', hf, _⟩ := Option.map_eq_some_iff.mp z1
              exact ⟨p', List.mem_of_find?_eq_some hf, by simpa using List.find?_some hf⟩
            obtain ⟨j, hj⟩ := List.getElem?_of_mem hp'
            obtain ⟨x', hx', g1, _⟩ := paired_get rb hj
            exact hno j x'.2 (by rw [hx', ekey, ← hv, g1])
        rw [← eqd] at hpre
        have hf : hitsD db da = false := by
          rw [hpre]
          show ((match lookD db qd.1 with | none => false | some e => PyData.eqv qd.2 e) && _) = false
          rw [hn]
          rfl
        rw [hf] at h'
        refine wpAny_pure ?_
        show wpAny _ _ (if (!false) = true then _ else _) _ _ _
        rw [if_pos (by decide)]
        exact wpAny_pure (wpAny_pure h')
      · have hjlt : j < es'.size := by
          have := (List.getElem?_eq_some_iff.mp hj).1
          rw [size_of_entries heb]
          exact this
        have hent' := entry_at heb j
        rw [hj, Array.getElem?_eq_getElem hjlt] at hent'
        have hent' : es'[j] = entryOfKey (nestedKind X.prog X.w) (xv.1, p) := Option.some.inj hent'
        refine wpAny_bind (wpAny_dictEntries hob hdb ?_)
        rw [Array.getElem?_eq_getElem hjlt]
        obtain ⟨v', d', y1, y2, y3, y4⟩ : ∃ v' d', atK kb qd.1 = some v' ∧ lookD db qd.1 = some d' ∧ Dp X.K H v' d' ∧ SeqAt.shaped d' = true := by
          rcases look_rel rB qd.1 with ⟨y, _⟩ | y
          · exfalso
            rcases find_at rb kB.nd qd.1 with ⟨_, z⟩ | ⟨v, z1, _⟩
            · exact z j p (by rw [hj, ekey])
            · rw [y] at z1; cases z1
          · exact y
        have rv : RelV v' p.2 := by
          rcases find_at rb kB.nd qd.1 with ⟨z, _⟩ | ⟨v, z1, z2⟩
          · rw [y1] at z; cases z
          · rw [y1] at z1
            cases z1
            exact z2 j p (by rw [hj, ekey])
        obtain ⟨bs, rd2⟩ := Dp.reads I d' _ p.2 y3 rv
        have eqat := SeqAt.eqAt_reads qd.2 d' A s' xv.2.2 p.2 as bs rd1 rd2 (SeqAt.canLay_of_shaped sh1) (SeqAt.canLay_of_shaped y4) (SeqAt.room_of_shaped sh1 hu)
        rw [← eqd] at hpre
        have hstep : hitsD db da = (PyData.eqv qd.2 d' && hitsD db (da.drop (x + 1))) := by
          rw [hpre]
          show ((match lookD db qd.1 with | none => false | some e => PyData.eqv qd.2 e) && _) = _
          rw [y2]
        show wpAny _ _ (holding [es'[j].val] (eqBool _ es'[j].val)) _ _ _
        rw [hent']
        refine wpAny_holding (eqat X.prog X.w _ _ ?_)
        cases e : PyData.eqv qd.2 d' with
        | false =>
          rw [e, Bool.false_and] at hstep
          rw [hstep] at h'
          show wpAny _ _ (if (!false) = true then _ else _) _ _ _
          rw [if_pos (by decide)]
          exact wpAny_pure (wpAny_pure h')
        | true =>
          rw [e, Bool.true_and] at hstep
          show wpAny _ _ (if (!true) = true then _ else _) _ _ _
          rw [if_neg (by decide)]
          refine wpAny_bind (wpAny_dictEpoch hoa hda ?_)
          rw [if_neg (by simp)]
          exact wpAny_pure ⟨rfl, rfl, x + 1, hrest, hlt, hstep⟩
    · rintro q s' ⟨rfl, rfl, i, hr, hi, hpre⟩
      have hin : i = es.size := by
        rcases Nat.lt_or_ge i es.size with h | h
        · have e : es.size - i = (es.size - (i + 1)) + 1 := by omega
          rw [e, List.range'_succ] at hr; exact nomatch hr
        · exact Nat.le_antisymm hi h
      refine wpAny_pure ?_
      rw [hin, hla, List.drop_length] at hpre
      rw [hpre] at h'
      exact h'
def rEqDN (P : Program) (w : World) (K : PySem.W.Frag) : R2 := fun x y H Q => ∃ (a b : Addr) (ka kb : Kvs) (da db : List (NestedKey × PyData)), x = .ref a ∧ y = .ref b ∧ KD P w H a ka ∧ KD P w H b kb ∧ Paired (isData K H) ka da ∧ Paired (isData K H) kb db ∧ Q (.bl (eqD da db)) H
theorem op_eqDN {X : Cx} (hu : X.A.units + 65 < cLine) : OpR X (compareOp .Eq) (rEqDN X.prog X.w X.K) := by
  intro pins s σ H x y v u Q I rx ry h
  obtain ⟨a, b, ka, kb, da, db, rfl, rfl, kA, kB, rA, rB, q⟩ := h
  cases (show v = Value.ref a from rx)
  cases (show u = Value.ref b from ry)
  obtain ⟨xa, _, DA⟩ := kA.heap I.hok
  obtain ⟨xb, _, DB⟩ := kB.heap I.hok
  refine wpAny_richCompare_same_room (op := .Eq) DA.typeIs DB.typeIs PySem.F.slot_dict_eq (wpAny_call_entry PySem.F.slot_dict_eq DA.typeIs PySem.F.entry_dict_eq ?_ (PySem.F.args_dict_eq_2 _ _)) (by omega)
  show wpAny _ _ (Builtin.Dict.dictSlotArgs "__eq__" ⟨[.ref a, .ref b], []⟩ >>= _) _ _ s
  refine wpAny_bind ?_
  unfold Builtin.Dict.dictSlotArgs
  refine wpAny_bind (wpAny_notOrdered_dict DA.typeIs ?_)
  show wpAny _ _ (pure (Value.ref a, Value.ref b)) _ _ s
  refine wpAny_pure ?_
  refine wpAny_bind (wpAny_isInstance (T := "dict") DB.typeIs PySem.F.sub_dict_dict ?_)
  simp only [Bool.not_true, Bool.false_eq_true, if_false]
  refine wpAny_bind (wpAny_pure (wpAny_bind (wpAny_pure ?_)))
  refine wpAny_bind (same_pairsN I (by show X.A.units + 1 + 64 < cLine; omega) kA kB rA rB ?_)
  refine wpAny_pure ⟨_, rfl, ?_, ?_⟩
  · exact fun x => nomatch x
  · refine ⟨.bl (eqD da db), H, I, ?_, q⟩
    show _ = Value.bool (eqD da db)
    simp
end Kd

set_option Elab.async false
set_option linter.all false
set_option maxRecDepth 100000
set_option maxHeartbeats 4000000
/-! Dict comprehensions whose keys are nested tuples; list(d.items()) of such a dict. -/
namespace Kt
open PySem PySem.Spec PyProof.Rows L2 Kd
/-- d[k] = v by a comprehension, k a nested tuple -/
theorem d_setK {X : Cx} (hu : X.A.units + 64 < cLine) {pins : List (Addr × Obj)} {σ : L2.St} {H : Hp} {s : Shared} {E : Value → Shared → Prop} {Q : Unit → Shared → Prop} {d a : Addr} {k : NestedKey} {kvs : Kvs} {v : V} {r : Value} (I : Inv X pins σ H s) (kd : KD X.prog X.w H d kvs) (n : Nest H k (.ref a)) (hk : k.depth ≤ 8) (hl : kvs.length < 100000) (rv : RelV v r)
    (q : ∀ H' s', Inv X pins σ H' s' → KD X.prog X.w H' d (putKv kvs k a v) → (∀ b, b ≠ d → H' b = H b) → Q () s') : wpAny (model X.prog X.w) X.A (dictSet d (.ref a) r) Q E s := by
  obtain ⟨xs, rr, D⟩ := kd.heap I.hok
  obtain ⟨hm, nt⟩ := kd.mut
  refine wpAny_dictSet_heap (knd := nestedKind X.prog X.w) (k := k) (hsz := by rw [paired_len rr]; exact Nat.le_trans (Nat.le_of_lt hl) (by decide)) (by show X.A.units + 8 < cLine; omega) ⟨n.is I.hok rfl, hk⟩ D fun h' D' hs => ?_
  obtain ⟨ob, es, ep, h1, h2, h3, h4, h5, h6⟩ := D'
  have rp := paired_put (k := k) (a := a) rv rr
  have e0 : ∀ b xs, H b = some (.tup xs) → upd H d (.ext (rawD d es ep)) b = some (.tup xs) := fun b xs e => by
    rw [upd_ne (fun z => nt xs (by rw [← z]; exact e))]
    exact e
  refine q (upd H d (.ext (rawD d es ep))) _ (d_write I hm hs ⟨ob, h1⟩ ⟨⟨ob, h1, h2, h3⟩, ⟨ob, h1⟩, fun _ _ ⟨o', q1, q2⟩ kk => ⟨o', kk _ q1, q2⟩⟩) ⟨?_, fun p hp => ?_, kd.sys, ?_, es, ep, _, upd_same, h4, rp⟩ fun b hb => upd_ne hb
  · rw [← paired_fst rp]
    exact h6
  · rcases mem_put p hp with ⟨p', hp', e1, e2⟩ | ⟨e1, e2⟩
    · rw [← e1, ← e2]
      exact ⟨(kd.key p' hp').1.keep e0, (kd.key p' hp').2⟩
    · rw [e1, e2]
      exact ⟨n.keep e0, hk⟩
  · have := len_put kvs k a v
    omega
section
variable {X : Cx}
/-- {k: v for target in iter if ..}, keys nested tuples: D the new dict -/
def tDcK (P : Program) (w : World) (wi : TI) (g : TG) (tt : TT) (tk tv : TE) (vs : List Nat) : TE := fun σ H Q => wi σ H fun J H1 => ∀ D, H1 D = none → (D == sysModules) = false → ∃ W : Nat → Nat → Hp → Prop, (∃ m, W 0 m (upd H1 D (.ext (rawD D #[] 0)))) ∧ ∀ i m H, W i m H →
  (J.stop i H ∧ Q (.ref D) H) ∨ (J.go i H ∧ ∃ Nx : Hp → Prop, (∀ H', Nx H' → ∃ m', m' < m ∧ W (i + 1) m' H') ∧ ∀ x H', J.yld i H x H' → g x (wipe σ vs) H' fun σ2 H2 => wipe σ2 vs = wipe σ vs ∧ tt σ2 H2 fun b H3 =>
    if b = true then tk σ2 H3 fun y H4 => tv σ2 H4 fun z H5 => ∃ a k kvs, y = .ref a ∧ KD P w H5 D kvs ∧ Nest H5 k (.ref a) ∧ k.depth ≤ 8 ∧ kvs.length < 100000 ∧ ∀ H6, KD P w H6 D (putKv kvs k a z) → (∀ b, b ≠ D → H6 b = H5 b) → Nx H6 else Nx H3)
theorem dcK_core {pins : List (Addr × Obj)} {s : Shared} {σ : L2.St} {H : Hp} {Q : VK} {kx vx tg iter : Expr} {ifs : List Expr} {scope : Scope} {own : List (Str × Nat)} {pos pos' : Pos} {wi : TI} {g : TG} {tt : TT} {tk tv : TE} {use : Option (Value → Sem Unit)} {Qf : Value → Shared → Prop} (hu : X.A.units + 64 < cLine)
    (hc : X.calm = true) (hN : X.N.Nodup) (I : Inv X pins σ H s) (hi : PI X tg iter wi) (ok : BlkOk X.N X.env.scope scope own)
    (hg : ∀ (s : Shared) (H : Hp) (C : Addr) (cl : List (Str × Addr)) (fp : List Addr), PG (X.blk s H scope (compEnvC scope cl C X.env) fp) tg g) (ht : ∀ (s : Shared) (H : Hp) (C : Addr) (cl : List (Str × Addr)) (fp : List Addr), PTs (X.blk s H scope (compEnvC scope cl C X.env) fp) ifs tt)
    (hk : ∀ (s : Shared) (H : Hp) (C : Addr) (cl : List (Str × Addr)) (fp : List Addr), PE (X.blk s H scope (compEnvC scope cl C X.env) fp) kx tk)
    (he : ∀ (s : Shared) (H : Hp) (C : Addr) (cl : List (Str × Addr)) (fp : List Addr), PE (X.blk s H scope (compEnvC scope cl C X.env) fp) vx tv) (hs : ∀ x, foldedSetIterable iter X.env x = pure x)
    (h : tDcK X.prog X.w wi g tt tk tv (own.map (·.2)) σ H Q)
    (hRR : ∀ D C s' m H', Inv X pins σ H' s' → Q (.ref D) H' → s'.heap.Ns C m → FpOk X pins H' C → compPost (model X.prog X.w) X.A X.xe use Qf (.ref D) C (.ok .next) s') :
    wpAny (model X.prog X.w) X.A (comprehension (.DictComp kx vx [⟨tg, iter, ifs, 0⟩] scope pos) scope X.env pos' newDict false (eval iter X.env) use) Qf X.xe s := by
  have hfree : ∀ y ∈ scope.names, y.2 = .free → ∃ c, X.env.cells.lookup y.1 = some c := fun y hy e => by
    rcases ok.free y hy e with k | k
    · exact I.ok.has _ (.inl k)
    · exact I.ok.has _ (.inr k)
  refine wpAny_comprehension_free (use := use) rfl hs (closure_ok hfree) ok.kind (fun y hy e => by rw [ok.uniq y hy, e])
    (thn (hi.run pins s σ H _ I h) fun xv s1 hx => thn hx fun itv s2 h2 => ?_)
  obtain ⟨it, fp, tn, J, H2, e, I2, T, st2, f2, q⟩ := h2
  subst e
  refine wpAny_newObj_type (newEnv_comp ?_)
  generalize hD : s2.heap.objs.size = D
  have hDn : H2 D = none := I2.hok.fresh (Nat.le_of_eq hD)
  have hDm : (D == sysModules) = false := by rw [← hD]; exact beq_eq_false_iff_ne.mpr (Nat.ne_of_gt I2.big)
  obtain ⟨W, ⟨m0, w0⟩, turn⟩ := q D hDn hDm
  generalize hs3 : ({ s2 with heap := s2.heap.push { cls := .type "dict", data := .dict #[] } } : Shared) = s3
  have I3 : Inv X pins σ (upd H2 D (.ext (rawD D #[] 0))) s3 := by
    have g : (s2.heap.push { cls := .type "dict", data := .dict #[] }).get? s2.heap.objs.size = some { cls := .type "dict", data := .dict #[] } := Heap.get?_push_size _ rfl
    rw [← hs3]
    refine I2.laid (t' := s2.toks) (fun b o e => Heap.get?_push_of_some _ e) (Nat.le_of_eq hD) ?_
    rw [← hD]
    exact ⟨⟨_, g, ⟨rfl, rfl, rfl⟩, rfl⟩, ⟨_, g⟩, fun _ _ ⟨o', q1, q2⟩ kk => ⟨o', kk _ q1, q2⟩⟩
  have h3 : s3.heap = s2.heap.push { cls := .type "dict", data := .dict #[] } := by rw [← hs3]
  have sz : ∀ b ∈ fp, b < s2.heap.objs.size := fun b hb => by
    obtain ⟨o, e, _⟩ := T.obj _ _ st2 b hb
    exact Heap.lt_size e
  have f3 : ∀ b ∈ fp, FpOk X pins (upd H2 D (.ext (rawD D #[] 0))) b ∧ b < s3.heap.objs.size := fun b hb => by
    have hlt := sz b hb
    refine ⟨⟨?_, (f2 b hb).2⟩, by rw [h3, Heap.size_push]; exact Nat.lt_succ_of_lt hlt⟩
    rw [upd_ne (by rw [← hD]; exact Nat.ne_of_lt hlt)]
    exact (f2 b hb).1
  have st3 : tn 0 s3.heap := T.keep _ _ _ st2 fun b _ o e => by rw [h3]; exact Heap.get?_push_of_some _ e
  have I4 := block_start I3 ok hN f3
  have pg := hg s3 (upd H2 D (.ext (rawD D #[] 0))) s3.heap.objs.size (cellsFrom (s3.heap.objs.size + 1) scope.names (cloFrom X.env.cells scope.names [])) fp
  have pt := ht s3 (upd H2 D (.ext (rawD D #[] 0))) s3.heap.objs.size (cellsFrom (s3.heap.objs.size + 1) scope.names (cloFrom X.env.cells scope.names [])) fp
  have pk := hk s3 (upd H2 D (.ext (rawD D #[] 0))) s3.heap.objs.size (cellsFrom (s3.heap.objs.size + 1) scope.names (cloFrom X.env.cells scope.names [])) fp
  have pe := he s3 (upd H2 D (.ext (rawD D #[] 0))) s3.heap.objs.size (cellsFrom (s3.heap.objs.size + 1) scope.names (cloFrom X.env.cells scope.names [])) fp
  show codeAny _ _ (.compStart (.DictComp kx vx [⟨tg, iter, ifs, 0⟩] scope pos) 0 (.ref it) (.ref D) (compEnvC scope (cellsFrom (s3.heap.objs.size + 1) scope.names (cloFrom X.env.cells scope.names [])) s3.heap.objs.size X.env)) (compPost (model X.prog X.w) X.A X.xe use Qf (.ref D) s3.heap.objs.size) { s3 with heap := pushCells (s3.heap.push { cls := .type "dict", data := .dict #[] }) scope.names }
  have nfp : ∀ b ∈ fp, (upd H2 D (.ext (rawD D #[] 0))) b = none := fun b hb => (f3 b hb).1.1
  generalize hce : compEnvC scope (cellsFrom (s3.heap.objs.size + 1) scope.names (cloFrom X.env.cells scope.names [])) s3.heap.objs.size X.env = ce at I4 pg pt pk pe ⊢
  have cL : ce.locals = s3.heap.objs.size := by subst hce; rfl
  generalize hH3 : upd H2 D (.ext (rawD D #[] 0)) = H3 at I3 I4 pg pt pk pe w0 nfp f3
  generalize hs4 : ({ s3 with heap := pushCells (s3.heap.push { cls := .type "dict", data := .dict #[] }) scope.names } : Shared) = s4 at I4 ⊢
  have st4 : tn 0 s4.heap := T.keep _ _ _ st3 fun b _ o e => by rw [← hs4]; exact pushCells_keeps _ _ _ _ (Heap.get?_push_of_some _ e)
  have stat : ∀ {σ' : L2.St} {H' : Hp} {s' : Shared}, Inv (X.blk s3 H3 scope ce fp) [] σ' H' s' → (∀ b ∈ fp, H' b = none) → ∀ b ∈ fp, FpOk (X.blk s3 H3 scope ce fp) [] H' b := fun {σ' H' s'} I' hn b hb =>
    ⟨hn b hb, (I'.ok.exf b hb).1, I'.ok.exfs b hb, .inl hb, fun x c e => (I'.ok.exf b hb).2 x c e, fun p hp => absurd (show p ∈ ([] : List (Addr × Obj)) ++ [] from hp) (by simp)⟩
  have loop : codeAny (model X.prog X.w) X.A (.compLoop (.DictComp kx vx [⟨tg, iter, ifs, 0⟩] scope pos) 0 (.ref it) (.ref D) ce) (compPost (model X.prog X.w) X.A X.xe use Qf (.ref D) s3.heap.objs.size) s4 := by
    refine compLoop_anyD (fun n s' => ∃ i H', Inv (X.blk s3 H3 scope ce fp) [] (wipe σ (own.map (·.2))) H' s' ∧ tn i s'.heap ∧ (∀ b ∈ fp, H' b = none) ∧ W i n H') ?_ m0 ⟨0, H3, I4, st4, nfp, w0⟩
    rintro n s5 ⟨i, H5, I5, st5, n5, w5⟩
    rcases turn i n H5 w5 with ⟨stop, qq⟩ | ⟨go, Nx, hNx, step⟩
    · have td := T.done (X.blk s3 H3 scope ce fp) rfl rfl rfl hc i [] s5 _ H5 (fun _ _ => False) I5 (stat I5 n5) st5 stop
      refine thnF td fun r s6 ⟨hr, I6⟩ => ?_
      subst hr
      have I7 : Inv X pins σ H5 s6 := I3.call' (ch := fp) I6.os I6.base I6.hok I6.bare fun b hb => ⟨(f3 b hb).1.2.2.2.1, (f3 b hb).1.2.1, (f3 b hb).1.2.2.2.2.1, (f3 b hb).1.2.2.2.2.2⟩
      have nC : H5 s3.heap.objs.size = none := by
        have z : H5 ce.locals = none := I6.free
        rw [cL] at z
        exact z
      obtain ⟨m, hn, _⟩ := I6.loc
      have hn : s6.heap.Ns ce.locals m := hn
      rw [cL] at hn
      exact hRR D s3.heap.objs.size s6 m H5 I7 qq hn (I3.fpOk (Nat.le_refl _) nC)
    · have ti := T.item (X.blk s3 H3 scope ce fp) rfl rfl rfl hc i [] s5 _ H5 (fun _ _ => False) I5 (stat I5 n5) st5 go
      refine thnF ti fun r s6 ⟨u, hr, h6⟩ => ?_
      subst hr
      refine thnF h6 fun _ s7 ⟨x, H7, I7, r7, y7, st7, n7⟩ => ?_
      have I7' := I7.pinned (stat I7 n7) (T.obj _ _ st7)
      refine thnF (pg.run _ s7 _ H7 x u _ I7' r7 (step x H7 y7)) fun _ s8 ⟨σ8, H8, I8, hw8, q8⟩ => ?_
      refine thnF (pt.run _ s8 σ8 H8 _ I8 q8) fun b s9 ⟨H9, I9, q9⟩ => ?_
      have fin : ∀ {s' : Shared} {H' : Hp}, Inv (X.blk s3 H3 scope ce fp) ([] ++ pinsAt fp s7.heap) σ8 H' s' → Nx H' → ∃ m, m < n ∧ ∃ i H', Inv (X.blk s3 H3 scope ce fp) [] (wipe σ (own.map (·.2))) H' s' ∧ tn i s'.heap ∧ (∀ b ∈ fp, H' b = none) ∧ W i m H' := fun {s' H'} I' nx => by
        obtain ⟨m', hm, w'⟩ := hNx H' nx
        have pin' : ∀ b ∈ fp, ∀ o, s7.heap.get? b = some o → s'.heap.get? b = some o ∧ H' b = none := fun b hb o e =>
          let z := I'.pin (b, o) (List.mem_append_right _ (List.mem_append_right _ (mem_pinsAt hb e)))
          ⟨z.1, z.2.1⟩
        have hl : (wipe σ (own.map (·.2))).length = σ8.length := by rw [← hw8, wipe_length]
        refine ⟨m', hm, i + 1, H', (I'.unpinned (pins := [])).weak hl (fun j v e => ?_), T.keep _ _ _ st7 fun b hb o e => (pin' b hb o e).1, fun b hb => ?_, w'⟩
        · rw [← hw8] at e
          exact (wipe_some e).1
        · obtain ⟨o, e, _⟩ := T.obj _ _ st7 b hb
          exact (pin' b hb o e).2
      cases b with
      | false =>
        simp only [Bool.false_eq_true, if_false] at q9 ⊢
        exact fin I9 q9
      | true =>
        simp only [if_true] at q9 ⊢
        refine thnF (pk.run _ s9 σ8 H9 _ I9 q9) fun z s10 ⟨yk, H10, I10, r10, q10⟩ => ?_
        refine thnF (pe.run _ s10 σ8 H10 _ I10 q10) fun z2 s11 ⟨yv, H11, I11, r11, a, k, kvs, ek, kd, nk, hk8, hz11, nx⟩ => ?_
        subst ek
        cases (show z = Value.ref a from r10)
        exact d_setK (X := X.blk s3 H3 scope ce fp) hu I11 kd nk hk8 hz11 r11 fun H12 s12 I12 kd' oth => fin I12 (nx H12 kd' oth)
  exact codeAny_compStart_dict loop (T.self X.A 0 _ _ _ st4 loop)
/-- name = {k: v for ..} on one line, the name a local -/
theorem ps_setDcK {i : Nat} {y : Str} {py : Pos} {kx vx tg iter : Expr} {ifs : List Expr} {scope : Scope} {own : List (Str × Nat)} {pos spos : Pos} {wi : TI} {g : TG} {tt : TT} {tk tv : TE} (hu : X.A.units + 64 < cLine) (hc : X.calm = true) (hN : X.N.Nodup) (hy : X.N[i]? = some y) (hyl : X.env.scope.names.lookup y = some .local)
    (hsw : swapsWith (.DictComp kx vx [⟨tg, iter, ifs, 0⟩] scope pos) (some (.Name y py)) spos.line X.env = pure true) (hi : PI X tg iter wi) (ok : BlkOk X.N X.env.scope scope own)
    (hg : ∀ (s : Shared) (H : Hp) (C : Addr) (cl : List (Str × Addr)) (fp : List Addr), PG (X.blk s H scope (compEnvC scope cl C X.env) fp) tg g) (ht : ∀ (s : Shared) (H : Hp) (C : Addr) (cl : List (Str × Addr)) (fp : List Addr), PTs (X.blk s H scope (compEnvC scope cl C X.env) fp) ifs tt)
    (hk : ∀ (s : Shared) (H : Hp) (C : Addr) (cl : List (Str × Addr)) (fp : List Addr), PE (X.blk s H scope (compEnvC scope cl C X.env) fp) kx tk)
    (he : ∀ (s : Shared) (H : Hp) (C : Addr) (cl : List (Str × Addr)) (fp : List Addr), PE (X.blk s H scope (compEnvC scope cl C X.env) fp) vx tv) (hs : ∀ x, foldedSetIterable iter X.env x = pure x := by intro _; rfl) :
    PS X (.Assign [.Name y py] (.DictComp kx vx [⟨tg, iter, ifs, 0⟩] scope pos) spos) (tAsg (tDcK X.prog X.w wi g tt tk tv (own.map (·.2))) (gName i)) := by
  refine ⟨fun pins s σ H D I h => ?_⟩
  rw [exec_Assign_Name_used _ _ _ _ hsw]
  refine wpAny_bind (wpAny_standAt (wpAny_bind ?_))
  show wpAny _ X.A (do let _ ← comprehension (.DictComp kx vx [⟨tg, iter, ifs, 0⟩] scope pos) scope X.env (firstIterPos [⟨tg, iter, ifs, 0⟩] pos) newDict false (eval iter X.env) (some (assign (.Name y py) X.env))) _ _ s
  have h : tDcK X.prog X.w wi g tt tk tv (own.map (·.2)) σ H (fun x H1 => gName i x σ H1 D.nx) := h
  refine wpAny_bind (thn (dcK_core (Qf := fun _ s' => SP X pins D .next s') hu hc hN I hi ok hg ht hk he hs h fun L C s' m H' I' q hn f => ?_) fun _ s' hq => wpAny_pure (wpAny_pure hq))
  show wpAny _ _ (assign (.Name y py) X.env (.ref L)) _ _ _
  refine wpAny_assign_Name (store_ok2 (v := V.ref L) I' hN hy (.inl hyl) rfl (fun s2 I2 ⟨a, sb, ha⟩ => ?_) (.inr hyl))
  obtain ⟨f0, f1, f2, f3, f4, f5⟩ := f
  have haC : C ≠ a := by
    rcases ha with z | z
    · rw [z]; exact f1
    · exact fun e => f4 y a z e.symm
  refine ⟨m, hn.sameBut sb haC, fun h3 sb3 => ?_⟩
  exact ⟨_, H', I2.turned (t' := s2.toks) (fun b o hb e => (sb3.2 b hb).trans e) f0 f1 f3 f4 f5, q⟩
/-- over a list that stays -/
theorem dcK_list {P : Program} {w : World} {K : PySem.W.Frag} {a : Addr} {xs : List V} {g : TG} {tt : TT} {tk tv : TE} {vs : List Nat} {σ : L2.St} {H1 : Hp} {D : Addr} {Qd : Hp → Prop} (Pv : Nat → Hp → Prop) (h0 : Pv 0 (upd H1 D (.ext (rawD D #[] 0)))) (hl : ∀ i H, i ≤ xs.length → Pv i H → SqL K H a xs)
    (hs : ∀ i x H, xs[i]? = some x → Pv i H → g x (wipe σ vs) H fun σ2 H2 => wipe σ2 vs = wipe σ vs ∧ tt σ2 H2 fun b H3 =>
      if b = true then tk σ2 H3 fun y H4 => tv σ2 H4 fun z H5 => ∃ a k kvs, y = .ref a ∧ KD P w H5 D kvs ∧ Nest H5 k (.ref a) ∧ k.depth ≤ 8 ∧ kvs.length < 100000 ∧ ∀ H6, KD P w H6 D (putKv kvs k a z) → (∀ b, b ≠ D → H6 b = H5 b) → Pv (i + 1) H6 else Pv (i + 1) H3) (hd : ∀ H, Pv xs.length H → Qd H) :
    ∃ W : Nat → Nat → Hp → Prop, (∃ m, W 0 m (upd H1 D (.ext (rawD D #[] 0)))) ∧ ∀ i m H, W i m H →
      ((Itl K a).stop i H ∧ Qd H) ∨ ((Itl K a).go i H ∧ ∃ Nx : Hp → Prop, (∀ H', Nx H' → ∃ m', m' < m ∧ W (i + 1) m' H') ∧ ∀ x H', (Itl K a).yld i H x H' → g x (wipe σ vs) H' fun σ2 H2 => wipe σ2 vs = wipe σ vs ∧ tt σ2 H2 fun b H3 =>
        if b = true then tk σ2 H3 fun y H4 => tv σ2 H4 fun z H5 => ∃ a k kvs, y = .ref a ∧ KD P w H5 D kvs ∧ Nest H5 k (.ref a) ∧ k.depth ≤ 8 ∧ kvs.length < 100000 ∧ ∀ H6, KD P w H6 D (putKv kvs k a z) → (∀ b, b ≠ D → H6 b = H5 b) → Nx H6 else Nx H3) := by
  refine ⟨fun i m H => m = xs.length - i ∧ i ≤ xs.length ∧ Pv i H, ⟨xs.length, by simp, Nat.zero_le _, h0⟩, ?_⟩
  rintro i m H ⟨rfl, hi, p⟩
  have q := hl i H hi p
  by_cases hlt : i < xs.length
  · refine .inr ⟨⟨xs, xs[i], q, by simp [hlt]⟩, Pv (i + 1), fun H' p' => ⟨xs.length - (i + 1), by omega, rfl, hlt, p'⟩, fun x H' y => ?_⟩
    obtain ⟨e, y⟩ := y
    subst e
    exact hs i x _ (y xs q) p
  · have e : i = xs.length := by omega
    subst e
    exact .inl ⟨⟨xs, q, Nat.le_refl _⟩, hd H p⟩
end
/-! ### list(d.items()) -/
def putN : Hp → List Addr → Kvs → Hp
  | H, a :: as, p :: kvs => putN (upd H a (.tup [.ref p.2.1, p.2.2])) as kvs
  | H, _, _ => H
theorem putN_off {b : Addr} : ∀ (as : List Addr) (kvs : Kvs) (H : Hp), b ∉ as → putN H as kvs b = H b
  | [], _, _, _ => rfl
  | _ :: _, [], _, _ => rfl
  | a :: as, p :: kvs, H, h => by
    show putN (upd H a (.tup [.ref p.2.1, p.2.2])) as kvs b = H b
    rw [putN_off as kvs _ (fun z => h (List.mem_cons_of_mem _ z)), upd_ne (fun z => h (by rw [z]; exact List.mem_cons_self))]
theorem putN_at : ∀ (as : List Addr) (kvs : Kvs) (H : Hp), as.length = kvs.length → as.Nodup → Paired (fun (t : Addr) (p : NestedKey × Addr × V) => putN H as kvs t = some (.tup [.ref p.2.1, p.2.2])) as kvs
  | [], [], _, _, _ => .nil
  | [], _ :: _, _, h, _ => by cases h
  | _ :: _, [], _, h, _ => by cases h
  | a :: as, p :: kvs, H, h, hn => by
    have hn' := List.nodup_cons.mp hn
    have ih := putN_at as kvs (upd H a (.tup [.ref p.2.1, p.2.2])) (Nat.succ.inj h) hn'.2
    refine .cons ?_ ih
    show putN (upd H a (.tup [.ref p.2.1, p.2.2])) as kvs a = some (.tup [.ref p.2.1, p.2.2])
    rw [putN_off as kvs _ hn'.1, upd_same]
def rItemsK (P : Program) (w : World) : V → Hp → VK → Prop := fun x H Q => ∃ (d : Addr) (kvs : Kvs), x = .ref d ∧ KD P w H d kvs ∧
  ∀ (H' : Hp) (p : Addr) (ts : List Addr), Same H H' → H p = none → H' p = some (.lst (ts.map V.ref)) → Paired (fun (t : Addr) (q : NestedKey × Addr × V) => H' t = some (.tup [.ref q.2.1, q.2.2])) ts kvs → Q (.ref p) H'
def tItemsK (P : Program) (w : World) (te : TE) : TE := fun σ H Q => te σ H fun x H1 => rItemsK P w x H1 Q
theorem items_laidK {X : Cx} {pins : List (Addr × Obj)} {σ : L2.St} {H : Hp} {s : Shared} {h' : Heap} {tk : Nat} {kvs : Kvs} {es : Array DictEntry} {acc : Array Value} {c : Nat} {as : List Addr} (I : Inv X pins σ H s) (hz : kvs.length ≤ 100000) (hsz : es.size = kvs.length)
    (ent : ∀ (i : Nat) (p : NestedKey × Addr × V), kvs[i]? = some p → ∃ (en : DictEntry) (u : Value), es[i]? = some en ∧ en.key = .ref p.2.1 ∧ en.val = u ∧ RelV p.2.2 u)
    (hk : ∀ b o, s.heap.get? b = some o → h'.get? b = some o) (hS : h'.get? s.heap.objs.size = some { cls := .type "list", dict := none, data := .seq acc c, slots := #[] }) (hl : as.length = es.size) (hG : PySem.W.DilG es s.heap.objs.size h' as) (hacc : acc.toList = as.map Value.ref) :
    ∃ H' : Hp, Same H H' ∧ H s.heap.objs.size = none ∧ H' s.heap.objs.size = some (.lst (as.map V.ref)) ∧ Paired (fun (t : Addr) (q : NestedKey × Addr × V) => H' t = some (.tup [.ref q.2.1, q.2.2])) as kvs ∧ Inv X pins σ H' { s with heap := h', toks := tk } := by
  have hSn : s.heap.objs.size ∉ as := fun z => Nat.lt_irrefl _ (hG.above _ z)
  have nd : as.Nodup := List.Pairwise.imp (fun {a b} (h : a < b) => Nat.ne_of_lt h) hG.rise
  have new : ∀ t ∈ as, H t = none := fun t ht => I.hok.fresh (Nat.le_of_lt (hG.above t ht))
  have newS : H s.heap.objs.size = none := I.hok.fresh (Nat.le_refl _)
  have atP := putN_at as kvs (upd H s.heap.objs.size (.lst (as.map V.ref))) (by omega) nd
  have off : ∀ b, b ∉ as → b ≠ s.heap.objs.size → putN (upd H s.heap.objs.size (.lst (as.map V.ref))) as kvs b = H b := fun b h1 h2 => by rw [putN_off as kvs _ h1, upd_ne h2]
  have low : ∀ b o, s.heap.get? b = some o → b ∉ as ∧ b ≠ s.heap.objs.size := fun b o e => ⟨fun z => absurd (Heap.lt_size e) (Nat.not_lt.mpr (Nat.le_of_lt (hG.above b z))), Nat.ne_of_lt (Heap.lt_size e)⟩
  have kp : ∀ b u, H b = some u → (putN (upd H s.heap.objs.size (.lst (as.map V.ref))) as kvs) b = some u := fun b u e => by
    rw [off b (fun z => by rw [new b z] at e; cases e) (fun z => by rw [z, newS] at e; cases e)]
    exact e
  have eS : putN (upd H s.heap.objs.size (.lst (as.map V.ref))) as kvs s.heap.objs.size = some (.lst (as.map V.ref)) := by rw [putN_off as kvs _ hSn, upd_same]
  refine ⟨putN (upd H s.heap.objs.size (.lst (as.map V.ref))) as kvs, kp, newS, eS, atP, ?_⟩
  refine I.call' (ch := []) rfl ⟨fun b o q _ _ _ => hk b o q, fun b o q _ _ _ => ⟨o.slots, hk b o q⟩, fun b o q n _ => ?_, fun b o q _ => ⟨o, hk b o q⟩, fun b xs q => kp b _ q, fun b o u q => kp b _ q, fun b ps q => ⟨#[], by rw [kp b _ q]; simp⟩⟩ (fun b u q => ?_) I.bare fun b z => by simp at z
  · obtain ⟨z1, z2⟩ := low b o q
    rw [off b z1 z2]
    exact n
  · by_cases hb : b ∈ as
    · obtain ⟨j, pk, e1, e2, e3⟩ := LiI.paired_ix atP hb
      rw [e3] at q
      cases q
      obtain ⟨hj, f3⟩ := hG.pairs j b e1
      obtain ⟨en, u, g1, g2, g3, g4⟩ := ent j pk e2
      have hen : es[j] = en := by
        have h := Array.getElem?_eq_getElem hj
        rw [h] at g1
        exact Option.some.inj g1
      rw [hen, g2, g3] at f3
      exact ⟨by show 2 ≤ sizeLine; decide, [.ref pk.2.1, u], .cons rfl (.cons g4 .nil), ⟨_, f3, rfl, _, rfl⟩⟩
    · by_cases hb2 : b = s.heap.objs.size
      · rw [hb2] at q ⊢
        rw [eS] at q
        cases q
        refine ⟨by rw [List.length_map]; exact Nat.le_trans (show as.length ≤ 100000 by omega) (by decide), acc.toList, c, by rw [hacc]; exact LiI.vals_refs as, ?_⟩
        rw [Array.toArray_toList]
        exact hS
      · rw [off b hb hb2] at q
        exact (I.hok b u q).stay (fun d v _ y => hk d v y) (fun d y => kp d _ y) fun d xs y => kp d _ y
section
variable {X : Cx} {e : Expr} {te : TE} {p apos cpos pos : Pos}
/-- list(e.items()), e a dict with keys of nested tuples -/
theorem pe_itemsK (hc : X.calm = true) (he : PE X e te) (hg : Gl X "list") (hm : X.mg "list" = none) (hv : bootBuiltins "list" = some (.type "list")) (hbase : attributeBase e "items" X.env (eval e X.env) = eval e X.env := by rfl) (hline : (apos.endLine == cpos.line) = true := by rfl)
    (hs : starEach [.Call (.Attribute e "items" apos) [] [] cpos] X.env = (false, eval (.Call (.Attribute e "items" apos) [] [] cpos) X.env) :: starEach [] X.env := by rfl) :
    PE X (.Call (.Name "list" p) [.Call (.Attribute e "items" apos) [] [] cpos] [] pos) (tItemsK X.prog X.w te) := by
  refine ⟨fun pins s σ H Q I hq => ?_⟩
  refine wpAny_Call_Name_kw (ld_blt I hg hm hv ?_)
  refine PyProof.Rows.callWith_type1 ?_ hs rfl
  rw [hs]
  show wpAny _ _ (spliced ((false, eval (.Call (.Attribute e "items" apos) [] [] cpos) X.env) :: backTo pos (starEach [] X.env))) _ _ s
  refine Calls.spliced_cons ?_
  refine wpAny_Call_method (T := "dict") (id := "dict.items") hbase rfl hline PySem.F.plainAttrs_dict PySem.F.slot_dict_items PySem.F.type_dict_items (thn (he.run pins s σ H _ I hq) fun u s1 ⟨x, H1, I1, rx, d, kvs, ex, kd, q⟩ => ?_)
  subst ex
  obtain rfl : u = Value.ref d := rx
  obtain ⟨es, ep, xs, kq⟩ := kd.ok
  obtain ⟨hsz, ent⟩ := kq.entry
  have hl := kd.len
  obtain ⟨⟨o, hgd, hx, hdt⟩, _, _⟩ := (show ObjOk X.prog X.w H1 s1.heap d (.ext (rawD d es ep)) from I1.hok d _ kq.at_)
  have raw : s1.heap.DictRaw d es ep := ⟨o, hgd, hx, hdt⟩
  have I2 : Inv X pins σ H1 { s1 with heap := s1.heap.push { cls := .type "dict_items", data := .fields #[.ref d] } } := I1.kept (t' := s1.toks) fun b ob q => Heap.get?_push_of_some _ q
  refine ⟨raw.typeIs, (fun b hb => by cases hb; exact ⟨o, hgd, hx.2.1⟩), ?_⟩
  show wpAny _ _ (callWith cpos (.builtin "dict.items") [.ref d] [] []) _ X.xe s1
  refine method_meetsIn PySem.F.slot_dict_items PySem.F.entry_dict_items rfl (PySem.evalArgs_none ⟨rfl, raw.typeIs, PySem.F.args_dict_items_1 _, _, meets_dict_items_raw d kd.sys, ⟨es, ep, raw⟩, ?_⟩)
  refine Calls.spliced_nil ?_
  refine PySem.W.dil_call (I1.ok.hd hc) ⟨_, Heap.get?_push_size _ rfl, rfl, rfl⟩ (raw.push _) (by rw [hsz]; exact Nat.le_trans hl (by decide)) fun h' tk acc c as hk hS hl2 hG hacc => ?_
  obtain ⟨H', k1, k2, k4, k5, J⟩ := items_laidK (tk := tk) I2 hl hsz ent hk hS hl2 hG hacc
  exact ⟨.ref _, H', J, rfl, q H' _ as k1 k2 k4 k5⟩
end
end Kt

set_option Elab.async false
set_option linter.all false
set_option maxRecDepth 100000
set_option maxHeartbeats 4000000
/-! views_of. -/
namespace K1
open PySem PySem.Spec PyProof.Rows L2 Kx Kd Kt Kh
/-- the number of parts that a view tells: its last event -/
def lastN (v : List NestedKey) : Nat := match v.getLast? with
  | some (.tup [_, _, .num n]) => n.toNat
  | _ => 0
/-- an event: a tuple of up to three numbers and texts -/
def evB : NestedKey → Prop
  | .tup ks => ks.length ≤ 3 ∧ ∀ q ∈ ks, (∃ i, q = .num i) ∨ ∃ z, q = .text z
  | _ => False
def Tr.okv (t : Tr) : Prop := ∀ s v ps, t = .move s v ps → ps.ls.length = lastN v ∧ (NestedKey.tup v).depth ≤ 8 ∧ v.length ≤ 1000 ∧ ∀ k ∈ v, evB k
/-- a seat's view at a node -/
def Tr.vw (s : Str) : Tr → Option (List NestedKey)
  | .move s' v _ => if s' = s then some v else none
  | _ => none
/-- views and their numbers of moves, each where it is met first -/
def addV (acc : List (List NestedKey)) (v : List NestedKey) : List (List NestedKey) := if v ∈ acc then acc else acc ++ [v]
def addO (acc : List (List NestedKey)) : Option (List NestedKey) → List (List NestedKey)
  | some v => addV acc v
  | none => acc
def vwL (s : Str) (l : List Tr) : List (List NestedKey) := l.foldl (fun acc t => addO acc (t.vw s)) []
theorem vwL_snoc (s : Str) (l : List Tr) (t : Tr) : vwL s (l ++ [t]) = addO (vwL s l) (t.vw s) := by
  unfold vwL
  rw [List.foldl_append]
  rfl
theorem addO_len (acc : List (List NestedKey)) (o : Option (List NestedKey)) : (addO acc o).length ≤ acc.length + 1 := by
  cases o with
  | none => exact Nat.le_succ _
  | some v =>
    show (if v ∈ acc then acc else acc ++ [v]).length ≤ _
    split
    · exact Nat.le_succ _
    · rw [List.length_append]
      exact Nat.le_refl _
theorem vwF_len (s : Str) : ∀ (l : List Tr) (acc : List (List NestedKey)), (l.foldl (fun acc t => addO acc (t.vw s)) acc).length ≤ acc.length + l.length
  | [], acc => Nat.le_refl _
  | t :: l, acc => by
    rw [List.foldl_cons, List.length_cons]
    have := vwF_len s l (addO acc (t.vw s))
    have := addO_len acc (t.vw s)
    omega
theorem vwL_len (s : Str) (l : List Tr) : (vwL s l).length ≤ l.length := by
  have := vwF_len s l []
  rw [List.length_nil, Nat.zero_add] at this
  exact this
/-- what the dict of views holds -/
def VwD (P : Program) (w : World) (H : Hp) (d : Addr) (acc : List (List NestedKey)) : Prop := ∃ kvs : Kvs, KD P w H d kvs ∧ kvs.map (fun p => (p.1, p.2.2)) = acc.map fun v => (NestedKey.tup v, V.int (lastN v))
theorem atK_vw {kvs : Kvs} {acc : List (List NestedKey)} (h : kvs.map (fun p => (p.1, p.2.2)) = acc.map fun v => (NestedKey.tup v, V.int (lastN v))) (v : List NestedKey) : atK kvs (.tup v) = if v ∈ acc then some (V.int (lastN v)) else none := by
  induction acc generalizing kvs with
  | nil =>
    cases kvs with
    | nil => rfl
    | cons p r => cases h
  | cons x acc ih =>
    cases kvs with
    | nil => cases h
    | cons p r =>
      rw [List.map_cons, List.map_cons] at h
      injection h with h1 h2
      have ih := ih h2
      unfold atK at ih ⊢
      rw [List.find?_cons]
      have e1 : p.1 = .tup x := congrArg Prod.fst h1
      have e2 : p.2.2 = V.int (lastN x) := congrArg Prod.snd h1
      by_cases e : x = v
      · subst e
        rw [decide_eq_true e1, if_pos (List.mem_cons_self ..)]
        show some p.2.2 = _
        rw [e2]
      · rw [decide_eq_false (fun z => e (by rw [e1] at z; injection z)), ih]
        by_cases hm : v ∈ acc
        · rw [if_pos hm, if_pos (List.mem_cons_of_mem _ hm)]
        · rw [if_neg hm, if_neg]
          intro z
          rcases List.mem_cons.mp z with z | z
          · exact e z.symm
          · exact hm z
theorem putKv_vw {kvs : Kvs} {acc : List (List NestedKey)} (h : kvs.map (fun p => (p.1, p.2.2)) = acc.map fun v => (NestedKey.tup v, V.int (lastN v))) (v : List NestedKey) (a : Addr) : (putKv kvs (.tup v) a (.int (lastN v))).map (fun p => (p.1, p.2.2)) = (addV acc v).map fun v => (NestedKey.tup v, V.int (lastN v)) := by
  unfold putKv addV
  rw [atK_vw h v]
  by_cases hm : v ∈ acc
  · rw [if_pos hm, if_pos hm, Option.isSome_some, if_pos rfl, List.map_map]
    have e : ∀ p ∈ kvs, ((fun p : NestedKey × Addr × V => (p.1, p.2.2)) ∘ fun p => if p.1 = NestedKey.tup v then (p.1, p.2.1, V.int (lastN v)) else p) p = (p.1, p.2.2) := fun p hp => by
      show ((if p.1 = NestedKey.tup v then (p.1, p.2.1, V.int (lastN v)) else p).1, (if p.1 = NestedKey.tup v then (p.1, p.2.1, V.int (lastN v)) else p).2.2) = _
      by_cases e : p.1 = NestedKey.tup v
      · rw [if_pos e]
        have hp2 : (p.1, p.2.2) ∈ acc.map fun v => (NestedKey.tup v, V.int (lastN v)) := by
          rw [← h]
          exact List.mem_map.mpr ⟨p, hp, rfl⟩
        obtain ⟨x, _, hx⟩ := List.mem_map.mp hp2
        have h1 : NestedKey.tup x = p.1 := congrArg Prod.fst hx
        have h2 : V.int (lastN x) = p.2.2 := congrArg Prod.snd hx
        rw [e] at h1
        have h1 : x = v := by injection h1
        rw [← h2, h1]
      · rw [if_neg e]
    rw [List.map_congr_left e, h]
  · rw [if_neg hm, if_neg hm, Option.isSome_none, if_neg Bool.false_ne_true, List.map_append, List.map_append, h]
    rfl
theorem lenA (P : Program) (w : World) {H : Hp} {d : Addr} {acc : List (List NestedKey)} {kvs : Kvs} (h : kvs.map (fun p => (p.1, p.2.2)) = acc.map fun v => (NestedKey.tup v, V.int (lastN v))) : kvs.length = acc.length := by
  have := congrArg List.length h
  rw [List.length_map, List.length_map] at this
  exact this
/-- a pair of a view and its number of moves -/
def PairV (H : Hp) (u : V) (v : List NestedKey) : Prop := ∃ t va : Addr, u = .ref t ∧ H t = some (.tup [.ref va, .int (lastN v)]) ∧ Nest H (.tup v) (.ref va)
def spVO (c : Cls3) : Sp := fun vs H Q _ => ∃ (a : Addr) (t : Tr) (F : Addr → Prop) (s : Str), vs = [.ref a, .str s] ∧ TrAt c H F a t ∧ t.all.length ≤ 400 ∧ (∀ x ∈ t.all, x.okv) ∧
  ∀ (l : Addr) (us : List V) H', Same H H' → H l = none → H' l = some (.lst us) → Paired (PairV H') us (vwL s t.all) → Q (.ref l) H'
abbrev NVo : List Str := ["tree", "seat", "nodes", "moves", "node"]
abbrev sVO : Stmt := top 29
theorem call_len_seqF {X : Cx} {K : PySem.W.Frag} (h : X.K = K) : CallR X (.builtin "len") (fun xs H Q => ∃ p ys, xs = [.ref p] ∧ (SqL K H p ys ∨ SqT K H p ys) ∧ Q (.int ys.length) H) := by
  subst h
  exact call_len_seq
section
variable {P : Program} {w : World} {K : PySem.W.Frag} {mg : Str → Option Value} {base : Heap} {c : Cls3} {fN : Addr} {dN : FuncData}
theorem scVO : FnScope NVo ["tree", "seat"] (defScope sVO) := ⟨rfl, rfl, rfl, by decide +kernel, rfl, by decide +kernel, by decide +kernel⟩
theorem ok_vwo {f : Addr} {fd : FuncData} (F0 : Fun K "views_of" "views_of" sVO f fd) (T : TxN K mg c) (TI : TxI K mg c) (hlen : mg "len" = none) (hlist : mg "list" = none) (NO : Fn0 P w K mg base 1 "nodes_of" ["tree"] (spNO c) fN dN) : FnOk P w K mg base CX0 2 f fd ["tree", "seat"] (spVO c) := by
  refine F0.ok scVO (fun vs H Q E h => ?_) (fun cdv A0 outer s H vs Q E hr h => ?_)
  · obtain ⟨a, t, F, z, rfl, _⟩ := h
    rfl
  · obtain ⟨a, t, F, z, rfl, ha, hsz, hok, q⟩ := h
    have hr1 : Room 1 _ := hr.mono (by decide)
    have hu := hr.units
    refine ⟨_, pss_cons (ps_setLc (i := 2) (own := [("node", 4)]) (g := gName 4) (te := tVar 4) rfl scVO.nd rfl rfl (sw_true rfl rfl rfl (by decide +kernel)) (pi_list (pe_call NO.ok hr1 (by rfl) NO.gl NO.kp NO.bd .nil pass0 (pa_cons (pv 0) pa_nil))) (blkOk_by (N := NVo) (sc := defScope sVO) (by decide +kernel))
          (fun _ _ _ _ _ => pg_name (i := 4) scVO.nd rfl (Or.inl rfl)) (fun _ _ _ _ _ => pts_one (PW.pt (pw_and (pt_val (pe_callB (call_isiF (K := K) (by rfl)) (by rfl) TI.isi (by decide +kernel) (pa_cons (pv 4) (pa_cons (pe_glob (v := .ref c.M) rfl T.gM rfl) pa_nil)))) (pw_and1 (pt_cmpR op_eq (pe_fldK (K := K) (by rfl) (pv 4) rfl) (pv 1) (nomark _)))))) (fun _ _ _ _ _ => pv 4))
      (pss_cons (ps_setDcK (i := 3) (own := [("node", 4)]) (g := gName 4) (tt := tYes) (tk := tFld K (tVar 4) "view") hu rfl scVO.nd rfl rfl (swD_true rfl rfl rfl (by decide +kernel)) (pi_list (pv 2)) (blkOk_by (N := NVo) (sc := defScope sVO) (by decide +kernel))
          (fun _ _ _ _ _ => pg_name (i := 4) scVO.nd rfl (Or.inl rfl)) (fun _ _ _ _ _ => pts_nil) (fun _ _ _ _ _ => pe_fldK (by rfl) (pv 4) rfl) (fun _ _ _ _ _ => pe_callB (call_len_seqF (K := K) (by rfl)) (by rfl) hlen PySem.boot_len (pa_cons (pe_fldK (K := K) (by rfl) (pv 4) rfl) pa_nil)))
      (pss_one (ps_ret (pe_itemsK rfl (pv 3) (by rfl) hlist (by decide +kernel))))), ?_⟩
    refine ⟨_, rfl, a, t, F, rfl, ha, hsz, fun l us H1 s1 nl el pr => ⟨l, rfl, ⟨us, SqL.of el⟩, fun D hD => ?_⟩⟩
    have hD0 : H D = none := s1.free hD
    have hus := paired_len pr
    -- the nodes of the seat
    refine lc_list (xs := us) (fun i H' => ∃ (vd : List V) (dn : List Tr), H' D = some (.lst vd) ∧ Same H1 H' ∧ Paired (NdR c H1 F) vd dn ∧ (∀ x ∈ dn, x.okv ∧ ∃ v ps, x = .move z v ps) ∧ dn.length ≤ i ∧ vwL z (t.all.take i) = vwL z dn) ⟨[], [], upd_same, same_upd hD, .nil, (fun x hx => nomatch hx), Nat.le_refl _, rfl⟩ (fun i H' _ h => SqL.of (h.choose_spec.choose_spec.2.1 _ _ el)) ?_ ?_
    · rintro i v H' hv ⟨vd, dn, eD, s', pd, hd, hl, hw⟩
      obtain ⟨x, hx, hn⟩ := paired_at pr hv
      have htk : t.all.take (i + 1) = t.all.take i ++ [x] := by
        rw [List.take_add_one, hx]
        rfl
      have hi : i < 400 := Nat.lt_of_lt_of_le (List.getElem?_eq_some_iff.mp hx).1 hsz
      have hxo := hok x (List.mem_of_getElem? hx)
      have skip : x.vw z = none → ∃ (vd : List V) (dn : List Tr), H' D = some (.lst vd) ∧ Same H1 H' ∧ Paired (NdR c H1 F) vd dn ∧ (∀ x ∈ dn, x.okv ∧ ∃ v ps, x = .move z v ps) ∧ dn.length ≤ i + 1 ∧ vwL z (t.all.take (i + 1)) = vwL z dn := fun hz => by
        refine ⟨vd, dn, eD, s', pd, hd, by omega, ?_⟩
        rw [htk, vwL_snoc, hz, hw]
        rfl
      refine ⟨rfl, ?_⟩
      obtain ⟨a1, rfl, ⟨p, dx, rfl, h⟩ | ⟨ps, us2, dx, tp, rfl, h, _⟩ | ⟨s2, view, ps, us2, dx, va, tp, rfl, h, _⟩⟩ := nd_cases hn
      · have h := s' _ _ h
        exact ⟨_, rfl, .ref a1, .ref c.M, .ref c.E, .ref c.M, false, rfl, .own c.M, TI.tE h, TI.mE, _, rfl, iteF (skip rfl)⟩
      · have h := s' _ _ h
        exact ⟨_, rfl, .ref a1, .ref c.M, .ref c.L, .ref c.M, false, rfl, .own c.M, TI.tL h, TI.mL, _, rfl, iteF (skip rfl)⟩
      · have h := s' _ _ h
        refine ⟨_, rfl, .ref a1, .ref c.M, .ref c.M, .ref c.M, true, rfl, .own c.M, TI.tM h, TI.mM, _, rfl, iteT ?_⟩
        refine ⟨_, rfl, a1, c.M, dx, _, _, rfl, h, T.cM, T.nM1, rfl, _, rfl, rfl, _, rfl, ite2 (fun y => ?_) (fun y => ?_)⟩
        · have y := V.str.inj (of_decide_eq_true y)
          subst y
          have lvd := paired_len pd
          refine ⟨_, rfl, vd, eD, Nat.lt_of_le_of_lt (show vd.length ≤ 400 by omega) (by decide), vd ++ [.ref a1], dn ++ [_], upd_same, fun b o e => ?_, paired_app pd (.cons hn .nil), fun x hx => ?_, ?_, ?_⟩
          · rw [upd_ne (ne_of_none e hD)]
            exact s' _ _ e
          · rcases List.mem_append.mp hx with hx | hx
            · exact hd x hx
            · rw [List.mem_singleton.mp hx]
              exact ⟨hxo, _, _, rfl⟩
          · rw [List.length_append, List.length_singleton]
            omega
          · rw [htk, vwL_snoc, vwL_snoc, hw]
        · refine skip ?_
          show (if s2 = z then some view else none) = none
          rw [if_neg fun e => y (decide_eq_true (by rw [e]))]
    · rintro H2 ⟨vd, dn, eD, s2, pd, hd, hl, hw⟩
      rw [hus, List.take_length] at hw
      have ldn : dn.length ≤ 400 := by omega
      have pd2 := nd_same pd s2
      have s02 := s1.trans s2
      -- the dict
      refine ⟨_, rfl, D, rfl, ⟨vd, SqL.of eD⟩, fun D2 hD2 hm2 => ?_⟩
      have s3 := same_upd (o := .ext (rawD D2 #[] 0)) hD2
      refine dcK_list (xs := vd) (fun i H' => VwD P w H' D2 (vwL z (dn.take i)) ∧ Same H2 H') ⟨⟨[], KD.new upd_same hm2, rfl⟩, s3⟩ (fun i H' _ h => SqL.of (h.2 _ _ eD)) ?_ ?_
      · rintro i v H' hv ⟨⟨kvs, kd, hk⟩, s'⟩
        obtain ⟨x, hx, hn⟩ := paired_at pd2 hv
        have htk : dn.take (i + 1) = dn.take i ++ [x] := by
          rw [List.take_add_one, hx]
          rfl
        obtain ⟨hxo, view, ps, rfl⟩ := hd x (List.mem_of_getElem? hx)
        obtain ⟨hlen, hdep, _⟩ := hxo _ _ _ rfl
        obtain ⟨a1, rfl, h⟩ := nd_cases hn
        rcases h with ⟨p, dx, h, _⟩ | ⟨ps, us2, dx, tp, h, _⟩ | ⟨s4, view4, ps4, us4, dx, va, tp, h, e1, nv, et, hp⟩
        · cases h
        · cases h
        · cases h
          have e1 := s' _ _ e1
          have et := s' _ _ et
          have nv := nv.keep (Tk.same s')
          have hlp : us4.length = lastN view := by
            rw [← hlen]
            exact paired_len (nd_of hp)
          have hkl := lenA P w (H := H') (d := D2) hk
          have hal := vwL_len z (dn.take i)
          rw [List.length_take] at hal
          refine ⟨rfl, tYesI ⟨_, rfl, a1, c.M, dx, _, _, rfl, e1, T.cM, T.nM2, rfl, ?_⟩⟩
          refine ⟨_, rfl, a1, c.M, dx, _, _, rfl, e1, T.cM, T.nM3, rfl, tp, us4, rfl, .inr (SqT.of et), va, .tup view, kvs, rfl, kd, nv, hdep, by omega, fun H6 kd' oth => ⟨⟨_, kd', ?_⟩, fun b o e => ?_⟩⟩
          · rw [hlp, putKv_vw hk, htk, vwL_snoc]
            show (addV (vwL z (dn.take i)) view).map _ = (addO _ (if z = z then some view else none)).map _
            rw [if_pos rfl]
            rfl
          · rw [oth b (ne_of_none e hD2)]
            exact s' _ _ e
      · rintro H3 ⟨⟨kvs, kd, hk⟩, s'⟩
        rw [paired_len pd2, List.take_length, ← hw] at hk
        refine ⟨_, rfl, D2, kvs, rfl, kd, fun H4 p ts s4 np ep pt => ?_⟩
        refine q p _ H4 ((s02.trans s').trans s4) ((s02.trans s').free np) ep ?_
        have kkey : ∀ p ∈ kvs, Nest H4 p.1 (.ref p.2.1) := fun p hp => (kd.key p hp).1.keep (Tk.same s4)
        clear kd ep
        revert hk kkey
        generalize vwL z t.all = acc
        induction pt generalizing acc with
        | nil =>
          intro hk _
          cases acc with
          | nil => exact .nil
          | cons x r => cases hk
        | cons h r ih =>
          intro hk kkey
          cases acc with
          | nil => cases hk
          | cons x acc =>
            rw [List.map_cons, List.map_cons] at hk
            injection hk with h1 h2
            rename_i p0 t0 ps0 ts0
            refine .cons ⟨p0, t0.2.1, rfl, ?_, ?_⟩ (ih acc h2 fun p hp => kkey p (List.mem_cons_of_mem _ hp))
            · rw [h]
              have e2 := congrArg Prod.snd h1
              dsimp only at e2
              rw [e2]
            · have k1 := kkey _ (List.mem_cons_self ..)
              have e1 := congrArg Prod.fst h1
              dsimp only at e1
              rw [e1] at k1
              exact k1
end
end K1

set_option Elab.async false
set_option linter.all false
set_option maxRecDepth 100000
set_option maxHeartbeats 4000000
/-! _law_views. -/
namespace K1
open PySem PySem.Spec PyProof.Rows L2 Kx Kd Kt Kh
abbrev sLV : Stmt := top 49
mutual
theorem DueAt.keep2 {H H' : Hp} (ht : ∀ a xs, H a = some (.tup xs) → H' a = some (.tup xs)) (hl' : ∀ a xs, H a = some (.lst xs) → H' a = some (.lst xs)) : ∀ {v : V} {t : Tr}, DueAt H v t → DueAt H' v t
  | _, _, .e h => .e (ht _ _ h)
  | _, _, .l h hl hp => .l (ht _ _ h) (hl' _ _ hl) (DusAt.keep2 ht hl' hp)
  | _, _, .m h hv hl hp => .m (ht _ _ h) (hv.keep ht) (hl' _ _ hl) (DusAt.keep2 ht hl' hp)
theorem DusAt.keep2 {H H' : Hp} (ht : ∀ a xs, H a = some (.tup xs) → H' a = some (.tup xs)) (hl' : ∀ a xs, H a = some (.lst xs) → H' a = some (.lst xs)) : ∀ {us : List V} {ps : Ts}, DusAt H us ps → DusAt H' us ps
  | _, _, .nil => .nil
  | _, _, .cons h hr => .cons (DueAt.keep2 ht hl' h) (DusAt.keep2 ht hl' hr)
end
/-- all but d is as it was -/
def Fk (d : Addr) (H H' : Hp) : Prop := ∀ b o, H b = some o → b ≠ d → H' b = some o
theorem Fk.refl (d : Addr) (H : Hp) : Fk d H H := fun _ _ e _ => e
theorem Fk.trans {d : Addr} {H H1 H2 : Hp} (a : Fk d H H1) (b : Fk d H1 H2) : Fk d H H2 := fun c o e h => b c o (a c o e h) h
theorem Fk.same {d : Addr} {H H' : Hp} (s : Same H H') : Fk d H H' := fun b o e _ => s b o e
theorem VwD.ext {P : Program} {w : World} {H : Hp} {d : Addr} {acc : List (List NestedKey)} (h : VwD P w H d acc) : ∃ r, H d = some (.ext r) := by
  obtain ⟨kvs, kd, _⟩ := h
  obtain ⟨es, ep, xs, q⟩ := kd.ok
  exact ⟨_, q.at_⟩
theorem VwD.tk {P : Program} {w : World} {H H' : Hp} {d : Addr} {acc : List (List NestedKey)} (h : VwD P w H d acc) (f : Fk d H H') : Tk H H' := fun a xs e => f a _ e fun z => by
  obtain ⟨r, hr⟩ := h.ext
  rw [z, hr] at e
  cases e
theorem VwD.due {P : Program} {w : World} {H H' : Hp} {d : Addr} {acc : List (List NestedKey)} (h : VwD P w H d acc) (f : Fk d H H') {v : V} {t : Tr} (hv : DueAt H v t) : DueAt H' v t := hv.keep2 (h.tk f) fun a xs e => f a _ e fun z => by
  obtain ⟨r, hr⟩ := h.ext
  rw [z, hr] at e
  cases e
theorem VwD.same {P : Program} {w : World} {H H' : Hp} {d : Addr} {acc : List (List NestedKey)} (h : VwD P w H d acc) (s : Same H H') : VwD P w H' d acc := by
  obtain ⟨kvs, kd, e⟩ := h
  exact ⟨kvs, kd.same s, e⟩
def vwF (s : Str) (acc : List (List NestedKey)) (l : List Tr) : List (List NestedKey) := l.foldl (fun acc t => addO acc (t.vw s)) acc
theorem vwF_app (s : Str) (acc : List (List NestedKey)) (a b : List Tr) : vwF s acc (a ++ b) = vwF s (vwF s acc a) b := List.foldl_append
theorem vwF_le (s : Str) (l : List Tr) (acc : List (List NestedKey)) : (vwF s acc l).length ≤ acc.length + l.length := vwF_len s l acc
def spLV (P : Program) (w : World) (n : Nat) : Sp := fun vs H Q _ => ∃ (v : V) (t : Tr) (s : Str) (d : Addr) (acc : List (List NestedKey)), vs = [v, .str s, .ref d] ∧ DueAt H v t ∧ t.dp ≤ n ∧ VwD P w H d acc ∧ (∀ x ∈ t.all, x.okv) ∧ acc.length + t.all.length ≤ 90000 ∧
  ∀ H', VwD P w H' d (vwF s acc t.all) → Fk d H H' → Q (.ref d) H'
abbrev NLv : List Str := ["node", "seat", "found", "part"]
section
variable {P : Program} {w : World} {K : PySem.W.Frag} {mg : Str → Option Value} {base : Heap} {fP : Addr} {dP : FuncData}
theorem scLV : FnScope NLv ["node", "seat", "found"] (defScope sLV) := ⟨rfl, rfl, rfl, by decide +kernel, rfl, by decide +kernel, by decide +kernel⟩
theorem ok_lv0 {f : Addr} {fd : FuncData} (F : Fun K "_law_views" "_law_views" sLV f fd) (T : TxL mg) (LP : Fn0 P w K mg base 1 "_law_parts" ["node"] spLP fP dP) : FnOk P w K mg base CX0 2 f fd ["node", "seat", "found"] (spLV P w 0) := by
  refine F.ok scLV (fun vs H Q E h => ?_) (fun cdv A outer s H vs Q E hr h => ?_)
  · obtain ⟨v, t, z, d, acc, rfl, _⟩ := h
    rfl
  · obtain ⟨v, t, z, d, acc, rfl, hv, hd, hf, hok, hz, q⟩ := h
    have hr1 : Room 1 _ := hr.mono (by decide)
    have hu := hr.units
    refine ⟨_, pss_cons (ps_if (PW.pt (pw_and (pt_cmpR op_eq (pe_ix ix_tup (pv 0) pe_int (fun _ _ => rfl)) pe_str (nomark _)) (pw_and (pt_cmpR op_eq (pe_ix ix_tup (pv 0) pe_int (fun _ _ => rfl)) (pv 1) (nomark _)) (pw_and1 (pt_cmpR (op_ninK hu) (pe_ix ix_tup (pv 0) pe_int (fun _ _ => rfl)) (pv 2) (by rfl))))))
        (pss_one (ps_asg (pe_callB call_len_seq (by rfl) T.len PySem.boot_len (pa_cons (pe_ix ix_tup (pv 0) pe_int (fun _ _ => rfl)) pa_nil)) (pg_sub (pv 2) (pe_ix ix_tup (pv 0) pe_int (fun _ _ => rfl)) (set_K hu)))) pss_nil)
      (pss_cons (ps_for PassesOwn.never rfl (pi_list (pe_call LP.ok hr1 (by rfl) LP.gl LP.kp LP.bd .nil pass0 (pa_cons (pv 0) pa_nil))) (pg_name (i := 3) scLV.nd rfl (Or.inl rfl))
        (pss_one ps_never))
      (pss_one (ps_ret (pv 2)))), ?_⟩
    cases hv with
    | @e a0 p h =>
      refine ⟨_, rfl, _, _, _, _, rfl, rfl, SqT.of h, tix0, rfl, _, rfl, ?_⟩
      rw [decide_eq_false (show ¬ V.str ("end" : Str) = V.str ("move" : Str) from fun z => absurd (V.str.inj z) (by decide +kernel))]
      refine iteF (iteF ⟨_, rfl, .ref a0, .end_ p, rfl, .e h, fun l us H1 s1 el hu => ⟨l, rfl, ⟨us, SqL.of el⟩, ?_⟩⟩)
      cases hu
      refine for_list (xs := []) (fun i σ H' => σ = [some (.ref a0), some (.str z), some (.ref d), none] ∧ H' = H1) ⟨rfl, rfl⟩ (fun i σ H' _ h => by rw [h.2]; exact SqL.of el) (fun i u σ H' hu _ => by simp at hu) ?_
      rintro σ H' ⟨rfl, rfl⟩
      exact ⟨_, rfl, q _ (hf.same s1) (Fk.same s1)⟩
    | l h hl hp => exact absurd hd (Nat.not_succ_le_zero _)
    | m h hv hl hp => exact absurd hd (Nat.not_succ_le_zero _)
theorem ok_lvS {f : Addr} {fd : FuncData} {k n : Nat} (hk : 1 ≤ k) (F : Fun K "_law_views" "_law_views" sLV f fd) (T : TxL mg) (LP : Fn0 P w K mg base 1 "_law_parts" ["node"] spLP fP dP) (G : Fn0 P w K mg base k "_law_views" ["node", "seat", "found"] (spLV P w n) f fd) : FnOk P w K mg base CX0 (k + 1) f fd ["node", "seat", "found"] (spLV P w (n + 1)) := by
  refine F.ok scLV (fun vs H Q E h => ?_) (fun cdv A outer s H vs Q E hr h => ?_)
  · obtain ⟨v, t, z, d, acc, rfl, _⟩ := h
    rfl
  · obtain ⟨v, t, z, d, acc, rfl, hv, hd, hf, hok, hz, q⟩ := h
    have hr1 : Room 1 _ := hr.mono hk
    have hu := hr.units
    -- the parts
    have hrest : ∃ ts, PSs (cxOf CX0 P w K mg base NLv "_law_views" (defScope sLV) f cdv A outer s H E).nox ((defBody sLV).drop 1) ts ∧ ∀ (H0 : Hp) (acc1 : List (List NestedKey)), VwD P w H0 d acc1 → Fk d H H0 → acc1.length + (t.ps.ls.flatMap Tr.all).length ≤ 90000 → t.ps.dp ≤ n → (∀ x ∈ t.ps.ls.flatMap Tr.all, x.okv) → vwF z acc t.all = vwF z acc1 (t.ps.ls.flatMap Tr.all) →
        ts { nx := fun _ H' => Q .non H', rt := Q } [some v, some (.str z), some (.ref d), none] H0 := by
      refine ⟨_, pss_cons (ps_for PassesOwn.never rfl (pi_list (pe_call LP.ok hr1 (by rfl) LP.gl LP.kp LP.bd .nil pass0 (pa_cons (pv 0) pa_nil))) (pg_name (i := 3) scLV.nd rfl (Or.inl rfl))
          (pss_one (ps_expr (pe_call G.ok hr (by rfl) G.gl G.kp G.bd .nil pass0 (pa_cons (pv 3) (pa_cons (pv 1) (pa_cons (pv 2) pa_nil)))))))
        (pss_one (ps_ret (pv 2))), fun H0 acc1 hf0 k0 hz1 hdn hok1 he => ?_⟩
      refine ⟨_, rfl, v, t, rfl, hf.due k0 hv, fun l us H1 s1 el hu => ⟨l, rfl, ⟨us, SqL.of el⟩, ?_⟩⟩
      have pr := due_of hu
      have hf1 := hf0.same s1
      refine for_list (xs := us) (fun i σ H' => (∃ v3, σ = [some v, some (.str z), some (.ref d), v3]) ∧ VwD P w H' d (vwF z acc1 ((t.ps.ls.take i).flatMap Tr.all)) ∧ Fk d H1 H') ⟨⟨_, rfl⟩, hf1, Fk.refl _ _⟩ (fun i σ H' _ h => SqL.of (h.2.2 _ _ el fun e => by
        obtain ⟨r, hr⟩ := hf1.ext
        rw [e, hr] at el
        cases el)) ?_ ?_
      · rintro i u σ H3 hu3 ⟨⟨v3, rfl⟩, hf3, k3⟩
        obtain ⟨x, hx, hn⟩ := paired_at pr hu3
        have hmem : x ∈ t.ps.ls := List.mem_of_getElem? hx
        have htk : t.ps.ls.take (i + 1) = t.ps.ls.take i ++ [x] := by
          rw [List.take_add_one, hx]
          rfl
        have hacc : ((t.ps.ls.take (i + 1)).flatMap Tr.all).length ≤ (t.ps.ls.flatMap Tr.all).length := by
          have h := congrArg (fun l => (l.flatMap Tr.all).length) (List.take_append_drop (i + 1) t.ps.ls)
          rw [List.flatMap_append, List.length_append] at h
          omega
        rw [htk, List.flatMap_append, List.flatMap_singleton, List.length_append] at hacc
        have hle := vwF_le z ((t.ps.ls.take i).flatMap Tr.all) acc1
        refine ⟨_, rfl, _, rfl, _, rfl, ?_⟩
        refine ⟨u, x, z, d, _, rfl, hf1.due k3 hn, Nat.le_trans (dp_mem hmem) hdn, hf3, fun y hy => hok1 y (List.mem_flatMap.mpr ⟨x, hmem, hy⟩), by omega, fun H4 hf4 k4 => ?_⟩
        refine ⟨⟨_, rfl⟩, ?_, k3.trans k4⟩
        rw [htk, List.flatMap_append, List.flatMap_singleton, vwF_app]
        exact hf4
      · rintro σ H3 ⟨⟨v3, rfl⟩, hf3, k3⟩
        rw [paired_len pr, List.take_length, ← he] at hf3
        exact ⟨_, rfl, q H3 hf3 ((k0.trans (Fk.same s1)).trans k3)⟩
    obtain ⟨tr, htr, rest⟩ := hrest
    refine ⟨_, pss_cons (ps_if (PW.pt (pw_and (pt_cmpR op_eq (pe_ix ix_tup (pv 0) pe_int (fun _ _ => rfl)) pe_str (nomark _)) (pw_and (pt_cmpR op_eq (pe_ix ix_tup (pv 0) pe_int (fun _ _ => rfl)) (pv 1) (nomark _)) (pw_and1 (pt_cmpR (op_ninK hu) (pe_ix ix_tup (pv 0) pe_int (fun _ _ => rfl)) (pv 2) (by rfl))))))
        (pss_one (ps_asg (pe_callB call_len_seq (by rfl) T.len PySem.boot_len (pa_cons (pe_ix ix_tup (pv 0) pe_int (fun _ _ => rfl)) pa_nil)) (pg_sub (pv 2) (pe_ix ix_tup (pv 0) pe_int (fun _ _ => rfl)) (set_K hu)))) pss_nil) htr, ?_⟩
    cases hv with
    | @e a0 p h =>
      refine ⟨_, rfl, _, _, _, _, rfl, rfl, SqT.of h, tix0, rfl, _, rfl, ?_⟩
      rw [decide_eq_false (show ¬ V.str ("end" : Str) = V.str ("move" : Str) from fun z => absurd (V.str.inj z) (by decide +kernel))]
      exact iteF (iteF (rest H acc hf (Fk.refl _ _) (by show acc.length + 0 ≤ _; omega) (Nat.zero_le _) (fun x hx => nomatch hx) rfl))
    | @l _ _ _ ps h hl hp =>
      refine ⟨_, rfl, _, _, _, _, rfl, rfl, SqT.of h, tix0, rfl, _, rfl, ?_⟩
      rw [decide_eq_false (show ¬ V.str ("lot" : Str) = V.str ("move" : Str) from fun z => absurd (V.str.inj z) (by decide +kernel))]
      have hz : acc.length + (Tr.lot ps :: ps.all).length ≤ 90000 := hz
      have hok : ∀ x ∈ Tr.lot ps :: ps.all, x.okv := hok
      rw [List.length_cons, all_ls] at hz
      rw [all_ls] at hok
      refine iteF (iteF (rest H acc hf (Fk.refl _ _) (by show acc.length + (ps.ls.flatMap Tr.all).length ≤ _; omega) (Nat.le_of_succ_le_succ hd) (fun x hx => hok x (List.mem_cons_of_mem _ hx)) ?_))
      show vwF z acc (Tr.lot ps :: ps.all) = _
      rw [all_ls]
      rfl
    | @m a0 _ va s0 view us ps h hv hl hp =>
      have hz : acc.length + (Tr.move s0 view ps :: ps.all).length ≤ 90000 := hz
      have hok : ∀ x ∈ Tr.move s0 view ps :: ps.all, x.okv := hok
      rw [List.length_cons, all_ls] at hz
      rw [all_ls] at hok
      obtain ⟨hlen, hdep, _⟩ := hok _ (List.mem_cons_self ..) _ _ _ rfl
      have hlu : us.length = lastN view := by
        rw [← hlen]
        exact paired_len (due_of hp)
      have hea : vwF z acc (Tr.move s0 view ps).all = vwF z (addO acc (if s0 = z then some view else none)) (ps.ls.flatMap Tr.all) := by
        show vwF z acc (Tr.move s0 view ps :: ps.all) = _
        rw [all_ls]
        rfl
      have hok2 : ∀ x ∈ ps.ls.flatMap Tr.all, x.okv := fun x hx => hok x (List.mem_cons_of_mem _ hx)
      have hdn : ps.dp ≤ n := Nat.le_of_succ_le_succ hd
      refine ⟨_, rfl, _, _, _, _, rfl, rfl, SqT.of h, tix0, rfl, _, rfl, ?_⟩
      rw [decide_eq_true rfl]
      refine iteT ⟨_, rfl, _, _, _, _, rfl, rfl, SqT.of h, tix1, _, rfl, rfl, _, rfl, ite2 (fun y => ?_) (fun y => ?_)⟩
      · have y := V.str.inj (of_decide_eq_true y)
        rw [if_pos y] at hea
        obtain ⟨kvs, kd, hkv⟩ := id hf
        have hkl := lenA P w (H := H) (d := d) hkv
        refine ⟨_, rfl, _, _, _, _, rfl, rfl, SqT.of h, tix2, _, rfl, va, d, .tup view, kvs, rfl, rfl, kd, hv, hdep, _, rfl, ?_⟩
        rw [atK_vw hkv]
        by_cases hm : view ∈ acc
        · rw [if_pos hm]
          have ea : addV acc view = acc := if_pos hm
          refine iteF (rest H acc hf (Fk.refl _ _) (by show acc.length + (ps.ls.flatMap Tr.all).length ≤ _; omega) hdn hok2 ?_)
          rw [hea]
          show vwF z (addV acc view) _ = _
          rw [ea]
          rfl
        · rw [if_neg hm]
          have la : (addV acc view).length ≤ acc.length + 1 := addO_len acc (some view)
          refine iteT ⟨_, rfl, _, _, _, _, rfl, rfl, SqT.of h, atI_nat (j := 3) rfl, _, us, rfl, .inl (SqL.of hl), _, rfl, _, rfl, _, _, _, _, rfl, rfl, SqT.of h, tix2, va, d, .tup view, kvs, rfl, rfl, kd, hv, hdep, by omega, fun H' kd' oth => ?_⟩
          refine rest H' (addV acc view) ⟨_, kd', ?_⟩ (fun b o e hb => by rw [oth b hb]; exact e) (by show (addV acc view).length + (ps.ls.flatMap Tr.all).length ≤ _; omega) hdn hok2 hea
          rw [hlu]
          exact putKv_vw hkv view va
      · rw [if_neg fun e => y (decide_eq_true (by rw [e]))] at hea
        exact iteF (rest H acc hf (Fk.refl _ _) (by show acc.length + (ps.ls.flatMap Tr.all).length ≤ _; omega) hdn hok2 hea)
end
end K1

set_option Elab.async false
set_option linter.all false
set_option maxRecDepth 100000
set_option maxHeartbeats 4000000
/-! _law_like. -/
namespace K1
open PySem PySem.Spec PyProof.Rows L2 Kx Kd Kt Kh
abbrev sLk : Stmt := top 52
theorem nestL_get {H : Hp} : ∀ {ks : List NestedKey} {vs : List V}, NestL H ks vs → ∀ {i : Nat} {v : V}, vs[i]? = some v → ∃ k, ks[i]? = some k ∧ Nest H k v
  | _, _, .nil, i, v, e => by simp at e
  | _, _, .cons h r, 0, v, e => by
    cases e
    exact ⟨_, rfl, h⟩
  | _, _, .cons h r, i + 1, v, e => nestL_get r (by simpa using e)
theorem Sd.nestF {H : Hp} (n : Nat) {k : NestedKey} {x y : V} (hk : evB k) (hx : Nest H k x) (hy : Nest H k y) : Sd H (n + 1) x y := by
  cases hx with
  | none => exact False.elim hk
  | num i => exact False.elim hk
  | text z => exact False.elim hk
  | @tup a xs ks ha ra =>
    cases hy with
    | @tup b ys _ hb rb =>
      obtain ⟨h3, hq⟩ := hk
      have l1 := lenN ra
      have l2 := lenN rb
      refine .tup n ha hb (by omega) (by omega) fun i u v hu hv => ?_
      obtain ⟨k, hk, nu⟩ := nestL_get ra hu
      obtain ⟨k', hk', nv⟩ := nestL_get rb hv
      rw [hk] at hk'
      cases hk'
      rcases hq k (List.mem_of_getElem? hk) with ⟨i, rfl⟩ | ⟨z, rfl⟩
      · cases nu
        cases nv
        exact .flat n (.int i)
      · cases nu
        cases nv
        exact .flat n (.str z)
theorem Sd.nest {H : Hp} (n : Nat) {view : List NestedKey} {x y : V} (hl : view.length ≤ 1000) (hk : ∀ k ∈ view, evB k) (hx : Nest H (.tup view) x) (hy : Nest H (.tup view) y) : Sd H (n + 2) x y := by
  cases hx with
  | @tup a xs ks ha ra =>
    cases hy with
    | @tup b ys _ hb rb =>
      have l1 := lenN ra
      have l2 := lenN rb
      refine .tup (n + 1) ha hb (by omega) (by omega) fun i u v hu hv => ?_
      obtain ⟨k, hk1, nu⟩ := nestL_get ra hu
      obtain ⟨k', hk', nv⟩ := nestL_get rb hv
      rw [hk1] at hk'
      cases hk'
      exact Sd.nestF n (hk k (List.mem_of_getElem? hk1)) nu nv
/-- two lists of two -/
theorem Sd.lst2 {H : Hp} {n : Nat} {a b : Addr} {x y u v : V} (ha : H a = some (.lst [x, y])) (hb : H b = some (.lst [u, v])) (h1 : Sd H n x u) (h2 : Sd H n y v) : Sd H (n + 1) (.ref a) (.ref b) := by
  refine .lst n ha hb rfl (by show 2 ≤ 200000; decide) fun i x' y' hx hy => ?_
  match i, hx, hy with
  | 0, hx, hy =>
    cases hx
    cases hy
    exact h1
  | 1, hx, hy =>
    cases hx
    cases hy
    exact h2
  | i + 2, hx, hy => cases hx
def spLk (c : Cls3) (n : Nat) : Sp := fun vs H Q _ => ∃ (a : Addr) (v : V) (t : Tr) (F : Addr → Prop), vs = [.ref a, v] ∧ TrAt c H F a t ∧ DueAt H v t ∧ t.dp ≤ n ∧ (∀ x ∈ t.all, x.okv) ∧ t.all.length ≤ 400 ∧ ∀ H', Same H H' → Q (.bl true) H'
abbrev NLk : List Str := ["actual", "due", "parts", "k"]
section
variable {P : Program} {w : World} {K : PySem.W.Frag} {mg : Str → Option Value} {base : Heap} {c : Cls3} {fP fS : Addr} {dP dS : FuncData}
theorem scLk : FnScope NLk ["actual", "due"] (defScope sLk) := ⟨rfl, rfl, rfl, by decide +kernel, rfl, by decide +kernel, by decide +kernel⟩
theorem ok_lk0 {f : Addr} {fd : FuncData} (F0 : Fun K "_law_like" "_law_like" sLk f fd) (T : TxN K mg c) (TI : TxI K mg c) (SA : Fn0 P w K mg base 5 "_law_same" ["actual", "due"] (spSame 4) fS dS) : FnOk P w K mg base CX0 6 f fd ["actual", "due"] (spLk c 0) := by
  refine F0.ok scLk (fun vs H Q E h => ?_) (fun cdv A outer s H vs Q E hr h => ?_)
  · obtain ⟨a, v, t, F, rfl, _⟩ := h
    rfl
  · obtain ⟨a, v, t, F, rfl, ha, hv, hd, hok, hz, q⟩ := h
    refine ⟨_, pss_cons (ps_if (pt_cmpR op_eq (pe_ix ix_tup (pv 1) pe_int (fun _ _ => rfl)) pe_str (nomark _))
        (pss_one (ps_ret (pe_and (pe_callB call_isi (by rfl) TI.isi (by decide +kernel) (pa_cons (pv 0) (pa_cons (pe_glob (v := .ref c.E) rfl T.gE rfl) pa_nil)))
          (pe_one (pe_call SA.ok hr (by rfl) SA.gl SA.kp SA.bd .nil pass0 (pa_cons (pe_fld (pv 0) rfl) (pa_cons (pe_ix ix_tup (pv 1) pe_int (fun _ _ => rfl)) pa_nil))))))) pss_nil)
      (pss_cons ps_never (pss_cons ps_never (pss_cons ps_never (pss_cons ps_never (pss_one ps_never))))), ?_⟩
    cases hv with
    | @e a0 p h =>
      refine ⟨_, rfl, _, _, _, _, rfl, rfl, SqT.of h, tix0, rfl, _, rfl, ?_⟩
      rw [decide_eq_true rfl]
      obtain ⟨a1, e1, h1⟩ := nd_cases (v := V.ref a) ⟨a, rfl, ha⟩
      cases e1
      rcases h1 with ⟨p1, dx, ee, hE⟩ | ⟨_, _, _, _, ee, _⟩ | ⟨_, _, _, _, _, _, _, ee, _⟩
      · cases ee
        refine iteT ⟨_, rfl, .ref a, .ref c.E, .ref c.E, .ref c.E, true, rfl, .own c.E, TI.tE hE, TI.eE, _, rfl, iteT ?_⟩
        refine ⟨_, rfl, a, c.E, dx, _, _, rfl, hE, T.cE, T.nE, rfl, _, rfl, _, _, _, _, rfl, rfl, SqT.of h, tix1, _, _, rfl, .flat 4 (.int p), q H (fun _ _ e => e)⟩
      · cases ee
      · cases ee
    | l h hl hp => exact absurd hd (Nat.not_succ_le_zero _)
    | m h hv hl hp => exact absurd hd (Nat.not_succ_le_zero _)
theorem ok_lkS {f : Addr} {fd : FuncData} {k n : Nat} (hk : 5 ≤ k) (F0 : Fun K "_law_like" "_law_like" sLk f fd) (TT : TxL mg) (T : TxN K mg c) (TI : TxI K mg c) (lL : PySem.W.kitOne K (.ref c.L) (.ref c.L) = some true) (LP : Fn0 P w K mg base 1 "_law_parts" ["node"] spLP fP dP) (SA : Fn0 P w K mg base 5 "_law_same" ["actual", "due"] (spSame 4) fS dS)
    (G : Fn0 P w K mg base k "_law_like" ["actual", "due"] (spLk c n) f fd) : FnOk P w K mg base CX0 (k + 1) f fd ["actual", "due"] (spLk c (n + 1)) := by
  refine F0.ok scLk (fun vs H Q E h => ?_) (fun cdv A outer s H vs Q E hr h => ?_)
  · obtain ⟨a, v, t, F, rfl, _⟩ := h
    rfl
  · obtain ⟨a, v, t, F, rfl, ha, hv, hd, hok, hz, q⟩ := h
    have hr1 : Room 1 _ := hr.mono (by omega)
    have hr5 : Room 5 _ := hr.mono hk
    have hrest : ∃ ts, PSs (cxOf CX0 P w K mg base NLk "_law_like" (defScope sLk) f cdv A outer s H E).nox ((defBody sLk).drop 3) ts ∧ ∀ (H0 : Hp) (C dx tp l : Addr) (fs : List (Str × V)) (us2 us : List V) (ps : Ts), Same H H0 → H0 a = some (.ins C dx fs) → Cls K C → NoAttr K C "parts" → fs.lookup ("parts" : Str) = some (V.ref tp) → H0 tp = some (.tup us2) → TsAt c H0 F us2 ps → H0 l = some (.lst us) → DusAt H0 us ps → ps.dp ≤ n → (∀ x ∈ ps.ls.flatMap Tr.all, x.okv) → (ps.ls.flatMap Tr.all).length ≤ 400 →
        ts { nx := fun _ H' => Q .non H', rt := Q } [some (.ref a), some v, some (.ref l), none] H0 := by
      refine ⟨_, pss_cons (ps_if (PW.pt (pw_or (pt_not (pt_val (pe_callB call_isi (by rfl) TT.isi (by decide +kernel) (pa_cons (pe_fld (pv 0) rfl) (pa_cons (pe_bltn (v := .ty "tuple") (by rfl) TT.tuple (by decide +kernel) rfl) pa_nil)))))
            (pw_or1 (pt_cmpR op_ne (pe_callB call_len_seq (by rfl) TT.len PySem.boot_len (pa_cons (pe_fld (pv 0) rfl) pa_nil)) (pe_callB call_len_seq (by rfl) TT.len PySem.boot_len (pa_cons (pv 2) pa_nil)) (nomark _))))) (pss_one (ps_ret pe_bl)) pss_nil)
        (pss_cons (ps_for PassesOwn.never rfl (pi_range1 rfl TT.range (pa_cons (pe_callB call_len_seq (by rfl) TT.len PySem.boot_len (pa_cons (pv 2) pa_nil)) pa_nil)) (pg_name (i := 3) scLk.nd rfl (Or.inl rfl))
          (pss_one (ps_if (pt_not (pt_val (pe_call G.ok hr (by rfl) G.gl G.kp G.bd .nil pass0 (pa_cons (pe_ix ix_tup (pe_fld (pv 0) rfl) (pv 3) (fun _ _ => rfl)) (pa_cons (pe_ix ix_list (pv 2) (pv 3) (fun _ _ => rfl)) pa_nil))))) (pss_one (ps_ret pe_bl)) pss_nil)))
        (pss_one (ps_ret pe_bl))), fun H0 C dx tp l fs us2 us ps s0 e1 cC nC hfs et hts el hu hdn hok1 hz1 => ?_⟩
      have l1 := paired_len (nd_of hts)
      have l2 := paired_len (due_of hu)
      have l12 : us2.length = us.length := by omega
      refine ⟨_, rfl, a, C, dx, _, _, rfl, e1, cC, nC, hfs, _, _, _, _, true, rfl, .ty "tuple", tyT et, kit_same, _, rfl, iteF ?_⟩
      refine ⟨_, rfl, a, C, dx, _, _, rfl, e1, cC, nC, hfs, tp, us2, rfl, .inr (SqT.of et), _, rfl, l, us, rfl, .inl (SqL.of el), rfl, _, rfl, ?_⟩
      rw [l12, decide_eq_true rfl]
      have hlen : us.length ≤ 400 := by
        have := flat_len ps.ls
        omega
      refine iteF ⟨_, rfl, l, us, rfl, .inl (SqL.of el), (us.length : Int), rfl, by omega, by omega, for_range (lo := 0) (n := (us.length : Int).toNat) (fun i σ H2 => (∃ v3, σ = [some (.ref a), some v, some (.ref l), v3]) ∧ Same H0 H2) ⟨⟨_, rfl⟩, fun _ _ e => e⟩ ?_ ?_⟩
      · rintro i σ H2 hi ⟨⟨v3, rfl⟩, s2⟩
        have h2 : i < us.length := by omega
        have h1 : i < us2.length := by omega
        have ex := List.getElem?_eq_getElem h1
        have ey := List.getElem?_eq_getElem h2
        obtain ⟨x, hx, ⟨a3, ea3, ha3⟩⟩ := paired_at (nd_of hts) ex
        obtain ⟨x', hx', hd3⟩ := paired_at (due_of hu) ey
        rw [hx] at hx'
        cases hx'
        have hmem : x ∈ ps.ls := List.mem_of_getElem? hx
        have hxl : x.all.length ≤ 400 := by
          obtain ⟨b, d, e⟩ := List.append_of_mem hmem
          rw [e, List.flatMap_append, List.length_append, List.flatMap_cons, List.length_append] at hz1
          omega
        refine ⟨_, rfl, a, C, dx, _, _, rfl, s2 _ _ e1, cC, nC, hfs, _, rfl, tp, us2, _, _, rfl, rfl, SqT.of (s2 _ _ et), by rw [Int.zero_add]; exact atI_nat ex, ?_⟩
        refine ⟨_, rfl, _, rfl, l, us, _, _, rfl, rfl, SqL.of (s2 _ _ el), by rw [Int.zero_add]; exact atI_nat ey, ?_⟩
        refine ⟨a3, us[i], x, F, by rw [ea3]; rfl, ha3.same s2, hd3.same s2, Nat.le_trans (dp_mem hmem) hdn, fun y hy => hok1 y (List.mem_flatMap.mpr ⟨x, hmem, hy⟩), hxl, fun H3 s3 => ?_⟩
        exact ⟨_, rfl, iteF ⟨⟨_, rfl⟩, s2.trans s3⟩⟩
      · rintro σ H2 ⟨⟨v3, rfl⟩, s2⟩
        exact q H2 (s0.trans s2)
    obtain ⟨tr, htr, rest⟩ := hrest
    refine ⟨_, pss_cons (ps_if (pt_cmpR op_eq (pe_ix ix_tup (pv 1) pe_int (fun _ _ => rfl)) pe_str (nomark _))
        (pss_one (ps_ret (pe_and (pe_callB call_isi (by rfl) TI.isi (by decide +kernel) (pa_cons (pv 0) (pa_cons (pe_glob (v := .ref c.E) rfl T.gE rfl) pa_nil)))
          (pe_one (pe_call SA.ok hr5 (by rfl) SA.gl SA.kp SA.bd .nil pass0 (pa_cons (pe_fld (pv 0) rfl) (pa_cons (pe_ix ix_tup (pv 1) pe_int (fun _ _ => rfl)) pa_nil))))))) pss_nil)
      (pss_cons (ps_set (i := 2) scLk.nd rfl (Or.inl rfl) (pe_call LP.ok hr1 (by rfl) LP.gl LP.kp LP.bd .nil pass0 (pa_cons (pv 1) pa_nil)))
      (pss_cons (ps_if (pt_cmpR op_eq (pe_ix ix_tup (pv 1) pe_int (fun _ _ => rfl)) pe_str (nomark _))
        (pss_one (ps_if (pt_not (pt_val (pe_callB call_isi (by rfl) TI.isi (by decide +kernel) (pa_cons (pv 0) (pa_cons (pe_glob (v := .ref c.L) rfl T.gL rfl) pa_nil))))) (pss_one (ps_ret pe_bl)) pss_nil))
        (pss_one (ps_if (PW.pt (pw_or (pt_not (pt_val (pe_callB call_isi (by rfl) TI.isi (by decide +kernel) (pa_cons (pv 0) (pa_cons (pe_glob (v := .ref c.M) rfl T.gM rfl) pa_nil)))))
            (pw_or1 (pt_not (pt_val (pe_call SA.ok hr5 (by rfl) SA.gl SA.kp SA.bd .nil pass0 (pa_cons (pe_lst (pa_cons (pe_fld (pv 0) rfl) (pa_cons (pe_fld (pv 0) rfl) pa_nil))) (pa_cons (pe_lst (pa_cons (pe_ix ix_tup (pv 1) pe_int (fun _ _ => rfl)) (pa_cons (pe_ix ix_tup (pv 1) pe_int (fun _ _ => rfl)) pa_nil))) pa_nil))))))))
          (pss_one (ps_ret pe_bl)) pss_nil))) htr)), ?_⟩
    obtain ⟨a1, e1, h1⟩ := nd_cases (v := V.ref a) ⟨a, rfl, ha⟩
    cases e1
    cases id hv with
    | @e a0 p h =>
      refine ⟨_, rfl, _, _, _, _, rfl, rfl, SqT.of h, tix0, rfl, _, rfl, ?_⟩
      rw [decide_eq_true rfl]
      rcases h1 with ⟨p1, dx, ee, hE⟩ | ⟨_, _, _, _, ee, _⟩ | ⟨_, _, _, _, _, _, _, ee, _⟩
      · cases ee
        refine iteT ⟨_, rfl, .ref a, .ref c.E, .ref c.E, .ref c.E, true, rfl, .own c.E, TI.tE hE, TI.eE, _, rfl, iteT ?_⟩
        refine ⟨_, rfl, a, c.E, dx, _, _, rfl, hE, T.cE, T.nE, rfl, _, rfl, _, _, _, _, rfl, rfl, SqT.of h, tix1, _, _, rfl, .flat 4 (.int p), q H (fun _ _ e => e)⟩
      · cases ee
      · cases ee
    | @l a0 _ us ps h hl hp =>
      have hz : (Tr.lot ps :: ps.all).length ≤ 400 := hz
      have hok : ∀ x ∈ Tr.lot ps :: ps.all, x.okv := hok
      rw [List.length_cons, all_ls] at hz
      rw [all_ls] at hok
      refine ⟨_, rfl, _, _, _, _, rfl, rfl, SqT.of h, tix0, rfl, _, rfl, ?_⟩
      rw [decide_eq_false (show ¬ V.str ("lot" : Str) = V.str ("end" : Str) from fun z => absurd (V.str.inj z) (by decide +kernel))]
      refine iteF ⟨_, rfl, _, _, rfl, hv, fun l us' H1 s1 el hu => ?_⟩
      have h' := s1 _ _ h
      refine ⟨_, rfl, _, _, _, _, rfl, rfl, SqT.of h', tix0, rfl, _, rfl, ?_⟩
      rw [decide_eq_true rfl]
      rcases h1 with ⟨p1, dx, ee, hE⟩ | ⟨ps1, us1, dx, tp, ee, hL, et, hts⟩ | ⟨_, _, _, _, _, _, _, ee, _⟩
      · cases ee
      · cases ee
        refine iteT ⟨_, rfl, .ref a, .ref c.L, .ref c.L, .ref c.L, true, rfl, .own c.L, TI.tL (s1 _ _ hL), lL, _, rfl, iteF ?_⟩
        exact rest H1 c.L dx tp l _ us1 us' ps s1 (s1 _ _ hL) T.cL T.nL rfl (s1 _ _ et) (hts.keep (fun _ f => f) (fun b o _ e => s1 _ _ e) (Tk.same s1)) el hu (Nat.le_of_succ_le_succ hd) (fun x hx => hok x (List.mem_cons_of_mem _ hx)) (Nat.le_of_succ_le hz)
      · cases ee
    | @m a0 _ va s0 view us ps h hnv hl hp =>
      have hz : (Tr.move s0 view ps :: ps.all).length ≤ 400 := hz
      have hok : ∀ x ∈ Tr.move s0 view ps :: ps.all, x.okv := hok
      rw [List.length_cons, all_ls] at hz
      rw [all_ls] at hok
      obtain ⟨_, _, hvl, hev⟩ := hok _ (List.mem_cons_self ..) _ _ _ rfl
      refine ⟨_, rfl, _, _, _, _, rfl, rfl, SqT.of h, tix0, rfl, _, rfl, ?_⟩
      rw [decide_eq_false (show ¬ V.str ("move" : Str) = V.str ("end" : Str) from fun z => absurd (V.str.inj z) (by decide +kernel))]
      refine iteF ⟨_, rfl, _, _, rfl, hv, fun l us' H1 s1 el hu => ?_⟩
      have h' := s1 _ _ h
      refine ⟨_, rfl, _, _, _, _, rfl, rfl, SqT.of h', tix0, rfl, _, rfl, ?_⟩
      rw [decide_eq_false (show ¬ V.str ("move" : Str) = V.str ("lot" : Str) from fun z => absurd (V.str.inj z) (by decide +kernel))]
      rcases h1 with ⟨p1, dx, ee, hE⟩ | ⟨_, _, _, _, ee, _⟩ | ⟨s2, view2, ps2, us1, dx, vb, tp, ee, hM, nvb, et, hts⟩
      · cases ee
      · cases ee
      · cases ee
        have hM1 := s1 _ _ hM
        refine iteF ⟨_, rfl, .ref a, .ref c.M, .ref c.M, .ref c.M, true, rfl, .own c.M, TI.tM hM1, TI.mM, _, rfl, iteF ?_⟩
        refine ⟨_, rfl, a, c.M, dx, _, _, rfl, hM1, T.cM, T.nM1, rfl, _, rfl, a, c.M, dx, _, _, rfl, hM1, T.cM, T.nM2, rfl, by show 2 ≤ sizeLine; decide, fun q1 hq1 => ?_⟩
        have s3 := same_upd (o := .lst [.str s0, .ref vb]) hq1
        have e3 : upd H1 q1 (.lst [.str s0, .ref vb]) q1 = some (.lst [.str s0, .ref vb]) := upd_same
        generalize upd H1 q1 (.lst [.str s0, .ref vb]) = H3 at *
        refine ⟨_, rfl, _, _, _, _, rfl, rfl, SqT.of (s3 _ _ h'), tix1, _, rfl, _, _, _, _, rfl, rfl, SqT.of (s3 _ _ h'), tix2, by show 2 ≤ sizeLine; decide, fun q2 hq2 => ?_⟩
        have s4 := same_upd (o := .lst [.str s0, .ref va]) hq2
        have e4 : upd H3 q2 (.lst [.str s0, .ref va]) q2 = some (.lst [.str s0, .ref va]) := upd_same
        have e34 := s4 _ _ e3
        generalize upd H3 q2 (.lst [.str s0, .ref va]) = H4 at *
        have s14 := (s1.trans s3).trans s4
        refine ⟨_, _, rfl, Sd.lst2 e34 e4 (.flat 3 (.str s0)) (Sd.nest 1 hvl hev (nvb.keep (Tk.same s14)) (hnv.keep (Tk.same s14))), _, rfl, iteF ?_⟩
        exact rest H4 c.M dx tp l _ us1 us' ps s14 (s14 _ _ hM) T.cM T.nM3 rfl (s14 _ _ et) (hts.keep (fun _ f => f) (fun b o _ e => s14 _ _ e) (Tk.same s14)) ((s3.trans s4) _ _ el) (hu.same (s3.trans s4)) (Nat.le_of_succ_le_succ hd) (fun x hx => hok x (List.mem_cons_of_mem _ hx)) (Nat.le_of_succ_le hz)
end
end K1

set_option Elab.async false
set_option linter.all false
set_option maxRecDepth 100000
set_option maxHeartbeats 4000000
/-! _law_alike. -/
namespace K1
open PySem PySem.Spec PyProof.Rows L2 Kx Kd Kt Kh
abbrev sAl : Stmt := top 42
abbrev AZ : Str := "abcdefghijklmnopqrstuvwxyz"
abbrev ABC : Str := "abc"
def alike (z : Str) (i : Int) (c : Nat) : Str := cutS z none (some i) ++ (⟨#[c]⟩ : Str) ++ cutS z (some (i + 1)) none
theorem alike_inj {z : Str} {i : Int} {c d : Nat} (h : alike z i c = alike z i d) : c = d := by
  have h := congrArg (fun s : Str => s.cps.toList) h
  unfold alike at h
  simp only [Str.cps_append, Array.toList_append] at h
  have h := List.append_cancel_right h
  have h := List.append_cancel_left h
  simpa using h
/-- of small letters -/
def LowS (x : Str) : Prop := ∀ c ∈ x.cps.toList, c ∈ AZ.cps.toList
theorem LowS.lay {x : Str} (h : LowS x) : (PyData.str x).canLay0 = true := by
  have hl : ∀ c ∈ AZ.cps.toList, c < 0x110000 := by decide +kernel
  simp only [PyData.canLay0]
  show x.cps.all (· < 0x110000) = true
  rw [Array.all_eq_true_iff_forall_mem]
  intro c hc
  exact decide_eq_true (hl c (h c (by simpa using hc)))
theorem LowS.app {x y : Str} (h1 : LowS x) (h2 : LowS y) : LowS (x ++ y) := fun c hc => by
  rw [Str.cps_append, Array.toList_append] at hc
  rcases List.mem_append.mp hc with hc | hc
  · exact h1 c hc
  · exact h2 c hc
theorem LowS.one {c : Nat} (h : c ∈ AZ.cps.toList) : LowS ⟨#[c]⟩ := fun d hd => by
  have : d = c := by simpa using hd
  rw [this]
  exact h
theorem LowS.cut {x : Str} (h : LowS x) (lo hi : Option Int) : LowS (cutS x lo hi) := fun c hc => by
  unfold cutS at hc
  exact h c (List.mem_of_mem_drop (List.mem_of_mem_take (by simpa using hc)))
theorem LowS.alike {x : Str} (h : LowS x) (i : Int) {c : Nat} (hc : c ∈ AZ.cps.toList) : LowS (alike x i c) := ((h.cut _ _).app (LowS.one hc)).app (h.cut _ _)
def spAl : Sp := fun vs H Q _ => ∃ (p : Addr) (b : Int), vs = [.ref p] ∧ PoolAt H p b ∧ ∀ (tp : Addr) (ns : List Str) (H' : Hp), ns.length = 3 → ns.Nodup → (∀ x ∈ ns, LowS x) → PoolAt H' p b → Kp p H H' → H' tp = some (.tup (ns.map V.str)) → Q (.ref tp) H'
abbrev NAl : List Str := ["pool", "base", "k", "place", "sign"]
theorem cut_len (z : Str) (lo hi : Option Int) (h : z.length ≤ 100) : (cutS z lo hi).length ≤ 100 := Nat.le_trans (cutS_length z lo hi) h
section
variable {P : Program} {w : World} {K : PySem.W.Frag} {mg : Str → Option Value} {base : Heap} {fD : Addr} {dD : FuncData}
theorem scAl : FnScope NAl ["pool"] (defScope sAl) := ⟨rfl, rfl, rfl, by decide +kernel, rfl, by decide +kernel, by decide +kernel⟩
theorem ok_al {f : Addr} {fd : FuncData} (F : Fun K "_law_alike" "_law_alike" sAl f fd) (T : TxL mg) (D1 : Fn0 P w K mg base 1 "_law_draw" ["pool", "size"] spDraw fD dD) : FnOk P w K mg base CX0 2 f fd ["pool"] spAl := by
  refine F.ok scAl (fun vs H Q E h => ?_) (fun cdv A outer s H vs Q E hr h => ?_)
  · obtain ⟨p, b, rfl, _⟩ := h
    rfl
  · obtain ⟨p, b, rfl, P0, q⟩ := h
    refine ⟨_, pss_cons (ps_set (i := 1) scAl.nd rfl (Or.inr rfl) pe_str)
      (pss_cons (ps_for PassesOwn.never rfl (pi_range1 rfl T.range (pa_cons (pe_op op_add pe_int (pe_call D1.ok hr (by rfl) D1.gl D1.kp D1.bd .nil pass0 (pa_cons (pv 0) (pa_cons pe_int pa_nil)))) pa_nil)) (pg_name (i := 2) scAl.nd rfl (Or.inl rfl))
        (pss_one (ps_set (i := 1) scAl.nd rfl (Or.inr rfl) (pe_op op_add_str (pv 1) (pe_ix ix_str pe_str (pe_call D1.ok hr (by rfl) D1.gl D1.kp D1.bd .nil pass0 (pa_cons (pv 0) (pa_cons pe_int pa_nil))) (fun _ _ => rfl))))))
      (pss_cons (ps_set (i := 3) scAl.nd rfl (Or.inr rfl) (pe_op op_add pe_int (pe_call D1.ok hr (by rfl) D1.gl D1.kp D1.bd .nil pass0 (pa_cons (pv 0) (pa_cons (pe_op op_sub (pe_callB call_len_str (by rfl) T.len PySem.boot_len (pa_cons (pv 1) pa_nil)) pe_int) pa_nil)))))
      (pss_one (ps_ret (pe_callTy call_tuple_of (by rfl) T.tuple (by decide +kernel) (pa_cons (pe_lc (own := [("sign", 4)]) (g := gName 4) (tt := tYes) rfl scAl.nd (pi_str pe_str) (blkOk_by (N := NAl) (sc := defScope sAl) (by decide +kernel))
          (fun _ _ _ _ _ => pg_name (i := 4) scAl.nd rfl (Or.inl rfl)) (fun _ _ _ _ _ => pts_nil) (fun _ _ _ _ _ => pe_op op_add_str (pe_op op_add_str (pe_slice sl_str (pv 1) po_none (po_some (pv 3))) (pv 4)) (pe_slice sl_str (pv 1) (po_some (pe_op op_add (pv 3) pe_int)) po_none))) pa_nil)))))), ?_⟩
    have lz : ∀ {n : Nat}, n ≤ 1000 → n ≤ sizeLine := fun h => Nat.le_trans h (by decide)
    refine ⟨_, rfl, p, 7, b, rfl, P0, by decide, by decide, fun n H1 n0 n1 P1 k1 => ⟨_, _, rfl, rfl, 1 + n, rfl, by omega, by omega, for_range (lo := 0) (n := (1 + n).toNat) (fun i σ H5 => (∃ (y : Str) (v2 : Option V), σ = [some (.ref p), some (.str y), v2, none, none] ∧ y.length = i + 1 ∧ LowS y) ∧ PoolAt H5 p b ∧ Kp p H H5) ?_ ?_ ?_⟩⟩
    · exact ⟨⟨_, _, rfl, by decide +kernel, by unfold LowS; decide +kernel⟩, P1, k1⟩
    · rintro i σ H5 hi ⟨⟨y, v2, rfl, hy, hlow⟩, P5, k5⟩
      refine ⟨_, rfl, _, rfl, p, 26, b, rfl, P5, by decide, by decide, fun m H6 m0 m1 P6 k6 => ?_⟩
      obtain ⟨j, rfl⟩ : ∃ j : Nat, m = (j : Int) := ⟨m.toNat, by omega⟩
      have hj : j < AZ.cps.toList.length := by
        have : AZ.cps.toList.length = 26 := by decide +kernel
        omega
      refine ⟨AZ, _, AZ.cps.toList[j], rfl, rfl, by decide +kernel, atI_nat (List.getElem?_eq_getElem hj), y, ⟨#[AZ.cps.toList[j]]⟩, rfl, rfl, ?_, ⟨y ++ ⟨#[AZ.cps.toList[j]]⟩, _, rfl, ?_, hlow.app (LowS.one (List.getElem_mem hj))⟩, P6, k5.trans k6⟩
      · rw [hy]
        exact lz (show i + 1 + 1 ≤ 1000 by omega)
      · rw [Str.length_append, hy]
        rfl
    · rintro σ H5 ⟨⟨y, v2, rfl, hy, hlow⟩, P5, k5⟩
      have hy8 : y.length ≤ 8 := by omega
      refine ⟨_, rfl, _, rfl, y, rfl, lz (by omega), _, _, rfl, rfl, p, _, b, rfl, P5, by omega, by omega, fun j H6 j0 j1 P6 k6 => ⟨_, _, rfl, rfl, ?_⟩⟩
      refine ⟨ABC, rfl, fun D hD => ?_⟩
      have sD := same_upd (o := .lst []) hD
      have c1 : (cutS y none (some (1 + j))).length ≤ 100 := cut_len _ _ _ (by omega)
      have c2 : (cutS y (some (1 + j + 1)) none).length ≤ 100 := cut_len _ _ _ (by omega)
      refine lc_it walk_str (fun i H' => H' D = some (.lst (((ABC.cps.toList.take i).map (alike y (1 + j))).map V.str)) ∧ PoolAt H' p b ∧ Kp p H6 H') ⟨upd_same, P6.same sD, Kp.same sD⟩ (fun _ _ _ _ => trivial) ?_ ?_
      · rintro i x H7 H8 hi ⟨eD, P7, k7⟩ ⟨rfl, c, hc, rfl⟩
        refine ⟨rfl, tYesI ?_⟩
        have hi3 : i < 3 := hi
        have hc2 : ABC.cps.toList[i]? = some c := by rw [Array.getElem?_toList]; exact hc
        refine ⟨_, rfl, _, rfl, _, rfl, y, rfl, lz (by omega), _, rfl, _, _, rfl, rfl, lz (by show (cutS y none (some (1 + j))).length + 1 ≤ 1000; omega), ?_⟩
        refine ⟨_, rfl, _, rfl, _, _, rfl, rfl, _, rfl, y, rfl, lz (by omega), _, _, rfl, rfl, lz ?_, _, eD, ?_, ?_, PoolAt.own P6 hD k7 P7, Kp.own P6 hD k7⟩
        · rw [Str.length_append]
          show (cutS y none (some (1 + j))).length + 1 + (cutS y (some (1 + j + 1)) none).length ≤ 1000
          omega
        · rw [List.length_map, List.length_map, List.length_take]
          exact Nat.lt_of_le_of_lt (Nat.min_le_left _ _) (Nat.lt_of_lt_of_le hi3 (by decide))
        · rw [upd_same, List.take_add_one, hc2, List.map_append, List.map_append]
          rfl
      · rintro H7 ⟨eD, P7, k7⟩
        have et : ABC.cps.toList.take ABC.cps.size = ABC.cps.toList := by rw [← Array.length_toList, List.take_length]
        rw [et] at eD
        refine ⟨D, _, rfl, .inl ⟨SqL.of eD, fun tp ntp => ?_⟩⟩
        have s9 := same_upd (o := .tup ((ABC.cps.toList.map (alike y (1 + j))).map V.str)) ntp
        refine q tp (ABC.cps.toList.map (alike y (1 + j))) _ (by rw [List.length_map]; decide +kernel) ?_ ?_ (P7.same s9) (((k5.trans k6).trans k7).trans (Kp.same s9)) upd_same
        · have nd : ABC.cps.toList.Nodup := by decide +kernel
          exact List.Pairwise.map _ (fun a b hab e => hab (alike_inj e)) nd
        · intro x hx
          obtain ⟨c, hc, rfl⟩ := List.mem_map.mp hx
          have hs : ∀ c ∈ ABC.cps.toList, c ∈ AZ.cps.toList := by decide +kernel
          exact hlow.alike _ (hs c hc)
end
end K1

set_option Elab.async false
set_option linter.all false
set_option maxRecDepth 100000
set_option maxHeartbeats 4000000
/-! _law_game. -/
namespace K1
open PySem PySem.Spec PyProof.Rows L2 Kx Kd Kt Kh
abbrev sGm : Stmt := top 43
/-- a game as the law draws it -/
structure GmK (xs : List (Str × Int)) (b : Bk) : Prop where
  n3 : xs.length ≤ 3
  nd : (xs.map (·.1)).Nodup
  nm : ∀ x ∈ xs.map (·.1), LowS x
  sz : ∀ p ∈ xs, 1 ≤ p.2 ∧ p.2 ≤ 65535
  vl : b.vl (xs.map (·.1)) 4 0
  chs : b.chs ≤ 8
  cnt : b.cnt ≤ 14
def N1 : List Str := ["x", "y", "z"]
def N2 : List Str := ["ab", "ac", "abc"]
def N3 : List Str := ["secretza", "secretzb", "secret"]
def N4 : List Str := ["ended", "payed", "sets"]
def spGm : Sp := fun vs H Q _ => ∃ (p : Addr) (M : Nat) (b : Int), vs = [.ref p, .int 3, .int (M : Int)] ∧ 1 ≤ M ∧ M ≤ 8 ∧ PoolAt H p b ∧ ∀ (v : V) (xs : List (Str × Int)) (bk : Bk) (b' : Int) (H' : Hp), GmK xs bk → PoolAt H' p b' → Kp p H H' → Dt H' v (gameD xs bk) → Q v H'
abbrev NGm : List Str := ["pool", "moves", "most", "named", "names", "variables", "k", "large", "scope", "row"]
section
variable {P : Program} {w : World} {K : PySem.W.Frag} {mg : Str → Option Value} {base : Heap} {fD fM fN fB : Addr} {dD dM dN dB : FuncData}
theorem scGm : FnScope NGm ["pool", "moves", "most"] (defScope sGm) := ⟨rfl, rfl, rfl, by decide +kernel, rfl, by decide +kernel, by decide +kernel⟩
theorem ok_gm {f : Addr} {fd : FuncData} (F : Fun K "_law_game" "_law_game" sGm f fd) (T : TxL mg) (D1 : Fn0 P w K mg base 1 "_law_draw" ["pool", "size"] spDraw fD dD) (M1 : Fn0 P w K mg base 2 "_law_number" ["pool"] spNum fM dM)
    (A1 : Fn0 P w K mg base 2 "_law_alike" ["pool"] spAl fN dN) (B1 : Fn0 P w K mg base 19 "_law_block" ["pool", "scope", "room", "most"] (spBlo 4) fB dB) : FnOk P w K mg base CX0 20 f fd ["pool", "moves", "most"] spGm := by
  refine F.ok scGm (fun vs H Q E h => ?_) (fun cdv A outer s H vs Q E hr h => ?_)
  · obtain ⟨p, M, b, rfl, _⟩ := h
    rfl
  · obtain ⟨p, M, b, rfl, m1, m8, P0, q⟩ := h
    have hr1 : Room 1 _ := hr.mono (by decide)
    have hr2 : Room 2 _ := hr.mono (by decide)
    -- behind the names
    have hrest : ∃ t, PSs (cxOf CX0 P w K mg base NGm "_law_game" (defScope sGm) f cdv A outer s H E).nox ((defBody sGm).drop 3) t ∧ ∀ (v3 : Option V) (tn : Addr) (ns : List Str) (H1 : Hp), ns.length = 3 → ns.Nodup → (∀ x ∈ ns, LowS x) → PoolAt H1 p b → Kp p H H1 → H1 tn = some (.tup (ns.map V.str)) →
        t { nx := fun _ H' => Q .non H', rt := Q } [some (.ref p), some (.int 3), some (.int (M : Int)), v3, some (.ref tn), none, none, none, none, none] H1 := by
      refine ⟨_, pss_cons (ps_set (i := 5) scGm.nd rfl (Or.inl rfl) (pe_lst pa_nil))
        (pss_cons (ps_for PassesOwn.never rfl (pi_range1 rfl T.range (pa_cons (pe_call D1.ok hr1 (by rfl) D1.gl D1.kp D1.bd .nil pass0 (pa_cons (pv 0) (pa_cons pe_int pa_nil))) pa_nil)) (pg_name (i := 6) scGm.nd rfl (Or.inl rfl))
          (pss_cons (ps_set (i := 7) scGm.nd rfl (Or.inl rfl) (pe_ix ix_tup (pe_tup (pa_cons (pe_op op_fdivN (pe_call M1.ok hr2 (by rfl) M1.gl M1.kp M1.bd .nil pass0 (pa_cons (pv 0) pa_nil)) pe_int) (pa_cons pe_int pa_nil))) (pe_callTy call_int1 (by rfl) T.int (by decide +kernel) (pa_cons (pe_cmpR op_eq (pe_call D1.ok hr1 (by rfl) D1.gl D1.kp D1.bd .nil pass0 (pa_cons (pv 0) (pa_cons pe_int pa_nil))) pe_int (nomark _)) pa_nil)) (fun _ _ => rfl)))
          (pss_one (ps_expr (pe_bm PySem.F.plainAttrs_list PySem.F.slot_list_append PySem.F.type_list_append mt_append (pv 5) (pa_cons (pe_tup (pa_cons (pe_ix ix_tup (pv 4) (pv 6) (fun _ _ => rfl)) (pa_cons (pe_op op_add pe_int (pe_ix ix_tup (pe_tup (pa_cons (pe_call D1.ok hr1 (by rfl) D1.gl D1.kp D1.bd .nil pass0 (pa_cons (pv 0) (pa_cons pe_int pa_nil))) (pa_cons (pe_call D1.ok hr1 (by rfl) D1.gl D1.kp D1.bd .nil pass0 (pa_cons (pv 0) (pa_cons pe_int pa_nil))) (pa_cons (pv 7) pa_nil)))) (pe_call D1.ok hr1 (by rfl) D1.gl D1.kp D1.bd .nil pass0 (pa_cons (pv 0) (pa_cons pe_int pa_nil))) (fun _ _ => rfl))) pa_nil))) pa_nil))))))
        (pss_cons (ps_set (i := 8) scGm.nd rfl (Or.inl rfl) (pe_disp (pps_cons pe_str (pe_lc (own := [("row", 9)]) (g := gName 9) (tt := tYes) rfl scGm.nd (pi_list (pv 5)) (blkOk_by (N := NGm) (sc := defScope sGm) (by decide +kernel)) (fun _ _ _ _ _ => pg_name (i := 9) scGm.nd rfl (Or.inl rfl)) (fun _ _ _ _ _ => pts_nil) (fun _ _ _ _ _ => pe_ix (ix_tupK (K := K) rfl) (pv 9) pe_int (fun _ _ => rfl))) (pps_cons pe_str (pv 1) (pps_cons pe_str (pv 1) (pps_cons pe_str (pe_op op_add pe_int (pe_op op_fdivN (pv 1) pe_int)) (pps_cons pe_str (pv 2) (pps_cons pe_str pe_int pps_nil)))))) (by rfl) (by rfl) (fun z => by cases z) (by decide)))
        (pss_cons (ps_asg pe_int (pg_sub (pv 0) pe_int set_list))
        (pss_one (ps_ret (pe_tup (pa_cons (pe_callTy call_tuple_of (by rfl) T.tuple (by decide +kernel) (pa_cons (pv 5) pa_nil)) (pa_cons (pe_call B1.ok hr (by rfl) B1.gl B1.kp B1.bd .nil pass0 (pa_cons (pv 0) (pa_cons (pv 8) (pa_cons pe_int (pa_cons pe_int pa_nil))))) pa_nil)))))))), fun v3 tn ns H1 hn3 hnd hlw P1 k1 etn => ?_⟩
      have htp : tn ≠ p := P1.neT etn
      refine ⟨by show 0 ≤ sizeLine; decide, fun D hD => ?_⟩
      have hDp : D ≠ p := P1.ne0 hD
      have s2 := same_upd (o := .lst []) hD
      refine ⟨_, rfl, p, 4, b, rfl, P1.same s2, by decide, by decide, fun c H2 c0 c1 P2 k2 => ⟨c, rfl, by omega, by omega, for_range (lo := 0) (n := c.toNat) (fun i σ H' => (∃ v6 v7, σ = [some (.ref p), some (.int 3), some (.int (M : Int)), v3, some (.ref tn), some (.ref D), v6, v7, none, none]) ∧ ∃ (acc : List (Str × Int)) (vs : List V), acc.map (·.1) = ns.take i ∧ (∀ x ∈ acc, 1 ≤ x.2 ∧ x.2 ≤ 65535) ∧ H' D = some (.lst vs) ∧ DtAll H' vs (varsD acc) ∧ PoolAt H' p b ∧ Kp p H1 H') ?_ ?_ ?_⟩⟩
      · exact ⟨⟨_, _, rfl⟩, [], [], rfl, fun x hx => (nomatch hx), k2 _ _ upd_same hDp, .nil, P2, (Kp.same s2).trans k2⟩
      · rintro i σ H3 hi ⟨⟨v6, v7, rfl⟩, acc, vs, ha, hs, eD, da, P3, k3⟩
        have hi3 : i < ns.length := by omega
        refine ⟨_, rfl, p, b, rfl, P3, fun x3 H4 x30 x31 P4 k4 => ⟨_, _, rfl, rfl, ⟨by decide, by decide⟩, by show 2 ≤ sizeLine; decide, fun tp htp2 => ?_⟩⟩
        have fd : x3.fdiv 2 = x3 / 2 := Int.fdiv_eq_ediv_of_nonneg _ (by decide)
        have s5 := same_upd (o := .tup ([x3.fdiv 2, 65534].map V.int)) htp2
        refine ⟨_, rfl, p, 8, b, rfl, P4.same s5, by decide, by decide, fun j H5 _ _ P5 k5 => ?_⟩
        have e5 : H5 tp = some (.tup ([x3.fdiv 2, 65534].map V.int)) := k5 _ _ upd_same (P4.ne0 htp2)
        refine ⟨rfl, .inr ⟨_, rfl, ?_⟩⟩
        obtain ⟨z0, hz0, ez0⟩ := atN (xs := [x3.fdiv 2, 65534]) (v := if decide (V.int j = V.int 0) = true then 1 else 0) (by split <;> omega) (by show _ < (2 : Int); split <;> omega)
        have hz02 : 0 ≤ z0 ∧ z0 ≤ 65534 := by
          simp only [List.mem_cons, List.not_mem_nil, or_false] at hz0
          rcases hz0 with rfl | rfl <;> omega
        refine ⟨tp, _, _, _, rfl, rfl, SqT.of e5, ez0, ?_⟩
        have k35 : Kp p H3 H5 := k4.trans ((Kp.same s5).trans k5)
        have en5 : H5 tn = some (.tup (ns.map V.str)) := k35 _ _ (k3 _ _ etn htp) htp
        have eD5 := k35 _ _ eD hDp
        have hx : (ns.map V.str)[i]? = some (V.str ns[i]) := by rw [List.getElem?_map, List.getElem?_eq_getElem hi3]; rfl
        refine ⟨_, rfl, .inl ⟨rfl, _, SqL.of eD5⟩, _, rfl, _, rfl, tn, _, _, _, rfl, rfl, SqT.of en5, by rw [Int.zero_add]; exact atI_nat hx, ?_⟩
        refine ⟨_, rfl, p, 4, b, rfl, P5, by decide, by decide, fun y1 H6 y10 y11 P6 k6 => ⟨_, rfl, p, 4, b, rfl, P6, by decide, by decide, fun y2 H7 y20 y21 P7 k7 => ⟨_, rfl, by show 3 ≤ sizeLine; decide, fun tq htq => ?_⟩⟩⟩
        have s8 := same_upd (o := .tup ([y1, y2, z0].map V.int)) htq
        refine ⟨_, rfl, p, 3, b, rfl, P7.same s8, by decide, by decide, fun j2 H8 j20 j21 P8 k8 => ?_⟩
        have e8 : H8 tq = some (.tup ([y1, y2, z0].map V.int)) := k8 _ _ upd_same (P7.ne0 htq)
        obtain ⟨z, hz, ez⟩ := atN (xs := [y1, y2, z0]) j20 j21
        have hz2 : 0 ≤ z ∧ z ≤ 65534 := by
          simp only [List.mem_cons, List.not_mem_nil, or_false] at hz
          rcases hz with rfl | rfl | rfl <;> omega
        have k38 : Kp p H3 H8 := (k35.trans (k6.trans k7)).trans ((Kp.same s8).trans k8)
        refine ⟨tq, _, _, _, rfl, rfl, SqT.of e8, ez, _, _, rfl, rfl, by show 2 ≤ sizeLine; decide, fun r hr' => ?_⟩
        have s9 := same_upd (o := .tup [.str ns[i], .int (1 + z)]) hr'
        have eD9 := s9 _ _ (k38 _ _ eD hDp)
        have lvs : vs.length ≤ 5 := by
          rw [da.length]
          unfold varsD
          rw [List.length_map, ← List.length_map (f := (·.1)) (as := acc), ha, List.length_take]
          omega
        have k39 : Kp p H1 _ := (k3.trans k38).trans (Kp.same s9)
        have t9 : Tk (upd H8 r (.tup [.str ns[i], .int (1 + z)])) (upd (upd H8 r (.tup [.str ns[i], .int (1 + z)])) D (.lst (vs ++ [.ref r]))) := fun a ys e => by
          rw [upd_ne (ne_of e eD9 (by intro z; cases z))]
          exact e
        refine ⟨D, _, _, rfl, rfl, eD9, Nat.lt_of_le_of_lt lvs (by decide), ⟨_, _, rfl⟩, acc ++ [(ns[i], 1 + z)], vs ++ [.ref r], ?_, ?_, upd_same, ?_, ?_, ?_⟩
        · rw [List.map_append, ha, List.take_add_one, List.getElem?_eq_getElem hi3]
          rfl
        · intro x hx
          rcases List.mem_append.mp hx with e | e
          · exact hs x e
          · rw [List.mem_singleton.mp e]
            exact ⟨by show 1 ≤ 1 + z; omega, by show 1 + z ≤ 65535; omega⟩
        · unfold varsD
          rw [List.map_append]
          exact DtAll.snoc (DtAll.keep t9 (DtAll.keep (Tk.same s9) (DtAll.keep (Kp.tk P3 k38) da))) (.tup (t9 _ _ upd_same) (.cons (.str _) (.cons (.int _) .nil)))
        · exact PoolAt.own P1 hD k39 (P8.same s9)
        · exact Kp.own P1 hD k39
      · rintro σ H3 ⟨⟨v6, v7, rfl⟩, acc, vs, ha, hs, eD, da, P3, k3⟩
        generalize hns : ns.take c.toNat = ms at ha
        have hms3 : ms.length ≤ 3 := by
          rw [← hns, List.length_take]
          omega
        have hmnd : ms.Nodup := by
          rw [← hns]
          exact hnd.sublist (List.take_sublist _ _)
        have hmlw : ∀ x ∈ ms, LowS x := fun x hx => by
          rw [← hns] at hx
          exact hlw x (List.mem_of_mem_take hx)
        have ls : vs.length = acc.length := by
          rw [da.length]
          exact List.length_map ..
        have la : acc.length = ms.length := by rw [← ha, List.length_map]
        -- the scope
        intro sc hsc
        have s4 := same_upd (o := .dK []) hsc
        have nDs : D ≠ sc := ne_of_none eD hsc
        have eDs := s4 _ _ eD
        refine ⟨_, rfl, D, rfl, ⟨vs, SqL.of eDs⟩, fun L hL => ?_⟩
        refine lc_list (K := K) (a := D) (xs := vs) (fun i H' => Same (upd H3 sc (.dK [])) H' ∧ H' L = some (.lst ((ms.take i).map V.str))) ⟨same_upd hL, upd_same⟩ (fun i H' _ ⟨s', _⟩ => SqL.of (s' _ _ eDs)) ?_ ?_
        · rintro i v H4 hv ⟨s5, eL⟩
          obtain ⟨d, hd, dv⟩ := da.get hv
          unfold varsD at hd
          rw [List.getElem?_map] at hd
          obtain ⟨pr, hp, rfl⟩ := Option.map_eq_some_iff.mp hd
          obtain ⟨a1, ys, rfl, ea1, da1⟩ := (Dt.keep (Tk.same (s4.trans s5)) dv).tupI
          obtain ⟨y0, y1, rfl, d0, d1⟩ := da1.c2
          obtain rfl := d0.strI
          have hm : ms[i]? = some pr.1 := by rw [← ha, List.getElem?_map, hp]; rfl
          refine ⟨rfl, tYesI ?_⟩
          refine ⟨_, rfl, a1, _, _, _, rfl, rfl, SqT.of ea1, tix0, (ms.take i).map V.str, eL, ?_, fun c o e => ?_, ?_⟩
          · rw [List.length_map, List.length_take]
            exact Nat.lt_of_le_of_lt (Nat.le_trans (Nat.min_le_right _ _) hms3) (by decide)
          · rw [upd_ne (ne_of_none e hL)]
            exact s5 _ _ e
          · rw [upd_same, List.take_add_one, hm, List.map_append]
            rfl
        · rintro H4 ⟨s5, eL⟩
          rw [ls, la, List.take_length] at eL
          refine ⟨_, rfl, _, rfl, _, rfl, _, _, rfl, rfl, ⟨by decide, by decide⟩, _, _, rfl, rfl, _, rfl, s5 _ _ upd_same, [(Sum.inr "names", .ref L), (Sum.inr "choose", .int 3), (Sum.inr "come", .int 3), (Sum.inr "draw", .int (1 + (3 : Int).fdiv 3)), (Sum.inr "most", .int (M : Int)), (Sum.inr "next", .int 0)], rfl, (by show 6 ≤ 15; decide), ?_⟩
          have s34 := s4.trans s5
          have P4 : PoolAt (upd H4 sc (.dK (ScM M L 3 3 2 0))) p b := PoolAt.own P3 hsc (Kp.same s34) (P3.same s34)
          have k4 : Kp p H3 (upd H4 sc (.dK (ScM M L 3 3 2 0))) := Kp.own P3 hsc (Kp.same s34)
          have nLs : L ≠ sc := fun e => by
            rw [e, upd_same] at hL
            cases hL
          have hL3 : H3 L = none := by
            rw [upd_ne nLs] at hL
            exact hL
          have nLp : L ≠ p := P3.ne0 hL3
          have nsp : sc ≠ p := P3.ne0 hsc
          obtain ⟨qq, cs, i0, c1', z0, t0, PV⟩ := P4
          refine ⟨_, rfl, p, _, _, _, rfl, rfl, PV.hp, l6_ix (k := 5) (j := 5) (by decide), ?_⟩
          have PV2 := PV.set (i' := i0) (c' := c1') (s' := z0) (t' := t0) (b' := 14) PV.i0 PV.s0 PV.s1
          have k5 := PV.kp (i' := i0) (c' := c1') (s' := z0) (t' := t0) (b' := 14)
          have k35 := k4.trans k5
          have eD6 := k35 _ _ eD hDp
          refine ⟨_, rfl, D, vs, rfl, .inl ⟨SqL.of eD6, fun tv htv => ?_⟩⟩
          have s7 := same_upd (o := .tup vs) htv
          have L7 : LM M _ p sc L ms 14 3 3 2 0 := (LM.mk ⟨_, _, _, _, _, _, PV2⟩ (k5 _ _ upd_same nsp) (k5 _ _ (by rw [upd_ne nLs]; exact eL) nLp) nLp (by omega) m1 m8 : LM M _ p sc L ms 14 3 3 2 0).same s7
          refine ⟨_, rfl, _, rfl, M, p, sc, L, ms, 4, 9, 14, 3, 3, 2, 0, rfl, by decide, by decide, by decide, L7, fun v x H8 b8 C8 O8 D8 N8 hv hc hm hb L8 k8 d8 => ⟨(by show 2 ≤ sizeLine; decide), fun r hr' => ?_⟩⟩
          have s9 := same_upd (o := .tup [.ref tv, v]) hr'
          have lacc : acc.length ≤ 3 := by omega
          refine q (.ref r) acc x b8 _ ⟨lacc, by rw [ha]; exact hmnd, by rw [ha]; exact hmlw, hs, by rw [ha]; exact hv, by omega, by have : (14 : Int).toNat = 14 := rfl; omega⟩ (L8.pool.same s9) ?_ ?_
          · have k03 := k1.trans k3
            refine Kp.trans k03 ⟨fun c o e h => s9 _ _ (k8 _ _ (s7 _ _ (k35 _ _ e h)) h (ne_of_none e hsc)), fun x r e => ?_⟩
            obtain ⟨r0, e0⟩ := k35.hd x r e
            obtain ⟨r1, e1⟩ := k8.hd x r0 (s7 _ _ e0)
            exact ⟨r1, s9 _ _ e1⟩
          · have et : H8 tv = some (.tup vs) := L7.tk k8 _ _ upd_same
            refine .tup upd_same (.cons (.tup (s9 _ _ et) ?_) (.cons (Dt.keep (Tk.same s9) d8) .nil))
            exact DtAll.keep (Tk.same s9) (DtAll.keep (L7.tk k8) (DtAll.keep (Tk.same s7) (DtAll.keep (Kp.tk P3 k35) da)))
    obtain ⟨t, ht, rest⟩ := hrest
    refine ⟨_, pss_cons (ps_set (i := 3) scGm.nd rfl (Or.inl rfl) (pe_tup (pa_cons (pe_tup (pa_cons pe_str (pa_cons pe_str (pa_cons pe_str pa_nil)))) (pa_cons (pe_tup (pa_cons pe_str (pa_cons pe_str (pa_cons pe_str pa_nil)))) (pa_cons (pe_tup (pa_cons pe_str (pa_cons pe_str (pa_cons pe_str pa_nil)))) (pa_cons (pe_tup (pa_cons pe_str (pa_cons pe_str (pa_cons pe_str pa_nil)))) pa_nil))))))
      (pss_cons (ps_set (i := 4) scGm.nd rfl (Or.inl rfl) (pe_ix ix_tup (pv 3) (pe_call D1.ok hr1 (by rfl) D1.gl D1.kp D1.bd .nil pass0 (pa_cons (pv 0) (pa_cons pe_int pa_nil))) (fun _ _ => rfl)))
      (pss_cons (ps_if (pt_cmpR op_eq (pe_call D1.ok hr1 (by rfl) D1.gl D1.kp D1.bd .nil pass0 (pa_cons (pv 0) (pa_cons pe_int pa_nil))) pe_int (nomark _)) (pss_one (ps_set (i := 4) scGm.nd rfl (Or.inl rfl) (pe_call A1.ok hr2 (by rfl) A1.gl A1.kp A1.bd .nil pass0 (pa_cons (pv 0) pa_nil)))) pss_nil) ht)), ?_⟩
    refine ⟨by show 3 ≤ sizeLine; decide, fun t1 ht1 => ⟨by show 3 ≤ sizeLine; decide, fun t2 ht2 => ⟨by show 3 ≤ sizeLine; decide, fun t3 ht3 => ⟨by show 3 ≤ sizeLine; decide, fun t4 ht4 => ⟨by show 4 ≤ sizeLine; decide, fun tt htt => ?_⟩⟩⟩⟩⟩
    have s1 := same_upd (o := .tup (N1.map V.str)) ht1
    have s2 := same_upd (o := .tup (N2.map V.str)) ht2
    have s3 := same_upd (o := .tup (N3.map V.str)) ht3
    have s4 := same_upd (o := .tup (N4.map V.str)) ht4
    have s5 := same_upd (o := .tup [.ref t1, .ref t2, .ref t3, .ref t4]) htt
    have e1 := s5 _ _ (s4 _ _ (s3 _ _ (s2 _ _ (upd_same (H := H) (a := t1) (o := .tup (N1.map V.str))))))
    have e2 := s5 _ _ (s4 _ _ (s3 _ _ (upd_same (H := upd H t1 (.tup (N1.map V.str))) (a := t2) (o := .tup (N2.map V.str)))))
    have e3 := s5 _ _ (s4 _ _ (upd_same (H := upd (upd H t1 (.tup (N1.map V.str))) t2 (.tup (N2.map V.str))) (a := t3) (o := .tup (N3.map V.str))))
    have e4 := s5 _ _ (upd_same (H := upd (upd (upd H t1 (.tup (N1.map V.str))) t2 (.tup (N2.map V.str))) t3 (.tup (N3.map V.str))) (a := t4) (o := .tup (N4.map V.str)))
    have s15 := (((s1.trans s2).trans s3).trans s4).trans s5
    have e5 := upd_same (H := upd (upd (upd (upd H t1 (.tup (N1.map V.str))) t2 (.tup (N2.map V.str))) t3 (.tup (N3.map V.str))) t4 (.tup (N4.map V.str))) (a := tt) (o := .tup [.ref t1, .ref t2, .ref t3, .ref t4])
    refine ⟨_, rfl, _, rfl, p, 4, b, rfl, P0.same s15, by decide, by decide, fun j H2 j0 j1 P2 k2 => ?_⟩
    have P1 := P0.same s15
    obtain ⟨x, hx, ex⟩ := atV (xs := [V.ref t1, V.ref t2, V.ref t3, V.ref t4]) j0 j1
    have key : ∃ (tn : Addr) (ns : List Str), x = .ref tn ∧ ns.length = 3 ∧ ns.Nodup ∧ (∀ x ∈ ns, LowS x) ∧ H2 tn = some (.tup (ns.map V.str)) := by
      simp only [List.mem_cons, List.not_mem_nil, or_false] at hx
      rcases hx with rfl | rfl | rfl | rfl
      · exact ⟨t1, N1, rfl, rfl, by decide +kernel, by unfold LowS; decide +kernel, k2 _ _ e1 (P1.neT e1)⟩
      · exact ⟨t2, N2, rfl, rfl, by decide +kernel, by unfold LowS; decide +kernel, k2 _ _ e2 (P1.neT e2)⟩
      · exact ⟨t3, N3, rfl, rfl, by decide +kernel, by unfold LowS; decide +kernel, k2 _ _ e3 (P1.neT e3)⟩
      · exact ⟨t4, N4, rfl, rfl, by decide +kernel, by unfold LowS; decide +kernel, k2 _ _ e4 (P1.neT e4)⟩
    obtain ⟨tn, ns, rfl, hl, hd, hlo, en⟩ := key
    have k02 := (Kp.same s15).trans k2
    refine ⟨tt, _, _, _, rfl, rfl, SqT.of (k2 _ _ e5 (P1.neT e5)), ex, ?_⟩
    refine ⟨_, rfl, p, 2, b, rfl, P2, by decide, by decide, fun j3 H3 _ _ P3 k3 => ⟨rfl, _, rfl, ite2 (fun _ => ?_) (fun _ => ?_)⟩⟩
    · exact ⟨_, rfl, p, b, rfl, P3, fun tp ns2 H4 hl2 hd2 hlo2 P4 k4 e4 => rest _ tp ns2 H4 hl2 hd2 hlo2 P4 ((k02.trans k3).trans k4) e4⟩
    · exact rest _ tn ns H3 hl hd hlo P3 (k02.trans k3) (k3 _ _ en (P2.neT en))
end
end K1

set_option Elab.async false
set_option linter.all false
set_option maxRecDepth 100000
set_option maxHeartbeats 4000000
/-! t + u, t[lo:hi]: what stands there, wherever. -/
namespace Kt
open PySem PySem.Spec PyProof.Rows L2
def rCatS : R2 := fun x y H Q => ∃ a b xs ys, x = .ref a ∧ y = .ref b ∧ H a = some (.tup xs) ∧ H b = some (.tup ys) ∧ xs.length + ys.length ≤ sizeLine ∧ ∀ c H', Same H H' → H' c = some (.tup (xs ++ ys)) → Q (.ref c) H'
def rCutT : V → Option Int → Option Int → Hp → VK → Prop := fun x lo hi H Q => ∃ a xs, x = .ref a ∧ H a = some (.tup xs) ∧ ∀ c H', Same H H' → H' c = some (.tup (cutV xs lo hi)) → Q (.ref c) H'
section
variable {X : Cx}
theorem op_catS : OpR X (binaryOp .Add) rCatS := by
  intro pins s σ H x y v u Q I rx ry h
  obtain ⟨a, b, xs, ys, ex, ey, ha, hb, hz, q⟩ := h
  refine L2.op_catA pins s σ H x y v u Q I rx ry ⟨a, b, xs, ys, ex, ey, SqT.of ha, SqT.of hb, hz, fun e => ?_, fun _ e => ?_, fun _ _ p hp => q p _ (fun b u e => by rw [upd_ne (ne_of_none e hp)]; exact e) upd_same⟩
  · subst e
    exact q b H (fun _ _ e => e) hb
  · subst e
    exact q a H (fun _ _ e => e) (by rw [List.append_nil]; exact ha)
theorem sl_tupS : SlR X rCutT := by
  intro pins s σ H x v vl vu lo hi sl Q I rx hs pl pu h
  obtain ⟨a, xs, rfl, hx, q⟩ := h
  refine sl_tupA pins s σ H _ v vl vu lo hi sl Q I rx hs pl pu ⟨a, xs, rfl, SqT.of hx, fun e => ?_, fun _ p hp => q p _ (fun b u e => by rw [upd_ne (ne_of_none e hp)]; exact e) upd_same⟩
  refine q a H (fun _ _ e => e) ?_
  unfold cutV
  rw [e.1, e.2, List.drop_zero, Nat.sub_zero, List.take_length]
  exact hx
end
end Kt

set_option Elab.async false
set_option linter.all false
set_option maxRecDepth 100000
set_option maxHeartbeats 4000000
/-! An event more at a place of a pair of views, as the law writes it. -/
namespace K1
open PySem PySem.Spec PyProof.Rows L2 Kx Kd Kt Kh
abbrev tSnoc (K : PySem.W.Frag) (i j : Nat) (te1 : TE) : TE := tOp rCatS (tOp rCatS (tSl rCutT (tVar i) tNoPart (tPart (tVar j))) (tTup (tCons (tOp rCatS (tOp (rIxT K) (tVar i) (tVar j)) te1) tNil))) (tSl rCutT (tVar i) (tPart (tOp (rI0 fun i j => .int (i + j)) (tVar j) (tC (.int 1)))) tNoPart)
theorem nest_pair {H : Hp} {k1 k2 : List NestedKey} {a : Addr} (h : Nest H (.tup [.tup k1, .tup k2]) (.ref a)) : ∃ a1 a2 us1 us2, H a = some (.tup [.ref a1, .ref a2]) ∧ H a1 = some (.tup us1) ∧ NestL H k1 us1 ∧ H a2 = some (.tup us2) ∧ NestL H k2 us2 := by
  cases h with
  | tup e r =>
    cases r with
    | cons h1 r =>
      cases r with
      | cons h2 r =>
        cases r
        cases h1 with
        | tup e1 r1 =>
          cases h2 with
          | tup e2 r2 => exact ⟨_, _, _, _, e, e1, r1, e2, r2⟩
theorem nestL_same {H H' : Hp} (s : Same H H') {ks : List NestedKey} {vs : List V} (h : NestL H ks vs) : NestL H' ks vs := h.keep (Tk.same s)
theorem snoc_read {K : PySem.W.Frag} {i j : Nat} {te1 : TE} {σ : L2.St} {H : Hp} {Q : VK} {a : Addr} {pl : Nat} {k1 k2 : List NestedKey} (hi : σ[i]? = some (some (.ref a))) (hj : σ[j]? = some (some (.int (pl : Int)))) (hp : pl = 0 ∨ pl = 1) (hn : Nest H (.tup [.tup k1, .tup k2]) (.ref a)) (h1 : k1.length ≤ 1000) (h2 : k2.length ≤ 1000)
    (ht : ∀ (H1 : Hp) (R : VK), Same H H1 → (∀ (b : Addr) (v : V) (ev : NestedKey) (H2 : Hp), Same H1 H2 → H2 b = some (.tup [v]) → Nest H2 ev v → (∀ c H3, Same H2 H3 → Nest H3 (.tup (if pl = 0 then [.tup (k1 ++ [ev]), .tup k2] else [.tup k1, .tup (k2 ++ [ev])])) (.ref c) → Q (.ref c) H3) → R (.ref b) H2) → te1 σ H1 R) : tSnoc K i j te1 σ H Q := by
  obtain ⟨a1, a2, us1, us2, e, e1, r1, e2, r2⟩ := nest_pair hn
  have l1 := lenN r1
  have l2 := lenN r2
  have lz : ∀ {n : Nat}, n ≤ 2000 → n ≤ sizeLine := fun h => Nat.le_trans h (by decide)
  rcases hp with rfl | rfl
  · refine ⟨_, hi, _, hj, _, rfl, a, _, rfl, e, fun c1 H1 s1 ec1 => ?_⟩
    refine ⟨_, hi, _, hj, a, _, _, _, rfl, rfl, SqT.of (s1 _ _ e), tix0, ht H1 _ s1 fun b v ev H2 s2 eb nv k => ?_⟩
    refine ⟨a1, b, us1, [v], rfl, rfl, s2 _ _ (s1 _ _ e1), eb, lz (by show us1.length + 1 ≤ 2000; omega), fun c2 H3 s3 ec2 => ⟨by show 1 ≤ sizeLine; decide, fun p hp => ?_⟩⟩
    have s4 := same_upd (o := .tup [V.ref c2]) hp
    have e4 : upd H3 p (.tup [.ref c2]) p = some (.tup [V.ref c2]) := upd_same
    generalize upd H3 p (.tup [.ref c2]) = H4 at *
    have s24 := s3.trans s4
    refine ⟨c1, p, _, _, rfl, rfl, s24 _ _ (s2 _ _ ec1), e4, by show 0 + 1 ≤ sizeLine; decide, fun c3 H5 s5 ec3 => ?_⟩
    have s25 := s24.trans s5
    refine ⟨_, hi, _, hj, _, _, rfl, rfl, _, rfl, a, _, rfl, s25 _ _ (s2 _ _ (s1 _ _ e)), fun c4 H6 s6 ec4 => ?_⟩
    refine ⟨c3, c4, _, _, rfl, rfl, s6 _ _ ec3, ec4, by show 1 + 1 ≤ sizeLine; decide, fun c5 H7 s7 ec5 => ?_⟩
    have s27 := (s25.trans s6).trans s7
    have s37 := ((s4.trans s5).trans s6).trans s7
    refine k c5 H7 s27 ?_
    rw [if_pos rfl]
    refine .tup ec5 (.cons (.tup (s37 _ _ ec2) (snocN ?_ ?_)) (.cons (.tup (s27 _ _ (s2 _ _ (s1 _ _ e2))) ?_) .nil))
    · exact nestL_same ((s1.trans s2).trans s27) r1
    · exact nv.keep (Tk.same s27)
    · exact nestL_same ((s1.trans s2).trans s27) r2
  · refine ⟨_, hi, _, hj, _, rfl, a, _, rfl, e, fun c1 H1 s1 ec1 => ?_⟩
    refine ⟨_, hi, _, hj, a, _, _, _, rfl, rfl, SqT.of (s1 _ _ e), tix1, ht H1 _ s1 fun b v ev H2 s2 eb nv k => ?_⟩
    refine ⟨a2, b, us2, [v], rfl, rfl, s2 _ _ (s1 _ _ e2), eb, lz (by show us2.length + 1 ≤ 2000; omega), fun c2 H3 s3 ec2 => ⟨by show 1 ≤ sizeLine; decide, fun p hp => ?_⟩⟩
    have s4 := same_upd (o := .tup [V.ref c2]) hp
    have e4 : upd H3 p (.tup [.ref c2]) p = some (.tup [V.ref c2]) := upd_same
    generalize upd H3 p (.tup [.ref c2]) = H4 at *
    have s24 := s3.trans s4
    refine ⟨c1, p, _, _, rfl, rfl, s24 _ _ (s2 _ _ ec1), e4, by show 1 + 1 ≤ sizeLine; decide, fun c3 H5 s5 ec3 => ?_⟩
    have s25 := s24.trans s5
    refine ⟨_, hi, _, hj, _, _, rfl, rfl, _, rfl, a, _, rfl, s25 _ _ (s2 _ _ (s1 _ _ e)), fun c4 H6 s6 ec4 => ?_⟩
    refine ⟨c3, c4, _, _, rfl, rfl, s6 _ _ ec3, ec4, by show 2 + 0 ≤ sizeLine; decide, fun c5 H7 s7 ec5 => ?_⟩
    have s27 := (s25.trans s6).trans s7
    have s37 := ((s4.trans s5).trans s6).trans s7
    refine k c5 H7 s27 ?_
    rw [if_neg (by decide)]
    refine .tup ec5 (.cons (.tup (s27 _ _ (s2 _ _ (s1 _ _ e1))) ?_) (.cons (.tup (s37 _ _ ec2) (snocN ?_ ?_)) .nil))
    · exact nestL_same ((s1.trans s2).trans s27) r1
    · exact nestL_same ((s1.trans s2).trans s27) r2
    · exact nv.keep (Tk.same s27)
end K1

set_option Elab.async false
set_option linter.all false
set_option maxRecDepth 100000
set_option maxHeartbeats 4000000
/-! Chances ahead, depth of trees, their views; trees whose lists are new. -/
namespace K1
open PySem PySem.Spec PyProof.Rows L2 Kx Kd Kt Kh
/-! ### chances ahead -/
def chL (l : List Sm) : Nat := (l.map Sm.chs).sum
theorem chL_cons (x : Sm) (l : List Sm) : chL (x :: l) = x.chs + chL l := by
  unfold chL
  rw [List.map_cons, List.sum_cons]
theorem chL_app (a b : List Sm) : chL (a ++ b) = chL a + chL b := by
  induction a with
  | nil => rw [List.nil_append]; show _ = 0 + _; rw [Nat.zero_add]
  | cons x r ih => rw [List.cons_append, chL_cons, chL_cons, ih, Nat.add_assoc]
theorem chL_sl : ∀ b : Bk, chL b.sl = b.chs
  | .nil => rfl
  | .cons s b => by
    show chL (s :: b.sl) = s.chs + b.chs
    rw [chL_cons, chL_sl b]
theorem chance_chs {x : Sm} (h : x.chance = true) : x.chs = 1 := by
  cases x with
  | draw y n => rfl
  | move k y n m => rfl
  | set y e => cases h
  | show_ s e => cases h
  | pay k e => cases h
  | ifs e a b => cases h
theorem perf_ch {xs : List (Str × Int)} {pl : Pl} {x : Sm} {r : List Sm} (e : pl.todo = x :: r) : chL (perf xs { pl with todo := r } x).todo ≤ chL pl.todo := by
  rw [e, chL_cons]
  cases x with
  | draw y n => exact Nat.le_add_left ..
  | move k y n m => exact Nat.le_add_left ..
  | set y ex => exact Nat.le_add_left ..
  | show_ s ex =>
    show chL (addE { pl with todo := r } s _).todo ≤ _
    rw [(addE_todo _ _ _).1]
    exact Nat.le_add_left ..
  | pay k ex => exact Nat.le_add_left ..
  | ifs ex a b =>
    show chL ((if evE pl.st ex ≠ 0 then a.sl else b.sl) ++ r) ≤ a.chs + b.chs + chL r
    rw [chL_app]
    split
    · rw [chL_sl]
      omega
    · rw [chL_sl]
      omega
theorem goOn_ch {xs : List (Str × Int)} : ∀ {n : Nat} {pl : Pl} {x : Sm}, (goOn xs n pl).2 = some x → chL (goOn xs n pl).1.todo + 1 ≤ chL pl.todo
  | 0, pl, x, e => nomatch e
  | n + 1, pl, x, hx => by
    cases e : pl.todo with
    | nil =>
      rw [goOn_nil e] at hx
      cases hx
    | cons y r =>
      cases hc : y.chance with
      | true =>
        rw [goOn_chance e hc]
        rw [chL_cons, chance_chs hc]
        show chL r + 1 ≤ _
        omega
      | false =>
        rw [goOn_step e hc] at hx ⊢
        have h1 := goOn_ch hx
        have h2 := perf_ch (xs := xs) e
        rw [e] at h2
        omega
theorem kids_of {xs : List (Str × Int)} {pl q : Pl} (hq : q ∈ kids xs pl) : ∃ x, (cameTo xs pl).2 = some x ∧ q.todo = (cameTo xs pl).1.todo := by
  have hc : (cameTo xs pl).2 = none ∨ ∃ x, (cameTo xs pl).2 = some x := by
    cases (cameTo xs pl).2 with
    | none => exact .inl rfl
    | some x => exact .inr ⟨x, rfl⟩
  rcases hc with hc | ⟨x, hc⟩
  · unfold kids at hq
    rw [hc] at hq
    cases hq
  · have hk : kids xs pl = (List.range x.rs.toNat).map fun r : Nat => behP xs (askP (cameTo xs pl).1 (some x)) x (r : Int) := by
      unfold kids
      rw [hc]
    rw [hk] at hq
    obtain ⟨r, _, rfl⟩ := List.mem_map.mp hq
    exact ⟨x, hc, kid_todo _ _ _ _⟩
theorem dp_mk (k : Hd) (ps : Ts) : (mkT k ps).dp ≤ ps.dp + 1 := by
  cases k with
  | e p => exact Nat.zero_le _
  | l => exact Nat.le_refl _
  | m s v => exact Nat.le_refl _
mutual
theorem TrOf.dp {xs : List (Str × Int)} : ∀ {pl : Pl} {t : Tr} {n : Nat}, TrOf xs pl t n → t.dp ≤ chL pl.todo
  | pl, _, _, .mk (ps := ps) h => by
    have hc : (cameTo xs pl).2 = none ∨ ∃ x, (cameTo xs pl).2 = some x := by
      cases (cameTo xs pl).2 with
      | none => exact .inl rfl
      | some x => exact .inr ⟨x, rfl⟩
    rcases hc with hc | ⟨x, hc⟩
    · have hd : (draft xs pl).1 = .e (cameTo xs pl).1.paid := by
        unfold draft
        rw [hc]
        rfl
      rw [hd]
      exact Nat.zero_le _
    · have h1 : chL (cameTo xs pl).1.todo + 1 ≤ chL pl.todo := goOn_ch hc
      have h2 := TsOf.dp (k := chL (cameTo xs pl).1.todo) h fun q hq => by
        obtain ⟨_, _, e⟩ := kids_of hq
        rw [e]
        exact Nat.le_refl _
      have h3 := dp_mk (draft xs pl).1 ps
      omega
theorem TsOf.dp {xs : List (Str × Int)} {k : Nat} : ∀ {l : List Pl} {ps : Ts} {n : Nat}, TsOf xs l ps n → (∀ q ∈ l, chL q.todo ≤ k) → ps.dp ≤ k
  | _, _, _, .nil, _ => Nat.zero_le _
  | _, _, _, .cons h hr, hq => Nat.max_le.mpr ⟨Nat.le_trans (TrOf.dp h) (hq _ (List.mem_cons_self ..)), TsOf.dp hr fun q hm => hq q (List.mem_cons_of_mem _ hm)⟩
end
/-! ### views -/
/-- what a play has seen is events -/
def EvOk (pl : Pl) : Prop := (∀ k ∈ pl.e1, evB k) ∧ ∀ k ∈ pl.e2, evB k
theorem evB_shown (n : Int) : evB (shownK n) := ⟨by show 2 ≤ 3; decide, fun q hq => by
  simp only [List.mem_cons, List.not_mem_nil, or_false] at hq
  rcases hq with rfl | rfl
  · exact .inr ⟨_, rfl⟩
  · exact .inl ⟨_, rfl⟩⟩
theorem evB_did (n : Int) : evB (didK n) := ⟨by show 2 ≤ 3; decide, fun q hq => by
  simp only [List.mem_cons, List.not_mem_nil, or_false] at hq
  rcases hq with rfl | rfl
  · exact .inr ⟨_, rfl⟩
  · exact .inl ⟨_, rfl⟩⟩
theorem evB_ask (m n : Int) : evB (askK m n) := ⟨by show 3 ≤ 3; decide, fun q hq => by
  simp only [List.mem_cons, List.not_mem_nil, or_false] at hq
  rcases hq with rfl | rfl | rfl
  · exact .inr ⟨_, rfl⟩
  · exact .inl ⟨_, rfl⟩
  · exact .inl ⟨_, rfl⟩⟩
theorem EvOk.add {pl : Pl} (h : EvOk pl) (s : Str) {k : NestedKey} (hk : evB k) : EvOk (addE pl s k) := by
  unfold addE
  split
  · refine ⟨fun x hx => ?_, h.2⟩
    rcases List.mem_append.mp hx with hx | hx
    · exact h.1 x hx
    · rw [List.mem_singleton.mp hx]
      exact hk
  · refine ⟨h.1, fun x hx => ?_⟩
    rcases List.mem_append.mp hx with hx | hx
    · exact h.2 x hx
    · rw [List.mem_singleton.mp hx]
      exact hk
theorem EvOk.perf {xs : List (Str × Int)} {pl : Pl} {r : List Sm} (h : EvOk pl) (x : Sm) : EvOk (perf xs { pl with todo := r } x) := by
  cases x with
  | show_ s ex => exact EvOk.add (pl := { pl with todo := r }) h s (evB_shown _)
  | draw y n => exact h
  | move k y n m => exact h
  | set y ex => exact h
  | pay k ex => exact h
  | ifs ex a b => exact h
theorem EvOk.goOn {xs : List (Str × Int)} : ∀ {n : Nat} {pl : Pl}, EvOk pl → EvOk (goOn xs n pl).1
  | 0, pl, h => h
  | n + 1, pl, h => by
    cases e : pl.todo with
    | nil =>
      rw [goOn_nil e]
      exact h
    | cons y r =>
      cases hc : y.chance with
      | true =>
        rw [goOn_chance e hc]
        exact h
      | false =>
        rw [goOn_step e hc]
        exact EvOk.goOn (h.perf y)
theorem EvOk.ask {pl : Pl} (h : EvOk pl) (x : Sm) : EvOk (askP pl (some x)) := by
  cases x with
  | move k y n m => exact h.add _ (evB_ask _ _)
  | _ => exact h
theorem EvOk.kid {xs : List (Str × Int)} {pl q : Pl} (h : EvOk pl) (hq : q ∈ kids xs pl) : EvOk q := by
  obtain ⟨x, hc, _⟩ := kids_of hq
  have hk : kids xs pl = (List.range x.rs.toNat).map fun r : Nat => behP xs (askP (cameTo xs pl).1 (some x)) x (r : Int) := by
    unfold kids
    rw [hc]
  rw [hk] at hq
  obtain ⟨r, _, rfl⟩ := List.mem_map.mp hq
  have h1 : EvOk (askP (cameTo xs pl).1 (some x)) := (EvOk.goOn h).ask x
  show EvOk (behE _ x r)
  unfold behE
  split
  · exact h1
  · exact h1.add _ (evB_did _)
theorem depth_flat : ∀ {ks : List NestedKey}, (∀ q ∈ ks, (∃ i, q = .num i) ∨ ∃ z, q = .text z) → NestedKey.depthAll ks = 0
  | [], _ => rfl
  | k :: ks, h => by
    show max k.depth (NestedKey.depthAll ks) = 0
    rw [depth_flat fun q hq => h q (List.mem_cons_of_mem _ hq)]
    rcases h k (List.mem_cons_self ..) with ⟨i, rfl⟩ | ⟨z, rfl⟩ <;> rfl
theorem depth_ev {k : NestedKey} (h : evB k) : k.depth ≤ 1 := by
  cases k with
  | tup ks =>
    show NestedKey.depthAll ks + 1 ≤ 1
    rw [depth_flat h.2]
    exact Nat.le_refl _
  | none => exact h.elim
  | num i => exact h.elim
  | text z => exact h.elim
theorem depth_view : ∀ {v : List NestedKey}, (∀ k ∈ v, evB k) → NestedKey.depthAll v ≤ 1
  | [], _ => Nat.zero_le _
  | k :: v, h => Nat.max_le.mpr ⟨depth_ev (h k (List.mem_cons_self ..)), depth_view fun q hq => h q (List.mem_cons_of_mem _ hq)⟩
theorem evs_ok {pl : Pl} (h : EvOk pl) (s : Str) : ∀ k ∈ evs pl s, evB k := by
  unfold evs
  split
  · exact h.1
  · exact h.2
theorem tsOf_len (l : List Tr) : (tsOf l).ls.length = l.length := by
  induction l with
  | nil => rfl
  | cons t r ih =>
    show (tsOf r).ls.length + 1 = _
    rw [ih]
    rfl
mutual
theorem TrOf.okv {ns : List Str} {B : Nat} {xs : List (Str × Int)} (hB : B ≤ 900) : ∀ {pl : Pl} {t : Tr} {n : Nat}, TrOf xs pl t n → PlOk ns B pl → EvOk pl → ∀ x ∈ t.all, x.okv
  | pl, _, _, .mk (ps := ps) h, hp, he => by
    have hc : (cameTo xs pl).2 = none ∨ ∃ x, (cameTo xs pl).2 = some x := by
      cases (cameTo xs pl).2 with
      | none => exact .inl rfl
      | some x => exact .inr ⟨x, rfl⟩
    have hps := TsOf.okv hB h (fun q hq => ⟨(kids_mem hp hq).1, he.kid hq⟩)
    have hlen := (TsOf.run h).choose_spec.2.2.2
    rcases hc with hc | ⟨y, hc⟩
    · have hd : (draft xs pl).1 = .e (cameTo xs pl).1.paid := by
        unfold draft
        rw [hc]
        rfl
      rw [hd]
      intro x hx s v qs e
      have hx : x ∈ [Tr.end_ (cameTo xs pl).1.paid] := hx
      rw [List.mem_singleton.mp hx] at e
      cases e
    · have hd : (draft xs pl).1 = hdOf (cameTo xs pl).1 (some y) := by
        unfold draft
        rw [hc]
      have hk : (kids xs pl).length = y.rs.toNat := by
        unfold kids
        rw [hc]
        show ((List.range y.rs.toNat).map _).length = _
        rw [List.length_map, List.length_range]
      rw [hd]
      obtain ⟨_, g2, _⟩ := goOn_ok (xs := xs) hp (Nat.le_refl _)
      obtain ⟨hch, hpv, b1, b2⟩ := g2 y hc
      have h1 : EvOk (cameTo xs pl).1 := EvOk.goOn he
      intro x hx
      cases y with
      | move k z n m =>
        have hx : x ∈ Tr.move (seatOf (.move k z n m)) (evs (cameTo xs pl).1 (seatOf (.move k z n m)) ++ [askK m n]) ps :: ps.all := hx
        rcases List.mem_cons.mp hx with rfl | hx
        · intro s v qs e
          cases e
          have hv : ∀ q ∈ evs (cameTo xs pl).1 (seatOf (.move k z n m)) ++ [askK m n], evB q := fun q hq => by
            rcases List.mem_append.mp hq with hq | hq
            · exact evs_ok h1 _ q hq
            · rw [List.mem_singleton.mp hq]
              exact evB_ask _ _
          refine ⟨?_, ?_, ?_, hv⟩
          · unfold lastN
            rw [List.getLast?_concat, ← hlen, hk]
            rfl
          · show NestedKey.depthAll _ + 1 ≤ 8
            have := depth_view hv
            omega
          · rw [List.length_append, List.length_singleton]
            unfold evs
            have e1 : (cameTo xs pl).1.e1.length + 2 ≤ B := by
              have : (goOn xs (wtL pl.todo) pl).1.e1.length + 2 * wtL (goOn xs (wtL pl.todo) pl).1.todo + 2 ≤ B := b1
              show (goOn xs (wtL pl.todo) pl).1.e1.length + 2 ≤ B
              omega
            have e2 : (cameTo xs pl).1.e2.length + 2 ≤ B := by
              have : (goOn xs (wtL pl.todo) pl).1.e2.length + 2 * wtL (goOn xs (wtL pl.todo) pl).1.todo + 2 ≤ B := b2
              show (goOn xs (wtL pl.todo) pl).1.e2.length + 2 ≤ B
              omega
            split <;> omega
        · exact hps x hx
      | draw z n =>
        have hx : x ∈ Tr.lot ps :: ps.all := hx
        rcases List.mem_cons.mp hx with rfl | hx
        · intro s v qs e
          cases e
        · exact hps x hx
      | set z e => cases hch
      | show_ z e => cases hch
      | pay z e => cases hch
      | ifs e a b => cases hch
theorem TsOf.okv {ns : List Str} {B : Nat} {xs : List (Str × Int)} (hB : B ≤ 900) : ∀ {l : List Pl} {ps : Ts} {n : Nat}, TsOf xs l ps n → (∀ q ∈ l, PlOk ns B q ∧ EvOk q) → ∀ x ∈ ps.all, x.okv
  | _, _, _, .nil, _, x, hx => nomatch hx
  | _, _, _, .cons h hr, hq, x, hx => by
    rcases List.mem_append.mp hx with hx | hx
    · exact TrOf.okv hB h (hq _ (List.mem_cons_self ..)).1 (hq _ (List.mem_cons_self ..)).2 x hx
    · exact TsOf.okv hB hr (fun q hm => hq q (List.mem_cons_of_mem _ hm)) x hx
end
/-! ### trees side by side -/
theorem TsOf.mem {xs : List (Str × Int)} : ∀ {l : List Pl} {ps : Ts} {n : Nat}, TsOf xs l ps n → ∀ {i : Nat} {q : Pl}, l[i]? = some q → ∃ t m, TrOf xs q t m
  | _, _, _, .nil, i, q, e => by simp at e
  | _, _, _, .cons h hr, 0, q, e => by
    cases e
    exact ⟨_, _, h⟩
  | _, _, _, .cons h hr, i + 1, q, e => TsOf.mem hr (by simpa using e)
theorem tsOf_app (a : Ts) (t : Tr) : ∀ b : List Tr, tsOf ((Ts.cons t a).ls ++ b) = .cons t (tsOf (a.ls ++ b)) := fun _ => rfl
theorem TsOf.snoc {xs : List (Str × Int)} {q : Pl} {t : Tr} {m : Nat} (ht : TrOf xs q t m) : ∀ {l : List Pl} {ps : Ts} {n : Nat}, TsOf xs l ps n → TsOf xs (l ++ [q]) (tsOf (ps.ls ++ [t])) (n + m)
  | _, _, _, .nil => by
    rw [Nat.zero_add]
    exact .cons (m := 0) ht .nil
  | _, _, _, .cons (n := n) (m := k) h hr => by
    rw [Nat.add_assoc]
    exact .cons h (TsOf.snoc ht hr)
/-! ### trees whose lists are new -/
mutual
inductive DnAt (G : Addr → Prop) (H : Hp) : V → Tr → Prop
  | e {a : Addr} {p : Int} (h : H a = some (.tup [.str "end", .int p])) : DnAt G H (.ref a) (.end_ p)
  | l {a l : Addr} {us : List V} {ps : Ts} (h : H a = some (.tup [.str "lot", .ref l])) (hg : G l) (hl : H l = some (.lst us)) (hp : DnsAt G H us ps) : DnAt G H (.ref a) (.lot ps)
  | m {a l v : Addr} {s : Str} {view : List NestedKey} {us : List V} {ps : Ts} (h : H a = some (.tup [.str "move", .str s, .ref v, .ref l])) (hv : Nest H (.tup view) (.ref v)) (hg : G l) (hl : H l = some (.lst us)) (hp : DnsAt G H us ps) : DnAt G H (.ref a) (.move s view ps)
inductive DnsAt (G : Addr → Prop) (H : Hp) : List V → Ts → Prop
  | nil : DnsAt G H [] .nil
  | cons {v : V} {t : Tr} {us : List V} {ps : Ts} (h : DnAt G H v t) (hr : DnsAt G H us ps) : DnsAt G H (v :: us) (.cons t ps)
end
mutual
theorem DnAt.due {G : Addr → Prop} {H : Hp} : ∀ {v : V} {t : Tr}, DnAt G H v t → DueAt H v t
  | _, _, .e h => .e h
  | _, _, .l h _ hl hp => .l h hl (DnsAt.due hp)
  | _, _, .m h hv _ hl hp => .m h hv hl (DnsAt.due hp)
theorem DnsAt.due {G : Addr → Prop} {H : Hp} : ∀ {us : List V} {ps : Ts}, DnsAt G H us ps → DusAt H us ps
  | _, _, .nil => .nil
  | _, _, .cons h hr => .cons (DnAt.due h) (DnsAt.due hr)
end
mutual
theorem DnAt.keep {G G' : Addr → Prop} {H H' : Hp} (hg : ∀ l us, H l = some (.lst us) → G l → G' l) (ht : Tk H H') (hl' : ∀ l us, G l → H l = some (.lst us) → H' l = some (.lst us)) : ∀ {v : V} {t : Tr}, DnAt G H v t → DnAt G' H' v t
  | _, _, .e h => .e (ht _ _ h)
  | _, _, .l h g hl hp => .l (ht _ _ h) (hg _ _ hl g) (hl' _ _ g hl) (DnsAt.keep hg ht hl' hp)
  | _, _, .m h hv g hl hp => .m (ht _ _ h) (hv.keep ht) (hg _ _ hl g) (hl' _ _ g hl) (DnsAt.keep hg ht hl' hp)
theorem DnsAt.keep {G G' : Addr → Prop} {H H' : Hp} (hg : ∀ l us, H l = some (.lst us) → G l → G' l) (ht : Tk H H') (hl' : ∀ l us, G l → H l = some (.lst us) → H' l = some (.lst us)) : ∀ {us : List V} {ps : Ts}, DnsAt G H us ps → DnsAt G' H' us ps
  | _, _, .nil => .nil
  | _, _, .cons h hr => .cons (DnAt.keep hg ht hl' h) (DnsAt.keep hg ht hl' hr)
end
theorem DnsAt.snoc {G : Addr → Prop} {H : Hp} {v : V} {t : Tr} (h : DnAt G H v t) : ∀ {us : List V} {ps : Ts}, DnsAt G H us ps → DnsAt G H (us ++ [v]) (tsOf (ps.ls ++ [t]))
  | _, _, .nil => .cons h .nil
  | _, _, .cons h1 hr => .cons h1 (DnsAt.snoc h hr)
end K1

set_option Elab.async false
set_option linter.all false
set_option maxRecDepth 100000
set_option maxHeartbeats 4000000
/-! _law_node: what it is asked; the chances. -/
namespace K1
open PySem PySem.Spec PyProof.Rows L2 Kx Kd Kt Kh
abbrev sNd : Stmt := top 46
def elsOf : Stmt → List Stmt
  | .If _ _ e _ => e
  | _ => []
def forB : Stmt → List Stmt
  | .For _ _ b _ _ => b
  | _ => []
abbrev noSt : Stmt := .Pass ⟨0, 0, 0, 0⟩
abbrev ndFor : List Stmt := forB ((defBody sNd).getD 2 noSt)
abbrev ndElse : List Stmt := elsOf ((elsOf ((elsOf ((elsOf ((elsOf (ndFor.getD 3 noSt)).getD 0 noSt)).getD 0 noSt)).getD 0 noSt)).getD 0 noSt)
abbrev NNd : List Str := ["game", "table", "views", "paid", "block", "count", "turn", "due", "place", "event", "asked", "parts", "part", "after"]
abbrev PNd : List Str := ["game", "table", "views", "paid", "block", "count"]
/-- where the law's play stands -/
structure NdSt (H : Hp) (gv : V) (tb vw blk : Addr) (ns : List Str) (xs : List (Str × Int)) (b : Bk) (pl : Pl) (B : Nat) : Prop where
  g : Dt H gv (gameD xs b)
  t : H tb = some (.dK (stK pl.st))
  v : Nest H (.tup [.tup pl.e1, .tup pl.e2]) (.ref vw)
  k : ∃ us, H blk = some (.tup us) ∧ DtAll H us (pl.todo.map Sm.d)
  st : StOk ns pl.st
  sz : SzOk ns xs
  ok : PlOk ns B pl
  hB : B ≤ 900
theorem Fk.tk {cl : Addr} {H H' : Hp} {c : List V} (hc : H cl = some (.lst c)) (f : Fk cl H H') : Tk H H' := fun a xs e => f a _ e (ne_of e hc (by intro z; cases z))
theorem NdSt.fk {H H' : Hp} {gv : V} {tb vw blk cl : Addr} {ns : List Str} {xs : List (Str × Int)} {b : Bk} {pl : Pl} {B : Nat} {c : List V} (h : NdSt H gv tb vw blk ns xs b pl B) (hc : H cl = some (.lst c)) (f : Fk cl H H') : NdSt H' gv tb vw blk ns xs b pl B := by
  have tk := f.tk hc
  obtain ⟨us, e, d⟩ := h.k
  exact ⟨h.g.keep tk, f _ _ h.t (ne_of h.t hc (by intro z; cases z)), h.v.keep tk, ⟨us, tk _ _ e, d.keep tk⟩, h.st, h.sz, h.ok, h.hB⟩
theorem NdSt.same {H H' : Hp} {gv : V} {tb vw blk : Addr} {ns : List Str} {xs : List (Str × Int)} {b : Bk} {pl : Pl} {B : Nat} (h : NdSt H gv tb vw blk ns xs b pl B) (s : Same H H') : NdSt H' gv tb vw blk ns xs b pl B := by
  have tk := Tk.same s
  obtain ⟨us, e, d⟩ := h.k
  exact ⟨h.g.keep tk, s _ _ h.t, h.v.keep tk, ⟨us, tk _ _ e, d.keep tk⟩, h.st, h.sz, h.ok, h.hB⟩
/-- what stands behind: the tree, or more than 400 counted -/
def NdEnd (H H' : Hp) (c : Int) (m : Nat) (c' : Int) (v : V) (t : Tr) : Prop := (c' = c + m ∧ c + m ≤ 400 ∧ DnAt (fun l => H l = none) H' v t) ∨ (400 < c + m ∧ 400 < c')
def spNd (n : Nat) : Sp := fun vs H Q _ => ∃ (gv : V) (tb vw blk cl : Addr) (c : Int) (ns : List Str) (xs : List (Str × Int)) (b : Bk) (pl : Pl) (B : Nat) (t : Tr) (m : Nat), vs = [gv, .ref tb, .ref vw, .int pl.paid, .ref blk, .ref cl] ∧ NdSt H gv tb vw blk ns xs b pl B ∧ H cl = some (.lst [.int c]) ∧ 0 ≤ c ∧ TrOf xs pl t m ∧ chL pl.todo ≤ n ∧
  ∀ (v : V) (c' : Int) H', Fk cl H H' → H' cl = some (.lst [.int c']) → 0 ≤ c' → NdEnd H H' c m c' v t → Q v H'
def kidsX (xs : List (Str × Int)) (pm : Pl) (x : Sm) : List Pl := (List.range x.rs.toNat).map fun r : Nat => behP xs (askP pm (some x)) x (r : Int)
theorem kid_paid (xs : List (Str × Int)) (pm : Pl) (x : Sm) (r : Int) : (behP xs (askP pm (some x)) x r).paid = pm.paid := by
  have ha : ∀ (p : Pl) s k, (addE p s k).paid = p.paid := fun p s k => by unfold addE; split <;> rfl
  have h1 : (askP pm (some x)).paid = pm.paid := by
    cases x with
    | move k y n m => exact ha _ _ _
    | _ => rfl
  show (behE (askP pm (some x)) x r).paid = _
  unfold behE
  split
  · exact h1
  · rw [ha, h1]
theorem kid_st (xs : List (Str × Int)) (pm : Pl) (x : Sm) (r : Int) : (behP xs (askP pm (some x)) x r).st = setS pm.st x.nm (r % sizeOf xs x.nm) := by
  have h1 : (askP pm (some x)).st = pm.st := by
    cases x with
    | move k y n m => exact (addE_todo _ _ _).2.1
    | _ => rfl
  show setS (behE (askP pm (some x)) x r).st _ _ = _
  have h2 : (behE (askP pm (some x)) x r).st = pm.st := by
    unfold behE
    split
    · exact h1
    · rw [(addE_todo _ _ _).2.1, h1]
  rw [h2]
theorem kid_at {xs : List (Str × Int)} {pm : Pl} {x : Sm} {i : Nat} (h : i < x.rs.toNat) : (kidsX xs pm x)[i]? = some (behP xs (askP pm (some x)) x (i : Int)) := by
  unfold kidsX
  rw [List.getElem?_map, List.getElem?_range h]
  rfl
def plc (x : Sm) : Nat := if x.kind = "come" then 1 else 0
section
variable {P : Program} {w : World} {K : PySem.W.Frag} {mg : Str → Option Value} {base : Heap} {fS : Addr} {dS : FuncData}
theorem scNd : FnScope NNd PNd (defScope sNd) := ⟨rfl, rfl, rfl, by decide +kernel, rfl, by decide +kernel, by decide +kernel⟩
/-- a part more -/
theorem nd_part {k n : Nat} (hk : 1 ≤ k) {f : Addr} {fd : FuncData} (S1 : Fn0 P w K mg base 1 "_law_stored" ["game", "table", "name", "value"] spLS fS dS) (G : Fn0 P w K mg base k "_law_node" PNd (spNd n) f fd)
    {cdv : Value} {A : Around} {outer : List Env} {s : Shared} {H : Hp} {E : XK} (hr : Room k (A.deeper (envOfC "_law_node" (defScope sNd) s.heap.objs.size f cdv))) :
    ∃ t, PSs (cxOf CX0 P w K mg base NNd "_law_node" (defScope sNd) f cdv A outer s H E).nox ((forB (ndElse.getD 4 noSt)).drop 2) t ∧
      ∀ (D : Ends) (H1 Hi : Hp) (gv : V) (tb vw blk cl a Dl af : Addr) (ns : List Str) (xs : List (Str × Int)) (b : Bk) (pm : Pl) (B : Nat) (x : Sm) (ps : Ts) (m i : Nat) (c1 ci : Int) (us : List V) (qs : Ts) (ni : Nat) (v6 v9 v10 : Option V) (p8 : V),
        NdSt Hi gv tb vw blk ns xs b pm B → Dt Hi (.ref a) x.d → x.chance = true → x.pv ns → chL pm.todo ≤ n → TsOf xs (kidsX xs pm x) ps m → i < x.rs.toNat → PlOk ns B (behP xs (askP pm (some x)) x (i : Int)) →
        Nest Hi (.tup [.tup (behP xs (askP pm (some x)) x (i : Int)).e1, .tup (behP xs (askP pm (some x)) x (i : Int)).e2]) (.ref af) → Hi cl = some (.lst [.int ci]) → 0 ≤ ci → Hi Dl = some (.lst us) → us.length = i → cl ≠ Dl →
        TsOf xs ((kidsX xs pm x).take i) qs ni → (∀ l, Hi l = none → H1 l = none) → H1 cl ≠ none → ((ci = c1 + ni ∧ c1 + ni ≤ 400 ∧ DnsAt (fun l => H1 l = none ∧ l ≠ Dl) Hi us qs) ∨ (400 < c1 + ni ∧ 400 < ci)) →
        (∀ (H' : Hp) (us' : List V) (qs' : Ts) (ni' : Nat) (ci' : Int), (∀ b o, Hi b = some o → b ≠ cl → b ≠ Dl → H' b = some o) → H' cl = some (.lst [.int ci']) → 0 ≤ ci' → H' Dl = some (.lst us') → us'.length = i + 1 → TsOf xs ((kidsX xs pm x).take (i + 1)) qs' ni' →
          ((ci' = c1 + ni' ∧ c1 + ni' ≤ 400 ∧ DnsAt (fun l => H1 l = none ∧ l ≠ Dl) H' us' qs') ∨ (400 < c1 + ni' ∧ 400 < ci')) → D.nx [some gv, some (.ref tb), some (.ref vw), some (.int pm.paid), some (.ref blk), some (.ref cl), v6, some (.ref a), some p8, v9, v10, some (.ref Dl), some (.int (i : Int)), some (.ref af)] H') →
        t D [some gv, some (.ref tb), some (.ref vw), some (.int pm.paid), some (.ref blk), some (.ref cl), v6, some (.ref a), some p8, v9, v10, some (.ref Dl), some (.int (i : Int)), some (.ref af)] Hi := by
  have hr1 : Room 1 _ := hr.mono hk
  refine ⟨_, pss_one (ps_expr (pe_bm PySem.F.plainAttrs_list PySem.F.slot_list_append PySem.F.type_list_append mt_append (pv 11) (pa_cons (pe_call G.ok hr (by rfl) G.gl G.kp G.bd .nil pass0 (pa_cons (pv 0)
      (pa_cons (pe_call S1.ok hr1 (by rfl) S1.gl S1.kp S1.bd .nil pass0 (pa_cons (pv 0) (pa_cons (pv 1) (pa_cons (pe_ix ix_tup (pv 7) pe_int (fun _ _ => rfl)) (pa_cons (pv 12) pa_nil)))))
      (pa_cons (pv 13) (pa_cons (pv 3) (pa_cons (pv 4) (pa_cons (pv 5) pa_nil))))))) pa_nil))), ?_⟩
  intro D H1 Hi gv tb vw blk cl a Dl af ns xs b pm B x ps m i c1 ci us qs ni v6 v9 v10 p8 R da hch hpv hn hts hi hpk hnv ecl c0 eD hul hne htk hfr h1cl hst q
  obtain ⟨a', us0, ea0, ea⟩ := chance_at hch da
  cases ea0
  have hin := chance_nm hch hpv
  obtain ⟨z, hz, z1, z2⟩ := R.sz.pos hin
  have hzs : sizeOf xs x.nm = z := by
    unfold sizeOf
    rw [hz]
    rfl
  obtain ⟨t, mi, htr⟩ := TsOf.mem hts (kid_at hi)
  have hn8 : x.rs ≤ 8 := by
    cases x with
    | draw y n => exact hpv.2.2
    | move k y n m => exact hpv.2.2.2.1
    | set y e => cases hch
    | show_ s e => cases hch
    | pay k e => cases hch
    | ifs e a b => cases hch
  have hm0 : 0 ≤ (i : Int) % z := Int.emod_nonneg _ (by omega)
  have hm1 : (i : Int) % z < z := Int.emod_lt_of_pos _ (by omega)
  refine ⟨_, rfl, .inl ⟨rfl, _, SqL.of eD⟩, _, rfl, _, rfl, _, rfl, _, rfl, a, _, _, _, rfl, rfl, SqT.of ea, tix1, _, rfl, ?_⟩
  refine ⟨gv, tb, x.nm, (i : Int), ns, xs, pm.st, b, rfl, R.g, R.t, R.st, R.sz, hin, by omega, fun d2 Hk s2 nd2 e2 => ?_⟩
  refine ⟨_, rfl, _, rfl, _, rfl, _, rfl, ?_⟩
  have Rk := R.same s2
  refine ⟨gv, d2, af, blk, cl, ci, ns, xs, b, behP xs (askP pm (some x)) x (i : Int), B, t, mi, by rw [kid_paid]; rfl, ⟨Rk.g, by rw [kid_st]; exact e2, hnv.keep (Tk.same s2), by rw [kid_todo]; exact Rk.k, by rw [kid_st]; exact setS_ok R.st (by rw [hzs]; exact ⟨hm0, by omega⟩), R.sz, hpk, R.hB⟩, s2 _ _ ecl, c0, htr, by rw [kid_todo]; exact hn, fun v c' H' fk ec' c0' hend => ?_⟩
  have eD' : H' Dl = some (.lst us) := fk _ _ (s2 _ _ eD) hne.symm
  have frA : ∀ b o, Hi b = some o → b ≠ cl → b ≠ Dl → upd H' Dl (.lst (us ++ [v])) b = some o := fun b o e h1 h2 => by
    rw [upd_ne h2]
    exact fk _ _ (s2 _ _ e) h1
  have hkt : (kidsX xs pm x).take (i + 1) = (kidsX xs pm x).take i ++ [behP xs (askP pm (some x)) x (i : Int)] := by
    rw [List.take_add_one, kid_at hi]
    rfl
  refine ⟨Dl, us, v, rfl, rfl, eD', Nat.lt_of_le_of_lt (show us.length ≤ 8 by omega) (by decide), ?_⟩
  refine q _ (us ++ [v]) (tsOf (qs.ls ++ [t])) (ni + mi) c' frA (by rw [upd_ne hne]; exact ec') c0' upd_same (by rw [List.length_append, hul]; rfl) (by rw [hkt]; exact TsOf.snoc htr htk) ?_
  have hmc : ((ni + mi : Nat) : Int) = (ni : Int) + (mi : Int) := by omega
  rcases hend with ⟨h1, h2, h3⟩ | ⟨h1, h2⟩
  · rcases hst with ⟨g1, g2, g3⟩ | ⟨g1, g2⟩
    · by_cases hov : c1 + ((ni + mi : Nat) : Int) ≤ 400
      · refine .inl ⟨by omega, hov, ?_⟩
        refine DnsAt.snoc ?_ ?_
        · have ne : ∀ l, Hk l = none → l ≠ Dl := fun l hl e => by
            rw [e, s2 _ _ eD] at hl
            cases hl
          refine DnAt.keep (H := H') (fun l us2 el hl => ⟨hfr l (s2.free hl), ne l hl⟩) (tk_lst eD') (fun l us2 hl el => ?_) h3
          rw [upd_ne (ne l hl)]
          exact el
        · refine DnsAt.keep (fun l us2 el hl => hl) (fun a xs e => frA a _ e (ne_of e ecl (by intro z; cases z)) (ne_of e eD (by intro z; cases z))) (fun l us2 hl el => frA l _ el (fun e => by rw [e] at hl; exact h1cl hl.1) hl.2) g3
      · exact .inr ⟨by omega, by omega⟩
    · exact .inr ⟨by omega, by omega⟩
  · rcases hst with ⟨g1, g2, g3⟩ | ⟨g1, g2⟩
    · exact .inr ⟨by omega, h2⟩
    · exact .inr ⟨by omega, h2⟩
end
end K1

set_option Elab.async false
set_option linter.all false
set_option maxRecDepth 100000
set_option maxHeartbeats 4000000
/-! _law_node: a draw or a move. -/
namespace K1
open PySem PySem.Spec PyProof.Rows L2 Kx Kd Kt Kh
theorem kind_ne {ns : List Str} {k y : Str} {n m : Int} (h : (Sm.move k y n m).pv ns) : ¬ k = ("draw" : Str) := by
  rcases h.1 with rfl | rfl <;> decide +kernel
theorem plc0 (y : Str) (n m : Int) : plc (.move "choose" y n m) = 0 := if_neg (show ¬ ("choose" : Str) = "come" by decide +kernel)
theorem plc1 (y : Str) (n m : Int) : plc (.move "come" y n m) = 1 := if_pos (show ("come" : Str) = "come" from rfl)
/-- what is asked where the law has asked -/
structure AsOk (ns : List Str) (xs : List (Str × Int)) (pm : Pl) (B : Nat) (x : Sm) (n : Nat) (ps : Ts) (m : Nat) : Prop where
  ch : x.chance = true
  pv : x.pv ns
  hn : chL pm.todo ≤ n
  ts : TsOf xs (kidsX xs pm x) ps m
  kd : ∀ q ∈ kidsX xs pm x, PlOk ns B q
  l1 : (askP pm (some x)).e1.length ≤ 1000
  l2 : (askP pm (some x)).e2.length ≤ 1000
section
variable {P : Program} {w : World} {K : PySem.W.Frag} {mg : Str → Option Value} {base : Heap} {fS : Addr} {dS : FuncData}
theorem nd_mid {k n : Nat} (hk : 1 ≤ k) {f : Addr} {fd : FuncData} (T : TxL mg) (S1 : Fn0 P w K mg base 1 "_law_stored" ["game", "table", "name", "value"] spLS fS dS) (G : Fn0 P w K mg base k "_law_node" PNd (spNd n) f fd)
    {cdv : Value} {A : Around} {outer : List Env} {s : Shared} {H : Hp} {E : XK} (hr : Room k (A.deeper (envOfC "_law_node" (defScope sNd) s.heap.objs.size f cdv))) :
    ∃ t, PSs (cxOf CX0 P w K mg base NNd "_law_node" (defScope sNd) f cdv A outer s H E).nox (ndElse.drop 3) t ∧
      ∀ (D : Ends) (H1 H2 : Hp) (gv : V) (tb vw blk cl a ak : Addr) (ns : List Str) (xs : List (Str × Int)) (b : Bk) (pm : Pl) (B : Nat) (x : Sm) (ps : Ts) (m : Nat) (c1 : Int) (v6 v9 : Option V),
        NdSt H2 gv tb vw blk ns xs b pm B → Dt H2 (.ref a) x.d → AsOk ns xs pm B x n ps m → Nest H2 (.tup [.tup (askP pm (some x)).e1, .tup (askP pm (some x)).e2]) (.ref ak) → Same H1 H2 → H1 cl = some (.lst [.int c1]) → 0 ≤ c1 →
        (∀ (v : V) (c' : Int) H', Fk cl H1 H' → H' cl = some (.lst [.int c']) → 0 ≤ c' → NdEnd H1 H' c1 m c' v (mkT (hdOf pm (some x)) ps) → D.rt v H') →
        t D [some gv, some (.ref tb), some (.ref vw), some (.int pm.paid), some (.ref blk), some (.ref cl), v6, some (.ref a), some (.int (plc x : Nat)), v9, some (.ref ak), none, none, none] H2 := by
  obtain ⟨tp, htp, part⟩ := nd_part (outer := outer) (H := H) (E := E) hk S1 G hr
  refine ⟨_, pss_cons (ps_set (i := 11) scNd.nd rfl (Or.inl rfl) (pe_lst pa_nil))
    (pss_cons (ps_for PassesOwn.never rfl (pi_range1 rfl T.range (pa_cons (pe_ix ix_tup (pv 7) pe_int (fun _ _ => rfl)) pa_nil)) (pg_name (i := 12) scNd.nd rfl (Or.inl rfl))
      (pss_cons (ps_set (i := 13) scNd.nd rfl (Or.inl rfl) (pv 10))
      (pss_cons (ps_if (pt_cmpR op_ne (pe_ix ix_tup (pv 7) pe_int (fun _ _ => rfl)) pe_str (nomark _))
        (pss_one (ps_set (i := 13) scNd.nd rfl (Or.inl rfl) (pe_op op_catS (pe_op op_catS (pe_slice sl_tupS (pv 10) po_none (po_some (pv 8))) (pe_tup (pa_cons (pe_op op_catS (pe_ix ix_tup (pv 10) (pv 8) (fun _ _ => rfl)) (pe_tup (pa_cons (pe_tup (pa_cons pe_str (pa_cons (pv 12) pa_nil))) pa_nil))) pa_nil))) (pe_slice sl_tupS (pv 10) (po_some (pe_op op_add (pv 8) pe_int)) po_none)))) pss_nil)
      htp)))
    (pss_cons (ps_if (pt_cmpR op_eq (pe_ix ix_tup (pv 7) pe_int (fun _ _ => rfl)) pe_str (nomark _)) (pss_one (ps_ret (pe_tup (pa_cons pe_str (pa_cons (pv 11) pa_nil))))) pss_nil)
    (pss_one (ps_ret (pe_tup (pa_cons pe_str (pa_cons (pe_ix ix_tup (pe_tup (pa_cons pe_str (pa_cons pe_str pa_nil))) (pv 8) (fun _ _ => rfl)) (pa_cons (pe_ix ix_tup (pv 10) (pv 8) (fun _ _ => rfl)) (pa_cons (pv 11) pa_nil))))))))), ?_⟩
  intro D H1 H2 gv tb vw blk cl a ak ns xs b pm B x ps m c1 v6 v9 R da ⟨hch, hpv, hn, hts, hkd, hl1, hl2⟩ hnv s12 ecl1 c0 q
  have ecl := s12 _ _ ecl1
  obtain ⟨a', us0, ea0, ea⟩ := chance_at hch da
  cases ea0
  have hn8 : 1 ≤ x.rs ∧ x.rs ≤ 8 := by
    cases x with
    | draw y n => exact ⟨hpv.2.1, hpv.2.2⟩
    | move k y n m => exact ⟨hpv.2.2.1, hpv.2.2.2.1⟩
    | set y e => cases hch
    | show_ s e => cases hch
    | pay k e => cases hch
    | ifs e a b => cases hch
  refine ⟨by show 0 ≤ sizeLine; decide, fun Dl hDl => ?_⟩
  have s3 := same_upd (o := .lst []) hDl
  have eD0 : upd H2 Dl (.lst []) Dl = some (.lst []) := upd_same
  have nDl1 : H1 Dl = none := s12.free hDl
  have hne : cl ≠ Dl := ne_of_none ecl hDl
  generalize upd H2 Dl (.lst []) = H3 at *
  refine ⟨_, rfl, a, _, _, _, rfl, rfl, SqT.of (s3 _ _ ea), tix2, x.rs, rfl, by omega, by omega, ?_⟩
  let LI : Nat → L2.St → Hp → Prop := fun i σ Hi => (∃ v12 v13, σ = [some gv, some (.ref tb), some (.ref vw), some (.int pm.paid), some (.ref blk), some (.ref cl), v6, some (.ref a), some (.int (plc x : Nat)), v9, some (.ref ak), some (.ref Dl), v12, v13]) ∧
    ∃ (us : List V) (qs : Ts) (ni : Nat) (ci : Int), Fk cl H2 Hi ∧ Hi cl = some (.lst [.int ci]) ∧ 0 ≤ ci ∧ Hi Dl = some (.lst us) ∧ us.length = i ∧ TsOf xs ((kidsX xs pm x).take i) qs ni ∧ ((ci = c1 + ni ∧ c1 + ni ≤ 400 ∧ DnsAt (fun l => H1 l = none ∧ l ≠ Dl) Hi us qs) ∨ (400 < c1 + ni ∧ 400 < ci))
  refine for_range (lo := 0) (n := x.rs.toNat) LI ?_ ?_ ?_
  · refine ⟨⟨_, _, rfl⟩, [], .nil, 0, c1, Fk.same s3, s3 _ _ ecl, c0, eD0, rfl, .nil, ?_⟩
    by_cases h : c1 ≤ 400
    · exact .inl ⟨by show c1 = c1 + (0 : Int); omega, by show c1 + (0 : Int) ≤ 400; omega, .nil⟩
    · exact .inr ⟨by show 400 < c1 + (0 : Int); omega, by omega⟩
  · rintro i σ Hi hi ⟨⟨v12, v13, rfl⟩, us, qs, ni, ci, fk, eci, ci0, eD, hul, htk, hst⟩
    have Ri := R.fk ecl fk
    have tki := fk.tk ecl
    have eai := tki _ _ ea
    have hnvi := hnv.keep tki
    have hkid : (kidsX xs pm x)[i]? = some (behP xs (askP pm (some x)) x (i : Int)) := kid_at hi
    have hpk := hkd _ (List.mem_of_getElem? hkid)
    have hi0 : (0 : Int) + (i : Nat) = (i : Int) := Int.zero_add _
    have hfr0 : ∀ l, Hi l = none → H1 l = none := fun l hl => by
      cases h : H1 l with
      | none => rfl
      | some o =>
        by_cases e : l = cl
        · rw [e, eci] at hl
          cases hl
        · rw [fk _ _ (s12 _ _ h) e] at hl
          cases hl
    have h1cl : H1 cl ≠ none := by
      rw [ecl1]
      intro z
      cases z
    -- behind the if
    have go : ∀ (D' : Ends) (Hj : Hp) (af : Addr), (∀ σ' H', LI (i + 1) σ' H' → D'.nx σ' H') → Same Hi Hj → Nest Hj (.tup [.tup (behP xs (askP pm (some x)) x (i : Int)).e1, .tup (behP xs (askP pm (some x)) x (i : Int)).e2]) (.ref af) → tp D'
        [some gv, some (.ref tb), some (.ref vw), some (.int pm.paid), some (.ref blk), some (.ref cl), v6, some (.ref a), some (.int (plc x : Nat)), v9, some (.ref ak), some (.ref Dl), some (.int (i : Int)), some (.ref af)] Hj := fun D' Hj af hD' sj hnj => by
      refine part _ H1 Hj gv tb vw blk cl a Dl af ns xs b pm B x ps m i c1 ci us qs ni _ _ _ _ (Ri.same sj) ((da.keep tki).keep (Tk.same sj)) hch hpv hn hts hi hpk hnj (sj _ _ eci) ci0 (sj _ _ eD) hul hne htk (fun l hl => hfr0 l (sj.free hl)) h1cl ?_ fun H' us' qs' ni' ci' hf' ec' c0' eD' hul' htk' hst' => hD' _ _ ⟨⟨_, _, rfl⟩, us', qs', ni', ci', fun b o e hb => ?_, ec', c0', eD', hul', htk', hst'⟩
      · rcases hst with ⟨g1, g2, g3⟩ | g
        · refine .inl ⟨g1, g2, g3.keep (fun l us hl hg => hg) (Tk.same sj) (fun l us hg hl => sj _ _ hl)⟩
        · exact .inr g
      · exact hf' _ _ (sj _ _ (fk _ _ e hb)) hb (ne_of_none e hDl)
    refine ⟨_, rfl, _, rfl, a, _, _, _, rfl, rfl, SqT.of eai, tix0, rfl, _, rfl, ?_⟩
    rw [hi0]
    cases x with
    | set y e => cases hch
    | show_ s e => cases hch
    | pay k e => cases hch
    | ifs e a b => cases hch
    | draw y rs =>
      rw [show (Sm.draw y rs).kind = ("draw" : Str) from rfl, decide_eq_true rfl]
      exact iteF (go _ Hi ak (fun _ _ h => h) (fun _ _ e => e) hnvi)
    | move k y rs mv =>
      rw [show (Sm.move k y rs mv).kind = k from rfl, decide_eq_false (fun z => kind_ne hpv (V.str.inj z))]
      have hbe : behE (askP pm (some (.move k y rs mv))) (.move k y rs mv) (i : Int) = addE (askP pm (some (.move k y rs mv))) (seatOf (.move k y rs mv)) (didK (i : Int)) := if_neg (kind_ne hpv)
      have hpl : plc (.move k y rs mv) = 0 ∨ plc (.move k y rs mv) = 1 := by
        unfold plc
        split
        · exact .inr rfl
        · exact .inl rfl
      refine iteT (snoc_read (K := K) (i := 10) (j := 8) rfl rfl hpl hnvi hl1 hl2 fun Hj R' sj hR => ?_)
      refine ⟨_, rfl, by show 2 ≤ sizeLine; decide, fun p1 np1 => ⟨by show 1 ≤ sizeLine; decide, fun p2 np2 => ?_⟩⟩
      have s5 := same_upd (o := .tup [.str ("did" : Str), .int (i : Int)]) np1
      have e5 : upd Hj p1 (.tup [.str ("did" : Str), .int (i : Int)]) p1 = some (.tup [.str ("did" : Str), .int (i : Int)]) := upd_same
      generalize upd Hj p1 (.tup [.str ("did" : Str), .int (i : Int)]) = H5 at *
      have s6 := same_upd (o := .tup [.ref p1]) np2
      refine hR p2 (.ref p1) (didK (i : Int)) _ (s5.trans s6) upd_same (.tup (s6 _ _ e5) (.cons (.text _) (.cons (.num _) .nil))) fun c H7 s7 hn7 => ?_
      refine go _ H7 c (fun _ _ h => h) (((sj.trans s5).trans s6).trans s7) ?_
      have he : (behP xs (askP pm (some (.move k y rs mv))) (.move k y rs mv) (i : Int)).e1 = (behE (askP pm (some (.move k y rs mv))) (.move k y rs mv) (i : Int)).e1 ∧ (behP xs (askP pm (some (.move k y rs mv))) (.move k y rs mv) (i : Int)).e2 = (behE (askP pm (some (.move k y rs mv))) (.move k y rs mv) (i : Int)).e2 := ⟨rfl, rfl⟩
      rw [he.1, he.2, hbe]
      rcases hpv.1 with rfl | rfl
      · rw [if_pos (plc0 y rs mv)] at hn7
        exact hn7
      · rw [if_neg (by rw [plc1]; decide)] at hn7
        exact hn7
  · rintro σ Hi ⟨⟨v12, v13, rfl⟩, us, qs, ni, ci, fk, eci, ci0, eD, hul, htk, hst⟩
    have tki := fk.tk ecl
    have eai := tki _ _ ea
    have hall : (kidsX xs pm x).take x.rs.toNat = kidsX xs pm x := by
      have : (kidsX xs pm x).length = x.rs.toNat := by
        unfold kidsX
        rw [List.length_map, List.length_range]
      rw [← this, List.take_length]
    rw [hall] at htk
    obtain ⟨rfl, rfl⟩ := TsOf.det htk hts
    have fk1 : Fk cl H1 Hi := fun b o e hb => fk _ _ (s12 _ _ e) hb
    refine ⟨_, rfl, a, _, _, _, rfl, rfl, SqT.of eai, tix0, rfl, _, rfl, ?_⟩
    cases x with
    | set y e => cases hch
    | show_ s e => cases hch
    | pay k e => cases hch
    | ifs e a b => cases hch
    | draw y rs =>
      rw [show (Sm.draw y rs).kind = ("draw" : Str) from rfl, decide_eq_true rfl]
      refine iteT ⟨_, rfl, by show 2 ≤ sizeLine; decide, fun p hp => ?_⟩
      have s9 := same_upd (o := .tup [.str ("lot" : Str), .ref Dl]) hp
      refine q (.ref p) ci _ (fk1.trans (Fk.same s9)) (s9 _ _ eci) ci0 ?_
      rcases hst with ⟨g1, g2, g3⟩ | g
      · refine .inl ⟨g1, g2, .l upd_same nDl1 (s9 _ _ eD) (g3.keep (fun l us hl hg => hg.1) (Tk.same s9) (fun l us hg hl => s9 _ _ hl))⟩
      · exact .inr g
    | move k y rs mv =>
      rw [show (Sm.move k y rs mv).kind = k from rfl, decide_eq_false (fun z => kind_ne hpv (V.str.inj z))]
      obtain ⟨a1, a2, us1, us2, e0, e1, r1, e2, r2⟩ := nest_pair (hnv.keep tki)
      refine iteF ⟨by show 2 ≤ sizeLine; decide, fun p1 np1 => ?_⟩
      have s5 := same_upd (o := .tup [.str ("chooser" : Str), .str ("comer" : Str)]) np1
      have e5 : upd Hi p1 (.tup [.str ("chooser" : Str), .str ("comer" : Str)]) p1 = some (.tup [.str ("chooser" : Str), .str ("comer" : Str)]) := upd_same
      generalize upd Hi p1 (.tup [.str ("chooser" : Str), .str ("comer" : Str)]) = H5 at *
      have fin : ∀ (seat : Str) (va : Addr) (view : List NestedKey) (p : Addr), seatOf (.move k y rs mv) = seat → evs pm seat ++ [askK mv rs] = view → Nest H5 (.tup view) (.ref va) → H5 p = none → D.rt (.ref p) (upd H5 p (.tup [.str "move", .str seat, .ref va, .ref Dl])) := fun seat va view p h1 h2 hv hp => by
        have s9 := same_upd (o := .tup [.str ("move" : Str), .str seat, .ref va, .ref Dl]) hp
        refine q (.ref p) ci _ ((fk1.trans (Fk.same s5)).trans (Fk.same s9)) (s9 _ _ (s5 _ _ eci)) ci0 ?_
        rcases hst with ⟨g1, g2, g3⟩ | g
        · refine .inl ⟨g1, g2, ?_⟩
          have ht : mkT (hdOf pm (some (.move k y rs mv))) qs = .move seat view qs := by
            show Tr.move (seatOf (.move k y rs mv)) (evs pm (seatOf (.move k y rs mv)) ++ [askK mv rs]) qs = _
            rw [h1, h2]
          rw [ht]
          refine .m upd_same (hv.keep (Tk.same s9)) nDl1 (s9 _ _ (s5 _ _ eD)) (g3.keep (fun l us hl hg => hg.1) (Tk.same (s5.trans s9)) (fun l us hg hl => s9 _ _ (s5 _ _ hl)))
        · exact .inr g
      rcases hpv.1 with rfl | rfl
      · have hp0 : ((plc (.move "choose" y rs mv) : Nat) : Int) = 0 := by rw [plc0]; rfl
        rw [hp0]
        refine ⟨_, rfl, p1, _, _, _, rfl, rfl, SqT.of e5, tix0, _, rfl, _, rfl, ak, _, _, _, rfl, rfl, SqT.of (s5 _ _ e0), tix0, _, rfl, by show 4 ≤ sizeLine; decide, fun p hp => ?_⟩
        refine fin "chooser" a1 _ p rfl rfl ?_ hp
        exact .tup (s5 _ _ e1) (nestL_same s5 r1)
      · have hp0 : ((plc (.move "come" y rs mv) : Nat) : Int) = 1 := by rw [plc1]; rfl
        rw [hp0]
        refine ⟨_, rfl, p1, _, _, _, rfl, rfl, SqT.of e5, tix1, _, rfl, _, rfl, ak, _, _, _, rfl, rfl, SqT.of (s5 _ _ e0), tix1, _, rfl, by show 4 ≤ sizeLine; decide, fun p hp => ?_⟩
        refine fin "comer" a2 _ p rfl rfl ?_ hp
        exact .tup (s5 _ _ e2) (nestL_same s5 r2)
end
end K1

set_option Elab.async false
set_option linter.all false
set_option maxRecDepth 100000
set_option maxHeartbeats 4000000
/-! _law_node: the else of its chain; what a turn does. -/
namespace K1
open PySem PySem.Spec PyProof.Rows L2 Kx Kd Kt Kh
theorem sne {a b : Str} (h : ¬ a = b) [inst : Decidable (V.str a = V.str b)] : decide (V.str a = V.str b) = false := decide_eq_false fun z => h (V.str.inj z)
theorem seq {a b : Str} (h : a = b) [inst : Decidable (V.str a = V.str b)] : decide (V.str a = V.str b) = true := decide_eq_true (by rw [h])
theorem dtApp {H : Hp} : ∀ {us vs : List V} {ds es : List PyData}, DtAll H us ds → DtAll H vs es → DtAll H (us ++ vs) (ds ++ es)
  | _, _, _, _, .nil, h => h
  | _, _, _, _, .cons a r, h => .cons a (dtApp r h)
theorem tr_end {xs : List (Str × Int)} {pl pm : Pl} {t : Tr} {m : Nat} (hc : cameTo xs pl = (pm, none)) (h : TrOf xs pl t m) : t = .end_ pm.paid ∧ m = 1 := by
  cases h with
  | mk h =>
    have hk : kids xs pl = [] := by
      unfold kids
      rw [hc]
    rw [hk] at h
    cases h
    unfold draft
    rw [hc]
    exact ⟨rfl, rfl⟩
theorem tr_ch {xs : List (Str × Int)} {pl pm : Pl} {x : Sm} {t : Tr} {m : Nat} (hc : cameTo xs pl = (pm, some x)) (h : TrOf xs pl t m) : ∃ ps n, TsOf xs (kidsX xs pm x) ps n ∧ t = mkT (hdOf pm (some x)) ps ∧ m = n + 1 := by
  cases h with
  | @mk _ ps n h =>
    have hk : kids xs pl = kidsX xs pm x := by
      unfold kids kidsX
      rw [hc]
    rw [hk] at h
    refine ⟨ps, n, h, ?_, rfl⟩
    unfold draft
    rw [hc]
section
variable {P : Program} {w : World} {K : PySem.W.Frag} {mg : Str → Option Value} {base : Heap} {fS : Addr} {dS : FuncData}
/-- what the else of the chain does, where n chances may be ahead -/
def ElseOk (P : Program) (w : World) (K : PySem.W.Frag) (mg : Str → Option Value) (base : Heap) (f : Addr) (cdv : Value) (A : Around) (outer : List Env) (s : Shared) (H : Hp) (E : XK) (n : Nat) : Prop :=
  ∃ t, PSs (cxOf CX0 P w K mg base NNd "_law_node" (defScope sNd) f cdv A outer s H E).nox ndElse t ∧
      ∀ (D : Ends) (H1 : Hp) (gv : V) (tb vw blk cl a : Addr) (ns : List Str) (xs : List (Str × Int)) (b : Bk) (pm : Pl) (B : Nat) (x : Sm) (ps : Ts) (m : Nat) (c1 : Int) (v6 v8 v9 : Option V),
        NdSt H1 gv tb vw blk ns xs b pm B → Dt H1 (.ref a) x.d → AsOk ns xs pm B x (chL pm.todo) ps m → chL pm.todo + 1 ≤ n → H1 cl = some (.lst [.int c1]) → 0 ≤ c1 →
        (∀ (v : V) (c' : Int) H', Fk cl H1 H' → H' cl = some (.lst [.int c']) → 0 ≤ c' → NdEnd H1 H' c1 m c' v (mkT (hdOf pm (some x)) ps) → D.rt v H') →
        t D [some gv, some (.ref tb), some (.ref vw), some (.int pm.paid), some (.ref blk), some (.ref cl), v6, some (.ref a), v8, v9, none, none, none, none] H1
theorem nd_else0 {f : Addr} {cdv : Value} {A : Around} {outer : List Env} {s : Shared} {H : Hp} {E : XK} : ElseOk P w K mg base f cdv A outer s H E 0 := by
  refine ⟨_, pss_cons ps_never (pss_cons ps_never (pss_cons ps_never (pss_cons ps_never (pss_cons ps_never (pss_cons ps_never (pss_one ps_never)))))), ?_⟩
  intro D H1 gv tb vw blk cl a ns xs b pm B x ps m c1 v6 v8 v9 R da ok hn
  omega
theorem nd_elseS {k n : Nat} (hk : 1 ≤ k) {f : Addr} {fd : FuncData} (T : TxL mg) (S1 : Fn0 P w K mg base 1 "_law_stored" ["game", "table", "name", "value"] spLS fS dS) (G : Fn0 P w K mg base k "_law_node" PNd (spNd n) f fd)
    {cdv : Value} {A : Around} {outer : List Env} {s : Shared} {H : Hp} {E : XK} (hr : Room k (A.deeper (envOfC "_law_node" (defScope sNd) s.heap.objs.size f cdv))) : ElseOk P w K mg base f cdv A outer s H E (n + 1) := by
  obtain ⟨tm, htm, mid⟩ := nd_mid (outer := outer) (H := H) (E := E) hk T S1 G hr
  refine ⟨_, pss_cons (ps_set (i := 8) scNd.nd rfl (Or.inl rfl) (pe_callTy call_int1 (by rfl) T.int (by decide +kernel) (pa_cons (pe_cmpR op_eq (pe_ix ix_tup (pv 7) pe_int (fun _ _ => rfl)) pe_str (nomark _)) pa_nil)))
    (pss_cons (ps_set (i := 10) scNd.nd rfl (Or.inl rfl) (pv 2))
    (pss_cons (ps_if (pt_cmpR op_ne (pe_ix ix_tup (pv 7) pe_int (fun _ _ => rfl)) pe_str (nomark _))
      (pss_one (ps_set (i := 10) scNd.nd rfl (Or.inl rfl) (pe_op op_catS (pe_op op_catS (pe_slice sl_tupS (pv 2) po_none (po_some (pv 8))) (pe_tup (pa_cons (pe_op op_catS (pe_ix ix_tup (pv 2) (pv 8) (fun _ _ => rfl)) (pe_tup (pa_cons (pe_tup (pa_cons pe_str (pa_cons (pe_ix ix_tup (pv 7) pe_int (fun _ _ => rfl)) (pa_cons (pe_ix ix_tup (pv 7) pe_int (fun _ _ => rfl)) pa_nil)))) pa_nil))) pa_nil))) (pe_slice sl_tupS (pv 2) (po_some (pe_op op_add (pv 8) pe_int)) po_none)))) pss_nil)
    htm)), ?_⟩
  intro D H1 gv tb vw blk cl a ns xs b pm B x ps m c1 v6 v8 v9 R da ok hn ecl c0 q
  have ok' : AsOk ns xs pm B x n ps m := ⟨ok.ch, ok.pv, by omega, ok.ts, ok.kd, ok.l1, ok.l2⟩
  obtain ⟨a', us0, ea0, ea⟩ := chance_at ok.ch da
  cases ea0
  have b1 := R.ok.b1
  have b2 := R.ok.b2
  have hB := R.hB
  refine ⟨_, rfl, a, _, _, _, rfl, rfl, SqT.of ea, tix0, rfl, .inr ⟨_, rfl, ?_⟩⟩
  have hplc : (if decide (V.str x.kind = V.str ("come" : Str)) = true then (1 : Int) else 0) = ((plc x : Nat) : Int) := by
    unfold plc
    by_cases h : x.kind = "come"
    · rw [if_pos h, decide_eq_true (by rw [h]), if_pos rfl]
      rfl
    · rw [if_neg h, decide_eq_false (fun z => h (V.str.inj z)), if_neg Bool.false_ne_true]
      rfl
  rw [hplc]
  refine ⟨_, rfl, ?_⟩
  refine ⟨_, rfl, a, _, _, _, rfl, rfl, SqT.of ea, tix0, rfl, _, rfl, ?_⟩
  have hch := ok.ch
  have hpv := ok.pv
  cases x with
  | set y e => cases hch
  | show_ s e => cases hch
  | pay k e => cases hch
  | ifs e a b => cases hch
  | draw y rs =>
    rw [show (Sm.draw y rs).kind = ("draw" : Str) from rfl, decide_eq_true rfl]
    exact iteF (mid D H1 H1 gv tb vw blk cl a vw ns xs b pm B (.draw y rs) ps m c1 v6 v9 R da ok' R.v (fun _ _ e => e) ecl c0 q)
  | move k y rs mv =>
    rw [show (Sm.move k y rs mv).kind = k from rfl, decide_eq_false (fun z => kind_ne hpv (V.str.inj z))]
    have hpl : plc (.move k y rs mv) = 0 ∨ plc (.move k y rs mv) = 1 := by
      unfold plc
      split
      · exact .inr rfl
      · exact .inl rfl
    obtain ⟨a0, us, ea1, ea2, dd⟩ := da.tupI
    cases ea1
    obtain ⟨u0, u1, u2, u3, rfl, d0, d1, d2, d3⟩ := dd.c4
    obtain rfl := d0.strI
    obtain rfl := d1.strI
    obtain rfl := d2.intI
    obtain rfl := d3.intI
    refine iteT (snoc_read (K := K) (i := 2) (j := 8) rfl rfl hpl R.v (by omega) (by omega) fun Hj R' sj hR => ?_)
    refine ⟨_, rfl, a, _, _, _, rfl, rfl, SqT.of (sj _ _ ea2), atI_nat (j := 3) rfl, _, rfl, a, _, _, _, rfl, rfl, SqT.of (sj _ _ ea2), tix2, by show 3 ≤ sizeLine; decide, fun p1 np1 => ⟨by show 1 ≤ sizeLine; decide, fun p2 np2 => ?_⟩⟩
    have s5 := same_upd (o := .tup [.str ("asked" : Str), .int mv, .int rs]) np1
    have e5 : upd Hj p1 (.tup [.str ("asked" : Str), .int mv, .int rs]) p1 = some (.tup [.str ("asked" : Str), .int mv, .int rs]) := upd_same
    generalize upd Hj p1 (.tup [.str ("asked" : Str), .int mv, .int rs]) = H5 at *
    have s6 := same_upd (o := .tup [.ref p1]) np2
    refine hR p2 (.ref p1) (askK mv rs) _ (s5.trans s6) upd_same (.tup (s6 _ _ e5) (.cons (.text _) (.cons (.num _) (.cons (.num _) .nil)))) fun c H7 s7 hn7 => ?_
    have s17 := ((sj.trans s5).trans s6).trans s7
    refine mid D H1 H7 gv tb vw blk cl a c ns xs b pm B (.move k y rs mv) ps m c1 v6 v9 (R.same s17) (da.keep (Tk.same s17)) ok' ?_ s17 ecl c0 q
    rcases hpv.1 with rfl | rfl
    · rw [if_pos (plc0 y rs mv)] at hn7
      exact hn7
    · rw [if_neg (by rw [plc1]; decide)] at hn7
      exact hn7
end
end K1

set_option Elab.async false
set_option linter.all false
set_option maxRecDepth 100000
set_option maxHeartbeats 8000000
/-! _law_node. -/
namespace K1
open PySem PySem.Spec PyProof.Rows L2 Kx Kd Kt Kh
theorem cutV_tail (x : V) (xs : List V) : cutV (x :: xs) (some 1) none = xs := by
  unfold cutV
  have h1 : HT.sIx (x :: xs).length 0 (some 1) = 1 := by
    show min ((1 : Int).toNat) (x :: xs).length = 1
    rw [List.length_cons]
    show min 1 _ = 1
    omega
  have h2 : HT.sIx (x :: xs).length (x :: xs).length none = (x :: xs).length := rfl
  rw [h1, h2]
  show xs.take ((x :: xs).length - 1) = xs
  rw [List.length_cons, Nat.add_sub_cancel, List.take_length]
section
variable {P : Program} {w : World} {K : PySem.W.Frag} {mg : Str → Option Value} {base : Heap} {fS fU : Addr} {dS dU : FuncData}
theorem nd_main {k n : Nat} (hk : 6 ≤ k) {f : Addr} {fd : FuncData} (F : Fun K "_law_node" "_law_node" sNd f fd) (T : TxL mg) (NU : Fn0 P w K mg base 6 "_law_number_of" ["due", "table"] (spVo 5) fU dU) (S1 : Fn0 P w K mg base 1 "_law_stored" ["game", "table", "name", "value"] spLS fS dS)
    (hel : ∀ {cdv : Value} {A : Around} {outer : List Env} {s : Shared} {H : Hp} {E : XK}, Room k (A.deeper (envOfC "_law_node" (defScope sNd) s.heap.objs.size f cdv)) → ElseOk P w K mg base f cdv A outer s H E n) : FnOk P w K mg base CX0 (k + 1) f fd PNd (spNd n) := by
  refine F.ok scNd (fun vs H Q E h => ?_) (fun cdv A outer s H vs Q E hr h => ?_)
  · obtain ⟨gv, tb, vw, blk, cl, c, ns, xs, b, pl, B, t, m, rfl, _⟩ := h
    rfl
  · obtain ⟨gv, tb, vw, blk, cl, c, ns, xs, b, pl, B, t, m, rfl, R, ecl, c0, htr, hn, q⟩ := h
    have hr1 : Room 1 _ := hr.mono (by omega)
    have hr6 : Room 6 _ := hr.mono hk
    obtain ⟨te, hte, els⟩ := hel (outer := outer) (H := H) (E := E) hr
    refine ⟨_, pss_cons (ps_asg (pe_op op_add (pe_ix ix_list (pv 5) pe_int (fun _ _ => rfl)) pe_int) (pg_sub (pv 5) pe_int set_list))
      (pss_cons (ps_if (pt_cmpR op_gt (pe_ix ix_list (pv 5) pe_int (fun _ _ => rfl)) pe_int (nomark _)) (pss_one (ps_ret pe_non)) pss_nil)
      (pss_cons (ps_for PassesOwn.never rfl (pi_range1 rfl T.range (pa_cons pe_int pa_nil)) (pg_name (i := 6) scNd.nd rfl (Or.inl rfl))
        (pss_cons (ps_if (pt_cmpR op_eq (pe_callB call_len_seq (by rfl) T.len PySem.boot_len (pa_cons (pv 4) pa_nil)) pe_int (nomark _)) (pss_one (ps_ret (pe_tup (pa_cons pe_str (pa_cons (pv 3) pa_nil))))) pss_nil)
        (pss_cons (ps_set (i := 7) scNd.nd rfl (Or.inl rfl) (pe_ix ix_tup (pv 4) pe_int (fun _ _ => rfl)))
        (pss_cons (ps_set (i := 4) scNd.nd rfl (Or.inl rfl) (pe_slice sl_tupS (pv 4) (po_some pe_int) po_none))
        (pss_one (ps_if (pt_cmpR op_eq (pe_ix ix_tup (pv 7) pe_int (fun _ _ => rfl)) pe_str (nomark _))
          (pss_one (ps_set (i := 4) scNd.nd rfl (Or.inl rfl) (pe_op op_catS (pe_ix ix_tup (pv 7) (pe_op op_add pe_int (pe_callTy call_int1 (by rfl) T.int (by decide +kernel) (pa_cons (pe_cmpR op_eq (pe_call NU.ok hr6 (by rfl) NU.gl NU.kp NU.bd .nil pass0 (pa_cons (pe_ix ix_tup (pv 7) pe_int (fun _ _ => rfl)) (pa_cons (pv 1) pa_nil))) pe_int (nomark _)) pa_nil))) (fun _ _ => rfl)) (pv 4))))
          (pss_one (ps_if (pt_cmpR op_eq (pe_ix ix_tup (pv 7) pe_int (fun _ _ => rfl)) pe_str (nomark _))
            (pss_one (ps_set (i := 1) scNd.nd rfl (Or.inl rfl) (pe_call S1.ok hr1 (by rfl) S1.gl S1.kp S1.bd .nil pass0 (pa_cons (pv 0) (pa_cons (pv 1) (pa_cons (pe_ix ix_tup (pv 7) pe_int (fun _ _ => rfl)) (pa_cons (pe_call NU.ok hr6 (by rfl) NU.gl NU.kp NU.bd .nil pass0 (pa_cons (pe_ix ix_tup (pv 7) pe_int (fun _ _ => rfl)) (pa_cons (pv 1) pa_nil))) pa_nil)))))))
            (pss_one (ps_if (pt_cmpR op_eq (pe_ix ix_tup (pv 7) pe_int (fun _ _ => rfl)) pe_str (nomark _))
              (pss_cons (ps_set (i := 8) scNd.nd rfl (Or.inl rfl) (pe_callTy call_int1 (by rfl) T.int (by decide +kernel) (pa_cons (pe_cmpR op_eq (pe_ix ix_tup (pv 7) pe_int (fun _ _ => rfl)) pe_str (nomark _)) pa_nil)))
              (pss_cons (ps_set (i := 9) scNd.nd rfl (Or.inl rfl) (pe_tup (pa_cons pe_str (pa_cons (pe_call NU.ok hr6 (by rfl) NU.gl NU.kp NU.bd .nil pass0 (pa_cons (pe_ix ix_tup (pv 7) pe_int (fun _ _ => rfl)) (pa_cons (pv 1) pa_nil))) pa_nil))))
              (pss_one (ps_set (i := 2) scNd.nd rfl (Or.inl rfl) (pe_op op_catS (pe_op op_catS (pe_slice sl_tupS (pv 2) po_none (po_some (pv 8))) (pe_tup (pa_cons (pe_op op_catS (pe_ix ix_tup (pv 2) (pv 8) (fun _ _ => rfl)) (pe_tup (pa_cons (pv 9) pa_nil))) pa_nil))) (pe_slice sl_tupS (pv 2) (po_some (pe_op op_add (pv 8) pe_int)) po_none))))))
              (pss_one (ps_if (pt_cmpR op_eq (pe_ix ix_tup (pv 7) pe_int (fun _ _ => rfl)) pe_str (nomark _))
                (pss_one (ps_set (i := 3) scNd.nd rfl (Or.inl rfl) (pe_op op_add (pv 3) (pe_call NU.ok hr6 (by rfl) NU.gl NU.kp NU.bd .nil pass0 (pa_cons (pe_ix ix_tup (pv 7) pe_int (fun _ _ => rfl)) (pa_cons (pv 1) pa_nil))))))
                (pss_one (ps_if (pt_cmpR op_eq (pe_ix ix_tup (pv 7) pe_int (fun _ _ => rfl)) pe_str (nomark _))
                  (pss_one (ps_set (i := 3) scNd.nd rfl (Or.inl rfl) (pe_op op_sub (pv 3) (pe_call NU.ok hr6 (by rfl) NU.gl NU.kp NU.bd .nil pass0 (pa_cons (pe_ix ix_tup (pv 7) pe_int (fun _ _ => rfl)) (pa_cons (pv 1) pa_nil))))))
                  hte))))))))))))))
      (pss_one (ps_ret pe_non)))), ?_⟩
    have b1 := R.ok.b1
    have hB := R.hB
    refine ⟨_, rfl, cl, _, _, _, rfl, rfl, SqL.of ecl, tix0, _, _, rfl, rfl, _, rfl, cl, _, _, 0, rfl, rfl, ecl, by show ixN 1 0 = some 0; decide, ?_⟩
    have e1 : upd H cl (.lst ([V.int c].set 0 (.int (c + 1)))) cl = some (.lst [.int (c + 1)]) := upd_same
    have fk1 : Fk cl H (upd H cl (.lst ([V.int c].set 0 (.int (c + 1))))) := fun b o e hb => by rw [upd_ne hb]; exact e
    generalize upd H cl (.lst ([V.int c].set 0 (.int (c + 1)))) = H1 at *
    have R1 := R.fk ecl fk1
    have hfr : ∀ l, H1 l = none → H l = none := fun l hl => by
      cases h : H l with
      | none => rfl
      | some o =>
        by_cases e : l = cl
        · rw [e, e1] at hl
          cases hl
        · rw [fk1 _ _ h e] at hl
          cases hl
    have hm1 : 1 ≤ m := by
      cases htr with
      | mk h => omega
    refine ⟨_, rfl, cl, _, _, _, rfl, rfl, SqL.of e1, tix0, _, _, rfl, rfl, _, rfl, ite2 (fun y => ?_) (fun y => ?_)⟩
    · have y := of_decide_eq_true y
      exact q .non (c + 1) H1 fk1 e1 (by omega) (.inr ⟨by omega, by omega⟩)
    have hc4 : c + 1 ≤ 400 := by
      rcases Int.lt_or_le 400 (c + 1) with h | h
      · exact absurd (decide_eq_true h) y
      · exact h
    let TI : Nat → L2.St → Hp → Prop := fun i σ H' => ∃ (tb' vw' blk' : Addr) (pl' : Pl) (v6 v7 v8 v9 : Option V) (kf : Nat), σ = [some gv, some (.ref tb'), some (.ref vw'), some (.int pl'.paid), some (.ref blk'), some (.ref cl), v6, v7, v8, v9, none, none, none, none] ∧ NdSt H' gv tb' vw' blk' ns xs b pl' B ∧ Same H1 H' ∧ i + wtL pl'.todo ≤ wtL pl.todo ∧ wtL pl'.todo ≤ kf ∧ goOn xs (wtL pl.todo) pl = goOn xs kf pl' ∧ chL pl'.todo ≤ chL pl.todo
    refine ⟨3000, rfl, by decide, by decide, for_range (lo := 0) (n := (3000 : Int).toNat) TI ?_ ?_ ?_⟩
    · exact ⟨tb, vw, blk, pl, _, _, _, _, wtL pl.todo, rfl, R1, fun _ _ e => e, by omega, Nat.le_refl _, rfl, Nat.le_refl _⟩
    · rintro i σ H2 hi ⟨tb', vw', blk', pl', v6, v7, v8, v9, kf, rfl, R2, s2, hw, hkf, hgo, hch⟩
      obtain ⟨us, eb, db⟩ := R2.k
      cases htd : pl'.todo with
      | nil =>
        rw [htd] at db
        cases db
        rw [goOn_nil htd] at hgo
        obtain ⟨ht, hm⟩ := tr_end hgo htr
        refine ⟨_, rfl, blk', _, rfl, .inr (SqT.of eb), rfl, _, rfl, ?_⟩
        rw [decide_eq_true (show V.int ((([] : List V).length : Nat) : Int) = V.int 0 from rfl)]
        refine iteT ⟨_, rfl, by show 2 ≤ sizeLine; decide, fun p hp => ?_⟩
        have s3 := same_upd (o := .tup [.str ("end" : Str), .int pl'.paid]) hp
        refine q (.ref p) (c + 1) _ ((fk1.trans (Fk.same s2)).trans (Fk.same s3)) (s3 _ _ (s2 _ _ e1)) (by omega) (.inl ⟨by omega, by omega, ?_⟩)
        rw [ht]
        exact .e upd_same
      | cons x r =>
        rw [htd] at db
        obtain ⟨u, us, rfl, du, dr⟩ : ∃ u us', us = u :: us' ∧ Dt H2 u x.d ∧ DtAll H2 us' (r.map Sm.d) := by
          cases db with
          | cons a r => exact ⟨_, _, rfl, a, r⟩
        have hwx := wt_pos x
        have hwc := wtL_cons x r
        have hlr := len_wt r
        have hlu := lenD dr
        rw [List.length_map] at hlu
        refine ⟨_, rfl, blk', _, rfl, .inr (SqT.of eb), rfl, _, rfl, ?_⟩
        rw [decide_eq_false (show ¬ V.int ((u :: us).length : Int) = V.int 0 from fun z => by
          have z := V.int.inj z
          rw [List.length_cons] at z
          omega)]
        refine iteF ?_
        refine ⟨_, rfl, blk', _, _, _, rfl, rfl, SqT.of eb, tix0, ?_⟩
        refine ⟨_, rfl, _, rfl, blk', _, rfl, eb, fun bk2 H3 s3 eb3 => ?_⟩
        rw [cutV_tail] at eb3
        have R3 := R2.same s3
        have hok := R2.ok
        have hpv := hok.pv
        rw [htd] at hpv
        have hxv := hpv x (List.mem_cons_self ..)
        have du3 := du.keep (Tk.same s3)
        have dr3 := dr.keep (Tk.same s3)
        have s13 := s2.trans s3
        obtain ⟨kf, rfl⟩ : ∃ k', kf = k' + 1 := ⟨kf - 1, by rw [htd] at hkf; omega⟩
        obtain ⟨a, ud, rfl, ea⟩ := sm_head du3
        -- a statement that is no chance is done
        have nxt : ∀ (H4 : Hp) (tb2 vw2 bk4 : Addr) (v6 v7 v8 v9 : Option V), x.chance = false → Same H3 H4 → H4 tb2 = some (.dK (stK (perf xs { pl' with todo := r } x).st)) → Nest H4 (.tup [.tup (perf xs { pl' with todo := r } x).e1, .tup (perf xs { pl' with todo := r } x).e2]) (.ref vw2) → (∃ us, H4 bk4 = some (.tup us) ∧ DtAll H4 us ((perf xs { pl' with todo := r } x).todo.map Sm.d)) → StOk ns (perf xs { pl' with todo := r } x).st →
            TI (i + 1) [some gv, some (.ref tb2), some (.ref vw2), some (.int (perf xs { pl' with todo := r } x).paid), some (.ref bk4), some (.ref cl), v6, v7, v8, v9, none, none, none, none] H4 := fun H4 tb2 vw2 bk4 v6 v7 v8 v9 hc s4 h1 h2 h3 h4 => by
          obtain ⟨ok2, hlt⟩ := perf_ok (xs := xs) hok htd hc
          rw [goOn_step htd hc] at hgo
          have hcl := perf_ch (xs := xs) htd
          exact ⟨tb2, vw2, bk4, _, _, _, _, _, kf, rfl, ⟨(R3.same s4).g, h1, h2, h3, h4, R2.sz, ok2, R2.hB⟩, s13.trans s4, by omega, by omega, hgo, by omega⟩
        have hex : ∀ {e : Ex}, e.vl ns 5 → Sml (evE pl'.st e) := fun he => evE_sml R2.st he
        have t3 := R3.t
        have k3 : ∃ us, H3 bk2 = some (.tup us) ∧ DtAll H3 us (r.map Sm.d) := ⟨us, eb3, dr3⟩
        refine ⟨_, rfl, a, _, _, _, rfl, rfl, SqT.of ea, tix0, rfl, _, rfl, ?_⟩
        have chn : x.chance = true → ¬ x.kind = ("if" : Str) → ¬ x.kind = ("set" : Str) → ¬ x.kind = ("show" : Str) → ¬ x.kind = ("pay" : Str) → ¬ x.kind = ("take" : Str) → ∀ (D' : Ends), D'.rt = Q → te D' [some gv, some (.ref tb'), some (.ref vw'), some (.int pl'.paid), some (.ref bk2), some (.ref cl), some (.int (0 + (i : Int))), some (.ref a), v8, v9, none, none, none, none] H3 := fun hc _ _ _ _ _ D' hD' => by
          rw [goOn_chance htd hc] at hgo
          obtain ⟨ps, n', hts, ht, hm⟩ := tr_ch hgo htr
          rw [htd, chL_cons, chance_chs hc] at hch
          have hkids : ∀ q ∈ kidsX xs { pl' with todo := r } x, PlOk ns B q := fun q hq => by
            obtain ⟨r0, _, rfl⟩ := List.mem_map.mp hq
            have h2 : (cameTo xs pl).2 = some x := by
              show (goOn xs (wtL pl.todo) pl).2 = some x
              rw [hgo]
            have h1 : (cameTo xs pl).1 = { pl' with todo := r } := by
              show (goOn xs (wtL pl.todo) pl).1 = _
              rw [hgo]
            have := (kids_ok (xs := xs) R.ok h2 (r0 : Int)).1
            rw [h1] at this
            exact this
          have hlen : (askP { pl' with todo := r } (some x)).e1.length ≤ B ∧ (askP { pl' with todo := r } (some x)).e2.length ≤ B := by
            have h2 : (cameTo xs pl).2 = some x := by
              show (goOn xs (wtL pl.todo) pl).2 = some x
              rw [hgo]
            have h1 : (cameTo xs pl).1 = { pl' with todo := r } := by
              show (goOn xs (wtL pl.todo) pl).1 = _
              rw [hgo]
            have := (kids_ok (xs := xs) R.ok h2 0).2
            rw [h1] at this
            exact this
          have okr : PlOk ns B { pl' with todo := r } := by
            have p1 := hok.b1
            have p2 := hok.b2
            rw [htd] at p1 p2
            exact ⟨fun y hy => hpv y (List.mem_cons_of_mem _ hy), show pl'.e1.length + 2 * wtL r ≤ B by omega, show pl'.e2.length + 2 * wtL r ≤ B by omega⟩
          refine els D' H3 gv tb' vw' bk2 cl a ns xs b { pl' with todo := r } B x ps n' (c + 1) _ _ _ ⟨R3.g, R3.t, R3.v, k3, R3.st, R3.sz, okr, R3.hB⟩ du3 ⟨hc, hxv, Nat.le_refl _, hts, hkids, by omega, by omega⟩ (by show chL r + 1 ≤ n; omega) (s13 _ _ e1) (by omega) fun v c' H' fk' ec' c0' hend => ?_
          rw [hD']
          refine q v c' H' (fk1.trans ((Fk.same s13).trans fk')) ec' c0' ?_
          rw [ht]
          have hm' : (m : Int) = (n' : Int) + 1 := by omega
          rcases hend with ⟨g1, g2, g3⟩ | ⟨g1, g2⟩
          · exact .inl ⟨by omega, by omega, g3.keep (fun l us hl hg => hfr l (s13.free hg)) (fun _ _ e => e) (fun _ _ _ e => e)⟩
          · exact .inr ⟨by omega, g2⟩
        cases x with
        | ifs e a1 b1 =>
          obtain ⟨he, ha1, hb1⟩ := hxv
          obtain ⟨a', us', ea1, ea2, dd⟩ := du3.tupI
          cases ea1
          obtain ⟨u0, u1, u2, u3, rfl, d0, d1, d2, d3⟩ := dd.c4
          obtain rfl := d0.strI
          rw [seq (a := (Sm.ifs e a1 b1).kind) (b := "if") rfl]
          refine iteT ?_
          refine ⟨_, rfl, _, rfl, a, _, _, _, rfl, rfl, SqT.of ea2, tix1, _, rfl, u1, tb', e, ns, pl'.st, rfl, d1, he, R3.st, t3, rfl, .inr ⟨_, rfl, _, _, rfl, rfl, ?_⟩⟩
          obtain ⟨a2, us2, rfl, ea3, dA⟩ := d2.tupI
          obtain ⟨a3, us3, rfl, ea4, dB⟩ := d3.tupI
          rw [ds_sl] at dA dB
          have hwi : (Sm.ifs e a1 b1).wt = a1.wt + b1.wt + 1 := rfl
          have w1 := len_wt a1.sl
          have w2 := len_wt b1.sl
          rw [wt_sl] at w1 w2
          have l2 := lenD dA
          have l3 := lenD dB
          rw [List.length_map] at l2 l3
          have hw5 : (Sm.ifs e a1 b1).wt + wtL r ≤ 450 := by
            rw [htd, hwc] at hw
            omega
          have lz : ∀ {n : Nat}, n ≤ 1000 → n ≤ sizeLine := fun h => Nat.le_trans h (by decide)
          by_cases hz : evE pl'.st e = 0
          · have hp : (perf xs { pl' with todo := r } (.ifs e a1 b1)).todo = b1.sl ++ r := by
              show (if evE pl'.st e ≠ 0 then a1.sl else b1.sl) ++ r = _
              rw [if_neg (by rw [hz]; exact fun h => h rfl)]
            rw [decide_eq_true (show V.int (evE pl'.st e) = V.int 0 by rw [hz])]
            refine ⟨a, _, _, _, rfl, rfl, SqT.of ea2, atI_nat (j := 3) rfl, _, rfl, a3, bk2, us3, us, rfl, rfl, ea4, eb3, lz (by omega), fun c4 H4 s4 e4 => ?_⟩
            refine nxt H4 tb' vw' c4 _ _ _ _ rfl s4 (s4 _ _ t3) (R3.v.keep (Tk.same s4)) ⟨_, e4, ?_⟩ R3.st
            rw [hp, List.map_append]
            exact dtApp (dB.keep (Tk.same s4)) (dr3.keep (Tk.same s4))
          · have hp : (perf xs { pl' with todo := r } (.ifs e a1 b1)).todo = a1.sl ++ r := by
              show (if evE pl'.st e ≠ 0 then a1.sl else b1.sl) ++ r = _
              rw [if_pos hz]
            rw [decide_eq_false (show ¬ V.int (evE pl'.st e) = V.int 0 from fun z => hz (V.int.inj z))]
            refine ⟨a, _, _, _, rfl, rfl, SqT.of ea2, atI_nat (j := 2) rfl, _, rfl, a2, bk2, us2, us, rfl, rfl, ea3, eb3, lz (by omega), fun c4 H4 s4 e4 => ?_⟩
            refine nxt H4 tb' vw' c4 _ _ _ _ rfl s4 (s4 _ _ t3) (R3.v.keep (Tk.same s4)) ⟨_, e4, ?_⟩ R3.st
            rw [hp, List.map_append]
            exact dtApp (dA.keep (Tk.same s4)) (dr3.keep (Tk.same s4))
        | set y e =>
          obtain ⟨hy, he⟩ := hxv
          obtain ⟨a', us', ea1, ea2, dd⟩ := du3.tupI
          cases ea1
          obtain ⟨u0, u1, u2, rfl, d0, d1, d2⟩ := dd.c3
          obtain rfl := d0.strI
          obtain rfl := d1.strI
          obtain ⟨z, hz, z1, z2⟩ := R2.sz.pos hy
          have hzs : sizeOf xs y = z := by
            unfold sizeOf
            rw [hz]
            rfl
          have hev := hex he
          have hm0 : 0 ≤ evE pl'.st e % z := Int.emod_nonneg _ (by omega)
          have hm1 : evE pl'.st e % z < z := Int.emod_lt_of_pos _ (by omega)
          rw [sne (a := (Sm.set y e).kind) (b := "if") (show ¬ ("set" : Str) = "if" by decide +kernel)]
          refine iteF ⟨_, rfl, a, _, _, _, rfl, rfl, SqT.of ea2, tix0, rfl, _, rfl, ?_⟩
          rw [seq rfl]
          refine iteT ⟨_, rfl, _, rfl, _, rfl, a, _, _, _, rfl, rfl, SqT.of ea2, tix1, _, rfl, a, _, _, _, rfl, rfl, SqT.of ea2, tix2, _, rfl, u2, tb', e, ns, pl'.st, rfl, d2, he, R3.st, t3, ?_⟩
          refine ⟨gv, tb', y, evE pl'.st e, ns, xs, pl'.st, b, rfl, R3.g, t3, R3.st, R3.sz, hy, hev.1, fun d4 H4 s4 nd4 e4 => ?_⟩
          refine nxt H4 d4 vw' bk2 _ _ _ _ rfl s4 e4 (R3.v.keep (Tk.same s4)) ⟨us, s4 _ _ eb3, dr3.keep (Tk.same s4)⟩ (setS_ok R3.st (show Sml (evE pl'.st e % sizeOf xs y) from by rw [hzs]; exact ⟨hm0, by omega⟩))
        | show_ st e =>
          obtain ⟨hst, he⟩ := hxv
          obtain ⟨a', us', ea1, ea2, dd⟩ := du3.tupI
          cases ea1
          obtain ⟨u0, u1, u2, rfl, d0, d1, d2⟩ := dd.c3
          obtain rfl := d0.strI
          obtain rfl := d1.strI
          rw [sne (a := (Sm.show_ st e).kind) (b := "if") (show ¬ ("show" : Str) = "if" by decide +kernel)]
          refine iteF ⟨_, rfl, a, _, _, _, rfl, rfl, SqT.of ea2, tix0, rfl, _, rfl, ?_⟩
          rw [sne (a := "show") (b := "set") (by decide +kernel)]
          refine iteF ⟨_, rfl, a, _, _, _, rfl, rfl, SqT.of ea2, tix0, rfl, _, rfl, ?_⟩
          rw [seq rfl]
          refine iteT ⟨_, rfl, a, _, _, _, rfl, rfl, SqT.of ea2, tix1, rfl, .inr ⟨_, rfl, ?_⟩⟩
          refine ⟨_, rfl, a, _, _, _, rfl, rfl, SqT.of ea2, tix2, _, rfl, u2, tb', e, ns, pl'.st, rfl, d2, he, R3.st, t3, by show 2 ≤ sizeLine; decide, fun p1 np1 => ?_⟩
          have s5 := same_upd (o := .tup [.str ("shown" : Str), .int (evE pl'.st e)]) np1
          have e5 : upd H3 p1 (.tup [.str ("shown" : Str), .int (evE pl'.st e)]) p1 = some (.tup [.str ("shown" : Str), .int (evE pl'.st e)]) := upd_same
          generalize upd H3 p1 (.tup [.str ("shown" : Str), .int (evE pl'.st e)]) = H5 at *
          have p1' := hok.b1
          have p2' := hok.b2
          have snoc : ∀ (pc : Nat), pc = 0 ∨ pc = 1 → (∀ c H7, Nest H7 (.tup (if pc = 0 then [.tup (pl'.e1 ++ [shownK (evE pl'.st e)]), .tup pl'.e2] else [.tup pl'.e1, .tup (pl'.e2 ++ [shownK (evE pl'.st e)])])) (.ref c) → Nest H7 (.tup [.tup (addE { pl' with todo := r } st (shownK (evE pl'.st e))).e1, .tup (addE { pl' with todo := r } st (shownK (evE pl'.st e))).e2]) (.ref c)) →
              tSnoc K 2 8 (tTup (tCons (tVar 9) tNil)) [some gv, some (.ref tb'), some (.ref vw'), some (.int pl'.paid), some (.ref bk2), some (.ref cl), some (.int (0 + (i : Int))), some (.ref a), some (.int (pc : Int)), some (.ref p1), none, none, none, none] H5 fun v H7 => TI (i + 1) [some gv, some (.ref tb'), some v, some (.int pl'.paid), some (.ref bk2), some (.ref cl), some (.int (0 + (i : Int))), some (.ref a), some (.int (pc : Int)), some (.ref p1), none, none, none, none] H7 := fun pc hpc hcv => by
            refine snoc_read (K := K) (i := 2) (j := 8) rfl rfl hpc (R3.v.keep (Tk.same s5)) (by omega) (by omega) fun Hj R' sj hR => ?_
            refine ⟨_, rfl, by show 1 ≤ sizeLine; decide, fun p2 np2 => ?_⟩
            have s6 := same_upd (o := .tup [.ref p1]) np2
            refine hR p2 (.ref p1) (shownK (evE pl'.st e)) _ s6 upd_same (.tup (s6 _ _ (sj _ _ e5)) (.cons (.text _) (.cons (.num _) .nil))) fun c7 H7 s7 hn7 => ?_
            have s37 := (((s5.trans sj).trans s6).trans s7)
            have had := addE_todo { pl' with todo := r } st (shownK (evE pl'.st e))
            have hpd : (addE { pl' with todo := r } st (shownK (evE pl'.st e))).paid = pl'.paid := by unfold addE; split <;> rfl
            have := nxt H7 tb' c7 bk2 (some (.int (0 + (i : Int)))) (some (.ref a)) (some (.int (pc : Int))) (some (.ref p1)) rfl s37 (by
              show H7 tb' = some (.dK (stK (addE { pl' with todo := r } st (shownK (evE pl'.st e))).st))
              rw [had.2.1]
              exact s37 _ _ t3) (hcv _ _ hn7) ⟨us, s37 _ _ eb3, by
                show DtAll H7 us ((addE { pl' with todo := r } st (shownK (evE pl'.st e))).todo.map Sm.d)
                rw [had.1]
                exact dr3.keep (Tk.same s37)⟩ (by
                show StOk ns (addE { pl' with todo := r } st (shownK (evE pl'.st e))).st
                rw [had.2.1]
                exact R3.st)
            rw [show (perf xs { pl' with todo := r } (.show_ st e)).paid = pl'.paid from hpd] at this
            exact this
          rcases hst with rfl | rfl
          · rw [sne (a := "chooser") (b := "comer") (by decide +kernel)]
            exact snoc 0 (.inl rfl) fun c H7 h => h
          · rw [seq rfl]
            exact snoc 1 (.inr rfl) fun c H7 h => h
        | pay kw e =>
          obtain ⟨hkw, he⟩ := hxv
          obtain ⟨a', us', ea1, ea2, dd⟩ := du3.tupI
          cases ea1
          obtain ⟨u0, u1, rfl, d0, d1⟩ := dd.c2
          obtain rfl := d0.strI
          rcases hkw with rfl | rfl
          · rw [sne (a := (Sm.pay "pay" e).kind) (b := "if") (show ¬ ("pay" : Str) = "if" by decide +kernel)]
            refine iteF ⟨_, rfl, a, _, _, _, rfl, rfl, SqT.of ea2, tix0, rfl, _, rfl, ?_⟩
            rw [sne (a := "pay") (b := "set") (by decide +kernel)]
            refine iteF ⟨_, rfl, a, _, _, _, rfl, rfl, SqT.of ea2, tix0, rfl, _, rfl, ?_⟩
            rw [sne (a := "pay") (b := "show") (by decide +kernel)]
            refine iteF ⟨_, rfl, a, _, _, _, rfl, rfl, SqT.of ea2, tix0, rfl, _, rfl, ?_⟩
            rw [seq rfl]
            refine iteT ⟨_, rfl, _, rfl, a, _, _, _, rfl, rfl, SqT.of ea2, tix1, _, rfl, u1, tb', e, ns, pl'.st, rfl, d1, he, R3.st, t3, _, _, rfl, rfl, ?_⟩
            exact nxt H3 tb' vw' bk2 _ _ _ _ rfl (fun _ _ e => e) t3 R3.v k3 R3.st
          · rw [sne (a := (Sm.pay "take" e).kind) (b := "if") (show ¬ ("take" : Str) = "if" by decide +kernel)]
            refine iteF ⟨_, rfl, a, _, _, _, rfl, rfl, SqT.of ea2, tix0, rfl, _, rfl, ?_⟩
            rw [sne (a := "take") (b := "set") (by decide +kernel)]
            refine iteF ⟨_, rfl, a, _, _, _, rfl, rfl, SqT.of ea2, tix0, rfl, _, rfl, ?_⟩
            rw [sne (a := "take") (b := "show") (by decide +kernel)]
            refine iteF ⟨_, rfl, a, _, _, _, rfl, rfl, SqT.of ea2, tix0, rfl, _, rfl, ?_⟩
            rw [sne (a := "take") (b := "pay") (by decide +kernel)]
            refine iteF ⟨_, rfl, a, _, _, _, rfl, rfl, SqT.of ea2, tix0, rfl, _, rfl, ?_⟩
            rw [seq rfl]
            refine iteT ⟨_, rfl, _, rfl, a, _, _, _, rfl, rfl, SqT.of ea2, tix1, _, rfl, u1, tb', e, ns, pl'.st, rfl, d1, he, R3.st, t3, _, _, rfl, rfl, ?_⟩
            exact nxt H3 tb' vw' bk2 _ _ _ _ rfl (fun _ _ e => e) t3 R3.v k3 R3.st
        | draw y rs =>
          rw [sne (a := (Sm.draw y rs).kind) (b := "if") (show ¬ ("draw" : Str) = "if" by decide +kernel)]
          refine iteF ⟨_, rfl, a, _, _, _, rfl, rfl, SqT.of ea, tix0, rfl, _, rfl, ?_⟩
          rw [sne (a := (Sm.draw y rs).kind) (b := "set") (show ¬ ("draw" : Str) = "set" by decide +kernel)]
          refine iteF ⟨_, rfl, a, _, _, _, rfl, rfl, SqT.of ea, tix0, rfl, _, rfl, ?_⟩
          rw [sne (a := (Sm.draw y rs).kind) (b := "show") (show ¬ ("draw" : Str) = "show" by decide +kernel)]
          refine iteF ⟨_, rfl, a, _, _, _, rfl, rfl, SqT.of ea, tix0, rfl, _, rfl, ?_⟩
          rw [sne (a := (Sm.draw y rs).kind) (b := "pay") (show ¬ ("draw" : Str) = "pay" by decide +kernel)]
          refine iteF ⟨_, rfl, a, _, _, _, rfl, rfl, SqT.of ea, tix0, rfl, _, rfl, ?_⟩
          rw [sne (a := (Sm.draw y rs).kind) (b := "take") (show ¬ ("draw" : Str) = "take" by decide +kernel)]
          exact iteF (chn rfl (show ¬ ("draw" : Str) = "if" by decide +kernel) (show ¬ ("draw" : Str) = "set" by decide +kernel) (show ¬ ("draw" : Str) = "show" by decide +kernel) (show ¬ ("draw" : Str) = "pay" by decide +kernel) (show ¬ ("draw" : Str) = "take" by decide +kernel) _ rfl)
        | move kw y rs mv =>
          have hk5 : ¬ kw = ("if" : Str) ∧ ¬ kw = ("set" : Str) ∧ ¬ kw = ("show" : Str) ∧ ¬ kw = ("pay" : Str) ∧ ¬ kw = ("take" : Str) := by
            rcases hxv.1 with rfl | rfl <;> decide +kernel
          rw [sne (a := (Sm.move kw y rs mv).kind) (b := "if") hk5.1]
          refine iteF ⟨_, rfl, a, _, _, _, rfl, rfl, SqT.of ea, tix0, rfl, _, rfl, ?_⟩
          rw [sne (a := (Sm.move kw y rs mv).kind) (b := "set") hk5.2.1]
          refine iteF ⟨_, rfl, a, _, _, _, rfl, rfl, SqT.of ea, tix0, rfl, _, rfl, ?_⟩
          rw [sne (a := (Sm.move kw y rs mv).kind) (b := "show") hk5.2.2.1]
          refine iteF ⟨_, rfl, a, _, _, _, rfl, rfl, SqT.of ea, tix0, rfl, _, rfl, ?_⟩
          rw [sne (a := (Sm.move kw y rs mv).kind) (b := "pay") hk5.2.2.2.1]
          refine iteF ⟨_, rfl, a, _, _, _, rfl, rfl, SqT.of ea, tix0, rfl, _, rfl, ?_⟩
          rw [sne (a := (Sm.move kw y rs mv).kind) (b := "take") hk5.2.2.2.2]
          exact iteF (chn rfl hk5.1 hk5.2.1 hk5.2.2.1 hk5.2.2.2.1 hk5.2.2.2.2 _ rfl)
    · rintro σ H2 ⟨tb', vw', blk', pl', v6, v7, v8, v9, kf, rfl, R2, s2, hw, hkf, hgo, hch⟩
      have : (3000 : Int).toNat = 3000 := rfl
      omega
end
end K1

set_option Elab.async false
set_option linter.all false
set_option maxRecDepth 100000
set_option maxHeartbeats 4000000
/-! _law_tree. -/
namespace K1
open PySem PySem.Spec PyProof.Rows L2 Kx Kd Kt Kh
abbrev sLT : Stmt := top 47
theorem keys_at {xs : List (Str × Int)} (hnd : (xs.map (·.1)).Nodup) {i : Nat} (hi : i < xs.length) : xs[i].1 ∉ (zeros (xs.take i)).map (·.1) := by
  rw [zeros_keys, List.map_take]
  intro hm
  have e2 : (xs.map (·.1))[i]'(by rw [List.length_map]; exact hi) = xs[i].1 := by rw [List.getElem_map]
  have := List.drop_eq_getElem_cons (show i < (xs.map (·.1)).length by rw [List.length_map]; exact hi)
  have hap := List.take_append_drop i (xs.map (·.1))
  rw [← hap, this, e2] at hnd
  exact (List.nodup_append.mp hnd).2.2 _ hm _ (List.mem_cons_self ..) rfl
theorem zeros_ok {xs : List (Str × Int)} : StOk (xs.map (·.1)) (zeros xs) := ⟨zeros_keys xs, fun p hp => by
  unfold zeros at hp
  obtain ⟨q, _, rfl⟩ := List.mem_map.mp hp
  exact ⟨Int.le_refl _, by show (0 : Int) ≤ 65535; decide⟩⟩
def spLT : Sp := fun vs H Q _ => ∃ (gv : V) (xs : List (Str × Int)) (b : Bk) (B : Nat) (t : Tr) (m : Nat), vs = [gv] ∧ Dt H gv (gameD xs b) ∧ (xs.map (·.1)).Nodup ∧ SzOk (xs.map (·.1)) xs ∧ PlOk (xs.map (·.1)) B (pl0 xs b) ∧ B ≤ 900 ∧ b.chs ≤ 8 ∧ TrOf xs (pl0 xs b) t m ∧
  ∀ (v : V) H', Same H H' → ((m ≤ 400 ∧ DueAt H' v t) ∨ (400 < m ∧ v = .non)) → Q v H'
abbrev NLt : List Str := ["game", "table", "name", "size", "count", "tree"]
section
variable {P : Program} {w : World} {K : PySem.W.Frag} {mg : Str → Option Value} {base : Heap} {fS fU fD : Addr} {dS dU dD : FuncData}
theorem ok_nd0 {f : Addr} {fd : FuncData} (F : Fun K "_law_node" "_law_node" sNd f fd) (T : TxL mg) (NU : Fn0 P w K mg base 6 "_law_number_of" ["due", "table"] (spVo 5) fU dU) (S1 : Fn0 P w K mg base 1 "_law_stored" ["game", "table", "name", "value"] spLS fS dS) : FnOk P w K mg base CX0 7 f fd PNd (spNd 0) :=
  nd_main (by decide) F T NU S1 fun _ => nd_else0
theorem ok_ndS {k n : Nat} (hk : 6 ≤ k) {f : Addr} {fd : FuncData} (F : Fun K "_law_node" "_law_node" sNd f fd) (T : TxL mg) (NU : Fn0 P w K mg base 6 "_law_number_of" ["due", "table"] (spVo 5) fU dU) (S1 : Fn0 P w K mg base 1 "_law_stored" ["game", "table", "name", "value"] spLS fS dS) (G : Fn0 P w K mg base k "_law_node" PNd (spNd n) f fd) : FnOk P w K mg base CX0 (k + 1) f fd PNd (spNd (n + 1)) :=
  nd_main hk F T NU S1 fun hr => nd_elseS (by omega) T S1 G hr
theorem scLT : FnScope NLt ["game"] (defScope sLT) := ⟨rfl, rfl, rfl, by decide +kernel, rfl, by decide +kernel, by decide +kernel⟩
theorem ok_lt {k : Nat} {f : Addr} {fd : FuncData} (F : Fun K "_law_tree" "_law_tree" sLT f fd) (N1 : Fn0 P w K mg base k "_law_node" PNd (spNd 8) fD dD) : FnOk P w K mg base CX0 (k + 1) f fd ["game"] spLT := by
  refine F.ok scLT (fun vs H Q E h => ?_) (fun cdv A outer s H vs Q E hr h => ?_)
  · obtain ⟨gv, xs, b, B, t, m, rfl, _⟩ := h
    rfl
  · obtain ⟨gv, xs, b, B, t, m, rfl, hg, hnd, hsz, hpo, hB, hch, htr, q⟩ := h
    have hu1 : (A.deeper (envOfC "_law_tree" (defScope sLT) s.heap.objs.size f cdv)).units + 1 < cLine := by have := hr.un; omega
    refine ⟨_, pss_cons (ps_set (i := 1) scLT.nd rfl (Or.inl rfl) pe_dnewK)
      (pss_cons (ps_for PassesOwn.never rfl (pi_tup (pe_ix ix_tup (pv 0) pe_int (fun _ _ => rfl))) (pg_tup (by rfl) (pgs_cons (pg_name (i := 2) scLT.nd rfl (Or.inl rfl)) (pgs_cons (pg_name (i := 3) scLT.nd rfl (Or.inl rfl)) pgs_nil)))
        (pss_one (ps_dput hu1 (pv 1) (pv 2) pe_int rfl)))
      (pss_cons (ps_set (i := 4) scLT.nd rfl (Or.inl rfl) (pe_lst (pa_cons pe_int pa_nil)))
      (pss_cons (ps_set (i := 5) scLT.nd rfl (Or.inl rfl) (pe_call N1.ok hr (by rfl) N1.gl N1.kp N1.bd .nil pass0 (pa_cons (pv 0) (pa_cons (pv 1) (pa_cons (pe_tup (pa_cons (pe_tup pa_nil) (pa_cons (pe_tup pa_nil) pa_nil))) (pa_cons pe_int (pa_cons (pe_ix ix_tup (pv 0) pe_int (fun _ _ => rfl)) (pa_cons (pv 4) pa_nil))))))))
      (pss_cons (ps_if (pt_cmpR op_gt (pe_ix ix_list (pv 4) pe_int (fun _ _ => rfl)) pe_int (nomark _)) (pss_one (ps_ret pe_non)) pss_nil)
      (pss_one (ps_ret (pv 5))))))), ?_⟩
    obtain ⟨g, gs, rfl, eg, dg⟩ := hg.tupI
    obtain ⟨v1, v2, rfl, d1, d2⟩ := dg.c2
    obtain ⟨a1, us1, rfl, ea1, dv⟩ := d1.tupI
    obtain ⟨ps, rfl, _, hps⟩ := vars_pairs (K := K) dv
    have hpl : ps.length = xs.length := by
      have := lenD dv
      unfold varsD at this
      rw [List.length_map, List.length_map] at this
      exact this
    have hx5 : xs.length ≤ 5 := by
      have := hsz.few
      rw [List.length_map] at this
      exact this
    intro D hD
    have s0 := same_upd (o := .dK []) hD
    refine ⟨_, rfl, g, _, _, _, rfl, rfl, SqT.of (s0 _ _ eg), tix0, a1, rfl, ⟨ps.map V.ref, SqT.of (s0 _ _ ea1)⟩, for_tup (xs := ps.map V.ref) (fun i σ H' => (∃ v2 v3, σ = [some (.ref g), some (.ref D), v2, v3, none, none]) ∧ Same H H' ∧ H' D = some (.dK (stK (zeros (xs.take i))))) ⟨⟨_, _, rfl⟩, s0, upd_same⟩ (fun i σ H' _ h => SqT.of (h.2.1 _ _ ea1)) ?_ ?_⟩
    · rintro i y σ H1 hy ⟨⟨v2, v3, rfl⟩, s1, eD⟩
      obtain ⟨p, hp, rfl⟩ := Option.map_eq_some_iff.mp ((List.getElem?_map ..).symm.trans hy)
      have hi : i < xs.length := by
        have := (List.getElem?_eq_some_iff.mp hp).1
        omega
      have ep := s1 _ _ (hps i p _ hp (List.getElem?_eq_getElem hi))
      have hl : (stK (zeros (xs.take i))).length < sizeLine := by
        unfold stK zeros
        rw [List.length_map, List.length_map, List.length_take]
        exact Nat.lt_of_le_of_lt (show min i xs.length ≤ 100 by omega) (by decide)
      have pu := DPut.k (k := Sum.inr xs[i].1) (v := .int 0) eD hl
      rw [stK_new 0 (keys_at hnd hi)] at pu
      refine ⟨p, _, rfl, SqT.of ep, rfl, _, _, rfl, _, _, rfl, rfl, _, rfl, _, rfl, D, _, rfl, pu, ⟨_, _, rfl⟩, fun b o z => ?_, ?_⟩
      · rw [upd_ne (ne_of_none z hD)]
        exact s1 _ _ z
      · rw [upd_same, List.take_succ_eq_append_getElem hi]
        unfold zeros
        rw [List.map_append]
        rfl
    · rintro σ H1 ⟨⟨v2, v3, rfl⟩, s1, eD⟩
      rw [List.length_map, hpl, List.take_length] at eD
      refine ⟨by show 1 ≤ sizeLine; decide, fun C hC => ?_⟩
      have s2 := same_upd (o := .lst [.int 0]) hC
      have eC : upd H1 C (.lst [.int 0]) C = some (.lst [.int 0]) := upd_same
      generalize upd H1 C (.lst [.int 0]) = H2 at *
      refine ⟨_, rfl, _, rfl, by show 0 ≤ sizeLine; decide, fun p1 np1 => ⟨by show 0 ≤ sizeLine; decide, fun p2 np2 => ⟨by show 2 ≤ sizeLine; decide, fun p3 np3 => ?_⟩⟩⟩
      have s3 := same_upd (o := .tup []) np1
      have e3 : upd H2 p1 (.tup []) p1 = some (.tup []) := upd_same
      generalize upd H2 p1 (.tup []) = H3 at *
      have s4 := same_upd (o := .tup []) np2
      have e4 : upd H3 p2 (.tup []) p2 = some (.tup []) := upd_same
      generalize upd H3 p2 (.tup []) = H4 at *
      have s5 := same_upd (o := .tup [.ref p1, .ref p2]) np3
      have e5 : upd H4 p3 (.tup [.ref p1, .ref p2]) p3 = some (.tup [.ref p1, .ref p2]) := upd_same
      generalize upd H4 p3 (.tup [.ref p1, .ref p2]) = H5 at *
      have s25 := (s3.trans s4).trans s5
      have s15 := (s1.trans s2).trans s25
      obtain ⟨a2, us2, rfl, ea2, db⟩ := d2.tupI
      refine ⟨_, rfl, g, _, _, _, rfl, rfl, SqT.of (s15 _ _ eg), tix1, _, rfl, ?_⟩
      refine ⟨.ref g, D, p3, a2, C, 0, xs.map (·.1), xs, b, pl0 xs b, B, t, m, rfl, ⟨(Dt.tup eg dg).keep (Tk.same s15), s25 _ _ (s2 _ _ eD), .tup e5 (.cons (.tup ((s4.trans s5) _ _ e3) .nil) (.cons (.tup (s5 _ _ e4) .nil) .nil)), ⟨us2, s15 _ _ ea2, ?_⟩, zeros_ok, hsz, hpo, hB⟩, s25 _ _ eC, Int.le_refl _, htr, ?_, fun v c' H' fk ec' c0' hend => ?_⟩
      · show DtAll H5 us2 (b.sl.map Sm.d)
        rw [← ds_sl]
        exact db.keep (Tk.same s15)
      · show chL b.sl ≤ 8
        rw [chL_sl]
        exact hch
      · have hC1 : H C = none := s1.free hC
        have s16 : Same H H' := fun b o e => fk _ _ (s15 _ _ e) (ne_of_none e hC1)
        refine ⟨_, rfl, C, _, _, _, rfl, rfl, SqL.of ec', tix0, _, _, rfl, rfl, _, rfl, ?_⟩
        rcases hend with ⟨h1, h2, h3⟩ | ⟨h1, h2⟩
        · refine ite2 (fun y => ?_) (fun y => ?_)
          · have y := of_decide_eq_true y
            exact absurd y (by omega)
          · exact ⟨_, rfl, q v H' s16 (.inl ⟨by omega, h3.due⟩)⟩
        · refine ite2 (fun y => ?_) (fun y => ?_)
          · exact q .non H' s16 (.inr ⟨by omega, rfl⟩)
          · exact absurd (decide_eq_true h2) y
end
end K1

set_option Elab.async false
set_option linter.all false
set_option maxRecDepth 100000
set_option maxHeartbeats 4000000
/-! What a drawn game is: its depth, its plays. -/
namespace K1
open PySem PySem.Spec PyProof.Rows L2 Kx Kd Kt Kh
theorem Dep.up {m n : Nat} {d : PyData} (h : Dep m d) (hmn : m ≤ n) : Dep n d := by
  induction h generalizing n with
  | int m i => exact .int n i
  | str m x h => exact .str n x h
  | tup m ds hl h ih =>
    obtain ⟨n, rfl⟩ : ∃ k, n = k + 1 := ⟨n - 1, by omega⟩
    exact .tup n ds hl fun d hd => ih d hd (by omega)
theorem ops_lay : ∀ o ∈ OPS, (PyData.str o).canLay0 = true := by decide +kernel
theorem ex_dep {ns : List Str} (hn : ∀ x ∈ ns, LowS x) : ∀ {e : Ex} {d : Nat}, e.vl ns d → Dep (d + 1) e.d
  | .num n, d, h => .tup _ _ (by show 2 ≤ 200000; decide) fun x hx => by
    simp only [List.mem_cons, List.not_mem_nil, or_false] at hx
    rcases hx with rfl | rfl
    · exact .str _ _ (by decide +kernel)
    · exact .int _ _
  | .var x, d, h => .tup _ _ (by show 2 ≤ 200000; decide) fun y hy => by
    simp only [List.mem_cons, List.not_mem_nil, or_false] at hy
    rcases hy with rfl | rfl
    · exact .str _ _ (by decide +kernel)
    · exact .str _ _ (hn x h).lay
  | .op o a b, d, h => by
    obtain ⟨ho, e, rfl, ha, hb⟩ := h
    refine .tup _ _ (by show 3 ≤ 200000; decide) fun y hy => ?_
    simp only [List.mem_cons, List.not_mem_nil, or_false] at hy
    rcases hy with rfl | rfl | rfl
    · exact .str _ _ (ops_lay o (List.contains_iff_mem.mp ho))
    · exact ex_dep hn ha
    · exact ex_dep hn hb
theorem kw_lay : ∀ o ∈ [("draw" : Str), "set", "show", "if", "choose", "come", "pay", "take", "chooser", "comer"], (PyData.str o).canLay0 = true := by decide +kernel
theorem ds_cnt : ∀ b : Bk, b.ds.length ≤ b.cnt
  | .nil => Nat.le_refl _
  | .cons s b => by
    show b.ds.length + 1 ≤ s.cnt + b.cnt
    have := ds_cnt b
    have : 1 ≤ s.cnt := by
      cases s with
      | ifs e a b => show 1 ≤ 1 + a.cnt + b.cnt; omega
      | _ => exact Nat.le_refl _
    omega
mutual
theorem sm_dep {ns : List Str} (hn : ∀ x ∈ ns, LowS x) : ∀ (x : Sm) (r mv : Nat), x.vl ns r mv → x.cnt ≤ 1000 → Dep (8 + 2 * r) x.d
  | .draw y n, r, mv, h, _ => by
    rw [show 8 + 2 * r = (7 + 2 * r) + 1 by omega]
    refine .tup _ _ (by show 3 ≤ 200000; decide) fun z hz => ?_
    simp only [List.mem_cons, List.not_mem_nil, or_false] at hz
    rcases hz with rfl | rfl | rfl
    · exact .str _ _ (by decide +kernel)
    · exact .str _ _ (hn y h.1).lay
    · exact .int _ _
  | .move k y n m, r, mv, h, _ => by
    rw [show 8 + 2 * r = (7 + 2 * r) + 1 by omega]
    refine .tup _ _ (by show 4 ≤ 200000; decide) fun z hz => ?_
    simp only [List.mem_cons, List.not_mem_nil, or_false] at hz
    rcases hz with rfl | rfl | rfl | rfl
    · rcases h.1 with rfl | rfl
      · exact .str _ _ (by decide +kernel)
      · exact .str _ _ (by decide +kernel)
    · exact .str _ _ (hn y h.2.1).lay
    · exact .int _ _
    · exact .int _ _
  | .set y e, r, mv, h, _ => by
    rw [show 8 + 2 * r = (7 + 2 * r) + 1 by omega]
    refine .tup _ _ (by show 3 ≤ 200000; decide) fun z hz => ?_
    simp only [List.mem_cons, List.not_mem_nil, or_false] at hz
    rcases hz with rfl | rfl | rfl
    · exact .str _ _ (by decide +kernel)
    · exact .str _ _ (hn y h.1).lay
    · exact (ex_dep hn h.2).up (by omega)
  | .show_ s e, r, mv, h, _ => by
    rw [show 8 + 2 * r = (7 + 2 * r) + 1 by omega]
    refine .tup _ _ (by show 3 ≤ 200000; decide) fun z hz => ?_
    simp only [List.mem_cons, List.not_mem_nil, or_false] at hz
    rcases hz with rfl | rfl | rfl
    · exact .str _ _ (by decide +kernel)
    · have hs := List.contains_iff_mem.mp h.1
      exact .str _ _ ((show ∀ o ∈ SEATS, (PyData.str o).canLay0 = true by decide +kernel) s hs)
    · exact (ex_dep hn h.2).up (by omega)
  | .pay k e, r, mv, h, _ => by
    rw [show 8 + 2 * r = (7 + 2 * r) + 1 by omega]
    refine .tup _ _ (by show 2 ≤ 200000; decide) fun z hz => ?_
    simp only [List.mem_cons, List.not_mem_nil, or_false] at hz
    rcases hz with rfl | rfl
    · rcases h.1 with rfl | rfl
      · exact .str _ _ (by decide +kernel)
      · exact .str _ _ (by decide +kernel)
    · exact (ex_dep hn h.2).up (by omega)
  | .ifs e a b, r, mv, h, hc => by
    obtain ⟨he, q, rfl, ha, hb⟩ := h
    have hc : 1 + a.cnt + b.cnt ≤ 1000 := hc
    rw [show 8 + 2 * (q + 1) = (8 + 2 * q + 1) + 1 by omega]
    refine .tup _ _ (by show 4 ≤ 200000; decide) fun z hz => ?_
    simp only [List.mem_cons, List.not_mem_nil, or_false] at hz
    rcases hz with rfl | rfl | rfl | rfl
    · exact .str _ _ (by decide +kernel)
    · exact (ex_dep hn he).up (by omega)
    · exact .tup _ _ (by have := ds_cnt a; omega) (bk_dep hn a q mv ha (by omega))
    · exact .tup _ _ (by have := ds_cnt b; omega) (bk_dep hn b q _ hb (by omega))
theorem bk_dep {ns : List Str} (hn : ∀ x ∈ ns, LowS x) : ∀ (b : Bk) (r mv : Nat), b.vl ns r mv → b.cnt ≤ 1000 → ∀ d ∈ b.ds, Dep (8 + 2 * r) d
  | .nil, r, mv, h, _, d, hd => nomatch hd
  | .cons s b, r, mv, h, hc, d, hd => by
    have hc : s.cnt + b.cnt ≤ 1000 := hc
    rcases List.mem_cons.mp hd with rfl | hd
    · exact sm_dep hn s r mv h.1 (by omega)
    · exact bk_dep hn b r _ h.2 (by omega) d hd
end
mutual
theorem sm_pv {ns : List Str} : ∀ (x : Sm) (r mv : Nat), x.vl ns r mv → mv + x.mvs ≤ 100 → x.pv ns
  | .draw y n, r, mv, h, _ => h
  | .move k y n m, r, mv, h, hm => ⟨h.1, h.2.1, h.2.2.1, h.2.2.2.1, by rw [h.2.2.2.2]; omega, by
    rw [h.2.2.2.2]
    have hm : mv + 1 ≤ 100 := hm
    omega⟩
  | .set y e, r, mv, h, _ => h
  | .show_ s e, r, mv, h, _ => ⟨by
    have hs := List.contains_iff_mem.mp h.1
    have : s ∈ [("chooser" : Str), "comer"] := hs
    simp only [List.mem_cons, List.not_mem_nil, or_false] at this
    exact this, h.2⟩
  | .pay k e, r, mv, h, _ => h
  | .ifs e a b, r, mv, h, hm => by
    obtain ⟨he, q, rfl, ha, hb⟩ := h
    have hm : mv + (a.mvs + b.mvs) ≤ 100 := hm
    exact ⟨he, bk_pv a q mv ha (by omega), bk_pv b q _ hb (by omega)⟩
theorem bk_pv {ns : List Str} : ∀ (b : Bk) (r mv : Nat), b.vl ns r mv → mv + b.mvs ≤ 100 → b.pv ns
  | .nil, r, mv, h, _ => trivial
  | .cons s b, r, mv, h, hm => by
    have hm : mv + (s.mvs + b.mvs) ≤ 100 := hm
    exact ⟨sm_pv s r mv h.1 (by omega), bk_pv b r _ h.2 (by omega)⟩
end
mutual
theorem sm_mc : ∀ x : Sm, x.mvs ≤ x.chs ∧ x.wt = x.cnt
  | .draw _ _ => ⟨Nat.zero_le _, rfl⟩
  | .move _ _ _ _ => ⟨Nat.le_refl _, rfl⟩
  | .set _ _ => ⟨Nat.le_refl _, rfl⟩
  | .show_ _ _ => ⟨Nat.le_refl _, rfl⟩
  | .pay _ _ => ⟨Nat.le_refl _, rfl⟩
  | .ifs e a b => by
    obtain ⟨a1, a2⟩ := bk_mc a
    obtain ⟨b1, b2⟩ := bk_mc b
    exact ⟨Nat.add_le_add a1 b1, by show a.wt + b.wt + 1 = 1 + a.cnt + b.cnt; omega⟩
theorem bk_mc : ∀ b : Bk, b.mvs ≤ b.chs ∧ b.wt = b.cnt
  | .nil => ⟨Nat.le_refl _, rfl⟩
  | .cons s b => by
    obtain ⟨a1, a2⟩ := sm_mc s
    obtain ⟨b1, b2⟩ := bk_mc b
    exact ⟨Nat.add_le_add a1 b1, by show s.wt + b.wt = s.cnt + b.cnt; omega⟩
end
theorem vars_dep {xs : List (Str × Int)} (hn : ∀ x ∈ xs.map (·.1), LowS x) : ∀ d ∈ varsD xs, Dep 1 d := fun d hd => by
  unfold varsD at hd
  obtain ⟨p, hp, rfl⟩ := List.mem_map.mp hd
  refine .tup _ _ (by show 2 ≤ 200000; decide) fun z hz => ?_
  simp only [List.mem_cons, List.not_mem_nil, or_false] at hz
  rcases hz with rfl | rfl
  · exact .str _ _ (hn _ (List.mem_map.mpr ⟨p, hp, rfl⟩)).lay
  · exact .int _ _
section
variable {xs : List (Str × Int)} {b : Bk}
theorem GmK.szOk (G : GmK xs b) : SzOk (xs.map (·.1)) xs := ⟨rfl, G.sz, by rw [List.length_map]; have := G.n3; omega⟩
theorem GmK.plOk (G : GmK xs b) : PlOk (xs.map (·.1)) 30 (pl0 xs b) := by
  have h1 := bk_mc b
  have hw : wtL b.sl ≤ 14 := by
    rw [wt_sl, h1.2]
    exact G.cnt
  refine ⟨?_, ?_, ?_⟩
  · have := bk_pv b 4 0 G.vl (by have := G.chs; omega)
    exact pv_sl this
  · show 0 + 2 * wtL b.sl ≤ 30
    omega
  · show 0 + 2 * wtL b.sl ≤ 30
    omega
theorem GmK.evOk (G : GmK xs b) : EvOk (pl0 xs b) := ⟨(fun k hk => nomatch hk), fun k hk => nomatch hk⟩
theorem GmK.dep (G : GmK xs b) : (∀ d ∈ varsD xs, Dep 16 d) ∧ ∀ d ∈ b.ds, Dep 16 d :=
  ⟨fun d hd => (vars_dep G.nm d hd).up (by decide), bk_dep G.nm b 4 0 G.vl (by have := G.cnt; omega)⟩
theorem GmK.len (G : GmK xs b) : (varsD xs).length ≤ 200000 ∧ b.ds.length ≤ 14 := by
  refine ⟨?_, ?_⟩
  · unfold varsD
    rw [List.length_map]
    have := G.n3
    omega
  · have h1 := ds_cnt b
    have h2 := G.cnt
    omega
/-- each drawn game has its tree -/
theorem GmK.tree (G : GmK xs b) : ∃ t m, TrOf xs (pl0 xs b) t m ∧ t.dp ≤ 8 ∧ t.all.length = m ∧ ∀ x ∈ t.all, x.okv := by
  obtain ⟨t, m, h⟩ := tr_ex (xs := xs) (wtL b.sl + 1) G.plOk (Nat.lt_succ_self _)
  refine ⟨t, m, h, ?_, h.all_len, h.okv (by decide) G.plOk G.evOk⟩
  have := h.dp
  have hc : chL (pl0 xs b).todo = b.chs := chL_sl b
  have := G.chs
  omega
end
end K1

set_option Elab.async false
set_option linter.all false
set_option maxRecDepth 100000
set_option maxHeartbeats 4000000
/-! _law_same in an except suite; what is the same. -/
namespace K1
open PySem PySem.Spec PyProof.Rows L2 Kx Kd Kt Kh
section
variable {P : Program} {w : World} {K : PySem.W.Frag} {mg : Str → Option Value} {base : Heap}
theorem ok_sameH {f : Addr} {fd : FuncData} (F : Fun K "_law_same" "_law_same" sSame f fd) (T : TxL mg) : FnW P w K mg base CX0 1 f fd ["actual", "due"] (spSame 0) := by
  obtain ⟨oc, od, kV, doc, pm, an, cdv, ct, osl, rfl, lk, hcd⟩ := F.ex
  refine fn_ofW lk hcd scSa (fun vs H Q E h => ?_) (fun A outer s H vs Q E p hr h => ?_)
  · obtain ⟨x, y, rfl, _⟩ := h
    rfl
  · obtain ⟨x, y, rfl, hs, q⟩ := h
    refine ⟨_, pss_cons (ps_if (PW.pt (pw_or (pt_val (pe_callB call_isi (by rfl) T.isi (by decide +kernel) (pa_cons (pv 1) (pa_cons (pe_bltn (v := .ty "tuple") (by rfl) T.tuple (by decide +kernel) rfl) pa_nil))))
          (pw_or1 (pt_val (pe_callB call_isi (by rfl) T.isi (by decide +kernel) (pa_cons (pv 1) (pa_cons (pe_bltn (v := .ty "list") (by rfl) T.list (by decide +kernel) rfl) pa_nil)))))))
        (pss_cons ps_never (pss_cons ps_never (pss_cons ps_never (pss_one ps_never)))) pss_nil)
      (pss_cons (ps_if (PW.pt (pw_or (pt_cmpR op_isN (pv 1) pe_non (nomark _)) (pw_or1 (pt_val (pe_callB call_isi (by rfl) T.isi (by decide +kernel) (pa_cons (pv 1) (pa_cons (pe_bltn (v := .ty "bool") (by rfl) T.bool (by decide +kernel) rfl) pa_nil)))))))
        (pss_one (ps_ret (pe_and (pe_cmpR op_eq (pe_cmpR op_isN (pv 0) pe_non (nomark _)) (pe_cmpR op_isN (pv 1) pe_non (nomark _)) (nomark _))
          (pe_and (pe_or (pe_cmpR op_isN (pv 1) pe_non (nomark _)) (pe_one (pe_callB call_isi (by rfl) T.isi (by decide +kernel) (pa_cons (pv 0) (pa_cons (pe_bltn (v := .ty "bool") (by rfl) T.bool (by decide +kernel) rfl) pa_nil)))))
            (pe_one (pe_cmpR op_eq (pv 0) (pv 1) (nomark _))))))) pss_nil)
      (pss_cons (ps_if (pt_val (pe_callB call_isi (by rfl) T.isi (by decide +kernel) (pa_cons (pv 1) (pa_cons (pe_bltn (v := .ty "int") (by rfl) T.int (by decide +kernel) rfl) pa_nil))))
        (pss_one (ps_ret (pe_and (pe_callB call_isi (by rfl) T.isi (by decide +kernel) (pa_cons (pv 0) (pa_cons (pe_bltn (v := .ty "int") (by rfl) T.int (by decide +kernel) rfl) pa_nil)))
          (pe_and (pe_not (pe_callB call_isi (by rfl) T.isi (by decide +kernel) (pa_cons (pv 0) (pa_cons (pe_bltn (v := .ty "bool") (by rfl) T.bool (by decide +kernel) rfl) pa_nil))))
            (pe_one (pe_cmpR op_eq (pv 0) (pv 1) (nomark _))))))) pss_nil)
      (pss_one (ps_ret (pe_and (pe_callB call_isi (by rfl) T.isi (by decide +kernel) (pa_cons (pv 0) (pa_cons (pe_bltn (v := .ty "str") (by rfl) T.str (by decide +kernel) rfl) pa_nil)))
          (pe_one (pe_cmpR op_eq (pv 0) (pv 1) (nomark _)))))))), ?_⟩
    cases hs with
    | flat _ hx =>
      cases hx with
      | int i =>
        refine ⟨_, rfl, _, _, _, _, false, rfl, .ty "tuple", tyI, kit_ty (by decide +kernel), _, rfl, iteF ⟨_, rfl, _, _, _, _, false, rfl, .ty "list", tyI, kit_ty (by decide +kernel), _, rfl, iteF ?_⟩⟩
        refine ⟨_, rfl, rfl, _, rfl, iteF ⟨_, rfl, _, _, _, _, false, rfl, .ty "bool", tyI, kit_ty (by decide +kernel), _, rfl, iteF ?_⟩⟩
        refine ⟨_, rfl, _, _, _, _, true, rfl, .ty "int", tyI, kit_same, _, rfl, iteT ?_⟩
        refine ⟨_, rfl, _, _, _, _, true, rfl, .ty "int", tyI, kit_same, _, rfl, iteT ⟨_, rfl, _, _, _, _, false, rfl, .ty "bool", tyI, kit_ty (by decide +kernel), _, rfl, _, rfl, iteT ⟨_, rfl, _, rfl, rfl, ?_⟩⟩⟩
        rw [decide_eq_true rfl]
        exact q
      | bl b =>
        refine ⟨_, rfl, _, _, _, _, false, rfl, .ty "tuple", tyB, kit_ty (by decide +kernel), _, rfl, iteF ⟨_, rfl, _, _, _, _, false, rfl, .ty "list", tyB, kit_ty (by decide +kernel), _, rfl, iteF ?_⟩⟩
        refine ⟨_, rfl, rfl, _, rfl, iteF ⟨_, rfl, _, _, _, _, true, rfl, .ty "bool", tyB, kit_same, _, rfl, iteT ?_⟩⟩
        refine ⟨_, rfl, rfl, _, rfl, rfl, rfl, _, rfl, iteT ⟨_, rfl, rfl, _, rfl, iteF ⟨_, rfl, _, _, _, _, true, rfl, .ty "bool", tyB, kit_same, _, rfl, iteT ⟨_, rfl, _, rfl, rfl, ?_⟩⟩⟩⟩
        rw [decide_eq_true rfl]
        exact q
      | str z =>
        refine ⟨_, rfl, _, _, _, _, false, rfl, .ty "tuple", tyS, kit_ty (by decide +kernel), _, rfl, iteF ⟨_, rfl, _, _, _, _, false, rfl, .ty "list", tyS, kit_ty (by decide +kernel), _, rfl, iteF ?_⟩⟩
        refine ⟨_, rfl, rfl, _, rfl, iteF ⟨_, rfl, _, _, _, _, false, rfl, .ty "bool", tyS, kit_ty (by decide +kernel), _, rfl, iteF ?_⟩⟩
        refine ⟨_, rfl, _, _, _, _, false, rfl, .ty "int", tyS, kit_ty (by decide +kernel), _, rfl, iteF ?_⟩
        refine ⟨_, rfl, _, _, _, _, true, rfl, .ty "str", tyS, kit_same, _, rfl, iteT ⟨_, rfl, _, rfl, rfl, ?_⟩⟩
        rw [decide_eq_true rfl]
        exact q
end
theorem PairV.tk {H H' : Hp} (t : Tk H H') {u : V} {v : List NestedKey} (h : PairV H u v) : PairV H' u v := by
  obtain ⟨a, va, rfl, e, n⟩ := h
  exact ⟨a, va, rfl, t _ _ e, n.keep t⟩
theorem pairV_at {α β : Type} {R : α → β → Prop} {xs : List α} {ys : List β} (h : Paired R xs ys) : ∀ {i : Nat} {x : α} {y : β}, xs[i]? = some x → ys[i]? = some y → R x y := by
  induction h with
  | nil =>
    intro i x y e
    simp at e
  | cons h r ih =>
    intro i x y e e'
    cases i with
    | zero =>
      cases e
      cases e'
      exact h
    | succ i => exact ih e e'
/-- two lists of views and their numbers of moves -/
theorem Sd.views {H : Hp} {l D : Addr} {us us2 : List V} {acc : List (List NestedKey)} (p1 : Paired (PairV H) us acc) (p2 : Paired (PairV H) us2 acc) (e1 : H l = some (.lst us)) (e2 : H D = some (.lst us2)) (hv : ∀ v ∈ acc, v.length ≤ 1000 ∧ ∀ k ∈ v, evB k) (hl : acc.length ≤ 1000) : Sd H 4 (.ref l) (.ref D) := by
  have l1 := paired_len p1
  have l2 := paired_len p2
  refine .lst 3 e1 e2 (by omega) (by omega) fun i x y hx hy => ?_
  have hi : i < acc.length := by
    have := (List.getElem?_eq_some_iff.mp hx).1
    omega
  have ha := List.getElem?_eq_getElem hi
  obtain ⟨a, va, rfl, ea, na⟩ := pairV_at p1 hx ha
  obtain ⟨b, vb, rfl, eb, nb⟩ := pairV_at p2 hy ha
  obtain ⟨h1, h2⟩ := hv _ (List.getElem_mem hi)
  refine .tup 2 ea eb rfl (by show 2 ≤ 200000; decide) fun j u v hu hv => ?_
  match j, hu, hv with
  | 0, hu, hv =>
    cases hu
    cases hv
    exact Sd.nest 0 h1 h2 na nb
  | 1, hu, hv =>
    cases hu
    cases hv
    exact .flat 2 (.int _)
  | j + 2, hu, hv => cases hu
/-- two lists of numbers -/
theorem Sd.ints {H : Hp} {l D : Addr} {ns : List Int} (e1 : H l = some (.lst (ns.map V.int))) (e2 : H D = some (.lst (ns.map V.int))) (hl : ns.length ≤ 1000) : Sd H 4 (.ref l) (.ref D) := by
  refine .lst 3 e1 e2 rfl (by rw [List.length_map]; omega) fun i x y hx hy => ?_
  rw [hx] at hy
  cases hy
  obtain ⟨z, _, rfl⟩ := Option.map_eq_some_iff.mp ((List.getElem?_map ..).symm.trans hx)
  exact .flat 3 (.int z)
theorem vwF_mem (s : Str) : ∀ (l : List Tr) (acc : List (List NestedKey)) {v : List NestedKey}, v ∈ vwF s acc l → v ∈ acc ∨ ∃ t ∈ l, t.vw s = some v
  | [], acc, v, h => .inl h
  | t :: l, acc, v, h => by
    have h : v ∈ vwF s (addO acc (t.vw s)) l := h
    rcases vwF_mem s l _ h with h | ⟨t', ht, e⟩
    · cases hv : t.vw s with
      | none =>
        rw [hv] at h
        exact .inl h
      | some y =>
        rw [hv] at h
        have h : v ∈ (if y ∈ acc then acc else acc ++ [y]) := h
        split at h
        · exact .inl h
        · rcases List.mem_append.mp h with h | h
          · exact .inl h
          · rw [List.mem_singleton.mp h]
            exact .inr ⟨t, List.mem_cons_self .., hv⟩
    · exact .inr ⟨t', List.mem_cons_of_mem _ ht, e⟩
theorem vwL_ok {s : Str} {l : List Tr} (h : ∀ x ∈ l, x.okv) : ∀ v ∈ vwL s l, v.length ≤ 1000 ∧ ∀ k ∈ v, evB k := fun v hv => by
  rcases vwF_mem s l [] hv with h1 | ⟨t, ht, e⟩
  · cases h1
  · cases t with
    | end_ p => cases e
    | lot ps => cases e
    | move s' v' ps =>
      have e : (if s' = s then some v' else none) = some v := e
      split at e
      · cases e
        obtain ⟨_, _, h3, h4⟩ := h _ ht _ _ _ rfl
        exact ⟨h3, h4⟩
      · cases e
theorem due_ref {H : Hp} {v : V} {t : Tr} (h : DueAt H v t) : ∃ a, v = .ref a := by
  cases h with
  | e h => exact ⟨_, rfl⟩
  | l h hl hp => exact ⟨_, rfl⟩
  | m h hv hl hp => exact ⟨_, rfl⟩
end K1

set_option Elab.async false
set_option linter.all false
set_option maxRecDepth 100000
set_option maxHeartbeats 4000000
/-! The law, behind the trees. -/
namespace K1
open PySem PySem.Spec PyProof.Rows L2 Kx Kd Kt Kh
abbrev sLw : Stmt := top 54
abbrev NLw : List Str := ["script", "pool", "game", "due", "actual", "e", "made", "spoilt", "seat", "views", "tree", "view"]
theorem scLw : FnScope NLw ["script"] (defScope sLw) := ⟨rfl, rfl, rfl, by decide +kernel, rfl, by decide +kernel, by decide +kernel⟩
abbrev lwX (P : Program) (w : World) (K : PySem.W.Frag) (mg : Str → Option Value) (base : Heap) (f : Addr) (cdv : Value) (A : Around) (outer : List Env) (s : Shared) (H : Hp) (E : XK) : Cx := (cxOf CX0 P w K mg base NLw "law" (defScope sLw) f cdv A outer s H E).nox
abbrev DL (Q : VK) : Ends := { nx := fun _ H' => Q .non H', rt := Q }
/-- the defs that the law calls -/
structure LB (P : Program) (w : World) (K : PySem.W.Frag) (mg : Str → Option Value) (base : Heap) (c : Cls3) (fE fV fLk fA fB fW fS : Addr) (dE dV dLk dA dB dW dS : FuncData) : Prop where
  TL : TxL mg
  EO : Fn0 P w K mg base 2 "ends_of" ["tree"] (spEO c) fE dE
  VO : Fn0 P w K mg base 2 "views_of" ["tree", "seat"] (spVO c) fV dV
  LK : Fn0 P w K mg base 14 "_law_like" ["actual", "due"] (spLk c 8) fLk dLk
  LA : Fn0 P w K mg base 9 "_law_all" ["node"] (spLA 8) fA dA
  BH : Fn0 P w K mg base 11 "_law_by_hand" ["due"] (spBH c 8) fB dB
  LV : Fn0 P w K mg base 10 "_law_views" ["node", "seat", "found"] (spLV P w 8) fW dW
  SA : Fn0 P w K mg base 5 "_law_same" ["actual", "due"] (spSame 4) fS dS
structure WS (c : Cls3) (H : Hp) (a am : Addr) (dv : V) (t : Tr) : Prop where
  ta : TrAt c H AnyA a t
  tm : TrAt c H AnyA am t
  du : DueAt H dv t
  dp : t.dp ≤ 8
  len : t.all.length ≤ 400
  okv : ∀ x ∈ t.all, x.okv
theorem WS.same {c : Cls3} {H H' : Hp} {a am : Addr} {dv : V} {t : Tr} (h : WS c H a am dv t) (s : Same H H') : WS c H' a am dv t := ⟨h.ta.same s, h.tm.same s, h.du.same s, h.dp, h.len, h.okv⟩
theorem endsLen {t : Tr} (h : t.all.length ≤ 400) : (endsL t.all).length ≤ 1000 := by
  have := endsL_len t.all
  omega
section
variable {P : Program} {w : World} {K : PySem.W.Frag} {mg : Str → Option Value} {base : Heap} {c : Cls3} {fE fV fLk fA fB fW fS : Addr} {dE dV dLk dA dB dW dS : FuncData}
variable {f : Addr} {cdv : Value} {A : Around} {outer : List Env} {s : Shared} {H : Hp} {E : XK}
theorem tail9 {Q : VK} (B : LB P w K mg base c fE fV fLk fA fB fW fS dE dV dLk dA dB dW dS) (hr : Room 21 (lwX P w K mg base f cdv A outer s H E).A) (q : ∀ H', Q (.bl true) H') :
    ∃ t, PSs (lwX P w K mg base f cdv A outer s H E) ((defBody sLw).drop 9) t ∧ ∀ (H' : Hp) (a am : Addr) (dv : V) (tr : Tr) (v0 v1 v2 v5 v7 v8 v9 v10 v11 : Option V), WS c H' a am dv tr → t (DL Q) [v0, v1, v2, some dv, some (.ref a), v5, some (.ref am), v7, v8, v9, v10, v11] H' := by
  have hr2 : Room 2 _ := hr.mono (by decide)
  have hr5 : Room 5 _ := hr.mono (by decide)
  have hr9 : Room 9 _ := hr.mono (by decide)
  have hr14 : Room 14 _ := hr.mono (by decide)
  refine ⟨_, pss_one (ps_ret (pe_and (pe_call B.LK.ok hr14 (by rfl) B.LK.gl B.LK.kp B.LK.bd .nil pass0 (pa_cons (pv 6) (pa_cons (pv 3) pa_nil)))
    (pe_and (pe_call B.SA.ok hr5 (by rfl) B.SA.gl B.SA.kp B.SA.bd .nil pass0 (pa_cons (pe_call B.EO.ok hr2 (by rfl) B.EO.gl B.EO.kp B.EO.bd .nil pass0 (pa_cons (pv 6) pa_nil)) (pa_cons (pe_call B.LA.ok hr9 (by rfl) B.LA.gl B.LA.kp B.LA.bd .nil pass0 (pa_cons (pv 3) pa_nil)) pa_nil)))
      (pe_one (pe_call B.SA.ok hr5 (by rfl) B.SA.gl B.SA.kp B.SA.bd .nil pass0 (pa_cons (pe_call B.EO.ok hr2 (by rfl) B.EO.gl B.EO.kp B.EO.bd .nil pass0 (pa_cons (pv 4) pa_nil)) (pa_cons (pe_call B.LA.ok hr9 (by rfl) B.LA.gl B.LA.kp B.LA.bd .nil pass0 (pa_cons (pv 3) pa_nil)) pa_nil))))))), ?_⟩
  intro H' a am dv tr v0 v1 v2 v5 v7 v8 v9 v10 v11 W
  refine ⟨_, rfl, _, rfl, am, dv, tr, AnyA, rfl, W.tm, W.du, W.dp, W.okv, W.len, fun H1 s1 => ⟨_, rfl, iteT ?_⟩⟩
  have W1 := W.same s1
  refine ⟨_, rfl, am, tr, AnyA, rfl, W1.tm, W1.len, fun l H2 s2 _ el => ?_⟩
  have W2 := W1.same s2
  refine ⟨_, rfl, dv, tr, rfl, W2.du, W2.dp, W2.len, fun l2 H3 s3 _ el2 => ?_⟩
  refine ⟨_, _, rfl, Sd.ints (s3 _ _ el) el2 (endsLen W.len), _, rfl, iteT ?_⟩
  have W3 := W2.same s3
  refine ⟨_, rfl, a, tr, AnyA, rfl, W3.ta, W3.len, fun l3 H4 s4 _ el3 => ?_⟩
  have W4 := W3.same s4
  refine ⟨_, rfl, dv, tr, rfl, W4.du, W4.dp, W4.len, fun l4 H5 s5 _ el4 => ?_⟩
  exact ⟨_, _, rfl, Sd.ints (s5 _ _ el3) el4 (endsLen W.len), q _⟩
abbrev swFor : List Stmt := forB ((defBody sLw).getD 8 noSt)
/-- for a seat, both trees have the views that are told -/
theorem seat_in {Q : VK} (B : LB P w K mg base c fE fV fLk fA fB fW fS dE dV dLk dA dB dW dS) (hr : Room 21 (lwX P w K mg base f cdv A outer s H E).A) :
    ∃ t, PSs (lwX P w K mg base f cdv A outer s H E) (swFor.drop 3) t ∧ ∀ (D : Ends) (HB H' : Hp) (a am d : Addr) (dv : V) (tr : Tr) (z : Str) (v0 v1 v2 v5 v7 v10 v11 : Option V), WS c HB a am dv tr → Same HB H' → VwD P w H' d (vwL z tr.all) →
      (∀ (σ' : L2.St) (H'' : Hp), (∃ v10 v11, σ' = [v0, v1, v2, some dv, some (.ref a), v5, some (.ref am), v7, some (.str z), some (.ref d), v10, v11]) → Same HB H'' → D.nx σ' H'') →
      t D [v0, v1, v2, some dv, some (.ref a), v5, some (.ref am), v7, some (.str z), some (.ref d), v10, v11] H' := by
  have hr2 : Room 2 _ := hr.mono (by decide)
  have hr5 : Room 5 _ := hr.mono (by decide)
  have hu : (lwX P w K mg base f cdv A outer s H E).A.units + 64 < cLine := by have := hr.un; omega
  refine ⟨_, pss_one (ps_for PassesOwn.never rfl (pi_tup (pe_tup (pa_cons (pv 4) (pa_cons (pv 6) pa_nil)))) (pg_name (i := 10) scLw.nd rfl (Or.inl rfl))
    (pss_one (ps_if (pt_not (pt_val (pe_call B.SA.ok hr5 (by rfl) B.SA.gl B.SA.kp B.SA.bd .nil pass0 (pa_cons (pe_call B.VO.ok hr2 (by rfl) B.VO.gl B.VO.kp B.VO.bd .nil pass0 (pa_cons (pv 10) (pa_cons (pv 8) pa_nil)))
        (pa_cons (pe_lc (own := [("view", 11)]) (g := gName 11) (tt := tYes) (te := tTup (tCons (tVar 11) (tCons (tOp (rIxK P w) (tVar 9) (tVar 11)) tNil))) rfl scLw.nd (pi_kd (pv 9)) (blkOk_by (N := NLw) (sc := defScope sLw) (by decide +kernel))
          (fun _ _ _ _ _ => pg_name (i := 11) scLw.nd rfl (Or.inl rfl)) (fun _ _ _ _ _ => pts_nil) (fun _ _ _ _ _ => pe_tup (pa_cons (pv 11) (pa_cons (pe_ix (ix_K (by exact hu)) (pv 9) (pv 11) (fun _ _ => rfl)) pa_nil)))) pa_nil))))) (pss_one (ps_ret pe_bl)) pss_nil))), ?_⟩
  intro D HB H' a am d dv tr z v0 v1 v2 v5 v7 v10 v11 W s0 hv k
  refine ⟨_, rfl, _, rfl, by show 2 ≤ sizeLine; decide, fun tp htp => ?_⟩
  have s1 := same_upd (o := .tup [.ref a, .ref am]) htp
  refine ⟨tp, rfl, ⟨[.ref a, .ref am], SqT.of upd_same⟩, for_tup (xs := [.ref a, .ref am]) (fun i σ H2 => (∃ v10 v11, σ = [v0, v1, v2, some dv, some (.ref a), v5, some (.ref am), v7, some (.str z), some (.ref d), v10, v11]) ∧ Same (upd H' tp (.tup [.ref a, .ref am])) H2) ⟨⟨_, _, rfl⟩, fun _ _ e => e⟩ (fun i σ H2 _ h => SqT.of (h.2 _ _ upd_same)) ?_ ?_⟩
  · rintro i y σ H2 hy ⟨⟨u10, u11, rfl⟩, s2⟩
    have s02 : Same HB H2 := (s0.trans s1).trans s2
    have W2 := W.same s02
    have hv2 := hv.same (s1.trans s2)
    obtain ⟨x, rfl, hx⟩ : ∃ x, y = .ref x ∧ TrAt c H2 AnyA x tr := by
      match i, hy with
      | 0, hy =>
        cases hy
        exact ⟨a, rfl, W2.ta⟩
      | 1, hy =>
        cases hy
        exact ⟨am, rfl, W2.tm⟩
      | i + 2, hy => cases hy
    refine ⟨_, rfl, _, rfl, x, tr, AnyA, z, rfl, hx, W2.len, W2.okv, fun l us H3 s3 nl el pr => ?_⟩
    obtain ⟨kvs, kd, hk⟩ := hv2.same s3
    have hkl := lenA P w (H := H3) (d := d) hk
    have hal := vwL_len z tr.all
    have hlen := W.len
    refine ⟨_, rfl, d, kvs, rfl, kd, fun es ep ed => fun L hL => ?_⟩
    have sL := same_upd (o := .lst []) hL
    refine lc_kd (fun i H4 => ∃ us2, H4 L = some (.lst us2) ∧ us2.length = i ∧ Same H3 H4 ∧ Paired (PairV H4) us2 ((vwL z tr.all).take i)) ⟨[], upd_same, rfl, sL, .nil⟩ (fun i H4 _ h => h.choose_spec.2.2.1 _ _ ed) ?_ ?_
    · rintro j p H4 hp ⟨us2, eL, hul, s4, pd⟩
      have hj : j < kvs.length := (List.getElem?_eq_some_iff.mp hp).1
      have hja : j < (vwL z tr.all).length := by omega
      have e1 : (p.1, p.2.2) = (NestedKey.tup (vwL z tr.all)[j], V.int (lastN (vwL z tr.all)[j])) := by
        have h1 : (kvs.map fun p => (p.1, p.2.2))[j]? = some (p.1, p.2.2) := by rw [List.getElem?_map, hp]; rfl
        rw [hk, List.getElem?_map, List.getElem?_eq_getElem hja] at h1
        exact (Option.some.inj h1).symm
      have k1 : p.1 = NestedKey.tup (vwL z tr.all)[j] := congrArg Prod.fst e1
      have kd4 := kd.same s4
      obtain ⟨n1, n2⟩ := kd4.key p (List.mem_of_getElem? hp)
      refine ⟨rfl, tYesI ⟨_, rfl, _, rfl, _, rfl, p.2.1, d, p.1, kvs, V.int (lastN (vwL z tr.all)[j]), rfl, rfl, kd4, n1, n2, ?_, by show 2 ≤ sizeLine; decide, fun q1 hq1 => ?_⟩⟩
      · rw [k1, atK_vw hk, if_pos (List.getElem_mem hja)]
      · have s5 := same_upd (o := .tup [.ref p.2.1, V.int (lastN (vwL z tr.all)[j])]) hq1
        have eL5 := s5 _ _ eL
        have tk6 := tk_lst (vs := us2 ++ [V.ref q1]) eL5
        refine ⟨us2, eL5, Nat.lt_of_le_of_lt (show us2.length ≤ 400 by omega) (by decide), us2 ++ [V.ref q1], upd_same, by rw [List.length_append, hul]; rfl, fun b o e => ?_, ?_⟩
        · rw [upd_ne (ne_of_none e hL)]
          exact s5 _ _ (s4 _ _ e)
        · rw [List.take_succ_eq_append_getElem hja]
          refine paired_app (paired_map (fun _ _ h => h.tk ((Tk.same s5).trans tk6)) pd) (.cons ⟨q1, p.2.1, rfl, tk6 _ _ upd_same, ?_⟩ .nil)
          rw [← k1]
          exact n1.keep ((Tk.same s5).trans tk6)
    · rintro H4 ⟨us2, eL, hul, s4, pd⟩
      rw [hkl, List.take_length] at pd
      refine ⟨_, _, rfl, Sd.views (paired_map (fun _ _ h => h.tk (Tk.same s4)) pr) pd (s4 _ _ el) eL (vwL_ok W.okv) (by omega), ?_⟩
      exact ⟨_, rfl, iteF ⟨⟨_, _, rfl⟩, (s2.trans s3).trans s4⟩⟩
  · rintro σ H2 ⟨⟨u10, u11, rfl⟩, s2⟩
    exact k _ H2 ⟨_, _, rfl⟩ ((s0.trans s1).trans s2)
end
end K1

set_option Elab.async false
set_option linter.all false
set_option maxRecDepth 100000
set_option maxHeartbeats 4000000
/-! The law. -/
namespace K1
open PySem PySem.Spec PyProof.Rows L2 Kx Kd Kt Kh
structure TxE (K : PySem.W.Frag) (mg : Str → Option Value) (BP LE c1 c2 c3 c4 c5 c6 : Addr) : Prop where
  EC : ExcC K BP
  nB : PySem.W.findIn K (.ref BP) "what" = some none
  gLE : mg "LossError" = some (.ref LE)
  te : PySem.W.exmOne K (.ref BP) (.ref LE) = some true
  gB : mg "TooLarge" = some (.ref BP)
  g1 : mg "BadPaper" = some (.ref c1)
  g2 : mg "BadPlan" = some (.ref c2)
  g3 : mg "BadRatio" = some (.ref c3)
  g4 : mg "BadText" = some (.ref c4)
  g5 : mg "NoPlan" = some (.ref c5)
  g6 : mg "NoShare" = some (.ref c6)
  k1 : PySem.W.kitOne K (.ref BP) (.ref c1) = some false
  k2 : PySem.W.kitOne K (.ref BP) (.ref c2) = some false
  k3 : PySem.W.kitOne K (.ref BP) (.ref c3) = some false
  k4 : PySem.W.kitOne K (.ref BP) (.ref c4) = some false
  k5 : PySem.W.kitOne K (.ref BP) (.ref c5) = some false
  k6 : PySem.W.kitOne K (.ref BP) (.ref c6) = some false
structure LC (P : Program) (w : World) (K : PySem.W.Frag) (mg : Str → Option Value) (base : Heap) (c : Cls3) (CG BP fT fGi fPo fD fGm fLt fS : Addr) (dT dGi dPo dD dGm dLt dS : FuncData) : Prop where
  TG : TxG K mg CG
  gG : mg "Game" = some (.ref CG)
  TO : FnOk P w K mg base (L2N.CX P w) 10 fT dT ["game"] (spTO c CG BP)
  gT : mg "tree_of" = some (.ref fT)
  kT : PySem.W.keepIn K (.ref fT) = true
  bT : L2.Binds K dT ["game"] []
  MI : Mk K CG fGi
  GI : FnOk P w K mg base CX0 19 fGi dGi ["self", "variables", "block"] (spGZ CG 16)
  bI : Binds K dGi ["self", "variables", "block"] []
  PO : Fn0 P w K mg base 1 "_law_pool" ["script", "budget"] (spPool K) fPo dPo
  D1 : Fn0 P w K mg base 1 "_law_draw" ["pool", "size"] spDraw fD dD
  GM : Fn0 P w K mg base 20 "_law_game" ["pool", "moves", "most"] spGm fGm dGm
  LT : Fn0 P w K mg base 16 "_law_tree" ["game"] spLT fLt dLt
  SH : FnW P w K mg base CX0 1 fS dS ["actual", "due"] (spSame 0)
def spLaw (K : PySem.W.Frag) : Sp := fun vs H Q _ => ∃ (a : Addr) (ns : List Int), vs = [.ref a] ∧ SqL K H a (ns.map V.int) ∧ ∀ H', Q (.bl true) H'
section
variable {P : Program} {w : World} {K : PySem.W.Frag} {mg : Str → Option Value} {base : Heap} {c : Cls3} {CG BP LE c1 c2 c3 c4 c5 c6 fT fGi fPo fD fGm fLt fE fV fLk fA fB fW fS : Addr} {dT dGi dPo dD dGm dLt dE dV dLk dA dB dW dS : FuncData}
variable {f : Addr} {cdv : Value} {A : Around} {outer : List Env} {s : Shared} {H : Hp} {E : XK}
theorem tail8 {Q : VK} (B : LB P w K mg base c fE fV fLk fA fB fW fS dE dV dLk dA dB dW dS) (hr : Room 21 (lwX P w K mg base f cdv A outer s H E).A) (q : ∀ H', Q (.bl true) H') :
    ∃ t, PSs (lwX P w K mg base f cdv A outer s H E) ((defBody sLw).drop 8) t ∧ ∀ (H' : Hp) (a am : Addr) (dv : V) (tr : Tr) (v0 v1 v2 v5 v7 v8 v9 v10 v11 : Option V), WS c H' a am dv tr → t (DL Q) [v0, v1, v2, some dv, some (.ref a), v5, some (.ref am), v7, v8, v9, v10, v11] H' := by
  obtain ⟨t9, ht9, last⟩ := tail9 (E := E) (H := H) (s := s) (outer := outer) (cdv := cdv) (f := f) B hr q
  obtain ⟨ti, hti, inn⟩ := seat_in (Q := Q) (E := E) (H := H) (s := s) (outer := outer) (cdv := cdv) (f := f) B hr
  have hr2 : Room 2 _ := hr.mono (by decide)
  have hr10 : Room 10 _ := hr.mono (by decide)
  refine ⟨_, pss_cons (ps_for PassesOwn.never rfl (pi_tup (pe_tup (pa_cons pe_str (pa_cons pe_str pa_nil)))) (pg_name (i := 8) scLw.nd rfl (Or.inl rfl))
      (pss_cons (ps_set (i := 7) scLw.nd rfl (Or.inl rfl) (pe_call B.VO.ok hr2 (by rfl) B.VO.gl B.VO.kp B.VO.bd .nil pass0 (pa_cons (pv 4) (pa_cons (pv 8) pa_nil))))
      (pss_cons (ps_expr (pe_bm PySem.F.plainAttrs_list PySem.F.slot_list_append PySem.F.type_list_append mt_append (pv 7) (pa_cons pe_int pa_nil)))
      (pss_cons (ps_set (i := 9) scLw.nd rfl (Or.inr rfl) (pe_call B.LV.ok hr10 (by rfl) B.LV.gl B.LV.kp B.LV.bd .nil pass0 (pa_cons (pv 3) (pa_cons (pv 8) (pa_cons pe_dnewX pa_nil)))))
        hti)))) ht9, ?_⟩
  intro H' a am dv tr v0 v1 v2 v5 v7 v8 v9 v10 v11 W
  refine ⟨by show 2 ≤ sizeLine; decide, fun tp htp => ?_⟩
  have s1 := same_upd (o := .tup (SEA.map V.str)) htp
  have W1 := W.same s1
  have e1 : upd H' tp (.tup (SEA.map V.str)) tp = some (.tup (SEA.map V.str)) := upd_same
  refine ⟨tp, rfl, ⟨SEA.map V.str, SqT.of e1⟩, ?_⟩
  refine for_tup (xs := SEA.map V.str) (fun i σ H2 => (∃ v7 v8 v9 v10 v11, σ = [v0, v1, v2, some dv, some (.ref a), v5, some (.ref am), v7, v8, v9, v10, v11]) ∧ Same (upd H' tp (.tup (SEA.map V.str))) H2) ⟨⟨_, _, _, _, _, rfl⟩, fun _ _ e => e⟩ (fun i σ H2 _ h => SqT.of (h.2 _ _ e1)) ?_ ?_
  · rintro i y σ H2 hy ⟨⟨u7, u8, u9, u10, u11, rfl⟩, s2⟩
    rw [List.getElem?_map] at hy
    obtain ⟨z, hz, rfl⟩ := Option.map_eq_some_iff.mp hy
    have W2 := W1.same s2
    refine ⟨_, rfl, _, rfl, a, tr, AnyA, z, rfl, W2.ta, W2.len, W2.okv, fun l us H3 s3 nl el pr => ?_⟩
    have hul : us.length ≤ 400 := by
      rw [paired_len pr]
      have := vwL_len z tr.all
      have := W.len
      omega
    refine ⟨_, rfl, .inl ⟨rfl, _, SqL.of el⟩, l, us, .int 7, rfl, rfl, el, Nat.lt_of_le_of_lt hul (by decide), ?_⟩
    have s4 : Same H2 (upd H3 l (.lst (us ++ [.int 7]))) := same_updN s3 nl
    generalize upd H3 l (.lst (us ++ [.int 7])) = H4 at *
    refine ⟨_, rfl, _, rfl, fun d hd hm => ?_⟩
    have s5 := same_upd (o := .ext (rawD d #[] 0)) hd
    have ed : upd H4 d (.ext (rawD d #[] 0)) d = some (.ext (rawD d #[] 0)) := upd_same
    generalize upd H4 d (.ext (rawD d #[] 0)) = H5 at *
    have W5 := W2.same (s4.trans s5)
    refine ⟨dv, tr, z, d, [], rfl, W5.du, W5.dp, ⟨[], KD.new ed hm, rfl⟩, W5.okv, by show 0 + tr.all.length ≤ 90000; have := W.len; omega, fun H6 hv fk => ?_⟩
    have s6 : Same H2 H6 := fun b o e => fk _ _ (s5 _ _ (s4 _ _ e)) (ne_of_none (s4 _ _ e) hd)
    refine inn _ _ H6 a am d dv tr z v0 v1 v2 v5 _ _ _ W1 (s2.trans s6) hv fun σ' H7 ⟨w10, w11, e7⟩ s7 => ⟨⟨_, _, _, _, _, e7⟩, s7⟩
  · rintro σ H2 ⟨⟨u7, u8, u9, u10, u11, rfl⟩, s2⟩
    exact last H2 a am dv tr _ _ _ _ _ _ _ _ _ (W1.same s2)
theorem tail4 {Q : VK} (B : LB P w K mg base c fE fV fLk fA fB fW fS dE dV dLk dA dB dW dS) (hr : Room 21 (lwX P w K mg base f cdv A outer s H E).A) (q : ∀ H', Q (.bl true) H') :
    ∃ t, PSs (lwX P w K mg base f cdv A outer s H E) ((defBody sLw).drop 4) t ∧ ∀ (H' : Hp) (a : Addr) (dv : V) (tr : Tr) (v0 v1 v2 v5 v6 v7 v8 v9 v10 v11 : Option V), TrAt c H' AnyA a tr → DueAt H' dv tr → tr.dp ≤ 8 → tr.all.length ≤ 400 → (∀ x ∈ tr.all, x.okv) → t (DL Q) [v0, v1, v2, some dv, some (.ref a), v5, v6, v7, v8, v9, v10, v11] H' := by
  obtain ⟨t8, ht8, last⟩ := tail8 (E := E) (H := H) (s := s) (outer := outer) (cdv := cdv) (f := f) B hr q
  have hr2 : Room 2 _ := hr.mono (by decide)
  have hr5 : Room 5 _ := hr.mono (by decide)
  have hr9 : Room 9 _ := hr.mono (by decide)
  have hr11 : Room 11 _ := hr.mono (by decide)
  have hr14 : Room 14 _ := hr.mono (by decide)
  refine ⟨_, pss_cons (ps_if (PW.pt (pw_or (pt_cmpR op_isN (pv 3) pe_non (nomark _)) (pw_or (pt_not (pt_val (pe_call B.LK.ok hr14 (by rfl) B.LK.gl B.LK.kp B.LK.bd .nil pass0 (pa_cons (pv 4) (pa_cons (pv 3) pa_nil)))))
        (pw_or1 (pt_not (pt_val (pe_call B.SA.ok hr5 (by rfl) B.SA.gl B.SA.kp B.SA.bd .nil pass0 (pa_cons (pe_call B.EO.ok hr2 (by rfl) B.EO.gl B.EO.kp B.EO.bd .nil pass0 (pa_cons (pv 4) pa_nil)) (pa_cons (pe_call B.LA.ok hr9 (by rfl) B.LA.gl B.LA.kp B.LA.bd .nil pass0 (pa_cons (pv 3) pa_nil)) pa_nil)))))))))
      (pss_one (ps_ret pe_bl)) pss_nil)
    (pss_cons (ps_set (i := 6) scLw.nd rfl (Or.inl rfl) (pe_call B.BH.ok hr11 (by rfl) B.BH.gl B.BH.kp B.BH.bd .nil pass0 (pa_cons (pv 3) pa_nil)))
    (pss_cons (ps_set (i := 7) scLw.nd rfl (Or.inl rfl) (pe_call B.EO.ok hr2 (by rfl) B.EO.gl B.EO.kp B.EO.bd .nil pass0 (pa_cons (pv 4) pa_nil)))
    (pss_cons (ps_expr (pe_bm PySem.F.plainAttrs_list PySem.F.slot_list_append PySem.F.type_list_append mt_append (pv 7) (pa_cons pe_int pa_nil)))
      ht8))), ?_⟩
  intro H' a dv tr v0 v1 v2 v5 v6 v7 v8 v9 v10 v11 ta du dp hlen okv
  obtain ⟨da, rfl⟩ := due_ref du
  refine ⟨_, rfl, rfl, _, rfl, iteF ?_⟩
  refine ⟨_, rfl, _, rfl, a, .ref da, tr, AnyA, rfl, ta, du, dp, okv, hlen, fun H1 s1 => ⟨_, rfl, iteF ?_⟩⟩
  refine ⟨_, rfl, a, tr, AnyA, rfl, ta.same s1, hlen, fun l H2 s2 _ el => ?_⟩
  have s02 := s1.trans s2
  refine ⟨_, rfl, .ref da, tr, rfl, du.same s02, dp, hlen, fun l2 H3 s3 _ el2 => ?_⟩
  refine ⟨_, _, rfl, Sd.ints (s3 _ _ el) el2 (endsLen hlen), _, rfl, iteF ?_⟩
  have s03 := s02.trans s3
  refine ⟨_, rfl, .ref da, tr, rfl, du.same s03, dp, hlen, fun am H4 s4 tm => ?_⟩
  have W4 : WS c H4 a am (.ref da) tr := ⟨ta.same (s03.trans s4), tm, du.same (s03.trans s4), dp, hlen, okv⟩
  refine ⟨_, rfl, a, tr, AnyA, rfl, W4.ta, hlen, fun l5 H5 s5 nl5 el5 => ?_⟩
  refine ⟨_, rfl, .inl ⟨rfl, _, SqL.of el5⟩, l5, _, .int 7, rfl, rfl, el5, ?_, ?_⟩
  · rw [List.length_map]
    exact Nat.lt_of_le_of_lt (endsLen hlen) (by decide)
  · exact last _ a am (.ref da) tr _ _ _ _ _ _ _ _ _ (W4.same (same_updN s5 nl5))
theorem tail3 {Q : VK} (B : LB P w K mg base c fE fV fLk fA fB fW fS dE dV dLk dA dB dW dS) (C : LC P w K mg base c CG BP fT fGi fPo fD fGm fLt fS dT dGi dPo dD dGm dLt dS) (TE : TxE K mg BP LE c1 c2 c3 c4 c5 c6) (hr : Room 21 (lwX P w K mg base f cdv A outer s H E).A) (q : ∀ H', Q (.bl true) H') :
    ∃ t, PSs (lwX P w K mg base f cdv A outer s H E) ((defBody sLw).drop 3) t ∧ ∀ (H' : Hp) (gv dv : V) (xs : List (Str × Int)) (b : Bk) (tr : Tr) (m : Nat) (v0 v1 v4 v5 v6 v7 v8 v9 v10 v11 : Option V), Dt H' gv (gameD xs b) → GmK xs b → TrOf xs (pl0 xs b) tr m → tr.dp ≤ 8 → tr.all.length = m → (∀ x ∈ tr.all, x.okv) → ((m ≤ 400 ∧ DueAt H' dv tr) ∨ (400 < m ∧ dv = .non)) →
      t (DL Q) [v0, v1, some gv, some dv, v4, v5, v6, v7, v8, v9, v10, v11] H' := by
  obtain ⟨t4, ht4, last⟩ := tail4 (E := E) (H := H) (s := s) (outer := outer) (cdv := cdv) (f := f) B hr q
  have hr1 : Room 1 _ := hr.mono (by decide)
  have hr10 : Room 10 _ := hr.mono (by decide)
  have hr20 : Room 20 _ := hr.mono (by decide)
  have HZ : ∀ {cls : Value} {d : Option Addr} {oe : Obj}, L2N.Zn cls d oe → Zc cls d oe := fun hz => ⟨hz.1, hz.2.1⟩
  refine ⟨_, pss_cons (L2N.ps_try_as (i := 5) (Wout := fun _ _ _ _ => False) rfl rfl scLw.nd rfl rfl ⟨rfl, by decide, Or.inl TE.gLE⟩ takes0N
        (fun W pn xe tk _ => pss_one (ps_set (i := 4) scLw.nd rfl (Or.inl rfl) (pe_callS C.TO hr10 (by rfl) C.gT C.kT C.bT (fun σ => L2N.passAt tk σ) (pa_cons (pe_make C.MI C.GI hr20 rfl C.gG C.bI .nil pass0 (pa_cons (pe_ix (ix_tupK (K := K) (by rfl)) (pv 2) pe_int (fun _ _ => rfl)) (pa_cons (pe_ix (ix_tupK (K := K) (by rfl)) (pv 2) pe_int (fun _ _ => rfl)) pa_nil))) pa_nil))))
        (fun a oe cls d pn hz hf => pss_one (ps_ret (pe_and (pe_cmpR op_isN (pv 3) pe_non (nomark _))
          (pe_and (pe_callB (call_err1 (f := "what") TE.EC (HZ hz) hf) (by rfl) B.TL.isi (by decide +kernel) (pa_cons (pv 5) (pa_cons (pe_glob (v := .ref BP) rfl TE.gB rfl) pa_nil)))
          (pe_and (pe_not (pe_callB (call_errT (f := "what") TE.EC (HZ hz) hf) (by rfl) B.TL.isi (by decide +kernel) (pa_cons (pv 5) (pa_cons (pe_tup (pa_cons (pe_glob (v := .ref c1) rfl TE.g1 rfl) (pa_cons (pe_glob (v := .ref c2) rfl TE.g2 rfl) (pa_cons (pe_glob (v := .ref c3) rfl TE.g3 rfl)
              (pa_cons (pe_glob (v := .ref c4) rfl TE.g4 rfl) (pa_cons (pe_glob (v := .ref c5) rfl TE.g5 rfl) (pa_cons (pe_glob (v := .ref c6) rfl TE.g6 rfl) pa_nil))))))) pa_nil))))
            (pe_one (pe_callW (E := fun _ => E0) C.SH ⟨hr1.dp, hr1.un⟩ ⟨_, List.mem_cons_self ..⟩ (by rfl) B.SA.gl B.SA.kp B.SA.bd (fun σ _ _ _ _ _ _ z => z.elim) (pa_cons (pe_errF TE.EC TE.nB (HZ hz) hf (pv 5)) (pa_cons pe_str pa_nil))))))))))
    ht4, ?_⟩
  intro H' gv dv xs b tr m v0 v1 v4 v5 v6 v7 v8 v9 v10 v11 hg G htr hdp hal hok hdue
  obtain ⟨g, gs, rfl, eg, dg⟩ := hg.tupI
  obtain ⟨x1, x2, rfl, d1, d2⟩ := dg.c2
  obtain ⟨a1, u1, rfl, ea1, dv1⟩ := d1.tupI
  obtain ⟨a2, u2, rfl, ea2, dv2⟩ := d2.tupI
  refine ⟨_, rfl, g, _, _, _, rfl, rfl, SqT.of eg, tix0, _, rfl, g, _, _, _, rfl, rfl, SqT.of eg, tix1, fun z dz nz ndz nez => ?_⟩
  have sp : Same H' (upd (upd H' dz (.own z)) z (.ins CG dz [])) := fun b o e => by
    rw [upd_ne (ne_of_none e nz), upd_ne (ne_of_none e ndz)]
    exact e
  obtain ⟨l1, l2⟩ := G.len
  obtain ⟨p1, p2⟩ := G.dep
  refine ⟨z, dz, a1, a2, u1, u2, varsD xs, b.ds, rfl, upd_same, sp _ _ ea1, sp _ _ ea2, dv1.keep (Tk.same sp), dv2.keep (Tk.same sp), l1, by omega, p1, p2, fun H1 gz k1 => ⟨rfl, ?_⟩⟩
  have s1 : Same H' H1 := fun b o e => k1 _ _ (sp _ _ e) (ne_of_none e nz)
  refine ⟨z, xs, b, 30, rfl, gz, G.nd, G.szOk, by omega, G.plOk, by decide, fun hbig => ?_, fun hsm t ht x H2 hx s2 => ?_⟩
  · have hm : 400 < m := by
      rcases Nat.lt_or_ge 400 m with h | h
      · exact h
      · have := (small_tree htr h).1
        omega
    rcases hdue with ⟨h, _⟩ | ⟨_, rfl⟩
    · omega
    intro d H3 s3 ed
    refine ⟨true, TE.te, fun _ x hxx => ?_, fun z => nomatch z⟩
    have kt : PySem.W.kitAny K (.ref BP) [.ref c1, .ref c2, .ref c3, .ref c4, .ref c5, .ref c6] = some false := by
      simp only [PySem.W.kitAny, TE.k1, TE.k2, TE.k3, TE.k4, TE.k5, TE.k6]
    refine ⟨_, rfl, rfl, _, rfl, iteT ?_⟩
    refine ⟨_, rfl, d, .str "nodes", .ref BP, .ref BP, true, rfl, rfl, ed, rfl, fun u r => r, kit_same, _, rfl, iteT ?_⟩
    refine ⟨_, rfl, (by show 6 ≤ sizeLine; decide), fun p hp => ⟨d, .str "nodes", p, _, [.ref c1, .ref c2, .ref c3, .ref c4, .ref c5, .ref c6], false, rfl, rfl, same_upd hp _ _ ed, rfl, upd_same, .cons (.own _) (.cons (.own _) (.cons (.own _) (.cons (.own _) (.cons (.own _) (.cons (.own _) .nil))))), kt, _, rfl, _, rfl, iteT ?_⟩⟩
    exact ⟨_, rfl, d, .str "nodes", rfl, rfl, rfl, same_upd hp _ _ ed, _, _, rfl, .flat 0 (.str _), q _⟩
  · have hm : m ≤ 400 := by
      rcases Nat.lt_or_ge 400 m with h | h
      · have := large_tree htr h
        omega
      · exact h
    rcases hdue with ⟨_, hdue⟩ | ⟨h, _⟩
    · have e2 := (small_tree htr hm).2
      rw [ht] at e2
      have e2 : t = tr := List.head_eq_of_cons_eq e2
      subst e2
      have s02 : Same H' H2 := s1.trans s2
      exact last H2 x dv t _ _ _ _ _ _ _ _ _ _ hx (hdue.same s02) hdp (by omega) hok
    · omega
theorem ok_law {f : Addr} {fd : FuncData} (F : Fun K "law" "law" sLw f fd) (B : LB P w K mg base c fE fV fLk fA fB fW fS dE dV dLk dA dB dW dS) (C : LC P w K mg base c CG BP fT fGi fPo fD fGm fLt fS dT dGi dPo dD dGm dLt dS) (TE : TxE K mg BP LE c1 c2 c3 c4 c5 c6) : FnOk P w K mg base CX0 22 f fd ["script"] (spLaw K) := by
  refine F.ok scLw (fun vs H Q E h => ?_) (fun cdv A outer s H vs Q E hr h => ?_)
  · obtain ⟨a, ns, rfl, _⟩ := h
    rfl
  · obtain ⟨a, ns, rfl, hS, q⟩ := h
    have hr1 : Room 1 _ := hr.mono (by decide)
    have hr16 : Room 16 _ := hr.mono (by decide)
    have hr20 : Room 20 _ := hr.mono (by decide)
    obtain ⟨t3, ht3, last⟩ := tail3 (E := E) (H := H) (s := s) (outer := outer) (cdv := cdv) (f := f) B C TE hr q
    refine ⟨_, pss_cons (ps_set (i := 1) scLw.nd rfl (Or.inl rfl) (pe_call C.PO.ok hr1 (by rfl) C.PO.gl C.PO.kp C.PO.bd .nil pass0 (pa_cons (pv 0) (pa_cons pe_int pa_nil))))
      (pss_cons (ps_set (i := 2) scLw.nd rfl (Or.inl rfl) (pe_call C.GM.ok hr20 (by rfl) C.GM.gl C.GM.kp C.GM.bd .nil pass0 (pa_cons (pv 1) (pa_cons pe_int (pa_cons (pe_op op_add pe_int (pe_op op_mul pe_int (pe_callTy call_int1 (by rfl) B.TL.int (by decide +kernel) (pa_cons (pe_cmpR op_eq (pe_call C.D1.ok hr1 (by rfl) C.D1.gl C.D1.kp C.D1.bd .nil pass0 (pa_cons (pv 1) (pa_cons pe_int pa_nil))) pe_int (nomark _)) pa_nil)))) pa_nil)))))
      (pss_cons (ps_set (i := 3) scLw.nd rfl (Or.inl rfl) (pe_call C.LT.ok hr16 (by rfl) C.LT.gl C.LT.kp C.LT.bd .nil pass0 (pa_cons (pv 2) pa_nil))) ht3)), ?_⟩
    refine ⟨_, rfl, a, ns, 0, rfl, hS, fun p H1 s1 np P1 => ?_⟩
    refine ⟨_, rfl, _, rfl, p, 4, 0, rfl, P1, by decide, by decide, fun j H2 j0 j1 P2 k2 => ?_⟩
    refine ⟨rfl, .inr ⟨_, rfl, ?_⟩⟩
    cases decide (V.int j = V.int 0) with
    | false =>
      refine ⟨_, _, rfl, rfl, .inl ⟨by decide, by decide⟩, _, _, rfl, rfl, ?_⟩
      refine ⟨p, 3, 0, rfl, by decide, by decide, P2, fun gv xs b b1 H3 G P3 k3 dg => ?_⟩
      obtain ⟨t, m, htr, hdp, hal, hok⟩ := G.tree
      refine ⟨_, rfl, gv, xs, b, 30, t, m, rfl, dg, G.nd, G.szOk, G.plOk, by decide, G.chs, htr, fun dv H4 s4 hd => ?_⟩
      exact last H4 gv dv xs b t m _ _ _ _ _ _ _ _ _ _ (dg.keep (Tk.same s4)) G htr hdp hal hok hd
    | true =>
      refine ⟨_, _, rfl, rfl, .inl ⟨by decide, by decide⟩, _, _, rfl, rfl, ?_⟩
      refine ⟨p, 8, 0, rfl, by decide, by decide, P2, fun gv xs b b1 H3 G P3 k3 dg => ?_⟩
      obtain ⟨t, m, htr, hdp, hal, hok⟩ := G.tree
      refine ⟨_, rfl, gv, xs, b, 30, t, m, rfl, dg, G.nd, G.szOk, G.plOk, by decide, G.chs, htr, fun dv H4 s4 hd => ?_⟩
      exact last H4 gv dv xs b t m _ _ _ _ _ _ _ _ _ _ (dg.keep (Tk.same s4)) G htr hdp hal hok hd
end
end K1

set_option Elab.async false
set_option linter.all false
set_option maxRecDepth 100000
set_option maxHeartbeats 4000000
/-! A head by facts, for any law of this program: which names stand, which classes, which tables. -/
namespace Hk
open PySem PySem.Spec PyProof.Rows L2
/-! ### the addresses that the module's names reach, each once (a bit an address) -/
def take1 (p : Nat × List Addr) (a : Addr) : Nat × List Addr := match Nat.testBit p.1 a with
  | true => p
  | false => (Nat.lor p.1 (Nat.shiftLeft 1 a), a :: p.2)
def wave (g : Addr → Option Obj) (mask : Nat) (front : List Addr) : Nat × List Addr :=
  front.foldl (fun p a => match g a with
    | some o => (He.refsD o).foldl take1 p
    | none => p) (mask, [])
def reach (g : Addr → Option Obj) : Nat → Nat → List Addr → List Addr → List Addr
  | 0, _, _, all => all
  | n + 1, mask, front, all => match wave g mask front with
    | (m2, new) => reach g n m2 new (new ++ all)
def roots : List Addr := [mainGlobals, PySem.cStatics]
def asK (g : Addr → Option Obj) (n : Nat) : List Addr := match roots.foldl take1 (0, []) with
  | (m, l) => reach g n m l l
/-! ### facts by names -/
inductive Fk where
  | glo (x : Str)
  | free (x : Str)
  | int (x : Str) (i : Int)
  | str (x z : Str)
  | texts (x : Str) (zs : List Str)
  | cls (x : Str)
  | noat (x f : Str)
  | meth (x m : Str)
  | mkr (x : Str)
  | keep (x : Str)
  | si (x : Str)
  | own (x : Str)
  | base (x : Str)
  | fn (x m : Str)
  | exm (x y : Str) (b : Bool)
  | kit (x y : Str) (b : Bool)
  | err (x : Str)
  | bltn (x : Str) (b : String)
  | exc (x : Str)
  | isf (x m : Str)
  | sfi (x : Str)
  | kitn (x : Str)
  | nums (x : Str) (kvs : List (Str × Int))
  deriving DecidableEq
def oexB (K : PySem.W.Frag) (C : Addr) : Bool := match K.lookup C with
  | some ⟨.type t, _, .cls ⟨_, _, .ref C' :: bm, _, _, hd, _, _, _, _, del⟩, sl⟩ => (match sl.toList with
    | [_, _, _, _, some (.builtin n), _] => decide (t = "type") && (decide (C' = C) && (PySem.HandSPX.refsVE bm && (hd && (!del && decide (n = "ValueError.__new__")))))
    | _ => false)
  | _ => false
def valB (c : Option PySem.W.CFound) (v : Value) : Bool := match c with
  | some (.val u) => decide (u = v)
  | _ => false
def Fk.ok (K : PySem.W.Frag) : Fk → Bool
  | .glo x => (He.Fa.glo x).ok K
  | .free x => (He.Fa.free x).ok K
  | .int x i => (He.Fa.int x i).ok K
  | .str x z => (He.Fa.str x z).ok K
  | .texts x zs => (He.Fa.glo x).ok K && He.tupB K x (zs.map He.Dv.str)
  | .cls x => (He.Fa.cls x).ok K
  | .noat x f => (He.Fa.noat x f).ok K
  | .meth x m => (He.Fa.meth x m).ok K
  | .mkr x => (He.Fa.mkr x).ok K
  | .keep x => (He.Fa.keep x).ok K
  | .si x => He.eqO (PySem.W.findIn K (.ref (He.ga K x)) "__class__") (some (some (.builtin "object.__class__"))) && (He.eqO (PySem.W.specialIn K (.builtin "object.__class__") "__get__") (some (some (.builtin "getset_descriptor.__get__"))) && (decide (PySem.W.takesIn K (.builtin "object.__class__") = some true) && decide (PySem.W.mroIn K (He.ga K x) (.type "object") = some true)))
  | .own x => oexB K (He.ga K x) && (He.eqO (PySem.W.findIn K (.ref (He.ga K x)) "__setattr__") (some (some (.builtin "object.__setattr__"))) && (decide (PySem.W.subIn K (.ref (He.ga K x)) (.type "BaseException") = some true) && (decide (PySem.W.typeIn K (.ref (He.ga K x)) = some (.type "type")) && PySem.W.keepIn K (.ref (He.ga K x)))))
  | .base x => He.eqO (PySem.W.specialIn K (.ref (He.ga K x)) "__getattribute__") (some (some (.builtin "type.__getattribute__"))) && (PySem.W.readsIn K (He.ga K x) (.type "type") && valB (PySem.W.findCls K (.ref (He.ga K x)) (.type "type") "__init__") (.builtin "ValueError.__init__"))
  | .fn x m => He.eqO (PySem.W.findIn K (.ref (He.ga K x)) m) (some (some (.ref (He.ma K (He.ga K x) m)))) && decide (PySem.W.typeIn K (.ref (He.ma K (He.ga K x) m)) = some (.type "function"))
  | .exm x y b => decide (PySem.W.exmOne K (.ref (He.ga K x)) (.ref (He.ga K y)) = some b)
  | .kit x y b => decide (PySem.W.kitOne K (.ref (He.ga K x)) (.ref (He.ga K y)) = some b)
  | .err x => He.eqO (PySem.W.findIn K (.ref (He.ga K x)) "__getattribute__") (some (some (.builtin "BaseException.__getattribute__"))) && (He.eqO (PySem.W.findIn K (.ref (He.ga K x)) "__getattr__") (some none) && (decide (PySem.W.subIn K (.ref (He.ga K x)) (.type "BaseException") = some true) && (PySem.W.hasDictIn K (He.ga K x) && (He.eqO (PySem.W.findIn K (.ref (He.ga K x)) "__class__") (some (some (.builtin "object.__class__"))) && (He.eqO (PySem.W.specialIn K (.builtin "object.__class__") "__get__") (some (some (.builtin "getset_descriptor.__get__"))) && (decide (PySem.W.takesIn K (.builtin "object.__class__") = some true) && decide (PySem.W.mroIn K (He.ga K x) (.type "object") = some true)))))))
  | .bltn x b => He.eqO (PySem.W.nsIn K mainGlobals x) (some (some (.builtin b)))
  | .exc x => PySem.W.excIn K (He.ga K x) [.type "ValueError", .type "Exception", .type "BaseException", .type "object"] "ValueError.__new__" && (PySem.W.keepIn K (.ref (He.ga K x)) && (decide (PySem.W.subIn K (.ref (He.ga K x)) (.type "BaseException") = some true) && decide (PySem.W.typeIn K (.ref (He.ga K x)) = some (.type "type"))))
  | .isf x m => He.eqO (PySem.W.findIn K (.ref (He.ga K x)) m) (some (some (.ref (He.ma K (He.ga K x) m)))) && PySem.W.isFn K (.ref (He.ma K (He.ga K x) m))
  | .sfi x => PySem.W.selfFirst K (He.ga K x)
  | .kitn x => decide (PySem.W.kitOne K (.type "NoneType") (.ref (He.ga K x)) = some false)
  | .nums x kvs => (He.Fa.glo x).ok K && He.valsB K (He.ga K x) (kvs.map fun q => (q.1, .int q.2))
theorem oex_ok {K : PySem.W.Frag} {C : Addr} (h : oexB K C = true) : ∃ nm q N bs bm sn sub ab col dd k0 k1 k2 k3 k5, K.lookup C = some (excClassObj nm q C N bs bm true sn sub ab col dd k0 k1 k2 k3 k5 "ValueError.__new__") ∧ PySem.HandSPX.refsVE bm = true := by
  unfold oexB at h
  split at h
  · rename_i t dd nm bs C' bm ns q hd sn sub ab col del sl e
    split at h
    · rename_i k0 k1 k2 k3 n k5 hs
      simp only [Bool.and_eq_true, decide_eq_true_eq, Bool.not_eq_true'] at h
      obtain ⟨rfl, rfl, h1, rfl, rfl, rfl⟩ := h
      refine ⟨nm, q, ns, bs, bm, sn, sub, ab, col, dd, k0, k1, k2, k3, k5, ?_, h1⟩
      rw [e]
      have : sl = #[k0, k1, k2, k3, some (.builtin "ValueError.__new__"), k5] := by
        apply Array.ext'
        rw [hs]
      rw [this]
    · cases h
  · cases h
theorem val_ok {c : Option PySem.W.CFound} {v : Value} (h : valB c v = true) : c = some (.val v) := by
  unfold valB at h
  split at h
  · rw [of_decide_eq_true h]
  · cases h
/-! ### the Hook -/
def obsF (fa : List Fk) (fn : List He.DefD) (K : PySem.W.Frag) : He.AlD := ((fa.all fun f => f.ok K) && fn.all fun d => d.ok K, fn.map fun d => He.fnW K d.at_)
def SaysF (fa : List Fk) (fn : List He.DefD) (K : PySem.W.Frag) : Prop := obsF fa fn K = He.valD fn
def obsFG (n : Nat) (fa : List Fk) (fn : List He.DefD) (g : Addr → Option Obj) : He.AlD := obsF fa fn (He.frG g (asK g n))
def hookF (n : Nat) (fa : List Fk) (fn : List He.DefD) : PySem.W.Hook where
  α := He.AlD
  obs := fun s => obsFG n fa fn s.heap.get?
  val := fun _ => He.valD fn
  says := fun _ h => ∃ K : PySem.W.Frag, K.In h ∧ SaysF fa fn K
  of := fun _ _ e => ⟨_, He.frG_in, e⟩
  keeps := fun _ _ _ ⟨K, hK, c⟩ k => ⟨K, PySem.W.Frag.In.keeps hK k, c⟩
theorem obsF_eq {n : Nat} {fa : List Fk} {fn : List He.DefD} {g : Addr → Option Obj} {s : Shared} (h : ∀ a, g a = s.heap.get? a) : obsFG n fa fn g = (hookF n fa fn).obs s := by
  have e : g = s.heap.get? := funext h
  rw [e] <;> rfl
section
variable {fa : List Fk} {fn : List He.DefD} {K : PySem.W.Frag} {h : Heap} {mg : Str → Option Value}
theorem SaysF.fact (c : SaysF fa fn K) (f : Fk) (m : f ∈ fa) : f.ok K = true := by
  have c1 := (He.ba (show ((fa.all fun f => f.ok K) && fn.all fun d => d.ok K) = true from congrArg (fun z : He.AlD => z.1) c)).1
  exact List.all_eq_true.mp c1 f m
theorem SaysF.def_ (c : SaysF fa fn K) (i : Nat) {d : He.DefD} (h : fn[i]? = some d := by rfl) : ∃ fd, FunD K d.name d.qual d.params d.body d.scope (d.dvs K) (d.kws K) (He.fAd K d.at_) fd := by
  have c2 := (He.ba (show ((fa.all fun f => f.ok K) && fn.all fun d => d.ok K) = true from congrArg (fun z : He.AlD => z.1) c)).2
  have e : fn.map (fun d => He.fnW K d.at_) = fn.map He.DefD.val := congrArg (fun z : He.AlD => z.2) c
  have e2 : (fn.map fun d => He.fnW K d.at_)[i]? = (fn.map He.DefD.val)[i]? := by rw [e]
  rw [List.getElem?_map, List.getElem?_map, h] at e2
  exact He.DefD.funD (Option.some.inj e2) (List.all_eq_true.mp c2 d (List.mem_of_getElem? h))
/-- a def without defaults -/
theorem fun_of {x qual : Str} {st : Stmt} {f : Addr} {fd : FuncData} (F : FunD K x qual (defArgs st) (defBody st) (defScope st) [] [] f fd) : Fun K x qual st f fd := by
  obtain ⟨oc, od, dV, kV, doc, pm, an, cdv, ct, osl, e, lk, hcd, hD, _⟩ := F.ex
  rcases hD with ⟨_, rfl⟩ | ⟨z, _⟩
  · exact ⟨⟨oc, od, kV, doc, pm, an, cdv, ct, osl, e, lk, hcd⟩, F.kp⟩
  · exact absurd rfl z
theorem glo_ok (X : K.In h) (G : h.Ns mainGlobals mg) {x : Str} (c : (Fk.glo x).ok K = true) : mg x = some (.ref (He.ga K x)) := He.glo_ok X G c
theorem free_ok (X : K.In h) (G : h.Ns mainGlobals mg) {x : Str} (c : (Fk.free x).ok K = true) : mg x = none := He.free_ok X G c
theorem int_ok (X : K.In h) (G : h.Ns mainGlobals mg) {x : Str} {i : Int} (c : (Fk.int x i).ok K = true) : ∃ t, mg x = some (.int i t) := He.int_ok X G c
theorem str_ok (X : K.In h) (G : h.Ns mainGlobals mg) {x z : Str} (c : (Fk.str x z).ok K = true) : ∃ t, mg x = some (.str z t) := He.str_ok X G c
theorem texts_ok (X : K.In h) (G : h.Ns mainGlobals mg) {x : Str} {zs : List Str} (c : (Fk.texts x zs).ok K = true) : ∃ a, mg x = some (.ref a) ∧ ∀ H, SqT K H a (zs.map V.str) := by
  obtain ⟨c1, c2⟩ := He.ba (show ((He.Fa.glo x).ok K && He.tupB K x (zs.map He.Dv.str)) = true from c)
  refine ⟨_, He.glo_ok X G c1, fun H => ?_⟩
  have := He.tupB_ok c2 H
  rw [List.map_map] at this
  exact this
theorem cls_ok {x : Str} (c : (Fk.cls x).ok K = true) : Cls K (He.ga K x) := He.cls_ok c
theorem noat_ok {x f : Str} (c : (Fk.noat x f).ok K = true) : NoAttr K (He.ga K x) f := He.noat_ok c
theorem meth_ok {x m : Str} (c : (Fk.meth x m).ok K = true) : Meth K (He.ga K x) m (He.ma K (He.ga K x) m) := He.meth_ok c
theorem mkr_ok {x : Str} (c : (Fk.mkr x).ok K = true) : Mk K (He.ga K x) (He.ma K (He.ga K x) "__init__") := He.mkr_ok c
theorem keep_ok {x : Str} (c : (Fk.keep x).ok K = true) : PySem.W.keepIn K (.ref (He.ga K x)) = true := He.keep_ok c
theorem si_ok {x : Str} (c : (Fk.si x).ok K = true) : SlX.SIsi K (He.ga K x) := by
  obtain ⟨c1, c⟩ := He.ba c
  obtain ⟨c2, c⟩ := He.ba c
  obtain ⟨c3, c4⟩ := He.ba c
  exact ⟨He.eqO_ok c1, He.eqO_ok c2, of_decide_eq_true c3, of_decide_eq_true c4⟩
theorem own_ok {x : Str} (c : (Fk.own x).ok K = true) : OexC K (He.ga K x) := by
  obtain ⟨c1, c⟩ := He.ba c
  obtain ⟨c2, c⟩ := He.ba c
  obtain ⟨c3, c⟩ := He.ba c
  obtain ⟨c4, c5⟩ := He.ba c
  exact ⟨oex_ok c1, He.eqO_ok c2, of_decide_eq_true c3, of_decide_eq_true c4, c5⟩
theorem base_ok {x : Str} (c : (Fk.base x).ok K = true) : Kx.BaseC K (He.ga K x) := by
  obtain ⟨c1, c⟩ := He.ba c
  obtain ⟨c2, c3⟩ := He.ba c
  exact ⟨He.eqO_ok c1, c2, val_ok c3⟩
theorem fn_ok {x m : Str} (c : (Fk.fn x m).ok K = true) : PySem.W.findIn K (.ref (He.ga K x)) m = some (some (.ref (He.ma K (He.ga K x) m))) ∧ PySem.W.typeIn K (.ref (He.ma K (He.ga K x) m)) = some (.type "function") := by
  obtain ⟨c1, c2⟩ := He.ba c
  exact ⟨He.eqO_ok c1, of_decide_eq_true c2⟩
theorem exm_ok {x y : Str} {b : Bool} (c : (Fk.exm x y b).ok K = true) : PySem.W.exmOne K (.ref (He.ga K x)) (.ref (He.ga K y)) = some b := of_decide_eq_true c
theorem kit_ok {x y : Str} {b : Bool} (c : (Fk.kit x y b).ok K = true) : PySem.W.kitOne K (.ref (He.ga K x)) (.ref (He.ga K y)) = some b := of_decide_eq_true c
theorem err_ok {x : Str} (c : (Fk.err x).ok K = true) : ExcC K (He.ga K x) := by
  obtain ⟨c1, c⟩ := He.ba c
  obtain ⟨c2, c⟩ := He.ba c
  obtain ⟨c3, c⟩ := He.ba c
  obtain ⟨c4, c⟩ := He.ba c
  obtain ⟨c5, c⟩ := He.ba c
  obtain ⟨c6, c⟩ := He.ba c
  obtain ⟨c7, c8⟩ := He.ba c
  exact ⟨He.eqO_ok c1, He.eqO_ok c2, of_decide_eq_true c3, c4, He.eqO_ok c5, He.eqO_ok c6, of_decide_eq_true c7, of_decide_eq_true c8⟩
theorem bltn_ok (X : K.In h) (G : h.Ns mainGlobals mg) {x : Str} {b : String} (c : (Fk.bltn x b).ok K = true) : mg x = some (.builtin b) := PySem.W.mg_of X G (He.eqO_ok c)
theorem exc_ok {x : Str} (c : (Fk.exc x).ok K = true) : PySem.W.excIn K (He.ga K x) [.type "ValueError", .type "Exception", .type "BaseException", .type "object"] "ValueError.__new__" = true ∧ PySem.W.keepIn K (.ref (He.ga K x)) = true ∧ PySem.W.subIn K (.ref (He.ga K x)) (.type "BaseException") = some true ∧ PySem.W.typeIn K (.ref (He.ga K x)) = some (.type "type") := by
  obtain ⟨c1, c⟩ := He.ba c
  obtain ⟨c2, c⟩ := He.ba c
  obtain ⟨c3, c4⟩ := He.ba c
  exact ⟨c1, c2, of_decide_eq_true c3, of_decide_eq_true c4⟩
theorem isf_ok {x m : Str} (c : (Fk.isf x m).ok K = true) : PySem.W.findIn K (.ref (He.ga K x)) m = some (some (.ref (He.ma K (He.ga K x) m))) ∧ PySem.W.isFn K (.ref (He.ma K (He.ga K x) m)) = true := by
  obtain ⟨c1, c2⟩ := He.ba c
  exact ⟨He.eqO_ok c1, c2⟩
theorem kitn_ok {x : Str} (c : (Fk.kitn x).ok K = true) : PySem.W.kitOne K (.type "NoneType") (.ref (He.ga K x)) = some false := of_decide_eq_true c
theorem nums_ok (X : K.In h) (G : h.Ns mainGlobals mg) {x : Str} {kvs : List (Str × Int)} (c : (Fk.nums x kvs).ok K = true) : mg x = some (.ref (He.ga K x)) ∧ ∀ q ∈ kvs, ∃ t, PySem.W.nsIn K (He.ga K x) q.1 = some (some (.int q.2 t)) := by
  obtain ⟨c1, c2⟩ := He.ba (show ((He.Fa.glo x).ok K && He.valsB K (He.ga K x) (kvs.map fun q => (q.1, He.Dv.int q.2))) = true from c)
  refine ⟨He.glo_ok X G c1, fun q hq => ?_⟩
  obtain ⟨u, e, r⟩ := He.valsB_ok c2 (List.mem_map.mpr ⟨q, hq, rfl⟩)
  obtain ⟨t, rfl⟩ : ∃ t, u = Value.int q.2 t := r
  exact ⟨t, e⟩
theorem sfi_ok {x : Str} (c : (Fk.sfi x).ok K = true) : PySem.W.selfFirst K (He.ga K x) = true := c
end
/-- a law's end over such a head; what may leave hangs on the world -/
theorem walk_end {l : PySem.W.OpenLaw} {n k : Nat} {q : Program} {loose : List Str} {XP : (Str → Option Value) → Heap → Prop} {YP : World → Heap → Prop} {d : DefRec} {CX : World → CXT} {x : Str}
    (hn : l.most = some n) (hn2 : n ≤ sizeLine) (hdf : d.params.defaults = []) (hr : Room k callerA)
    (F : ∀ (w : World) (mg : Str → Option Value) (fa : Addr) (h : Heap), YP w h → h.Ns mainGlobals mg → mg d.name = some (.ref fa) →
      ∃ (K : PySem.W.Frag) (fd : FuncData) (sp : Sp), K.In h ∧ (∀ (s : Shared) (u : Value), BindsTo s fd ⟨[u], []⟩ [(x, u)]) ∧
        (∀ (H : Hp) (a : Addr) (ns : List Int), ns.length ≤ n → Only H → SqL K H a (ns.map V.int) → sp [.ref a] H (fun v _ => v = .bl true) fun _ _ _ => False) ∧
        ∀ base : Heap, K.In base → base.Ns mainGlobals mg → FnOk l.prog w K mg base (CX w) k fa fd [x] sp)
    (hCX : ∀ (w : World) (H : Hp) (s : Shared) (e : Value) (s' : Shared), CX w [] H s (fun _ _ _ => False) e s' → False) :
    PySem.W.WalkO q loose XP YP l.row.toRowW d [] (fun f vs => PySem.call f vs) := by
  refine Att.attach_call hn hdf fun w sa sb mg mb fa o pm cd doc a vs ns Gt Yt ho hd hcd hmg hobj hints hlen hg => ?_
  obtain ⟨K, fd, sp, X, hb, hs, hf⟩ := F w mg fa _ Yt Gt.T.g hmg
  have many := Nat.le_trans hlen hn2
  exact law_call X Gt.T.g Gt.T.b Gt.T.builtins Gt.T.nolimit hg hobj hints many hr hf hb (fun H hO hS => hs H a ns hlen hO hS) (fun H e s' => hCX w H sb e s')
end Hk

set_option Elab.async false
set_option linter.all false
set_option maxRecDepth 100000
set_option maxHeartbeats 4000000
namespace K1
open PySem PySem.Spec PyProof.Rows L2 Kx Kd Kt Kh
/-! ### the head: facts by names -/
def dd (x : Str) (st : Stmt) : He.DefD := ⟨(x, none), x, x, defArgs st, defBody st, defScope st, [], []⟩
def dm (C x q : Str) (st : Stmt) : He.DefD := ⟨(C, some x), x, q, defArgs st, defBody st, defScope st, [], []⟩
def fn : List He.DefD := [
  dm "TooLarge" "__init__" "TooLarge.__init__" sTL,
  dd "value_of" sVo,
  dd "combined" sCo,
  dm "Play" "__init__" "Play.__init__" sPIn,
  dm "Play" "go_on" "Play.go_on" sGo,
  dm "Play" "perform" "Play.perform" sPerf,
  dm "Play" "value_now" "Play.value_now" sVN,
  dm "Play" "store" "Play.store" sStore,
  dm "Play" "ask" "Play.ask" sAsk,
  dm "Play" "behind" "Play.behind" sBeh,
  dd "play_of" sPO,
  dd "seat_of" sSeat,
  dm "End" "__init__" "End.__init__" sEI,
  dm "Lot" "__init__" "Lot.__init__" sLI,
  dm "Move" "__init__" "Move.__init__" sMI,
  dd "tree_of" sTO,
  dd "node_at" sNA,
  dd "joined" sJo,
  dd "nodes_of" sNO,
  dd "ends_of" sEO,
  dd "views_of" sVO,
  dm "Game" "__init__" "Game.__init__" sGI,
  dd "in_tuples" sInT,
  dd "_law_pool" sPool,
  dd "_law_draw" sDraw,
  dd "_law_spend" sSpend,
  dd "_law_number" sNum,
  dd "_law_same" sSame,
  dd "_law_value" sVal,
  dd "_law_statement" sSta,
  dd "_law_block" sBlo,
  dd "_law_alike" sAl,
  dd "_law_game" sGm,
  dd "_law_number_of" sNu,
  dd "_law_stored" sLS,
  dd "_law_node" sNd,
  dd "_law_tree" sLT,
  dd "_law_parts" sLP,
  dd "_law_views" sLV,
  dd "_law_by_hand" sBH,
  dd "_law_deep" sDp,
  dd "_law_like" sLk,
  dd "_law_all" sLA,
  dd "law" sLw]
def fa : List Hk.Fk := [
  .glo "value_of", .glo "combined", .glo "play_of", .glo "seat_of", .glo "tree_of", .glo "node_at", .glo "joined", .glo "nodes_of", .glo "ends_of", .glo "views_of", .glo "in_tuples", .glo "_law_pool", .glo "_law_draw", .glo "_law_spend", .glo "_law_number", .glo "_law_same", .glo "_law_value", .glo "_law_statement", .glo "_law_block", .glo "_law_alike", .glo "_law_game", .glo "_law_number_of", .glo "_law_stored", .glo "_law_node", .glo "_law_tree", .glo "_law_parts", .glo "_law_views", .glo "_law_by_hand", .glo "_law_deep", .glo "_law_like", .glo "_law_all", .glo "law", .glo "Game", .glo "Play", .glo "End", .glo "Lot", .glo "Move", .glo "LossError", .glo "TooLarge", .glo "BadPaper", .glo "BadPlan", .glo "BadRatio", .glo "BadText", .glo "NoPlan", .glo "NoShare", .free "isinstance", .free "int", .free "str", .free "len", .free "list", .free "tuple", .free "bool", .free "range", .free "max", .free "dict", .free "reversed", .int "VALUES" 65536, .int "MOST_NODES" 400, .texts "CHANCES" CHS, .texts "SEATS" SEA, .cls "Game", .mkr "Game", .noat "Game" "variables", .noat "Game" "block", .si "Game", .cls "Play", .mkr "Play", .noat "Play" "sizes", .noat "Play" "stored", .noat "Play" "paid", .noat "Play" "seen", .noat "Play" "todo", .cls "End", .mkr "End", .noat "End" "paid", .si "End", .cls "Lot", .mkr "Lot", .noat "Lot" "parts", .si "Lot", .cls "Move", .mkr "Move", .noat "Move" "seat", .noat "Move" "view", .noat "Move" "parts", .si "Move", .meth "Play" "go_on", .meth "Play" "perform", .meth "Play" "value_now", .meth "Play" "store", .meth "Play" "ask", .meth "Play" "behind", .kit "End" "End" true, .kit "Lot" "End" false, .kit "Move" "End" false, .kit "End" "Move" false, .kit "Lot" "Move" false, .kit "Move" "Move" true, .kit "Lot" "Lot" true, .base "LossError", .own "TooLarge", .noat "TooLarge" "what", .fn "TooLarge" "__init__", .err "TooLarge", .exm "TooLarge" "LossError" true, .kit "TooLarge" "BadPaper" false, .kit "TooLarge" "BadPlan" false, .kit "TooLarge" "BadRatio" false, .kit "TooLarge" "BadText" false, .kit "TooLarge" "NoPlan" false, .kit "TooLarge" "NoShare" false]
theorem tyC {K : PySem.W.Frag} {C : Addr} (cl : Cls K C) (si : SlX.SIsi K C) {H : Hp} {a dx : Addr} {fs : List (Str × V)} (e : H a = some (.ins C dx fs)) : TyX K H (.ref a) (.ref C) := by
  obtain ⟨h1, h2, h3, h4⟩ := si
  exact .base (.ins e cl h1 h2 h3 h4)
theorem Fn0.up {P : Program} {w : World} {K : PySem.W.Frag} {mg : Str → Option Value} {base : Heap} {j k : Nat} {x : Str} {ps : List Str} {sp : Sp} {f : Addr} {fd : FuncData} (h : Fn0 P w K mg base j x ps sp f fd) (hjk : j ≤ k) : Fn0 P w K mg base k x ps sp f fd := ⟨h.ok.mono hjk, h.gl, h.kp, h.bd⟩
theorem facts {P : Program} {w : World} {K : PySem.W.Frag} {h : Heap} {mg : Str → Option Value} {f : Addr} (X : K.In h) (G : h.Ns mainGlobals mg) (hfa : mg ("law" : Str) = some (.ref f)) (c : Hk.SaysF fa fn K) :
    ∃ fd : FuncData, (∀ (s : Shared) (v : Value), BindsTo s fd ⟨[v], []⟩ [("script", v)]) ∧ ∀ base : Heap, K.In base → base.Ns mainGlobals mg → FnOk P w K mg base CX0 22 f fd ["script"] (spLaw K) := by
  obtain ⟨d0, D0⟩ := c.def_ 0 (d := dm "TooLarge" "__init__" "TooLarge.__init__" sTL) rfl
  have F0 : Fun K "__init__" "TooLarge.__init__" sTL (He.ma K (He.ga K "TooLarge") "__init__") d0 := Hk.fun_of D0
  have b0 := F0.binds (ps := ["self", "what"]) fun _ _ _ _ _ _ us hl => match us, hl with | [_, _], _ => rfl
  obtain ⟨d1, D1⟩ := c.def_ 1 (d := dd "value_of" sVo) rfl
  have F1 : Fun K "value_of" "value_of" sVo (He.ga K "value_of") d1 := Hk.fun_of D1
  have b1 := F1.binds (ps := ["expression", "stored"]) fun _ _ _ _ _ _ us hl => match us, hl with | [_, _], _ => rfl
  have g1 : mg "value_of" = some (.ref (He.ga K "value_of")) := Hk.glo_ok X G (c.fact (.glo "value_of") (by decide +kernel))
  obtain ⟨d2, D2⟩ := c.def_ 2 (d := dd "combined" sCo) rfl
  have F2 : Fun K "combined" "combined" sCo (He.ga K "combined") d2 := Hk.fun_of D2
  have b2 := F2.binds (ps := ["operator", "first", "second"]) fun _ _ _ _ _ _ us hl => match us, hl with | [_, _, _], _ => rfl
  have g2 : mg "combined" = some (.ref (He.ga K "combined")) := Hk.glo_ok X G (c.fact (.glo "combined") (by decide +kernel))
  obtain ⟨d3, D3⟩ := c.def_ 3 (d := dm "Play" "__init__" "Play.__init__" sPIn) rfl
  have F3 : Fun K "__init__" "Play.__init__" sPIn (He.ma K (He.ga K "Play") "__init__") d3 := Hk.fun_of D3
  have b3 := F3.binds (ps := ["self", "sizes", "stored", "paid", "seen", "todo"]) fun _ _ _ _ _ _ us hl => match us, hl with | [_, _, _, _, _, _], _ => rfl
  obtain ⟨d4, D4⟩ := c.def_ 4 (d := dm "Play" "go_on" "Play.go_on" sGo) rfl
  have F4 : Fun K "go_on" "Play.go_on" sGo (He.ma K (He.ga K "Play") "go_on") d4 := Hk.fun_of D4
  have b4 := F4.binds (ps := ["self"]) fun _ _ _ _ _ _ us hl => match us, hl with | [_], _ => rfl
  obtain ⟨d5, D5⟩ := c.def_ 5 (d := dm "Play" "perform" "Play.perform" sPerf) rfl
  have F5 : Fun K "perform" "Play.perform" sPerf (He.ma K (He.ga K "Play") "perform") d5 := Hk.fun_of D5
  have b5 := F5.binds (ps := ["self", "statement"]) fun _ _ _ _ _ _ us hl => match us, hl with | [_, _], _ => rfl
  obtain ⟨d6, D6⟩ := c.def_ 6 (d := dm "Play" "value_now" "Play.value_now" sVN) rfl
  have F6 : Fun K "value_now" "Play.value_now" sVN (He.ma K (He.ga K "Play") "value_now") d6 := Hk.fun_of D6
  have b6 := F6.binds (ps := ["self", "expression"]) fun _ _ _ _ _ _ us hl => match us, hl with | [_, _], _ => rfl
  obtain ⟨d7, D7⟩ := c.def_ 7 (d := dm "Play" "store" "Play.store" sStore) rfl
  have F7 : Fun K "store" "Play.store" sStore (He.ma K (He.ga K "Play") "store") d7 := Hk.fun_of D7
  have b7 := F7.binds (ps := ["self", "name", "value"]) fun _ _ _ _ _ _ us hl => match us, hl with | [_, _, _], _ => rfl
  obtain ⟨d8, D8⟩ := c.def_ 8 (d := dm "Play" "ask" "Play.ask" sAsk) rfl
  have F8 : Fun K "ask" "Play.ask" sAsk (He.ma K (He.ga K "Play") "ask") d8 := Hk.fun_of D8
  have b8 := F8.binds (ps := ["self", "seat", "move", "results"]) fun _ _ _ _ _ _ us hl => match us, hl with | [_, _, _, _], _ => rfl
  obtain ⟨d9, D9⟩ := c.def_ 9 (d := dm "Play" "behind" "Play.behind" sBeh) rfl
  have F9 : Fun K "behind" "Play.behind" sBeh (He.ma K (He.ga K "Play") "behind") d9 := Hk.fun_of D9
  have b9 := F9.binds (ps := ["self", "statement", "result"]) fun _ _ _ _ _ _ us hl => match us, hl with | [_, _, _], _ => rfl
  obtain ⟨d10, D10⟩ := c.def_ 10 (d := dd "play_of" sPO) rfl
  have F10 : Fun K "play_of" "play_of" sPO (He.ga K "play_of") d10 := Hk.fun_of D10
  have b10 := F10.binds (ps := ["game"]) fun _ _ _ _ _ _ us hl => match us, hl with | [_], _ => rfl
  have g10 : mg "play_of" = some (.ref (He.ga K "play_of")) := Hk.glo_ok X G (c.fact (.glo "play_of") (by decide +kernel))
  obtain ⟨d11, D11⟩ := c.def_ 11 (d := dd "seat_of" sSeat) rfl
  have F11 : Fun K "seat_of" "seat_of" sSeat (He.ga K "seat_of") d11 := Hk.fun_of D11
  have b11 := F11.binds (ps := ["statement"]) fun _ _ _ _ _ _ us hl => match us, hl with | [_], _ => rfl
  have g11 : mg "seat_of" = some (.ref (He.ga K "seat_of")) := Hk.glo_ok X G (c.fact (.glo "seat_of") (by decide +kernel))
  obtain ⟨d12, D12⟩ := c.def_ 12 (d := dm "End" "__init__" "End.__init__" sEI) rfl
  have F12 : Fun K "__init__" "End.__init__" sEI (He.ma K (He.ga K "End") "__init__") d12 := Hk.fun_of D12
  have b12 := F12.binds (ps := ["self", "paid"]) fun _ _ _ _ _ _ us hl => match us, hl with | [_, _], _ => rfl
  obtain ⟨d13, D13⟩ := c.def_ 13 (d := dm "Lot" "__init__" "Lot.__init__" sLI) rfl
  have F13 : Fun K "__init__" "Lot.__init__" sLI (He.ma K (He.ga K "Lot") "__init__") d13 := Hk.fun_of D13
  have b13 := F13.binds (ps := ["self", "parts"]) fun _ _ _ _ _ _ us hl => match us, hl with | [_, _], _ => rfl
  obtain ⟨d14, D14⟩ := c.def_ 14 (d := dm "Move" "__init__" "Move.__init__" sMI) rfl
  have F14 : Fun K "__init__" "Move.__init__" sMI (He.ma K (He.ga K "Move") "__init__") d14 := Hk.fun_of D14
  have b14 := F14.binds (ps := ["self", "seat", "view", "parts"]) fun _ _ _ _ _ _ us hl => match us, hl with | [_, _, _, _], _ => rfl
  obtain ⟨d15, D15⟩ := c.def_ 15 (d := dd "tree_of" sTO) rfl
  have F15 : Fun K "tree_of" "tree_of" sTO (He.ga K "tree_of") d15 := Hk.fun_of D15
  have b15 := F15.binds (ps := ["game"]) fun _ _ _ _ _ _ us hl => match us, hl with | [_], _ => rfl
  have g15 : mg "tree_of" = some (.ref (He.ga K "tree_of")) := Hk.glo_ok X G (c.fact (.glo "tree_of") (by decide +kernel))
  obtain ⟨d16, D16⟩ := c.def_ 16 (d := dd "node_at" sNA) rfl
  have F16 : Fun K "node_at" "node_at" sNA (He.ga K "node_at") d16 := Hk.fun_of D16
  have b16 := F16.binds (ps := ["play", "statement"]) fun _ _ _ _ _ _ us hl => match us, hl with | [_, _], _ => rfl
  have g16 : mg "node_at" = some (.ref (He.ga K "node_at")) := Hk.glo_ok X G (c.fact (.glo "node_at") (by decide +kernel))
  obtain ⟨d17, D17⟩ := c.def_ 17 (d := dd "joined" sJo) rfl
  have F17 : Fun K "joined" "joined" sJo (He.ga K "joined") d17 := Hk.fun_of D17
  have b17 := F17.binds (ps := ["drafts"]) fun _ _ _ _ _ _ us hl => match us, hl with | [_], _ => rfl
  have g17 : mg "joined" = some (.ref (He.ga K "joined")) := Hk.glo_ok X G (c.fact (.glo "joined") (by decide +kernel))
  obtain ⟨d18, D18⟩ := c.def_ 18 (d := dd "nodes_of" sNO) rfl
  have F18 : Fun K "nodes_of" "nodes_of" sNO (He.ga K "nodes_of") d18 := Hk.fun_of D18
  have b18 := F18.binds (ps := ["tree"]) fun _ _ _ _ _ _ us hl => match us, hl with | [_], _ => rfl
  have g18 : mg "nodes_of" = some (.ref (He.ga K "nodes_of")) := Hk.glo_ok X G (c.fact (.glo "nodes_of") (by decide +kernel))
  obtain ⟨d19, D19⟩ := c.def_ 19 (d := dd "ends_of" sEO) rfl
  have F19 : Fun K "ends_of" "ends_of" sEO (He.ga K "ends_of") d19 := Hk.fun_of D19
  have b19 := F19.binds (ps := ["tree"]) fun _ _ _ _ _ _ us hl => match us, hl with | [_], _ => rfl
  have g19 : mg "ends_of" = some (.ref (He.ga K "ends_of")) := Hk.glo_ok X G (c.fact (.glo "ends_of") (by decide +kernel))
  obtain ⟨d20, D20⟩ := c.def_ 20 (d := dd "views_of" sVO) rfl
  have F20 : Fun K "views_of" "views_of" sVO (He.ga K "views_of") d20 := Hk.fun_of D20
  have b20 := F20.binds (ps := ["tree", "seat"]) fun _ _ _ _ _ _ us hl => match us, hl with | [_, _], _ => rfl
  have g20 : mg "views_of" = some (.ref (He.ga K "views_of")) := Hk.glo_ok X G (c.fact (.glo "views_of") (by decide +kernel))
  obtain ⟨d21, D21⟩ := c.def_ 21 (d := dm "Game" "__init__" "Game.__init__" sGI) rfl
  have F21 : Fun K "__init__" "Game.__init__" sGI (He.ma K (He.ga K "Game") "__init__") d21 := Hk.fun_of D21
  have b21 := F21.binds (ps := ["self", "variables", "block"]) fun _ _ _ _ _ _ us hl => match us, hl with | [_, _, _], _ => rfl
  obtain ⟨d22, D22⟩ := c.def_ 22 (d := dd "in_tuples" sInT) rfl
  have F22 : Fun K "in_tuples" "in_tuples" sInT (He.ga K "in_tuples") d22 := Hk.fun_of D22
  have b22 := F22.binds (ps := ["data"]) fun _ _ _ _ _ _ us hl => match us, hl with | [_], _ => rfl
  have g22 : mg "in_tuples" = some (.ref (He.ga K "in_tuples")) := Hk.glo_ok X G (c.fact (.glo "in_tuples") (by decide +kernel))
  obtain ⟨d23, D23⟩ := c.def_ 23 (d := dd "_law_pool" sPool) rfl
  have F23 : Fun K "_law_pool" "_law_pool" sPool (He.ga K "_law_pool") d23 := Hk.fun_of D23
  have b23 := F23.binds (ps := ["script", "budget"]) fun _ _ _ _ _ _ us hl => match us, hl with | [_, _], _ => rfl
  have g23 : mg "_law_pool" = some (.ref (He.ga K "_law_pool")) := Hk.glo_ok X G (c.fact (.glo "_law_pool") (by decide +kernel))
  obtain ⟨d24, D24⟩ := c.def_ 24 (d := dd "_law_draw" sDraw) rfl
  have F24 : Fun K "_law_draw" "_law_draw" sDraw (He.ga K "_law_draw") d24 := Hk.fun_of D24
  have b24 := F24.binds (ps := ["pool", "size"]) fun _ _ _ _ _ _ us hl => match us, hl with | [_, _], _ => rfl
  have g24 : mg "_law_draw" = some (.ref (He.ga K "_law_draw")) := Hk.glo_ok X G (c.fact (.glo "_law_draw") (by decide +kernel))
  obtain ⟨d25, D25⟩ := c.def_ 25 (d := dd "_law_spend" sSpend) rfl
  have F25 : Fun K "_law_spend" "_law_spend" sSpend (He.ga K "_law_spend") d25 := Hk.fun_of D25
  have b25 := F25.binds (ps := ["pool"]) fun _ _ _ _ _ _ us hl => match us, hl with | [_], _ => rfl
  have g25 : mg "_law_spend" = some (.ref (He.ga K "_law_spend")) := Hk.glo_ok X G (c.fact (.glo "_law_spend") (by decide +kernel))
  obtain ⟨d26, D26⟩ := c.def_ 26 (d := dd "_law_number" sNum) rfl
  have F26 : Fun K "_law_number" "_law_number" sNum (He.ga K "_law_number") d26 := Hk.fun_of D26
  have b26 := F26.binds (ps := ["pool"]) fun _ _ _ _ _ _ us hl => match us, hl with | [_], _ => rfl
  have g26 : mg "_law_number" = some (.ref (He.ga K "_law_number")) := Hk.glo_ok X G (c.fact (.glo "_law_number") (by decide +kernel))
  obtain ⟨d27, D27⟩ := c.def_ 27 (d := dd "_law_same" sSame) rfl
  have F27 : Fun K "_law_same" "_law_same" sSame (He.ga K "_law_same") d27 := Hk.fun_of D27
  have b27 := F27.binds (ps := ["actual", "due"]) fun _ _ _ _ _ _ us hl => match us, hl with | [_, _], _ => rfl
  have g27 : mg "_law_same" = some (.ref (He.ga K "_law_same")) := Hk.glo_ok X G (c.fact (.glo "_law_same") (by decide +kernel))
  obtain ⟨d28, D28⟩ := c.def_ 28 (d := dd "_law_value" sVal) rfl
  have F28 : Fun K "_law_value" "_law_value" sVal (He.ga K "_law_value") d28 := Hk.fun_of D28
  have b28 := F28.binds (ps := ["pool", "names", "deep"]) fun _ _ _ _ _ _ us hl => match us, hl with | [_, _, _], _ => rfl
  have g28 : mg "_law_value" = some (.ref (He.ga K "_law_value")) := Hk.glo_ok X G (c.fact (.glo "_law_value") (by decide +kernel))
  obtain ⟨d29, D29⟩ := c.def_ 29 (d := dd "_law_statement" sSta) rfl
  have F29 : Fun K "_law_statement" "_law_statement" sSta (He.ga K "_law_statement") d29 := Hk.fun_of D29
  have b29 := F29.binds (ps := ["pool", "scope", "room"]) fun _ _ _ _ _ _ us hl => match us, hl with | [_, _, _], _ => rfl
  have g29 : mg "_law_statement" = some (.ref (He.ga K "_law_statement")) := Hk.glo_ok X G (c.fact (.glo "_law_statement") (by decide +kernel))
  obtain ⟨d30, D30⟩ := c.def_ 30 (d := dd "_law_block" sBlo) rfl
  have F30 : Fun K "_law_block" "_law_block" sBlo (He.ga K "_law_block") d30 := Hk.fun_of D30
  have b30 := F30.binds (ps := ["pool", "scope", "room", "most"]) fun _ _ _ _ _ _ us hl => match us, hl with | [_, _, _, _], _ => rfl
  have g30 : mg "_law_block" = some (.ref (He.ga K "_law_block")) := Hk.glo_ok X G (c.fact (.glo "_law_block") (by decide +kernel))
  obtain ⟨d31, D31⟩ := c.def_ 31 (d := dd "_law_alike" sAl) rfl
  have F31 : Fun K "_law_alike" "_law_alike" sAl (He.ga K "_law_alike") d31 := Hk.fun_of D31
  have b31 := F31.binds (ps := ["pool"]) fun _ _ _ _ _ _ us hl => match us, hl with | [_], _ => rfl
  have g31 : mg "_law_alike" = some (.ref (He.ga K "_law_alike")) := Hk.glo_ok X G (c.fact (.glo "_law_alike") (by decide +kernel))
  obtain ⟨d32, D32⟩ := c.def_ 32 (d := dd "_law_game" sGm) rfl
  have F32 : Fun K "_law_game" "_law_game" sGm (He.ga K "_law_game") d32 := Hk.fun_of D32
  have b32 := F32.binds (ps := ["pool", "moves", "most"]) fun _ _ _ _ _ _ us hl => match us, hl with | [_, _, _], _ => rfl
  have g32 : mg "_law_game" = some (.ref (He.ga K "_law_game")) := Hk.glo_ok X G (c.fact (.glo "_law_game") (by decide +kernel))
  obtain ⟨d33, D33⟩ := c.def_ 33 (d := dd "_law_number_of" sNu) rfl
  have F33 : Fun K "_law_number_of" "_law_number_of" sNu (He.ga K "_law_number_of") d33 := Hk.fun_of D33
  have b33 := F33.binds (ps := ["due", "table"]) fun _ _ _ _ _ _ us hl => match us, hl with | [_, _], _ => rfl
  have g33 : mg "_law_number_of" = some (.ref (He.ga K "_law_number_of")) := Hk.glo_ok X G (c.fact (.glo "_law_number_of") (by decide +kernel))
  obtain ⟨d34, D34⟩ := c.def_ 34 (d := dd "_law_stored" sLS) rfl
  have F34 : Fun K "_law_stored" "_law_stored" sLS (He.ga K "_law_stored") d34 := Hk.fun_of D34
  have b34 := F34.binds (ps := ["game", "table", "name", "value"]) fun _ _ _ _ _ _ us hl => match us, hl with | [_, _, _, _], _ => rfl
  have g34 : mg "_law_stored" = some (.ref (He.ga K "_law_stored")) := Hk.glo_ok X G (c.fact (.glo "_law_stored") (by decide +kernel))
  obtain ⟨d35, D35⟩ := c.def_ 35 (d := dd "_law_node" sNd) rfl
  have F35 : Fun K "_law_node" "_law_node" sNd (He.ga K "_law_node") d35 := Hk.fun_of D35
  have b35 := F35.binds (ps := ["game", "table", "views", "paid", "block", "count"]) fun _ _ _ _ _ _ us hl => match us, hl with | [_, _, _, _, _, _], _ => rfl
  have g35 : mg "_law_node" = some (.ref (He.ga K "_law_node")) := Hk.glo_ok X G (c.fact (.glo "_law_node") (by decide +kernel))
  obtain ⟨d36, D36⟩ := c.def_ 36 (d := dd "_law_tree" sLT) rfl
  have F36 : Fun K "_law_tree" "_law_tree" sLT (He.ga K "_law_tree") d36 := Hk.fun_of D36
  have b36 := F36.binds (ps := ["game"]) fun _ _ _ _ _ _ us hl => match us, hl with | [_], _ => rfl
  have g36 : mg "_law_tree" = some (.ref (He.ga K "_law_tree")) := Hk.glo_ok X G (c.fact (.glo "_law_tree") (by decide +kernel))
  obtain ⟨d37, D37⟩ := c.def_ 37 (d := dd "_law_parts" sLP) rfl
  have F37 : Fun K "_law_parts" "_law_parts" sLP (He.ga K "_law_parts") d37 := Hk.fun_of D37
  have b37 := F37.binds (ps := ["node"]) fun _ _ _ _ _ _ us hl => match us, hl with | [_], _ => rfl
  have g37 : mg "_law_parts" = some (.ref (He.ga K "_law_parts")) := Hk.glo_ok X G (c.fact (.glo "_law_parts") (by decide +kernel))
  obtain ⟨d38, D38⟩ := c.def_ 38 (d := dd "_law_views" sLV) rfl
  have F38 : Fun K "_law_views" "_law_views" sLV (He.ga K "_law_views") d38 := Hk.fun_of D38
  have b38 := F38.binds (ps := ["node", "seat", "found"]) fun _ _ _ _ _ _ us hl => match us, hl with | [_, _, _], _ => rfl
  have g38 : mg "_law_views" = some (.ref (He.ga K "_law_views")) := Hk.glo_ok X G (c.fact (.glo "_law_views") (by decide +kernel))
  obtain ⟨d39, D39⟩ := c.def_ 39 (d := dd "_law_by_hand" sBH) rfl
  have F39 : Fun K "_law_by_hand" "_law_by_hand" sBH (He.ga K "_law_by_hand") d39 := Hk.fun_of D39
  have b39 := F39.binds (ps := ["due"]) fun _ _ _ _ _ _ us hl => match us, hl with | [_], _ => rfl
  have g39 : mg "_law_by_hand" = some (.ref (He.ga K "_law_by_hand")) := Hk.glo_ok X G (c.fact (.glo "_law_by_hand") (by decide +kernel))
  obtain ⟨d40, D40⟩ := c.def_ 40 (d := dd "_law_deep" sDp) rfl
  have F40 : Fun K "_law_deep" "_law_deep" sDp (He.ga K "_law_deep") d40 := Hk.fun_of D40
  have b40 := F40.binds (ps := ["pool", "names", "deep"]) fun _ _ _ _ _ _ us hl => match us, hl with | [_, _, _], _ => rfl
  have g40 : mg "_law_deep" = some (.ref (He.ga K "_law_deep")) := Hk.glo_ok X G (c.fact (.glo "_law_deep") (by decide +kernel))
  obtain ⟨d41, D41⟩ := c.def_ 41 (d := dd "_law_like" sLk) rfl
  have F41 : Fun K "_law_like" "_law_like" sLk (He.ga K "_law_like") d41 := Hk.fun_of D41
  have b41 := F41.binds (ps := ["actual", "due"]) fun _ _ _ _ _ _ us hl => match us, hl with | [_, _], _ => rfl
  have g41 : mg "_law_like" = some (.ref (He.ga K "_law_like")) := Hk.glo_ok X G (c.fact (.glo "_law_like") (by decide +kernel))
  obtain ⟨d42, D42⟩ := c.def_ 42 (d := dd "_law_all" sLA) rfl
  have F42 : Fun K "_law_all" "_law_all" sLA (He.ga K "_law_all") d42 := Hk.fun_of D42
  have b42 := F42.binds (ps := ["node"]) fun _ _ _ _ _ _ us hl => match us, hl with | [_], _ => rfl
  have g42 : mg "_law_all" = some (.ref (He.ga K "_law_all")) := Hk.glo_ok X G (c.fact (.glo "_law_all") (by decide +kernel))
  obtain ⟨d43, D43⟩ := c.def_ 43 (d := dd "law" sLw) rfl
  have F43 : Fun K "law" "law" sLw (He.ga K "law") d43 := Hk.fun_of D43
  have b43 := F43.binds (ps := ["script"]) fun _ _ _ _ _ _ us hl => match us, hl with | [_], _ => rfl
  have g43 : mg "law" = some (.ref (He.ga K "law")) := Hk.glo_ok X G (c.fact (.glo "law") (by decide +kernel))
  obtain ⟨tV, hV⟩ := Hk.int_ok X G (c.fact (.int "VALUES" 65536) (by decide +kernel))
  obtain ⟨tM, hM⟩ := Hk.int_ok X G (c.fact (.int "MOST_NODES" 400) (by decide +kernel))
  obtain ⟨aC, hC, hC2⟩ := Hk.texts_ok X G (c.fact (.texts "CHANCES" CHS) (by decide +kernel))
  obtain ⟨aS, hS, hS2⟩ := Hk.texts_ok X G (c.fact (.texts "SEATS" SEA) (by decide +kernel))
  have TL : TxL mg := ⟨Hk.free_ok X G (c.fact (.free "isinstance") (by decide +kernel)), Hk.free_ok X G (c.fact (.free "int") (by decide +kernel)), Hk.free_ok X G (c.fact (.free "str") (by decide +kernel)), Hk.free_ok X G (c.fact (.free "len") (by decide +kernel)), Hk.free_ok X G (c.fact (.free "list") (by decide +kernel)), Hk.free_ok X G (c.fact (.free "tuple") (by decide +kernel)), Hk.free_ok X G (c.fact (.free "bool") (by decide +kernel)), Hk.free_ok X G (c.fact (.free "range") (by decide +kernel))⟩
  have TT : TxT K mg := ⟨Hk.free_ok X G (c.fact (.free "isinstance") (by decide +kernel)), Hk.free_ok X G (c.fact (.free "list") (by decide +kernel)), Hk.free_ok X G (c.fact (.free "tuple") (by decide +kernel))⟩
  have TG : TxG K mg (He.ga K "Game") := ⟨Hk.cls_ok (c.fact (.cls "Game") (by decide +kernel)), Hk.noat_ok (c.fact (.noat "Game" "variables") (by decide +kernel)), Hk.noat_ok (c.fact (.noat "Game" "block") (by decide +kernel)), Hk.glo_ok X G (c.fact (.glo "Game") (by decide +kernel)), Hk.si_ok (c.fact (.si "Game") (by decide +kernel)), Hk.free_ok X G (c.fact (.free "isinstance") (by decide +kernel))⟩
  have TP : TxPl K mg (He.ga K "Play") := ⟨Hk.cls_ok (c.fact (.cls "Play") (by decide +kernel)), Hk.noat_ok (c.fact (.noat "Play" "sizes") (by decide +kernel)), Hk.noat_ok (c.fact (.noat "Play" "stored") (by decide +kernel)), Hk.noat_ok (c.fact (.noat "Play" "paid") (by decide +kernel)), Hk.noat_ok (c.fact (.noat "Play" "seen") (by decide +kernel)), Hk.noat_ok (c.fact (.noat "Play" "todo") (by decide +kernel)), Hk.glo_ok X G (c.fact (.glo "Play") (by decide +kernel))⟩
  let cc : Cls3 := ⟨He.ga K "End", He.ga K "Lot", He.ga K "Move"⟩
  have TN : TxN K mg cc := ⟨Hk.cls_ok (c.fact (.cls "End") (by decide +kernel)), Hk.cls_ok (c.fact (.cls "Lot") (by decide +kernel)), Hk.cls_ok (c.fact (.cls "Move") (by decide +kernel)), Hk.noat_ok (c.fact (.noat "End" "paid") (by decide +kernel)), Hk.noat_ok (c.fact (.noat "Lot" "parts") (by decide +kernel)), Hk.noat_ok (c.fact (.noat "Move" "seat") (by decide +kernel)), Hk.noat_ok (c.fact (.noat "Move" "view") (by decide +kernel)), Hk.noat_ok (c.fact (.noat "Move" "parts") (by decide +kernel)), Hk.glo_ok X G (c.fact (.glo "End") (by decide +kernel)), Hk.glo_ok X G (c.fact (.glo "Lot") (by decide +kernel)), Hk.glo_ok X G (c.fact (.glo "Move") (by decide +kernel)), Hk.free_ok X G (c.fact (.free "tuple") (by decide +kernel))⟩
  have TI : TxI K mg cc := ⟨Hk.free_ok X G (c.fact (.free "isinstance") (by decide +kernel)), fun e => tyC (Hk.cls_ok (c.fact (.cls "End") (by decide +kernel))) (Hk.si_ok (c.fact (.si "End") (by decide +kernel))) e, fun e => tyC (Hk.cls_ok (c.fact (.cls "Lot") (by decide +kernel))) (Hk.si_ok (c.fact (.si "Lot") (by decide +kernel))) e, fun e => tyC (Hk.cls_ok (c.fact (.cls "Move") (by decide +kernel))) (Hk.si_ok (c.fact (.si "Move") (by decide +kernel))) e, Hk.kit_ok (c.fact (.kit "End" "End" true) (by decide +kernel)), Hk.kit_ok (c.fact (.kit "Lot" "End" false) (by decide +kernel)), Hk.kit_ok (c.fact (.kit "Move" "End" false) (by decide +kernel)), Hk.kit_ok (c.fact (.kit "End" "Move" false) (by decide +kernel)), Hk.kit_ok (c.fact (.kit "Lot" "Move" false) (by decide +kernel)), Hk.kit_ok (c.fact (.kit "Move" "Move" true) (by decide +kernel))⟩
  have lL : PySem.W.kitOne K (.ref cc.L) (.ref cc.L) = some true := Hk.kit_ok (c.fact (.kit "Lot" "Lot" true) (by decide +kernel))
  obtain ⟨iB, tB⟩ := Hk.fn_ok (c.fact (.fn "TooLarge" "__init__") (by decide +kernel))
  have TB : TxTL K mg (He.ga K "LossError") (He.ga K "TooLarge") (He.ma K (He.ga K "TooLarge") "__init__") := ⟨Hk.glo_ok X G (c.fact (.glo "LossError") (by decide +kernel)), Hk.glo_ok X G (c.fact (.glo "TooLarge") (by decide +kernel)), Hk.base_ok (c.fact (.base "LossError") (by decide +kernel)), Hk.own_ok (c.fact (.own "TooLarge") (by decide +kernel)), Hk.noat_ok (c.fact (.noat "TooLarge" "what") (by decide +kernel)), iB, tB⟩
  have hb : ∀ (s : Shared) (v : Value), BindsTo s d43 ⟨[v], []⟩ [("script", v)] := by
    obtain ⟨oc, od, kV, doc, pm, an, cdv, ct, osl, e, _, _⟩ := F43.ex
    intro s v
    rw [e]
    exact .of_eq rfl
  have e := hfa.symm.trans g43
  cases e
  refine ⟨d43, fun s v => hb s v, fun base _ _ => ?_⟩
  have m_go_on := Hk.meth_ok (c.fact (.meth "Play" "go_on") (by decide +kernel))
  have m_perform := Hk.meth_ok (c.fact (.meth "Play" "perform") (by decide +kernel))
  have m_value_now := Hk.meth_ok (c.fact (.meth "Play" "value_now") (by decide +kernel))
  have m_store := Hk.meth_ok (c.fact (.meth "Play" "store") (by decide +kernel))
  have m_ask := Hk.meth_ok (c.fact (.meth "Play" "ask") (by decide +kernel))
  have m_behind := Hk.meth_ok (c.fact (.meth "Play" "behind") (by decide +kernel))
  have k_Game := Hk.mkr_ok (c.fact (.mkr "Game") (by decide +kernel))
  have k_Play := Hk.mkr_ok (c.fact (.mkr "Play") (by decide +kernel))
  have k_End := Hk.mkr_ok (c.fact (.mkr "End") (by decide +kernel))
  have k_Lot := Hk.mkr_ok (c.fact (.mkr "Lot") (by decide +kernel))
  have k_Move := Hk.mkr_ok (c.fact (.mkr "Move") (by decide +kernel))
  have CO : Fn0 P w K mg base 1 "combined" ["operator", "first", "second"] spCo _ _ := ⟨ok_co F2 hV (Hk.free_ok X G (c.fact (.free "max") (by decide +kernel))), g2, F2.kp, b2⟩
  have VA : ∀ n : Nat, Fn0 P w K mg base (n + 1) "value_of" ["expression", "stored"] (spVo n) (He.ga K "value_of") d1 := fun n => by
    induction n with
    | zero => exact ⟨ok_vo0 F1, g1, F1.kp, b1⟩
    | succ n ih => exact ⟨ok_voS (by omega) F1 g1 b1 ih.ok CO, g1, F1.kp, b1⟩
  have VN : Mt0 P w K mg base (He.ga K "Play") 7 "value_now" ["self", "expression"] (spVN (He.ga K "Play")) _ _ := ⟨ok_vn F6 TP (VA 5), m_value_now, b6⟩
  have ST : Mt0 P w K mg base (He.ga K "Play") 1 "store" ["self", "name", "value"] (spStore (He.ga K "Play")) _ _ := ⟨ok_store F7 TP, m_store, b7⟩
  have PE : Mt0 P w K mg base (He.ga K "Play") 8 "perform" ["self", "statement"] (spPerf (He.ga K "Play")) _ _ := ⟨ok_perf (by decide) F5 TP VN ST, m_perform, b5⟩
  have GO : Mt0 P w K mg base (He.ga K "Play") 9 "go_on" ["self"] (spGo (He.ga K "Play")) _ _ := ⟨ok_go F4 TP hC hC2 PE, m_go_on, b4⟩
  have AS : Mt0 P w K mg base (He.ga K "Play") 1 "ask" ["self", "seat", "move", "results"] (spAsk (He.ga K "Play")) _ _ := ⟨ok_ask F8 TP (Hk.free_ok X G (c.fact (.free "tuple") (by decide +kernel))), m_ask, b8⟩
  have GP := ok_pin (P := P) (w := w) (base := base) F3 TP
  have SE : Fn0 P w K mg base 1 "seat_of" ["statement"] spSeat _ _ := ⟨ok_seat F11, g11, F11.kp, b11⟩
  have BE : Mt0 P w K mg base (He.ga K "Play") 3 "behind" ["self", "statement", "result"] (spBeh (He.ga K "Play")) _ _ := ⟨ok_beh F9 TP (Hk.free_ok X G (c.fact (.free "list") (by decide +kernel))) (Hk.free_ok X G (c.fact (.free "dict") (by decide +kernel))) hS hS2 k_Play GP b3 SE ST, m_behind, b9⟩
  have PO : Fn0 P w K mg base 3 "play_of" ["game"] (spPO (He.ga K "Game") (He.ga K "Play")) _ _ := ⟨ok_po F10 TP TG (Hk.free_ok X G (c.fact (.free "list") (by decide +kernel))) (Hk.free_ok X G (c.fact (.free "dict") (by decide +kernel))) hS hS2 k_Play GP b3, g10, F10.kp, b10⟩
  have GE := ok_ei (P := P) (w := w) (base := base) (c := cc) F12 TN
  have GL := ok_li (P := P) (w := w) (base := base) (c := cc) F13 TN
  have GM := ok_mi (P := P) (w := w) (base := base) (c := cc) F14 TN
  have NA : Fn0 P w K mg base 3 "node_at" ["play", "statement"] (spNA cc (He.ga K "Play")) _ _ := ⟨ok_na F16 TP TN k_End GE b12 k_Lot GL b13 k_Move GM b14 SE AS, g16, F16.kp, b16⟩
  have JO : Fn0 P w K mg base 1 "joined" ["drafts"] (spJo K cc) _ _ := ⟨ok_jo F17 TN (Hk.free_ok X G (c.fact (.free "range") (by decide +kernel))), g17, F17.kp, b17⟩
  have GB := ok_tl (P := P) (w := w) (base := base) F0 TB
  have TO := ok_to (P := P) (w := w) (base := base) F15 TP TB GB b0 (Hk.free_ok X G (c.fact (.free "len") (by decide +kernel))) (Hk.free_ok X G (c.fact (.free "reversed") (by decide +kernel))) (Hk.free_ok X G (c.fact (.free "range") (by decide +kernel))) hM PO GO NA BE JO
  have NO : Fn0 P w K mg base 1 "nodes_of" ["tree"] (spNO cc) _ _ := ⟨ok_no F18 TN TI, g18, F18.kp, b18⟩
  have EO : Fn0 P w K mg base 2 "ends_of" ["tree"] (spEO cc) _ _ := ⟨ok_eo F19 TN TI NO, g19, F19.kp, b19⟩
  have VO : Fn0 P w K mg base 2 "views_of" ["tree", "seat"] (spVO cc) _ _ := ⟨ok_vwo F20 TN TI (Hk.free_ok X G (c.fact (.free "len") (by decide +kernel))) (Hk.free_ok X G (c.fact (.free "list") (by decide +kernel))) NO, g20, F20.kp, b20⟩
  have IT : ∀ n : Nat, Fn0 P w K mg base (n + 1) "in_tuples" ["data"] (spTup n) (He.ga K "in_tuples") d22 := fun n => by
    induction n with
    | zero => exact ⟨ok_int0 F22 TT, g22, F22.kp, b22⟩
    | succ n ih => exact ⟨ok_intS F22 TT g22 b22 ih.ok, g22, F22.kp, b22⟩
  have IZ : Fn0 P w K mg base 18 "in_tuples" ["data"] (spTupZ 16) _ _ := ⟨ok_intZ F22 TT g22 b22 (IT 16).ok, g22, F22.kp, b22⟩
  have GZ := ok_gz (P := P) (w := w) (base := base) F21 TG IZ
  have PL : Fn0 P w K mg base 1 "_law_pool" ["script", "budget"] (spPool K) _ _ := ⟨ok_pool F23 TL, g23, F23.kp, b23⟩
  have DR : Fn0 P w K mg base 1 "_law_draw" ["pool", "size"] spDraw _ _ := ⟨ok_draw F24 TL, g24, F24.kp, b24⟩
  have SP : Fn0 P w K mg base 1 "_law_spend" ["pool"] spSpend _ _ := ⟨ok_spend F25, g25, F25.kp, b25⟩
  have NM : Fn0 P w K mg base 2 "_law_number" ["pool"] spNum _ _ := ⟨ok_num F26 DR, g26, F26.kp, b26⟩
  have SAa : ∀ n : Nat, Fn0 P w K mg base (n + 1) "_law_same" ["actual", "due"] (spSame n) (He.ga K "_law_same") d27 := fun n => by
    induction n with
    | zero => exact ⟨ok_same0 F27 TL, g27, F27.kp, b27⟩
    | succ n ih => exact ⟨ok_sameS F27 TL ih, g27, F27.kp, b27⟩
  have VL : ∀ n : Nat, Fn0 P w K mg base (n + 3) "_law_value" ["pool", "names", "deep"] (spVal n) (He.ga K "_law_value") d28 := fun n => by
    induction n with
    | zero => exact ⟨ok_val0 F28 TL DR NM, g28, F28.kp, b28⟩
    | succ n ih => exact ⟨ok_valS (by omega) F28 TL DR NM ih, g28, F28.kp, b28⟩
  have DE : ∀ n : Nat, Fn0 P w K mg base (n + 5) "_law_deep" ["pool", "names", "deep"] (spDeep n) (He.ga K "_law_deep") d40 := fun n => by
    induction n with
    | zero => exact ⟨ok_dp0 F40 (VL 1), g40, F40.kp, b40⟩
    | succ n ih => exact ⟨ok_dpS (by omega) F40 DR ((VL 1).up (by omega)) ih, g40, F40.kp, b40⟩
  have SB : ∀ n : Nat, Fn0 P w K mg base (2 * n + 11) "_law_block" ["pool", "scope", "room", "most"] (spBlo n) (He.ga K "_law_block") d30 := fun n => by
    induction n with
    | zero => exact ⟨ok_blo (by decide) F30 TL DR SP ⟨ok_sta0 (by decide) F29 TL DR ((VL 2).up (by decide)) (DE 4), g29, F29.kp, b29⟩, g30, F30.kp, b30⟩
    | succ n ih => exact ⟨ok_blo (k := 2 * n + 12) (by omega) F30 TL DR SP ⟨ok_staS (by omega) F29 TL DR ((VL 2).up (by decide)) ih (DE 4), g29, F29.kp, b29⟩, g30, F30.kp, b30⟩
  have AL : Fn0 P w K mg base 2 "_law_alike" ["pool"] spAl _ _ := ⟨ok_al F31 TL DR, g31, F31.kp, b31⟩
  have GM1 : Fn0 P w K mg base 20 "_law_game" ["pool", "moves", "most"] spGm _ _ := ⟨ok_gm F32 TL DR NM AL (SB 4), g32, F32.kp, b32⟩
  have NU : ∀ n : Nat, Fn0 P w K mg base (n + 1) "_law_number_of" ["due", "table"] (spVo n) (He.ga K "_law_number_of") d33 := fun n => by
    induction n with
    | zero => exact ⟨ok_nu0 F33, g33, F33.kp, b33⟩
    | succ n ih => exact ⟨ok_nuS F33 g33 b33 (Hk.free_ok X G (c.fact (.free "int") (by decide +kernel))) (Hk.free_ok X G (c.fact (.free "max") (by decide +kernel))) ih.ok, g33, F33.kp, b33⟩
  have LS : Fn0 P w K mg base 1 "_law_stored" ["game", "table", "name", "value"] spLS _ _ := ⟨ok_ls F34 (Hk.free_ok X G (c.fact (.free "dict") (by decide +kernel))) (Hk.free_ok X G (c.fact (.free "int") (by decide +kernel))), g34, F34.kp, b34⟩
  have ND : ∀ n : Nat, Fn0 P w K mg base (n + 7) "_law_node" ["game", "table", "views", "paid", "block", "count"] (spNd n) (He.ga K "_law_node") d35 := fun n => by
    induction n with
    | zero => exact ⟨ok_nd0 F35 TL (NU 5) LS, g35, F35.kp, b35⟩
    | succ n ih => exact ⟨ok_ndS (by omega) F35 TL (NU 5) LS ih, g35, F35.kp, b35⟩
  have LT : Fn0 P w K mg base 16 "_law_tree" ["game"] spLT _ _ := ⟨ok_lt F36 (ND 8), g36, F36.kp, b36⟩
  have LP : Fn0 P w K mg base 1 "_law_parts" ["node"] spLP _ _ := ⟨ok_lp F37, g37, F37.kp, b37⟩
  have LV : ∀ n : Nat, Fn0 P w K mg base (n + 2) "_law_views" ["node", "seat", "found"] (spLV P w n) (He.ga K "_law_views") d38 := fun n => by
    induction n with
    | zero => exact ⟨ok_lv0 F38 TL LP, g38, F38.kp, b38⟩
    | succ n ih => exact ⟨ok_lvS (by omega) F38 TL LP ih, g38, F38.kp, b38⟩
  have BH : ∀ n : Nat, Fn0 P w K mg base (n + 3) "_law_by_hand" ["due"] (spBH cc n) (He.ga K "_law_by_hand") d39 := fun n => by
    induction n with
    | zero => exact ⟨ok_bh0 F39 TN k_End GE b12, g39, F39.kp, b39⟩
    | succ n ih => exact ⟨ok_bhS (by omega) F39 g39 b39 ih.ok LP TN k_End GE b12 k_Lot GL b13 k_Move GM b14, g39, F39.kp, b39⟩
  have LK : ∀ n : Nat, Fn0 P w K mg base (n + 6) "_law_like" ["actual", "due"] (spLk cc n) (He.ga K "_law_like") d41 := fun n => by
    induction n with
    | zero => exact ⟨ok_lk0 F41 TN TI (SAa 4), g41, F41.kp, b41⟩
    | succ n ih => exact ⟨ok_lkS (by omega) F41 TL TN TI lL LP (SAa 4) ih, g41, F41.kp, b41⟩
  have LA : ∀ n : Nat, Fn0 P w K mg base (n + 1) "_law_all" ["node"] (spLA n) (He.ga K "_law_all") d42 := fun n => by
    induction n with
    | zero => exact ⟨ok_la0 F42, g42, F42.kp, b42⟩
    | succ n ih => exact ⟨ok_laS (by omega) F42 g42 b42 ih.ok LP, g42, F42.kp, b42⟩
  have TE : TxE K mg (He.ga K "TooLarge") (He.ga K "LossError") (He.ga K "BadPaper") (He.ga K "BadPlan") (He.ga K "BadRatio") (He.ga K "BadText") (He.ga K "NoPlan") (He.ga K "NoShare") := ⟨Hk.err_ok (c.fact (.err "TooLarge") (by decide +kernel)), TB.nB, TB.mgL, Hk.exm_ok (c.fact (.exm "TooLarge" "LossError" true) (by decide +kernel)), TB.mgB, Hk.glo_ok X G (c.fact (.glo "BadPaper") (by decide +kernel)), Hk.glo_ok X G (c.fact (.glo "BadPlan") (by decide +kernel)), Hk.glo_ok X G (c.fact (.glo "BadRatio") (by decide +kernel)), Hk.glo_ok X G (c.fact (.glo "BadText") (by decide +kernel)), Hk.glo_ok X G (c.fact (.glo "NoPlan") (by decide +kernel)), Hk.glo_ok X G (c.fact (.glo "NoShare") (by decide +kernel)), Hk.kit_ok (c.fact (.kit "TooLarge" "BadPaper" false) (by decide +kernel)), Hk.kit_ok (c.fact (.kit "TooLarge" "BadPlan" false) (by decide +kernel)), Hk.kit_ok (c.fact (.kit "TooLarge" "BadRatio" false) (by decide +kernel)), Hk.kit_ok (c.fact (.kit "TooLarge" "BadText" false) (by decide +kernel)), Hk.kit_ok (c.fact (.kit "TooLarge" "NoPlan" false) (by decide +kernel)), Hk.kit_ok (c.fact (.kit "TooLarge" "NoShare" false) (by decide +kernel))⟩
  exact ok_law F43 ⟨TL, EO, VO, LK 8, LA 8, BH 8, LV 8, SAa 4⟩ ⟨TG, TG.mgC, TO, g15, F15.kp, b15, k_Game, GZ, b21, PL, DR, GM1, LT, ok_sameH F27 TL⟩ TE
end K1

set_option Elab.async false
set_option linter.all false
set_option maxRecDepth 100000
set_option maxHeartbeats 0
namespace K1
open PySem PySem.Spec PyProof.Rows L2
abbrev R : PySem.W.OpenRow := PySem.W.OpenLaw.row PySem.Challenge.rw_lostleast_k10_trees
abbrev hk : PySem.W.Hook := Hk.hookF 6 fa fn
def ob (s : PySem.W.SharedT) : He.AlD := Hk.obsFG 6 fa fn (HandSHeadRun.getT s)
theorem ob_eq (s : PySem.W.SharedT) : ob s = hk.obs s.abs := Hk.obsF_eq (HandSHeadRun.getT_eq s)
def loose1 : List Str := ["LossError", "BadText", "BadPlan", "BadPaper", "NoShare", "TooLarge", "NoPlan", "BadRatio", "VALUES", "value_of", "combined", "CHANCES", "SEATS", "Play", "play_of", "seat_of", "MOST_NODES", "End", "Lot", "Move", "tree_of", "node_at", "joined", "nodes_of", "ends_of", "views_of", "Game", "in_tuples"]
def loose2 : List Str := ["_law_pool", "_law_draw", "_law_spend", "_law_number", "_law_same", "_law_value", "_law_statement", "_law_block", "_law_alike", "_law_game", "_law_number_of", "_law_stored", "_law_node", "_law_tree", "_law_parts", "_law_views", "_law_by_hand", "_law_deep", "_law_like", "_law_all"]
theorem hrun (w : World) : HandSHeadRun.RunEq R (PySem.W.view R.prog [54]) hk ob 6000 (loose1 ++ loose2) w := by
  intro os
  kernel_rfl
end K1

set_option Elab.async false
set_option linter.all false
set_option maxRecDepth 100000
open PySem PySem.W PySem.Calls PyProof.Rows
set_option maxHeartbeats 0 in
theorem PySem.Challenge.cw_lostleast_k10_trees_holds : PySem.Challenge.rw_lostleast_k10_trees.Holds := by
  w_on; o_law
  refine HandSHeadRun.head_any (r := OpenLaw.row PySem.Challenge.rw_lostleast_k10_trees) (q := view (OpenLaw.row PySem.Challenge.rw_lostleast_k10_trees).prog [54]) (H := K1.hk) (ob := K1.ob) (M := 6000) (loose := K1.loose1 ++ K1.loose2)
    (d := HandSHeadRun.topDef (OpenLaw.row PySem.Challenge.rw_lostleast_k10_trees).prog 54) (kwd := []) K1.ob_eq
    (by kernel_rfl) (fun s => by kernel_rfl) K1.hrun (by kernel_rfl) (by kernel_rfl) (by kernel_rfl) (by rfl) (by first | assumption | decide +kernel) (by decide +kernel) ⟨rfl, rfl, rfl, rfl, rfl, by decide +kernel⟩ ?hw ?hc
  case hw => w_witness2
  case hc =>
    refine Hk.walk_end (l := PySem.Challenge.rw_lostleast_k10_trees) (n := 63) (k := 22) (x := "script") (CX := fun _ => L2.CX0) rfl (by decide) (by kernel_rfl) ⟨rfl, by decide, by decide⟩ ?F (fun w H s e s' z => ?X)
    case F =>
      intro w mg fa h Y G hmg0
      obtain ⟨K, KX, c⟩ := Y
      have hmg : mg ("law" : PySem.Str) = some (.ref fa) := by
        have e : (HandSHeadRun.topDef (OpenLaw.row PySem.Challenge.rw_lostleast_k10_trees).prog 54).name = ("law" : PySem.Str) := by kernel_rfl
        rw [← e]
        exact hmg0
      obtain ⟨fd, hb, hF⟩ := K1.facts (P := (PySem.Challenge.rw_lostleast_k10_trees).prog) (w := w) KX G hmg c
      exact ⟨K, fd, K1.spLaw K, KX, hb, fun H a ns hl _ hS => ⟨a, ns, rfl, hS, fun _ => rfl⟩, hF⟩
    case X =>
      exact z.elim
