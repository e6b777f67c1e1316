import PyProof.Rows.All
import Wide.All
import OpenK.AllK
import Wide.FinOn
import HandS.ForMost
import HandS.Wide
import HandS.IsInst
import HandS.ClsMeth
import HandS.Property
import HandS.FStr
import HandS.Defaults
import HandS.MakeKw
import HandS.MakeKwOnly
import HandS.Style
import HandS.StrMore
import PyProof.ReprRoads
import HandS.ForExc
import HandS.ExcIs
import HandS.ExcField
import HandS.ExcInit
import HandS.ExcValue
import HandS.Set
import HandS.Strs
import HandS.Zip
import HandS.SetBool
import HandS.DictComp
import HandS.Walk
import HandS.Dict
import KE.DataMinMax
import HandS.SortKw
import HandS.Deep
import KE.DataEq
import PySem.Challenge.RW_indexlogs_k44_wrong_and_nearest_by_all_o
set_option Elab.async false
set_option linter.all false
set_option maxRecDepth 100000
set_option maxHeartbeats 4000000
/-! Own layer: more rules over the hand layer. -/
namespace L2
open ClX
open PySem PySem.Spec PyProof.Rows

/-! ### operators of more than one kind -/
section
variable {X : Cx}
def rAddX : R2 := fun x y H Q => rI0 (fun i j => .int (i + j)) x y H Q ∨ (∃ i j, x = .str i ∧ y = .str j ∧ i.length + j.length ≤ sizeLine ∧ Q (.str (i ++ j)) H) ∨ rCat x y H Q
theorem op_addX : OpR X (binaryOp .Add) rAddX := op_add.or (op_add_str.or op_cat)
def rMulX : R2 := fun x y H Q => rI CMulW (fun i j => .int (i * j)) x y H Q ∨ rRep x y H Q
theorem op_mulX : OpR X (binaryOp .Mult) rMulX := op_mulW.or op_rep
def CPowW (i j : Int) : Prop := 0 ≤ j ∧ j ≤ 1000 ∧ i.natAbs.log2 < 2000
theorem op_powX : OpR X (binaryOp .Pow) (rI CPowW fun i j => .int (i ^ j.toNat)) := opI fun i j _ _ _ _ _ hc q => by
  obtain ⟨h0, h1, h2⟩ := hc
  have b : Builtin.Int.intBits i ≤ 2000 := by
    unfold Builtin.Int.intBits
    split <;> omega
  refine pow_int h0 ?_ q
  have hh : Builtin.Int.intBits i * j.toNat ≤ 2000 * 1000 := Nat.mul_le_mul b (by omega)
  have : ((Builtin.Int.intBits i : Nat) : Int) * j = ((Builtin.Int.intBits i * j.toNat : Nat) : Int) := by
    rw [Int.natCast_mul, Int.toNat_of_nonneg h0]
  rw [this]
  omega
theorem cpow {i j : Int} {b : Nat} (h0 : 0 ≤ j) (h1 : j ≤ 1000) (hb : i.natAbs < 2 ^ b) (hp : 0 < b) (h : b ≤ 2000) : CPowW i j :=
  ⟨h0, h1, Nat.lt_of_lt_of_le (PySem.Flt.log2_lt_of hp hb) h⟩
def rFdivX : R2 := rI CDivW fun i j => .int (i / j)
theorem op_fdivX : OpR X (binaryOp .FloorDiv) rFdivX := op_fdivW
/-- scalars, or data of any depth -/
def rEqX (K : PySem.W.Frag) : R2 := fun x y H Q => rEq x y H Q ∨ rEqD K x y H Q
def rNeX (K : PySem.W.Frag) : R2 := fun x y H Q => rNe x y H Q ∨ rNeD K x y H Q
theorem op_eqX {k : Nat} (hr : Room k X.A) : OpR X (compareOp .Eq) (rEqX X.K) := op_eq.or (op_eqD hr.units)
theorem op_neX {k : Nat} (hr : Room k X.A) : OpR X (compareOp .NotEq) (rNeX X.K) := op_ne.or (op_neD hr.units)
end
section
variable {σ : St} {H : Hp} {Q : VK} {i j : Int} {x y : Str}
theorem addI (h : Q (.int (i + j)) H) : rAddX (.int i) (.int j) H Q := .inl ⟨i, j, rfl, rfl, h⟩
theorem addS (h0 : x.length + y.length ≤ sizeLine) (h : Q (.str (x ++ y)) H) : rAddX (.str x) (.str y) H Q := .inr (.inl ⟨x, y, rfl, rfl, h0, h⟩)
theorem mulI (h0 : CMulW i j) (h : Q (.int (i * j)) H) : rMulX (.int i) (.int j) H Q := .inl ⟨i, j, rfl, rfl, h0, h⟩
theorem eqS {K : PySem.W.Frag} {a b : V} (h0 : scal a b = true) (h : Q (.bl (decide (a = b))) H) : rEqX K a b H Q := .inl ⟨h0, h⟩
theorem neS {K : PySem.W.Frag} {a b : V} (h0 : scal a b = true) (h : Q (.bl (!decide (a = b))) H) : rNeX K a b H Q := .inl ⟨h0, h⟩
end

/-! ### names of the module, constants of a class -/
section
variable {X : Cx} {x f : Str} {pos : Pos} {i : Int} {t : Tok}
theorem pe_globC (hm : ∃ t, X.mg x = some (.int i t)) (hg : Gl X x := by rfl) (hd : (x == ("__debug__" : Str)) = false := by decide) : PE X (.Name x pos) (tC (.int i)) := by
  obtain ⟨t, hm⟩ := hm
  exact pe_glob hg hm ⟨_, rfl⟩ hd
/-- C.f, the class by its name, a constant of the class -/
theorem pe_clsv {C : Addr} {v : V} {e : Expr} (c : ∃ mc u, CRead X.K C mc ∧ CVal X.K C mc f v u) (he : PE X e (tC (.ref C))) (hab : attributeBase e f X.env (eval e X.env) = eval e X.env := by rfl) :
    PE X (.Attribute e f pos) (tC v) := by
  refine ⟨fun pins s σ H Q I h => (pe_cval (pos := pos) he hab).run pins s σ H Q I ?_⟩
  obtain ⟨mc, u, c1, c2⟩ := c
  exact ⟨C, mc, v, u, rfl, c1, c2, h⟩
end

/-! ### o.m(.., k = v) -/
def tMethK (C : Addr) (m : Str) (sp : Sp) (gV : List V → List V → List V) (E : XK) (ta : TE) (t tk : TA) : TE := fun σ H Q => ta σ H fun x H1 => ∃ a dx fs, x = .ref a ∧ H1 a = some (.ins C dx fs) ∧ fs.lookup m = none ∧
  t σ H1 fun vs H2 => tk σ H2 fun zs H3 => sp (gV (x :: vs) zs) H3 Q E
section
variable {X : Cx} {CX : CXT} {k : Nat} {f C : Addr} {fd : FuncData} {ps ks : List Str} {sp : Sp} {E : XK} {m : Str} {pos apos : Pos} {o : Expr} {kws : List Keyword} {ta : TE} {t tk : TA} {g : List Value → List Value → List Value} {gV : List V → List V → List V}
theorem pe_methK0 {pl : Sem Bool} (he : PE X o ta) (c : Cls X.K C) (hm : Meth X.K C m f) (F : FnOk X.prog X.w X.K X.mg X.base CX k f fd ps sp) (hr : Room k X.A) (hb : KBinds X.K fd ps ks g gV) (hx : Passes CX X E)
    (hkw : PK X kws tk) (hall : (backToKw pos (keywordEach kws X.env)).all (·.1.isSome) = true := by rfl) (hks : (backToKw pos (keywordEach kws X.env)).filterMap (·.1) = ks := by rfl)
    (hpl : ((backTo pos (starEach [] X.env)).any (·.1) || (backToKw pos (keywordEach kws X.env)).any (·.1.isNone)) = false := by rfl)
    (ht : eval (.Call (.Attribute o m apos) [] kws pos) X.env = (do
      let ov ← eval o X.env
      standAt apos.atName
      let (f, first) ← holding [ov] (getMethod ov m pl)
      callWith pos f first (backTo pos (starEach [] X.env)) (backToKw pos (keywordEach kws X.env))) := by rfl) :
    PE X (.Call (.Attribute o m apos) [] kws pos) (tMethK C m sp gV E ta tNil tk) := by
  refine ⟨fun pins s σ H Q I h => ?_⟩
  refine PySem.W.methodCall_KW (pl := pl) (thn (he.run pins s σ H _ I h) fun u s1 ⟨x, H1, I1, rx, a, dx, fs, ex, ea, l, q⟩ => ?_) ht
  subst ex
  obtain rfl : u = Value.ref a := rx
  refine getmeth_ok I1 ea c hm l ?_
  refine PySem.W.callWith_KW0 (first := [.ref a]) (h₀ := X.base) I.ok.mod.kin hm.kp hall ?_ hpl
  refine thn (hkw.run pos pins s1 σ H1 _ I1 q) fun ws s2 ⟨zs, H2, I2, rz, q2⟩ => ⟨I2.kIn, ?_⟩
  rw [hks]
  exact run_fnk (us := [.ref a]) (vs := [.ref a]) F hr hb hx I2 (.cons rfl .nil) rz q2
end
section
variable {K : PySem.W.Frag}
/-- how a call by keywords binds (no defaults) -/
theorem Fun.kbinds {x qual : Str} {st : Stmt} {f : Addr} {fd : FuncData} {ps : List Str} (F : Fun K x qual st f fd) (n : Nat) (ks : List Str) (g : {α : Type} → List α → List α → List α) (hlen : ∀ {α : Type} (us ws : List α), (g us ws).length = ps.length → us.length = n ∧ ws.length = ks.length)
    (hrel : ∀ {vs : List V} {us : List Value} {zs : List V} {ws : List Value}, Vals vs us → Vals zs ws → Vals (g vs zs) (g us ws))
    (h : ∀ (kV doc pm : Value) (an : Option Addr) (cdv ct : Value) (us ws : List Value), us.length = n → ws.length = ks.length → bindArgs (PySem.W.fnOf x qual (defArgs st) (defBody st) (defScope st) .none kV doc pm an cdv ct) ⟨us, ks.zip ws⟩ = pure (ps.zip (g us ws))) :
    KBinds K fd ps ks (fun us ws => g us ws) (fun vs zs => g vs zs) := by
  obtain ⟨oc, od, kV, doc, pm, an, cdv, ct, osl, rfl, lk, hcd⟩ := F.ex
  refine ⟨fun s us ws _ hl => .of_eq ?_, hrel⟩
  obtain ⟨h1, h2⟩ := hlen us ws hl
  exact h kV doc pm an cdv ct us ws h1 h2
end
end L2

namespace L2
open ClX
open PySem PySem.Spec PyProof.Rows

/-! ### a def of the text behind the top; its promise, without naming its record -/
structure FnT (K : PySem.W.Frag) (x qual : Str) (st : Stmt) (f : Addr) : Prop where
  ex : ∃ fd, Fun K x qual st f fd
theorem FnT.kp {K : PySem.W.Frag} {x qual : Str} {st : Stmt} {f : Addr} (h : FnT K x qual st f) : PySem.W.keepIn K (.ref f) = true := h.ex.elim fun _ F => F.kp
theorem fnT_mk {K : PySem.W.Frag} {x qual : Str} {st : Stmt} {f : Addr} {oc : Value} {od an : Option Addr} {osl : Array (Option Value)} {kV doc pm cdv ct : Value}
    (l : K.lookup f = some ⟨oc, od, .func (PySem.W.fnOf x qual (defArgs st) (defBody st) (defScope st) .none kV doc pm an cdv ct), osl⟩)
    (c : PySem.W.codeIn K cdv qual = true) (k : PySem.W.keepIn K (.ref f) = true) : FnT K x qual st f := ⟨_, fun_mk l c k⟩
theorem gconst_mk {K : PySem.W.Frag} {x : Str} {u : Value} {n : Int} (h : PySem.W.nsIn K mainGlobals x = some (some u)) (e : ∃ t, u = .int n t) : ∃ t, PySem.W.nsIn K mainGlobals x = some (some (.int n t)) := by
  obtain ⟨t, rfl⟩ := e
  exact ⟨t, h⟩
/-- called by positions -/
structure Ok1 (P : Program) (w : World) (K : PySem.W.Frag) (mg : Str → Option Value) (base : Heap) (k : Nat) (f : Addr) (ps : List Str) (sp : Sp) : Prop where
  ex : ∃ fd, FnOk P w K mg base CX0 k f fd ps sp ∧ Binds K fd ps []
  kp : PySem.W.keepIn K (.ref f) = true
section
variable {P : Program} {w : World} {K : PySem.W.Frag} {mg : Str → Option Value} {base : Heap}
/-- how no defaults bind: for a def of at most six parameters -/
def BindsAll (st : Stmt) (x qual : Str) (ps : List Str) : Prop :=
  ∀ (kV doc pm : Value) (an : Option Addr) (cdv ct : Value) (us : List Value), us.length = ps.length → bindArgs (PySem.W.fnOf x qual (defArgs st) (defBody st) (defScope st) .none kV doc pm an cdv ct) ⟨us, []⟩ = pure (ps.zip us)
theorem FnT.ok {x qual : Str} {st : Stmt} {f : Addr} {N ps : List Str} {k : Nat} {sp : Sp} (h : FnT K x qual st f) (S : FnScope N ps (defScope st)) (hb : BindsAll st x qual ps)
    (len : ∀ vs H Q E, sp vs H Q E → vs.length = ps.length)
    (body : ∀ (cdv : Value) (A : Around) (outer : List Env) (s : Shared) (H : Hp) (vs : List V) (Q : VK) (E : XK), Room k (A.deeper (envOfC qual (defScope st) s.heap.objs.size f cdv)) → sp vs H Q E →
      ∃ t, PSs (cxOf CX0 P w K mg base N qual (defScope st) f cdv A outer s H E).nox (defBody st) t ∧ t { nx := fun _ H' => Q .non H', rt := Q } (start N vs) H) :
    Ok1 P w K mg base (k + 1) f ps sp := by
  obtain ⟨fd, F⟩ := h.ex
  exact ⟨⟨fd, F.ok S len body, F.binds hb⟩, F.kp⟩
theorem Ok1.mono {j k : Nat} {f : Addr} {ps : List Str} {sp : Sp} (h : Ok1 P w K mg base j f ps sp) (le : j ≤ k) : Ok1 P w K mg base k f ps sp := by
  obtain ⟨⟨fd, F, b⟩, kp⟩ := h
  exact ⟨⟨fd, F.mono le, b⟩, kp⟩
theorem Ok1.imp {k : Nat} {f : Addr} {ps : List Str} {sp sp' : Sp} (h : Ok1 P w K mg base k f ps sp) (i : ∀ vs H Q E, sp' vs H Q E → sp vs H Q E) : Ok1 P w K mg base k f ps sp' := by
  obtain ⟨⟨fd, F, b⟩, kp⟩ := h
  exact ⟨⟨fd, F.imp i, b⟩, kp⟩
end
section
variable {X : Cx} {k : Nat} {f C : Addr} {ps : List Str} {sp : Sp} {x m : Str} {p pos apos : Pos} {e o : Expr} {es : List Expr} {ta : TE} {t : TA}
theorem po_call (G : Ok1 X.prog X.w X.K X.mg X.base k f ps sp) (hr : Room k X.A) (hm : X.mg x = some (.ref f)) (ha : PA X (e :: es) t) (hg : Gl X x := by rfl)
    (hdb : (x == ("__debug__" : Str)) = false := by decide) (he : starEach (e :: es) X.env = (false, eval e X.env) :: starEach es X.env := by rfl) (hpl : (backTo pos (starEach es X.env)).any (·.1) = false := by rfl) :
    PE X (.Call (.Name x p) (e :: es) [] pos) (tCall sp [] E0 t) := by
  obtain ⟨⟨fd, F, b⟩, kp⟩ := G
  exact pe_call F hr hg hm kp b .nil pass0 ha hdb he hpl
theorem po_call0 (G : Ok1 X.prog X.w X.K X.mg X.base k f ps sp) (hr : Room k X.A) (hm : X.mg x = some (.ref f)) (hg : Gl X x := by rfl)
    (hdb : (x == ("__debug__" : Str)) = false := by decide) : PE X (.Call (.Name x p) [] [] pos) (tCall sp [] E0 tNil) := by
  obtain ⟨⟨fd, F, b⟩, kp⟩ := G
  exact pe_call0 F hr hg hm kp b .nil pass0 hdb
theorem po_make (M : Mk X.K C f) (G : Ok1 X.prog X.w X.K X.mg X.base k f ps sp) (hr : Room (k + 1) X.A) (hm : X.mg x = some (.ref C)) (ha : PA X (e :: es) t) (hg : Gl X x := by rfl)
    (hdb : (x == ("__debug__" : Str)) = false := by decide) (he : starEach (e :: es) X.env = (false, eval e X.env) :: starEach es X.env := by rfl) (hpl : (backTo pos (starEach es X.env)).any (·.1) = false := by rfl) :
    PE X (.Call (.Name x p) (e :: es) [] pos) (tMake C sp [] E0 t) := by
  obtain ⟨⟨fd, F, b⟩, kp⟩ := G
  exact pe_make M F hr hg hm b .nil pass0 ha hdb he hpl
theorem po_meth {pl : Sem Bool} (c : Cls X.K C) (hm : Meth X.K C m f) (G : Ok1 X.prog X.w X.K X.mg X.base k f ps sp) (hr : Room k X.A) (he : PE X o ta) (ha : PA X (e :: es) t)
    (hst : starEach (e :: es) X.env = (false, eval e X.env) :: starEach es X.env := by rfl) (hpl : (backTo pos (starEach es X.env)).any (·.1) = false := by rfl)
    (ht : eval (.Call (.Attribute o m apos) (e :: es) [] pos) X.env = (do
      let ov ← eval o X.env
      standAt apos.atName
      let (f, first) ← holding [ov] (getMethod ov m pl)
      callWith pos f first (backTo pos (starEach (e :: es) X.env)) (backToKw pos (keywordEach [] X.env))) := by rfl) :
    PE X (.Call (.Attribute o m apos) (e :: es) [] pos) (tMeth C m sp [] E0 ta t) := by
  obtain ⟨⟨fd, F, b⟩, kp⟩ := G
  exact pe_meth he c hm F hr b .nil pass0 ha hst hpl ht
end

/-! ### promises of defs that show data (repr): nothing is being shown around them -/
structure OkG (P : Program) (w : World) (K : PySem.W.Frag) (mg : Str → Option Value) (base : Heap) (k : Nat) (f : Addr) (ps : List Str) (sp : Sp) : Prop where
  kp : PySem.W.keepIn K (.ref f) = true
  go : ∀ (B : Around) (up : List Env) (s : Shared) (H : Hp) (us : List Value) (vs : List V) (Q : VK), Room k B → B.guards = some [] → Env0 P w K mg base B up s H → Vals vs us → sp vs H Q E0 →
    codeAny (model P w) B (.call (.ref f) ⟨us, []⟩) (CR CX0 up P w H s Q E0) s
section
variable {P : Program} {w : World} {K : PySem.W.Frag} {mg : Str → Option Value} {base : Heap}
theorem Ok1.toG {k : Nat} {f : Addr} {ps : List Str} {sp : Sp} (h : Ok1 P w K mg base k f ps sp) : OkG P w K mg base k f ps sp := by
  obtain ⟨⟨fd, F, b⟩, kp⟩ := h
  refine ⟨kp, fun B up s H us vs Q room _ e0 rv q => ?_⟩
  have n : (us ++ []).length = ps.length := by
    rw [List.append_nil, ← rv.length]
    exact F.len _ _ _ _ q
  have bt := b s us (e0.mod.kin.keeps fun c o z => (e0.bs c o z).1) n
  rw [List.append_nil] at bt
  exact F.run B up s H ⟨us, []⟩ us vs Q E0 room e0 bt rv q
theorem FnT.okG {x qual : Str} {st : Stmt} {f : Addr} {N ps : List Str} {k : Nat} {sp : Sp} (h : FnT K x qual st f) (S : FnScope N ps (defScope st)) (hb : BindsAll st x qual ps)
    (len : ∀ vs H Q E, sp vs H Q E → vs.length = ps.length)
    (body : ∀ (cdv : Value) (A : Around) (outer : List Env) (s : Shared) (H : Hp) (vs : List V) (Q : VK), Room k (A.deeper (envOfC qual (defScope st) s.heap.objs.size f cdv)) → A.guards = some [] → sp vs H Q E0 →
      ∃ t, PSs (cxOf CX0 P w K mg base N qual (defScope st) f cdv A outer s H E0).nox (defBody st) t ∧ t { nx := fun _ H' => Q .non H', rt := Q } (start N vs) H) :
    OkG P w K mg base (k + 1) f ps sp := by
  obtain ⟨fd, F⟩ := h.ex
  have kp := F.kp
  have bd := F.binds hb
  obtain ⟨oc, od, kV, dc, pm, an, cv, ct, sl, rfl, lk, cd⟩ := F.ex
  refine ⟨kp, fun B up s H us vs Q room gd e0 rv q => ?_⟩
  have n := len _ _ _ _ q
  have KH : K.In s.heap := e0.mod.kin.keeps fun c o z => (e0.bs c o z).1
  have noLim : s.heap.NoLimit := e0.mod.nolimit.keeps fun c o z => (e0.bs c o z).1
  have bt := bd s us KH (by rw [List.append_nil, ← rv.length]; exact n)
  rw [List.append_nil] at bt
  refine codeAny_call_function room.depth (KH _ _ lk) rfl S.co S.gen rfl (PySem.W.codeRec_of KH cd) (bt _ _ _ _ ?_)
  refine wpAny_newFunctionEnv_cells S.kind (fun ⟨y, v⟩ hy => ?_) fun en eq s1 ic => ?_
  · exact (S.par y (List.of_mem_zip hy).1).imp id fun z => ⟨z, PySem.W.cellsFrom_some _ _ _ (.inl z)⟩
  · subst eq
    obtain ⟨t, d, r⟩ := body cv B up s H vs Q (room.deeper _) gd q
    have I0 := inv_start (CX := CX0) (P := P) (w := w) (K := K) (mg := mg) (base := base) (E := E0) (cd := cv) (f := f) (qual := qual) S room.hd e0 n rv ic
    refine ⟨noLim.keeps ic.toInCall.keep, codeAny_func (wpAny_mono (d.nox.run [] s1 (start N vs) H _ I0 r) (fun fl s2 z => ?_) fun _ _ z => z)⟩
    cases fl with
    | ret u => obtain ⟨v, σ2, H2, J, rel, fin⟩ := z; exact ⟨v, H2, J.os, J.bare, J.base, J.hok, rel, fin⟩
    | next => obtain ⟨σ2, H2, J, fin⟩ := z; exact ⟨.non, H2, J.os, J.bare, J.base, J.hok, rfl, fin⟩
    | brk => obtain ⟨σ2, H2, J, fin⟩ := z; exact fin.elim
    | cont => obtain ⟨σ2, H2, J, fin⟩ := z; exact fin.elim
end
section
variable {X : Cx} {k : Nat} {f C : Addr} {ps : List Str} {sp : Sp} {x m : Str} {p pos apos : Pos} {e o : Expr} {es : List Expr} {ta : TE} {t : TA}
theorem pg_call (G : OkG X.prog X.w X.K X.mg X.base k f ps sp) (hr : Room k X.A) (gd : X.A.guards = some []) (hm : X.mg x = some (.ref f)) (ha : PA X (e :: es) t) (hg : Gl X x := by rfl)
    (hdb : (x == ("__debug__" : Str)) = false := by decide) (he : starEach (e :: es) X.env = (false, eval e X.env) :: starEach es X.env := by rfl) (hpl : (backTo pos (starEach es X.env)).any (·.1) = false := by rfl) :
    PE X (.Call (.Name x p) (e :: es) [] pos) (tCall sp [] E0 t) := by
  refine ⟨fun pn s σ H Q I h => wpAny_Call_Name_kw (ld_glob I hg hm ?_ hdb)⟩
  refine PySem.W.callWith_K (h₀ := X.base) I.ok.mod.kin G.kp (thn (ha.run pos pn s σ H _ I h) fun us s1 ⟨vs, H1, I1, r, q⟩ => ⟨I1.kIn, ?_⟩) he hpl
  have q1 : sp (vs ++ []) H1 Q E0 := q
  rw [List.append_nil] at q1
  refine wpAny_call (codeAny_mono (G.go X.A X.stack s1 H1 us vs Q hr gd I1.env0 r q1) fun res s2 z => ?_)
  match res, z with
  | .error _, z => exact z.elim
  | .ok (.ret u), z => exact I1.after z
  | .ok .next, z => exact z.elim
  | .ok .brk, z => exact z.elim
  | .ok .cont, z => exact z.elim
end
end L2

namespace L2
open ClX
open PySem PySem.Spec PyProof.Rows

/-! ### repr of data -/
structure Shows (d : PyData) : Prop where
  sh : d.showable = true
  nd : d.hasDict = false
  dp : d.depth ≤ 40
  sz : d.shown.length ≤ sizeLine
def rRepr (K : PySem.W.Frag) : List V → Hp → VK → Prop := fun xs H Q => ∃ x d, xs = [x] ∧ Dp K H x d ∧ Shows d ∧ Q (.str d.shown) H
theorem call_reprD {X : Cx} {k : Nat} (hr : Room k X.A) (gd : X.A.guards = some []) : CallR X (.builtin "repr") (rRepr X.K) := by
  intro pins s σ H xs us Q I r h
  obtain ⟨x, d, rfl, rd, S, q⟩ := h
  obtain ⟨u, rfl, ru⟩ := vals1 r
  have fin : ∀ h' t, (∀ b o, s.heap.get? b = some o → h'.get? b = some o) → ∀ tk, EP X pins σ Q (.str d.shown tk) { s with heap := h', toks := t } := fun h' t keep tk => ⟨.str d.shown, H, I.kept keep, ⟨tk, rfl⟩, q⟩
  have un : X.A.units + (d.depth + 1) < cLine := by
    have := hr.units
    have := S.dp
    omega
  have rds := Dp.reads I d x u rd ru
  cases rd with
  | non => cases ru; exact PySem.P.repr_of_none (fin s.heap _ (fun _ _ z => z) _)
  | bl b => cases ru; exact PySem.P.repr_of_bool (fin s.heap _ (fun _ _ z => z) _)
  | int i =>
    obtain ⟨t, rfl⟩ := ru
    have z := S.sh
    simp only [PyData.showable, decide_eq_true_eq] at z
    exact PySem.P.repr_of_int z (fin s.heap _ (fun _ _ z => z) _)
  | str y =>
    obtain ⟨t, rfl⟩ := ru
    have z := S.sz
    simp only [PyData.shown] at z
    exact PySem.P.repr_of_str (fin s.heap _ (fun _ _ z => z) _) z
  | lst h1 h2 =>
    cases ru
    obtain ⟨as, rd⟩ := rds
    exact repr_of_reads' rd S.sh (PyData.noDict_hsm S.nd) gd un (fun _ _ z => z) (fun h' t tk keep => fin h' tk keep t) S.sz
  | tup h1 h2 =>
    cases ru
    obtain ⟨as, rd⟩ := rds
    exact repr_of_reads' rd S.sh (PyData.noDict_hsm S.nd) gd un (fun _ _ z => z) (fun h' t tk keep => fin h' tk keep t) S.sz
end L2

namespace L2
open ClX
open PySem PySem.Spec PyProof.Rows
/-! ### called with one keyword -/
def glue1 {α : Type} (us ws : List α) : List α := if us.length = 1 ∧ ws.length = 1 then us ++ ws else []
structure OkK (P : Program) (w : World) (K : PySem.W.Frag) (mg : Str → Option Value) (base : Heap) (k : Nat) (f : Addr) (ps : List Str) (kw : Str) (sp : Sp) : Prop where
  ex : ∃ fd, FnOk P w K mg base CX0 k f fd ps sp ∧ KBinds K fd ps [kw] (fun us ws => glue1 us ws) (fun vs zs => glue1 vs zs)
section
variable {P : Program} {w : World} {K : PySem.W.Frag} {mg : Str → Option Value} {base : Heap}
theorem FnT.okK {x qual kw p0 : Str} {st : Stmt} {f : Addr} {N : List Str} {k : Nat} {sp : Sp} (h : FnT K x qual st f) (S : FnScope N [p0, kw] (defScope st))
    (hb : ∀ (kV doc pm : Value) (an : Option Addr) (cdv ct u v : Value), bindArgs (PySem.W.fnOf x qual (defArgs st) (defBody st) (defScope st) .none kV doc pm an cdv ct) ⟨[u], [(kw, v)]⟩ = pure [(p0, u), (kw, v)])
    (len : ∀ vs H Q E, sp vs H Q E → vs.length = 2)
    (body : ∀ (cdv : Value) (A : Around) (outer : List Env) (s : Shared) (H : Hp) (vs : List V) (Q : VK) (E : XK), Room k (A.deeper (envOfC qual (defScope st) s.heap.objs.size f cdv)) → sp vs H Q E →
      ∃ t, PSs (cxOf CX0 P w K mg base N qual (defScope st) f cdv A outer s H E).nox (defBody st) t ∧ t { nx := fun _ H' => Q .non H', rt := Q } (start N vs) H) :
    OkK P w K mg base (k + 1) f [p0, kw] kw sp := by
  obtain ⟨fd, F⟩ := h.ex
  refine ⟨fd, F.ok S len body, F.kbinds 1 [kw] glue1 (fun us ws hl => ?_) (fun r q => ?_) fun kV doc pm an cdv ct us ws h1 h2 => ?_⟩
  · unfold glue1 at hl
    split at hl
    · assumption
    · cases hl
  · unfold glue1
    rw [r.length, q.length]
    split
    · exact r.append q
    · exact .nil
  · match us, h1, ws, h2 with
    | [u], _, [v], _ => exact hb kV doc pm an cdv ct u v
end
section
variable {X : Cx} {k : Nat} {f C : Addr} {ps : List Str} {kw : Str} {sp : Sp} {m : Str} {pos apos : Pos} {o : Expr} {kws : List Keyword} {ta : TE} {tk : TA}
theorem po_methK {pl : Sem Bool} (c : Cls X.K C) (hm : Meth X.K C m f) (G : OkK X.prog X.w X.K X.mg X.base k f ps kw sp) (hr : Room k X.A) (he : PE X o ta)
    (hkw : PK X kws tk) (hall : (backToKw pos (keywordEach kws X.env)).all (·.1.isSome) = true := by rfl) (hks : (backToKw pos (keywordEach kws X.env)).filterMap (·.1) = [kw] := by rfl)
    (hpl : ((backTo pos (starEach [] X.env)).any (·.1) || (backToKw pos (keywordEach kws X.env)).any (·.1.isNone)) = false := by rfl)
    (ht : eval (.Call (.Attribute o m apos) [] kws pos) X.env = (do
      let ov ← eval o X.env
      standAt apos.atName
      let (f, first) ← holding [ov] (getMethod ov m pl)
      callWith pos f first (backTo pos (starEach [] X.env)) (backToKw pos (keywordEach kws X.env))) := by rfl) :
    PE X (.Call (.Attribute o m apos) [] kws pos) (tMethK C m sp (fun vs zs => glue1 vs zs) E0 ta tNil tk) := by
  obtain ⟨fd, F, b⟩ := G.ex
  exact pe_methK0 he c hm F hr b pass0 hkw hall hks hpl ht
end

/-- a statement, then the rest, with a word of one's own between them -/
def tMid (t u : TS) : TS := fun D σ H => ∃ M : St → Hp → Prop, t { D with nx := M } σ H ∧ ∀ σ1 H1, M σ1 H1 → u D σ1 H1
theorem pss_mid {X : Cx} {st : Stmt} {more : List Stmt} {t u : TS} (a : PS X st t) (b : PSs X more u) : PSs X (st :: more) (tMid t u) := by
  refine ⟨fun pn s σ H D I ⟨M, h, g⟩ => wpAny_execs_cons (thn (a.run pn s σ H { D with nx := M } I h) fun fl s1 z => ?_)⟩
  match fl, z with
  | .next, ⟨σ1, H1, I1, z⟩ => exact b.run pn s1 σ1 H1 D I1 (g σ1 H1 z)
  | .ret _, z => exact z
  | .brk, z => exact z
  | .cont, z => exact z
/-! ### small steps of readings -/
section
variable {K : PySem.W.Frag} {H : Hp} {Q : VK} {p : Addr} {xs : List V} {i : Int} {v : V} {z : Str} {c : Nat}
theorem ixL (h : H p = some (.lst xs)) (ha : atI xs i = some v) (q : Q v H) : rIx K (.ref p) (.int i) H Q := .inl ⟨p, xs, i, v, rfl, rfl, SqL.of h, ha, q⟩
theorem ixSq (h : SqL K H p xs) (ha : atI xs i = some v) (q : Q v H) : rIx K (.ref p) (.int i) H Q := .inl ⟨p, xs, i, v, rfl, rfl, h, ha, q⟩
theorem ixT (h : H p = some (.tup xs)) (ha : atI xs i = some v) (q : Q v H) : rIx K (.ref p) (.int i) H Q := .inr (.inl ⟨p, xs, i, v, rfl, rfl, SqT.of h, ha, q⟩)
theorem ixS (hz : z.length ≤ sizeLine) (ha : atI z.cps.toList i = some c) (q : Q (.str ⟨#[c]⟩) H) : rIx K (.str z) (.int i) H Q := .inr (.inr ⟨z, i, c, rfl, rfl, hz, ha, q⟩)
theorem setL {Qs : Hp → Prop} {j : Nat} (h : H p = some (.lst xs)) (hj : ixN xs.length i = some j) (q : Qs (upd H p (.lst (xs.set j v)))) : rSetL (.ref p) (.int i) v H Qs := ⟨p, xs, i, j, rfl, rfl, h, hj, q⟩
theorem szS {n : Nat} (h : n ≤ 1000000) : n ≤ sizeLine := Nat.le_trans h (by decide)
theorem isI {c : V} {t u : Value} {b : Bool} {x : V} (hc : ClsV c u) (ht : TyX K H x t) (hk : PySem.W.kitOne K t u = some b) (q : Q (.bl b) H) : rIsi K [x, c] H Q := ⟨x, c, t, u, b, rfl, hc, ht, hk, q⟩
end
/-- all that was tracked is as it was, but at a -/
def But (a : Addr) (H H' : Hp) : Prop := ∀ b o, H b = some o → b ≠ a → H' b = some o
theorem But.refl {a : Addr} {H : Hp} : But a H H := fun _ _ h _ => h
theorem But.trans {a : Addr} {H H1 H2 : Hp} (x : But a H H1) (y : But a H1 H2) : But a H H2 := fun b o h n => y b o (x b o h n) n
theorem But.same {a : Addr} {H H1 : Hp} (x : Same H H1) : But a H H1 := fun b o h _ => x b o h
theorem But.upd {a : Addr} {H : Hp} {o : HO} : But a H (L2.upd H a o) := fun b u h n => by
  rw [upd_ne n]
  exact h
theorem Same.new {H : Hp} {a : Addr} {o : HO} (h : H a = none) : Same H (L2.upd H a o) := fun b u e => by
  rw [upd_ne (ne_of_none e h)]
  exact e
/-- what is new since H0 may change -/
theorem Same.but {H0 H H1 : Hp} {a : Addr} (s : Same H0 H) (h : H0 a = none) (b : But a H H1) : Same H0 H1 := fun c o e => b c o (s c o e) (ne_of_none e h)
end L2

namespace L2
open ClX
open PySem PySem.Spec PyProof.Rows
/-! ### the end, for a law whose defs show data -/
section
variable {P : Program} {w : World} {K : PySem.W.Frag} {mg mb : Str → Option Value} {s1 : Shared} {vs : List Value} {ns : List Int} {a : Addr}
/-- nothing is tracked but the script, unless it is an object of the module -/
def onlyS (K : PySem.W.Frag) (a : Addr) (vs : List Value) (ns : List Int) : Hp := fun b => if b = a ∧ K.lookup a = none then some (.frz { cls := .type "list", data := .seq vs.toArray } (.lst (ns.map V.int))) else none
theorem onlyS_some {b : Addr} {o : HO} (h : onlyS K a vs ns b = some o) : b = a ∧ K.lookup a = none ∧ o = .frz { cls := .type "list", data := .seq vs.toArray } (.lst (ns.map V.int)) := by
  unfold onlyS at h
  split at h
  · rename_i c
    exact ⟨c.1, c.2, (Option.some.inj h).symm⟩
  · cases h
theorem lawG {k : Nat} {fa : Addr} {sp : Sp} (KX : K.In s1.heap) (hg : s1.heap.Ns mainGlobals mg) (hb : s1.heap.Ns builtinsNs mb) (hbb : ∀ x : Str, x ≠ "__name__" → mb x = bootBuiltins x) (hl : s1.heap.NoLimit) (gn : s1.gens = #[])
    (ha : s1.heap.get? a = some { cls := .type "list", data := .seq vs.toArray }) (hi : IntsAre vs ns) (hz : ns.length ≤ sizeLine) (room : Room k callerA)
    (F : ∀ base : Heap, K.In base → base.Ns mainGlobals mg → OkG P w K mg base k fa ["script"] sp) (hsp : ∀ H : Hp, SqL K H a (ns.map V.int) → sp [.ref a] H (fun v _ => v = .bl true) E0) :
    codeAny (model P w) callerA (.call (.ref fa) ⟨[.ref a], []⟩) (fun r s' => r = .ok (.ret (.bool true)) ∧ OldK s1.heap s'.heap ∧ s'.os = s1.os ∧ AllBare s'.gens) s1 := by
  have rel := vals_ints hi
  have len := hi.length
  have H := onlyS K a vs ns
  have hidden : ∀ {b : Addr} {o : Obj}, s1.heap.get? b = some o → onlyS K a vs ns b = none → (hidT s1.heap (onlyS K a vs ns)).get? b = some o := fun z n => hidT_get z n
  have free : ∀ {b : Addr} {o : Obj} {es : Array DictEntry} {n : Nat}, s1.heap.get? b = some o → o.data = .dict es n → onlyS K a vs ns b = none := fun {b o es n} z d => by
    cases q : onlyS K a vs ns b with
    | none => rfl
    | some u =>
      have e := (onlyS_some q).1
      rw [e, ha] at z
      cases z
      cases d
  have names : ∀ {b : Addr} {m : Str → Option Value}, s1.heap.Ns b m → (hidT s1.heap (onlyS K a vs ns)).Ns b m := fun ⟨o, es, n, z, d, r⟩ => ⟨o, es, n, hidden z (free z d), d, r⟩
  have KB : K.In (hidT s1.heap (onlyS K a vs ns)) := fun b o z => hidden (KX b o z) (by
    cases q : onlyS K a vs ns b with
    | none => rfl
    | some u =>
      obtain ⟨e, n, _⟩ := onlyS_some q
      rw [e, n] at z
      cases z)
  have lim : (hidT s1.heap (onlyS K a vs ns)).NoLimit := by
    obtain ⟨m, h1, h2⟩ := hl
    exact ⟨m, names h1, h2⟩
  have hok : HOk P w (onlyS K a vs ns) s1.heap := fun b u q => by
    obtain ⟨e, _, rfl⟩ := onlyS_some q
    subst e
    exact ⟨ha, by rw [List.length_map]; exact hz, vs, _, rel, ha⟩
  have sq : SqL K (onlyS K a vs ns) a (ns.map V.int) := by
    cases q : K.lookup a with
    | none => exact .inl (.inr ⟨_, if_pos ⟨rfl, q⟩⟩)
    | some o =>
      have z := KX a o q
      rw [ha] at z
      cases z
      exact .inr ⟨_, vs.toArray, _, q, rfl, rfl, rfl, by rw [List.size_toArray, len]; exact hz, by simpa using rel⟩
  have none_mem : ∀ b : Addr, b ∉ frs [] := fun b z => by cases z
  have e0 : Env0 P w K mg (hidT s1.heap (onlyS K a vs ns)) callerA [] s1 (onlyS K a vs ns) :=
    { frames := rfl, mod := ⟨KB, names hg, ⟨mb, names hb, hbb⟩, lim⟩, bs := fun b o z => of_hidT z, bsz := Nat.le_of_eq (hidT_size _ _), funs := trivial, frf := fun b z => (none_mem b z).elim, hok := hok, bare := .of_eq gn }
  refine codeAny_mono ((F _ KB (names hg)).go callerA [] s1 (onlyS K a vs ns) [.ref a] [.ref a] _ room rfl e0 (.cons rfl .nil) (hsp _ sq)) fun r s2 z => ?_
  match r, z with
  | .error _, z => exact z.elim
  | .ok .next, z => exact z.elim
  | .ok .brk, z => exact z.elim
  | .ok .cont, z => exact z.elim
  | .ok (.ret u), ⟨v, H2, os, bare, un, hok2, ru, q⟩ =>
    obtain rfl : v = .bl true := q
    obtain rfl : u = Value.bool true := ru
    refine ⟨rfl, OldK.of_keep fun b o z => ?_, os, bare⟩
    cases q : onlyS K a vs ns b with
    | none => exact un.keep b o z q (none_mem b) (none_mem b)
    | some u =>
      obtain ⟨e, _, rfl⟩ := onlyS_some q
      have z2 := (hok2 b _ (un.frzs b _ _ q)).1
      rw [e, ha] at z
      cases z
      exact z2
end
theorem walkG {l : PySem.W.OpenLaw} {n k : Nat} {q : Program} {loose : List Str} {XP : (Str → Option Value) → Heap → Prop} {YP : World → Heap → Prop} {d : DefRec} {K : Params → PySem.W.Frag} {sp : PySem.W.Frag → Sp}
    (hn : l.most = some n) (hn2 : n ≤ sizeLine) (hdf : d.params.defaults = []) (room : Room k callerA) (hY : ∀ (w : World) (h : Heap), YP w h → (K w.params).In h)
    (F : ∀ (w : World) (mg : Str → Option Value) (fa : Addr) (h : Heap), (K w.params).In h → h.Ns mainGlobals mg → mg d.name = some (.ref fa) → ∀ base : Heap, (K w.params).In base → base.Ns mainGlobals mg → OkG l.prog w (K w.params) mg base k fa ["script"] (sp (K w.params)))
    (hsp : ∀ (K : PySem.W.Frag) (H : Hp) (a : Addr) (ns : List Int), ns.length ≤ n → SqL K H a (ns.map V.int) → sp K [.ref a] H (fun v _ => v = .bl true) E0) :
    PySem.W.WalkO q loose XP YP l.row.toRowW d [] (fun f vs => PySem.call f vs) := by
  refine Att.attach_call hn hdf fun w s0 s1 mg mb fa o pm cd doc a vs ns G Y _ _ _ hm ho hi hl hg => ?_
  have KX := hY w _ Y
  exact lawG KX G.T.g G.T.b G.T.builtins G.T.nolimit hg ho hi (Nat.le_trans hl hn2) room (F w mg fa _ KX G.T.g hm) fun H hS => hsp _ H a ns hl hS
end L2

set_option Elab.async false
set_option linter.all false
set_option maxRecDepth 100000
set_option maxHeartbeats 4000000
/-! Own layer: a caught error that is kept behind its except suite. -/
namespace L2
open ClX
open PySem PySem.Spec PyProof.Rows

/-- an error of the class cls, with the dict d, at a -/
def errO (cls : Value) (d : Option Addr) (a : Addr) : HO := .ext fun h => ∃ (oe : Obj) (vs : Array Value), h.get? a = some oe ∧ Zc cls d oe ∧ oe.data = .fields vs
theorem errO_ok {P : Program} {w : World} {H : Hp} {h : Heap} {a : Addr} {cls : Value} {d : Option Addr} {oe : Obj} {vs : Array Value} (e : h.get? a = some oe) (z : Zc cls d oe) (f : oe.data = .fields vs) : ObjOk P w H h a (errO cls d a) :=
  ⟨⟨oe, vs, e, z, f⟩, ⟨oe, e⟩, fun _ _ ⟨o, u, q, r⟩ k => ⟨o, u, k o q, r⟩⟩
/-- the context of an except suite, the error being tracked -/
abbrev Cx.held (X : Cx) (a : Addr) (pn : List (Addr × Obj)) : Cx := { X with A := X.A.mark (some (.ref a)), calm := false, pn := pn, xe := fun _ _ => False }
section
variable {X : Cx} {pins : List (Addr × Obj)} {σ : St} {H : Hp} {sI s' s : Shared} {B : Heap}
theorem Cx.Ok.held (ok : X.Ok) (a : Addr) (pn : List (Addr × Obj)) : (X.held a pn).Ok :=
  { mod := ok.mod, kind := ok.kind, glob := ok.glob, blt := ok.blt, above := ok.above, inj := ok.inj, has := ok.has, cab := ok.cab, hd := fun z => (by cases z), frames := ok.frames, stk := ok.stk, exf := ok.exf, bs := ok.bs, bsz := ok.bsz, noex := ok.noex, exfs := ok.exfs, funs := ok.funs, frf := ok.frf }
theorem Inv.held (I : Inv X pins σ H s) (a : Addr) : Inv (X.held a (X.pn ++ pins)) [] σ H s :=
  { ok := I.ok.held _ _, os := I.os, bare := I.bare, base := I.base, loc := I.loc, cell := I.cell, free := I.free, freeC := I.freeC, hok := I.hok, len := I.len,
    pin := fun p hp => I.pin p (by rw [List.append_nil] at hp; exact hp) }
theorem Inv.unheld {a : Addr} {pn : List (Addr × Obj)} (I : Inv (X.held a (X.pn ++ pins)) pn σ H s) (ok : X.Ok) : Inv X pins σ H s :=
  { ok := ok, os := I.os, bare := I.bare, base := I.base, loc := I.loc, cell := I.cell, free := I.free, freeC := I.freeC, hok := I.hok, len := I.len,
    pin := fun p hp => I.pin p (List.mem_append_left _ hp) }
/-- the state that an error leaves on the ground, the error tracked -/
theorem Inv.landedE {a : Addr} {cls : Value} {d : Option Addr} {oe : Obj} {vs : Array Value} (I : Inv X pins σ H sI) (nb : ∀ b o, sI.heap.get? b = some o → b ∉ frs X.stack → B.get? b = some o) (st : B.StaysIn s'.heap)
    (up : sI.heap.UpToSlots s'.heap) (os : s'.os = sI.os) (ag : AllBare s'.gens) (na : H a = none) (nB : B.get? a = none) (nF : a ∉ frs X.stack) (he : s'.heap.get? a = some oe) (hz : Zc cls d oe) (hf : oe.data = .fields vs) :
    Inv X pins σ (upd H a (errO cls d a)) s' := by
  have nI : sI.heap.get? a = none := by
    cases q : sI.heap.get? a with
    | none => rfl
    | some o =>
      have z := nb a o q nF
      rw [nB] at z
      cases z
  have ne : ∀ b o, sI.heap.get? b = some o → b ≠ a := fun b o q z => by
    rw [z, nI] at q
    cases q
  have hok0 : HOk X.prog X.w H s'.heap := HOk.kept (I.inGround nb) st
  have hok : HOk X.prog X.w (upd H a (errO cls d a)) s'.heap := HOk.laidN hok0 (fun _ _ z => z) na (errO_ok he hz hf)
  have keepS : ∀ b o, sI.heap.get? b = some o → b ∉ frs X.stack → s'.heap.get? b = some o := fun b o q n => st b o (nb b o q n)
  have J := I.call (H' := upd H a (errO cls d a)) (h' := s'.heap) (g' := s'.gens) (t' := s'.toks) (d' := s'.drawn) (ch := [])
    { keep := fun b o q _ n _ => keepS b o q n
      slot := fun b o q _ n _ => by
        obtain ⟨_, o1, e1, hnf⟩ := I.stack.mem n
        rw [q] at e1
        cases e1
        exact up b o q hnf
      free := fun b o q n _ => by
        rw [upd_ne (ne b o q)]
        exact n
      there := fun b o q _ => by
        by_cases n : b ∈ frs X.stack
        · obtain ⟨_, o1, e1, hnf⟩ := I.stack.mem n
          rw [q] at e1
          cases e1
          obtain ⟨sl, z⟩ := up b o q hnf
          exact ⟨_, z⟩
        · exact ⟨o, keepS b o q n⟩
      tups := fun b xs q => by
        rw [upd_ne (ne_of_none q na)]
        exact q
      frzs := fun b o u q => by
        rw [upd_ne (ne_of_none q na)]
        exact q
      tbls := fun b ps q => ⟨#[], by rw [upd_ne (ne_of_none q na), q]; simp⟩ } hok ag (fun _ z => nomatch z)
  obtain ⟨a1, a2, a3, a4, a5⟩ := s'
  have e5 : a5 = sI.os := os
  subst e5
  exact J

/-- what the clause wishes of an error of the body: it takes it, and the suite goes on with the error tracked; slot i is the clause's name -/
def wKept (K : PySem.W.Frag) (c : Value) (i : Nat) (ts : TS) (D : Ends) : WX := fun cls d σ H => PySem.W.exmOne K cls c = some true ∧ ∀ a, H a = none →
  ts ⟨fun σ1 H1 => D.nx (σ1.set i none) H1, D.rt, fun σ1 H1 => D.bk (σ1.set i none) H1, fun σ1 H1 => D.ct (σ1.set i none) H1⟩ (σ.set i (some (.ref a))) (upd H a (errO cls d a))
theorem ps_try_kept {x n : Str} {c : Value} {i : Nat} {body suite : List Stmt} {b0 : Stmt} {np pos pos' : Pos} {tb : WX → TS} {ts : TS}
    (stk : X.stack = X.env :: X.outer) (frm : X.env.frame = some X.env.locals) (hN : X.N.Nodup) (hi : X.N[i]? = some n) (hl : X.env.kindOf n = some .local) (hc : Names X x c)
    (hb : ∀ (W : WX) (pn : List (Addr × Obj)) (xe : Value → Shared → Prop), Takes (X.tr pn xe) W → PassesOwn (model X.prog X.w) X.A X.env xe → PSs (X.tr pn xe) body (tb W))
    (hsu : ∀ (a : Addr) (pn : List (Addr × Obj)), PSs (X.held a pn) (b0 :: suite) ts) :
    PS X (.Try body [.ExceptHandler (some (.Name x np)) (some n) (b0 :: suite) pos'] [] [] pos) (fun D σ H => tb (wKept X.K c i ts D) D σ H) := by
  refine ⟨fun pn s σ H D I h => ?_⟩
  have ok := I.ok
  have fr2 : X.A.frames = some (X.env :: X.outer) := by rw [ok.frames, stk]
  let seen : Value → Shared → Prop := fun e s₁ => wpAny (model X.prog X.w) X.A (noteFrame e X.env) (fun _ s₂ => wpAny (model X.prog X.w) X.A (setFlight e none) (fun _ s₃ =>
    wpAny (model X.prog X.w) X.A (handleBy e X.env [.ExceptHandler (some (.Name x np)) (some n) (b0 :: suite) pos']) (SP X pn D) X.xe s₃) X.xe s₂) X.xe s₁
  have caught : ∀ u s1, XE (X.tr (X.pn ++ pn) seen) (wKept X.K c i ts D) u s1 → seen u s1 := fun u s1 xx => by
    obtain ⟨a, B, sI, pn2, σ1, H1, cls, d, rfl, J0, nb, up, sky, na, os, ag, yes, go⟩ := xx
    have J : Inv X pn σ1 H1 sI := J0.ofTry ok
    have sky1 : Sky B (X.env :: X.outer) a (Zc cls d) X.env.locals s1.heap := by
      rw [← stk]
      exact sky
    show wpAny (model X.prog X.w) X.A (noteFrame (.ref a) X.env) _ _ _
    refine Sky.land Zc.steady fr2 frm sky1 fun h3 fl3 up3 => ?_
    have offF : ∀ {h : Heap} {o : Obj} {vs : Array Value}, h.FunFrames B (X.env :: X.outer) → h.get? a = some o → o.data = .fields vs → a ∉ frs X.stack := fun {h o vs} ff e dd hm => by
      rw [stk] at hm
      obtain ⟨_, o2, e2, hnf⟩ := ff.mem hm
      rw [e] at e2
      cases e2
      exact hnf _ dd
    obtain ⟨oe3, vs3, he3, hz3, hd3⟩ := fl3.there
    have T3 := (J.landedE (s' := { s1 with heap := h3 }) nb fl3.1 (up.trans up3) os ag na fl3.2.1 (offF fl3.2.2.1 he3 hd3) he3 hz3 hd3).held a
    refine wpAny_handleBy_cons (codeAny_handlers_test ?_) (fun z => by cases z)
    have LT : PySem.W.Looks (model X.prog X.w) h3 (typeOf (.ref a)) cls := fun A2 Q2 E2 s2 k2 q2 => wpAny_typeOf_ref (k2 _ _ he3) (by rw [hz3.1]; exact q2)
    have LM := PySem.W.exm_one (M := model X.prog X.w) T3.kIn LT yes
    have look : ∀ {Q2 : Value → Shared → Prop} {E2 : Value → Shared → Prop}, Q2 c { s1 with heap := h3 } → wpAny (model X.prog X.w) (X.A.mark (some (.ref a))) (eval (.Name x np) X.env) Q2 E2 { s1 with heap := h3 } := fun {Q2 E2} q2 => by
      obtain ⟨g1, g2, g3 | ⟨g3, g4, g5⟩⟩ := hc
      · exact ld_glob (X := X.held a (X.pn ++ pn)) T3 g1 g3 q2 g2
      · exact ld_blt (X := X.held a (X.pn ++ pn)) T3 g1 g3 g4 q2 g5 g2
    refine look (LM.here (codeAny_handlers_suite_as ?_))
    refine HandSPX.lands_againZ fl3 fun h4 fl4 up4 => ?_
    obtain ⟨oe4, vs4, he4, hz4, hd4⟩ := fl4.there
    have T4 := (J.landedE (s' := { s1 with heap := h4 }) nb fl4.1 ((up.trans up3).trans up4) os ag na fl4.2.1 (offF fl4.2.2.1 he4 hd4) he4 hz4 hd4).held a
    refine store_ok (X := X.held a (X.pn ++ pn)) (v := .ref a) T4 hN hi (.inl hl) rfl (fun s5 T5 => ?_) (.inr hl)
    refine wpAny_mono ((hsu a (X.pn ++ pn)).run [] s5 _ _ _ T5 (go a na)) (fun fl s6 z => ?_) fun _ _ z => False.elim z
    have fin : ∀ {σ6 : St} {H6 : Hp} {Q6 : Shared → Prop}, Inv (X.held a (X.pn ++ pn)) [] σ6 H6 s6 → (∀ s7, Inv X pn (σ6.set i none) H6 s7 → Q6 s7) →
        wpAny (model X.prog X.w) X.A (do bindName X.env n .none; unbindBehindTheSuite X.env n pos') (fun _ s7 => Q6 s7) X.xe s6 := fun {σ6 H6 Q6} T6 q => gone_ok (T6.unheld ok) hN hi hl q
    match fl, z with
    | .next, ⟨σ6, H6, T6, q⟩ => exact fin T6 fun s7 J7 => ⟨_, _, J7, q⟩
    | .brk, ⟨σ6, H6, T6, q⟩ => exact fin T6 fun s7 J7 => ⟨_, _, J7, q⟩
    | .cont, ⟨σ6, H6, T6, q⟩ => exact fin T6 fun s7 J7 => ⟨_, _, J7, q⟩
    | .ret u, ⟨v, σ6, H6, T6, r6, q⟩ => exact fin T6 fun s7 J7 => ⟨_, _, _, J7, r6, q⟩
  refine wpAny_Try_except (wpAny_mono ((hb (wKept X.K c i ts D) (X.pn ++ pn) seen caught PassesOwn.looking).run [] s σ H D (I.toTry _) h) (fun fl s1 z => ?_) fun _ _ z => z)
  match fl, z with
  | .next, ⟨σ1, H1, J, q⟩ => exact wpAny_execs_nil ⟨σ1, H1, J.ofTry ok, q⟩
  | .brk, ⟨σ1, H1, J, q⟩ => exact ⟨σ1, H1, J.ofTry ok, q⟩
  | .cont, ⟨σ1, H1, J, q⟩ => exact ⟨σ1, H1, J.ofTry ok, q⟩
  | .ret u, ⟨v, σ1, H1, J, r, q⟩ => exact ⟨v, σ1, H1, J.ofTry ok, r, q⟩
end
end L2

set_option Elab.async false
set_option linter.all false
set_option maxRecDepth 100000
set_option maxHeartbeats 4000000
/-! Own layer: a kept error's class and its field. -/
namespace PySem.W
open PySem PySem.Spec PySem.Calls PyProof.Rows
section
variable {prog : Program} {w : World} {A : Around} {E : Value → Shared → Prop} {s : Shared} {K : Frag} {x D : Addr} {ox : Obj} {od : Option Obj}
/-- an error's own __class__, whatever its dict holds -/
theorem err_class {Q : Option Value → Shared → Prop} (fnd : findObj K D od "__class__" = some (.bind (.builtin "getset_descriptor.__get__") (.builtin "object.__class__")))
    (c1 : findIn K (.ref D) "__getattribute__" = some (some (.builtin "BaseException.__getattribute__"))) (c2 : findIn K (.ref D) "__getattr__" = some none) (c3 : subIn K (.ref D) (.type "BaseException") = some true)
    (c4 : mroIn K D (.type "object") = some true) (KX : K.In s.heap) (J : InstAt s.heap x ox D od) (fin : Q (some (.ref D)) { s with toks := s.toks + 1 }) : wpAny (model prog w) A (getAttr? (.ref x) "__class__") Q E s := by
  obtain ⟨hp, gn, dr, tk, os⟩ := s
  have l0 := J.type (M := model prog w)
  have l1 := looks_findIn (M := model prog w) KX c1
  have l2 := looks_findIn (M := model prog w) KX c2
  have l3 := looks_find (M := model prog w) KX J fnd
  have isExc : Looks (model prog w) hp (isInstance (.ref x) (.type "BaseException")) true := l0.andThen (looks_subIn KX c3)
  have b0 : (false && onTheHeap (Value.builtin "BaseException.__getattribute__")) = false := rfl
  have b1 : (Value.builtin "BaseException.__getattribute__" == Value.builtin "object.__getattribute__") = false := by decide +kernel
  have b2 : (onTheHeap (Value.ref D) && Value.builtin "BaseException.__getattribute__" == Value.builtin "object.__getattribute__") = false := by
    rw [b1]
    rfl
  unfold getAttr? getAttrBy? getAttrBy
  refine wpAny_bind (wpAny_mkText (wpAny_bind (wpAny_attempt (wpAny_holding (wpAny_bind (l0.at (wpAny_bind (l1.at ?_))))))))
  show wpAny _ _ (if (onTheHeap (Value.ref D) && Value.builtin "BaseException.__getattribute__" == Value.builtin "object.__getattribute__") = true then _ else _) _ _ _
  rw [b2, if_neg Bool.false_ne_true]
  unfold getAttrByItsOwn hookBefore
  refine wpAny_bind ?_
  rw [if_pos (show onTheHeap (Value.ref D) = true from rfl)]
  refine l2.at (wpAny_bind (wpAny_attempt (wpAny_holding ?_)))
  unfold callGetattribute
  rw [b0, if_neg Bool.false_ne_true]
  unfold boundAndCalled
  rw [PySem.F.excAttr_ValueError.ga.bind (.ref x)]
  refine wpAny_bind (wpAny_pure ?_)
  show wpAny _ _ (call (.builtin "BaseException.__getattribute__") [.ref x, .str "__class__" tk]) _ _ _
  refine wpAny_call (codeAny_call_builtin PySem.F.excAttr_ValueError.ga.plain PySem.F.entry_bexc_ga ?_)
  refine @check_slot (model prog w) _ _ ⟨hp, gn, dr, tk + 1, os⟩ "BaseException.__getattribute__" "BaseException" "__getattribute__" (.ref x) [.str "__class__" tk] [] _ (by decide +kernel) (by decide +kernel) isExc (PySem.F.args_bexc_ga (.ref x) (.str "__class__" tk)) ?_
  unfold Builtin.«object.__getattribute__»
  refine wpAny_bind (wpAny_of_eq (a := ((Value.ref x : Value), [Value.str "__class__" tk])) (by first | rfl | (simp only [slotArgs]; rfl)) ?_)
  refine wpAny_bind (wpAny_pure (wpAny_bind (l0.at (wpAny_bind (l3.at ?_)))))
  show wpAny _ _ (holding [Value.builtin "object.__class__"] (call (.builtin "getset_descriptor.__get__") [.builtin "object.__class__", .ref x, .ref D]) >>= ret) _ _ _
  refine wpAny_bind (wpAny_holding (wpAny_call (class_get (s := ⟨hp, gn, dr, tk + 1, os⟩) (ox := ox) (od := od) KX J c4 ?_)))
  refine wpAny_pure ?_
  show wpAny _ _ (handedOut (.ref D)) _ _ _
  rw [handedOut_of (v := .ref D) rfl]
  first
    | exact wpAny_pure (wpAny_pure fin)
    | exact wpAny_pure fin
    | exact wpAny_pure (wpAny_bind (wpAny_pure (wpAny_pure fin)))
end
end PySem.W
namespace L2
open ClX
open PySem PySem.Spec PyProof.Rows
section
variable {X : Cx} {pins : List (Addr × Obj)} {σ : St} {H : Hp} {s : Shared}
theorem err_find {K : PySem.W.Frag} {D : Addr} (T : ExcC K D) (od : Option Obj) : PySem.W.findObj K D od "__class__" = some (.bind (.builtin "getset_descriptor.__get__") (.builtin "object.__class__")) := by
  have hc : (PySem.W.clsIn K D).isSome = true := by
    obtain ⟨cd, h, _⟩ := PySem.W.any_some T.hd
    rw [h]
    rfl
  cases od with
  | none => exact PySem.W.findObj_dataN hc T.ha T.hn T.ht
  | some o => exact PySem.W.findObj_data hc T.ha T.hn T.ht
/-- what an error's object is -/
theorem err_inst (I : Inv X pins σ H s) {D a : Addr} {d : Option Addr} (h : H a = some (errO (.ref D) d a)) (hd : ∀ dd, d = some dd → ∃ fs, H dd = some (.xd fs)) : ∃ (ox : Obj) (od : Option Obj), PySem.W.InstAt s.heap a ox D od ∧
    ∀ dd fs, d = some dd → H dd = some (.xd fs) → ∀ f v, fs.lookup f = some v → ∃ o u, od = some o ∧ RelV v u ∧ PySem.W.lookIn f o = some (some u) := by
  obtain ⟨⟨oe, vs, e, z, f⟩, _⟩ := I.hok a _ h
  obtain ⟨oc, dd, da, sl⟩ := oe
  obtain ⟨z1, z2⟩ := z
  dsimp only at z1 z2 f
  subst z1 z2 f
  cases dd with
  | none => exact ⟨_, none, ⟨e, rfl, rfl, trivial⟩, fun _ _ q => by cases q⟩
  | some p =>
    obtain ⟨fs0, hp⟩ := hd p rfl
    obtain ⟨mA, hns, hr⟩ := (show ObjOk X.prog X.w H s.heap p (.xd fs0) from I.hok p _ hp)
    obtain ⟨od, ho, hl⟩ := lookIn_ns hns
    refine ⟨_, some od, ⟨e, rfl, rfl, ho⟩, fun q fs1 e1 e2 g v l => ?_⟩
    cases e1
    rw [hp] at e2
    cases e2
    obtain ⟨u, hu, ru⟩ := RelO.some_of (v := v) (o := mA g) (by rw [← l]; exact hr g)
    exact ⟨od, u, rfl, ru, by rw [hl, hu]⟩
/-- isinstance(e, C), isinstance(e, (C, ..)), e a kept error -/
def rIsErr (K : PySem.W.Frag) : List V → Hp → VK → Prop := fun xs H Q => ∃ (a D : Addr) (d : Option Addr) (c : V) (cv : Value) (b : Bool), xs = [.ref a, c] ∧ H a = some (errO (.ref D) d a) ∧ (∀ dd, d = some dd → ∃ fs, H dd = some (.xd fs)) ∧ ExcC K D ∧
  ClsV c cv ∧ PySem.W.kitOne K (.ref D) cv = some b ∧ Q (.bl b) H
def rIsErrT (K : PySem.W.Frag) : List V → Hp → VK → Prop := fun xs H Q => ∃ (a D tp : Addr) (d : Option Addr) (cs : List V) (us : List Value) (b : Bool), xs = [.ref a, .ref tp] ∧ H a = some (errO (.ref D) d a) ∧ (∀ dd, d = some dd → ∃ fs, H dd = some (.xd fs)) ∧ ExcC K D ∧
  H tp = some (.tup cs) ∧ Paired ClsV cs us ∧ PySem.W.kitAny K (.ref D) us = some b ∧ Q (.bl b) H
theorem err_kit {K : PySem.W.Frag} {a D : Addr} {ox : Obj} {od : Option Obj} (T : ExcC K D) : PySem.W.KitX K (.ref a) (.ref D) (fun h => PySem.W.InstAt h a ox D od) where
  ty := fun _ _ _ J => J.type
  it := fun _ _ KX _ => by
    obtain ⟨cd, hc, _⟩ := PySem.W.any_some T.hd
    unfold PySem.W.clsIn at hc
    split at hc
    · rename_i c2 d2 cd2 sl2 ho
      intro A2 Q2 E2 s2 k2 q2
      unfold isType loadHead
      exact wpAny_bind (wpAny_loadPart (k2 _ _ (KX _ _ ho)) (wpAny_pure q2))
    · cases hc
  ne := fun h tp dd its n sl KX htp => by
    obtain ⟨cd, hc, _⟩ := PySem.W.any_some T.hd
    refine Bool.eq_false_iff.mpr fun q => ?_
    obtain rfl : D = tp := Value.ref.inj (beq_iff_eq.mp q)
    unfold PySem.W.clsIn at hc
    split at hc
    · rename_i c2 d2 cd2 sl2 ho
      have z := (KX _ _ ho).symm.trans htp
      cases z
    · cases hc
  ca := fun KX J k => PySem.W.err_class (err_find T od) T.hg T.hk T.hs T.hm KX J k
theorem call_isErr : CallR X (.builtin "isinstance") (rIsErr X.K) := by
  intro pn s σ H xs us Q I r h
  obtain ⟨a, D, d, c, cv, b, rfl, ha, hd, T, hc, e, q⟩ := h
  obtain ⟨u1, u2, rfl, r1, r2⟩ := vals2 r
  cases r1
  have ec := hc.eq r2
  subst ec
  obtain ⟨ox, od, J, _⟩ := err_inst I ha hd
  exact PySem.W.kia_one (err_kit T) I.kIn J e (fun z => nomatch z) fun tk => ⟨.bl b, H, I.kept (t' := tk) fun _ _ z => z, rfl, q⟩
theorem call_isErrT : CallR X (.builtin "isinstance") (rIsErrT X.K) := by
  intro pn s σ H xs us Q I r h
  obtain ⟨a, D, tp, d, cs, ws, b, rfl, ha, hd, T, ht, hc, e, q⟩ := h
  obtain ⟨u1, u2, rfl, r1, r2⟩ := vals2 r
  cases r1
  cases r2
  obtain ⟨ox, od, J, _⟩ := err_inst I ha hd
  obtain ⟨_, its, r3, o, e1, e2, n, e3⟩ := (show ObjOk X.prog X.w H s.heap tp (.tup cs) from I.hok tp _ ht)
  have ew := ClsV.all hc r3
  subst ew
  obtain ⟨o1, o2, o3, o4⟩ := o
  dsimp only at e2 e3
  subst e2 e3
  exact PySem.W.kia_tup (err_kit T) I.kIn J e1 e (fun z => nomatch z) fun tk => ⟨.bl b, H, I.kept (t' := tk) fun _ _ z => z, rfl, q⟩
/-- e.f, e a kept error with a field -/
def tErrF (K : PySem.W.Frag) (f : Str) (te : TE) : TE := fun σ H Q => te σ H fun x H1 => ∃ (a D dd : Addr) (fs : List (Str × V)) (v : V), x = .ref a ∧ H1 a = some (errO (.ref D) (some dd) a) ∧ H1 dd = some (.xd fs) ∧ XfC K D ∧ PySem.W.findIn K (.ref D) f = some none ∧
  fs.lookup f = some v ∧ Q v H1
theorem pe_errF {e : Expr} {te : TE} {f : Str} {pos : Pos} (he : PE X e te) (hb : attributeBase e f X.env (eval e X.env) = eval e X.env := by rfl) : PE X (.Attribute e f pos) (tErrF X.K f te) := by
  refine ⟨fun pn s σ H Q I h => attr_of hb (thn (he.run pn s σ H _ I h) fun u s1 ⟨x, H1, I1, rx, a, D, dd, fs, v, ex, ha, hf, T, no, l, q⟩ => ?_)⟩
  subst ex
  cases rx
  obtain ⟨ox, od, J, g⟩ := err_inst I1 ha (fun d2 z => by cases z; exact ⟨fs, hf⟩)
  obtain ⟨o, u, rfl, ru, lk⟩ := g dd fs rfl hf f v l
  exact HandSPX.exc_get I1.kIn J T.ga T.gg T.exC (PySem.W.findObj_own T.hdC no rfl lk) (handed_of ru) ⟨v, H1, I1.tok _, ru, q⟩
end
end L2

set_option Elab.async false
set_option linter.all false
set_option maxRecDepth 100000
set_option maxHeartbeats 4000000
/-! Own layer: the set of a list of texts, its size. -/
namespace OwnSet
open PySem PySem.Spec PyProof.Rows
/-- the different ones among the first i, in the order in which they are met -/
def met (xs : List Str) : Nat → List Str
  | 0 => []
  | i + 1 => if (met xs i).any (· == xs.getD i Str.empty) then met xs i else met xs i ++ [xs.getD i Str.empty]
theorem met_le (xs : List Str) : ∀ i, (met xs i).length ≤ i
  | 0 => Nat.le_refl _
  | i + 1 => by
    have := met_le xs i
    show (if _ then _ else _ : List Str).length ≤ _
    split
    · omega
    · rw [List.length_append]
      simp
      omega
theorem met_any (xs : List Str) (i : Nat) (k : Str) : (met xs (i + 1)).any (· == k) = ((met xs i).any (· == k) || decide (k = xs.getD i Str.empty)) := by
  show (if _ then _ else _ : List Str).any _ = _
  split
  · rename_i c
    by_cases e : k = xs.getD i Str.empty
    · subst e
      rw [c]
      rfl
    · rw [decide_eq_false e, Bool.or_false]
  · rw [List.any_append]
    congr 1
    simp only [List.any_cons, List.any_nil, Bool.or_false]
    by_cases e : k = xs.getD i Str.empty
    · subst e
      simp
    · rw [decide_eq_false e]
      exact beq_eq_false_iff_ne.mpr fun q => e q.symm
theorem met_len (xs : List Str) (i : Nat) : (met xs (i + 1)).length = if (met xs i).any (· == xs.getD i Str.empty) = true then (met xs i).length else (met xs i).length + 1 := by
  show (if _ then _ else _ : List Str).length = _
  split <;> simp_all
theorem met_mem (xs : List Str) : ∀ i, i ≤ xs.length → ∀ y, y ∈ met xs i ↔ y ∈ xs.take i
  | 0, _, y => by simp [met]
  | i + 1, h, y => by
    have ih := met_mem xs i (by omega) y
    have hx : xs.getD i Str.empty = xs[i] := by simp [List.getD, List.getElem?_eq_getElem (show i < xs.length by omega)]
    have e2 : xs.take (i + 1) = xs.take i ++ [xs[i]] := by
      rw [List.take_add_one, List.getElem?_eq_getElem (show i < xs.length by omega)]
      rfl
    rw [e2, List.mem_append, ← ih]
    show y ∈ (if _ then _ else _ : List Str) ↔ _
    rw [hx]
    split
    · rename_i c
      obtain ⟨z, hz, ez⟩ := List.any_eq_true.mp c
      have ez : z = xs[i] := eq_of_beq ez
      constructor
      · exact .inl
      · rintro (q | q)
        · exact q
        · rw [List.mem_singleton.mp q, ← ez]
          exact hz
    · rw [List.mem_append]
theorem met_full (xs : List Str) : ∀ i, i ≤ xs.length → ((met xs i).length = i ↔ (xs.take i).Nodup)
  | 0, _ => by simp [met]
  | i + 1, h => by
    have ih := met_full xs i (by omega)
    have hm := met_mem xs i (by omega)
    have le := met_le xs i
    have hx : xs.getD i Str.empty = xs[i] := by simp [List.getD, List.getElem?_eq_getElem (show i < xs.length by omega)]
    have e2 : xs.take (i + 1) = xs.take i ++ [xs[i]] := by
      rw [List.take_add_one, List.getElem?_eq_getElem (show i < xs.length by omega)]
      rfl
    rw [e2, met_len, hx]
    have ea : (met xs i).any (· == xs[i]) = true ↔ xs[i] ∈ xs.take i := by
      rw [← hm]
      constructor
      · intro c
        obtain ⟨z, hz, ez⟩ := List.any_eq_true.mp c
        have ez : z = xs[i] := eq_of_beq ez
        rw [← ez]
        exact hz
      · intro c
        exact List.any_eq_true.mpr ⟨_, c, beq_self_eq_true _⟩
    rw [List.nodup_append]
    by_cases c : xs[i] ∈ xs.take i
    · rw [if_pos (ea.mpr c)]
      constructor
      · intro z
        omega
      · intro z
        exact absurd rfl (z.2.2 _ c _ (List.mem_singleton.mpr rfl))
    · rw [if_neg (fun z => c (ea.mp z))]
      constructor
      · intro z
        refine ⟨ih.mp (by omega), by simp, fun y hy z hz q => c ?_⟩
        rw [List.mem_singleton.mp hz] at q
        rw [← q]
        exact hy
      · intro z
        rw [ih.mpr z.1]
theorem met_all (xs : List Str) : decide ((met xs xs.length).length = xs.length) = decide xs.Nodup := by
  have h := met_full xs xs.length (Nat.le_refl _)
  rw [List.take_length] at h
  exact decide_eq_decide.mpr h
section
variable {prog : Program} {w : World} {A : Around} {R : Result → Shared → Prop} {It : Addr} {own wrt : List Addr} {G : Array GenState → Array GenState → Prop} {n : Nat} {P : Nat → Value → Prop} {St : Nat → Shared → Prop}
/-- the loop that fills a set with texts -/
theorem fill (W : WalksS prog w A.in1 It own wrt G n P St) (S : Addr) (free : S ∉ own) (xs : List Str) (each : ∀ i v, P i v → ∃ t, v = .str (xs.getD i Str.empty) t) (small : n + 1 < scanBound) :
    ∀ (k i : Nat) (s : Shared), n - i = k → i ≤ n → St i s → s.heap.SetOf (PySem.strKind prog w) S (fun y => (met xs i).any (· == y)) (met xs i).length →
      (∀ s2, Moved (S :: wrt) G s s2 → s2.heap.SetOf (PySem.strKind prog w) S (fun y => (met xs n).any (· == y)) (met xs n).length → R (.ok (.ret .none)) s2) →
      codeAny (model prog w) A (.builtin "set.update.loop" ⟨[.ref S, .ref It], []⟩) R s := by
  have freeW : S ∉ wrt := fun z => free (W.sub _ z)
  have more : ∀ b ∈ wrt, b ∈ S :: wrt := fun b z => List.mem_cons_of_mem _ z
  have kept : ∀ {s s2 : Shared} {i : Nat}, Moved wrt G s s2 → s.heap.SetOf (PySem.strKind prog w) S (fun y => (met xs i).any (· == y)) (met xs i).length →
      s2.heap.SetOf (PySem.strKind prog w) S (fun y => (met xs i).any (· == y)) (met xs i).length := fun mv ⟨o, es, ep, tb, ho, r⟩ => ⟨o, es, ep, tb, mv.heap S _ freeW ho, r⟩
  intro k
  induction k with
  | zero =>
    intro i s hk hi st hs fin
    obtain rfl : i = n := by omega
    refine codeAny_builtin PyProof.Rows.F.entry_set_update_loop ?_
    rw [Around.under_plainId PyProof.Rows.F.plain_set_update_loop _]
    show wpAny _ A.in1 (pyNext (.ref It) >>= _) _ _ s
    refine wpAny_bind (W.done s _ _ st fun s2 mv => ?_)
    show wpAny _ A.in1 (ret Value.none) _ _ s2
    exact wpAny_pure (fin s2 (mv.mono more) (kept mv hs))
  | succ k ih =>
    intro i s hk hi st hs fin
    have lt : i < n := by omega
    have le := met_le xs i
    refine codeAny_builtin PyProof.Rows.F.entry_set_update_loop ?_
    rw [Around.under_plainId PyProof.Rows.F.plain_set_update_loop _]
    show wpAny _ A.in1 (pyNext (.ref It) >>= _) _ _ s
    refine wpAny_bind (W.item i s _ _ lt st fun v s2 hv st2 mv => ?_)
    obtain ⟨t, rfl⟩ := each i v hv
    show wpAny _ A.in1 (holding [Value.str (xs.getD i Str.empty) t] (setAdd S (.str (xs.getD i Str.empty) t)) >>= _) _ _ s2
    refine wpAny_bind (wpAny_holding ?_)
    unfold setAdd
    refine wpAny_holding (wpAny_bind ((PySem.strKind prog w).pyHash (k := xs.getD i Str.empty) (strKind_is _ _ _ _) ?_))
    have hk2 := kept mv hs
    refine wpAny_setAddHashed_of (knd := PySem.strKind prog w) (s := { s2 with toks := s2.toks + 1 }) (strKind_is _ _ _ _) rfl hk2 (by omega) fun h2 sb hs2 => ?_
    have hs3 : h2.SetOf (PySem.strKind prog w) S (fun y => (met xs (i + 1)).any (· == y)) (met xs (i + 1)).length := SetOf_congr hs2 (fun y => (met_any xs i y).symm) (met_len xs i).symm
    have off : ∀ b, b ≠ S → h2.get? b = s2.heap.get? b := fun b z => sb.2 b z
    refine wpAny_pure ⟨plainId_quiet PyProof.Rows.F.plain_set_update_loop _, ih (i + 1) _ (by omega) lt (W.frame _ s2 _ _ st2 (Nat.le_succ _) fun b z o e => (off b fun q => free (q ▸ z)).trans e) hs3 fun s3 mv3 hs4 => ?_⟩
    exact fin s3 (Moved.trans W.gtrans ((mv.mono more).then_heap (Nat.le_succ _) fun b o z e => (off b fun q => z (q ▸ List.mem_cons_self)).trans e) mv3) hs4
end
section
variable {prog : Program} {w : World} {A : Around} {E : Value → Shared → Prop} {s : Shared}
abbrev newSet (led : Bool) : Obj := { cls := .type "set", dict := none, data := .set #[] 0 (.fresh 0 0 led) }
/-- set(xs), xs a list of texts -/
theorem set_of {l : Addr} {items : Array Value} {xs : List Str} {Q : Value → Shared → Prop} (calm : A.handled = none) (hl : s.heap.IsList l items) (hi : StrsAre items.toList xs) (small : items.size + 1 < scanBound)
    (fin : ∀ (h2 : Heap) (tk : Nat), h2.SetOf (PySem.strKind prog w) s.heap.objs.size (fun y => (met xs items.size).any (· == y)) (met xs items.size).length →
      (∀ b o, b < s.heap.objs.size → s.heap.get? b = some o → h2.get? b = some o) → Q (.ref s.heap.objs.size) { s with heap := h2, toks := tk }) :
    wpAny (model prog w) A (call (.type "set") [.ref l]) Q E s := by
  obtain ⟨c0, tl0, mro0⟩ := PySem.F.called_set.mro
  have made0 := PySem.F.called_set.made
  have sub0 := PySem.F.called_set.sub
  refine wpAny_call (codeAny_of_tree ?_)
  show wpAny _ _ (callAny (.type "set") _) _ _ _
  refine wpAny_pure ⟨Code.quiet_builtin _ (by decide +kernel), codeAny_builtin PySem.F.entry_type_call ?_⟩
  rw [Around.under_plain (weight_type_call_type "set" [.ref l] []) rfl]
  have notT := PySem.F.called_set.notType
  have canC := PySem.F.called_set.canCreate
  have chk := PySem.F.typeCall_set_1 (.ref l)
  repeat (any_goals (first | assumption | wp_step))
  refine codeAny_mono (code_set_new_1 (.ref l) (E := E) (Q₁ := fun ob s1 => ∃ led : Bool, ob = .ref s.heap.objs.size ∧ s1 = { s with heap := s.heap.push (newSet led) }) fun led => ⟨led, rfl, rfl⟩) fun r s1 z => ?_
  match r, z with
  | .error _, z => exact z
  | .ok .next, z => exact z.elim
  | .ok .brk, z => exact z.elim
  | .ok .cont, z => exact z.elim
  | .ok (.ret _), ⟨led, e1, e2⟩ =>
    subst e1 e2
    have at0 : (s.heap.push (newSet led)).get? s.heap.objs.size = some (newSet led) := Heap.get?_push_size _ rfl
    have ty0 : Shared.TypeIs { s with heap := s.heap.push (newSet led) } (.ref s.heap.objs.size) "set" := ⟨_, at0, rfl⟩
    have lk0 := PySem.F.called_set.init.lookup
    have bd0 := PySem.F.called_set.init.bind (.ref s.heap.objs.size)
    repeat (any_goals (first | assumption | wp_step))
    refine codeAny_mono (codeAny_call_builtin (R := wants (fun r s2 => r = .none ∧ ∃ h2 tk, s2 = { s with heap := h2, toks := tk } ∧ h2.SetOf (PySem.strKind prog w) s.heap.objs.size (fun y => (met xs items.size).any (· == y)) (met xs items.size).length ∧
      (∀ b o, b < s.heap.objs.size → s.heap.get? b = some o → h2.get? b = some o)) E) PySem.F.called_set.init.plain PySem.F.entry_set_init (check_set_init_1 ty0 ?_)) fun r2 s2 z2 => ?_
    · obtain ⟨ol, lol, lcl, nl, ldl⟩ := hl
      obtain ⟨oc, od, oda, osl⟩ := ol
      simp only at lcl ldl
      subst lcl
      subst ldl
      have at1 : (s.heap.push (newSet led)).get? l = some { cls := .type "list", dict := od, data := .seq items nl, slots := osl } := Heap.get?_push_of_some _ lol
      have q1 := PySem.F.sub_list_set
      have q2 := PySem.F.sub_list_frozenset
      have q3 : (Value.type "list" == Value.type "dict") = false := by decide
      have isl : (s.heap.push (newSet led)).IsList l items := ⟨_, at1, rfl, nl, rfl⟩
      unfold Builtin.«set.__init__» noKeywords Builtin.Frozenset.updateFrom
      generalize gpi : pyIter = PI
      wp_walk
      subst gpi
      refine wpAny_pyIter_list isl (wpAny_bind (wpAny_runValue ?_))
      have lltS : l < s.heap.objs.size := Heap.lt_size lol
      have calm3 : A.in1.in1.in1.handled = none := by simp [calm]
      have sz1 : (s.heap.push (newSet led)).objs.size = s.heap.objs.size + 1 := Heap.size_push _ _
      have lne : l ≠ (s.heap.push (newSet led)).objs.size := by
        rw [sz1]
        exact Nat.ne_of_lt (Nat.lt_succ_of_lt lltS)
      have frS : s.heap.objs.size ∉ [(s.heap.push (newSet led)).objs.size, l] := by
        rw [sz1]
        simp only [List.mem_cons, List.not_mem_nil, or_false, not_or]
        exact ⟨Nat.ne_of_lt (Nat.lt_succ_self _), Nat.ne_of_gt lltS⟩
      refine fill ((Walks.list calm3 _ l lne items).toS) s.heap.objs.size frS xs (fun i v hv => SS.strs_at hi i v (by rw [Array.getElem?_toList]; exact hv)) small (items.size - 0) 0 _ (by omega) (Nat.zero_le _)
        ⟨⟨_, Heap.get?_push_size _ rfl, rfl, rfl⟩, isl.push _⟩ ?_ ?_
      · have at2 : ((s.heap.push (newSet led)).push { cls := .type "list_iterator", data := .fields #[.ref l, .int 0 0] }).get? s.heap.objs.size = some (newSet led) := Heap.get?_push_of_some _ at0
        exact SetOf_congr ((setObjOf_fresh (knd := PySem.strKind prog w) led).setOf at2 (by unfold scanBound; omega)) (fun _ => rfl) rfl
      · intro s3 mv hs3
        obtain ⟨h3, g3, d3, t3, o3⟩ := s3
        have eg : g3 = s.gens := mv.gens
        have ed : d3 = s.drawn := mv.drawn
        have eo : o3 = s.os := mv.os
        subst eg
        subst ed
        subst eo
        show wpAny _ _ _ _ _ _
        refine wpAny_pure ?_
        show wpAny _ _ (ret Value.none) _ _ _
        refine wpAny_pure ⟨rfl, h3, t3, rfl, hs3, fun b o hb e => mv.heap b o ?_ (Heap.get?_push_of_some _ (Heap.get?_push_of_some _ e))⟩
        rw [sz1]
        simp only [List.mem_cons, List.not_mem_nil, or_false, not_or]
        exact ⟨Nat.ne_of_lt hb, Nat.ne_of_lt (Nat.lt_succ_of_lt hb)⟩
    · match r2, z2 with
      | .error _, z2 => exact z2
      | .ok .next, z2 => exact z2.elim
      | .ok .brk, z2 => exact z2.elim
      | .ok .cont, z2 => exact z2.elim
      | .ok (.ret _), ⟨e1, h2, tk, e2, a1, a2⟩ =>
        subst e1 e2
        repeat (any_goals (first | assumption | wp_step))
        exact fin _ _ a1 a2
end
end OwnSet
namespace L2
open PySem PySem.Spec PyProof.Rows
/-- len(set(xs)), xs a list of texts -/
def tLenSetS (K : PySem.W.Frag) (ta : TE) : TE := fun σ H Q => ta σ H fun x H1 => ∃ (l : Addr) (xs : List Str), x = .ref l ∧ SqL K H1 l (xs.map V.str) ∧ xs.length ≤ 4000 ∧ Q (.int ((OwnSet.met xs xs.length).length : Nat)) H1
theorem pe_lenSetS {X : Cx} {a : Expr} {ta : TE} {p p2 q pos : Pos} (hm : X.mg "len" = none) (hm2 : X.mg "set" = none) (ha : PE X a ta) (hc : X.calm = true := by rfl) (hg : Gl X "len" := by rfl) (hg2 : Gl X "set" := by rfl)
    (na : starEach [a] X.env = (false, eval a X.env) :: starEach [] X.env := by rfl) : PE X (.Call (.Name "len" p) [.Call (.Name "set" p2) [a] [] q] [] pos) (tLenSetS X.K ta) := by
  refine ⟨fun pn s σ H Q I h => Call_ (ld_blt I hg hm boot_len ?_)⟩
  refine callWith_builtin1 (args_cons (Call_ (ld_blt I hg2 hm2 boot_set ?_)) rfl) rfl rfl
  refine callWith_type1 (args_cons (thn (ha.run pn s σ H _ I h) fun v s1 ⟨x, H1, I1, r1, l, xs, ex, hq, hl, q1⟩ => args_nil ?_) na) na rfl
  subst ex
  cases r1
  obtain ⟨its, r, pl, hz⟩ := I1.list hq
  have sz : its.toArray.size = xs.length := by rw [List.size_toArray, ← r.length, List.length_map]
  refine OwnSet.set_of (xs := xs) (I1.ok.hd hc) pl.isList (by simpa using strsAre_of r) (by rw [sz]; unfold scanBound; omega) fun h2 tk hs keep => args_nil ?_
  rw [sz] at hs
  have le := OwnSet.met_le xs xs.length
  obtain ⟨o, es, ep, t, ho, hex, hd, _, _, _, hf, hn⟩ := hs
  have I2 : Inv X pn σ H1 { s1 with heap := h2, toks := tk } := I1.kept fun b o e => keep b o (Heap.lt_size e) e
  exact call_len_set ho hex hd hf (by rw [hn]; omega) ⟨.int _, H1, I2.tok _, ⟨_, by rw [hn]⟩, q1⟩
end L2

set_option Elab.async false
set_option linter.all false
set_option maxRecDepth 100000
set_option maxHeartbeats 4000000
/-! Own errors with one field (after the guide's own page on them). -/
namespace PySem
namespace ImpX
open PySem.W PySem.Calls PyProof.Rows PySem.HandSPX
/-! ### the text of __init__ -/
def iA (p1 p2 : Pos) : Arguments := { posonlyargs := [], args := [{ arg := "self", annotation := none, pos := p1 }, { arg := "reason", annotation := none, pos := p2 }], vararg := none, kwonlyargs := [], kw_defaults := [], kwarg := none, defaults := [] }
def iB (q1 q2 q3 q4 : Pos) : List Stmt := [.Assign [.Attribute (.Name "self" q1) "reason" q2] (.Name "reason" q3) q4]
def iS : Scope := { kind := .function, names := [(PySem.Str.ofString "self", .local), (PySem.Str.ofString "reason", .local)], isGenerator := false, isCoroutine := false, more := [] }
/-- what the written part says of Low, at C, and of its __init__, at fI -/
structure ImpTxt (K : Frag) (mg : Str → Option Value) (C fI : Addr) : Prop where
  gC : mg "Impossible" = some (.ref C)
  cls : ∃ nm q N bs bm sn sub ab col dd k0 k1 k2 k3 k5, K.lookup C = some (excClassObj nm q C N bs bm true sn sub ab col dd k0 k1 k2 k3 k5 "ValueError.__new__") ∧ refsVE bm = true
  sa : findIn K (.ref C) "__setattr__" = some (some (.builtin "object.__setattr__"))
  ga : findIn K (.ref C) "__getattribute__" = some (some (.builtin "BaseException.__getattribute__"))
  gg : findIn K (.ref C) "__getattr__" = some none
  noN : findIn K (.ref C) "reason" = some none
  iC : findIn K (.ref C) "__init__" = some (some (.ref fI))
  tC : typeIn K (.ref fI) = some (.type "function")
  kC : keepIn K (.ref C) = true
  exC : subIn K (.ref C) (.type "BaseException") = some true
  tyC : typeIn K (.ref C) = some (.type "type")
  hdC : hasDictIn K C = true
  te : exmOne K (.ref C) (.ref C) = some true
  fn : ∃ (oc : Value) (od : Option Addr) (doc pm : Value) (an : Option Addr) (cdv ct : Value) (osl : Array (Option Value)) (p1 p2 q1 q2 q3 q4 : Pos),
    K.lookup fI = some ⟨oc, od, .func (fnOf "__init__" "Impossible.__init__" (iA p1 p2) (iB q1 q2 q3 q4) iS .none .none doc pm an cdv ct), osl⟩ ∧ codeIn K cdv "Impossible.__init__" = true
theorem one_size (v : Value) : [v].length ≤ sizeLine := by
  rw [sizeLine_eq]
  exact (by decide : 1 ≤ 16777216)
theorem kept_but {K : Frag} {h h' : Heap} {x : Addr} (X : K.In h) (hx : K.lookup x = none) (k : ∀ b o, b ≠ x → h.get? b = some o → h'.get? b = some o) : K.In h' := fun a o e =>
  k a o (fun z => by rw [z, hx] at e; cases e) (X a o e)
theorem ldC {M : Model} {s : Shared} {name : Str} {scope : Scope} {L a : Addr} {cd : Value} {m : Str → Option Value} {x : Str} {pos : Pos} {v : Value} {Q : Value → Shared → Prop} {A : Around} {E : Value → Shared → Prop} (hn : s.heap.Ns L m) (hv : m x = some v) (h : Q v s)
    (hk : scope.kind = .function := by rfl) (hl : (envOfC name scope L a cd).kindOf x = some .local := by rfl) (hd : (x == ("__debug__" : Str)) = false := by decide) :
    wpAny M A (eval (.Name x pos) (envOfC name scope L a cd)) Q E s := wpAny_Name (wpAny_loadName_local hk hl hn hv h) hd
/-- what __init__ leaves of a fresh exception at x -/
structure InitEnd (h h' : Heap) (x C dx t1 : Addr) (v : Value) : Prop where
  keep : ∀ b o, b ≠ x → h.get? b = some o → h'.get? b = some o
  obj : h'.get? x = some { cls := .ref C, dict := some dx, data := .fields #[.ref t1, .none, .none, .none, .bool false, .none] }
  dbig : h.objs.size ≤ dx
  dne : dx ≠ x
  ns : h'.Ns1 dx (fun y => if y = "reason" then some v else none)
/-- a made Low -/
structure OwnMade (h h' : Heap) (e C d : Addr) (v : Value) : Prop where
  keep : ∀ b o, h.get? b = some o → h'.get? b = some o
  new : h.objs.size ≤ e
  obj : ∃ oe vs, h'.get? e = some oe ∧ oe.cls = .ref C ∧ oe.dict = some d ∧ oe.data = .fields vs ∧ vs[1]? = some .none
  dbig : h.objs.size ≤ d
  dne : d ≠ e
  ns : h'.Ns1 d (fun y => if y = "reason" then some v else none)
section
variable {prog : Program} {w : World} {A : Around} {E : Value → Shared → Prop} {R : Result → Shared → Prop} {s : Shared} {K : Frag} {mg : Str → Option Value} {C fI : Addr}
theorem imp_init (T : ImpTxt K mg C fI) {x t0 : Addr} {v : Value} (X : K.In s.heap) (hlim : s.heap.NoLimit) (hx : s.heap.get? x = some (excO C t0)) (hnx : K.lookup x = none) (hroom : A.depth < recursionLimit)
    (hq : ∀ h' tk dx, InitEnd s.heap h' x C dx t0 v → R (.ok (.ret .none)) { s with heap := h', toks := tk }) :
    codeAny (model prog w) A (.call (.ref fI) ⟨[.ref x, v], []⟩) R s := by
  obtain ⟨oc, od, doc, pm, an, cdv, ct, osl, p1, p2, q1, q2, q3, q4, ho, hcd⟩ := T.fn
  obtain ⟨nm, q, N, bs, bm, sn, sub, ab, col, dd, k0, k1, k2, k3, k5, hC, hbm⟩ := T.cls
  have hcl : clsIn K C = some { name := nm, bases := bs, mro := .ref C :: bm, ns := N, qualname := q, hasDict := true, slotNames := sn, subclasses := sub, abstract := ab, collection := col, hasDel := false } := by unfold clsIn; rw [hC] <;> rfl
  refine Att.call_fn (binds := [("self", .ref x), ("reason", v)]) X hlim ho hcd hroom (BindsTo.of_eq (by first | rfl | with_unfolding_all rfl)) (by first | rfl | decide | with_unfolding_all rfl) (fun s₁ IC => ?_) rfl rfl rfl
  obtain ⟨h₁, tk₁, rfl⟩ := IC.toInCall.same
  have k : ∀ b o, s.heap.get? b = some o → h₁.get? b = some o := IC.toInCall.keep
  have hn := IC.toInCall.ns
  have hxL : s.heap.objs.size ≠ x := Nat.ne_of_gt (Heap.lt_size hx)
  have X₁ : K.In h₁ := X.keeps k
  have hx₁ := k _ _ hx
  -- self.by = by
  show wpAny _ _ (execs _ _) _ _ _
  refine wpAny_execs_cons (plainObj_wpAny_Assign_Attribute ?_)
  refine ldC (v := v) hn (by first | rfl | with_unfolding_all rfl | kernel_rfl) (ldC (v := .ref x) hn (by first | rfl | with_unfolding_all rfl | kernel_rfl) ?_)
  refine set_plain X₁ (ox := excO C t0) (od := none) ⟨hx₁, rfl, rfl, trivial⟩ T.sa ?_
  refine exc_osa X₁ hx₁ hcl (show refsVE (.ref C :: bm) = true from hbm) rfl T.noN (fun h₃ tk₃ dx k₃ dn dne hx₃ hn₃ => ?_)
  show wpAny _ _ (execs _ _) _ _ _
  have z : s.heap.objs.size < h₁.objs.size := hn.lt
  exact wpAny_execs_nil (hq h₃ tk₃ dx ⟨fun b o hb e => k₃ b o hb (k b o e), hx₃, Nat.le_of_lt (Nat.lt_of_lt_of_le z dn), dne, hn₃⟩)
theorem imp_made (T : ImpTxt K mg C fI) {v : Value} (X : K.In s.heap) (hlim : s.heap.NoLimit) (hroom : A.depth + 1 < recursionLimit)
    (hq : ∀ h' tk e d, OwnMade s.heap h' e C d v → R (.ok (.ret (.ref e))) { s with heap := h', toks := tk }) :
    codeAny (model prog w) A (.call (.ref C) ⟨[v], []⟩) R s := by
  obtain ⟨nm, q, N, bs, bm, sn, sub, ab, col, dd, k0, k1, k2, k3, k5, hC, hbm⟩ := T.cls
  obtain ⟨hp, g, dr, tk, os⟩ := s
  have k : ∀ b o, hp.get? b = some o → ((hp.push (kdv_tup [v])).push (excO C hp.objs.size)).get? b = some o := fun b o e => Heap.get?_push_of_some _ (Heap.get?_push_of_some _ e)
  have hget : ((hp.push (kdv_tup [v])).push (excO C hp.objs.size)).get? (hp.objs.size + 1) = some (excO C hp.objs.size) := by heap_get
  have hnx : K.lookup (hp.objs.size + 1) = none := by
    cases e : K.lookup (hp.objs.size + 1) with
    | none => rfl
    | some o =>
      have z : hp.get? (hp.objs.size + 1) = some o := X _ _ e
      exact absurd (Nat.lt_of_succ_lt (Heap.lt_size z)) (Nat.lt_irrefl _)
  refine call_own F.excBase_ValueError (fun X => refsVE_contains X bm hbm) (X _ _ hC) (looks_findIn X T.iC) (fun self => bind_fn X self T.tC) (one_size v) ?_
  refine imp_init (s := ⟨(hp.push (kdv_tup [v])).push (excO C hp.objs.size), g, dr, tk, os⟩) T (X.keeps k) (hlim.keeps k) hget hnx ?_ fun h' tk' dx ⟨k', hx, dn, dne, hns⟩ => ?_
  · show A.depth + 1 < recursionLimit
    exact hroom
  · have old : ∀ b o, hp.get? b = some o → h'.get? b = some o := fun b o e => k' b o (Nat.ne_of_lt (Nat.lt_succ_of_lt (Heap.lt_size e))) (k b o e)
    have z : hp.objs.size + 1 + 1 ≤ dx := by
      first
        | (simpa only [Heap.size_push] using dn)
        | exact dn
        | (have q := dn; rw [Heap.size_push, Heap.size_push] at q; exact q)
    exact ⟨rfl, hq h' tk' (hp.objs.size + 1) dx ⟨old, Nat.le_succ _, ⟨_, _, hx, rfl, rfl, rfl, rfl⟩, Nat.le_trans (Nat.le_trans (Nat.le_succ _) (Nat.le_succ _)) z, dne, hns⟩⟩
end
end ImpX
end PySem
namespace L2
open PySem PySem.Spec PyProof.Rows
theorem relO_imp {v : V} {v' : Value} (r : RelV v v') (f : Str) : RelO (List.lookup f [(("reason" : Str), v)]) (if f = "reason" then some v' else none) := by
  by_cases hw : f = "reason"
  · subst hw
    rw [if_pos rfl]
    have q : List.lookup ("reason" : Str) [(("reason" : Str), v)] = some v := by simp [List.lookup]
    rw [q]
    exact r
  · rw [if_neg hw]
    have qw : (f == ("reason" : Str)) = false := by simpa using hw
    have q2 : List.lookup f [(("reason" : Str), v)] = none := by simp [List.lookup, qw]
    rw [q2]
    trivial
section
variable {X : Cx} {C fI : Addr}
/-- Low(e) -/
def tMkImp (C : Addr) (ta : TA) : St → Hp → XK → Prop := fun σ H Q => ta σ H fun vs H1 => ∃ v, vs = [v] ∧ ∀ d, H1 d = none → Q (.ref C) (some d) (upd H1 d (.xd [(("reason" : Str), v)]))
theorem pmk_imp {a : Expr} {ta : TA} {p pos : Pos} {k : Nat} (T : PySem.ImpX.ImpTxt X.K X.mg C fI) (hr : Room k X.A) (ha : PA X [a] ta) (hg : Gl X "Impossible" := by rfl)
    (he : starEach (a :: []) X.env = (false, eval a X.env) :: starEach [] X.env := by rfl) (hpl : (backTo pos (starEach [] X.env)).any (·.1) = false := by rfl) :
    PMk X (.Call (.Name "Impossible" p) [a] [] pos) (tMkImp C ta) := by
  intro pins s σ H Q I h
  refine wpAny_Call_Name_kw (ld_glob I hg T.gC ?_)
  refine PySem.W.callWith_K (h₀ := X.base) I.ok.mod.kin T.kC (thn (ha.run pos pins s σ H _ I h) fun us s1 hh => ?_) he hpl
  obtain ⟨vs, H1, I1, r1, v, ev, q1⟩ := hh
  subst ev
  refine ⟨I1.kIn, ?_⟩
  cases r1 with
  | cons rv rn =>
    rename_i v' us'
    cases rn
    show wpAny _ _ (call (.ref C) [v']) _ _ _
    have hlim := I1.nolimit
    obtain ⟨hp, g, dr, tk, os⟩ := s1
    refine wpAny_call (PySem.ImpX.imp_made T I1.kIn hlim (by have := hr.dp; omega) fun h' tk' e d M => ?_)
    show MkP X pins σ Q (.ref e) ⟨h', g, dr, tk', os⟩
    obtain ⟨oe, fv, hoe, hc, hd, hdat, h1⟩ := M.obj
    have hns := M.ns
    obtain ⟨G', g1, g2⟩ := restrict h' fun b => decide (b ≠ e)
    have gk : ∀ b, b ≠ e → G'.get? b = h'.get? b := fun b hb => g1 b (decide_eq_true hb)
    have ge : G'.get? e = none := g2 e (by simp)
    have old : ∀ b o, hp.get? b = some o → G'.get? b = some o := fun b o q => (gk b (Nat.ne_of_lt (Nat.lt_of_lt_of_le (Heap.lt_size q) M.new))).trans (M.keep b o q)
    have ob : ObjOk X.prog X.w (upd H1 d (.xd [(("reason" : Str), v)])) G' d (.xd [(("reason" : Str), v)]) :=
      ⟨_, hns.at (fun o q => (gk d M.dne).trans q), fun f => relO_imp rv f⟩
    have J : Inv X pins σ (upd H1 d (.xd [(("reason" : Str), v)])) ⟨G', g, dr, tk', os⟩ := I1.laid (t' := tk') old M.dbig ob
    refine ⟨e, oe, fv, ⟨G', g, dr, tk', os⟩, _, .ref C, some d, rfl, J, fun b o q => ?_, ge, hoe, ⟨hc, hd⟩, hdat, h1, ?_, rfl, I1.bare, raises_own T.exC T.tyC, q1 d (I1.hok.fresh M.dbig)⟩
    · by_cases hb : b = e
      · have q' : G'.get? b = some o := q
        rw [hb, ge] at q'; cases q'
      · exact (gk b hb).symm.trans q
    · rw [upd_ne (Ne.symm M.dne)]
      exact I1.hok.fresh M.new
/-- raise Low(e) -/
def tRaiseImp (C : Addr) (W : WX) (ta : TA) : TS := fun _ σ H => tMkImp C ta σ H fun cls d H' => W cls d σ H'
theorem ps_raiseImp {a : Expr} {ta : TA} {W : WX} {p pos pos2 : Pos} {k : Nat} (hc : X.calm = true) (T : PySem.ImpX.ImpTxt X.K X.mg C fI) (hr : Room k X.A) (tk : Takes X W) (ha : PA X [a] ta) (hg : Gl X "Impossible" := by rfl)
    (he : starEach (a :: []) X.env = (false, eval a X.env) :: starEach [] X.env := by rfl) (hpl : (backTo pos (starEach [] X.env)).any (·.1) = false := by rfl) :
    PS X (.Raise (some (.Call (.Name "Impossible" p) [a] [] pos)) none pos2) (tRaiseImp C W ta) := ps_raise hc tk (pmk_imp T hr ha hg he hpl)
end
end L2

set_option Elab.async false
set_option linter.all false
set_option maxRecDepth 100000
set_option maxHeartbeats 4000000
/-! Own errors with one field (after the guide's own page on them). -/
namespace PySem
namespace TxtX
open PySem.W PySem.Calls PyProof.Rows PySem.HandSPX
/-! ### the text of __init__ -/
def iA (p1 p2 : Pos) : Arguments := { posonlyargs := [], args := [{ arg := "self", annotation := none, pos := p1 }, { arg := "at", annotation := none, pos := p2 }], vararg := none, kwonlyargs := [], kw_defaults := [], kwarg := none, defaults := [] }
def iB (q1 q2 q3 q4 : Pos) : List Stmt := [.Assign [.Attribute (.Name "self" q1) "at" q2] (.Name "at" q3) q4]
def iS : Scope := { kind := .function, names := [(PySem.Str.ofString "self", .local), (PySem.Str.ofString "at", .local)], isGenerator := false, isCoroutine := false, more := [] }
/-- what the written part says of Low, at C, and of its __init__, at fI -/
structure TxtTxt (K : Frag) (mg : Str → Option Value) (C fI : Addr) : Prop where
  gC : mg "NoText" = some (.ref C)
  cls : ∃ nm q N bs bm sn sub ab col dd k0 k1 k2 k3 k5, K.lookup C = some (excClassObj nm q C N bs bm true sn sub ab col dd k0 k1 k2 k3 k5 "ValueError.__new__") ∧ refsVE bm = true
  sa : findIn K (.ref C) "__setattr__" = some (some (.builtin "object.__setattr__"))
  ga : findIn K (.ref C) "__getattribute__" = some (some (.builtin "BaseException.__getattribute__"))
  gg : findIn K (.ref C) "__getattr__" = some none
  noN : findIn K (.ref C) "at" = some none
  iC : findIn K (.ref C) "__init__" = some (some (.ref fI))
  tC : typeIn K (.ref fI) = some (.type "function")
  kC : keepIn K (.ref C) = true
  exC : subIn K (.ref C) (.type "BaseException") = some true
  tyC : typeIn K (.ref C) = some (.type "type")
  hdC : hasDictIn K C = true
  te : exmOne K (.ref C) (.ref C) = some true
  fn : ∃ (oc : Value) (od : Option Addr) (doc pm : Value) (an : Option Addr) (cdv ct : Value) (osl : Array (Option Value)) (p1 p2 q1 q2 q3 q4 : Pos),
    K.lookup fI = some ⟨oc, od, .func (fnOf "__init__" "NoText.__init__" (iA p1 p2) (iB q1 q2 q3 q4) iS .none .none doc pm an cdv ct), osl⟩ ∧ codeIn K cdv "NoText.__init__" = true
theorem one_size (v : Value) : [v].length ≤ sizeLine := by
  rw [sizeLine_eq]
  exact (by decide : 1 ≤ 16777216)
theorem kept_but {K : Frag} {h h' : Heap} {x : Addr} (X : K.In h) (hx : K.lookup x = none) (k : ∀ b o, b ≠ x → h.get? b = some o → h'.get? b = some o) : K.In h' := fun a o e =>
  k a o (fun z => by rw [z, hx] at e; cases e) (X a o e)
theorem ldC {M : Model} {s : Shared} {name : Str} {scope : Scope} {L a : Addr} {cd : Value} {m : Str → Option Value} {x : Str} {pos : Pos} {v : Value} {Q : Value → Shared → Prop} {A : Around} {E : Value → Shared → Prop} (hn : s.heap.Ns L m) (hv : m x = some v) (h : Q v s)
    (hk : scope.kind = .function := by rfl) (hl : (envOfC name scope L a cd).kindOf x = some .local := by rfl) (hd : (x == ("__debug__" : Str)) = false := by decide) :
    wpAny M A (eval (.Name x pos) (envOfC name scope L a cd)) Q E s := wpAny_Name (wpAny_loadName_local hk hl hn hv h) hd
/-- what __init__ leaves of a fresh exception at x -/
structure InitEnd (h h' : Heap) (x C dx t1 : Addr) (v : Value) : Prop where
  keep : ∀ b o, b ≠ x → h.get? b = some o → h'.get? b = some o
  obj : h'.get? x = some { cls := .ref C, dict := some dx, data := .fields #[.ref t1, .none, .none, .none, .bool false, .none] }
  dbig : h.objs.size ≤ dx
  dne : dx ≠ x
  ns : h'.Ns1 dx (fun y => if y = "at" then some v else none)
/-- a made Low -/
structure OwnMade (h h' : Heap) (e C d : Addr) (v : Value) : Prop where
  keep : ∀ b o, h.get? b = some o → h'.get? b = some o
  new : h.objs.size ≤ e
  obj : ∃ oe vs, h'.get? e = some oe ∧ oe.cls = .ref C ∧ oe.dict = some d ∧ oe.data = .fields vs ∧ vs[1]? = some .none
  dbig : h.objs.size ≤ d
  dne : d ≠ e
  ns : h'.Ns1 d (fun y => if y = "at" then some v else none)
section
variable {prog : Program} {w : World} {A : Around} {E : Value → Shared → Prop} {R : Result → Shared → Prop} {s : Shared} {K : Frag} {mg : Str → Option Value} {C fI : Addr}
theorem txt_init (T : TxtTxt K mg C fI) {x t0 : Addr} {v : Value} (X : K.In s.heap) (hlim : s.heap.NoLimit) (hx : s.heap.get? x = some (excO C t0)) (hnx : K.lookup x = none) (hroom : A.depth < recursionLimit)
    (hq : ∀ h' tk dx, InitEnd s.heap h' x C dx t0 v → R (.ok (.ret .none)) { s with heap := h', toks := tk }) :
    codeAny (model prog w) A (.call (.ref fI) ⟨[.ref x, v], []⟩) R s := by
  obtain ⟨oc, od, doc, pm, an, cdv, ct, osl, p1, p2, q1, q2, q3, q4, ho, hcd⟩ := T.fn
  obtain ⟨nm, q, N, bs, bm, sn, sub, ab, col, dd, k0, k1, k2, k3, k5, hC, hbm⟩ := T.cls
  have hcl : clsIn K C = some { name := nm, bases := bs, mro := .ref C :: bm, ns := N, qualname := q, hasDict := true, slotNames := sn, subclasses := sub, abstract := ab, collection := col, hasDel := false } := by unfold clsIn; rw [hC] <;> rfl
  refine Att.call_fn (binds := [("self", .ref x), ("at", v)]) X hlim ho hcd hroom (BindsTo.of_eq (by first | rfl | with_unfolding_all rfl)) (by first | rfl | decide | with_unfolding_all rfl) (fun s₁ IC => ?_) rfl rfl rfl
  obtain ⟨h₁, tk₁, rfl⟩ := IC.toInCall.same
  have k : ∀ b o, s.heap.get? b = some o → h₁.get? b = some o := IC.toInCall.keep
  have hn := IC.toInCall.ns
  have hxL : s.heap.objs.size ≠ x := Nat.ne_of_gt (Heap.lt_size hx)
  have X₁ : K.In h₁ := X.keeps k
  have hx₁ := k _ _ hx
  -- self.by = by
  show wpAny _ _ (execs _ _) _ _ _
  refine wpAny_execs_cons (plainObj_wpAny_Assign_Attribute ?_)
  refine ldC (v := v) hn (by first | rfl | with_unfolding_all rfl | kernel_rfl) (ldC (v := .ref x) hn (by first | rfl | with_unfolding_all rfl | kernel_rfl) ?_)
  refine set_plain X₁ (ox := excO C t0) (od := none) ⟨hx₁, rfl, rfl, trivial⟩ T.sa ?_
  refine exc_osa X₁ hx₁ hcl (show refsVE (.ref C :: bm) = true from hbm) rfl T.noN (fun h₃ tk₃ dx k₃ dn dne hx₃ hn₃ => ?_)
  show wpAny _ _ (execs _ _) _ _ _
  have z : s.heap.objs.size < h₁.objs.size := hn.lt
  exact wpAny_execs_nil (hq h₃ tk₃ dx ⟨fun b o hb e => k₃ b o hb (k b o e), hx₃, Nat.le_of_lt (Nat.lt_of_lt_of_le z dn), dne, hn₃⟩)
theorem txt_made (T : TxtTxt K mg C fI) {v : Value} (X : K.In s.heap) (hlim : s.heap.NoLimit) (hroom : A.depth + 1 < recursionLimit)
    (hq : ∀ h' tk e d, OwnMade s.heap h' e C d v → R (.ok (.ret (.ref e))) { s with heap := h', toks := tk }) :
    codeAny (model prog w) A (.call (.ref C) ⟨[v], []⟩) R s := by
  obtain ⟨nm, q, N, bs, bm, sn, sub, ab, col, dd, k0, k1, k2, k3, k5, hC, hbm⟩ := T.cls
  obtain ⟨hp, g, dr, tk, os⟩ := s
  have k : ∀ b o, hp.get? b = some o → ((hp.push (kdv_tup [v])).push (excO C hp.objs.size)).get? b = some o := fun b o e => Heap.get?_push_of_some _ (Heap.get?_push_of_some _ e)
  have hget : ((hp.push (kdv_tup [v])).push (excO C hp.objs.size)).get? (hp.objs.size + 1) = some (excO C hp.objs.size) := by heap_get
  have hnx : K.lookup (hp.objs.size + 1) = none := by
    cases e : K.lookup (hp.objs.size + 1) with
    | none => rfl
    | some o =>
      have z : hp.get? (hp.objs.size + 1) = some o := X _ _ e
      exact absurd (Nat.lt_of_succ_lt (Heap.lt_size z)) (Nat.lt_irrefl _)
  refine call_own F.excBase_ValueError (fun X => refsVE_contains X bm hbm) (X _ _ hC) (looks_findIn X T.iC) (fun self => bind_fn X self T.tC) (one_size v) ?_
  refine txt_init (s := ⟨(hp.push (kdv_tup [v])).push (excO C hp.objs.size), g, dr, tk, os⟩) T (X.keeps k) (hlim.keeps k) hget hnx ?_ fun h' tk' dx ⟨k', hx, dn, dne, hns⟩ => ?_
  · show A.depth + 1 < recursionLimit
    exact hroom
  · have old : ∀ b o, hp.get? b = some o → h'.get? b = some o := fun b o e => k' b o (Nat.ne_of_lt (Nat.lt_succ_of_lt (Heap.lt_size e))) (k b o e)
    have z : hp.objs.size + 1 + 1 ≤ dx := by
      first
        | (simpa only [Heap.size_push] using dn)
        | exact dn
        | (have q := dn; rw [Heap.size_push, Heap.size_push] at q; exact q)
    exact ⟨rfl, hq h' tk' (hp.objs.size + 1) dx ⟨old, Nat.le_succ _, ⟨_, _, hx, rfl, rfl, rfl, rfl⟩, Nat.le_trans (Nat.le_trans (Nat.le_succ _) (Nat.le_succ _)) z, dne, hns⟩⟩
end
end TxtX
end PySem
namespace L2
open PySem PySem.Spec PyProof.Rows
theorem relO_txt {v : V} {v' : Value} (r : RelV v v') (f : Str) : RelO (List.lookup f [(("at" : Str), v)]) (if f = "at" then some v' else none) := by
  by_cases hw : f = "at"
  · subst hw
    rw [if_pos rfl]
    have q : List.lookup ("at" : Str) [(("at" : Str), v)] = some v := by simp [List.lookup]
    rw [q]
    exact r
  · rw [if_neg hw]
    have qw : (f == ("at" : Str)) = false := by simpa using hw
    have q2 : List.lookup f [(("at" : Str), v)] = none := by simp [List.lookup, qw]
    rw [q2]
    trivial
section
variable {X : Cx} {C fI : Addr}
/-- Low(e) -/
def tMkTxt (C : Addr) (ta : TA) : St → Hp → XK → Prop := fun σ H Q => ta σ H fun vs H1 => ∃ v, vs = [v] ∧ ∀ d, H1 d = none → Q (.ref C) (some d) (upd H1 d (.xd [(("at" : Str), v)]))
theorem pmk_txt {a : Expr} {ta : TA} {p pos : Pos} {k : Nat} (T : PySem.TxtX.TxtTxt X.K X.mg C fI) (hr : Room k X.A) (ha : PA X [a] ta) (hg : Gl X "NoText" := by rfl)
    (he : starEach (a :: []) X.env = (false, eval a X.env) :: starEach [] X.env := by rfl) (hpl : (backTo pos (starEach [] X.env)).any (·.1) = false := by rfl) :
    PMk X (.Call (.Name "NoText" p) [a] [] pos) (tMkTxt C ta) := by
  intro pins s σ H Q I h
  refine wpAny_Call_Name_kw (ld_glob I hg T.gC ?_)
  refine PySem.W.callWith_K (h₀ := X.base) I.ok.mod.kin T.kC (thn (ha.run pos pins s σ H _ I h) fun us s1 hh => ?_) he hpl
  obtain ⟨vs, H1, I1, r1, v, ev, q1⟩ := hh
  subst ev
  refine ⟨I1.kIn, ?_⟩
  cases r1 with
  | cons rv rn =>
    rename_i v' us'
    cases rn
    show wpAny _ _ (call (.ref C) [v']) _ _ _
    have hlim := I1.nolimit
    obtain ⟨hp, g, dr, tk, os⟩ := s1
    refine wpAny_call (PySem.TxtX.txt_made T I1.kIn hlim (by have := hr.dp; omega) fun h' tk' e d M => ?_)
    show MkP X pins σ Q (.ref e) ⟨h', g, dr, tk', os⟩
    obtain ⟨oe, fv, hoe, hc, hd, hdat, h1⟩ := M.obj
    have hns := M.ns
    obtain ⟨G', g1, g2⟩ := restrict h' fun b => decide (b ≠ e)
    have gk : ∀ b, b ≠ e → G'.get? b = h'.get? b := fun b hb => g1 b (decide_eq_true hb)
    have ge : G'.get? e = none := g2 e (by simp)
    have old : ∀ b o, hp.get? b = some o → G'.get? b = some o := fun b o q => (gk b (Nat.ne_of_lt (Nat.lt_of_lt_of_le (Heap.lt_size q) M.new))).trans (M.keep b o q)
    have ob : ObjOk X.prog X.w (upd H1 d (.xd [(("at" : Str), v)])) G' d (.xd [(("at" : Str), v)]) :=
      ⟨_, hns.at (fun o q => (gk d M.dne).trans q), fun f => relO_txt rv f⟩
    have J : Inv X pins σ (upd H1 d (.xd [(("at" : Str), v)])) ⟨G', g, dr, tk', os⟩ := I1.laid (t' := tk') old M.dbig ob
    refine ⟨e, oe, fv, ⟨G', g, dr, tk', os⟩, _, .ref C, some d, rfl, J, fun b o q => ?_, ge, hoe, ⟨hc, hd⟩, hdat, h1, ?_, rfl, I1.bare, raises_own T.exC T.tyC, q1 d (I1.hok.fresh M.dbig)⟩
    · by_cases hb : b = e
      · have q' : G'.get? b = some o := q
        rw [hb, ge] at q'; cases q'
      · exact (gk b hb).symm.trans q
    · rw [upd_ne (Ne.symm M.dne)]
      exact I1.hok.fresh M.new
/-- raise Low(e) -/
def tRaiseTxt (C : Addr) (W : WX) (ta : TA) : TS := fun _ σ H => tMkTxt C ta σ H fun cls d H' => W cls d σ H'
theorem ps_raiseTxt {a : Expr} {ta : TA} {W : WX} {p pos pos2 : Pos} {k : Nat} (hc : X.calm = true) (T : PySem.TxtX.TxtTxt X.K X.mg C fI) (hr : Room k X.A) (tk : Takes X W) (ha : PA X [a] ta) (hg : Gl X "NoText" := by rfl)
    (he : starEach (a :: []) X.env = (false, eval a X.env) :: starEach [] X.env := by rfl) (hpl : (backTo pos (starEach [] X.env)).any (·.1) = false := by rfl) :
    PS X (.Raise (some (.Call (.Name "NoText" p) [a] [] pos)) none pos2) (tRaiseTxt C W ta) := ps_raise hc tk (pmk_txt T hr ha hg he hpl)
end
end L2

set_option Elab.async false
set_option linter.all false
set_option maxRecDepth 100000
set_option maxHeartbeats 4000000
/-! Own layer: defs that may raise, and their calls. -/
namespace L2
open ClX
open PySem PySem.Spec PyProof.Rows
structure OkX (P : Program) (w : World) (K : PySem.W.Frag) (mg : Str → Option Value) (base : Heap) (k : Nat) (f : Addr) (ps : List Str) (sp : Sp) : Prop where
  ex : ∃ fd, FnOk P w K mg base (L2.CX P w) k f fd ps sp ∧ Binds K fd ps []
  kp : PySem.W.keepIn K (.ref f) = true
/-- the same by one keyword (its last parameter) -/
structure OkXK (P : Program) (w : World) (K : PySem.W.Frag) (mg : Str → Option Value) (base : Heap) (k : Nat) (f : Addr) (ps : List Str) (kw : Str) (sp : Sp) : Prop where
  ex : ∃ fd, FnOk P w K mg base (L2.CX P w) k f fd ps sp ∧ KBinds K fd ps [kw] (fun us ws => glue1 us ws) (fun vs zs => glue1 vs zs)
section
variable {P : Program} {w : World} {K : PySem.W.Frag} {mg : Str → Option Value} {base : Heap}
theorem FnT.okX {x qual : Str} {st : Stmt} {f : Addr} {N ps : List Str} {k : Nat} {sp : Sp} (h : FnT K x qual st f) (S : FnScope N ps (defScope st)) (hb : BindsAll st x qual ps)
    (len : ∀ vs H Q E, sp vs H Q E → vs.length = ps.length)
    (body : ∀ (cdv : Value) (A : Around) (outer : List Env) (s : Shared) (H : Hp) (vs : List V) (Q : VK) (E : XK), Room k (A.deeper (envOfC qual (defScope st) s.heap.objs.size f cdv)) → sp vs H Q E →
      ∃ t, PSs (cxOf (L2.CX P w) P w K mg base N qual (defScope st) f cdv A outer s H E) (defBody st) t ∧ t { nx := fun _ H' => Q .non H', rt := Q } (start N vs) H) :
    OkX P w K mg base (k + 1) f ps sp := by
  obtain ⟨fd, F⟩ := h.ex
  exact ⟨⟨fd, F.okX S len body, F.binds hb⟩, F.kp⟩
theorem FnT.okXK {x qual kw p0 : Str} {st : Stmt} {f : Addr} {N : List Str} {k : Nat} {sp : Sp} (h : FnT K x qual st f) (S : FnScope N [p0, kw] (defScope st))
    (hb : ∀ (kV doc pm : Value) (an : Option Addr) (cdv ct u v : Value), bindArgs (PySem.W.fnOf x qual (defArgs st) (defBody st) (defScope st) .none kV doc pm an cdv ct) ⟨[u], [(kw, v)]⟩ = pure [(p0, u), (kw, v)])
    (len : ∀ vs H Q E, sp vs H Q E → vs.length = 2)
    (body : ∀ (cdv : Value) (A : Around) (outer : List Env) (s : Shared) (H : Hp) (vs : List V) (Q : VK) (E : XK), Room k (A.deeper (envOfC qual (defScope st) s.heap.objs.size f cdv)) → sp vs H Q E →
      ∃ t, PSs (cxOf (L2.CX P w) P w K mg base N qual (defScope st) f cdv A outer s H E) (defBody st) t ∧ t { nx := fun _ H' => Q .non H', rt := Q } (start N vs) H) :
    OkXK P w K mg base (k + 1) f [p0, kw] kw sp := by
  obtain ⟨fd, F⟩ := h.ex
  refine ⟨fd, F.okX S len body, F.kbinds 1 [kw] glue1 (fun us ws hl => ?_) (fun r q => ?_) fun kV doc pm an cdv ct us ws h1 h2 => ?_⟩
  · unfold glue1 at hl
    split at hl
    · assumption
    · cases hl
  · unfold glue1
    rw [r.length, q.length]
    split
    · exact r.append q
    · exact .nil
  · match us, h1, ws, h2 with
    | [u], _, [v], _ => exact hb kV doc pm an cdv ct u v
end
/-! ### who takes what is raised: nobody (it is not raised), the def's own callers, a try around -/
section
variable {X : Cx}
theorem atL {σ : St} : PassesAt (L2.CX X.prog X.w) X σ E0 := fun pins H s e s' I c => passL pins σ H s e s' I c
theorem atE {E : XK} (tk : Takes X (fun cls d _ H => E cls d H)) {σ : St} : PassesAt (L2.CX X.prog X.w) X σ E := fun _ _ _ e s' I c => tk e s' (XE.of_call I (fun _ _ _ h => h) c)
end
section
variable {X : Cx} {CX : CXT} {k : Nat} {f C : Addr} {fd : FuncData} {ps : List Str} {kw : Str} {sp : Sp} {E : St → XK} {x m : Str} {p pos apos : Pos} {e o : Expr} {es : List Expr} {kws : List Keyword} {ta : TE} {t tk : TA}
theorem px_call (G : OkX X.prog X.w X.K X.mg X.base k f ps sp) (hx : ∀ σ, PassesAt (L2.CX X.prog X.w) X σ (E σ)) (hr : Room k X.A) (hm : X.mg x = some (.ref f)) (ha : PA X (e :: es) t) (hg : Gl X x := by rfl)
    (hdb : (x == ("__debug__" : Str)) = false := by decide) (he : starEach (e :: es) X.env = (false, eval e X.env) :: starEach es X.env := by rfl) (hpl : (backTo pos (starEach es X.env)).any (·.1) = false := by rfl) :
    PE X (.Call (.Name x p) (e :: es) [] pos) (tCallS sp E t) := by
  obtain ⟨⟨fd, F, b⟩, kp⟩ := G
  exact pe_callS F hr hg hm kp b hx ha hdb he hpl
/-- a method's call by positions; what it raises is wished for at the slots -/
def oMeth (C : Addr) (m : Str) (sp : Sp) (E : St → XK) (ta : TE) (t : TA) : TE := fun σ H Q => ta σ H fun x H1 => ∃ a dx fs, x = .ref a ∧ H1 a = some (.ins C dx fs) ∧ fs.lookup m = none ∧ t σ H1 fun vs H2 => sp (x :: vs) H2 Q (E σ)
def oMethK (C : Addr) (m : Str) (sp : Sp) (E : St → XK) (ta : TE) (tk : TA) : TE := fun σ H Q => ta σ H fun x H1 => ∃ a dx fs, x = .ref a ∧ H1 a = some (.ins C dx fs) ∧ fs.lookup m = none ∧ tk σ H1 fun zs H2 => sp (glue1 [x] zs) H2 Q (E σ)
theorem px_meth {pl : Sem Bool} (c : Cls X.K C) (hm : Meth X.K C m f) (G : OkX X.prog X.w X.K X.mg X.base k f ps sp) (hx : ∀ σ, PassesAt (L2.CX X.prog X.w) X σ (E σ)) (hr : Room k X.A) (he : PE X o ta) (ha : PA X (e :: es) t)
    (hst : starEach (e :: es) X.env = (false, eval e X.env) :: starEach es X.env := by rfl) (hpl : (backTo pos (starEach es X.env)).any (·.1) = false := by rfl)
    (ht : eval (.Call (.Attribute o m apos) (e :: es) [] pos) X.env = (do
      let ov ← eval o X.env
      standAt apos.atName
      let (f, first) ← holding [ov] (getMethod ov m pl)
      callWith pos f first (backTo pos (starEach (e :: es) X.env)) (backToKw pos (keywordEach [] X.env))) := by rfl) :
    PE X (.Call (.Attribute o m apos) (e :: es) [] pos) (oMeth C m sp E ta t) := by
  obtain ⟨⟨fd, F, b⟩, kp⟩ := G
  refine ⟨fun pn s σ H Q I h => PySem.W.methodCall_KW (pl := pl) (thn (he.run pn s σ H _ I h) fun u s1 ⟨x, H1, I1, rx, a, dx, fs, ex, ea, l, q⟩ => ?_) ht⟩
  subst ex
  cases rx
  refine getmeth_ok I1 ea c hm l (PySem.W.callWith_K (first := [.ref a]) (h₀ := X.base) I.ok.mod.kin hm.kp (thn (ha.run pos pn s1 σ H1 _ I1 q) fun us s2 ⟨vs, H2, I2, r, q2⟩ => ⟨I2.kIn, ?_⟩) hst hpl)
  exact run_fnS (us := .ref a :: us) (vs := .ref a :: vs) F hr b (hx σ) I2 (.cons rfl r) q2
theorem px_methK {pl : Sem Bool} (c : Cls X.K C) (hm : Meth X.K C m f) (G : OkXK X.prog X.w X.K X.mg X.base k f ps kw sp) (hx : ∀ σ, PassesAt (L2.CX X.prog X.w) X σ (E σ)) (hr : Room k X.A) (he : PE X o ta)
    (hkw : PK X kws tk) (hall : (backToKw pos (keywordEach kws X.env)).all (·.1.isSome) = true := by rfl) (hks : (backToKw pos (keywordEach kws X.env)).filterMap (·.1) = [kw] := by rfl)
    (hpl : ((backTo pos (starEach [] X.env)).any (·.1) || (backToKw pos (keywordEach kws X.env)).any (·.1.isNone)) = false := by rfl)
    (ht : eval (.Call (.Attribute o m apos) [] kws pos) X.env = (do
      let ov ← eval o X.env
      standAt apos.atName
      let (f, first) ← holding [ov] (getMethod ov m pl)
      callWith pos f first (backTo pos (starEach [] X.env)) (backToKw pos (keywordEach kws X.env))) := by rfl) :
    PE X (.Call (.Attribute o m apos) [] kws pos) (oMethK C m sp E ta tk) := by
  obtain ⟨fd, F, b⟩ := G.ex
  refine ⟨fun pn s σ H Q I h => PySem.W.methodCall_KW (pl := pl) (thn (he.run pn s σ H _ I h) fun u s1 ⟨x, H1, I1, rx, a, dx, fs, ex, ea, l, q⟩ => ?_) ht⟩
  subst ex
  cases rx
  refine getmeth_ok I1 ea c hm l (PySem.W.callWith_KW0 (first := [.ref a]) (h₀ := X.base) I.ok.mod.kin hm.kp hall ?_ hpl)
  refine thn (hkw.run pos pn s1 σ H1 _ I1 q) fun ws s2 ⟨zs, H2, I2, rz, q2⟩ => ⟨I2.kIn, ?_⟩
  rw [hks]
  have rv : Vals (glue1 [V.ref a] zs) (glue1 [Value.ref a] ws) := b.rel (.cons rfl .nil) rz
  have hl : (glue1 [Value.ref a] ws).length = ps.length := by
    rw [← rv.length]
    exact F.len _ _ _ _ q2
  refine wpAny_call (codeAny_mono (F.run X.A X.stack s2 H2 ⟨[.ref a], [kw].zip ws⟩ (glue1 [Value.ref a] ws) (glue1 [V.ref a] zs) Q (E σ) hr I2.env0 (b.to s2 [.ref a] ws I2.kIn hl) rv q2) fun r s3 z => ?_)
  match r, z with
  | .error e2, z => exact hx σ pn H2 s2 e2 s3 I2 z
  | .ok (.ret u2), z => exact I2.after z
  | .ok .next, z => exact z.elim
  | .ok .brk, z => exact z.elim
  | .ok .cont, z => exact z.elim
end
/-! ### the classes of errors -/
structure ErrT (K : PySem.W.Frag) (C : Addr) : Prop where
  xP : PySem.W.excIn K C [.type "ValueError", .type "Exception", .type "BaseException", .type "object"] "ValueError.__new__" = true
  kp : PySem.W.keepIn K (.ref C) = true
  bP : PySem.W.subIn K (.ref C) (.type "BaseException") = some true
  tP : PySem.W.typeIn K (.ref C) = some (.type "type")
/-- isinstance's answer from a subclass's -/
theorem kit_ref {K : PySem.W.Frag} {t : Value} {C : Addr} {b : Bool} (hi : PySem.W.isClsIn K C = true) (ht : PySem.W.typeIn K (.ref C) = some (.type "type")) (hs : PySem.W.subIn K t (.ref C) = some b) (hn : t = .ref C → b = true) : PySem.W.kitOne K t (.ref C) = some b := by
  unfold PySem.W.kitOne
  by_cases e : t = .ref C
  · rw [if_pos (by rw [e]; exact beq_self_eq_true _), hn e]
  · rw [if_neg (fun z => e (eq_of_beq z))]
    have z : ((PySem.W.clsIn K C).isSome && PySem.W.typeIn K (.ref C) == some (.type "type")) = true := by
      have h2 : (PySem.W.clsIn K C).isSome = true := hi
      rw [h2, ht]
      rfl
    show (if ((PySem.W.clsIn K C).isSome && PySem.W.typeIn K (.ref C) == some (.type "type")) = true then PySem.W.subIn K t (.ref C) else none) = some b
    rw [if_pos z]
    exact hs
theorem kit_bty {K : PySem.W.Frag} {D : Addr} {T : String} {b : Bool} (hm : PySem.W.kitMeta T = true) (hs : PySem.W.subIn K (.ref D) (.type T) = some b) : PySem.W.kitOne K (.ref D) (.type T) = some b := by
  unfold PySem.W.kitOne
  rw [if_neg (fun z => by cases (eq_of_beq z))]
  show (if PySem.W.kitMeta T = true then PySem.W.subIn K (.ref D) (.type T) else none) = some b
  rw [if_pos hm]
  exact hs
end L2

/-! Own layer: comprehensions whose inner words are found by the terms. -/
namespace L2
open ClX
open PySem PySem.Spec PyProof.Rows
section
variable {X : Cx}
theorem pe_lcD {elt tg iter : Expr} {ifs : List Expr} {scope : Scope} {own : List (Str × Nat)} {pos : Pos} {wi : TI} {g' : Shared → Hp → Addr → List (Str × Addr) → List Addr → TG} {tt' : Shared → Hp → Addr → List (Str × Addr) → List Addr → TT}
    {te' : Shared → Hp → Addr → List (Str × Addr) → List Addr → TE} (hc : X.calm = true) (hN : X.N.Nodup) (hi : PI X tg iter wi) (ok : BlkOk X.N X.env.scope scope own)
    (hg : ∀ (s : Shared) (H : Hp) (C : Addr) (cl : List (Str × Addr)) (fp : List Addr), PG (X.blk s H scope (compEnvC scope cl C X.env) fp) tg (g' s H C cl fp))
    (ht : ∀ (s : Shared) (H : Hp) (C : Addr) (cl : List (Str × Addr)) (fp : List Addr), PTs (X.blk s H scope (compEnvC scope cl C X.env) fp) ifs (tt' s H C cl fp))
    (he : ∀ (s : Shared) (H : Hp) (C : Addr) (cl : List (Str × Addr)) (fp : List Addr), PE (X.blk s H scope (compEnvC scope cl C X.env) fp) elt (te' s H C cl fp))
    (eg : ∀ s H C cl fp, g' s H C cl fp = g' X.s_0 X.H_0 0 [] [] := by intro _ _ _ _ _; rfl) (et : ∀ s H C cl fp, tt' s H C cl fp = tt' X.s_0 X.H_0 0 [] [] := by intro _ _ _ _ _; rfl)
    (ee : ∀ s H C cl fp, te' s H C cl fp = te' X.s_0 X.H_0 0 [] [] := by intro _ _ _ _ _; rfl) (hs : ∀ x, foldedSetIterable iter X.env x = pure x := by intro _; rfl) :
    PE X (.ListComp elt [⟨tg, iter, ifs, 0⟩] scope pos) (tLc wi (g' X.s_0 X.H_0 0 [] []) (tt' X.s_0 X.H_0 0 [] []) (te' X.s_0 X.H_0 0 [] []) (own.map (·.2))) :=
  pe_lc hc hN hi ok (fun s H C cl fp => eg s H C cl fp ▸ hg s H C cl fp) (fun s H C cl fp => et s H C cl fp ▸ ht s H C cl fp) (fun s H C cl fp => ee s H C cl fp ▸ he s H C cl fp) hs
theorem ps_setLcD {i : Nat} {y : Str} {py : Pos} {elt tg iter : Expr} {ifs : List Expr} {scope : Scope} {own : List (Str × Nat)} {pos spos : Pos} {wi : TI} {g' : Shared → Hp → Addr → List (Str × Addr) → List Addr → TG} {tt' : Shared → Hp → Addr → List (Str × Addr) → List Addr → TT}
    {te' : Shared → Hp → Addr → List (Str × Addr) → List Addr → TE} (hc : X.calm = true) (hN : X.N.Nodup) (hy : X.N[i]? = some y) (hyl : X.env.scope.names.lookup y = some .local)
    (hsw : swapsWith (.ListComp elt [⟨tg, iter, ifs, 0⟩] scope pos) (some (.Name y py)) spos.line X.env = pure true) (hi : PI X tg iter wi) (ok : BlkOk X.N X.env.scope scope own)
    (hg : ∀ (s : Shared) (H : Hp) (C : Addr) (cl : List (Str × Addr)) (fp : List Addr), PG (X.blk s H scope (compEnvC scope cl C X.env) fp) tg (g' s H C cl fp))
    (ht : ∀ (s : Shared) (H : Hp) (C : Addr) (cl : List (Str × Addr)) (fp : List Addr), PTs (X.blk s H scope (compEnvC scope cl C X.env) fp) ifs (tt' s H C cl fp))
    (he : ∀ (s : Shared) (H : Hp) (C : Addr) (cl : List (Str × Addr)) (fp : List Addr), PE (X.blk s H scope (compEnvC scope cl C X.env) fp) elt (te' s H C cl fp))
    (eg : ∀ s H C cl fp, g' s H C cl fp = g' X.s_0 X.H_0 0 [] [] := by intro _ _ _ _ _; rfl) (et : ∀ s H C cl fp, tt' s H C cl fp = tt' X.s_0 X.H_0 0 [] [] := by intro _ _ _ _ _; rfl)
    (ee : ∀ s H C cl fp, te' s H C cl fp = te' X.s_0 X.H_0 0 [] [] := by intro _ _ _ _ _; rfl) (hs : ∀ x, foldedSetIterable iter X.env x = pure x := by intro _; rfl) :
    PS X (.Assign [.Name y py] (.ListComp elt [⟨tg, iter, ifs, 0⟩] scope pos) spos) (tAsg (tLc wi (g' X.s_0 X.H_0 0 [] []) (tt' X.s_0 X.H_0 0 [] []) (te' X.s_0 X.H_0 0 [] []) (own.map (·.2))) (gName i)) :=
  ps_setLc hc hN hy hyl hsw hi ok (fun s H C cl fp => eg s H C cl fp ▸ hg s H C cl fp) (fun s H C cl fp => et s H C cl fp ▸ ht s H C cl fp) (fun s H C cl fp => ee s H C cl fp ▸ he s H C cl fp) hs
end
/-- a def's body keeps its promise -/
def BodyX (P : Program) (w : World) (K : PySem.W.Frag) (mg : Str → Option Value) (base : Heap) (N : List Str) (qual : Str) (st : Stmt) (f : Addr) (k : Nat) (sp : Sp) : Prop :=
  ∀ (cdv : Value) (A : Around) (outer : List Env) (s : Shared) (H : Hp) (vs : List V) (Q : VK) (E : XK), Room k (A.deeper (PyProof.Rows.envOfC qual (defScope st) s.heap.objs.size f cdv)) → sp vs H Q E →
      ∃ t, PSs (cxOf (L2.CX P w) P w K mg base N qual (defScope st) f cdv A outer s H E) (defBody st) t ∧ t { nx := fun _ H' => Q .non H', rt := Q } (start N vs) H
/-! ### what isinstance asks of an instance; entries of any kind -/
structure InsT (K : PySem.W.Frag) (C : Addr) : Prop where
  ha : PySem.W.findIn K (.ref C) "__class__" = some (some (.builtin "object.__class__"))
  hn : PySem.W.specialIn K (.builtin "object.__class__") "__get__" = some (some (.builtin "getset_descriptor.__get__"))
  ht : PySem.W.takesIn K (.builtin "object.__class__") = some true
  hm : PySem.W.mroIn K C (.type "object") = some true
theorem TyOf.same {K : PySem.W.Frag} {H H' : Hp} {v : V} {t : Value} (h : TyOf K H v t) (s : Same H H') : TyOf K H' v t := by
  cases h with
  | non => exact .non
  | bl x => exact .bl x
  | int x => exact .int x
  | str x => exact .str x
  | flt x => exact .flt x
  | lst e => exact .lst (s _ _ e)
  | frz e => exact .frz (s _ _ e)
  | tup e => exact .tup (s _ _ e)
  | dK e => exact .dK (s _ _ e)
  | dT e => exact .dT (s _ _ e)
  | ins e c a b d m => exact .ins (s _ _ e) c a b d m
theorem TyX.same {K : PySem.W.Frag} {H H' : Hp} {v : V} {t : Value} (h : TyX K H v t) (s : Same H H') : TyX K H' v t := by
  cases h with
  | base b => exact .base (b.same s)
  | byt b => exact .byt b
  | set e => exact .set (s _ _ e)
  | kList e c => exact .kList e c
  | kTuple e c => exact .kTuple e c
  | kDict e c => exact .kDict e c
  | fTuple e => exact .fTuple (s _ _ e)
  | fDict e => exact .fDict (s _ _ e)
/-- an entry: a text, or something that is none -/
inductive Ent (K : PySem.W.Frag) (H : Hp) : V → Option Str → Prop where
  | str (x : Str) (h : x.length ≤ 1000) : Ent K H (.str x) (some x)
  | no {v : V} {t : Value} (ty : TyX K H v t) (h : PySem.W.kitOne K t (.type "str") = some false) : Ent K H v none
inductive Ents (K : PySem.W.Frag) (H : Hp) : List V → List (Option Str) → Prop where
  | nil : Ents K H [] []
  | cons {v : V} {o : Option Str} {vs : List V} {os : List (Option Str)} (h : Ent K H v o) (t : Ents K H vs os) : Ents K H (v :: vs) (o :: os)
theorem Ent.same {K : PySem.W.Frag} {H H' : Hp} {v : V} {o : Option Str} (h : Ent K H v o) (s : Same H H') : Ent K H' v o := by
  cases h with
  | str x h => exact .str x h
  | no ty h => exact .no (ty.same s) h
theorem Ents.same {K : PySem.W.Frag} {H H' : Hp} {vs : List V} {os : List (Option Str)} (h : Ents K H vs os) (s : Same H H') : Ents K H' vs os := by
  induction h with
  | nil => exact .nil
  | cons a _ ih => exact .cons (a.same s) ih
theorem Ents.len {K : PySem.W.Frag} {H : Hp} {vs : List V} {os : List (Option Str)} (h : Ents K H vs os) : vs.length = os.length := by
  induction h with
  | nil => rfl
  | cons _ _ ih => rw [List.length_cons, List.length_cons, ih]
theorem Ents.get {K : PySem.W.Frag} {H : Hp} {vs : List V} {os : List (Option Str)} (h : Ents K H vs os) : ∀ {i : Nat} {v : V}, vs[i]? = some v → ∃ o, os[i]? = some o ∧ Ent K H v o := by
  induction h with
  | nil => intro i v e; cases e
  | cons a _ ih =>
    intro i v e
    cases i with
    | zero => cases e; exact ⟨_, rfl, a⟩
    | succ i => exact ih e
theorem Ents.app {K : PySem.W.Frag} {H : Hp} {vs ws : List V} {os us : List (Option Str)} (h : Ents K H vs os) (g : Ents K H ws us) : Ents K H (vs ++ ws) (os ++ us) := by
  induction h with
  | nil => exact g
  | cons a _ ih => exact .cons a ih
theorem Ents.strs {K : PySem.W.Frag} {H : Hp} : ∀ (xs : List Str), (∀ x ∈ xs, x.length ≤ 1000) → Ents K H (xs.map V.str) (xs.map some)
  | [], _ => .nil
  | x :: xs, h => .cons (.str x (h x List.mem_cons_self)) (Ents.strs xs fun y hy => h y (List.mem_cons_of_mem _ hy))
/-- all entries are texts -/
theorem Ents.all {K : PySem.W.Frag} {H : Hp} {vs : List V} {os : List (Option Str)} (h : Ents K H vs os) (p : Option Str → Bool) (hp : p none = false) (a : os.all p = true) : vs = (os.filterMap id).map V.str ∧ os = (os.filterMap id).map some ∧ ∀ x ∈ os.filterMap id, x.length ≤ 1000 := by
  induction h with
  | nil => exact ⟨rfl, rfl, fun x hx => by cases hx⟩
  | cons e _ ih =>
    rw [List.all_cons, Bool.and_eq_true] at a
    obtain ⟨i1, i2, i3⟩ := ih a.2
    cases e with
    | str x hx =>
      refine ⟨congrArg (V.str x :: ·) i1, congrArg (some x :: ·) i2, fun y hy => ?_⟩
      rcases List.mem_cons.mp hy with rfl | hy
      · exact hx
      · exact i3 y hy
    | no ty h => rw [hp] at a; exact absurd a.1 (by decide)
end L2

/-! Own layer: a def that may raise, called by two keywords in the other order. -/
namespace L2
open ClX
open PySem PySem.Spec PyProof.Rows
def swap2 {α : Type} : List α → List α → List α
  | [], [a, b] => [b, a]
  | _, _ => []
structure OkXS (P : Program) (w : World) (K : PySem.W.Frag) (mg : Str → Option Value) (base : Heap) (k : Nat) (f : Addr) (ps ks : List Str) (sp : Sp) : Prop where
  ex : ∃ fd, FnOk P w K mg base (L2.CX P w) k f fd ps sp ∧ KBinds K fd ps ks (fun us ws => swap2 us ws) (fun vs zs => swap2 vs zs)
  kp : PySem.W.keepIn K (.ref f) = true
section
variable {P : Program} {w : World} {K : PySem.W.Frag} {mg : Str → Option Value} {base : Heap}
theorem FnT.okXS {x qual p0 p1 : Str} {st : Stmt} {f : Addr} {N : List Str} {k : Nat} {sp : Sp} (h : FnT K x qual st f) (S : FnScope N [p0, p1] (defScope st))
    (hb : ∀ (kV doc pm : Value) (an : Option Addr) (cdv ct u v : Value), bindArgs (PySem.W.fnOf x qual (defArgs st) (defBody st) (defScope st) .none kV doc pm an cdv ct) ⟨[], [(p1, u), (p0, v)]⟩ = pure [(p0, v), (p1, u)])
    (len : ∀ vs H Q E, sp vs H Q E → vs.length = 2) (body : BodyX P w K mg base N qual st f k sp) : OkXS P w K mg base (k + 1) f [p0, p1] [p1, p0] sp := by
  obtain ⟨fd, F⟩ := h.ex
  refine ⟨⟨fd, F.okX S len body, F.kbinds 0 [p1, p0] swap2 (fun us ws hl => ?_) (fun r q => ?_) fun kV doc pm an cdv ct us ws h1 h2 => ?_⟩, F.kp⟩
  · match us, ws, hl with
    | [], [_, _], _ => exact ⟨rfl, rfl⟩
    | [], [], hl => cases hl
    | [], [_], hl => cases hl
    | [], _ :: _ :: _ :: _, hl => cases hl
    | _ :: _, _, hl => cases hl
  · cases r with
    | nil =>
      cases q with
      | nil => exact .nil
      | cons a q =>
        cases q with
        | nil => exact .nil
        | cons b q =>
          cases q with
          | nil => exact .cons b (.cons a .nil)
          | cons _ _ => exact .nil
    | cons _ _ => exact .nil
  · match us, h1, ws, h2 with
    | [], _, [u, v], _ => exact hb kV doc pm an cdv ct u v
end
def oCallS (sp : Sp) (E : St → XK) (tk : TA) : TE := fun σ H Q => tk σ H fun zs H1 => sp (swap2 [] zs) H1 Q (E σ)
theorem px_callS {X : Cx} {k : Nat} {f : Addr} {ps ks : List Str} {sp : Sp} {E : St → XK} {x : Str} {p pos : Pos} {kws : List Keyword} {tk : TA} (G : OkXS X.prog X.w X.K X.mg X.base k f ps ks sp) (hx : ∀ σ, PassesAt (L2.CX X.prog X.w) X σ (E σ)) (hr : Room k X.A)
    (hm : X.mg x = some (.ref f)) (hkw : PK X kws tk) (hg : Gl X x := by rfl) (hall : (backToKw pos (keywordEach kws X.env)).all (·.1.isSome) = true := by rfl) (hks : (backToKw pos (keywordEach kws X.env)).filterMap (·.1) = ks := by rfl)
    (hdb : (x == ("__debug__" : Str)) = false := by decide) (hpl : ((backTo pos (starEach [] X.env)).any (·.1) || (backToKw pos (keywordEach kws X.env)).any (·.1.isNone)) = false := by rfl) :
    PE X (.Call (.Name x p) [] kws pos) (oCallS sp E tk) := by
  obtain ⟨⟨fd, F, b⟩, kp⟩ := G
  refine ⟨fun pn s σ H Q I h => ?_⟩
  refine wpAny_Call_Name_kw (ld_glob I hg hm ?_ hdb)
  refine PySem.W.callWith_KW0 (first := []) (h₀ := X.base) I.ok.mod.kin kp hall ?_ hpl
  refine thn (hkw.run pos pn s σ H _ I h) fun ws s2 ⟨zs, H2, I2, rz, q2⟩ => ⟨I2.kIn, ?_⟩
  rw [hks]
  have rv : Vals (swap2 [] zs) (swap2 [] ws) := b.rel .nil rz
  have hl : (swap2 [] ws).length = ps.length := by
    rw [← rv.length]
    exact F.len _ _ _ _ q2
  refine wpAny_call (codeAny_mono (F.run X.A X.stack s2 H2 ⟨[], ks.zip ws⟩ (swap2 [] ws) (swap2 [] zs) Q (E σ) hr I2.env0 (b.to s2 [] ws I2.kIn hl) rv q2) fun r s3 z => ?_)
  match r, z with
  | .error e2, z => exact hx σ pn H2 s2 e2 s3 I2 z
  | .ok (.ret u2), z => exact I2.after z
  | .ok .next, z => exact z.elim
  | .ok .brk, z => exact z.elim
  | .ok .cont, z => exact z.elim
end L2

/-! Own layer: a property read off an instance whose class is found at run time; f-strings. -/
namespace L2
open ClX
open PySem PySem.Spec PyProof.Rows
theorem propOf_mk {K : PySem.W.Frag} {C p g : Addr} {f : Str} {rest : List Value} (a : PySem.W.findIn K (.ref C) f = some (some (.ref p))) (b : PySem.W.specialIn K (.ref p) "__get__" = some (some (.builtin "property.__get__"))) (c : PySem.W.takesIn K (.ref p) = some true) (d : PySem.W.recIn K p "property" = some (.ref g :: rest)) : PropOf K C f p g := ⟨a, b, c, rest, d⟩
def tPropD (K : PySem.W.Frag) (f : Str) (p g : Addr) (sp : Sp) (ta : TE) : TE := fun σ H Q => ta σ H fun x H1 => ∃ a C dx fs, x = .ref a ∧ H1 a = some (.ins C dx fs) ∧ Cls K C ∧ PropOf K C f p g ∧ sp [.ref a] H1 Q E0
theorem po_propD {X : Cx} {k : Nat} {p g : Addr} {ps : List Str} {sp : Sp} {e : Expr} {f : Str} {pos : Pos} {ta : TE} (G : Ok1 X.prog X.w X.K X.mg X.base k g ps sp) (hr : Room (k + 1) X.A) (he : PE X e ta) (hab : attributeBase e f X.env (eval e X.env) = eval e X.env := by rfl) :
    PE X (.Attribute e f pos) (tPropD X.K f p g sp ta) := by
  obtain ⟨⟨fd, F, b⟩, kp⟩ := G
  refine ⟨fun pins s σ H Q I h => ?_⟩
  refine attr_of hab (thn (he.run pins s σ H _ I h) fun u s1 ⟨x, H1, I1, rx, a, C, dx, fs, ex, ea, c, hp, q⟩ => ?_)
  subst ex
  obtain rfl : u = Value.ref a := rx
  exact getprop_ok I1 ea c hp F hr b .nil pass0 q
end L2

/-! Own layer: the set that a comprehension makes of texts, and its size. -/
set_option Elab.async false
set_option linter.all false
set_option maxRecDepth 100000
set_option maxHeartbeats 4000000
namespace OwnSet
open PySem PySem.Spec PyProof.Rows L2 PpSet
/-- one more member -/
def putM (ms : List Str) (y : Str) : List Str := if ms.any (· == y) then ms else ms ++ [y]
theorem putM_any (ms : List Str) (y k : Str) : (putM ms y).any (· == k) = (ms.any (· == k) || decide (k = y)) := by
  unfold putM
  split
  · rename_i c
    by_cases e : k = y
    · subst e
      rw [c]
      rfl
    · rw [decide_eq_false e, Bool.or_false]
  · rw [List.any_append]
    congr 1
    simp only [List.any_cons, List.any_nil, Bool.or_false]
    by_cases e : k = y
    · subst e
      simp
    · rw [decide_eq_false e]
      exact beq_eq_false_iff_ne.mpr fun q => e q.symm
theorem putM_len (ms : List Str) (y : Str) : (putM ms y).length = if (ms.any (· == y)) = true then ms.length else ms.length + 1 := by
  unfold putM
  split <;> simp_all
/-- a set of texts at a place -/
def TxS (P : Program) (w : World) (a : Addr) (ms : List Str) : HO := .ext fun h => h.SetOf (PySem.strKind P w) a (fun y => ms.any (· == y)) ms.length
theorem txs_ok {P : Program} {w : World} {H : Hp} {h : Heap} {a : Addr} {ms : List Str} (R : h.SetOf (PySem.strKind P w) a (fun y => ms.any (· == y)) ms.length) : ObjOk P w H h a (TxS P w a ms) := by
  have R' := R
  obtain ⟨o, es, ep, t, ho, r⟩ := R'
  refine ⟨R, ⟨o, ho⟩, fun h1 h2 z k => ?_⟩
  obtain ⟨o', es', ep', t', ho', r'⟩ := z
  exact ⟨o', es', ep', t', k o' ho', r'⟩
section
variable {X : Cx}
theorem txs_get {pins : List (Addr × Obj)} {σ : L2.St} {H : Hp} {s : Shared} {a : Addr} {ms : List Str} (I : Inv X pins σ H s) (ha : H a = some (TxS X.prog X.w a ms)) : s.heap.SetOf (PySem.strKind X.prog X.w) a (fun y => ms.any (· == y)) ms.length := (I.hok a _ ha).1
theorem txs_add {pins : List (Addr × Obj)} {σ : L2.St} {H : Hp} {s : Shared} {E : Value → Shared → Prop} {D : Addr} {ms : List Str} {y : Str} {tk : Tok} {Q : Value → Shared → Prop} (I : Inv X pins σ H s) (hD : H D = some (TxS X.prog X.w D ms)) (room : ms.length + 1 < scanBound)
    (h : ∀ s', Inv X pins σ (upd H D (TxS X.prog X.w D (putM ms y))) s' → Q .none s') : wpAny (model X.prog X.w) X.A (call (.builtin "set.add") [.ref D, .str y tk]) Q E s := by
  refine call_set_add (knd := PySem.strKind X.prog X.w) (strKind_is _ _ y tk) rfl (txs_get I hD) room fun h' sb new => ?_
  have new2 : h'.SetOf (PySem.strKind X.prog X.w) D (fun k => (putM ms y).any (· == k)) (putM ms y).length := SetOf_congr new (fun k => (putM_any ms y k).symm) (putM_len ms y).symm
  have has : ∃ u, h'.get? D = some u := by
    obtain ⟨o, _, _, _, ho, _⟩ := new
    exact ⟨o, ho⟩
  exact h _ (I.write (e := D) (t' := s.toks + 1) (by rw [hD]; trivial) (.inl rfl) (fun b u hb hu => (sb.2 b hb).trans hu) has (txs_ok new2))

/-- {elt for target in iter if ..}, elt a text: D is the set -/
def tSx (P : Program) (w : World) (wi : TI) (g : TG) (tt : TT) (te : TE) (own : List Nat) : TE := fun σ H Q => wi σ H fun J H1 => ∀ D, H1 D = none → ∃ W : Nat → Nat → Hp → Prop, (∃ m, W 0 m (upd H1 D (TxS P w D []))) ∧
  ∀ i m H, W i m H → (J.stop i H ∧ Q (.ref D) H) ∨ (J.go i H ∧ ∃ Nx : Hp → Prop, (∀ H', Nx H' → ∃ m', m' < m ∧ W (i + 1) m' H') ∧ ∀ x H', J.yld i H x H' → g x (wipe σ own) H' fun σ2 H2 => wipe σ2 own = wipe σ own ∧
    tt σ2 H2 fun b H3 => if b = true then te σ2 H3 fun y H4 => ∃ (z : Str) (ms : List Str), y = .str z ∧ H4 D = some (TxS P w D ms) ∧ ms.length + 1 < scanBound ∧ Nx (upd H4 D (TxS P w D (putM ms z))) else Nx H3)
theorem sx_core {pins : List (Addr × Obj)} {s : Shared} {σ : L2.St} {H : Hp} {Q : VK} {elt tg iter : Expr} {ifs : List Expr} {sc : Scope} {own : List (PySem.Str × Nat)} {pos pos' : Pos} {wi : TI} {g : TG} {tt : TT} {te : TE} {Qf : Value → Shared → Prop} {use : Option (Value → Sem Unit)}
    (calm : X.calm = true) (nd : X.N.Nodup) (I : Inv X pins σ H s) (ri : PI X tg iter wi) (blk : BlkOk X.N X.env.scope sc own)
    (rg : ∀ (s : Shared) (H : Hp) (C : Addr) (cl : List (PySem.Str × Addr)) (ex : List Addr), PG (X.blk s H sc (compEnvC sc cl C X.env) ex) tg g)
    (rt : ∀ (s : Shared) (H : Hp) (C : Addr) (cl : List (PySem.Str × Addr)) (ex : List Addr), PTs (X.blk s H sc (compEnvC sc cl C X.env) ex) ifs tt)
    (re : ∀ (s : Shared) (H : Hp) (C : Addr) (cl : List (PySem.Str × Addr)) (ex : List Addr), PE (X.blk s H sc (compEnvC sc cl C X.env) ex) elt te)
    (fold : ∀ x, foldedSetIterable iter X.env x = pure x) (h : tSx X.prog X.w wi g tt te (own.map (·.2)) σ H Q)
    (out : ∀ D C s' m H', Inv X pins σ H' s' → Q (.ref D) H' → s'.heap.Ns C m → FpOk X pins H' C → compPost (model X.prog X.w) X.A X.xe use Qf (.ref D) C (.ok .next) s') :
    wpAny (model X.prog X.w) X.A (comprehension (.SetComp elt [⟨tg, iter, ifs, 0⟩] sc pos) sc X.env pos' (PySem.newSet (.type "set")) false (eval iter X.env) use) Qf X.xe s := by
  have frees : ∀ y ∈ sc.names, y.2 = .free → ∃ c, X.env.cells.lookup y.1 = some c := fun y my e => (blk.free y my e).elim (fun k => I.ok.has _ (.inl k)) (fun k => I.ok.has _ (.inr k))
  refine wpAny_comprehension_free (use := use) rfl fold (closure_ok frees) blk.kind (fun y my e => by rw [blk.uniq y my, e]) (thn (ri.run pins s σ H _ I h) fun xv s1 q1 => thn q1 fun itv s2 q2 => ?_)
  obtain ⟨it, ex, tn, J, H2, rfl, I2, T, st2, f2, q⟩ := q2
  refine wpAny_newSet_of (knd := PySem.strKind X.prog X.w) (fun led fresh => newEnv_comp ?_)
  generalize eD : s2.heap.objs.size = D at fresh
  have freeD : H2 D = none := I2.hok.fresh (Nat.le_of_eq eD)
  obtain ⟨W, ⟨m0, w0⟩, turn⟩ := q D freeD
  generalize e3 : ({ s2 with heap := s2.heap.push { cls := .type "set", dict := none, data := .set #[] 0 (.fresh 0 0 led) } } : Shared) = s3
  have p3 : s3.heap = s2.heap.push { cls := .type "set", dict := none, data := .set #[] 0 (.fresh 0 0 led) } := by rw [← e3]
  have more3 : ∀ b o, s2.heap.get? b = some o → s3.heap.get? b = some o := fun b o z => by rw [p3]; exact Heap.get?_push_of_some _ z
  have new3 : s3.heap.SetOf (PySem.strKind X.prog X.w) D (fun y => ([] : List Str).any (· == y)) ([] : List Str).length := by
    rw [p3]
    exact SetOf_congr fresh (fun _ => rfl) rfl
  have I3 : Inv X pins σ (upd H2 D (TxS X.prog X.w D [])) s3 := by
    have z := I2.laid (h' := s3.heap) (t' := s2.toks) (a := D) more3 (Nat.le_of_eq eD) (txs_ok new3)
    rw [← e3] at z ⊢
    exact z
  have lt2 : ∀ b ∈ ex, b < s2.heap.objs.size := fun b mb => let ⟨_, z, _⟩ := T.obj _ _ st2 b mb; Heap.lt_size z
  have f3 : ∀ b ∈ ex, FpOk X pins (upd H2 D (TxS X.prog X.w D [])) b ∧ b < s3.heap.objs.size := fun b mb => by
    refine ⟨⟨?_, (f2 b mb).2⟩, by rw [p3, Heap.size_push]; exact Nat.lt_succ_of_lt (lt2 b mb)⟩
    have ne : b ≠ D := by rw [← eD]; exact Nat.ne_of_lt (lt2 b mb)
    rw [upd_ne ne]
    exact (f2 b mb).1
  have st3 : tn 0 s3.heap := T.keep _ _ _ st2 fun b _ o z => more3 b o z
  have I4 := block_start I3 blk nd f3
  generalize eH : upd H2 D (TxS X.prog X.w D []) = H3 at w0 I3 f3 I4
  have gg := rg s3 H3 s3.heap.objs.size (cellsFrom (s3.heap.objs.size + 1) sc.names (cloFrom X.env.cells sc.names [])) ex
  have gt := rt s3 H3 s3.heap.objs.size (cellsFrom (s3.heap.objs.size + 1) sc.names (cloFrom X.env.cells sc.names [])) ex
  have ge := re s3 H3 s3.heap.objs.size (cellsFrom (s3.heap.objs.size + 1) sc.names (cloFrom X.env.cells sc.names [])) ex
  have n3 : ∀ b ∈ ex, H3 b = none := fun b mb => (f3 b mb).1.1
  generalize ec : compEnvC sc (cellsFrom (s3.heap.objs.size + 1) sc.names (cloFrom X.env.cells sc.names [])) s3.heap.objs.size X.env = ce at I4 gg gt ge
  have lc : ce.locals = s3.heap.objs.size := by rw [← ec]; rfl
  show codeAny _ _ (.compStart (.SetComp elt [⟨tg, iter, ifs, 0⟩] sc pos) 0 (.ref it) (.ref D) (compEnvC sc (cellsFrom (s3.heap.objs.size + 1) sc.names (cloFrom X.env.cells sc.names [])) s3.heap.objs.size X.env)) (compPost (model X.prog X.w) X.A X.xe use Qf (.ref D) s3.heap.objs.size)
    { s3 with heap := pushCells (s3.heap.push { cls := .type "dict", data := .dict #[] }) sc.names }
  rw [ec]
  generalize e4 : ({ s3 with heap := pushCells (s3.heap.push { cls := .type "dict", data := .dict #[] }) sc.names } : Shared) = s4 at I4 ⊢
  have st4 : tn 0 s4.heap := T.keep _ _ _ st3 fun b _ o z => by
    rw [← e4]
    exact pushCells_keeps _ _ _ _ (Heap.get?_push_of_some _ z)
  have calmFp : ∀ {σ' : L2.St} {H' : Hp} {s' : Shared}, Inv (X.blk s3 H3 sc ce ex) [] σ' H' s' → (∀ b ∈ ex, H' b = none) → ∀ b ∈ ex, FpOk (X.blk s3 H3 sc ce ex) [] H' b := fun {σ' H' s'} J nn b mb =>
    ⟨nn b mb, (J.ok.exf b mb).1, J.ok.exfs b mb, .inl mb, (J.ok.exf b mb).2, fun p mp => absurd (show p ∈ ([] : List (Addr × Obj)) ++ [] from mp) (by simp)⟩
  let Pn : Nat → Shared → Prop := fun n s' => ∃ i H', Inv (X.blk s3 H3 sc ce ex) [] (wipe σ (own.map (·.2))) H' s' ∧ tn i s'.heap ∧ (∀ b ∈ ex, H' b = none) ∧ W i n H'
  have loop : codeAny (model X.prog X.w) X.A (.compLoop (.SetComp elt [⟨tg, iter, ifs, 0⟩] sc pos) 0 (.ref it) (.ref D) ce) (compPost (model X.prog X.w) X.A X.xe use Qf (.ref D) s3.heap.objs.size) s4 := by
    refine compLoopS_any Pn ?_ m0 ⟨0, H3, I4, st4, n3, w0⟩
    rintro n s5 ⟨i, H5, I5, st5, n5, w5⟩
    rcases turn i n H5 w5 with ⟨stop, fin⟩ | ⟨go, Nx, nxt, step⟩
    · refine thnF (T.done (X.blk s3 H3 sc ce ex) rfl rfl rfl calm i [] s5 _ H5 (fun _ _ => False) I5 (calmFp I5 n5) st5 stop) fun r s6 ⟨er, I6⟩ => ?_
      subst er
      have nC : H5 s3.heap.objs.size = none := lc ▸ (show H5 ce.locals = none from I6.free)
      obtain ⟨m, nm, _⟩ := I6.loc
      have nm : s6.heap.Ns s3.heap.objs.size m := lc ▸ (show s6.heap.Ns ce.locals m from nm)
      refine out D s3.heap.objs.size s6 m H5 (I3.call' (ch := ex) I6.os I6.base I6.hok I6.bare fun b mb => ?_) fin nm (I3.fpOk (Nat.le_refl _) nC)
      have z := (f3 b mb).1.2
      exact ⟨z.2.2.1, z.1, z.2.2.2.1, z.2.2.2.2⟩
    · refine thnF (T.item (X.blk s3 H3 sc ce ex) rfl rfl rfl calm i [] s5 _ H5 (fun _ _ => False) I5 (calmFp I5 n5) st5 go) fun r s6 ⟨u, er, q6⟩ => ?_
      subst er
      refine thnF q6 fun _ s7 ⟨x, H7, I7, r7, y7, st7, n7⟩ => ?_
      refine thnF (gg.run _ s7 _ H7 x u _ (I7.pinned (calmFp I7 n7) (T.obj _ _ st7)) r7 (step x H7 y7)) fun _ s8 ⟨σ8, H8, I8, ew, q8⟩ => ?_
      refine thnF (gt.run _ s8 σ8 H8 _ I8 q8) fun b s9 ⟨H9, I9, q9⟩ => ?_
      have again : ∀ {s' : Shared} {H' : Hp}, Inv (X.blk s3 H3 sc ce ex) ([] ++ pinsAt ex s7.heap) σ8 H' s' → Nx H' → ∃ m, m < n ∧ Pn m s' := fun {s' H'} J nx => by
        obtain ⟨m', lm, w'⟩ := nxt H' nx
        have stay : ∀ c ∈ ex, ∀ o, s7.heap.get? c = some o → s'.heap.get? c = some o ∧ H' c = none := fun c mc o z => by
          have y := J.pin (c, o) (List.mem_append_right _ (List.mem_append_right _ (mem_pinsAt mc z)))
          exact ⟨y.1, y.2.1⟩
        refine ⟨m', lm, i + 1, H', (J.unpinned (pins := [])).weak (by rw [← ew, wipe_length]) (fun j v z => ?_), T.keep _ _ _ st7 fun c mc o z => (stay c mc o z).1, fun c mc => ?_, w'⟩
        · rw [← ew] at z
          exact (wipe_some z).1
        · obtain ⟨o, z, _⟩ := T.obj _ _ st7 c mc
          exact (stay c mc o z).2
      have q9 : if b = true then te σ8 H9 (fun y H4 => ∃ (z : Str) (ms : List Str), y = .str z ∧ H4 D = some (TxS X.prog X.w D ms) ∧ ms.length + 1 < scanBound ∧ Nx (upd H4 D (TxS X.prog X.w D (putM ms z)))) else Nx H9 := q9
      by_cases hb : b = true
      · subst hb
        rw [if_pos rfl] at q9 ⊢
        refine thnF (ge.run _ s9 σ8 H9 _ I9 q9) fun z s10 ⟨yv, H10, I10, r10, zt, ms, ey, hD, small, nx⟩ => ?_
        subst ey
        obtain ⟨tk, ez⟩ := r10
        subst ez
        exact txs_add (X := X.blk s3 H3 sc ce ex) I10 hD small fun s11 I11 => again I11 nx
      · rw [if_neg hb] at q9 ⊢
        exact again I9 q9
  exact codeAny_compStart_set loop (T.self X.A 0 _ _ _ st4 loop)
/-- as a value; the inner words are found by the terms -/
theorem pe_sxD {elt tg iter : Expr} {ifs : List Expr} {scope : Scope} {own : List (Str × Nat)} {pos : Pos} {wi : TI} {g' : Shared → Hp → Addr → List (Str × Addr) → List Addr → TG} {tt' : Shared → Hp → Addr → List (Str × Addr) → List Addr → TT}
    {te' : Shared → Hp → Addr → List (Str × Addr) → List Addr → TE} (hc : X.calm = true) (hN : X.N.Nodup) (hi : PI X tg iter wi) (ok : BlkOk X.N X.env.scope scope own)
    (hg : ∀ (s : Shared) (H : Hp) (C : Addr) (cl : List (Str × Addr)) (fp : List Addr), PG (X.blk s H scope (compEnvC scope cl C X.env) fp) tg (g' s H C cl fp))
    (ht : ∀ (s : Shared) (H : Hp) (C : Addr) (cl : List (Str × Addr)) (fp : List Addr), PTs (X.blk s H scope (compEnvC scope cl C X.env) fp) ifs (tt' s H C cl fp))
    (he : ∀ (s : Shared) (H : Hp) (C : Addr) (cl : List (Str × Addr)) (fp : List Addr), PE (X.blk s H scope (compEnvC scope cl C X.env) fp) elt (te' s H C cl fp))
    (eg : ∀ s H C cl fp, g' s H C cl fp = g' X.s_0 X.H_0 0 [] [] := by intro _ _ _ _ _; rfl) (et : ∀ s H C cl fp, tt' s H C cl fp = tt' X.s_0 X.H_0 0 [] [] := by intro _ _ _ _ _; rfl)
    (ee : ∀ s H C cl fp, te' s H C cl fp = te' X.s_0 X.H_0 0 [] [] := by intro _ _ _ _ _; rfl) (hs : ∀ x, foldedSetIterable iter X.env x = pure x := by intro _; rfl) :
    PE X (.SetComp elt [⟨tg, iter, ifs, 0⟩] scope pos) (tSx X.prog X.w wi (g' X.s_0 X.H_0 0 [] []) (tt' X.s_0 X.H_0 0 [] []) (te' X.s_0 X.H_0 0 [] []) (own.map (·.2))) := by
  refine ⟨fun pins s σ H Q I h => ?_⟩
  rw [eval_SetComp]
  refine sx_core hc hN I hi ok (fun s H C cl fp => eg s H C cl fp ▸ hg s H C cl fp) (fun s H C cl fp => et s H C cl fp ▸ ht s H C cl fp) (fun s H C cl fp => ee s H C cl fp ▸ he s H C cl fp) hs h fun D C s' m H' J q nm f => ⟨m, nm, fun h2 sb => ?_⟩
  obtain ⟨a0, a1, _, a3, a4, a5⟩ := f
  exact ⟨.ref D, H', J.turned (t' := s'.toks) (fun b o ne e => (sb.2 b ne).trans e) a0 a1 a3 a4 a5, rfl, q⟩
/-- len of a set of texts -/
def rLenTx (P : Program) (w : World) : List V → Hp → VK → Prop := fun xs H Q => ∃ (a : Addr) (ms : List Str), xs = [V.ref a] ∧ H a = some (TxS P w a ms) ∧ ms.length < scanBound ∧ Q (.int (ms.length : Nat)) H
theorem call_lenTx : CallR X (.builtin "len") (rLenTx X.prog X.w) := by
  intro pins s σ H xs us Q I r h
  obtain ⟨a, ms, rfl, ha, small, q⟩ := h
  cases r with
  | cons ra rt =>
    cases rt
    cases ra
    obtain ⟨o, es, ep, t, ho, hex, hd, _, _, _, hf, hn⟩ := txs_get I ha
    exact call_len_set ho hex hd hf (by rw [hn]; unfold scanBound at small; omega) ⟨.int _, H, I.tok _, ⟨_, by rw [hn]⟩, q⟩
/-- over a list that the block leaves as it is -/
theorem sx_list {P : Program} {w : World} {K : PySem.W.Frag} {a : Addr} {xs : List V} {g : TG} {tt : TT} {te : TE} {vs : List Nat} {σ : L2.St} {H1 : Hp} {D : Addr} {Qd : Hp → Prop} (Pv : Nat → Hp → Prop) (h0 : Pv 0 (upd H1 D (TxS P w D []))) (hl : ∀ i H, i ≤ xs.length → Pv i H → SqL K H a xs)
    (hs : ∀ i x H, xs[i]? = some x → Pv i H → g x (wipe σ vs) H fun σ2 H2 => wipe σ2 vs = wipe σ vs ∧ tt σ2 H2 fun b H3 =>
      if b = true then te σ2 H3 fun y H4 => ∃ (z : Str) (ms : List Str), y = .str z ∧ H4 D = some (TxS P w D ms) ∧ ms.length + 1 < scanBound ∧ Pv (i + 1) (upd H4 D (TxS P w D (putM ms z))) else Pv (i + 1) H3) (hd : ∀ H, Pv xs.length H → Qd H) :
    ∃ W : Nat → Nat → Hp → Prop, (∃ m, W 0 m (upd H1 D (TxS P w D []))) ∧ ∀ i m H, W i m H → ((Itl K a).stop i H ∧ Qd H) ∨ ((Itl K a).go i H ∧ ∃ Nx : Hp → Prop, (∀ H', Nx H' → ∃ m', m' < m ∧ W (i + 1) m' H') ∧
      ∀ x H', (Itl K a).yld i H x H' → g x (wipe σ vs) H' fun σ2 H2 => wipe σ2 vs = wipe σ vs ∧ tt σ2 H2 fun b H3 =>
        if b = true then te σ2 H3 fun y H4 => ∃ (z : Str) (ms : List Str), y = .str z ∧ H4 D = some (TxS P w D ms) ∧ ms.length + 1 < scanBound ∧ Nx (upd H4 D (TxS P w D (putM ms z))) else Nx H3) := by
  refine ⟨fun i m H => i ≤ xs.length ∧ m + i = xs.length ∧ Pv i H, ⟨xs.length, Nat.zero_le _, rfl, h0⟩, ?_⟩
  rintro i m H ⟨le, sum, p⟩
  have sq := hl i H le p
  rcases Nat.lt_or_eq_of_le le with lt | rfl
  · refine .inr ⟨⟨xs, xs[i], sq, List.getElem?_eq_getElem lt⟩, Pv (i + 1), fun H' p' => ⟨m - 1, by omega, lt, by omega, p'⟩, ?_⟩
    rintro x H' ⟨rfl, y⟩
    exact hs i x _ (y xs sq) p
  · exact .inl ⟨⟨xs, sq, Nat.le_refl _⟩, hd H p⟩
/-- a list beside the empty one, whatever its entries are -/
def rNil (K : PySem.W.Frag) (f : Bool → Bool) : R2 := fun x y H Q => ∃ (a b : Addr) (xs : List V), x = .ref a ∧ y = .ref b ∧ SqL K H a xs ∧ SqL K H b [] ∧ Q (.bl (f (decide (xs = [])))) H
theorem op_eqNil (hu : X.A.units + 64 < cLine) : OpR X (compareOp .Eq) (rNil X.K id) := by
  intro pins s σ H x y v u Q I rx ry h
  obtain ⟨a, b, xs, rfl, rfl, ha, hb, q⟩ := h
  cases rx
  cases ry
  obtain ⟨is, r1, l1, _⟩ := I.list ha
  obtain ⟨js, r2, l2, _⟩ := I.list hb
  cases r2
  cases xs with
  | nil =>
    cases r1
    exact SeqAt.eq_listAt (e := fun _ => true) l1.isList l2.isList rfl (by omega) (fun j h1 _ => absurd h1 (Nat.not_lt_zero _)) ⟨.bl _, H, I, rfl, q⟩
  | cons z zs =>
    cases r1
    exact SeqAt.eq_list_lengthsAt l1.isList l2.isList rfl (by omega) ⟨.bl _, H, I, rfl, q⟩
theorem op_neNil (hu : X.A.units + 64 < cLine) : OpR X (compareOp .NotEq) (rNil X.K fun b => !b) := by
  intro pins s σ H x y v u Q I rx ry h
  obtain ⟨a, b, xs, rfl, rfl, ha, hb, q⟩ := h
  cases rx
  cases ry
  obtain ⟨is, r1, l1, _⟩ := I.list ha
  obtain ⟨js, r2, l2, _⟩ := I.list hb
  cases r2
  cases xs with
  | nil =>
    cases r1
    exact SeqAt.RcNeAt.lists (e := fun _ => true) l1.isList l2.isList rfl (by omega) (fun j h1 _ => absurd h1 (Nat.not_lt_zero _)) _ _ _ _ ⟨.bl _, H, I, rfl, q⟩
  | cons z zs =>
    cases r1
    exact SeqAt.RcNeAt.lists_lengths l1.isList l2.isList rfl (by omega) _ _ _ _ ⟨.bl _, H, I, rfl, q⟩
end
end OwnSet
namespace L2
open ClX
open PySem PySem.Spec PyProof.Rows
def only1 {α : Type} : List α → List α → List α
  | [], [a] => [a]
  | _, _ => []
/-- a def of one parameter, called by its name -/
structure OkX1 (P : Program) (w : World) (K : PySem.W.Frag) (mg : Str → Option Value) (base : Heap) (k : Nat) (f : Addr) (ps : List Str) (sp : Sp) : Prop where
  ex : ∃ fd, FnOk P w K mg base (L2.CX P w) k f fd ps sp ∧ KBinds K fd ps ps (fun us ws => only1 us ws) (fun vs zs => only1 vs zs)
  kp : PySem.W.keepIn K (.ref f) = true
section
variable {P : Program} {w : World} {K : PySem.W.Frag} {mg : Str → Option Value} {base : Heap}
theorem FnT.okX1 {x qual p0 : Str} {st : Stmt} {f : Addr} {N : List Str} {k : Nat} {sp : Sp} (h : FnT K x qual st f) (S : FnScope N [p0] (defScope st))
    (hb : ∀ (kV doc pm : Value) (an : Option Addr) (cdv ct u : Value), bindArgs (PySem.W.fnOf x qual (defArgs st) (defBody st) (defScope st) .none kV doc pm an cdv ct) ⟨[], [(p0, u)]⟩ = pure [(p0, u)])
    (len : ∀ vs H Q E, sp vs H Q E → vs.length = 1) (body : BodyX P w K mg base N qual st f k sp) : OkX1 P w K mg base (k + 1) f [p0] sp := by
  obtain ⟨fd, F⟩ := h.ex
  refine ⟨⟨fd, F.okX S len body, F.kbinds 0 [p0] only1 (fun us ws hl => ?_) (fun r q => ?_) fun kV doc pm an cdv ct us ws h1 h2 => ?_⟩, F.kp⟩
  · match us, ws, hl with
    | [], [_], _ => exact ⟨rfl, rfl⟩
    | [], [], hl => cases hl
    | [], _ :: _ :: _, hl => cases hl
    | _ :: _, _, hl => cases hl
  · cases r with
    | nil =>
      cases q with
      | nil => exact .nil
      | cons a q =>
        cases q with
        | nil => exact .cons a .nil
        | cons _ _ => exact .nil
    | cons _ _ => exact .nil
  · match us, h1, ws, h2 with
    | [], _, [u], _ => exact hb kV doc pm an cdv ct u
end
def oCall1 (sp : Sp) (E : St → XK) (tk : TA) : TE := fun σ H Q => tk σ H fun zs H1 => sp (only1 [] zs) H1 Q (E σ)
theorem px_call1 {X : Cx} {k : Nat} {f : Addr} {ps : List Str} {sp : Sp} {E : St → XK} {x : Str} {p pos : Pos} {kws : List Keyword} {tk : TA} (G : OkX1 X.prog X.w X.K X.mg X.base k f ps sp) (hx : ∀ σ, PassesAt (L2.CX X.prog X.w) X σ (E σ)) (hr : Room k X.A)
    (hm : X.mg x = some (.ref f)) (hkw : PK X kws tk) (hg : Gl X x := by rfl) (hall : (backToKw pos (keywordEach kws X.env)).all (·.1.isSome) = true := by rfl) (hks : (backToKw pos (keywordEach kws X.env)).filterMap (·.1) = ps := by rfl)
    (hdb : (x == ("__debug__" : Str)) = false := by decide) (hpl : ((backTo pos (starEach [] X.env)).any (·.1) || (backToKw pos (keywordEach kws X.env)).any (·.1.isNone)) = false := by rfl) :
    PE X (.Call (.Name x p) [] kws pos) (oCall1 sp E tk) := by
  obtain ⟨⟨fd, F, b⟩, kp⟩ := G
  refine ⟨fun pn s σ H Q I h => wpAny_Call_Name_kw (ld_glob I hg hm ?_ hdb)⟩
  refine PySem.W.callWith_KW0 (first := []) (h₀ := X.base) I.ok.mod.kin kp hall ?_ hpl
  refine thn (hkw.run pos pn s σ H _ I h) fun ws s2 ⟨zs, H2, I2, rz, q2⟩ => ⟨I2.kIn, ?_⟩
  rw [hks]
  have rv : Vals (only1 [] zs) (only1 [] ws) := b.rel .nil rz
  have hl : (only1 [] ws).length = ps.length := by
    rw [← rv.length]
    exact F.len _ _ _ _ q2
  refine wpAny_call (codeAny_mono (F.run X.A X.stack s2 H2 ⟨[], ps.zip ws⟩ (only1 [] ws) (only1 [] zs) Q (E σ) hr I2.env0 (b.to s2 [] ws I2.kIn hl) rv q2) fun r s3 z => ?_)
  match r, z with
  | .error e2, z => exact hx σ pn H2 s2 e2 s3 I2 z
  | .ok (.ret u2), z => exact I2.after z
  | .ok .next, z => exact z.elim
  | .ok .brk, z => exact z.elim
  | .ok .cont, z => exact z.elim
end L2

/-! Own layer: a new dict that a loop goes over at once; dict comprehensions over any walk. -/
set_option Elab.async false
set_option linter.all false
set_option maxRecDepth 100000
set_option maxHeartbeats 4000000
namespace L2
open ClX
open PySem PySem.Spec PyProof.Rows
section
variable {X : Cx}
/-- a thing that is made here and left as it is from here on -/
def tFreeze (td : TE) : TE := fun σ H Q => td σ H fun x H1 => ∃ d u, x = .ref d ∧ H1 d = some u ∧ Mut (some u) ∧ ∀ od, Q x (upd H1 d (.frz od u))
theorem pe_freeze {e : Expr} {td : TE} (he : PE X e td) : PE X e (tFreeze td) := by
  refine ⟨fun pins s σ H Q I h => thn (he.run pins s σ H _ I h) fun v s1 ⟨x, H1, I1, r1, d, u, ex, hd, mu, q⟩ => ?_⟩
  obtain ⟨od, I2⟩ := I1.lock hd mu
  exact ⟨x, _, I2, r1, q od⟩
theorem pe_dcD {kx vx tg iter : Expr} {ifs : List Expr} {scope : Scope} {own : List (Str × Nat)} {pos : Pos} {wi : TI} {g' : Shared → Hp → Addr → List (Str × Addr) → List Addr → TG} {tt' : Shared → Hp → Addr → List (Str × Addr) → List Addr → TT}
    {tk' tv' : Shared → Hp → Addr → List (Str × Addr) → List Addr → TE} (hc : X.calm = true) (hN : X.N.Nodup) (hi : PI X tg iter wi) (ok : BlkOk X.N X.env.scope scope own)
    (hg : ∀ (s : Shared) (H : Hp) (C : Addr) (cl : List (Str × Addr)) (fp : List Addr), PG (X.blk s H scope (compEnvC scope cl C X.env) fp) tg (g' s H C cl fp))
    (ht : ∀ (s : Shared) (H : Hp) (C : Addr) (cl : List (Str × Addr)) (fp : List Addr), PTs (X.blk s H scope (compEnvC scope cl C X.env) fp) ifs (tt' s H C cl fp))
    (hk : ∀ (s : Shared) (H : Hp) (C : Addr) (cl : List (Str × Addr)) (fp : List Addr), PE (X.blk s H scope (compEnvC scope cl C X.env) fp) kx (tk' s H C cl fp))
    (he : ∀ (s : Shared) (H : Hp) (C : Addr) (cl : List (Str × Addr)) (fp : List Addr), PE (X.blk s H scope (compEnvC scope cl C X.env) fp) vx (tv' s H C cl fp))
    (eg : ∀ s H C cl fp, g' s H C cl fp = g' X.s_0 X.H_0 0 [] [] := by intro _ _ _ _ _; rfl) (et : ∀ s H C cl fp, tt' s H C cl fp = tt' X.s_0 X.H_0 0 [] [] := by intro _ _ _ _ _; rfl)
    (ek : ∀ s H C cl fp, tk' s H C cl fp = tk' X.s_0 X.H_0 0 [] [] := by intro _ _ _ _ _; rfl) (ee : ∀ s H C cl fp, tv' s H C cl fp = tv' X.s_0 X.H_0 0 [] [] := by intro _ _ _ _ _; rfl)
    (hs : ∀ x, foldedSetIterable iter X.env x = pure x := by intro _; rfl) :
    PE X (.DictComp kx vx [⟨tg, iter, ifs, 0⟩] scope pos) (tDc wi (g' X.s_0 X.H_0 0 [] []) (tt' X.s_0 X.H_0 0 [] []) (tk' X.s_0 X.H_0 0 [] []) (tv' X.s_0 X.H_0 0 [] []) (own.map (·.2))) :=
  pe_dc hc hN hi ok (fun s H C cl fp => eg s H C cl fp ▸ hg s H C cl fp) (fun s H C cl fp => et s H C cl fp ▸ ht s H C cl fp) (fun s H C cl fp => ek s H C cl fp ▸ hk s H C cl fp) (fun s H C cl fp => ee s H C cl fp ▸ he s H C cl fp) hs
/-- a dict comprehension over any walk -/
theorem dc_it {J : It} {n : Nat} {G : Hp → Prop} {Y : Nat → Hp → V → Hp → Prop} (w : Walk J n G Y) {g : TG} {tt : TT} {tk tv : TE} {vs : List Nat} {σ : St} {H1 : Hp} {D : Addr} {Qd : Hp → Prop} (Pv : Nat → Hp → Prop) (h0 : Pv 0 (upd H1 D (.dK []))) (hG : ∀ i H, i ≤ n → Pv i H → G H)
    (hs : ∀ i x H H', i < n → Pv i H → Y i H x H' → g x (wipe σ vs) H' fun σ2 H2 => wipe σ2 vs = wipe σ vs ∧ tt σ2 H2 fun b H3 =>
      if b = true then tk σ2 H3 fun y H4 => tv σ2 H4 fun z H5 => ∃ kvs k, y = kV k ∧ H5 D = some (.dK kvs) ∧ kvs.length < sizeLine ∧ Pv (i + 1) (upd H5 D (.dK (putK kvs k z))) else Pv (i + 1) H3) (hd : ∀ H, Pv n H → Qd H) :
    ∃ W : Nat → Nat → Hp → Prop, (∃ m, W 0 m (upd H1 D (.dK []))) ∧ ∀ i m H, W i m H → (J.stop i H ∧ Qd H) ∨ (J.go i H ∧ ∃ Nx : Hp → Prop, (∀ H', Nx H' → ∃ m', m' < m ∧ W (i + 1) m' H') ∧
      ∀ x H', J.yld i H x H' → g x (wipe σ vs) H' fun σ2 H2 => wipe σ2 vs = wipe σ vs ∧ tt σ2 H2 fun b H3 =>
        if b = true then tk σ2 H3 fun y H4 => tv σ2 H4 fun z H5 => ∃ kvs k, y = kV k ∧ H5 D = some (.dK kvs) ∧ kvs.length < sizeLine ∧ Nx (upd H5 D (.dK (putK kvs k z))) else Nx H3) := by
  refine ⟨fun i m H => i ≤ n ∧ m + i = n ∧ Pv i H, ⟨n, Nat.zero_le _, rfl, h0⟩, ?_⟩
  rintro i m H ⟨le, sum, p⟩
  have ok := hG i H le p
  rcases Nat.lt_or_eq_of_le le with lt | rfl
  · exact .inr ⟨w.goes i H lt ok, Pv (i + 1), fun H' p' => ⟨m - 1, by omega, lt, by omega, p'⟩, fun x H' y => hs i x H H' lt p (w.yields i H x H' lt ok y)⟩
  · exact .inl ⟨w.stops H ok, hd H p⟩
end
end L2

/-! Own layer: a def that may raise, called by three keywords in the opposite order. -/
namespace L2
open ClX
open PySem PySem.Spec PyProof.Rows
def swap3 {α : Type} : List α → List α → List α
  | [], [a, b, c] => [c, b, a]
  | _, _ => []
structure OkX3 (P : Program) (w : World) (K : PySem.W.Frag) (mg : Str → Option Value) (base : Heap) (k : Nat) (f : Addr) (ps ks : List Str) (sp : Sp) : Prop where
  ex : ∃ fd, FnOk P w K mg base (L2.CX P w) k f fd ps sp ∧ KBinds K fd ps ks (fun us ws => swap3 us ws) (fun vs zs => swap3 vs zs)
  kp : PySem.W.keepIn K (.ref f) = true
section
variable {P : Program} {w : World} {K : PySem.W.Frag} {mg : Str → Option Value} {base : Heap}
theorem FnT.okX3 {x qual p0 p1 p2 : Str} {st : Stmt} {f : Addr} {N : List Str} {k : Nat} {sp : Sp} (h : FnT K x qual st f) (S : FnScope N [p0, p1, p2] (defScope st))
    (hb : ∀ (kV doc pm : Value) (an : Option Addr) (cdv ct u v y : Value), bindArgs (PySem.W.fnOf x qual (defArgs st) (defBody st) (defScope st) .none kV doc pm an cdv ct) ⟨[], [(p2, u), (p1, v), (p0, y)]⟩ = pure [(p0, y), (p1, v), (p2, u)])
    (len : ∀ vs H Q E, sp vs H Q E → vs.length = 3) (body : BodyX P w K mg base N qual st f k sp) : OkX3 P w K mg base (k + 1) f [p0, p1, p2] [p2, p1, p0] sp := by
  obtain ⟨fd, F⟩ := h.ex
  refine ⟨⟨fd, F.okX S len body, F.kbinds 0 [p2, p1, p0] swap3 (fun us ws hl => ?_) (fun r q => ?_) fun kV doc pm an cdv ct us ws h1 h2 => ?_⟩, F.kp⟩
  · match us, ws, hl with
    | [], [_, _, _], _ => exact ⟨rfl, rfl⟩
    | [], [], hl => cases hl
    | [], [_], hl => cases hl
    | [], [_, _], hl => cases hl
    | [], _ :: _ :: _ :: _ :: _, hl => cases hl
    | _ :: _, _, hl => cases hl
  · cases r with
    | nil =>
      cases q with
      | nil => exact .nil
      | cons a q =>
        cases q with
        | nil => exact .nil
        | cons b q =>
          cases q with
          | nil => exact .nil
          | cons c q =>
            cases q with
            | nil => exact .cons c (.cons b (.cons a .nil))
            | cons _ _ => exact .nil
    | cons _ _ => exact .nil
  · match us, h1, ws, h2 with
    | [], _, [u, v, y], _ => exact hb kV doc pm an cdv ct u v y
end
def oCall3 (sp : Sp) (E : St → XK) (tk : TA) : TE := fun σ H Q => tk σ H fun zs H1 => sp (swap3 [] zs) H1 Q (E σ)
theorem px_call3 {X : Cx} {k : Nat} {f : Addr} {ps ks : List Str} {sp : Sp} {E : St → XK} {x : Str} {p pos : Pos} {kws : List Keyword} {tk : TA} (G : OkX3 X.prog X.w X.K X.mg X.base k f ps ks sp) (hx : ∀ σ, PassesAt (L2.CX X.prog X.w) X σ (E σ)) (hr : Room k X.A)
    (hm : X.mg x = some (.ref f)) (hkw : PK X kws tk) (hg : Gl X x := by rfl) (hall : (backToKw pos (keywordEach kws X.env)).all (·.1.isSome) = true := by rfl) (hks : (backToKw pos (keywordEach kws X.env)).filterMap (·.1) = ks := by rfl)
    (hdb : (x == ("__debug__" : Str)) = false := by decide) (hpl : ((backTo pos (starEach [] X.env)).any (·.1) || (backToKw pos (keywordEach kws X.env)).any (·.1.isNone)) = false := by rfl) :
    PE X (.Call (.Name x p) [] kws pos) (oCall3 sp E tk) := by
  obtain ⟨⟨fd, F, b⟩, kp⟩ := G
  refine ⟨fun pn s σ H Q I h => ?_⟩
  refine wpAny_Call_Name_kw (ld_glob I hg hm ?_ hdb)
  refine PySem.W.callWith_KW0 (first := []) (h₀ := X.base) I.ok.mod.kin kp hall ?_ hpl
  refine thn (hkw.run pos pn s σ H _ I h) fun ws s2 ⟨zs, H2, I2, rz, q2⟩ => ⟨I2.kIn, ?_⟩
  rw [hks]
  have rv : Vals (swap3 [] zs) (swap3 [] ws) := b.rel .nil rz
  have hl : (swap3 [] ws).length = ps.length := by
    rw [← rv.length]
    exact F.len _ _ _ _ q2
  refine wpAny_call (codeAny_mono (F.run X.A X.stack s2 H2 ⟨[], ks.zip ws⟩ (swap3 [] ws) (swap3 [] zs) Q (E σ) hr I2.env0 (b.to s2 [] ws I2.kIn hl) rv q2) fun r s3 z => ?_)
  match r, z with
  | .error e2, z => exact hx σ pn H2 s2 e2 s3 I2 z
  | .ok (.ret u2), z => exact I2.after z
  | .ok .next, z => exact z.elim
  | .ok .brk, z => exact z.elim
  | .ok .cont, z => exact z.elim
end L2

/-! Own layer: max of a list of whole numbers, with default=. -/
set_option Elab.async false
set_option linter.all false
set_option maxRecDepth 100000
set_option maxHeartbeats 4000000
namespace L2
open ClX
open PySem PySem.Spec PyProof.Rows
theorem fold_max : ∀ (ns : List Int) (n : Int), (ns.foldl max n ∈ n :: ns) ∧ ∀ y ∈ n :: ns, y ≤ ns.foldl max n
  | [], n => ⟨List.mem_cons_self, fun y hy => by rw [List.mem_singleton.mp hy]; exact Int.le_refl _⟩
  | k :: ns, n => by
    obtain ⟨a, b⟩ := fold_max ns (max n k)
    have hm : max n k = n ∨ max n k = k := by omega
    have h1 : n ≤ max n k := by omega
    have h2 : k ≤ max n k := by omega
    have top := b _ List.mem_cons_self
    refine ⟨?_, fun y hy => ?_⟩
    · show ns.foldl max (max n k) ∈ n :: k :: ns
      rcases List.mem_cons.mp a with e | e
      · rw [e]
        rcases hm with z | z
        · rw [z]; exact List.mem_cons_self
        · rw [z]; exact List.mem_cons_of_mem _ List.mem_cons_self
      · exact List.mem_cons_of_mem _ (List.mem_cons_of_mem _ e)
    · show y ≤ ns.foldl max (max n k)
      rcases List.mem_cons.mp hy with e | hy
      · rw [e]; exact Int.le_trans h1 top
      · rcases List.mem_cons.mp hy with e | hy
        · rw [e]; exact Int.le_trans h2 top
        · exact b y (List.mem_cons_of_mem _ hy)
def rMaxDef (K : PySem.W.Frag) : List V → List V → Hp → VK → Prop := fun xs zs H Q => ∃ (a : Addr) (ns : List Int) (d : Int), xs = [.ref a] ∧ zs = [.int d] ∧ SqL K H a (ns.map V.int) ∧ (ns = [] → Q (.int d) H) ∧ ∀ m, m ∈ ns → (∀ y ∈ ns, y ≤ m) → Q (.int m) H
theorem dpInts {K : PySem.W.Frag} {H : Hp} : ∀ ns : List Int, DpAll K H (ns.map V.int) (ns.map PyData.int)
  | [] => .nil
  | n :: ns => .cons (.int n) (dpInts ns)
theorem depth_ints : ∀ ns : List Int, PyData.depthAll (ns.map PyData.int) = 0
  | [] => by simp [PyData.depthAll]
  | n :: ns => by simp [PyData.depthAll, PyData.depth, depth_ints ns]
theorem call_maxDef {X : Cx} (hc : X.calm = true) (hu : X.A.units + 64 < cLine) : CallRK X (.builtin "max") [Str.ofString "default"] (rMaxDef X.K) := by
  intro pins s σ H vs zs us ws Q I r rz h
  obtain ⟨a, ns, d, rfl, rfl, hs, q0, q1⟩ := h
  obtain rfl := Vals.ref1 r
  obtain ⟨w1, rfl, e1⟩ := vals1 rz
  obtain ⟨t, rfl⟩ := e1
  obtain ⟨its, rv, hl, hz⟩ := I.list hs
  obtain ⟨as, ra⟩ := Dp.readsAll I _ _ _ (dpInts ns) rv
  refine PySem.W.max_list_default (I.ok.hd hc) hl.isList ra ⟨fun x hx y hy => ?_, fun x hx => ?_⟩ ?_ (fun e h' tk hk => ⟨.int d, H, I.kept hk, ⟨t, rfl⟩, q0 (List.map_eq_nil_iff.mp e)⟩) (fun y ys i v h' tk bs e hv hr hk => ?_)
  · obtain ⟨i, _, rfl⟩ := List.mem_map.mp hx
    obtain ⟨j, _, rfl⟩ := List.mem_map.mp hy
    rfl
  · obtain ⟨i, _, rfl⟩ := List.mem_map.mp hx
    exact fun z => by cases z
  · rw [depth_ints]
    omega
  · cases ns with
    | nil => cases e
    | cons n ns =>
      obtain ⟨e1, e2⟩ := List.cons.inj e
      subst e1 e2
      rw [PySem.W.maxD_ints] at hr
      cases hr
      obtain ⟨m1, m2⟩ := fold_max ns n
      exact ⟨.int (ns.foldl max n), H, I.kept hk, ⟨_, rfl⟩, q1 _ m1 m2⟩
end L2

/-! Own layer: a method of an object whose class is found at run time. -/
set_option Elab.async false
set_option linter.all false
set_option maxRecDepth 100000
set_option maxHeartbeats 4000000
namespace L2
open ClX
open PySem PySem.Spec PyProof.Rows
theorem Room.units65 {k : Nat} {A : Around} (r : Room k A) : A.units + 65 < cLine := by have := r.un; omega
def tMethD (K : PySem.W.Frag) (m : Str) (f : Addr) (sp : Sp) (ta : TE) (t : TA) : TE := fun σ H Q => ta σ H fun x H1 => ∃ a C dx fs, x = .ref a ∧ H1 a = some (.ins C dx fs) ∧ fs.lookup m = none ∧ Cls K C ∧ Meth K C m f ∧ t σ H1 fun vs H2 => sp (x :: vs) H2 Q E0
theorem po_methD {X : Cx} {k : Nat} {f : Addr} {ps : List Str} {sp : Sp} {m : Str} {pos apos : Pos} {e o : Expr} {es : List Expr} {ta : TE} {t : TA} {pl : Sem Bool} (G : Ok1 X.prog X.w X.K X.mg X.base k f ps sp) (hr : Room k X.A) (he : PE X o ta) (ha : PA X (e :: es) t)
    (hst : starEach (e :: es) X.env = (false, eval e X.env) :: starEach es X.env := by rfl) (hpl : (backTo pos (starEach es X.env)).any (·.1) = false := by rfl)
    (ht : eval (.Call (.Attribute o m apos) (e :: es) [] pos) X.env = (do
      let ov ← eval o X.env
      standAt apos.atName
      let (f, first) ← holding [ov] (getMethod ov m pl)
      callWith pos f first (backTo pos (starEach (e :: es) X.env)) (backToKw pos (keywordEach [] X.env))) := by rfl) :
    PE X (.Call (.Attribute o m apos) (e :: es) [] pos) (tMethD X.K m f sp ta t) := by
  obtain ⟨⟨fd, F, b⟩, kp⟩ := G
  refine ⟨fun pins s σ H Q I h => ?_⟩
  refine PySem.W.methodCall_KW (pl := pl) (thn (he.run pins s σ H _ I h) fun u s1 ⟨x, H1, I1, rx, a, C, dx, fs, ex, ea, l, c, hm, q⟩ => ?_) ht
  subst ex
  obtain rfl : u = Value.ref a := rx
  refine getmeth_ok I1 ea c hm l ?_
  refine PySem.W.callWith_K (first := [.ref a]) (h₀ := X.base) I.ok.mod.kin hm.kp (thn (ha.run pos pins s1 σ H1 _ I1 q) fun us s2 ⟨vs, H2, I2, r, q2⟩ => ⟨I2.kIn, ?_⟩) hst hpl
  have q3 : sp (.ref a :: (vs ++ [])) H2 Q E0 := by rw [List.append_nil]; exact q2
  exact run_fn (us := .ref a :: us) (vs := .ref a :: vs) F hr b .nil pass0 I2 (.cons rfl r) q3
end L2

set_option Elab.async false
set_option linter.all false
set_option maxRecDepth 100000
set_option maxHeartbeats 4000000
namespace Own
open PySem L2 ClX
local macro_rules | `(tactic| walk_at "v") => `(tactic| refine ⟨_, rfl, ?_⟩)
local macro_rules | `(tactic| walk_at "ii") => `(tactic| refine ⟨_, _, rfl, rfl, ?_⟩)
local macro_rules | `(tactic| walk_at "go") => `(tactic| repeat (first | refine ⟨_, rfl, ?_⟩ | refine ⟨_, _, rfl, rfl, ?_⟩ | refine addI ?_ | refine L2.iteT ?_ | refine L2.iteF ?_))

def top (i : Nat) : Stmt := PySem.Challenge.pw_indexlogs_k44_wrong_and_nearest_by_all_o.main.body.getD i (.Pass ⟨0, 0, 0, 0⟩)
abbrev s_is_integer : Stmt := top 11
abbrev N_is_integer : List Str := ["thing"]
theorem sc_is_integer : FnScope N_is_integer ["thing"] (defScope s_is_integer) := ⟨rfl, rfl, rfl, by decide +kernel, rfl, by decide +kernel, by decide +kernel⟩
abbrev s_is_item : Stmt := top 12
abbrev N_is_item : List Str := ["thing"]
theorem sc_is_item : FnScope N_is_item ["thing"] (defScope s_is_item) := ⟨rfl, rfl, rfl, by decide +kernel, rfl, by decide +kernel, by decide +kernel⟩
abbrev s_is_items : Stmt := top 13
abbrev N_is_items : List Str := ["thing", "entry"]
theorem sc_is_items : FnScope N_is_items ["thing"] (defScope s_is_items) := ⟨rfl, rfl, rfl, by decide +kernel, rfl, by decide +kernel, by decide +kernel⟩
abbrev s_check_items : Stmt := top 14
abbrev N_check_items : List Str := ["items"]
theorem sc_check_items : FnScope N_check_items ["items"] (defScope s_check_items) := ⟨rfl, rfl, rfl, by decide +kernel, rfl, by decide +kernel, by decide +kernel⟩
abbrev s_check_index : Stmt := top 16
abbrev N_check_index : List Str := ["slot"]
theorem sc_check_index : FnScope N_check_index ["slot"] (defScope s_check_index) := ⟨rfl, rfl, rfl, by decide +kernel, rfl, by decide +kernel, by decide +kernel⟩
abbrev s_Record___init__ : Stmt := inClass (top 18) 2
abbrev N_Record___init__ : List Str := ["self", "item", "slot"]
theorem sc_Record___init__ : FnScope N_Record___init__ ["self", "item", "slot"] (defScope s_Record___init__) := ⟨rfl, rfl, rfl, by decide +kernel, rfl, by decide +kernel, by decide +kernel⟩
abbrev s_Record_item : Stmt := inClass (top 18) 4
abbrev N_Record_item : List Str := ["self"]
theorem sc_Record_item : FnScope N_Record_item ["self"] (defScope s_Record_item) := ⟨rfl, rfl, rfl, by decide +kernel, rfl, by decide +kernel, by decide +kernel⟩
abbrev s_Record_slot : Stmt := inClass (top 18) 5
abbrev N_Record_slot : List Str := ["self"]
theorem sc_Record_slot : FnScope N_Record_slot ["self"] (defScope s_Record_slot) := ⟨rfl, rfl, rfl, by decide +kernel, rfl, by decide +kernel, by decide +kernel⟩
abbrev s_Record_move_to : Stmt := inClass (top 18) 7
abbrev N_Record_move_to : List Str := ["self", "slot"]
theorem sc_Record_move_to : FnScope N_Record_move_to ["self", "slot"] (defScope s_Record_move_to) := ⟨rfl, rfl, rfl, by decide +kernel, rfl, by decide +kernel, by decide +kernel⟩
abbrev s_record_of : Stmt := top 22
abbrev N_record_of : List Str := ["sign", "item", "slot"]
theorem sc_record_of : FnScope N_record_of ["sign", "item", "slot"] (defScope s_record_of) := ⟨rfl, rfl, rfl, by decide +kernel, rfl, by decide +kernel, by decide +kernel⟩
abbrev s_has_kind : Stmt := top 25
abbrev N_has_kind : List Str := ["thing"]
theorem sc_has_kind : FnScope N_has_kind ["thing"] (defScope s_has_kind) := ⟨rfl, rfl, rfl, by decide +kernel, rfl, by decide +kernel, by decide +kernel⟩
abbrev s_are_records : Stmt := top 26
abbrev N_are_records : List Str := ["thing", "most", "entry"]
theorem sc_are_records : FnScope N_are_records ["thing", "most"] (defScope s_are_records) := ⟨rfl, rfl, rfl, by decide +kernel, rfl, by decide +kernel, by decide +kernel⟩
abbrev s_is_log : Stmt := top 27
abbrev N_is_log : List Str := ["thing", "record"]
theorem sc_is_log : FnScope N_is_log ["thing"] (defScope s_is_log) := ⟨rfl, rfl, rfl, by decide +kernel, rfl, by decide +kernel, by decide +kernel⟩
abbrev s_check_log : Stmt := top 28
abbrev N_check_log : List Str := ["log"]
theorem sc_check_log : FnScope N_check_log ["log"] (defScope s_check_log) := ⟨rfl, rfl, rfl, by decide +kernel, rfl, by decide +kernel, by decide +kernel⟩
abbrev s_sign_of : Stmt := top 29
abbrev N_sign_of : List Str := ["log"]
theorem sc_sign_of : FnScope N_sign_of ["log"] (defScope s_sign_of) := ⟨rfl, rfl, rfl, by decide +kernel, rfl, by decide +kernel, by decide +kernel⟩
abbrev s_is_fronted : Stmt := top 30
abbrev N_is_fronted : List Str := ["log"]
theorem sc_is_fronted : FnScope N_is_fronted ["log"] (defScope s_is_fronted) := ⟨rfl, rfl, rfl, by decide +kernel, rfl, by decide +kernel, by decide +kernel⟩
abbrev s_check_known : Stmt := top 32
abbrev N_check_known : List Str := ["log", "items", "record"]
theorem sc_check_known : FnScope N_check_known ["log", "items"] (defScope s_check_known) := ⟨rfl, rfl, rfl, by decide +kernel, rfl, by decide +kernel, by decide +kernel⟩
abbrev s_rooms_of : Stmt := top 33
abbrev N_rooms_of : List Str := ["log", "items", "names", "known", "record", "item", "before"]
theorem sc_rooms_of : FnScope N_rooms_of ["log", "items"] (defScope s_rooms_of) := ⟨rfl, rfl, rfl, by decide +kernel, rfl, by decide +kernel, by decide +kernel⟩
abbrev s_shifts_of : Stmt := top 34
abbrev N_shifts_of : List Str := ["log", "items", "record"]
theorem sc_shifts_of : FnScope N_shifts_of ["log", "items"] (defScope s_shifts_of) := ⟨rfl, rfl, rfl, by decide +kernel, rfl, by decide +kernel, by decide +kernel⟩
abbrev s_certificates : Stmt := top 35
abbrev N_certificates : List Str := ["log", "items", "shifts", "found", "item", "room"]
theorem sc_certificates : FnScope N_certificates ["log", "items"] (defScope s_certificates) := ⟨rfl, rfl, rfl, by decide +kernel, rfl, by decide +kernel, by decide +kernel⟩
abbrev s_index_range : Stmt := top 36
abbrev N_index_range : List Str := ["log", "items", "item", "rooms", "place"]
theorem sc_index_range : FnScope N_index_range ["log", "items", "item"] (defScope s_index_range) := ⟨rfl, rfl, rfl, by decide +kernel, rfl, by decide +kernel, by decide +kernel⟩
abbrev s_wrong_items : Stmt := top 38
abbrev N_wrong_items : List Str := ["log", "items", "_", "item"]
theorem sc_wrong_items : FnScope N_wrong_items ["log", "items"] (defScope s_wrong_items) := ⟨rfl, rfl, rfl, by decide +kernel, rfl, by decide +kernel, by decide +kernel⟩
abbrev s_nearest_slot : Stmt := top 39
abbrev N_nearest_slot : List Str := ["log", "items", "record", "low", "high"]
theorem sc_nearest_slot : FnScope N_nearest_slot ["log", "items", "record"] (defScope s_nearest_slot) := ⟨rfl, rfl, rfl, by decide +kernel, rfl, by decide +kernel, by decide +kernel⟩
abbrev s_nearest : Stmt := top 40
abbrev N_nearest : List Str := ["log", "items", "record"]
theorem sc_nearest : FnScope N_nearest ["log", "items"] (defScope s_nearest) := ⟨rfl, rfl, rfl, by decide +kernel, rfl, by decide +kernel, by decide +kernel⟩
abbrev s__law_tape : Stmt := top 42
abbrev N__law_tape : List Str := ["script", "k", "cell"]
theorem sc__law_tape : FnScope N__law_tape ["script", "k"] (defScope s__law_tape) := ⟨rfl, rfl, rfl, by decide +kernel, rfl, by decide +kernel, by decide +kernel⟩
abbrev s__law_next : Stmt := top 43
abbrev N__law_next : List Str := ["tape", "size", "digit", "mixed"]
theorem sc__law_next : FnScope N__law_next ["tape", "size"] (defScope s__law_next) := ⟨rfl, rfl, rfl, by decide +kernel, rfl, by decide +kernel, by decide +kernel⟩
abbrev s__law_items : Stmt := top 44
abbrev N__law_items : List Str := ["tape", "many", "signs", "pool", "sign", "k"]
theorem sc__law_items : FnScope N__law_items ["tape", "many"] (defScope s__law_items) := ⟨rfl, rfl, rfl, by decide +kernel, rfl, by decide +kernel, by decide +kernel⟩
abbrev s__law_made : Stmt := top 45
abbrev N__law_made : List Str := ["kind", "item", "slot"]
theorem sc__law_made : FnScope N__law_made ["kind", "item", "slot"] (defScope s__law_made) := ⟨rfl, rfl, rfl, by decide +kernel, rfl, by decide +kernel, by decide +kernel⟩
abbrev s__law_facts : Stmt := top 46
abbrev N__law_facts : List Str := ["book", "found", "record", "kinds"]
theorem sc__law_facts : FnScope N__law_facts ["book"] (defScope s__law_facts) := ⟨rfl, rfl, rfl, by decide +kernel, rfl, by decide +kernel, by decide +kernel⟩
abbrev s__law_drawn : Stmt := top 47
abbrev N__law_drawn : List Str := ["tape", "things", "most", "left", "many", "k"]
theorem sc__law_drawn : FnScope N__law_drawn ["tape", "things", "most"] (defScope s__law_drawn) := ⟨rfl, rfl, rfl, by decide +kernel, rfl, by decide +kernel, by decide +kernel⟩
abbrev s__law_told : Stmt := top 48
abbrev N__law_told : List Str := ["kind", "things", "names", "here", "found", "name", "item"]
theorem sc__law_told : FnScope N__law_told ["kind", "things", "names"] (defScope s__law_told) := ⟨rfl, rfl, rfl, by decide +kernel, rfl, by decide +kernel, by decide +kernel⟩
abbrev s__law_orders : Stmt := top 49
abbrev N__law_orders : List Str := ["names", "found", "name", "longer", "order", "at"]
theorem sc__law_orders : FnScope N__law_orders ["names"] (defScope s__law_orders) := ⟨rfl, rfl, rfl, by decide +kernel, rfl, by decide +kernel, by decide +kernel⟩
abbrev s__law_every : Stmt := top 50
abbrev N__law_every : List Str := ["kind", "things", "names", "found", "order", "slots", "name"]
theorem sc__law_every : FnScope N__law_every ["kind", "things", "names"] (defScope s__law_every) := ⟨rfl, rfl, rfl, by decide +kernel, rfl, by decide +kernel, by decide +kernel⟩
abbrev s__law_due : Stmt := top 51
abbrev N__law_due : List Str := ["kind", "book", "every", "found", "record", "slots", "far", "slot"]
theorem sc__law_due : FnScope N__law_due ["kind", "book", "every"] (defScope s__law_due) := ⟨rfl, rfl, rfl, by decide +kernel, rfl, by decide +kernel, by decide +kernel⟩
abbrev s__law_right : Stmt := top 52
abbrev N__law_right : List Str := ["kind", "things", "book", "every", "kept", "own", "slots", "due", "fixed", "again", "told", "found", "record", "item"]
theorem sc__law_right : FnScope N__law_right ["kind", "things", "book", "every"] (defScope s__law_right) := ⟨rfl, rfl, rfl, by decide +kernel, rfl, by decide +kernel, by decide +kernel⟩
abbrev s_law : Stmt := top 53
abbrev N_law : List Str := ["script", "k", "tape", "turn", "things", "names", "kind", "slots", "every", "book", "record", "name"]
theorem sc_law : FnScope N_law ["script"] (defScope s_law) := ⟨rfl, rfl, rfl, by decide +kernel, rfl, by decide +kernel, by decide +kernel⟩

structure Ad where
  f_is_integer : Addr
  f_is_item : Addr
  f_is_items : Addr
  f_check_items : Addr
  f_check_index : Addr
  f_record_of : Addr
  f_has_kind : Addr
  f_are_records : Addr
  f_is_log : Addr
  f_check_log : Addr
  f_sign_of : Addr
  f_is_fronted : Addr
  f_check_known : Addr
  f_rooms_of : Addr
  f_shifts_of : Addr
  f_certificates : Addr
  f_index_range : Addr
  f_wrong_items : Addr
  f_nearest_slot : Addr
  f_nearest : Addr
  f__law_tape : Addr
  f__law_next : Addr
  f__law_items : Addr
  f__law_made : Addr
  f__law_facts : Addr
  f__law_drawn : Addr
  f__law_told : Addr
  f__law_orders : Addr
  f__law_every : Addr
  f__law_due : Addr
  f__law_right : Addr
  f_law : Addr
  c_Record : Addr
  c_Inserted : Addr
  c_Removed : Addr
  c_Fronted : Addr
  c_NoList : Addr
  c_NoItem : Addr
  c_LogError : Addr
  m_Record___init__ : Addr
  m_Record_move_to : Addr
  m_Record_item : Addr
  p_Record_item : Addr
  m_Record_slot : Addr
  p_Record_slot : Addr
structure Txt (K : PySem.W.Frag) (mg : Str → Option Value) (A : Ad) : Prop where
  mg_is_integer : mg "is_integer" = some (.ref A.f_is_integer)
  fn_is_integer : FnT K "is_integer" "is_integer" s_is_integer A.f_is_integer
  mg_is_item : mg "is_item" = some (.ref A.f_is_item)
  fn_is_item : FnT K "is_item" "is_item" s_is_item A.f_is_item
  mg_is_items : mg "is_items" = some (.ref A.f_is_items)
  fn_is_items : FnT K "is_items" "is_items" s_is_items A.f_is_items
  mg_check_items : mg "check_items" = some (.ref A.f_check_items)
  fn_check_items : FnT K "check_items" "check_items" s_check_items A.f_check_items
  mg_check_index : mg "check_index" = some (.ref A.f_check_index)
  fn_check_index : FnT K "check_index" "check_index" s_check_index A.f_check_index
  mg_record_of : mg "record_of" = some (.ref A.f_record_of)
  fn_record_of : FnT K "record_of" "record_of" s_record_of A.f_record_of
  mg_has_kind : mg "has_kind" = some (.ref A.f_has_kind)
  fn_has_kind : FnT K "has_kind" "has_kind" s_has_kind A.f_has_kind
  mg_are_records : mg "are_records" = some (.ref A.f_are_records)
  fn_are_records : FnT K "are_records" "are_records" s_are_records A.f_are_records
  mg_is_log : mg "is_log" = some (.ref A.f_is_log)
  fn_is_log : FnT K "is_log" "is_log" s_is_log A.f_is_log
  mg_check_log : mg "check_log" = some (.ref A.f_check_log)
  fn_check_log : FnT K "check_log" "check_log" s_check_log A.f_check_log
  mg_sign_of : mg "sign_of" = some (.ref A.f_sign_of)
  fn_sign_of : FnT K "sign_of" "sign_of" s_sign_of A.f_sign_of
  mg_is_fronted : mg "is_fronted" = some (.ref A.f_is_fronted)
  fn_is_fronted : FnT K "is_fronted" "is_fronted" s_is_fronted A.f_is_fronted
  mg_check_known : mg "check_known" = some (.ref A.f_check_known)
  fn_check_known : FnT K "check_known" "check_known" s_check_known A.f_check_known
  mg_rooms_of : mg "rooms_of" = some (.ref A.f_rooms_of)
  fn_rooms_of : FnT K "rooms_of" "rooms_of" s_rooms_of A.f_rooms_of
  mg_shifts_of : mg "shifts_of" = some (.ref A.f_shifts_of)
  fn_shifts_of : FnT K "shifts_of" "shifts_of" s_shifts_of A.f_shifts_of
  mg_certificates : mg "certificates" = some (.ref A.f_certificates)
  fn_certificates : FnT K "certificates" "certificates" s_certificates A.f_certificates
  mg_index_range : mg "index_range" = some (.ref A.f_index_range)
  fn_index_range : FnT K "index_range" "index_range" s_index_range A.f_index_range
  mg_wrong_items : mg "wrong_items" = some (.ref A.f_wrong_items)
  fn_wrong_items : FnT K "wrong_items" "wrong_items" s_wrong_items A.f_wrong_items
  mg_nearest_slot : mg "nearest_slot" = some (.ref A.f_nearest_slot)
  fn_nearest_slot : FnT K "nearest_slot" "nearest_slot" s_nearest_slot A.f_nearest_slot
  mg_nearest : mg "nearest" = some (.ref A.f_nearest)
  fn_nearest : FnT K "nearest" "nearest" s_nearest A.f_nearest
  mg__law_tape : mg "_law_tape" = some (.ref A.f__law_tape)
  fn__law_tape : FnT K "_law_tape" "_law_tape" s__law_tape A.f__law_tape
  mg__law_next : mg "_law_next" = some (.ref A.f__law_next)
  fn__law_next : FnT K "_law_next" "_law_next" s__law_next A.f__law_next
  mg__law_items : mg "_law_items" = some (.ref A.f__law_items)
  fn__law_items : FnT K "_law_items" "_law_items" s__law_items A.f__law_items
  mg__law_made : mg "_law_made" = some (.ref A.f__law_made)
  fn__law_made : FnT K "_law_made" "_law_made" s__law_made A.f__law_made
  mg__law_facts : mg "_law_facts" = some (.ref A.f__law_facts)
  fn__law_facts : FnT K "_law_facts" "_law_facts" s__law_facts A.f__law_facts
  mg__law_drawn : mg "_law_drawn" = some (.ref A.f__law_drawn)
  fn__law_drawn : FnT K "_law_drawn" "_law_drawn" s__law_drawn A.f__law_drawn
  mg__law_told : mg "_law_told" = some (.ref A.f__law_told)
  fn__law_told : FnT K "_law_told" "_law_told" s__law_told A.f__law_told
  mg__law_orders : mg "_law_orders" = some (.ref A.f__law_orders)
  fn__law_orders : FnT K "_law_orders" "_law_orders" s__law_orders A.f__law_orders
  mg__law_every : mg "_law_every" = some (.ref A.f__law_every)
  fn__law_every : FnT K "_law_every" "_law_every" s__law_every A.f__law_every
  mg__law_due : mg "_law_due" = some (.ref A.f__law_due)
  fn__law_due : FnT K "_law_due" "_law_due" s__law_due A.f__law_due
  mg__law_right : mg "_law_right" = some (.ref A.f__law_right)
  fn__law_right : FnT K "_law_right" "_law_right" s__law_right A.f__law_right
  mg_law : mg "law" = some (.ref A.f_law)
  fn_law : FnT K "law" "law" s_law A.f_law
  mg_Record : mg "Record" = some (.ref A.c_Record)
  mg_Inserted : mg "Inserted" = some (.ref A.c_Inserted)
  mg_Removed : mg "Removed" = some (.ref A.c_Removed)
  mg_Fronted : mg "Fronted" = some (.ref A.c_Fronted)
  mg_NoList : mg "NoList" = some (.ref A.c_NoList)
  mg_NoItem : mg "NoItem" = some (.ref A.c_NoItem)
  mg_LogError : mg "LogError" = some (.ref A.c_LogError)
  mk_Record : Mk K A.c_Record A.m_Record___init__
  fn_Record___init__ : FnT K "__init__" "Record.__init__" s_Record___init__ A.m_Record___init__
  cl_Record : Cls K A.c_Record
  na_Record_item : NoAttr K A.c_Record "_item"
  na_Record_slot : NoAttr K A.c_Record "_slot"
  mk_Inserted : Mk K A.c_Inserted A.m_Record___init__
  cl_Inserted : Cls K A.c_Inserted
  na_Inserted_item : NoAttr K A.c_Inserted "_item"
  na_Inserted_slot : NoAttr K A.c_Inserted "_slot"
  mk_Removed : Mk K A.c_Removed A.m_Record___init__
  cl_Removed : Cls K A.c_Removed
  na_Removed_item : NoAttr K A.c_Removed "_item"
  na_Removed_slot : NoAttr K A.c_Removed "_slot"
  mk_Fronted : Mk K A.c_Fronted A.m_Record___init__
  cl_Fronted : Cls K A.c_Fronted
  na_Fronted_item : NoAttr K A.c_Fronted "_item"
  na_Fronted_slot : NoAttr K A.c_Fronted "_slot"
  me_Record_move_to : Meth K A.c_Record "move_to" A.m_Record_move_to
  fn_Record_move_to : FnT K "move_to" "Record.move_to" s_Record_move_to A.m_Record_move_to
  me_Inserted_move_to : Meth K A.c_Inserted "move_to" A.m_Record_move_to
  me_Removed_move_to : Meth K A.c_Removed "move_to" A.m_Record_move_to
  me_Fronted_move_to : Meth K A.c_Fronted "move_to" A.m_Record_move_to
  cv_Record_MOST : ∃ mc u, ClX.CRead K A.c_Record mc ∧ ClX.CVal K A.c_Record mc "MOST" (.int 60) u
  cv_Record_SIGN : ∃ mc u, ClX.CRead K A.c_Record mc ∧ ClX.CVal K A.c_Record mc "SIGN" (.str "") u
  cv_Inserted_SIGN : ∃ mc u, ClX.CRead K A.c_Inserted mc ∧ ClX.CVal K A.c_Inserted mc "SIGN" (.str "+") u
  cv_Removed_SIGN : ∃ mc u, ClX.CRead K A.c_Removed mc ∧ ClX.CVal K A.c_Removed mc "SIGN" (.str "-") u
  cv_Fronted_SIGN : ∃ mc u, ClX.CRead K A.c_Fronted mc ∧ ClX.CVal K A.c_Fronted mc "SIGN" (.str "^") u
  iv_Record_SIGN : ∃ u, Con K A.c_Record "SIGN" (.str "") u
  iv_Inserted_SIGN : ∃ u, Con K A.c_Inserted "SIGN" (.str "+") u
  iv_Removed_SIGN : ∃ u, Con K A.c_Removed "SIGN" (.str "-") u
  iv_Fronted_SIGN : ∃ u, Con K A.c_Fronted "SIGN" (.str "^") u
  mg_MOST_LETTERS : ∃ t, mg "MOST_LETTERS" = some (.int 8 t)
  mg_MOST_ITEMS : ∃ t, mg "MOST_ITEMS" = some (.int 60 t)
  mg_MOST_IN_LOG : ∃ t, mg "MOST_IN_LOG" = some (.int 40 t)
  er_NoList : ErrT K A.c_NoList
  er_NoItem : ErrT K A.c_NoItem
  kit_Record_Record : PySem.W.kitOne K (.ref A.c_Record) (.ref A.c_Record) = some true
  kit_Inserted_Record : PySem.W.kitOne K (.ref A.c_Inserted) (.ref A.c_Record) = some true
  kit_Removed_Record : PySem.W.kitOne K (.ref A.c_Removed) (.ref A.c_Record) = some true
  kit_Fronted_Record : PySem.W.kitOne K (.ref A.c_Fronted) (.ref A.c_Record) = some true
  kit_Inserted_Inserted : PySem.W.kitOne K (.ref A.c_Inserted) (.ref A.c_Inserted) = some true
  kit_Inserted_Removed : PySem.W.kitOne K (.ref A.c_Inserted) (.ref A.c_Removed) = some false
  kit_Inserted_Fronted : PySem.W.kitOne K (.ref A.c_Inserted) (.ref A.c_Fronted) = some false
  kit_Removed_Inserted : PySem.W.kitOne K (.ref A.c_Removed) (.ref A.c_Inserted) = some false
  kit_Removed_Removed : PySem.W.kitOne K (.ref A.c_Removed) (.ref A.c_Removed) = some true
  kit_Removed_Fronted : PySem.W.kitOne K (.ref A.c_Removed) (.ref A.c_Fronted) = some false
  kit_Fronted_Inserted : PySem.W.kitOne K (.ref A.c_Fronted) (.ref A.c_Inserted) = some false
  kit_Fronted_Removed : PySem.W.kitOne K (.ref A.c_Fronted) (.ref A.c_Removed) = some false
  kit_Fronted_Fronted : PySem.W.kitOne K (.ref A.c_Fronted) (.ref A.c_Fronted) = some true
  pr_Record_item : PropOf K A.c_Record "item" A.p_Record_item A.m_Record_item
  fn_Record_item : FnT K "item" "Record.item" s_Record_item A.m_Record_item
  pr_Record_slot : PropOf K A.c_Record "slot" A.p_Record_slot A.m_Record_slot
  fn_Record_slot : FnT K "slot" "Record.slot" s_Record_slot A.m_Record_slot
  pr_Inserted_item : PropOf K A.c_Inserted "item" A.p_Record_item A.m_Record_item
  pr_Inserted_slot : PropOf K A.c_Inserted "slot" A.p_Record_slot A.m_Record_slot
  pr_Removed_item : PropOf K A.c_Removed "item" A.p_Record_item A.m_Record_item
  pr_Removed_slot : PropOf K A.c_Removed "slot" A.p_Record_slot A.m_Record_slot
  pr_Fronted_item : PropOf K A.c_Fronted "item" A.p_Record_item A.m_Record_item
  pr_Fronted_slot : PropOf K A.c_Fronted "slot" A.p_Record_slot A.m_Record_slot
  ty_Record : InsT K A.c_Record
  ty_Inserted : InsT K A.c_Inserted
  ty_Removed : InsT K A.c_Removed
  ty_Fronted : InsT K A.c_Fronted
  no_abs : mg "abs" = none
  no_all : mg "all" = none
  no_bool : mg "bool" = none
  no_dict : mg "dict" = none
  no_enumerate : mg "enumerate" = none
  no_int : mg "int" = none
  no_isinstance : mg "isinstance" = none
  no_len : mg "len" = none
  no_list : mg "list" = none
  no_max : mg "max" = none
  no_min : mg "min" = none
  no_property : mg "property" = none
  no_range : mg "range" = none
  no_repr : mg "repr" = none
  no_set : mg "set" = none
  no_str : mg "str" = none

/-! ### what is told of records -/
theorem ks : ¬ (("_item" : Str) = "_slot") := by decide +kernel
/-- the attributes of a record, in the order in which they are stored -/
def rfs (x : Str) (n : Int) : List (Str × V) := putF "_slot" (.int n) (putF "_item" (.str x) [])
theorem rfs_item (x : Str) (n : Int) : (rfs x n).lookup ("_item" : Str) = some (.str x) := by
  unfold rfs
  rw [lookup_putF, if_neg ks, lookup_putF, if_pos rfl]
theorem rfs_slot (x : Str) (n : Int) : (rfs x n).lookup ("_slot" : Str) = some (.int n) := by
  unfold rfs
  rw [lookup_putF, if_pos rfl]
theorem rfs_no (x : Str) (n : Int) {m : Str} (h1 : ¬ m = "_slot") (h2 : ¬ m = "_item") : (rfs x n).lookup m = none := by
  unfold rfs
  rw [lookup_putF, if_neg h1, lookup_putF, if_neg h2]
  all_goals rfl
theorem rfs_eq (x : Str) (n : Int) : rfs x n = ([("_item", V.str x), ("_slot", V.int n)] : List (Str × V)) := by
  show (if ("_item" : Str) = "_slot" then [(("_item" : Str), V.int n)] else (("_item" : Str), V.str x) :: putF "_slot" (V.int n) []) = _
  rw [if_neg ks]
  all_goals rfl
theorem rfs_put (x : Str) (n m : Int) : putF "_slot" (.int m) (rfs x n) = rfs x m := by
  rw [rfs_eq, rfs_eq]
  show (if ("_item" : Str) = "_slot" then _ else (("_item" : Str), V.str x) :: (if ("_slot" : Str) = "_slot" then [(("_slot" : Str), V.int m)] else _)) = _
  rw [if_neg ks, if_pos rfl]
theorem rfs_len (x : Str) (n : Int) : (rfs x n).length < 1000 := by
  rw [rfs_eq]
  exact Nat.lt_of_lt_of_le (Nat.lt_succ_self 2) (by decide)
theorem made_same {H H' : Hp} {p dx C : Addr} (np : H p = none) (nd : H dx = none) (b : But p (upd (upd H dx (.own p)) p (.ins C dx [])) H') : Same H H' := fun c o e =>
  b c o (by rw [upd_ne (ne_of_none e np), upd_ne (ne_of_none e nd)]; exact e) (ne_of_none e np)
structure RC (K : PySem.W.Frag) (C : Addr) : Prop where
  cl : Cls K C
  nI : NoAttr K C "_item"
  nS : NoAttr K C "_slot"
/-- the texts that are items -/
def isItem (x : Str) : Bool := decide (x.length ≤ 8) && (Txt.isascii x && (Txt.isalpha x && Txt.islower x))
/-- the class of a way -/
def cw (A : Ad) (way : Int) : Addr := if way = 0 then A.c_Inserted else if way = 1 then A.c_Removed else if way = 2 then A.c_Fronted else A.c_Record
theorem way4 {way : Int} (h0 : 0 ≤ way) (h1 : way ≤ 3) : way = 0 ∨ way = 1 ∨ way = 2 ∨ way = 3 := by omega
/-! ### the drawn numbers -/
/-- at p stands a source, from which at most n numbers were drawn -/
def SrcAt (H : Hp) (p : Addr) (n : Int) : Prop := ∃ g m c : Int, H p = some (.lst [.int g, .int m, .int c]) ∧ 0 ≤ m ∧ m < 2 ^ 140 ∧ 0 ≤ c ∧ c ≤ n
theorem SrcAt.but {H H' : Hp} {p a : Addr} {n : Int} (h : SrcAt H p n) (b : But a H H') (ne : p ≠ a) : SrcAt H' p n := by
  obtain ⟨g, m, c, e, r⟩ := h
  exact ⟨g, m, c, b _ _ e ne, r⟩
theorem SrcAt.same {H H' : Hp} {p : Addr} {n : Int} (h : SrcAt H p n) (b : Same H H') : SrcAt H' p n := by
  obtain ⟨g, m, c, e, r⟩ := h
  exact ⟨g, m, c, b _ _ e, r⟩

section
variable {P : Program} {w : World} {K : PySem.W.Frag} {mg : Str → Option Value} {base : Heap} {A : Ad}
/-! ### whole numbers, items, indices -/
def spYesInt : Sp := fun vs H Q _ => ∃ n : Int, vs = [.int n] ∧ Q (.bl true) H
theorem ok_is_integer (T : Txt K mg A) : Ok1 P w K mg base 1 A.f_is_integer ["thing"] spYesInt := by
  refine T.fn_is_integer.ok sc_is_integer (fun _ _ _ _ _ _ us hl => match us, hl with | [_], _ => rfl) (fun vs H Q E h => ?_) (fun cdv B up s H vs Q E hr h => ?_)
  · obtain ⟨n, rfl, _⟩ := h
    rfl
  · obtain ⟨n, rfl, h⟩ := h
    refine ⟨_, (pss_one (ps_ret (pe_and (pe_callB call_isi (by rfl) T.no_isinstance (by decide +kernel) (pa_cons (pv 0) (pa_cons (pe_bltn (v := .ty "int") (by rfl) T.no_int (by decide +kernel) rfl) pa_nil))) (pe_one (pe_not (pe_callB call_isi (by rfl) T.no_isinstance (by decide +kernel) (pa_cons (pv 0) (pa_cons (pe_bltn (v := .ty "bool") (by rfl) T.no_bool (by decide +kernel) rfl) pa_nil)))))))), ?_⟩
    refine ⟨_, rfl, _, _, _, _, _, rfl, .ty _, .base (.int _), kit_ty (r := true) (by decide +kernel), _, rfl, iteT ?_⟩
    exact ⟨_, rfl, _, _, _, _, _, rfl, .ty _, .base (.int _), kit_ty (r := false) (by decide +kernel), _, rfl, h⟩

def spIsItem : Sp := fun vs H Q _ => ∃ x : Str, vs = [.str x] ∧ x.length ≤ 1000000 ∧ Q (.bl (isItem x)) H
theorem ok_is_item (T : Txt K mg A) : Ok1 P w K mg base 1 A.f_is_item ["thing"] spIsItem := by
  refine T.fn_is_item.ok sc_is_item (fun _ _ _ _ _ _ us hl => match us, hl with | [_], _ => rfl) (fun vs H Q E h => ?_) (fun cdv B up s H vs Q E hr h => ?_)
  · obtain ⟨n, rfl, _⟩ := h
    rfl
  · obtain ⟨x, rfl, hx, h⟩ := h
    refine ⟨_, (pss_cons (ps_if (PW.pt (pw_or (pt_not (pt_val (pe_callB call_isi (by rfl) T.no_isinstance (by decide +kernel) (pa_cons (pv 0) (pa_cons (pe_bltn (v := .ty "str") (by rfl) T.no_str (by decide +kernel) rfl) pa_nil))))) (pw_or1 (pt_cmpR op_gt (pe_callB call_len (by rfl) T.no_len (by decide +kernel) (pa_cons (pv 0) pa_nil)) (pe_globC T.mg_MOST_LETTERS) (nomark _))))) (pss_one (ps_ret pe_bl)) pss_nil)
      (pss_one (ps_ret (pe_and (pe_bm0 PySem.F.plainAttrs_str PySem.F.slot_str_isascii PySem.F.type_str_isascii mt_isascii (pv 0)) (pe_and (pe_bm0 PySem.F.plainAttrs_str PySem.F.slot_str_isalpha PySem.F.type_str_isalpha mt_isalpha (pv 0)) (pe_one (pe_bm0 PySem.F.plainAttrs_str PySem.F.slot_str_islower PySem.F.type_str_islower mt_islower (pv 0)))))))), ?_⟩
    refine ⟨_, rfl, _, _, _, _, _, rfl, .ty _, .base (.str _), kit_ty (r := true) (by decide +kernel), ?_⟩
    refine ⟨_, rfl, ?_⟩
    refine iteF ?_
    refine ⟨_, rfl, _, _, rfl, ⟨szS hx, rfl⟩, _, _, rfl, rfl, _, rfl, ?_⟩
    unfold isItem at h
    refine ite2 (fun c => ?_) (fun c => ?_)
    · have e : decide (x.length ≤ 8) = false := decide_eq_false (by have := of_decide_eq_true c; omega)
      rw [e] at h
      exact h
    · have e : decide (x.length ≤ 8) = true := decide_eq_true (by have := of_decide_eq_false (Bool.eq_false_iff.mpr c); omega)
      rw [e, Bool.true_and] at h
      refine ⟨_, rfl, rfl, _, rfl, rfl, trivial, _, rfl, ?_⟩
      refine ite2 (fun c1 => ?_) (fun c1 => ?_)
      · rw [c1, Bool.true_and] at h
        refine ⟨_, rfl, rfl, _, rfl, rfl, trivial, _, rfl, ?_⟩
        refine ite2 (fun c2 => ?_) (fun c2 => ?_)
        · rw [c2, Bool.true_and] at h
          exact ⟨_, rfl, rfl, _, rfl, rfl, trivial, h⟩
        · rw [Bool.eq_false_iff.mpr c2] at h
          exact h
      · rw [Bool.eq_false_iff.mpr c1] at h
        exact h
def spIndex : Sp := fun vs H Q _ => ∃ n : Int, vs = [.int n] ∧ 0 ≤ n ∧ n ≤ 60 ∧ Q .non H
theorem ok_check_index (T : Txt K mg A) : Ok1 P w K mg base 2 A.f_check_index ["slot"] spIndex := by
  refine T.fn_check_index.ok sc_check_index (fun _ _ _ _ _ _ us hl => match us, hl with | [_], _ => rfl) (fun vs H Q E h => ?_) (fun cdv B up s H vs Q E hr h => ?_)
  · obtain ⟨n, rfl, _⟩ := h
    rfl
  · obtain ⟨n, rfl, h0, h1, h⟩ := h
    refine ⟨_, (pss_one (ps_if (PW.pt (pw_or (pt_not (pt_val (po_call (ok_is_integer T) (hr.mono (by decide)) T.mg_is_integer (pa_cons (pv 0) pa_nil)))) (pw_or1 (pt_not (pt_chain op_le op_le pe_int (pv 0) (pe_clsv T.cv_Record_MOST (pe_glob (v := .ref A.c_Record) rfl T.mg_Record rfl))))))) (pss_one ps_never) pss_nil)), ?_⟩
    refine ⟨_, rfl, _, rfl, _, rfl, ?_⟩
    refine iteF ?_
    refine ⟨_, rfl, _, _, rfl, rfl, _, rfl, ?_⟩
    rw [decide_eq_true h0]
    refine iteT ?_
    refine ⟨_, _, rfl, rfl, _, rfl, ?_⟩
    rw [decide_eq_true h1]
    exact iteF h

/-! ### the records' own defs -/
theorem rc_Record (T : Txt K mg A) : RC K A.c_Record := ⟨T.cl_Record, T.na_Record_item, T.na_Record_slot⟩
theorem rc_Inserted (T : Txt K mg A) : RC K A.c_Inserted := ⟨T.cl_Inserted, T.na_Inserted_item, T.na_Inserted_slot⟩
theorem rc_Removed (T : Txt K mg A) : RC K A.c_Removed := ⟨T.cl_Removed, T.na_Removed_item, T.na_Removed_slot⟩
theorem rc_Fronted (T : Txt K mg A) : RC K A.c_Fronted := ⟨T.cl_Fronted, T.na_Fronted_item, T.na_Fronted_slot⟩
def spInit (K : PySem.W.Frag) : Sp := fun vs H Q _ => ∃ (p C dx : Addr) (x : Str) (n : Int), vs = [.ref p, .str x, .int n] ∧ H p = some (.ins C dx []) ∧ RC K C ∧ isItem x = true ∧ 0 ≤ n ∧ n ≤ 60 ∧
  ∀ H' : Hp, H' p = some (.ins C dx (rfs x n)) → But p H H' → Q .non H'
theorem item_len {x : Str} (h : isItem x = true) : x.length ≤ 8 := by
  unfold isItem at h
  rw [Bool.and_eq_true] at h
  exact of_decide_eq_true h.1
theorem ok_Record___init__ (T : Txt K mg A) : Ok1 P w K mg base 3 A.m_Record___init__ ["self", "item", "slot"] (spInit K) := by
  refine T.fn_Record___init__.ok sc_Record___init__ (fun _ _ _ _ _ _ us hl => match us, hl with | [_, _, _], _ => rfl) (fun vs H Q E h => ?_) (fun cdv B up s H vs Q E hr h => ?_)
  · obtain ⟨p, C, dx, x, n, rfl, _⟩ := h
    rfl
  · obtain ⟨p, C, dx, x, n, rfl, hp, R, hi, h0, h1, h⟩ := h
    refine ⟨_, (pss_cons (ps_if (pt_not (pt_val (po_call (ok_is_item T) (hr.mono (by decide)) T.mg_is_item (pa_cons (pv 1) pa_nil)))) (pss_one ps_never) pss_nil)
      (pss_cons (ps_expr (po_call (ok_check_index T) (hr.mono (by decide)) T.mg_check_index (pa_cons (pv 2) pa_nil)))
      (pss_cons (ps_fld (pv 0) (pv 1) rfl)
      (pss_one (ps_fld (pv 0) (pv 2) rfl))))), ?_⟩
    refine ⟨_, rfl, _, rfl, Nat.le_trans (item_len hi) (by decide), _, rfl, ?_⟩
    rw [hi]
    refine iteF ?_
    refine ⟨_, rfl, _, rfl, h0, h1, ?_⟩
    refine ⟨_, rfl, _, rfl, p, C, dx, _, rfl, hp, R.cl, R.nI, (by decide), ?_⟩
    refine ⟨_, rfl, _, rfl, p, C, dx, _, rfl, upd_same, R.cl, R.nS, (by show 1 < 1000; decide), ?_⟩
    exact h _ upd_same (But.upd.trans But.upd)

/-! ### the law's own defs -/
theorem big39 : ((10 : Int) ^ (39 : Int).toNat + 3) = 1000000000000000000000000000000000000003 := by decide +kernel
theorem big41 : ((10 : Int) ^ (41 : Int).toNat + 37) = 100000000000000000000000000000000000000037 := by decide +kernel
theorem big38 : ((10 : Int) ^ (38 : Int).toNat + 133) = 100000000000000000000000000000000000133 := by decide +kernel
theorem atI0 {α : Type} (a : α) (l : List α) : atI (a :: l) 0 = some a := atI_nat (j := 0) rfl
def spSource (K : PySem.W.Frag) : Sp := fun vs H Q _ => ∃ (a : Addr) (ns : List Int) (k : Nat), vs = [.ref a, .int k] ∧ SqL K H a (ns.map V.int) ∧ k < 64 ∧
  ∀ (p : Addr) (H' : Hp), Same H H' → H p = none → SrcAt H' p 0 → Q (.ref p) H'
theorem ok__law_tape (T : Txt K mg A) : Ok1 P w K mg base 1 A.f__law_tape ["script", "k"] (spSource K) := by
  refine T.fn__law_tape.ok sc__law_tape (fun _ _ _ _ _ _ us hl => match us, hl with | [_, _], _ => rfl) (fun vs H Q E h => ?_) (fun cdv B up s H vs Q E hr h => ?_)
  · obtain ⟨a, ns, k, rfl, _⟩ := h
    rfl
  · obtain ⟨a, ns, k, rfl, hS, hk, h⟩ := h
    refine ⟨_, (pss_mid (ps_set (i := 2) sc__law_tape.nd rfl (Or.inl rfl) (pe_ifExp (pt_cmpR op_lt (pv 1) (pe_callB call_len (by rfl) T.no_len (by decide +kernel) (pa_cons (pv 0) pa_nil)) (nomark _)) (pe_callB call_abs (by rfl) T.no_abs (by decide +kernel) (pa_cons (pe_ix ix_seq (pv 0) (pv 1) (fun _ _ => rfl)) pa_nil)) pe_int))
      (pss_one (ps_ret (pe_lst (pa_cons (pe_callB (call_max2 rfl) (by rfl) T.no_max (by decide +kernel) (pa_cons pe_int (pa_cons (pe_op op_sub (pv 2) (pe_op op_powX pe_int pe_int)) pa_nil))) (pa_cons (pe_op op_addX (pe_op op_mulX (pe_op op_mod (pv 2) (pe_op op_addX (pe_op op_powX pe_int pe_int) pe_int)) pe_int) (pv 1)) (pa_cons pe_int pa_nil))))))), ?_⟩
    refine ⟨fun σ1 H1 => H1 = H ∧ ∃ c : Int, σ1 = [some (.ref a), some (.int k), some (.int c)], ?_, ?_⟩
    · refine ⟨_, rfl, _, rfl, _, _, rfl, .inl ⟨_, hS, rfl⟩, _, _, rfl, rfl, _, rfl, ?_⟩
      refine ite2 (fun c => ?_) (fun _ => ⟨rfl, 0, rfl⟩)
      have hkn : k < ns.length := by
        have := of_decide_eq_true c
        rw [List.length_map] at this
        omega
      refine ⟨_, rfl, _, rfl, .inl ⟨_, _, _, .int ns[k], rfl, rfl, hS, atI_nat (by simp [hkn]), ?_⟩⟩
      exact ⟨_, rfl, rfl, _, rfl⟩
    · rintro σ1 H1 ⟨rfl, c, rfl⟩
      refine ⟨_, rfl, _, _, rfl, rfl, ⟨by decide, by decide, by decide +kernel⟩, _, _, rfl, rfl, _, _, rfl, ?_⟩
      refine ⟨_, rfl, _, _, rfl, rfl, ⟨by decide, by decide, by decide +kernel⟩, .inl ⟨_, _, rfl, rfl, ?_⟩⟩
      dsimp only
      rw [big39]
      have e0 := Int.emod_nonneg c (show (1000000000000000000000000000000000000003 : Int) ≠ 0 by decide)
      have e1 := Int.emod_lt_of_pos c (show (0 : Int) < 1000000000000000000000000000000000000003 by decide)
      refine ⟨_, _, rfl, rfl, (by show (0 : Int) < _; decide), .inl ⟨_, _, rfl, rfl, wide_mul (a := 140) (b := 7) ?_ (by decide) (by decide) (by decide) (by decide), ?_⟩⟩
      · omega
      refine ⟨_, rfl, .inl ⟨_, _, rfl, rfl, ?_⟩⟩
      refine ⟨Nat.le_of_ble_eq_true rfl, fun p hp => ?_⟩
      refine h p _ (Same.new hp) hp ⟨_, _, 0, upd_same, ?_⟩
      omega
def spPick : Sp := fun vs H Q _ => ∃ (a : Addr) (size n : Int), vs = [.ref a, .int size] ∧ 0 < size ∧ size < 2 ^ 200 ∧ SrcAt H a n ∧ n < 2 ^ 60 ∧
  ∀ (r : Int) (H' : Hp), 0 ≤ r → r < size → SrcAt H' a (n + 1) → But a H H' → Q (.int r) H'
theorem ok__law_next (T : Txt K mg A) : Ok1 P w K mg base 1 A.f__law_next ["tape", "size"] spPick := by
  refine T.fn__law_next.ok sc__law_next (fun _ _ _ _ _ _ us hl => match us, hl with | [_, _], _ => rfl) (fun vs H Q E h => ?_) (fun cdv B up s H vs Q E hr h => ?_)
  · obtain ⟨a, size, n, rfl, _⟩ := h
    rfl
  · obtain ⟨a, size, n, rfl, hs, hs2, ⟨g, m, c, ha, hm0, hm1, hc0, hc1⟩, hn, h⟩ := h
    have hz : CDivW g size := wide_div (b := 200) hs (by omega) (by decide) (by decide)
    refine ⟨_, (pss_cons (ps_if (pt_cmpR op_gt (pe_ix ix_seq (pv 0) pe_int (fun _ _ => rfl)) pe_int (nomark _)) (pss_cons (ps_set (i := 2) sc__law_next.nd rfl (Or.inl rfl) (pe_op op_mod (pe_ix ix_seq (pv 0) pe_int (fun _ _ => rfl)) (pv 1)))
      (pss_cons (ps_asg (pe_op op_fdivX (pe_ix ix_seq (pv 0) pe_int (fun _ _ => rfl)) (pv 1)) (pg_sub (pv 0) pe_int set_list))
      (pss_one (ps_ret (pv 2))))) pss_nil)
      (pss_cons (ps_asg (pe_op op_addX (pe_ix ix_seq (pv 0) pe_int (fun _ _ => rfl)) pe_int) (pg_sub (pv 0) pe_int set_list))
      (pss_cons (ps_set (i := 3) sc__law_next.nd rfl (Or.inl rfl) (pe_op op_mod (pe_op op_powX (pe_op op_addX (pe_ix ix_seq (pv 0) pe_int (fun _ _ => rfl)) (pe_op op_mulX pe_int (pe_ix ix_seq (pv 0) pe_int (fun _ _ => rfl)))) pe_int) (pe_op op_addX (pe_op op_powX pe_int pe_int) pe_int)))
      (pss_cons (ps_set (i := 3) sc__law_next.nd rfl (Or.inl rfl) (pe_op op_mod (pe_op op_powX (pe_op op_addX (pv 3) (pe_op op_mulX pe_int (pe_ix ix_seq (pv 0) pe_int (fun _ _ => rfl)))) pe_int) (pe_op op_addX (pe_op op_powX pe_int pe_int) pe_int)))
      (pss_one (ps_ret (pe_op op_mod (pe_op op_fdivX (pv 3) pe_int) (pv 1)))))))), ?_⟩
    refine ⟨_, rfl, .inl ⟨_, _, _, _, rfl, rfl, SqL.of ha, rfl, _, _, rfl, rfl, _, rfl, ?_⟩⟩
    refine ite2 (fun _ => ?_) (fun _ => ?_)
    · -- the digits of a large cell
      refine ⟨_, rfl, .inl ⟨_, _, _, _, rfl, rfl, SqL.of ha, rfl, _, rfl, _, _, rfl, rfl, hs, ?_⟩⟩
      refine ⟨_, rfl, .inl ⟨_, _, _, _, rfl, rfl, SqL.of ha, rfl, _, rfl, _, _, rfl, rfl, hz, ?_⟩⟩
      refine ⟨_, rfl, _, _, _, _, rfl, rfl, ha, rfl, ?_⟩
      refine ⟨_, rfl, h _ _ (Int.emod_nonneg _ (by omega)) (Int.emod_lt_of_pos _ hs) ⟨_, m, c, upd_same, hm0, hm1, hc0, by omega⟩ But.upd⟩
    · -- source[2] = source[2] + 1
      refine ⟨_, rfl, .inl ⟨_, _, _, _, rfl, rfl, SqL.of ha, rfl, .inl ⟨_, _, rfl, rfl, ?_⟩⟩⟩
      refine ⟨_, rfl, _, _, _, _, rfl, rfl, ha, rfl, ?_⟩
      -- mixed
      refine ⟨_, rfl, .inl ⟨_, _, _, _, rfl, rfl, SqL.of upd_same, rfl, ?_⟩⟩
      refine ⟨_, rfl, .inl ⟨_, _, _, _, rfl, rfl, SqL.of upd_same, rfl, ?_⟩⟩
      refine .inl ⟨_, _, rfl, rfl, wide_mul (a := 30) (b := 62) (by decide) (by omega) (by decide) (by decide) (by decide), .inl ⟨_, _, rfl, rfl, ?_⟩⟩
      have b1 : (m + 10000019 * (c + 1)).natAbs < 2 ^ 150 := by omega
      refine ⟨_, _, rfl, rfl, cpow (by decide) (by decide) b1 (by decide) (by decide), _, _, rfl, rfl, ⟨by decide, by decide, by decide +kernel⟩, .inl ⟨_, _, rfl, rfl, ?_⟩⟩
      dsimp only
      rw [big41]
      refine ⟨_, _, rfl, rfl, (by show (0 : Int) < _; decide), ?_⟩
      dsimp only
      generalize (m + 10000019 * (c + 1)) ^ (3 : Int).toNat = z1
      have e0 := Int.emod_nonneg z1 (show (100000000000000000000000000000000000000037 : Int) ≠ 0 by decide)
      have e1 := Int.emod_lt_of_pos z1 (show (0 : Int) < 100000000000000000000000000000000000000037 by decide)
      generalize z1 % 100000000000000000000000000000000000000037 = y1 at e0 e1 ⊢
      refine ⟨_, rfl, _, rfl, .inl ⟨_, _, _, _, rfl, rfl, SqL.of upd_same, rfl, ?_⟩⟩
      refine .inl ⟨_, _, rfl, rfl, wide_mul (a := 40) (b := 62) (by decide) (by omega) (by decide) (by decide) (by decide), .inl ⟨_, _, rfl, rfl, ?_⟩⟩
      have b2 : (y1 + 32452843 * (c + 1)).natAbs < 2 ^ 150 := by omega
      refine ⟨_, _, rfl, rfl, cpow (by decide) (by decide) b2 (by decide) (by decide), _, _, rfl, rfl, ⟨by decide, by decide, by decide +kernel⟩, .inl ⟨_, _, rfl, rfl, ?_⟩⟩
      dsimp only
      rw [big38]
      refine ⟨_, _, rfl, rfl, (by show (0 : Int) < _; decide), ?_⟩
      dsimp only
      generalize (y1 + 32452843 * (c + 1)) ^ (3 : Int).toNat = z2
      generalize z2 % 100000000000000000000000000000000000133 = y2
      refine ⟨_, rfl, _, _, rfl, rfl, wide_div (b := 30) (by decide) (by decide) (by decide) (by decide), _, rfl, _, _, rfl, rfl, hs, ?_⟩
      exact h _ _ (Int.emod_nonneg _ (by omega)) (Int.emod_lt_of_pos _ hs) ⟨_, m, c + 1, upd_same, hm0, hm1, by omega, by omega⟩ But.upd
theorem eq_dec {a b : Int} (h : decide (V.int a = V.int b) = true) : a = b := V.int.inj (of_decide_eq_true h)
theorem ne_dec {a b : Int} (h : ¬ decide (V.int a = V.int b) = true) : a ≠ b := fun e => h (decide_eq_true (by rw [e]))
def spMade (A : Ad) : Sp := fun vs H Q _ => ∃ (way n : Int) (x : Str), vs = [.int way, .str x, .int n] ∧ 0 ≤ way ∧ way ≤ 2 ∧ isItem x = true ∧ 0 ≤ n ∧ n ≤ 60 ∧
  ∀ (p dx : Addr) (H' : Hp), Same H H' → H p = none → H' p = some (.ins (cw A way) dx (rfs x n)) → Q (.ref p) H'
theorem ok__law_made (T : Txt K mg A) : Ok1 P w K mg base 5 A.f__law_made ["kind", "item", "slot"] (spMade A) := by
  refine T.fn__law_made.ok sc__law_made (fun _ _ _ _ _ _ us hl => match us, hl with | [_, _, _], _ => rfl) (fun vs H Q E h => ?_) (fun cdv B up s H vs Q E hr h => ?_)
  · obtain ⟨way, n, x, rfl, _⟩ := h
    rfl
  · obtain ⟨way, n, x, rfl, w0, w1, hi, h0, h1, h⟩ := h
    refine ⟨_, (pss_cons (ps_if (pt_cmpR (op_eqX hr) (pv 0) pe_int (nomark _)) (pss_one (ps_ret (po_make T.mk_Inserted (ok_Record___init__ T) (hr.mono (by decide)) T.mg_Inserted (pa_cons (pv 1) (pa_cons (pv 2) pa_nil))))) pss_nil)
      (pss_one (ps_ret (pe_ifExp (pt_cmpR (op_eqX hr) (pv 0) pe_int (nomark _)) (po_make T.mk_Removed (ok_Record___init__ T) (hr.mono (by decide)) T.mg_Removed (pa_cons (pv 1) (pa_cons (pv 2) pa_nil))) (po_make T.mk_Fronted (ok_Record___init__ T) (hr.mono (by decide)) T.mg_Fronted (pa_cons (pv 1) (pa_cons (pv 2) pa_nil))))))), ?_⟩
    refine ⟨_, rfl, .inl ⟨rfl, _, rfl, ?_⟩⟩
    refine ite2 (fun c => ?_) (fun c => ?_)
    · obtain rfl := eq_dec c
      exact ⟨_, rfl, _, rfl, fun p dx np nd ne => ⟨p, _, dx, x, n, rfl, upd_same, rc_Inserted T, hi, h0, h1, fun H' e b => ⟨rfl, h p dx H' (made_same np nd b) np e⟩⟩⟩
    have c0 := ne_dec c
    refine ⟨_, rfl, .inl ⟨rfl, _, rfl, ?_⟩⟩
    refine ite2 (fun c => ?_) (fun c => ?_)
    · obtain rfl := eq_dec c
      exact ⟨_, rfl, _, rfl, fun p dx np nd ne => ⟨p, _, dx, x, n, rfl, upd_same, rc_Removed T, hi, h0, h1, fun H' e b => ⟨rfl, h p dx H' (made_same np nd b) np e⟩⟩⟩
    have c1 := ne_dec c
    obtain rfl : way = 2 := by omega
    exact ⟨_, rfl, _, rfl, fun p dx np nd ne => ⟨p, _, dx, x, n, rfl, upd_same, rc_Fronted T, hi, h0, h1, fun H' e b => ⟨rfl, h p dx H' (made_same np nd b) np e⟩⟩⟩

/-- the law's own state: what stood at first stands, and p is the source -/
structure Sd (H0 : Hp) (p : Addr) (n : Int) (H : Hp) : Prop where
  same : Same H0 H
  src : SrcAt H p n
  fr : H0 p = none
theorem Sd.pick {H0 H H' : Hp} {p : Addr} {n : Int} (s : Sd H0 p n H) (b : But p H H') (r : SrcAt H' p (n + 1)) : Sd H0 p (n + 1) H' := ⟨s.same.but s.fr b, r, s.fr⟩
theorem Sd.more {H0 H H' : Hp} {p : Addr} {n : Int} (s : Sd H0 p n H) (e : Same H H') : Sd H0 p n H' := ⟨s.same.trans e, s.src.same e, s.fr⟩
theorem Sd.le {H0 H : Hp} {p : Addr} {n m : Int} (s : Sd H0 p n H) (h : n ≤ m) : Sd H0 p m H := by
  obtain ⟨a, ⟨g, m', c, e, h0, h1, h2, h3⟩, f⟩ := s
  exact ⟨a, ⟨g, m', c, e, h0, h1, h2, by omega⟩, f⟩
theorem Sd.ne {H0 H : Hp} {p q : Addr} {n : Int} (s : Sd H0 p n H) (h : H q = none) : q ≠ p := fun e => by
  obtain ⟨g, m', c, z, _⟩ := s.src
  rw [e, z] at h
  cases h
theorem pickI {zs : List Int} {r : Int} (C : Int → Prop) (hC : ∀ z ∈ zs, C z) (h0 : 0 ≤ r) (h1 : r < zs.length) : ∃ z, atI (zs.map V.int) r = some (.int z) ∧ C z := by
  obtain ⟨j, rfl⟩ : ∃ j : Nat, r = j := ⟨r.toNat, by omega⟩
  have hj : j < zs.length := by omega
  exact ⟨zs[j], atI_nat (by simp [hj]), hC _ (List.getElem_mem hj)⟩
theorem at_map {zs : List Int} {i : Nat} {y : V} (h : (zs.map V.int)[i]? = some y) : ∃ z ∈ zs, y = .int z := by
  rw [List.getElem?_map] at h
  cases e : zs[i]? with
  | none => rw [e] at h; cases h
  | some z => rw [e] at h; exact ⟨z, List.mem_of_getElem? e, (Option.some.inj h).symm⟩
/-! ### slices of lists of texts -/
theorem cut_to (xs : List Str) (k : Nat) (h : k ≤ xs.length) : cutV (xs.map V.str) none (some (k : Int)) = (xs.take k).map V.str := by
  unfold cutV
  rw [HT.sIx_none, HT.sIx_nat, List.length_map, Nat.min_eq_left h, List.drop_zero, Nat.sub_zero, List.map_take]
theorem cut_from (xs : List Str) (k : Nat) (h : k ≤ xs.length) : cutV (xs.map V.str) (some (k : Int)) none = (xs.drop k).map V.str := by
  unfold cutV
  rw [HT.sIx_none, HT.sIx_nat, List.length_map, Nat.min_eq_left h, ← List.map_drop, ← List.map_take]
  rw [List.take_of_length_le (by rw [List.length_drop]; exact Nat.le_refl _)]
theorem cut_to' (xs : List Str) (k : Nat) : cutV (xs.map V.str) none (some (k : Int)) = (xs.take k).map V.str := by
  rcases Nat.lt_or_ge xs.length k with h | h
  · unfold cutV
    rw [HT.sIx_none, HT.sIx_nat, List.length_map, Nat.min_eq_right (Nat.le_of_lt h), List.drop_zero, Nat.sub_zero, List.map_take, List.take_of_length_le (by simp), List.take_of_length_le (by simp; omega)]
  · exact cut_to xs k h
theorem cut_from' (xs : List Str) (k : Nat) : cutV (xs.map V.str) (some (k : Int)) none = (xs.drop k).map V.str := by
  rcases Nat.lt_or_ge xs.length k with h | h
  · unfold cutV
    rw [HT.sIx_none, HT.sIx_nat, List.length_map, Nat.min_eq_right (Nat.le_of_lt h), List.drop_of_length_le (show xs.length ≤ k by omega), Nat.sub_self, List.take_zero]
    rfl
  · exact cut_from xs k h
theorem cut_both (xs : List Str) (j k : Nat) : cutV (xs.map V.str) (some (j : Int)) (some (k : Int)) = ((xs.take k).drop j).map V.str := by
  unfold cutV
  rw [HT.sIx_nat, HT.sIx_nat, List.length_map, List.drop_take, List.map_take, List.map_drop]
  rcases Nat.lt_or_ge xs.length j with h | h
  · rw [Nat.min_eq_right (Nat.le_of_lt h), List.drop_of_length_le (by simp), List.drop_of_length_le (by simp; omega)]
    simp
  · rw [Nat.min_eq_left h]
    rcases Nat.lt_or_ge xs.length k with h2 | h2
    · rw [Nat.min_eq_right (Nat.le_of_lt h2), List.take_of_length_le (by simp), List.take_of_length_le (by simp; omega)]
    · rw [Nat.min_eq_left h2]

end
end Own

set_option Elab.async false
set_option linter.all false
set_option maxRecDepth 100000
set_option maxHeartbeats 4000000
namespace Own
open PySem L2 ClX
local macro_rules | `(tactic| walk_at "v") => `(tactic| refine ⟨_, rfl, ?_⟩)
local macro_rules | `(tactic| walk_at "ii") => `(tactic| refine ⟨_, _, rfl, rfl, ?_⟩)
local macro_rules | `(tactic| walk_at "go") => `(tactic| repeat (first | refine ⟨_, rfl, ?_⟩ | refine ⟨_, _, rfl, rfl, ?_⟩ | refine addI ?_ | refine L2.iteT ?_ | refine L2.iteF ?_))

section
variable {P : Program} {w : World} {K : PySem.W.Frag} {mg : Str → Option Value} {base : Heap} {A : Ad}
/-! ### shuffled -/
theorem seqIx {r : Int} {n : Nat} (h0 : 0 ≤ r) (h1 : r < n) : seqIndex? r n = some r.toNat := by
  have h2 : ¬ r < 0 := by omega
  simp [seqIndex?, h2, h0, h1]
theorem erase_perm {α : Type} : ∀ (l : List α) (k : Nat) (h : k < l.length), (l[k] :: l.eraseIdx k).Perm l
  | _ :: _, 0, _ => List.Perm.refl _
  | x :: l, k + 1, h => (List.Perm.swap x _ (l.eraseIdx k)).trans ((erase_perm l k (Nat.lt_of_succ_lt_succ h)).cons x)
theorem perm_out {α : Type} (done rest : List α) (k : Nat) (h : k < rest.length) : ((done ++ [rest[k]]) ++ rest.eraseIdx k).Perm (done ++ rest) := by
  rw [List.append_assoc]
  exact List.Perm.append_left _ (erase_perm rest k h)
theorem map_eraseIdx {α β : Type} (f : α → β) : ∀ (l : List α) (k : Nat), (l.map f).eraseIdx k = (l.eraseIdx k).map f
  | [], _ => rfl
  | _ :: _, 0 => rfl
  | x :: l, k + 1 => congrArg (f x :: ·) (map_eraseIdx f l k)

/-! ### items -/
/-- different items -/
structure Items (xs : List Str) : Prop where
  it : ∀ x ∈ xs, isItem x = true
  nd : xs.Nodup
theorem Items.perm {xs ys : List Str} (h : Items xs) (p : ys.Perm xs) : Items ys := ⟨fun x hx => h.it x (p.mem_iff.mp hx), p.nodup_iff.mpr h.nd⟩
theorem Items.len {xs : List Str} (h : Items xs) {x : Str} (hx : x ∈ xs) : x.length ≤ 8 := item_len (h.it x hx)

/-! ### small facts -/
theorem inS (x : Str) : ∀ xs : List Str, inV (.str x) (xs.map V.str) = decide (x ∈ xs)
  | [] => rfl
  | y :: ys => by
    have ih := inS x ys
    unfold inV at ih ⊢
    rw [List.map_cons, List.any_cons, ih]
    show ((y == x) || decide (x ∈ ys)) = decide (x ∈ y :: ys)
    by_cases e : x = y
    · subst e
      simp
    · have e2 : (y == x) = false := beq_false_of_ne fun z => e z.symm
      rw [e2]
      simp [e]
theorem flatS (xs : List Str) : (xs.map V.str).all flatV = true := by
  rw [List.all_map, List.all_eq_true]
  intro x _
  rfl
theorem addL {H : Hp} {Q : VK} {l b : Addr} {xs zs : List V} (h1 : H l = some (.lst xs)) (h2 : H b = some (.lst zs)) (h3 : xs.length + zs.length ≤ 1000000) (q : ∀ p, H p = none → Q (.ref p) (upd H p (.lst (xs ++ zs)))) : rAddX (.ref l) (.ref b) H Q :=
  .inr (.inr ⟨l, b, xs, zs, rfl, rfl, h1, h2, Nat.le_trans h3 (by decide), q⟩)
theorem none_same {H H' : Hp} {D : Addr} (s : Same H H') (nD : H' D = none) : H D = none := by
  cases e : H D with
  | none => rfl
  | some o =>
    rw [s _ _ e] at nD
    cases nD
theorem strT (z : Str) : decide (V.str z = V.str z) = true := decide_eq_true rfl
theorem strF (z : Str) : (!decide (V.str z = V.str z)) = false := by rw [strT]; rfl

/-! ### lists of items as data -/
theorem item_chars {x : Str} (h : isItem x = true) : ∀ c ∈ x.cps.toList, c < 128 := by
  unfold isItem at h
  rw [Bool.and_eq_true, Bool.and_eq_true] at h
  have z := h.2.1
  unfold Txt.isascii at z
  intro c hc
  rw [Array.all_eq_true'] at z
  exact of_decide_eq_true (z c (Array.mem_toList_iff.mp hc))
def sl (xs : List Str) : PyData := .list (xs.map .str)
theorem dpAllS (xs : List Str) (H : Hp) : DpAll K H (xs.map V.str) (xs.map PyData.str) := by
  induction xs with
  | nil => exact .nil
  | cons x xs ih => exact .cons (.str x) ih
theorem dpS {H : Hp} {a : Addr} {xs : List Str} (h : SqL K H a (xs.map V.str)) : Dp K H (.ref a) (sl xs) := .lst h (dpAllS xs H)
theorem eqvAllS : ∀ xs ys : List Str, PyData.eqvAll (xs.map .str) (ys.map .str) = decide (xs = ys)
  | [], [] => by simp [PyData.eqvAll]
  | [], _ :: _ => by simp [PyData.eqvAll]
  | _ :: _, [] => by simp [PyData.eqvAll]
  | x :: xs, y :: ys => by
    have ih := eqvAllS xs ys
    simp only [List.map_cons, PyData.eqvAll, PyData.eqv, ih]
    by_cases e : x = y
    · subst e
      simp
    · have e2 : (x == y) = false := beq_false_of_ne e
      rw [e2]
      simp [e]
theorem eqvS (xs ys : List Str) : PyData.eqv (sl xs) (sl ys) = decide (xs = ys) := by
  unfold sl
  simp only [PyData.eqv]
  exact eqvAllS xs ys
theorem layS : ∀ xs : List Str, (∀ x ∈ xs, isItem x = true) → PyData.canLayAll0 (xs.map .str) = true
  | [], _ => by simp [PyData.canLayAll0]
  | x :: xs, h => by
    have ih := layS xs fun y hy => h y (List.mem_cons_of_mem _ hy)
    have hx : PyData.strOk x = true := by
      unfold PyData.strOk
      rw [Array.all_eq_true']
      intro c hc
      have := item_chars (h x List.mem_cons_self) c (Array.mem_toList_iff.mpr hc)
      exact decide_eq_true (by omega)
    simp only [List.map_cons, PyData.canLayAll0, PyData.canLay0, ih, hx, Bool.and_self]
theorem depthS : ∀ xs : List Str, PyData.depthAll (xs.map .str) = 0
  | [] => by simp [PyData.depthAll]
  | x :: xs => by simp [PyData.depthAll, PyData.depth, depthS xs]
theorem shapedS {xs : List Str} (h : ∀ x ∈ xs, isItem x = true) : SeqAt.shaped (sl xs) = true := by
  unfold SeqAt.shaped sl
  simp [PyData.canLay0, layS xs h, PyData.depth, depthS xs]
theorem showableS : ∀ xs : List Str, PyData.showableAll (xs.map .str) = true
  | [] => by simp [PyData.showableAll]
  | x :: xs => by simp [PyData.showableAll, PyData.showable, showableS xs]
theorem noDictS : ∀ xs : List Str, PyData.hasDictAll (xs.map .str) = false
  | [] => by simp [PyData.hasDictAll]
  | x :: xs => by simp [PyData.hasDictAll, PyData.hasDict, noDictS xs]
theorem shownS : ∀ xs : List Str, PyData.shownAll (xs.map .str) = xs.map reprText
  | [] => by simp [PyData.shownAll]
  | x :: xs => by simp [PyData.shownAll, PyData.shown, shownS xs]
theorem sumS : ∀ xs : List Str, (∀ x ∈ xs, isItem x = true) → ((xs.map reprText).map (·.length)).sum ≤ 82 * xs.length
  | [], _ => by simp
  | x :: xs, h => by
    have ih := sumS xs fun y hy => h y (List.mem_cons_of_mem _ hy)
    have hx := h x List.mem_cons_self
    have l := item_len hx
    have z := StrLaws.reprText_len x fun c hc => Nat.lt_of_lt_of_le (item_chars hx c hc) (by decide)
    simp only [List.map_cons, List.sum_cons, List.length_cons]
    omega
theorem shownS_len {xs : List Str} (h : ∀ x ∈ xs, isItem x = true) (m : xs.length ≤ 70) : (sl xs).shown.length ≤ 6000 := by
  have z := listText_len_le (xs.map reprText)
  have q := sumS xs h
  rw [List.length_map] at z
  unfold sl
  simp only [PyData.shown, shownS]
  omega
theorem showsS {xs : List Str} (h : ∀ x ∈ xs, isItem x = true) (m : xs.length ≤ 70) : Shows (sl xs) := by
  refine ⟨?_, ?_, ?_, Nat.le_trans (shownS_len h m) (by decide)⟩
  · simp [sl, PyData.showable, showableS]
  · simp [sl, PyData.hasDict, noDictS]
  · simp [sl, PyData.depth, depthS]
/-- what is told of a list, or of none -/
def tl (o : Option (List Str)) (x : Str) : PyData := match o with
  | some ys => sl ys
  | none => .tuple [.str "impossible", .str x]
theorem tl_len {o : Option (List Str)} {x : Str} (h : ∀ ys, o = some ys → (∀ y ∈ ys, isItem y = true) ∧ ys.length ≤ 70) (hx : isItem x = true) : (tl o x).shown.length ≤ 6000 := by
  cases o with
  | some ys => exact shownS_len (h ys rfl).1 (h ys rfl).2
  | none =>
    have z := tupleText_len_le [reprText "impossible", reprText x]
    have l := item_len hx
    have q := StrLaws.reprText_len x fun c hc => Nat.lt_of_lt_of_le (item_chars hx c hc) (by decide)
    have q2 : (reprText "impossible").length ≤ 100 := by decide +kernel
    unfold tl
    simp only [PyData.shown, PyData.shownAll]
    simp only [List.map_cons, List.map_nil, List.sum_cons, List.sum_nil, List.length_cons, List.length_nil] at z
    omega
theorem tl_shape {o : Option (List Str)} {x : Str} (h : ∀ ys, o = some ys → (∀ y ∈ ys, isItem y = true) ∧ ys.length ≤ 70) (hx : isItem x = true) : (tl o x).showable = true ∧ (tl o x).hasDict = false ∧ (tl o x).depth ≤ 3 := by
  cases o with
  | some ys =>
    refine ⟨?_, ?_, ?_⟩
    · simp [tl, sl, PyData.showable, showableS]
    · simp [tl, sl, PyData.hasDict, noDictS]
    · simp [tl, sl, PyData.depth, depthS]
  | none =>
    refine ⟨?_, ?_, ?_⟩
    · simp [tl, PyData.showable, PyData.showableAll]
    · simp [tl, PyData.hasDict, PyData.hasDictAll]
    · simp [tl, PyData.depth, PyData.depthAll]
theorem shows_tl2 {o : Option (List Str)} {x : Str} (h : ∀ ys, o = some ys → (∀ y ∈ ys, isItem y = true) ∧ ys.length ≤ 70) (hx : isItem x = true) : Shows (.list [tl o x, tl o x]) := by
  obtain ⟨a, b, c⟩ := tl_shape h hx
  have l := tl_len h hx
  refine ⟨?_, ?_, ?_, ?_⟩
  · simp [PyData.showable, PyData.showableAll, a]
  · simp [PyData.hasDict, PyData.hasDictAll, b]
  · simp only [PyData.depth, PyData.depthAll]
    omega
  · have z := listText_len_le [(tl o x).shown, (tl o x).shown]
    simp only [PyData.shown, PyData.shownAll]
    simp only [List.map_cons, List.map_nil, List.sum_cons, List.sum_nil, List.length_cons, List.length_nil] at z
    exact Nat.le_trans (show _ ≤ 13000 by omega) (by decide)

end
end Own

set_option Elab.async false
set_option linter.all false
set_option maxRecDepth 100000
set_option maxHeartbeats 4000000
namespace Own
open PySem L2 ClX
local macro_rules | `(tactic| walk_at "v") => `(tactic| refine ⟨_, rfl, ?_⟩)
local macro_rules | `(tactic| walk_at "ii") => `(tactic| refine ⟨_, _, rfl, rfl, ?_⟩)
local macro_rules | `(tactic| walk_at "go") => `(tactic| repeat (first | refine ⟨_, rfl, ?_⟩ | refine ⟨_, _, rfl, rfl, ?_⟩ | refine addI ?_ | refine L2.iteT ?_ | refine L2.iteF ?_))

section
variable {P : Program} {w : World} {K : PySem.W.Frag} {mg : Str → Option Value} {base : Heap} {A : Ad}
/-! ### lists of items, or any object -/
def itemO : Option Str → Bool
  | some x => isItem x
  | none => false
def spItemA (K : PySem.W.Frag) : Sp := fun vs H Q _ => ∃ (v : V) (o : Option Str), vs = [v] ∧ Ent K H v o ∧ Q (.bl (itemO o)) H
theorem ok_is_itemA (T : Txt K mg A) : Ok1 P w K mg base 1 A.f_is_item ["thing"] (spItemA K) := by
  refine T.fn_is_item.ok sc_is_item (fun _ _ _ _ _ _ us hl => match us, hl with | [_], _ => rfl) (fun vs H Q E h => ?_) (fun cdv B up s H vs Q E hr h => ?_)
  · obtain ⟨v, o, rfl, _⟩ := h
    rfl
  · obtain ⟨v, o, rfl, he, h⟩ := h
    refine ⟨_, (pss_cons (ps_if (PW.pt (pw_or (pt_not (pt_val (pe_callB call_isi (by rfl) T.no_isinstance (by decide +kernel) (pa_cons (pv 0) (pa_cons (pe_bltn (v := .ty "str") (by rfl) T.no_str (by decide +kernel) rfl) pa_nil))))) (pw_or1 (pt_cmpR op_gt (pe_callB call_len (by rfl) T.no_len (by decide +kernel) (pa_cons (pv 0) pa_nil)) (pe_globC T.mg_MOST_LETTERS) (nomark _))))) (pss_one (ps_ret pe_bl)) pss_nil)
      (pss_one (ps_ret (pe_and (pe_bm0 PySem.F.plainAttrs_str PySem.F.slot_str_isascii PySem.F.type_str_isascii mt_isascii (pv 0)) (pe_and (pe_bm0 PySem.F.plainAttrs_str PySem.F.slot_str_isalpha PySem.F.type_str_isalpha mt_isalpha (pv 0)) (pe_one (pe_bm0 PySem.F.plainAttrs_str PySem.F.slot_str_islower PySem.F.type_str_islower mt_islower (pv 0)))))))), ?_⟩
    cases he with
    | no ty hk => exact ⟨_, rfl, _, _, _, _, _, rfl, .ty _, ty, hk, _, rfl, iteT h⟩
    | str x hx =>
      refine ⟨_, rfl, _, _, _, _, _, rfl, .ty _, .base (.str _), kit_ty (r := true) (by decide +kernel), ?_⟩
      refine ⟨_, rfl, ?_⟩
      refine iteF ?_
      have h : Q (.bl (isItem x)) H := h
      refine ⟨_, rfl, _, _, rfl, ⟨szS (by omega), rfl⟩, _, _, rfl, rfl, _, rfl, ?_⟩
      unfold isItem at h
      refine ite2 (fun c => ?_) (fun c => ?_)
      · have e : decide (x.length ≤ 8) = false := decide_eq_false (by have := of_decide_eq_true c; omega)
        rw [e] at h
        exact h
      · have e : decide (x.length ≤ 8) = true := decide_eq_true (by have := of_decide_eq_false (Bool.eq_false_iff.mpr c); omega)
        rw [e, Bool.true_and] at h
        refine ⟨_, rfl, rfl, _, rfl, rfl, trivial, _, rfl, ?_⟩
        refine ite2 (fun c1 => ?_) (fun c1 => ?_)
        · rw [c1, Bool.true_and] at h
          refine ⟨_, rfl, rfl, _, rfl, rfl, trivial, _, rfl, ?_⟩
          refine ite2 (fun c2 => ?_) (fun c2 => ?_)
          · rw [c2, Bool.true_and] at h
            exact ⟨_, rfl, rfl, _, rfl, rfl, trivial, h⟩
          · rw [Bool.eq_false_iff.mpr c2] at h
            exact h
        · rw [Bool.eq_false_iff.mpr c1] at h
          exact h
/-- any object, and whether it is a list of items -/
inductive Thing (K : PySem.W.Frag) (H : Hp) : V → Bool → Prop where
  | no {v : V} {t : Value} (ty : TyX K H v t) (h : PySem.W.kitOne K t (.type "list") = some false) : Thing K H v false
  | lst {l : Addr} {vs : List V} {os : List (Option Str)} (e : H l = some (.lst vs)) (m : vs.length ≤ 4000) (z : Ents K H vs os) : Thing K H (.ref l) (decide (os.length ≤ 60) && (os.all itemO && decide (os.filterMap id).Nodup))
theorem Thing.good {H : Hp} {l : Addr} {xs : List Str} (e : H l = some (.lst (xs.map V.str))) (i : Items xs) (m : xs.length ≤ 60) : Thing K H (.ref l) true := by
  have z : Ents K H (xs.map V.str) (xs.map some) := Ents.strs xs fun x hx => Nat.le_trans (i.len hx) (by decide)
  have q := Thing.lst e (by rw [List.length_map]; omega) z
  have f : (xs.map some).filterMap id = xs := by
    rw [List.filterMap_map]
    exact List.filterMap_some
  have a : (xs.map some).all itemO = true := by
    rw [List.all_eq_true]
    intro o ho
    obtain ⟨x, hx, rfl⟩ := List.mem_map.mp ho
    exact i.it x hx
  rw [f, a, List.length_map, decide_eq_true m, decide_eq_true i.nd] at q
  exact q
def spIsItems (K : PySem.W.Frag) : Sp := fun vs H Q _ => ∃ (v : V) (b : Bool), vs = [v] ∧ Thing K H v b ∧ ∀ H', Same H H' → Q (.bl b) H'
theorem ok_is_items (T : Txt K mg A) : Ok1 P w K mg base 2 A.f_is_items ["thing"] (spIsItems K) := by
  refine T.fn_is_items.ok sc_is_items (fun _ _ _ _ _ _ us hl => match us, hl with | [_], _ => rfl) (fun vs H Q E h => ?_) (fun cdv B up s H vs Q E hr h => ?_)
  · obtain ⟨v, b, rfl, _⟩ := h
    rfl
  · obtain ⟨v, b, rfl, he, h⟩ := h
    refine ⟨_, (pss_cons (ps_if (PW.pt (pw_or (pt_not (pt_val (pe_callB call_isi (by rfl) T.no_isinstance (by decide +kernel) (pa_cons (pv 0) (pa_cons (pe_bltn (v := .ty "list") (by rfl) T.no_list (by decide +kernel) rfl) pa_nil))))) (pw_or1 (pt_cmpR op_gt (pe_callB call_len (by rfl) T.no_len (by decide +kernel) (pa_cons (pv 0) pa_nil)) (pe_globC T.mg_MOST_ITEMS) (nomark _))))) (pss_one (ps_ret pe_bl)) pss_nil)
      (pss_one (ps_ret (pe_and (pe_callB (cr_all rfl) (by rfl) T.no_all (by decide +kernel) (pa_cons (pe_lcD (own := [("entry", 1)]) rfl sc_is_items.nd (pi_list (pv 0)) (blkOk_by (N := N_is_items) (sc := defScope s_is_items) (by decide +kernel)) (fun _ _ _ _ _ => pg_name (i := 1) sc_is_items.nd rfl (Or.inl rfl)) (fun _ _ _ _ _ => pts_nil) (fun _ _ _ _ _ => (po_call (ok_is_itemA T) (hr.mono (by decide)) T.mg_is_item (pa_cons (pv 1) pa_nil)))) pa_nil)) (pe_one (pe_cmpR (op_eqX hr) (pe_lenSetS T.no_len T.no_set (pv 0)) (pe_callB call_len (by rfl) T.no_len (by decide +kernel) (pa_cons (pv 0) pa_nil)) (nomark _))))))), ?_⟩
    cases he with
    | no ty hk => exact ⟨_, rfl, _, _, _, _, _, rfl, .ty _, ty, hk, _, rfl, iteT (h H (fun _ _ e => e))⟩
    | @lst l vs os e m z =>
      have ll := z.len
      refine ⟨_, rfl, _, _, _, _, _, rfl, .ty _, .base (.lst e), kit_ty (r := true) (by decide +kernel), ?_⟩
      refine ⟨_, rfl, ?_⟩
      refine iteF ?_
      refine ⟨_, rfl, _, _, rfl, .inl ⟨_, SqL.of e, rfl⟩, _, _, rfl, rfl, _, rfl, ?_⟩
      refine ite2 (fun c => ?_) (fun c => ?_)
      · have c' := of_decide_eq_true c
        rw [decide_eq_false (show ¬ os.length ≤ 60 by omega)] at h
        exact h H (fun _ _ e => e)
      · have c' := of_decide_eq_false (Bool.eq_false_iff.mpr c)
        rw [decide_eq_true (show os.length ≤ 60 by omega), Bool.true_and] at h
        refine ⟨_, rfl, l, rfl, ⟨_, SqL.of e⟩, fun D nD => ?_⟩
        refine lc_list (K := K) (a := l) (xs := vs) (fun i H' => Same H H' ∧ H' D = some (.lst (((os.take i).map itemO).map V.bl))) ?_ ?_ ?_ ?_
        · exact ⟨Same.new nD, upd_same⟩
        · rintro i H1 _ ⟨s1, _⟩
          exact SqL.of (s1 _ _ e)
        · rintro i x H1 hx ⟨s1, h1⟩
          obtain ⟨o, ho, en⟩ := z.get hx
          refine ⟨rfl, _, rfl, _, o, rfl, en.same s1, _, h1, ?_, ?_, ?_⟩
          · rw [List.length_map, List.length_map, List.length_take]
            exact Nat.lt_of_le_of_lt (Nat.min_le_left _ _) (Nat.lt_of_lt_of_le (show i < 4001 by have := (List.getElem?_eq_some_iff.mp ho).1; omega) (by decide))
          · intro b o hb
            rw [upd_ne (ne_of_none hb nD)]
            exact s1 _ _ hb
          · have hi : i < os.length := (List.getElem?_eq_some_iff.mp ho).1
            have e9 : os.take (i + 1) = os.take i ++ [o] := by
              rw [List.take_add_one, ho]
              rfl
            rw [upd_same, e9, List.map_append, List.map_append]
            rfl
        · rintro H1 ⟨s1, h1⟩
          rw [ll, List.take_length] at h1
          have eA : (os.map itemO).all id = os.all itemO := by rw [List.all_map]; rfl
          refine ⟨D, _, rfl, SqL.of h1, ?_⟩
          rw [eA]
          refine ⟨_, rfl, ?_⟩
          refine ite2 (fun c2 => ?_) (fun c2 => ?_)
          · have c2 : os.all itemO = true := c2
            obtain ⟨z1, z2, z3⟩ := z.all itemO rfl c2
            have sq : SqL K H1 l ((os.filterMap id).map V.str) := z1 ▸ SqL.of (s1 _ _ e)
            have l2 : vs.length = (os.filterMap id).length := by
              rw [z1, List.length_map]
            refine ⟨_, rfl, l, os.filterMap id, rfl, sq, by omega, _, rfl, _, _, rfl, .inl ⟨_, sq, rfl⟩, eqS rfl ?_⟩
            have dd : decide (V.int ((OwnSet.met (os.filterMap id) (os.filterMap id).length).length : Nat) = V.int (((os.filterMap id).map V.str).length : Nat)) = decide (os.filterMap id).Nodup := by
              rw [← OwnSet.met_all, List.length_map]
              exact decide_eq_decide.mpr ⟨fun z => Int.ofNat.inj (V.int.inj z), fun z => by rw [z]⟩
            rw [dd]
            have h9 := h H1 s1
            rw [c2, Bool.true_and] at h9
            exact h9
          · have c2 : os.all itemO = false := Bool.eq_false_iff.mpr c2
            have h9 := h H1 s1
            rw [c2] at h9
            exact h9
def spCheck (K : PySem.W.Frag) (A : Ad) : Sp := fun vs H Q E => ∃ (v : V) (b : Bool), vs = [v] ∧ Thing K H v b ∧ ∀ H', Same H H' → (b = true → Q .non H') ∧ (b = false → E (.ref A.c_NoList) none H')
theorem ok_check_items (T : Txt K mg A) : OkX P w K mg base 3 A.f_check_items ["items"] (spCheck K A) := by
  refine T.fn_check_items.okX sc_check_items (fun _ _ _ _ _ _ us hl => match us, hl with | [_], _ => rfl) (fun vs H Q E h => ?_) (fun cdv B up s H vs Q E hr h => ?_)
  · obtain ⟨v, b, rfl, _⟩ := h
    rfl
  · obtain ⟨v, b, rfl, he, h⟩ := h
    refine ⟨_, (pss_one (ps_if (pt_not (pt_val (po_call (ok_is_items T) (hr.mono (by decide)) T.mg_is_items (pa_cons (pv 0) pa_nil)))) (pss_one (ps_raise rfl (takes_of rfl rfl rfl rfl) (pmk_own PySem.F.excBase_ValueError T.er_NoList.xP T.mg_NoList T.er_NoList.kp (raises_own T.er_NoList.bP T.er_NoList.tP) rfl))) pss_nil)), ?_⟩
    refine ⟨_, rfl, v, b, rfl, he, fun H' s' => ⟨_, rfl, ?_⟩⟩
    obtain ⟨h1, h2⟩ := h H' s'
    cases b with
    | true => exact iteF (h1 rfl)
    | false =>
      refine iteT ?_
      exact h2 rfl

end
end Own

set_option Elab.async false
set_option linter.all false
set_option maxRecDepth 100000
set_option maxHeartbeats 4000000
namespace Own
open PySem L2 ClX
local macro_rules | `(tactic| walk_at "v") => `(tactic| refine ⟨_, rfl, ?_⟩)
local macro_rules | `(tactic| walk_at "ii") => `(tactic| refine ⟨_, _, rfl, rfl, ?_⟩)
local macro_rules | `(tactic| walk_at "go") => `(tactic| repeat (first | refine ⟨_, rfl, ?_⟩ | refine ⟨_, _, rfl, rfl, ?_⟩ | refine addI ?_ | refine L2.iteT ?_ | refine L2.iteF ?_))

section
variable {P : Program} {w : World} {K : PySem.W.Frag} {mg : Str → Option Value} {base : Heap} {A : Ad}
/-! ### records, or any object; one after another -/
def signW (way : Int) : Str := if way = 0 then "+" else if way = 1 then "-" else if way = 2 then "^" else ""
structure Kd (K : PySem.W.Frag) (A : Ad) (way : Int) : Prop where
  rc : RC K (cw A way)
  ty : InsT K (cw A way)
  kr : PySem.W.kitOne K (.ref (cw A way)) (.ref A.c_Record) = some true
  sg : ∃ u, Con K (cw A way) "SIGN" (.str (signW way)) u
theorem kd_of (T : Txt K mg A) {way : Int} (h0 : 0 ≤ way) (h1 : way ≤ 3) : Kd K A way := by
  rcases way4 h0 h1 with rfl | rfl | rfl | rfl
  · exact ⟨rc_Inserted T, T.ty_Inserted, T.kit_Inserted_Record, T.iv_Inserted_SIGN⟩
  · exact ⟨rc_Removed T, T.ty_Removed, T.kit_Removed_Record, T.iv_Removed_SIGN⟩
  · exact ⟨rc_Fronted T, T.ty_Fronted, T.kit_Fronted_Record, T.iv_Fronted_SIGN⟩
  · exact ⟨rc_Record T, T.ty_Record, T.kit_Record_Record, T.iv_Record_SIGN⟩
/-- an object, and whether it is a record of a kind -/
inductive Rw (K : PySem.W.Frag) (A : Ad) (H : Hp) : V → Bool → Prop where
  | row {p dx : Addr} {way : Int} {x : Str} {n : Nat} (e : H p = some (.ins (cw A way) dx (rfs x n))) (h0 : 0 ≤ way) (h1 : way ≤ 3) : Rw K A H (.ref p) (decide (way < 3))
  | no {v : V} {t : Value} (ty : TyX K H v t) (h : PySem.W.kitOne K t (.ref A.c_Record) = some false) : Rw K A H v false
theorem Rw.same {H H' : Hp} {v : V} {b : Bool} (h : Rw K A H v b) (s : Same H H') : Rw K A H' v b := by
  cases h with
  | row e h0 h1 => exact .row (s _ _ e) h0 h1
  | no ty h => exact .no (ty.same s) h
def spKind (K : PySem.W.Frag) (A : Ad) : Sp := fun vs H Q _ => ∃ (v : V) (b : Bool), vs = [v] ∧ Rw K A H v b ∧ Q (.bl b) H
theorem no_sign (x : Str) (n : Int) : (rfs x n).lookup ("SIGN" : Str) = none := rfs_no _ _ (by decide +kernel) (by decide +kernel)
theorem ok_has_kind (T : Txt K mg A) : Ok1 P w K mg base 1 A.f_has_kind ["thing"] (spKind K A) := by
  refine T.fn_has_kind.ok sc_has_kind (fun _ _ _ _ _ _ us hl => match us, hl with | [_], _ => rfl) (fun vs H Q E h => ?_) (fun cdv B up s H vs Q E hr h => ?_)
  · obtain ⟨v, b, rfl, _⟩ := h
    rfl
  · obtain ⟨v, b, rfl, hv, h⟩ := h
    refine ⟨_, (pss_one (ps_ret (pe_and (pe_callB call_isi (by rfl) T.no_isinstance (by decide +kernel) (pa_cons (pv 0) (pa_cons (pe_glob (v := .ref A.c_Record) rfl T.mg_Record rfl) pa_nil))) (pe_one (pe_cmpR (op_neX hr) (pe_con (pv 0) rfl) (pe_clsv T.cv_Record_SIGN (pe_glob (v := .ref A.c_Record) rfl T.mg_Record rfl)) (nomark _)))))), ?_⟩
    cases hv with
    | no ty hk => exact ⟨_, rfl, _, _, _, _, _, rfl, .own _, ty, hk, _, rfl, iteF h⟩
    | @row p dx way x n e h0 h1 =>
      have k := kd_of T h0 h1
      obtain ⟨u, cn⟩ := k.sg
      refine ⟨_, rfl, _, _, _, _, _, rfl, .own _, .base (.ins e k.rc.cl k.ty.ha k.ty.hn k.ty.ht k.ty.hm), k.kr, _, rfl, iteT ?_⟩
      refine ⟨_, rfl, p, _, dx, _, _, _, rfl, e, k.rc.cl, cn, no_sign _ _, neS rfl ?_⟩
      have z : (!decide (V.str (signW way) = V.str "")) = decide (way < 3) := by
        rcases way4 h0 h1 with rfl | rfl | rfl | rfl
        · decide +kernel
        · decide +kernel
        · decide +kernel
        · decide +kernel
      rw [z]
      exact h

inductive Rws (K : PySem.W.Frag) (A : Ad) (H : Hp) : List V → List Bool → Prop where
  | nil : Rws K A H [] []
  | cons {v : V} {b : Bool} {vs : List V} {bs : List Bool} (h : Rw K A H v b) (t : Rws K A H vs bs) : Rws K A H (v :: vs) (b :: bs)
theorem Rws.same {H H' : Hp} {vs : List V} {bs : List Bool} (h : Rws K A H vs bs) (s : Same H H') : Rws K A H' vs bs := by
  induction h with
  | nil => exact .nil
  | cons a _ ih => exact .cons (a.same s) ih
theorem Rws.len {H : Hp} {vs : List V} {bs : List Bool} (h : Rws K A H vs bs) : vs.length = bs.length := by
  induction h with
  | nil => rfl
  | cons _ _ ih => rw [List.length_cons, List.length_cons, ih]
theorem Rws.get {H : Hp} {vs : List V} {bs : List Bool} (h : Rws K A H vs bs) : ∀ {i : Nat} {v : V}, vs[i]? = some v → ∃ b, bs[i]? = some b ∧ Rw K A H v b := by
  induction h with
  | nil => intro i v e; cases e
  | cons a _ ih =>
    intro i v e
    cases i with
    | zero => cases e; exact ⟨_, rfl, a⟩
    | succ i => exact ih e
theorem Rws.app {H : Hp} {vs ws : List V} {bs cs : List Bool} (h : Rws K A H vs bs) (g : Rws K A H ws cs) : Rws K A H (vs ++ ws) (bs ++ cs) := by
  induction h with
  | nil => exact g
  | cons a _ ih => exact .cons a ih
/-- any object, and whether it is a list of at most so many records of the kinds -/
inductive ThingR (K : PySem.W.Frag) (A : Ad) (H : Hp) (most : Nat) : V → Bool → Prop where
  | no {v : V} {t : Value} (ty : TyX K H v t) (h : PySem.W.kitOne K t (.type "list") = some false) : ThingR K A H most v false
  | lst {l : Addr} {vs : List V} {bs : List Bool} (e : H l = some (.lst vs)) (m : vs.length ≤ 4000) (z : Rws K A H vs bs) : ThingR K A H most (.ref l) (decide (bs.length ≤ most) && bs.all id)
def spAreRec (K : PySem.W.Frag) (A : Ad) : Sp := fun vs H Q _ => ∃ (v : V) (most : Nat) (b : Bool), vs = [v, .int most] ∧ ThingR K A H most v b ∧ ∀ H', Same H H' → Q (.bl b) H'
theorem ok_are_records (T : Txt K mg A) : Ok1 P w K mg base 2 A.f_are_records ["thing", "most"] (spAreRec K A) := by
  refine T.fn_are_records.ok sc_are_records (fun _ _ _ _ _ _ us hl => match us, hl with | [_, _], _ => rfl) (fun vs H Q E h => ?_) (fun cdv B up s H vs Q E hr h => ?_)
  · obtain ⟨v, most, b, rfl, _⟩ := h
    rfl
  · obtain ⟨v, most, b, rfl, he, h⟩ := h
    refine ⟨_, (pss_cons (ps_if (PW.pt (pw_or (pt_not (pt_val (pe_callB call_isi (by rfl) T.no_isinstance (by decide +kernel) (pa_cons (pv 0) (pa_cons (pe_bltn (v := .ty "list") (by rfl) T.no_list (by decide +kernel) rfl) pa_nil))))) (pw_or1 (pt_cmpR op_gt (pe_callB call_len (by rfl) T.no_len (by decide +kernel) (pa_cons (pv 0) pa_nil)) (pv 1) (nomark _))))) (pss_one (ps_ret pe_bl)) pss_nil)
      (pss_one (ps_ret (pe_callB (cr_all rfl) (by rfl) T.no_all (by decide +kernel) (pa_cons (pe_lcD (own := [("entry", 2)]) rfl sc_are_records.nd (pi_list (pv 0)) (blkOk_by (N := N_are_records) (sc := defScope s_are_records) (by decide +kernel)) (fun _ _ _ _ _ => pg_name (i := 2) sc_are_records.nd rfl (Or.inl rfl)) (fun _ _ _ _ _ => pts_nil) (fun _ _ _ _ _ => (po_call (ok_has_kind T) (hr.mono (by decide)) T.mg_has_kind (pa_cons (pv 2) pa_nil)))) pa_nil))))), ?_⟩
    cases he with
    | no ty hk => exact ⟨_, rfl, _, _, _, _, _, rfl, .ty _, ty, hk, _, rfl, iteT (h H (fun _ _ e => e))⟩
    | @lst l vs bs e m z =>
      have ll := z.len
      refine ⟨_, rfl, _, _, _, _, _, rfl, .ty _, .base (.lst e), kit_ty (r := true) (by decide +kernel), ?_⟩
      refine ⟨_, rfl, ?_⟩
      refine iteF ?_
      refine ⟨_, rfl, _, _, rfl, .inl ⟨_, SqL.of e, rfl⟩, _, rfl, _, _, rfl, rfl, _, rfl, ?_⟩
      refine ite2 (fun c => ?_) (fun c => ?_)
      · have c' := of_decide_eq_true c
        rw [decide_eq_false (show ¬ bs.length ≤ most by omega)] at h
        exact h H (fun _ _ e => e)
      · have c' := of_decide_eq_false (Bool.eq_false_iff.mpr c)
        rw [decide_eq_true (show bs.length ≤ most by omega), Bool.true_and] at h
        refine ⟨_, rfl, l, rfl, ⟨_, SqL.of e⟩, fun D nD => ?_⟩
        refine lc_list (K := K) (a := l) (xs := vs) (fun i H' => Same H H' ∧ H' D = some (.lst ((bs.take i).map V.bl))) ?_ ?_ ?_ ?_
        · exact ⟨Same.new nD, upd_same⟩
        · rintro i H1 _ ⟨s1, _⟩
          exact SqL.of (s1 _ _ e)
        · rintro i x H1 hx ⟨s1, h1⟩
          obtain ⟨b, hb, en⟩ := z.get hx
          refine ⟨rfl, _, rfl, _, b, rfl, en.same s1, _, h1, ?_, ?_, ?_⟩
          · rw [List.length_map, List.length_take]
            exact Nat.lt_of_le_of_lt (Nat.min_le_left _ _) (Nat.lt_of_lt_of_le (show i < 4001 by have := (List.getElem?_eq_some_iff.mp hb).1; omega) (by decide))
          · intro c o ho
            rw [upd_ne (ne_of_none ho nD)]
            exact s1 _ _ ho
          · have e9 : bs.take (i + 1) = bs.take i ++ [b] := by
              rw [List.take_add_one, hb]
              rfl
            rw [upd_same, e9, List.map_append]
            rfl
        · rintro H1 ⟨s1, h1⟩
          rw [ll, List.take_length] at h1
          exact ⟨D, bs, rfl, SqL.of h1, h H1 s1⟩

/-- the records of the parts -/
inductive Rows (A : Ad) (H : Hp) : List V → List (Int × Str × Nat) → Prop where
  | nil : Rows A H [] []
  | cons {p dx : Addr} {way : Int} {x : Str} {n : Nat} {vs : List V} {ps : List (Int × Str × Nat)} (e : H p = some (.ins (cw A way) dx (rfs x n))) (h0 : 0 ≤ way) (h1 : way < 3) (hx : isItem x = true) (t : Rows A H vs ps) : Rows A H (.ref p :: vs) ((way, x, n) :: ps)
theorem Rows.same {H H' : Hp} {vs : List V} {ps : List (Int × Str × Nat)} (h : Rows A H vs ps) (s : Same H H') : Rows A H' vs ps := by
  induction h with
  | nil => exact .nil
  | cons e h0 h1 hx _ ih => exact .cons (s _ _ e) h0 h1 hx ih
theorem Rows.len {H : Hp} {vs : List V} {ps : List (Int × Str × Nat)} (h : Rows A H vs ps) : vs.length = ps.length := by
  induction h with
  | nil => rfl
  | cons _ _ _ _ _ ih => rw [List.length_cons, List.length_cons, ih]
theorem Rows.get {H : Hp} {vs : List V} {ps : List (Int × Str × Nat)} (h : Rows A H vs ps) : ∀ {i : Nat} {v : V}, vs[i]? = some v → ∃ p dx way x n, v = .ref p ∧ ps[i]? = some (way, x, n) ∧ H p = some (.ins (cw A way) dx (rfs x n)) ∧ 0 ≤ way ∧ way < 3 ∧ isItem x = true := by
  induction h with
  | nil => intro i v e; cases e
  | cons e h0 h1 hx _ ih =>
    intro i v ev
    cases i with
    | zero => cases ev; exact ⟨_, _, _, _, _, rfl, rfl, e, h0, h1, hx⟩
    | succ i => exact ih ev
theorem Rows.rws {H : Hp} {vs : List V} {ps : List (Int × Str × Nat)} (h : Rows A H vs ps) : Rws K A H vs (ps.map fun _ => true) := by
  induction h with
  | nil => exact .nil
  | cons e h0 h1 hx _ ih =>
    have r := Rw.row (K := K) e h0 (by omega)
    rw [decide_eq_true h1] at r
    exact .cons r ih
theorem Rows.thing {H : Hp} {l : Addr} {vs : List V} {ps : List (Int × Str × Nat)} (e : H l = some (.lst vs)) (h : Rows A H vs ps) (m : ps.length ≤ 80) : ThingR K A H 80 (.ref l) true := by
  have q := ThingR.lst (most := 80) e (by rw [h.len]; omega) (h.rws (K := K))
  have a : (ps.map fun _ => true).all id = true := by simp
  rw [a, List.length_map, decide_eq_true m] at q
  exact q

/-! ### logs, or any object -/
theorem met_nodup (xs : List Str) : ∀ i, (OwnSet.met xs i).Nodup
  | 0 => List.nodup_nil
  | i + 1 => by
    have ih := met_nodup xs i
    show (OwnSet.putM (OwnSet.met xs i) (xs.getD i Str.empty)).Nodup
    unfold OwnSet.putM
    split
    · exact ih
    · rename_i c
      refine List.nodup_append.mpr ⟨ih, by simp, fun a ha b hb e => c ?_⟩
      rw [List.mem_singleton] at hb
      exact List.any_eq_true.mpr ⟨a, ha, by rw [e, hb]; exact beq_self_eq_true _⟩
theorem met_one (xs : List Str) : (OwnSet.met xs xs.length).length ≤ 1 ↔ ∀ a ∈ xs, ∀ b ∈ xs, a = b := by
  have mem : ∀ y, y ∈ OwnSet.met xs xs.length ↔ y ∈ xs := fun y => by
    rw [OwnSet.met_mem xs xs.length (Nat.le_refl _) y, List.take_length]
  have nd := met_nodup xs xs.length
  generalize OwnSet.met xs xs.length = ms at mem nd
  constructor
  · intro l a ha b hb
    have ha := (mem a).mpr ha
    have hb := (mem b).mpr hb
    match ms, l, ha, hb with
    | [], _, ha, _ => cases ha
    | [m], _, ha, hb =>
      rw [List.mem_singleton] at ha hb
      rw [ha, hb]
    | _ :: _ :: _, l, _, _ => simp at l
  · intro h
    match ms, nd, mem with
    | [], _, _ => exact Nat.zero_le _
    | [_], _, _ => exact Nat.le_refl _
    | m :: m2 :: ms, nd, mem =>
      have e := h m ((mem m).mp (by simp)) m2 ((mem m2).mp (by simp))
      rw [e] at nd
      exact absurd List.mem_cons_self (List.nodup_cons.mp nd).1
def spItem (A : Ad) : Sp := fun vs H Q _ => ∃ (p dx : Addr) (way : Int) (x : Str) (n : Int), vs = [.ref p] ∧ H p = some (.ins (cw A way) dx (rfs x n)) ∧ 0 ≤ way ∧ way ≤ 3 ∧ Q (.str x) H
theorem ok_Record_item (T : Txt K mg A) : Ok1 P w K mg base 1 A.m_Record_item ["self"] (spItem A) := by
  refine T.fn_Record_item.ok sc_Record_item (fun _ _ _ _ _ _ us hl => match us, hl with | [_], _ => rfl) (fun vs H Q E h => ?_) (fun cdv B up s H vs Q E hr h => ?_)
  · obtain ⟨p, dx, way, x, n, rfl, _⟩ := h
    rfl
  · obtain ⟨p, dx, way, x, n, rfl, hp, w0, w1, h⟩ := h
    have k := kd_of T w0 w1
    refine ⟨_, (pss_one (ps_ret (pe_fld (pv 0) rfl))), ?_⟩
    exact ⟨_, rfl, p, _, dx, _, _, rfl, hp, k.rc.cl, k.rc.nI, rfs_item _ _, h⟩
/-- an entry: a record, or something else -/
inductive Ety (K : PySem.W.Frag) (A : Ad) (H : Hp) : V → Option (Int × Str × Nat) → Prop where
  | row {p dx : Addr} {way : Int} {x : Str} {n : Nat} (e : H p = some (.ins (cw A way) dx (rfs x n))) (h0 : 0 ≤ way) (h1 : way ≤ 3) (hx : isItem x = true) (hn : n ≤ 60) : Ety K A H (.ref p) (some (way, x, n))
  | no {v : V} {t : Value} (ty : TyX K H v t) (hR : PySem.W.kitOne K t (.ref A.c_Record) = some false) (h1 : PySem.W.kitOne K t (.ref A.c_Inserted) = some false) (h2 : PySem.W.kitOne K t (.ref A.c_Removed) = some false) (h3 : PySem.W.kitOne K t (.ref A.c_Fronted) = some false) : Ety K A H v none
inductive Etys (K : PySem.W.Frag) (A : Ad) (H : Hp) : List V → List (Option (Int × Str × Nat)) → Prop where
  | nil : Etys K A H [] []
  | cons {v : V} {o : Option (Int × Str × Nat)} {vs : List V} {os : List (Option (Int × Str × Nat))} (h : Ety K A H v o) (t : Etys K A H vs os) : Etys K A H (v :: vs) (o :: os)
theorem Ety.same {H H' : Hp} {v : V} {o : Option (Int × Str × Nat)} (h : Ety K A H v o) (s : Same H H') : Ety K A H' v o := by
  cases h with
  | row e h0 h1 hx hn => exact .row (s _ _ e) h0 h1 hx hn
  | no ty a b c d => exact .no (ty.same s) a b c d
theorem Etys.same {H H' : Hp} {vs : List V} {os : List (Option (Int × Str × Nat))} (h : Etys K A H vs os) (s : Same H H') : Etys K A H' vs os := by
  induction h with
  | nil => exact .nil
  | cons a _ ih => exact .cons (a.same s) ih
theorem Etys.len {H : Hp} {vs : List V} {os : List (Option (Int × Str × Nat))} (h : Etys K A H vs os) : vs.length = os.length := by
  induction h with
  | nil => rfl
  | cons _ _ ih => rw [List.length_cons, List.length_cons, ih]
theorem Etys.get {H : Hp} {vs : List V} {os : List (Option (Int × Str × Nat))} (h : Etys K A H vs os) : ∀ {i : Nat} {v : V}, vs[i]? = some v → ∃ o, os[i]? = some o ∧ Ety K A H v o := by
  induction h with
  | nil => intro i v e; cases e
  | cons a _ ih =>
    intro i v e
    cases i with
    | zero => cases e; exact ⟨_, rfl, a⟩
    | succ i => exact ih e
theorem Etys.app {H : Hp} {vs ws : List V} {os us : List (Option (Int × Str × Nat))} (h : Etys K A H vs os) (g : Etys K A H ws us) : Etys K A H (vs ++ ws) (os ++ us) := by
  induction h with
  | nil => exact g
  | cons a _ ih => exact .cons a ih
def kindO : Option (Int × Str × Nat) → Bool
  | some q => decide (q.1 < 3)
  | none => false
theorem Etys.rws {H : Hp} {vs : List V} {os : List (Option (Int × Str × Nat))} (h : Etys K A H vs os) : Rws K A H vs (os.map kindO) := by
  induction h with
  | nil => exact .nil
  | cons a _ ih =>
    cases a with
    | row e h0 h1 hx hn => exact .cons (.row e h0 h1) ih
    | no ty hR _ _ _ => exact .cons (.no ty hR) ih
theorem Etys.rows {H : Hp} {vs : List V} {os : List (Option (Int × Str × Nat))} (h : Etys K A H vs os) (a : os.all kindO = true) : Rows A H vs (os.filterMap id) ∧ os.length = (os.filterMap id).length ∧ ∀ q ∈ os.filterMap id, q.2.2 ≤ 60 := by
  induction h with
  | nil => exact ⟨.nil, rfl, fun q hq => by cases hq⟩
  | cons e _ ih =>
    rw [List.all_cons, Bool.and_eq_true] at a
    obtain ⟨i1, i2, i3⟩ := ih a.2
    cases e with
    | row e h0 h1 hx hn =>
      refine ⟨.cons e h0 (of_decide_eq_true a.1) hx i1, congrArg (· + 1) i2, fun q hq => ?_⟩
      rcases List.mem_cons.mp hq with rfl | hq
      · exact hn
      · exact i3 q hq
    | no _ _ _ _ _ => exact absurd a.1 (by decide)
def signs (qs : List (Int × Str × Nat)) : List Str := qs.map fun q => signW q.1
def names (qs : List (Int × Str × Nat)) : List Str := qs.map fun q => q.2.1
/-- whether these entries are a log -/
def isLogB (os : List (Option (Int × Str × Nat))) : Bool := decide (os.length ≤ 40) && (os.all kindO && (decide (∀ a ∈ signs (os.filterMap id), ∀ b ∈ signs (os.filterMap id), a = b) && decide (names (os.filterMap id)).Nodup))
/-- any object, and its entries, if it is a list -/
inductive Case (K : PySem.W.Frag) (A : Ad) (H : Hp) : V → Option (List (Option (Int × Str × Nat))) → Prop where
  | no {v : V} {t : Value} (ty : TyX K H v t) (h : PySem.W.kitOne K t (.type "list") = some false) : Case K A H v none
  | lst {l : Addr} {vs : List V} {os : List (Option (Int × Str × Nat))} (e : H l = some (.lst vs)) (m : vs.length ≤ 4000) (z : Etys K A H vs os) : Case K A H (.ref l) (some os)
theorem Case.same {H H' : Hp} {v : V} {c : Option (List (Option (Int × Str × Nat)))} (h : Case K A H v c) (s : Same H H') : Case K A H' v c := by
  cases h with
  | no ty h => exact .no (ty.same s) h
  | lst e m z => exact .lst (s _ _ e) m (z.same s)
def logB : Option (List (Option (Int × Str × Nat))) → Bool
  | some os => isLogB os
  | none => false
theorem signs_at {qs : List (Int × Str × Nat)} {i : Nat} {q : Int × Str × Nat} (h : qs[i]? = some q) : (signs qs).getD i Str.empty = signW q.1 := by
  unfold signs
  rw [List.getD_eq_getElem?_getD, List.getElem?_map, h]
  rfl
theorem names_at {qs : List (Int × Str × Nat)} {i : Nat} {q : Int × Str × Nat} (h : qs[i]? = some q) : (names qs).getD i Str.empty = q.2.1 := by
  unfold names
  rw [List.getD_eq_getElem?_getD, List.getElem?_map, h]
  rfl
def spLog (K : PySem.W.Frag) (A : Ad) : Sp := fun vs H Q _ => ∃ (v : V) (c : Option (List (Option (Int × Str × Nat)))), vs = [v] ∧ Case K A H v c ∧ ∀ H', Same H H' → Q (.bl (logB c)) H'
theorem len_is_log : ∀ vs H Q E, spLog K A vs H Q E → vs.length = 1 := fun vs H Q E h => by
  obtain ⟨v, c, rfl, _⟩ := h
  rfl
theorem prop_item (T : Txt K mg A) {way : Int} (h0 : 0 ≤ way) (h1 : way ≤ 3) : PropOf K (cw A way) "item" A.p_Record_item A.m_Record_item := by
  rcases way4 h0 h1 with rfl | rfl | rfl | rfl
  · exact T.pr_Inserted_item
  · exact T.pr_Removed_item
  · exact T.pr_Fronted_item
  · exact T.pr_Record_item
theorem body_is_log (T : Txt K mg A) : BodyX P w K mg base N_is_log "is_log" s_is_log A.f_is_log 3 (spLog K A) := by
  intro cdv B up s H vs Q E hr h
  obtain ⟨v, c, rfl, hc, h⟩ := h
  refine ⟨_, (pss_cons (ps_if (pt_not (pt_val (po_call (ok_are_records T) (hr.mono (by decide)) T.mg_are_records (pa_cons (pv 0) (pa_cons (pe_globC T.mg_MOST_IN_LOG) pa_nil))))) (pss_one (ps_ret pe_bl)) pss_nil)
      (pss_cons (ps_if (pt_cmpR op_gt (pe_callB OwnSet.call_lenTx (by rfl) T.no_len (by decide +kernel) (pa_cons (OwnSet.pe_sxD (own := [("record", 1)]) rfl sc_is_log.nd (pi_list (pv 0)) (blkOk_by (N := N_is_log) (sc := defScope s_is_log) (by decide +kernel)) (fun _ _ _ _ _ => pg_name (i := 1) sc_is_log.nd rfl (Or.inl rfl)) (fun _ _ _ _ _ => pts_nil) (fun _ _ _ _ _ => (pe_con (pv 1) rfl))) pa_nil)) pe_int (nomark _)) (pss_one (ps_ret pe_bl)) pss_nil)
      (pss_one (ps_ret (pe_cmpR (op_eqX hr) (pe_callB OwnSet.call_lenTx (by rfl) T.no_len (by decide +kernel) (pa_cons (OwnSet.pe_sxD (own := [("record", 1)]) rfl sc_is_log.nd (pi_list (pv 0)) (blkOk_by (N := N_is_log) (sc := defScope s_is_log) (by decide +kernel)) (fun _ _ _ _ _ => pg_name (i := 1) sc_is_log.nd rfl (Or.inl rfl)) (fun _ _ _ _ _ => pts_nil) (fun _ _ _ _ _ => (po_propD (p := A.p_Record_item) (ok_Record_item T) (hr.mono (by decide)) (pv 1)))) pa_nil)) (pe_callB call_len (by rfl) T.no_len (by decide +kernel) (pa_cons (pv 0) pa_nil)) (nomark _)))))), ?_⟩
  cases hc with
  | no ty hk => exact ⟨_, rfl, v, 40, false, rfl, .no ty hk, fun H' s' => ⟨_, rfl, iteT (h H' s')⟩⟩
  | @lst l vs os e m z =>
    have lz := z.len
    refine ⟨_, rfl, .ref l, 40, _, rfl, .lst e m z.rws, fun H1 s1 => ⟨_, rfl, ?_⟩⟩
    rw [List.length_map, List.all_map]
    have e1 : (os.all (id ∘ kindO)) = os.all kindO := rfl
    rw [e1]
    by_cases a : (decide (os.length ≤ 40) && os.all kindO) = true
    · rw [a]
      rw [Bool.and_eq_true] at a
      have l40 := of_decide_eq_true a.1
      obtain ⟨rows, lr, bound⟩ := z.rows a.2
      have h : ∀ H', Same H H' → Q (.bl (decide (∀ a ∈ signs (os.filterMap id), ∀ b ∈ signs (os.filterMap id), a = b) && decide (names (os.filterMap id)).Nodup)) H' := fun H' s' => by
        have z := h H' s'
        unfold logB isLogB at z
        dsimp only at z
        rw [a.1, a.2, Bool.true_and, Bool.true_and] at z
        exact z
      generalize os.filterMap id = qs at rows lr bound h
      have lq := rows.len
      refine iteF ⟨_, rfl, l, rfl, ⟨_, SqL.of (s1 _ _ e)⟩, fun D nD => ?_⟩
      refine OwnSet.sx_list (K := K) (P := P) (w := w) (a := l) (xs := vs) (fun i H' => Same H1 H' ∧ H' D = some (OwnSet.TxS P w D (OwnSet.met (signs qs) i))) ?_ ?_ ?_ ?_
      · exact ⟨Same.new nD, upd_same⟩
      · rintro i H2 _ ⟨s2, _⟩
        exact SqL.of (s2 _ _ (s1 _ _ e))
      · rintro i y H2 hy ⟨s2, h2⟩
        obtain ⟨p, dx, way, x, n, rfl, hq, he, w0, w1, hx⟩ := rows.get hy
        have k := kd_of T w0 (by omega)
        obtain ⟨u, cn⟩ := k.sg
        have le := OwnSet.met_le (signs qs) i
        have hi := (List.getElem?_eq_some_iff.mp hq).1
        refine ⟨rfl, _, rfl, p, _, dx, _, _, _, rfl, s2 _ _ (s1 _ _ he), k.rc.cl, cn, no_sign _ _, _, _, rfl, h2, Nat.lt_of_le_of_lt (Nat.add_le_add_right le 1) (Nat.lt_of_lt_of_le (show i + 1 < 100 by omega) (by decide)), ?_, ?_⟩
        · intro c o eo
          rw [upd_ne (ne_of_none eo nD)]
          exact s2 _ _ eo
        · rw [upd_same]
          show _ = some (OwnSet.TxS P w D (OwnSet.putM (OwnSet.met (signs qs) i) ((signs qs).getD i Str.empty)))
          rw [signs_at hq]
      · rintro H2 ⟨s2, h2⟩
        have ls : vs.length = (signs qs).length := by
          unfold signs
          rw [List.length_map, lq]
        rw [ls] at h2
        have le := OwnSet.met_le (signs qs) (signs qs).length
        have sm : (OwnSet.met (signs qs) (signs qs).length).length < scanBound := Nat.lt_of_le_of_lt le (Nat.lt_of_lt_of_le (show _ < 100 by omega) (by decide))
        have one := met_one (signs qs)
        refine ⟨D, _, rfl, h2, sm, _, _, rfl, rfl, _, rfl, ite2 (fun c => ?_) (fun c => ?_)⟩
        · have c' := of_decide_eq_true c
          have no : ¬ ∀ a ∈ signs qs, ∀ b ∈ signs qs, a = b := fun z => by
            have := one.mpr z
            omega
          rw [decide_eq_false no, Bool.false_and] at h
          exact h H2 (s1.trans s2)
        · have c' := of_decide_eq_false (Bool.eq_false_iff.mpr c)
          have yes : ∀ a ∈ signs qs, ∀ b ∈ signs qs, a = b := one.mp (by omega)
          rw [decide_eq_true yes, Bool.true_and] at h
          have s12 := s1.trans s2
          refine ⟨_, rfl, l, rfl, ⟨_, SqL.of (s12 _ _ e)⟩, fun D2 nD2 => ?_⟩
          refine OwnSet.sx_list (K := K) (P := P) (w := w) (a := l) (xs := vs) (fun i H' => Same H2 H' ∧ H' D2 = some (OwnSet.TxS P w D2 (OwnSet.met (names qs) i))) ?_ ?_ ?_ ?_
          · exact ⟨Same.new nD2, upd_same⟩
          · rintro i H3 _ ⟨s3, _⟩
            exact SqL.of (s3 _ _ (s12 _ _ e))
          · rintro i y H3 hy ⟨s3, h3⟩
            obtain ⟨p, dx, way, x, n, rfl, hq, he, w0, w1, hx⟩ := rows.get hy
            have le2 := OwnSet.met_le (names qs) i
            have hi := (List.getElem?_eq_some_iff.mp hq).1
            have he3 := s3 _ _ (s12 _ _ he)
            refine ⟨rfl, _, rfl, p, _, dx, _, rfl, he3, (kd_of T w0 (by omega)).rc.cl, prop_item T w0 (by omega), p, dx, way, x, n, rfl, he3, w0, by omega, _, _, rfl, h3, Nat.lt_of_le_of_lt (Nat.add_le_add_right le2 1) (Nat.lt_of_lt_of_le (show i + 1 < 100 by omega) (by decide)), ?_, ?_⟩
            · intro c o eo
              rw [upd_ne (ne_of_none eo nD2)]
              exact s3 _ _ eo
            · rw [upd_same]
              show _ = some (OwnSet.TxS P w D2 (OwnSet.putM (OwnSet.met (names qs) i) ((names qs).getD i Str.empty)))
              rw [names_at hq]
          · rintro H3 ⟨s3, h3⟩
            have ln : vs.length = (names qs).length := by
              unfold names
              rw [List.length_map, lq]
            have all := OwnSet.met_all (names qs)
            have le2 := OwnSet.met_le (names qs) (names qs).length
            rw [ln] at h3
            have sm2 : (OwnSet.met (names qs) (names qs).length).length < scanBound := Nat.lt_of_le_of_lt le2 (Nat.lt_of_lt_of_le (show _ < 100 by omega) (by decide))
            refine ⟨D2, _, rfl, h3, sm2, _, rfl, _, _, rfl, .inl ⟨_, SqL.of (s3 _ _ (s12 _ _ e)), rfl⟩, eqS rfl ?_⟩
            have z : decide (V.int (((OwnSet.met (names qs) (names qs).length).length : Nat) : Int) = V.int ((vs.length : Nat) : Int)) = decide (names qs).Nodup := by
              rw [← all, ln]
              exact decide_eq_decide.mpr ⟨fun z => by have := V.int.inj z; omega, fun z => by rw [z]⟩
            rw [z]
            exact h H3 (s12.trans s3)
    · have a' := Bool.eq_false_iff.mpr a
      rw [a']
      refine iteT ?_
      have z : logB (some os) = false := by
        show isLogB os = false
        unfold isLogB
        rw [← Bool.and_assoc, a', Bool.false_and]
      rw [z] at h
      exact h H1 s1
theorem ok_is_log (T : Txt K mg A) : OkX P w K mg base 4 A.f_is_log ["thing"] (spLog K A) := T.fn_is_log.okX sc_is_log (fun _ _ _ _ _ _ us hl => match us, hl with | [_], _ => rfl) len_is_log (body_is_log T)
theorem okK_is_log (T : Txt K mg A) : OkX1 P w K mg base 4 A.f_is_log ["thing"] (spLog K A) := T.fn_is_log.okX1 sc_is_log (fun _ _ _ _ _ _ _ => rfl) len_is_log (body_is_log T)

end
end Own

set_option Elab.async false
set_option linter.all false
set_option maxRecDepth 100000
set_option maxHeartbeats 4000000
namespace Own
open PySem L2 ClX
local macro_rules | `(tactic| walk_at "v") => `(tactic| refine ⟨_, rfl, ?_⟩)
local macro_rules | `(tactic| walk_at "ii") => `(tactic| refine ⟨_, _, rfl, rfl, ?_⟩)
local macro_rules | `(tactic| walk_at "go") => `(tactic| repeat (first | refine ⟨_, rfl, ?_⟩ | refine ⟨_, _, rfl, rfl, ?_⟩ | refine addI ?_ | refine L2.iteT ?_ | refine L2.iteF ?_))

section
variable {P : Program} {w : World} {K : PySem.W.Frag} {mg : Str → Option Value} {base : Heap} {A : Ad}
/-! ### logs and known lists -/
theorem Rows.etys {H : Hp} {vs : List V} {ps : List (Int × Str × Nat)} (h : Rows A H vs ps) (b : ∀ q ∈ ps, q.2.2 ≤ 60) : Etys K A H vs (ps.map some) := by
  induction h with
  | nil => exact .nil
  | cons e h0 h1 hx _ ih => exact .cons (.row e h0 (by omega) hx (b _ List.mem_cons_self)) (ih fun q hq => b q (List.mem_cons_of_mem _ hq))
structure LogQ (way : Int) (qs : List (Int × Str × Nat)) : Prop where
  bd : ∀ q ∈ qs, q.2.2 ≤ 60
  wy : ∀ q ∈ qs, q.1 = way
  w0 : 0 ≤ way
  w1 : way ≤ 2
  nd : (names qs).Nodup
  len : qs.length ≤ 40
theorem logB_ok {way : Int} {qs : List (Int × Str × Nat)} (L : LogQ way qs) : logB (some (qs.map some)) = true := by
  show isLogB (qs.map some) = true
  have fm : (qs.map some).filterMap id = qs := by
    rw [List.filterMap_map]
    exact List.filterMap_some
  have all : (qs.map some).all kindO = true := by
    rw [List.all_eq_true]
    intro o ho
    obtain ⟨q, hq, rfl⟩ := List.mem_map.mp ho
    have := L.wy q hq
    have := L.w1
    exact decide_eq_true (by omega)
  have sg : ∀ a ∈ signs qs, ∀ b ∈ signs qs, a = b := fun a ha b hb => by
    obtain ⟨q, hq, rfl⟩ := List.mem_map.mp ha
    obtain ⟨r, hr, rfl⟩ := List.mem_map.mp hb
    show signW q.1 = signW r.1
    rw [L.wy q hq, L.wy r hr]
  unfold isLogB
  rw [fm, all, List.length_map, decide_eq_true L.len, decide_eq_true sg, decide_eq_true L.nd]
  rfl
theorem prop_slot (T : Txt K mg A) {way : Int} (h0 : 0 ≤ way) (h1 : way ≤ 3) : PropOf K (cw A way) "slot" A.p_Record_slot A.m_Record_slot := by
  rcases way4 h0 h1 with rfl | rfl | rfl | rfl
  · exact T.pr_Inserted_slot
  · exact T.pr_Removed_slot
  · exact T.pr_Fronted_slot
  · exact T.pr_Record_slot
def spSlotP (A : Ad) : Sp := fun vs H Q _ => ∃ (p dx : Addr) (way : Int) (x : Str) (n : Int), vs = [.ref p] ∧ H p = some (.ins (cw A way) dx (rfs x n)) ∧ 0 ≤ way ∧ way ≤ 3 ∧ Q (.int n) H
theorem ok_Record_slot (T : Txt K mg A) : Ok1 P w K mg base 1 A.m_Record_slot ["self"] (spSlotP A) := by
  refine T.fn_Record_slot.ok sc_Record_slot (fun _ _ _ _ _ _ us hl => match us, hl with | [_], _ => rfl) (fun vs H Q E h => ?_) (fun cdv B up s H vs Q E hr h => ?_)
  · obtain ⟨p, dx, way, x, n, rfl, _⟩ := h
    rfl
  · obtain ⟨p, dx, way, x, n, rfl, hp, w0, w1, h⟩ := h
    have k := kd_of T w0 w1
    refine ⟨_, (pss_one (ps_ret (pe_fld (pv 0) rfl))), ?_⟩
    exact ⟨_, rfl, p, _, dx, _, _, rfl, hp, k.rc.cl, k.rc.nS, rfs_slot _ _, h⟩
def spCheckL (A : Ad) : Sp := fun vs H Q _ => ∃ (l : Addr) (rs : List V) (way : Int) (qs : List (Int × Str × Nat)), vs = [.ref l] ∧ H l = some (.lst rs) ∧ Rows A H rs qs ∧ LogQ way qs ∧ ∀ H', Same H H' → Q .non H'
theorem ok_check_log (T : Txt K mg A) : Ok1 P w K mg base 5 A.f_check_log ["log"] (spCheckL A) := by
  refine T.fn_check_log.ok sc_check_log (fun _ _ _ _ _ _ us hl => match us, hl with | [_], _ => rfl) (fun vs H Q E h => ?_) (fun cdv B up s H vs Q E hr h => ?_)
  · obtain ⟨l, rs, way, qs, rfl, _⟩ := h
    rfl
  · obtain ⟨l, rs, way, qs, rfl, hl, rows, L, h⟩ := h
    refine ⟨_, (pss_one (ps_if (pt_not (pt_val (px_call (ok_is_log T) (fun _ => atL) (hr.mono (by decide)) T.mg_is_log (pa_cons (pv 0) pa_nil)))) (pss_one ps_never) pss_nil)), ?_⟩
    have lr := rows.len
    have ll := L.len
    refine ⟨_, rfl, .ref l, some (qs.map some), rfl, .lst hl (by omega) (rows.etys L.bd), fun H1 s1 => ⟨_, rfl, ?_⟩⟩
    rw [logB_ok L]
    exact iteF (h H1 s1)
/-- the sign of a log -/
def signQ (way : Int) (qs : List (Int × Str × Nat)) : Str := if qs = [] then "" else signW way
def spSign (A : Ad) : Sp := fun vs H Q _ => ∃ (l : Addr) (rs : List V) (way : Int) (qs : List (Int × Str × Nat)), vs = [.ref l] ∧ H l = some (.lst rs) ∧ Rows A H rs qs ∧ LogQ way qs ∧ Q (.str (signQ way qs)) H
theorem ok_sign_of (T : Txt K mg A) : Ok1 P w K mg base 1 A.f_sign_of ["log"] (spSign A) := by
  refine T.fn_sign_of.ok sc_sign_of (fun _ _ _ _ _ _ us hl => match us, hl with | [_], _ => rfl) (fun vs H Q E h => ?_) (fun cdv B up s H vs Q E hr h => ?_)
  · obtain ⟨l, rs, way, qs, rfl, _⟩ := h
    rfl
  · obtain ⟨l, rs, way, qs, rfl, hl, rows, L, h⟩ := h
    refine ⟨_, (pss_one (ps_ret (pe_ifExp (pt_cmpR op_gt (pe_callB call_len (by rfl) T.no_len (by decide +kernel) (pa_cons (pv 0) pa_nil)) pe_int (nomark _)) (pe_con (pe_ix ix_seq (pv 0) pe_int (fun _ _ => rfl)) rfl) (pe_clsv T.cv_Record_SIGN (pe_glob (v := .ref A.c_Record) rfl T.mg_Record rfl))))), ?_⟩
    refine ⟨_, rfl, _, _, rfl, .inl ⟨_, SqL.of hl, rfl⟩, _, _, rfl, rfl, _, rfl, ?_⟩
    cases rows with
    | nil =>
      rw [decide_eq_false (show ¬ (0 : Int) < (([] : List V).length : Nat) by decide)]
      exact iteF h
    | @cons p dx w x n vs ps e h0 h1 hx t =>
      rw [decide_eq_true (show (0 : Int) < (((.ref p :: vs) : List V).length : Nat) by rw [List.length_cons]; omega)]
      have k := kd_of T h0 (by omega)
      obtain ⟨u, cn⟩ := k.sg
      have ew : w = way := L.wy _ List.mem_cons_self
      subst ew
      refine iteT ⟨_, rfl, ixL hl (atI0 _ _) ?_⟩
      exact ⟨p, _, dx, _, _, _, rfl, e, k.rc.cl, cn, no_sign _ _, h⟩
def frontB (way : Int) (qs : List (Int × Str × Nat)) : Bool := decide (qs ≠ [] ∧ way = 2)
theorem sign_front {way : Int} {qs : List (Int × Str × Nat)} (L : LogQ way qs) : decide (V.str (signQ way qs) = V.str "^") = frontB way qs := by
  unfold signQ frontB
  by_cases e : qs = []
  · rw [if_pos e]
    have : ¬ (qs ≠ [] ∧ way = 2) := fun z => z.1 e
    rw [decide_eq_false this]
    decide +kernel
  · rw [if_neg e]
    have w0 := L.w0
    have w1 := L.w1
    rcases (show way = 0 ∨ way = 1 ∨ way = 2 by omega) with rfl | rfl | rfl
    · rw [decide_eq_false (fun z : qs ≠ [] ∧ (0 : Int) = 2 => absurd z.2 (by decide))]
      decide +kernel
    · rw [decide_eq_false (fun z : qs ≠ [] ∧ (1 : Int) = 2 => absurd z.2 (by decide))]
      decide +kernel
    · rw [decide_eq_true (show qs ≠ [] ∧ (2 : Int) = 2 from ⟨e, rfl⟩)]
      decide +kernel
def spFront (A : Ad) : Sp := fun vs H Q _ => ∃ (l : Addr) (rs : List V) (way : Int) (qs : List (Int × Str × Nat)), vs = [.ref l] ∧ H l = some (.lst rs) ∧ Rows A H rs qs ∧ LogQ way qs ∧ Q (.bl (frontB way qs)) H
theorem ok_is_fronted (T : Txt K mg A) : Ok1 P w K mg base 2 A.f_is_fronted ["log"] (spFront A) := by
  refine T.fn_is_fronted.ok sc_is_fronted (fun _ _ _ _ _ _ us hl => match us, hl with | [_], _ => rfl) (fun vs H Q E h => ?_) (fun cdv B up s H vs Q E hr h => ?_)
  · obtain ⟨l, rs, way, qs, rfl, _⟩ := h
    rfl
  · obtain ⟨l, rs, way, qs, rfl, hl, rows, L, h⟩ := h
    refine ⟨_, (pss_one (ps_ret (pe_cmpR (op_eqX hr) (po_call (ok_sign_of T) (hr.mono (by decide)) T.mg_sign_of (pa_cons (pv 0) pa_nil)) (pe_clsv T.cv_Fronted_SIGN (pe_glob (v := .ref A.c_Fronted) rfl T.mg_Fronted rfl)) (nomark _)))), ?_⟩
    refine ⟨_, rfl, l, rs, way, qs, rfl, hl, rows, L, eqS rfl ?_⟩
    rw [sign_front L]
    exact h

end
end Own

set_option Elab.async false
set_option linter.all false
set_option maxRecDepth 100000
set_option maxHeartbeats 4000000
namespace Own
open PySem L2 ClX
local macro_rules | `(tactic| walk_at "v") => `(tactic| refine ⟨_, rfl, ?_⟩)
local macro_rules | `(tactic| walk_at "ii") => `(tactic| refine ⟨_, _, rfl, rfl, ?_⟩)
local macro_rules | `(tactic| walk_at "go") => `(tactic| repeat (first | refine ⟨_, rfl, ?_⟩ | refine ⟨_, _, rfl, rfl, ?_⟩ | refine addI ?_ | refine L2.iteT ?_ | refine L2.iteF ?_))

section
variable {P : Program} {w : World} {K : PySem.W.Frag} {mg : Str → Option Value} {base : Heap} {A : Ad}
/-! ### shifts and rooms -/
def spKnown (A : Ad) : Sp := fun vs H Q _ => ∃ (l k : Addr) (rs : List V) (way : Int) (qs : List (Int × Str × Nat)) (xs : List Str), vs = [.ref l, .ref k] ∧ H l = some (.lst rs) ∧ Rows A H rs qs ∧ LogQ way qs ∧ H k = some (.lst (xs.map V.str)) ∧ Items xs ∧ xs.length ≤ 60 ∧ (∀ x ∈ names qs, x ∈ xs) ∧
  ∀ H', Same H H' → Q .non H'
theorem rep_snoc (n : Nat) : List.replicate (n + 1) true = List.replicate n true ++ [true] := List.replicate_succ'
theorem ok_check_known (T : Txt K mg A) : Ok1 P w K mg base 4 A.f_check_known ["log", "items"] (spKnown A) := by
  refine T.fn_check_known.ok sc_check_known (fun _ _ _ _ _ _ us hl => match us, hl with | [_, _], _ => rfl) (fun vs H Q E h => ?_) (fun cdv B up s H vs Q E hr h => ?_)
  · obtain ⟨l, k, rs, way, qs, xs, rfl, _⟩ := h
    rfl
  · obtain ⟨l, k, rs, way, qs, xs, rfl, hl, rows, L, hk, ix, lx, sub, h⟩ := h
    refine ⟨_, (pss_cons (ps_expr (px_call (ok_check_items T) (fun _ => atL) (hr.mono (by decide)) T.mg_check_items (pa_cons (pv 1) pa_nil)))
      (pss_one (ps_if (pt_not (pt_val (pe_callB (cr_all rfl) (by rfl) T.no_all (by decide +kernel) (pa_cons (pe_lcD (own := [("record", 2)]) rfl sc_check_known.nd (pi_list (pv 0)) (blkOk_by (N := N_check_known) (sc := defScope s_check_known) (by decide +kernel)) (fun _ _ _ _ _ => pg_name (i := 2) sc_check_known.nd rfl (Or.inl rfl)) (fun _ _ _ _ _ => pts_nil) (fun _ _ _ _ _ => (pe_cmpR op_in_seq (po_propD (p := A.p_Record_item) (ok_Record_item T) (hr.mono (by decide)) (pv 2)) (pv 1) rfl))) pa_nil)))) (pss_one ps_never) pss_nil))), ?_⟩
    refine ⟨_, rfl, .ref k, true, rfl, Thing.good hk ix lx, fun H1 s1 => ⟨fun _ => ?_, fun z => by cases z⟩⟩
    refine ⟨_, rfl, l, rfl, ⟨_, SqL.of (s1 _ _ hl)⟩, fun D nD => ?_⟩
    have ll := L.len
    refine lc_list (K := K) (a := l) (xs := rs) (fun i H' => Same H1 H' ∧ H' D = some (.lst ((List.replicate i true).map V.bl))) ?_ ?_ ?_ ?_
    · exact ⟨Same.new nD, upd_same⟩
    · rintro i H2 _ ⟨s2, _⟩
      exact SqL.of (s2 _ _ (s1 _ _ hl))
    · rintro i y H2 hy ⟨s2, h2⟩
      obtain ⟨p, dx, w, x, n, rfl, hq, he, w0, w1, hx⟩ := rows.get hy
      have he2 := s2 _ _ (s1 _ _ he)
      have hi := (List.getElem?_eq_some_iff.mp hq).1
      have mem : x ∈ xs := sub x (List.mem_map.mpr ⟨_, List.mem_of_getElem? hq, rfl⟩)
      refine ⟨rfl, _, rfl, p, _, dx, _, rfl, he2, (kd_of T w0 (by omega)).rc.cl, prop_item T w0 (by omega), p, dx, w, x, n, rfl, he2, w0, by omega, _, rfl, k, _, rfl, .inl (SqL.of (s2 _ _ (s1 _ _ hk))), rfl, flatS xs, ?_⟩
      rw [inS, decide_eq_true mem]
      refine ⟨_, h2, ?_, ?_, ?_⟩
      · rw [List.length_map, List.length_replicate]
        exact Nat.lt_of_lt_of_le (show i < 1000 by omega) (by decide)
      · intro c o eo
        rw [upd_ne (ne_of_none eo nD)]
        exact s2 _ _ eo
      · rw [upd_same, rep_snoc, List.map_append]
        rfl
    · rintro H2 ⟨s2, h2⟩
      refine ⟨D, _, rfl, SqL.of h2, ?_⟩
      have al : (List.replicate rs.length true).all id = true := by
        rw [List.all_eq_true]
        intro b hb
        rw [(List.mem_replicate.mp hb).2]
        rfl
      rw [al]
      exact ⟨_, rfl, iteF (h H2 (s1.trans s2))⟩
/-- the items of the known list that have a record -/
def knownL (qs : List (Int × Str × Nat)) (xs : List Str) : List Str := xs.filter fun x => decide (x ∈ names qs)
def roomV (fr : Bool) (m b : Nat) : Int := if fr = true then (m : Int) - 1 - (b : Nat) else (b : Nat)
/-- the rooms, in the order of the known list -/
def roomsL (fr : Bool) (ks : List Str) : List (Key × V) := (List.range ks.length).map fun b => (Sum.inr (ks.getD b Str.empty), V.int (roomV fr ks.length b))
theorem putK_new {kvs : List (Key × V)} {k : Key} {v : V} (h : k ∉ kvs.map (·.1)) : putK kvs k v = kvs ++ [(k, v)] := by
  unfold putK
  rw [if_neg]
  intro z
  obtain ⟨kv, hkv, e⟩ := List.any_eq_true.mp z
  exact h (List.mem_map.mpr ⟨kv, hkv, of_decide_eq_true e⟩)
theorem getD_at {xs : List Str} {i : Nat} (h : i < xs.length) : xs.getD i Str.empty = xs[i] := by
  rw [List.getD_eq_getElem?_getD, List.getElem?_eq_getElem h]
  rfl
theorem rooms_len (fr : Bool) (ks : List Str) : (roomsL fr ks).take ks.length = roomsL fr ks := List.take_of_length_le (by unfold roomsL; rw [List.length_map, List.length_range]; exact Nat.le_refl _)
theorem rooms_get {fr : Bool} {ks : List Str} {i : Nat} (h : i < ks.length) : (roomsL fr ks)[i]? = some (Sum.inr ks[i], V.int (roomV fr ks.length i)) := by
  unfold roomsL
  rw [List.getElem?_map, List.getElem?_range h]
  show some (Sum.inr (ks.getD i Str.empty), _) = _
  rw [getD_at h]
theorem rooms_take {fr : Bool} {ks : List Str} {i : Nat} (h : i < ks.length) : (roomsL fr ks).take (i + 1) = (roomsL fr ks).take i ++ [(Sum.inr ks[i], V.int (roomV fr ks.length i))] := by
  rw [List.take_add_one, rooms_get h]
  rfl
theorem rooms_new {fr : Bool} {ks : List Str} {i : Nat} (nd : ks.Nodup) (h : i < ks.length) : (Sum.inr ks[i] : Key) ∉ ((roomsL fr ks).take i).map (·.1) := fun z => by
  obtain ⟨kv, hkv, e⟩ := List.mem_map.mp z
  obtain ⟨j, hj⟩ := List.getElem?_of_mem hkv
  have hji : j < i := by
    have := (List.getElem?_eq_some_iff.mp hj).1
    rw [List.length_take] at this
    omega
  rw [List.getElem?_take_of_lt hji, rooms_get (show j < ks.length by omega)] at hj
  obtain rfl := Option.some.inj hj
  have e2 : ks[j] = ks[i] := Sum.inr.inj e
  have := (List.getElem_inj nd).mp e2
  omega
def spRooms (A : Ad) : Sp := fun vs H Q _ => ∃ (l k : Addr) (rs : List V) (way : Int) (qs : List (Int × Str × Nat)) (xs : List Str), vs = [.ref l, .ref k] ∧ H l = some (.lst rs) ∧ Rows A H rs qs ∧ LogQ way qs ∧ H k = some (.lst (xs.map V.str)) ∧ Items xs ∧ xs.length ≤ 60 ∧
  ∀ (D : Addr) (H' : Hp), Same H H' → H D = none → H' D = some (.dK (roomsL (frontB way qs) (knownL qs xs))) → Q (.ref D) H'
theorem ok_rooms_of (T : Txt K mg A) : Ok1 P w K mg base 3 A.f_rooms_of ["log", "items"] (spRooms A) := by
  refine T.fn_rooms_of.ok sc_rooms_of (fun _ _ _ _ _ _ us hl => match us, hl with | [_, _], _ => rfl) (fun vs H Q E h => ?_) (fun cdv B up s H vs Q E hr h => ?_)
  · obtain ⟨l, k, rs, way, qs, xs, rfl, _⟩ := h
    rfl
  · obtain ⟨l, k, rs, way, qs, xs, rfl, hl, rows, L, hk, ix, lx, h⟩ := h
    refine ⟨_, (pss_cons (ps_set (i := 2) sc_rooms_of.nd rfl (Or.inr rfl) (pe_lcD (own := [("record", 4)]) rfl sc_rooms_of.nd (pi_list (pv 0)) (blkOk_by (N := N_rooms_of) (sc := defScope s_rooms_of) (by decide +kernel)) (fun _ _ _ _ _ => pg_name (i := 4) sc_rooms_of.nd rfl (Or.inl rfl)) (fun _ _ _ _ _ => pts_nil) (fun _ _ _ _ _ => (po_propD (p := A.p_Record_item) (ok_Record_item T) (hr.mono (by decide)) (pv 4)))))
      (pss_cons (ps_set (i := 3) sc_rooms_of.nd rfl (Or.inr rfl) (pe_lcD (own := [("item", 5)]) rfl sc_rooms_of.nd (pi_list (pv 1)) (blkOk_by (N := N_rooms_of) (sc := defScope s_rooms_of) (by decide +kernel)) (fun _ _ _ _ _ => pg_name (i := 5) sc_rooms_of.nd rfl (Or.inl rfl)) (fun _ _ _ _ _ => (pts_one (pt_cmpR op_in_seq (pv 5) (pv 2) rfl))) (fun _ _ _ _ _ => (pv 5))))
      (pss_cons (ps_if (pt_val (po_call (ok_is_fronted T) (hr.mono (by decide)) T.mg_is_fronted (pa_cons (pv 0) pa_nil))) (pss_one (ps_ret (pe_dcD (own := [("before", 6), ("item", 5)]) rfl sc_rooms_of.nd (pi_enum (by rfl) T.no_enumerate (pa_cons (pv 3) pa_nil)) (blkOk_by (N := N_rooms_of) (sc := defScope s_rooms_of) (by decide +kernel)) (fun _ _ _ _ _ => pg_tup (by rfl) (pgs_cons (pg_name (i := 6) sc_rooms_of.nd rfl (Or.inl rfl)) (pgs_cons (pg_name (i := 5) sc_rooms_of.nd rfl (Or.inl rfl)) pgs_nil))) (fun _ _ _ _ _ => pts_nil) (fun _ _ _ _ _ => (pv 5)) (fun _ _ _ _ _ => (pe_op op_sub (pe_op op_sub (pe_callB call_len (by rfl) T.no_len (by decide +kernel) (pa_cons (pv 3) pa_nil)) pe_int) (pv 6)))))) pss_nil)
      (pss_one (ps_ret (pe_dcD (own := [("before", 6), ("item", 5)]) rfl sc_rooms_of.nd (pi_enum (by rfl) T.no_enumerate (pa_cons (pv 3) pa_nil)) (blkOk_by (N := N_rooms_of) (sc := defScope s_rooms_of) (by decide +kernel)) (fun _ _ _ _ _ => pg_tup (by rfl) (pgs_cons (pg_name (i := 6) sc_rooms_of.nd rfl (Or.inl rfl)) (pgs_cons (pg_name (i := 5) sc_rooms_of.nd rfl (Or.inl rfl)) pgs_nil))) (fun _ _ _ _ _ => pts_nil) (fun _ _ _ _ _ => (pv 5)) (fun _ _ _ _ _ => (pv 6)))))))), ?_⟩
    have lr := rows.len
    have ll := L.len
    refine ⟨_, rfl, l, rfl, ⟨_, SqL.of hl⟩, fun N nN => ?_⟩
    refine lc_list (K := K) (a := l) (xs := rs) (fun i H' => Same H H' ∧ H' N = some (.lst (((names qs).take i).map V.str))) ?_ ?_ ?_ ?_
    · exact ⟨Same.new nN, upd_same⟩
    · rintro i H2 _ ⟨s2, _⟩
      exact SqL.of (s2 _ _ hl)
    · rintro i y H2 hy ⟨s2, h2⟩
      obtain ⟨p, dx, w, x, n, rfl, hq, he, w0, w1, hx⟩ := rows.get hy
      have he2 := s2 _ _ he
      have hi := (List.getElem?_eq_some_iff.mp hq).1
      refine ⟨rfl, _, rfl, p, _, dx, _, rfl, he2, (kd_of T w0 (by omega)).rc.cl, prop_item T w0 (by omega), p, dx, w, x, n, rfl, he2, w0, by omega, _, h2, ?_, ?_, ?_⟩
      · rw [List.length_map, List.length_take]
        exact Nat.lt_of_le_of_lt (Nat.min_le_left _ _) (Nat.lt_of_lt_of_le (show i < 1000 by omega) (by decide))
      · intro c o eo
        rw [upd_ne (ne_of_none eo nN)]
        exact s2 _ _ eo
      · have ti : (names qs)[i]? = some x := by
          unfold names
          rw [List.getElem?_map, hq]
          rfl
        rw [upd_same, List.take_add_one, ti, List.map_append]
        rfl
    · rintro H1 ⟨s1, h1⟩
      have ln : rs.length = (names qs).length := by
        unfold names
        rw [List.length_map, lr]
      rw [ln, List.take_length] at h1
      refine ⟨_, rfl, k, rfl, ⟨_, SqL.of (s1 _ _ hk)⟩, fun M nM => ?_⟩
      refine lc_list (K := K) (a := k) (xs := xs.map V.str) (fun i H' => Same H1 H' ∧ H' M = some (.lst ((knownL qs (xs.take i)).map V.str))) ?_ ?_ ?_ ?_
      · exact ⟨Same.new nM, upd_same⟩
      · rintro i H2 _ ⟨s2, _⟩
        exact SqL.of (s2 _ _ (s1 _ _ hk))
      · rintro i y H2 hy ⟨s2, h2⟩
        rw [List.getElem?_map] at hy
        cases ex : xs[i]? with
        | none => rw [ex] at hy; cases hy
        | some x =>
          rw [ex] at hy
          cases hy
          have hi := (List.getElem?_eq_some_iff.mp ex).1
          have e9 : xs.take (i + 1) = xs.take i ++ [x] := by
            rw [List.take_add_one, ex]
            rfl
          refine ⟨rfl, _, rfl, _, rfl, N, _, rfl, .inl (SqL.of (s2 _ _ h1)), rfl, flatS _, _, rfl, ?_⟩
          rw [inS]
          by_cases mem : x ∈ names qs
          · rw [decide_eq_true mem]
            refine iteT ⟨_, rfl, _, h2, ?_, ?_, ?_⟩
            · rw [List.length_map]
              exact Nat.lt_of_le_of_lt (List.length_filter_le _ _) (Nat.lt_of_le_of_lt (List.length_take_le _ _) (Nat.lt_of_lt_of_le (show i < 1000 by omega) (by decide)))
            · intro c o eo
              rw [upd_ne (ne_of_none eo nM)]
              exact s2 _ _ eo
            · unfold knownL
              rw [upd_same, e9, List.filter_append, List.filter_cons_of_pos (by simp [mem]), List.filter_nil, List.map_append]
              rfl
          · rw [decide_eq_false mem]
            refine iteF ⟨s2, ?_⟩
            rw [h2, e9]
            unfold knownL
            rw [List.filter_append, List.filter_cons_of_neg (by simp [mem]), List.filter_nil, List.append_nil]
      · rintro H2 ⟨s2, h2⟩
        have lm : (xs.map V.str).length = xs.length := List.length_map ..
        rw [lm, List.take_length] at h2
        have S2 := s1.trans s2
        have ik : (knownL qs xs).Nodup := ix.nd.sublist List.filter_sublist
        have lk : (knownL qs xs).length ≤ 60 := Nat.le_trans (List.length_filter_le _ _) lx
        generalize knownL qs xs = ks at h2 h ik lk
        refine ⟨_, rfl, l, rs, way, qs, rfl, S2 _ _ hl, rows.same S2, L, _, rfl, ?_⟩
        cases efr : frontB way qs with
        | true =>
          rw [efr] at h
          refine iteT ⟨_, rfl, ?_⟩
          refine ⟨M, _, rfl, SqL.of h2, fun D nD => ?_⟩
          refine dc_it (walk_enum (xs := ks.map V.str)) (fun i H' => Same H2 H' ∧ H' D = some (.dK ((roomsL true ks).take i))) ?_ ?_ ?_ ?_
          · exact ⟨Same.new nD, by rw [List.take_zero]; exact upd_same⟩
          · rintro i H3 _ ⟨s3, _⟩
            exact SqL.of (s3 _ _ h2)
          · rintro i y H3 H4 hi ⟨s3, h3⟩ ⟨tp, x1, y1, rfl, ntp, rfl, ex, ey⟩
            obtain rfl := Option.some.inj ex
            rw [List.length_map] at hi
            have ey : (ks.map V.str)[i]? = some y1 := ey
            rw [List.getElem?_map, List.getElem?_eq_getElem hi] at ey
            obtain rfl := Option.some.inj ey
            have u4 := Same.new (o := .tup [.int (i : Nat), .str ks[i]]) ntp
            have h4 := u4 _ _ h3
            refine ⟨tp, _, rfl, SqT.of upd_same, rfl, _, _, rfl, _, _, rfl, rfl, rfl, _, rfl, _, rfl, _, _, rfl, .inl ⟨_, SqL.of (u4 _ _ (s3 _ _ h2)), rfl⟩, _, _, rfl, rfl, _, rfl, _, _, rfl, rfl, _, .inr ks[i], rfl, h4, ?_, ?_, ?_⟩
            · rw [List.length_take]
              exact Nat.lt_of_le_of_lt (Nat.min_le_left _ _) (Nat.lt_of_lt_of_le (show i < 1000 by omega) (by decide))
            · intro c o eo
              rw [upd_ne (ne_of_none eo nD)]
              exact u4 _ _ (s3 _ _ eo)
            · rw [upd_same, putK_new (rooms_new ik hi), rooms_take hi]
              first
                | rfl
                | (simp only [List.length_map]; rfl)
          · rintro H3 ⟨s3, h3⟩
            rw [List.length_map, rooms_len] at h3
            exact h D H3 (S2.trans s3) (none_same S2 nD) h3
        | false =>
          rw [efr] at h
          refine iteF ⟨_, rfl, ?_⟩
          refine ⟨M, _, rfl, SqL.of h2, fun D nD => ?_⟩
          refine dc_it (walk_enum (xs := ks.map V.str)) (fun i H' => Same H2 H' ∧ H' D = some (.dK ((roomsL false ks).take i))) ?_ ?_ ?_ ?_
          · exact ⟨Same.new nD, by rw [List.take_zero]; exact upd_same⟩
          · rintro i H3 _ ⟨s3, _⟩
            exact SqL.of (s3 _ _ h2)
          · rintro i y H3 H4 hi ⟨s3, h3⟩ ⟨tp, x1, y1, rfl, ntp, rfl, ex, ey⟩
            obtain rfl := Option.some.inj ex
            rw [List.length_map] at hi
            have ey : (ks.map V.str)[i]? = some y1 := ey
            rw [List.getElem?_map, List.getElem?_eq_getElem hi] at ey
            obtain rfl := Option.some.inj ey
            have u4 := Same.new (o := .tup [.int (i : Nat), .str ks[i]]) ntp
            have h4 := u4 _ _ h3
            refine ⟨tp, _, rfl, SqT.of upd_same, rfl, _, _, rfl, _, _, rfl, rfl, rfl, _, rfl, _, rfl, _, .inr ks[i], rfl, h4, ?_, ?_, ?_⟩
            · rw [List.length_take]
              exact Nat.lt_of_le_of_lt (Nat.min_le_left _ _) (Nat.lt_of_lt_of_le (show i < 1000 by omega) (by decide))
            · intro c o eo
              rw [upd_ne (ne_of_none eo nD)]
              exact u4 _ _ (s3 _ _ eo)
            · rw [upd_same, putK_new (rooms_new ik hi), rooms_take hi]
              first
                | rfl
                | (simp only [List.length_map]; rfl)
          · rintro H3 ⟨s3, h3⟩
            rw [List.length_map, rooms_len] at h3
            exact h D H3 (S2.trans s3) (none_same S2 nD) h3
/-- where an item stands -/
def ix (xs : List Str) (x : Str) : Nat := xs.idxOf x
theorem ix_at {x : Str} : ∀ {xs : List Str}, x ∈ xs → ix xs x < xs.length ∧ xs[ix xs x]? = some x ∧ ∀ m z, m < ix xs x → xs[m]? = some z → z ≠ x
  | y :: ys, h => by
    unfold ix
    by_cases e : y = x
    · rw [e, List.idxOf_cons_self]
      exact ⟨Nat.succ_pos _, rfl, fun m z hm => absurd hm (Nat.not_lt_zero _)⟩
    · have h2 : x ∈ ys := (List.mem_cons.mp h).resolve_left fun z => e z.symm
      obtain ⟨a, b, c⟩ := ix_at h2
      unfold ix at a b c
      have ec : (y :: ys).idxOf x = ys.idxOf x + 1 := by rw [List.idxOf_cons, beq_false_of_ne e]; rfl
      rw [ec]
      refine ⟨Nat.succ_lt_succ a, b, fun m z hm hz => ?_⟩
      cases m with
      | zero => exact fun q => e ((Option.some.inj hz).trans q)
      | succ m => exact c m z (Nat.lt_of_succ_lt_succ hm) hz
def shiftV (fr : Bool) (xs : List Str) (q : Int × Str × Nat) : Int := if fr = true then (q.2.2 : Nat) - ((ix xs q.2.1 : Nat) : Int) else ((ix xs q.2.1 : Nat) : Int) - (q.2.2 : Nat)
def shiftsL (fr : Bool) (xs : List Str) (qs : List (Int × Str × Nat)) : List (Key × V) := qs.map fun q => (Sum.inr q.2.1, V.int (shiftV fr xs q))
theorem shifts_new {fr : Bool} {xs : List Str} {qs : List (Int × Str × Nat)} {i : Nat} {q : Int × Str × Nat} (nd : (names qs).Nodup) (h : qs[i]? = some q) : (Sum.inr q.2.1 : Key) ∉ ((shiftsL fr xs qs).take i).map (·.1) := fun z => by
  obtain ⟨kv, hkv, e⟩ := List.mem_map.mp z
  obtain ⟨j, hj⟩ := List.getElem?_of_mem hkv
  have hi := (List.getElem?_eq_some_iff.mp h).1
  have hji : j < i := by
    have := (List.getElem?_eq_some_iff.mp hj).1
    rw [List.length_take] at this
    omega
  rw [List.getElem?_take_of_lt hji] at hj
  unfold shiftsL at hj
  rw [List.getElem?_map] at hj
  cases eq : qs[j]? with
  | none => rw [eq] at hj; cases hj
  | some r =>
    rw [eq] at hj
    obtain rfl := Option.some.inj hj
    have e2 : r.2.1 = q.2.1 := Sum.inr.inj e
    have nj : (names qs)[j]? = some r.2.1 := by
      unfold names
      rw [List.getElem?_map, eq]
      rfl
    have ni : (names qs)[i]? = some q.2.1 := by
      unfold names
      rw [List.getElem?_map, h]
      rfl
    rw [e2] at nj
    obtain ⟨aj, bj⟩ := List.getElem?_eq_some_iff.mp nj
    obtain ⟨ai, bi⟩ := List.getElem?_eq_some_iff.mp ni
    have := (List.getElem_inj nd).mp (bj.trans bi.symm)
    omega
theorem shifts_take {fr : Bool} {xs : List Str} {qs : List (Int × Str × Nat)} {i : Nat} {q : Int × Str × Nat} (h : qs[i]? = some q) : (shiftsL fr xs qs).take (i + 1) = (shiftsL fr xs qs).take i ++ [(Sum.inr q.2.1, V.int (shiftV fr xs q))] := by
  have e : (shiftsL fr xs qs)[i]? = some (Sum.inr q.2.1, V.int (shiftV fr xs q)) := by
    unfold shiftsL
    rw [List.getElem?_map, h]
    rfl
  rw [List.take_add_one, e]
  rfl
def spShifts (A : Ad) : Sp := fun vs H Q _ => ∃ (l k : Addr) (rs : List V) (way : Int) (qs : List (Int × Str × Nat)) (xs : List Str), vs = [.ref l, .ref k] ∧ H l = some (.lst rs) ∧ Rows A H rs qs ∧ LogQ way qs ∧ H k = some (.lst (xs.map V.str)) ∧ Items xs ∧ xs.length ≤ 60 ∧ (∀ x ∈ names qs, x ∈ xs) ∧
  ∀ (D : Addr) (H' : Hp), Same H H' → H D = none → H' D = some (.dK (shiftsL (frontB way qs) xs qs)) → Q (.ref D) H'
theorem ok_shifts_of (T : Txt K mg A) : Ok1 P w K mg base 3 A.f_shifts_of ["log", "items"] (spShifts A) := by
  refine T.fn_shifts_of.ok sc_shifts_of (fun _ _ _ _ _ _ us hl => match us, hl with | [_, _], _ => rfl) (fun vs H Q E h => ?_) (fun cdv B up s H vs Q E hr h => ?_)
  · obtain ⟨l, k, rs, way, qs, xs, rfl, _⟩ := h
    rfl
  · obtain ⟨l, k, rs, way, qs, xs, rfl, hl, rows, L, hk, ixs, lx, sub, h⟩ := h
    refine ⟨_, (pss_cons (ps_if (pt_val (po_call (ok_is_fronted T) (hr.mono (by decide)) T.mg_is_fronted (pa_cons (pv 0) pa_nil))) (pss_one (ps_ret (pe_dcD (own := [("record", 2)]) rfl sc_shifts_of.nd (pi_list (pv 0)) (blkOk_by (N := N_shifts_of) (sc := defScope s_shifts_of) (by decide +kernel)) (fun _ _ _ _ _ => pg_name (i := 2) sc_shifts_of.nd rfl (Or.inl rfl)) (fun _ _ _ _ _ => pts_nil) (fun _ _ _ _ _ => (po_propD (p := A.p_Record_item) (ok_Record_item T) (hr.mono (by decide)) (pv 2))) (fun _ _ _ _ _ => (pe_op op_sub (po_propD (p := A.p_Record_slot) (ok_Record_slot T) (hr.mono (by decide)) (pv 2)) (pe_bm PySem.F.plainAttrs_list PySem.F.slot_list_index PySem.F.type_list_index mt_index (pv 1) (pa_cons (po_propD (p := A.p_Record_item) (ok_Record_item T) (hr.mono (by decide)) (pv 2)) pa_nil))))))) pss_nil)
      (pss_one (ps_ret (pe_dcD (own := [("record", 2)]) rfl sc_shifts_of.nd (pi_list (pv 0)) (blkOk_by (N := N_shifts_of) (sc := defScope s_shifts_of) (by decide +kernel)) (fun _ _ _ _ _ => pg_name (i := 2) sc_shifts_of.nd rfl (Or.inl rfl)) (fun _ _ _ _ _ => pts_nil) (fun _ _ _ _ _ => (po_propD (p := A.p_Record_item) (ok_Record_item T) (hr.mono (by decide)) (pv 2))) (fun _ _ _ _ _ => (pe_op op_sub (pe_bm PySem.F.plainAttrs_list PySem.F.slot_list_index PySem.F.type_list_index mt_index (pv 1) (pa_cons (po_propD (p := A.p_Record_item) (ok_Record_item T) (hr.mono (by decide)) (pv 2)) pa_nil)) (po_propD (p := A.p_Record_slot) (ok_Record_slot T) (hr.mono (by decide)) (pv 2)))))))), ?_⟩
    have lr := rows.len
    have ll := L.len
    refine ⟨_, rfl, l, rs, way, qs, rfl, hl, rows, L, _, rfl, ?_⟩
    cases efr : frontB way qs with
    | true =>
      rw [efr] at h
      refine iteT ⟨_, rfl, ?_⟩
      refine ⟨l, rfl, ⟨_, SqL.of hl⟩, fun D nD => ?_⟩
      refine dc_it (walk_list (K := K) (a := l) (xs := rs)) (fun i H' => Same H H' ∧ H' D = some (.dK ((shiftsL true xs qs).take i))) ?_ ?_ ?_ ?_
      · exact ⟨Same.new nD, by rw [List.take_zero]; exact upd_same⟩
      · rintro i H3 _ ⟨s3, _⟩
        exact SqL.of (s3 _ _ hl)
      · rintro i y H3 H4 hi ⟨s3, h3⟩ ⟨rfl, ey⟩
        obtain ⟨p, dx, w, x, n, rfl, hq, he, w0, w1, hx⟩ := rows.get ey
        have he3 := s3 _ _ he
        have mem : x ∈ xs := sub x (List.mem_map.mpr ⟨_, List.mem_of_getElem? hq, rfl⟩)
        obtain ⟨i1, i2, i3⟩ := ix_at mem
        have flat : (V.str x) = V.str x := rfl
        have pi : PropOf K (cw A w) "item" A.p_Record_item A.m_Record_item := prop_item T w0 (by omega)
        have ps : PropOf K (cw A w) "slot" A.p_Record_slot A.m_Record_slot := prop_slot T w0 (by omega)
        have cl := (kd_of T w0 (by omega)).rc.cl
        refine ⟨rfl, _, rfl, p, _, dx, _, rfl, he3, cl, pi, p, dx, w, x, n, rfl, he3, w0, by omega, _, rfl, p, _, dx, _, rfl, he3, cl, ps, p, dx, w, x, n, rfl, he3, w0, by omega, _, rfl, .inl ⟨rfl, _, SqL.of (s3 _ _ hk)⟩, _, rfl, p, _, dx, _, rfl, he3, cl, pi, p, dx, w, x, n, rfl, he3, w0, by omega, k, _, _, ix xs x, _, rfl, rfl, SqL.of (s3 _ _ hk), rfl, flatS xs, ?_, (show eqV (.str x) (.str x) = true from beq_self_eq_true x), ?_, _, _, rfl, rfl, _, .inr x, rfl, h3, ?_, ?_, ?_⟩
        · rw [List.getElem?_map, i2]
          rfl
        · intro m z' hm hz
          rw [List.getElem?_map] at hz
          cases q : xs[m]? with
          | none => rw [q] at hz; cases hz
          | some z =>
            rw [q] at hz
            cases hz
            exact beq_false_of_ne (i3 m z hm q)
        · rw [List.length_take]
          exact Nat.lt_of_le_of_lt (Nat.min_le_left _ _) (Nat.lt_of_lt_of_le (show i < 1000 by have := (List.getElem?_eq_some_iff.mp hq).1; omega) (by decide))
        · intro c o eo
          rw [upd_ne (ne_of_none eo nD)]
          exact s3 _ _ eo
        · rw [upd_same, putK_new (shifts_new L.nd hq), shifts_take hq]
          rfl
      · rintro H3 ⟨s3, h3⟩
        have lt : (shiftsL true xs qs).take rs.length = shiftsL true xs qs := List.take_of_length_le (by unfold shiftsL; rw [List.length_map]; omega)
        rw [lt] at h3
        exact h D H3 s3 nD h3
    | false =>
      rw [efr] at h
      refine iteF ⟨_, rfl, ?_⟩
      refine ⟨l, rfl, ⟨_, SqL.of hl⟩, fun D nD => ?_⟩
      refine dc_it (walk_list (K := K) (a := l) (xs := rs)) (fun i H' => Same H H' ∧ H' D = some (.dK ((shiftsL false xs qs).take i))) ?_ ?_ ?_ ?_
      · exact ⟨Same.new nD, by rw [List.take_zero]; exact upd_same⟩
      · rintro i H3 _ ⟨s3, _⟩
        exact SqL.of (s3 _ _ hl)
      · rintro i y H3 H4 hi ⟨s3, h3⟩ ⟨rfl, ey⟩
        obtain ⟨p, dx, w, x, n, rfl, hq, he, w0, w1, hx⟩ := rows.get ey
        have he3 := s3 _ _ he
        have mem : x ∈ xs := sub x (List.mem_map.mpr ⟨_, List.mem_of_getElem? hq, rfl⟩)
        obtain ⟨i1, i2, i3⟩ := ix_at mem
        have flat : (V.str x) = V.str x := rfl
        have pi : PropOf K (cw A w) "item" A.p_Record_item A.m_Record_item := prop_item T w0 (by omega)
        have ps : PropOf K (cw A w) "slot" A.p_Record_slot A.m_Record_slot := prop_slot T w0 (by omega)
        have cl := (kd_of T w0 (by omega)).rc.cl
        refine ⟨rfl, _, rfl, p, _, dx, _, rfl, he3, cl, pi, p, dx, w, x, n, rfl, he3, w0, by omega, _, rfl, .inl ⟨rfl, _, SqL.of (s3 _ _ hk)⟩, _, rfl, p, _, dx, _, rfl, he3, cl, pi, p, dx, w, x, n, rfl, he3, w0, by omega, k, _, _, ix xs x, _, rfl, rfl, SqL.of (s3 _ _ hk), rfl, flatS xs, ?_, (show eqV (.str x) (.str x) = true from beq_self_eq_true x), ?_, _, rfl, p, _, dx, _, rfl, he3, cl, ps, p, dx, w, x, n, rfl, he3, w0, by omega, _, _, rfl, rfl, _, .inr x, rfl, h3, ?_, ?_, ?_⟩
        · rw [List.getElem?_map, i2]
          rfl
        · intro m z' hm hz
          rw [List.getElem?_map] at hz
          cases q : xs[m]? with
          | none => rw [q] at hz; cases hz
          | some z =>
            rw [q] at hz
            cases hz
            exact beq_false_of_ne (i3 m z hm q)
        · rw [List.length_take]
          exact Nat.lt_of_le_of_lt (Nat.min_le_left _ _) (Nat.lt_of_lt_of_le (show i < 1000 by have := (List.getElem?_eq_some_iff.mp hq).1; omega) (by decide))
        · intro c o eo
          rw [upd_ne (ne_of_none eo nD)]
          exact s3 _ _ eo
        · rw [upd_same, putK_new (shifts_new L.nd hq), shifts_take hq]
          rfl
      · rintro H3 ⟨s3, h3⟩
        have lt : (shiftsL false xs qs).take rs.length = shiftsL false xs qs := List.take_of_length_le (by unfold shiftsL; rw [List.length_map]; omega)
        rw [lt] at h3
        exact h D H3 s3 nD h3

end
end Own

set_option Elab.async false
set_option linter.all false
set_option maxRecDepth 100000
set_option maxHeartbeats 4000000
namespace Own
open PySem L2 ClX
local macro_rules | `(tactic| walk_at "v") => `(tactic| refine ⟨_, rfl, ?_⟩)
local macro_rules | `(tactic| walk_at "ii") => `(tactic| refine ⟨_, _, rfl, rfl, ?_⟩)
local macro_rules | `(tactic| walk_at "go") => `(tactic| repeat (first | refine ⟨_, rfl, ?_⟩ | refine ⟨_, _, rfl, rfl, ?_⟩ | refine addI ?_ | refine L2.iteT ?_ | refine L2.iteF ?_))

section
variable {P : Program} {w : World} {K : PySem.W.Frag} {mg : Str → Option Value} {base : Heap} {A : Ad}
/-! ### certificates -/
def slotOf (qs : List (Int × Str × Nat)) (x : Str) : Nat := ((qs.find? fun q => decide (q.2.1 = x)).map (·.2.2)).getD 0
def shiftOf (fr : Bool) (xs : List Str) (qs : List (Int × Str × Nat)) (x : Str) : Int := if fr = true then (slotOf qs x : Nat) - ((ix xs x : Nat) : Int) else ((ix xs x : Nat) : Int) - (slotOf qs x : Nat)
def certO (shift room : Int) (x : Str) : Option (Str × Str) := if shift < 0 then some ("low", x) else if room < shift then some ("high", x) else none
def certF (fr : Bool) (xs : List Str) (qs : List (Int × Str × Nat)) (ks : List Str) (b : Nat) : Option (Str × Str) := certO (shiftOf fr xs qs (ks.getD b Str.empty)) (roomV fr ks.length b) (ks.getD b Str.empty)
def certsTo (fr : Bool) (xs : List Str) (qs : List (Int × Str × Nat)) (ks : List Str) (n : Nat) : List (Str × Str) := (List.range n).filterMap (certF fr xs qs ks)
theorem certs_succ (fr : Bool) (xs : List Str) (qs : List (Int × Str × Nat)) (ks : List Str) (n : Nat) : certsTo fr xs qs ks (n + 1) = certsTo fr xs qs ks n ++ (certF fr xs qs ks n).toList := by
  unfold certsTo
  rw [List.range_succ, List.filterMap_append]
  congr 1
theorem shift_val {fr : Bool} {xs : List Str} {qs : List (Int × Str × Nat)} {x : Str} (h : x ∈ names qs) : valV (shiftsL fr xs qs) (Sum.inr x) = some (.int (shiftOf fr xs qs x)) := by
  obtain ⟨q, hq, rfl⟩ := List.mem_map.mp h
  have some_q : ∃ r, qs.find? (fun r => decide (r.2.1 = q.2.1)) = some r := by
    cases e : qs.find? (fun r => decide (r.2.1 = q.2.1)) with
    | some r => exact ⟨r, rfl⟩
    | none => exact absurd (decide_eq_true rfl) (by have := List.find?_eq_none.mp e q hq; exact this)
  obtain ⟨r, er⟩ := some_q
  have e2 : r.2.1 = q.2.1 := of_decide_eq_true (show decide (r.2.1 = q.2.1) = true from List.find?_some (p := fun r : Int × Str × Nat => decide (r.2.1 = q.2.1)) er)
  unfold valV shiftsL
  rw [List.find?_map]
  have ef : (fun kv : Key × V => decide (kv.1 = Sum.inr q.2.1)) ∘ (fun r : Int × Str × Nat => ((Sum.inr r.2.1 : Key), V.int (shiftV fr xs r))) = fun r => decide (r.2.1 = q.2.1) := by
    funext r
    show decide ((Sum.inr r.2.1 : Key) = Sum.inr q.2.1) = _
    exact decide_eq_decide.mpr ⟨fun z => Sum.inr.inj z, fun z => by rw [z]⟩
  rw [ef, er]
  show some (V.int (shiftV fr xs r)) = _
  unfold shiftV shiftOf slotOf
  rw [er, e2]
  rfl
inductive Certs (H : Hp) : List V → List (Str × Str) → Prop where
  | nil : Certs H [] []
  | cons {t : Addr} {w x : Str} {vs : List V} {cs : List (Str × Str)} (e : H t = some (.tup [.str w, .str x])) (r : Certs H vs cs) : Certs H (.ref t :: vs) ((w, x) :: cs)
theorem Certs.same {H H' : Hp} {vs : List V} {cs : List (Str × Str)} (h : Certs H vs cs) (s : Same H H') : Certs H' vs cs := by
  induction h with
  | nil => exact .nil
  | cons e _ ih => exact .cons (s _ _ e) ih
theorem Certs.len {H : Hp} {vs : List V} {cs : List (Str × Str)} (h : Certs H vs cs) : vs.length = cs.length := by
  induction h with
  | nil => rfl
  | cons _ _ ih => rw [List.length_cons, List.length_cons, ih]
theorem Certs.updL {H : Hp} {vs us : List V} {cs : List (Str × Str)} {D : Addr} {o : HO} (h : Certs H vs cs) (hD : H D = some (.lst us)) : Certs (upd H D o) vs cs := by
  induction h with
  | nil => exact .nil
  | @cons t w x vs cs e _ ih =>
    refine .cons ?_ ih
    rw [upd_ne (fun z => by rw [z, hD] at e; cases e)]
    exact e
theorem Certs.snoc {H : Hp} {vs : List V} {cs : List (Str × Str)} {t : Addr} {w x : Str} (h : Certs H vs cs) (e : H t = some (.tup [.str w, .str x])) : Certs H (vs ++ [.ref t]) (cs ++ [(w, x)]) := by
  induction h with
  | nil => exact .cons e .nil
  | cons e' _ ih => exact .cons e' ih
theorem certs_len {fr : Bool} {xs : List Str} {qs : List (Int × Str × Nat)} {ks : List Str} (n : Nat) : (certsTo fr xs qs ks n).length ≤ n := by
  unfold certsTo
  exact Nat.le_trans (List.length_filterMap_le _ _) (by rw [List.length_range]; exact Nat.le_refl _)
def spCerts (A : Ad) : Sp := fun vs H Q _ => ∃ (l k : Addr) (rs : List V) (way : Int) (qs : List (Int × Str × Nat)) (xs : List Str), vs = [.ref l, .ref k] ∧ H l = some (.lst rs) ∧ Rows A H rs qs ∧ LogQ way qs ∧ H k = some (.lst (xs.map V.str)) ∧ Items xs ∧ xs.length ≤ 60 ∧ (∀ x ∈ names qs, x ∈ xs) ∧
  ∀ (D : Addr) (cs : List V) (H' : Hp), Same H H' → H D = none → H' D = some (.lst cs) → Certs H' cs (certsTo (frontB way qs) xs qs (knownL qs xs) (knownL qs xs).length) → Q (.ref D) H'
theorem ok_certificates (T : Txt K mg A) : Ok1 P w K mg base 4 A.f_certificates ["log", "items"] (spCerts A) := by
  refine T.fn_certificates.ok sc_certificates (fun _ _ _ _ _ _ us hl => match us, hl with | [_, _], _ => rfl) (fun vs H Q E h => ?_) (fun cdv B up s H vs Q E hr h => ?_)
  · obtain ⟨l, k, rs, way, qs, xs, rfl, _⟩ := h
    rfl
  · obtain ⟨l, k, rs, way, qs, xs, rfl, hl, rows, L, hk, ixs, lx, sub, h⟩ := h
    refine ⟨_, (pss_cons (ps_set (i := 2) sc_certificates.nd rfl (Or.inl rfl) (po_call (ok_shifts_of T) (hr.mono (by decide)) T.mg_shifts_of (pa_cons (pv 0) (pa_cons (pv 1) pa_nil))))
      (pss_cons (ps_set (i := 3) sc_certificates.nd rfl (Or.inl rfl) (pe_lst pa_nil))
      (pss_cons (ps_for PassesOwn.never rfl (pi_items (pe_freeze (po_call (ok_rooms_of T) (hr.mono (by decide)) T.mg_rooms_of (pa_cons (pv 0) (pa_cons (pv 1) pa_nil))))) (pg_tup (by rfl) (pgs_cons (pg_name (i := 4) sc_certificates.nd rfl (Or.inl rfl)) (pgs_cons (pg_name (i := 5) sc_certificates.nd rfl (Or.inl rfl)) pgs_nil)))
      (pss_one (ps_if (pt_cmpR op_lt (pe_dget (Nat.lt_of_le_of_lt (Nat.add_le_add_left (show 1 ≤ 64 by decide) _) hr.units) (pv 2) (pv 4) (fun _ _ => rfl)) pe_int (nomark _)) (pss_one (ps_expr (pe_bm PySem.F.plainAttrs_list PySem.F.slot_list_append PySem.F.type_list_append mt_append (pv 3) (pa_cons (pe_tup (pa_cons pe_str (pa_cons (pv 4) pa_nil))) pa_nil)))) (pss_one (ps_if (pt_cmpR op_gt (pe_dget (Nat.lt_of_le_of_lt (Nat.add_le_add_left (show 1 ≤ 64 by decide) _) hr.units) (pv 2) (pv 4) (fun _ _ => rfl)) (pv 5) (nomark _)) (pss_one (ps_expr (pe_bm PySem.F.plainAttrs_list PySem.F.slot_list_append PySem.F.type_list_append mt_append (pv 3) (pa_cons (pe_tup (pa_cons pe_str (pa_cons (pv 4) pa_nil))) pa_nil)))) pss_nil)))))
      (pss_one (ps_ret (pv 3)))))), ?_⟩
    refine ⟨_, rfl, _, rfl, l, k, rs, way, qs, xs, rfl, hl, rows, L, hk, ixs, lx, sub, fun S H1 s1 nS hS => ?_⟩
    refine ⟨Nat.zero_le _, fun F nF => ?_⟩
    have u2 := Same.new (o := .lst []) nF
    have S2 := s1.trans u2
    have hS2 := u2 _ _ hS
    have hF2 : upd H1 F (.lst []) F = some (.lst []) := upd_same
    have F0 : H F = none := none_same s1 nF
    have FS : S ≠ F := ne_of_none hS nF
    generalize upd H1 F (.lst []) = H2 at u2 S2 hS2 hF2 ⊢
    refine ⟨_, rfl, _, rfl, l, k, rs, way, qs, xs, rfl, S2 _ _ hl, rows.same S2, L, S2 _ _ hk, ixs, lx, fun R H3 s3 nR hR => ?_⟩
    refine ⟨R, _, rfl, hR, trivial, fun od => ?_⟩
    have RF : F ≠ R := ne_of_none hF2 nR
    have RS : S ≠ R := ne_of_none hS2 nR
    have R0 : H R = none := none_same S2 nR
    have S4 : Same H (upd H3 R (.frz od (.dK (roomsL (frontB way qs) (knownL qs xs))))) := fun c o e => by
      rw [upd_ne (ne_of_none e R0)]
      exact s3 _ _ (S2 _ _ e)
    have hF4 : upd H3 R (.frz od (.dK (roomsL (frontB way qs) (knownL qs xs)))) F = some (.lst []) := by
      rw [upd_ne RF]
      exact s3 _ _ hF2
    have hS4 : upd H3 R (.frz od (.dK (roomsL (frontB way qs) (knownL qs xs)))) S = some (.dK (shiftsL (frontB way qs) xs qs)) := by
      rw [upd_ne RS]
      exact s3 _ _ hS2
    have hR4 : upd H3 R (.frz od (.dK (roomsL (frontB way qs) (knownL qs xs)))) R = some (.frz od (.dK (roomsL (frontB way qs) (knownL qs xs)))) := upd_same
    have inn : ∀ x ∈ knownL qs xs, x ∈ names qs := fun x hx => of_decide_eq_true (List.mem_filter.mp hx).2
    have lk : (knownL qs xs).length ≤ 60 := Nat.le_trans (List.length_filter_le _ _) lx
    generalize upd H3 R (.frz od (.dK (roomsL (frontB way qs) (knownL qs xs)))) = H4 at S4 hF4 hS4 hR4 ⊢
    clear s1 nS hS nF u2 S2 hS2 hF2 s3 nR hR
    generalize knownL qs xs = ks at *
    generalize frontB way qs = fr at *
    have lrm : (roomsL fr ks).length = ks.length := by unfold roomsL; rw [List.length_map, List.length_range]
    refine ⟨R, od, _, rfl, hR4, for_it (walk_items (kvs := roomsL fr ks)) (fun i σ H' => ∃ (a4 a5 : Option V) (cs : List V), σ = [some (.ref l), some (.ref k), some (.ref S), some (.ref F), a4, a5] ∧ Same H H' ∧ H' S = some (.dK (shiftsL fr xs qs)) ∧ H' R = some (.frz od (.dK (roomsL fr ks))) ∧ H' F = some (.lst cs) ∧ Certs H' cs (certsTo fr xs qs ks i))
      ⟨_, _, [], rfl, S4, hS4, hR4, hF4, .nil⟩ ?_ ?_ ?_⟩
    · rintro i σ H5 _ ⟨a4, a5, cs, rfl, _, _, h5, _⟩
      exact h5
    · rintro i y σ H5 H6 hi ⟨a4, a5, cs, rfl, s5, hS5, hR5, hF5, c5⟩ ⟨tp, x1, y1, rfl, ntp, rfl, ex, ey⟩
      rw [lrm] at hi
      have ex : ((roomsL fr ks)[i]?.map fun kv => kV kv.1) = some x1 := ex
      have ey : (roomsL fr ks)[i]?.map Prod.snd = some y1 := ey
      rw [rooms_get hi] at ex ey
      obtain rfl := Option.some.inj ex
      obtain rfl := Option.some.inj ey
      have u6 := Same.new (o := .tup [kV (Sum.inr ks[i]), V.int (roomV fr ks.length i)]) ntp
      have sv := shift_val (fr := fr) (xs := xs) (inn ks[i] (List.getElem_mem hi))
      have lc := c5.len
      have lc2 := certs_len (fr := fr) (xs := xs) (qs := qs) (ks := ks) i
      have ce := certs_succ fr xs qs ks i
      have cf : certF fr xs qs ks i = certO (shiftOf fr xs qs ks[i]) (roomV fr ks.length i) ks[i] := by
        unfold certF
        rw [getD_at hi]
      refine ⟨tp, _, rfl, SqT.of upd_same, rfl, _, _, rfl, _, _, rfl, rfl, ?_⟩
      have hS6 := u6 _ _ hS5
      have hR6 := u6 _ _ hR5
      have hF6 := u6 _ _ hF5
      have s6 := s5.trans u6
      have c6 := c5.same u6
      generalize upd H5 tp (.tup [kV (Sum.inr ks[i]), V.int (roomV fr ks.length i)]) = H6 at hS6 hR6 hF6 s6 c6 ⊢
      clear u6 ntp hS5 hR5 hF5 s5 c5
      generalize shiftOf fr xs qs ks[i] = sh at sv cf
      generalize roomV fr ks.length i = rm at cf ⊢
      have dg : DGet H6 S (.str ks[i]) (some (.int sh)) := sv ▸ DGet.k (k := Sum.inr ks[i]) hS6
      refine ⟨_, rfl, _, rfl, S, _, rfl, dg, _, _, rfl, rfl, _, rfl, ?_⟩
      have app : ∀ (t : Addr) (w : Str), upd H6 t (.tup [.str w, .str ks[i]]) F = some (.lst cs) → H6 t = none → certO sh rm ks[i] = some (w, ks[i]) →
          ∃ (a4 a5 : Option V) (cs' : List V), [some (.ref l), some (.ref k), some (.ref S), some (.ref F), some (V.str ks[i]), some (V.int rm)] = [some (.ref l), some (.ref k), some (.ref S), some (.ref F), a4, a5] ∧
            Same H (upd (upd H6 t (.tup [.str w, .str ks[i]])) F (.lst (cs ++ [.ref t]))) ∧ upd (upd H6 t (.tup [.str w, .str ks[i]])) F (.lst (cs ++ [.ref t])) S = some (.dK (shiftsL fr xs qs)) ∧ upd (upd H6 t (.tup [.str w, .str ks[i]])) F (.lst (cs ++ [.ref t])) R = some (.frz od (.dK (roomsL fr ks))) ∧
              upd (upd H6 t (.tup [.str w, .str ks[i]])) F (.lst (cs ++ [.ref t])) F = some (.lst cs') ∧ Certs (upd (upd H6 t (.tup [.str w, .str ks[i]])) F (.lst (cs ++ [.ref t]))) cs' (certsTo fr xs qs ks (i + 1)) := fun t w hFt nt e => by
        have ut := Same.new (o := .tup [.str w, .str ks[i]]) nt
        refine ⟨_, _, _, rfl, fun c o eo => ?_, ?_, ?_, upd_same, ?_⟩
        · rw [upd_ne (ne_of_none eo F0)]
          exact ut _ _ (s6 _ _ eo)
        · rw [upd_ne FS]
          exact ut _ _ hS6
        · rw [upd_ne RF.symm]
          exact ut _ _ hR6
        · rw [ce, cf, e]
          exact ((c6.same ut).snoc upd_same).updL hFt
      by_cases d0 : sh < 0
      · rw [decide_eq_true d0]
        refine iteT ⟨_, rfl, .inl ⟨rfl, _, SqL.of hF6⟩, _, rfl, Nat.le_of_ble_eq_true rfl, fun t nt => ⟨F, _, _, rfl, rfl, (Same.new nt) _ _ hF6, Nat.lt_of_lt_of_le (show cs.length < 1000 by omega) (by decide), ?_⟩⟩
        exact app t "low" ((Same.new nt) _ _ hF6) nt (if_pos d0)
      · rw [decide_eq_false d0]
        refine iteF ⟨_, rfl, _, rfl, S, _, rfl, dg, _, rfl, _, _, rfl, rfl, _, rfl, ?_⟩
        by_cases d1 : rm < sh
        · rw [decide_eq_true d1]
          refine iteT ⟨_, rfl, .inl ⟨rfl, _, SqL.of hF6⟩, _, rfl, Nat.le_of_ble_eq_true rfl, fun t nt => ⟨F, _, _, rfl, rfl, (Same.new nt) _ _ hF6, Nat.lt_of_lt_of_le (show cs.length < 1000 by omega) (by decide), ?_⟩⟩
          exact app t "high" ((Same.new nt) _ _ hF6) nt (by unfold certO; rw [if_neg d0, if_pos d1])
        · rw [decide_eq_false d1]
          have e0 : certO sh rm ks[i] = none := by unfold certO; rw [if_neg d0, if_neg d1]
          rw [e0] at cf
          rw [cf] at ce
          refine iteF ⟨_, _, cs, rfl, s6, hS6, hR6, hF6, ?_⟩
          rw [ce]
          show Certs H6 cs (certsTo fr xs qs ks i ++ [])
          rw [List.append_nil]
          exact c6
    · rintro σ H5 ⟨a4, a5, cs, rfl, s5, hS5, hR5, hF5, c5⟩
      rw [lrm] at c5
      exact ⟨_, rfl, h F cs H5 s5 F0 hF5 c5⟩
/-- the first certificate -/
def firstC (way : Int) (qs : List (Int × Str × Nat)) (xs : List Str) : Option (Str × Str) := (certsTo (frontB way qs) xs qs (knownL qs xs) (knownL qs xs).length).head?

end
end Own

set_option Elab.async false
set_option linter.all false
set_option maxRecDepth 100000
set_option maxHeartbeats 4000000
namespace Own
open PySem L2 ClX
local macro_rules | `(tactic| walk_at "v") => `(tactic| refine ⟨_, rfl, ?_⟩)
local macro_rules | `(tactic| walk_at "ii") => `(tactic| refine ⟨_, _, rfl, rfl, ?_⟩)
local macro_rules | `(tactic| walk_at "go") => `(tactic| repeat (first | refine ⟨_, rfl, ?_⟩ | refine ⟨_, _, rfl, rfl, ?_⟩ | refine addI ?_ | refine L2.iteT ?_ | refine L2.iteF ?_))

section
variable {P : Program} {w : World} {K : PySem.W.Frag} {mg : Str → Option Value} {base : Heap} {A : Ad}
/-! ### the range of an item's index -/
theorem rooms_val {fr : Bool} {ks : List Str} {i : Nat} (nd : ks.Nodup) (h : i < ks.length) : valV (roomsL fr ks) (Sum.inr ks[i]) = some (.int (roomV fr ks.length i)) := by
  have hl : (roomsL fr ks).length = ks.length := by
    unfold roomsL
    rw [List.length_map, List.length_range]
  have at' : ∀ j, (hj : j < ks.length) → (roomsL fr ks)[j]'(by omega) = (Sum.inr ks[j], V.int (roomV fr ks.length j)) := fun j hj => by
    have := rooms_get (fr := fr) hj
    rw [List.getElem?_eq_getElem (by omega)] at this
    exact Option.some.inj this
  have f : (roomsL fr ks).find? (fun kv => decide (kv.1 = Sum.inr ks[i])) = some (Sum.inr ks[i], V.int (roomV fr ks.length i)) := by
    refine List.find?_eq_some_iff_getElem.mpr ⟨decide_eq_true rfl, i, by omega, at' i h, fun j hj => ?_⟩
    rw [at' j (by omega)]
    have ne : ks[j] ≠ ks[i] := fun e => by
      have := (List.getElem_inj nd).mp e
      omega
    rw [decide_eq_false (fun z : (Sum.inr ks[j] : Key) = Sum.inr ks[i] => ne (Sum.inr.inj z))]
    rfl
  unfold valV
  rw [f]
  rfl
/-- the room of an item -/
def roomOf (way : Int) (qs : List (Int × Str × Nat)) (xs : List Str) (x : Str) : Int := roomV (frontB way qs) (knownL qs xs).length (ix (knownL qs xs) x)
def rangeOf (way : Int) (qs : List (Int × Str × Nat)) (xs : List Str) (x : Str) : Int × Int := if frontB way qs = true then ((ix xs x : Nat), (ix xs x : Nat) + roomOf way qs xs x) else ((ix xs x : Nat) - roomOf way qs xs x, (ix xs x : Nat))
def spRange (A : Ad) : Sp := fun vs H Q _ => ∃ (l k : Addr) (rs : List V) (way : Int) (qs : List (Int × Str × Nat)) (xs : List Str) (x : Str), vs = [.ref l, .ref k, .str x] ∧ H l = some (.lst rs) ∧ Rows A H rs qs ∧ LogQ way qs ∧ H k = some (.lst (xs.map V.str)) ∧ Items xs ∧ xs.length ≤ 60 ∧ (∀ x ∈ names qs, x ∈ xs) ∧ x ∈ names qs ∧
  ∀ (t : Addr) (H' : Hp), Same H H' → H t = none → H' t = some (.tup [.int (rangeOf way qs xs x).1, .int (rangeOf way qs xs x).2]) → Q (.ref t) H'
theorem len_index_range : ∀ vs H Q E, spRange A vs H Q E → vs.length = 3 := fun vs H Q E h => by
  obtain ⟨l, k, rs, way, qs, xs, x, rfl, _⟩ := h
  rfl
theorem body_index_range (T : Txt K mg A) : BodyX P w K mg base N_index_range "index_range" s_index_range A.f_index_range 5 (spRange A) := by
  intro cdv B up s H vs Q E hr h
  obtain ⟨l, k, rs, way, qs, xs, x, rfl, hl, rows, L, hk, ixs, lx, sub, mem, h⟩ := h
  refine ⟨_, (pss_cons (ps_expr (po_call (ok_check_log T) (hr.mono (by decide)) T.mg_check_log (pa_cons (pv 0) pa_nil)))
      (pss_cons (ps_expr (po_call (ok_check_known T) (hr.mono (by decide)) T.mg_check_known (pa_cons (pv 0) (pa_cons (pv 1) pa_nil))))
      (pss_cons (ps_set (i := 3) sc_index_range.nd rfl (Or.inl rfl) (po_call (ok_rooms_of T) (hr.mono (by decide)) T.mg_rooms_of (pa_cons (pv 0) (pa_cons (pv 1) pa_nil))))
      (pss_cons (ps_if (pt_cmp (pc_dnotin (Nat.lt_of_le_of_lt (Nat.add_le_add_left (show 1 ≤ 64 by decide) _) hr.units) (pv 2) (pv 3))) (pss_one (ps_raise rfl (takes_of rfl rfl rfl rfl) (pmk_own PySem.F.excBase_ValueError T.er_NoItem.xP T.mg_NoItem T.er_NoItem.kp (raises_own T.er_NoItem.bP T.er_NoItem.tP) rfl))) pss_nil)
      (pss_cons (ps_set (i := 4) sc_index_range.nd rfl (Or.inl rfl) (pe_bm PySem.F.plainAttrs_list PySem.F.slot_list_index PySem.F.type_list_index mt_index (pv 1) (pa_cons (pv 2) pa_nil)))
      (pss_cons (ps_if (pt_val (po_call (ok_is_fronted T) (hr.mono (by decide)) T.mg_is_fronted (pa_cons (pv 0) pa_nil))) (pss_one (ps_ret (pe_tup (pa_cons (pv 4) (pa_cons (pe_op op_addX (pv 4) (pe_dget (Nat.lt_of_le_of_lt (Nat.add_le_add_left (show 1 ≤ 64 by decide) _) hr.units) (pv 3) (pv 2) (fun _ _ => rfl))) pa_nil))))) pss_nil)
      (pss_one (ps_ret (pe_tup (pa_cons (pe_op op_sub (pv 4) (pe_dget (Nat.lt_of_le_of_lt (Nat.add_le_add_left (show 1 ≤ 64 by decide) _) hr.units) (pv 3) (pv 2) (fun _ _ => rfl))) (pa_cons (pv 4) pa_nil))))))))))), ?_⟩
  refine ⟨_, rfl, l, rs, way, qs, rfl, hl, rows, L, fun H1 s1 => ?_⟩
  refine ⟨_, rfl, _, rfl, l, k, rs, way, qs, xs, rfl, s1 _ _ hl, rows.same s1, L, s1 _ _ hk, ixs, lx, sub, fun H2 s2 => ?_⟩
  have S2 := s1.trans s2
  refine ⟨_, rfl, _, rfl, l, k, rs, way, qs, xs, rfl, S2 _ _ hl, rows.same S2, L, S2 _ _ hk, ixs, lx, fun D H3 s3 nD hD => ?_⟩
  have S3 := S2.trans s3
  have memk : x ∈ knownL qs xs := List.mem_filter.mpr ⟨sub x mem, decide_eq_true mem⟩
  obtain ⟨j1, j2, j3⟩ := ix_at memk
  obtain ⟨i1, i2, i3⟩ := ix_at (sub x mem)
  have ej : (knownL qs xs)[ix (knownL qs xs) x] = x := by
    have z := j2
    rw [List.getElem?_eq_getElem j1] at z
    exact Option.some.inj z
  have rv : valV (roomsL (frontB way qs) (knownL qs xs)) (Sum.inr x) = some (.int (roomOf way qs xs x)) := by
    have z := rooms_val (fr := frontB way qs) (ks := knownL qs xs) (ixs.nd.filter _) j1
    rw [ej] at z
    exact z
  have dg : DGet H3 D (.str x) (some (.int (roomOf way qs xs x))) := rv ▸ DGet.k (k := Sum.inr x) hD
  refine ⟨_, rfl, _, rfl, D, _, rfl, dg, _, rfl, iteF ?_⟩
  refine ⟨_, rfl, .inl ⟨rfl, _, SqL.of (S3 _ _ hk)⟩, _, rfl, k, _, _, ix xs x, _, rfl, rfl, SqL.of (S3 _ _ hk), rfl, flatS xs, ?_, (show eqV (.str x) (.str x) = true from beq_self_eq_true x), ?_, ?_⟩
  · rw [List.getElem?_map, i2]
    rfl
  · intro m z' hm hz
    rw [List.getElem?_map] at hz
    cases q : xs[m]? with
    | none => rw [q] at hz; cases hz
    | some z =>
      rw [q] at hz
      cases hz
      exact beq_false_of_ne (i3 m z hm q)
  refine ⟨_, rfl, l, rs, way, qs, rfl, S3 _ _ hl, rows.same S3, L, ?_⟩
  have re : rangeOf way qs xs x = if frontB way qs = true then (((ix xs x : Nat) : Int), (ix xs x : Nat) + roomOf way qs xs x) else ((ix xs x : Nat) - roomOf way qs xs x, ((ix xs x : Nat) : Int)) := rfl
  have fin : ∀ (t : Addr) (a b : Int), H3 t = none → rangeOf way qs xs x = (a, b) → Q (.ref t) (upd H3 t (.tup [.int a, .int b])) := fun t a b nt e => by
    refine h t _ (S3.trans (Same.new nt)) (none_same S3 nt) ?_
    rw [e]
    exact upd_same
  cases fb : frontB way qs with
  | true =>
    rw [fb, if_pos rfl] at re
    exact ⟨_, rfl, iteT ⟨_, rfl, _, rfl, _, rfl, _, rfl, D, _, rfl, dg, addI ⟨Nat.le_of_ble_eq_true rfl, fun t nt => fin t _ _ nt re⟩⟩⟩
  | false =>
    rw [fb, if_neg (by decide)] at re
    exact ⟨_, rfl, iteF ⟨_, rfl, _, rfl, _, rfl, D, _, rfl, dg, _, _, rfl, rfl, _, rfl, Nat.le_of_ble_eq_true rfl, fun t nt => fin t _ _ nt re⟩⟩
theorem ok_index_range (T : Txt K mg A) : OkX P w K mg base 6 A.f_index_range ["log", "items", "item"] (spRange A) := T.fn_index_range.okX sc_index_range (fun _ _ _ _ _ _ us hl => match us, hl with | [_, _, _], _ => rfl) len_index_range (body_index_range T)

end
end Own

set_option Elab.async false
set_option linter.all false
set_option maxRecDepth 100000
set_option maxHeartbeats 4000000
namespace Own
open PySem L2 ClX
local macro_rules | `(tactic| walk_at "v") => `(tactic| refine ⟨_, rfl, ?_⟩)
local macro_rules | `(tactic| walk_at "ii") => `(tactic| refine ⟨_, _, rfl, rfl, ?_⟩)
local macro_rules | `(tactic| walk_at "go") => `(tactic| repeat (first | refine ⟨_, rfl, ?_⟩ | refine ⟨_, _, rfl, rfl, ?_⟩ | refine addI ?_ | refine L2.iteT ?_ | refine L2.iteF ?_))

section
variable {P : Program} {w : World} {K : PySem.W.Frag} {mg : Str → Option Value} {base : Heap} {A : Ad}
/-! ### the indices that fit -/
def qsI (x : Str) (i : Nat) (qs : List (Int × Str × Nat)) : List (Int × Str × Nat) := qs.map fun q => (q.1, q.2.1, if q.2.1 = x then i else q.2.2)
theorem qsI_names (x : Str) (i : Nat) (qs : List (Int × Str × Nat)) : names (qsI x i qs) = names qs := by
  unfold names qsI
  rw [List.map_map]
  rfl
theorem qsI_known (x : Str) (i : Nat) (qs : List (Int × Str × Nat)) (xs : List Str) : knownL (qsI x i qs) xs = knownL qs xs := by
  unfold knownL
  rw [qsI_names]
theorem qsI_slot {x : Str} {i : Nat} {qs : List (Int × Str × Nat)} (h : x ∈ names qs) : slotOf (qsI x i qs) x = i := by
  unfold slotOf qsI
  rw [List.find?_map]
  have ef : (fun q : Int × Str × Nat => decide (q.2.1 = x)) ∘ (fun q : Int × Str × Nat => (q.1, q.2.1, if q.2.1 = x then i else q.2.2)) = fun q : Int × Str × Nat => decide (q.2.1 = x) := rfl
  rw [ef]
  cases e : qs.find? (fun q : Int × Str × Nat => decide (q.2.1 = x)) with
  | none =>
    obtain ⟨q, hq, eq⟩ := List.mem_map.mp h
    exact absurd (decide_eq_true eq) (List.find?_eq_none.mp e q hq)
  | some r =>
    have e2 : r.2.1 = x := of_decide_eq_true (show decide (r.2.1 = x) = true from List.find?_some (p := fun q : Int × Str × Nat => decide (q.2.1 = x)) e)
    show (if r.2.1 = x then i else r.2.2) = i
    rw [if_pos e2]
def shI (kind : Int) (xs : List Str) (x : Str) (i : Nat) : Int := if decide (kind = 2) = true then (i : Int) - ((ix xs x : Nat) : Int) else ((ix xs x : Nat) : Int) - (i : Int)
def roomI (kind : Int) (qs : List (Int × Str × Nat)) (xs : List Str) (x : Str) : Int := roomV (decide (kind = 2)) (knownL qs xs).length (ix (knownL qs xs) x)
def fitB (kind : Int) (qs : List (Int × Str × Nat)) (xs : List Str) (x : Str) (i : Nat) : Bool := decide (0 ≤ shI kind xs x i) && decide (shI kind xs x i ≤ roomI kind qs xs x)
def fitL (kind : Int) (qs : List (Int × Str × Nat)) (xs : List Str) (x : Str) (n : Nat) : List Nat := (List.range n).filter (fitB kind qs xs x)
def vN (l : List Nat) : List V := l.map fun i => V.int (i : Nat)

/-! ### ranges, as numbers -/
theorem ix_filter (p : Str → Bool) (x : Str) (hp : p x = true) : ∀ xs : List Str, x ∈ xs → ix (xs.filter p) x ≤ ix xs x ∧ (xs.filter p).length + ix xs x ≤ xs.length + ix (xs.filter p) x
  | [], h => by cases h
  | y :: ys, h => by
    unfold ix
    by_cases e : y = x
    · subst e
      rw [List.filter_cons_of_pos hp, List.idxOf_cons_self, List.idxOf_cons_self]
      have := List.length_filter_le p ys
      simp only [List.length_cons]
      omega
    · have h2 : x ∈ ys := (List.mem_cons.mp h).resolve_left fun z => e z.symm
      have ih := ix_filter p x hp ys h2
      unfold ix at ih
      have e1 : (y :: ys).idxOf x = ys.idxOf x + 1 := by
        rw [List.idxOf_cons, beq_false_of_ne e]
        rfl
      rw [e1]
      cases hy : p y with
      | true =>
        rw [List.filter_cons_of_pos hy]
        have e2 : (y :: ys.filter p).idxOf x = (ys.filter p).idxOf x + 1 := by
          rw [List.idxOf_cons, beq_false_of_ne e]
          rfl
        rw [e2]
        simp only [List.length_cons]
        omega
      | false =>
        rw [List.filter_cons_of_neg (by rw [hy]; decide)]
        simp only [List.length_cons]
        omega
theorem front_mem {kind : Int} {qs : List (Int × Str × Nat)} {x : Str} (h : x ∈ names qs) : frontB kind qs = decide (kind = 2) := by
  unfold frontB
  refine decide_eq_decide.mpr ⟨fun z => z.2, fun z => ⟨fun e => ?_, z⟩⟩
  rw [e] at h
  cases h
structure Rng (kind : Int) (qs : List (Int × Str × Nat)) (xs : List Str) (x : Str) (lo hi : Nat) : Prop where
  e : rangeOf kind qs xs x = ((lo : Int), (hi : Int))
  le : lo ≤ hi
  h60 : hi ≤ 60
  fit : ∀ i, fitB kind qs xs x i = (decide (lo ≤ i) && decide (i ≤ hi))
theorem rng_of {kind : Int} {qs : List (Int × Str × Nat)} {xs : List Str} {x : Str} (mx : x ∈ names qs) (mxx : x ∈ xs) (lx : xs.length ≤ 60) : ∃ lo hi, Rng kind qs xs x lo hi := by
  have hp : decide (x ∈ names qs) = true := decide_eq_true mx
  obtain ⟨a, b⟩ := ix_filter (fun x => decide (x ∈ names qs)) x hp xs mxx
  have memk : x ∈ knownL qs xs := List.mem_filter.mpr ⟨mxx, hp⟩
  obtain ⟨j1, _, _⟩ := ix_at memk
  obtain ⟨i1, _, _⟩ := ix_at mxx
  have fr := front_mem (kind := kind) mx
  have a : ix (knownL qs xs) x ≤ ix xs x := a
  have b : (knownL qs xs).length + ix xs x ≤ xs.length + ix (knownL qs xs) x := b
  by_cases k2 : kind = 2
  · refine ⟨ix xs x, ix xs x + ((knownL qs xs).length - 1 - ix (knownL qs xs) x), ?_, by omega, by omega, fun i => ?_⟩
    · unfold rangeOf roomOf roomV
      rw [fr, decide_eq_true k2, if_pos rfl, if_pos rfl]
      refine Prod.ext rfl ?_
      show ((ix xs x : Nat) : Int) + _ = _
      omega
    · unfold fitB shI roomI roomV
      rw [decide_eq_true k2, if_pos rfl, if_pos rfl]
      refine congr (congrArg _ ?_) ?_
      · exact decide_eq_decide.mpr ⟨fun z => by omega, fun z => by omega⟩
      · exact decide_eq_decide.mpr ⟨fun z => by omega, fun z => by omega⟩
  · refine ⟨ix xs x - ix (knownL qs xs) x, ix xs x, ?_, by omega, by omega, fun i => ?_⟩
    · unfold rangeOf roomOf roomV
      rw [fr, decide_eq_false k2, if_neg (by decide), if_neg (by decide)]
      refine Prod.ext ?_ rfl
      show ((ix xs x : Nat) : Int) - _ = _
      omega
    · unfold fitB shI roomI roomV
      rw [decide_eq_false k2, if_neg (by decide), if_neg (by decide)]
      rw [Bool.and_comm]
      refine congr (congrArg _ ?_) ?_
      · exact decide_eq_decide.mpr ⟨fun z => by omega, fun z => by omega⟩
      · exact decide_eq_decide.mpr ⟨fun z => by omega, fun z => by omega⟩
/-- the fitting indices are a range -/
theorem range_filter (lo hi : Nat) : ∀ n, hi < n → (List.range n).filter (fun i => decide (lo ≤ i) && decide (i ≤ hi)) = List.range' lo (hi + 1 - lo)
  | 0, h => by omega
  | n + 1, h => by
    rw [List.range_succ, List.filter_append, List.filter_cons, List.filter_nil]
    by_cases c : hi < n
    · rw [range_filter lo hi n c, decide_eq_false (show ¬ n ≤ hi by omega), Bool.and_false, if_neg (by decide), List.append_nil]
    · have e : hi = n := by omega
      subst e
      have all : ∀ m, m ≤ hi → (List.range m).filter (fun i => decide (lo ≤ i) && decide (i ≤ hi)) = List.range' lo (m - lo) := fun m => by
        induction m with
        | zero => intro _; rw [Nat.zero_sub]; rfl
        | succ m ih =>
          intro hm
          rw [List.range_succ, List.filter_append, List.filter_cons, List.filter_nil, ih (by omega), decide_eq_true (show m ≤ hi by omega), Bool.and_true]
          by_cases d : lo ≤ m
          · rw [if_pos (decide_eq_true d), show m + 1 - lo = (m - lo) + 1 by omega, List.range'_1_concat, show lo + (m - lo) = m by omega]
          · rw [if_neg (by rw [decide_eq_false d]; decide), show m - lo = 0 by omega, show m + 1 - lo = 0 by omega, List.append_nil]
      rw [all hi (Nat.le_refl _)]
      by_cases d : lo ≤ hi
      · rw [decide_eq_true d, decide_eq_true (Nat.le_refl hi), Bool.and_self, if_pos rfl, show hi + 1 - lo = (hi - lo) + 1 by omega, List.range'_1_concat, show lo + (hi - lo) = hi by omega]
      · rw [decide_eq_false d, Bool.false_and, if_neg (by decide), show hi - lo = 0 by omega, show hi + 1 - lo = 0 by omega, List.append_nil]
theorem Rng.fits {kind : Int} {qs : List (Int × Str × Nat)} {xs : List Str} {x : Str} {lo hi : Nat} (r : Rng kind qs xs x lo hi) : fitL kind qs xs x 61 = List.range' lo (hi + 1 - lo) := by
  unfold fitL
  have e : fitB kind qs xs x = fun i => decide (lo ≤ i) && decide (i ≤ hi) := funext r.fit
  rw [e]
  exact range_filter lo hi 61 (by have := r.h60; omega)
/-- no certificate: every index fits -/
theorem shift_fit {kind : Int} {qs : List (Int × Str × Nat)} {xs : List Str} {x : Str} : shI kind xs x (slotOf qs x) = shiftOf (decide (kind = 2)) xs qs x := rfl
theorem cert_none {sh rm : Int} {x : Str} : certO sh rm x = none ↔ 0 ≤ sh ∧ sh ≤ rm := by
  unfold certO
  by_cases a : sh < 0
  · rw [if_pos a]
    exact ⟨(fun z => by cases z), (fun z => by omega)⟩
  · rw [if_neg a]
    by_cases b : rm < sh
    · rw [if_pos b]
      exact ⟨(fun z => by cases z), (fun z => by omega)⟩
    · rw [if_neg b]
      exact ⟨fun _ => by omega, fun _ => rfl⟩
theorem first_none {kind : Int} {qs : List (Int × Str × Nat)} {xs : List Str} (ixs : Items xs) (sub : ∀ x ∈ names qs, x ∈ xs) : firstC kind qs xs = none ↔ ∀ x ∈ names qs, fitB kind qs xs x (slotOf qs x) = true := by
  have ndk : (knownL qs xs).Nodup := ixs.nd.filter _
  have one : ∀ x ∈ names qs, ∃ b, ∃ h : b < (knownL qs xs).length, (knownL qs xs)[b] = x ∧ ix (knownL qs xs) x = b := fun x hx => by
    have memk : x ∈ knownL qs xs := List.mem_filter.mpr ⟨sub x hx, decide_eq_true hx⟩
    obtain ⟨j1, j2, _⟩ := ix_at memk
    rw [List.getElem?_eq_getElem j1] at j2
    exact ⟨_, j1, Option.some.inj j2, rfl⟩
  have fitC : ∀ b, (h : b < (knownL qs xs).length) → (certF (frontB kind qs) xs qs (knownL qs xs) b = none ↔ fitB kind qs xs (knownL qs xs)[b] (slotOf qs (knownL qs xs)[b]) = true) := fun b h => by
    have mem := (List.mem_filter.mp (List.getElem_mem h))
    have mx : (knownL qs xs)[b] ∈ names qs := of_decide_eq_true mem.2
    have eb : ix (knownL qs xs) (knownL qs xs)[b] = b := by
      obtain ⟨b', h', e1, e2⟩ := one _ mx
      rw [e2]
      exact (List.getElem_inj ndk).mp e1
    unfold certF
    rw [getD_at h, cert_none, front_mem mx]
    unfold fitB roomI
    rw [shift_fit, eb]
    simp only [Bool.and_eq_true, decide_eq_true_eq]
  unfold firstC
  rw [List.head?_eq_none_iff]
  unfold certsTo
  rw [List.filterMap_eq_nil_iff]
  constructor
  · intro all x hx
    obtain ⟨b, h, e1, _⟩ := one x hx
    have z := (fitC b h).mp (all b (List.mem_range.mpr h))
    rw [e1] at z
    exact z
  · intro all b hb
    have h := List.mem_range.mp hb
    exact (fitC b h).mpr (all _ (of_decide_eq_true (List.mem_filter.mp (List.getElem_mem h)).2))

def rgN (kind : Int) (qs : List (Int × Str × Nat)) (xs : List Str) (x : Str) : Nat × Nat := ((rangeOf kind qs xs x).1.toNat, (rangeOf kind qs xs x).2.toNat)
theorem rgN_ok {kind : Int} {qs : List (Int × Str × Nat)} {xs : List Str} {x : Str} (mx : x ∈ names qs) (mxx : x ∈ xs) (lx : xs.length ≤ 60) : Rng kind qs xs x (rgN kind qs xs x).1 (rgN kind qs xs x).2 := by
  obtain ⟨lo, hi, r⟩ := rng_of (kind := kind) mx mxx lx
  have e : rgN kind qs xs x = (lo, hi) := by
    unfold rgN
    rw [r.e]
    rfl
  rw [e]
  exact r
theorem known_perm {qs rs : List (Int × Str × Nat)} {xs : List Str} (h : (names qs).Perm (names rs)) : knownL qs xs = knownL rs xs := by
  unfold knownL
  exact List.filter_congr fun x _ => decide_eq_decide.mpr h.mem_iff
theorem range_perm {kind : Int} {qs rs : List (Int × Str × Nat)} {xs : List Str} {x : Str} (h : (names qs).Perm (names rs)) (mx : x ∈ names qs) : rangeOf kind qs xs x = rangeOf kind rs xs x := by
  unfold rangeOf roomOf
  rw [front_mem mx, front_mem (h.mem_iff.mp mx), known_perm h]
theorem rgN_perm {kind : Int} {qs rs : List (Int × Str × Nat)} {xs : List Str} {x : Str} (h : (names qs).Perm (names rs)) (mx : x ∈ names qs) : rgN kind qs xs x = rgN kind rs xs x := by
  unfold rgN
  rw [range_perm h mx]
theorem Rng.perm {kind : Int} {qs rs : List (Int × Str × Nat)} {xs : List Str} {x : Str} {lo hi : Nat} (r : Rng kind qs xs x lo hi) (h : (names qs).Perm (names rs)) (mx : x ∈ names qs) : Rng kind rs xs x lo hi := by
  refine ⟨by rw [← range_perm h mx]; exact r.e, r.le, r.h60, fun i => ?_⟩
  rw [← r.fit i]
  unfold fitB roomI
  rw [known_perm h]
/-- the items without a fitting index -/
def wrongL (kind : Int) (qs : List (Int × Str × Nat)) (xs : List Str) : List Str := (knownL qs xs).filter fun x => !fitB kind qs xs x (slotOf qs x)
theorem certs_wrong {kind : Int} {qs : List (Int × Str × Nat)} {xs : List Str} (ixs : Items xs) : (certsTo (frontB kind qs) xs qs (knownL qs xs) (knownL qs xs).length).map (·.2) = wrongL kind qs xs := by
  have ndk : (knownL qs xs).Nodup := ixs.nd.filter _
  have all : ∀ n, n ≤ (knownL qs xs).length → (certsTo (frontB kind qs) xs qs (knownL qs xs) n).map (·.2) = ((knownL qs xs).take n).filter fun x => !fitB kind qs xs x (slotOf qs x) := fun n => by
    induction n with
    | zero => intro _; rfl
    | succ n ih =>
      intro h
      have hn : n < (knownL qs xs).length := by omega
      have mem := (List.mem_filter.mp (List.getElem_mem hn))
      have mx : (knownL qs xs)[n] ∈ names qs := of_decide_eq_true mem.2
      have memk : (knownL qs xs)[n] ∈ knownL qs xs := List.getElem_mem hn
      obtain ⟨j1, j2, _⟩ := ix_at memk
      rw [List.getElem?_eq_getElem j1] at j2
      have en : ix (knownL qs xs) (knownL qs xs)[n] = n := (List.getElem_inj ndk).mp (Option.some.inj j2)
      unfold certsTo at ih ⊢
      rw [List.range_succ, List.filterMap_append, List.map_append, ih (by omega), List.take_add_one, List.getElem?_eq_getElem hn, List.filter_append]
      congr 1
      have fitC : certF (frontB kind qs) xs qs (knownL qs xs) n = none ↔ fitB kind qs xs (knownL qs xs)[n] (slotOf qs (knownL qs xs)[n]) = true := by
        unfold certF
        rw [getD_at hn, cert_none, front_mem mx]
        unfold fitB roomI
        rw [shift_fit, en]
        simp only [Bool.and_eq_true, decide_eq_true_eq]
      cases ec : certF (frontB kind qs) xs qs (knownL qs xs) n with
      | none =>
        rw [List.filterMap_cons_none ec]
        show [] = List.filter _ [(knownL qs xs)[n]]
        rw [List.filter_cons_of_neg (by rw [fitC.mp ec]; decide)]
        rfl
      | some c =>
        rw [List.filterMap_cons_some ec]
        have nf : fitB kind qs xs (knownL qs xs)[n] (slotOf qs (knownL qs xs)[n]) = false := by
          cases e : fitB kind qs xs (knownL qs xs)[n] (slotOf qs (knownL qs xs)[n]) with
          | false => rfl
          | true => rw [fitC.mpr e] at ec; cases ec
        have c2 : c.2 = (knownL qs xs)[n] := by
          unfold certF certO at ec
          rw [getD_at hn] at ec
          split at ec
          · rw [← Option.some.inj ec]
          · split at ec
            · rw [← Option.some.inj ec]
            · cases ec
        show [c.2] = List.filter _ [(knownL qs xs)[n]]
        rw [List.filter_cons_of_pos (by rw [nf]; rfl), c2]
        rfl
  have z := all _ (Nat.le_refl _)
  rw [List.take_length] at z
  exact z

end
end Own

set_option Elab.async false
set_option linter.all false
set_option maxRecDepth 100000
set_option maxHeartbeats 4000000
namespace Own
open PySem L2 ClX
local macro_rules | `(tactic| walk_at "v") => `(tactic| refine ⟨_, rfl, ?_⟩)
local macro_rules | `(tactic| walk_at "ii") => `(tactic| refine ⟨_, _, rfl, rfl, ?_⟩)
local macro_rules | `(tactic| walk_at "go") => `(tactic| repeat (first | refine ⟨_, rfl, ?_⟩ | refine ⟨_, _, rfl, rfl, ?_⟩ | refine addI ?_ | refine L2.iteT ?_ | refine L2.iteF ?_))

section
variable {P : Program} {w : World} {K : PySem.W.Frag} {mg : Str → Option Value} {base : Heap} {A : Ad}
theorem Rows.snoc {H : Hp} {vs : List V} {ps : List (Int × Str × Nat)} {p dx : Addr} {way : Int} {x : Str} {n : Nat} (h : Rows A H vs ps) (e : H p = some (.ins (cw A way) dx (rfs x n))) (h0 : 0 ≤ way) (h1 : way < 3) (hx : isItem x = true) : Rows A H (vs ++ [.ref p]) (ps ++ [(way, x, n)]) := by
  induction h with
  | nil => exact .cons e h0 h1 hx .nil
  | cons e' a b c _ ih => exact .cons e' a b c ih
theorem Rows.updL {H : Hp} {vs us : List V} {ps : List (Int × Str × Nat)} {D : Addr} {o : HO} (h : Rows A H vs ps) (hD : H D = some (.lst us)) : Rows A (upd H D o) vs ps := by
  induction h with
  | nil => exact .nil
  | @cons p dx way x n vs ps e a b c _ ih =>
    refine .cons (dx := dx) ?_ a b c ih
    rw [upd_ne (fun z => by rw [z, hD] at e; cases e)]
    exact e

/-! ### the nearest indices, the wrong items -/
def spRecOf (A : Ad) : Sp := fun vs H Q _ => ∃ (way n : Int) (x : Str), vs = [.str (signW way), .str x, .int n] ∧ 0 ≤ way ∧ way ≤ 2 ∧ isItem x = true ∧ 0 ≤ n ∧ n ≤ 60 ∧
  ∀ (p dx : Addr) (H' : Hp), Same H H' → H p = none → H' p = some (.ins (cw A way) dx (rfs x n)) → Q (.ref p) H'
theorem ok_record_of (T : Txt K mg A) : Ok1 P w K mg base 5 A.f_record_of ["sign", "item", "slot"] (spRecOf A) := by
  refine T.fn_record_of.ok sc_record_of (fun _ _ _ _ _ _ us hl => match us, hl with | [_, _, _], _ => rfl) (fun vs H Q E h => ?_) (fun cdv B up s H vs Q E hr h => ?_)
  · obtain ⟨way, n, x, rfl, _⟩ := h
    rfl
  · obtain ⟨way, n, x, rfl, w0, w1, hi, h0, h1, h⟩ := h
    refine ⟨_, (pss_cons (ps_if (pt_cmpR (op_eqX hr) (pv 0) (pe_clsv T.cv_Inserted_SIGN (pe_glob (v := .ref A.c_Inserted) rfl T.mg_Inserted rfl)) (nomark _)) (pss_one (ps_ret (po_make T.mk_Inserted (ok_Record___init__ T) (hr.mono (by decide)) T.mg_Inserted (pa_cons (pv 1) (pa_cons (pv 2) pa_nil))))) pss_nil)
      (pss_cons (ps_if (pt_cmpR (op_eqX hr) (pv 0) (pe_clsv T.cv_Removed_SIGN (pe_glob (v := .ref A.c_Removed) rfl T.mg_Removed rfl)) (nomark _)) (pss_one (ps_ret (po_make T.mk_Removed (ok_Record___init__ T) (hr.mono (by decide)) T.mg_Removed (pa_cons (pv 1) (pa_cons (pv 2) pa_nil))))) pss_nil)
      (pss_one (ps_ret (po_make T.mk_Fronted (ok_Record___init__ T) (hr.mono (by decide)) T.mg_Fronted (pa_cons (pv 1) (pa_cons (pv 2) pa_nil))))))), ?_⟩
    rcases (show way = 0 ∨ way = 1 ∨ way = 2 by omega) with rfl | rfl | rfl
    · refine ⟨_, rfl, eqS rfl ⟨_, rfl, ?_⟩⟩
      rw [show decide (V.str (signW 0) = V.str "+") = true by decide +kernel]
      exact iteT ⟨_, rfl, _, rfl, fun p dx np nd ne => ⟨p, _, dx, x, n, rfl, upd_same, rc_Inserted T, hi, h0, h1, fun H' e b => ⟨rfl, h p dx H' (made_same np nd b) np e⟩⟩⟩
    · refine ⟨_, rfl, eqS rfl ⟨_, rfl, ?_⟩⟩
      rw [show decide (V.str (signW 1) = V.str "+") = false by decide +kernel]
      refine iteF ⟨_, rfl, eqS rfl ⟨_, rfl, ?_⟩⟩
      rw [show decide (V.str (signW 1) = V.str "-") = true by decide +kernel]
      exact iteT ⟨_, rfl, _, rfl, fun p dx np nd ne => ⟨p, _, dx, x, n, rfl, upd_same, rc_Removed T, hi, h0, h1, fun H' e b => ⟨rfl, h p dx H' (made_same np nd b) np e⟩⟩⟩
    · refine ⟨_, rfl, eqS rfl ⟨_, rfl, ?_⟩⟩
      rw [show decide (V.str (signW 2) = V.str "+") = false by decide +kernel]
      refine iteF ⟨_, rfl, eqS rfl ⟨_, rfl, ?_⟩⟩
      rw [show decide (V.str (signW 2) = V.str "-") = false by decide +kernel]
      exact iteF ⟨_, rfl, _, rfl, fun p dx np nd ne => ⟨p, _, dx, x, n, rfl, upd_same, rc_Fronted T, hi, h0, h1, fun H' e b => ⟨rfl, h p dx H' (made_same np nd b) np e⟩⟩⟩
def spWrong (A : Ad) : Sp := fun vs H Q _ => ∃ (l k : Addr) (rs : List V) (way : Int) (qs : List (Int × Str × Nat)) (xs : List Str), vs = [.ref l, .ref k] ∧ H l = some (.lst rs) ∧ Rows A H rs qs ∧ LogQ way qs ∧ H k = some (.lst (xs.map V.str)) ∧ Items xs ∧ xs.length ≤ 60 ∧ (∀ x ∈ names qs, x ∈ xs) ∧
  ∀ (D : Addr) (H' : Hp), Same H H' → H D = none → H' D = some (.lst ((wrongL way qs xs).map V.str)) → Q (.ref D) H'
theorem Certs.get {H : Hp} {vs : List V} {cs : List (Str × Str)} (h : Certs H vs cs) : ∀ {i : Nat} {v : V}, vs[i]? = some v → ∃ t a b, v = .ref t ∧ cs[i]? = some (a, b) ∧ H t = some (.tup [.str a, .str b]) := by
  induction h with
  | nil => intro i v e; cases e
  | cons e _ ih =>
    intro i v ev
    cases i with
    | zero => cases ev; exact ⟨_, _, _, rfl, rfl, e⟩
    | succ i => exact ih ev
theorem len_wrong_items : ∀ vs H Q E, spWrong A vs H Q E → vs.length = 2 := fun vs H Q E h => by
  obtain ⟨l, k, rs, way, qs, xs, rfl, _⟩ := h
  rfl
theorem body_wrong_items (T : Txt K mg A) : BodyX P w K mg base N_wrong_items "wrong_items" s_wrong_items A.f_wrong_items 5 (spWrong A) := by
  intro cdv B up s H vs Q E hr h
  · obtain ⟨l, k, rs, way, qs, xs, rfl, hl, rows, L, hk, ixs, lx, sub, h⟩ := h
    refine ⟨_, (pss_cons (ps_expr (po_call (ok_check_log T) (hr.mono (by decide)) T.mg_check_log (pa_cons (pv 0) pa_nil)))
      (pss_cons (ps_expr (po_call (ok_check_known T) (hr.mono (by decide)) T.mg_check_known (pa_cons (pv 0) (pa_cons (pv 1) pa_nil))))
      (pss_one (ps_ret (pe_lcD (own := [("_", 2), ("item", 3)]) rfl sc_wrong_items.nd (pi_list (po_call (ok_certificates T) (hr.mono (by decide)) T.mg_certificates (pa_cons (pv 0) (pa_cons (pv 1) pa_nil)))) (blkOk_by (N := N_wrong_items) (sc := defScope s_wrong_items) (by decide +kernel)) (fun _ _ _ _ _ => pg_tup (by rfl) (pgs_cons (pg_name (i := 2) sc_wrong_items.nd rfl (Or.inl rfl)) (pgs_cons (pg_name (i := 3) sc_wrong_items.nd rfl (Or.inl rfl)) pgs_nil))) (fun _ _ _ _ _ => pts_nil) (fun _ _ _ _ _ => (pv 3))))))), ?_⟩
    refine ⟨_, rfl, l, rs, way, qs, rfl, hl, rows, L, fun H1 s1 => ?_⟩
    refine ⟨_, rfl, _, rfl, l, k, rs, way, qs, xs, rfl, s1 _ _ hl, rows.same s1, L, s1 _ _ hk, ixs, lx, sub, fun H2 s2 => ?_⟩
    have S2 := s1.trans s2
    refine ⟨_, rfl, _, rfl, l, k, rs, way, qs, xs, rfl, S2 _ _ hl, rows.same S2, L, S2 _ _ hk, ixs, lx, sub, fun C cs H3 s3 nC hC cC => ?_⟩
    have S3 := S2.trans s3
    have lc := cC.len
    have ll : (knownL qs xs).length ≤ 60 := Nat.le_trans (List.length_filter_le _ _) lx
    have lz := certs_len (fr := frontB way qs) (xs := xs) (qs := qs) (ks := knownL qs xs) (knownL qs xs).length
    generalize hcs : certsTo (frontB way qs) xs qs (knownL qs xs) (knownL qs xs).length = zs at cC lc lz
    refine ⟨C, rfl, ⟨_, SqL.of hC⟩, fun D nD => ?_⟩
    refine lc_list (K := K) (a := C) (xs := cs) (fun i H' => Same H3 H' ∧ H' D = some (.lst (((zs.take i).map (·.2)).map V.str))) ?_ ?_ ?_ ?_
    · exact ⟨Same.new nD, upd_same⟩
    · rintro i H4 _ ⟨s4, _⟩
      exact SqL.of (s4 _ _ hC)
    · rintro i y H4 hy ⟨s4, h4⟩
      obtain ⟨t, a, b, rfl, hq, ht⟩ := cC.get hy
      refine ⟨_, _, rfl, SqT.of (s4 _ _ ht), rfl, _, _, rfl, _, _, rfl, rfl, rfl, _, rfl, _, h4, ?_, fun c o eo => ?_, ?_⟩
      · rw [List.length_map, List.length_map, List.length_take]
        exact Nat.lt_of_lt_of_le (show _ < 1000 by omega) (by decide)
      · rw [upd_ne (ne_of_none eo nD)]
        exact s4 _ _ eo
      · rw [upd_same, List.take_add_one, hq, List.map_append, List.map_append]
        rfl
    · rintro H4 ⟨s4, h4⟩
      rw [lc, List.take_length, ← hcs, certs_wrong ixs] at h4
      exact h D H4 (S3.trans s4) (none_same S3 nD) h4
theorem ok_wrong_items (T : Txt K mg A) : OkX P w K mg base 6 A.f_wrong_items ["log", "items"] (spWrong A) := T.fn_wrong_items.okX sc_wrong_items (fun _ _ _ _ _ _ us hl => match us, hl with | [_, _], _ => rfl) len_wrong_items (body_wrong_items T)
theorem okS_wrong_items (T : Txt K mg A) : OkXS P w K mg base 6 A.f_wrong_items ["log", "items"] ["items", "log"] (spWrong A) := T.fn_wrong_items.okXS sc_wrong_items (fun _ _ _ _ _ _ _ _ => rfl) len_wrong_items (body_wrong_items T)
/-- the nearest number from lo to hi -/
def clampN (r : Nat × Nat) (n : Nat) : Nat := if n < r.1 then r.1 else if r.2 < n then r.2 else n
def spNear (A : Ad) : Sp := fun vs H Q _ => ∃ (l k p dx : Addr) (rs : List V) (way w : Int) (qs : List (Int × Str × Nat)) (xs : List Str) (x : Str) (n : Nat), vs = [.ref l, .ref k, .ref p] ∧ H l = some (.lst rs) ∧ Rows A H rs qs ∧ LogQ way qs ∧ H k = some (.lst (xs.map V.str)) ∧ Items xs ∧ xs.length ≤ 60 ∧ (∀ x ∈ names qs, x ∈ xs) ∧
  H p = some (.ins (cw A w) dx (rfs x n)) ∧ 0 ≤ w ∧ w < 3 ∧ x ∈ names qs ∧ ∀ H' : Hp, Same H H' → Q (.int (clampN (rgN way qs xs x) n : Nat)) H'
theorem ok_nearest_slot (T : Txt K mg A) : Ok1 P w K mg base 7 A.f_nearest_slot ["log", "items", "record"] (spNear A) := by
  refine T.fn_nearest_slot.ok sc_nearest_slot (fun _ _ _ _ _ _ us hl => match us, hl with | [_, _, _], _ => rfl) (fun vs H Q E h => ?_) (fun cdv B up s H vs Q E hr h => ?_)
  · obtain ⟨l, k, p, dx, rs, way, w, qs, xs, x, n, rfl, _⟩ := h
    rfl
  · obtain ⟨l, k, p, dx, rs, way, w, qs, xs, x, n, rfl, hl, rows, L, hk, ixs, lx, sub, hp, w0, w1, mx, h⟩ := h
    refine ⟨_, (pss_cons (ps_asg (px_call (ok_index_range T) (fun _ => atL) (hr.mono (by decide)) T.mg_index_range (pa_cons (pv 0) (pa_cons (pv 1) (pa_cons (po_propD (p := A.p_Record_item) (ok_Record_item T) (hr.mono (by decide)) (pv 2)) pa_nil)))) (pg_tup (by rfl) (pgs_cons (pg_name (i := 3) sc_nearest_slot.nd rfl (Or.inl rfl)) (pgs_cons (pg_name (i := 4) sc_nearest_slot.nd rfl (Or.inl rfl)) pgs_nil))))
      (pss_one (ps_ret (pe_callB (call_max2 rfl) (by rfl) T.no_max (by decide +kernel) (pa_cons (pv 3) (pa_cons (pe_callB (call_min2 rfl) (by rfl) T.no_min (by decide +kernel) (pa_cons (po_propD (p := A.p_Record_slot) (ok_Record_slot T) (hr.mono (by decide)) (pv 2)) (pa_cons (pv 4) pa_nil))) pa_nil)))))), ?_⟩
    have cl := (kd_of T w0 (by omega)).rc.cl
    have r := rgN_ok (kind := way) mx (sub _ mx) lx
    refine ⟨_, rfl, _, rfl, _, rfl, p, _, dx, _, rfl, hp, cl, prop_item T w0 (by omega), p, dx, w, x, n, rfl, hp, w0, by omega, ?_⟩
    refine ⟨l, k, rs, way, qs, xs, x, rfl, hl, rows, L, hk, ixs, lx, sub, mx, fun t H1 s1 nt ht => ?_⟩
    rw [r.e] at ht
    refine ⟨t, _, rfl, SqT.of ht, rfl, _, _, rfl, _, _, rfl, rfl, ?_⟩
    refine ⟨_, rfl, _, rfl, p, _, dx, _, rfl, s1 _ _ hp, cl, prop_slot T w0 (by omega), p, dx, w, x, n, rfl, s1 _ _ hp, w0, by omega, _, rfl, _, _, rfl, _, _, rfl, ?_⟩
    have z := h H1 s1
    have hle := r.le
    have e : (((clampN (rgN way qs xs x) n : Nat)) : Int) = (if (if (((rgN way qs xs x).2 : Nat) : Int) < (n : Int) then (((rgN way qs xs x).2 : Nat) : Int) else (n : Int)) > (((rgN way qs xs x).1 : Nat) : Int) then (if (((rgN way qs xs x).2 : Nat) : Int) < (n : Int) then (((rgN way qs xs x).2 : Nat) : Int) else (n : Int)) else (((rgN way qs xs x).1 : Nat) : Int)) := by
      unfold clampN
      (repeat' split) <;> omega
    rw [e] at z
    exact z
/-- the log with the nearest indices -/
def nearL (way : Int) (qs : List (Int × Str × Nat)) (xs : List Str) : List (Int × Str × Nat) := qs.map fun q => (q.1, q.2.1, clampN (rgN way qs xs q.2.1) q.2.2)
theorem clamp_le {r : Nat × Nat} {n : Nat} (h : r.1 ≤ 60) (h2 : r.2 ≤ 60) (hn : n ≤ 60) : clampN r n ≤ 60 := by
  unfold clampN
  (repeat' split) <;> omega
def spNearest (A : Ad) : Sp := fun vs H Q _ => ∃ (l k : Addr) (rs : List V) (way : Int) (qs : List (Int × Str × Nat)) (xs : List Str), vs = [.ref l, .ref k] ∧ H l = some (.lst rs) ∧ Rows A H rs qs ∧ LogQ way qs ∧ H k = some (.lst (xs.map V.str)) ∧ Items xs ∧ xs.length ≤ 60 ∧ (∀ x ∈ names qs, x ∈ xs) ∧
  ∀ (D : Addr) (us : List V) (H' : Hp), Same H H' → H D = none → H' D = some (.lst us) → Rows A H' us (nearL way qs xs) → (∀ v ∈ us, ∃ a, v = .ref a ∧ H a = none) → Q (.ref D) H'
theorem len_nearest : ∀ vs H Q E, spNearest A vs H Q E → vs.length = 2 := fun vs H Q E h => by
  obtain ⟨l, k, rs, way, qs, xs, rfl, _⟩ := h
  rfl
theorem body_nearest (T : Txt K mg A) : BodyX P w K mg base N_nearest "nearest" s_nearest A.f_nearest 7 (spNearest A) := by
  intro cdv B up s H vs Q E hr h
  · obtain ⟨l, k, rs, way, qs, xs, rfl, hl, rows, L, hk, ixs, lx, sub, h⟩ := h
    refine ⟨_, (pss_cons (ps_expr (po_call (ok_check_log T) (hr.mono (by decide)) T.mg_check_log (pa_cons (pv 0) pa_nil)))
      (pss_cons (ps_expr (po_call (ok_check_known T) (hr.mono (by decide)) T.mg_check_known (pa_cons (pv 0) (pa_cons (pv 1) pa_nil))))
      (pss_one (ps_ret (pe_lcD (own := [("record", 2)]) rfl sc_nearest.nd (pi_list (pv 0)) (blkOk_by (N := N_nearest) (sc := defScope s_nearest) (by decide +kernel)) (fun _ _ _ _ _ => pg_name (i := 2) sc_nearest.nd rfl (Or.inl rfl)) (fun _ _ _ _ _ => pts_nil) (fun _ _ _ _ _ => (po_call (ok_record_of T) (hr.mono (by decide)) T.mg_record_of (pa_cons (pe_con (pv 2) rfl) (pa_cons (po_propD (p := A.p_Record_item) (ok_Record_item T) (hr.mono (by decide)) (pv 2)) (pa_cons (po_call (ok_nearest_slot T) (hr.mono (by decide)) T.mg_nearest_slot (pa_cons (pv 0) (pa_cons (pv 1) (pa_cons (pv 2) pa_nil)))) pa_nil)))))))))), ?_⟩
    refine ⟨_, rfl, l, rs, way, qs, rfl, hl, rows, L, fun H1 s1 => ?_⟩
    refine ⟨_, rfl, _, rfl, l, k, rs, way, qs, xs, rfl, s1 _ _ hl, rows.same s1, L, s1 _ _ hk, ixs, lx, sub, fun H2 s2 => ?_⟩
    have S2 := s1.trans s2
    have hl2 := S2 _ _ hl
    have hk2 := S2 _ _ hk
    have rows2 := rows.same S2
    have ll := L.len
    refine ⟨_, rfl, l, rfl, ⟨_, SqL.of hl2⟩, fun D nD => ?_⟩
    refine lc_list (K := K) (a := l) (xs := rs) (fun i H' => Same H2 H' ∧ ∃ us, H' D = some (.lst us) ∧ Rows A H' us ((nearL way qs xs).take i) ∧ ∀ v ∈ us, ∃ a, v = .ref a ∧ H a = none) ?_ ?_ ?_ ?_
    · exact ⟨Same.new nD, [], upd_same, .nil, fun v hv => by cases hv⟩
    · rintro i H4 _ ⟨s4, _⟩
      exact SqL.of (s4 _ _ hl2)
    · rintro i y H4 hy ⟨s4, us, h4, r4, f4⟩
      obtain ⟨p, dx, w', x, n, rfl, hq, he, w0, w1, hx⟩ := rows2.get hy
      have mq := List.mem_of_getElem? hq
      have hi := (List.getElem?_eq_some_iff.mp hq).1
      have mx : x ∈ names qs := List.mem_map.mpr ⟨_, mq, rfl⟩
      have kd := kd_of T w0 (by omega : w' ≤ 3)
      obtain ⟨u, cn⟩ := kd.sg
      have cl := kd.rc.cl
      have he4 := s4 _ _ he
      have ew : w' = way := L.wy _ mq
      have n60 : n ≤ 60 := L.bd _ mq
      have r := rgN_ok (kind := way) mx (sub _ mx) lx
      have c60 : clampN (rgN way qs xs x) n ≤ 60 := clamp_le (Nat.le_trans r.le r.h60) r.h60 n60
      refine ⟨rfl, _, rfl, p, _, dx, _, _, _, rfl, he4, cl, cn, no_sign _ _, ?_⟩
      refine ⟨_, rfl, p, _, dx, _, rfl, he4, cl, prop_item T w0 (by omega), p, dx, w', x, n, rfl, he4, w0, by omega, ?_⟩
      refine ⟨_, rfl, _, rfl, _, rfl, l, k, p, dx, rs, way, w', qs, xs, x, n, rfl, s4 _ _ hl2, rows2.same s4, L, s4 _ _ hk2, ixs, lx, sub, he4, w0, w1, mx, fun H5 s5 => ?_⟩
      refine ⟨w', _, x, rfl, w0, by omega, hx, by omega, by omega, fun r' dx' H6 s6 nr er => ?_⟩
      have l4 := r4.len
      rw [List.length_take] at l4
      have S5 := s4.trans s5
      have h6 := s6 _ _ (s5 _ _ h4)
      refine ⟨us, h6, Nat.lt_of_lt_of_le (show us.length < 1000 by omega) (by decide), fun c o eo => ?_, _, upd_same, ?_, ?_⟩
      · rw [upd_ne (ne_of_none eo nD)]
        exact s6 _ _ (S5 _ _ eo)
      · have e2 : (nearL way qs xs).take (i + 1) = (nearL way qs xs).take i ++ [(w', x, clampN (rgN way qs xs x) n)] := by
          rw [List.take_add_one]
          unfold nearL
          rw [List.getElem?_map, hq]
          rfl
        rw [e2]
        exact (((r4.same s5).same s6).snoc er w0 w1 hx).updL h6
      · intro v hv
        rcases List.mem_append.mp hv with hv | hv
        · exact f4 v hv
        · rw [List.mem_singleton.mp hv]
          exact ⟨r', rfl, none_same S2 (none_same S5 nr)⟩
    · rintro H4 ⟨s4, us, h4, r4, f4⟩
      have e : (nearL way qs xs).take rs.length = nearL way qs xs := List.take_of_length_le (by unfold nearL; rw [List.length_map, rows.len]; exact Nat.le_refl _)
      rw [e] at r4
      exact h D us H4 (S2.trans s4) (none_same S2 nD) h4 r4 f4
theorem ok_nearest (T : Txt K mg A) : OkX P w K mg base 8 A.f_nearest ["log", "items"] (spNearest A) := T.fn_nearest.okX sc_nearest (fun _ _ _ _ _ _ us hl => match us, hl with | [_, _], _ => rfl) len_nearest (body_nearest T)
theorem okS_nearest (T : Txt K mg A) : OkXS P w K mg base 8 A.f_nearest ["log", "items"] ["items", "log"] (spNearest A) := T.fn_nearest.okXS sc_nearest (fun _ _ _ _ _ _ _ _ => rfl) len_nearest (body_nearest T)

end
end Own

set_option Elab.async false
set_option linter.all false
set_option maxRecDepth 100000
set_option maxHeartbeats 4000000
namespace Own
open PySem L2 ClX
local macro_rules | `(tactic| walk_at "v") => `(tactic| refine ⟨_, rfl, ?_⟩)
local macro_rules | `(tactic| walk_at "ii") => `(tactic| refine ⟨_, _, rfl, rfl, ?_⟩)
local macro_rules | `(tactic| walk_at "go") => `(tactic| repeat (first | refine ⟨_, rfl, ?_⟩ | refine ⟨_, _, rfl, rfl, ?_⟩ | refine addI ?_ | refine L2.iteT ?_ | refine L2.iteF ?_))

section
variable {P : Program} {w : World} {K : PySem.W.Frag} {mg : Str → Option Value} {base : Heap} {A : Ad}
/-! ### the law's items -/
theorem SrcAt.ne {H : Hp} {p q : Addr} {n : Int} (s : SrcAt H p n) (h : H q = none) : q ≠ p := fun e => by
  obtain ⟨g, m', c, z, _⟩ := s
  rw [e, z] at h
  cases h
theorem SrcAt.le {H : Hp} {p : Addr} {n m : Int} (s : SrcAt H p n) (h : n ≤ m) : SrcAt H p m := by
  obtain ⟨g, m', c, e, h0, h1, h2, h3⟩ := s
  exact ⟨g, m', c, e, h0, h1, h2, by omega⟩
def abc : Str := "abcdefghijklmnopqrstuvwxyz"
def sgAt (i : Nat) : List Str := (List.range i).map fun j => (⟨#[abc.cps.getD j 0]⟩ : Str)
def pfAt (p : Str) (i : Nat) : List Str := (List.range i).map fun j => p ++ (⟨#[abc.cps.getD j 0]⟩ : Str)
theorem sgAt_succ (i : Nat) : sgAt (i + 1) = sgAt i ++ [(⟨#[abc.cps.getD i 0]⟩ : Str)] := by
  unfold sgAt
  rw [List.range_succ, List.map_append]
  rfl
theorem pfAt_succ (p : Str) (i : Nat) : pfAt p (i + 1) = pfAt p i ++ [p ++ (⟨#[abc.cps.getD i 0]⟩ : Str)] := by
  unfold pfAt
  rw [List.range_succ, List.map_append]
  rfl
theorem sgAt_len (i : Nat) : (sgAt i).length = i := by unfold sgAt; rw [List.length_map, List.length_range]
theorem pfAt_len (p : Str) (i : Nat) : (pfAt p i).length = i := by unfold pfAt; rw [List.length_map, List.length_range]
def pool78 : List Str := sgAt 26 ++ pfAt "z" 26 ++ pfAt "abcdefg" 26
theorem pool_items : Items pool78 := ⟨List.all_eq_true.mp (by decide +kernel : pool78.all isItem = true), by decide +kernel⟩
theorem pool_len : pool78.length = 78 := by decide +kernel
def spItems : Sp := fun vs H Q _ => ∃ (p : Addr) (n : Int) (size : Nat), vs = [.ref p, .int size] ∧ SrcAt H p n ∧ n < 2 ^ 50 ∧ size ≤ 60 ∧
  ∀ (D : Addr) (ys : List Str) (H' : Hp), Items ys → ys.length = size → But p H H' → SrcAt H' p (n + size) → H D = none → H' D = some (.lst (ys.map V.str)) → Q (.ref D) H'
theorem ok__law_items (T : Txt K mg A) : Ok1 P w K mg base 2 A.f__law_items ["tape", "many"] spItems := by
  refine T.fn__law_items.ok sc__law_items (fun _ _ _ _ _ _ us hl => match us, hl with | [_, _], _ => rfl) (fun vs H Q E h => ?_) (fun cdv B up s H vs Q E hr h => ?_)
  · obtain ⟨p, n, size, rfl, _⟩ := h
    rfl
  · obtain ⟨p, n, size, rfl, hs, hn, hz, h⟩ := h
    refine ⟨_, (pss_cons (ps_set (i := 2) sc__law_items.nd rfl (Or.inl rfl) pe_str)
      (pss_cons (ps_set (i := 3) sc__law_items.nd rfl (Or.inr rfl) (pe_op op_addX (pe_op op_addX (pe_lcD (own := [("sign", 4)]) rfl sc__law_items.nd (pi_str (pv 2)) (blkOk_by (N := N__law_items) (sc := defScope s__law_items) (by decide +kernel)) (fun _ _ _ _ _ => pg_name (i := 4) sc__law_items.nd rfl (Or.inl rfl)) (fun _ _ _ _ _ => pts_nil) (fun _ _ _ _ _ => (pv 4))) (pe_lcD (own := [("sign", 4)]) rfl sc__law_items.nd (pi_str (pv 2)) (blkOk_by (N := N__law_items) (sc := defScope s__law_items) (by decide +kernel)) (fun _ _ _ _ _ => pg_name (i := 4) sc__law_items.nd rfl (Or.inl rfl)) (fun _ _ _ _ _ => pts_nil) (fun _ _ _ _ _ => (pe_op op_addX pe_str (pv 4))))) (pe_lcD (own := [("sign", 4)]) rfl sc__law_items.nd (pi_str (pv 2)) (blkOk_by (N := N__law_items) (sc := defScope s__law_items) (by decide +kernel)) (fun _ _ _ _ _ => pg_name (i := 4) sc__law_items.nd rfl (Or.inl rfl)) (fun _ _ _ _ _ => pts_nil) (fun _ _ _ _ _ => (pe_op op_addX pe_str (pv 4))))))
      (pss_one (ps_ret (pe_lcD (own := [("k", 5)]) rfl sc__law_items.nd (pi_range1 rfl T.no_range (pa_cons (pv 1) pa_nil)) (blkOk_by (N := N__law_items) (sc := defScope s__law_items) (by decide +kernel)) (fun _ _ _ _ _ => pg_name (i := 5) sc__law_items.nd rfl (Or.inl rfl)) (fun _ _ _ _ _ => pts_nil) (fun _ _ _ _ _ => (pe_bm PySem.F.plainAttrs_list PySem.F.slot_list_pop PySem.F.type_list_pop mt_popAt (pv 3) (pa_cons (po_call (ok__law_next T) (hr.mono (by decide)) T.mg__law_next (pa_cons (pv 0) (pa_cons (pe_callB call_len (by rfl) T.no_len (by decide +kernel) (pa_cons (pv 3) pa_nil)) pa_nil))) pa_nil)))))))), ?_⟩
    refine ⟨_, rfl, abc, rfl, fun D1 n1 => ?_⟩
    refine lc_it (walk_str (z := abc)) (fun i H' => Same H H' ∧ H' D1 = some (.lst ((sgAt i).map V.str))) ⟨Same.new n1, upd_same⟩ (fun _ _ _ _ => trivial) ?_ ?_
    · rintro i y H1 H2 hi ⟨s1, h1⟩ ⟨rfl, c, ec, rfl⟩
      have ec2 : abc.cps.getD i 0 = c := by
        rw [Array.getD_eq_getD_getElem?, ec]
        rfl
      have hi : i < 26 := hi
      refine ⟨rfl, _, rfl, _, h1, ?_, fun c o eo => ?_, ?_⟩
      · rw [List.length_map, sgAt_len]
        exact Nat.lt_of_lt_of_le (show i < 1000 by omega) (by decide)
      · rw [upd_ne (ne_of_none eo n1)]
        exact s1 _ _ eo
      · rw [upd_same, sgAt_succ, ec2, List.map_append]
        rfl
    rintro H1 ⟨s1, h1⟩
    have h1 : H1 D1 = some (.lst ((sgAt 26).map V.str)) := h1
    refine ⟨_, rfl, abc, rfl, fun D2 n2 => ?_⟩
    refine lc_it (walk_str (z := abc)) (fun i H' => Same H1 H' ∧ H' D2 = some (.lst ((pfAt "z" i).map V.str))) ⟨Same.new n2, upd_same⟩ (fun _ _ _ _ => trivial) ?_ ?_
    · rintro i y H3 H4 hi ⟨s3, h3⟩ ⟨rfl, c, ec, rfl⟩
      have ec2 : abc.cps.getD i 0 = c := by
        rw [Array.getD_eq_getD_getElem?, ec]
        rfl
      have hi : i < 26 := hi
      refine ⟨rfl, _, rfl, addS (Nat.le_of_ble_eq_true rfl) ⟨_, h3, ?_, fun c o eo => ?_, ?_⟩⟩
      · rw [List.length_map, pfAt_len]
        exact Nat.lt_of_lt_of_le (show i < 1000 by omega) (by decide)
      · rw [upd_ne (ne_of_none eo n2)]
        exact s3 _ _ eo
      · rw [upd_same, pfAt_succ, ec2, List.map_append]
        rfl
    rintro H2 ⟨s2, h2⟩
    have h2 : H2 D2 = some (.lst ((pfAt "z" 26).map V.str)) := h2
    refine addL (s2 _ _ h1) h2 (by rw [List.length_map, List.length_map, sgAt_len, pfAt_len]; decide) fun l0 n0 => ?_
    have u0 := Same.new (o := .lst ((sgAt 26).map V.str ++ (pfAt "z" 26).map V.str)) n0
    have hl0 : upd H2 l0 (.lst ((sgAt 26).map V.str ++ (pfAt "z" 26).map V.str)) l0 = some (.lst ((sgAt 26).map V.str ++ (pfAt "z" 26).map V.str)) := upd_same
    have S2 := (s1.trans s2).trans u0
    generalize upd H2 l0 (.lst ((sgAt 26).map V.str ++ (pfAt "z" 26).map V.str)) = H3 at hl0 S2 ⊢
    clear s1 s2 u0 h1 h2 n1 n2 n0
    refine ⟨_, rfl, abc, rfl, fun D3 n3 => ?_⟩
    refine lc_it (walk_str (z := abc)) (fun i H' => Same H3 H' ∧ H' D3 = some (.lst ((pfAt "abcdefg" i).map V.str))) ⟨Same.new n3, upd_same⟩ (fun _ _ _ _ => trivial) ?_ ?_
    · rintro i y H4 H5 hi ⟨s3, h3⟩ ⟨rfl, c, ec, rfl⟩
      have ec2 : abc.cps.getD i 0 = c := by
        rw [Array.getD_eq_getD_getElem?, ec]
        rfl
      have hi : i < 26 := hi
      refine ⟨rfl, _, rfl, addS (Nat.le_of_ble_eq_true rfl) ⟨_, h3, ?_, fun c o eo => ?_, ?_⟩⟩
      · rw [List.length_map, pfAt_len]
        exact Nat.lt_of_lt_of_le (show i < 1000 by omega) (by decide)
      · rw [upd_ne (ne_of_none eo n3)]
        exact s3 _ _ eo
      · rw [upd_same, pfAt_succ, ec2, List.map_append]
        rfl
    rintro H4 ⟨s4, h4⟩
    have h4 : H4 D3 = some (.lst ((pfAt "abcdefg" 26).map V.str)) := h4
    refine addL (s4 _ _ hl0) h4 (by rw [List.length_append, List.length_map, List.length_map, List.length_map, sgAt_len, pfAt_len, pfAt_len]; decide) fun l nl => ?_
    have u0 := Same.new (o := .lst ((sgAt 26).map V.str ++ (pfAt "z" 26).map V.str ++ (pfAt "abcdefg" 26).map V.str)) nl
    have hl : upd H4 l (.lst ((sgAt 26).map V.str ++ (pfAt "z" 26).map V.str ++ (pfAt "abcdefg" 26).map V.str)) l = some (.lst (pool78.map V.str)) := by
      rw [upd_same]
      unfold pool78
      rw [List.map_append, List.map_append]
    have S4 := (S2.trans s4).trans u0
    have nl0 : H l = none := none_same (S2.trans s4) nl
    generalize upd H4 l (.lst ((sgAt 26).map V.str ++ (pfAt "z" 26).map V.str ++ (pfAt "abcdefg" 26).map V.str)) = H1 at hl S4 ⊢
    clear s4 S2 u0 h4 n3 hl0 nl
    have wi := pool_items
    have wl := pool_len
    generalize pool78 = xs at hl wi wl
    have lp : l ≠ p := SrcAt.ne hs nl0
    refine ⟨_, rfl, _, rfl, by omega, by omega, fun D nD => ?_⟩
    have Dl : D ≠ l := fun e => by
      rw [e, hl] at nD
      cases nD
    have nD0 : H D = none := none_same S4 nD
    have Dp : D ≠ p := SrcAt.ne hs nD0
    have hs1 := SrcAt.same hs S4
    refine lc_range (fun i H' => ∃ done rest : List Str, (done ++ rest).Perm xs ∧ done.length = i ∧ H' l = some (.lst (rest.map V.str)) ∧ H' D = some (.lst (done.map V.str)) ∧ SrcAt H' p (n + i) ∧ But p H H') ?_ ?_ ?_
    · refine ⟨[], xs, List.Perm.refl _, rfl, ?_, upd_same, ?_, ?_⟩
      · rw [upd_ne (fun e => Dl e.symm), hl]
      · have z := hs1.same (Same.new (o := .lst []) nD)
        have e : n + ((0 : Nat) : Int) = n := by omega
        rw [e]
        exact z
      · exact But.same (S4.trans (Same.new nD))
    · rintro i H1 hi ⟨done, rest, pm, dl, h1, h2, h3, h4⟩
      have hlen : rest.length = 78 - i := by
        have := pm.length_eq
        rw [List.length_append] at this
        omega
      refine ⟨rfl, _, rfl, .inl ⟨rfl, _, SqL.of h1⟩, _, rfl, _, rfl, _, _, rfl, .inl ⟨_, SqL.of h1, rfl⟩, p, _, n + i, rfl, ?_, ?_, h3, by omega, fun r0 H3 g0 g1 g2 g3 => ?_⟩
      · rw [List.length_map]
        omega
      · rw [List.length_map]
        omega
      rw [List.length_map] at g1
      have k1 : r0.toNat < rest.length := by omega
      refine ⟨l, _, r0, r0.toNat, .str (rest[r0.toNat]), rfl, rfl, g3 _ _ h1 lp, by omega, by omega, ?_, ?_, done.map V.str, ?_, ?_, done ++ [rest[r0.toNat]], rest.eraseIdx r0.toNat, (perm_out done rest _ k1).trans pm, ?_, ?_, ?_, ?_, ?_⟩
      · rw [List.length_map]
        exact seqIx g0 g1
      · rw [List.getElem?_map, List.getElem?_eq_getElem k1]
        rfl
      · rw [upd_ne Dl]
        exact g3 _ _ h2 Dp
      · rw [List.length_map, dl]
        exact Nat.lt_of_lt_of_le (show i < 1000 by omega) (by decide)
      · rw [List.length_append, dl]
        rfl
      · rw [upd_ne (fun e => Dl e.symm), upd_same, map_eraseIdx]
      · rw [upd_same, List.map_append]
        rfl
      · have z : n + ((i + 1 : Nat) : Int) = n + i + 1 := by omega
        rw [z]
        obtain ⟨g, m, c, e, r⟩ := g2
        exact ⟨g, m, c, by rw [upd_ne (fun e => Dp e.symm), upd_ne (fun e => lp e.symm)]; exact e, r⟩
      · intro b o hb nb
        rw [upd_ne (ne_of_none hb nD0), upd_ne (ne_of_none hb nl0)]
        exact g3 _ _ (h4 b o hb nb) nb
    · rintro H2 ⟨done, rest, pm, dl, h1, h2, h3, h4⟩
      rw [Int.toNat_natCast] at dl h3
      refine h D done H2 ?_ dl h4 h3 nD0 h2
      have wp := wi.perm pm
      exact ⟨fun x hx => wp.it x (List.mem_append_left _ hx), (List.nodup_append.mp wp.nd).1⟩

/-! ### some of the items -/
def spDrawn : Sp := fun vs H Q _ => ∃ (p r : Addr) (n : Int) (xs : List Str) (most : Nat), vs = [.ref p, .ref r, .int most] ∧ SrcAt H p n ∧ H r = some (.lst (xs.map V.str)) ∧ xs.length ≤ 60 ∧ n < 2 ^ 50 ∧ most ≤ 60 ∧
  ∀ (D : Addr) (ys zs : List Str) (H' : Hp), (ys ++ zs).Perm xs → ys.length ≤ most → But p H H' → SrcAt H' p (n + 61) → H D = none → H' D = some (.lst (ys.map V.str)) → Q (.ref D) H'
theorem ok__law_drawn (T : Txt K mg A) : Ok1 P w K mg base 2 A.f__law_drawn ["tape", "things", "most"] spDrawn := by
  refine T.fn__law_drawn.ok sc__law_drawn (fun _ _ _ _ _ _ us hl => match us, hl with | [_, _, _], _ => rfl) (fun vs H Q E h => ?_) (fun cdv B up s H vs Q E hr h => ?_)
  · obtain ⟨p, r, n, xs, most, rfl, _⟩ := h
    rfl
  · obtain ⟨p, r, n, xs, most, rfl, hs, hx, hl, hn, hm, h⟩ := h
    refine ⟨_, (pss_cons (ps_set (i := 3) sc__law_drawn.nd rfl (Or.inr rfl) (pe_callTy call_list_of (by rfl) T.no_list (by decide +kernel) (pa_cons (pv 1) pa_nil)))
      (pss_cons (ps_set (i := 4) sc__law_drawn.nd rfl (Or.inl rfl) (po_call (ok__law_next T) (hr.mono (by decide)) T.mg__law_next (pa_cons (pv 0) (pa_cons (pe_op op_addX (pe_callB (call_min2 rfl) (by rfl) T.no_min (by decide +kernel) (pa_cons (pv 2) (pa_cons (pe_callB call_len (by rfl) T.no_len (by decide +kernel) (pa_cons (pv 3) pa_nil)) pa_nil))) pe_int) pa_nil))))
      (pss_one (ps_ret (pe_lcD (own := [("k", 5)]) rfl sc__law_drawn.nd (pi_range1 rfl T.no_range (pa_cons (pv 4) pa_nil)) (blkOk_by (N := N__law_drawn) (sc := defScope s__law_drawn) (by decide +kernel)) (fun _ _ _ _ _ => pg_name (i := 5) sc__law_drawn.nd rfl (Or.inl rfl)) (fun _ _ _ _ _ => pts_nil) (fun _ _ _ _ _ => (pe_bm PySem.F.plainAttrs_list PySem.F.slot_list_pop PySem.F.type_list_pop mt_popAt (pv 3) (pa_cons (po_call (ok__law_next T) (hr.mono (by decide)) T.mg__law_next (pa_cons (pv 0) (pa_cons (pe_callB call_len (by rfl) T.no_len (by decide +kernel) (pa_cons (pv 3) pa_nil)) pa_nil))) pa_nil)))))))), ?_⟩
    refine ⟨_, rfl, r, _, rfl, .inl (SqL.of hx), fun l nl => ?_⟩
    have lp : l ≠ p := SrcAt.ne hs nl
    have ul := Same.new (o := .lst (xs.map V.str)) nl
    have hll : upd H l (.lst (xs.map V.str)) l = some (.lst (xs.map V.str)) := upd_same
    have hs1 := SrcAt.same hs ul
    generalize upd H l (.lst (xs.map V.str)) = H0 at ul hll hs1 ⊢
    refine ⟨_, rfl, _, rfl, _, rfl, _, _, rfl, .inl ⟨_, SqL.of hll, rfl⟩, _, _, rfl, addI ⟨p, _, n, rfl, ?_, ?_, hs1, by omega, fun m H1 m0 m1 s1 b1 => ?_⟩⟩
    · rw [List.length_map]
      split <;> omega
    · rw [List.length_map]
      split <;> omega
    have m2 : m ≤ most ∧ m ≤ xs.length := by
      rw [List.length_map] at m1
      split at m1 <;> omega
    obtain ⟨m, rfl⟩ : ∃ o : Nat, m = o := ⟨m.toNat, by omega⟩
    have hl1 := b1 _ _ hll lp
    have B1 : But p H H1 := (But.same ul).trans b1
    clear hll hs1 m1 ul b1
    refine ⟨_, rfl, _, rfl, by omega, by omega, fun D nD => ?_⟩
    have Dl : D ≠ l := fun e => by
      rw [e, hl1] at nD
      cases nD
    have Dp : D ≠ p := SrcAt.ne s1 nD
    have nD0 : H D = none := by
      cases e : H D with
      | none => rfl
      | some o =>
        rw [B1 _ _ e Dp] at nD
        cases nD
    refine lc_range (fun i H' => ∃ done rest : List Str, (done ++ rest).Perm xs ∧ done.length = i ∧ H' l = some (.lst (rest.map V.str)) ∧ H' D = some (.lst (done.map V.str)) ∧ SrcAt H' p (n + 1 + i) ∧ But p H H') ?_ ?_ ?_
    · refine ⟨[], xs, List.Perm.refl _, rfl, ?_, upd_same, ?_, ?_⟩
      · rw [upd_ne (fun e => Dl e.symm), hl1]
      · have z := s1.same (Same.new (o := .lst []) nD)
        have e : n + 1 + ((0 : Nat) : Int) = n + 1 := by omega
        rw [e]
        exact z
      · exact B1.trans (But.same (Same.new nD))
    · rintro i H2 hi ⟨done, rest, pm, dl, h1, h2, h3, h4⟩
      have hlen : rest.length = xs.length - i := by
        have := pm.length_eq
        rw [List.length_append] at this
        omega
      refine ⟨rfl, _, rfl, .inl ⟨rfl, _, SqL.of h1⟩, _, rfl, _, rfl, _, _, rfl, .inl ⟨_, SqL.of h1, rfl⟩, p, _, n + 1 + i, rfl, ?_, ?_, h3, by omega, fun r0 H3 g0 g1 g2 g3 => ?_⟩
      · rw [List.length_map]
        omega
      · rw [List.length_map]
        omega
      rw [List.length_map] at g1
      have k1 : r0.toNat < rest.length := by omega
      refine ⟨l, _, r0, r0.toNat, .str (rest[r0.toNat]), rfl, rfl, g3 _ _ h1 lp, by omega, by omega, ?_, ?_, done.map V.str, ?_, ?_, done ++ [rest[r0.toNat]], rest.eraseIdx r0.toNat, (perm_out done rest _ k1).trans pm, ?_, ?_, ?_, ?_, ?_⟩
      · rw [List.length_map]
        exact seqIx g0 g1
      · rw [List.getElem?_map, List.getElem?_eq_getElem k1]
        rfl
      · rw [upd_ne Dl]
        exact g3 _ _ h2 Dp
      · rw [List.length_map, dl]
        exact Nat.lt_of_lt_of_le (show i < 1000 by omega) (by decide)
      · rw [List.length_append, dl]
        rfl
      · rw [upd_ne (fun e => Dl e.symm), upd_same, map_eraseIdx]
      · rw [upd_same, List.map_append]
        rfl
      · have z : n + 1 + ((i + 1 : Nat) : Int) = n + 1 + i + 1 := by omega
        rw [z]
        obtain ⟨g, m, c, e, r⟩ := g2
        exact ⟨g, m, c, by rw [upd_ne (fun e => Dp e.symm), upd_ne (fun e => lp e.symm)]; exact e, r⟩
      · intro b o hb nb
        rw [upd_ne (ne_of_none hb nD0), upd_ne (ne_of_none hb nl)]
        exact g3 _ _ (h4 b o hb nb) nb
    · rintro H2 ⟨done, rest, pm, dl, h1, h2, h3, h4⟩
      rw [Int.toNat_natCast] at dl h3
      exact h D done rest H2 pm (by omega) h4 (h3.le (by omega)) nD0 h2

end
end Own

set_option Elab.async false
set_option linter.all false
set_option maxRecDepth 100000
set_option maxHeartbeats 4000000
namespace Own
open PySem L2 ClX
local macro_rules | `(tactic| walk_at "v") => `(tactic| refine ⟨_, rfl, ?_⟩)
local macro_rules | `(tactic| walk_at "ii") => `(tactic| refine ⟨_, _, rfl, rfl, ?_⟩)
local macro_rules | `(tactic| walk_at "go") => `(tactic| repeat (first | refine ⟨_, rfl, ?_⟩ | refine ⟨_, _, rfl, rfl, ?_⟩ | refine addI ?_ | refine L2.iteT ?_ | refine L2.iteF ?_))

section
variable {P : Program} {w : World} {K : PySem.W.Frag} {mg : Str → Option Value} {base : Heap} {A : Ad}
/-! ### what is told of records -/
theorem kit_I (T : Txt K mg A) {way : Int} (h0 : 0 ≤ way) (h1 : way < 3) : PySem.W.kitOne K (.ref (cw A way)) (.ref A.c_Inserted) = some (decide (way = 0)) := by
  rcases (show way = 0 ∨ way = 1 ∨ way = 2 by omega) with rfl | rfl | rfl
  · exact T.kit_Inserted_Inserted
  · exact T.kit_Removed_Inserted
  · exact T.kit_Fronted_Inserted
theorem kit_R (T : Txt K mg A) {way : Int} (h0 : 0 ≤ way) (h1 : way < 3) : PySem.W.kitOne K (.ref (cw A way)) (.ref A.c_Removed) = some (decide (way = 1)) := by
  rcases (show way = 0 ∨ way = 1 ∨ way = 2 by omega) with rfl | rfl | rfl
  · exact T.kit_Inserted_Removed
  · exact T.kit_Removed_Removed
  · exact T.kit_Fronted_Removed
theorem kit_F (T : Txt K mg A) {way : Int} (h0 : 0 ≤ way) (h1 : way < 3) : PySem.W.kitOne K (.ref (cw A way)) (.ref A.c_Fronted) = some (decide (way = 2)) := by
  rcases (show way = 0 ∨ way = 1 ∨ way = 2 by omega) with rfl | rfl | rfl
  · exact T.kit_Inserted_Fronted
  · exact T.kit_Removed_Fronted
  · exact T.kit_Fronted_Fronted
def kindsV (way : Int) : List V := [.bl (decide (way = 0)), .bl (decide (way = 1)), .bl (decide (way = 2))]
inductive Fcts (H : Hp) : List V → List (Int × Str × Nat) → Prop where
  | nil : Fcts H [] []
  | cons {t b : Addr} {way : Int} {x : Str} {n : Nat} {vs : List V} {qs : List (Int × Str × Nat)} (e : H t = some (.tup [.ref b, .str x, .int (n : Nat)])) (f : H b = some (.lst (kindsV way))) (r : Fcts H vs qs) : Fcts H (.ref t :: vs) ((way, x, n) :: qs)
theorem Fcts.same {H H' : Hp} {vs : List V} {qs : List (Int × Str × Nat)} (h : Fcts H vs qs) (s : Same H H') : Fcts H' vs qs := by
  induction h with
  | nil => exact .nil
  | cons e f _ ih => exact .cons (s _ _ e) (s _ _ f) ih
theorem Fcts.len {H : Hp} {vs : List V} {qs : List (Int × Str × Nat)} (h : Fcts H vs qs) : vs.length = qs.length := by
  induction h with
  | nil => rfl
  | cons _ _ _ ih => rw [List.length_cons, List.length_cons, ih]
theorem Fcts.snoc {H : Hp} {vs : List V} {qs : List (Int × Str × Nat)} {t b : Addr} {way : Int} {x : Str} {n : Nat} (h : Fcts H vs qs) (e : H t = some (.tup [.ref b, .str x, .int (n : Nat)])) (f : H b = some (.lst (kindsV way))) : Fcts H (vs ++ [.ref t]) (qs ++ [(way, x, n)]) := by
  induction h with
  | nil => exact .cons e f .nil
  | cons e' f' _ ih => exact .cons e' f' ih
/-- what it was at D is neither a tuple nor such a list -/
theorem Fcts.updN {H : Hp} {vs : List V} {qs : List (Int × Str × Nat)} {D : Addr} {u o : HO} (h : Fcts H vs qs) (hD : H D = some u) (n1 : ∀ xs, u ≠ .tup xs) (n2 : ∀ way, u ≠ .lst (kindsV way)) : Fcts (upd H D o) vs qs := by
  induction h with
  | nil => exact .nil
  | @cons t b way x n vs qs e f _ ih =>
    refine .cons (b := b) ?_ ?_ ih
    · rw [upd_ne (fun z => by rw [z, hD] at e; exact n1 _ (Option.some.inj e))]
      exact e
    · rw [upd_ne (fun z => by rw [z, hD] at f; exact n2 _ (Option.some.inj f))]
      exact f
def fctD (q : Int × Str × Nat) : PyData := .tuple [.list [.bool (decide (q.1 = 0)), .bool (decide (q.1 = 1)), .bool (decide (q.1 = 2))], .str q.2.1, .int (q.2.2 : Nat)]
def factsD (qs : List (Int × Str × Nat)) : PyData := .list (qs.map fctD)
theorem Fcts.dp {H : Hp} {vs : List V} {qs : List (Int × Str × Nat)} (h : Fcts H vs qs) : DpAll K H vs (qs.map fctD) := by
  induction h with
  | nil => exact .nil
  | cons e f _ ih => exact .cons (.tup (SqT.of e) (.cons (.lst (SqL.of f) (.cons (.bl _) (.cons (.bl _) (.cons (.bl _) .nil)))) (.cons (.str _) (.cons (.int _) .nil)))) ih
theorem facts_plain : ∀ qs : List (Int × Str × Nat), PyData.plainAll (qs.map fctD) = true
  | [] => by simp [PyData.plainAll]
  | q :: qs => by simp [PyData.plainAll, PyData.plain, fctD, facts_plain qs]
theorem facts_eqv (qs : List (Int × Str × Nat)) : PyData.eqv (factsD qs) (factsD qs) = true := PySem.SeqAt.eqv_refl_plain _ (by
  unfold factsD
  simp [PyData.plain, facts_plain])
theorem item_ok {x : Str} (h : isItem x = true) : PyData.strOk x = true := by
  unfold PyData.strOk
  rw [Array.all_eq_true']
  intro c hc
  have := item_chars h c (Array.mem_toList_iff.mpr hc)
  exact decide_eq_true (by omega)
theorem facts_lay : ∀ qs : List (Int × Str × Nat), (∀ q ∈ qs, isItem q.2.1 = true) → PyData.canLayAll0 (qs.map fctD) = true
  | [], _ => by simp [PyData.canLayAll0]
  | q :: qs, h => by
    have a := item_ok (h q List.mem_cons_self)
    simp [PyData.canLayAll0, PyData.canLay0, fctD, a, facts_lay qs fun r hr => h r (List.mem_cons_of_mem _ hr)]
theorem facts_depth : ∀ qs : List (Int × Str × Nat), PyData.depthAll (qs.map fctD) ≤ 2
  | [] => by simp [PyData.depthAll]
  | q :: qs => by
    have := facts_depth qs
    simp only [List.map_cons, PyData.depthAll, PyData.depth, fctD]
    omega
theorem facts_shaped {qs : List (Int × Str × Nat)} (hq : ∀ q ∈ qs, isItem q.2.1 = true) : SeqAt.shaped (factsD qs) = true := by
  have a := facts_lay qs hq
  have b := facts_depth qs
  unfold SeqAt.shaped factsD
  refine Bool.and_eq_true_iff.mpr ⟨?_, decide_eq_true ?_⟩
  · rw [PyData.canLay0]
    exact a
  · simp only [PyData.depth]
    omega
def spFacts (A : Ad) : Sp := fun vs H Q _ => ∃ (l : Addr) (rs : List V) (qs : List (Int × Str × Nat)), vs = [.ref l] ∧ H l = some (.lst rs) ∧ Rows A H rs qs ∧ qs.length ≤ 40 ∧
  ∀ (D : Addr) (us : List V) (H' : Hp), Same H H' → H D = none → H' D = some (.lst us) → Fcts H' us qs → Q (.ref D) H'
theorem notKinds (us : List V) (h : ∀ v ∈ us, ∃ a, v = .ref a) : ∀ way, HO.lst us ≠ .lst (kindsV way) := fun way e => by
  cases e
  obtain ⟨a, z⟩ := h _ List.mem_cons_self
  cases z
theorem Fcts.refs {H : Hp} {vs : List V} {qs : List (Int × Str × Nat)} (h : Fcts H vs qs) : ∀ v ∈ vs, ∃ a, v = .ref a := by
  induction h with
  | nil => intro v hv; cases hv
  | cons _ _ _ ih =>
    intro v hv
    rcases List.mem_cons.mp hv with rfl | hv
    · exact ⟨_, rfl⟩
    · exact ih v hv
theorem ok__law_facts (T : Txt K mg A) : Ok1 P w K mg base 3 A.f__law_facts ["book"] (spFacts A) := by
  refine T.fn__law_facts.ok sc__law_facts (fun _ _ _ _ _ _ us hl => match us, hl with | [_], _ => rfl) (fun vs H Q E h => ?_) (fun cdv B up s H vs Q E hr h => ?_)
  · obtain ⟨l, rs, qs, rfl, _⟩ := h
    rfl
  · obtain ⟨l, rs, qs, rfl, hl, rows, lq, h⟩ := h
    refine ⟨_, (pss_cons (ps_set (i := 1) sc__law_facts.nd rfl (Or.inl rfl) (pe_lst pa_nil))
      (pss_cons (ps_for PassesOwn.never rfl (pi_list (pv 0)) (pg_name (i := 2) sc__law_facts.nd rfl (Or.inl rfl))
      (pss_cons (ps_set (i := 3) sc__law_facts.nd rfl (Or.inl rfl) (pe_lst (pa_cons (pe_callB call_isi (by rfl) T.no_isinstance (by decide +kernel) (pa_cons (pv 2) (pa_cons (pe_glob (v := .ref A.c_Inserted) rfl T.mg_Inserted rfl) pa_nil))) (pa_cons (pe_callB call_isi (by rfl) T.no_isinstance (by decide +kernel) (pa_cons (pv 2) (pa_cons (pe_glob (v := .ref A.c_Removed) rfl T.mg_Removed rfl) pa_nil))) (pa_cons (pe_callB call_isi (by rfl) T.no_isinstance (by decide +kernel) (pa_cons (pv 2) (pa_cons (pe_glob (v := .ref A.c_Fronted) rfl T.mg_Fronted rfl) pa_nil))) pa_nil)))))
      (pss_one (ps_expr (pe_bm PySem.F.plainAttrs_list PySem.F.slot_list_append PySem.F.type_list_append mt_append (pv 1) (pa_cons (pe_tup (pa_cons (pv 3) (pa_cons (po_propD (p := A.p_Record_item) (ok_Record_item T) (hr.mono (by decide)) (pv 2)) (pa_cons (po_propD (p := A.p_Record_slot) (ok_Record_slot T) (hr.mono (by decide)) (pv 2)) pa_nil)))) pa_nil))))))
      (pss_one (ps_ret (pv 1))))), ?_⟩
    have lr := rows.len
    refine ⟨Nat.zero_le _, fun F nF => ?_⟩
    refine ⟨_, rfl, l, rfl, ⟨_, SqL.of ((Same.new nF) _ _ hl)⟩, for_list (K := K) (a := l) (xs := rs) (fun i σ H' => (∃ a2 a3 : Option V, σ = [some (.ref l), some (.ref F), a2, a3]) ∧ Same H H' ∧ ∃ us, H' F = some (.lst us) ∧ Fcts H' us (qs.take i))
      ⟨⟨_, _, rfl⟩, Same.new nF, [], upd_same, .nil⟩ ?_ ?_ ?_⟩
    · rintro i σ H1 _ ⟨_, s1, _⟩
      exact SqL.of (s1 _ _ hl)
    · rintro i y σ H1 hy ⟨⟨a2, a3, rfl⟩, s1, us, h1, f1⟩
      obtain ⟨p, dx, way, x, n, rfl, hq, he, w0, w1, hx⟩ := rows.get hy
      have hi := (List.getElem?_eq_some_iff.mp hq).1
      have he1 := s1 _ _ he
      have k := kd_of T w0 (by omega : way ≤ 3)
      have ty : TyX K H1 (.ref p) (.ref (cw A way)) := .base (.ins he1 k.rc.cl k.ty.ha k.ty.hn k.ty.ht k.ty.hm)
      have lu := f1.len
      rw [List.length_take] at lu
      refine ⟨_, rfl, _, _, _, _, _, rfl, .own _, ty, kit_I T w0 w1, ?_⟩
      refine ⟨_, rfl, _, _, _, _, _, rfl, .own _, ty, kit_R T w0 w1, ?_⟩
      refine ⟨_, rfl, _, _, _, _, _, rfl, .own _, ty, kit_F T w0 w1, Nat.le_of_ble_eq_true rfl, fun b nb => ?_⟩
      have ub := Same.new (o := .lst (kindsV way)) nb
      have hb : upd H1 b (.lst [.bl (decide (way = 0)), .bl (decide (way = 1)), .bl (decide (way = 2))]) b = some (.lst (kindsV way)) := upd_same
      have e1 := ub _ _ he1
      have h2 := ub _ _ h1
      have f2 := f1.same ub
      have S2 := s1.trans ub
      have e1 : upd H1 b (.lst [.bl (decide (way = 0)), .bl (decide (way = 1)), .bl (decide (way = 2))]) p = _ := e1
      have h2 : upd H1 b (.lst [.bl (decide (way = 0)), .bl (decide (way = 1)), .bl (decide (way = 2))]) F = _ := h2
      have f2 : Fcts (upd H1 b (.lst [.bl (decide (way = 0)), .bl (decide (way = 1)), .bl (decide (way = 2))])) us (qs.take i) := f2
      have S2 : Same H (upd H1 b (.lst [.bl (decide (way = 0)), .bl (decide (way = 1)), .bl (decide (way = 2))])) := S2
      generalize upd H1 b (.lst [.bl (decide (way = 0)), .bl (decide (way = 1)), .bl (decide (way = 2))]) = H2 at hb e1 h2 f2 S2 ⊢
      refine ⟨_, rfl, .inl ⟨rfl, _, SqL.of h2⟩, _, rfl, _, rfl, p, _, dx, _, rfl, e1, k.rc.cl, prop_item T w0 (by omega), p, dx, way, x, n, rfl, e1, w0, by omega, _, rfl, p, _, dx, _, rfl, e1, k.rc.cl, prop_slot T w0 (by omega), p, dx, way, x, n, rfl, e1, w0, by omega, Nat.le_of_ble_eq_true rfl, fun tp ntp => ⟨F, _, _, rfl, rfl, (Same.new ntp) _ _ h2, Nat.lt_of_lt_of_le (show us.length < 1000 by omega) (by decide), ?_⟩⟩
      have ut := Same.new (o := .tup [.ref b, .str x, .int (n : Nat)]) ntp
      refine ⟨⟨_, _, rfl⟩, fun c o eo => ?_, us ++ [.ref tp], upd_same, ?_⟩
      · rw [upd_ne (ne_of_none eo nF)]
        exact ut _ _ (S2 _ _ eo)
      · have e2 : qs.take (i + 1) = qs.take i ++ [(way, x, n)] := by
          rw [List.take_add_one, hq]
          rfl
        rw [e2]
        exact ((f2.same ut).snoc upd_same (ut _ _ hb)).updN (ut _ _ h2) (fun xs e => by cases e) (notKinds _ f2.refs)
    · rintro σ H1 ⟨⟨a2, a3, rfl⟩, s1, us, h1, f1⟩
      rw [lr, List.take_length] at f1
      exact ⟨_, rfl, h F us H1 s1 nF h1 f1⟩

end
end Own

set_option Elab.async false
set_option linter.all false
set_option maxRecDepth 100000
set_option maxHeartbeats 4000000
namespace Own
open PySem L2 ClX
local macro_rules | `(tactic| walk_at "v") => `(tactic| refine ⟨_, rfl, ?_⟩)
local macro_rules | `(tactic| walk_at "ii") => `(tactic| refine ⟨_, _, rfl, rfl, ?_⟩)
local macro_rules | `(tactic| walk_at "go") => `(tactic| repeat (first | refine ⟨_, rfl, ?_⟩ | refine ⟨_, _, rfl, rfl, ?_⟩ | refine addI ?_ | refine L2.iteT ?_ | refine L2.iteF ?_))

section
variable {P : Program} {w : World} {K : PySem.W.Frag} {mg : Str → Option Value} {base : Heap} {A : Ad}
/-! ### a list that changes with each record: where an item stands then -/
def nxt (kind : Int) (hs : List Str) (x : Str) : List Str := if kind = 2 then x :: hs.filter (fun z => !decide (z = x)) else hs.filter fun z => !decide (z = x)
def play (kind : Int) (xs ms : List Str) : List Str := ms.foldl (nxt kind) xs
theorem play_snoc (kind : Int) (xs ms : List Str) (x : Str) : play kind xs (ms ++ [x]) = nxt kind (play kind xs ms) x := by
  unfold play
  rw [List.foldl_append]
  rfl
def outB (ms : List Str) (z : Str) : Bool := !decide (z ∈ ms)
theorem out_snoc (ms : List Str) (x : Str) (xs : List Str) : (xs.filter (outB ms)).filter (fun z => !decide (z = x)) = xs.filter (outB (ms ++ [x])) := by
  rw [List.filter_filter]
  refine List.filter_congr fun z _ => ?_
  unfold outB
  by_cases a : z = x
  · rw [decide_eq_true a, decide_eq_true (show z ∈ ms ++ [x] from List.mem_append_right _ (List.mem_singleton.mpr a))]
    rfl
  · by_cases b : z ∈ ms
    · rw [decide_eq_true b, decide_eq_true (show z ∈ ms ++ [x] from List.mem_append_left _ b), Bool.not_true, Bool.and_false]
    · rw [decide_eq_false a, decide_eq_false b, decide_eq_false (show ¬ z ∈ ms ++ [x] from fun h => (List.mem_append.mp h).elim b fun h => a (List.mem_singleton.mp h))]
      rfl
theorem play_eq {kind : Int} (xs : List Str) {ms : List Str} (nd : ms.Nodup) : play kind xs ms = (if kind = 2 then ms.reverse else []) ++ xs.filter (outB ms) := by
  have all : ∀ i, i ≤ ms.length → play kind xs (ms.take i) = (if kind = 2 then (ms.take i).reverse else []) ++ xs.filter (outB (ms.take i)) := by
    intro i
    induction i with
    | zero =>
      intro _
      rw [List.take_zero, show xs.filter (outB []) = xs from List.filter_eq_self.mpr fun z _ => by unfold outB; rw [decide_eq_false (by intro h; cases h)]; rfl]
      split <;> rfl
    | succ i ih =>
      intro hi
      have tk : ms.take (i + 1) = ms.take i ++ [ms[i]] := by
        rw [List.take_add_one, List.getElem?_eq_getElem (show i < ms.length by omega)]
        rfl
      have n1 := (List.take_sublist (i + 1) ms).nodup nd
      rw [tk] at n1 ⊢
      have ih := ih (by omega)
      generalize ms.take i = us at n1 ih
      generalize ms[i] = x at n1
      obtain ⟨n1, _, n3⟩ := List.nodup_append.mp n1
      have nx : x ∉ us := fun h => n3 x h x (List.mem_singleton.mpr rfl) rfl
      rw [play_snoc, ih]
      unfold nxt
      by_cases k : kind = 2
      · rw [if_pos k, if_pos k, if_pos k, List.filter_append, out_snoc, List.reverse_append]
        rw [List.filter_eq_self.mpr fun z hz => by rw [decide_eq_false (fun e => nx (by rw [← e]; exact List.mem_reverse.mp hz))]; rfl]
        rfl
      · rw [if_neg k, if_neg k, if_neg k, List.nil_append, List.nil_append, out_snoc]
  have z := all ms.length (Nat.le_refl _)
  rw [List.take_length] at z
  exact z
/-- the index of an item when its turn comes -/
def tv (kind : Int) (xs ms : List Str) (x : Str) : Nat := ix (play kind xs (ms.take (ix ms x))) x
theorem ix_app {a b : List Str} {x : Str} (h : x ∉ a) : ix (a ++ x :: b) x = a.length := by
  unfold ix
  rw [List.idxOf_append, if_neg h, List.idxOf_cons_self, Nat.zero_add]
theorem tv_split {kind : Int} {xs a b : List Str} {x : Str} (h : x ∉ a) : tv kind xs (a ++ x :: b) x = ix (play kind xs a) x := by
  unfold tv
  rw [ix_app h, List.take_left]
theorem tv_val {kind : Int} {b a pre post : List Str} {x : Str} (nd : (b ++ x :: a).Nodup) (np : (pre ++ x :: post).Nodup) : tv kind (b ++ x :: a) (pre ++ x :: post) x = (if kind = 2 then pre.length else 0) + (b.filter (outB pre)).length := by
  obtain ⟨p1, _, p3⟩ := List.nodup_append.mp np
  have nx : x ∉ pre := fun h => p3 x h x List.mem_cons_self rfl
  obtain ⟨_, _, b3⟩ := List.nodup_append.mp nd
  have nb : x ∉ b := fun h => b3 x h x List.mem_cons_self rfl
  rw [tv_split nx, play_eq _ p1, List.filter_append, List.filter_cons_of_pos (by unfold outB; rw [decide_eq_false nx]; rfl)]
  have nf : x ∉ b.filter (outB pre) := fun h => nb (List.mem_filter.mp h).1
  by_cases k : kind = 2
  · rw [if_pos k, if_pos k, ← List.append_assoc, ix_app, List.length_append, List.length_reverse]
    intro h
    rcases List.mem_append.mp h with h | h
    · exact nx (List.mem_reverse.mp h)
    · exact nf h
  · rw [if_neg k, if_neg k, List.nil_append, ix_app nf, Nat.zero_add]

end
end Own

set_option Elab.async false
set_option linter.all false
set_option maxRecDepth 100000
set_option maxHeartbeats 4000000
namespace Own
open PySem L2 ClX
local macro_rules | `(tactic| walk_at "v") => `(tactic| refine ⟨_, rfl, ?_⟩)
local macro_rules | `(tactic| walk_at "ii") => `(tactic| refine ⟨_, _, rfl, rfl, ?_⟩)
local macro_rules | `(tactic| walk_at "go") => `(tactic| repeat (first | refine ⟨_, rfl, ?_⟩ | refine ⟨_, _, rfl, rfl, ?_⟩ | refine addI ?_ | refine L2.iteT ?_ | refine L2.iteF ?_))

section
variable {P : Program} {w : World} {K : PySem.W.Frag} {mg : Str → Option Value} {base : Heap} {A : Ad}
/-! ### all indices that an item has in some order: those of its range -/
/-- a log with these items, for its ranges alone -/
def logN (kind : Int) (ns : List Str) : List (Int × Str × Nat) := ns.map fun x => (kind, x, 0)
theorem filter_split (p : Str → Bool) : ∀ l : List Str, (l.filter p).length + (l.filter fun z => !p z).length = l.length
  | [] => rfl
  | z :: l => by
    have ih := filter_split p l
    cases h : p z with
    | true =>
      rw [List.filter_cons_of_pos h, List.filter_cons_of_neg (by rw [h]; decide), List.length_cons, List.length_cons]
      omega
    | false =>
      rw [List.filter_cons_of_neg (by rw [h]; decide), List.filter_cons_of_pos (by rw [h]; rfl), List.length_cons, List.length_cons]
      omega
theorem filter_mono {p q : Str → Bool} : ∀ {l : List Str}, (∀ z ∈ l, p z = true → q z = true) → (l.filter p).length ≤ (l.filter q).length
  | [], _ => Nat.le_refl _
  | z :: l, h => by
    have ih := filter_mono (l := l) fun y hy => h y (List.mem_cons_of_mem _ hy)
    cases hp : p z with
    | true =>
      rw [List.filter_cons_of_pos hp, List.filter_cons_of_pos (h z List.mem_cons_self hp), List.length_cons, List.length_cons]
      omega
    | false =>
      rw [List.filter_cons_of_neg (by rw [hp]; decide)]
      cases hq : q z with
      | true =>
        rw [List.filter_cons_of_pos hq, List.length_cons]
        omega
      | false =>
        rw [List.filter_cons_of_neg (by rw [hq]; decide)]
        exact ih
def inB (ms : List Str) (z : Str) : Bool := decide (z ∈ ms)
theorem in_len {l pre : List Str} (nd : l.Nodup) (np : pre.Nodup) (sub : ∀ z ∈ pre, z ∈ l) : (l.filter (inB pre)).length = pre.length := by
  refine ((List.perm_ext_iff_of_nodup (nd.filter _) np).mpr fun z => ?_).length_eq
  rw [List.mem_filter]
  exact ⟨fun h => of_decide_eq_true h.2, fun h => ⟨sub z h, decide_eq_true h⟩⟩
theorem out_len (b pre : List Str) : (b.filter (outB pre)).length + (b.filter (inB pre)).length = b.length := by
  have z := filter_split (inB pre) b
  have e : (b.filter fun z => !inB pre z) = b.filter (outB pre) := rfl
  rw [e] at z
  omega
theorem logN_names (kind : Int) (ns : List Str) : names (logN kind ns) = ns := by
  unfold names logN
  rw [List.map_map]
  exact List.map_id' _
structure Cut3 (ns xs b a : List Str) (x : Str) : Prop where
  e : xs = b ++ x :: a
  nd : xs.Nodup
  nn : ns.Nodup
  sub : ∀ z ∈ ns, z ∈ xs
  mx : x ∈ ns
theorem Cut3.nb {ns xs b a : List Str} {x : Str} (c : Cut3 ns xs b a x) : x ∉ b := fun h => by
  have nd := c.nd
  rw [c.e] at nd
  exact (List.nodup_append.mp nd).2.2 x h x List.mem_cons_self rfl
theorem Cut3.na {ns xs b a : List Str} {x : Str} (c : Cut3 ns xs b a x) : x ∉ a := by
  have nd := c.nd
  rw [c.e] at nd
  exact (List.nodup_cons.mp (List.nodup_append.mp nd).2.1).1
theorem Cut3.ba {ns xs b a : List Str} {x : Str} (c : Cut3 ns xs b a x) : ∀ z ∈ a, z ∉ b := fun z h g => by
  have nd := c.nd
  rw [c.e] at nd
  exact (List.nodup_append.mp nd).2.2 z g z (List.mem_cons_of_mem _ h) rfl
theorem Cut3.ndb {ns xs b a : List Str} {x : Str} (c : Cut3 ns xs b a x) : b.Nodup := by
  have nd := c.nd
  rw [c.e] at nd
  exact (List.nodup_append.mp nd).1
theorem Cut3.nda {ns xs b a : List Str} {x : Str} (c : Cut3 ns xs b a x) : a.Nodup := by
  have nd := c.nd
  rw [c.e] at nd
  exact (List.nodup_cons.mp (List.nodup_append.mp nd).2.1).2
theorem Cut3.rg {ns xs b a : List Str} {x : Str} (c : Cut3 ns xs b a x) (kind : Int) : rgN kind (logN kind ns) xs x = if kind = 2 then (b.length, b.length + (a.filter (inB ns)).length) else (b.length - (b.filter (inB ns)).length, b.length) := by
  have ek : knownL (logN kind ns) xs = b.filter (inB ns) ++ x :: a.filter (inB ns) := by
    unfold knownL
    rw [logN_names, c.e]
    show (b ++ x :: a).filter (inB ns) = _
    rw [List.filter_append, List.filter_cons_of_pos (show inB ns x = true from decide_eq_true c.mx)]
  have nf : x ∉ b.filter (inB ns) := fun h => c.nb (List.mem_filter.mp h).1
  have ne : logN kind ns ≠ [] := by
    have := c.mx
    cases ns with
    | nil => cases this
    | cons y ys => exact fun h => by cases h
  have ex : ix xs x = b.length := by rw [c.e, ix_app c.nb]
  have le := List.length_filter_le (inB ns) b
  unfold rgN rangeOf roomOf roomV frontB
  rw [ek, ix_app nf, ex, List.length_append, List.length_cons]
  by_cases k : kind = 2
  · rw [if_pos k, if_pos (decide_eq_true ⟨ne, k⟩), if_pos (decide_eq_true ⟨ne, k⟩)]
    refine Prod.ext ?_ ?_
    · exact Int.toNat_natCast _
    · show (((b.length : Nat) : Int) + _).toNat = _
      omega
  · rw [if_neg k, if_neg (by rw [decide_eq_false (fun h => k h.2)]; decide), if_neg (by rw [decide_eq_false (fun h => k h.2)]; decide)]
    refine Prod.ext ?_ ?_
    · show (((b.length : Nat) : Int) - _).toNat = _
      omega
    · exact Int.toNat_natCast _
theorem Cut3.sound {ns xs b a ms : List Str} {x : Str} (c : Cut3 ns xs b a x) {kind : Int} (pm : ms.Perm ns) : (rgN kind (logN kind ns) xs x).1 ≤ tv kind xs ms x ∧ tv kind xs ms x ≤ (rgN kind (logN kind ns) xs x).2 := by
  obtain ⟨pre, post, rfl⟩ := List.append_of_mem (pm.mem_iff.mpr c.mx)
  have np := pm.nodup_iff.mpr c.nn
  have nd := c.nd
  have v := tv_val (kind := kind) (by rw [← c.e]; exact nd) np
  rw [← c.e] at v
  obtain ⟨n1, _, n3⟩ := List.nodup_append.mp np
  have sub : ∀ z ∈ pre, z ∈ ns := fun z h => pm.mem_iff.mp (List.mem_append_left _ h)
  have nx : x ∉ pre := fun h => n3 x h x List.mem_cons_self rfl
  have mo := out_len b pre
  have mb : (b.filter (inB pre)).length ≤ (b.filter (inB ns)).length := filter_mono fun z _ h => decide_eq_true (sub z (of_decide_eq_true h))
  have ma : (a.filter (inB pre)).length ≤ (a.filter (inB ns)).length := filter_mono fun z _ h => decide_eq_true (sub z (of_decide_eq_true h))
  have lp := in_len nd n1 fun z h => c.sub z (sub z h)
  rw [c.e, List.filter_append, List.filter_cons_of_neg (show ¬ inB pre x = true from fun h => nx (of_decide_eq_true h)), List.length_append] at lp
  rw [v, c.rg kind]
  by_cases k : kind = 2
  · rw [if_pos k, if_pos k]
    dsimp only
    omega
  · rw [if_neg k, if_neg k]
    dsimp only
    omega
theorem perm_with {ns pre : List Str} {x : Str} (nn : ns.Nodup) (np : pre.Nodup) (sub : ∀ z ∈ pre, z ∈ ns) (mx : x ∈ ns) (nx : x ∉ pre) : ∃ post, (pre ++ x :: post).Perm ns := by
  refine ⟨ns.filter (outB (pre ++ [x])), (List.perm_ext_iff_of_nodup ?_ nn).mpr fun z => ?_⟩
  · refine List.nodup_append.mpr ⟨np, List.nodup_cons.mpr ⟨fun h => ?_, nn.filter _⟩, fun y hy z hz e => ?_⟩
    · have := (List.mem_filter.mp h).2
      unfold outB at this
      rw [decide_eq_true (List.mem_append_right _ (List.mem_singleton.mpr rfl))] at this
      cases this
    · subst e
      rcases List.mem_cons.mp hz with rfl | hz
      · exact nx hy
      · have := (List.mem_filter.mp hz).2
        unfold outB at this
        rw [decide_eq_true (List.mem_append_left _ hy)] at this
        cases this
  · rw [List.mem_append, List.mem_cons, List.mem_filter]
    constructor
    · rintro (h | rfl | h)
      · exact sub z h
      · exact mx
      · exact h.1
    · intro h
      by_cases p : z ∈ pre
      · exact .inl p
      · by_cases e : z = x
        · exact .inr (.inl e)
        · refine .inr (.inr ⟨h, ?_⟩)
          unfold outB
          rw [decide_eq_false (fun m => (List.mem_append.mp m).elim p fun m => e (List.mem_singleton.mp m))]
          rfl
theorem Cut3.full {ns xs b a : List Str} {x : Str} (c : Cut3 ns xs b a x) {kind : Int} {v : Nat} (lo : (rgN kind (logN kind ns) xs x).1 ≤ v) (hi : v ≤ (rgN kind (logN kind ns) xs x).2) : ∃ ms, ms.Perm ns ∧ tv kind xs ms x = v := by
  have nd := c.nd
  rw [c.rg kind] at lo hi
  have lb := List.length_filter_le (inB ns) b
  by_cases k : kind = 2
  · rw [if_pos k] at lo hi
    dsimp only at lo hi
    have nf := c.nda.filter (inB ns)
    have pa : ∀ z ∈ (a.filter (inB ns)).take (v - b.length), z ∈ a ∧ z ∈ ns := fun z h => by
      obtain ⟨h1, h2⟩ := List.mem_filter.mp (List.mem_of_mem_take h)
      exact ⟨h1, of_decide_eq_true h2⟩
    have np := (List.take_sublist (v - b.length) (a.filter (inB ns))).nodup nf
    have lt : ((a.filter (inB ns)).take (v - b.length)).length = v - b.length := by rw [List.length_take]; omega
    generalize (a.filter (inB ns)).take (v - b.length) = pre at pa np lt
    obtain ⟨post, pm⟩ := perm_with c.nn np (fun z h => (pa z h).2) c.mx fun h => c.na (pa x h).1
    refine ⟨_, pm, ?_⟩
    have t := tv_val (kind := kind) (by rw [← c.e]; exact nd) (pm.nodup_iff.mpr c.nn)
    rw [← c.e, if_pos k, List.filter_eq_self.mpr (fun z hz => by unfold outB; rw [decide_eq_false (fun h => c.ba z (pa z h).1 hz)]; rfl)] at t
    omega
  · rw [if_neg k] at lo hi
    dsimp only at lo hi
    have nf := c.ndb.filter (inB ns)
    have pa : ∀ z ∈ (b.filter (inB ns)).take (b.length - v), z ∈ b ∧ z ∈ ns := fun z h => by
      obtain ⟨h1, h2⟩ := List.mem_filter.mp (List.mem_of_mem_take h)
      exact ⟨h1, of_decide_eq_true h2⟩
    have np := (List.take_sublist (b.length - v) (b.filter (inB ns))).nodup nf
    have lt : ((b.filter (inB ns)).take (b.length - v)).length = b.length - v := by rw [List.length_take]; omega
    generalize (b.filter (inB ns)).take (b.length - v) = pre at pa np lt
    obtain ⟨post, pm⟩ := perm_with c.nn np (fun z h => (pa z h).2) c.mx fun h => c.nb (pa x h).1
    refine ⟨_, pm, ?_⟩
    have t := tv_val (kind := kind) (by rw [← c.e]; exact nd) (pm.nodup_iff.mpr c.nn)
    have lo2 := out_len b pre
    have li := in_len c.ndb np fun z h => (pa z h).1
    rw [← c.e, if_neg k] at t
    omega
theorem cut3_of {ns xs : List Str} {x : Str} (nd : xs.Nodup) (nn : ns.Nodup) (sub : ∀ z ∈ ns, z ∈ xs) (mx : x ∈ ns) : ∃ b a, Cut3 ns xs b a x := by
  obtain ⟨b, a, e⟩ := List.append_of_mem (sub x mx)
  exact ⟨b, a, e, nd, nn, sub, mx⟩

end
end Own

set_option Elab.async false
set_option linter.all false
set_option maxRecDepth 100000
set_option maxHeartbeats 4000000
namespace Own
open PySem L2 ClX
local macro_rules | `(tactic| walk_at "v") => `(tactic| refine ⟨_, rfl, ?_⟩)
local macro_rules | `(tactic| walk_at "ii") => `(tactic| refine ⟨_, _, rfl, rfl, ?_⟩)
local macro_rules | `(tactic| walk_at "go") => `(tactic| repeat (first | refine ⟨_, rfl, ?_⟩ | refine ⟨_, _, rfl, rfl, ?_⟩ | refine addI ?_ | refine L2.iteT ?_ | refine L2.iteF ?_))

section
variable {P : Program} {w : World} {K : PySem.W.Frag} {mg : Str → Option Value} {base : Heap} {A : Ad}
/-! ### the indices of an order -/
def dP (ps : List (Str × Nat)) : List (Key × V) := ps.map fun p => (Sum.inr p.1, V.int (p.2 : Nat))
theorem dP_keys (ps : List (Str × Nat)) : (dP ps).map (·.1) = (ps.map (·.1)).map Sum.inr := by
  unfold dP
  rw [List.map_map, List.map_map]
  rfl
theorem dP_new {ps : List (Str × Nat)} {x : Str} {n : Nat} (h : x ∉ ps.map (·.1)) : putK (dP ps) (Sum.inr x) (.int (n : Nat)) = dP (ps ++ [(x, n)]) := by
  rw [putK_new (fun z => by
    rw [dP_keys] at z
    obtain ⟨y, hy, e⟩ := List.mem_map.mp z
    rw [Sum.inr.inj e] at hy
    exact h hy)]
  unfold dP
  rw [List.map_append]
  rfl
theorem dP_len (ps : List (Str × Nat)) : (dP ps).length = ps.length := List.length_map ..
theorem ix_at2 {x : Str} {xs : List Str} (h : x ∈ xs) : (xs.map V.str)[ix xs x]? = some (.str x) := by
  obtain ⟨_, i2, _⟩ := ix_at h
  rw [List.getElem?_map, i2]
  rfl
theorem ix_at3 {x : Str} {xs : List Str} (h : x ∈ xs) : ∀ (m : Nat) (z : V), m < ix xs x → (xs.map V.str)[m]? = some z → eqV z (.str x) = false := by
  obtain ⟨_, _, i3⟩ := ix_at h
  intro m z hm hz
  rw [List.getElem?_map] at hz
  cases q : xs[m]? with
  | none => rw [q] at hz; cases hz
  | some y =>
    rw [q] at hz
    cases hz
    exact beq_false_of_ne (i3 m y hm q)
def ordK (kind : Int) (ns : List Str) : List Str := if kind = 0 then ns.reverse else ns
theorem ordK_perm (kind : Int) (ns : List Str) : (ordK kind ns).Perm ns := by
  unfold ordK
  split
  · exact List.reverse_perm ns
  · exact List.Perm.refl _
def tvs (kind : Int) (xs ms us : List Str) : List (Str × Nat) := us.map fun x => (x, tv kind xs ms x)
theorem tvs_keys (kind : Int) (xs ms us : List Str) : (tvs kind xs ms us).map (·.1) = us := by
  unfold tvs
  rw [List.map_map]
  exact List.map_id' _
def spTold : Sp := fun vs H Q _ => ∃ (kind : Int) (k m : Addr) (xs ns : List Str), vs = [.int kind, .ref k, .ref m] ∧ H k = some (.lst (xs.map V.str)) ∧ H m = some (.lst (ns.map V.str)) ∧ Items xs ∧ xs.length ≤ 60 ∧ ns.Nodup ∧ ns.length ≤ 40 ∧ (∀ x ∈ ns, x ∈ xs) ∧
  ∀ (D : Addr) (H' : Hp), Same H H' → H D = none → H' D = some (.dK (dP (tvs kind xs (ordK kind ns) (ordK kind ns)))) → Q (.ref D) H'
theorem ix_nth {ms : List Str} (nd : ms.Nodup) {i : Nat} {x : Str} (h : ms[i]? = some x) : ix ms x = i := by
  obtain ⟨hi, e⟩ := List.getElem?_eq_some_iff.mp h
  obtain ⟨a, b, c⟩ := ix_at (List.mem_of_getElem? h)
  refine Nat.le_antisymm (Nat.le_of_not_lt fun lt => c i x lt h rfl) (Nat.le_of_not_lt fun lt => ?_)
  obtain ⟨hj, e2⟩ := List.getElem?_eq_some_iff.mp b
  exact (List.pairwise_iff_getElem.mp nd _ _ hj hi lt) (by rw [e, e2])
theorem ok__law_told (T : Txt K mg A) : Ok1 P w K mg base 1 A.f__law_told ["kind", "things", "names"] spTold := by
  refine T.fn__law_told.ok sc__law_told (fun _ _ _ _ _ _ us hl => match us, hl with | [_, _, _], _ => rfl) (fun vs H Q E h => ?_) (fun cdv B up s H vs Q E hr h => ?_)
  · obtain ⟨kind, k, m, xs, ns, rfl, _⟩ := h
    rfl
  · obtain ⟨kind, k, m, xs, ns, rfl, hk, hm, ixs, lx, nd, ln, sub, h⟩ := h
    refine ⟨_, (pss_cons (ps_par (i := 3) (j := 4) (by rfl) sc__law_told.nd rfl rfl (by decide) rfl rfl (pa_cons (pe_callTy call_list_of (by rfl) T.no_list (by decide +kernel) (pa_cons (pv 1) pa_nil)) (pa_cons pe_dnewK pa_nil)) (by rfl))
      (pss_cons (ps_for PassesOwn.never rfl (pi_list (pe_ifExp (pt_cmpR (op_eqX hr) (pv 0) pe_int (nomark _)) (pe_revL (pv 2)) (pv 2))) (pg_name (i := 5) sc__law_told.nd rfl (Or.inr rfl))
      (pss_cons (ps_dput (Nat.lt_of_le_of_lt (Nat.add_le_add_left (show 1 ≤ 64 by decide) _) hr.units) (pv 4) (pv 5) (pe_bm PySem.F.plainAttrs_list PySem.F.slot_list_index PySem.F.type_list_index mt_index (pv 3) (pa_cons (pv 5) pa_nil)) rfl)
      (pss_cons (ps_setLcD (i := 3) (own := [("item", 6)]) rfl sc__law_told.nd rfl rfl (sw_true rfl rfl rfl (by decide +kernel)) (pi_list (pv 3)) (blkOk_by (N := N__law_told) (sc := defScope s__law_told) (by decide +kernel)) (fun _ _ _ _ _ => pg_name (i := 6) sc__law_told.nd rfl (Or.inl rfl)) (fun _ _ _ _ _ => (pts_one (pt_cmpR (op_neX hr) (pv 6) (pv 5) (nomark _)))) (fun _ _ _ _ _ => (pv 6)))
      (pss_one (ps_set (i := 3) sc__law_told.nd rfl (Or.inl rfl) (pe_ifExp (pt_cmpR (op_eqX hr) (pv 0) pe_int (nomark _)) (pe_op op_addX (pe_lst (pa_cons (pv 5) pa_nil)) (pv 3)) (pv 3)))))))
      (pss_one (ps_ret (pv 4))))), ?_⟩
    refine ⟨_, rfl, k, _, rfl, .inl (SqL.of hk), fun l0 n0 => ?_⟩
    have u0 := Same.new (o := .lst (xs.map V.str)) n0
    refine fun F nF => ⟨_, _, rfl, ?_⟩
    have uF := Same.new (o := .dK []) nF
    have h0 : upd (upd H l0 (.lst (xs.map V.str))) F (.dK []) l0 = some (.lst (xs.map V.str)) := uF _ _ upd_same
    have hF : upd (upd H l0 (.lst (xs.map V.str))) F (.dK []) F = some (.dK (dP [])) := upd_same
    have S0 := u0.trans uF
    have F0 : H F = none := none_same u0 nF
    generalize upd (upd H l0 (.lst (xs.map V.str))) F (.dK []) = H1 at h0 hF S0 ⊢
    clear u0 uF nF
    -- what is gone over
    refine ⟨_, rfl, eqS rfl ⟨_, rfl, ?_⟩⟩
    have gen : ∀ {Qx : VK} (key : ∀ (a : Addr) (ms : List Str) (H2 : Hp), Same H1 H2 → H2 a = some (.lst (ms.map V.str)) → ms = ordK kind ns → Qx (.ref a) H2), (if decide (V.int kind = V.int 0) = true then tRevL K (tVar 2) [some (.int kind), some (.ref k), some (.ref m), some (.ref l0), some (.ref F), none, none] H1 Qx else tVar 2 [some (.int kind), some (.ref k), some (.ref m), some (.ref l0), some (.ref F), none, none] H1 Qx) := fun key => by
      refine ite2 (fun c => ?_) (fun c => ?_)
      · refine ⟨_, rfl, m, _, rfl, SqL.of (S0 _ _ hm), fun p np => key p ns.reverse _ (Same.new np) ?_ (by unfold ordK; rw [if_pos (V.int.inj (of_decide_eq_true c))])⟩
        rw [upd_same, List.map_reverse]
      · exact ⟨_, rfl, key m ns H1 (Same.refl _) (S0 _ _ hm) (by unfold ordK; rw [if_neg (fun e => c (decide_eq_true (by rw [e])))])⟩
    refine gen fun a ms H2 s2 h2 em => ?_
    have pm : ms.Perm ns := by rw [em]; exact ordK_perm kind ns
    clear gen
    have hF2 := s2 _ _ hF
    have hl2 := s2 _ _ h0
    have S2 := S0.trans s2
    have aF : a ≠ F := fun e => by rw [e, hF2] at h2; cases h2
    have ndm : ms.Nodup := pm.nodup_iff.mpr nd
    have lm : ms.length ≤ 40 := by rw [pm.length_eq]; exact ln
    clear s2 hF h0 S0
    refine ⟨a, rfl, ⟨_, SqL.of h2⟩, for_list (K := K) (a := a) (xs := ms.map V.str) (fun i σ H' => (∃ (l : Addr) (a5 a6 : Option V), σ = [some (.int kind), some (.ref k), some (.ref m), some (.ref l), some (.ref F), a5, a6] ∧ ∃ hs : List Str, H' l = some (.lst (hs.map V.str)) ∧ hs.length ≤ 60 ∧ (∀ x ∈ ms.drop i, x ∈ hs) ∧ hs = play kind xs (ms.take i)) ∧ But F H2 H' ∧ ∃ ps : List (Str × Nat), H' F = some (.dK (dP ps)) ∧ ps.map (·.1) = ms.take i ∧ (∀ p ∈ ps, p.2 ≤ 60) ∧ ps = tvs kind xs ms (ms.take i))
      ⟨⟨l0, _, _, rfl, xs, hl2, lx, (fun x hx => sub x (pm.mem_iff.mp (List.mem_of_mem_drop hx))), rfl⟩, But.refl, [], hF2, rfl, (fun p hp => by cases hp), rfl⟩ ?_ ?_ ?_⟩
    · rintro i σ H3 _ ⟨_, b3, _⟩
      exact SqL.of (b3 _ _ h2 aF)
    · rintro i y σ H3 hy ⟨⟨l, a5, a6, rfl, hs, h3, l3, g3, ehs⟩, b3, ps, f3, n3, p3, eps⟩
      rw [List.getElem?_map] at hy
      cases ex : ms[i]? with
      | none => rw [ex] at hy; cases hy
      | some x =>
        rw [ex] at hy
        cases hy
        have hi := (List.getElem?_eq_some_iff.mp ex).1
        have exi : ms[i] = x := (List.getElem?_eq_some_iff.mp ex).2
        have dr : ms.drop i = x :: ms.drop (i + 1) := by rw [List.drop_eq_getElem_cons hi, exi]
        have mx : x ∈ hs := g3 x (by rw [dr]; exact List.mem_cons_self)
        obtain ⟨i1, _, _⟩ := ix_at mx
        have lp : ps.length = i := by
          have z := congrArg List.length n3
          rw [List.length_map, List.length_take] at z
          omega
        have nx : x ∉ ps.map (·.1) := by
          rw [n3]
          intro z
          have nd3 := ndm
          rw [← List.take_append_drop i ms, dr] at nd3
          exact (List.nodup_append.mp nd3).2.2 x z x List.mem_cons_self rfl
        have nx2 : x ∉ ms.drop (i + 1) := by
          intro z
          have nd3 := ndm
          rw [← List.take_append_drop i ms, dr] at nd3
          exact (List.nodup_cons.mp (List.nodup_append.mp nd3).2.1).1 z
        have lF : l ≠ F := fun e => by rw [e, f3] at h3; cases h3
        refine ⟨_, rfl, .inl ⟨rfl, _, SqL.of h3⟩, _, rfl, l, _, _, ix hs x, _, rfl, rfl, SqL.of h3, rfl, flatS hs, ix_at2 mx, (show eqV (.str x) (.str x) = true from beq_self_eq_true x), ix_at3 mx, _, rfl, _, rfl, F, _, rfl, DPut.k (k := Sum.inr x) f3 ?_, ?_⟩
        · rw [dP_len]
          exact Nat.lt_of_lt_of_le (show ps.length < 1000 by omega) (by decide)
        rw [dP_new nx]
        have b4 : But F H2 (upd H3 F (.dK (dP (ps ++ [(x, ix hs x)])))) := b3.trans But.upd
        have h4 : upd H3 F (.dK (dP (ps ++ [(x, ix hs x)]))) l = some (.lst (hs.map V.str)) := by
          rw [upd_ne lF]
          exact h3
        have f4 : upd H3 F (.dK (dP (ps ++ [(x, ix hs x)]))) F = some (.dK (dP (ps ++ [(x, ix hs x)]))) := upd_same
        have n4 : (ps ++ [(x, ix hs x)]).map (·.1) = ms.take (i + 1) := by
          rw [List.map_append, n3, List.take_add_one, ex]
          rfl
        have p4 : ∀ p ∈ ps ++ [(x, ix hs x)], p.2 ≤ 60 := fun p hp => by
          rcases List.mem_append.mp hp with hp | hp
          · exact p3 p hp
          · rw [List.mem_singleton.mp hp]
            show ix hs x ≤ 60
            omega
        have tk : ms.take (i + 1) = ms.take i ++ [x] := by
          rw [List.take_add_one, ex]
          rfl
        have e4 : ps ++ [(x, ix hs x)] = tvs kind xs ms (ms.take (i + 1)) := by
          rw [tk]
          unfold tvs at eps ⊢
          rw [List.map_append, ← eps]
          unfold tv
          rw [List.map_singleton, ix_nth ndm ex, ← ehs]
        have eh4 : play kind xs (ms.take (i + 1)) = nxt kind hs x := by rw [tk, play_snoc, ehs]
        clear tk eps
        generalize ps ++ [(x, ix hs x)] = ps4 at b4 h4 f4 n4 p4 e4 ⊢
        generalize upd H3 F (.dK (dP ps4)) = H4 at b4 h4 f4 ⊢
        clear f3 n3 p3 nx lp b3 h3
        refine ⟨_, rfl, l, rfl, ⟨_, SqL.of h4⟩, fun D nD => ?_⟩
        have DF : D ≠ F := (ne_of_none f4 nD).symm
        refine lc_list (K := K) (a := l) (xs := hs.map V.str) (fun j H' => Same H4 H' ∧ H' D = some (.lst (((hs.take j).filter fun z => !decide (z = x)).map V.str))) ?_ ?_ ?_ ?_
        · exact ⟨Same.new nD, upd_same⟩
        · rintro j H5 _ ⟨s5, _⟩
          exact SqL.of (s5 _ _ h4)
        · rintro j y H5 hy ⟨s5, h5⟩
          rw [List.getElem?_map] at hy
          cases ez : hs[j]? with
          | none => rw [ez] at hy; cases hy
          | some z =>
            rw [ez] at hy
            cases hy
            have hj := (List.getElem?_eq_some_iff.mp ez).1
            have tk : hs.take (j + 1) = hs.take j ++ [z] := by
              rw [List.take_add_one, ez]
              rfl
            refine ⟨rfl, _, rfl, _, rfl, neS rfl ⟨_, rfl, ?_⟩⟩
            by_cases e : z = x
            · rw [show (!decide (V.str z = V.str x)) = false by rw [e]; exact strF x]
              refine iteF ⟨s5, ?_⟩
              rw [h5, tk, List.filter_append, List.filter_cons_of_neg (by rw [decide_eq_true e]; decide), List.filter_nil, List.append_nil]
            · rw [show (!decide (V.str z = V.str x)) = true by rw [decide_eq_false (fun q => e (V.str.inj q))]; rfl]
              refine iteT ⟨_, rfl, _, h5, ?_, fun c o eo => ?_, ?_⟩
              · rw [List.length_map]
                exact Nat.lt_of_le_of_lt (List.length_filter_le _ _) (Nat.lt_of_le_of_lt (List.length_take_le _ _) (Nat.lt_of_lt_of_le (show j < 1000 by omega) (by decide)))
              · rw [upd_ne (ne_of_none eo nD)]
                exact s5 _ _ eo
              · rw [upd_same, tk, List.filter_append, List.filter_cons_of_pos (by rw [decide_eq_false e]; rfl), List.filter_nil, List.map_append]
                rfl
        · rintro H5 ⟨s5, h5⟩
          rw [List.length_map, List.take_length] at h5
          have b5 := b4.trans (But.same s5)
          have f5 := s5 _ _ f4
          have lf : (hs.filter fun z => !decide (z = x)).length < hs.length := by
            refine Nat.lt_of_le_of_ne (List.length_filter_le _ _) fun e => ?_
            have := List.length_filter_eq_length_iff.mp e x mx
            rw [decide_eq_true rfl] at this
            cases this
          have g5 : ∀ z ∈ ms.drop (i + 1), z ∈ hs.filter fun z => !decide (z = x) := fun z hz => by
            refine List.mem_filter.mpr ⟨g3 z (by rw [dr]; exact List.mem_cons_of_mem _ hz), ?_⟩
            rw [decide_eq_false (fun e => nx2 (by rw [← e]; exact hz))]
            rfl
          refine ⟨_, rfl, eqS rfl ⟨_, rfl, ?_⟩⟩
          refine ite2 (fun c => ?_) (fun c => ?_)
          · refine ⟨_, rfl, Nat.le_of_ble_eq_true rfl, fun b nb => ⟨_, rfl, ?_⟩⟩
            have ub := Same.new (o := .lst [.str x]) nb
            refine addL upd_same (ub _ _ h5) (by rw [List.length_map]; show 1 + _ ≤ _; omega) fun r nr => ?_
            have ur := Same.new (o := .lst ([.str x] ++ (hs.filter fun z => !decide (z = x)).map V.str)) nr
            refine ⟨⟨r, _, _, rfl, x :: hs.filter (fun z => !decide (z = x)), upd_same, ?_, (fun z hz => List.mem_cons_of_mem _ (g5 z hz)), by rw [eh4]; unfold nxt; rw [if_pos (V.int.inj (of_decide_eq_true c))]⟩, b5.trans (But.same (ub.trans ur)), ps4, (ub.trans ur) _ _ f5, n4, p4, e4⟩
            rw [List.length_cons]
            omega
          · exact ⟨_, rfl, ⟨D, _, _, rfl, hs.filter (fun z => !decide (z = x)), h5, by omega, g5, by rw [eh4]; unfold nxt; rw [if_neg (fun e => c (decide_eq_true (by rw [e])))]⟩, b5, ps4, f5, n4, p4, e4⟩
    · rintro σ H3 ⟨⟨l, a5, a6, rfl, hs, h3, l3, g3, _⟩, b3, ps, f3, n3, p3, eps⟩
      rw [List.length_map, List.take_length, em] at eps
      rw [eps] at f3
      refine ⟨_, rfl, h F H3 ?_ F0 f3⟩
      exact fun c o e => b3 _ _ (S2 _ _ e) (ne_of_none e F0)

end
end Own

set_option Elab.async false
set_option linter.all false
set_option maxRecDepth 100000
set_option maxHeartbeats 4000000
namespace Own
open PySem L2 ClX
local macro_rules | `(tactic| walk_at "v") => `(tactic| refine ⟨_, rfl, ?_⟩)
local macro_rules | `(tactic| walk_at "ii") => `(tactic| refine ⟨_, _, rfl, rfl, ?_⟩)
local macro_rules | `(tactic| walk_at "go") => `(tactic| repeat (first | refine ⟨_, rfl, ?_⟩ | refine ⟨_, _, rfl, rfl, ?_⟩ | refine addI ?_ | refine L2.iteT ?_ | refine L2.iteF ?_))

section
variable {P : Program} {w : World} {K : PySem.W.Frag} {mg : Str → Option Value} {base : Heap} {A : Ad}
/-! ### all orders of some names -/
def ins1 (x : Str) (o : List Str) : List (List Str) := (List.range (o.length + 1)).map fun k => o.take k ++ [x] ++ o.drop k
def orders (ns : List Str) : List (List Str) := ns.foldl (fun acc x => acc.flatMap (ins1 x)) [[]]
theorem orders_snoc (ns : List Str) (x : Str) : orders (ns ++ [x]) = (orders ns).flatMap (ins1 x) := by
  unfold orders
  rw [List.foldl_append]
  rfl
theorem ins1_perm {x : Str} {o p : List Str} (h : p ∈ ins1 x o) : p.Perm (o ++ [x]) := by
  obtain ⟨k, _, rfl⟩ := List.mem_map.mp h
  have e := List.take_append_drop k o
  refine List.Perm.trans ?_ (List.Perm.of_eq (congrArg (· ++ [x]) e))
  rw [List.append_assoc, List.append_assoc]
  exact List.Perm.append_left _ (List.perm_append_comm)
theorem orders_take (ns : List Str) : ∀ i, i ≤ ns.length → (∀ o ∈ orders (ns.take i), o.Perm (ns.take i)) ∧ (∀ o : List Str, o.Perm (ns.take i) → o ∈ orders (ns.take i)) ∧ (orders (ns.take i)).length ≤ (ns.length + 1) ^ i := by
  intro i
  induction i with
  | zero =>
    intro _
    refine ⟨fun o h => ?_, fun o h => ?_, Nat.le_refl _⟩
    · obtain rfl := List.mem_singleton.mp h
      exact List.Perm.refl _
    · exact List.mem_singleton.mpr (List.perm_nil.mp h)
  | succ i ih =>
    intro hi
    obtain ⟨h1, h2, h3⟩ := ih (by omega)
    have tk : ns.take (i + 1) = ns.take i ++ [ns[i]] := by
      rw [List.take_add_one, List.getElem?_eq_getElem (show i < ns.length by omega)]
      rfl
    have lt : (ns.take i).length ≤ i := List.length_take_le _ _
    rw [tk, orders_snoc]
    generalize ns[i] = x
    refine ⟨fun o h => ?_, fun o h => ?_, ?_⟩
    · obtain ⟨q, hq, ho⟩ := List.mem_flatMap.mp h
      exact (ins1_perm ho).trans ((h1 q hq).append_right _)
    · obtain ⟨a, b, rfl⟩ := List.append_of_mem (h.mem_iff.mpr (List.mem_append_right _ (List.mem_singleton.mpr rfl)))
      have p : (a ++ b).Perm (ns.take i) := by
        have z : (x :: (a ++ b)).Perm (x :: ns.take i) := (List.perm_middle.symm.trans h).trans (List.perm_append_comm (l₂ := [x]))
        exact z.cons_inv
      refine List.mem_flatMap.mpr ⟨a ++ b, h2 _ p, List.mem_map.mpr ⟨a.length, ?_, ?_⟩⟩
      · rw [List.mem_range, List.length_append]
        omega
      · rw [List.take_left, List.drop_left, List.append_assoc]
        rfl
    · have all : ∀ os : List (List Str), (∀ o ∈ os, o.length ≤ ns.length) → (os.flatMap (ins1 x)).length ≤ os.length * (ns.length + 1) := by
        intro os
        induction os with
        | nil => intro _; exact Nat.zero_le _
        | cons o os ih =>
          intro g
          have a := ih fun q hq => g q (List.mem_cons_of_mem _ hq)
          have b := g o List.mem_cons_self
          rw [List.flatMap_cons, List.length_append, List.length_cons, Nat.add_mul, Nat.one_mul]
          have c : (ins1 x o).length = o.length + 1 := by unfold ins1; rw [List.length_map, List.length_range]
          omega
      have a := all _ fun o ho => by have := (h1 o ho).length_eq; omega
      rw [Nat.pow_succ]
      exact Nat.le_trans a (Nat.mul_le_mul_right _ h3)
inductive Rs (H : Hp) : List V → List (List Str) → Prop where
  | nil : Rs H [] []
  | cons {a : Addr} {r : List Str} {vs : List V} {rs : List (List Str)} (e : H a = some (.lst (r.map V.str))) (t : Rs H vs rs) : Rs H (.ref a :: vs) (r :: rs)
theorem Rs.same {H H' : Hp} {vs : List V} {rs : List (List Str)} (h : Rs H vs rs) (s : Same H H') : Rs H' vs rs := by
  induction h with
  | nil => exact .nil
  | cons e _ ih => exact .cons (s _ _ e) ih
theorem Rs.len {H : Hp} {vs : List V} {rs : List (List Str)} (h : Rs H vs rs) : vs.length = rs.length := by
  induction h with
  | nil => rfl
  | cons _ _ ih => rw [List.length_cons, List.length_cons, ih]
theorem Rs.snoc {H : Hp} {vs : List V} {rs : List (List Str)} {a : Addr} {r : List Str} (h : Rs H vs rs) (e : H a = some (.lst (r.map V.str))) : Rs H (vs ++ [.ref a]) (rs ++ [r]) := by
  induction h with
  | nil => exact .cons e .nil
  | cons e' _ ih => exact .cons e' ih
theorem Rs.app {H : Hp} {vs ws : List V} {rs qs : List (List Str)} (h : Rs H vs rs) (g : Rs H ws qs) : Rs H (vs ++ ws) (rs ++ qs) := by
  induction h with
  | nil => exact g
  | cons e' _ ih => exact .cons e' ih
theorem Rs.upd {H : Hp} {vs : List V} {rs : List (List Str)} {L : Addr} {o : HO} (h : Rs H vs rs) (n : ∀ v ∈ vs, v ≠ .ref L) : Rs (upd H L o) vs rs := by
  induction h with
  | nil => exact .nil
  | cons e _ ih =>
    refine .cons ?_ (ih fun v hv => n v (List.mem_cons_of_mem _ hv))
    rw [upd_ne (fun z => n _ List.mem_cons_self (by rw [z]))]
    exact e
theorem Rs.get {H : Hp} {vs : List V} {rs : List (List Str)} (h : Rs H vs rs) : ∀ {i : Nat} {v : V}, vs[i]? = some v → ∃ a r, v = .ref a ∧ rs[i]? = some r ∧ H a = some (.lst (r.map V.str)) := by
  induction h with
  | nil => intro i v e; cases e
  | cons e _ ih =>
    intro i v ev
    cases i with
    | zero => cases ev; exact ⟨_, _, rfl, rfl, e⟩
    | succ i => exact ih ev
theorem flat_take {os : List (List Str)} {x : Str} {j : Nat} {o : List Str} (h : os[j]? = some o) : (os.take (j + 1)).flatMap (ins1 x) = (os.take j).flatMap (ins1 x) ++ ins1 x o := by
  rw [List.take_add_one, h, List.flatMap_append]
  show _ ++ (ins1 x o ++ []) = _
  rw [List.append_nil]
def spOrders : Sp := fun vs H Q _ => ∃ (m : Addr) (ns : List Str), vs = [.ref m] ∧ H m = some (.lst (ns.map V.str)) ∧ ns.length ≤ 5 ∧
  ∀ (D : Addr) (ws : List V) (H' : Hp), Same H H' → H D = none → H' D = some (.lst ws) → Rs H' ws (orders ns) → Q (.ref D) H'
theorem ok__law_orders (T : Txt K mg A) : Ok1 P w K mg base 2 A.f__law_orders ["names"] spOrders := by
  refine T.fn__law_orders.ok sc__law_orders (fun _ _ _ _ _ _ us hl => match us, hl with | [_], _ => rfl) (fun vs H Q E h => ?_) (fun cdv B up s H vs Q E hr h => ?_)
  · obtain ⟨m, ns, rfl, _⟩ := h
    rfl
  · obtain ⟨m, ns, rfl, hm, l5, h⟩ := h
    refine ⟨_, (pss_cons (ps_set (i := 1) sc__law_orders.nd rfl (Or.inl rfl) (pe_lst (pa_cons (pe_lst pa_nil) pa_nil)))
      (pss_cons (ps_for PassesOwn.never rfl (pi_list (pv 0)) (pg_name (i := 2) sc__law_orders.nd rfl (Or.inr rfl))
      (pss_cons (ps_set (i := 3) sc__law_orders.nd rfl (Or.inl rfl) (pe_lst pa_nil))
      (pss_cons (ps_for PassesOwn.never rfl (pi_list (pv 1)) (pg_name (i := 4) sc__law_orders.nd rfl (Or.inr rfl))
      (pss_one (ps_expr (pe_bm PySem.F.plainAttrs_list PySem.F.slot_list_extend PySem.F.type_list_extend mt_extend (pv 3) (pa_cons (pe_lcD (own := [("at", 5)]) rfl sc__law_orders.nd (pi_range1 rfl T.no_range (pa_cons (pe_op op_addX (pe_callB call_len (by rfl) T.no_len (by decide +kernel) (pa_cons (pv 4) pa_nil)) pe_int) pa_nil)) (blkOk_by (N := N__law_orders) (sc := defScope s__law_orders) (by decide +kernel)) (fun _ _ _ _ _ => pg_name (i := 5) sc__law_orders.nd rfl (Or.inl rfl)) (fun _ _ _ _ _ => pts_nil) (fun _ _ _ _ _ => (pe_op op_addX (pe_op op_addX (pe_slice sl_list (pv 4) po_none (po_some (pv 5))) (pe_lst (pa_cons (pv 2) pa_nil))) (pe_slice sl_list (pv 4) (po_some (pv 5)) po_none)))) pa_nil)))))
      (pss_one (ps_set (i := 1) sc__law_orders.nd rfl (Or.inl rfl) (pv 3))))))
      (pss_one (ps_ret (pv 1))))), ?_⟩
    refine ⟨Nat.zero_le _, fun e0 ne0 => ⟨Nat.le_of_ble_eq_true rfl, fun F nF => ?_⟩⟩
    have u1 := Same.new (o := .lst []) ne0
    have u2 := Same.new (o := .lst [.ref e0]) nF
    have he0 := u2 _ _ (show upd H e0 (.lst []) e0 = some (.lst (([] : List Str).map V.str)) from upd_same)
    have hF : upd (upd H e0 (.lst [])) F (.lst [.ref e0]) F = some (.lst [.ref e0]) := upd_same
    have S0 := u1.trans u2
    have nF0 := none_same u1 nF
    generalize upd (upd H e0 (.lst [])) F (.lst [.ref e0]) = H1 at he0 hF S0 ⊢
    clear u1 u2 ne0 nF
    refine ⟨_, rfl, m, rfl, ⟨_, SqL.of (S0 _ _ hm)⟩, for_list (K := K) (a := m) (xs := ns.map V.str) (fun i σ H' => (∃ (F : Addr) (a2 a3 a4 a5 : Option V), σ = [some (.ref m), some (.ref F), a2, a3, a4, a5] ∧ H F = none ∧ ∃ ws, H' F = some (.lst ws) ∧ Rs H' ws (orders (ns.take i))) ∧ Same H H')
      ⟨⟨F, _, _, _, _, rfl, nF0, _, hF, .cons he0 .nil⟩, S0⟩ ?_ ?_ ?_⟩
    · rintro i σ H2 _ ⟨_, s2⟩
      exact SqL.of (s2 _ _ hm)
    · rintro i y σ H2 hy ⟨⟨F, a2, a3, a4, a5, rfl, nF, ws, hF2, q2⟩, s2⟩
      rw [List.getElem?_map] at hy
      cases ex : ns[i]? with
      | none => rw [ex] at hy; cases hy
      | some x =>
        rw [ex] at hy
        cases hy
        have hi := (List.getElem?_eq_some_iff.mp ex).1
        obtain ⟨o1, _, o3⟩ := orders_take ns i (by omega)
        have o4 : (orders (ns.take i)).length ≤ 7776 := Nat.le_trans o3 (Nat.le_trans (Nat.pow_le_pow_left (show ns.length + 1 ≤ 6 by omega) i) (Nat.pow_le_pow_right (n := 6) (by decide) (show i ≤ 5 by omega)))
        have tk : ns.take (i + 1) = ns.take i ++ [x] := by
          rw [List.take_add_one, ex]
          rfl
        have on : orders (ns.take (i + 1)) = (orders (ns.take i)).flatMap (ins1 x) := by rw [tk, orders_snoc]
        generalize orders (ns.take i) = os at q2 o1 o4 on
        have lw := q2.len
        have lo : ∀ o ∈ os, o.length ≤ 5 := fun o ho => by
          have := (o1 o ho).length_eq
          have := List.length_take_le i ns
          omega
        refine ⟨Nat.zero_le _, fun L nL => ?_⟩
        have uL := Same.new (o := .lst []) nL
        refine ⟨_, rfl, F, rfl, ⟨_, SqL.of (uL _ _ hF2)⟩, for_list (K := K) (a := F) (xs := ws) (fun j σ H' => (∃ a4 a5 : Option V, σ = [some (.ref m), some (.ref F), some (.str x), some (.ref L), a4, a5]) ∧ Same H2 H' ∧ ∃ us, H' L = some (.lst us) ∧ Rs H' us ((os.take j).flatMap (ins1 x)) ∧ (∀ v ∈ us, v ≠ .ref L) ∧ us.length ≤ j * 6)
          ⟨⟨_, _, rfl⟩, uL, [], upd_same, .nil, (fun v hv => by cases hv), Nat.zero_le _⟩ ?_ ?_ ?_⟩
        · rintro j σ H3 _ ⟨_, s3, _⟩
          exact SqL.of (s3 _ _ hF2)
        · rintro j y σ H3 hy ⟨⟨a4, a5, rfl⟩, s3, us, hL3, q3, n3, l3⟩
          obtain ⟨b, o, rfl, hq, hb⟩ := q2.get hy
          have hj := (List.getElem?_eq_some_iff.mp hq).1
          have lo5 := lo o (List.mem_of_getElem? hq)
          have hb3 := s3 _ _ hb
          refine ⟨_, rfl, .inl ⟨rfl, _, SqL.of hL3⟩, _, rfl, _, _, rfl, .inl ⟨_, SqL.of hb3, rfl⟩, addI ⟨_, rfl, by rw [List.length_map]; omega, by rw [List.length_map]; omega, fun D nD => ?_⟩⟩
          have DL : D ≠ L := (ne_of_none hL3 nD).symm
          refine lc_range (fun t H' => Same H3 H' ∧ ∃ ds, H' D = some (.lst ds) ∧ Rs H' ds ((ins1 x o).take t) ∧ (∀ v ∈ ds, v ≠ .ref D ∧ v ≠ .ref L)) ⟨Same.new nD, [], upd_same, .nil, fun v hv => by cases hv⟩ ?_ ?_
          · rintro t H4 ht ⟨s4, ds, hD4, q4, n4⟩
            rw [List.length_map] at ht
            have ht : t < o.length + 1 := by omega
            have hb4 := s4 _ _ hb3
            have ld := q4.len
            rw [List.length_take] at ld
            have tk4 : (ins1 x o).take (t + 1) = (ins1 x o).take t ++ [o.take t ++ [x] ++ o.drop t] := by
              rw [List.take_add_one]
              congr 1
              unfold ins1
              rw [List.getElem?_map, List.getElem?_range ht]
              rfl
            rw [Int.zero_add]
            refine ⟨rfl, _, rfl, _, rfl, _, rfl, b, _, rfl, SqL.of hb4, fun x1 nx1 => ?_⟩
            rw [cut_to']
            have v1 := Same.new (o := .lst ((o.take t).map V.str)) nx1
            refine ⟨_, rfl, Nat.le_of_ble_eq_true rfl, fun b2 nb2 => ?_⟩
            have v2 := Same.new (o := .lst [.str x]) nb2
            refine addL (v2 _ _ upd_same) upd_same (by rw [List.length_map, List.length_take]; show _ + 1 ≤ _; omega) fun x3 nx3 => ?_
            have v3 := Same.new (o := .lst ((o.take t).map V.str ++ [.str x])) nx3
            have V3 := v1.trans (v2.trans v3)
            have h3 := show upd (upd (upd H4 x1 (.lst ((o.take t).map V.str))) b2 (.lst [.str x])) x3 (.lst ((o.take t).map V.str ++ [.str x])) x3 = some (.lst ((o.take t).map V.str ++ [.str x])) from upd_same
            generalize upd (upd (upd H4 x1 (.lst ((o.take t).map V.str))) b2 (.lst [.str x])) x3 (.lst ((o.take t).map V.str ++ [.str x])) = H5 at V3 h3 ⊢
            refine ⟨_, rfl, _, rfl, _, rfl, b, _, rfl, SqL.of (V3 _ _ hb4), fun x4 nx4 => ?_⟩
            rw [cut_from']
            have v4 := Same.new (o := .lst ((o.drop t).map V.str)) nx4
            refine addL (v4 _ _ h3) upd_same (by rw [List.length_append, List.length_map, List.length_map, List.length_take, List.length_drop]; show _ + 1 + _ ≤ _; omega) fun x5 nx5 => ?_
            have v5 := Same.new (o := .lst ((o.take t).map V.str ++ [.str x] ++ (o.drop t).map V.str)) nx5
            have V5 := V3.trans (v4.trans v5)
            have h5 : upd (upd H5 x4 (.lst ((o.drop t).map V.str))) x5 (.lst ((o.take t).map V.str ++ [.str x] ++ (o.drop t).map V.str)) x5 = some (.lst ((o.take t ++ [x] ++ o.drop t).map V.str)) := by
              rw [upd_same, List.map_append, List.map_append]
              rfl
            have f5 : H4 x5 = none := none_same (V3.trans v4) nx5
            generalize upd (upd H5 x4 (.lst ((o.drop t).map V.str))) x5 (.lst ((o.take t).map V.str ++ [.str x] ++ (o.drop t).map V.str)) = H6 at V5 h5 ⊢
            have xD : x5 ≠ D := (ne_of_none hD4 f5).symm
            have xL : x5 ≠ L := (ne_of_none (s4 _ _ hL3) f5).symm
            have nw : ∀ v ∈ ds ++ [.ref x5], v ≠ .ref D ∧ v ≠ .ref L := fun v hv => by
              rcases List.mem_append.mp hv with hv | hv
              · exact n4 v hv
              · rw [List.mem_singleton.mp hv]
                exact ⟨fun q => xD (V.ref.inj q), fun q => xL (V.ref.inj q)⟩
            refine ⟨ds, V5 _ _ hD4, Nat.lt_of_lt_of_le (show ds.length < 1000 by omega) (by decide), fun c u eo => ?_, ds ++ [.ref x5], upd_same, ?_, nw⟩
            · rw [upd_ne (ne_of_none eo nD)]
              exact V5 _ _ (s4 _ _ eo)
            · rw [tk4]
              exact ((q4.same V5).snoc h5).upd fun v hv => (nw v hv).1
          · rintro H4 ⟨s4, ds, hD4, q4, n4⟩
            have li : (ins1 x o).length = o.length + 1 := by unfold ins1; rw [List.length_map, List.length_range]
            rw [List.length_map, List.take_of_length_le (by omega)] at q4
            have ld := q4.len
            have hL4 := s4 _ _ hL3
            refine ⟨L, D, us, ds, rfl, rfl, hL4, hD4, by show us.length + ds.length ≤ _; exact Nat.le_trans (show us.length + ds.length ≤ 100000 by omega) (by decide), ⟨⟨_, _, rfl⟩, fun c u eo => ?_, us ++ ds, upd_same, ?_, ?_, ?_⟩⟩
            · rw [upd_ne (ne_of_none eo nL)]
              exact s4 _ _ (s3 _ _ eo)
            · rw [flat_take hq]
              refine ((q3.same s4).app q4).upd fun v hv => ?_
              rcases List.mem_append.mp hv with hv | hv
              · exact n3 v hv
              · exact (n4 v hv).2
            · intro v hv
              rcases List.mem_append.mp hv with hv | hv
              · exact n3 v hv
              · exact (n4 v hv).2
            · rw [List.length_append]
              omega
        · rintro σ H3 ⟨⟨a4, a5, rfl⟩, s3, us, hL3, q3, n3, l3⟩
          rw [lw, List.take_length, ← on] at q3
          exact ⟨_, rfl, ⟨L, _, _, _, _, rfl, none_same s2 nL, us, hL3, q3⟩, s2.trans s3⟩
    · rintro σ H2 ⟨⟨F, a2, a3, a4, a5, rfl, nF, ws, hF2, q2⟩, s2⟩
      rw [List.length_map, List.take_length] at q2
      exact ⟨_, rfl, h F ws H2 s2 nF hF2 q2⟩

end
end Own

set_option Elab.async false
set_option linter.all false
set_option maxRecDepth 100000
set_option maxHeartbeats 4000000
namespace Own
open PySem L2 ClX
local macro_rules | `(tactic| walk_at "v") => `(tactic| refine ⟨_, rfl, ?_⟩)
local macro_rules | `(tactic| walk_at "ii") => `(tactic| refine ⟨_, _, rfl, rfl, ?_⟩)
local macro_rules | `(tactic| walk_at "go") => `(tactic| repeat (first | refine ⟨_, rfl, ?_⟩ | refine ⟨_, _, rfl, rfl, ?_⟩ | refine addI ?_ | refine L2.iteT ?_ | refine L2.iteF ?_))

section
variable {P : Program} {w : World} {K : PySem.W.Frag} {mg : Str → Option Value} {base : Heap} {A : Ad}
/-! ### all indices of each name -/
theorem merge_new : ∀ {kvs acc : List (Key × V)}, (acc.map (·.1) ++ kvs.map (·.1)).Nodup → mergeK acc kvs = acc ++ kvs
  | [], acc, _ => (List.append_nil acc).symm
  | (k, v) :: kvs, acc, nd => by
    have kn : k ∉ acc.map (·.1) := fun z => by
      have := (List.nodup_append.mp nd).2.2 k z k List.mem_cons_self
      exact this rfl
    show mergeK (putK acc k v) kvs = _
    rw [putK_new kn]
    rw [merge_new (acc := acc ++ [(k, v)]) (by rw [List.map_append, List.append_assoc]; exact nd), List.append_assoc]
    rfl
/-- a dict of lists of numbers, one for each name, none of them at hand before H0 -/
structure Ev (H0 H : Hp) (kvs : List (Key × V)) (ns : List Str) (g : Str → List Nat) : Prop where
  at_ : ∀ x ∈ ns, ∃ L : Addr, valV kvs (Sum.inr x) = some (.ref L) ∧ H L = some (.lst (vN (g x))) ∧ H0 L = none
  inj : ∀ x ∈ ns, ∀ y ∈ ns, ∀ L : Addr, valV kvs (Sum.inr x) = some (.ref L) → valV kvs (Sum.inr y) = some (.ref L) → x = y
theorem Ev.same {H0 H H' : Hp} {kvs : List (Key × V)} {ns : List Str} {g : Str → List Nat} (h : Ev H0 H kvs ns g) (s : Same H H') : Ev H0 H' kvs ns g := by
  refine ⟨fun x hx => ?_, h.inj⟩
  obtain ⟨L, a, b, c⟩ := h.at_ x hx
  exact ⟨L, a, s _ _ b, c⟩
theorem Ev.upd {H0 H : Hp} {kvs : List (Key × V)} {ns : List Str} {g : Str → List Nat} (h : Ev H0 H kvs ns g) {x : Str} (hx : x ∈ ns) {L : Addr} (hL : valV kvs (Sum.inr x) = some (.ref L)) (l : List Nat) : Ev H0 (upd H L (.lst (vN l))) kvs ns (fun y => if y = x then l else g y) := by
  refine ⟨fun y hy => ?_, h.inj⟩
  obtain ⟨L', a, b, c⟩ := h.at_ y hy
  refine ⟨L', a, ?_, c⟩
  by_cases e : y = x
  · subst e
    rw [hL] at a
    cases a
    rw [if_pos rfl]
    exact upd_same
  · rw [if_neg e, upd_ne (fun z => e (by subst z; exact h.inj y hy x hx _ a hL))]
    exact b
theorem Ev.congr {H0 H : Hp} {kvs : List (Key × V)} {ns : List Str} {g g' : Str → List Nat} (h : Ev H0 H kvs ns g) (e : ∀ x ∈ ns, g x = g' x) : Ev H0 H kvs ns g' := by
  refine ⟨fun x hx => ?_, h.inj⟩
  rw [← e x hx]
  exact h.at_ x hx
theorem valV_cons (k j : Key) (v : V) (kvs : List (Key × V)) : valV ((k, v) :: kvs) j = if k = j then some v else valV kvs j := by
  unfold valV
  rw [List.find?_cons]
  by_cases e : k = j
  · rw [if_pos e, show decide ((k, v).1 = j) = true from decide_eq_true e]
    rfl
  · rw [if_neg e, show decide ((k, v).1 = j) = false from decide_eq_false e]
theorem valV_mem {kvs : List (Key × V)} {k : Key} {v : V} (h : valV kvs k = some v) : ∃ kv ∈ kvs, kv.2 = v := by
  unfold valV at h
  cases e : kvs.find? fun kv => decide (kv.1 = k) with
  | none => rw [e] at h; cases h
  | some kv =>
    rw [e] at h
    exact ⟨kv, List.mem_of_find?_eq_some e, Option.some.inj h⟩
inductive Pv (H0 H : Hp) : List V → List (Key × V) → List Str → Prop where
  | nil : Pv H0 H [] [] []
  | cons {t L : Addr} {x : Str} {vs : List V} {kvs : List (Key × V)} {xs : List Str} (e : H t = some (.tup [.str x, .ref L])) (f : H L = some (.lst [])) (n : H0 L = none) (nl : ∀ kv ∈ kvs, kv.2 ≠ .ref L) (tl : Pv H0 H vs kvs xs) : Pv H0 H (.ref t :: vs) ((Sum.inr x, .ref L) :: kvs) (x :: xs)
theorem Pv.same {H0 H H' : Hp} {vs : List V} {kvs : List (Key × V)} {xs : List Str} (h : Pv H0 H vs kvs xs) (s : Same H H') : Pv H0 H' vs kvs xs := by
  induction h with
  | nil => exact .nil
  | cons e f n nl _ ih => exact .cons (s _ _ e) (s _ _ f) n nl ih
theorem Pv.len {H0 H : Hp} {vs : List V} {kvs : List (Key × V)} {xs : List Str} (h : Pv H0 H vs kvs xs) : vs.length = xs.length := by
  induction h with
  | nil => rfl
  | cons _ _ _ _ _ ih => rw [List.length_cons, List.length_cons, ih]
theorem Pv.snoc {H0 H : Hp} {vs : List V} {kvs : List (Key × V)} {xs : List Str} {t L : Addr} {x : Str} (h : Pv H0 H vs kvs xs) (e : H t = some (.tup [.str x, .ref L])) (f : H L = some (.lst [])) (n : H0 L = none) (g : ∀ kv ∈ kvs, kv.2 ≠ .ref L) : Pv H0 H (vs ++ [.ref t]) (kvs ++ [(Sum.inr x, .ref L)]) (xs ++ [x]) := by
  induction h with
  | nil => exact .cons e f n (fun kv h => by cases h) .nil
  | @cons t' L' x' vs kvs xs e' f' n' nl' _ ih =>
    refine .cons e' f' n' (fun kv hk => ?_) (ih fun kv hk => g kv (List.mem_cons_of_mem _ hk))
    rcases List.mem_append.mp hk with hk | hk
    · exact nl' kv hk
    · rw [List.mem_singleton.mp hk]
      exact fun z => g _ List.mem_cons_self z.symm
theorem Pv.upd {H0 H : Hp} {vs : List V} {kvs : List (Key × V)} {xs : List Str} {C : Addr} {us : List V} {o : HO} (h : Pv H0 H vs kvs xs) (hC : H C = some (.lst us)) (g : ∀ kv ∈ kvs, kv.2 ≠ .ref C) : Pv H0 (upd H C o) vs kvs xs := by
  induction h with
  | nil => exact .nil
  | @cons t' L' x' vs kvs xs e' f' n' nl' _ ih =>
    refine .cons ?_ ?_ n' nl' (ih fun kv hk => g kv (List.mem_cons_of_mem _ hk))
    · rw [upd_ne (fun z => by rw [z, hC] at e'; cases e')]
      exact e'
    · rw [upd_ne (fun z => g _ List.mem_cons_self (by rw [z]))]
      exact f'
theorem Pv.pairs {H0 H : Hp} {vs : List V} {kvs : List (Key × V)} {xs : List Str} (h : Pv H0 H vs kvs xs) : ∃ as : List Addr, vs = as.map V.ref ∧ Paired (fun (p : Addr) (kv : Key × V) => SqT K H p [kV kv.1, kv.2]) as kvs := by
  induction h with
  | nil => exact ⟨[], rfl, .nil⟩
  | cons e _ _ _ _ ih =>
    obtain ⟨as, rfl, pr⟩ := ih
    exact ⟨_ :: as, rfl, .cons (SqT.of e) pr⟩
theorem Pv.keys {H0 H : Hp} {vs : List V} {kvs : List (Key × V)} {xs : List Str} (h : Pv H0 H vs kvs xs) : kvs.map (·.1) = xs.map Sum.inr := by
  induction h with
  | nil => rfl
  | cons _ _ _ _ _ ih => rw [List.map_cons, List.map_cons, ih]
theorem Pv.vals {H0 H : Hp} {vs : List V} {kvs : List (Key × V)} {xs : List Str} (h : Pv H0 H vs kvs xs) : ∀ kv ∈ kvs, ∃ M : Addr, kv.2 = .ref M ∧ H M = some (.lst []) := by
  induction h with
  | nil => intro kv h; cases h
  | cons e f _ _ _ ih =>
    intro kv hk
    rcases List.mem_cons.mp hk with rfl | hk
    · exact ⟨_, rfl, f⟩
    · exact ih kv hk
theorem inr_nd {xs : List Str} (nd : xs.Nodup) : (xs.map (Sum.inr : Str → Key)).Nodup := by
  induction xs with
  | nil => exact List.nodup_nil
  | cons x xs ih =>
    obtain ⟨a, b⟩ := List.nodup_cons.mp nd
    refine List.nodup_cons.mpr ⟨fun h => ?_, ih b⟩
    obtain ⟨y, hy, e⟩ := List.mem_map.mp h
    rw [← Sum.inr.inj e] at a
    exact a hy
theorem Pv.ev {H0 H : Hp} {vs : List V} {kvs : List (Key × V)} {xs : List Str} (h : Pv H0 H vs kvs xs) (nd : xs.Nodup) : Ev H0 H kvs xs fun _ => [] := by
  induction h with
  | nil => exact ⟨(fun x h => by cases h), fun x h => by cases h⟩
  | @cons t L x vs kvs xs e f n nl _ ih =>
    obtain ⟨nx, nd⟩ := List.nodup_cons.mp nd
    have ih := ih nd
    have other : ∀ y ∈ xs, valV ((Sum.inr x, V.ref L) :: kvs) (Sum.inr y) = valV kvs (Sum.inr y) := fun y hy => by
      rw [valV_cons, if_neg fun z => nx (by rw [Sum.inr.inj z]; exact hy)]
    have own : valV ((Sum.inr x, V.ref L) :: kvs) (Sum.inr x) = some (.ref L) := by rw [valV_cons, if_pos rfl]
    refine ⟨fun y hy => ?_, fun y hy z hz M a b => ?_⟩
    · rcases List.mem_cons.mp hy with e | hy'
      · rw [e]
        exact ⟨L, own, f, n⟩
      · rw [other y hy']
        exact ih.at_ y hy'
    · rcases List.mem_cons.mp hy with e1 | hy'
      · rcases List.mem_cons.mp hz with e2 | hz'
        · rw [e1, e2]
        · rw [e1, own] at a
          cases a
          rw [other z hz'] at b
          obtain ⟨kv, hk, e⟩ := valV_mem b
          exact absurd e (nl kv hk)
      · rcases List.mem_cons.mp hz with e2 | hz'
        · rw [e2, own] at b
          cases b
          rw [other y hy'] at a
          obtain ⟨kv, hk, e⟩ := valV_mem a
          exact absurd e (nl kv hk)
        · rw [other y hy'] at a
          rw [other z hz'] at b
          exact ih.inj y hy' z hz' M a b
/-- all that stands stays, but these lists -/
def FrL (kvs : List (Key × V)) (ns : List Str) (H H' : Hp) : Prop := ∀ c o, H c = some o → (∀ x ∈ ns, valV kvs (Sum.inr x) ≠ some (.ref c)) → H' c = some o
theorem strs_nums {o : List Str} {l : List Nat} (h : o ≠ []) : HO.lst (o.map V.str) ≠ .lst (vN l) := fun e => by
  cases o with
  | nil => exact h rfl
  | cons x o =>
    have e := HO.lst.inj e
    cases l with
    | nil => cases e
    | cons i l => cases (List.cons.inj e).1
/-- the index of a name in an order -/
def tvo (kind : Int) (xs o : List Str) (x : Str) : Nat := tv kind xs (ordK kind o) x
def evG (kind : Int) (xs : List Str) (os : List (List Str)) (x : Str) : List Nat := os.map fun o => tvo kind xs o x
theorem tvs_val (kind : Int) (xs ms : List Str) : ∀ (us : List Str) (x : Str), valV (dP (tvs kind xs ms us)) (Sum.inr x) = if x ∈ us then some (.int ((tv kind xs ms x : Nat) : Int)) else none
  | [], x => by
    rw [if_neg (by intro z; cases z)]
    rfl
  | y :: us, x => by
    have ih := tvs_val kind xs ms us x
    show valV ((Sum.inr y, V.int (tv kind xs ms y : Nat)) :: dP (tvs kind xs ms us)) (Sum.inr x) = _
    rw [valV_cons]
    by_cases e : y = x
    · subst e
      rw [if_pos rfl, if_pos List.mem_cons_self]
    · rw [if_neg fun z => e (Sum.inr.inj z), ih]
      by_cases m : x ∈ us
      · rw [if_pos m, if_pos (List.mem_cons_of_mem _ m)]
      · rw [if_neg m, if_neg fun z => (List.mem_cons.mp z).elim (fun q => e q.symm) m]
theorem vN_len (l : List Nat) : (vN l).length = l.length := List.length_map ..
theorem vN_app (l m : List Nat) : vN (l ++ m) = vN l ++ vN m := by
  unfold vN
  rw [List.map_append]
def spEvery : Sp := fun vs H Q _ => ∃ (kind : Int) (k m : Addr) (xs ns : List Str), vs = [.int kind, .ref k, .ref m] ∧ H k = some (.lst (xs.map V.str)) ∧ H m = some (.lst (ns.map V.str)) ∧ Items xs ∧ xs.length ≤ 60 ∧ ns.Nodup ∧ ns.length ≤ 5 ∧ (∀ x ∈ ns, x ∈ xs) ∧
  ∀ (D : Addr) (kvs : List (Key × V)) (H' : Hp), Same H H' → H D = none → H' D = some (.dK kvs) → Ev H H' kvs ns (evG kind xs (orders ns)) → Q (.ref D) H'
theorem ok__law_every (T : Txt K mg A) : Ok1 P w K mg base 3 A.f__law_every ["kind", "things", "names"] spEvery := by
  refine T.fn__law_every.ok sc__law_every (fun _ _ _ _ _ _ us hl => match us, hl with | [_, _, _], _ => rfl) (fun vs H Q E h => ?_) (fun cdv B up s H vs Q E hr h => ?_)
  · obtain ⟨kind, k, m, xs, ns, rfl, _⟩ := h
    rfl
  · obtain ⟨kind, k, m, xs, ns, rfl, hk, hm, ixs, lx, nd, l5, sub, h⟩ := h
    refine ⟨_, (pss_cons (ps_set (i := 3) sc__law_every.nd rfl (Or.inl rfl) (pe_callTy (call_dictP rfl) (by rfl) T.no_dict (by decide +kernel) (pa_cons (pe_lcD (own := [("name", 6)]) rfl sc__law_every.nd (pi_list (pv 2)) (blkOk_by (N := N__law_every) (sc := defScope s__law_every) (by decide +kernel)) (fun _ _ _ _ _ => pg_name (i := 6) sc__law_every.nd rfl (Or.inl rfl)) (fun _ _ _ _ _ => pts_nil) (fun _ _ _ _ _ => (pe_tup (pa_cons (pv 6) (pa_cons (pe_lst pa_nil) pa_nil))))) pa_nil)))
      (pss_cons (ps_for PassesOwn.never rfl (pi_list (po_call (ok__law_orders T) (hr.mono (by decide)) T.mg__law_orders (pa_cons (pv 2) pa_nil))) (pg_name (i := 4) sc__law_every.nd rfl (Or.inl rfl))
      (pss_cons (ps_set (i := 5) sc__law_every.nd rfl (Or.inl rfl) (po_call (ok__law_told T) (hr.mono (by decide)) T.mg__law_told (pa_cons (pv 0) (pa_cons (pv 1) (pa_cons (pv 4) pa_nil)))))
      (pss_one (ps_for PassesOwn.never rfl (pi_list (pv 2)) (pg_name (i := 6) sc__law_every.nd rfl (Or.inl rfl))
      (pss_one (ps_expr (pe_bm PySem.F.plainAttrs_list PySem.F.slot_list_append PySem.F.type_list_append mt_append (pe_dget (Nat.lt_of_le_of_lt (Nat.add_le_add_left (show 1 ≤ 64 by decide) _) hr.units) (pv 3) (pv 6) (fun _ _ => rfl)) (pa_cons (pe_dget (Nat.lt_of_le_of_lt (Nat.add_le_add_left (show 1 ≤ 64 by decide) _) hr.units) (pv 5) (pv 6) (fun _ _ => rfl)) pa_nil))))))))
      (pss_one (ps_ret (pv 3))))), ?_⟩
    refine ⟨_, rfl, m, rfl, ⟨_, SqL.of hm⟩, fun C nC => ?_⟩
    refine lc_list (K := K) (a := m) (xs := ns.map V.str) (fun i H' => Same H H' ∧ ∃ vs kvs, H' C = some (.lst vs) ∧ Pv H H' vs kvs (ns.take i) ∧ ∀ kv ∈ kvs, kv.2 ≠ .ref C) ?_ ?_ ?_ ?_
    · exact ⟨Same.new nC, [], [], upd_same, .nil, fun kv h => by cases h⟩
    · rintro i H1 _ ⟨s1, _⟩
      exact SqL.of (s1 _ _ hm)
    · rintro i y H1 hy ⟨s1, vs, kvs, hC, pv, nk⟩
      rw [List.getElem?_map] at hy
      cases ex : ns[i]? with
      | none => rw [ex] at hy; cases hy
      | some x =>
        rw [ex] at hy
        cases hy
        have hi := (List.getElem?_eq_some_iff.mp ex).1
        have lv := pv.len
        rw [List.length_take] at lv
        have tk : ns.take (i + 1) = ns.take i ++ [x] := by
          rw [List.take_add_one, ex]
          rfl
        refine ⟨rfl, _, rfl, Nat.zero_le _, fun L nL => ⟨Nat.le_of_ble_eq_true rfl, fun t nt => ?_⟩⟩
        have u1 := Same.new (o := .lst []) nL
        have u2 := Same.new (o := .tup [.str x, .ref L]) nt
        have U := u1.trans u2
        have hL := u2 _ _ (show upd H1 L (.lst []) L = some (.lst []) from upd_same)
        have LC : L ≠ C := (ne_of_none hC nL).symm
        have gv : ∀ kv ∈ kvs, kv.2 ≠ .ref L := fun kv hk e => by
          obtain ⟨M, eM, hM⟩ := pv.vals kv hk
          rw [eM] at e
          cases e
          rw [nL] at hM
          cases hM
        have p2 := (pv.same U).snoc upd_same hL (none_same s1 nL) gv
        have n2 : ∀ kv ∈ kvs ++ [((Sum.inr x : Key), V.ref L)], kv.2 ≠ .ref C := fun kv hk => by
          rcases List.mem_append.mp hk with hk | hk
          · exact nk kv hk
          · rw [List.mem_singleton.mp hk]
            exact fun z => LC (V.ref.inj z)
        refine ⟨vs, U _ _ hC, Nat.lt_of_lt_of_le (show vs.length < 1000 by omega) (by decide), fun c u eo => ?_, vs ++ [.ref t], kvs ++ [(Sum.inr x, .ref L)], upd_same, ?_, n2⟩
        · rw [upd_ne (ne_of_none eo nC)]
          exact U _ _ (s1 _ _ eo)
        · rw [tk]
          exact p2.upd (U _ _ hC) n2
    rintro H1 ⟨s1, vs, kvs, hC, pv, nk⟩
    rw [List.length_map, List.take_length] at pv
    obtain ⟨as, rfl, pr⟩ := pv.pairs (K := K)
    have ev := pv.ev nd
    have ek := pv.keys
    refine ⟨C, as, kvs, rfl, SqL.of hC, pr, fun D nD => ⟨_, rfl, ?_⟩⟩
    rw [merge_new (acc := []) (by rw [ek]; exact inr_nd nd), List.nil_append]
    have uD := Same.new (o := .dK kvs) nD
    have hD : upd H1 D (.dK kvs) D = some (.dK kvs) := upd_same
    have S1 := s1.trans uD
    have D0 := none_same s1 nD
    have ev := ev.same uD
    generalize upd H1 D (.dK kvs) = H2 at hD S1 ev ⊢
    clear uD nD pr pv nk hC nC s1
    refine ⟨m, ns, rfl, S1 _ _ hm, l5, fun W ws H3 s3 nW hW qW => ?_⟩
    obtain ⟨o1, o2, _⟩ := orders_take ns ns.length (Nat.le_refl _)
    rw [List.take_length] at o1 o2
    have ev3 := ev.same s3
    have hD3 := s3 _ _ hD
    have S3 := S1.trans s3
    have old : ∀ c o, H c = some o → ∀ x ∈ ns, valV kvs (Sum.inr x) ≠ some (.ref c) := fun c o e x hx z => by
      obtain ⟨L, a, _, n⟩ := ev3.at_ x hx
      rw [a] at z
      cases z
      rw [n] at e
      cases e
    have new : ∀ c o, H3 c = some o → o ≠ .lst [] → ∀ x ∈ ns, valV kvs (Sum.inr x) ≠ some (.ref c) := fun c o e ne x hx z => by
      obtain ⟨L, a, b, _⟩ := ev3.at_ x hx
      rw [a] at z
      cases z
      rw [b] at e
      exact ne (Option.some.inj e).symm
    have lw := qW.len
    have wne : HO.lst ws ≠ .lst [] := fun e => by
      have e := HO.lst.inj e
      rw [e] at lw
      have : ns ∈ orders ns := o2 ns (List.Perm.refl _)
      rw [List.eq_nil_of_length_eq_zero lw.symm] at this
      cases this
    refine ⟨W, rfl, ⟨_, SqL.of hW⟩, for_list (K := K) (a := W) (xs := ws) (fun j σ H' => (∃ a4 a5 a6 : Option V, σ = [some (.int kind), some (.ref k), some (.ref m), some (.ref D), a4, a5, a6]) ∧ FrL kvs ns H3 H' ∧ Ev H H' kvs ns (evG kind xs ((orders ns).take j)))
      ⟨⟨_, _, _, rfl⟩, (fun c u e _ => e), ev3⟩ ?_ ?_ ?_⟩
    · rintro j σ H4 _ ⟨_, f4, _⟩
      exact SqL.of (f4 _ _ hW (new _ _ hW wne))
    · rintro j y σ H4 hy ⟨⟨a4, a5, a6, rfl⟩, f4, ev4⟩
      obtain ⟨a, o, rfl, hq, ha⟩ := qW.get hy
      have po := o1 o (List.mem_of_getElem? hq)
      have ane : ∀ x ∈ ns, valV kvs (Sum.inr x) ≠ some (.ref a) := fun x hx => by
        refine new a _ ha (fun e => ?_) x hx
        have z := HO.lst.inj e
        rw [List.map_eq_nil_iff.mp z] at po
        rw [List.perm_nil.mp po.symm] at hx
        cases hx
      have ha4 := f4 _ _ ha ane
      have hk4 := f4 _ _ (S3 _ _ hk) (old _ _ hk)
      have hm4 := f4 _ _ (S3 _ _ hm) (old _ _ hm)
      have hD4 := f4 _ _ hD3 (new _ _ hD3 (fun e => by cases e))
      refine ⟨_, rfl, _, rfl, _, rfl, kind, k, a, xs, o, rfl, hk4, ha4, ixs, lx, po.nodup_iff.mpr nd, by rw [po.length_eq]; omega, fun x hx => sub x (po.mem_iff.mp hx), fun S H5 s5 nS hS => ⟨_, rfl, ?_⟩⟩
      have f5 : FrL kvs ns H3 H5 := fun c u e n => s5 _ _ (f4 c u e n)
      have ev5 := ev4.same s5
      have S0 : ∀ x, valV (dP (tvs kind xs (ordK kind o) (ordK kind o))) (Sum.inr x) = if x ∈ o then some (.int ((tvo kind xs o x : Nat) : Int)) else none := fun x => by
        rw [tvs_val]
        by_cases e : x ∈ o
        · rw [if_pos e, if_pos ((ordK_perm kind o).mem_iff.mpr e)]
          rfl
        · rw [if_neg e, if_neg fun z => e ((ordK_perm kind o).mem_iff.mp z)]
      generalize dP (tvs kind xs (ordK kind o) (ordK kind o)) = sl at hS S0
      have hm5 := s5 _ _ hm4
      have hD5 := s5 _ _ hD4
      have mne : ∀ (c : Addr) (u : HO), H c = some u → ∀ x ∈ ns, valV kvs (Sum.inr x) ≠ some (.ref c) := old
      refine ⟨m, rfl, ⟨_, SqL.of hm5⟩, for_list (K := K) (a := m) (xs := ns.map V.str) (fun i σ H' => (∃ a6 : Option V, σ = [some (.int kind), some (.ref k), some (.ref m), some (.ref D), some (.ref a), some (.ref S), a6]) ∧ FrL kvs ns H5 H' ∧ H' S = some (.dK sl) ∧ Ev H H' kvs ns (fun y => if y ∈ ns.take i then evG kind xs ((orders ns).take (j + 1)) y else evG kind xs ((orders ns).take j) y))
        ⟨⟨_, rfl⟩, (fun c u e _ => e), hS, ev5.congr fun x _ => by rw [if_neg (by intro z; cases z)]⟩ ?_ ?_ ?_⟩
      · rintro i σ H6 _ ⟨_, f6, _⟩
        exact SqL.of (f6 _ _ hm5 (old _ _ hm))
      · rintro i y σ H6 hy ⟨⟨a6, rfl⟩, f6, hS6, ev6⟩
        rw [List.getElem?_map] at hy
        cases ex : ns[i]? with
        | none => rw [ex] at hy; cases hy
        | some x =>
          rw [ex] at hy
          cases hy
          have mx := List.mem_of_getElem? ex
          have hi := (List.getElem?_eq_some_iff.mp ex).1
          have tk : ns.take (i + 1) = ns.take i ++ [x] := by
            rw [List.take_add_one, ex]
            rfl
          have nx : x ∉ ns.take i := fun z => by
            have n2 := (List.take_sublist (i + 1) ns).nodup nd
            rw [tk] at n2
            exact (List.nodup_append.mp n2).2.2 x z x (List.mem_singleton.mpr rfl) rfl
          obtain ⟨L, vL, hL, nL⟩ := ev6.at_ x mx
          rw [if_neg nx] at hL
          have hD6 := f6 _ _ hD5 (new _ _ hD3 (fun e => by cases e))
          refine ⟨_, rfl, _, rfl, D, _, rfl, (by have z := DGet.k (k := Sum.inr x) hD6; rw [vL] at z; exact z), ?_⟩
          refine ⟨.inl ⟨rfl, _, SqL.of hL⟩, ?_⟩
          have lq := List.length_take_le j (orders ns)
          have le : (vN (evG kind xs ((orders ns).take j) x)).length ≤ 7776 := by
            unfold evG
            rw [vN_len, List.length_map]
            have := (orders_take ns ns.length (Nat.le_refl _)).2.2
            rw [List.take_length] at this
            have : (ns.length + 1) ^ ns.length ≤ 6 ^ 5 := Nat.le_trans (Nat.pow_le_pow_left (show ns.length + 1 ≤ 6 by omega) _) (Nat.pow_le_pow_right (by decide) l5)
            have hj := (List.getElem?_eq_some_iff.mp hq).1
            omega
          have xo : x ∈ o := po.mem_iff.mpr mx
          have vS := S0 x
          rw [if_pos xo] at vS
          refine ⟨_, rfl, _, rfl, S, _, rfl, (by have z := DGet.k (k := Sum.inr x) hS6; rw [vS] at z; exact z), L, _, _, rfl, rfl, hL, Nat.lt_of_le_of_lt le (by decide), ?_⟩
          have e1 : vN (evG kind xs ((orders ns).take j) x) ++ [V.int ((tvo kind xs o x : Nat) : Int)] = vN (evG kind xs ((orders ns).take (j + 1)) x) := by
            unfold evG
            rw [List.take_add_one, hq, List.map_append, vN_app]
            rfl
          rw [e1]
          refine ⟨⟨_, rfl⟩, fun c u e n => ?_, ?_, (ev6.upd mx vL _).congr fun z hz => ?_⟩
          · rw [upd_ne (fun q => n x mx (by rw [q]; exact vL))]
            exact f6 _ _ e n
          · rw [upd_ne (fun q => by rw [q, hL] at hS6; cases hS6)]
            exact hS6
          · by_cases q : z = x
            · subst q
              rw [if_pos rfl, if_pos (by rw [tk]; exact List.mem_append_right _ (List.mem_singleton.mpr rfl))]
            · rw [if_neg q]
              by_cases g : z ∈ ns.take i
              · rw [if_pos g, if_pos (by rw [tk]; exact List.mem_append_left _ g)]
              · rw [if_neg g, if_neg (by rw [tk]; exact fun y => (List.mem_append.mp y).elim g fun y => q (List.mem_singleton.mp y))]
      · rintro σ H6 ⟨⟨a6, rfl⟩, f6, hS6, ev6⟩
        rw [List.length_map, List.take_length] at ev6
        exact ⟨⟨_, _, _, rfl⟩, (fun c u e n => f6 _ _ (f5 c u e n) n), ev6.congr fun x hx => by rw [if_pos hx]⟩
    · rintro σ H4 ⟨⟨a4, a5, a6, rfl⟩, f4, ev4⟩
      rw [lw, List.take_length] at ev4
      exact ⟨_, rfl, h D kvs H4 (fun c u e => f4 _ _ (S3 _ _ e) (old _ _ e)) D0 (f4 _ _ hD3 (new _ _ hD3 (fun e => by cases e))) ev4⟩

end
end Own

set_option Elab.async false
set_option linter.all false
set_option maxRecDepth 100000
set_option maxHeartbeats 4000000
namespace Own
open PySem L2 ClX
local macro_rules | `(tactic| walk_at "v") => `(tactic| refine ⟨_, rfl, ?_⟩)
local macro_rules | `(tactic| walk_at "ii") => `(tactic| refine ⟨_, _, rfl, rfl, ?_⟩)
local macro_rules | `(tactic| walk_at "go") => `(tactic| repeat (first | refine ⟨_, rfl, ?_⟩ | refine ⟨_, _, rfl, rfl, ?_⟩ | refine addI ?_ | refine L2.iteT ?_ | refine L2.iteF ?_))

section
variable {P : Program} {w : World} {K : PySem.W.Frag} {mg : Str → Option Value} {base : Heap} {A : Ad}
/-! ### what is due: the kind, the item and the index next to its own -/
/-- a list of just the numbers of a range -/
structure Spn (l : List Nat) (r : Nat × Nat) : Prop where
  mem : ∀ v, v ∈ l ↔ r.1 ≤ v ∧ v ≤ r.2
  le : r.1 ≤ r.2
  h60 : r.2 ≤ 60
  len : l.length ≤ 7776
theorem clamp_in {r : Nat × Nat} {n : Nat} (le : r.1 ≤ r.2) : r.1 ≤ clampN r n ∧ clampN r n ≤ r.2 := by
  unfold clampN
  (repeat' split) <;> omega
/-- how far two numbers are from each other -/
def dif (v n : Nat) : Int := if (v : Int) - (n : Int) < 0 then -((v : Int) - (n : Int)) else (v : Int) - (n : Int)
theorem clamp_best {r : Nat × Nat} {n v : Nat} (h0 : r.1 ≤ v) (h1 : v ≤ r.2) : dif (clampN r n) n ≤ dif v n ∧ (dif v n = dif (clampN r n) n → v = clampN r n) := by
  unfold clampN dif
  constructor
  · (repeat' split) <;> omega
  · (repeat' split) <;> intro _ <;> omega
theorem Spn.far {l : List Nat} {r : Nat × Nat} (h : Spn l r) {n : Nat} {m : Int} (mem : m ∈ l.map fun v => dif v n) (min : ∀ y ∈ l.map fun v => dif v n, m ≤ y) : m = dif (clampN r n) n := by
  obtain ⟨v, hv, rfl⟩ := List.mem_map.mp mem
  obtain ⟨a, b⟩ := (h.mem v).mp hv
  have c := (clamp_best (n := n) a b).1
  have := min _ (List.mem_map.mpr ⟨_, (h.mem _).mpr (clamp_in (n := n) h.le), rfl⟩)
  omega
theorem Spn.first {l : List Nat} {r : Nat × Nat} (h : Spn l r) (n : Nat) : ∃ m, l.filter (fun v => decide (dif v n = dif (clampN r n) n)) = clampN r n :: m := by
  have mc := (h.mem _).mpr (clamp_in (n := n) h.le)
  have all : ∀ v ∈ l.filter (fun v => decide (dif v n = dif (clampN r n) n)), v = clampN r n := fun v hv => by
    obtain ⟨a, b⟩ := List.mem_filter.mp hv
    obtain ⟨c, d⟩ := (h.mem v).mp a
    exact (clamp_best c d).2 (of_decide_eq_true b)
  have mf : clampN r n ∈ l.filter (fun v => decide (dif v n = dif (clampN r n) n)) := List.mem_filter.mpr ⟨mc, decide_eq_true rfl⟩
  generalize l.filter (fun v => decide (dif v n = dif (clampN r n) n)) = k at all mf
  cases k with
  | nil => cases mf
  | cons v k => exact ⟨k, by rw [all v List.mem_cons_self]⟩
def dueL (rg : Str → Nat × Nat) (qs : List (Int × Str × Nat)) : List (Int × Str × Nat) := qs.map fun q => (q.1, q.2.1, clampN (rg q.2.1) q.2.2)
def spDue (A : Ad) : Sp := fun vs H Q _ => ∃ (kind : Int) (l e : Addr) (rs : List V) (qs : List (Int × Str × Nat)) (kvs : List (Key × V)) (g : Str → List Nat) (rg : Str → Nat × Nat), vs = [.int kind, .ref l, .ref e] ∧ H l = some (.lst rs) ∧ Rows A H rs qs ∧ LogQ kind qs ∧ H e = some (.dK kvs) ∧
  (∀ x ∈ names qs, (∃ L : Addr, valV kvs (Sum.inr x) = some (.ref L) ∧ H L = some (.lst (vN (g x)))) ∧ Spn (g x) (rg x)) ∧
  ∀ (D : Addr) (us : List V) (H' : Hp), Same H H' → H D = none → H' D = some (.lst us) → Fcts H' us (dueL rg qs) → Q (.ref D) H'
theorem ok__law_due (T : Txt K mg A) : Ok1 P w K mg base 3 A.f__law_due ["kind", "book", "every"] (spDue A) := by
  refine T.fn__law_due.ok sc__law_due (fun _ _ _ _ _ _ us hl => match us, hl with | [_, _, _], _ => rfl) (fun vs H Q E h => ?_) (fun cdv B up s H vs Q E hr h => ?_)
  · obtain ⟨kind, l, e, rs, qs, kvs, g, rg, rfl, _⟩ := h
    rfl
  · obtain ⟨kind, l, e, rs, qs, kvs, g, rg, rfl, hl, rows, LQ, he, hg, h⟩ := h
    refine ⟨_, (pss_cons (ps_set (i := 3) sc__law_due.nd rfl (Or.inl rfl) (pe_lst pa_nil))
      (pss_cons (ps_for PassesOwn.never rfl (pi_list (pv 1)) (pg_name (i := 4) sc__law_due.nd rfl (Or.inr rfl))
      (pss_cons (ps_set (i := 5) sc__law_due.nd rfl (Or.inl rfl) (pe_dget (Nat.lt_of_le_of_lt (Nat.add_le_add_left (show 1 ≤ 64 by decide) _) hr.units) (pv 2) (po_propD (p := A.p_Record_item) (ok_Record_item T) (hr.mono (by decide)) (pv 4)) (fun _ _ => rfl)))
      (pss_cons (ps_set (i := 6) sc__law_due.nd rfl (Or.inr rfl) (pe_callB (cr_min rfl) (by rfl) T.no_min (by decide +kernel) (pa_cons (pe_lcD (own := [("slot", 7)]) rfl sc__law_due.nd (pi_list (pv 5)) (blkOk_by (N := N__law_due) (sc := defScope s__law_due) (by decide +kernel)) (fun _ _ _ _ _ => pg_name (i := 7) sc__law_due.nd rfl (Or.inl rfl)) (fun _ _ _ _ _ => pts_nil) (fun _ _ _ _ _ => (pe_callB call_abs (by rfl) T.no_abs (by decide +kernel) (pa_cons (pe_op op_sub (pv 7) (po_propD (p := A.p_Record_slot) (ok_Record_slot T) (hr.mono (by decide)) (pv 4))) pa_nil)))) pa_nil)))
      (pss_cons (ps_set (i := 7) sc__law_due.nd rfl (Or.inl rfl) (pe_ix ix_seq (pe_lcD (own := [("slot", 7)]) rfl sc__law_due.nd (pi_list (pv 5)) (blkOk_by (N := N__law_due) (sc := defScope s__law_due) (by decide +kernel)) (fun _ _ _ _ _ => pg_name (i := 7) sc__law_due.nd rfl (Or.inl rfl)) (fun _ _ _ _ _ => (pts_one (pt_cmpR (op_eqX hr) (pe_callB call_abs (by rfl) T.no_abs (by decide +kernel) (pa_cons (pe_op op_sub (pv 7) (po_propD (p := A.p_Record_slot) (ok_Record_slot T) (hr.mono (by decide)) (pv 4))) pa_nil)) (pv 6) (nomark _)))) (fun _ _ _ _ _ => (pv 7))) pe_int (fun _ _ => rfl)))
      (pss_one (ps_expr (pe_bm PySem.F.plainAttrs_list PySem.F.slot_list_append PySem.F.type_list_append mt_append (pv 3) (pa_cons (pe_tup (pa_cons (pe_lst (pa_cons (pe_cmpR (op_eqX hr) (pv 0) pe_int (nomark _)) (pa_cons (pe_cmpR (op_eqX hr) (pv 0) pe_int (nomark _)) (pa_cons (pe_cmpR (op_eqX hr) (pv 0) pe_int (nomark _)) pa_nil)))) (pa_cons (po_propD (p := A.p_Record_item) (ok_Record_item T) (hr.mono (by decide)) (pv 4)) (pa_cons (pv 7) pa_nil)))) pa_nil))))))))
      (pss_one (ps_ret (pv 3))))), ?_⟩
    have lr := rows.len
    have ll := LQ.len
    refine ⟨Nat.zero_le _, fun D nD => ?_⟩
    have uD := Same.new (o := .lst []) nD
    refine ⟨_, rfl, l, rfl, ⟨_, SqL.of (uD _ _ hl)⟩, for_list (K := K) (a := l) (xs := rs) (fun i σ H' => (∃ a4 a5 a6 a7 : Option V, σ = [some (.int kind), some (.ref l), some (.ref e), some (.ref D), a4, a5, a6, a7]) ∧ Same H H' ∧ ∃ us, H' D = some (.lst us) ∧ Fcts H' us ((dueL rg qs).take i))
      ⟨⟨_, _, _, _, rfl⟩, uD, [], upd_same, .nil⟩ ?_ ?_ ?_⟩
    · rintro i σ H1 _ ⟨_, s1, _⟩
      exact SqL.of (s1 _ _ hl)
    · rintro i y σ H1 hy ⟨⟨a4, a5, a6, a7, rfl⟩, s1, us, hD, f1⟩
      obtain ⟨p, dx, way, x, n, rfl, hq, hp, w0, w3, hx⟩ := rows.get hy
      have hi := (List.getElem?_eq_some_iff.mp hq).1
      have hp1 := s1 _ _ hp
      have mx : x ∈ names qs := List.mem_map.mpr ⟨_, List.mem_of_getElem? hq, rfl⟩
      have n60 : n ≤ 60 := LQ.bd _ (List.mem_of_getElem? hq)
      obtain ⟨⟨L, vL, hL⟩, sp⟩ := hg x mx
      have hL1 := s1 _ _ hL
      have he1 := s1 _ _ he
      have cl := (kd_of T w0 (by omega : way ≤ 3)).rc.cl
      have lf := f1.len
      rw [List.length_take] at lf
      generalize g x = gs at hL hL1 sp
      have lg := sp.len
      have g60 : ∀ v ∈ gs, v ≤ 60 := fun v hv => Nat.le_trans ((sp.mem v).mp hv).2 sp.h60
      refine ⟨_, rfl, _, rfl, p, _, dx, _, rfl, hp1, cl, prop_item T w0 (by omega), p, dx, way, x, n, rfl, hp1, w0, by omega, e, _, rfl, (by have z := DGet.k (k := Sum.inr x) he1; rw [vL] at z; exact z), ?_⟩
      refine ⟨_, rfl, L, rfl, ⟨_, SqL.of hL1⟩, fun C nC => ?_⟩
      have absV : ∀ v : Nat, (if (v : Int) - (n : Int) < 0 then -((v : Int) - (n : Int)) else (v : Int) - (n : Int)) = dif v n := fun _ => rfl
      refine lc_list (K := K) (a := L) (xs := vN gs) (fun t H' => Same H1 H' ∧ H' C = some (.lst (((gs.take t).map fun v => dif v n).map V.int))) ?_ ?_ ?_ ?_
      · exact ⟨Same.new nC, upd_same⟩
      · rintro t H2 _ ⟨s2, _⟩
        exact SqL.of (s2 _ _ hL1)
      · rintro t y H2 hy ⟨s2, h2⟩
        have ht := (List.getElem?_eq_some_iff.mp hy).1
        rw [vN_len] at ht
        unfold vN at hy
        rw [List.getElem?_map, List.getElem?_eq_getElem ht] at hy
        obtain rfl := Option.some.inj hy
        refine ⟨rfl, _, rfl, _, rfl, p, _, dx, _, rfl, s2 _ _ hp1, cl, prop_slot T w0 (by omega), p, dx, way, x, n, rfl, s2 _ _ hp1, w0, by omega, ?_⟩
        have tk : gs.take (t + 1) = gs.take t ++ [gs[t]] := by
          rw [List.take_add_one, List.getElem?_eq_getElem ht]
          rfl
        generalize gs[t] = v at tk ⊢
        refine ⟨_, _, rfl, rfl, _, rfl, _, h2, ?_, fun c u eo => ?_, ?_⟩
        · rw [List.length_map, List.length_map]
          exact Nat.lt_of_le_of_lt (List.length_take_le _ _) (Nat.lt_of_lt_of_le (show t < 10000 by omega) (by decide))
        · rw [upd_ne (ne_of_none eo nC)]
          exact s2 _ _ eo
        · rw [upd_same, tk, List.map_append, List.map_append, absV]
          rfl
      rintro H2 ⟨s2, h2⟩
      rw [vN_len, List.take_length] at h2
      have gne : gs ≠ [] := fun z => by
        have := (sp.mem _).mpr (clamp_in (n := n) sp.le)
        rw [z] at this
        cases this
      refine ⟨C, _, rfl, SqL.of h2, by rw [List.length_map]; exact List.length_pos_iff.mpr gne, fun m mm mn => ?_⟩
      rw [sp.far mm mn]
      refine ⟨_, rfl, L, rfl, ⟨_, SqL.of (s2 _ _ hL1)⟩, fun G nG => ?_⟩
      refine lc_list (K := K) (a := L) (xs := vN gs) (fun t H' => Same H2 H' ∧ H' G = some (.lst (vN ((gs.take t).filter fun v => decide (dif v n = dif (clampN (rg x) n) n))))) ?_ ?_ ?_ ?_
      · exact ⟨Same.new nG, upd_same⟩
      · rintro t H3 _ ⟨s3, _⟩
        exact SqL.of (s3 _ _ (s2 _ _ hL1))
      · rintro t y H3 hy ⟨s3, h3⟩
        have ht := (List.getElem?_eq_some_iff.mp hy).1
        rw [vN_len] at ht
        unfold vN at hy
        rw [List.getElem?_map, List.getElem?_eq_getElem ht] at hy
        obtain rfl := Option.some.inj hy
        have tk : gs.take (t + 1) = gs.take t ++ [gs[t]] := by
          rw [List.take_add_one, List.getElem?_eq_getElem ht]
          rfl
        have hp3 := s3 _ _ (s2 _ _ hp1)
        generalize gs[t] = v at tk ⊢
        refine ⟨rfl, _, rfl, _, rfl, p, _, dx, _, rfl, hp3, cl, prop_slot T w0 (by omega), p, dx, way, x, n, rfl, hp3, w0, by omega, _, _, rfl, rfl, _, rfl, _, rfl, eqS rfl ⟨_, rfl, ?_⟩⟩
        rw [absV]
        by_cases c : dif v n = dif (clampN (rg x) n) n
        · rw [decide_eq_true (congrArg V.int c)]
          refine iteT ⟨_, rfl, _, h3, ?_, fun o u eo => ?_, ?_⟩
          · rw [vN_len]
            exact Nat.lt_of_le_of_lt (List.length_filter_le _ _) (Nat.lt_of_le_of_lt (List.length_take_le _ _) (Nat.lt_of_lt_of_le (show t < 10000 by omega) (by decide)))
          · rw [upd_ne (ne_of_none eo nG)]
            exact s3 _ _ eo
          · rw [upd_same, tk, List.filter_append, List.filter_cons_of_pos (p := fun v => decide (dif v n = dif (clampN (rg x) n) n)) (decide_eq_true c), List.filter_nil, vN_app]
            rfl
        · rw [decide_eq_false (fun z => c (V.int.inj z))]
          refine iteF ⟨s3, ?_⟩
          rw [tk, List.filter_append, List.filter_cons_of_neg (p := fun v => decide (dif v n = dif (clampN (rg x) n) n)) (by show ¬ decide (dif v n = dif (clampN (rg x) n) n) = true; rw [decide_eq_false c]; decide), List.filter_nil, List.append_nil]
          exact h3
      rintro H3 ⟨s3, h3⟩
      rw [vN_len, List.take_length] at h3
      obtain ⟨rest, ef⟩ := sp.first n
      rw [ef] at h3
      have S3 := s1.trans (s2.trans s3)
      have hD3 := (s2.trans s3) _ _ hD
      have hp3 := S3 _ _ hp
      have f3 := f1.same (s2.trans s3)
      clear s2 s3 h2 nC nG
      refine ixL h3 (atI0 _ _) ⟨_, rfl, .inl ⟨rfl, _, SqL.of hD3⟩, ?_⟩
      have ew : way = kind := LQ.wy _ (List.mem_of_getElem? hq)
      subst ew
      have ek : ∀ z : Int, V.bl (decide (V.int way = V.int z)) = .bl (decide (way = z)) := fun z => by
        by_cases c : way = z
        · rw [c, decide_eq_true rfl, decide_eq_true rfl]
        · rw [decide_eq_false c, decide_eq_false fun q => c (V.int.inj q)]
      refine ⟨_, rfl, eqS rfl ⟨_, rfl, eqS rfl ⟨_, rfl, eqS rfl ⟨Nat.le_of_ble_eq_true rfl, fun b nb => ?_⟩⟩⟩⟩
      rw [ek, ek, ek]
      have ub := Same.new (o := .lst (kindsV way)) nb
      have hb : upd H3 b (.lst [.bl (decide (way = 0)), .bl (decide (way = 1)), .bl (decide (way = 2))]) b = some (.lst (kindsV way)) := upd_same
      obtain ⟨H4, e4⟩ : ∃ H4, upd H3 b (.lst (kindsV way)) = H4 := ⟨_, rfl⟩
      have e4' : upd H3 b (.lst [.bl (decide (way = 0)), .bl (decide (way = 1)), .bl (decide (way = 2))]) = H4 := e4
      rw [e4] at ub
      rw [e4'] at hb ⊢
      have hp4 := ub _ _ hp3
      have hD4 := ub _ _ hD3
      have f4 := f3.same ub
      have S4 := S3.trans ub
      refine ⟨_, rfl, p, _, dx, _, rfl, hp4, cl, prop_item T w0 (by omega), p, dx, way, x, n, rfl, hp4, w0, by omega, _, rfl, Nat.le_of_ble_eq_true rfl, fun tp ntp => ⟨D, us, _, rfl, rfl, (Same.new ntp) _ _ hD4, Nat.lt_of_lt_of_le (show us.length < 1000 by omega) (by decide), ?_⟩⟩
      have ut := Same.new (o := .tup [.ref b, .str x, .int (clampN (rg x) n : Nat)]) ntp
      refine ⟨⟨_, _, _, _, rfl⟩, fun c u eo => ?_, us ++ [.ref tp], upd_same, ?_⟩
      · rw [upd_ne (ne_of_none eo nD)]
        exact ut _ _ (S4 _ _ eo)
      · have e2 : (dueL rg qs).take (i + 1) = (dueL rg qs).take i ++ [(way, x, clampN (rg x) n)] := by
          unfold dueL
          rw [List.take_add_one, List.getElem?_map, hq]
          rfl
        rw [e2]
        exact ((f4.same ut).snoc upd_same (ut _ _ hb)).updN (ut _ _ hD4) (fun xs e => by cases e) (notKinds _ f4.refs)
    · rintro σ H1 ⟨⟨a4, a5, a6, a7, rfl⟩, s1, us, hD, f1⟩
      rw [List.take_of_length_le (by unfold dueL; rw [List.length_map]; omega)] at f1
      exact ⟨_, rfl, h D us H1 s1 nD hD f1⟩

end
end Own

set_option Elab.async false
set_option linter.all false
set_option maxRecDepth 100000
set_option maxHeartbeats 4000000
namespace Own
open PySem L2 ClX
local macro_rules | `(tactic| walk_at "v") => `(tactic| refine ⟨_, rfl, ?_⟩)
local macro_rules | `(tactic| walk_at "ii") => `(tactic| refine ⟨_, _, rfl, rfl, ?_⟩)
local macro_rules | `(tactic| walk_at "go") => `(tactic| repeat (first | refine ⟨_, rfl, ?_⟩ | refine ⟨_, _, rfl, rfl, ?_⟩ | refine addI ?_ | refine L2.iteT ?_ | refine L2.iteF ?_))

section
variable {P : Program} {w : World} {K : PySem.W.Frag} {mg : Str → Option Value} {base : Heap} {A : Ad}
/-! ### move_to -/
def spMove (K : PySem.W.Frag) : Sp := fun vs H Q _ => ∃ (p C dx : Addr) (x : Str) (m n : Int), vs = [.ref p, .int n] ∧ H p = some (.ins C dx (rfs x m)) ∧ RC K C ∧ 0 ≤ n ∧ n ≤ 60 ∧ Q .non (upd H p (.ins C dx (rfs x n)))
theorem ok_Record_move_to (T : Txt K mg A) : Ok1 P w K mg base 3 A.m_Record_move_to ["self", "slot"] (spMove K) := by
  refine T.fn_Record_move_to.ok sc_Record_move_to (fun _ _ _ _ _ _ us hl => match us, hl with | [_, _], _ => rfl) (fun vs H Q E h => ?_) (fun cdv B up s H vs Q E hr h => ?_)
  · obtain ⟨p, C, dx, x, m, n, rfl, _⟩ := h
    rfl
  · obtain ⟨p, C, dx, x, m, n, rfl, hp, R, h0, h1, h⟩ := h
    refine ⟨_, (pss_cons (ps_expr (po_call (ok_check_index T) (hr.mono (by decide)) T.mg_check_index (pa_cons (pv 1) pa_nil)))
      (pss_one (ps_fld (pv 0) (pv 1) rfl))), ?_⟩
    refine ⟨_, rfl, _, rfl, h0, h1, ?_⟩
    refine ⟨_, rfl, _, rfl, p, C, dx, _, rfl, hp, R.cl, R.nS, rfs_len _ _, ?_⟩
    rw [rfs_put]
    exact h
theorem meths_move (T : Txt K mg A) {way : Int} (h0 : 0 ≤ way) (h1 : way ≤ 3) : RC K (cw A way) ∧ ∃ f, Meth K (cw A way) "move_to" f ∧ Ok1 P w K mg base 3 f ["self", "slot"] (spMove K) := by
  rcases way4 h0 h1 with rfl | rfl | rfl | rfl
  · exact ⟨rc_Inserted T, _, T.me_Inserted_move_to, ok_Record_move_to T⟩
  · exact ⟨rc_Removed T, _, T.me_Removed_move_to, ok_Record_move_to T⟩
  · exact ⟨rc_Fronted T, _, T.me_Fronted_move_to, ok_Record_move_to T⟩
  · exact ⟨rc_Record T, _, T.me_Record_move_to, ok_Record_move_to T⟩

theorem Rows.but {H H' : Hp} {p : Addr} {n : Int} {vs : List V} {ps : List (Int × Str × Nat)} (h : Rows A H vs ps) (s : SrcAt H p n) (b : But p H H') : Rows A H' vs ps := by
  induction h with
  | nil => exact .nil
  | @cons q dx way x m vs ps e h0 h1 hx _ ih =>
    refine .cons (dx := dx) (b _ _ e fun z => ?_) h0 h1 hx ih
    obtain ⟨g, m', c, z2, _⟩ := s
    rw [z, z2] at e
    cases e

theorem rfs_inj {H : Hp} {b C C' dx dx' : Addr} {x y : Str} {n m : Int} (e : H b = some (.ins C dx (rfs x n))) (e' : H b = some (.ins C' dx' (rfs y m))) : x = y := by
  rw [e] at e'
  have z := (HO.ins.inj (Option.some.inj e')).2.2
  have a := rfs_item x n
  rw [z, rfs_item] at a
  exact (V.str.inj (Option.some.inj a)).symm
theorem Rows.updR {H : Hp} {vs : List V} {ps : List (Int × Str × Nat)} {a C dx : Addr} {x : Str} {n : Int} {o : HO} (h : Rows A H vs ps) (e : H a = some (.ins C dx (rfs x n))) (nx : x ∉ names ps) : Rows A (upd H a o) vs ps := by
  induction h with
  | nil => exact .nil
  | @cons q dx' way y m vs ps e' h0 h1 hx _ ih =>
    refine .cons (dx := dx') ?_ h0 h1 hx (ih fun z => nx (List.mem_cons_of_mem _ z))
    rw [upd_ne (fun z => nx (by rw [z] at e'; rw [rfs_inj e e']; exact List.mem_cons_self))]
    exact e'
theorem Rows.moveAt {H : Hp} {vs : List V} {ps : List (Int × Str × Nat)} {a dx : Addr} {way : Int} {x : Str} {n n' : Nat} (h : Rows A H vs ps) (nd : (names ps).Nodup) (e : H a = some (.ins (cw A way) dx (rfs x n))) : ∀ {i : Nat}, vs[i]? = some (.ref a) → ps[i]? = some (way, x, n) → Rows A (upd H a (.ins (cw A way) dx (rfs x n'))) vs (ps.set i (way, x, n')) := by
  induction h with
  | nil => intro i hv; cases hv
  | @cons q dx' way' y m vs ps e' h0 h1 hx r ih =>
    intro i hv hp
    obtain ⟨n1, n2⟩ := List.nodup_cons.mp nd
    cases i with
    | zero =>
      cases hv
      cases hp
      exact .cons (dx := dx) upd_same h0 h1 hx (r.updR e n1)
    | succ i =>
      have hp : ps[i]? = some (way, x, n) := hp
      have mem : x ∈ names ps := List.mem_map.mpr ⟨_, List.mem_of_getElem? hp, rfl⟩
      refine .cons (dx := dx') ?_ h0 h1 hx (ih n2 hv hp)
      rw [upd_ne (fun z => n1 (by
        rw [z] at e'
        have : y = x := rfs_inj e' e
        show y ∈ names ps
        rw [this]
        exact mem))]
      exact e'
theorem names_set {w w' : Int} {x : Str} {n n' : Nat} : ∀ {qs : List (Int × Str × Nat)} {i : Nat}, qs[i]? = some (w, x, n) → names (qs.set i (w', x, n')) = names qs
  | [], _, h => by cases h
  | q :: qs, 0, h => by
    cases h
    rfl
  | q :: qs, i + 1, h => congrArg (q.2.1 :: ·) (names_set (qs := qs) (i := i) h)
theorem LogQ.set {way w : Int} {x : Str} {n n' i : Nat} {qs : List (Int × Str × Nat)} (L : LogQ way qs) (h : qs[i]? = some (w, x, n)) (hn : n' ≤ 60) : LogQ way (qs.set i (way, x, n')) := by
  refine ⟨fun q hq => ?_, fun q hq => ?_, L.w0, L.w1, ?_, ?_⟩
  · rcases List.mem_or_eq_of_mem_set hq with m | rfl
    · exact L.bd q m
    · exact hn
  · rcases List.mem_or_eq_of_mem_set hq with m | rfl
    · exact L.wy q m
    · rfl
  · rw [names_set h]
    exact L.nd
  · rw [List.length_set]
    exact L.len

/-! ### pairs of an item and an index, and their dict -/
inductive Prs (H : Hp) : List V → List (Str × Nat) → Prop where
  | nil : Prs H [] []
  | cons {t : Addr} {x : Str} {n : Nat} {vs : List V} {ps : List (Str × Nat)} (e : H t = some (.tup [.str x, .int n])) (r : Prs H vs ps) : Prs H (.ref t :: vs) ((x, n) :: ps)
theorem Prs.same {H H' : Hp} {vs : List V} {ps : List (Str × Nat)} (h : Prs H vs ps) (s : Same H H') : Prs H' vs ps := by
  induction h with
  | nil => exact .nil
  | cons e _ ih => exact .cons (s _ _ e) ih
theorem Prs.len {H : Hp} {vs : List V} {ps : List (Str × Nat)} (h : Prs H vs ps) : vs.length = ps.length := by
  induction h with
  | nil => rfl
  | cons _ _ ih => rw [List.length_cons, List.length_cons, ih]
theorem Prs.updL {H : Hp} {vs us : List V} {ps : List (Str × Nat)} {D : Addr} {o : HO} (h : Prs H vs ps) (hD : H D = some (.lst us)) : Prs (upd H D o) vs ps := by
  induction h with
  | nil => exact .nil
  | @cons t x n vs ps e _ ih =>
    refine .cons ?_ ih
    rw [upd_ne (fun z => by rw [z, hD] at e; cases e)]
    exact e
theorem Prs.snoc {H : Hp} {vs : List V} {ps : List (Str × Nat)} {t : Addr} {x : Str} {n : Nat} (h : Prs H vs ps) (e : H t = some (.tup [.str x, .int n])) : Prs H (vs ++ [.ref t]) (ps ++ [(x, n)]) := by
  induction h with
  | nil => exact .cons e .nil
  | cons e' _ ih => exact .cons e' ih
def pairsQ (qs : List (Int × Str × Nat)) : List (Str × Nat) := qs.map fun q => (q.2.1, q.2.2)
def slotsQ (qs : List (Int × Str × Nat)) : List (Key × V) := (pairsQ qs).map fun p => (Sum.inr p.1, V.int (p.2 : Nat))
theorem slots_keys (qs : List (Int × Str × Nat)) : (slotsQ qs).map (·.1) = (names qs).map Sum.inr := by
  unfold slotsQ pairsQ names
  rw [List.map_map, List.map_map, List.map_map]
  rfl
theorem slots_merge {qs : List (Int × Str × Nat)} (nd : (names qs).Nodup) : mergeK [] (slotsQ qs) = slotsQ qs := by
  rw [merge_new]
  · rfl
  · show ((slotsQ qs).map (·.1)).Nodup
    rw [slots_keys, List.nodup_iff_pairwise_ne, List.pairwise_map]
    exact List.Pairwise.imp (fun ne e => ne (Sum.inr.inj e)) (List.nodup_iff_pairwise_ne.mp nd)
theorem slots_val (qs : List (Int × Str × Nat)) (x : Str) : valV (slotsQ qs) (Sum.inr x) = if x ∈ names qs then some (.int (slotOf qs x : Nat)) else none := by
  unfold valV slotsQ pairsQ
  rw [List.map_map, List.find?_map]
  have ef : (fun kv : Key × V => decide (kv.1 = Sum.inr x)) ∘ ((fun p : Str × Nat => ((Sum.inr p.1 : Key), V.int (p.2 : Nat))) ∘ fun q : Int × Str × Nat => (q.2.1, q.2.2)) = fun q : Int × Str × Nat => decide (q.2.1 = x) := by
    funext r
    show decide ((Sum.inr r.2.1 : Key) = Sum.inr x) = _
    exact decide_eq_decide.mpr ⟨fun z => Sum.inr.inj z, fun z => by rw [z]⟩
  rw [ef]
  unfold slotOf
  cases e : qs.find? (fun q : Int × Str × Nat => decide (q.2.1 = x)) with
  | none =>
    rw [if_neg]
    · rfl
    · intro z
      obtain ⟨q, hq, eq⟩ := List.mem_map.mp z
      have := List.find?_eq_none.mp e q hq
      exact this (decide_eq_true eq)
  | some r =>
    have e2 : r.2.1 = x := of_decide_eq_true (show decide (r.2.1 = x) = true from List.find?_some (p := fun q : Int × Str × Nat => decide (q.2.1 = x)) e)
    have mem : x ∈ names qs := List.mem_map.mpr ⟨r, List.mem_of_find?_eq_some e, e2⟩
    rw [if_pos mem]
    rfl
theorem Prs.pairs {H : Hp} {vs : List V} {ps : List (Str × Nat)} (h : Prs H vs ps) : ∃ as : List Addr, vs = as.map V.ref ∧ Paired (fun (p : Addr) (kv : Key × V) => SqT K H p [kV kv.1, kv.2]) as (ps.map fun p => ((Sum.inr p.1 : Key), V.int (p.2 : Nat))) := by
  induction h with
  | nil => exact ⟨[], rfl, .nil⟩
  | cons e _ ih =>
    obtain ⟨as, rfl, pr⟩ := ih
    exact ⟨_ :: as, rfl, .cons (SqT.of e) pr⟩
/-! ### one question -/
theorem Rows.its {H : Hp} {vs : List V} {ps : List (Int × Str × Nat)} (h : Rows A H vs ps) : ∀ q ∈ ps, isItem q.2.1 = true := by
  induction h with
  | nil => intro q hq; cases hq
  | cons e h0 h1 hx _ ih =>
    intro q hq
    rcases List.mem_cons.mp hq with rfl | hq
    · exact hx
    · exact ih q hq
theorem meth_move (T : Txt K mg A) {way : Int} (h0 : 0 ≤ way) (h1 : way ≤ 3) : Meth K (cw A way) "move_to" A.m_Record_move_to := by
  rcases way4 h0 h1 with rfl | rfl | rfl | rfl
  · exact T.me_Inserted_move_to
  · exact T.me_Removed_move_to
  · exact T.me_Fronted_move_to
  · exact T.me_Record_move_to
theorem near_its {kind : Int} {qs : List (Int × Str × Nat)} {xs : List Str} (h : ∀ q ∈ qs, isItem q.2.1 = true) : ∀ q ∈ nearL kind qs xs, isItem q.2.1 = true := fun q hq => by
  obtain ⟨r, hr, rfl⟩ := List.mem_map.mp hq
  exact h r hr
theorem due_near (kind : Int) (qs : List (Int × Str × Nat)) (xs : List Str) : dueL (rgN kind qs xs) qs = nearL kind qs xs := rfl
/-- wrong: the index is none of those -/
def badB (qs : List (Int × Str × Nat)) (g : Str → List Nat) (x : Str) : Bool := decide (x ∈ names qs) && !decide (slotOf qs x ∈ g x)
theorem bad_wrong {kind : Int} {qs : List (Int × Str × Nat)} {xs : List Str} {g : Str → List Nat} (lx : xs.length ≤ 60) (sub : ∀ x ∈ names qs, x ∈ xs) (hg : ∀ x ∈ names qs, Spn (g x) (rgN kind qs xs x)) : xs.filter (badB qs g) = wrongL kind qs xs := by
  unfold wrongL knownL
  rw [List.filter_filter]
  refine List.filter_congr fun x hx => ?_
  unfold badB
  by_cases m : x ∈ names qs
  · rw [(rgN_ok (kind := kind) m (sub x m) lx).fit, decide_eq_true m, Bool.true_and, Bool.and_true]
    congr 1
    by_cases c : slotOf qs x ∈ g x
    · obtain ⟨a, b⟩ := ((hg x m).mem _).mp c
      rw [decide_eq_true c, decide_eq_true a, decide_eq_true b]
      rfl
    · rw [decide_eq_false c]
      refine (Bool.eq_false_iff.mpr fun z => c ?_).symm
      rw [Bool.and_eq_true] at z
      exact ((hg x m).mem _).mpr ⟨of_decide_eq_true z.1, of_decide_eq_true z.2⟩
  · rw [decide_eq_false m, Bool.false_and, Bool.and_false]
theorem in_nums (n : Nat) : ∀ l : List Nat, inV (.int (n : Nat)) (vN l) = decide (n ∈ l)
  | [] => by rw [decide_eq_false (by intro h; cases h)]; rfl
  | m :: l => by
    have ih := in_nums n l
    show (eqV (.int (m : Nat)) (.int (n : Nat)) || inV (.int (n : Nat)) (vN l)) = _
    rw [ih]
    have e : eqV (.int (m : Nat)) (.int (n : Nat)) = decide (m = n) := by
      show ((m : Int) == (n : Int)) = _
      by_cases c : m = n
      · rw [c, decide_eq_true rfl]
        exact beq_self_eq_true _
      · rw [decide_eq_false c]
        exact beq_false_of_ne (by omega)
    rw [e]
    by_cases c : m = n
    · rw [decide_eq_true c, decide_eq_true (show n ∈ m :: l by rw [c]; exact List.mem_cons_self)]
      rfl
    · by_cases d : n ∈ l
      · rw [decide_eq_true d, decide_eq_true (List.mem_cons_of_mem _ d), Bool.or_true]
      · rw [decide_eq_false c, decide_eq_false d, decide_eq_false fun z => (List.mem_cons.mp z).elim (fun q => c q.symm) d]
        rfl
theorem nums_flat (l : List Nat) : (vN l).all flatV = true := List.all_eq_true.mpr fun v hv => by
  obtain ⟨n, _, rfl⟩ := List.mem_map.mp hv
  rfl
def spRight (A : Ad) : Sp := fun vs H Q _ => ∃ (kind : Int) (k l e : Addr) (xs : List Str) (rs : List V) (qs : List (Int × Str × Nat)) (kvs : List (Key × V)) (g : Str → List Nat), vs = [.int kind, .ref k, .ref l, .ref e] ∧ H k = some (.lst (xs.map V.str)) ∧ Items xs ∧ xs.length ≤ 60 ∧ H l = some (.lst rs) ∧ Rows A H rs qs ∧ LogQ kind qs ∧ (∀ x ∈ names qs, x ∈ xs) ∧ H e = some (.dK kvs) ∧
  (∀ x ∈ names qs, (∃ L : Addr, valV kvs (Sum.inr x) = some (.ref L) ∧ H L = some (.lst (vN (g x)))) ∧ Spn (g x) (rgN kind qs xs x)) ∧ ∀ H', Same H H' → Q (.bl true) H'
theorem ok__law_right (T : Txt K mg A) : OkG P w K mg base 9 A.f__law_right ["kind", "things", "book", "every"] (spRight A) := by
  refine T.fn__law_right.okG sc__law_right (fun _ _ _ _ _ _ us hl => match us, hl with | [_, _, _, _], _ => rfl) (fun vs H Q E h => ?_) (fun cdv B up s H vs Q hr gd h => ?_)
  · obtain ⟨kind, k, l, e, xs, rs, qs, kvs, g, rfl, _⟩ := h
    rfl
  · obtain ⟨kind, k, l, e, xs, rs, qs, kvs, g, rfl, hk, ixs, lx, hl, rows, LQ, sub, he, hg, h⟩ := h
    refine ⟨_, (pss_cons (ps_par (i := 4) (j := 5) (by rfl) sc__law_right.nd rfl rfl (by decide) rfl rfl (pa_cons (pe_callB (call_reprD hr gd) (by rfl) T.no_repr (by decide +kernel) (pa_cons (pv 1) pa_nil)) (pa_cons (po_call (ok__law_facts T) (hr.mono (by decide)) T.mg__law_facts (pa_cons (pv 2) pa_nil)) pa_nil)) (by rfl))
      (pss_cons (ps_set (i := 6) sc__law_right.nd rfl (Or.inr rfl) (pe_callTy (call_dictP rfl) (by rfl) T.no_dict (by decide +kernel) (pa_cons (pe_lcD (own := [("record", 12)]) rfl sc__law_right.nd (pi_list (pv 2)) (blkOk_by (N := N__law_right) (sc := defScope s__law_right) (by decide +kernel)) (fun _ _ _ _ _ => pg_name (i := 12) sc__law_right.nd rfl (Or.inl rfl)) (fun _ _ _ _ _ => pts_nil) (fun _ _ _ _ _ => (pe_tup (pa_cons (po_propD (p := A.p_Record_item) (ok_Record_item T) (hr.mono (by decide)) (pv 12)) (pa_cons (po_propD (p := A.p_Record_slot) (ok_Record_slot T) (hr.mono (by decide)) (pv 12)) pa_nil))))) pa_nil)))
      (pss_cons (ps_setLcD (i := 7) (own := [("item", 13)]) rfl sc__law_right.nd rfl rfl (sw_true rfl rfl rfl (by decide +kernel)) (pi_list (pv 1)) (blkOk_by (N := N__law_right) (sc := defScope s__law_right) (by decide +kernel)) (fun _ _ _ _ _ => pg_name (i := 13) sc__law_right.nd rfl (Or.inl rfl)) (fun _ _ _ _ _ => (pts_one (PW.pt (pw_and (pt_cmp (pc_din (Nat.lt_of_le_of_lt (Nat.add_le_add_left (show 1 ≤ 64 by decide) _) hr.units) (pv 13) (pv 6))) (pw_and1 (pt_cmpR op_notIn_seq (pe_dget (Nat.lt_of_le_of_lt (Nat.add_le_add_left (show 1 ≤ 64 by decide) _) hr.units) (pv 6) (pv 13) (fun _ _ => rfl)) (pe_dget (Nat.lt_of_le_of_lt (Nat.add_le_add_left (show 1 ≤ 64 by decide) _) hr.units) (pv 3) (pv 13) (fun _ _ => rfl)) rfl)))))) (fun _ _ _ _ _ => (pv 13)))
      (pss_cons (ps_set (i := 8) sc__law_right.nd rfl (Or.inl rfl) (po_call (ok__law_due T) (hr.mono (by decide)) T.mg__law_due (pa_cons (pv 0) (pa_cons (pv 2) (pa_cons (pv 3) pa_nil)))))
      (pss_cons (ps_for PassesOwn.never rfl (pi_range1 rfl T.no_range (pa_cons pe_int pa_nil)) (pg_name (i := 9) sc__law_right.nd rfl (Or.inl rfl))
      (pss_cons (ps_set (i := 10) sc__law_right.nd rfl (Or.inl rfl) (pe_lst (pa_cons (px_call (ok_wrong_items T) (fun _ => atL) (hr.mono (by decide)) T.mg_wrong_items (pa_cons (pv 2) (pa_cons (pv 1) pa_nil))) (pa_cons (px_callS (okS_wrong_items T) (fun _ => atL) (hr.mono (by decide)) T.mg_wrong_items (pk_cons (pv 1) (pk_cons (pv 2) pk_nil))) pa_nil))))
      (pss_cons (ps_if (pt_cmpR (op_neX hr) (pe_callB (call_reprD hr gd) (by rfl) T.no_repr (by decide +kernel) (pa_cons (pv 10) pa_nil)) (pe_callB (call_reprD hr gd) (by rfl) T.no_repr (by decide +kernel) (pa_cons (pe_lst (pa_cons (pv 7) (pa_cons (pv 7) pa_nil))) pa_nil)) (nomark _)) (pss_one (ps_ret pe_bl)) pss_nil)
      (pss_mid (ps_set (i := 11) sc__law_right.nd rfl (Or.inl rfl) (pe_ifExp (pt_cmpR (op_eqX hr) (pv 9) pe_int (nomark _)) (px_call (ok_nearest T) (fun _ => atL) (hr.mono (by decide)) T.mg_nearest (pa_cons (pv 2) (pa_cons (pv 1) pa_nil))) (px_callS (okS_nearest T) (fun _ => atL) (hr.mono (by decide)) T.mg_nearest (pk_cons (pv 1) (pk_cons (pv 2) pk_nil)))))
      (pss_cons (ps_if (PW.pt (pw_or (pt_not (pt_val (pe_callB call_isi (by rfl) T.no_isinstance (by decide +kernel) (pa_cons (pv 11) (pa_cons (pe_bltn (v := .ty "list") (by rfl) T.no_list (by decide +kernel) rfl) pa_nil))))) (pw_or1 (pt_cmpR (op_neX hr) (po_call (ok__law_facts T) (hr.mono (by decide)) T.mg__law_facts (pa_cons (pv 11) pa_nil)) (pv 8) (nomark _))))) (pss_one (ps_ret pe_bl)) pss_nil)
      (pss_cons (ps_expr (pe_bm PySem.F.plainAttrs_list PySem.F.slot_list_append PySem.F.type_list_append mt_append (pe_ix ix_seq (pv 10) pe_int (fun _ _ => rfl)) (pa_cons pe_str pa_nil)))
      (pss_cons (ps_for PassesOwn.never rfl (pi_list (pv 11)) (pg_name (i := 12) sc__law_right.nd rfl (Or.inl rfl))
      (pss_one (ps_expr (po_methD (ok_Record_move_to T) (hr.mono (by decide)) (pv 12) (pa_cons (pe_op op_mod (pe_op op_mulX (po_propD (p := A.p_Record_slot) (ok_Record_slot T) (hr.mono (by decide)) (pv 12)) pe_int) pe_int) pa_nil)))))
      (pss_cons (ps_expr (pe_bm PySem.F.plainAttrs_list PySem.F.slot_list_append PySem.F.type_list_append mt_append (pv 11) (pa_cons pe_non pa_nil)))
      (pss_one (ps_if (PW.pt (pw_or (pt_cmpR (op_neX hr) (po_call (ok__law_facts T) (hr.mono (by decide)) T.mg__law_facts (pa_cons (pv 2) pa_nil)) (pv 5) (nomark _)) (pw_or1 (pt_cmpR (op_neX hr) (pe_callB (call_reprD hr gd) (by rfl) T.no_repr (by decide +kernel) (pa_cons (pv 1) pa_nil)) (pv 4) (nomark _))))) (pss_one (ps_ret pe_bl)) pss_nil))))))))))
      (pss_one (ps_ret pe_bl))))))), ?_⟩
    have lr := rows.len
    have ll := LQ.len
    have its := rows.its
    refine ⟨_, rfl, _, sl xs, rfl, dpS (SqL.of hk), showsS ixs.it (by omega), _, rfl, l, rs, qs, rfl, hl, rows, LQ.len, fun O us H1 s1 nO hO c1 => ?_⟩
    refine ⟨_, _, rfl, ?_⟩
    refine ⟨_, rfl, l, rfl, ⟨_, SqL.of (s1 _ _ hl)⟩, fun C nC => ?_⟩
    refine lc_list (K := K) (a := l) (xs := rs) (fun i H' => Same H1 H' ∧ ∃ vs, H' C = some (.lst vs) ∧ Prs H' vs ((pairsQ qs).take i)) ?_ ?_ ?_ ?_
    · exact ⟨Same.new nC, [], upd_same, .nil⟩
    · rintro i H2 _ ⟨s2, _⟩
      exact SqL.of (s2 _ _ (s1 _ _ hl))
    · rintro i y H2 hy ⟨s2, vs, hC, p2⟩
      obtain ⟨p, dx, way, x, n, rfl, hq, hp, w0, w3, hx⟩ := rows.get hy
      have hi := (List.getElem?_eq_some_iff.mp hq).1
      have cl := (kd_of T w0 (by omega : way ≤ 3)).rc.cl
      have hp2 := s2 _ _ (s1 _ _ hp)
      have lv := p2.len
      rw [List.length_take] at lv
      have tk : (pairsQ qs).take (i + 1) = (pairsQ qs).take i ++ [(x, n)] := by
        unfold pairsQ
        rw [List.take_add_one, List.getElem?_map, hq]
        rfl
      refine ⟨rfl, _, rfl, p, _, dx, _, rfl, hp2, cl, prop_item T w0 (by omega), p, dx, way, x, n, rfl, hp2, w0, by omega, _, rfl, p, _, dx, _, rfl, hp2, cl, prop_slot T w0 (by omega), p, dx, way, x, n, rfl, hp2, w0, by omega, Nat.le_of_ble_eq_true rfl, fun t nt => ?_⟩
      have ut := Same.new (o := .tup [.str x, .int (n : Nat)]) nt
      refine ⟨vs, ut _ _ hC, Nat.lt_of_lt_of_le (show vs.length < 1000 by omega) (by decide), fun c u eo => ?_, vs ++ [.ref t], upd_same, ?_⟩
      · rw [upd_ne (ne_of_none eo nC)]
        exact ut _ _ (s2 _ _ eo)
      · rw [tk]
        exact ((p2.same ut).snoc upd_same).updL (ut _ _ hC)
    rintro H2 ⟨s2, vs, hC, p2⟩
    rw [List.take_of_length_le (show (pairsQ qs).length ≤ rs.length by unfold pairsQ; rw [List.length_map]; omega)] at p2
    obtain ⟨as, rfl, pr⟩ := p2.pairs (K := K)
    refine ⟨C, as, slotsQ qs, rfl, SqL.of hC, pr, fun S nS => ⟨_, rfl, ?_⟩⟩
    rw [slots_merge LQ.nd]
    have uS := Same.new (o := .dK (slotsQ qs)) nS
    have hS : upd H2 S (.dK (slotsQ qs)) S = some (.dK (slotsQ qs)) := upd_same
    have S3 := (s1.trans s2).trans uS
    have hO3 := (s2.trans uS) _ _ hO
    have c3 := c1.same (s2.trans uS)
    generalize upd H2 S (.dK (slotsQ qs)) = H3 at hS S3 hO3 c3 ⊢
    clear uS nS pr p2 hC nC s2 hO c1 nO s1
    refine ⟨k, rfl, ⟨_, SqL.of (S3 _ _ hk)⟩, fun G nG => ?_⟩
    refine lc_list (K := K) (a := k) (xs := xs.map V.str) (fun i H' => Same H3 H' ∧ H' G = some (.lst (((xs.take i).filter (badB qs g)).map V.str))) ?_ ?_ ?_ ?_
    · exact ⟨Same.new nG, upd_same⟩
    · rintro i H4 _ ⟨s4, _⟩
      exact SqL.of (s4 _ _ (S3 _ _ hk))
    · rintro i y H4 hy ⟨s4, h4⟩
      rw [List.getElem?_map] at hy
      cases ex : xs[i]? with
      | none => rw [ex] at hy; cases hy
      | some x =>
        rw [ex] at hy
        cases hy
        have hi := (List.getElem?_eq_some_iff.mp ex).1
        have tk : xs.take (i + 1) = xs.take i ++ [x] := by
          rw [List.take_add_one, ex]
          rfl
        have hS4 := s4 _ _ hS
        have vS := slots_val qs x
        have keep : badB qs g x = true → ∃ acc, H4 G = some (.lst acc) ∧ acc.length < sizeLine ∧ Same H3 (L2.upd H4 G (.lst (acc ++ [V.str x]))) ∧ L2.upd H4 G (.lst (acc ++ [V.str x])) G = some (.lst (((xs.take (i + 1)).filter (badB qs g)).map V.str)) := fun b => by
          refine ⟨_, h4, ?_, fun c u eo => ?_, ?_⟩
          · rw [List.length_map]
            exact Nat.lt_of_le_of_lt (List.length_filter_le _ _) (Nat.lt_of_le_of_lt (List.length_take_le _ _) (Nat.lt_of_lt_of_le (show i < 10000 by omega) (by decide)))
          · rw [upd_ne (ne_of_none eo nG)]
            exact s4 _ _ eo
          · rw [upd_same, tk, List.filter_append, List.filter_cons_of_pos b, List.filter_nil, List.map_append]
            rfl
        have drop : ¬ badB qs g x = true → H4 G = some (.lst (((xs.take (i + 1)).filter (badB qs g)).map V.str)) := fun b => by
          rw [tk, List.filter_append, List.filter_cons_of_neg b, List.filter_nil, List.append_nil]
          exact h4
        refine ⟨rfl, ?_⟩
        by_cases m : x ∈ names qs
        · rw [if_pos m] at vS
          obtain ⟨⟨L, vL, hL⟩, sp⟩ := hg x m
          refine ⟨_, rfl, _, rfl, S, _, rfl, DGet.k (k := Sum.inr x) hS4, ?_⟩
          rw [vS]
          refine ⟨_, rfl, iteT ?_⟩
          refine ⟨_, rfl, _, rfl, S, _, rfl, (by have z := DGet.k (k := Sum.inr x) hS4; rw [vS] at z; exact z), ?_⟩
          refine ⟨_, rfl, _, rfl, e, _, rfl, (by have z := DGet.k (k := Sum.inr x) (s4 _ _ (S3 _ _ he)); rw [vL] at z; exact z), ?_⟩
          refine ⟨L, _, rfl, .inl (SqL.of (s4 _ _ (S3 _ _ hL))), rfl, nums_flat _, ?_⟩
          rw [in_nums]
          refine ⟨_, rfl, ?_⟩
          by_cases d : slotOf qs x ∈ g x
          · rw [decide_eq_true d]
            exact iteF ⟨s4, drop (by unfold badB; rw [decide_eq_true d, Bool.not_true, Bool.and_false]; decide)⟩
          · rw [decide_eq_false d]
            exact iteT ⟨_, rfl, keep (by unfold badB; rw [decide_eq_false d, decide_eq_true m]; rfl)⟩
        · rw [if_neg m] at vS
          refine ⟨_, rfl, _, rfl, S, _, rfl, DGet.k (k := Sum.inr x) hS4, ?_⟩
          rw [vS]
          exact ⟨_, rfl, iteF (iteF ⟨s4, drop (by unfold badB; rw [decide_eq_false m, Bool.false_and]; decide)⟩)⟩
    rintro H4 ⟨s4, h4⟩
    rw [List.length_map, List.take_length, bad_wrong (kind := kind) lx sub fun x hx => (hg x hx).2] at h4
    have S4 := S3.trans s4
    have hO4 := s4 _ _ hO3
    have c4 := c3.same s4
    clear hS S3 hO3 c3 s4 nG
    refine ⟨_, rfl, _, rfl, _, rfl, kind, l, e, rs, qs, kvs, g, rgN kind qs xs, rfl, S4 _ _ hl, rows.same S4, LQ, S4 _ _ he, ?_, fun F fs H5 s5 nF hF cF => ?_⟩
    · intro x hx
      obtain ⟨⟨L, vL, hL⟩, sp⟩ := hg x hx
      exact ⟨⟨L, vL, S4 _ _ hL⟩, sp⟩
    rw [due_near] at cF
    have S5 := S4.trans s5
    have hG5 := s5 _ _ h4
    have hO5 := s5 _ _ hO4
    have c5 := c4.same s5
    have wit : ∀ z ∈ wrongL kind qs xs, isItem z = true := fun z hz => ixs.it z (List.mem_filter.mp (List.mem_filter.mp hz).1).1
    have wlen : (wrongL kind qs xs).length ≤ 60 := Nat.le_trans (List.length_filter_le _ _) (Nat.le_trans (List.length_filter_le _ _) lx)
    have shw : Shows (.list [sl (wrongL kind qs xs), sl (wrongL kind qs xs)]) := shows_tl2 (o := some (wrongL kind qs xs)) (x := "a") (fun ys e => by cases e; exact ⟨wit, by omega⟩) (by decide +kernel)
    clear h4 hO4 c4 s5 S4 nF
    refine ⟨_, rfl, by decide, by decide, for_range (lo := 0) (n := 2) (fun i σ H' => (∃ a9 a10 a11 a12 : Option V, σ = [some (.int kind), some (.ref k), some (.ref l), some (.ref e), some (.str (sl xs).shown), some (.ref O), some (.ref S), some (.ref G), some (.ref F), a9, a10, a11, a12, none]) ∧ Same H5 H')
      ⟨⟨_, _, _, _, rfl⟩, Same.refl _⟩ ?_ ?_⟩
    · rintro i σ H6 hi ⟨⟨a9, a10, a11, a12, rfl⟩, s6⟩
      have S6 := S5.trans s6
      refine ⟨_, rfl, _, rfl, l, k, rs, kind, qs, xs, rfl, S6 _ _ hl, rows.same S6, LQ, S6 _ _ hk, ixs, lx, sub, fun W1 H7 s7 nW1 hW1 => ?_⟩
      have S7 := S6.trans s7
      refine ⟨_, rfl, _, rfl, l, k, rs, kind, qs, xs, rfl, S7 _ _ hl, rows.same S7, LQ, S7 _ _ hk, ixs, lx, sub, fun W2 H8 s8 nW2 hW2 => ?_⟩
      have S8 := S7.trans s8
      refine ⟨Nat.le_of_ble_eq_true rfl, fun Tl nT => ?_⟩
      have uT := Same.new (o := .lst [.ref W1, .ref W2]) nT
      have hT : upd H8 Tl (.lst [.ref W1, .ref W2]) Tl = some (.lst [.ref W1, .ref W2]) := upd_same
      have S9 := S8.trans uT
      have s69 := s7.trans (s8.trans uT)
      have hW19 := (s8.trans uT) _ _ hW1
      have hW29 := uT _ _ hW2
      have nW1 : H6 W1 = none := nW1
      have nT6 := none_same (s7.trans s8) nT
      generalize upd H8 Tl (.lst [.ref W1, .ref W2]) = H9 at hT S9 s69 hW19 hW29 ⊢
      clear S8 uT hW2 nW2 s8 S7 hW1 s7 nT
      refine ⟨_, rfl, _, .list [sl (wrongL kind qs xs), sl (wrongL kind qs xs)], rfl, .lst (SqL.of hT) (.cons (dpS (SqL.of hW19)) (.cons (dpS (SqL.of hW29)) .nil)), shw, ?_⟩
      refine ⟨_, rfl, _, rfl, Nat.le_of_ble_eq_true rfl, fun D2 nD2 => ?_⟩
      have u2 := Same.new (o := .lst [.ref G, .ref G]) nD2
      refine ⟨_, .list [sl (wrongL kind qs xs), sl (wrongL kind qs xs)], rfl, .lst (SqL.of upd_same) (.cons (dpS (SqL.of ((s6.trans (s69.trans u2)) _ _ hG5))) (.cons (dpS (SqL.of ((s6.trans (s69.trans u2)) _ _ hG5))) .nil)), shw, neS rfl ⟨_, rfl, ?_⟩⟩
      rw [strF]
      refine iteF ?_
      have S10 := S9.trans u2
      have s610 := s69.trans u2
      have hT10 := u2 _ _ hT
      have hW10 := u2 _ _ hW19
      generalize upd H9 D2 (.lst [.ref G, .ref G]) = H10 at S10 s610 hT10 hW10 ⊢
      clear u2 nD2 S9 s69 hT hW19 hW29
      refine ⟨fun σ H' => ∃ (N : Addr) (vs : List V), σ = [some (.int kind), some (.ref k), some (.ref l), some (.ref e), some (.str (sl xs).shown), some (.ref O), some (.ref S), some (.ref G), some (.ref F), some (.int (0 + (i : Int))), some (.ref Tl), some (.ref N), a12, none] ∧ Same H10 H' ∧ H10 N = none ∧ H' N = some (.lst vs) ∧ Rows A H' vs (nearL kind qs xs) ∧ ∀ v ∈ vs, ∃ a, v = .ref a ∧ H10 a = none, ?_, ?_⟩
      · refine ⟨_, rfl, eqS rfl ⟨_, rfl, ite2 (fun _ => ?_) (fun _ => ?_)⟩⟩
        · refine ⟨_, rfl, _, rfl, l, k, rs, kind, qs, xs, rfl, S10 _ _ hl, rows.same S10, LQ, S10 _ _ hk, ixs, lx, sub, fun N vs H11 s11 nN hN rN fN => ?_⟩
          exact ⟨N, vs, rfl, s11, nN, hN, rN, fN⟩
        · refine ⟨_, rfl, _, rfl, l, k, rs, kind, qs, xs, rfl, S10 _ _ hl, rows.same S10, LQ, S10 _ _ hk, ixs, lx, sub, fun N vs H11 s11 nN hN rN fN => ?_⟩
          exact ⟨N, vs, rfl, s11, nN, hN, rN, fN⟩
      · rintro σ H11 ⟨N, vs, rfl, s11, nN, hN, rN, fN⟩
        have nits := near_its (kind := kind) (xs := xs) its
        have lnl : (nearL kind qs xs).length ≤ 40 := by
          unfold nearL
          rw [List.length_map]
          exact ll
        have ndf : (names (nearL kind qs xs)).Nodup := by
          have e : names (nearL kind qs xs) = names qs := by
            unfold names nearL
            rw [List.map_map]
            rfl
          rw [e]
          exact LQ.nd
        have SS := s6.trans (s610.trans s11)
        refine ⟨_, rfl, _, _, _, _, _, rfl, .ty _, .base (.lst hN), kit_ty (r := true) (by decide +kernel), _, rfl, iteF ?_⟩
        refine ⟨_, rfl, N, vs, _, rfl, hN, rN, lnl, fun X us2 H12 s12 nX hX cX => ⟨_, rfl, .inr ⟨factsD _, factsD _, .lst (SqL.of hX) cX.dp, .lst (SqL.of ((SS.trans s12) _ _ hF)) (cF.same (SS.trans s12)).dp, facts_shaped nits, facts_shaped nits, _, rfl, ?_⟩⟩⟩
        rw [facts_eqv]
        refine iteF ?_
        have rN12 := rN.same s12
        have hN12 := s12 _ _ hN
        generalize hqf : nearL kind qs xs = qf at *
        have lv := rN12.len
        have s12' := s11.trans s12
        have hW12 := s12' _ _ hW10
        have N10 : N ≠ W1 := (ne_of_none hW10 nN).symm
        have base : Same H6 (upd H12 W1 (.lst ((wrongL kind qs xs).map V.str ++ [.str "more"]))) := fun c u eo => by
          rw [upd_ne (ne_of_none eo nW1)]
          exact (s610.trans s12') _ _ eo
        have rN13 := rN12.updL (o := .lst ((wrongL kind qs xs).map V.str ++ [.str "more"])) hW12
        have hN13 : upd H12 W1 (.lst ((wrongL kind qs xs).map V.str ++ [.str "more"])) N = some (.lst vs) := by
          rw [upd_ne N10]
          exact hN12
        have nN6 := none_same s610 nN
        have fN6 : ∀ v ∈ vs, ∃ a, v = .ref a ∧ H6 a = none := fun v hv => by
          obtain ⟨a, e, z⟩ := fN v hv
          exact ⟨a, e, none_same s610 z⟩
        refine ⟨_, rfl, ixL (s12' _ _ hT10) (atI0 _ _) ⟨.inl ⟨rfl, _, SqL.of hW12⟩, W1, _, _, rfl, rfl, hW12, ?_, ?_⟩⟩
        · rw [List.length_map]
          exact Nat.lt_of_lt_of_le (show (wrongL kind qs xs).length < 1000 by omega) (by decide)
        generalize upd H12 W1 (.lst ((wrongL kind qs xs).map V.str ++ [.str "more"])) = H13 at base rN13 hN13 ⊢
        clear rN12 hN12 hW12 s12' s12 s11 hT10 hW10 fN nN N10 SS rN hN hX cX nX
        refine ⟨_, rfl, N, rfl, ⟨_, SqL.of hN13⟩, for_list (K := K) (a := N) (xs := vs) (fun t σ H' => (∃ a12 : Option V, σ = [some (.int kind), some (.ref k), some (.ref l), some (.ref e), some (.str (sl xs).shown), some (.ref O), some (.ref S), some (.ref G), some (.ref F), some (.int (0 + (i : Int))), some (.ref Tl), some (.ref N), a12, none]) ∧ Same H6 H' ∧ H' N = some (.lst vs) ∧ ∃ us, Rows A H' vs us ∧ names us = names qf ∧ ∀ q ∈ us, q.2.2 ≤ 60)
          ⟨⟨_, rfl⟩, base, hN13, qf, rN13, rfl, ?_⟩ ?_ ?_ ?_⟩
        · intro q hq
          rw [← hqf] at hq
          obtain ⟨r, hr, rfl⟩ := List.mem_map.mp hq
          have mr : r.2.1 ∈ names qs := List.mem_map.mpr ⟨r, hr, rfl⟩
          have o := rgN_ok (kind := kind) mr (sub _ mr) lx
          exact clamp_le (Nat.le_trans o.le o.h60) o.h60 (LQ.bd _ hr)
        · rintro t σ H14 _ ⟨_, _, h14, _⟩
          exact SqL.of h14
        · rintro t y σ H14 hy ⟨⟨a12, rfl⟩, s14, h14, us14, r14, n14, b14⟩
          obtain ⟨p, dx, w', x, n, rfl, hq, hp, w0, w3, hx⟩ := r14.get hy
          obtain ⟨p', ep, np⟩ := fN6 _ (List.mem_of_getElem? hy)
          cases ep
          have pN : N ≠ p := fun z => by rw [← z, h14] at hp; cases hp
          have n60 : n ≤ 60 := b14 _ (List.mem_of_getElem? hq)
          have cl := (kd_of T w0 (by omega : w' ≤ 3)).rc.cl
          refine ⟨_, rfl, p, _, dx, _, rfl, hp, rfs_no _ _ (by decide +kernel) (by decide +kernel), cl, meth_move T w0 (by omega), ?_⟩
          refine ⟨_, rfl, p, _, dx, _, rfl, hp, cl, prop_slot T w0 (by omega), p, dx, w', x, n, rfl, hp, w0, by omega, ?_⟩
          have lg : (Int.natAbs ((n : Nat) : Int)).log2 ≤ 10 := (by decide +kernel : ∀ m : Fin 61, (Int.natAbs ((m : Nat) : Int)).log2 ≤ 10) ⟨n, by omega⟩
          have l7 : (Int.natAbs 7).log2 ≤ 10 := by decide +kernel
          refine mulI (by unfold CMulW; omega) ⟨_, _, rfl, rfl, (show (0 : Int) < 61 by decide), ?_⟩
          obtain ⟨z, ez⟩ : ∃ z : Nat, (n : Int) * 7 % 61 = z := ⟨n * 7 % 61, by omega⟩
          have z60 : z ≤ 60 := by omega
          refine ⟨p, _, dx, x, n, z, (by show [V.ref p, V.int ((n : Int) * 7 % 61)] = _; rw [ez]), hp, (kd_of T w0 (by omega : w' ≤ 3)).rc, by omega, by omega, ?_⟩
          refine ⟨⟨_, rfl⟩, fun o u eo => ?_, ?_, us14.set t (w', x, z), r14.moveAt (by rw [n14]; exact ndf) hp hy hq, by rw [names_set hq]; exact n14, fun q hq => ?_⟩
          · rw [upd_ne (ne_of_none eo np)]
            exact s14 _ _ eo
          · rw [upd_ne pN]
            exact h14
          · rcases List.mem_or_eq_of_mem_set hq with m | rfl
            · exact b14 q m
            · exact z60
        · rintro σ H14 ⟨⟨a12, rfl⟩, s14, h14, us14, r14, n14, b14⟩
          refine ⟨_, rfl, .inl ⟨rfl, _, SqL.of h14⟩, N, vs, _, rfl, rfl, h14, Nat.lt_of_lt_of_le (show vs.length < 1000 by omega) (by decide), ?_⟩
          have s15 : Same H6 (upd H14 N (.lst (vs ++ [.non]))) := fun c u eo => by
            rw [upd_ne (ne_of_none eo nN6)]
            exact s14 _ _ eo
          generalize upd H14 N (.lst (vs ++ [.non])) = H15 at s15 ⊢
          have S15 := S6.trans s15
          refine ⟨_, rfl, l, rs, qs, rfl, S15 _ _ hl, rows.same S15, LQ.len, fun Y us2 H16 s16 nY hY cY => ⟨_, rfl, .inr ⟨factsD qs, factsD qs, .lst (SqL.of hY) cY.dp, .lst (SqL.of ((s6.trans (s15.trans s16)) _ _ hO5)) (c5.same (s6.trans (s15.trans s16))).dp, facts_shaped its, facts_shaped its, _, rfl, ?_⟩⟩⟩
          rw [facts_eqv]
          refine iteF ?_
          have S16 := S15.trans s16
          refine ⟨_, rfl, _, sl xs, rfl, dpS (SqL.of (S16 _ _ hk)), showsS ixs.it (by omega), _, rfl, neS rfl ⟨_, rfl, ?_⟩⟩
          rw [strF]
          exact iteF ⟨⟨_, _, _, _, rfl⟩, s6.trans (s15.trans s16)⟩
    · rintro σ H6 ⟨⟨a9, a10, a11, a12, rfl⟩, s6⟩
      exact h H6 (S5.trans s6)

end
end Own

set_option Elab.async false
set_option linter.all false
set_option maxRecDepth 100000
set_option maxHeartbeats 4000000
namespace Own
open PySem L2 ClX
local macro_rules | `(tactic| walk_at "v") => `(tactic| refine ⟨_, rfl, ?_⟩)
local macro_rules | `(tactic| walk_at "ii") => `(tactic| refine ⟨_, _, rfl, rfl, ?_⟩)
local macro_rules | `(tactic| walk_at "go") => `(tactic| repeat (first | refine ⟨_, rfl, ?_⟩ | refine ⟨_, _, rfl, rfl, ?_⟩ | refine addI ?_ | refine L2.iteT ?_ | refine L2.iteF ?_))

section
variable {P : Program} {w : World} {K : PySem.W.Frag} {mg : Str → Option Value} {base : Heap} {A : Ad}
/-! ### the law -/
theorem Sd.upd {H0 H : Hp} {p a : Addr} {n : Int} {o : HO} (s : Sd H0 p n H) (ha : H0 a = none) (ap : a ≠ p) : Sd H0 p n (L2.upd H a o) := by
  obtain ⟨sm, ⟨g, m, c, e, r⟩, f⟩ := s
  refine ⟨fun c' o' e' => ?_, ⟨g, m, c, by rw [upd_ne ap.symm]; exact e, r⟩, f⟩
  rw [upd_ne (ne_of_none e' ha)]
  exact sm _ _ e'
theorem Prs.but {H H' : Hp} {p : Addr} {n : Int} {vs : List V} {ps : List (Str × Nat)} (h : Prs H vs ps) (s : SrcAt H p n) (b : But p H H') : Prs H' vs ps := by
  induction h with
  | nil => exact .nil
  | @cons t x n vs ps e _ ih =>
    refine .cons (b _ _ e fun z => ?_) ih
    obtain ⟨g, m, c, z2, _⟩ := s
    rw [z, z2] at e
    cases e
theorem dP_val : ∀ ps : List (Str × Nat), (∀ p ∈ ps, p.2 ≤ 60) → ∃ f : Str → Nat, (∀ x, f x ≤ 60) ∧ ∀ x, valV (dP ps) (Sum.inr x) = if x ∈ ps.map (·.1) then some (.int (f x : Nat)) else none
  | [], _ => ⟨fun _ => 0, fun _ => Nat.zero_le _, fun x => rfl⟩
  | (y, n) :: ps, h => by
    obtain ⟨f, f60, fv⟩ := dP_val ps fun p hp => h p (List.mem_cons_of_mem _ hp)
    refine ⟨fun x => if x = y then n else f x, fun x => ?_, fun x => ?_⟩
    · show (if x = y then n else f x) ≤ 60
      split
      · exact h (y, n) List.mem_cons_self
      · exact f60 x
    · show valV ((Sum.inr y, V.int (n : Nat)) :: dP ps) (Sum.inr x) = _
      by_cases e : x = y
      · subst e
        rw [valV_pos (p := ((Sum.inr x : Key), V.int (n : Nat))) rfl, if_pos (by simp)]
        show some (V.int (n : Nat)) = some (V.int ((if x = x then n else f x : Nat)))
        rw [if_pos rfl]
      · rw [valV_neg (p := ((Sum.inr y : Key), V.int (n : Nat))) (fun z : (Sum.inr y : Key) = Sum.inr x => e (Sum.inr.inj z).symm), fv x]
        show _ = if x ∈ y :: ps.map (·.1) then some (V.int ((if x = y then n else f x : Nat))) else none
        rw [if_neg e]
        by_cases m : x ∈ ps.map (·.1)
        · rw [if_pos m, if_pos (List.mem_cons_of_mem _ m)]
        · rw [if_neg m, if_neg (fun z => (List.mem_cons.mp z).elim e m)]
/-- what a turn has at hand -/
structure Pk (p It D E B : Addr) (xs ns : List Str) (rs : List V) (kvs : List (Key × V)) (g : Str → List Nat) (H : Hp) : Prop where
  hI : H It = some (.lst (xs.map V.str))
  hD : H D = some (.lst (ns.map V.str))
  hE : H E = some (.dK kvs)
  hB : H B = some (.lst rs)
  ev : ∀ x ∈ ns, ∃ L : Addr, valV kvs (Sum.inr x) = some (.ref L) ∧ H L = some (.lst (vN (g x))) ∧ L ≠ p
  nI : It ≠ p
  nD : D ≠ p
  nE : E ≠ p
  nB : B ≠ p
theorem Pk.but {p It D E B : Addr} {xs ns : List Str} {rs : List V} {kvs : List (Key × V)} {g : Str → List Nat} {H H' : Hp} (h : Pk p It D E B xs ns rs kvs g H) (b : But p H H') : Pk p It D E B xs ns rs kvs g H' := by
  refine ⟨b _ _ h.hI h.nI, b _ _ h.hD h.nD, b _ _ h.hE h.nE, b _ _ h.hB h.nB, fun x hx => ?_, h.nI, h.nD, h.nE, h.nB⟩
  obtain ⟨L, a, c, d⟩ := h.ev x hx
  exact ⟨L, a, b _ _ c d, d⟩
theorem Pk.same {p It D E B : Addr} {xs ns : List Str} {rs : List V} {kvs : List (Key × V)} {g : Str → List Nat} {H H' : Hp} (h : Pk p It D E B xs ns rs kvs g H) (s : Same H H') : Pk p It D E B xs ns rs kvs g H' := h.but (But.same s)
theorem Pk.upd {p It D E B : Addr} {xs ns : List Str} {rs : List V} {kvs : List (Key × V)} {g : Str → List Nat} {H : Hp} (h : Pk p It D E B xs ns rs kvs g H) {q C dx : Addr} {fs : List (Str × V)} {o : HO} (e : H q = some (.ins C dx fs)) : Pk p It D E B xs ns rs kvs g (L2.upd H q o) := by
  have ne : ∀ {c : Addr} {u : HO}, H c = some u → (∀ C dx fs, u ≠ .ins C dx fs) → L2.upd H q o c = some u := fun {c u} hc n => by
    rw [upd_ne (fun z => by rw [z, e] at hc; exact n _ _ _ (Option.some.inj hc).symm)]
    exact hc
  refine ⟨ne h.hI (by intros; intro z; cases z), ne h.hD (by intros; intro z; cases z), ne h.hE (by intros; intro z; cases z), ne h.hB (by intros; intro z; cases z), fun x hx => ?_, h.nI, h.nD, h.nE, h.nB⟩
  obtain ⟨L, a, c, d⟩ := h.ev x hx
  exact ⟨L, a, ne c (by intros; intro z; cases z), d⟩
theorem ord_ord (kind : Int) (ms : List Str) : ordK kind (ordK kind ms) = ms := by
  unfold ordK
  split
  · exact List.reverse_reverse ms
  · rfl
theorem ev_span {kind : Int} {xs ns : List Str} {x : Str} (nd : xs.Nodup) (nn : ns.Nodup) (sub : ∀ z ∈ ns, z ∈ xs) (mx : x ∈ ns) (l5 : ns.length ≤ 5) (lx : xs.length ≤ 60) : Spn (evG kind xs (orders ns) x) (rgN kind (logN kind ns) xs x) := by
  obtain ⟨b, a, c⟩ := cut3_of nd nn sub mx
  obtain ⟨o1, o2, o3⟩ := orders_take ns ns.length (Nat.le_refl _)
  rw [List.take_length] at o1 o2 o3
  have o := rgN_ok (kind := kind) (qs := logN kind ns) (xs := xs) (x := x) (by rw [logN_names]; exact mx) (sub x mx) lx
  refine ⟨fun v => ⟨fun h => ?_, fun h => ?_⟩, o.le, o.h60, ?_⟩
  · obtain ⟨q, hq, rfl⟩ := List.mem_map.mp h
    exact c.sound ((ordK_perm kind q).trans (o1 q hq))
  · obtain ⟨ms, pm, e⟩ := c.full h.1 h.2
    refine List.mem_map.mpr ⟨ordK kind ms, o2 _ ((ordK_perm kind ms).trans pm), ?_⟩
    unfold tvo
    rw [ord_ord]
    exact e
  · unfold evG
    rw [List.length_map]
    exact Nat.le_trans o3 (Nat.le_trans (Nat.pow_le_pow_left (show ns.length + 1 ≤ 6 by omega) _) (Nat.pow_le_pow_right (n := 6) (by decide) l5))
theorem tvo_60 {kind : Int} {xs ns : List Str} {x : Str} (nd : xs.Nodup) (nn : ns.Nodup) (sub : ∀ z ∈ ns, z ∈ xs) (mx : x ∈ ns) (lx : xs.length ≤ 60) : tvo kind xs ns x ≤ 60 := by
  obtain ⟨b, a, c⟩ := cut3_of nd nn sub mx
  have o := rgN_ok (kind := kind) (qs := logN kind ns) (xs := xs) (x := x) (by rw [logN_names]; exact mx) (sub x mx) lx
  exact Nat.le_trans (c.sound (ordK_perm kind ns)).2 o.h60
def spLaw (K : PySem.W.Frag) : Sp := fun vs H Q _ => ∃ (a : Addr) (ns : List Int), vs = [.ref a] ∧ SqL K H a (ns.map V.int) ∧ ns.length ≤ 63 ∧ ∀ H', Q (.bl true) H'
theorem ok_law (T : Txt K mg A) : OkG P w K mg base 10 A.f_law ["script"] (spLaw K) := by
  refine T.fn_law.okG sc_law (fun _ _ _ _ _ _ us hl => match us, hl with | [_], _ => rfl) (fun vs H Q E h => ?_) (fun cdv B up s H0 vs Q hr gd h => ?_)
  · obtain ⟨a, ns, rfl, _⟩ := h
    rfl
  · obtain ⟨a0, ns, rfl, hS, hl, h⟩ := h
    refine ⟨_, (pss_cons (ps_for PassesOwn.never rfl (pi_range1 rfl T.no_range (pa_cons (pe_callB (call_max2 rfl) (by rfl) T.no_max (by decide +kernel) (pa_cons pe_int (pa_cons (pe_callB (call_min2 rfl) (by rfl) T.no_min (by decide +kernel) (pa_cons pe_int (pa_cons (pe_callB call_len (by rfl) T.no_len (by decide +kernel) (pa_cons (pv 0) pa_nil)) pa_nil))) pa_nil))) pa_nil)) (pg_name (i := 1) sc_law.nd rfl (Or.inl rfl))
      (pss_cons (ps_set (i := 2) sc_law.nd rfl (Or.inr rfl) (po_call (ok__law_tape T) (hr.mono (by decide)) T.mg__law_tape (pa_cons (pv 0) (pa_cons (pv 1) pa_nil))))
      (pss_one (ps_for PassesOwn.never rfl (pi_range1 rfl T.no_range (pa_cons pe_int pa_nil)) (pg_name (i := 3) sc_law.nd rfl (Or.inl rfl))
      (pss_cons (ps_set (i := 4) sc_law.nd rfl (Or.inl rfl) (po_call (ok__law_items T) (hr.mono (by decide)) T.mg__law_items (pa_cons (pv 2) (pa_cons (po_call (ok__law_next T) (hr.mono (by decide)) T.mg__law_next (pa_cons (pv 2) (pa_cons pe_int pa_nil))) pa_nil))))
      (pss_cons (ps_asg (pe_tup (pa_cons (po_call (ok__law_drawn T) (hr.mono (by decide)) T.mg__law_drawn (pa_cons (pv 2) (pa_cons (pv 4) (pa_cons pe_int pa_nil)))) (pa_cons (po_call (ok__law_next T) (hr.mono (by decide)) T.mg__law_next (pa_cons (pv 2) (pa_cons pe_int pa_nil))) pa_nil))) (pg_tup (by rfl) (pgs_cons (pg_name (i := 5) sc_law.nd rfl (Or.inl rfl)) (pgs_cons (pg_name (i := 6) sc_law.nd rfl (Or.inr rfl)) pgs_nil))))
      (pss_cons (ps_asg (pe_tup (pa_cons (po_call (ok__law_told T) (hr.mono (by decide)) T.mg__law_told (pa_cons (pv 6) (pa_cons (pv 4) (pa_cons (pv 5) pa_nil)))) (pa_cons (po_call (ok__law_every T) (hr.mono (by decide)) T.mg__law_every (pa_cons (pv 6) (pa_cons (pv 4) (pa_cons (pv 5) pa_nil)))) pa_nil))) (pg_tup (by rfl) (pgs_cons (pg_name (i := 7) sc_law.nd rfl (Or.inr rfl)) (pgs_cons (pg_name (i := 8) sc_law.nd rfl (Or.inl rfl)) pgs_nil))))
      (pss_mid (ps_if (pt_cmpR (op_eqX hr) (po_call (ok__law_next T) (hr.mono (by decide)) T.mg__law_next (pa_cons (pv 2) (pa_cons pe_int pa_nil))) pe_int (nomark _)) (pss_one (ps_set (i := 7) sc_law.nd rfl (Or.inr rfl) (pe_callTy (call_dictP rfl) (by rfl) T.no_dict (by decide +kernel) (pa_cons (pe_lcD (own := [("name", 11)]) rfl sc_law.nd (pi_list (pv 5)) (blkOk_by (N := N_law) (sc := defScope s_law) (by decide +kernel)) (fun _ _ _ _ _ => pg_name (i := 11) sc_law.nd rfl (Or.inl rfl)) (fun _ _ _ _ _ => pts_nil) (fun _ _ _ _ _ => (pe_tup (pa_cons (pv 11) (pa_cons (po_call (ok__law_next T) (hr.mono (by decide)) T.mg__law_next (pa_cons (pv 2) (pa_cons pe_int pa_nil))) pa_nil))))) pa_nil)))) pss_nil)
      (pss_cons (ps_setLcD (i := 9) (own := [("name", 11)]) rfl sc_law.nd rfl rfl (sw_true rfl rfl rfl (by decide +kernel)) (pi_list (pe_revL (pv 5))) (blkOk_by (N := N_law) (sc := defScope s_law) (by decide +kernel)) (fun _ _ _ _ _ => pg_name (i := 11) sc_law.nd rfl (Or.inl rfl)) (fun _ _ _ _ _ => pts_nil) (fun _ _ _ _ _ => (po_call (ok__law_made T) (hr.mono (by decide)) T.mg__law_made (pa_cons (pv 6) (pa_cons (pv 11) (pa_cons (pe_dget (Nat.lt_of_le_of_lt (Nat.add_le_add_left (show 1 ≤ 64 by decide) _) hr.units) (pv 7) (pv 11) (fun _ _ => rfl)) pa_nil))))))
      (pss_cons (ps_if (pt_not (pt_val (pg_call (ok__law_right T) (hr.mono (by decide)) gd T.mg__law_right (pa_cons (pv 6) (pa_cons (pv 4) (pa_cons (pv 9) (pa_cons (pv 8) pa_nil))))))) (pss_one (ps_ret pe_bl)) pss_nil)
      (pss_mid (ps_for PassesOwn.never rfl (pi_list (pv 9)) (pg_name (i := 10) sc_law.nd rfl (Or.inl rfl))
      (pss_one (ps_if (pt_cmpR (op_eqX hr) (po_call (ok__law_next T) (hr.mono (by decide)) T.mg__law_next (pa_cons (pv 2) (pa_cons pe_int pa_nil))) pe_int (nomark _)) (pss_one (ps_expr (po_methD (ok_Record_move_to T) (hr.mono (by decide)) (pv 10) (pa_cons (pe_ix ix_seq (pe_lst (pa_cons pe_int (pa_cons (po_call (ok__law_next T) (hr.mono (by decide)) T.mg__law_next (pa_cons (pv 2) (pa_cons pe_int pa_nil))) (pa_cons pe_int pa_nil)))) (po_call (ok__law_next T) (hr.mono (by decide)) T.mg__law_next (pa_cons (pv 2) (pa_cons pe_int pa_nil))) (fun _ _ => rfl)) pa_nil)))) pss_nil)))
      (pss_cons (ps_if (pt_not (pt_val (pg_call (ok__law_right T) (hr.mono (by decide)) gd T.mg__law_right (pa_cons (pv 6) (pa_cons (pv 4) (pa_cons (pv 9) (pa_cons (pv 8) pa_nil))))))) (pss_one (ps_ret pe_bl)) pss_nil)
      (pss_cons (ps_expr (pe_bm0 PySem.F.plainAttrs_list PySem.F.slot_list_reverse PySem.F.type_list_reverse mt_reverse (pv 4)))
      (pss_one (ps_if (pt_not (pt_val (pg_call (ok__law_right T) (hr.mono (by decide)) gd T.mg__law_right (pa_cons (pv 6) (pa_cons (pv 4) (pa_cons (pv 9) (pa_cons (po_call (ok__law_every T) (hr.mono (by decide)) T.mg__law_every (pa_cons (pv 6) (pa_cons (pv 4) (pa_cons (pv 5) pa_nil)))) pa_nil))))))) (pss_one (ps_ret pe_bl)) pss_nil)))))))))))))))
      (pss_cons (ps_set (i := 4) sc_law.nd rfl (Or.inl rfl) (pe_lst (pa_cons pe_str (pa_cons pe_str pa_nil))))
      (pss_one (ps_ret (pe_and (pe_cmpR (op_eqX hr) (px_call (ok_wrong_items T) (fun _ => atL) (hr.mono (by decide)) T.mg_wrong_items (pa_cons (pe_lst pa_nil) (pa_cons (pv 4) pa_nil))) (pe_lst pa_nil) (nomark _)) (pe_and (pe_cmpR (op_eqX hr) (px_call (ok_nearest T) (fun _ => atL) (hr.mono (by decide)) T.mg_nearest (pa_cons (pe_lst pa_nil) (pa_cons (pe_lst pa_nil) pa_nil))) (pe_lst pa_nil) (nomark _)) (pe_one (pe_cmpR (op_eqX hr) (px_call (ok_wrong_items T) (fun _ => atL) (hr.mono (by decide)) T.mg_wrong_items (pa_cons (pe_lst (pa_cons (po_make T.mk_Inserted (ok_Record___init__ T) (hr.mono (by decide)) T.mg_Inserted (pa_cons pe_str (pa_cons pe_int pa_nil))) pa_nil)) (pa_cons (pv 4) pa_nil))) (pe_lst (pa_cons pe_str pa_nil)) (nomark _))))))))), ?_⟩
    refine ⟨_, rfl, _, _, rfl, .inl ⟨_, hS, rfl⟩, _, _, rfl, _, _, rfl, ?_⟩
    have hJ : ∀ L : Int, 0 ≤ (if (if L < 4 then L else 4) > 1 then (if L < 4 then L else 4) else 1) ∧ (if (if L < 4 then L else 4) > 1 then (if L < 4 then L else 4) else 1) ≤ 4 := fun L => by
      constructor <;> (repeat' split) <;> omega
    obtain ⟨j0, j1⟩ := hJ ((List.map V.int ns).length : Int)
    refine ⟨_, rfl, by omega, by omega, for_range (lo := 0) (n := Int.toNat _) (fun i σ H => (∃ v1 v2 v3 v4 v5 v6 v7 v8 v9 v10 v11 : Option V, σ = [some (.ref a0), v1, v2, v3, v4, v5, v6, v7, v8, v9, v10, v11]) ∧ Same H0 H)
      ⟨⟨_, _, _, _, _, _, _, _, _, _, _, rfl⟩, Same.refl _⟩ ?_ ?_⟩
    · rintro i σ H hi ⟨⟨v1, v2, v3, v4, v5, v6, v7, v8, v9, v10, v11, rfl⟩, sm⟩
      have hi6 : i < 64 := by omega
      refine ⟨_, rfl, _, rfl, a0, ns, i, by rw [Int.zero_add]; rfl, sm.seq hS, hi6, fun p H1 s1 np src0 => ?_⟩
      have f0 : H0 p = none := sm.free np
      refine ⟨_, rfl, by decide, by decide, for_range (lo := 0) (n := 4) (fun t σ H => (∃ v3 v4 v5 v6 v7 v8 v9 v10 v11 : Option V, σ = [some (.ref a0), some (.int (0 + i)), some (.ref p), v3, v4, v5, v6, v7, v8, v9, v10, v11]) ∧ Sd H0 p (400 * t) H)
        ⟨⟨_, _, _, _, _, _, _, _, _, rfl⟩, sm.trans s1, (by rw [show (400 : Int) * ((0 : Nat) : Int) = 0 from rfl]; exact src0), f0⟩ ?_ ?_⟩
      · rintro t σ H2 ht ⟨⟨v3, v4, v5, v6, v7, v8, v9, v10, v11, rfl⟩, d⟩
        generalize hN : 400 * (t : Int) = N at d
        have hN2 : N < 2 ^ 40 := by omega
        refine ⟨_, rfl, _, rfl, p, 8, N, rfl, by decide, by decide, d.src, by omega, fun r1 H3 r10 r11 s3 b3 => ?_⟩
        have d3 := d.pick b3 s3
        obtain ⟨many, rfl⟩ : ∃ o : Nat, r1 = o := ⟨r1.toNat, by omega⟩
        refine ⟨p, N + 1, many, rfl, d3.src, by omega, by omega, fun It xs H4 ixs lxs b4 s4 nI hI => ⟨_, rfl, ?_⟩⟩
        have Ip := d3.ne nI
        have I0 := d3.same.free nI
        have d4 : Sd H0 p (N + 10) H4 := ⟨d3.same.but d3.fr b4, s4.le (by omega), d3.fr⟩
        clear d d3 b3 s3 b4 s4 nI
        refine ⟨_, rfl, p, It, N + 10, xs, 5, rfl, d4.src, hI, by omega, by omega, by decide, fun D ns zs H5 pm l5 b5 s5 nD hD => ?_⟩
        have Dp := d4.ne nD
        have D0 := d4.same.free nD
        have DI : It ≠ D := ne_of_none hI nD
        have d5 : Sd H0 p (N + 71) H5 := ⟨d4.same.but d4.fr b5, s5.le (by omega), d4.fr⟩
        have hI5 := b5 _ _ hI Ip
        have ndp : (ns ++ zs).Nodup := pm.nodup_iff.mpr ixs.nd
        have nn : ns.Nodup := (List.nodup_append.mp ndp).1
        have sub : ∀ x ∈ ns, x ∈ xs := fun x hx => pm.mem_iff.mp (List.mem_append_left _ hx)
        clear b5 s5 nD ndp pm hI d4
        refine ⟨_, rfl, p, 3, N + 71, rfl, by decide, by decide, d5.src, by omega, fun kind H6 k0 k2 s6 b6 => ?_⟩
        have d6 := d5.pick b6 s6
        have hI6 := b6 _ _ hI5 Ip
        have hD6 := b6 _ _ hD Dp
        refine ⟨Nat.le_of_ble_eq_true rfl, fun tt ntt => ⟨tt, _, rfl, SqT.of upd_same, rfl, _, _, rfl, _, _, rfl, rfl, ?_⟩⟩
        have ut := Same.new (o := .tup [.ref D, .int kind]) ntt
        have d7 := (d6.more ut).le (show _ ≤ N + 80 by omega)
        have hI7 := ut _ _ hI6
        have hD7 := ut _ _ hD6
        generalize L2.upd H6 tt (.tup [.ref D, .int kind]) = H7 at d7 hI7 hD7 ⊢
        clear ut ntt d6 hI6 hD6 b6 s6 d5 hI5 hD
        refine ⟨_, rfl, _, rfl, _, rfl, kind, It, D, xs, ns, rfl, hI7, hD7, ixs, by omega, nn, by omega, sub, fun S H8 s8 nS hS => ?_⟩
        have d8 := d7.more s8
        have hI8 := s8 _ _ hI7
        have hD8 := s8 _ _ hD7
        have Sp := d7.ne nS
        refine ⟨_, rfl, _, rfl, _, rfl, kind, It, D, xs, ns, rfl, hI8, hD8, ixs, by omega, nn, l5, sub, fun E kvs H9 s9 nE hE ev => ?_⟩
        have d9 := d8.more s9
        have hI9 := s9 _ _ hI8
        have hD9 := s9 _ _ hD8
        have hS9 := s9 _ _ hS
        have Ep := d8.ne nE
        refine ⟨Nat.le_of_ble_eq_true rfl, fun t2 nt2 => ⟨t2, _, rfl, SqT.of upd_same, rfl, _, _, rfl, _, _, rfl, rfl, ?_⟩⟩
        have u2 := Same.new (o := .tup [.ref S, .ref E]) nt2
        have d10 := d9.more u2
        have hI10 := u2 _ _ hI9
        have hD10 := u2 _ _ hD9
        have hS10 := u2 _ _ hS9
        have hE10 := u2 _ _ hE
        have ev10 := ev.same u2
        have ev8 : ∀ x ∈ ns, ∃ L : Addr, valV kvs (Sum.inr x) = some (.ref L) ∧ L2.upd H9 t2 (.tup [.ref S, .ref E]) L = some (.lst (vN (evG kind xs (orders ns) x))) ∧ L ≠ p := fun x hx => by
          obtain ⟨L, a, b, c⟩ := ev10.at_ x hx
          exact ⟨L, a, b, d8.ne c⟩
        generalize L2.upd H9 t2 (.tup [.ref S, .ref E]) = H10 at d10 hI10 hD10 hS10 hE10 ev8 ⊢
        clear u2 nt2 d9 hI9 hD9 hS9 hE ev ev10 nE s9 d8 hI8 hD8 hS nS s8 d7 hI7 hD7
        have spn : ∀ x ∈ ns, Spn (evG kind xs (orders ns) x) (rgN kind (logN kind ns) xs x) := fun x hx => ev_span ixs.nd nn sub hx l5 (by omega)
        refine ⟨fun σ H' => ∃ (S : Addr) (v11 : Option V) (sl : List (Key × V)) (f : Str → Nat), σ = [some (.ref a0), some (.int (0 + i)), some (.ref p), some (.int (0 + t)), some (.ref It), some (.ref D), some (.int kind), some (.ref S), some (.ref E), v9, v10, v11] ∧ Sd H0 p (N + 100) H' ∧ But p H10 H' ∧ H' S = some (.dK sl) ∧ S ≠ p ∧ ∀ x ∈ ns, valV sl (Sum.inr x) = some (.int (f x : Nat)) ∧ f x ≤ 60, ?_, ?_⟩
        · refine ⟨_, rfl, p, 4, N + 80, rfl, by decide, by decide, d10.src, by omega, fun r H11 r0 r1 s11 b11 => eqS rfl ⟨_, rfl, ite2 (fun _ => ?_) (fun _ => ?_)⟩⟩
          · have d11 := d10.pick b11 s11
            have hD11 := b11 _ _ hD10 Dp
            refine ⟨_, rfl, D, rfl, ⟨_, SqL.of hD11⟩, fun C nC => ?_⟩
            have Cp := d11.ne nC
            have C0 := d11.same.free nC
            have uC := Same.new (o := .lst []) nC
            refine lc_list (K := K) (a := D) (xs := ns.map V.str) (fun j H' => Sd H0 p (N + 81 + j) H' ∧ But p H11 H' ∧ ∃ vs ps, H' C = some (.lst vs) ∧ Prs H' vs ps ∧ ps.map (·.1) = ns.take j ∧ ∀ q ∈ ps, q.2 ≤ 60) ?_ ?_ ?_ ?_
            · exact ⟨(d11.more uC).le (by omega), But.same uC, [], [], upd_same, .nil, rfl, fun q hq => by cases hq⟩
            · rintro j H12 _ ⟨_, b12, _⟩
              exact SqL.of (b12 _ _ hD11 Dp)
            · rintro j y H12 hy ⟨d12, b12, vs, ps, hC, q12, n12, g12⟩
              rw [List.getElem?_map] at hy
              cases ex : ns[j]? with
              | none => rw [ex] at hy; cases hy
              | some x =>
                rw [ex] at hy
                cases hy
                have hj := (List.getElem?_eq_some_iff.mp ex).1
                have lv := q12.len
                have lps : ps.length = j := by
                  have z := congrArg List.length n12
                  rw [List.length_map, List.length_take] at z
                  omega
                refine ⟨rfl, _, rfl, _, rfl, p, 10, N + 81 + j, rfl, by decide, by decide, d12.src, by omega, fun z H13 z0 z1 s13 b13 => ⟨Nat.le_of_ble_eq_true rfl, fun tq ntq => ?_⟩⟩
                obtain ⟨z, rfl⟩ : ∃ o : Nat, z = o := ⟨z.toNat, by omega⟩
                have d13 := d12.pick b13 s13
                have hC13 := b13 _ _ hC Cp
                have uq := Same.new (o := .tup [.str x, .int (z : Nat)]) ntq
                refine ⟨vs, uq _ _ hC13, Nat.lt_of_lt_of_le (show vs.length < 1000 by omega) (by decide), ((d13.more uq).upd C0 Cp).le (by omega), fun c u eo ne => ?_, vs ++ [.ref tq], ps ++ [(x, z)], upd_same, (((q12.but d12.src b13).same uq).snoc upd_same).updL (uq _ _ hC13), ?_, fun q hq => ?_⟩
                · rw [upd_ne (ne_of_none eo nC)]
                  exact uq _ _ (b13 _ _ (b12 _ _ eo ne) ne)
                · rw [List.map_append, n12, List.take_add_one, ex]
                  rfl
                · rcases List.mem_append.mp hq with hq | hq
                  · exact g12 q hq
                  · rw [List.mem_singleton.mp hq]
                    show z ≤ 60
                    omega
            rintro H12 ⟨d12, b12, vs, ps, hC, q12, n12, g12⟩
            rw [List.length_map] at d12 n12
            rw [List.take_length] at n12
            obtain ⟨as, rfl, pr⟩ := q12.pairs (K := K)
            obtain ⟨f, f60, fv⟩ := dP_val ps g12
            rw [n12] at fv
            have mg : mergeK [] (dP ps) = dP ps := by
              rw [merge_new (acc := []) (by rw [dP_keys, n12]; exact inr_nd nn), List.nil_append]
            refine ⟨C, as, dP ps, rfl, SqL.of hC, pr, fun S2 nS2 => ?_⟩
            rw [mg]
            have uS := Same.new (o := .dK (dP ps)) nS2
            have S2p := d12.ne nS2
            refine ⟨S2, _, _, f, rfl, (d12.more uS).le (by omega), fun c u eo ne => uS _ _ (b12 _ _ (b11 _ _ eo ne) ne), upd_same, S2p, fun x hx => ⟨?_, f60 x⟩⟩
            rw [fv, if_pos hx]
          · refine ⟨S, _, _, fun x => tvo kind xs ns x, rfl, (d10.pick b11 s11).le (by omega), b11, b11 _ _ hS10 Sp, Sp, fun x hx => ⟨?_, tvo_60 ixs.nd nn sub hx (by omega)⟩⟩
            rw [tvs_val, if_pos ((ordK_perm kind ns).mem_iff.mpr hx)]
            rfl
        · rintro σ H11 ⟨S, v11, sl, f, rfl, d11, b11, hS11, Sp, fv⟩
          have hI11 := b11 _ _ hI10 Ip
          have hD11 := b11 _ _ hD10 Dp
          have hE11 := b11 _ _ hE10 Ep
          have ev11 : ∀ x ∈ ns, ∃ L : Addr, valV kvs (Sum.inr x) = some (.ref L) ∧ H11 L = some (.lst (vN (evG kind xs (orders ns) x))) ∧ L ≠ p := fun x hx => by
            obtain ⟨L, a, b, c⟩ := ev8 x hx
            exact ⟨L, a, b11 _ _ b c, c⟩
          clear hI10 hD10 hE10 ev8 b11 hS10 d10
          refine ⟨_, rfl, D, _, rfl, SqL.of hD11, fun R nR => ?_⟩
          have uR := Same.new (o := .lst (ns.map V.str).reverse) nR
          have d12 := d11.more uR
          have hR := show L2.upd H11 R (.lst (ns.map V.str).reverse) R = some (.lst (ns.map V.str).reverse) from upd_same
          rw [← List.map_reverse] at uR d12 hR
          have hI12 := uR _ _ hI11
          have hD12 := uR _ _ hD11
          have hE12 := uR _ _ hE11
          have hS12 := uR _ _ hS11
          have ev12 : ∀ x ∈ ns, ∃ L : Addr, valV kvs (Sum.inr x) = some (.ref L) ∧ L2.upd H11 R (.lst (ns.reverse.map V.str)) L = some (.lst (vN (evG kind xs (orders ns) x))) ∧ L ≠ p := fun x hx => by
            obtain ⟨L, a, b, c⟩ := ev11 x hx
            exact ⟨L, a, uR _ _ b, c⟩
          rw [← List.map_reverse]
          generalize L2.upd H11 R (.lst (ns.reverse.map V.str)) = H12 at d12 hR hI12 hD12 hE12 hS12 ev12 ⊢
          clear uR nR d11 hI11 hD11 hE11 hS11 ev11
          refine ⟨R, rfl, ⟨_, SqL.of hR⟩, fun B nB => ?_⟩
          have B0 := d12.same.free nB
          have Bp := d12.ne nB
          refine lc_list (K := K) (a := R) (xs := ns.reverse.map V.str) (fun j H' => Same H12 H' ∧ ∃ rs qs, H' B = some (.lst rs) ∧ Rows A H' rs qs ∧ names qs = ns.reverse.take j ∧ (∀ q ∈ qs, q.1 = kind ∧ q.2.2 ≤ 60) ∧ ∀ v ∈ rs, ∃ a, v = .ref a ∧ H0 a = none) ?_ ?_ ?_ ?_
          · exact ⟨Same.new nB, [], [], upd_same, .nil, rfl, (fun q hq => by cases hq), fun v hv => by cases hv⟩
          · rintro j H13 _ ⟨s13, _⟩
            exact SqL.of (s13 _ _ hR)
          · rintro j y H13 hy ⟨s13, rs, qs, hB, r13, n13, q13, f13⟩
            rw [List.getElem?_map] at hy
            cases ex : ns.reverse[j]? with
            | none => rw [ex] at hy; cases hy
            | some x =>
              rw [ex] at hy
              cases hy
              have hj := (List.getElem?_eq_some_iff.mp ex).1
              have mx : x ∈ ns := List.mem_reverse.mp (List.mem_of_getElem? ex)
              have gi : isItem x = true := ixs.it x (sub x mx)
              obtain ⟨fx, f60⟩ := fv x mx
              have l13 := r13.len
              have lqs : qs.length = j := by
                have z := congrArg List.length n13
                unfold names at z
                rw [List.length_map, List.length_take] at z
                omega
              have lj : j < 5 := by rw [List.length_reverse] at hj; omega
              refine ⟨rfl, _, rfl, _, rfl, _, rfl, _, rfl, S, _, rfl, (by have z := DGet.k (k := Sum.inr x) (s13 _ _ hS12); rw [fx] at z; exact z), kind, _, _, rfl, k0, by omega, gi, by omega, by omega, fun q dx H14 s14 nq eq => ?_⟩
              refine ⟨rs, s14 _ _ hB, Nat.lt_of_lt_of_le (show rs.length < 1000 by omega) (by decide), fun c u eo => ?_, _, qs ++ [(kind, x, f x)], upd_same, ((r13.same s14).snoc eq k0 (by omega) gi).updL (s14 _ _ hB), ?_, ?_, ?_⟩
              · rw [upd_ne (ne_of_none eo nB)]
                exact s14 _ _ (s13 _ _ eo)
              · unfold names at n13 ⊢
                rw [List.map_append, n13, List.take_add_one, ex]
                rfl
              · intro z hz
                rcases List.mem_append.mp hz with hz | hz
                · exact q13 z hz
                · rw [List.mem_singleton.mp hz]
                  exact ⟨rfl, f60⟩
              · intro v hv
                rcases List.mem_append.mp hv with hv | hv
                · exact f13 v hv
                · rw [List.mem_singleton.mp hv]
                  exact ⟨q, rfl, (d12.more s13).same.free nq⟩
          rintro H13 ⟨s13, rs, qs, hB, r13, n13, q13, f13⟩
          rw [List.length_map, List.take_length] at n13
          have d13 := d12.more s13
          have BI : It ≠ B := ne_of_none hI12 nB
          have hI13 := s13 _ _ hI12
          have hD13 := s13 _ _ hD12
          have hE13 := s13 _ _ hE12
          have ev13 : ∀ x ∈ ns, ∃ L : Addr, valV kvs (Sum.inr x) = some (.ref L) ∧ H13 L = some (.lst (vN (evG kind xs (orders ns) x))) ∧ L ≠ p := fun x hx => by
            obtain ⟨L, a, b, c⟩ := ev12 x hx
            exact ⟨L, a, s13 _ _ b, c⟩
          have pq : (names qs).Perm ns := by rw [n13]; exact List.reverse_perm ns
          have lq : qs.length = ns.length := by
            have z := pq.length_eq
            unfold names at z
            rw [List.length_map] at z
            exact z
          have LQ : LogQ kind qs := ⟨fun q hq => (q13 q hq).2, fun q hq => (q13 q hq).1, k0, by omega, pq.nodup_iff.mpr nn, by omega⟩
          clear s13 hI12 hD12 hE12 hS12 ev12 d12 hR nB n13 q13 fv
          have pk13 : Pk p It D E B xs ns rs kvs (evG kind xs (orders ns)) H13 := ⟨hI13, hD13, hE13, hB, ev13, Ip, Dp, Ep, Bp⟩
          clear hI13 hD13 hE13 hB ev13
          have hgs : ∀ (us : List (Int × Str × Nat)) (ys : List Str) (kv : List (Key × V)) (g : Str → List Nat) (H : Hp), (names us).Perm ns → (∀ x ∈ ns, (∃ L : Addr, valV kv (Sum.inr x) = some (.ref L) ∧ H L = some (.lst (vN (g x)))) ∧ Spn (g x) (rgN kind (logN kind ns) ys x)) → ∀ x ∈ names us, (∃ L : Addr, valV kv (Sum.inr x) = some (.ref L) ∧ H L = some (.lst (vN (g x)))) ∧ Spn (g x) (rgN kind us ys x) := fun us ys kv g H pm h x hx => by
            obtain ⟨a, b⟩ := h x (pm.mem_iff.mp hx)
            refine ⟨a, ?_⟩
            rw [rgN_perm (qs := us) (rs := logN kind ns) (by rw [logN_names]; exact pm) hx]
            exact b
          have evs : ∀ (H : Hp), Pk p It D E B xs ns rs kvs (evG kind xs (orders ns)) H → ∀ x ∈ ns, (∃ L : Addr, valV kvs (Sum.inr x) = some (.ref L) ∧ H L = some (.lst (vN (evG kind xs (orders ns) x)))) ∧ Spn (evG kind xs (orders ns) x) (rgN kind (logN kind ns) xs x) := fun H pk x hx => by
            obtain ⟨L, a, b, _⟩ := pk.ev x hx
            exact ⟨⟨L, a, b⟩, spn x hx⟩
          refine ⟨_, rfl, _, rfl, _, rfl, _, rfl, kind, It, B, E, xs, rs, qs, kvs, evG kind xs (orders ns), rfl, pk13.hI, ixs, by omega, pk13.hB, r13, LQ, fun x hx => sub x (pq.mem_iff.mp hx), pk13.hE, hgs qs xs kvs _ _ pq (evs _ pk13), fun H14 s14 => ⟨_, rfl, iteF ?_⟩⟩
          have d14 := d13.more s14
          have pk14 := pk13.same s14
          have r14 := r13.same s14
          clear s14 d13 pk13 r13
          refine ⟨fun σ H' => ∃ (v10 : Option V) (us : List (Int × Str × Nat)), σ = [some (.ref a0), some (.int (0 + i)), some (.ref p), some (.int (0 + t)), some (.ref It), some (.ref D), some (.int kind), some (.ref S), some (.ref E), some (.ref B), v10, v11] ∧ Sd H0 p (N + 200) H' ∧ Pk p It D E B xs ns rs kvs (evG kind xs (orders ns)) H' ∧ Rows A H' rs us ∧ LogQ kind us ∧ names us = names qs, ?_, ?_⟩
          · refine ⟨_, rfl, B, rfl, ⟨_, SqL.of pk14.hB⟩, for_list (K := K) (a := B) (xs := rs) (fun j σ H' => ∃ (v10 : Option V) (us : List (Int × Str × Nat)), σ = [some (.ref a0), some (.int (0 + i)), some (.ref p), some (.int (0 + t)), some (.ref It), some (.ref D), some (.int kind), some (.ref S), some (.ref E), some (.ref B), v10, v11] ∧ Sd H0 p (N + 110 + 3 * j) H' ∧ Pk p It D E B xs ns rs kvs (evG kind xs (orders ns)) H' ∧ Rows A H' rs us ∧ LogQ kind us ∧ names us = names qs)
              ⟨_, qs, rfl, d14.le (by omega), pk14, r14, LQ, rfl⟩ ?_ ?_ ?_⟩
            · rintro j σ H16 _ ⟨_, _, _, _, pk16, _⟩
              exact SqL.of pk16.hB
            · rintro j y σ H16 hy ⟨v10, us, rfl, d16, pk16, r16, L16, n16⟩
              have hj := (List.getElem?_eq_some_iff.mp hy).1
              have l14 := r14.len
              obtain ⟨q, dx, way, x, n, rfl, hq, he, w0, w3, hx⟩ := r16.get hy
              obtain ⟨q', eq', fq⟩ := f13 _ (List.mem_of_getElem? hy)
              cases eq'
              have ew : way = kind := L16.wy _ (List.mem_of_getElem? hq)
              subst ew
              have qp : q ≠ p := fun z => by
                obtain ⟨g, m', c, z2, _⟩ := d16.src
                rw [z, z2] at he
                cases he
              refine ⟨_, rfl, p, 2, N + 110 + 3 * j, rfl, by decide, by decide, d16.src, by omega, fun r H17 r0 r1 s17 b17 => eqS rfl ⟨_, rfl, ite2 (fun _ => ?_) (fun _ => ?_)⟩⟩
              · have d17 := d16.pick b17 s17
                have pk17 := pk16.but b17
                have he17 := b17 _ _ he qp
                have r17 := r16.but d16.src b17
                refine ⟨_, rfl, q, _, dx, _, rfl, he17, rfs_no _ _ (by decide +kernel) (by decide +kernel), (kd_of T w0 (by omega : way ≤ 3)).rc.cl, meth_move T w0 (by omega), ?_⟩
                refine ⟨_, rfl, p, 9, N + 110 + 3 * j + 1, rfl, by decide, by decide, d17.src, by omega, fun z H18 z0 z1 s18 b18 => ?_⟩
                have d18 := d17.pick b18 s18
                have pk18 := pk17.but b18
                have he18 := b18 _ _ he17 qp
                have r18 := r17.but d17.src b18
                refine ⟨Nat.le_of_ble_eq_true rfl, fun q1 nq1 => ?_⟩
                have u1 := Same.new (o := .lst [.int 0, .int z, .int 60]) nq1
                have q1p := d18.ne nq1
                have d19 := d18.more u1
                have pk19 := pk18.same u1
                have he19 := u1 _ _ he18
                have r19 := r18.same u1
                refine ⟨_, rfl, p, 3, N + 110 + 3 * j + 1 + 1, rfl, by decide, by decide, d19.src, by omega, fun y H20 y0 y1 s20 b20 => ?_⟩
                obtain ⟨n', hn', n0, n60⟩ := pickI (zs := [0, z, 60]) (fun z => 0 ≤ z ∧ z ≤ 60)
                  (by
                    intro y hy
                    simp only [List.mem_cons, List.not_mem_nil, or_false] at hy
                    rcases hy with rfl | rfl | rfl <;> omega) y0 y1
                have d20 := d19.pick b20 s20
                have pk20 := pk19.but b20
                have he20 := b20 _ _ he19 qp
                have r20 := r19.but d19.src b20
                obtain ⟨n', rfl⟩ : ∃ o : Nat, n' = o := ⟨n'.toNat, by omega⟩
                refine ixL (b20 _ _ upd_same q1p) hn' ?_
                refine ⟨q, _, dx, x, n, n', rfl, he20, (kd_of T w0 (by omega : way ≤ 3)).rc, by omega, by omega, ?_⟩
                exact ⟨_, us.set j (way, x, n'), rfl, (d20.upd fq qp).le (by omega), pk20.upd he20, r20.moveAt L16.nd he20 hy hq, L16.set hq (by omega), by rw [names_set hq]; exact n16⟩
              · exact ⟨_, us, rfl, (d16.pick b17 s17).le (by omega), pk16.but b17, r16.but d16.src b17, L16, n16⟩
            · rintro σ H16 ⟨v10, us, rfl, d16, pk16, r16, L16, n16⟩
              have l14 := r14.len
              exact ⟨v10, us, rfl, d16.le (by omega), pk16, r16, L16, n16⟩
          · rintro σ H15 ⟨v10, us, rfl, d15, pk15, r15, L15, n15⟩
            have pu : (names us).Perm ns := by rw [n15]; exact pq
            refine ⟨_, rfl, _, rfl, _, rfl, _, rfl, kind, It, B, E, xs, rs, us, kvs, evG kind xs (orders ns), rfl, pk15.hI, ixs, by omega, pk15.hB, r15, L15, fun x hx => sub x (pu.mem_iff.mp hx), pk15.hE, hgs us xs kvs _ _ pu (evs _ pk15), fun H16 s16 => ⟨_, rfl, iteF ?_⟩⟩
            have d16 := d15.more s16
            have pk16 := pk15.same s16
            have r16 := r15.same s16
            clear s16 d15 pk15 r15
            refine ⟨_, rfl, .inl ⟨rfl, _, SqL.of pk16.hI⟩, It, _, rfl, rfl, pk16.hI, ?_⟩
            rw [← List.map_reverse]
            have d17 := d16.upd (o := .lst (xs.reverse.map V.str)) I0 Ip
            have hI17 := show L2.upd H16 It (.lst (xs.reverse.map V.str)) It = some (.lst (xs.reverse.map V.str)) from upd_same
            have hD17 : L2.upd H16 It (.lst (xs.reverse.map V.str)) D = some (.lst (ns.map V.str)) := by
              rw [upd_ne DI.symm]
              exact pk16.hD
            have hB17 : L2.upd H16 It (.lst (xs.reverse.map V.str)) B = some (.lst rs) := by
              rw [upd_ne BI.symm]
              exact pk16.hB
            have r17 := r16.updL (o := .lst (xs.reverse.map V.str)) pk16.hI
            generalize L2.upd H16 It (.lst (xs.reverse.map V.str)) = H17 at d17 hI17 hD17 hB17 r17 ⊢
            clear d16 pk16 r16
            have ixr : Items xs.reverse := ixs.perm (List.reverse_perm xs)
            have lxr : xs.reverse.length ≤ 60 := by rw [List.length_reverse]; omega
            have sbr : ∀ x ∈ ns, x ∈ xs.reverse := fun x hx => List.mem_reverse.mpr (sub x hx)
            refine ⟨_, rfl, _, rfl, _, rfl, _, rfl, _, rfl, _, rfl, kind, It, D, xs.reverse, ns, rfl, hI17, hD17, ixr, lxr, nn, l5, sbr, fun E2 kv2 H18 s18 nE2 hE2 ev2 => ?_⟩
            refine ⟨kind, It, B, E2, xs.reverse, rs, us, kv2, evG kind xs.reverse (orders ns), rfl, s18 _ _ hI17, ixr, lxr, s18 _ _ hB17, r17.same s18, L15, fun x hx => sbr x (pu.mem_iff.mp hx), hE2, hgs us xs.reverse kv2 _ _ pu (fun x hx => ?_), fun H19 s19 => ⟨_, rfl, iteF ?_⟩⟩
            · obtain ⟨L, a, b, _⟩ := ev2.at_ x hx
              exact ⟨⟨L, a, b⟩, ev_span ixr.nd nn sbr hx l5 lxr⟩
            · exact ⟨⟨_, _, _, _, _, _, _, _, _, rfl⟩, ((d17.more s18).more s19).le (by omega)⟩
      · rintro σ H ⟨⟨v3, v4, v5, v6, v7, v8, v9, v10, v11, rfl⟩, d⟩
        exact ⟨⟨_, _, _, _, _, _, _, _, _, _, _, rfl⟩, d.same⟩
    · rintro σ H ⟨⟨v1, v2, v3, v4, v5, v6, v7, v8, v9, v10, v11, rfl⟩, sm⟩
      refine ⟨Nat.le_of_ble_eq_true rfl, fun It nI => ?_⟩
      have uI := Same.new (o := .lst [.str "b", .str "a"]) nI
      have hI := show L2.upd H It (.lst [.str "b", .str "a"]) It = some (.lst ((["b", "a"] : List Str).map V.str)) from upd_same
      have hI : L2.upd H It (.lst [.str "b", .str "a"]) It = some (.lst ((["b", "a"] : List Str).map V.str)) := hI
      generalize L2.upd H It (.lst [.str "b", .str "a"]) = H1 at hI ⊢
      have ixs : Items (["b", "a"] : List Str) := ⟨fun x hx => by
        simp only [List.mem_cons, List.not_mem_nil, or_false] at hx
        rcases hx with rfl | rfl <;> decide +kernel, by decide +kernel⟩
      refine ⟨Nat.zero_le _, fun l0 n0 => ?_⟩
      have u0 := Same.new (o := .lst []) n0
      have hl0 := show L2.upd H1 l0 (.lst []) l0 = some (.lst []) from upd_same
      have hI2 := u0 _ _ hI
      generalize L2.upd H1 l0 (.lst []) = H2 at hl0 hI2 ⊢
      have L0 : LogQ 0 [] := ⟨(fun q hq => by cases hq), (fun q hq => by cases hq), by decide, by decide, List.nodup_nil, Nat.zero_le _⟩
      refine ⟨_, rfl, l0, It, [], 0, [], ["b", "a"], rfl, hl0, .nil, L0, hI2, ixs, by decide, (fun x hx => by cases hx), fun D H3 s3 nD hD => ?_⟩
      have e0 : wrongL 0 [] ["b", "a"] = [] := by decide +kernel
      rw [e0] at hD
      refine ⟨Nat.zero_le _, fun b nb => .inr ⟨sl [], sl [], .lst (SqL.of ((Same.new nb) _ _ hD)) .nil, .lst (SqL.of upd_same) .nil, by decide +kernel, by decide +kernel, true, ?_, iteT ?_⟩⟩
      · rw [show PyData.eqv (sl []) (sl []) = true by decide +kernel]
      have hI4 := (Same.new (o := .lst []) nb) _ _ (s3 _ _ hI2)
      generalize L2.upd H3 b (.lst []) = H4 at hI4 ⊢
      refine ⟨Nat.zero_le _, fun l1 n1 => ⟨Nat.zero_le _, fun l2 n2 => ?_⟩⟩
      have v1 := Same.new (o := .lst []) n1
      have v2 := Same.new (o := .lst []) n2
      have hl1 := v2 _ _ (show L2.upd H4 l1 (.lst []) l1 = some (.lst []) from upd_same)
      have hl2 := show L2.upd (L2.upd H4 l1 (.lst [])) l2 (.lst []) l2 = some (.lst (([] : List Str).map V.str)) from upd_same
      have hI5 := (v1.trans v2) _ _ hI4
      generalize L2.upd (L2.upd H4 l1 (.lst [])) l2 (.lst []) = H5 at hl1 hl2 hI5 ⊢
      refine ⟨l1, l2, [], 0, [], [], rfl, hl1, .nil, L0, hl2, ⟨(fun x hx => by cases hx), List.nodup_nil⟩, by decide, (fun x hx => by cases hx), fun N us H6 s6 nN hN rN fN => ?_⟩
      cases rN
      refine ⟨Nat.zero_le _, fun b2 nb2 => .inr ⟨sl [], sl [], .lst (SqL.of ((Same.new nb2) _ _ hN)) .nil, .lst (SqL.of upd_same) .nil, by decide +kernel, by decide +kernel, true, ?_, iteT ?_⟩⟩
      · rw [show PyData.eqv (sl []) (sl []) = true by decide +kernel]
      have hI7 := (Same.new (o := .lst []) nb2) _ _ (s6 _ _ hI5)
      generalize L2.upd H6 b2 (.lst []) = H7 at hI7 ⊢
      refine fun q dx nq nd ne => ⟨q, _, dx, "a", 2, rfl, upd_same, rc_Inserted T, (by decide +kernel), by decide, by decide, fun H8 e8 b8 => ⟨rfl, Nat.le_of_ble_eq_true rfl, fun l3 n3 => ?_⟩⟩
      have hI8 := made_same nq nd b8 _ _ hI7
      have u3 := Same.new (o := .lst [.ref q]) n3
      have hI9 := u3 _ _ hI8
      have e9 := u3 _ _ e8
      have hl9 := show L2.upd H8 l3 (.lst [.ref q]) l3 = some (.lst [.ref q]) from upd_same
      generalize L2.upd H8 l3 (.lst [.ref q]) = H9 at hI9 e9 hl9 ⊢
      refine ⟨_, rfl, l3, It, [.ref q], 0, [(0, "a", 2)], ["b", "a"], rfl, hl9, .cons (n := 2) e9 (by decide) (by decide) (by decide +kernel) .nil, ⟨fun z hz => by rw [List.mem_singleton.mp hz]; decide, fun z hz => by rw [List.mem_singleton.mp hz], by decide, by decide, by decide +kernel, by decide⟩, hI9, ixs, by decide, fun x hx => ?_, fun D H10 s10 nD hD => ?_⟩
      · have hx : x ∈ ([("a" : Str)] : List Str) := hx
        rw [List.mem_singleton.mp hx]
        exact List.mem_cons_of_mem _ (List.mem_singleton.mpr rfl)
      have e1 : wrongL 0 [(0, "a", 2)] ["b", "a"] = [("a" : Str)] := by decide +kernel
      rw [e1] at hD
      refine ⟨Nat.le_of_ble_eq_true rfl, fun b3 nb3 => .inr ⟨sl ["a"], sl ["a"], dpS (SqL.of ((Same.new nb3) _ _ hD)), dpS (SqL.of upd_same), by decide +kernel, by decide +kernel, ?_⟩⟩
      rw [show PyData.eqv (sl ["a"]) (sl ["a"]) = true by decide +kernel]
      exact h _
theorem done {fa : Addr} (T : Txt K mg A) (hm : mg "law" = some (.ref fa)) : ∀ base : Heap, K.In base → base.Ns mainGlobals mg → OkG P w K mg base 10 fa ["script"] (spLaw K) := by
  have e := T.mg_law.symm.trans hm
  obtain rfl : A.f_law = fa := by
    injection e with e
    injection e
  exact fun base _ _ => ok_law T

end
end Own

set_option Elab.async false
set_option linter.all false
set_option maxRecDepth 100000
set_option maxHeartbeats 4000000
namespace Own
open PySem L2 ClX
local macro_rules | `(tactic| walk_at "v") => `(tactic| refine ⟨_, rfl, ?_⟩)
local macro_rules | `(tactic| walk_at "ii") => `(tactic| refine ⟨_, _, rfl, rfl, ?_⟩)
local macro_rules | `(tactic| walk_at "go") => `(tactic| repeat (first | refine ⟨_, rfl, ?_⟩ | refine ⟨_, _, rfl, rfl, ?_⟩ | refine addI ?_ | refine L2.iteT ?_ | refine L2.iteF ?_))

theorem txt_mk {K : PySem.W.Frag} {h : Heap} {mg : Str → Option Value} {f_is_integer f_is_item f_is_items f_check_items f_check_index f_record_of f_has_kind f_are_records f_is_log f_check_log f_sign_of f_is_fronted f_check_known f_rooms_of f_shifts_of f_certificates f_index_range f_wrong_items f_nearest_slot f_nearest f__law_tape f__law_next f__law_items f__law_made f__law_facts f__law_drawn f__law_told f__law_orders f__law_every f__law_due f__law_right f_law c_Record c_Inserted c_Removed c_Fronted c_NoList c_NoItem c_LogError m_Record___init__ m_Record_move_to m_Record_item p_Record_item m_Record_slot p_Record_slot : Addr} (X : K.In h) (G : h.Ns mainGlobals mg)
    (a_is_integer : PySem.W.nsIn K mainGlobals "is_integer" = some (some (.ref f_is_integer)))
    (g_is_integer : FnT K "is_integer" "is_integer" s_is_integer f_is_integer)
    (a_is_item : PySem.W.nsIn K mainGlobals "is_item" = some (some (.ref f_is_item)))
    (g_is_item : FnT K "is_item" "is_item" s_is_item f_is_item)
    (a_is_items : PySem.W.nsIn K mainGlobals "is_items" = some (some (.ref f_is_items)))
    (g_is_items : FnT K "is_items" "is_items" s_is_items f_is_items)
    (a_check_items : PySem.W.nsIn K mainGlobals "check_items" = some (some (.ref f_check_items)))
    (g_check_items : FnT K "check_items" "check_items" s_check_items f_check_items)
    (a_check_index : PySem.W.nsIn K mainGlobals "check_index" = some (some (.ref f_check_index)))
    (g_check_index : FnT K "check_index" "check_index" s_check_index f_check_index)
    (a_record_of : PySem.W.nsIn K mainGlobals "record_of" = some (some (.ref f_record_of)))
    (g_record_of : FnT K "record_of" "record_of" s_record_of f_record_of)
    (a_has_kind : PySem.W.nsIn K mainGlobals "has_kind" = some (some (.ref f_has_kind)))
    (g_has_kind : FnT K "has_kind" "has_kind" s_has_kind f_has_kind)
    (a_are_records : PySem.W.nsIn K mainGlobals "are_records" = some (some (.ref f_are_records)))
    (g_are_records : FnT K "are_records" "are_records" s_are_records f_are_records)
    (a_is_log : PySem.W.nsIn K mainGlobals "is_log" = some (some (.ref f_is_log)))
    (g_is_log : FnT K "is_log" "is_log" s_is_log f_is_log)
    (a_check_log : PySem.W.nsIn K mainGlobals "check_log" = some (some (.ref f_check_log)))
    (g_check_log : FnT K "check_log" "check_log" s_check_log f_check_log)
    (a_sign_of : PySem.W.nsIn K mainGlobals "sign_of" = some (some (.ref f_sign_of)))
    (g_sign_of : FnT K "sign_of" "sign_of" s_sign_of f_sign_of)
    (a_is_fronted : PySem.W.nsIn K mainGlobals "is_fronted" = some (some (.ref f_is_fronted)))
    (g_is_fronted : FnT K "is_fronted" "is_fronted" s_is_fronted f_is_fronted)
    (a_check_known : PySem.W.nsIn K mainGlobals "check_known" = some (some (.ref f_check_known)))
    (g_check_known : FnT K "check_known" "check_known" s_check_known f_check_known)
    (a_rooms_of : PySem.W.nsIn K mainGlobals "rooms_of" = some (some (.ref f_rooms_of)))
    (g_rooms_of : FnT K "rooms_of" "rooms_of" s_rooms_of f_rooms_of)
    (a_shifts_of : PySem.W.nsIn K mainGlobals "shifts_of" = some (some (.ref f_shifts_of)))
    (g_shifts_of : FnT K "shifts_of" "shifts_of" s_shifts_of f_shifts_of)
    (a_certificates : PySem.W.nsIn K mainGlobals "certificates" = some (some (.ref f_certificates)))
    (g_certificates : FnT K "certificates" "certificates" s_certificates f_certificates)
    (a_index_range : PySem.W.nsIn K mainGlobals "index_range" = some (some (.ref f_index_range)))
    (g_index_range : FnT K "index_range" "index_range" s_index_range f_index_range)
    (a_wrong_items : PySem.W.nsIn K mainGlobals "wrong_items" = some (some (.ref f_wrong_items)))
    (g_wrong_items : FnT K "wrong_items" "wrong_items" s_wrong_items f_wrong_items)
    (a_nearest_slot : PySem.W.nsIn K mainGlobals "nearest_slot" = some (some (.ref f_nearest_slot)))
    (g_nearest_slot : FnT K "nearest_slot" "nearest_slot" s_nearest_slot f_nearest_slot)
    (a_nearest : PySem.W.nsIn K mainGlobals "nearest" = some (some (.ref f_nearest)))
    (g_nearest : FnT K "nearest" "nearest" s_nearest f_nearest)
    (a__law_tape : PySem.W.nsIn K mainGlobals "_law_tape" = some (some (.ref f__law_tape)))
    (g__law_tape : FnT K "_law_tape" "_law_tape" s__law_tape f__law_tape)
    (a__law_next : PySem.W.nsIn K mainGlobals "_law_next" = some (some (.ref f__law_next)))
    (g__law_next : FnT K "_law_next" "_law_next" s__law_next f__law_next)
    (a__law_items : PySem.W.nsIn K mainGlobals "_law_items" = some (some (.ref f__law_items)))
    (g__law_items : FnT K "_law_items" "_law_items" s__law_items f__law_items)
    (a__law_made : PySem.W.nsIn K mainGlobals "_law_made" = some (some (.ref f__law_made)))
    (g__law_made : FnT K "_law_made" "_law_made" s__law_made f__law_made)
    (a__law_facts : PySem.W.nsIn K mainGlobals "_law_facts" = some (some (.ref f__law_facts)))
    (g__law_facts : FnT K "_law_facts" "_law_facts" s__law_facts f__law_facts)
    (a__law_drawn : PySem.W.nsIn K mainGlobals "_law_drawn" = some (some (.ref f__law_drawn)))
    (g__law_drawn : FnT K "_law_drawn" "_law_drawn" s__law_drawn f__law_drawn)
    (a__law_told : PySem.W.nsIn K mainGlobals "_law_told" = some (some (.ref f__law_told)))
    (g__law_told : FnT K "_law_told" "_law_told" s__law_told f__law_told)
    (a__law_orders : PySem.W.nsIn K mainGlobals "_law_orders" = some (some (.ref f__law_orders)))
    (g__law_orders : FnT K "_law_orders" "_law_orders" s__law_orders f__law_orders)
    (a__law_every : PySem.W.nsIn K mainGlobals "_law_every" = some (some (.ref f__law_every)))
    (g__law_every : FnT K "_law_every" "_law_every" s__law_every f__law_every)
    (a__law_due : PySem.W.nsIn K mainGlobals "_law_due" = some (some (.ref f__law_due)))
    (g__law_due : FnT K "_law_due" "_law_due" s__law_due f__law_due)
    (a__law_right : PySem.W.nsIn K mainGlobals "_law_right" = some (some (.ref f__law_right)))
    (g__law_right : FnT K "_law_right" "_law_right" s__law_right f__law_right)
    (a_law : PySem.W.nsIn K mainGlobals "law" = some (some (.ref f_law)))
    (g_law : FnT K "law" "law" s_law f_law)
    (a_Record : PySem.W.nsIn K mainGlobals "Record" = some (some (.ref c_Record)))
    (a_Inserted : PySem.W.nsIn K mainGlobals "Inserted" = some (some (.ref c_Inserted)))
    (a_Removed : PySem.W.nsIn K mainGlobals "Removed" = some (some (.ref c_Removed)))
    (a_Fronted : PySem.W.nsIn K mainGlobals "Fronted" = some (some (.ref c_Fronted)))
    (a_NoList : PySem.W.nsIn K mainGlobals "NoList" = some (some (.ref c_NoList)))
    (a_NoItem : PySem.W.nsIn K mainGlobals "NoItem" = some (some (.ref c_NoItem)))
    (a_LogError : PySem.W.nsIn K mainGlobals "LogError" = some (some (.ref c_LogError)))
    (mk_Record : PySem.W.makesIn K c_Record = true)
    (in_Record : PySem.W.findIn K (.ref c_Record) "__init__" = some (some (.ref m_Record___init__)))
    (fi_Record : PySem.W.isFn K (.ref m_Record___init__) = true)
    (kc_Record : PySem.W.keepIn K (.ref c_Record) = true)
    (g_Record___init__ : FnT K "__init__" "Record.__init__" s_Record___init__ m_Record___init__)
    (pg_Record : PySem.W.plainGet K c_Record Str.empty = true)
    (hd_Record : PySem.W.hasDictIn K c_Record = true)
    (po_Record : PySem.W.plainOver K c_Record = true)
    (sa_Record : PySem.W.findIn K (.ref c_Record) "__setattr__" = some (some (.builtin "object.__setattr__")))
    (na_Record_item : PySem.W.findIn K (.ref c_Record) "_item" = some none)
    (na_Record_slot : PySem.W.findIn K (.ref c_Record) "_slot" = some none)
    (mk_Inserted : PySem.W.makesIn K c_Inserted = true)
    (in_Inserted : PySem.W.findIn K (.ref c_Inserted) "__init__" = some (some (.ref m_Record___init__)))
    (fi_Inserted : PySem.W.isFn K (.ref m_Record___init__) = true)
    (kc_Inserted : PySem.W.keepIn K (.ref c_Inserted) = true)
    (pg_Inserted : PySem.W.plainGet K c_Inserted Str.empty = true)
    (hd_Inserted : PySem.W.hasDictIn K c_Inserted = true)
    (po_Inserted : PySem.W.plainOver K c_Inserted = true)
    (sa_Inserted : PySem.W.findIn K (.ref c_Inserted) "__setattr__" = some (some (.builtin "object.__setattr__")))
    (na_Inserted_item : PySem.W.findIn K (.ref c_Inserted) "_item" = some none)
    (na_Inserted_slot : PySem.W.findIn K (.ref c_Inserted) "_slot" = some none)
    (mk_Removed : PySem.W.makesIn K c_Removed = true)
    (in_Removed : PySem.W.findIn K (.ref c_Removed) "__init__" = some (some (.ref m_Record___init__)))
    (fi_Removed : PySem.W.isFn K (.ref m_Record___init__) = true)
    (kc_Removed : PySem.W.keepIn K (.ref c_Removed) = true)
    (pg_Removed : PySem.W.plainGet K c_Removed Str.empty = true)
    (hd_Removed : PySem.W.hasDictIn K c_Removed = true)
    (po_Removed : PySem.W.plainOver K c_Removed = true)
    (sa_Removed : PySem.W.findIn K (.ref c_Removed) "__setattr__" = some (some (.builtin "object.__setattr__")))
    (na_Removed_item : PySem.W.findIn K (.ref c_Removed) "_item" = some none)
    (na_Removed_slot : PySem.W.findIn K (.ref c_Removed) "_slot" = some none)
    (mk_Fronted : PySem.W.makesIn K c_Fronted = true)
    (in_Fronted : PySem.W.findIn K (.ref c_Fronted) "__init__" = some (some (.ref m_Record___init__)))
    (fi_Fronted : PySem.W.isFn K (.ref m_Record___init__) = true)
    (kc_Fronted : PySem.W.keepIn K (.ref c_Fronted) = true)
    (pg_Fronted : PySem.W.plainGet K c_Fronted Str.empty = true)
    (hd_Fronted : PySem.W.hasDictIn K c_Fronted = true)
    (po_Fronted : PySem.W.plainOver K c_Fronted = true)
    (sa_Fronted : PySem.W.findIn K (.ref c_Fronted) "__setattr__" = some (some (.builtin "object.__setattr__")))
    (na_Fronted_item : PySem.W.findIn K (.ref c_Fronted) "_item" = some none)
    (na_Fronted_slot : PySem.W.findIn K (.ref c_Fronted) "_slot" = some none)
    (me_Record_move_to : PySem.W.findIn K (.ref c_Record) "move_to" = some (some (.ref m_Record_move_to)))
    (mf_Record_move_to : PySem.W.isFn K (.ref m_Record_move_to) = true)
    (mq_Record_move_to : PySem.W.keepIn K (.ref m_Record_move_to) = true)
    (g_Record_move_to : FnT K "move_to" "Record.move_to" s_Record_move_to m_Record_move_to)
    (me_Inserted_move_to : PySem.W.findIn K (.ref c_Inserted) "move_to" = some (some (.ref m_Record_move_to)))
    (mf_Inserted_move_to : PySem.W.isFn K (.ref m_Record_move_to) = true)
    (mq_Inserted_move_to : PySem.W.keepIn K (.ref m_Record_move_to) = true)
    (me_Removed_move_to : PySem.W.findIn K (.ref c_Removed) "move_to" = some (some (.ref m_Record_move_to)))
    (mf_Removed_move_to : PySem.W.isFn K (.ref m_Record_move_to) = true)
    (mq_Removed_move_to : PySem.W.keepIn K (.ref m_Record_move_to) = true)
    (me_Fronted_move_to : PySem.W.findIn K (.ref c_Fronted) "move_to" = some (some (.ref m_Record_move_to)))
    (mf_Fronted_move_to : PySem.W.isFn K (.ref m_Record_move_to) = true)
    (mq_Fronted_move_to : PySem.W.keepIn K (.ref m_Record_move_to) = true)
    (rd_Record : ∃ mc, ClX.CRead K c_Record mc)
    (rd_Inserted : ∃ mc, ClX.CRead K c_Inserted mc)
    (rd_Fronted : ∃ mc, ClX.CRead K c_Fronted mc)
    (rd_Removed : ∃ mc, ClX.CRead K c_Removed mc)
    (cv_Record_MOST : ∃ mc u, ClX.CRead K c_Record mc ∧ ClX.CVal K c_Record mc "MOST" (.int 60) u)
    (cv_Record_SIGN : ∃ mc u, ClX.CRead K c_Record mc ∧ ClX.CVal K c_Record mc "SIGN" (.str "") u)
    (cv_Inserted_SIGN : ∃ mc u, ClX.CRead K c_Inserted mc ∧ ClX.CVal K c_Inserted mc "SIGN" (.str "+") u)
    (cv_Removed_SIGN : ∃ mc u, ClX.CRead K c_Removed mc ∧ ClX.CVal K c_Removed mc "SIGN" (.str "-") u)
    (cv_Fronted_SIGN : ∃ mc u, ClX.CRead K c_Fronted mc ∧ ClX.CVal K c_Fronted mc "SIGN" (.str "^") u)
    (iv_Record_SIGN : ∃ u, Con K c_Record "SIGN" (.str "") u)
    (iv_Inserted_SIGN : ∃ u, Con K c_Inserted "SIGN" (.str "+") u)
    (iv_Removed_SIGN : ∃ u, Con K c_Removed "SIGN" (.str "-") u)
    (iv_Fronted_SIGN : ∃ u, Con K c_Fronted "SIGN" (.str "^") u)
    (mc_MOST_LETTERS : ∃ t, PySem.W.nsIn K mainGlobals "MOST_LETTERS" = some (some (.int 8 t)))
    (mc_MOST_ITEMS : ∃ t, PySem.W.nsIn K mainGlobals "MOST_ITEMS" = some (some (.int 60 t)))
    (mc_MOST_IN_LOG : ∃ t, PySem.W.nsIn K mainGlobals "MOST_IN_LOG" = some (some (.int 40 t)))
    (er_NoList : ErrT K c_NoList)
    (er_NoItem : ErrT K c_NoItem)
    (kit_Record_Record : PySem.W.kitOne K (.ref c_Record) (.ref c_Record) = some true)
    (kit_Inserted_Record : PySem.W.kitOne K (.ref c_Inserted) (.ref c_Record) = some true)
    (kit_Removed_Record : PySem.W.kitOne K (.ref c_Removed) (.ref c_Record) = some true)
    (kit_Fronted_Record : PySem.W.kitOne K (.ref c_Fronted) (.ref c_Record) = some true)
    (kit_Inserted_Inserted : PySem.W.kitOne K (.ref c_Inserted) (.ref c_Inserted) = some true)
    (kit_Inserted_Removed : PySem.W.kitOne K (.ref c_Inserted) (.ref c_Removed) = some false)
    (kit_Inserted_Fronted : PySem.W.kitOne K (.ref c_Inserted) (.ref c_Fronted) = some false)
    (kit_Removed_Inserted : PySem.W.kitOne K (.ref c_Removed) (.ref c_Inserted) = some false)
    (kit_Removed_Removed : PySem.W.kitOne K (.ref c_Removed) (.ref c_Removed) = some true)
    (kit_Removed_Fronted : PySem.W.kitOne K (.ref c_Removed) (.ref c_Fronted) = some false)
    (kit_Fronted_Inserted : PySem.W.kitOne K (.ref c_Fronted) (.ref c_Inserted) = some false)
    (kit_Fronted_Removed : PySem.W.kitOne K (.ref c_Fronted) (.ref c_Removed) = some false)
    (kit_Fronted_Fronted : PySem.W.kitOne K (.ref c_Fronted) (.ref c_Fronted) = some true)
    (pr_Record_item : PropOf K c_Record "item" p_Record_item m_Record_item)
    (g_Record_item : FnT K "item" "Record.item" s_Record_item m_Record_item)
    (pr_Record_slot : PropOf K c_Record "slot" p_Record_slot m_Record_slot)
    (g_Record_slot : FnT K "slot" "Record.slot" s_Record_slot m_Record_slot)
    (pr_Inserted_item : PropOf K c_Inserted "item" p_Record_item m_Record_item)
    (pr_Inserted_slot : PropOf K c_Inserted "slot" p_Record_slot m_Record_slot)
    (pr_Removed_item : PropOf K c_Removed "item" p_Record_item m_Record_item)
    (pr_Removed_slot : PropOf K c_Removed "slot" p_Record_slot m_Record_slot)
    (pr_Fronted_item : PropOf K c_Fronted "item" p_Record_item m_Record_item)
    (pr_Fronted_slot : PropOf K c_Fronted "slot" p_Record_slot m_Record_slot)
    (ty_Record : InsT K c_Record)
    (ty_Inserted : InsT K c_Inserted)
    (ty_Removed : InsT K c_Removed)
    (ty_Fronted : InsT K c_Fronted)
    (no_abs : PySem.W.nsIn K mainGlobals "abs" = some none)
    (no_all : PySem.W.nsIn K mainGlobals "all" = some none)
    (no_bool : PySem.W.nsIn K mainGlobals "bool" = some none)
    (no_dict : PySem.W.nsIn K mainGlobals "dict" = some none)
    (no_enumerate : PySem.W.nsIn K mainGlobals "enumerate" = some none)
    (no_int : PySem.W.nsIn K mainGlobals "int" = some none)
    (no_isinstance : PySem.W.nsIn K mainGlobals "isinstance" = some none)
    (no_len : PySem.W.nsIn K mainGlobals "len" = some none)
    (no_list : PySem.W.nsIn K mainGlobals "list" = some none)
    (no_max : PySem.W.nsIn K mainGlobals "max" = some none)
    (no_min : PySem.W.nsIn K mainGlobals "min" = some none)
    (no_property : PySem.W.nsIn K mainGlobals "property" = some none)
    (no_range : PySem.W.nsIn K mainGlobals "range" = some none)
    (no_repr : PySem.W.nsIn K mainGlobals "repr" = some none)
    (no_set : PySem.W.nsIn K mainGlobals "set" = some none)
    (no_str : PySem.W.nsIn K mainGlobals "str" = some none)
    : Txt K mg ⟨f_is_integer, f_is_item, f_is_items, f_check_items, f_check_index, f_record_of, f_has_kind, f_are_records, f_is_log, f_check_log, f_sign_of, f_is_fronted, f_check_known, f_rooms_of, f_shifts_of, f_certificates, f_index_range, f_wrong_items, f_nearest_slot, f_nearest, f__law_tape, f__law_next, f__law_items, f__law_made, f__law_facts, f__law_drawn, f__law_told, f__law_orders, f__law_every, f__law_due, f__law_right, f_law, c_Record, c_Inserted, c_Removed, c_Fronted, c_NoList, c_NoItem, c_LogError, m_Record___init__, m_Record_move_to, m_Record_item, p_Record_item, m_Record_slot, p_Record_slot⟩ :=
  {
    mg_is_integer := PySem.W.mg_of X G a_is_integer
    fn_is_integer := g_is_integer
    mg_is_item := PySem.W.mg_of X G a_is_item
    fn_is_item := g_is_item
    mg_is_items := PySem.W.mg_of X G a_is_items
    fn_is_items := g_is_items
    mg_check_items := PySem.W.mg_of X G a_check_items
    fn_check_items := g_check_items
    mg_check_index := PySem.W.mg_of X G a_check_index
    fn_check_index := g_check_index
    mg_record_of := PySem.W.mg_of X G a_record_of
    fn_record_of := g_record_of
    mg_has_kind := PySem.W.mg_of X G a_has_kind
    fn_has_kind := g_has_kind
    mg_are_records := PySem.W.mg_of X G a_are_records
    fn_are_records := g_are_records
    mg_is_log := PySem.W.mg_of X G a_is_log
    fn_is_log := g_is_log
    mg_check_log := PySem.W.mg_of X G a_check_log
    fn_check_log := g_check_log
    mg_sign_of := PySem.W.mg_of X G a_sign_of
    fn_sign_of := g_sign_of
    mg_is_fronted := PySem.W.mg_of X G a_is_fronted
    fn_is_fronted := g_is_fronted
    mg_check_known := PySem.W.mg_of X G a_check_known
    fn_check_known := g_check_known
    mg_rooms_of := PySem.W.mg_of X G a_rooms_of
    fn_rooms_of := g_rooms_of
    mg_shifts_of := PySem.W.mg_of X G a_shifts_of
    fn_shifts_of := g_shifts_of
    mg_certificates := PySem.W.mg_of X G a_certificates
    fn_certificates := g_certificates
    mg_index_range := PySem.W.mg_of X G a_index_range
    fn_index_range := g_index_range
    mg_wrong_items := PySem.W.mg_of X G a_wrong_items
    fn_wrong_items := g_wrong_items
    mg_nearest_slot := PySem.W.mg_of X G a_nearest_slot
    fn_nearest_slot := g_nearest_slot
    mg_nearest := PySem.W.mg_of X G a_nearest
    fn_nearest := g_nearest
    mg__law_tape := PySem.W.mg_of X G a__law_tape
    fn__law_tape := g__law_tape
    mg__law_next := PySem.W.mg_of X G a__law_next
    fn__law_next := g__law_next
    mg__law_items := PySem.W.mg_of X G a__law_items
    fn__law_items := g__law_items
    mg__law_made := PySem.W.mg_of X G a__law_made
    fn__law_made := g__law_made
    mg__law_facts := PySem.W.mg_of X G a__law_facts
    fn__law_facts := g__law_facts
    mg__law_drawn := PySem.W.mg_of X G a__law_drawn
    fn__law_drawn := g__law_drawn
    mg__law_told := PySem.W.mg_of X G a__law_told
    fn__law_told := g__law_told
    mg__law_orders := PySem.W.mg_of X G a__law_orders
    fn__law_orders := g__law_orders
    mg__law_every := PySem.W.mg_of X G a__law_every
    fn__law_every := g__law_every
    mg__law_due := PySem.W.mg_of X G a__law_due
    fn__law_due := g__law_due
    mg__law_right := PySem.W.mg_of X G a__law_right
    fn__law_right := g__law_right
    mg_law := PySem.W.mg_of X G a_law
    fn_law := g_law
    mg_Record := PySem.W.mg_of X G a_Record
    mg_Inserted := PySem.W.mg_of X G a_Inserted
    mg_Removed := PySem.W.mg_of X G a_Removed
    mg_Fronted := PySem.W.mg_of X G a_Fronted
    mg_NoList := PySem.W.mg_of X G a_NoList
    mg_NoItem := PySem.W.mg_of X G a_NoItem
    mg_LogError := PySem.W.mg_of X G a_LogError
    mk_Record := ⟨mk_Record, in_Record, fi_Record, kc_Record⟩
    fn_Record___init__ := g_Record___init__
    cl_Record := ⟨pg_Record, hd_Record, po_Record, sa_Record⟩
    na_Record_item := na_Record_item
    na_Record_slot := na_Record_slot
    mk_Inserted := ⟨mk_Inserted, in_Inserted, fi_Inserted, kc_Inserted⟩
    cl_Inserted := ⟨pg_Inserted, hd_Inserted, po_Inserted, sa_Inserted⟩
    na_Inserted_item := na_Inserted_item
    na_Inserted_slot := na_Inserted_slot
    mk_Removed := ⟨mk_Removed, in_Removed, fi_Removed, kc_Removed⟩
    cl_Removed := ⟨pg_Removed, hd_Removed, po_Removed, sa_Removed⟩
    na_Removed_item := na_Removed_item
    na_Removed_slot := na_Removed_slot
    mk_Fronted := ⟨mk_Fronted, in_Fronted, fi_Fronted, kc_Fronted⟩
    cl_Fronted := ⟨pg_Fronted, hd_Fronted, po_Fronted, sa_Fronted⟩
    na_Fronted_item := na_Fronted_item
    na_Fronted_slot := na_Fronted_slot
    me_Record_move_to := ⟨me_Record_move_to, mf_Record_move_to, mq_Record_move_to⟩
    fn_Record_move_to := g_Record_move_to
    me_Inserted_move_to := ⟨me_Inserted_move_to, mf_Inserted_move_to, mq_Inserted_move_to⟩
    me_Removed_move_to := ⟨me_Removed_move_to, mf_Removed_move_to, mq_Removed_move_to⟩
    me_Fronted_move_to := ⟨me_Fronted_move_to, mf_Fronted_move_to, mq_Fronted_move_to⟩
    cv_Record_MOST := cv_Record_MOST
    cv_Record_SIGN := cv_Record_SIGN
    cv_Inserted_SIGN := cv_Inserted_SIGN
    cv_Removed_SIGN := cv_Removed_SIGN
    cv_Fronted_SIGN := cv_Fronted_SIGN
    iv_Record_SIGN := iv_Record_SIGN
    iv_Inserted_SIGN := iv_Inserted_SIGN
    iv_Removed_SIGN := iv_Removed_SIGN
    iv_Fronted_SIGN := iv_Fronted_SIGN
    mg_MOST_LETTERS := let ⟨t, h⟩ := mc_MOST_LETTERS; ⟨t, PySem.W.mg_of X G h⟩
    mg_MOST_ITEMS := let ⟨t, h⟩ := mc_MOST_ITEMS; ⟨t, PySem.W.mg_of X G h⟩
    mg_MOST_IN_LOG := let ⟨t, h⟩ := mc_MOST_IN_LOG; ⟨t, PySem.W.mg_of X G h⟩
    er_NoList := er_NoList
    er_NoItem := er_NoItem
    kit_Record_Record := kit_Record_Record
    kit_Inserted_Record := kit_Inserted_Record
    kit_Removed_Record := kit_Removed_Record
    kit_Fronted_Record := kit_Fronted_Record
    kit_Inserted_Inserted := kit_Inserted_Inserted
    kit_Inserted_Removed := kit_Inserted_Removed
    kit_Inserted_Fronted := kit_Inserted_Fronted
    kit_Removed_Inserted := kit_Removed_Inserted
    kit_Removed_Removed := kit_Removed_Removed
    kit_Removed_Fronted := kit_Removed_Fronted
    kit_Fronted_Inserted := kit_Fronted_Inserted
    kit_Fronted_Removed := kit_Fronted_Removed
    kit_Fronted_Fronted := kit_Fronted_Fronted
    pr_Record_item := pr_Record_item
    fn_Record_item := g_Record_item
    pr_Record_slot := pr_Record_slot
    fn_Record_slot := g_Record_slot
    pr_Inserted_item := pr_Inserted_item
    pr_Inserted_slot := pr_Inserted_slot
    pr_Removed_item := pr_Removed_item
    pr_Removed_slot := pr_Removed_slot
    pr_Fronted_item := pr_Fronted_item
    pr_Fronted_slot := pr_Fronted_slot
    ty_Record := ty_Record
    ty_Inserted := ty_Inserted
    ty_Removed := ty_Removed
    ty_Fronted := ty_Fronted
    no_abs := PySem.W.mg_none_of X G no_abs
    no_all := PySem.W.mg_none_of X G no_all
    no_bool := PySem.W.mg_none_of X G no_bool
    no_dict := PySem.W.mg_none_of X G no_dict
    no_enumerate := PySem.W.mg_none_of X G no_enumerate
    no_int := PySem.W.mg_none_of X G no_int
    no_isinstance := PySem.W.mg_none_of X G no_isinstance
    no_len := PySem.W.mg_none_of X G no_len
    no_list := PySem.W.mg_none_of X G no_list
    no_max := PySem.W.mg_none_of X G no_max
    no_min := PySem.W.mg_none_of X G no_min
    no_property := PySem.W.mg_none_of X G no_property
    no_range := PySem.W.mg_none_of X G no_range
    no_repr := PySem.W.mg_none_of X G no_repr
    no_set := PySem.W.mg_none_of X G no_set
    no_str := PySem.W.mg_none_of X G no_str }

end Own

open PySem PySem.W PyProof.Rows in
set_option maxRecDepth 100000 in
set_option maxHeartbeats 0 in
theorem PySem.Challenge.cw_indexlogs_k44_wrong_and_nearest_by_all_o_holds : PySem.Challenge.rw_indexlogs_k44_wrong_and_nearest_by_all_o.Holds := by
  w_on; o_law; k_head; (case hw => w_witness2)
  k_fill
  refine L2.walkG (l := PySem.Challenge.rw_indexlogs_k44_wrong_and_nearest_by_all_o) (n := 63) (k := 10) (sp := Own.spLaw) rfl (by decide) rfl ⟨rfl, by decide, by decide⟩ (fun w h Y => PySem.W.kIn_of Y) ?F fun K H a ns hl hS => ⟨a, ns, rfl, hS, hl, fun _ => rfl⟩
  case F =>
    intro w mg fa h KX G hmg
    refine' Own.done (Own.txt_mk KX G ?a_is_integer ?g_is_integer ?a_is_item ?g_is_item ?a_is_items ?g_is_items ?a_check_items ?g_check_items ?a_check_index ?g_check_index ?a_record_of ?g_record_of ?a_has_kind ?g_has_kind ?a_are_records ?g_are_records ?a_is_log ?g_is_log ?a_check_log ?g_check_log ?a_sign_of ?g_sign_of ?a_is_fronted ?g_is_fronted ?a_check_known ?g_check_known ?a_rooms_of ?g_rooms_of ?a_shifts_of ?g_shifts_of ?a_certificates ?g_certificates ?a_index_range ?g_index_range ?a_wrong_items ?g_wrong_items ?a_nearest_slot ?g_nearest_slot ?a_nearest ?g_nearest ?a__law_tape ?g__law_tape ?a__law_next ?g__law_next ?a__law_items ?g__law_items ?a__law_made ?g__law_made ?a__law_facts ?g__law_facts ?a__law_drawn ?g__law_drawn ?a__law_told ?g__law_told ?a__law_orders ?g__law_orders ?a__law_every ?g__law_every ?a__law_due ?g__law_due ?a__law_right ?g__law_right ?a_law ?g_law ?a_Record ?a_Inserted ?a_Removed ?a_Fronted ?a_NoList ?a_NoItem ?a_LogError ?mk_Record ?in_Record ?fi_Record ?kc_Record ?g_Record___init__ ?pg_Record ?hd_Record ?po_Record ?sa_Record ?na_Record_item ?na_Record_slot ?mk_Inserted ?in_Inserted ?fi_Inserted ?kc_Inserted ?pg_Inserted ?hd_Inserted ?po_Inserted ?sa_Inserted ?na_Inserted_item ?na_Inserted_slot ?mk_Removed ?in_Removed ?fi_Removed ?kc_Removed ?pg_Removed ?hd_Removed ?po_Removed ?sa_Removed ?na_Removed_item ?na_Removed_slot ?mk_Fronted ?in_Fronted ?fi_Fronted ?kc_Fronted ?pg_Fronted ?hd_Fronted ?po_Fronted ?sa_Fronted ?na_Fronted_item ?na_Fronted_slot ?me_Record_move_to ?mf_Record_move_to ?mq_Record_move_to ?g_Record_move_to ?me_Inserted_move_to ?mf_Inserted_move_to ?mq_Inserted_move_to ?me_Removed_move_to ?mf_Removed_move_to ?mq_Removed_move_to ?me_Fronted_move_to ?mf_Fronted_move_to ?mq_Fronted_move_to ?rd_Record ?rd_Inserted ?rd_Fronted ?rd_Removed ?cv_Record_MOST ?cv_Record_SIGN ?cv_Inserted_SIGN ?cv_Removed_SIGN ?cv_Fronted_SIGN ?iv_Record_SIGN ?iv_Inserted_SIGN ?iv_Removed_SIGN ?iv_Fronted_SIGN ?mc_MOST_LETTERS ?mc_MOST_ITEMS ?mc_MOST_IN_LOG ?er_NoList ?er_NoItem ?kit_Record_Record ?kit_Inserted_Record ?kit_Removed_Record ?kit_Fronted_Record ?kit_Inserted_Inserted ?kit_Inserted_Removed ?kit_Inserted_Fronted ?kit_Removed_Inserted ?kit_Removed_Removed ?kit_Removed_Fronted ?kit_Fronted_Inserted ?kit_Fronted_Removed ?kit_Fronted_Fronted ?pr_Record_item ?g_Record_item ?pr_Record_slot ?g_Record_slot ?pr_Inserted_item ?pr_Inserted_slot ?pr_Removed_item ?pr_Removed_slot ?pr_Fronted_item ?pr_Fronted_slot ?ty_Record ?ty_Inserted ?ty_Removed ?ty_Fronted ?no_abs ?no_all ?no_bool ?no_dict ?no_enumerate ?no_int ?no_isinstance ?no_len ?no_list ?no_max ?no_min ?no_property ?no_range ?no_repr ?no_set ?no_str) hmg
    (case a_is_integer => k_is)
    (case g_is_integer => (refine' L2.fnT_mk ?l ?c ?k; (case l => k_is); (case c => k_is); (case k => k_is)))
    (case a_is_item => k_is)
    (case g_is_item => (refine' L2.fnT_mk ?l ?c ?k; (case l => k_is); (case c => k_is); (case k => k_is)))
    (case a_is_items => k_is)
    (case g_is_items => (refine' L2.fnT_mk ?l ?c ?k; (case l => k_is); (case c => k_is); (case k => k_is)))
    (case a_check_items => k_is)
    (case g_check_items => (refine' L2.fnT_mk ?l ?c ?k; (case l => k_is); (case c => k_is); (case k => k_is)))
    (case a_check_index => k_is)
    (case g_check_index => (refine' L2.fnT_mk ?l ?c ?k; (case l => k_is); (case c => k_is); (case k => k_is)))
    (case a_record_of => k_is)
    (case g_record_of => (refine' L2.fnT_mk ?l ?c ?k; (case l => k_is); (case c => k_is); (case k => k_is)))
    (case a_has_kind => k_is)
    (case g_has_kind => (refine' L2.fnT_mk ?l ?c ?k; (case l => k_is); (case c => k_is); (case k => k_is)))
    (case a_are_records => k_is)
    (case g_are_records => (refine' L2.fnT_mk ?l ?c ?k; (case l => k_is); (case c => k_is); (case k => k_is)))
    (case a_is_log => k_is)
    (case g_is_log => (refine' L2.fnT_mk ?l ?c ?k; (case l => k_is); (case c => k_is); (case k => k_is)))
    (case a_check_log => k_is)
    (case g_check_log => (refine' L2.fnT_mk ?l ?c ?k; (case l => k_is); (case c => k_is); (case k => k_is)))
    (case a_sign_of => k_is)
    (case g_sign_of => (refine' L2.fnT_mk ?l ?c ?k; (case l => k_is); (case c => k_is); (case k => k_is)))
    (case a_is_fronted => k_is)
    (case g_is_fronted => (refine' L2.fnT_mk ?l ?c ?k; (case l => k_is); (case c => k_is); (case k => k_is)))
    (case a_check_known => k_is)
    (case g_check_known => (refine' L2.fnT_mk ?l ?c ?k; (case l => k_is); (case c => k_is); (case k => k_is)))
    (case a_rooms_of => k_is)
    (case g_rooms_of => (refine' L2.fnT_mk ?l ?c ?k; (case l => k_is); (case c => k_is); (case k => k_is)))
    (case a_shifts_of => k_is)
    (case g_shifts_of => (refine' L2.fnT_mk ?l ?c ?k; (case l => k_is); (case c => k_is); (case k => k_is)))
    (case a_certificates => k_is)
    (case g_certificates => (refine' L2.fnT_mk ?l ?c ?k; (case l => k_is); (case c => k_is); (case k => k_is)))
    (case a_index_range => k_is)
    (case g_index_range => (refine' L2.fnT_mk ?l ?c ?k; (case l => k_is); (case c => k_is); (case k => k_is)))
    (case a_wrong_items => k_is)
    (case g_wrong_items => (refine' L2.fnT_mk ?l ?c ?k; (case l => k_is); (case c => k_is); (case k => k_is)))
    (case a_nearest_slot => k_is)
    (case g_nearest_slot => (refine' L2.fnT_mk ?l ?c ?k; (case l => k_is); (case c => k_is); (case k => k_is)))
    (case a_nearest => k_is)
    (case g_nearest => (refine' L2.fnT_mk ?l ?c ?k; (case l => k_is); (case c => k_is); (case k => k_is)))
    (case a__law_tape => k_is)
    (case g__law_tape => (refine' L2.fnT_mk ?l ?c ?k; (case l => k_is); (case c => k_is); (case k => k_is)))
    (case a__law_next => k_is)
    (case g__law_next => (refine' L2.fnT_mk ?l ?c ?k; (case l => k_is); (case c => k_is); (case k => k_is)))
    (case a__law_items => k_is)
    (case g__law_items => (refine' L2.fnT_mk ?l ?c ?k; (case l => k_is); (case c => k_is); (case k => k_is)))
    (case a__law_made => k_is)
    (case g__law_made => (refine' L2.fnT_mk ?l ?c ?k; (case l => k_is); (case c => k_is); (case k => k_is)))
    (case a__law_facts => k_is)
    (case g__law_facts => (refine' L2.fnT_mk ?l ?c ?k; (case l => k_is); (case c => k_is); (case k => k_is)))
    (case a__law_drawn => k_is)
    (case g__law_drawn => (refine' L2.fnT_mk ?l ?c ?k; (case l => k_is); (case c => k_is); (case k => k_is)))
    (case a__law_told => k_is)
    (case g__law_told => (refine' L2.fnT_mk ?l ?c ?k; (case l => k_is); (case c => k_is); (case k => k_is)))
    (case a__law_orders => k_is)
    (case g__law_orders => (refine' L2.fnT_mk ?l ?c ?k; (case l => k_is); (case c => k_is); (case k => k_is)))
    (case a__law_every => k_is)
    (case g__law_every => (refine' L2.fnT_mk ?l ?c ?k; (case l => k_is); (case c => k_is); (case k => k_is)))
    (case a__law_due => k_is)
    (case g__law_due => (refine' L2.fnT_mk ?l ?c ?k; (case l => k_is); (case c => k_is); (case k => k_is)))
    (case a__law_right => k_is)
    (case g__law_right => (refine' L2.fnT_mk ?l ?c ?k; (case l => k_is); (case c => k_is); (case k => k_is)))
    (case a_law => k_is)
    (case g_law => (refine' L2.fnT_mk ?l ?c ?k; (case l => k_is); (case c => k_is); (case k => k_is)))
    (case a_Record => k_is)
    (case a_Inserted => k_is)
    (case a_Removed => k_is)
    (case a_Fronted => k_is)
    (case a_NoList => k_is)
    (case a_NoItem => k_is)
    (case a_LogError => k_is)
    (case mk_Record => k_is)
    (case in_Record => k_is)
    (case fi_Record => k_is)
    (case kc_Record => k_is)
    (case g_Record___init__ => (refine' L2.fnT_mk ?l ?c ?k; (case l => k_is); (case c => k_is); (case k => k_is)))
    (case pg_Record => k_is)
    (case hd_Record => k_is)
    (case po_Record => k_is)
    (case sa_Record => k_is)
    (case na_Record_item => k_is)
    (case na_Record_slot => k_is)
    (case mk_Inserted => k_is)
    (case in_Inserted => k_is)
    (case fi_Inserted => k_is)
    (case kc_Inserted => k_is)
    (case pg_Inserted => k_is)
    (case hd_Inserted => k_is)
    (case po_Inserted => k_is)
    (case sa_Inserted => k_is)
    (case na_Inserted_item => k_is)
    (case na_Inserted_slot => k_is)
    (case mk_Removed => k_is)
    (case in_Removed => k_is)
    (case fi_Removed => k_is)
    (case kc_Removed => k_is)
    (case pg_Removed => k_is)
    (case hd_Removed => k_is)
    (case po_Removed => k_is)
    (case sa_Removed => k_is)
    (case na_Removed_item => k_is)
    (case na_Removed_slot => k_is)
    (case mk_Fronted => k_is)
    (case in_Fronted => k_is)
    (case fi_Fronted => k_is)
    (case kc_Fronted => k_is)
    (case pg_Fronted => k_is)
    (case hd_Fronted => k_is)
    (case po_Fronted => k_is)
    (case sa_Fronted => k_is)
    (case na_Fronted_item => k_is)
    (case na_Fronted_slot => k_is)
    (case me_Record_move_to => k_is)
    (case mf_Record_move_to => k_is)
    (case mq_Record_move_to => k_is)
    (case g_Record_move_to => (refine' L2.fnT_mk ?l ?c ?k; (case l => k_is); (case c => k_is); (case k => k_is)))
    (case me_Inserted_move_to => k_is)
    (case mf_Inserted_move_to => k_is)
    (case mq_Inserted_move_to => k_is)
    (case me_Removed_move_to => k_is)
    (case mf_Removed_move_to => k_is)
    (case mq_Removed_move_to => k_is)
    (case me_Fronted_move_to => k_is)
    (case mf_Fronted_move_to => k_is)
    (case mq_Fronted_move_to => k_is)
    (case rd_Record => (refine' ⟨.type "type", ⟨?r, ?s⟩⟩; (case r => k_is); (case s => k_is)))
    (case rd_Inserted => (refine' ⟨.type "type", ⟨?r, ?s⟩⟩; (case r => k_is); (case s => k_is)))
    (case rd_Fronted => (refine' ⟨.type "type", ⟨?r, ?s⟩⟩; (case r => k_is); (case s => k_is)))
    (case rd_Removed => (refine' ⟨.type "type", ⟨?r, ?s⟩⟩; (case r => k_is); (case s => k_is)))
    (case cv_Record_MOST => (refine' ⟨.type "type", _, ⟨?r, ?s⟩, ⟨?t, ?v⟩⟩; (case r => k_is); (case s => k_is); (case t => k_is); (case v => first | rfl | exact ⟨_, rfl⟩)))
    (case cv_Record_SIGN => (refine' ⟨.type "type", _, ⟨?r, ?s⟩, ⟨?t, ?v⟩⟩; (case r => k_is); (case s => k_is); (case t => k_is); (case v => first | rfl | exact ⟨_, rfl⟩)))
    (case cv_Inserted_SIGN => (refine' ⟨.type "type", _, ⟨?r, ?s⟩, ⟨?t, ?v⟩⟩; (case r => k_is); (case s => k_is); (case t => k_is); (case v => first | rfl | exact ⟨_, rfl⟩)))
    (case cv_Removed_SIGN => (refine' ⟨.type "type", _, ⟨?r, ?s⟩, ⟨?t, ?v⟩⟩; (case r => k_is); (case s => k_is); (case t => k_is); (case v => first | rfl | exact ⟨_, rfl⟩)))
    (case cv_Fronted_SIGN => (refine' ⟨.type "type", _, ⟨?r, ?s⟩, ⟨?t, ?v⟩⟩; (case r => k_is); (case s => k_is); (case t => k_is); (case v => first | rfl | exact ⟨_, rfl⟩)))
    (case iv_Record_SIGN => (refine' ⟨_, ⟨?t, ?v, ?g, ?w⟩⟩; (case t => k_is); (case v => first | rfl | exact ⟨_, rfl⟩); (case g => first | k_is | rfl | decide +kernel); (case w => first | rfl | decide +kernel)))
    (case iv_Inserted_SIGN => (refine' ⟨_, ⟨?t, ?v, ?g, ?w⟩⟩; (case t => k_is); (case v => first | rfl | exact ⟨_, rfl⟩); (case g => first | k_is | rfl | decide +kernel); (case w => first | rfl | decide +kernel)))
    (case iv_Removed_SIGN => (refine' ⟨_, ⟨?t, ?v, ?g, ?w⟩⟩; (case t => k_is); (case v => first | rfl | exact ⟨_, rfl⟩); (case g => first | k_is | rfl | decide +kernel); (case w => first | rfl | decide +kernel)))
    (case iv_Fronted_SIGN => (refine' ⟨_, ⟨?t, ?v, ?g, ?w⟩⟩; (case t => k_is); (case v => first | rfl | exact ⟨_, rfl⟩); (case g => first | k_is | rfl | decide +kernel); (case w => first | rfl | decide +kernel)))
    (case mc_MOST_LETTERS => (refine' L2.gconst_mk ?t ?r; (case t => k_is); (case r => exact ⟨_, rfl⟩)))
    (case mc_MOST_ITEMS => (refine' L2.gconst_mk ?t ?r; (case t => k_is); (case r => exact ⟨_, rfl⟩)))
    (case mc_MOST_IN_LOG => (refine' L2.gconst_mk ?t ?r; (case t => k_is); (case r => exact ⟨_, rfl⟩)))
    (case er_NoList => (refine' ⟨?a, ?b, ?c, ?d⟩; (case a => first | k_exc | k_is | decide +kernel | kernel_rfl); (case b => k_is); (case c => k_is); (case d => k_is)))
    (case er_NoItem => (refine' ⟨?a, ?b, ?c, ?d⟩; (case a => first | k_exc | k_is | decide +kernel | kernel_rfl); (case b => k_is); (case c => k_is); (case d => k_is)))
    (case kit_Record_Record => (refine' L2.kit_ref ?a ?b ?c ?d; (case a => k_is); (case b => k_is); (case c => k_is); (case d => first | exact fun _ => rfl | exact fun z => absurd (Value.ref.inj z) (by decide) | exact fun z => by cases z)))
    (case kit_Inserted_Record => (refine' L2.kit_ref ?a ?b ?c ?d; (case a => k_is); (case b => k_is); (case c => k_is); (case d => first | exact fun _ => rfl | exact fun z => absurd (Value.ref.inj z) (by decide) | exact fun z => by cases z)))
    (case kit_Removed_Record => (refine' L2.kit_ref ?a ?b ?c ?d; (case a => k_is); (case b => k_is); (case c => k_is); (case d => first | exact fun _ => rfl | exact fun z => absurd (Value.ref.inj z) (by decide) | exact fun z => by cases z)))
    (case kit_Fronted_Record => (refine' L2.kit_ref ?a ?b ?c ?d; (case a => k_is); (case b => k_is); (case c => k_is); (case d => first | exact fun _ => rfl | exact fun z => absurd (Value.ref.inj z) (by decide) | exact fun z => by cases z)))
    (case kit_Inserted_Inserted => (refine' L2.kit_ref ?a ?b ?c ?d; (case a => k_is); (case b => k_is); (case c => k_is); (case d => first | exact fun _ => rfl | exact fun z => absurd (Value.ref.inj z) (by decide) | exact fun z => by cases z)))
    (case kit_Inserted_Removed => (refine' L2.kit_ref ?a ?b ?c ?d; (case a => k_is); (case b => k_is); (case c => k_is); (case d => first | exact fun _ => rfl | exact fun z => absurd (Value.ref.inj z) (by decide) | exact fun z => by cases z)))
    (case kit_Inserted_Fronted => (refine' L2.kit_ref ?a ?b ?c ?d; (case a => k_is); (case b => k_is); (case c => k_is); (case d => first | exact fun _ => rfl | exact fun z => absurd (Value.ref.inj z) (by decide) | exact fun z => by cases z)))
    (case kit_Removed_Inserted => (refine' L2.kit_ref ?a ?b ?c ?d; (case a => k_is); (case b => k_is); (case c => k_is); (case d => first | exact fun _ => rfl | exact fun z => absurd (Value.ref.inj z) (by decide) | exact fun z => by cases z)))
    (case kit_Removed_Removed => (refine' L2.kit_ref ?a ?b ?c ?d; (case a => k_is); (case b => k_is); (case c => k_is); (case d => first | exact fun _ => rfl | exact fun z => absurd (Value.ref.inj z) (by decide) | exact fun z => by cases z)))
    (case kit_Removed_Fronted => (refine' L2.kit_ref ?a ?b ?c ?d; (case a => k_is); (case b => k_is); (case c => k_is); (case d => first | exact fun _ => rfl | exact fun z => absurd (Value.ref.inj z) (by decide) | exact fun z => by cases z)))
    (case kit_Fronted_Inserted => (refine' L2.kit_ref ?a ?b ?c ?d; (case a => k_is); (case b => k_is); (case c => k_is); (case d => first | exact fun _ => rfl | exact fun z => absurd (Value.ref.inj z) (by decide) | exact fun z => by cases z)))
    (case kit_Fronted_Removed => (refine' L2.kit_ref ?a ?b ?c ?d; (case a => k_is); (case b => k_is); (case c => k_is); (case d => first | exact fun _ => rfl | exact fun z => absurd (Value.ref.inj z) (by decide) | exact fun z => by cases z)))
    (case kit_Fronted_Fronted => (refine' L2.kit_ref ?a ?b ?c ?d; (case a => k_is); (case b => k_is); (case c => k_is); (case d => first | exact fun _ => rfl | exact fun z => absurd (Value.ref.inj z) (by decide) | exact fun z => by cases z)))
    (case pr_Record_item => (refine' L2.propOf_mk ?pa ?pb ?pc ?pd; (case pa => k_is); (case pb => k_is); (case pc => k_is); (case pd => k_is)))
    (case g_Record_item => (refine' L2.fnT_mk ?l ?c ?k; (case l => k_is); (case c => k_is); (case k => k_is)))
    (case pr_Record_slot => (refine' L2.propOf_mk ?pa ?pb ?pc ?pd; (case pa => k_is); (case pb => k_is); (case pc => k_is); (case pd => k_is)))
    (case g_Record_slot => (refine' L2.fnT_mk ?l ?c ?k; (case l => k_is); (case c => k_is); (case k => k_is)))
    (case pr_Inserted_item => (refine' L2.propOf_mk ?pa ?pb ?pc ?pd; (case pa => k_is); (case pb => k_is); (case pc => k_is); (case pd => k_is)))
    (case pr_Inserted_slot => (refine' L2.propOf_mk ?pa ?pb ?pc ?pd; (case pa => k_is); (case pb => k_is); (case pc => k_is); (case pd => k_is)))
    (case pr_Removed_item => (refine' L2.propOf_mk ?pa ?pb ?pc ?pd; (case pa => k_is); (case pb => k_is); (case pc => k_is); (case pd => k_is)))
    (case pr_Removed_slot => (refine' L2.propOf_mk ?pa ?pb ?pc ?pd; (case pa => k_is); (case pb => k_is); (case pc => k_is); (case pd => k_is)))
    (case pr_Fronted_item => (refine' L2.propOf_mk ?pa ?pb ?pc ?pd; (case pa => k_is); (case pb => k_is); (case pc => k_is); (case pd => k_is)))
    (case pr_Fronted_slot => (refine' L2.propOf_mk ?pa ?pb ?pc ?pd; (case pa => k_is); (case pb => k_is); (case pc => k_is); (case pd => k_is)))
    (case ty_Record => (refine' ⟨?a, ?b, ?c, ?d⟩; (case a => k_is); (case b => k_is); (case c => k_is); (case d => k_is)))
    (case ty_Inserted => (refine' ⟨?a, ?b, ?c, ?d⟩; (case a => k_is); (case b => k_is); (case c => k_is); (case d => k_is)))
    (case ty_Removed => (refine' ⟨?a, ?b, ?c, ?d⟩; (case a => k_is); (case b => k_is); (case c => k_is); (case d => k_is)))
    (case ty_Fronted => (refine' ⟨?a, ?b, ?c, ?d⟩; (case a => k_is); (case b => k_is); (case c => k_is); (case d => k_is)))
    (case no_abs => k_is)
    (case no_all => k_is)
    (case no_bool => k_is)
    (case no_dict => k_is)
    (case no_enumerate => k_is)
    (case no_int => k_is)
    (case no_isinstance => k_is)
    (case no_len => k_is)
    (case no_list => k_is)
    (case no_max => k_is)
    (case no_min => k_is)
    (case no_property => k_is)
    (case no_range => k_is)
    (case no_repr => k_is)
    (case no_set => k_is)
    (case no_str => k_is)
