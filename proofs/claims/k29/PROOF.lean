import PyProof.Rows.All
import Wide.All
import OpenK.AllK
import Wide.FinOn
import HandS.ForMost
import HandS.Wide
import HandS.IsInst
import HandS.ClsMeth
import HandS.Property
import HandS.FStr
import HandS.Defaults
import HandS.MakeKw
import HandS.MakeKwOnly
import HandS.Style
import HandS.StrMore
import PyProof.ReprRoads
import HandS.ForExc
import HandS.ExcIs
import HandS.ExcField
import HandS.ExcInit
import HandS.ExcValue
import HandS.Set
import HandS.Strs
import HandS.Zip
import HandS.SetBool
import HandS.DictComp
import HandS.Walk
import HandS.Dict
import KE.DataEq
import HandS.Conv
import PySem.Challenge.RW_indexlogs_k29_ranges_of_indices
set_option Elab.async false
set_option linter.all false
set_option maxRecDepth 100000
set_option maxHeartbeats 4000000
/-! Own layer: more rules over the hand layer. -/
namespace L2
open ClX
open PySem PySem.Spec PyProof.Rows

/-! ### operators of more than one kind -/
section
variable {X : Cx}
def rAddX : R2 := fun x y H Q => rI0 (fun i j => .int (i + j)) x y H Q ∨ (∃ i j, x = .str i ∧ y = .str j ∧ i.length + j.length ≤ sizeLine ∧ Q (.str (i ++ j)) H) ∨ rCat x y H Q
theorem op_addX : OpR X (binaryOp .Add) rAddX := op_add.or (op_add_str.or op_cat)
def rMulX : R2 := fun x y H Q => rI CMulW (fun i j => .int (i * j)) x y H Q ∨ rRep x y H Q
theorem op_mulX : OpR X (binaryOp .Mult) rMulX := op_mulW.or op_rep
def CPowW (i j : Int) : Prop := 0 ≤ j ∧ j ≤ 1000 ∧ i.natAbs.log2 < 2000
theorem op_powX : OpR X (binaryOp .Pow) (rI CPowW fun i j => .int (i ^ j.toNat)) := opI fun i j _ _ _ _ _ hc q => by
  obtain ⟨h0, h1, h2⟩ := hc
  have b : Builtin.Int.intBits i ≤ 2000 := by
    unfold Builtin.Int.intBits
    split <;> omega
  refine pow_int h0 ?_ q
  have hh : Builtin.Int.intBits i * j.toNat ≤ 2000 * 1000 := Nat.mul_le_mul b (by omega)
  have : ((Builtin.Int.intBits i : Nat) : Int) * j = ((Builtin.Int.intBits i * j.toNat : Nat) : Int) := by
    rw [Int.natCast_mul, Int.toNat_of_nonneg h0]
  rw [this]
  omega
theorem cpow {i j : Int} {b : Nat} (h0 : 0 ≤ j) (h1 : j ≤ 1000) (hb : i.natAbs < 2 ^ b) (hp : 0 < b) (h : b ≤ 2000) : CPowW i j :=
  ⟨h0, h1, Nat.lt_of_lt_of_le (PySem.Flt.log2_lt_of hp hb) h⟩
def rFdivX : R2 := rI CDivW fun i j => .int (i / j)
theorem op_fdivX : OpR X (binaryOp .FloorDiv) rFdivX := op_fdivW
/-- scalars, or data of any depth -/
def rEqX (K : PySem.W.Frag) : R2 := fun x y H Q => rEq x y H Q ∨ rEqD K x y H Q
def rNeX (K : PySem.W.Frag) : R2 := fun x y H Q => rNe x y H Q ∨ rNeD K x y H Q
theorem op_eqX {k : Nat} (hr : Room k X.A) : OpR X (compareOp .Eq) (rEqX X.K) := op_eq.or (op_eqD hr.units)
theorem op_neX {k : Nat} (hr : Room k X.A) : OpR X (compareOp .NotEq) (rNeX X.K) := op_ne.or (op_neD hr.units)
end
section
variable {σ : St} {H : Hp} {Q : VK} {i j : Int} {x y : Str}
theorem addI (h : Q (.int (i + j)) H) : rAddX (.int i) (.int j) H Q := .inl ⟨i, j, rfl, rfl, h⟩
theorem addS (h0 : x.length + y.length ≤ sizeLine) (h : Q (.str (x ++ y)) H) : rAddX (.str x) (.str y) H Q := .inr (.inl ⟨x, y, rfl, rfl, h0, h⟩)
theorem mulI (h0 : CMulW i j) (h : Q (.int (i * j)) H) : rMulX (.int i) (.int j) H Q := .inl ⟨i, j, rfl, rfl, h0, h⟩
theorem eqS {K : PySem.W.Frag} {a b : V} (h0 : scal a b = true) (h : Q (.bl (decide (a = b))) H) : rEqX K a b H Q := .inl ⟨h0, h⟩
theorem neS {K : PySem.W.Frag} {a b : V} (h0 : scal a b = true) (h : Q (.bl (!decide (a = b))) H) : rNeX K a b H Q := .inl ⟨h0, h⟩
end

/-! ### names of the module, constants of a class -/
section
variable {X : Cx} {x f : Str} {pos : Pos} {i : Int} {t : Tok}
theorem pe_globC (hm : ∃ t, X.mg x = some (.int i t)) (hg : Gl X x := by rfl) (hd : (x == ("__debug__" : Str)) = false := by decide) : PE X (.Name x pos) (tC (.int i)) := by
  obtain ⟨t, hm⟩ := hm
  exact pe_glob hg hm ⟨_, rfl⟩ hd
/-- C.f, the class by its name, a constant of the class -/
theorem pe_clsv {C : Addr} {v : V} {e : Expr} (c : ∃ mc u, CRead X.K C mc ∧ CVal X.K C mc f v u) (he : PE X e (tC (.ref C))) (hab : attributeBase e f X.env (eval e X.env) = eval e X.env := by rfl) :
    PE X (.Attribute e f pos) (tC v) := by
  refine ⟨fun pins s σ H Q I h => (pe_cval (pos := pos) he hab).run pins s σ H Q I ?_⟩
  obtain ⟨mc, u, c1, c2⟩ := c
  exact ⟨C, mc, v, u, rfl, c1, c2, h⟩
end

/-! ### o.m(.., k = v) -/
def tMethK (C : Addr) (m : Str) (sp : Sp) (gV : List V → List V → List V) (E : XK) (ta : TE) (t tk : TA) : TE := fun σ H Q => ta σ H fun x H1 => ∃ a dx fs, x = .ref a ∧ H1 a = some (.ins C dx fs) ∧ fs.lookup m = none ∧
  t σ H1 fun vs H2 => tk σ H2 fun zs H3 => sp (gV (x :: vs) zs) H3 Q E
section
variable {X : Cx} {CX : CXT} {k : Nat} {f C : Addr} {fd : FuncData} {ps ks : List Str} {sp : Sp} {E : XK} {m : Str} {pos apos : Pos} {o : Expr} {kws : List Keyword} {ta : TE} {t tk : TA} {g : List Value → List Value → List Value} {gV : List V → List V → List V}
theorem pe_methK0 {pl : Sem Bool} (he : PE X o ta) (c : Cls X.K C) (hm : Meth X.K C m f) (F : FnOk X.prog X.w X.K X.mg X.base CX k f fd ps sp) (hr : Room k X.A) (hb : KBinds X.K fd ps ks g gV) (hx : Passes CX X E)
    (hkw : PK X kws tk) (hall : (backToKw pos (keywordEach kws X.env)).all (·.1.isSome) = true := by rfl) (hks : (backToKw pos (keywordEach kws X.env)).filterMap (·.1) = ks := by rfl)
    (hpl : ((backTo pos (starEach [] X.env)).any (·.1) || (backToKw pos (keywordEach kws X.env)).any (·.1.isNone)) = false := by rfl)
    (ht : eval (.Call (.Attribute o m apos) [] kws pos) X.env = (do
      let ov ← eval o X.env
      standAt apos.atName
      let (f, first) ← holding [ov] (getMethod ov m pl)
      callWith pos f first (backTo pos (starEach [] X.env)) (backToKw pos (keywordEach kws X.env))) := by rfl) :
    PE X (.Call (.Attribute o m apos) [] kws pos) (tMethK C m sp gV E ta tNil tk) := by
  refine ⟨fun pins s σ H Q I h => ?_⟩
  refine PySem.W.methodCall_KW (pl := pl) (thn (he.run pins s σ H _ I h) fun u s1 ⟨x, H1, I1, rx, a, dx, fs, ex, ea, l, q⟩ => ?_) ht
  subst ex
  obtain rfl : u = Value.ref a := rx
  refine getmeth_ok I1 ea c hm l ?_
  refine PySem.W.callWith_KW0 (first := [.ref a]) (h₀ := X.base) I.ok.mod.kin hm.kp hall ?_ hpl
  refine thn (hkw.run pos pins s1 σ H1 _ I1 q) fun ws s2 ⟨zs, H2, I2, rz, q2⟩ => ⟨I2.kIn, ?_⟩
  rw [hks]
  exact run_fnk (us := [.ref a]) (vs := [.ref a]) F hr hb hx I2 (.cons rfl .nil) rz q2
end
section
variable {K : PySem.W.Frag}
/-- how a call by keywords binds (no defaults) -/
theorem Fun.kbinds {x qual : Str} {st : Stmt} {f : Addr} {fd : FuncData} {ps : List Str} (F : Fun K x qual st f fd) (n : Nat) (ks : List Str) (g : {α : Type} → List α → List α → List α) (hlen : ∀ {α : Type} (us ws : List α), (g us ws).length = ps.length → us.length = n ∧ ws.length = ks.length)
    (hrel : ∀ {vs : List V} {us : List Value} {zs : List V} {ws : List Value}, Vals vs us → Vals zs ws → Vals (g vs zs) (g us ws))
    (h : ∀ (kV doc pm : Value) (an : Option Addr) (cdv ct : Value) (us ws : List Value), us.length = n → ws.length = ks.length → bindArgs (PySem.W.fnOf x qual (defArgs st) (defBody st) (defScope st) .none kV doc pm an cdv ct) ⟨us, ks.zip ws⟩ = pure (ps.zip (g us ws))) :
    KBinds K fd ps ks (fun us ws => g us ws) (fun vs zs => g vs zs) := by
  obtain ⟨oc, od, kV, doc, pm, an, cdv, ct, osl, rfl, lk, hcd⟩ := F.ex
  refine ⟨fun s us ws _ hl => .of_eq ?_, hrel⟩
  obtain ⟨h1, h2⟩ := hlen us ws hl
  exact h kV doc pm an cdv ct us ws h1 h2
end
end L2

namespace L2
open ClX
open PySem PySem.Spec PyProof.Rows

/-! ### a def of the text behind the top; its promise, without naming its record -/
structure FnT (K : PySem.W.Frag) (x qual : Str) (st : Stmt) (f : Addr) : Prop where
  ex : ∃ fd, Fun K x qual st f fd
theorem FnT.kp {K : PySem.W.Frag} {x qual : Str} {st : Stmt} {f : Addr} (h : FnT K x qual st f) : PySem.W.keepIn K (.ref f) = true := h.ex.elim fun _ F => F.kp
theorem fnT_mk {K : PySem.W.Frag} {x qual : Str} {st : Stmt} {f : Addr} {oc : Value} {od an : Option Addr} {osl : Array (Option Value)} {kV doc pm cdv ct : Value}
    (l : K.lookup f = some ⟨oc, od, .func (PySem.W.fnOf x qual (defArgs st) (defBody st) (defScope st) .none kV doc pm an cdv ct), osl⟩)
    (c : PySem.W.codeIn K cdv qual = true) (k : PySem.W.keepIn K (.ref f) = true) : FnT K x qual st f := ⟨_, fun_mk l c k⟩
theorem gconst_mk {K : PySem.W.Frag} {x : Str} {u : Value} {n : Int} (h : PySem.W.nsIn K mainGlobals x = some (some u)) (e : ∃ t, u = .int n t) : ∃ t, PySem.W.nsIn K mainGlobals x = some (some (.int n t)) := by
  obtain ⟨t, rfl⟩ := e
  exact ⟨t, h⟩
/-- called by positions -/
structure Ok1 (P : Program) (w : World) (K : PySem.W.Frag) (mg : Str → Option Value) (base : Heap) (k : Nat) (f : Addr) (ps : List Str) (sp : Sp) : Prop where
  ex : ∃ fd, FnOk P w K mg base CX0 k f fd ps sp ∧ Binds K fd ps []
  kp : PySem.W.keepIn K (.ref f) = true
section
variable {P : Program} {w : World} {K : PySem.W.Frag} {mg : Str → Option Value} {base : Heap}
/-- how no defaults bind: for a def of at most six parameters -/
def BindsAll (st : Stmt) (x qual : Str) (ps : List Str) : Prop :=
  ∀ (kV doc pm : Value) (an : Option Addr) (cdv ct : Value) (us : List Value), us.length = ps.length → bindArgs (PySem.W.fnOf x qual (defArgs st) (defBody st) (defScope st) .none kV doc pm an cdv ct) ⟨us, []⟩ = pure (ps.zip us)
theorem FnT.ok {x qual : Str} {st : Stmt} {f : Addr} {N ps : List Str} {k : Nat} {sp : Sp} (h : FnT K x qual st f) (S : FnScope N ps (defScope st)) (hb : BindsAll st x qual ps)
    (len : ∀ vs H Q E, sp vs H Q E → vs.length = ps.length)
    (body : ∀ (cdv : Value) (A : Around) (outer : List Env) (s : Shared) (H : Hp) (vs : List V) (Q : VK) (E : XK), Room k (A.deeper (envOfC qual (defScope st) s.heap.objs.size f cdv)) → sp vs H Q E →
      ∃ t, PSs (cxOf CX0 P w K mg base N qual (defScope st) f cdv A outer s H E).nox (defBody st) t ∧ t { nx := fun _ H' => Q .non H', rt := Q } (start N vs) H) :
    Ok1 P w K mg base (k + 1) f ps sp := by
  obtain ⟨fd, F⟩ := h.ex
  exact ⟨⟨fd, F.ok S len body, F.binds hb⟩, F.kp⟩
theorem Ok1.mono {j k : Nat} {f : Addr} {ps : List Str} {sp : Sp} (h : Ok1 P w K mg base j f ps sp) (le : j ≤ k) : Ok1 P w K mg base k f ps sp := by
  obtain ⟨⟨fd, F, b⟩, kp⟩ := h
  exact ⟨⟨fd, F.mono le, b⟩, kp⟩
theorem Ok1.imp {k : Nat} {f : Addr} {ps : List Str} {sp sp' : Sp} (h : Ok1 P w K mg base k f ps sp) (i : ∀ vs H Q E, sp' vs H Q E → sp vs H Q E) : Ok1 P w K mg base k f ps sp' := by
  obtain ⟨⟨fd, F, b⟩, kp⟩ := h
  exact ⟨⟨fd, F.imp i, b⟩, kp⟩
end
section
variable {X : Cx} {k : Nat} {f C : Addr} {ps : List Str} {sp : Sp} {x m : Str} {p pos apos : Pos} {e o : Expr} {es : List Expr} {ta : TE} {t : TA}
theorem po_call (G : Ok1 X.prog X.w X.K X.mg X.base k f ps sp) (hr : Room k X.A) (hm : X.mg x = some (.ref f)) (ha : PA X (e :: es) t) (hg : Gl X x := by rfl)
    (hdb : (x == ("__debug__" : Str)) = false := by decide) (he : starEach (e :: es) X.env = (false, eval e X.env) :: starEach es X.env := by rfl) (hpl : (backTo pos (starEach es X.env)).any (·.1) = false := by rfl) :
    PE X (.Call (.Name x p) (e :: es) [] pos) (tCall sp [] E0 t) := by
  obtain ⟨⟨fd, F, b⟩, kp⟩ := G
  exact pe_call F hr hg hm kp b .nil pass0 ha hdb he hpl
theorem po_call0 (G : Ok1 X.prog X.w X.K X.mg X.base k f ps sp) (hr : Room k X.A) (hm : X.mg x = some (.ref f)) (hg : Gl X x := by rfl)
    (hdb : (x == ("__debug__" : Str)) = false := by decide) : PE X (.Call (.Name x p) [] [] pos) (tCall sp [] E0 tNil) := by
  obtain ⟨⟨fd, F, b⟩, kp⟩ := G
  exact pe_call0 F hr hg hm kp b .nil pass0 hdb
theorem po_make (M : Mk X.K C f) (G : Ok1 X.prog X.w X.K X.mg X.base k f ps sp) (hr : Room (k + 1) X.A) (hm : X.mg x = some (.ref C)) (ha : PA X (e :: es) t) (hg : Gl X x := by rfl)
    (hdb : (x == ("__debug__" : Str)) = false := by decide) (he : starEach (e :: es) X.env = (false, eval e X.env) :: starEach es X.env := by rfl) (hpl : (backTo pos (starEach es X.env)).any (·.1) = false := by rfl) :
    PE X (.Call (.Name x p) (e :: es) [] pos) (tMake C sp [] E0 t) := by
  obtain ⟨⟨fd, F, b⟩, kp⟩ := G
  exact pe_make M F hr hg hm b .nil pass0 ha hdb he hpl
theorem po_meth {pl : Sem Bool} (c : Cls X.K C) (hm : Meth X.K C m f) (G : Ok1 X.prog X.w X.K X.mg X.base k f ps sp) (hr : Room k X.A) (he : PE X o ta) (ha : PA X (e :: es) t)
    (hst : starEach (e :: es) X.env = (false, eval e X.env) :: starEach es X.env := by rfl) (hpl : (backTo pos (starEach es X.env)).any (·.1) = false := by rfl)
    (ht : eval (.Call (.Attribute o m apos) (e :: es) [] pos) X.env = (do
      let ov ← eval o X.env
      standAt apos.atName
      let (f, first) ← holding [ov] (getMethod ov m pl)
      callWith pos f first (backTo pos (starEach (e :: es) X.env)) (backToKw pos (keywordEach [] X.env))) := by rfl) :
    PE X (.Call (.Attribute o m apos) (e :: es) [] pos) (tMeth C m sp [] E0 ta t) := by
  obtain ⟨⟨fd, F, b⟩, kp⟩ := G
  exact pe_meth he c hm F hr b .nil pass0 ha hst hpl ht
end

/-! ### promises of defs that show data (repr): nothing is being shown around them -/
structure OkG (P : Program) (w : World) (K : PySem.W.Frag) (mg : Str → Option Value) (base : Heap) (k : Nat) (f : Addr) (ps : List Str) (sp : Sp) : Prop where
  kp : PySem.W.keepIn K (.ref f) = true
  go : ∀ (B : Around) (up : List Env) (s : Shared) (H : Hp) (us : List Value) (vs : List V) (Q : VK), Room k B → B.guards = some [] → Env0 P w K mg base B up s H → Vals vs us → sp vs H Q E0 →
    codeAny (model P w) B (.call (.ref f) ⟨us, []⟩) (CR CX0 up P w H s Q E0) s
section
variable {P : Program} {w : World} {K : PySem.W.Frag} {mg : Str → Option Value} {base : Heap}
theorem Ok1.toG {k : Nat} {f : Addr} {ps : List Str} {sp : Sp} (h : Ok1 P w K mg base k f ps sp) : OkG P w K mg base k f ps sp := by
  obtain ⟨⟨fd, F, b⟩, kp⟩ := h
  refine ⟨kp, fun B up s H us vs Q room _ e0 rv q => ?_⟩
  have n : (us ++ []).length = ps.length := by
    rw [List.append_nil, ← rv.length]
    exact F.len _ _ _ _ q
  have bt := b s us (e0.mod.kin.keeps fun c o z => (e0.bs c o z).1) n
  rw [List.append_nil] at bt
  exact F.run B up s H ⟨us, []⟩ us vs Q E0 room e0 bt rv q
theorem FnT.okG {x qual : Str} {st : Stmt} {f : Addr} {N ps : List Str} {k : Nat} {sp : Sp} (h : FnT K x qual st f) (S : FnScope N ps (defScope st)) (hb : BindsAll st x qual ps)
    (len : ∀ vs H Q E, sp vs H Q E → vs.length = ps.length)
    (body : ∀ (cdv : Value) (A : Around) (outer : List Env) (s : Shared) (H : Hp) (vs : List V) (Q : VK), Room k (A.deeper (envOfC qual (defScope st) s.heap.objs.size f cdv)) → A.guards = some [] → sp vs H Q E0 →
      ∃ t, PSs (cxOf CX0 P w K mg base N qual (defScope st) f cdv A outer s H E0).nox (defBody st) t ∧ t { nx := fun _ H' => Q .non H', rt := Q } (start N vs) H) :
    OkG P w K mg base (k + 1) f ps sp := by
  obtain ⟨fd, F⟩ := h.ex
  have kp := F.kp
  have bd := F.binds hb
  obtain ⟨oc, od, kV, dc, pm, an, cv, ct, sl, rfl, lk, cd⟩ := F.ex
  refine ⟨kp, fun B up s H us vs Q room gd e0 rv q => ?_⟩
  have n := len _ _ _ _ q
  have KH : K.In s.heap := e0.mod.kin.keeps fun c o z => (e0.bs c o z).1
  have noLim : s.heap.NoLimit := e0.mod.nolimit.keeps fun c o z => (e0.bs c o z).1
  have bt := bd s us KH (by rw [List.append_nil, ← rv.length]; exact n)
  rw [List.append_nil] at bt
  refine codeAny_call_function room.depth (KH _ _ lk) rfl S.co S.gen rfl (PySem.W.codeRec_of KH cd) (bt _ _ _ _ ?_)
  refine wpAny_newFunctionEnv_cells S.kind (fun ⟨y, v⟩ hy => ?_) fun en eq s1 ic => ?_
  · exact (S.par y (List.of_mem_zip hy).1).imp id fun z => ⟨z, PySem.W.cellsFrom_some _ _ _ (.inl z)⟩
  · subst eq
    obtain ⟨t, d, r⟩ := body cv B up s H vs Q (room.deeper _) gd q
    have I0 := inv_start (CX := CX0) (P := P) (w := w) (K := K) (mg := mg) (base := base) (E := E0) (cd := cv) (f := f) (qual := qual) S room.hd e0 n rv ic
    refine ⟨noLim.keeps ic.toInCall.keep, codeAny_func (wpAny_mono (d.nox.run [] s1 (start N vs) H _ I0 r) (fun fl s2 z => ?_) fun _ _ z => z)⟩
    cases fl with
    | ret u => obtain ⟨v, σ2, H2, J, rel, fin⟩ := z; exact ⟨v, H2, J.os, J.bare, J.base, J.hok, rel, fin⟩
    | next => obtain ⟨σ2, H2, J, fin⟩ := z; exact ⟨.non, H2, J.os, J.bare, J.base, J.hok, rfl, fin⟩
    | brk => obtain ⟨σ2, H2, J, fin⟩ := z; exact fin.elim
    | cont => obtain ⟨σ2, H2, J, fin⟩ := z; exact fin.elim
end
section
variable {X : Cx} {k : Nat} {f C : Addr} {ps : List Str} {sp : Sp} {x m : Str} {p pos apos : Pos} {e o : Expr} {es : List Expr} {ta : TE} {t : TA}
theorem pg_call (G : OkG X.prog X.w X.K X.mg X.base k f ps sp) (hr : Room k X.A) (gd : X.A.guards = some []) (hm : X.mg x = some (.ref f)) (ha : PA X (e :: es) t) (hg : Gl X x := by rfl)
    (hdb : (x == ("__debug__" : Str)) = false := by decide) (he : starEach (e :: es) X.env = (false, eval e X.env) :: starEach es X.env := by rfl) (hpl : (backTo pos (starEach es X.env)).any (·.1) = false := by rfl) :
    PE X (.Call (.Name x p) (e :: es) [] pos) (tCall sp [] E0 t) := by
  refine ⟨fun pn s σ H Q I h => wpAny_Call_Name_kw (ld_glob I hg hm ?_ hdb)⟩
  refine PySem.W.callWith_K (h₀ := X.base) I.ok.mod.kin G.kp (thn (ha.run pos pn s σ H _ I h) fun us s1 ⟨vs, H1, I1, r, q⟩ => ⟨I1.kIn, ?_⟩) he hpl
  have q1 : sp (vs ++ []) H1 Q E0 := q
  rw [List.append_nil] at q1
  refine wpAny_call (codeAny_mono (G.go X.A X.stack s1 H1 us vs Q hr gd I1.env0 r q1) fun res s2 z => ?_)
  match res, z with
  | .error _, z => exact z.elim
  | .ok (.ret u), z => exact I1.after z
  | .ok .next, z => exact z.elim
  | .ok .brk, z => exact z.elim
  | .ok .cont, z => exact z.elim
end
end L2

namespace L2
open ClX
open PySem PySem.Spec PyProof.Rows

/-! ### repr of data -/
structure Shows (d : PyData) : Prop where
  sh : d.showable = true
  nd : d.hasDict = false
  dp : d.depth ≤ 40
  sz : d.shown.length ≤ sizeLine
def rRepr (K : PySem.W.Frag) : List V → Hp → VK → Prop := fun xs H Q => ∃ x d, xs = [x] ∧ Dp K H x d ∧ Shows d ∧ Q (.str d.shown) H
theorem call_reprD {X : Cx} {k : Nat} (hr : Room k X.A) (gd : X.A.guards = some []) : CallR X (.builtin "repr") (rRepr X.K) := by
  intro pins s σ H xs us Q I r h
  obtain ⟨x, d, rfl, rd, S, q⟩ := h
  obtain ⟨u, rfl, ru⟩ := vals1 r
  have fin : ∀ h' t, (∀ b o, s.heap.get? b = some o → h'.get? b = some o) → ∀ tk, EP X pins σ Q (.str d.shown tk) { s with heap := h', toks := t } := fun h' t keep tk => ⟨.str d.shown, H, I.kept keep, ⟨tk, rfl⟩, q⟩
  have un : X.A.units + (d.depth + 1) < cLine := by
    have := hr.units
    have := S.dp
    omega
  have rds := Dp.reads I d x u rd ru
  cases rd with
  | non => cases ru; exact PySem.P.repr_of_none (fin s.heap _ (fun _ _ z => z) _)
  | bl b => cases ru; exact PySem.P.repr_of_bool (fin s.heap _ (fun _ _ z => z) _)
  | int i =>
    obtain ⟨t, rfl⟩ := ru
    have z := S.sh
    simp only [PyData.showable, decide_eq_true_eq] at z
    exact PySem.P.repr_of_int z (fin s.heap _ (fun _ _ z => z) _)
  | str y =>
    obtain ⟨t, rfl⟩ := ru
    have z := S.sz
    simp only [PyData.shown] at z
    exact PySem.P.repr_of_str (fin s.heap _ (fun _ _ z => z) _) z
  | lst h1 h2 =>
    cases ru
    obtain ⟨as, rd⟩ := rds
    exact repr_of_reads' rd S.sh (PyData.noDict_hsm S.nd) gd un (fun _ _ z => z) (fun h' t tk keep => fin h' tk keep t) S.sz
  | tup h1 h2 =>
    cases ru
    obtain ⟨as, rd⟩ := rds
    exact repr_of_reads' rd S.sh (PyData.noDict_hsm S.nd) gd un (fun _ _ z => z) (fun h' t tk keep => fin h' tk keep t) S.sz
end L2

namespace L2
open ClX
open PySem PySem.Spec PyProof.Rows
/-! ### called with one keyword -/
def glue1 {α : Type} (us ws : List α) : List α := if us.length = 1 ∧ ws.length = 1 then us ++ ws else []
structure OkK (P : Program) (w : World) (K : PySem.W.Frag) (mg : Str → Option Value) (base : Heap) (k : Nat) (f : Addr) (ps : List Str) (kw : Str) (sp : Sp) : Prop where
  ex : ∃ fd, FnOk P w K mg base CX0 k f fd ps sp ∧ KBinds K fd ps [kw] (fun us ws => glue1 us ws) (fun vs zs => glue1 vs zs)
section
variable {P : Program} {w : World} {K : PySem.W.Frag} {mg : Str → Option Value} {base : Heap}
theorem FnT.okK {x qual kw p0 : Str} {st : Stmt} {f : Addr} {N : List Str} {k : Nat} {sp : Sp} (h : FnT K x qual st f) (S : FnScope N [p0, kw] (defScope st))
    (hb : ∀ (kV doc pm : Value) (an : Option Addr) (cdv ct u v : Value), bindArgs (PySem.W.fnOf x qual (defArgs st) (defBody st) (defScope st) .none kV doc pm an cdv ct) ⟨[u], [(kw, v)]⟩ = pure [(p0, u), (kw, v)])
    (len : ∀ vs H Q E, sp vs H Q E → vs.length = 2)
    (body : ∀ (cdv : Value) (A : Around) (outer : List Env) (s : Shared) (H : Hp) (vs : List V) (Q : VK) (E : XK), Room k (A.deeper (envOfC qual (defScope st) s.heap.objs.size f cdv)) → sp vs H Q E →
      ∃ t, PSs (cxOf CX0 P w K mg base N qual (defScope st) f cdv A outer s H E).nox (defBody st) t ∧ t { nx := fun _ H' => Q .non H', rt := Q } (start N vs) H) :
    OkK P w K mg base (k + 1) f [p0, kw] kw sp := by
  obtain ⟨fd, F⟩ := h.ex
  refine ⟨fd, F.ok S len body, F.kbinds 1 [kw] glue1 (fun us ws hl => ?_) (fun r q => ?_) fun kV doc pm an cdv ct us ws h1 h2 => ?_⟩
  · unfold glue1 at hl
    split at hl
    · assumption
    · cases hl
  · unfold glue1
    rw [r.length, q.length]
    split
    · exact r.append q
    · exact .nil
  · match us, h1, ws, h2 with
    | [u], _, [v], _ => exact hb kV doc pm an cdv ct u v
end
section
variable {X : Cx} {k : Nat} {f C : Addr} {ps : List Str} {kw : Str} {sp : Sp} {m : Str} {pos apos : Pos} {o : Expr} {kws : List Keyword} {ta : TE} {tk : TA}
theorem po_methK {pl : Sem Bool} (c : Cls X.K C) (hm : Meth X.K C m f) (G : OkK X.prog X.w X.K X.mg X.base k f ps kw sp) (hr : Room k X.A) (he : PE X o ta)
    (hkw : PK X kws tk) (hall : (backToKw pos (keywordEach kws X.env)).all (·.1.isSome) = true := by rfl) (hks : (backToKw pos (keywordEach kws X.env)).filterMap (·.1) = [kw] := by rfl)
    (hpl : ((backTo pos (starEach [] X.env)).any (·.1) || (backToKw pos (keywordEach kws X.env)).any (·.1.isNone)) = false := by rfl)
    (ht : eval (.Call (.Attribute o m apos) [] kws pos) X.env = (do
      let ov ← eval o X.env
      standAt apos.atName
      let (f, first) ← holding [ov] (getMethod ov m pl)
      callWith pos f first (backTo pos (starEach [] X.env)) (backToKw pos (keywordEach kws X.env))) := by rfl) :
    PE X (.Call (.Attribute o m apos) [] kws pos) (tMethK C m sp (fun vs zs => glue1 vs zs) E0 ta tNil tk) := by
  obtain ⟨fd, F, b⟩ := G.ex
  exact pe_methK0 he c hm F hr b pass0 hkw hall hks hpl ht
end

/-- a statement, then the rest, with a word of one's own between them -/
def tMid (t u : TS) : TS := fun D σ H => ∃ M : St → Hp → Prop, t { D with nx := M } σ H ∧ ∀ σ1 H1, M σ1 H1 → u D σ1 H1
theorem pss_mid {X : Cx} {st : Stmt} {more : List Stmt} {t u : TS} (a : PS X st t) (b : PSs X more u) : PSs X (st :: more) (tMid t u) := by
  refine ⟨fun pn s σ H D I ⟨M, h, g⟩ => wpAny_execs_cons (thn (a.run pn s σ H { D with nx := M } I h) fun fl s1 z => ?_)⟩
  match fl, z with
  | .next, ⟨σ1, H1, I1, z⟩ => exact b.run pn s1 σ1 H1 D I1 (g σ1 H1 z)
  | .ret _, z => exact z
  | .brk, z => exact z
  | .cont, z => exact z
/-! ### small steps of readings -/
section
variable {K : PySem.W.Frag} {H : Hp} {Q : VK} {p : Addr} {xs : List V} {i : Int} {v : V} {z : Str} {c : Nat}
theorem ixL (h : H p = some (.lst xs)) (ha : atI xs i = some v) (q : Q v H) : rIx K (.ref p) (.int i) H Q := .inl ⟨p, xs, i, v, rfl, rfl, SqL.of h, ha, q⟩
theorem ixSq (h : SqL K H p xs) (ha : atI xs i = some v) (q : Q v H) : rIx K (.ref p) (.int i) H Q := .inl ⟨p, xs, i, v, rfl, rfl, h, ha, q⟩
theorem ixT (h : H p = some (.tup xs)) (ha : atI xs i = some v) (q : Q v H) : rIx K (.ref p) (.int i) H Q := .inr (.inl ⟨p, xs, i, v, rfl, rfl, SqT.of h, ha, q⟩)
theorem ixS (hz : z.length ≤ sizeLine) (ha : atI z.cps.toList i = some c) (q : Q (.str ⟨#[c]⟩) H) : rIx K (.str z) (.int i) H Q := .inr (.inr ⟨z, i, c, rfl, rfl, hz, ha, q⟩)
theorem setL {Qs : Hp → Prop} {j : Nat} (h : H p = some (.lst xs)) (hj : ixN xs.length i = some j) (q : Qs (upd H p (.lst (xs.set j v)))) : rSetL (.ref p) (.int i) v H Qs := ⟨p, xs, i, j, rfl, rfl, h, hj, q⟩
theorem szS {n : Nat} (h : n ≤ 1000000) : n ≤ sizeLine := Nat.le_trans h (by decide)
theorem isI {c : V} {t u : Value} {b : Bool} {x : V} (hc : ClsV c u) (ht : TyX K H x t) (hk : PySem.W.kitOne K t u = some b) (q : Q (.bl b) H) : rIsi K [x, c] H Q := ⟨x, c, t, u, b, rfl, hc, ht, hk, q⟩
end
/-- all that was tracked is as it was, but at a -/
def But (a : Addr) (H H' : Hp) : Prop := ∀ b o, H b = some o → b ≠ a → H' b = some o
theorem But.refl {a : Addr} {H : Hp} : But a H H := fun _ _ h _ => h
theorem But.trans {a : Addr} {H H1 H2 : Hp} (x : But a H H1) (y : But a H1 H2) : But a H H2 := fun b o h n => y b o (x b o h n) n
theorem But.same {a : Addr} {H H1 : Hp} (x : Same H H1) : But a H H1 := fun b o h _ => x b o h
theorem But.upd {a : Addr} {H : Hp} {o : HO} : But a H (L2.upd H a o) := fun b u h n => by
  rw [upd_ne n]
  exact h
theorem Same.new {H : Hp} {a : Addr} {o : HO} (h : H a = none) : Same H (L2.upd H a o) := fun b u e => by
  rw [upd_ne (ne_of_none e h)]
  exact e
/-- what is new since H0 may change -/
theorem Same.but {H0 H H1 : Hp} {a : Addr} (s : Same H0 H) (h : H0 a = none) (b : But a H H1) : Same H0 H1 := fun c o e => b c o (s c o e) (ne_of_none e h)
end L2

namespace L2
open ClX
open PySem PySem.Spec PyProof.Rows
/-! ### the end, for a law whose defs show data -/
section
variable {P : Program} {w : World} {K : PySem.W.Frag} {mg mb : Str → Option Value} {s1 : Shared} {vs : List Value} {ns : List Int} {a : Addr}
/-- nothing is tracked but the script, unless it is an object of the module -/
def onlyS (K : PySem.W.Frag) (a : Addr) (vs : List Value) (ns : List Int) : Hp := fun b => if b = a ∧ K.lookup a = none then some (.frz { cls := .type "list", data := .seq vs.toArray } (.lst (ns.map V.int))) else none
theorem onlyS_some {b : Addr} {o : HO} (h : onlyS K a vs ns b = some o) : b = a ∧ K.lookup a = none ∧ o = .frz { cls := .type "list", data := .seq vs.toArray } (.lst (ns.map V.int)) := by
  unfold onlyS at h
  split at h
  · rename_i c
    exact ⟨c.1, c.2, (Option.some.inj h).symm⟩
  · cases h
theorem lawG {k : Nat} {fa : Addr} {sp : Sp} (KX : K.In s1.heap) (hg : s1.heap.Ns mainGlobals mg) (hb : s1.heap.Ns builtinsNs mb) (hbb : ∀ x : Str, x ≠ "__name__" → mb x = bootBuiltins x) (hl : s1.heap.NoLimit) (gn : s1.gens = #[])
    (ha : s1.heap.get? a = some { cls := .type "list", data := .seq vs.toArray }) (hi : IntsAre vs ns) (hz : ns.length ≤ sizeLine) (room : Room k callerA)
    (F : ∀ base : Heap, K.In base → base.Ns mainGlobals mg → OkG P w K mg base k fa ["script"] sp) (hsp : ∀ H : Hp, SqL K H a (ns.map V.int) → sp [.ref a] H (fun v _ => v = .bl true) E0) :
    codeAny (model P w) callerA (.call (.ref fa) ⟨[.ref a], []⟩) (fun r s' => r = .ok (.ret (.bool true)) ∧ OldK s1.heap s'.heap ∧ s'.os = s1.os ∧ AllBare s'.gens) s1 := by
  have rel := vals_ints hi
  have len := hi.length
  have H := onlyS K a vs ns
  have hidden : ∀ {b : Addr} {o : Obj}, s1.heap.get? b = some o → onlyS K a vs ns b = none → (hidT s1.heap (onlyS K a vs ns)).get? b = some o := fun z n => hidT_get z n
  have free : ∀ {b : Addr} {o : Obj} {es : Array DictEntry} {n : Nat}, s1.heap.get? b = some o → o.data = .dict es n → onlyS K a vs ns b = none := fun {b o es n} z d => by
    cases q : onlyS K a vs ns b with
    | none => rfl
    | some u =>
      have e := (onlyS_some q).1
      rw [e, ha] at z
      cases z
      cases d
  have names : ∀ {b : Addr} {m : Str → Option Value}, s1.heap.Ns b m → (hidT s1.heap (onlyS K a vs ns)).Ns b m := fun ⟨o, es, n, z, d, r⟩ => ⟨o, es, n, hidden z (free z d), d, r⟩
  have KB : K.In (hidT s1.heap (onlyS K a vs ns)) := fun b o z => hidden (KX b o z) (by
    cases q : onlyS K a vs ns b with
    | none => rfl
    | some u =>
      obtain ⟨e, n, _⟩ := onlyS_some q
      rw [e, n] at z
      cases z)
  have lim : (hidT s1.heap (onlyS K a vs ns)).NoLimit := by
    obtain ⟨m, h1, h2⟩ := hl
    exact ⟨m, names h1, h2⟩
  have hok : HOk P w (onlyS K a vs ns) s1.heap := fun b u q => by
    obtain ⟨e, _, rfl⟩ := onlyS_some q
    subst e
    exact ⟨ha, by rw [List.length_map]; exact hz, vs, _, rel, ha⟩
  have sq : SqL K (onlyS K a vs ns) a (ns.map V.int) := by
    cases q : K.lookup a with
    | none => exact .inl (.inr ⟨_, if_pos ⟨rfl, q⟩⟩)
    | some o =>
      have z := KX a o q
      rw [ha] at z
      cases z
      exact .inr ⟨_, vs.toArray, _, q, rfl, rfl, rfl, by rw [List.size_toArray, len]; exact hz, by simpa using rel⟩
  have none_mem : ∀ b : Addr, b ∉ frs [] := fun b z => by cases z
  have e0 : Env0 P w K mg (hidT s1.heap (onlyS K a vs ns)) callerA [] s1 (onlyS K a vs ns) :=
    { frames := rfl, mod := ⟨KB, names hg, ⟨mb, names hb, hbb⟩, lim⟩, bs := fun b o z => of_hidT z, bsz := Nat.le_of_eq (hidT_size _ _), funs := trivial, frf := fun b z => (none_mem b z).elim, hok := hok, bare := .of_eq gn }
  refine codeAny_mono ((F _ KB (names hg)).go callerA [] s1 (onlyS K a vs ns) [.ref a] [.ref a] _ room rfl e0 (.cons rfl .nil) (hsp _ sq)) fun r s2 z => ?_
  match r, z with
  | .error _, z => exact z.elim
  | .ok .next, z => exact z.elim
  | .ok .brk, z => exact z.elim
  | .ok .cont, z => exact z.elim
  | .ok (.ret u), ⟨v, H2, os, bare, un, hok2, ru, q⟩ =>
    obtain rfl : v = .bl true := q
    obtain rfl : u = Value.bool true := ru
    refine ⟨rfl, OldK.of_keep fun b o z => ?_, os, bare⟩
    cases q : onlyS K a vs ns b with
    | none => exact un.keep b o z q (none_mem b) (none_mem b)
    | some u =>
      obtain ⟨e, _, rfl⟩ := onlyS_some q
      have z2 := (hok2 b _ (un.frzs b _ _ q)).1
      rw [e, ha] at z
      cases z
      exact z2
end
theorem walkG {l : PySem.W.OpenLaw} {n k : Nat} {q : Program} {loose : List Str} {XP : (Str → Option Value) → Heap → Prop} {YP : World → Heap → Prop} {d : DefRec} {K : Params → PySem.W.Frag} {sp : PySem.W.Frag → Sp}
    (hn : l.most = some n) (hn2 : n ≤ sizeLine) (hdf : d.params.defaults = []) (room : Room k callerA) (hY : ∀ (w : World) (h : Heap), YP w h → (K w.params).In h)
    (F : ∀ (w : World) (mg : Str → Option Value) (fa : Addr) (h : Heap), (K w.params).In h → h.Ns mainGlobals mg → mg d.name = some (.ref fa) → ∀ base : Heap, (K w.params).In base → base.Ns mainGlobals mg → OkG l.prog w (K w.params) mg base k fa ["script"] (sp (K w.params)))
    (hsp : ∀ (K : PySem.W.Frag) (H : Hp) (a : Addr) (ns : List Int), ns.length ≤ n → SqL K H a (ns.map V.int) → sp K [.ref a] H (fun v _ => v = .bl true) E0) :
    PySem.W.WalkO q loose XP YP l.row.toRowW d [] (fun f vs => PySem.call f vs) := by
  refine Att.attach_call hn hdf fun w s0 s1 mg mb fa o pm cd doc a vs ns G Y _ _ _ hm ho hi hl hg => ?_
  have KX := hY w _ Y
  exact lawG KX G.T.g G.T.b G.T.builtins G.T.nolimit hg ho hi (Nat.le_trans hl hn2) room (F w mg fa _ KX G.T.g hm) fun H hS => hsp _ H a ns hl hS
end L2

set_option Elab.async false
set_option linter.all false
set_option maxRecDepth 100000
set_option maxHeartbeats 4000000
/-! Own layer: a caught error that is kept behind its except suite. -/
namespace L2
open ClX
open PySem PySem.Spec PyProof.Rows

/-- an error of the class cls, with the dict d, at a -/
def errO (cls : Value) (d : Option Addr) (a : Addr) : HO := .ext fun h => ∃ (oe : Obj) (vs : Array Value), h.get? a = some oe ∧ Zc cls d oe ∧ oe.data = .fields vs
theorem errO_ok {P : Program} {w : World} {H : Hp} {h : Heap} {a : Addr} {cls : Value} {d : Option Addr} {oe : Obj} {vs : Array Value} (e : h.get? a = some oe) (z : Zc cls d oe) (f : oe.data = .fields vs) : ObjOk P w H h a (errO cls d a) :=
  ⟨⟨oe, vs, e, z, f⟩, ⟨oe, e⟩, fun _ _ ⟨o, u, q, r⟩ k => ⟨o, u, k o q, r⟩⟩
/-- the context of an except suite, the error being tracked -/
abbrev Cx.held (X : Cx) (a : Addr) (pn : List (Addr × Obj)) : Cx := { X with A := X.A.mark (some (.ref a)), calm := false, pn := pn, xe := fun _ _ => False }
section
variable {X : Cx} {pins : List (Addr × Obj)} {σ : St} {H : Hp} {sI s' s : Shared} {B : Heap}
theorem Cx.Ok.held (ok : X.Ok) (a : Addr) (pn : List (Addr × Obj)) : (X.held a pn).Ok :=
  { mod := ok.mod, kind := ok.kind, glob := ok.glob, blt := ok.blt, above := ok.above, inj := ok.inj, has := ok.has, cab := ok.cab, hd := fun z => (by cases z), frames := ok.frames, stk := ok.stk, exf := ok.exf, bs := ok.bs, bsz := ok.bsz, noex := ok.noex, exfs := ok.exfs, funs := ok.funs, frf := ok.frf }
theorem Inv.held (I : Inv X pins σ H s) (a : Addr) : Inv (X.held a (X.pn ++ pins)) [] σ H s :=
  { ok := I.ok.held _ _, os := I.os, bare := I.bare, base := I.base, loc := I.loc, cell := I.cell, free := I.free, freeC := I.freeC, hok := I.hok, len := I.len,
    pin := fun p hp => I.pin p (by rw [List.append_nil] at hp; exact hp) }
theorem Inv.unheld {a : Addr} {pn : List (Addr × Obj)} (I : Inv (X.held a (X.pn ++ pins)) pn σ H s) (ok : X.Ok) : Inv X pins σ H s :=
  { ok := ok, os := I.os, bare := I.bare, base := I.base, loc := I.loc, cell := I.cell, free := I.free, freeC := I.freeC, hok := I.hok, len := I.len,
    pin := fun p hp => I.pin p (List.mem_append_left _ hp) }
/-- the state that an error leaves on the ground, the error tracked -/
theorem Inv.landedE {a : Addr} {cls : Value} {d : Option Addr} {oe : Obj} {vs : Array Value} (I : Inv X pins σ H sI) (nb : ∀ b o, sI.heap.get? b = some o → b ∉ frs X.stack → B.get? b = some o) (st : B.StaysIn s'.heap)
    (up : sI.heap.UpToSlots s'.heap) (os : s'.os = sI.os) (ag : AllBare s'.gens) (na : H a = none) (nB : B.get? a = none) (nF : a ∉ frs X.stack) (he : s'.heap.get? a = some oe) (hz : Zc cls d oe) (hf : oe.data = .fields vs) :
    Inv X pins σ (upd H a (errO cls d a)) s' := by
  have nI : sI.heap.get? a = none := by
    cases q : sI.heap.get? a with
    | none => rfl
    | some o =>
      have z := nb a o q nF
      rw [nB] at z
      cases z
  have ne : ∀ b o, sI.heap.get? b = some o → b ≠ a := fun b o q z => by
    rw [z, nI] at q
    cases q
  have hok0 : HOk X.prog X.w H s'.heap := HOk.kept (I.inGround nb) st
  have hok : HOk X.prog X.w (upd H a (errO cls d a)) s'.heap := HOk.laidN hok0 (fun _ _ z => z) na (errO_ok he hz hf)
  have keepS : ∀ b o, sI.heap.get? b = some o → b ∉ frs X.stack → s'.heap.get? b = some o := fun b o q n => st b o (nb b o q n)
  have J := I.call (H' := upd H a (errO cls d a)) (h' := s'.heap) (g' := s'.gens) (t' := s'.toks) (d' := s'.drawn) (ch := [])
    { keep := fun b o q _ n _ => keepS b o q n
      slot := fun b o q _ n _ => by
        obtain ⟨_, o1, e1, hnf⟩ := I.stack.mem n
        rw [q] at e1
        cases e1
        exact up b o q hnf
      free := fun b o q n _ => by
        rw [upd_ne (ne b o q)]
        exact n
      there := fun b o q _ => by
        by_cases n : b ∈ frs X.stack
        · obtain ⟨_, o1, e1, hnf⟩ := I.stack.mem n
          rw [q] at e1
          cases e1
          obtain ⟨sl, z⟩ := up b o q hnf
          exact ⟨_, z⟩
        · exact ⟨o, keepS b o q n⟩
      tups := fun b xs q => by
        rw [upd_ne (ne_of_none q na)]
        exact q
      frzs := fun b o u q => by
        rw [upd_ne (ne_of_none q na)]
        exact q
      tbls := fun b ps q => ⟨#[], by rw [upd_ne (ne_of_none q na), q]; simp⟩ } hok ag (fun _ z => nomatch z)
  obtain ⟨a1, a2, a3, a4, a5⟩ := s'
  have e5 : a5 = sI.os := os
  subst e5
  exact J

/-- what the clause wishes of an error of the body: it takes it, and the suite goes on with the error tracked; slot i is the clause's name -/
def wKept (K : PySem.W.Frag) (c : Value) (i : Nat) (ts : TS) (D : Ends) : WX := fun cls d σ H => PySem.W.exmOne K cls c = some true ∧ ∀ a, H a = none →
  ts ⟨fun σ1 H1 => D.nx (σ1.set i none) H1, D.rt, fun σ1 H1 => D.bk (σ1.set i none) H1, fun σ1 H1 => D.ct (σ1.set i none) H1⟩ (σ.set i (some (.ref a))) (upd H a (errO cls d a))
theorem ps_try_kept {x n : Str} {c : Value} {i : Nat} {body suite : List Stmt} {b0 : Stmt} {np pos pos' : Pos} {tb : WX → TS} {ts : TS}
    (stk : X.stack = X.env :: X.outer) (frm : X.env.frame = some X.env.locals) (hN : X.N.Nodup) (hi : X.N[i]? = some n) (hl : X.env.kindOf n = some .local) (hc : Names X x c)
    (hb : ∀ (W : WX) (pn : List (Addr × Obj)) (xe : Value → Shared → Prop), Takes (X.tr pn xe) W → PassesOwn (model X.prog X.w) X.A X.env xe → PSs (X.tr pn xe) body (tb W))
    (hsu : ∀ (a : Addr) (pn : List (Addr × Obj)), PSs (X.held a pn) (b0 :: suite) ts) :
    PS X (.Try body [.ExceptHandler (some (.Name x np)) (some n) (b0 :: suite) pos'] [] [] pos) (fun D σ H => tb (wKept X.K c i ts D) D σ H) := by
  refine ⟨fun pn s σ H D I h => ?_⟩
  have ok := I.ok
  have fr2 : X.A.frames = some (X.env :: X.outer) := by rw [ok.frames, stk]
  let seen : Value → Shared → Prop := fun e s₁ => wpAny (model X.prog X.w) X.A (noteFrame e X.env) (fun _ s₂ => wpAny (model X.prog X.w) X.A (setFlight e none) (fun _ s₃ =>
    wpAny (model X.prog X.w) X.A (handleBy e X.env [.ExceptHandler (some (.Name x np)) (some n) (b0 :: suite) pos']) (SP X pn D) X.xe s₃) X.xe s₂) X.xe s₁
  have caught : ∀ u s1, XE (X.tr (X.pn ++ pn) seen) (wKept X.K c i ts D) u s1 → seen u s1 := fun u s1 xx => by
    obtain ⟨a, B, sI, pn2, σ1, H1, cls, d, rfl, J0, nb, up, sky, na, os, ag, yes, go⟩ := xx
    have J : Inv X pn σ1 H1 sI := J0.ofTry ok
    have sky1 : Sky B (X.env :: X.outer) a (Zc cls d) X.env.locals s1.heap := by
      rw [← stk]
      exact sky
    show wpAny (model X.prog X.w) X.A (noteFrame (.ref a) X.env) _ _ _
    refine Sky.land Zc.steady fr2 frm sky1 fun h3 fl3 up3 => ?_
    have offF : ∀ {h : Heap} {o : Obj} {vs : Array Value}, h.FunFrames B (X.env :: X.outer) → h.get? a = some o → o.data = .fields vs → a ∉ frs X.stack := fun {h o vs} ff e dd hm => by
      rw [stk] at hm
      obtain ⟨_, o2, e2, hnf⟩ := ff.mem hm
      rw [e] at e2
      cases e2
      exact hnf _ dd
    obtain ⟨oe3, vs3, he3, hz3, hd3⟩ := fl3.there
    have T3 := (J.landedE (s' := { s1 with heap := h3 }) nb fl3.1 (up.trans up3) os ag na fl3.2.1 (offF fl3.2.2.1 he3 hd3) he3 hz3 hd3).held a
    refine wpAny_handleBy_cons (codeAny_handlers_test ?_) (fun z => by cases z)
    have LT : PySem.W.Looks (model X.prog X.w) h3 (typeOf (.ref a)) cls := fun A2 Q2 E2 s2 k2 q2 => wpAny_typeOf_ref (k2 _ _ he3) (by rw [hz3.1]; exact q2)
    have LM := PySem.W.exm_one (M := model X.prog X.w) T3.kIn LT yes
    have look : ∀ {Q2 : Value → Shared → Prop} {E2 : Value → Shared → Prop}, Q2 c { s1 with heap := h3 } → wpAny (model X.prog X.w) (X.A.mark (some (.ref a))) (eval (.Name x np) X.env) Q2 E2 { s1 with heap := h3 } := fun {Q2 E2} q2 => by
      obtain ⟨g1, g2, g3 | ⟨g3, g4, g5⟩⟩ := hc
      · exact ld_glob (X := X.held a (X.pn ++ pn)) T3 g1 g3 q2 g2
      · exact ld_blt (X := X.held a (X.pn ++ pn)) T3 g1 g3 g4 q2 g5 g2
    refine look (LM.here (codeAny_handlers_suite_as ?_))
    refine HandSPX.lands_againZ fl3 fun h4 fl4 up4 => ?_
    obtain ⟨oe4, vs4, he4, hz4, hd4⟩ := fl4.there
    have T4 := (J.landedE (s' := { s1 with heap := h4 }) nb fl4.1 ((up.trans up3).trans up4) os ag na fl4.2.1 (offF fl4.2.2.1 he4 hd4) he4 hz4 hd4).held a
    refine store_ok (X := X.held a (X.pn ++ pn)) (v := .ref a) T4 hN hi (.inl hl) rfl (fun s5 T5 => ?_) (.inr hl)
    refine wpAny_mono ((hsu a (X.pn ++ pn)).run [] s5 _ _ _ T5 (go a na)) (fun fl s6 z => ?_) fun _ _ z => False.elim z
    have fin : ∀ {σ6 : St} {H6 : Hp} {Q6 : Shared → Prop}, Inv (X.held a (X.pn ++ pn)) [] σ6 H6 s6 → (∀ s7, Inv X pn (σ6.set i none) H6 s7 → Q6 s7) →
        wpAny (model X.prog X.w) X.A (do bindName X.env n .none; unbindBehindTheSuite X.env n pos') (fun _ s7 => Q6 s7) X.xe s6 := fun {σ6 H6 Q6} T6 q => gone_ok (T6.unheld ok) hN hi hl q
    match fl, z with
    | .next, ⟨σ6, H6, T6, q⟩ => exact fin T6 fun s7 J7 => ⟨_, _, J7, q⟩
    | .brk, ⟨σ6, H6, T6, q⟩ => exact fin T6 fun s7 J7 => ⟨_, _, J7, q⟩
    | .cont, ⟨σ6, H6, T6, q⟩ => exact fin T6 fun s7 J7 => ⟨_, _, J7, q⟩
    | .ret u, ⟨v, σ6, H6, T6, r6, q⟩ => exact fin T6 fun s7 J7 => ⟨_, _, _, J7, r6, q⟩
  refine wpAny_Try_except (wpAny_mono ((hb (wKept X.K c i ts D) (X.pn ++ pn) seen caught PassesOwn.looking).run [] s σ H D (I.toTry _) h) (fun fl s1 z => ?_) fun _ _ z => z)
  match fl, z with
  | .next, ⟨σ1, H1, J, q⟩ => exact wpAny_execs_nil ⟨σ1, H1, J.ofTry ok, q⟩
  | .brk, ⟨σ1, H1, J, q⟩ => exact ⟨σ1, H1, J.ofTry ok, q⟩
  | .cont, ⟨σ1, H1, J, q⟩ => exact ⟨σ1, H1, J.ofTry ok, q⟩
  | .ret u, ⟨v, σ1, H1, J, r, q⟩ => exact ⟨v, σ1, H1, J.ofTry ok, r, q⟩
end
end L2

set_option Elab.async false
set_option linter.all false
set_option maxRecDepth 100000
set_option maxHeartbeats 4000000
/-! Own layer: a kept error's class and its field. -/
namespace PySem.W
open PySem PySem.Spec PySem.Calls PyProof.Rows
section
variable {prog : Program} {w : World} {A : Around} {E : Value → Shared → Prop} {s : Shared} {K : Frag} {x D : Addr} {ox : Obj} {od : Option Obj}
/-- an error's own __class__, whatever its dict holds -/
theorem err_class {Q : Option Value → Shared → Prop} (fnd : findObj K D od "__class__" = some (.bind (.builtin "getset_descriptor.__get__") (.builtin "object.__class__")))
    (c1 : findIn K (.ref D) "__getattribute__" = some (some (.builtin "BaseException.__getattribute__"))) (c2 : findIn K (.ref D) "__getattr__" = some none) (c3 : subIn K (.ref D) (.type "BaseException") = some true)
    (c4 : mroIn K D (.type "object") = some true) (KX : K.In s.heap) (J : InstAt s.heap x ox D od) (fin : Q (some (.ref D)) { s with toks := s.toks + 1 }) : wpAny (model prog w) A (getAttr? (.ref x) "__class__") Q E s := by
  obtain ⟨hp, gn, dr, tk, os⟩ := s
  have l0 := J.type (M := model prog w)
  have l1 := looks_findIn (M := model prog w) KX c1
  have l2 := looks_findIn (M := model prog w) KX c2
  have l3 := looks_find (M := model prog w) KX J fnd
  have isExc : Looks (model prog w) hp (isInstance (.ref x) (.type "BaseException")) true := l0.andThen (looks_subIn KX c3)
  have b0 : (false && onTheHeap (Value.builtin "BaseException.__getattribute__")) = false := rfl
  have b1 : (Value.builtin "BaseException.__getattribute__" == Value.builtin "object.__getattribute__") = false := by decide +kernel
  have b2 : (onTheHeap (Value.ref D) && Value.builtin "BaseException.__getattribute__" == Value.builtin "object.__getattribute__") = false := by
    rw [b1]
    rfl
  unfold getAttr? getAttrBy? getAttrBy
  refine wpAny_bind (wpAny_mkText (wpAny_bind (wpAny_attempt (wpAny_holding (wpAny_bind (l0.at (wpAny_bind (l1.at ?_))))))))
  show wpAny _ _ (if (onTheHeap (Value.ref D) && Value.builtin "BaseException.__getattribute__" == Value.builtin "object.__getattribute__") = true then _ else _) _ _ _
  rw [b2, if_neg Bool.false_ne_true]
  unfold getAttrByItsOwn hookBefore
  refine wpAny_bind ?_
  rw [if_pos (show onTheHeap (Value.ref D) = true from rfl)]
  refine l2.at (wpAny_bind (wpAny_attempt (wpAny_holding ?_)))
  unfold callGetattribute
  rw [b0, if_neg Bool.false_ne_true]
  unfold boundAndCalled
  rw [PySem.F.excAttr_ValueError.ga.bind (.ref x)]
  refine wpAny_bind (wpAny_pure ?_)
  show wpAny _ _ (call (.builtin "BaseException.__getattribute__") [.ref x, .str "__class__" tk]) _ _ _
  refine wpAny_call (codeAny_call_builtin PySem.F.excAttr_ValueError.ga.plain PySem.F.entry_bexc_ga ?_)
  refine @check_slot (model prog w) _ _ ⟨hp, gn, dr, tk + 1, os⟩ "BaseException.__getattribute__" "BaseException" "__getattribute__" (.ref x) [.str "__class__" tk] [] _ (by decide +kernel) (by decide +kernel) isExc (PySem.F.args_bexc_ga (.ref x) (.str "__class__" tk)) ?_
  unfold Builtin.«object.__getattribute__»
  refine wpAny_bind (wpAny_of_eq (a := ((Value.ref x : Value), [Value.str "__class__" tk])) (by first | rfl | (simp only [slotArgs]; rfl)) ?_)
  refine wpAny_bind (wpAny_pure (wpAny_bind (l0.at (wpAny_bind (l3.at ?_)))))
  show wpAny _ _ (holding [Value.builtin "object.__class__"] (call (.builtin "getset_descriptor.__get__") [.builtin "object.__class__", .ref x, .ref D]) >>= ret) _ _ _
  refine wpAny_bind (wpAny_holding (wpAny_call (class_get (s := ⟨hp, gn, dr, tk + 1, os⟩) (ox := ox) (od := od) KX J c4 ?_)))
  refine wpAny_pure ?_
  show wpAny _ _ (handedOut (.ref D)) _ _ _
  rw [handedOut_of (v := .ref D) rfl]
  first
    | exact wpAny_pure (wpAny_pure fin)
    | exact wpAny_pure fin
    | exact wpAny_pure (wpAny_bind (wpAny_pure (wpAny_pure fin)))
end
end PySem.W
namespace L2
open ClX
open PySem PySem.Spec PyProof.Rows
section
variable {X : Cx} {pins : List (Addr × Obj)} {σ : St} {H : Hp} {s : Shared}
theorem err_find {K : PySem.W.Frag} {D : Addr} (T : ExcC K D) (od : Option Obj) : PySem.W.findObj K D od "__class__" = some (.bind (.builtin "getset_descriptor.__get__") (.builtin "object.__class__")) := by
  have hc : (PySem.W.clsIn K D).isSome = true := by
    obtain ⟨cd, h, _⟩ := PySem.W.any_some T.hd
    rw [h]
    rfl
  cases od with
  | none => exact PySem.W.findObj_dataN hc T.ha T.hn T.ht
  | some o => exact PySem.W.findObj_data hc T.ha T.hn T.ht
/-- what an error's object is -/
theorem err_inst (I : Inv X pins σ H s) {D a : Addr} {d : Option Addr} (h : H a = some (errO (.ref D) d a)) (hd : ∀ dd, d = some dd → ∃ fs, H dd = some (.xd fs)) : ∃ (ox : Obj) (od : Option Obj), PySem.W.InstAt s.heap a ox D od ∧
    ∀ dd fs, d = some dd → H dd = some (.xd fs) → ∀ f v, fs.lookup f = some v → ∃ o u, od = some o ∧ RelV v u ∧ PySem.W.lookIn f o = some (some u) := by
  obtain ⟨⟨oe, vs, e, z, f⟩, _⟩ := I.hok a _ h
  obtain ⟨oc, dd, da, sl⟩ := oe
  obtain ⟨z1, z2⟩ := z
  dsimp only at z1 z2 f
  subst z1 z2 f
  cases dd with
  | none => exact ⟨_, none, ⟨e, rfl, rfl, trivial⟩, fun _ _ q => by cases q⟩
  | some p =>
    obtain ⟨fs0, hp⟩ := hd p rfl
    obtain ⟨mA, hns, hr⟩ := (show ObjOk X.prog X.w H s.heap p (.xd fs0) from I.hok p _ hp)
    obtain ⟨od, ho, hl⟩ := lookIn_ns hns
    refine ⟨_, some od, ⟨e, rfl, rfl, ho⟩, fun q fs1 e1 e2 g v l => ?_⟩
    cases e1
    rw [hp] at e2
    cases e2
    obtain ⟨u, hu, ru⟩ := RelO.some_of (v := v) (o := mA g) (by rw [← l]; exact hr g)
    exact ⟨od, u, rfl, ru, by rw [hl, hu]⟩
/-- isinstance(e, C), isinstance(e, (C, ..)), e a kept error -/
def rIsErr (K : PySem.W.Frag) : List V → Hp → VK → Prop := fun xs H Q => ∃ (a D : Addr) (d : Option Addr) (c : V) (cv : Value) (b : Bool), xs = [.ref a, c] ∧ H a = some (errO (.ref D) d a) ∧ (∀ dd, d = some dd → ∃ fs, H dd = some (.xd fs)) ∧ ExcC K D ∧
  ClsV c cv ∧ PySem.W.kitOne K (.ref D) cv = some b ∧ Q (.bl b) H
def rIsErrT (K : PySem.W.Frag) : List V → Hp → VK → Prop := fun xs H Q => ∃ (a D tp : Addr) (d : Option Addr) (cs : List V) (us : List Value) (b : Bool), xs = [.ref a, .ref tp] ∧ H a = some (errO (.ref D) d a) ∧ (∀ dd, d = some dd → ∃ fs, H dd = some (.xd fs)) ∧ ExcC K D ∧
  H tp = some (.tup cs) ∧ Paired ClsV cs us ∧ PySem.W.kitAny K (.ref D) us = some b ∧ Q (.bl b) H
theorem err_kit {K : PySem.W.Frag} {a D : Addr} {ox : Obj} {od : Option Obj} (T : ExcC K D) : PySem.W.KitX K (.ref a) (.ref D) (fun h => PySem.W.InstAt h a ox D od) where
  ty := fun _ _ _ J => J.type
  it := fun _ _ KX _ => by
    obtain ⟨cd, hc, _⟩ := PySem.W.any_some T.hd
    unfold PySem.W.clsIn at hc
    split at hc
    · rename_i c2 d2 cd2 sl2 ho
      intro A2 Q2 E2 s2 k2 q2
      unfold isType loadHead
      exact wpAny_bind (wpAny_loadPart (k2 _ _ (KX _ _ ho)) (wpAny_pure q2))
    · cases hc
  ne := fun h tp dd its n sl KX htp => by
    obtain ⟨cd, hc, _⟩ := PySem.W.any_some T.hd
    refine Bool.eq_false_iff.mpr fun q => ?_
    obtain rfl : D = tp := Value.ref.inj (beq_iff_eq.mp q)
    unfold PySem.W.clsIn at hc
    split at hc
    · rename_i c2 d2 cd2 sl2 ho
      have z := (KX _ _ ho).symm.trans htp
      cases z
    · cases hc
  ca := fun KX J k => PySem.W.err_class (err_find T od) T.hg T.hk T.hs T.hm KX J k
theorem call_isErr : CallR X (.builtin "isinstance") (rIsErr X.K) := by
  intro pn s σ H xs us Q I r h
  obtain ⟨a, D, d, c, cv, b, rfl, ha, hd, T, hc, e, q⟩ := h
  obtain ⟨u1, u2, rfl, r1, r2⟩ := vals2 r
  cases r1
  have ec := hc.eq r2
  subst ec
  obtain ⟨ox, od, J, _⟩ := err_inst I ha hd
  exact PySem.W.kia_one (err_kit T) I.kIn J e (fun z => nomatch z) fun tk => ⟨.bl b, H, I.kept (t' := tk) fun _ _ z => z, rfl, q⟩
theorem call_isErrT : CallR X (.builtin "isinstance") (rIsErrT X.K) := by
  intro pn s σ H xs us Q I r h
  obtain ⟨a, D, tp, d, cs, ws, b, rfl, ha, hd, T, ht, hc, e, q⟩ := h
  obtain ⟨u1, u2, rfl, r1, r2⟩ := vals2 r
  cases r1
  cases r2
  obtain ⟨ox, od, J, _⟩ := err_inst I ha hd
  obtain ⟨_, its, r3, o, e1, e2, n, e3⟩ := (show ObjOk X.prog X.w H s.heap tp (.tup cs) from I.hok tp _ ht)
  have ew := ClsV.all hc r3
  subst ew
  obtain ⟨o1, o2, o3, o4⟩ := o
  dsimp only at e2 e3
  subst e2 e3
  exact PySem.W.kia_tup (err_kit T) I.kIn J e1 e (fun z => nomatch z) fun tk => ⟨.bl b, H, I.kept (t' := tk) fun _ _ z => z, rfl, q⟩
/-- e.f, e a kept error with a field -/
def tErrF (K : PySem.W.Frag) (f : Str) (te : TE) : TE := fun σ H Q => te σ H fun x H1 => ∃ (a D dd : Addr) (fs : List (Str × V)) (v : V), x = .ref a ∧ H1 a = some (errO (.ref D) (some dd) a) ∧ H1 dd = some (.xd fs) ∧ XfC K D ∧ PySem.W.findIn K (.ref D) f = some none ∧
  fs.lookup f = some v ∧ Q v H1
theorem pe_errF {e : Expr} {te : TE} {f : Str} {pos : Pos} (he : PE X e te) (hb : attributeBase e f X.env (eval e X.env) = eval e X.env := by rfl) : PE X (.Attribute e f pos) (tErrF X.K f te) := by
  refine ⟨fun pn s σ H Q I h => attr_of hb (thn (he.run pn s σ H _ I h) fun u s1 ⟨x, H1, I1, rx, a, D, dd, fs, v, ex, ha, hf, T, no, l, q⟩ => ?_)⟩
  subst ex
  cases rx
  obtain ⟨ox, od, J, g⟩ := err_inst I1 ha (fun d2 z => by cases z; exact ⟨fs, hf⟩)
  obtain ⟨o, u, rfl, ru, lk⟩ := g dd fs rfl hf f v l
  exact HandSPX.exc_get I1.kIn J T.ga T.gg T.exC (PySem.W.findObj_own T.hdC no rfl lk) (handed_of ru) ⟨v, H1, I1.tok _, ru, q⟩
end
end L2

set_option Elab.async false
set_option linter.all false
set_option maxRecDepth 100000
set_option maxHeartbeats 4000000
/-! Own layer: the set of a list of texts, its size. -/
namespace OwnSet
open PySem PySem.Spec PyProof.Rows
/-- the different ones among the first i, in the order in which they are met -/
def met (xs : List Str) : Nat → List Str
  | 0 => []
  | i + 1 => if (met xs i).any (· == xs.getD i Str.empty) then met xs i else met xs i ++ [xs.getD i Str.empty]
theorem met_le (xs : List Str) : ∀ i, (met xs i).length ≤ i
  | 0 => Nat.le_refl _
  | i + 1 => by
    have := met_le xs i
    show (if _ then _ else _ : List Str).length ≤ _
    split
    · omega
    · rw [List.length_append]
      simp
      omega
theorem met_any (xs : List Str) (i : Nat) (k : Str) : (met xs (i + 1)).any (· == k) = ((met xs i).any (· == k) || decide (k = xs.getD i Str.empty)) := by
  show (if _ then _ else _ : List Str).any _ = _
  split
  · rename_i c
    by_cases e : k = xs.getD i Str.empty
    · subst e
      rw [c]
      rfl
    · rw [decide_eq_false e, Bool.or_false]
  · rw [List.any_append]
    congr 1
    simp only [List.any_cons, List.any_nil, Bool.or_false]
    by_cases e : k = xs.getD i Str.empty
    · subst e
      simp
    · rw [decide_eq_false e]
      exact beq_eq_false_iff_ne.mpr fun q => e q.symm
theorem met_len (xs : List Str) (i : Nat) : (met xs (i + 1)).length = if (met xs i).any (· == xs.getD i Str.empty) = true then (met xs i).length else (met xs i).length + 1 := by
  show (if _ then _ else _ : List Str).length = _
  split <;> simp_all
theorem met_mem (xs : List Str) : ∀ i, i ≤ xs.length → ∀ y, y ∈ met xs i ↔ y ∈ xs.take i
  | 0, _, y => by simp [met]
  | i + 1, h, y => by
    have ih := met_mem xs i (by omega) y
    have hx : xs.getD i Str.empty = xs[i] := by simp [List.getD, List.getElem?_eq_getElem (show i < xs.length by omega)]
    have e2 : xs.take (i + 1) = xs.take i ++ [xs[i]] := by
      rw [List.take_add_one, List.getElem?_eq_getElem (show i < xs.length by omega)]
      rfl
    rw [e2, List.mem_append, ← ih]
    show y ∈ (if _ then _ else _ : List Str) ↔ _
    rw [hx]
    split
    · rename_i c
      obtain ⟨z, hz, ez⟩ := List.any_eq_true.mp c
      have ez : z = xs[i] := eq_of_beq ez
      constructor
      · exact .inl
      · rintro (q | q)
        · exact q
        · rw [List.mem_singleton.mp q, ← ez]
          exact hz
    · rw [List.mem_append]
theorem met_full (xs : List Str) : ∀ i, i ≤ xs.length → ((met xs i).length = i ↔ (xs.take i).Nodup)
  | 0, _ => by simp [met]
  | i + 1, h => by
    have ih := met_full xs i (by omega)
    have hm := met_mem xs i (by omega)
    have le := met_le xs i
    have hx : xs.getD i Str.empty = xs[i] := by simp [List.getD, List.getElem?_eq_getElem (show i < xs.length by omega)]
    have e2 : xs.take (i + 1) = xs.take i ++ [xs[i]] := by
      rw [List.take_add_one, List.getElem?_eq_getElem (show i < xs.length by omega)]
      rfl
    rw [e2, met_len, hx]
    have ea : (met xs i).any (· == xs[i]) = true ↔ xs[i] ∈ xs.take i := by
      rw [← hm]
      constructor
      · intro c
        obtain ⟨z, hz, ez⟩ := List.any_eq_true.mp c
        have ez : z = xs[i] := eq_of_beq ez
        rw [← ez]
        exact hz
      · intro c
        exact List.any_eq_true.mpr ⟨_, c, beq_self_eq_true _⟩
    rw [List.nodup_append]
    by_cases c : xs[i] ∈ xs.take i
    · rw [if_pos (ea.mpr c)]
      constructor
      · intro z
        omega
      · intro z
        exact absurd rfl (z.2.2 _ c _ (List.mem_singleton.mpr rfl))
    · rw [if_neg (fun z => c (ea.mp z))]
      constructor
      · intro z
        refine ⟨ih.mp (by omega), by simp, fun y hy z hz q => c ?_⟩
        rw [List.mem_singleton.mp hz] at q
        rw [← q]
        exact hy
      · intro z
        rw [ih.mpr z.1]
theorem met_all (xs : List Str) : decide ((met xs xs.length).length = xs.length) = decide xs.Nodup := by
  have h := met_full xs xs.length (Nat.le_refl _)
  rw [List.take_length] at h
  exact decide_eq_decide.mpr h
section
variable {prog : Program} {w : World} {A : Around} {R : Result → Shared → Prop} {It : Addr} {own wrt : List Addr} {G : Array GenState → Array GenState → Prop} {n : Nat} {P : Nat → Value → Prop} {St : Nat → Shared → Prop}
/-- the loop that fills a set with texts -/
theorem fill (W : WalksS prog w A.in1 It own wrt G n P St) (S : Addr) (free : S ∉ own) (xs : List Str) (each : ∀ i v, P i v → ∃ t, v = .str (xs.getD i Str.empty) t) (small : n + 1 < scanBound) :
    ∀ (k i : Nat) (s : Shared), n - i = k → i ≤ n → St i s → s.heap.SetOf (PySem.strKind prog w) S (fun y => (met xs i).any (· == y)) (met xs i).length →
      (∀ s2, Moved (S :: wrt) G s s2 → s2.heap.SetOf (PySem.strKind prog w) S (fun y => (met xs n).any (· == y)) (met xs n).length → R (.ok (.ret .none)) s2) →
      codeAny (model prog w) A (.builtin "set.update.loop" ⟨[.ref S, .ref It], []⟩) R s := by
  have freeW : S ∉ wrt := fun z => free (W.sub _ z)
  have more : ∀ b ∈ wrt, b ∈ S :: wrt := fun b z => List.mem_cons_of_mem _ z
  have kept : ∀ {s s2 : Shared} {i : Nat}, Moved wrt G s s2 → s.heap.SetOf (PySem.strKind prog w) S (fun y => (met xs i).any (· == y)) (met xs i).length →
      s2.heap.SetOf (PySem.strKind prog w) S (fun y => (met xs i).any (· == y)) (met xs i).length := fun mv ⟨o, es, ep, tb, ho, r⟩ => ⟨o, es, ep, tb, mv.heap S _ freeW ho, r⟩
  intro k
  induction k with
  | zero =>
    intro i s hk hi st hs fin
    obtain rfl : i = n := by omega
    refine codeAny_builtin PyProof.Rows.F.entry_set_update_loop ?_
    rw [Around.under_plainId PyProof.Rows.F.plain_set_update_loop _]
    show wpAny _ A.in1 (pyNext (.ref It) >>= _) _ _ s
    refine wpAny_bind (W.done s _ _ st fun s2 mv => ?_)
    show wpAny _ A.in1 (ret Value.none) _ _ s2
    exact wpAny_pure (fin s2 (mv.mono more) (kept mv hs))
  | succ k ih =>
    intro i s hk hi st hs fin
    have lt : i < n := by omega
    have le := met_le xs i
    refine codeAny_builtin PyProof.Rows.F.entry_set_update_loop ?_
    rw [Around.under_plainId PyProof.Rows.F.plain_set_update_loop _]
    show wpAny _ A.in1 (pyNext (.ref It) >>= _) _ _ s
    refine wpAny_bind (W.item i s _ _ lt st fun v s2 hv st2 mv => ?_)
    obtain ⟨t, rfl⟩ := each i v hv
    show wpAny _ A.in1 (holding [Value.str (xs.getD i Str.empty) t] (setAdd S (.str (xs.getD i Str.empty) t)) >>= _) _ _ s2
    refine wpAny_bind (wpAny_holding ?_)
    unfold setAdd
    refine wpAny_holding (wpAny_bind ((PySem.strKind prog w).pyHash (k := xs.getD i Str.empty) (strKind_is _ _ _ _) ?_))
    have hk2 := kept mv hs
    refine wpAny_setAddHashed_of (knd := PySem.strKind prog w) (s := { s2 with toks := s2.toks + 1 }) (strKind_is _ _ _ _) rfl hk2 (by omega) fun h2 sb hs2 => ?_
    have hs3 : h2.SetOf (PySem.strKind prog w) S (fun y => (met xs (i + 1)).any (· == y)) (met xs (i + 1)).length := SetOf_congr hs2 (fun y => (met_any xs i y).symm) (met_len xs i).symm
    have off : ∀ b, b ≠ S → h2.get? b = s2.heap.get? b := fun b z => sb.2 b z
    refine wpAny_pure ⟨plainId_quiet PyProof.Rows.F.plain_set_update_loop _, ih (i + 1) _ (by omega) lt (W.frame _ s2 _ _ st2 (Nat.le_succ _) fun b z o e => (off b fun q => free (q ▸ z)).trans e) hs3 fun s3 mv3 hs4 => ?_⟩
    exact fin s3 (Moved.trans W.gtrans ((mv.mono more).then_heap (Nat.le_succ _) fun b o z e => (off b fun q => z (q ▸ List.mem_cons_self)).trans e) mv3) hs4
end
section
variable {prog : Program} {w : World} {A : Around} {E : Value → Shared → Prop} {s : Shared}
abbrev newSet (led : Bool) : Obj := { cls := .type "set", dict := none, data := .set #[] 0 (.fresh 0 0 led) }
/-- set(xs), xs a list of texts -/
theorem set_of {l : Addr} {items : Array Value} {xs : List Str} {Q : Value → Shared → Prop} (calm : A.handled = none) (hl : s.heap.IsList l items) (hi : StrsAre items.toList xs) (small : items.size + 1 < scanBound)
    (fin : ∀ (h2 : Heap) (tk : Nat), h2.SetOf (PySem.strKind prog w) s.heap.objs.size (fun y => (met xs items.size).any (· == y)) (met xs items.size).length →
      (∀ b o, b < s.heap.objs.size → s.heap.get? b = some o → h2.get? b = some o) → Q (.ref s.heap.objs.size) { s with heap := h2, toks := tk }) :
    wpAny (model prog w) A (call (.type "set") [.ref l]) Q E s := by
  obtain ⟨c0, tl0, mro0⟩ := PySem.F.called_set.mro
  have made0 := PySem.F.called_set.made
  have sub0 := PySem.F.called_set.sub
  refine wpAny_call (codeAny_of_tree ?_)
  show wpAny _ _ (callAny (.type "set") _) _ _ _
  refine wpAny_pure ⟨Code.quiet_builtin _ (by decide +kernel), codeAny_builtin PySem.F.entry_type_call ?_⟩
  rw [Around.under_plain (weight_type_call_type "set" [.ref l] []) rfl]
  have notT := PySem.F.called_set.notType
  have canC := PySem.F.called_set.canCreate
  have chk := PySem.F.typeCall_set_1 (.ref l)
  repeat (any_goals (first | assumption | wp_step))
  refine codeAny_mono (code_set_new_1 (.ref l) (E := E) (Q₁ := fun ob s1 => ∃ led : Bool, ob = .ref s.heap.objs.size ∧ s1 = { s with heap := s.heap.push (newSet led) }) fun led => ⟨led, rfl, rfl⟩) fun r s1 z => ?_
  match r, z with
  | .error _, z => exact z
  | .ok .next, z => exact z.elim
  | .ok .brk, z => exact z.elim
  | .ok .cont, z => exact z.elim
  | .ok (.ret _), ⟨led, e1, e2⟩ =>
    subst e1 e2
    have at0 : (s.heap.push (newSet led)).get? s.heap.objs.size = some (newSet led) := Heap.get?_push_size _ rfl
    have ty0 : Shared.TypeIs { s with heap := s.heap.push (newSet led) } (.ref s.heap.objs.size) "set" := ⟨_, at0, rfl⟩
    have lk0 := PySem.F.called_set.init.lookup
    have bd0 := PySem.F.called_set.init.bind (.ref s.heap.objs.size)
    repeat (any_goals (first | assumption | wp_step))
    refine codeAny_mono (codeAny_call_builtin (R := wants (fun r s2 => r = .none ∧ ∃ h2 tk, s2 = { s with heap := h2, toks := tk } ∧ h2.SetOf (PySem.strKind prog w) s.heap.objs.size (fun y => (met xs items.size).any (· == y)) (met xs items.size).length ∧
      (∀ b o, b < s.heap.objs.size → s.heap.get? b = some o → h2.get? b = some o)) E) PySem.F.called_set.init.plain PySem.F.entry_set_init (check_set_init_1 ty0 ?_)) fun r2 s2 z2 => ?_
    · obtain ⟨ol, lol, lcl, nl, ldl⟩ := hl
      obtain ⟨oc, od, oda, osl⟩ := ol
      simp only at lcl ldl
      subst lcl
      subst ldl
      have at1 : (s.heap.push (newSet led)).get? l = some { cls := .type "list", dict := od, data := .seq items nl, slots := osl } := Heap.get?_push_of_some _ lol
      have q1 := PySem.F.sub_list_set
      have q2 := PySem.F.sub_list_frozenset
      have q3 : (Value.type "list" == Value.type "dict") = false := by decide
      have isl : (s.heap.push (newSet led)).IsList l items := ⟨_, at1, rfl, nl, rfl⟩
      unfold Builtin.«set.__init__» noKeywords Builtin.Frozenset.updateFrom
      generalize gpi : pyIter = PI
      wp_walk
      subst gpi
      refine wpAny_pyIter_list isl (wpAny_bind (wpAny_runValue ?_))
      have lltS : l < s.heap.objs.size := Heap.lt_size lol
      have calm3 : A.in1.in1.in1.handled = none := by simp [calm]
      have sz1 : (s.heap.push (newSet led)).objs.size = s.heap.objs.size + 1 := Heap.size_push _ _
      have lne : l ≠ (s.heap.push (newSet led)).objs.size := by
        rw [sz1]
        exact Nat.ne_of_lt (Nat.lt_succ_of_lt lltS)
      have frS : s.heap.objs.size ∉ [(s.heap.push (newSet led)).objs.size, l] := by
        rw [sz1]
        simp only [List.mem_cons, List.not_mem_nil, or_false, not_or]
        exact ⟨Nat.ne_of_lt (Nat.lt_succ_self _), Nat.ne_of_gt lltS⟩
      refine fill ((Walks.list calm3 _ l lne items).toS) s.heap.objs.size frS xs (fun i v hv => SS.strs_at hi i v (by rw [Array.getElem?_toList]; exact hv)) small (items.size - 0) 0 _ (by omega) (Nat.zero_le _)
        ⟨⟨_, Heap.get?_push_size _ rfl, rfl, rfl⟩, isl.push _⟩ ?_ ?_
      · have at2 : ((s.heap.push (newSet led)).push { cls := .type "list_iterator", data := .fields #[.ref l, .int 0 0] }).get? s.heap.objs.size = some (newSet led) := Heap.get?_push_of_some _ at0
        exact SetOf_congr ((setObjOf_fresh (knd := PySem.strKind prog w) led).setOf at2 (by unfold scanBound; omega)) (fun _ => rfl) rfl
      · intro s3 mv hs3
        obtain ⟨h3, g3, d3, t3, o3⟩ := s3
        have eg : g3 = s.gens := mv.gens
        have ed : d3 = s.drawn := mv.drawn
        have eo : o3 = s.os := mv.os
        subst eg
        subst ed
        subst eo
        show wpAny _ _ _ _ _ _
        refine wpAny_pure ?_
        show wpAny _ _ (ret Value.none) _ _ _
        refine wpAny_pure ⟨rfl, h3, t3, rfl, hs3, fun b o hb e => mv.heap b o ?_ (Heap.get?_push_of_some _ (Heap.get?_push_of_some _ e))⟩
        rw [sz1]
        simp only [List.mem_cons, List.not_mem_nil, or_false, not_or]
        exact ⟨Nat.ne_of_lt hb, Nat.ne_of_lt (Nat.lt_succ_of_lt hb)⟩
    · match r2, z2 with
      | .error _, z2 => exact z2
      | .ok .next, z2 => exact z2.elim
      | .ok .brk, z2 => exact z2.elim
      | .ok .cont, z2 => exact z2.elim
      | .ok (.ret _), ⟨e1, h2, tk, e2, a1, a2⟩ =>
        subst e1 e2
        repeat (any_goals (first | assumption | wp_step))
        exact fin _ _ a1 a2
end
end OwnSet
namespace L2
open PySem PySem.Spec PyProof.Rows
/-- len(set(xs)), xs a list of texts -/
def tLenSetS (K : PySem.W.Frag) (ta : TE) : TE := fun σ H Q => ta σ H fun x H1 => ∃ (l : Addr) (xs : List Str), x = .ref l ∧ SqL K H1 l (xs.map V.str) ∧ xs.length ≤ 4000 ∧ Q (.int ((OwnSet.met xs xs.length).length : Nat)) H1
theorem pe_lenSetS {X : Cx} {a : Expr} {ta : TE} {p p2 q pos : Pos} (hm : X.mg "len" = none) (hm2 : X.mg "set" = none) (ha : PE X a ta) (hc : X.calm = true := by rfl) (hg : Gl X "len" := by rfl) (hg2 : Gl X "set" := by rfl)
    (na : starEach [a] X.env = (false, eval a X.env) :: starEach [] X.env := by rfl) : PE X (.Call (.Name "len" p) [.Call (.Name "set" p2) [a] [] q] [] pos) (tLenSetS X.K ta) := by
  refine ⟨fun pn s σ H Q I h => Call_ (ld_blt I hg hm boot_len ?_)⟩
  refine callWith_builtin1 (args_cons (Call_ (ld_blt I hg2 hm2 boot_set ?_)) rfl) rfl rfl
  refine callWith_type1 (args_cons (thn (ha.run pn s σ H _ I h) fun v s1 ⟨x, H1, I1, r1, l, xs, ex, hq, hl, q1⟩ => args_nil ?_) na) na rfl
  subst ex
  cases r1
  obtain ⟨its, r, pl, hz⟩ := I1.list hq
  have sz : its.toArray.size = xs.length := by rw [List.size_toArray, ← r.length, List.length_map]
  refine OwnSet.set_of (xs := xs) (I1.ok.hd hc) pl.isList (by simpa using strsAre_of r) (by rw [sz]; unfold scanBound; omega) fun h2 tk hs keep => args_nil ?_
  rw [sz] at hs
  have le := OwnSet.met_le xs xs.length
  obtain ⟨o, es, ep, t, ho, hex, hd, _, _, _, hf, hn⟩ := hs
  have I2 : Inv X pn σ H1 { s1 with heap := h2, toks := tk } := I1.kept fun b o e => keep b o (Heap.lt_size e) e
  exact call_len_set ho hex hd hf (by rw [hn]; omega) ⟨.int _, H1, I2.tok _, ⟨_, by rw [hn]⟩, q1⟩
end L2

set_option Elab.async false
set_option linter.all false
set_option maxRecDepth 100000
set_option maxHeartbeats 4000000
/-! Own errors with one field (after the guide's own page on them). -/
namespace PySem
namespace ImpX
open PySem.W PySem.Calls PyProof.Rows PySem.HandSPX
/-! ### the text of __init__ -/
def iA (p1 p2 : Pos) : Arguments := { posonlyargs := [], args := [{ arg := "self", annotation := none, pos := p1 }, { arg := "reason", annotation := none, pos := p2 }], vararg := none, kwonlyargs := [], kw_defaults := [], kwarg := none, defaults := [] }
def iB (q1 q2 q3 q4 : Pos) : List Stmt := [.Assign [.Attribute (.Name "self" q1) "reason" q2] (.Name "reason" q3) q4]
def iS : Scope := { kind := .function, names := [(PySem.Str.ofString "self", .local), (PySem.Str.ofString "reason", .local)], isGenerator := false, isCoroutine := false, more := [] }
/-- what the written part says of Low, at C, and of its __init__, at fI -/
structure ImpTxt (K : Frag) (mg : Str → Option Value) (C fI : Addr) : Prop where
  gC : mg "Impossible" = some (.ref C)
  cls : ∃ nm q N bs bm sn sub ab col dd k0 k1 k2 k3 k5, K.lookup C = some (excClassObj nm q C N bs bm true sn sub ab col dd k0 k1 k2 k3 k5 "ValueError.__new__") ∧ refsVE bm = true
  sa : findIn K (.ref C) "__setattr__" = some (some (.builtin "object.__setattr__"))
  ga : findIn K (.ref C) "__getattribute__" = some (some (.builtin "BaseException.__getattribute__"))
  gg : findIn K (.ref C) "__getattr__" = some none
  noN : findIn K (.ref C) "reason" = some none
  iC : findIn K (.ref C) "__init__" = some (some (.ref fI))
  tC : typeIn K (.ref fI) = some (.type "function")
  kC : keepIn K (.ref C) = true
  exC : subIn K (.ref C) (.type "BaseException") = some true
  tyC : typeIn K (.ref C) = some (.type "type")
  hdC : hasDictIn K C = true
  te : exmOne K (.ref C) (.ref C) = some true
  fn : ∃ (oc : Value) (od : Option Addr) (doc pm : Value) (an : Option Addr) (cdv ct : Value) (osl : Array (Option Value)) (p1 p2 q1 q2 q3 q4 : Pos),
    K.lookup fI = some ⟨oc, od, .func (fnOf "__init__" "Impossible.__init__" (iA p1 p2) (iB q1 q2 q3 q4) iS .none .none doc pm an cdv ct), osl⟩ ∧ codeIn K cdv "Impossible.__init__" = true
theorem one_size (v : Value) : [v].length ≤ sizeLine := by
  rw [sizeLine_eq]
  exact (by decide : 1 ≤ 16777216)
theorem kept_but {K : Frag} {h h' : Heap} {x : Addr} (X : K.In h) (hx : K.lookup x = none) (k : ∀ b o, b ≠ x → h.get? b = some o → h'.get? b = some o) : K.In h' := fun a o e =>
  k a o (fun z => by rw [z, hx] at e; cases e) (X a o e)
theorem ldC {M : Model} {s : Shared} {name : Str} {scope : Scope} {L a : Addr} {cd : Value} {m : Str → Option Value} {x : Str} {pos : Pos} {v : Value} {Q : Value → Shared → Prop} {A : Around} {E : Value → Shared → Prop} (hn : s.heap.Ns L m) (hv : m x = some v) (h : Q v s)
    (hk : scope.kind = .function := by rfl) (hl : (envOfC name scope L a cd).kindOf x = some .local := by rfl) (hd : (x == ("__debug__" : Str)) = false := by decide) :
    wpAny M A (eval (.Name x pos) (envOfC name scope L a cd)) Q E s := wpAny_Name (wpAny_loadName_local hk hl hn hv h) hd
/-- what __init__ leaves of a fresh exception at x -/
structure InitEnd (h h' : Heap) (x C dx t1 : Addr) (v : Value) : Prop where
  keep : ∀ b o, b ≠ x → h.get? b = some o → h'.get? b = some o
  obj : h'.get? x = some { cls := .ref C, dict := some dx, data := .fields #[.ref t1, .none, .none, .none, .bool false, .none] }
  dbig : h.objs.size ≤ dx
  dne : dx ≠ x
  ns : h'.Ns1 dx (fun y => if y = "reason" then some v else none)
/-- a made Low -/
structure OwnMade (h h' : Heap) (e C d : Addr) (v : Value) : Prop where
  keep : ∀ b o, h.get? b = some o → h'.get? b = some o
  new : h.objs.size ≤ e
  obj : ∃ oe vs, h'.get? e = some oe ∧ oe.cls = .ref C ∧ oe.dict = some d ∧ oe.data = .fields vs ∧ vs[1]? = some .none
  dbig : h.objs.size ≤ d
  dne : d ≠ e
  ns : h'.Ns1 d (fun y => if y = "reason" then some v else none)
section
variable {prog : Program} {w : World} {A : Around} {E : Value → Shared → Prop} {R : Result → Shared → Prop} {s : Shared} {K : Frag} {mg : Str → Option Value} {C fI : Addr}
theorem imp_init (T : ImpTxt K mg C fI) {x t0 : Addr} {v : Value} (X : K.In s.heap) (hlim : s.heap.NoLimit) (hx : s.heap.get? x = some (excO C t0)) (hnx : K.lookup x = none) (hroom : A.depth < recursionLimit)
    (hq : ∀ h' tk dx, InitEnd s.heap h' x C dx t0 v → R (.ok (.ret .none)) { s with heap := h', toks := tk }) :
    codeAny (model prog w) A (.call (.ref fI) ⟨[.ref x, v], []⟩) R s := by
  obtain ⟨oc, od, doc, pm, an, cdv, ct, osl, p1, p2, q1, q2, q3, q4, ho, hcd⟩ := T.fn
  obtain ⟨nm, q, N, bs, bm, sn, sub, ab, col, dd, k0, k1, k2, k3, k5, hC, hbm⟩ := T.cls
  have hcl : clsIn K C = some { name := nm, bases := bs, mro := .ref C :: bm, ns := N, qualname := q, hasDict := true, slotNames := sn, subclasses := sub, abstract := ab, collection := col, hasDel := false } := by unfold clsIn; rw [hC] <;> rfl
  refine Att.call_fn (binds := [("self", .ref x), ("reason", v)]) X hlim ho hcd hroom (BindsTo.of_eq (by first | rfl | with_unfolding_all rfl)) (by first | rfl | decide | with_unfolding_all rfl) (fun s₁ IC => ?_) rfl rfl rfl
  obtain ⟨h₁, tk₁, rfl⟩ := IC.toInCall.same
  have k : ∀ b o, s.heap.get? b = some o → h₁.get? b = some o := IC.toInCall.keep
  have hn := IC.toInCall.ns
  have hxL : s.heap.objs.size ≠ x := Nat.ne_of_gt (Heap.lt_size hx)
  have X₁ : K.In h₁ := X.keeps k
  have hx₁ := k _ _ hx
  -- self.by = by
  show wpAny _ _ (execs _ _) _ _ _
  refine wpAny_execs_cons (plainObj_wpAny_Assign_Attribute ?_)
  refine ldC (v := v) hn (by first | rfl | with_unfolding_all rfl | kernel_rfl) (ldC (v := .ref x) hn (by first | rfl | with_unfolding_all rfl | kernel_rfl) ?_)
  refine set_plain X₁ (ox := excO C t0) (od := none) ⟨hx₁, rfl, rfl, trivial⟩ T.sa ?_
  refine exc_osa X₁ hx₁ hcl (show refsVE (.ref C :: bm) = true from hbm) rfl T.noN (fun h₃ tk₃ dx k₃ dn dne hx₃ hn₃ => ?_)
  show wpAny _ _ (execs _ _) _ _ _
  have z : s.heap.objs.size < h₁.objs.size := hn.lt
  exact wpAny_execs_nil (hq h₃ tk₃ dx ⟨fun b o hb e => k₃ b o hb (k b o e), hx₃, Nat.le_of_lt (Nat.lt_of_lt_of_le z dn), dne, hn₃⟩)
theorem imp_made (T : ImpTxt K mg C fI) {v : Value} (X : K.In s.heap) (hlim : s.heap.NoLimit) (hroom : A.depth + 1 < recursionLimit)
    (hq : ∀ h' tk e d, OwnMade s.heap h' e C d v → R (.ok (.ret (.ref e))) { s with heap := h', toks := tk }) :
    codeAny (model prog w) A (.call (.ref C) ⟨[v], []⟩) R s := by
  obtain ⟨nm, q, N, bs, bm, sn, sub, ab, col, dd, k0, k1, k2, k3, k5, hC, hbm⟩ := T.cls
  obtain ⟨hp, g, dr, tk, os⟩ := s
  have k : ∀ b o, hp.get? b = some o → ((hp.push (kdv_tup [v])).push (excO C hp.objs.size)).get? b = some o := fun b o e => Heap.get?_push_of_some _ (Heap.get?_push_of_some _ e)
  have hget : ((hp.push (kdv_tup [v])).push (excO C hp.objs.size)).get? (hp.objs.size + 1) = some (excO C hp.objs.size) := by heap_get
  have hnx : K.lookup (hp.objs.size + 1) = none := by
    cases e : K.lookup (hp.objs.size + 1) with
    | none => rfl
    | some o =>
      have z : hp.get? (hp.objs.size + 1) = some o := X _ _ e
      exact absurd (Nat.lt_of_succ_lt (Heap.lt_size z)) (Nat.lt_irrefl _)
  refine call_own F.excBase_ValueError (fun X => refsVE_contains X bm hbm) (X _ _ hC) (looks_findIn X T.iC) (fun self => bind_fn X self T.tC) (one_size v) ?_
  refine imp_init (s := ⟨(hp.push (kdv_tup [v])).push (excO C hp.objs.size), g, dr, tk, os⟩) T (X.keeps k) (hlim.keeps k) hget hnx ?_ fun h' tk' dx ⟨k', hx, dn, dne, hns⟩ => ?_
  · show A.depth + 1 < recursionLimit
    exact hroom
  · have old : ∀ b o, hp.get? b = some o → h'.get? b = some o := fun b o e => k' b o (Nat.ne_of_lt (Nat.lt_succ_of_lt (Heap.lt_size e))) (k b o e)
    have z : hp.objs.size + 1 + 1 ≤ dx := by
      first
        | (simpa only [Heap.size_push] using dn)
        | exact dn
        | (have q := dn; rw [Heap.size_push, Heap.size_push] at q; exact q)
    exact ⟨rfl, hq h' tk' (hp.objs.size + 1) dx ⟨old, Nat.le_succ _, ⟨_, _, hx, rfl, rfl, rfl, rfl⟩, Nat.le_trans (Nat.le_trans (Nat.le_succ _) (Nat.le_succ _)) z, dne, hns⟩⟩
end
end ImpX
end PySem
namespace L2
open PySem PySem.Spec PyProof.Rows
theorem relO_imp {v : V} {v' : Value} (r : RelV v v') (f : Str) : RelO (List.lookup f [(("reason" : Str), v)]) (if f = "reason" then some v' else none) := by
  by_cases hw : f = "reason"
  · subst hw
    rw [if_pos rfl]
    have q : List.lookup ("reason" : Str) [(("reason" : Str), v)] = some v := by simp [List.lookup]
    rw [q]
    exact r
  · rw [if_neg hw]
    have qw : (f == ("reason" : Str)) = false := by simpa using hw
    have q2 : List.lookup f [(("reason" : Str), v)] = none := by simp [List.lookup, qw]
    rw [q2]
    trivial
section
variable {X : Cx} {C fI : Addr}
/-- Low(e) -/
def tMkImp (C : Addr) (ta : TA) : St → Hp → XK → Prop := fun σ H Q => ta σ H fun vs H1 => ∃ v, vs = [v] ∧ ∀ d, H1 d = none → Q (.ref C) (some d) (upd H1 d (.xd [(("reason" : Str), v)]))
theorem pmk_imp {a : Expr} {ta : TA} {p pos : Pos} {k : Nat} (T : PySem.ImpX.ImpTxt X.K X.mg C fI) (hr : Room k X.A) (ha : PA X [a] ta) (hg : Gl X "Impossible" := by rfl)
    (he : starEach (a :: []) X.env = (false, eval a X.env) :: starEach [] X.env := by rfl) (hpl : (backTo pos (starEach [] X.env)).any (·.1) = false := by rfl) :
    PMk X (.Call (.Name "Impossible" p) [a] [] pos) (tMkImp C ta) := by
  intro pins s σ H Q I h
  refine wpAny_Call_Name_kw (ld_glob I hg T.gC ?_)
  refine PySem.W.callWith_K (h₀ := X.base) I.ok.mod.kin T.kC (thn (ha.run pos pins s σ H _ I h) fun us s1 hh => ?_) he hpl
  obtain ⟨vs, H1, I1, r1, v, ev, q1⟩ := hh
  subst ev
  refine ⟨I1.kIn, ?_⟩
  cases r1 with
  | cons rv rn =>
    rename_i v' us'
    cases rn
    show wpAny _ _ (call (.ref C) [v']) _ _ _
    have hlim := I1.nolimit
    obtain ⟨hp, g, dr, tk, os⟩ := s1
    refine wpAny_call (PySem.ImpX.imp_made T I1.kIn hlim (by have := hr.dp; omega) fun h' tk' e d M => ?_)
    show MkP X pins σ Q (.ref e) ⟨h', g, dr, tk', os⟩
    obtain ⟨oe, fv, hoe, hc, hd, hdat, h1⟩ := M.obj
    have hns := M.ns
    obtain ⟨G', g1, g2⟩ := restrict h' fun b => decide (b ≠ e)
    have gk : ∀ b, b ≠ e → G'.get? b = h'.get? b := fun b hb => g1 b (decide_eq_true hb)
    have ge : G'.get? e = none := g2 e (by simp)
    have old : ∀ b o, hp.get? b = some o → G'.get? b = some o := fun b o q => (gk b (Nat.ne_of_lt (Nat.lt_of_lt_of_le (Heap.lt_size q) M.new))).trans (M.keep b o q)
    have ob : ObjOk X.prog X.w (upd H1 d (.xd [(("reason" : Str), v)])) G' d (.xd [(("reason" : Str), v)]) :=
      ⟨_, hns.at (fun o q => (gk d M.dne).trans q), fun f => relO_imp rv f⟩
    have J : Inv X pins σ (upd H1 d (.xd [(("reason" : Str), v)])) ⟨G', g, dr, tk', os⟩ := I1.laid (t' := tk') old M.dbig ob
    refine ⟨e, oe, fv, ⟨G', g, dr, tk', os⟩, _, .ref C, some d, rfl, J, fun b o q => ?_, ge, hoe, ⟨hc, hd⟩, hdat, h1, ?_, rfl, I1.bare, raises_own T.exC T.tyC, q1 d (I1.hok.fresh M.dbig)⟩
    · by_cases hb : b = e
      · have q' : G'.get? b = some o := q
        rw [hb, ge] at q'; cases q'
      · exact (gk b hb).symm.trans q
    · rw [upd_ne (Ne.symm M.dne)]
      exact I1.hok.fresh M.new
/-- raise Low(e) -/
def tRaiseImp (C : Addr) (W : WX) (ta : TA) : TS := fun _ σ H => tMkImp C ta σ H fun cls d H' => W cls d σ H'
theorem ps_raiseImp {a : Expr} {ta : TA} {W : WX} {p pos pos2 : Pos} {k : Nat} (hc : X.calm = true) (T : PySem.ImpX.ImpTxt X.K X.mg C fI) (hr : Room k X.A) (tk : Takes X W) (ha : PA X [a] ta) (hg : Gl X "Impossible" := by rfl)
    (he : starEach (a :: []) X.env = (false, eval a X.env) :: starEach [] X.env := by rfl) (hpl : (backTo pos (starEach [] X.env)).any (·.1) = false := by rfl) :
    PS X (.Raise (some (.Call (.Name "Impossible" p) [a] [] pos)) none pos2) (tRaiseImp C W ta) := ps_raise hc tk (pmk_imp T hr ha hg he hpl)
end
end L2

set_option Elab.async false
set_option linter.all false
set_option maxRecDepth 100000
set_option maxHeartbeats 4000000
/-! Own errors with one field (after the guide's own page on them). -/
namespace PySem
namespace TxtX
open PySem.W PySem.Calls PyProof.Rows PySem.HandSPX
/-! ### the text of __init__ -/
def iA (p1 p2 : Pos) : Arguments := { posonlyargs := [], args := [{ arg := "self", annotation := none, pos := p1 }, { arg := "at", annotation := none, pos := p2 }], vararg := none, kwonlyargs := [], kw_defaults := [], kwarg := none, defaults := [] }
def iB (q1 q2 q3 q4 : Pos) : List Stmt := [.Assign [.Attribute (.Name "self" q1) "at" q2] (.Name "at" q3) q4]
def iS : Scope := { kind := .function, names := [(PySem.Str.ofString "self", .local), (PySem.Str.ofString "at", .local)], isGenerator := false, isCoroutine := false, more := [] }
/-- what the written part says of Low, at C, and of its __init__, at fI -/
structure TxtTxt (K : Frag) (mg : Str → Option Value) (C fI : Addr) : Prop where
  gC : mg "NoText" = some (.ref C)
  cls : ∃ nm q N bs bm sn sub ab col dd k0 k1 k2 k3 k5, K.lookup C = some (excClassObj nm q C N bs bm true sn sub ab col dd k0 k1 k2 k3 k5 "ValueError.__new__") ∧ refsVE bm = true
  sa : findIn K (.ref C) "__setattr__" = some (some (.builtin "object.__setattr__"))
  ga : findIn K (.ref C) "__getattribute__" = some (some (.builtin "BaseException.__getattribute__"))
  gg : findIn K (.ref C) "__getattr__" = some none
  noN : findIn K (.ref C) "at" = some none
  iC : findIn K (.ref C) "__init__" = some (some (.ref fI))
  tC : typeIn K (.ref fI) = some (.type "function")
  kC : keepIn K (.ref C) = true
  exC : subIn K (.ref C) (.type "BaseException") = some true
  tyC : typeIn K (.ref C) = some (.type "type")
  hdC : hasDictIn K C = true
  te : exmOne K (.ref C) (.ref C) = some true
  fn : ∃ (oc : Value) (od : Option Addr) (doc pm : Value) (an : Option Addr) (cdv ct : Value) (osl : Array (Option Value)) (p1 p2 q1 q2 q3 q4 : Pos),
    K.lookup fI = some ⟨oc, od, .func (fnOf "__init__" "NoText.__init__" (iA p1 p2) (iB q1 q2 q3 q4) iS .none .none doc pm an cdv ct), osl⟩ ∧ codeIn K cdv "NoText.__init__" = true
theorem one_size (v : Value) : [v].length ≤ sizeLine := by
  rw [sizeLine_eq]
  exact (by decide : 1 ≤ 16777216)
theorem kept_but {K : Frag} {h h' : Heap} {x : Addr} (X : K.In h) (hx : K.lookup x = none) (k : ∀ b o, b ≠ x → h.get? b = some o → h'.get? b = some o) : K.In h' := fun a o e =>
  k a o (fun z => by rw [z, hx] at e; cases e) (X a o e)
theorem ldC {M : Model} {s : Shared} {name : Str} {scope : Scope} {L a : Addr} {cd : Value} {m : Str → Option Value} {x : Str} {pos : Pos} {v : Value} {Q : Value → Shared → Prop} {A : Around} {E : Value → Shared → Prop} (hn : s.heap.Ns L m) (hv : m x = some v) (h : Q v s)
    (hk : scope.kind = .function := by rfl) (hl : (envOfC name scope L a cd).kindOf x = some .local := by rfl) (hd : (x == ("__debug__" : Str)) = false := by decide) :
    wpAny M A (eval (.Name x pos) (envOfC name scope L a cd)) Q E s := wpAny_Name (wpAny_loadName_local hk hl hn hv h) hd
/-- what __init__ leaves of a fresh exception at x -/
structure InitEnd (h h' : Heap) (x C dx t1 : Addr) (v : Value) : Prop where
  keep : ∀ b o, b ≠ x → h.get? b = some o → h'.get? b = some o
  obj : h'.get? x = some { cls := .ref C, dict := some dx, data := .fields #[.ref t1, .none, .none, .none, .bool false, .none] }
  dbig : h.objs.size ≤ dx
  dne : dx ≠ x
  ns : h'.Ns1 dx (fun y => if y = "at" then some v else none)
/-- a made Low -/
structure OwnMade (h h' : Heap) (e C d : Addr) (v : Value) : Prop where
  keep : ∀ b o, h.get? b = some o → h'.get? b = some o
  new : h.objs.size ≤ e
  obj : ∃ oe vs, h'.get? e = some oe ∧ oe.cls = .ref C ∧ oe.dict = some d ∧ oe.data = .fields vs ∧ vs[1]? = some .none
  dbig : h.objs.size ≤ d
  dne : d ≠ e
  ns : h'.Ns1 d (fun y => if y = "at" then some v else none)
section
variable {prog : Program} {w : World} {A : Around} {E : Value → Shared → Prop} {R : Result → Shared → Prop} {s : Shared} {K : Frag} {mg : Str → Option Value} {C fI : Addr}
theorem txt_init (T : TxtTxt K mg C fI) {x t0 : Addr} {v : Value} (X : K.In s.heap) (hlim : s.heap.NoLimit) (hx : s.heap.get? x = some (excO C t0)) (hnx : K.lookup x = none) (hroom : A.depth < recursionLimit)
    (hq : ∀ h' tk dx, InitEnd s.heap h' x C dx t0 v → R (.ok (.ret .none)) { s with heap := h', toks := tk }) :
    codeAny (model prog w) A (.call (.ref fI) ⟨[.ref x, v], []⟩) R s := by
  obtain ⟨oc, od, doc, pm, an, cdv, ct, osl, p1, p2, q1, q2, q3, q4, ho, hcd⟩ := T.fn
  obtain ⟨nm, q, N, bs, bm, sn, sub, ab, col, dd, k0, k1, k2, k3, k5, hC, hbm⟩ := T.cls
  have hcl : clsIn K C = some { name := nm, bases := bs, mro := .ref C :: bm, ns := N, qualname := q, hasDict := true, slotNames := sn, subclasses := sub, abstract := ab, collection := col, hasDel := false } := by unfold clsIn; rw [hC] <;> rfl
  refine Att.call_fn (binds := [("self", .ref x), ("at", v)]) X hlim ho hcd hroom (BindsTo.of_eq (by first | rfl | with_unfolding_all rfl)) (by first | rfl | decide | with_unfolding_all rfl) (fun s₁ IC => ?_) rfl rfl rfl
  obtain ⟨h₁, tk₁, rfl⟩ := IC.toInCall.same
  have k : ∀ b o, s.heap.get? b = some o → h₁.get? b = some o := IC.toInCall.keep
  have hn := IC.toInCall.ns
  have hxL : s.heap.objs.size ≠ x := Nat.ne_of_gt (Heap.lt_size hx)
  have X₁ : K.In h₁ := X.keeps k
  have hx₁ := k _ _ hx
  -- self.by = by
  show wpAny _ _ (execs _ _) _ _ _
  refine wpAny_execs_cons (plainObj_wpAny_Assign_Attribute ?_)
  refine ldC (v := v) hn (by first | rfl | with_unfolding_all rfl | kernel_rfl) (ldC (v := .ref x) hn (by first | rfl | with_unfolding_all rfl | kernel_rfl) ?_)
  refine set_plain X₁ (ox := excO C t0) (od := none) ⟨hx₁, rfl, rfl, trivial⟩ T.sa ?_
  refine exc_osa X₁ hx₁ hcl (show refsVE (.ref C :: bm) = true from hbm) rfl T.noN (fun h₃ tk₃ dx k₃ dn dne hx₃ hn₃ => ?_)
  show wpAny _ _ (execs _ _) _ _ _
  have z : s.heap.objs.size < h₁.objs.size := hn.lt
  exact wpAny_execs_nil (hq h₃ tk₃ dx ⟨fun b o hb e => k₃ b o hb (k b o e), hx₃, Nat.le_of_lt (Nat.lt_of_lt_of_le z dn), dne, hn₃⟩)
theorem txt_made (T : TxtTxt K mg C fI) {v : Value} (X : K.In s.heap) (hlim : s.heap.NoLimit) (hroom : A.depth + 1 < recursionLimit)
    (hq : ∀ h' tk e d, OwnMade s.heap h' e C d v → R (.ok (.ret (.ref e))) { s with heap := h', toks := tk }) :
    codeAny (model prog w) A (.call (.ref C) ⟨[v], []⟩) R s := by
  obtain ⟨nm, q, N, bs, bm, sn, sub, ab, col, dd, k0, k1, k2, k3, k5, hC, hbm⟩ := T.cls
  obtain ⟨hp, g, dr, tk, os⟩ := s
  have k : ∀ b o, hp.get? b = some o → ((hp.push (kdv_tup [v])).push (excO C hp.objs.size)).get? b = some o := fun b o e => Heap.get?_push_of_some _ (Heap.get?_push_of_some _ e)
  have hget : ((hp.push (kdv_tup [v])).push (excO C hp.objs.size)).get? (hp.objs.size + 1) = some (excO C hp.objs.size) := by heap_get
  have hnx : K.lookup (hp.objs.size + 1) = none := by
    cases e : K.lookup (hp.objs.size + 1) with
    | none => rfl
    | some o =>
      have z : hp.get? (hp.objs.size + 1) = some o := X _ _ e
      exact absurd (Nat.lt_of_succ_lt (Heap.lt_size z)) (Nat.lt_irrefl _)
  refine call_own F.excBase_ValueError (fun X => refsVE_contains X bm hbm) (X _ _ hC) (looks_findIn X T.iC) (fun self => bind_fn X self T.tC) (one_size v) ?_
  refine txt_init (s := ⟨(hp.push (kdv_tup [v])).push (excO C hp.objs.size), g, dr, tk, os⟩) T (X.keeps k) (hlim.keeps k) hget hnx ?_ fun h' tk' dx ⟨k', hx, dn, dne, hns⟩ => ?_
  · show A.depth + 1 < recursionLimit
    exact hroom
  · have old : ∀ b o, hp.get? b = some o → h'.get? b = some o := fun b o e => k' b o (Nat.ne_of_lt (Nat.lt_succ_of_lt (Heap.lt_size e))) (k b o e)
    have z : hp.objs.size + 1 + 1 ≤ dx := by
      first
        | (simpa only [Heap.size_push] using dn)
        | exact dn
        | (have q := dn; rw [Heap.size_push, Heap.size_push] at q; exact q)
    exact ⟨rfl, hq h' tk' (hp.objs.size + 1) dx ⟨old, Nat.le_succ _, ⟨_, _, hx, rfl, rfl, rfl, rfl⟩, Nat.le_trans (Nat.le_trans (Nat.le_succ _) (Nat.le_succ _)) z, dne, hns⟩⟩
end
end TxtX
end PySem
namespace L2
open PySem PySem.Spec PyProof.Rows
theorem relO_txt {v : V} {v' : Value} (r : RelV v v') (f : Str) : RelO (List.lookup f [(("at" : Str), v)]) (if f = "at" then some v' else none) := by
  by_cases hw : f = "at"
  · subst hw
    rw [if_pos rfl]
    have q : List.lookup ("at" : Str) [(("at" : Str), v)] = some v := by simp [List.lookup]
    rw [q]
    exact r
  · rw [if_neg hw]
    have qw : (f == ("at" : Str)) = false := by simpa using hw
    have q2 : List.lookup f [(("at" : Str), v)] = none := by simp [List.lookup, qw]
    rw [q2]
    trivial
section
variable {X : Cx} {C fI : Addr}
/-- Low(e) -/
def tMkTxt (C : Addr) (ta : TA) : St → Hp → XK → Prop := fun σ H Q => ta σ H fun vs H1 => ∃ v, vs = [v] ∧ ∀ d, H1 d = none → Q (.ref C) (some d) (upd H1 d (.xd [(("at" : Str), v)]))
theorem pmk_txt {a : Expr} {ta : TA} {p pos : Pos} {k : Nat} (T : PySem.TxtX.TxtTxt X.K X.mg C fI) (hr : Room k X.A) (ha : PA X [a] ta) (hg : Gl X "NoText" := by rfl)
    (he : starEach (a :: []) X.env = (false, eval a X.env) :: starEach [] X.env := by rfl) (hpl : (backTo pos (starEach [] X.env)).any (·.1) = false := by rfl) :
    PMk X (.Call (.Name "NoText" p) [a] [] pos) (tMkTxt C ta) := by
  intro pins s σ H Q I h
  refine wpAny_Call_Name_kw (ld_glob I hg T.gC ?_)
  refine PySem.W.callWith_K (h₀ := X.base) I.ok.mod.kin T.kC (thn (ha.run pos pins s σ H _ I h) fun us s1 hh => ?_) he hpl
  obtain ⟨vs, H1, I1, r1, v, ev, q1⟩ := hh
  subst ev
  refine ⟨I1.kIn, ?_⟩
  cases r1 with
  | cons rv rn =>
    rename_i v' us'
    cases rn
    show wpAny _ _ (call (.ref C) [v']) _ _ _
    have hlim := I1.nolimit
    obtain ⟨hp, g, dr, tk, os⟩ := s1
    refine wpAny_call (PySem.TxtX.txt_made T I1.kIn hlim (by have := hr.dp; omega) fun h' tk' e d M => ?_)
    show MkP X pins σ Q (.ref e) ⟨h', g, dr, tk', os⟩
    obtain ⟨oe, fv, hoe, hc, hd, hdat, h1⟩ := M.obj
    have hns := M.ns
    obtain ⟨G', g1, g2⟩ := restrict h' fun b => decide (b ≠ e)
    have gk : ∀ b, b ≠ e → G'.get? b = h'.get? b := fun b hb => g1 b (decide_eq_true hb)
    have ge : G'.get? e = none := g2 e (by simp)
    have old : ∀ b o, hp.get? b = some o → G'.get? b = some o := fun b o q => (gk b (Nat.ne_of_lt (Nat.lt_of_lt_of_le (Heap.lt_size q) M.new))).trans (M.keep b o q)
    have ob : ObjOk X.prog X.w (upd H1 d (.xd [(("at" : Str), v)])) G' d (.xd [(("at" : Str), v)]) :=
      ⟨_, hns.at (fun o q => (gk d M.dne).trans q), fun f => relO_txt rv f⟩
    have J : Inv X pins σ (upd H1 d (.xd [(("at" : Str), v)])) ⟨G', g, dr, tk', os⟩ := I1.laid (t' := tk') old M.dbig ob
    refine ⟨e, oe, fv, ⟨G', g, dr, tk', os⟩, _, .ref C, some d, rfl, J, fun b o q => ?_, ge, hoe, ⟨hc, hd⟩, hdat, h1, ?_, rfl, I1.bare, raises_own T.exC T.tyC, q1 d (I1.hok.fresh M.dbig)⟩
    · by_cases hb : b = e
      · have q' : G'.get? b = some o := q
        rw [hb, ge] at q'; cases q'
      · exact (gk b hb).symm.trans q
    · rw [upd_ne (Ne.symm M.dne)]
      exact I1.hok.fresh M.new
/-- raise Low(e) -/
def tRaiseTxt (C : Addr) (W : WX) (ta : TA) : TS := fun _ σ H => tMkTxt C ta σ H fun cls d H' => W cls d σ H'
theorem ps_raiseTxt {a : Expr} {ta : TA} {W : WX} {p pos pos2 : Pos} {k : Nat} (hc : X.calm = true) (T : PySem.TxtX.TxtTxt X.K X.mg C fI) (hr : Room k X.A) (tk : Takes X W) (ha : PA X [a] ta) (hg : Gl X "NoText" := by rfl)
    (he : starEach (a :: []) X.env = (false, eval a X.env) :: starEach [] X.env := by rfl) (hpl : (backTo pos (starEach [] X.env)).any (·.1) = false := by rfl) :
    PS X (.Raise (some (.Call (.Name "NoText" p) [a] [] pos)) none pos2) (tRaiseTxt C W ta) := ps_raise hc tk (pmk_txt T hr ha hg he hpl)
end
end L2

set_option Elab.async false
set_option linter.all false
set_option maxRecDepth 100000
set_option maxHeartbeats 4000000
/-! Own layer: defs that may raise, and their calls. -/
namespace L2
open ClX
open PySem PySem.Spec PyProof.Rows
structure OkX (P : Program) (w : World) (K : PySem.W.Frag) (mg : Str → Option Value) (base : Heap) (k : Nat) (f : Addr) (ps : List Str) (sp : Sp) : Prop where
  ex : ∃ fd, FnOk P w K mg base (L2.CX P w) k f fd ps sp ∧ Binds K fd ps []
  kp : PySem.W.keepIn K (.ref f) = true
/-- the same by one keyword (its last parameter) -/
structure OkXK (P : Program) (w : World) (K : PySem.W.Frag) (mg : Str → Option Value) (base : Heap) (k : Nat) (f : Addr) (ps : List Str) (kw : Str) (sp : Sp) : Prop where
  ex : ∃ fd, FnOk P w K mg base (L2.CX P w) k f fd ps sp ∧ KBinds K fd ps [kw] (fun us ws => glue1 us ws) (fun vs zs => glue1 vs zs)
section
variable {P : Program} {w : World} {K : PySem.W.Frag} {mg : Str → Option Value} {base : Heap}
theorem FnT.okX {x qual : Str} {st : Stmt} {f : Addr} {N ps : List Str} {k : Nat} {sp : Sp} (h : FnT K x qual st f) (S : FnScope N ps (defScope st)) (hb : BindsAll st x qual ps)
    (len : ∀ vs H Q E, sp vs H Q E → vs.length = ps.length)
    (body : ∀ (cdv : Value) (A : Around) (outer : List Env) (s : Shared) (H : Hp) (vs : List V) (Q : VK) (E : XK), Room k (A.deeper (envOfC qual (defScope st) s.heap.objs.size f cdv)) → sp vs H Q E →
      ∃ t, PSs (cxOf (L2.CX P w) P w K mg base N qual (defScope st) f cdv A outer s H E) (defBody st) t ∧ t { nx := fun _ H' => Q .non H', rt := Q } (start N vs) H) :
    OkX P w K mg base (k + 1) f ps sp := by
  obtain ⟨fd, F⟩ := h.ex
  exact ⟨⟨fd, F.okX S len body, F.binds hb⟩, F.kp⟩
theorem FnT.okXK {x qual kw p0 : Str} {st : Stmt} {f : Addr} {N : List Str} {k : Nat} {sp : Sp} (h : FnT K x qual st f) (S : FnScope N [p0, kw] (defScope st))
    (hb : ∀ (kV doc pm : Value) (an : Option Addr) (cdv ct u v : Value), bindArgs (PySem.W.fnOf x qual (defArgs st) (defBody st) (defScope st) .none kV doc pm an cdv ct) ⟨[u], [(kw, v)]⟩ = pure [(p0, u), (kw, v)])
    (len : ∀ vs H Q E, sp vs H Q E → vs.length = 2)
    (body : ∀ (cdv : Value) (A : Around) (outer : List Env) (s : Shared) (H : Hp) (vs : List V) (Q : VK) (E : XK), Room k (A.deeper (envOfC qual (defScope st) s.heap.objs.size f cdv)) → sp vs H Q E →
      ∃ t, PSs (cxOf (L2.CX P w) P w K mg base N qual (defScope st) f cdv A outer s H E) (defBody st) t ∧ t { nx := fun _ H' => Q .non H', rt := Q } (start N vs) H) :
    OkXK P w K mg base (k + 1) f [p0, kw] kw sp := by
  obtain ⟨fd, F⟩ := h.ex
  refine ⟨fd, F.okX S len body, F.kbinds 1 [kw] glue1 (fun us ws hl => ?_) (fun r q => ?_) fun kV doc pm an cdv ct us ws h1 h2 => ?_⟩
  · unfold glue1 at hl
    split at hl
    · assumption
    · cases hl
  · unfold glue1
    rw [r.length, q.length]
    split
    · exact r.append q
    · exact .nil
  · match us, h1, ws, h2 with
    | [u], _, [v], _ => exact hb kV doc pm an cdv ct u v
end
/-! ### who takes what is raised: nobody (it is not raised), the def's own callers, a try around -/
section
variable {X : Cx}
theorem atL {σ : St} : PassesAt (L2.CX X.prog X.w) X σ E0 := fun pins H s e s' I c => passL pins σ H s e s' I c
theorem atE {E : XK} (tk : Takes X (fun cls d _ H => E cls d H)) {σ : St} : PassesAt (L2.CX X.prog X.w) X σ E := fun _ _ _ e s' I c => tk e s' (XE.of_call I (fun _ _ _ h => h) c)
end
section
variable {X : Cx} {CX : CXT} {k : Nat} {f C : Addr} {fd : FuncData} {ps : List Str} {kw : Str} {sp : Sp} {E : St → XK} {x m : Str} {p pos apos : Pos} {e o : Expr} {es : List Expr} {kws : List Keyword} {ta : TE} {t tk : TA}
theorem px_call (G : OkX X.prog X.w X.K X.mg X.base k f ps sp) (hx : ∀ σ, PassesAt (L2.CX X.prog X.w) X σ (E σ)) (hr : Room k X.A) (hm : X.mg x = some (.ref f)) (ha : PA X (e :: es) t) (hg : Gl X x := by rfl)
    (hdb : (x == ("__debug__" : Str)) = false := by decide) (he : starEach (e :: es) X.env = (false, eval e X.env) :: starEach es X.env := by rfl) (hpl : (backTo pos (starEach es X.env)).any (·.1) = false := by rfl) :
    PE X (.Call (.Name x p) (e :: es) [] pos) (tCallS sp E t) := by
  obtain ⟨⟨fd, F, b⟩, kp⟩ := G
  exact pe_callS F hr hg hm kp b hx ha hdb he hpl
/-- a method's call by positions; what it raises is wished for at the slots -/
def oMeth (C : Addr) (m : Str) (sp : Sp) (E : St → XK) (ta : TE) (t : TA) : TE := fun σ H Q => ta σ H fun x H1 => ∃ a dx fs, x = .ref a ∧ H1 a = some (.ins C dx fs) ∧ fs.lookup m = none ∧ t σ H1 fun vs H2 => sp (x :: vs) H2 Q (E σ)
def oMethK (C : Addr) (m : Str) (sp : Sp) (E : St → XK) (ta : TE) (tk : TA) : TE := fun σ H Q => ta σ H fun x H1 => ∃ a dx fs, x = .ref a ∧ H1 a = some (.ins C dx fs) ∧ fs.lookup m = none ∧ tk σ H1 fun zs H2 => sp (glue1 [x] zs) H2 Q (E σ)
theorem px_meth {pl : Sem Bool} (c : Cls X.K C) (hm : Meth X.K C m f) (G : OkX X.prog X.w X.K X.mg X.base k f ps sp) (hx : ∀ σ, PassesAt (L2.CX X.prog X.w) X σ (E σ)) (hr : Room k X.A) (he : PE X o ta) (ha : PA X (e :: es) t)
    (hst : starEach (e :: es) X.env = (false, eval e X.env) :: starEach es X.env := by rfl) (hpl : (backTo pos (starEach es X.env)).any (·.1) = false := by rfl)
    (ht : eval (.Call (.Attribute o m apos) (e :: es) [] pos) X.env = (do
      let ov ← eval o X.env
      standAt apos.atName
      let (f, first) ← holding [ov] (getMethod ov m pl)
      callWith pos f first (backTo pos (starEach (e :: es) X.env)) (backToKw pos (keywordEach [] X.env))) := by rfl) :
    PE X (.Call (.Attribute o m apos) (e :: es) [] pos) (oMeth C m sp E ta t) := by
  obtain ⟨⟨fd, F, b⟩, kp⟩ := G
  refine ⟨fun pn s σ H Q I h => PySem.W.methodCall_KW (pl := pl) (thn (he.run pn s σ H _ I h) fun u s1 ⟨x, H1, I1, rx, a, dx, fs, ex, ea, l, q⟩ => ?_) ht⟩
  subst ex
  cases rx
  refine getmeth_ok I1 ea c hm l (PySem.W.callWith_K (first := [.ref a]) (h₀ := X.base) I.ok.mod.kin hm.kp (thn (ha.run pos pn s1 σ H1 _ I1 q) fun us s2 ⟨vs, H2, I2, r, q2⟩ => ⟨I2.kIn, ?_⟩) hst hpl)
  exact run_fnS (us := .ref a :: us) (vs := .ref a :: vs) F hr b (hx σ) I2 (.cons rfl r) q2
theorem px_methK {pl : Sem Bool} (c : Cls X.K C) (hm : Meth X.K C m f) (G : OkXK X.prog X.w X.K X.mg X.base k f ps kw sp) (hx : ∀ σ, PassesAt (L2.CX X.prog X.w) X σ (E σ)) (hr : Room k X.A) (he : PE X o ta)
    (hkw : PK X kws tk) (hall : (backToKw pos (keywordEach kws X.env)).all (·.1.isSome) = true := by rfl) (hks : (backToKw pos (keywordEach kws X.env)).filterMap (·.1) = [kw] := by rfl)
    (hpl : ((backTo pos (starEach [] X.env)).any (·.1) || (backToKw pos (keywordEach kws X.env)).any (·.1.isNone)) = false := by rfl)
    (ht : eval (.Call (.Attribute o m apos) [] kws pos) X.env = (do
      let ov ← eval o X.env
      standAt apos.atName
      let (f, first) ← holding [ov] (getMethod ov m pl)
      callWith pos f first (backTo pos (starEach [] X.env)) (backToKw pos (keywordEach kws X.env))) := by rfl) :
    PE X (.Call (.Attribute o m apos) [] kws pos) (oMethK C m sp E ta tk) := by
  obtain ⟨fd, F, b⟩ := G.ex
  refine ⟨fun pn s σ H Q I h => PySem.W.methodCall_KW (pl := pl) (thn (he.run pn s σ H _ I h) fun u s1 ⟨x, H1, I1, rx, a, dx, fs, ex, ea, l, q⟩ => ?_) ht⟩
  subst ex
  cases rx
  refine getmeth_ok I1 ea c hm l (PySem.W.callWith_KW0 (first := [.ref a]) (h₀ := X.base) I.ok.mod.kin hm.kp hall ?_ hpl)
  refine thn (hkw.run pos pn s1 σ H1 _ I1 q) fun ws s2 ⟨zs, H2, I2, rz, q2⟩ => ⟨I2.kIn, ?_⟩
  rw [hks]
  have rv : Vals (glue1 [V.ref a] zs) (glue1 [Value.ref a] ws) := b.rel (.cons rfl .nil) rz
  have hl : (glue1 [Value.ref a] ws).length = ps.length := by
    rw [← rv.length]
    exact F.len _ _ _ _ q2
  refine wpAny_call (codeAny_mono (F.run X.A X.stack s2 H2 ⟨[.ref a], [kw].zip ws⟩ (glue1 [Value.ref a] ws) (glue1 [V.ref a] zs) Q (E σ) hr I2.env0 (b.to s2 [.ref a] ws I2.kIn hl) rv q2) fun r s3 z => ?_)
  match r, z with
  | .error e2, z => exact hx σ pn H2 s2 e2 s3 I2 z
  | .ok (.ret u2), z => exact I2.after z
  | .ok .next, z => exact z.elim
  | .ok .brk, z => exact z.elim
  | .ok .cont, z => exact z.elim
end
/-! ### the classes of errors -/
structure ErrT (K : PySem.W.Frag) (C : Addr) : Prop where
  xP : PySem.W.excIn K C [.type "ValueError", .type "Exception", .type "BaseException", .type "object"] "ValueError.__new__" = true
  kp : PySem.W.keepIn K (.ref C) = true
  bP : PySem.W.subIn K (.ref C) (.type "BaseException") = some true
  tP : PySem.W.typeIn K (.ref C) = some (.type "type")
/-- isinstance's answer from a subclass's -/
theorem kit_ref {K : PySem.W.Frag} {t : Value} {C : Addr} {b : Bool} (hi : PySem.W.isClsIn K C = true) (ht : PySem.W.typeIn K (.ref C) = some (.type "type")) (hs : PySem.W.subIn K t (.ref C) = some b) (hn : t = .ref C → b = true) : PySem.W.kitOne K t (.ref C) = some b := by
  unfold PySem.W.kitOne
  by_cases e : t = .ref C
  · rw [if_pos (by rw [e]; exact beq_self_eq_true _), hn e]
  · rw [if_neg (fun z => e (eq_of_beq z))]
    have z : ((PySem.W.clsIn K C).isSome && PySem.W.typeIn K (.ref C) == some (.type "type")) = true := by
      have h2 : (PySem.W.clsIn K C).isSome = true := hi
      rw [h2, ht]
      rfl
    show (if ((PySem.W.clsIn K C).isSome && PySem.W.typeIn K (.ref C) == some (.type "type")) = true then PySem.W.subIn K t (.ref C) else none) = some b
    rw [if_pos z]
    exact hs
theorem kit_bty {K : PySem.W.Frag} {D : Addr} {T : String} {b : Bool} (hm : PySem.W.kitMeta T = true) (hs : PySem.W.subIn K (.ref D) (.type T) = some b) : PySem.W.kitOne K (.ref D) (.type T) = some b := by
  unfold PySem.W.kitOne
  rw [if_neg (fun z => by cases (eq_of_beq z))]
  show (if PySem.W.kitMeta T = true then PySem.W.subIn K (.ref D) (.type T) else none) = some b
  rw [if_pos hm]
  exact hs
end L2

/-! Own layer: comprehensions whose inner words are found by the terms. -/
namespace L2
open ClX
open PySem PySem.Spec PyProof.Rows
section
variable {X : Cx}
theorem pe_lcD {elt tg iter : Expr} {ifs : List Expr} {scope : Scope} {own : List (Str × Nat)} {pos : Pos} {wi : TI} {g' : Shared → Hp → Addr → List (Str × Addr) → List Addr → TG} {tt' : Shared → Hp → Addr → List (Str × Addr) → List Addr → TT}
    {te' : Shared → Hp → Addr → List (Str × Addr) → List Addr → TE} (hc : X.calm = true) (hN : X.N.Nodup) (hi : PI X tg iter wi) (ok : BlkOk X.N X.env.scope scope own)
    (hg : ∀ (s : Shared) (H : Hp) (C : Addr) (cl : List (Str × Addr)) (fp : List Addr), PG (X.blk s H scope (compEnvC scope cl C X.env) fp) tg (g' s H C cl fp))
    (ht : ∀ (s : Shared) (H : Hp) (C : Addr) (cl : List (Str × Addr)) (fp : List Addr), PTs (X.blk s H scope (compEnvC scope cl C X.env) fp) ifs (tt' s H C cl fp))
    (he : ∀ (s : Shared) (H : Hp) (C : Addr) (cl : List (Str × Addr)) (fp : List Addr), PE (X.blk s H scope (compEnvC scope cl C X.env) fp) elt (te' s H C cl fp))
    (eg : ∀ s H C cl fp, g' s H C cl fp = g' X.s_0 X.H_0 0 [] [] := by intro _ _ _ _ _; rfl) (et : ∀ s H C cl fp, tt' s H C cl fp = tt' X.s_0 X.H_0 0 [] [] := by intro _ _ _ _ _; rfl)
    (ee : ∀ s H C cl fp, te' s H C cl fp = te' X.s_0 X.H_0 0 [] [] := by intro _ _ _ _ _; rfl) (hs : ∀ x, foldedSetIterable iter X.env x = pure x := by intro _; rfl) :
    PE X (.ListComp elt [⟨tg, iter, ifs, 0⟩] scope pos) (tLc wi (g' X.s_0 X.H_0 0 [] []) (tt' X.s_0 X.H_0 0 [] []) (te' X.s_0 X.H_0 0 [] []) (own.map (·.2))) :=
  pe_lc hc hN hi ok (fun s H C cl fp => eg s H C cl fp ▸ hg s H C cl fp) (fun s H C cl fp => et s H C cl fp ▸ ht s H C cl fp) (fun s H C cl fp => ee s H C cl fp ▸ he s H C cl fp) hs
theorem ps_setLcD {i : Nat} {y : Str} {py : Pos} {elt tg iter : Expr} {ifs : List Expr} {scope : Scope} {own : List (Str × Nat)} {pos spos : Pos} {wi : TI} {g' : Shared → Hp → Addr → List (Str × Addr) → List Addr → TG} {tt' : Shared → Hp → Addr → List (Str × Addr) → List Addr → TT}
    {te' : Shared → Hp → Addr → List (Str × Addr) → List Addr → TE} (hc : X.calm = true) (hN : X.N.Nodup) (hy : X.N[i]? = some y) (hyl : X.env.scope.names.lookup y = some .local)
    (hsw : swapsWith (.ListComp elt [⟨tg, iter, ifs, 0⟩] scope pos) (some (.Name y py)) spos.line X.env = pure true) (hi : PI X tg iter wi) (ok : BlkOk X.N X.env.scope scope own)
    (hg : ∀ (s : Shared) (H : Hp) (C : Addr) (cl : List (Str × Addr)) (fp : List Addr), PG (X.blk s H scope (compEnvC scope cl C X.env) fp) tg (g' s H C cl fp))
    (ht : ∀ (s : Shared) (H : Hp) (C : Addr) (cl : List (Str × Addr)) (fp : List Addr), PTs (X.blk s H scope (compEnvC scope cl C X.env) fp) ifs (tt' s H C cl fp))
    (he : ∀ (s : Shared) (H : Hp) (C : Addr) (cl : List (Str × Addr)) (fp : List Addr), PE (X.blk s H scope (compEnvC scope cl C X.env) fp) elt (te' s H C cl fp))
    (eg : ∀ s H C cl fp, g' s H C cl fp = g' X.s_0 X.H_0 0 [] [] := by intro _ _ _ _ _; rfl) (et : ∀ s H C cl fp, tt' s H C cl fp = tt' X.s_0 X.H_0 0 [] [] := by intro _ _ _ _ _; rfl)
    (ee : ∀ s H C cl fp, te' s H C cl fp = te' X.s_0 X.H_0 0 [] [] := by intro _ _ _ _ _; rfl) (hs : ∀ x, foldedSetIterable iter X.env x = pure x := by intro _; rfl) :
    PS X (.Assign [.Name y py] (.ListComp elt [⟨tg, iter, ifs, 0⟩] scope pos) spos) (tAsg (tLc wi (g' X.s_0 X.H_0 0 [] []) (tt' X.s_0 X.H_0 0 [] []) (te' X.s_0 X.H_0 0 [] []) (own.map (·.2))) (gName i)) :=
  ps_setLc hc hN hy hyl hsw hi ok (fun s H C cl fp => eg s H C cl fp ▸ hg s H C cl fp) (fun s H C cl fp => et s H C cl fp ▸ ht s H C cl fp) (fun s H C cl fp => ee s H C cl fp ▸ he s H C cl fp) hs
end
/-- a def's body keeps its promise -/
def BodyX (P : Program) (w : World) (K : PySem.W.Frag) (mg : Str → Option Value) (base : Heap) (N : List Str) (qual : Str) (st : Stmt) (f : Addr) (k : Nat) (sp : Sp) : Prop :=
  ∀ (cdv : Value) (A : Around) (outer : List Env) (s : Shared) (H : Hp) (vs : List V) (Q : VK) (E : XK), Room k (A.deeper (PyProof.Rows.envOfC qual (defScope st) s.heap.objs.size f cdv)) → sp vs H Q E →
      ∃ t, PSs (cxOf (L2.CX P w) P w K mg base N qual (defScope st) f cdv A outer s H E) (defBody st) t ∧ t { nx := fun _ H' => Q .non H', rt := Q } (start N vs) H
/-! ### what isinstance asks of an instance; entries of any kind -/
structure InsT (K : PySem.W.Frag) (C : Addr) : Prop where
  ha : PySem.W.findIn K (.ref C) "__class__" = some (some (.builtin "object.__class__"))
  hn : PySem.W.specialIn K (.builtin "object.__class__") "__get__" = some (some (.builtin "getset_descriptor.__get__"))
  ht : PySem.W.takesIn K (.builtin "object.__class__") = some true
  hm : PySem.W.mroIn K C (.type "object") = some true
theorem TyOf.same {K : PySem.W.Frag} {H H' : Hp} {v : V} {t : Value} (h : TyOf K H v t) (s : Same H H') : TyOf K H' v t := by
  cases h with
  | non => exact .non
  | bl x => exact .bl x
  | int x => exact .int x
  | str x => exact .str x
  | flt x => exact .flt x
  | lst e => exact .lst (s _ _ e)
  | frz e => exact .frz (s _ _ e)
  | tup e => exact .tup (s _ _ e)
  | dK e => exact .dK (s _ _ e)
  | dT e => exact .dT (s _ _ e)
  | ins e c a b d m => exact .ins (s _ _ e) c a b d m
theorem TyX.same {K : PySem.W.Frag} {H H' : Hp} {v : V} {t : Value} (h : TyX K H v t) (s : Same H H') : TyX K H' v t := by
  cases h with
  | base b => exact .base (b.same s)
  | byt b => exact .byt b
  | set e => exact .set (s _ _ e)
  | kList e c => exact .kList e c
  | kTuple e c => exact .kTuple e c
  | kDict e c => exact .kDict e c
  | fTuple e => exact .fTuple (s _ _ e)
  | fDict e => exact .fDict (s _ _ e)
/-- an entry: a text, or something that is none -/
inductive Ent (K : PySem.W.Frag) (H : Hp) : V → Option Str → Prop where
  | str (x : Str) (h : x.length ≤ 1000) : Ent K H (.str x) (some x)
  | no {v : V} {t : Value} (ty : TyX K H v t) (h : PySem.W.kitOne K t (.type "str") = some false) : Ent K H v none
inductive Ents (K : PySem.W.Frag) (H : Hp) : List V → List (Option Str) → Prop where
  | nil : Ents K H [] []
  | cons {v : V} {o : Option Str} {vs : List V} {os : List (Option Str)} (h : Ent K H v o) (t : Ents K H vs os) : Ents K H (v :: vs) (o :: os)
theorem Ent.same {K : PySem.W.Frag} {H H' : Hp} {v : V} {o : Option Str} (h : Ent K H v o) (s : Same H H') : Ent K H' v o := by
  cases h with
  | str x h => exact .str x h
  | no ty h => exact .no (ty.same s) h
theorem Ents.same {K : PySem.W.Frag} {H H' : Hp} {vs : List V} {os : List (Option Str)} (h : Ents K H vs os) (s : Same H H') : Ents K H' vs os := by
  induction h with
  | nil => exact .nil
  | cons a _ ih => exact .cons (a.same s) ih
theorem Ents.len {K : PySem.W.Frag} {H : Hp} {vs : List V} {os : List (Option Str)} (h : Ents K H vs os) : vs.length = os.length := by
  induction h with
  | nil => rfl
  | cons _ _ ih => rw [List.length_cons, List.length_cons, ih]
theorem Ents.get {K : PySem.W.Frag} {H : Hp} {vs : List V} {os : List (Option Str)} (h : Ents K H vs os) : ∀ {i : Nat} {v : V}, vs[i]? = some v → ∃ o, os[i]? = some o ∧ Ent K H v o := by
  induction h with
  | nil => intro i v e; cases e
  | cons a _ ih =>
    intro i v e
    cases i with
    | zero => cases e; exact ⟨_, rfl, a⟩
    | succ i => exact ih e
theorem Ents.app {K : PySem.W.Frag} {H : Hp} {vs ws : List V} {os us : List (Option Str)} (h : Ents K H vs os) (g : Ents K H ws us) : Ents K H (vs ++ ws) (os ++ us) := by
  induction h with
  | nil => exact g
  | cons a _ ih => exact .cons a ih
theorem Ents.strs {K : PySem.W.Frag} {H : Hp} : ∀ (xs : List Str), (∀ x ∈ xs, x.length ≤ 1000) → Ents K H (xs.map V.str) (xs.map some)
  | [], _ => .nil
  | x :: xs, h => .cons (.str x (h x List.mem_cons_self)) (Ents.strs xs fun y hy => h y (List.mem_cons_of_mem _ hy))
/-- all entries are texts -/
theorem Ents.all {K : PySem.W.Frag} {H : Hp} {vs : List V} {os : List (Option Str)} (h : Ents K H vs os) (p : Option Str → Bool) (hp : p none = false) (a : os.all p = true) : vs = (os.filterMap id).map V.str ∧ os = (os.filterMap id).map some ∧ ∀ x ∈ os.filterMap id, x.length ≤ 1000 := by
  induction h with
  | nil => exact ⟨rfl, rfl, fun x hx => by cases hx⟩
  | cons e _ ih =>
    rw [List.all_cons, Bool.and_eq_true] at a
    obtain ⟨i1, i2, i3⟩ := ih a.2
    cases e with
    | str x hx =>
      refine ⟨congrArg (V.str x :: ·) i1, congrArg (some x :: ·) i2, fun y hy => ?_⟩
      rcases List.mem_cons.mp hy with rfl | hy
      · exact hx
      · exact i3 y hy
    | no ty h => rw [hp] at a; exact absurd a.1 (by decide)
end L2

/-! Own layer: a def that may raise, called by two keywords in the other order. -/
namespace L2
open ClX
open PySem PySem.Spec PyProof.Rows
def swap2 {α : Type} : List α → List α → List α
  | [], [a, b] => [b, a]
  | _, _ => []
structure OkXS (P : Program) (w : World) (K : PySem.W.Frag) (mg : Str → Option Value) (base : Heap) (k : Nat) (f : Addr) (ps ks : List Str) (sp : Sp) : Prop where
  ex : ∃ fd, FnOk P w K mg base (L2.CX P w) k f fd ps sp ∧ KBinds K fd ps ks (fun us ws => swap2 us ws) (fun vs zs => swap2 vs zs)
  kp : PySem.W.keepIn K (.ref f) = true
section
variable {P : Program} {w : World} {K : PySem.W.Frag} {mg : Str → Option Value} {base : Heap}
theorem FnT.okXS {x qual p0 p1 : Str} {st : Stmt} {f : Addr} {N : List Str} {k : Nat} {sp : Sp} (h : FnT K x qual st f) (S : FnScope N [p0, p1] (defScope st))
    (hb : ∀ (kV doc pm : Value) (an : Option Addr) (cdv ct u v : Value), bindArgs (PySem.W.fnOf x qual (defArgs st) (defBody st) (defScope st) .none kV doc pm an cdv ct) ⟨[], [(p1, u), (p0, v)]⟩ = pure [(p0, v), (p1, u)])
    (len : ∀ vs H Q E, sp vs H Q E → vs.length = 2) (body : BodyX P w K mg base N qual st f k sp) : OkXS P w K mg base (k + 1) f [p0, p1] [p1, p0] sp := by
  obtain ⟨fd, F⟩ := h.ex
  refine ⟨⟨fd, F.okX S len body, F.kbinds 0 [p1, p0] swap2 (fun us ws hl => ?_) (fun r q => ?_) fun kV doc pm an cdv ct us ws h1 h2 => ?_⟩, F.kp⟩
  · match us, ws, hl with
    | [], [_, _], _ => exact ⟨rfl, rfl⟩
    | [], [], hl => cases hl
    | [], [_], hl => cases hl
    | [], _ :: _ :: _ :: _, hl => cases hl
    | _ :: _, _, hl => cases hl
  · cases r with
    | nil =>
      cases q with
      | nil => exact .nil
      | cons a q =>
        cases q with
        | nil => exact .nil
        | cons b q =>
          cases q with
          | nil => exact .cons b (.cons a .nil)
          | cons _ _ => exact .nil
    | cons _ _ => exact .nil
  · match us, h1, ws, h2 with
    | [], _, [u, v], _ => exact hb kV doc pm an cdv ct u v
end
def oCallS (sp : Sp) (E : St → XK) (tk : TA) : TE := fun σ H Q => tk σ H fun zs H1 => sp (swap2 [] zs) H1 Q (E σ)
theorem px_callS {X : Cx} {k : Nat} {f : Addr} {ps ks : List Str} {sp : Sp} {E : St → XK} {x : Str} {p pos : Pos} {kws : List Keyword} {tk : TA} (G : OkXS X.prog X.w X.K X.mg X.base k f ps ks sp) (hx : ∀ σ, PassesAt (L2.CX X.prog X.w) X σ (E σ)) (hr : Room k X.A)
    (hm : X.mg x = some (.ref f)) (hkw : PK X kws tk) (hg : Gl X x := by rfl) (hall : (backToKw pos (keywordEach kws X.env)).all (·.1.isSome) = true := by rfl) (hks : (backToKw pos (keywordEach kws X.env)).filterMap (·.1) = ks := by rfl)
    (hdb : (x == ("__debug__" : Str)) = false := by decide) (hpl : ((backTo pos (starEach [] X.env)).any (·.1) || (backToKw pos (keywordEach kws X.env)).any (·.1.isNone)) = false := by rfl) :
    PE X (.Call (.Name x p) [] kws pos) (oCallS sp E tk) := by
  obtain ⟨⟨fd, F, b⟩, kp⟩ := G
  refine ⟨fun pn s σ H Q I h => ?_⟩
  refine wpAny_Call_Name_kw (ld_glob I hg hm ?_ hdb)
  refine PySem.W.callWith_KW0 (first := []) (h₀ := X.base) I.ok.mod.kin kp hall ?_ hpl
  refine thn (hkw.run pos pn s σ H _ I h) fun ws s2 ⟨zs, H2, I2, rz, q2⟩ => ⟨I2.kIn, ?_⟩
  rw [hks]
  have rv : Vals (swap2 [] zs) (swap2 [] ws) := b.rel .nil rz
  have hl : (swap2 [] ws).length = ps.length := by
    rw [← rv.length]
    exact F.len _ _ _ _ q2
  refine wpAny_call (codeAny_mono (F.run X.A X.stack s2 H2 ⟨[], ks.zip ws⟩ (swap2 [] ws) (swap2 [] zs) Q (E σ) hr I2.env0 (b.to s2 [] ws I2.kIn hl) rv q2) fun r s3 z => ?_)
  match r, z with
  | .error e2, z => exact hx σ pn H2 s2 e2 s3 I2 z
  | .ok (.ret u2), z => exact I2.after z
  | .ok .next, z => exact z.elim
  | .ok .brk, z => exact z.elim
  | .ok .cont, z => exact z.elim
end L2

/-! Own layer: a property read off an instance whose class is found at run time; f-strings. -/
namespace L2
open ClX
open PySem PySem.Spec PyProof.Rows
theorem propOf_mk {K : PySem.W.Frag} {C p g : Addr} {f : Str} {rest : List Value} (a : PySem.W.findIn K (.ref C) f = some (some (.ref p))) (b : PySem.W.specialIn K (.ref p) "__get__" = some (some (.builtin "property.__get__"))) (c : PySem.W.takesIn K (.ref p) = some true) (d : PySem.W.recIn K p "property" = some (.ref g :: rest)) : PropOf K C f p g := ⟨a, b, c, rest, d⟩
def tPropD (K : PySem.W.Frag) (f : Str) (p g : Addr) (sp : Sp) (ta : TE) : TE := fun σ H Q => ta σ H fun x H1 => ∃ a C dx fs, x = .ref a ∧ H1 a = some (.ins C dx fs) ∧ Cls K C ∧ PropOf K C f p g ∧ sp [.ref a] H1 Q E0
theorem po_propD {X : Cx} {k : Nat} {p g : Addr} {ps : List Str} {sp : Sp} {e : Expr} {f : Str} {pos : Pos} {ta : TE} (G : Ok1 X.prog X.w X.K X.mg X.base k g ps sp) (hr : Room (k + 1) X.A) (he : PE X e ta) (hab : attributeBase e f X.env (eval e X.env) = eval e X.env := by rfl) :
    PE X (.Attribute e f pos) (tPropD X.K f p g sp ta) := by
  obtain ⟨⟨fd, F, b⟩, kp⟩ := G
  refine ⟨fun pins s σ H Q I h => ?_⟩
  refine attr_of hab (thn (he.run pins s σ H _ I h) fun u s1 ⟨x, H1, I1, rx, a, C, dx, fs, ex, ea, c, hp, q⟩ => ?_)
  subst ex
  obtain rfl : u = Value.ref a := rx
  exact getprop_ok I1 ea c hp F hr b .nil pass0 q
end L2

/-! Own layer: the set that a comprehension makes of texts, and its size. -/
set_option Elab.async false
set_option linter.all false
set_option maxRecDepth 100000
set_option maxHeartbeats 4000000
namespace OwnSet
open PySem PySem.Spec PyProof.Rows L2 PpSet
/-- one more member -/
def putM (ms : List Str) (y : Str) : List Str := if ms.any (· == y) then ms else ms ++ [y]
theorem putM_any (ms : List Str) (y k : Str) : (putM ms y).any (· == k) = (ms.any (· == k) || decide (k = y)) := by
  unfold putM
  split
  · rename_i c
    by_cases e : k = y
    · subst e
      rw [c]
      rfl
    · rw [decide_eq_false e, Bool.or_false]
  · rw [List.any_append]
    congr 1
    simp only [List.any_cons, List.any_nil, Bool.or_false]
    by_cases e : k = y
    · subst e
      simp
    · rw [decide_eq_false e]
      exact beq_eq_false_iff_ne.mpr fun q => e q.symm
theorem putM_len (ms : List Str) (y : Str) : (putM ms y).length = if (ms.any (· == y)) = true then ms.length else ms.length + 1 := by
  unfold putM
  split <;> simp_all
/-- a set of texts at a place -/
def TxS (P : Program) (w : World) (a : Addr) (ms : List Str) : HO := .ext fun h => h.SetOf (PySem.strKind P w) a (fun y => ms.any (· == y)) ms.length
theorem txs_ok {P : Program} {w : World} {H : Hp} {h : Heap} {a : Addr} {ms : List Str} (R : h.SetOf (PySem.strKind P w) a (fun y => ms.any (· == y)) ms.length) : ObjOk P w H h a (TxS P w a ms) := by
  have R' := R
  obtain ⟨o, es, ep, t, ho, r⟩ := R'
  refine ⟨R, ⟨o, ho⟩, fun h1 h2 z k => ?_⟩
  obtain ⟨o', es', ep', t', ho', r'⟩ := z
  exact ⟨o', es', ep', t', k o' ho', r'⟩
section
variable {X : Cx}
theorem txs_get {pins : List (Addr × Obj)} {σ : L2.St} {H : Hp} {s : Shared} {a : Addr} {ms : List Str} (I : Inv X pins σ H s) (ha : H a = some (TxS X.prog X.w a ms)) : s.heap.SetOf (PySem.strKind X.prog X.w) a (fun y => ms.any (· == y)) ms.length := (I.hok a _ ha).1
theorem txs_add {pins : List (Addr × Obj)} {σ : L2.St} {H : Hp} {s : Shared} {E : Value → Shared → Prop} {D : Addr} {ms : List Str} {y : Str} {tk : Tok} {Q : Value → Shared → Prop} (I : Inv X pins σ H s) (hD : H D = some (TxS X.prog X.w D ms)) (room : ms.length + 1 < scanBound)
    (h : ∀ s', Inv X pins σ (upd H D (TxS X.prog X.w D (putM ms y))) s' → Q .none s') : wpAny (model X.prog X.w) X.A (call (.builtin "set.add") [.ref D, .str y tk]) Q E s := by
  refine call_set_add (knd := PySem.strKind X.prog X.w) (strKind_is _ _ y tk) rfl (txs_get I hD) room fun h' sb new => ?_
  have new2 : h'.SetOf (PySem.strKind X.prog X.w) D (fun k => (putM ms y).any (· == k)) (putM ms y).length := SetOf_congr new (fun k => (putM_any ms y k).symm) (putM_len ms y).symm
  have has : ∃ u, h'.get? D = some u := by
    obtain ⟨o, _, _, _, ho, _⟩ := new
    exact ⟨o, ho⟩
  exact h _ (I.write (e := D) (t' := s.toks + 1) (by rw [hD]; trivial) (.inl rfl) (fun b u hb hu => (sb.2 b hb).trans hu) has (txs_ok new2))

/-- {elt for target in iter if ..}, elt a text: D is the set -/
def tSx (P : Program) (w : World) (wi : TI) (g : TG) (tt : TT) (te : TE) (own : List Nat) : TE := fun σ H Q => wi σ H fun J H1 => ∀ D, H1 D = none → ∃ W : Nat → Nat → Hp → Prop, (∃ m, W 0 m (upd H1 D (TxS P w D []))) ∧
  ∀ i m H, W i m H → (J.stop i H ∧ Q (.ref D) H) ∨ (J.go i H ∧ ∃ Nx : Hp → Prop, (∀ H', Nx H' → ∃ m', m' < m ∧ W (i + 1) m' H') ∧ ∀ x H', J.yld i H x H' → g x (wipe σ own) H' fun σ2 H2 => wipe σ2 own = wipe σ own ∧
    tt σ2 H2 fun b H3 => if b = true then te σ2 H3 fun y H4 => ∃ (z : Str) (ms : List Str), y = .str z ∧ H4 D = some (TxS P w D ms) ∧ ms.length + 1 < scanBound ∧ Nx (upd H4 D (TxS P w D (putM ms z))) else Nx H3)
theorem sx_core {pins : List (Addr × Obj)} {s : Shared} {σ : L2.St} {H : Hp} {Q : VK} {elt tg iter : Expr} {ifs : List Expr} {sc : Scope} {own : List (PySem.Str × Nat)} {pos pos' : Pos} {wi : TI} {g : TG} {tt : TT} {te : TE} {Qf : Value → Shared → Prop} {use : Option (Value → Sem Unit)}
    (calm : X.calm = true) (nd : X.N.Nodup) (I : Inv X pins σ H s) (ri : PI X tg iter wi) (blk : BlkOk X.N X.env.scope sc own)
    (rg : ∀ (s : Shared) (H : Hp) (C : Addr) (cl : List (PySem.Str × Addr)) (ex : List Addr), PG (X.blk s H sc (compEnvC sc cl C X.env) ex) tg g)
    (rt : ∀ (s : Shared) (H : Hp) (C : Addr) (cl : List (PySem.Str × Addr)) (ex : List Addr), PTs (X.blk s H sc (compEnvC sc cl C X.env) ex) ifs tt)
    (re : ∀ (s : Shared) (H : Hp) (C : Addr) (cl : List (PySem.Str × Addr)) (ex : List Addr), PE (X.blk s H sc (compEnvC sc cl C X.env) ex) elt te)
    (fold : ∀ x, foldedSetIterable iter X.env x = pure x) (h : tSx X.prog X.w wi g tt te (own.map (·.2)) σ H Q)
    (out : ∀ D C s' m H', Inv X pins σ H' s' → Q (.ref D) H' → s'.heap.Ns C m → FpOk X pins H' C → compPost (model X.prog X.w) X.A X.xe use Qf (.ref D) C (.ok .next) s') :
    wpAny (model X.prog X.w) X.A (comprehension (.SetComp elt [⟨tg, iter, ifs, 0⟩] sc pos) sc X.env pos' (PySem.newSet (.type "set")) false (eval iter X.env) use) Qf X.xe s := by
  have frees : ∀ y ∈ sc.names, y.2 = .free → ∃ c, X.env.cells.lookup y.1 = some c := fun y my e => (blk.free y my e).elim (fun k => I.ok.has _ (.inl k)) (fun k => I.ok.has _ (.inr k))
  refine wpAny_comprehension_free (use := use) rfl fold (closure_ok frees) blk.kind (fun y my e => by rw [blk.uniq y my, e]) (thn (ri.run pins s σ H _ I h) fun xv s1 q1 => thn q1 fun itv s2 q2 => ?_)
  obtain ⟨it, ex, tn, J, H2, rfl, I2, T, st2, f2, q⟩ := q2
  refine wpAny_newSet_of (knd := PySem.strKind X.prog X.w) (fun led fresh => newEnv_comp ?_)
  generalize eD : s2.heap.objs.size = D at fresh
  have freeD : H2 D = none := I2.hok.fresh (Nat.le_of_eq eD)
  obtain ⟨W, ⟨m0, w0⟩, turn⟩ := q D freeD
  generalize e3 : ({ s2 with heap := s2.heap.push { cls := .type "set", dict := none, data := .set #[] 0 (.fresh 0 0 led) } } : Shared) = s3
  have p3 : s3.heap = s2.heap.push { cls := .type "set", dict := none, data := .set #[] 0 (.fresh 0 0 led) } := by rw [← e3]
  have more3 : ∀ b o, s2.heap.get? b = some o → s3.heap.get? b = some o := fun b o z => by rw [p3]; exact Heap.get?_push_of_some _ z
  have new3 : s3.heap.SetOf (PySem.strKind X.prog X.w) D (fun y => ([] : List Str).any (· == y)) ([] : List Str).length := by
    rw [p3]
    exact SetOf_congr fresh (fun _ => rfl) rfl
  have I3 : Inv X pins σ (upd H2 D (TxS X.prog X.w D [])) s3 := by
    have z := I2.laid (h' := s3.heap) (t' := s2.toks) (a := D) more3 (Nat.le_of_eq eD) (txs_ok new3)
    rw [← e3] at z ⊢
    exact z
  have lt2 : ∀ b ∈ ex, b < s2.heap.objs.size := fun b mb => let ⟨_, z, _⟩ := T.obj _ _ st2 b mb; Heap.lt_size z
  have f3 : ∀ b ∈ ex, FpOk X pins (upd H2 D (TxS X.prog X.w D [])) b ∧ b < s3.heap.objs.size := fun b mb => by
    refine ⟨⟨?_, (f2 b mb).2⟩, by rw [p3, Heap.size_push]; exact Nat.lt_succ_of_lt (lt2 b mb)⟩
    have ne : b ≠ D := by rw [← eD]; exact Nat.ne_of_lt (lt2 b mb)
    rw [upd_ne ne]
    exact (f2 b mb).1
  have st3 : tn 0 s3.heap := T.keep _ _ _ st2 fun b _ o z => more3 b o z
  have I4 := block_start I3 blk nd f3
  generalize eH : upd H2 D (TxS X.prog X.w D []) = H3 at w0 I3 f3 I4
  have gg := rg s3 H3 s3.heap.objs.size (cellsFrom (s3.heap.objs.size + 1) sc.names (cloFrom X.env.cells sc.names [])) ex
  have gt := rt s3 H3 s3.heap.objs.size (cellsFrom (s3.heap.objs.size + 1) sc.names (cloFrom X.env.cells sc.names [])) ex
  have ge := re s3 H3 s3.heap.objs.size (cellsFrom (s3.heap.objs.size + 1) sc.names (cloFrom X.env.cells sc.names [])) ex
  have n3 : ∀ b ∈ ex, H3 b = none := fun b mb => (f3 b mb).1.1
  generalize ec : compEnvC sc (cellsFrom (s3.heap.objs.size + 1) sc.names (cloFrom X.env.cells sc.names [])) s3.heap.objs.size X.env = ce at I4 gg gt ge
  have lc : ce.locals = s3.heap.objs.size := by rw [← ec]; rfl
  show codeAny _ _ (.compStart (.SetComp elt [⟨tg, iter, ifs, 0⟩] sc pos) 0 (.ref it) (.ref D) (compEnvC sc (cellsFrom (s3.heap.objs.size + 1) sc.names (cloFrom X.env.cells sc.names [])) s3.heap.objs.size X.env)) (compPost (model X.prog X.w) X.A X.xe use Qf (.ref D) s3.heap.objs.size)
    { s3 with heap := pushCells (s3.heap.push { cls := .type "dict", data := .dict #[] }) sc.names }
  rw [ec]
  generalize e4 : ({ s3 with heap := pushCells (s3.heap.push { cls := .type "dict", data := .dict #[] }) sc.names } : Shared) = s4 at I4 ⊢
  have st4 : tn 0 s4.heap := T.keep _ _ _ st3 fun b _ o z => by
    rw [← e4]
    exact pushCells_keeps _ _ _ _ (Heap.get?_push_of_some _ z)
  have calmFp : ∀ {σ' : L2.St} {H' : Hp} {s' : Shared}, Inv (X.blk s3 H3 sc ce ex) [] σ' H' s' → (∀ b ∈ ex, H' b = none) → ∀ b ∈ ex, FpOk (X.blk s3 H3 sc ce ex) [] H' b := fun {σ' H' s'} J nn b mb =>
    ⟨nn b mb, (J.ok.exf b mb).1, J.ok.exfs b mb, .inl mb, (J.ok.exf b mb).2, fun p mp => absurd (show p ∈ ([] : List (Addr × Obj)) ++ [] from mp) (by simp)⟩
  let Pn : Nat → Shared → Prop := fun n s' => ∃ i H', Inv (X.blk s3 H3 sc ce ex) [] (wipe σ (own.map (·.2))) H' s' ∧ tn i s'.heap ∧ (∀ b ∈ ex, H' b = none) ∧ W i n H'
  have loop : codeAny (model X.prog X.w) X.A (.compLoop (.SetComp elt [⟨tg, iter, ifs, 0⟩] sc pos) 0 (.ref it) (.ref D) ce) (compPost (model X.prog X.w) X.A X.xe use Qf (.ref D) s3.heap.objs.size) s4 := by
    refine compLoopS_any Pn ?_ m0 ⟨0, H3, I4, st4, n3, w0⟩
    rintro n s5 ⟨i, H5, I5, st5, n5, w5⟩
    rcases turn i n H5 w5 with ⟨stop, fin⟩ | ⟨go, Nx, nxt, step⟩
    · refine thnF (T.done (X.blk s3 H3 sc ce ex) rfl rfl rfl calm i [] s5 _ H5 (fun _ _ => False) I5 (calmFp I5 n5) st5 stop) fun r s6 ⟨er, I6⟩ => ?_
      subst er
      have nC : H5 s3.heap.objs.size = none := lc ▸ (show H5 ce.locals = none from I6.free)
      obtain ⟨m, nm, _⟩ := I6.loc
      have nm : s6.heap.Ns s3.heap.objs.size m := lc ▸ (show s6.heap.Ns ce.locals m from nm)
      refine out D s3.heap.objs.size s6 m H5 (I3.call' (ch := ex) I6.os I6.base I6.hok I6.bare fun b mb => ?_) fin nm (I3.fpOk (Nat.le_refl _) nC)
      have z := (f3 b mb).1.2
      exact ⟨z.2.2.1, z.1, z.2.2.2.1, z.2.2.2.2⟩
    · refine thnF (T.item (X.blk s3 H3 sc ce ex) rfl rfl rfl calm i [] s5 _ H5 (fun _ _ => False) I5 (calmFp I5 n5) st5 go) fun r s6 ⟨u, er, q6⟩ => ?_
      subst er
      refine thnF q6 fun _ s7 ⟨x, H7, I7, r7, y7, st7, n7⟩ => ?_
      refine thnF (gg.run _ s7 _ H7 x u _ (I7.pinned (calmFp I7 n7) (T.obj _ _ st7)) r7 (step x H7 y7)) fun _ s8 ⟨σ8, H8, I8, ew, q8⟩ => ?_
      refine thnF (gt.run _ s8 σ8 H8 _ I8 q8) fun b s9 ⟨H9, I9, q9⟩ => ?_
      have again : ∀ {s' : Shared} {H' : Hp}, Inv (X.blk s3 H3 sc ce ex) ([] ++ pinsAt ex s7.heap) σ8 H' s' → Nx H' → ∃ m, m < n ∧ Pn m s' := fun {s' H'} J nx => by
        obtain ⟨m', lm, w'⟩ := nxt H' nx
        have stay : ∀ c ∈ ex, ∀ o, s7.heap.get? c = some o → s'.heap.get? c = some o ∧ H' c = none := fun c mc o z => by
          have y := J.pin (c, o) (List.mem_append_right _ (List.mem_append_right _ (mem_pinsAt mc z)))
          exact ⟨y.1, y.2.1⟩
        refine ⟨m', lm, i + 1, H', (J.unpinned (pins := [])).weak (by rw [← ew, wipe_length]) (fun j v z => ?_), T.keep _ _ _ st7 fun c mc o z => (stay c mc o z).1, fun c mc => ?_, w'⟩
        · rw [← ew] at z
          exact (wipe_some z).1
        · obtain ⟨o, z, _⟩ := T.obj _ _ st7 c mc
          exact (stay c mc o z).2
      have q9 : if b = true then te σ8 H9 (fun y H4 => ∃ (z : Str) (ms : List Str), y = .str z ∧ H4 D = some (TxS X.prog X.w D ms) ∧ ms.length + 1 < scanBound ∧ Nx (upd H4 D (TxS X.prog X.w D (putM ms z)))) else Nx H9 := q9
      by_cases hb : b = true
      · subst hb
        rw [if_pos rfl] at q9 ⊢
        refine thnF (ge.run _ s9 σ8 H9 _ I9 q9) fun z s10 ⟨yv, H10, I10, r10, zt, ms, ey, hD, small, nx⟩ => ?_
        subst ey
        obtain ⟨tk, ez⟩ := r10
        subst ez
        exact txs_add (X := X.blk s3 H3 sc ce ex) I10 hD small fun s11 I11 => again I11 nx
      · rw [if_neg hb] at q9 ⊢
        exact again I9 q9
  exact codeAny_compStart_set loop (T.self X.A 0 _ _ _ st4 loop)
/-- as a value; the inner words are found by the terms -/
theorem pe_sxD {elt tg iter : Expr} {ifs : List Expr} {scope : Scope} {own : List (Str × Nat)} {pos : Pos} {wi : TI} {g' : Shared → Hp → Addr → List (Str × Addr) → List Addr → TG} {tt' : Shared → Hp → Addr → List (Str × Addr) → List Addr → TT}
    {te' : Shared → Hp → Addr → List (Str × Addr) → List Addr → TE} (hc : X.calm = true) (hN : X.N.Nodup) (hi : PI X tg iter wi) (ok : BlkOk X.N X.env.scope scope own)
    (hg : ∀ (s : Shared) (H : Hp) (C : Addr) (cl : List (Str × Addr)) (fp : List Addr), PG (X.blk s H scope (compEnvC scope cl C X.env) fp) tg (g' s H C cl fp))
    (ht : ∀ (s : Shared) (H : Hp) (C : Addr) (cl : List (Str × Addr)) (fp : List Addr), PTs (X.blk s H scope (compEnvC scope cl C X.env) fp) ifs (tt' s H C cl fp))
    (he : ∀ (s : Shared) (H : Hp) (C : Addr) (cl : List (Str × Addr)) (fp : List Addr), PE (X.blk s H scope (compEnvC scope cl C X.env) fp) elt (te' s H C cl fp))
    (eg : ∀ s H C cl fp, g' s H C cl fp = g' X.s_0 X.H_0 0 [] [] := by intro _ _ _ _ _; rfl) (et : ∀ s H C cl fp, tt' s H C cl fp = tt' X.s_0 X.H_0 0 [] [] := by intro _ _ _ _ _; rfl)
    (ee : ∀ s H C cl fp, te' s H C cl fp = te' X.s_0 X.H_0 0 [] [] := by intro _ _ _ _ _; rfl) (hs : ∀ x, foldedSetIterable iter X.env x = pure x := by intro _; rfl) :
    PE X (.SetComp elt [⟨tg, iter, ifs, 0⟩] scope pos) (tSx X.prog X.w wi (g' X.s_0 X.H_0 0 [] []) (tt' X.s_0 X.H_0 0 [] []) (te' X.s_0 X.H_0 0 [] []) (own.map (·.2))) := by
  refine ⟨fun pins s σ H Q I h => ?_⟩
  rw [eval_SetComp]
  refine sx_core hc hN I hi ok (fun s H C cl fp => eg s H C cl fp ▸ hg s H C cl fp) (fun s H C cl fp => et s H C cl fp ▸ ht s H C cl fp) (fun s H C cl fp => ee s H C cl fp ▸ he s H C cl fp) hs h fun D C s' m H' J q nm f => ⟨m, nm, fun h2 sb => ?_⟩
  obtain ⟨a0, a1, _, a3, a4, a5⟩ := f
  exact ⟨.ref D, H', J.turned (t' := s'.toks) (fun b o ne e => (sb.2 b ne).trans e) a0 a1 a3 a4 a5, rfl, q⟩
/-- len of a set of texts -/
def rLenTx (P : Program) (w : World) : List V → Hp → VK → Prop := fun xs H Q => ∃ (a : Addr) (ms : List Str), xs = [V.ref a] ∧ H a = some (TxS P w a ms) ∧ ms.length < scanBound ∧ Q (.int (ms.length : Nat)) H
theorem call_lenTx : CallR X (.builtin "len") (rLenTx X.prog X.w) := by
  intro pins s σ H xs us Q I r h
  obtain ⟨a, ms, rfl, ha, small, q⟩ := h
  cases r with
  | cons ra rt =>
    cases rt
    cases ra
    obtain ⟨o, es, ep, t, ho, hex, hd, _, _, _, hf, hn⟩ := txs_get I ha
    exact call_len_set ho hex hd hf (by rw [hn]; unfold scanBound at small; omega) ⟨.int _, H, I.tok _, ⟨_, by rw [hn]⟩, q⟩
/-- over a list that the block leaves as it is -/
theorem sx_list {P : Program} {w : World} {K : PySem.W.Frag} {a : Addr} {xs : List V} {g : TG} {tt : TT} {te : TE} {vs : List Nat} {σ : L2.St} {H1 : Hp} {D : Addr} {Qd : Hp → Prop} (Pv : Nat → Hp → Prop) (h0 : Pv 0 (upd H1 D (TxS P w D []))) (hl : ∀ i H, i ≤ xs.length → Pv i H → SqL K H a xs)
    (hs : ∀ i x H, xs[i]? = some x → Pv i H → g x (wipe σ vs) H fun σ2 H2 => wipe σ2 vs = wipe σ vs ∧ tt σ2 H2 fun b H3 =>
      if b = true then te σ2 H3 fun y H4 => ∃ (z : Str) (ms : List Str), y = .str z ∧ H4 D = some (TxS P w D ms) ∧ ms.length + 1 < scanBound ∧ Pv (i + 1) (upd H4 D (TxS P w D (putM ms z))) else Pv (i + 1) H3) (hd : ∀ H, Pv xs.length H → Qd H) :
    ∃ W : Nat → Nat → Hp → Prop, (∃ m, W 0 m (upd H1 D (TxS P w D []))) ∧ ∀ i m H, W i m H → ((Itl K a).stop i H ∧ Qd H) ∨ ((Itl K a).go i H ∧ ∃ Nx : Hp → Prop, (∀ H', Nx H' → ∃ m', m' < m ∧ W (i + 1) m' H') ∧
      ∀ x H', (Itl K a).yld i H x H' → g x (wipe σ vs) H' fun σ2 H2 => wipe σ2 vs = wipe σ vs ∧ tt σ2 H2 fun b H3 =>
        if b = true then te σ2 H3 fun y H4 => ∃ (z : Str) (ms : List Str), y = .str z ∧ H4 D = some (TxS P w D ms) ∧ ms.length + 1 < scanBound ∧ Nx (upd H4 D (TxS P w D (putM ms z))) else Nx H3) := by
  refine ⟨fun i m H => i ≤ xs.length ∧ m + i = xs.length ∧ Pv i H, ⟨xs.length, Nat.zero_le _, rfl, h0⟩, ?_⟩
  rintro i m H ⟨le, sum, p⟩
  have sq := hl i H le p
  rcases Nat.lt_or_eq_of_le le with lt | rfl
  · refine .inr ⟨⟨xs, xs[i], sq, List.getElem?_eq_getElem lt⟩, Pv (i + 1), fun H' p' => ⟨m - 1, by omega, lt, by omega, p'⟩, ?_⟩
    rintro x H' ⟨rfl, y⟩
    exact hs i x _ (y xs sq) p
  · exact .inl ⟨⟨xs, sq, Nat.le_refl _⟩, hd H p⟩
/-- a list beside the empty one, whatever its entries are -/
def rNil (K : PySem.W.Frag) (f : Bool → Bool) : R2 := fun x y H Q => ∃ (a b : Addr) (xs : List V), x = .ref a ∧ y = .ref b ∧ SqL K H a xs ∧ SqL K H b [] ∧ Q (.bl (f (decide (xs = [])))) H
theorem op_eqNil (hu : X.A.units + 64 < cLine) : OpR X (compareOp .Eq) (rNil X.K id) := by
  intro pins s σ H x y v u Q I rx ry h
  obtain ⟨a, b, xs, rfl, rfl, ha, hb, q⟩ := h
  cases rx
  cases ry
  obtain ⟨is, r1, l1, _⟩ := I.list ha
  obtain ⟨js, r2, l2, _⟩ := I.list hb
  cases r2
  cases xs with
  | nil =>
    cases r1
    exact SeqAt.eq_listAt (e := fun _ => true) l1.isList l2.isList rfl (by omega) (fun j h1 _ => absurd h1 (Nat.not_lt_zero _)) ⟨.bl _, H, I, rfl, q⟩
  | cons z zs =>
    cases r1
    exact SeqAt.eq_list_lengthsAt l1.isList l2.isList rfl (by omega) ⟨.bl _, H, I, rfl, q⟩
theorem op_neNil (hu : X.A.units + 64 < cLine) : OpR X (compareOp .NotEq) (rNil X.K fun b => !b) := by
  intro pins s σ H x y v u Q I rx ry h
  obtain ⟨a, b, xs, rfl, rfl, ha, hb, q⟩ := h
  cases rx
  cases ry
  obtain ⟨is, r1, l1, _⟩ := I.list ha
  obtain ⟨js, r2, l2, _⟩ := I.list hb
  cases r2
  cases xs with
  | nil =>
    cases r1
    exact SeqAt.RcNeAt.lists (e := fun _ => true) l1.isList l2.isList rfl (by omega) (fun j h1 _ => absurd h1 (Nat.not_lt_zero _)) _ _ _ _ ⟨.bl _, H, I, rfl, q⟩
  | cons z zs =>
    cases r1
    exact SeqAt.RcNeAt.lists_lengths l1.isList l2.isList rfl (by omega) _ _ _ _ ⟨.bl _, H, I, rfl, q⟩
end
end OwnSet
namespace L2
open ClX
open PySem PySem.Spec PyProof.Rows
def only1 {α : Type} : List α → List α → List α
  | [], [a] => [a]
  | _, _ => []
/-- a def of one parameter, called by its name -/
structure OkX1 (P : Program) (w : World) (K : PySem.W.Frag) (mg : Str → Option Value) (base : Heap) (k : Nat) (f : Addr) (ps : List Str) (sp : Sp) : Prop where
  ex : ∃ fd, FnOk P w K mg base (L2.CX P w) k f fd ps sp ∧ KBinds K fd ps ps (fun us ws => only1 us ws) (fun vs zs => only1 vs zs)
  kp : PySem.W.keepIn K (.ref f) = true
section
variable {P : Program} {w : World} {K : PySem.W.Frag} {mg : Str → Option Value} {base : Heap}
theorem FnT.okX1 {x qual p0 : Str} {st : Stmt} {f : Addr} {N : List Str} {k : Nat} {sp : Sp} (h : FnT K x qual st f) (S : FnScope N [p0] (defScope st))
    (hb : ∀ (kV doc pm : Value) (an : Option Addr) (cdv ct u : Value), bindArgs (PySem.W.fnOf x qual (defArgs st) (defBody st) (defScope st) .none kV doc pm an cdv ct) ⟨[], [(p0, u)]⟩ = pure [(p0, u)])
    (len : ∀ vs H Q E, sp vs H Q E → vs.length = 1) (body : BodyX P w K mg base N qual st f k sp) : OkX1 P w K mg base (k + 1) f [p0] sp := by
  obtain ⟨fd, F⟩ := h.ex
  refine ⟨⟨fd, F.okX S len body, F.kbinds 0 [p0] only1 (fun us ws hl => ?_) (fun r q => ?_) fun kV doc pm an cdv ct us ws h1 h2 => ?_⟩, F.kp⟩
  · match us, ws, hl with
    | [], [_], _ => exact ⟨rfl, rfl⟩
    | [], [], hl => cases hl
    | [], _ :: _ :: _, hl => cases hl
    | _ :: _, _, hl => cases hl
  · cases r with
    | nil =>
      cases q with
      | nil => exact .nil
      | cons a q =>
        cases q with
        | nil => exact .cons a .nil
        | cons _ _ => exact .nil
    | cons _ _ => exact .nil
  · match us, h1, ws, h2 with
    | [], _, [u], _ => exact hb kV doc pm an cdv ct u
end
def oCall1 (sp : Sp) (E : St → XK) (tk : TA) : TE := fun σ H Q => tk σ H fun zs H1 => sp (only1 [] zs) H1 Q (E σ)
theorem px_call1 {X : Cx} {k : Nat} {f : Addr} {ps : List Str} {sp : Sp} {E : St → XK} {x : Str} {p pos : Pos} {kws : List Keyword} {tk : TA} (G : OkX1 X.prog X.w X.K X.mg X.base k f ps sp) (hx : ∀ σ, PassesAt (L2.CX X.prog X.w) X σ (E σ)) (hr : Room k X.A)
    (hm : X.mg x = some (.ref f)) (hkw : PK X kws tk) (hg : Gl X x := by rfl) (hall : (backToKw pos (keywordEach kws X.env)).all (·.1.isSome) = true := by rfl) (hks : (backToKw pos (keywordEach kws X.env)).filterMap (·.1) = ps := by rfl)
    (hdb : (x == ("__debug__" : Str)) = false := by decide) (hpl : ((backTo pos (starEach [] X.env)).any (·.1) || (backToKw pos (keywordEach kws X.env)).any (·.1.isNone)) = false := by rfl) :
    PE X (.Call (.Name x p) [] kws pos) (oCall1 sp E tk) := by
  obtain ⟨⟨fd, F, b⟩, kp⟩ := G
  refine ⟨fun pn s σ H Q I h => wpAny_Call_Name_kw (ld_glob I hg hm ?_ hdb)⟩
  refine PySem.W.callWith_KW0 (first := []) (h₀ := X.base) I.ok.mod.kin kp hall ?_ hpl
  refine thn (hkw.run pos pn s σ H _ I h) fun ws s2 ⟨zs, H2, I2, rz, q2⟩ => ⟨I2.kIn, ?_⟩
  rw [hks]
  have rv : Vals (only1 [] zs) (only1 [] ws) := b.rel .nil rz
  have hl : (only1 [] ws).length = ps.length := by
    rw [← rv.length]
    exact F.len _ _ _ _ q2
  refine wpAny_call (codeAny_mono (F.run X.A X.stack s2 H2 ⟨[], ps.zip ws⟩ (only1 [] ws) (only1 [] zs) Q (E σ) hr I2.env0 (b.to s2 [] ws I2.kIn hl) rv q2) fun r s3 z => ?_)
  match r, z with
  | .error e2, z => exact hx σ pn H2 s2 e2 s3 I2 z
  | .ok (.ret u2), z => exact I2.after z
  | .ok .next, z => exact z.elim
  | .ok .brk, z => exact z.elim
  | .ok .cont, z => exact z.elim
end L2

/-! Own layer: a new dict that a loop goes over at once; dict comprehensions over any walk. -/
set_option Elab.async false
set_option linter.all false
set_option maxRecDepth 100000
set_option maxHeartbeats 4000000
namespace L2
open ClX
open PySem PySem.Spec PyProof.Rows
section
variable {X : Cx}
/-- a thing that is made here and left as it is from here on -/
def tFreeze (td : TE) : TE := fun σ H Q => td σ H fun x H1 => ∃ d u, x = .ref d ∧ H1 d = some u ∧ Mut (some u) ∧ ∀ od, Q x (upd H1 d (.frz od u))
theorem pe_freeze {e : Expr} {td : TE} (he : PE X e td) : PE X e (tFreeze td) := by
  refine ⟨fun pins s σ H Q I h => thn (he.run pins s σ H _ I h) fun v s1 ⟨x, H1, I1, r1, d, u, ex, hd, mu, q⟩ => ?_⟩
  obtain ⟨od, I2⟩ := I1.lock hd mu
  exact ⟨x, _, I2, r1, q od⟩
theorem pe_dcD {kx vx tg iter : Expr} {ifs : List Expr} {scope : Scope} {own : List (Str × Nat)} {pos : Pos} {wi : TI} {g' : Shared → Hp → Addr → List (Str × Addr) → List Addr → TG} {tt' : Shared → Hp → Addr → List (Str × Addr) → List Addr → TT}
    {tk' tv' : Shared → Hp → Addr → List (Str × Addr) → List Addr → TE} (hc : X.calm = true) (hN : X.N.Nodup) (hi : PI X tg iter wi) (ok : BlkOk X.N X.env.scope scope own)
    (hg : ∀ (s : Shared) (H : Hp) (C : Addr) (cl : List (Str × Addr)) (fp : List Addr), PG (X.blk s H scope (compEnvC scope cl C X.env) fp) tg (g' s H C cl fp))
    (ht : ∀ (s : Shared) (H : Hp) (C : Addr) (cl : List (Str × Addr)) (fp : List Addr), PTs (X.blk s H scope (compEnvC scope cl C X.env) fp) ifs (tt' s H C cl fp))
    (hk : ∀ (s : Shared) (H : Hp) (C : Addr) (cl : List (Str × Addr)) (fp : List Addr), PE (X.blk s H scope (compEnvC scope cl C X.env) fp) kx (tk' s H C cl fp))
    (he : ∀ (s : Shared) (H : Hp) (C : Addr) (cl : List (Str × Addr)) (fp : List Addr), PE (X.blk s H scope (compEnvC scope cl C X.env) fp) vx (tv' s H C cl fp))
    (eg : ∀ s H C cl fp, g' s H C cl fp = g' X.s_0 X.H_0 0 [] [] := by intro _ _ _ _ _; rfl) (et : ∀ s H C cl fp, tt' s H C cl fp = tt' X.s_0 X.H_0 0 [] [] := by intro _ _ _ _ _; rfl)
    (ek : ∀ s H C cl fp, tk' s H C cl fp = tk' X.s_0 X.H_0 0 [] [] := by intro _ _ _ _ _; rfl) (ee : ∀ s H C cl fp, tv' s H C cl fp = tv' X.s_0 X.H_0 0 [] [] := by intro _ _ _ _ _; rfl)
    (hs : ∀ x, foldedSetIterable iter X.env x = pure x := by intro _; rfl) :
    PE X (.DictComp kx vx [⟨tg, iter, ifs, 0⟩] scope pos) (tDc wi (g' X.s_0 X.H_0 0 [] []) (tt' X.s_0 X.H_0 0 [] []) (tk' X.s_0 X.H_0 0 [] []) (tv' X.s_0 X.H_0 0 [] []) (own.map (·.2))) :=
  pe_dc hc hN hi ok (fun s H C cl fp => eg s H C cl fp ▸ hg s H C cl fp) (fun s H C cl fp => et s H C cl fp ▸ ht s H C cl fp) (fun s H C cl fp => ek s H C cl fp ▸ hk s H C cl fp) (fun s H C cl fp => ee s H C cl fp ▸ he s H C cl fp) hs
/-- a dict comprehension over any walk -/
theorem dc_it {J : It} {n : Nat} {G : Hp → Prop} {Y : Nat → Hp → V → Hp → Prop} (w : Walk J n G Y) {g : TG} {tt : TT} {tk tv : TE} {vs : List Nat} {σ : St} {H1 : Hp} {D : Addr} {Qd : Hp → Prop} (Pv : Nat → Hp → Prop) (h0 : Pv 0 (upd H1 D (.dK []))) (hG : ∀ i H, i ≤ n → Pv i H → G H)
    (hs : ∀ i x H H', i < n → Pv i H → Y i H x H' → g x (wipe σ vs) H' fun σ2 H2 => wipe σ2 vs = wipe σ vs ∧ tt σ2 H2 fun b H3 =>
      if b = true then tk σ2 H3 fun y H4 => tv σ2 H4 fun z H5 => ∃ kvs k, y = kV k ∧ H5 D = some (.dK kvs) ∧ kvs.length < sizeLine ∧ Pv (i + 1) (upd H5 D (.dK (putK kvs k z))) else Pv (i + 1) H3) (hd : ∀ H, Pv n H → Qd H) :
    ∃ W : Nat → Nat → Hp → Prop, (∃ m, W 0 m (upd H1 D (.dK []))) ∧ ∀ i m H, W i m H → (J.stop i H ∧ Qd H) ∨ (J.go i H ∧ ∃ Nx : Hp → Prop, (∀ H', Nx H' → ∃ m', m' < m ∧ W (i + 1) m' H') ∧
      ∀ x H', J.yld i H x H' → g x (wipe σ vs) H' fun σ2 H2 => wipe σ2 vs = wipe σ vs ∧ tt σ2 H2 fun b H3 =>
        if b = true then tk σ2 H3 fun y H4 => tv σ2 H4 fun z H5 => ∃ kvs k, y = kV k ∧ H5 D = some (.dK kvs) ∧ kvs.length < sizeLine ∧ Nx (upd H5 D (.dK (putK kvs k z))) else Nx H3) := by
  refine ⟨fun i m H => i ≤ n ∧ m + i = n ∧ Pv i H, ⟨n, Nat.zero_le _, rfl, h0⟩, ?_⟩
  rintro i m H ⟨le, sum, p⟩
  have ok := hG i H le p
  rcases Nat.lt_or_eq_of_le le with lt | rfl
  · exact .inr ⟨w.goes i H lt ok, Pv (i + 1), fun H' p' => ⟨m - 1, by omega, lt, by omega, p'⟩, fun x H' y => hs i x H H' lt p (w.yields i H x H' lt ok y)⟩
  · exact .inl ⟨w.stops H ok, hd H p⟩
end
end L2

/-! Own layer: a def that may raise, called by three keywords in the opposite order. -/
namespace L2
open ClX
open PySem PySem.Spec PyProof.Rows
def swap3 {α : Type} : List α → List α → List α
  | [], [a, b, c] => [c, b, a]
  | _, _ => []
structure OkX3 (P : Program) (w : World) (K : PySem.W.Frag) (mg : Str → Option Value) (base : Heap) (k : Nat) (f : Addr) (ps ks : List Str) (sp : Sp) : Prop where
  ex : ∃ fd, FnOk P w K mg base (L2.CX P w) k f fd ps sp ∧ KBinds K fd ps ks (fun us ws => swap3 us ws) (fun vs zs => swap3 vs zs)
  kp : PySem.W.keepIn K (.ref f) = true
section
variable {P : Program} {w : World} {K : PySem.W.Frag} {mg : Str → Option Value} {base : Heap}
theorem FnT.okX3 {x qual p0 p1 p2 : Str} {st : Stmt} {f : Addr} {N : List Str} {k : Nat} {sp : Sp} (h : FnT K x qual st f) (S : FnScope N [p0, p1, p2] (defScope st))
    (hb : ∀ (kV doc pm : Value) (an : Option Addr) (cdv ct u v y : Value), bindArgs (PySem.W.fnOf x qual (defArgs st) (defBody st) (defScope st) .none kV doc pm an cdv ct) ⟨[], [(p2, u), (p1, v), (p0, y)]⟩ = pure [(p0, y), (p1, v), (p2, u)])
    (len : ∀ vs H Q E, sp vs H Q E → vs.length = 3) (body : BodyX P w K mg base N qual st f k sp) : OkX3 P w K mg base (k + 1) f [p0, p1, p2] [p2, p1, p0] sp := by
  obtain ⟨fd, F⟩ := h.ex
  refine ⟨⟨fd, F.okX S len body, F.kbinds 0 [p2, p1, p0] swap3 (fun us ws hl => ?_) (fun r q => ?_) fun kV doc pm an cdv ct us ws h1 h2 => ?_⟩, F.kp⟩
  · match us, ws, hl with
    | [], [_, _, _], _ => exact ⟨rfl, rfl⟩
    | [], [], hl => cases hl
    | [], [_], hl => cases hl
    | [], [_, _], hl => cases hl
    | [], _ :: _ :: _ :: _ :: _, hl => cases hl
    | _ :: _, _, hl => cases hl
  · cases r with
    | nil =>
      cases q with
      | nil => exact .nil
      | cons a q =>
        cases q with
        | nil => exact .nil
        | cons b q =>
          cases q with
          | nil => exact .nil
          | cons c q =>
            cases q with
            | nil => exact .cons c (.cons b (.cons a .nil))
            | cons _ _ => exact .nil
    | cons _ _ => exact .nil
  · match us, h1, ws, h2 with
    | [], _, [u, v, y], _ => exact hb kV doc pm an cdv ct u v y
end
def oCall3 (sp : Sp) (E : St → XK) (tk : TA) : TE := fun σ H Q => tk σ H fun zs H1 => sp (swap3 [] zs) H1 Q (E σ)
theorem px_call3 {X : Cx} {k : Nat} {f : Addr} {ps ks : List Str} {sp : Sp} {E : St → XK} {x : Str} {p pos : Pos} {kws : List Keyword} {tk : TA} (G : OkX3 X.prog X.w X.K X.mg X.base k f ps ks sp) (hx : ∀ σ, PassesAt (L2.CX X.prog X.w) X σ (E σ)) (hr : Room k X.A)
    (hm : X.mg x = some (.ref f)) (hkw : PK X kws tk) (hg : Gl X x := by rfl) (hall : (backToKw pos (keywordEach kws X.env)).all (·.1.isSome) = true := by rfl) (hks : (backToKw pos (keywordEach kws X.env)).filterMap (·.1) = ks := by rfl)
    (hdb : (x == ("__debug__" : Str)) = false := by decide) (hpl : ((backTo pos (starEach [] X.env)).any (·.1) || (backToKw pos (keywordEach kws X.env)).any (·.1.isNone)) = false := by rfl) :
    PE X (.Call (.Name x p) [] kws pos) (oCall3 sp E tk) := by
  obtain ⟨⟨fd, F, b⟩, kp⟩ := G
  refine ⟨fun pn s σ H Q I h => ?_⟩
  refine wpAny_Call_Name_kw (ld_glob I hg hm ?_ hdb)
  refine PySem.W.callWith_KW0 (first := []) (h₀ := X.base) I.ok.mod.kin kp hall ?_ hpl
  refine thn (hkw.run pos pn s σ H _ I h) fun ws s2 ⟨zs, H2, I2, rz, q2⟩ => ⟨I2.kIn, ?_⟩
  rw [hks]
  have rv : Vals (swap3 [] zs) (swap3 [] ws) := b.rel .nil rz
  have hl : (swap3 [] ws).length = ps.length := by
    rw [← rv.length]
    exact F.len _ _ _ _ q2
  refine wpAny_call (codeAny_mono (F.run X.A X.stack s2 H2 ⟨[], ks.zip ws⟩ (swap3 [] ws) (swap3 [] zs) Q (E σ) hr I2.env0 (b.to s2 [] ws I2.kIn hl) rv q2) fun r s3 z => ?_)
  match r, z with
  | .error e2, z => exact hx σ pn H2 s2 e2 s3 I2 z
  | .ok (.ret u2), z => exact I2.after z
  | .ok .next, z => exact z.elim
  | .ok .brk, z => exact z.elim
  | .ok .cont, z => exact z.elim
end L2

set_option Elab.async false
set_option linter.all false
set_option maxRecDepth 100000
set_option maxHeartbeats 4000000
namespace Own
open PySem L2 ClX
local macro_rules | `(tactic| walk_at "v") => `(tactic| refine ⟨_, rfl, ?_⟩)
local macro_rules | `(tactic| walk_at "ii") => `(tactic| refine ⟨_, _, rfl, rfl, ?_⟩)
local macro_rules | `(tactic| walk_at "go") => `(tactic| repeat (first | refine ⟨_, rfl, ?_⟩ | refine ⟨_, _, rfl, rfl, ?_⟩ | refine addI ?_ | refine L2.iteT ?_ | refine L2.iteF ?_))

def top (i : Nat) : Stmt := PySem.Challenge.pw_indexlogs_k29_ranges_of_indices.main.body.getD i (.Pass ⟨0, 0, 0, 0⟩)
abbrev s_is_integer : Stmt := top 11
abbrev N_is_integer : List Str := ["thing"]
theorem sc_is_integer : FnScope N_is_integer ["thing"] (defScope s_is_integer) := ⟨rfl, rfl, rfl, by decide +kernel, rfl, by decide +kernel, by decide +kernel⟩
abbrev s_is_item : Stmt := top 13
abbrev N_is_item : List Str := ["thing"]
theorem sc_is_item : FnScope N_is_item ["thing"] (defScope s_is_item) := ⟨rfl, rfl, rfl, by decide +kernel, rfl, by decide +kernel, by decide +kernel⟩
abbrev s_is_items : Stmt := top 14
abbrev N_is_items : List Str := ["thing", "entry"]
theorem sc_is_items : FnScope N_is_items ["thing"] (defScope s_is_items) := ⟨rfl, rfl, rfl, by decide +kernel, rfl, by decide +kernel, by decide +kernel⟩
abbrev s_check_items : Stmt := top 15
abbrev N_check_items : List Str := ["items"]
theorem sc_check_items : FnScope N_check_items ["items"] (defScope s_check_items) := ⟨rfl, rfl, rfl, by decide +kernel, rfl, by decide +kernel, by decide +kernel⟩
abbrev s_first_of : Stmt := top 12
abbrev N_first_of : List Str := ["rows"]
theorem sc_first_of : FnScope N_first_of ["rows"] (defScope s_first_of) := ⟨rfl, rfl, rfl, by decide +kernel, rfl, by decide +kernel, by decide +kernel⟩
abbrev s_check_index : Stmt := top 17
abbrev N_check_index : List Str := ["slot"]
theorem sc_check_index : FnScope N_check_index ["slot"] (defScope s_check_index) := ⟨rfl, rfl, rfl, by decide +kernel, rfl, by decide +kernel, by decide +kernel⟩
abbrev s_Record___init__ : Stmt := inClass (top 19) 2
abbrev N_Record___init__ : List Str := ["self", "item", "slot"]
theorem sc_Record___init__ : FnScope N_Record___init__ ["self", "item", "slot"] (defScope s_Record___init__) := ⟨rfl, rfl, rfl, by decide +kernel, rfl, by decide +kernel, by decide +kernel⟩
abbrev s_Record_item : Stmt := inClass (top 19) 4
abbrev N_Record_item : List Str := ["self"]
theorem sc_Record_item : FnScope N_Record_item ["self"] (defScope s_Record_item) := ⟨rfl, rfl, rfl, by decide +kernel, rfl, by decide +kernel, by decide +kernel⟩
abbrev s_Record_slot : Stmt := inClass (top 19) 5
abbrev N_Record_slot : List Str := ["self"]
theorem sc_Record_slot : FnScope N_Record_slot ["self"] (defScope s_Record_slot) := ⟨rfl, rfl, rfl, by decide +kernel, rfl, by decide +kernel, by decide +kernel⟩
abbrev s_Record_move_to : Stmt := inClass (top 19) 7
abbrev N_Record_move_to : List Str := ["self", "slot"]
theorem sc_Record_move_to : FnScope N_Record_move_to ["self", "slot"] (defScope s_Record_move_to) := ⟨rfl, rfl, rfl, by decide +kernel, rfl, by decide +kernel, by decide +kernel⟩
abbrev s_has_kind : Stmt := top 25
abbrev N_has_kind : List Str := ["thing"]
theorem sc_has_kind : FnScope N_has_kind ["thing"] (defScope s_has_kind) := ⟨rfl, rfl, rfl, by decide +kernel, rfl, by decide +kernel, by decide +kernel⟩
abbrev s_are_records : Stmt := top 26
abbrev N_are_records : List Str := ["thing", "most", "entry"]
theorem sc_are_records : FnScope N_are_records ["thing", "most"] (defScope s_are_records) := ⟨rfl, rfl, rfl, by decide +kernel, rfl, by decide +kernel, by decide +kernel⟩
abbrev s_is_log : Stmt := top 27
abbrev N_is_log : List Str := ["thing", "record"]
theorem sc_is_log : FnScope N_is_log ["thing"] (defScope s_is_log) := ⟨rfl, rfl, rfl, by decide +kernel, rfl, by decide +kernel, by decide +kernel⟩
abbrev s_check_log : Stmt := top 28
abbrev N_check_log : List Str := ["log"]
theorem sc_check_log : FnScope N_check_log ["log"] (defScope s_check_log) := ⟨rfl, rfl, rfl, by decide +kernel, rfl, by decide +kernel, by decide +kernel⟩
abbrev s_sign_of : Stmt := top 29
abbrev N_sign_of : List Str := ["log"]
theorem sc_sign_of : FnScope N_sign_of ["log"] (defScope s_sign_of) := ⟨rfl, rfl, rfl, by decide +kernel, rfl, by decide +kernel, by decide +kernel⟩
abbrev s_is_fronted : Stmt := top 30
abbrev N_is_fronted : List Str := ["log"]
theorem sc_is_fronted : FnScope N_is_fronted ["log"] (defScope s_is_fronted) := ⟨rfl, rfl, rfl, by decide +kernel, rfl, by decide +kernel, by decide +kernel⟩
abbrev s_check_known : Stmt := top 32
abbrev N_check_known : List Str := ["log", "items", "record"]
theorem sc_check_known : FnScope N_check_known ["log", "items"] (defScope s_check_known) := ⟨rfl, rfl, rfl, by decide +kernel, rfl, by decide +kernel, by decide +kernel⟩
abbrev s_rooms_of : Stmt := top 33
abbrev N_rooms_of : List Str := ["log", "items", "names", "known", "record", "item", "before"]
theorem sc_rooms_of : FnScope N_rooms_of ["log", "items"] (defScope s_rooms_of) := ⟨rfl, rfl, rfl, by decide +kernel, rfl, by decide +kernel, by decide +kernel⟩
abbrev s_shifts_of : Stmt := top 34
abbrev N_shifts_of : List Str := ["log", "items", "record"]
theorem sc_shifts_of : FnScope N_shifts_of ["log", "items"] (defScope s_shifts_of) := ⟨rfl, rfl, rfl, by decide +kernel, rfl, by decide +kernel, by decide +kernel⟩
abbrev s_certificates : Stmt := top 35
abbrev N_certificates : List Str := ["log", "items", "shifts", "found", "item", "room"]
theorem sc_certificates : FnScope N_certificates ["log", "items"] (defScope s_certificates) := ⟨rfl, rfl, rfl, by decide +kernel, rfl, by decide +kernel, by decide +kernel⟩
abbrev s_reason : Stmt := top 36
abbrev N_reason : List Str := ["log", "items"]
theorem sc_reason : FnScope N_reason ["log", "items"] (defScope s_reason) := ⟨rfl, rfl, rfl, by decide +kernel, rfl, by decide +kernel, by decide +kernel⟩
abbrev s_index_range : Stmt := top 37
abbrev N_index_range : List Str := ["log", "items", "item", "rooms", "place"]
theorem sc_index_range : FnScope N_index_range ["log", "items", "item"] (defScope s_index_range) := ⟨rfl, rfl, rfl, by decide +kernel, rfl, by decide +kernel, by decide +kernel⟩
abbrev s__law_source : Stmt := top 39
abbrev N__law_source : List Str := ["script", "k", "cell"]
theorem sc__law_source : FnScope N__law_source ["script", "k"] (defScope s__law_source) := ⟨rfl, rfl, rfl, by decide +kernel, rfl, by decide +kernel, by decide +kernel⟩
abbrev s__law_pick : Stmt := top 40
abbrev N__law_pick : List Str := ["source", "size", "digit", "mixed"]
theorem sc__law_pick : FnScope N__law_pick ["source", "size"] (defScope s__law_pick) := ⟨rfl, rfl, rfl, by decide +kernel, rfl, by decide +kernel, by decide +kernel⟩
abbrev s__law_mixed : Stmt := top 41
abbrev N__law_mixed : List Str := ["source", "row", "left", "k"]
theorem sc__law_mixed : FnScope N__law_mixed ["source", "row"] (defScope s__law_mixed) := ⟨rfl, rfl, rfl, by decide +kernel, rfl, by decide +kernel, by decide +kernel⟩
abbrev s__law_words : Stmt := top 42
abbrev N__law_words : List Str := ["source", "size", "pool", "sign", "k"]
theorem sc__law_words : FnScope N__law_words ["source", "size"] (defScope s__law_words) := ⟨rfl, rfl, rfl, by decide +kernel, rfl, by decide +kernel, by decide +kernel⟩
abbrev s__law_made : Stmt := top 43
abbrev N__law_made : List Str := ["kind", "name", "index"]
theorem sc__law_made : FnScope N__law_made ["kind", "name", "index"] (defScope s__law_made) := ⟨rfl, rfl, rfl, by decide +kernel, rfl, by decide +kernel, by decide +kernel⟩
abbrev s__law_played : Stmt := top 44
abbrev N__law_played : List Str := ["kind", "here", "name", "index", "fits", "rest"]
theorem sc__law_played : FnScope N__law_played ["kind", "here", "name", "index"] (defScope s__law_played) := ⟨rfl, rfl, rfl, by decide +kernel, rfl, by decide +kernel, by decide +kernel⟩
abbrev s__law_history : Stmt := top 45
abbrev N__law_history : List Str := ["source", "kind", "most", "more", "size", "others", "names", "moved", "style", "here", "known", "pairs", "name", "index"]
theorem sc__law_history : FnScope N__law_history ["source", "kind", "most", "more"] (defScope s__law_history) := ⟨rfl, rfl, rfl, by decide +kernel, rfl, by decide +kernel, by decide +kernel⟩
abbrev s__law_log : Stmt := top 46
abbrev N__law_log : List Str := ["source", "kind", "pairs", "name", "index"]
theorem sc__law_log : FnScope N__law_log ["source", "kind", "pairs"] (defScope s__law_log) := ⟨rfl, rfl, rfl, by decide +kernel, rfl, by decide +kernel, by decide +kernel⟩
abbrev s__law_pairs : Stmt := top 47
abbrev N__law_pairs : List Str := ["notes", "record"]
theorem sc__law_pairs : FnScope N__law_pairs ["notes"] (defScope s__law_pairs) := ⟨rfl, rfl, rfl, by decide +kernel, rfl, by decide +kernel, by decide +kernel⟩
abbrev s__law_sides : Stmt := top 48
abbrev N__law_sides : List Str := ["kind", "pairs", "known", "slots", "found", "marked", "before", "name", "place"]
theorem sc__law_sides : FnScope N__law_sides ["kind", "pairs", "known"] (defScope s__law_sides) := ⟨rfl, rfl, rfl, by decide +kernel, rfl, by decide +kernel, by decide +kernel⟩
abbrev s__law_bent : Stmt := top 49
abbrev N__law_bent : List Str := ["source", "pairs", "found", "name", "index", "way"]
theorem sc__law_bent : FnScope N__law_bent ["source", "pairs"] (defScope s__law_bent) := ⟨rfl, rfl, rfl, by decide +kernel, rfl, by decide +kernel, by decide +kernel⟩
abbrev s__law_fitting : Stmt := top 50
abbrev N__law_fitting : List Str := ["kind", "pairs", "known", "name", "found", "index", "other", "row", "shift", "room", "one", "slot"]
theorem sc__law_fitting : FnScope N__law_fitting ["kind", "pairs", "known", "name"] (defScope s__law_fitting) := ⟨rfl, rfl, rfl, by decide +kernel, rfl, by decide +kernel, by decide +kernel⟩
abbrev s__law_right : Stmt := top 51
abbrev N__law_right : List Str := ["source", "kind", "pairs", "known", "notes", "shown", "ends", "name", "index", "found", "due", "side", "some", "free", "slots", "good", "pair"]
theorem sc__law_right : FnScope N__law_right ["source", "kind", "pairs", "known"] (defScope s__law_right) := ⟨rfl, rfl, rfl, by decide +kernel, rfl, by decide +kernel, by decide +kernel⟩
abbrev s_law : Stmt := top 52
abbrev N_law : List Str := ["script", "k", "source", "kind", "most", "pairs", "known", "free", "some", "notes", "name", "index"]
theorem sc_law : FnScope N_law ["script"] (defScope s_law) := ⟨rfl, rfl, rfl, by decide +kernel, rfl, by decide +kernel, by decide +kernel⟩

structure Ad where
  f_is_integer : Addr
  f_is_item : Addr
  f_is_items : Addr
  f_check_items : Addr
  f_first_of : Addr
  f_check_index : Addr
  f_has_kind : Addr
  f_are_records : Addr
  f_is_log : Addr
  f_check_log : Addr
  f_sign_of : Addr
  f_is_fronted : Addr
  f_check_known : Addr
  f_rooms_of : Addr
  f_shifts_of : Addr
  f_certificates : Addr
  f_reason : Addr
  f_index_range : Addr
  f__law_source : Addr
  f__law_pick : Addr
  f__law_mixed : Addr
  f__law_words : Addr
  f__law_made : Addr
  f__law_played : Addr
  f__law_history : Addr
  f__law_log : Addr
  f__law_pairs : Addr
  f__law_sides : Addr
  f__law_bent : Addr
  f__law_fitting : Addr
  f__law_right : Addr
  f_law : Addr
  c_Record : Addr
  c_Inserted : Addr
  c_Removed : Addr
  c_Fronted : Addr
  c_NoList : Addr
  c_NoItem : Addr
  c_LogError : Addr
  m_Record___init__ : Addr
  m_Record_move_to : Addr
  m_Record_item : Addr
  p_Record_item : Addr
  m_Record_slot : Addr
  p_Record_slot : Addr
structure Txt (K : PySem.W.Frag) (mg : Str → Option Value) (A : Ad) : Prop where
  mg_is_integer : mg "is_integer" = some (.ref A.f_is_integer)
  fn_is_integer : FnT K "is_integer" "is_integer" s_is_integer A.f_is_integer
  mg_is_item : mg "is_item" = some (.ref A.f_is_item)
  fn_is_item : FnT K "is_item" "is_item" s_is_item A.f_is_item
  mg_is_items : mg "is_items" = some (.ref A.f_is_items)
  fn_is_items : FnT K "is_items" "is_items" s_is_items A.f_is_items
  mg_check_items : mg "check_items" = some (.ref A.f_check_items)
  fn_check_items : FnT K "check_items" "check_items" s_check_items A.f_check_items
  mg_first_of : mg "first_of" = some (.ref A.f_first_of)
  fn_first_of : FnT K "first_of" "first_of" s_first_of A.f_first_of
  mg_check_index : mg "check_index" = some (.ref A.f_check_index)
  fn_check_index : FnT K "check_index" "check_index" s_check_index A.f_check_index
  mg_has_kind : mg "has_kind" = some (.ref A.f_has_kind)
  fn_has_kind : FnT K "has_kind" "has_kind" s_has_kind A.f_has_kind
  mg_are_records : mg "are_records" = some (.ref A.f_are_records)
  fn_are_records : FnT K "are_records" "are_records" s_are_records A.f_are_records
  mg_is_log : mg "is_log" = some (.ref A.f_is_log)
  fn_is_log : FnT K "is_log" "is_log" s_is_log A.f_is_log
  mg_check_log : mg "check_log" = some (.ref A.f_check_log)
  fn_check_log : FnT K "check_log" "check_log" s_check_log A.f_check_log
  mg_sign_of : mg "sign_of" = some (.ref A.f_sign_of)
  fn_sign_of : FnT K "sign_of" "sign_of" s_sign_of A.f_sign_of
  mg_is_fronted : mg "is_fronted" = some (.ref A.f_is_fronted)
  fn_is_fronted : FnT K "is_fronted" "is_fronted" s_is_fronted A.f_is_fronted
  mg_check_known : mg "check_known" = some (.ref A.f_check_known)
  fn_check_known : FnT K "check_known" "check_known" s_check_known A.f_check_known
  mg_rooms_of : mg "rooms_of" = some (.ref A.f_rooms_of)
  fn_rooms_of : FnT K "rooms_of" "rooms_of" s_rooms_of A.f_rooms_of
  mg_shifts_of : mg "shifts_of" = some (.ref A.f_shifts_of)
  fn_shifts_of : FnT K "shifts_of" "shifts_of" s_shifts_of A.f_shifts_of
  mg_certificates : mg "certificates" = some (.ref A.f_certificates)
  fn_certificates : FnT K "certificates" "certificates" s_certificates A.f_certificates
  mg_reason : mg "reason" = some (.ref A.f_reason)
  fn_reason : FnT K "reason" "reason" s_reason A.f_reason
  mg_index_range : mg "index_range" = some (.ref A.f_index_range)
  fn_index_range : FnT K "index_range" "index_range" s_index_range A.f_index_range
  mg__law_source : mg "_law_source" = some (.ref A.f__law_source)
  fn__law_source : FnT K "_law_source" "_law_source" s__law_source A.f__law_source
  mg__law_pick : mg "_law_pick" = some (.ref A.f__law_pick)
  fn__law_pick : FnT K "_law_pick" "_law_pick" s__law_pick A.f__law_pick
  mg__law_mixed : mg "_law_mixed" = some (.ref A.f__law_mixed)
  fn__law_mixed : FnT K "_law_mixed" "_law_mixed" s__law_mixed A.f__law_mixed
  mg__law_words : mg "_law_words" = some (.ref A.f__law_words)
  fn__law_words : FnT K "_law_words" "_law_words" s__law_words A.f__law_words
  mg__law_made : mg "_law_made" = some (.ref A.f__law_made)
  fn__law_made : FnT K "_law_made" "_law_made" s__law_made A.f__law_made
  mg__law_played : mg "_law_played" = some (.ref A.f__law_played)
  fn__law_played : FnT K "_law_played" "_law_played" s__law_played A.f__law_played
  mg__law_history : mg "_law_history" = some (.ref A.f__law_history)
  fn__law_history : FnT K "_law_history" "_law_history" s__law_history A.f__law_history
  mg__law_log : mg "_law_log" = some (.ref A.f__law_log)
  fn__law_log : FnT K "_law_log" "_law_log" s__law_log A.f__law_log
  mg__law_pairs : mg "_law_pairs" = some (.ref A.f__law_pairs)
  fn__law_pairs : FnT K "_law_pairs" "_law_pairs" s__law_pairs A.f__law_pairs
  mg__law_sides : mg "_law_sides" = some (.ref A.f__law_sides)
  fn__law_sides : FnT K "_law_sides" "_law_sides" s__law_sides A.f__law_sides
  mg__law_bent : mg "_law_bent" = some (.ref A.f__law_bent)
  fn__law_bent : FnT K "_law_bent" "_law_bent" s__law_bent A.f__law_bent
  mg__law_fitting : mg "_law_fitting" = some (.ref A.f__law_fitting)
  fn__law_fitting : FnT K "_law_fitting" "_law_fitting" s__law_fitting A.f__law_fitting
  mg__law_right : mg "_law_right" = some (.ref A.f__law_right)
  fn__law_right : FnT K "_law_right" "_law_right" s__law_right A.f__law_right
  mg_law : mg "law" = some (.ref A.f_law)
  fn_law : FnT K "law" "law" s_law A.f_law
  mg_Record : mg "Record" = some (.ref A.c_Record)
  mg_Inserted : mg "Inserted" = some (.ref A.c_Inserted)
  mg_Removed : mg "Removed" = some (.ref A.c_Removed)
  mg_Fronted : mg "Fronted" = some (.ref A.c_Fronted)
  mg_NoList : mg "NoList" = some (.ref A.c_NoList)
  mg_NoItem : mg "NoItem" = some (.ref A.c_NoItem)
  mg_LogError : mg "LogError" = some (.ref A.c_LogError)
  mk_Record : Mk K A.c_Record A.m_Record___init__
  fn_Record___init__ : FnT K "__init__" "Record.__init__" s_Record___init__ A.m_Record___init__
  cl_Record : Cls K A.c_Record
  na_Record_item : NoAttr K A.c_Record "_item"
  na_Record_slot : NoAttr K A.c_Record "_slot"
  mk_Inserted : Mk K A.c_Inserted A.m_Record___init__
  cl_Inserted : Cls K A.c_Inserted
  na_Inserted_item : NoAttr K A.c_Inserted "_item"
  na_Inserted_slot : NoAttr K A.c_Inserted "_slot"
  mk_Removed : Mk K A.c_Removed A.m_Record___init__
  cl_Removed : Cls K A.c_Removed
  na_Removed_item : NoAttr K A.c_Removed "_item"
  na_Removed_slot : NoAttr K A.c_Removed "_slot"
  mk_Fronted : Mk K A.c_Fronted A.m_Record___init__
  cl_Fronted : Cls K A.c_Fronted
  na_Fronted_item : NoAttr K A.c_Fronted "_item"
  na_Fronted_slot : NoAttr K A.c_Fronted "_slot"
  me_Record_move_to : Meth K A.c_Record "move_to" A.m_Record_move_to
  fn_Record_move_to : FnT K "move_to" "Record.move_to" s_Record_move_to A.m_Record_move_to
  me_Inserted_move_to : Meth K A.c_Inserted "move_to" A.m_Record_move_to
  me_Removed_move_to : Meth K A.c_Removed "move_to" A.m_Record_move_to
  me_Fronted_move_to : Meth K A.c_Fronted "move_to" A.m_Record_move_to
  cv_Record_MOST : ∃ mc u, ClX.CRead K A.c_Record mc ∧ ClX.CVal K A.c_Record mc "MOST" (.int 60) u
  cv_Record_SIGN : ∃ mc u, ClX.CRead K A.c_Record mc ∧ ClX.CVal K A.c_Record mc "SIGN" (.str "") u
  cv_Inserted_SIGN : ∃ mc u, ClX.CRead K A.c_Inserted mc ∧ ClX.CVal K A.c_Inserted mc "SIGN" (.str "+") u
  cv_Fronted_SIGN : ∃ mc u, ClX.CRead K A.c_Fronted mc ∧ ClX.CVal K A.c_Fronted mc "SIGN" (.str "^") u
  iv_Record_SIGN : ∃ u, Con K A.c_Record "SIGN" (.str "") u
  iv_Inserted_SIGN : ∃ u, Con K A.c_Inserted "SIGN" (.str "+") u
  iv_Removed_SIGN : ∃ u, Con K A.c_Removed "SIGN" (.str "-") u
  iv_Fronted_SIGN : ∃ u, Con K A.c_Fronted "SIGN" (.str "^") u
  mg_MOST_LETTERS : ∃ t, mg "MOST_LETTERS" = some (.int 8 t)
  mg_MOST_ITEMS : ∃ t, mg "MOST_ITEMS" = some (.int 60 t)
  mg_MOST_IN_LOG : ∃ t, mg "MOST_IN_LOG" = some (.int 40 t)
  er_NoList : ErrT K A.c_NoList
  er_NoItem : ErrT K A.c_NoItem
  kit_Record_Record : PySem.W.kitOne K (.ref A.c_Record) (.ref A.c_Record) = some true
  kit_Inserted_Record : PySem.W.kitOne K (.ref A.c_Inserted) (.ref A.c_Record) = some true
  kit_Removed_Record : PySem.W.kitOne K (.ref A.c_Removed) (.ref A.c_Record) = some true
  kit_Fronted_Record : PySem.W.kitOne K (.ref A.c_Fronted) (.ref A.c_Record) = some true
  pr_Record_item : PropOf K A.c_Record "item" A.p_Record_item A.m_Record_item
  fn_Record_item : FnT K "item" "Record.item" s_Record_item A.m_Record_item
  pr_Record_slot : PropOf K A.c_Record "slot" A.p_Record_slot A.m_Record_slot
  fn_Record_slot : FnT K "slot" "Record.slot" s_Record_slot A.m_Record_slot
  pr_Inserted_item : PropOf K A.c_Inserted "item" A.p_Record_item A.m_Record_item
  pr_Inserted_slot : PropOf K A.c_Inserted "slot" A.p_Record_slot A.m_Record_slot
  pr_Removed_item : PropOf K A.c_Removed "item" A.p_Record_item A.m_Record_item
  pr_Removed_slot : PropOf K A.c_Removed "slot" A.p_Record_slot A.m_Record_slot
  pr_Fronted_item : PropOf K A.c_Fronted "item" A.p_Record_item A.m_Record_item
  pr_Fronted_slot : PropOf K A.c_Fronted "slot" A.p_Record_slot A.m_Record_slot
  ty_Record : InsT K A.c_Record
  ty_Inserted : InsT K A.c_Inserted
  ty_Removed : InsT K A.c_Removed
  ty_Fronted : InsT K A.c_Fronted
  no_abs : mg "abs" = none
  no_all : mg "all" = none
  no_bool : mg "bool" = none
  no_dict : mg "dict" = none
  no_enumerate : mg "enumerate" = none
  no_int : mg "int" = none
  no_isinstance : mg "isinstance" = none
  no_len : mg "len" = none
  no_list : mg "list" = none
  no_max : mg "max" = none
  no_min : mg "min" = none
  no_property : mg "property" = none
  no_range : mg "range" = none
  no_repr : mg "repr" = none
  no_set : mg "set" = none
  no_str : mg "str" = none

/-! ### what is told of records -/
theorem ks : ¬ (("_item" : Str) = "_slot") := by decide +kernel
/-- the attributes of a record, in the order in which they are stored -/
def rfs (x : Str) (n : Int) : List (Str × V) := putF "_slot" (.int n) (putF "_item" (.str x) [])
theorem rfs_item (x : Str) (n : Int) : (rfs x n).lookup ("_item" : Str) = some (.str x) := by
  unfold rfs
  rw [lookup_putF, if_neg ks, lookup_putF, if_pos rfl]
theorem rfs_slot (x : Str) (n : Int) : (rfs x n).lookup ("_slot" : Str) = some (.int n) := by
  unfold rfs
  rw [lookup_putF, if_pos rfl]
theorem rfs_no (x : Str) (n : Int) {m : Str} (h1 : ¬ m = "_slot") (h2 : ¬ m = "_item") : (rfs x n).lookup m = none := by
  unfold rfs
  rw [lookup_putF, if_neg h1, lookup_putF, if_neg h2]
  all_goals rfl
theorem rfs_eq (x : Str) (n : Int) : rfs x n = ([("_item", V.str x), ("_slot", V.int n)] : List (Str × V)) := by
  show (if ("_item" : Str) = "_slot" then [(("_item" : Str), V.int n)] else (("_item" : Str), V.str x) :: putF "_slot" (V.int n) []) = _
  rw [if_neg ks]
  all_goals rfl
theorem rfs_put (x : Str) (n m : Int) : putF "_slot" (.int m) (rfs x n) = rfs x m := by
  rw [rfs_eq, rfs_eq]
  show (if ("_item" : Str) = "_slot" then _ else (("_item" : Str), V.str x) :: (if ("_slot" : Str) = "_slot" then [(("_slot" : Str), V.int m)] else _)) = _
  rw [if_neg ks, if_pos rfl]
theorem rfs_len (x : Str) (n : Int) : (rfs x n).length < 1000 := by
  rw [rfs_eq]
  exact Nat.lt_of_lt_of_le (Nat.lt_succ_self 2) (by decide)
theorem made_same {H H' : Hp} {p dx C : Addr} (np : H p = none) (nd : H dx = none) (b : But p (upd (upd H dx (.own p)) p (.ins C dx [])) H') : Same H H' := fun c o e =>
  b c o (by rw [upd_ne (ne_of_none e np), upd_ne (ne_of_none e nd)]; exact e) (ne_of_none e np)
structure RC (K : PySem.W.Frag) (C : Addr) : Prop where
  cl : Cls K C
  nI : NoAttr K C "_item"
  nS : NoAttr K C "_slot"
/-- the texts that are items -/
def isItem (x : Str) : Bool := decide (x.length ≤ 8) && (Txt.isascii x && (Txt.isalpha x && Txt.islower x))
/-- the class of a way -/
def cw (A : Ad) (way : Int) : Addr := if way = 0 then A.c_Inserted else if way = 1 then A.c_Removed else if way = 2 then A.c_Fronted else A.c_Record
theorem way4 {way : Int} (h0 : 0 ≤ way) (h1 : way ≤ 3) : way = 0 ∨ way = 1 ∨ way = 2 ∨ way = 3 := by omega
/-! ### the drawn numbers -/
/-- at p stands a source, from which at most n numbers were drawn -/
def SrcAt (H : Hp) (p : Addr) (n : Int) : Prop := ∃ g m c : Int, H p = some (.lst [.int g, .int m, .int c]) ∧ 0 ≤ m ∧ m < 2 ^ 140 ∧ 0 ≤ c ∧ c ≤ n
theorem SrcAt.but {H H' : Hp} {p a : Addr} {n : Int} (h : SrcAt H p n) (b : But a H H') (ne : p ≠ a) : SrcAt H' p n := by
  obtain ⟨g, m, c, e, r⟩ := h
  exact ⟨g, m, c, b _ _ e ne, r⟩
theorem SrcAt.same {H H' : Hp} {p : Addr} {n : Int} (h : SrcAt H p n) (b : Same H H') : SrcAt H' p n := by
  obtain ⟨g, m, c, e, r⟩ := h
  exact ⟨g, m, c, b _ _ e, r⟩

section
variable {P : Program} {w : World} {K : PySem.W.Frag} {mg : Str → Option Value} {base : Heap} {A : Ad}
/-! ### whole numbers, items, indices -/
def spYesInt : Sp := fun vs H Q _ => ∃ n : Int, vs = [.int n] ∧ Q (.bl true) H
theorem ok_is_integer (T : Txt K mg A) : Ok1 P w K mg base 1 A.f_is_integer ["thing"] spYesInt := by
  refine T.fn_is_integer.ok sc_is_integer (fun _ _ _ _ _ _ us hl => match us, hl with | [_], _ => rfl) (fun vs H Q E h => ?_) (fun cdv B up s H vs Q E hr h => ?_)
  · obtain ⟨n, rfl, _⟩ := h
    rfl
  · obtain ⟨n, rfl, h⟩ := h
    refine ⟨_, (pss_one (ps_ret (pe_and (pe_callB call_isi (by rfl) T.no_isinstance (by decide +kernel) (pa_cons (pv 0) (pa_cons (pe_bltn (v := .ty "int") (by rfl) T.no_int (by decide +kernel) rfl) pa_nil))) (pe_one (pe_not (pe_callB call_isi (by rfl) T.no_isinstance (by decide +kernel) (pa_cons (pv 0) (pa_cons (pe_bltn (v := .ty "bool") (by rfl) T.no_bool (by decide +kernel) rfl) pa_nil)))))))), ?_⟩
    refine ⟨_, rfl, _, _, _, _, _, rfl, .ty _, .base (.int _), kit_ty (r := true) (by decide +kernel), _, rfl, iteT ?_⟩
    exact ⟨_, rfl, _, _, _, _, _, rfl, .ty _, .base (.int _), kit_ty (r := false) (by decide +kernel), _, rfl, h⟩

def spIsItem : Sp := fun vs H Q _ => ∃ x : Str, vs = [.str x] ∧ x.length ≤ 1000000 ∧ Q (.bl (isItem x)) H
theorem ok_is_item (T : Txt K mg A) : Ok1 P w K mg base 1 A.f_is_item ["thing"] spIsItem := by
  refine T.fn_is_item.ok sc_is_item (fun _ _ _ _ _ _ us hl => match us, hl with | [_], _ => rfl) (fun vs H Q E h => ?_) (fun cdv B up s H vs Q E hr h => ?_)
  · obtain ⟨n, rfl, _⟩ := h
    rfl
  · obtain ⟨x, rfl, hx, h⟩ := h
    refine ⟨_, (pss_cons (ps_if (PW.pt (pw_or (pt_not (pt_val (pe_callB call_isi (by rfl) T.no_isinstance (by decide +kernel) (pa_cons (pv 0) (pa_cons (pe_bltn (v := .ty "str") (by rfl) T.no_str (by decide +kernel) rfl) pa_nil))))) (pw_or1 (pt_cmpR op_gt (pe_callB call_len (by rfl) T.no_len (by decide +kernel) (pa_cons (pv 0) pa_nil)) (pe_globC T.mg_MOST_LETTERS) (nomark _))))) (pss_one (ps_ret pe_bl)) pss_nil)
      (pss_one (ps_ret (pe_and (pe_bm0 PySem.F.plainAttrs_str PySem.F.slot_str_isascii PySem.F.type_str_isascii mt_isascii (pv 0)) (pe_and (pe_bm0 PySem.F.plainAttrs_str PySem.F.slot_str_isalpha PySem.F.type_str_isalpha mt_isalpha (pv 0)) (pe_one (pe_bm0 PySem.F.plainAttrs_str PySem.F.slot_str_islower PySem.F.type_str_islower mt_islower (pv 0)))))))), ?_⟩
    refine ⟨_, rfl, _, _, _, _, _, rfl, .ty _, .base (.str _), kit_ty (r := true) (by decide +kernel), ?_⟩
    refine ⟨_, rfl, ?_⟩
    refine iteF ?_
    refine ⟨_, rfl, _, _, rfl, ⟨szS hx, rfl⟩, _, _, rfl, rfl, _, rfl, ?_⟩
    unfold isItem at h
    refine ite2 (fun c => ?_) (fun c => ?_)
    · have e : decide (x.length ≤ 8) = false := decide_eq_false (by have := of_decide_eq_true c; omega)
      rw [e] at h
      exact h
    · have e : decide (x.length ≤ 8) = true := decide_eq_true (by have := of_decide_eq_false (Bool.eq_false_iff.mpr c); omega)
      rw [e, Bool.true_and] at h
      refine ⟨_, rfl, rfl, _, rfl, rfl, trivial, _, rfl, ?_⟩
      refine ite2 (fun c1 => ?_) (fun c1 => ?_)
      · rw [c1, Bool.true_and] at h
        refine ⟨_, rfl, rfl, _, rfl, rfl, trivial, _, rfl, ?_⟩
        refine ite2 (fun c2 => ?_) (fun c2 => ?_)
        · rw [c2, Bool.true_and] at h
          exact ⟨_, rfl, rfl, _, rfl, rfl, trivial, h⟩
        · rw [Bool.eq_false_iff.mpr c2] at h
          exact h
      · rw [Bool.eq_false_iff.mpr c1] at h
        exact h
def spIndex : Sp := fun vs H Q _ => ∃ n : Int, vs = [.int n] ∧ 0 ≤ n ∧ n ≤ 60 ∧ Q .non H
theorem ok_check_index (T : Txt K mg A) : Ok1 P w K mg base 2 A.f_check_index ["slot"] spIndex := by
  refine T.fn_check_index.ok sc_check_index (fun _ _ _ _ _ _ us hl => match us, hl with | [_], _ => rfl) (fun vs H Q E h => ?_) (fun cdv B up s H vs Q E hr h => ?_)
  · obtain ⟨n, rfl, _⟩ := h
    rfl
  · obtain ⟨n, rfl, h0, h1, h⟩ := h
    refine ⟨_, (pss_one (ps_if (PW.pt (pw_or (pt_not (pt_val (po_call (ok_is_integer T) (hr.mono (by decide)) T.mg_is_integer (pa_cons (pv 0) pa_nil)))) (pw_or1 (pt_not (pt_chain op_le op_le pe_int (pv 0) (pe_clsv T.cv_Record_MOST (pe_glob (v := .ref A.c_Record) rfl T.mg_Record rfl))))))) (pss_one ps_never) pss_nil)), ?_⟩
    refine ⟨_, rfl, _, rfl, _, rfl, ?_⟩
    refine iteF ?_
    refine ⟨_, rfl, _, _, rfl, rfl, _, rfl, ?_⟩
    rw [decide_eq_true h0]
    refine iteT ?_
    refine ⟨_, _, rfl, rfl, _, rfl, ?_⟩
    rw [decide_eq_true h1]
    exact iteF h

/-! ### the records' own defs -/
theorem rc_Record (T : Txt K mg A) : RC K A.c_Record := ⟨T.cl_Record, T.na_Record_item, T.na_Record_slot⟩
theorem rc_Inserted (T : Txt K mg A) : RC K A.c_Inserted := ⟨T.cl_Inserted, T.na_Inserted_item, T.na_Inserted_slot⟩
theorem rc_Removed (T : Txt K mg A) : RC K A.c_Removed := ⟨T.cl_Removed, T.na_Removed_item, T.na_Removed_slot⟩
theorem rc_Fronted (T : Txt K mg A) : RC K A.c_Fronted := ⟨T.cl_Fronted, T.na_Fronted_item, T.na_Fronted_slot⟩
def spInit (K : PySem.W.Frag) : Sp := fun vs H Q _ => ∃ (p C dx : Addr) (x : Str) (n : Int), vs = [.ref p, .str x, .int n] ∧ H p = some (.ins C dx []) ∧ RC K C ∧ isItem x = true ∧ 0 ≤ n ∧ n ≤ 60 ∧
  ∀ H' : Hp, H' p = some (.ins C dx (rfs x n)) → But p H H' → Q .non H'
theorem item_len {x : Str} (h : isItem x = true) : x.length ≤ 8 := by
  unfold isItem at h
  rw [Bool.and_eq_true] at h
  exact of_decide_eq_true h.1
theorem ok_Record___init__ (T : Txt K mg A) : Ok1 P w K mg base 3 A.m_Record___init__ ["self", "item", "slot"] (spInit K) := by
  refine T.fn_Record___init__.ok sc_Record___init__ (fun _ _ _ _ _ _ us hl => match us, hl with | [_, _, _], _ => rfl) (fun vs H Q E h => ?_) (fun cdv B up s H vs Q E hr h => ?_)
  · obtain ⟨p, C, dx, x, n, rfl, _⟩ := h
    rfl
  · obtain ⟨p, C, dx, x, n, rfl, hp, R, hi, h0, h1, h⟩ := h
    refine ⟨_, (pss_cons (ps_if (pt_not (pt_val (po_call (ok_is_item T) (hr.mono (by decide)) T.mg_is_item (pa_cons (pv 1) pa_nil)))) (pss_one ps_never) pss_nil)
      (pss_cons (ps_expr (po_call (ok_check_index T) (hr.mono (by decide)) T.mg_check_index (pa_cons (pv 2) pa_nil)))
      (pss_cons (ps_fld (pv 0) (pv 1) rfl)
      (pss_one (ps_fld (pv 0) (pv 2) rfl))))), ?_⟩
    refine ⟨_, rfl, _, rfl, Nat.le_trans (item_len hi) (by decide), _, rfl, ?_⟩
    rw [hi]
    refine iteF ?_
    refine ⟨_, rfl, _, rfl, h0, h1, ?_⟩
    refine ⟨_, rfl, _, rfl, p, C, dx, _, rfl, hp, R.cl, R.nI, (by decide), ?_⟩
    refine ⟨_, rfl, _, rfl, p, C, dx, _, rfl, upd_same, R.cl, R.nS, (by show 1 < 1000; decide), ?_⟩
    exact h _ upd_same (But.upd.trans But.upd)

/-! ### the law's own defs -/
theorem big39 : ((10 : Int) ^ (36 : Int).toNat + 67) = 1000000000000000000000000000000000067 := by decide +kernel
theorem big41 : ((10 : Int) ^ (41 : Int).toNat + 37) = 100000000000000000000000000000000000000037 := by decide +kernel
theorem big38 : ((10 : Int) ^ (39 : Int).toNat + 3) = 1000000000000000000000000000000000000003 := by decide +kernel
theorem atI0 {α : Type} (a : α) (l : List α) : atI (a :: l) 0 = some a := atI_nat (j := 0) rfl
def spSource (K : PySem.W.Frag) : Sp := fun vs H Q _ => ∃ (a : Addr) (ns : List Int) (k : Nat), vs = [.ref a, .int k] ∧ SqL K H a (ns.map V.int) ∧ k < 64 ∧
  ∀ (p : Addr) (H' : Hp), Same H H' → H p = none → SrcAt H' p 0 → Q (.ref p) H'
theorem ok__law_source (T : Txt K mg A) : Ok1 P w K mg base 1 A.f__law_source ["script", "k"] (spSource K) := by
  refine T.fn__law_source.ok sc__law_source (fun _ _ _ _ _ _ us hl => match us, hl with | [_, _], _ => rfl) (fun vs H Q E h => ?_) (fun cdv B up s H vs Q E hr h => ?_)
  · obtain ⟨a, ns, k, rfl, _⟩ := h
    rfl
  · obtain ⟨a, ns, k, rfl, hS, hk, h⟩ := h
    refine ⟨_, (pss_mid (ps_set (i := 2) sc__law_source.nd rfl (Or.inl rfl) (pe_ifExp (pt_cmpR op_lt (pv 1) (pe_callB call_len (by rfl) T.no_len (by decide +kernel) (pa_cons (pv 0) pa_nil)) (nomark _)) (pe_callB call_abs (by rfl) T.no_abs (by decide +kernel) (pa_cons (pe_ix ix_seq (pv 0) (pv 1) (fun _ _ => rfl)) pa_nil)) pe_int))
      (pss_one (ps_ret (pe_lst (pa_cons (pe_callB (call_max2 rfl) (by rfl) T.no_max (by decide +kernel) (pa_cons pe_int (pa_cons (pe_op op_sub (pv 2) (pe_op op_powX pe_int pe_int)) pa_nil))) (pa_cons (pe_op op_addX (pe_op op_addX (pe_op op_mulX (pe_op op_mod (pv 2) (pe_op op_addX (pe_op op_powX pe_int pe_int) pe_int)) pe_int) (pv 1)) pe_int) (pa_cons pe_int pa_nil))))))), ?_⟩
    refine ⟨fun σ1 H1 => H1 = H ∧ ∃ c : Int, σ1 = [some (.ref a), some (.int k), some (.int c)], ?_, ?_⟩
    · refine ⟨_, rfl, _, rfl, _, _, rfl, .inl ⟨_, hS, rfl⟩, _, _, rfl, rfl, _, rfl, ?_⟩
      refine ite2 (fun c => ?_) (fun _ => ⟨rfl, 0, rfl⟩)
      have hkn : k < ns.length := by
        have := of_decide_eq_true c
        rw [List.length_map] at this
        omega
      refine ⟨_, rfl, _, rfl, .inl ⟨_, _, _, .int ns[k], rfl, rfl, hS, atI_nat (by simp [hkn]), ?_⟩⟩
      exact ⟨_, rfl, rfl, _, rfl⟩
    · rintro σ1 H1 ⟨rfl, c, rfl⟩
      refine ⟨_, rfl, _, _, rfl, rfl, ⟨by decide, by decide, by decide +kernel⟩, _, _, rfl, rfl, _, _, rfl, ?_⟩
      refine ⟨_, rfl, _, _, rfl, rfl, ⟨by decide, by decide, by decide +kernel⟩, .inl ⟨_, _, rfl, rfl, ?_⟩⟩
      dsimp only
      rw [big39]
      have e0 := Int.emod_nonneg c (show (1000000000000000000000000000000000067 : Int) ≠ 0 by decide)
      have e1 := Int.emod_lt_of_pos c (show (0 : Int) < 1000000000000000000000000000000000067 by decide)
      refine ⟨_, _, rfl, rfl, (by show (0 : Int) < _; decide), .inl ⟨_, _, rfl, rfl, wide_mul (a := 140) (b := 7) ?_ (by decide) (by decide) (by decide) (by decide), ?_⟩⟩
      · omega
      refine ⟨_, rfl, .inl ⟨_, _, rfl, rfl, .inl ⟨_, _, rfl, rfl, ?_⟩⟩⟩
      refine ⟨Nat.le_of_ble_eq_true rfl, fun p hp => ?_⟩
      refine h p _ (Same.new hp) hp ⟨_, _, 0, upd_same, ?_⟩
      omega
def spPick : Sp := fun vs H Q _ => ∃ (a : Addr) (size n : Int), vs = [.ref a, .int size] ∧ 0 < size ∧ size < 2 ^ 200 ∧ SrcAt H a n ∧ n < 2 ^ 60 ∧
  ∀ (r : Int) (H' : Hp), 0 ≤ r → r < size → SrcAt H' a (n + 1) → But a H H' → Q (.int r) H'
theorem ok__law_pick (T : Txt K mg A) : Ok1 P w K mg base 1 A.f__law_pick ["source", "size"] spPick := by
  refine T.fn__law_pick.ok sc__law_pick (fun _ _ _ _ _ _ us hl => match us, hl with | [_, _], _ => rfl) (fun vs H Q E h => ?_) (fun cdv B up s H vs Q E hr h => ?_)
  · obtain ⟨a, size, n, rfl, _⟩ := h
    rfl
  · obtain ⟨a, size, n, rfl, hs, hs2, ⟨g, m, c, ha, hm0, hm1, hc0, hc1⟩, hn, h⟩ := h
    have hz : CDivW g size := wide_div (b := 200) hs (by omega) (by decide) (by decide)
    refine ⟨_, (pss_cons (ps_if (pt_cmpR op_gt (pe_ix ix_seq (pv 0) pe_int (fun _ _ => rfl)) pe_int (nomark _)) (pss_cons (ps_set (i := 2) sc__law_pick.nd rfl (Or.inl rfl) (pe_op op_mod (pe_ix ix_seq (pv 0) pe_int (fun _ _ => rfl)) (pv 1)))
      (pss_cons (ps_asg (pe_op op_fdivX (pe_ix ix_seq (pv 0) pe_int (fun _ _ => rfl)) (pv 1)) (pg_sub (pv 0) pe_int set_list))
      (pss_one (ps_ret (pv 2))))) pss_nil)
      (pss_cons (ps_asg (pe_op op_addX (pe_ix ix_seq (pv 0) pe_int (fun _ _ => rfl)) pe_int) (pg_sub (pv 0) pe_int set_list))
      (pss_cons (ps_set (i := 3) sc__law_pick.nd rfl (Or.inl rfl) (pe_op op_mod (pe_op op_powX (pe_op op_addX (pe_ix ix_seq (pv 0) pe_int (fun _ _ => rfl)) (pe_op op_mulX pe_int (pe_ix ix_seq (pv 0) pe_int (fun _ _ => rfl)))) pe_int) (pe_op op_addX (pe_op op_powX pe_int pe_int) pe_int)))
      (pss_cons (ps_set (i := 3) sc__law_pick.nd rfl (Or.inl rfl) (pe_op op_mod (pe_op op_powX (pe_op op_addX (pv 3) (pe_op op_mulX pe_int (pe_ix ix_seq (pv 0) pe_int (fun _ _ => rfl)))) pe_int) (pe_op op_addX (pe_op op_powX pe_int pe_int) pe_int)))
      (pss_one (ps_ret (pe_op op_mod (pe_op op_fdivX (pv 3) pe_int) (pv 1)))))))), ?_⟩
    refine ⟨_, rfl, .inl ⟨_, _, _, _, rfl, rfl, SqL.of ha, rfl, _, _, rfl, rfl, _, rfl, ?_⟩⟩
    refine ite2 (fun _ => ?_) (fun _ => ?_)
    · -- the digits of a large cell
      refine ⟨_, rfl, .inl ⟨_, _, _, _, rfl, rfl, SqL.of ha, rfl, _, rfl, _, _, rfl, rfl, hs, ?_⟩⟩
      refine ⟨_, rfl, .inl ⟨_, _, _, _, rfl, rfl, SqL.of ha, rfl, _, rfl, _, _, rfl, rfl, hz, ?_⟩⟩
      refine ⟨_, rfl, _, _, _, _, rfl, rfl, ha, rfl, ?_⟩
      refine ⟨_, rfl, h _ _ (Int.emod_nonneg _ (by omega)) (Int.emod_lt_of_pos _ hs) ⟨_, m, c, upd_same, hm0, hm1, hc0, by omega⟩ But.upd⟩
    · -- source[2] = source[2] + 1
      refine ⟨_, rfl, .inl ⟨_, _, _, _, rfl, rfl, SqL.of ha, rfl, .inl ⟨_, _, rfl, rfl, ?_⟩⟩⟩
      refine ⟨_, rfl, _, _, _, _, rfl, rfl, ha, rfl, ?_⟩
      -- mixed
      refine ⟨_, rfl, .inl ⟨_, _, _, _, rfl, rfl, SqL.of upd_same, rfl, ?_⟩⟩
      refine ⟨_, rfl, .inl ⟨_, _, _, _, rfl, rfl, SqL.of upd_same, rfl, ?_⟩⟩
      refine .inl ⟨_, _, rfl, rfl, wide_mul (a := 30) (b := 62) (by decide) (by omega) (by decide) (by decide) (by decide), .inl ⟨_, _, rfl, rfl, ?_⟩⟩
      have b1 : (m + 6700417 * (c + 1)).natAbs < 2 ^ 150 := by omega
      refine ⟨_, _, rfl, rfl, cpow (by decide) (by decide) b1 (by decide) (by decide), _, _, rfl, rfl, ⟨by decide, by decide, by decide +kernel⟩, .inl ⟨_, _, rfl, rfl, ?_⟩⟩
      dsimp only
      rw [big41]
      refine ⟨_, _, rfl, rfl, (by show (0 : Int) < _; decide), ?_⟩
      dsimp only
      generalize (m + 6700417 * (c + 1)) ^ (3 : Int).toNat = z1
      have e0 := Int.emod_nonneg z1 (show (100000000000000000000000000000000000000037 : Int) ≠ 0 by decide)
      have e1 := Int.emod_lt_of_pos z1 (show (0 : Int) < 100000000000000000000000000000000000000037 by decide)
      generalize z1 % 100000000000000000000000000000000000000037 = y1 at e0 e1 ⊢
      refine ⟨_, rfl, _, rfl, .inl ⟨_, _, _, _, rfl, rfl, SqL.of upd_same, rfl, ?_⟩⟩
      refine .inl ⟨_, _, rfl, rfl, wide_mul (a := 40) (b := 62) (by decide) (by omega) (by decide) (by decide) (by decide), .inl ⟨_, _, rfl, rfl, ?_⟩⟩
      have b2 : (y1 + 32416190071 * (c + 1)).natAbs < 2 ^ 150 := by omega
      refine ⟨_, _, rfl, rfl, cpow (by decide) (by decide) b2 (by decide) (by decide), _, _, rfl, rfl, ⟨by decide, by decide, by decide +kernel⟩, .inl ⟨_, _, rfl, rfl, ?_⟩⟩
      dsimp only
      rw [big38]
      refine ⟨_, _, rfl, rfl, (by show (0 : Int) < _; decide), ?_⟩
      dsimp only
      generalize (y1 + 32416190071 * (c + 1)) ^ (5 : Int).toNat = z2
      generalize z2 % 1000000000000000000000000000000000000003 = y2
      refine ⟨_, rfl, _, _, rfl, rfl, wide_div (b := 30) (by decide) (by decide) (by decide) (by decide), _, rfl, _, _, rfl, rfl, hs, ?_⟩
      exact h _ _ (Int.emod_nonneg _ (by omega)) (Int.emod_lt_of_pos _ hs) ⟨_, m, c + 1, upd_same, hm0, hm1, by omega, by omega⟩ But.upd
theorem eq_dec {a b : Int} (h : decide (V.int a = V.int b) = true) : a = b := V.int.inj (of_decide_eq_true h)
theorem ne_dec {a b : Int} (h : ¬ decide (V.int a = V.int b) = true) : a ≠ b := fun e => h (decide_eq_true (by rw [e]))
def spMade (A : Ad) : Sp := fun vs H Q _ => ∃ (way n : Int) (x : Str), vs = [.int way, .str x, .int n] ∧ 0 ≤ way ∧ way ≤ 2 ∧ isItem x = true ∧ 0 ≤ n ∧ n ≤ 60 ∧
  ∀ (p dx : Addr) (H' : Hp), Same H H' → H p = none → H' p = some (.ins (cw A way) dx (rfs x n)) → Q (.ref p) H'
theorem ok__law_made (T : Txt K mg A) : Ok1 P w K mg base 5 A.f__law_made ["kind", "name", "index"] (spMade A) := by
  refine T.fn__law_made.ok sc__law_made (fun _ _ _ _ _ _ us hl => match us, hl with | [_, _, _], _ => rfl) (fun vs H Q E h => ?_) (fun cdv B up s H vs Q E hr h => ?_)
  · obtain ⟨way, n, x, rfl, _⟩ := h
    rfl
  · obtain ⟨way, n, x, rfl, w0, w1, hi, h0, h1, h⟩ := h
    refine ⟨_, (pss_cons (ps_if (pt_cmpR (op_eqX hr) (pv 0) pe_int (nomark _)) (pss_one (ps_ret (po_make T.mk_Inserted (ok_Record___init__ T) (hr.mono (by decide)) T.mg_Inserted (pa_cons (pv 1) (pa_cons (pv 2) pa_nil))))) pss_nil)
      (pss_one (ps_ret (pe_ifExp (pt_cmpR (op_eqX hr) (pv 0) pe_int (nomark _)) (po_make T.mk_Removed (ok_Record___init__ T) (hr.mono (by decide)) T.mg_Removed (pa_cons (pv 1) (pa_cons (pv 2) pa_nil))) (po_make T.mk_Fronted (ok_Record___init__ T) (hr.mono (by decide)) T.mg_Fronted (pa_cons (pv 1) (pa_cons (pv 2) pa_nil))))))), ?_⟩
    refine ⟨_, rfl, .inl ⟨rfl, _, rfl, ?_⟩⟩
    refine ite2 (fun c => ?_) (fun c => ?_)
    · obtain rfl := eq_dec c
      exact ⟨_, rfl, _, rfl, fun p dx np nd ne => ⟨p, _, dx, x, n, rfl, upd_same, rc_Inserted T, hi, h0, h1, fun H' e b => ⟨rfl, h p dx H' (made_same np nd b) np e⟩⟩⟩
    have c0 := ne_dec c
    refine ⟨_, rfl, .inl ⟨rfl, _, rfl, ?_⟩⟩
    refine ite2 (fun c => ?_) (fun c => ?_)
    · obtain rfl := eq_dec c
      exact ⟨_, rfl, _, rfl, fun p dx np nd ne => ⟨p, _, dx, x, n, rfl, upd_same, rc_Removed T, hi, h0, h1, fun H' e b => ⟨rfl, h p dx H' (made_same np nd b) np e⟩⟩⟩
    have c1 := ne_dec c
    obtain rfl : way = 2 := by omega
    exact ⟨_, rfl, _, rfl, fun p dx np nd ne => ⟨p, _, dx, x, n, rfl, upd_same, rc_Fronted T, hi, h0, h1, fun H' e b => ⟨rfl, h p dx H' (made_same np nd b) np e⟩⟩⟩

/-- the law's own state: what stood at first stands, and p is the source -/
structure Sd (H0 : Hp) (p : Addr) (n : Int) (H : Hp) : Prop where
  same : Same H0 H
  src : SrcAt H p n
  fr : H0 p = none
theorem Sd.pick {H0 H H' : Hp} {p : Addr} {n : Int} (s : Sd H0 p n H) (b : But p H H') (r : SrcAt H' p (n + 1)) : Sd H0 p (n + 1) H' := ⟨s.same.but s.fr b, r, s.fr⟩
theorem Sd.more {H0 H H' : Hp} {p : Addr} {n : Int} (s : Sd H0 p n H) (e : Same H H') : Sd H0 p n H' := ⟨s.same.trans e, s.src.same e, s.fr⟩
theorem Sd.le {H0 H : Hp} {p : Addr} {n m : Int} (s : Sd H0 p n H) (h : n ≤ m) : Sd H0 p m H := by
  obtain ⟨a, ⟨g, m', c, e, h0, h1, h2, h3⟩, f⟩ := s
  exact ⟨a, ⟨g, m', c, e, h0, h1, h2, by omega⟩, f⟩
theorem Sd.ne {H0 H : Hp} {p q : Addr} {n : Int} (s : Sd H0 p n H) (h : H q = none) : q ≠ p := fun e => by
  obtain ⟨g, m', c, z, _⟩ := s.src
  rw [e, z] at h
  cases h
theorem pickI {zs : List Int} {r : Int} (C : Int → Prop) (hC : ∀ z ∈ zs, C z) (h0 : 0 ≤ r) (h1 : r < zs.length) : ∃ z, atI (zs.map V.int) r = some (.int z) ∧ C z := by
  obtain ⟨j, rfl⟩ : ∃ j : Nat, r = j := ⟨r.toNat, by omega⟩
  have hj : j < zs.length := by omega
  exact ⟨zs[j], atI_nat (by simp [hj]), hC _ (List.getElem_mem hj)⟩
theorem at_map {zs : List Int} {i : Nat} {y : V} (h : (zs.map V.int)[i]? = some y) : ∃ z ∈ zs, y = .int z := by
  rw [List.getElem?_map] at h
  cases e : zs[i]? with
  | none => rw [e] at h; cases h
  | some z => rw [e] at h; exact ⟨z, List.mem_of_getElem? e, (Option.some.inj h).symm⟩
/-! ### slices of lists of texts -/
theorem cut_to (xs : List Str) (k : Nat) (h : k ≤ xs.length) : cutV (xs.map V.str) none (some (k : Int)) = (xs.take k).map V.str := by
  unfold cutV
  rw [HT.sIx_none, HT.sIx_nat, List.length_map, Nat.min_eq_left h, List.drop_zero, Nat.sub_zero, List.map_take]
theorem cut_from (xs : List Str) (k : Nat) (h : k ≤ xs.length) : cutV (xs.map V.str) (some (k : Int)) none = (xs.drop k).map V.str := by
  unfold cutV
  rw [HT.sIx_none, HT.sIx_nat, List.length_map, Nat.min_eq_left h, ← List.map_drop, ← List.map_take]
  rw [List.take_of_length_le (by rw [List.length_drop]; exact Nat.le_refl _)]
theorem cut_to' (xs : List Str) (k : Nat) : cutV (xs.map V.str) none (some (k : Int)) = (xs.take k).map V.str := by
  rcases Nat.lt_or_ge xs.length k with h | h
  · unfold cutV
    rw [HT.sIx_none, HT.sIx_nat, List.length_map, Nat.min_eq_right (Nat.le_of_lt h), List.drop_zero, Nat.sub_zero, List.map_take, List.take_of_length_le (by simp), List.take_of_length_le (by simp; omega)]
  · exact cut_to xs k h
theorem cut_from' (xs : List Str) (k : Nat) : cutV (xs.map V.str) (some (k : Int)) none = (xs.drop k).map V.str := by
  rcases Nat.lt_or_ge xs.length k with h | h
  · unfold cutV
    rw [HT.sIx_none, HT.sIx_nat, List.length_map, Nat.min_eq_right (Nat.le_of_lt h), List.drop_of_length_le (show xs.length ≤ k by omega), Nat.sub_self, List.take_zero]
    rfl
  · exact cut_from xs k h
theorem cut_both (xs : List Str) (j k : Nat) : cutV (xs.map V.str) (some (j : Int)) (some (k : Int)) = ((xs.take k).drop j).map V.str := by
  unfold cutV
  rw [HT.sIx_nat, HT.sIx_nat, List.length_map, List.drop_take, List.map_take, List.map_drop]
  rcases Nat.lt_or_ge xs.length j with h | h
  · rw [Nat.min_eq_right (Nat.le_of_lt h), List.drop_of_length_le (by simp), List.drop_of_length_le (by simp; omega)]
    simp
  · rw [Nat.min_eq_left h]
    rcases Nat.lt_or_ge xs.length k with h2 | h2
    · rw [Nat.min_eq_right (Nat.le_of_lt h2), List.take_of_length_le (by simp), List.take_of_length_le (by simp; omega)]
    · rw [Nat.min_eq_left h2]

end
end Own

set_option Elab.async false
set_option linter.all false
set_option maxRecDepth 100000
set_option maxHeartbeats 4000000
namespace Own
open PySem L2 ClX
local macro_rules | `(tactic| walk_at "v") => `(tactic| refine ⟨_, rfl, ?_⟩)
local macro_rules | `(tactic| walk_at "ii") => `(tactic| refine ⟨_, _, rfl, rfl, ?_⟩)
local macro_rules | `(tactic| walk_at "go") => `(tactic| repeat (first | refine ⟨_, rfl, ?_⟩ | refine ⟨_, _, rfl, rfl, ?_⟩ | refine addI ?_ | refine L2.iteT ?_ | refine L2.iteF ?_))

section
variable {P : Program} {w : World} {K : PySem.W.Frag} {mg : Str → Option Value} {base : Heap} {A : Ad}
/-! ### shuffled -/
theorem seqIx {r : Int} {n : Nat} (h0 : 0 ≤ r) (h1 : r < n) : seqIndex? r n = some r.toNat := by
  have h2 : ¬ r < 0 := by omega
  simp [seqIndex?, h2, h0, h1]
theorem erase_perm {α : Type} : ∀ (l : List α) (k : Nat) (h : k < l.length), (l[k] :: l.eraseIdx k).Perm l
  | _ :: _, 0, _ => List.Perm.refl _
  | x :: l, k + 1, h => (List.Perm.swap x _ (l.eraseIdx k)).trans ((erase_perm l k (Nat.lt_of_succ_lt_succ h)).cons x)
theorem perm_out {α : Type} (done rest : List α) (k : Nat) (h : k < rest.length) : ((done ++ [rest[k]]) ++ rest.eraseIdx k).Perm (done ++ rest) := by
  rw [List.append_assoc]
  exact List.Perm.append_left _ (erase_perm rest k h)
theorem map_eraseIdx {α β : Type} (f : α → β) : ∀ (l : List α) (k : Nat), (l.map f).eraseIdx k = (l.eraseIdx k).map f
  | [], _ => rfl
  | _ :: _, 0 => rfl
  | x :: l, k + 1 => congrArg (f x :: ·) (map_eraseIdx f l k)
def spShuf : Sp := fun vs H Q _ => ∃ (p r : Addr) (n : Int) (α : Type) (f : α → V) (xs : List α), vs = [.ref p, .ref r] ∧ SrcAt H p n ∧ H r = some (.lst (xs.map f)) ∧ xs.length ≤ 100 ∧ n < 2 ^ 50 ∧
  ∀ (D : Addr) (ys : List α) (H' : Hp), ys.Perm xs → But p H H' → SrcAt H' p (n + xs.length) → H D = none → H' D = some (.lst (ys.map f)) → Q (.ref D) H'
theorem ok__law_mixed (T : Txt K mg A) : Ok1 P w K mg base 2 A.f__law_mixed ["source", "row"] spShuf := by
  refine T.fn__law_mixed.ok sc__law_mixed (fun _ _ _ _ _ _ us hl => match us, hl with | [_, _], _ => rfl) (fun vs H Q E h => ?_) (fun cdv B up s H vs Q E hr h => ?_)
  · obtain ⟨p, r, n, α, f, xs, rfl, _⟩ := h
    rfl
  · obtain ⟨p, r, n, α, f, xs, rfl, hs, hx, hl, hn, h⟩ := h
    refine ⟨_, (pss_cons (ps_set (i := 2) sc__law_mixed.nd rfl (Or.inr rfl) (pe_callTy call_list_of (by rfl) T.no_list (by decide +kernel) (pa_cons (pv 1) pa_nil)))
      (pss_one (ps_ret (pe_lcD (own := [("k", 3)]) rfl sc__law_mixed.nd (pi_range1 rfl T.no_range (pa_cons (pe_callB call_len (by rfl) T.no_len (by decide +kernel) (pa_cons (pv 1) pa_nil)) pa_nil)) (blkOk_by (N := N__law_mixed) (sc := defScope s__law_mixed) (by decide +kernel)) (fun _ _ _ _ _ => pg_name (i := 3) sc__law_mixed.nd rfl (Or.inl rfl)) (fun _ _ _ _ _ => pts_nil) (fun _ _ _ _ _ => (pe_bm PySem.F.plainAttrs_list PySem.F.slot_list_pop PySem.F.type_list_pop mt_popAt (pv 2) (pa_cons (po_call (ok__law_pick T) (hr.mono (by decide)) T.mg__law_pick (pa_cons (pv 0) (pa_cons (pe_callB call_len (by rfl) T.no_len (by decide +kernel) (pa_cons (pv 2) pa_nil)) pa_nil))) pa_nil))))))), ?_⟩
    refine ⟨_, rfl, r, _, rfl, .inl (SqL.of hx), fun l nl => ?_⟩
    have lp : l ≠ p := fun e => by
      obtain ⟨g, m, c, z, _⟩ := hs
      rw [e, z] at nl
      cases nl
    refine ⟨_, rfl, _, _, rfl, .inl ⟨_, SqL.of (show upd H l _ r = _ by rw [upd_ne (ne_of_none hx nl)]; exact hx), rfl⟩, ?_⟩
    refine ⟨_, rfl, by omega, by rw [List.length_map]; omega, fun D nD => ?_⟩
    have Dl : D ≠ l := fun e => by
      rw [e, upd_same] at nD
      cases nD
    have nD0 : H D = none := by
      rw [upd_ne Dl] at nD
      exact nD
    have Dp : D ≠ p := fun e => by
      obtain ⟨g, m, c, z, _⟩ := hs
      rw [e, z] at nD0
      cases nD0
    refine lc_range (fun i H' => ∃ done rest : List α, (done ++ rest).Perm xs ∧ done.length = i ∧ H' l = some (.lst (rest.map f)) ∧ H' D = some (.lst (done.map f)) ∧ SrcAt H' p (n + i) ∧ But p H H') ?_ ?_ ?_
    · refine ⟨[], xs, List.Perm.refl _, rfl, ?_, upd_same, ?_, ?_⟩
      · rw [upd_ne (fun e => Dl e.symm), upd_same]
      · have z := (hs.same (Same.new (o := .lst (xs.map f)) nl)).same (Same.new (o := .lst []) nD)
        have e : n + ((0 : Nat) : Int) = n := by omega
        rw [e]
        exact z
      · exact But.same ((Same.new nl).trans (Same.new nD))
    · rintro i H1 hi ⟨done, rest, pm, dl, h1, h2, h3, h4⟩
      rw [List.length_map, Int.toNat_natCast] at hi
      have hlen : rest.length = xs.length - i := by
        have := pm.length_eq
        rw [List.length_append] at this
        omega
      refine ⟨rfl, _, rfl, .inl ⟨rfl, _, SqL.of h1⟩, _, rfl, _, rfl, _, _, rfl, .inl ⟨_, SqL.of h1, rfl⟩, p, _, n + i, rfl, ?_, ?_, h3, by omega, fun r0 H3 g0 g1 g2 g3 => ?_⟩
      · rw [List.length_map]
        omega
      · rw [List.length_map]
        omega
      rw [List.length_map] at g1
      have k1 : r0.toNat < rest.length := by omega
      refine ⟨l, _, r0, r0.toNat, f (rest[r0.toNat]), rfl, rfl, g3 _ _ h1 lp, by omega, by omega, ?_, ?_, done.map f, ?_, ?_, done ++ [rest[r0.toNat]], rest.eraseIdx r0.toNat, (perm_out done rest _ k1).trans pm, ?_, ?_, ?_, ?_, ?_⟩
      · rw [List.length_map]
        exact seqIx g0 g1
      · rw [List.getElem?_map, List.getElem?_eq_getElem k1]
        rfl
      · rw [upd_ne Dl]
        exact g3 _ _ h2 Dp
      · rw [List.length_map, dl]
        exact Nat.lt_of_lt_of_le (show i < 1000 by omega) (by decide)
      · rw [List.length_append, dl]
        rfl
      · rw [upd_ne (fun e => Dl e.symm), upd_same, map_eraseIdx]
      · rw [upd_same, List.map_append]
        rfl
      · have z : n + ((i + 1 : Nat) : Int) = n + i + 1 := by omega
        rw [z]
        obtain ⟨g, m, c, e, r⟩ := g2
        exact ⟨g, m, c, by rw [upd_ne (fun e => Dp e.symm), upd_ne (fun e => lp e.symm)]; exact e, r⟩
      · intro b o hb nb
        rw [upd_ne (ne_of_none hb nD0), upd_ne (ne_of_none hb nl)]
        exact g3 _ _ (h4 b o hb nb) nb
    · rintro H1 ⟨done, rest, pm, dl, h1, h2, h3, h4⟩
      rw [List.length_map, Int.toNat_natCast] at dl h3
      have hlen : rest.length = 0 := by
        have := pm.length_eq
        rw [List.length_append] at this
        omega
      rw [List.length_eq_zero_iff.mp hlen, List.append_nil] at pm
      exact h D done H1 pm h4 h3 nD0 h2

/-! ### items -/
/-- different items -/
structure Items (xs : List Str) : Prop where
  it : ∀ x ∈ xs, isItem x = true
  nd : xs.Nodup
theorem Items.perm {xs ys : List Str} (h : Items xs) (p : ys.Perm xs) : Items ys := ⟨fun x hx => h.it x (p.mem_iff.mp hx), p.nodup_iff.mpr h.nd⟩
theorem Items.len {xs : List Str} (h : Items xs) {x : Str} (hx : x ∈ xs) : x.length ≤ 8 := item_len (h.it x hx)

/-! ### small facts -/
theorem inS (x : Str) : ∀ xs : List Str, inV (.str x) (xs.map V.str) = decide (x ∈ xs)
  | [] => rfl
  | y :: ys => by
    have ih := inS x ys
    unfold inV at ih ⊢
    rw [List.map_cons, List.any_cons, ih]
    show ((y == x) || decide (x ∈ ys)) = decide (x ∈ y :: ys)
    by_cases e : x = y
    · subst e
      simp
    · have e2 : (y == x) = false := beq_false_of_ne fun z => e z.symm
      rw [e2]
      simp [e]
theorem flatS (xs : List Str) : (xs.map V.str).all flatV = true := by
  rw [List.all_map, List.all_eq_true]
  intro x _
  rfl
theorem addL {H : Hp} {Q : VK} {l b : Addr} {xs zs : List V} (h1 : H l = some (.lst xs)) (h2 : H b = some (.lst zs)) (h3 : xs.length + zs.length ≤ 1000000) (q : ∀ p, H p = none → Q (.ref p) (upd H p (.lst (xs ++ zs)))) : rAddX (.ref l) (.ref b) H Q :=
  .inr (.inr ⟨l, b, xs, zs, rfl, rfl, h1, h2, Nat.le_trans h3 (by decide), q⟩)
theorem none_same {H H' : Hp} {D : Addr} (s : Same H H') (nD : H' D = none) : H D = none := by
  cases e : H D with
  | none => rfl
  | some o =>
    rw [s _ _ e] at nD
    cases nD
theorem strT (z : Str) : decide (V.str z = V.str z) = true := decide_eq_true rfl
theorem strF (z : Str) : (!decide (V.str z = V.str z)) = false := by rw [strT]; rfl

/-! ### lists of items as data -/
theorem item_chars {x : Str} (h : isItem x = true) : ∀ c ∈ x.cps.toList, c < 128 := by
  unfold isItem at h
  rw [Bool.and_eq_true, Bool.and_eq_true] at h
  have z := h.2.1
  unfold Txt.isascii at z
  intro c hc
  rw [Array.all_eq_true'] at z
  exact of_decide_eq_true (z c (Array.mem_toList_iff.mp hc))
def sl (xs : List Str) : PyData := .list (xs.map .str)
theorem dpAllS (xs : List Str) (H : Hp) : DpAll K H (xs.map V.str) (xs.map PyData.str) := by
  induction xs with
  | nil => exact .nil
  | cons x xs ih => exact .cons (.str x) ih
theorem dpS {H : Hp} {a : Addr} {xs : List Str} (h : SqL K H a (xs.map V.str)) : Dp K H (.ref a) (sl xs) := .lst h (dpAllS xs H)
theorem eqvAllS : ∀ xs ys : List Str, PyData.eqvAll (xs.map .str) (ys.map .str) = decide (xs = ys)
  | [], [] => by simp [PyData.eqvAll]
  | [], _ :: _ => by simp [PyData.eqvAll]
  | _ :: _, [] => by simp [PyData.eqvAll]
  | x :: xs, y :: ys => by
    have ih := eqvAllS xs ys
    simp only [List.map_cons, PyData.eqvAll, PyData.eqv, ih]
    by_cases e : x = y
    · subst e
      simp
    · have e2 : (x == y) = false := beq_false_of_ne e
      rw [e2]
      simp [e]
theorem eqvS (xs ys : List Str) : PyData.eqv (sl xs) (sl ys) = decide (xs = ys) := by
  unfold sl
  simp only [PyData.eqv]
  exact eqvAllS xs ys
theorem layS : ∀ xs : List Str, (∀ x ∈ xs, isItem x = true) → PyData.canLayAll0 (xs.map .str) = true
  | [], _ => by simp [PyData.canLayAll0]
  | x :: xs, h => by
    have ih := layS xs fun y hy => h y (List.mem_cons_of_mem _ hy)
    have hx : PyData.strOk x = true := by
      unfold PyData.strOk
      rw [Array.all_eq_true']
      intro c hc
      have := item_chars (h x List.mem_cons_self) c (Array.mem_toList_iff.mpr hc)
      exact decide_eq_true (by omega)
    simp only [List.map_cons, PyData.canLayAll0, PyData.canLay0, ih, hx, Bool.and_self]
theorem depthS : ∀ xs : List Str, PyData.depthAll (xs.map .str) = 0
  | [] => by simp [PyData.depthAll]
  | x :: xs => by simp [PyData.depthAll, PyData.depth, depthS xs]
theorem shapedS {xs : List Str} (h : ∀ x ∈ xs, isItem x = true) : SeqAt.shaped (sl xs) = true := by
  unfold SeqAt.shaped sl
  simp [PyData.canLay0, layS xs h, PyData.depth, depthS xs]
theorem showableS : ∀ xs : List Str, PyData.showableAll (xs.map .str) = true
  | [] => by simp [PyData.showableAll]
  | x :: xs => by simp [PyData.showableAll, PyData.showable, showableS xs]
theorem noDictS : ∀ xs : List Str, PyData.hasDictAll (xs.map .str) = false
  | [] => by simp [PyData.hasDictAll]
  | x :: xs => by simp [PyData.hasDictAll, PyData.hasDict, noDictS xs]
theorem shownS : ∀ xs : List Str, PyData.shownAll (xs.map .str) = xs.map reprText
  | [] => by simp [PyData.shownAll]
  | x :: xs => by simp [PyData.shownAll, PyData.shown, shownS xs]
theorem sumS : ∀ xs : List Str, (∀ x ∈ xs, isItem x = true) → ((xs.map reprText).map (·.length)).sum ≤ 82 * xs.length
  | [], _ => by simp
  | x :: xs, h => by
    have ih := sumS xs fun y hy => h y (List.mem_cons_of_mem _ hy)
    have hx := h x List.mem_cons_self
    have l := item_len hx
    have z := StrLaws.reprText_len x fun c hc => Nat.lt_of_lt_of_le (item_chars hx c hc) (by decide)
    simp only [List.map_cons, List.sum_cons, List.length_cons]
    omega
theorem shownS_len {xs : List Str} (h : ∀ x ∈ xs, isItem x = true) (m : xs.length ≤ 70) : (sl xs).shown.length ≤ 6000 := by
  have z := listText_len_le (xs.map reprText)
  have q := sumS xs h
  rw [List.length_map] at z
  unfold sl
  simp only [PyData.shown, shownS]
  omega
theorem showsS {xs : List Str} (h : ∀ x ∈ xs, isItem x = true) (m : xs.length ≤ 70) : Shows (sl xs) := by
  refine ⟨?_, ?_, ?_, Nat.le_trans (shownS_len h m) (by decide)⟩
  · simp [sl, PyData.showable, showableS]
  · simp [sl, PyData.hasDict, noDictS]
  · simp [sl, PyData.depth, depthS]
/-- what is told of a list, or of none -/
def tl (o : Option (List Str)) (x : Str) : PyData := match o with
  | some ys => sl ys
  | none => .tuple [.str "impossible", .str x]
theorem tl_len {o : Option (List Str)} {x : Str} (h : ∀ ys, o = some ys → (∀ y ∈ ys, isItem y = true) ∧ ys.length ≤ 70) (hx : isItem x = true) : (tl o x).shown.length ≤ 6000 := by
  cases o with
  | some ys => exact shownS_len (h ys rfl).1 (h ys rfl).2
  | none =>
    have z := tupleText_len_le [reprText "impossible", reprText x]
    have l := item_len hx
    have q := StrLaws.reprText_len x fun c hc => Nat.lt_of_lt_of_le (item_chars hx c hc) (by decide)
    have q2 : (reprText "impossible").length ≤ 100 := by decide +kernel
    unfold tl
    simp only [PyData.shown, PyData.shownAll]
    simp only [List.map_cons, List.map_nil, List.sum_cons, List.sum_nil, List.length_cons, List.length_nil] at z
    omega
theorem tl_shape {o : Option (List Str)} {x : Str} (h : ∀ ys, o = some ys → (∀ y ∈ ys, isItem y = true) ∧ ys.length ≤ 70) (hx : isItem x = true) : (tl o x).showable = true ∧ (tl o x).hasDict = false ∧ (tl o x).depth ≤ 3 := by
  cases o with
  | some ys =>
    refine ⟨?_, ?_, ?_⟩
    · simp [tl, sl, PyData.showable, showableS]
    · simp [tl, sl, PyData.hasDict, noDictS]
    · simp [tl, sl, PyData.depth, depthS]
  | none =>
    refine ⟨?_, ?_, ?_⟩
    · simp [tl, PyData.showable, PyData.showableAll]
    · simp [tl, PyData.hasDict, PyData.hasDictAll]
    · simp [tl, PyData.depth, PyData.depthAll]
theorem shows_tl2 {o : Option (List Str)} {x : Str} (h : ∀ ys, o = some ys → (∀ y ∈ ys, isItem y = true) ∧ ys.length ≤ 70) (hx : isItem x = true) : Shows (.list [tl o x, tl o x]) := by
  obtain ⟨a, b, c⟩ := tl_shape h hx
  have l := tl_len h hx
  refine ⟨?_, ?_, ?_, ?_⟩
  · simp [PyData.showable, PyData.showableAll, a]
  · simp [PyData.hasDict, PyData.hasDictAll, b]
  · simp only [PyData.depth, PyData.depthAll]
    omega
  · have z := listText_len_le [(tl o x).shown, (tl o x).shown]
    simp only [PyData.shown, PyData.shownAll]
    simp only [List.map_cons, List.map_nil, List.sum_cons, List.sum_nil, List.length_cons, List.length_nil] at z
    exact Nat.le_trans (show _ ≤ 13000 by omega) (by decide)

end
end Own

set_option Elab.async false
set_option linter.all false
set_option maxRecDepth 100000
set_option maxHeartbeats 4000000
namespace Own
open PySem L2 ClX
local macro_rules | `(tactic| walk_at "v") => `(tactic| refine ⟨_, rfl, ?_⟩)
local macro_rules | `(tactic| walk_at "ii") => `(tactic| refine ⟨_, _, rfl, rfl, ?_⟩)
local macro_rules | `(tactic| walk_at "go") => `(tactic| repeat (first | refine ⟨_, rfl, ?_⟩ | refine ⟨_, _, rfl, rfl, ?_⟩ | refine addI ?_ | refine L2.iteT ?_ | refine L2.iteF ?_))

section
variable {P : Program} {w : World} {K : PySem.W.Frag} {mg : Str → Option Value} {base : Heap} {A : Ad}
/-! ### lists of items, or any object -/
def itemO : Option Str → Bool
  | some x => isItem x
  | none => false
def spItemA (K : PySem.W.Frag) : Sp := fun vs H Q _ => ∃ (v : V) (o : Option Str), vs = [v] ∧ Ent K H v o ∧ Q (.bl (itemO o)) H
theorem ok_is_itemA (T : Txt K mg A) : Ok1 P w K mg base 1 A.f_is_item ["thing"] (spItemA K) := by
  refine T.fn_is_item.ok sc_is_item (fun _ _ _ _ _ _ us hl => match us, hl with | [_], _ => rfl) (fun vs H Q E h => ?_) (fun cdv B up s H vs Q E hr h => ?_)
  · obtain ⟨v, o, rfl, _⟩ := h
    rfl
  · obtain ⟨v, o, rfl, he, h⟩ := h
    refine ⟨_, (pss_cons (ps_if (PW.pt (pw_or (pt_not (pt_val (pe_callB call_isi (by rfl) T.no_isinstance (by decide +kernel) (pa_cons (pv 0) (pa_cons (pe_bltn (v := .ty "str") (by rfl) T.no_str (by decide +kernel) rfl) pa_nil))))) (pw_or1 (pt_cmpR op_gt (pe_callB call_len (by rfl) T.no_len (by decide +kernel) (pa_cons (pv 0) pa_nil)) (pe_globC T.mg_MOST_LETTERS) (nomark _))))) (pss_one (ps_ret pe_bl)) pss_nil)
      (pss_one (ps_ret (pe_and (pe_bm0 PySem.F.plainAttrs_str PySem.F.slot_str_isascii PySem.F.type_str_isascii mt_isascii (pv 0)) (pe_and (pe_bm0 PySem.F.plainAttrs_str PySem.F.slot_str_isalpha PySem.F.type_str_isalpha mt_isalpha (pv 0)) (pe_one (pe_bm0 PySem.F.plainAttrs_str PySem.F.slot_str_islower PySem.F.type_str_islower mt_islower (pv 0)))))))), ?_⟩
    cases he with
    | no ty hk => exact ⟨_, rfl, _, _, _, _, _, rfl, .ty _, ty, hk, _, rfl, iteT h⟩
    | str x hx =>
      refine ⟨_, rfl, _, _, _, _, _, rfl, .ty _, .base (.str _), kit_ty (r := true) (by decide +kernel), ?_⟩
      refine ⟨_, rfl, ?_⟩
      refine iteF ?_
      have h : Q (.bl (isItem x)) H := h
      refine ⟨_, rfl, _, _, rfl, ⟨szS (by omega), rfl⟩, _, _, rfl, rfl, _, rfl, ?_⟩
      unfold isItem at h
      refine ite2 (fun c => ?_) (fun c => ?_)
      · have e : decide (x.length ≤ 8) = false := decide_eq_false (by have := of_decide_eq_true c; omega)
        rw [e] at h
        exact h
      · have e : decide (x.length ≤ 8) = true := decide_eq_true (by have := of_decide_eq_false (Bool.eq_false_iff.mpr c); omega)
        rw [e, Bool.true_and] at h
        refine ⟨_, rfl, rfl, _, rfl, rfl, trivial, _, rfl, ?_⟩
        refine ite2 (fun c1 => ?_) (fun c1 => ?_)
        · rw [c1, Bool.true_and] at h
          refine ⟨_, rfl, rfl, _, rfl, rfl, trivial, _, rfl, ?_⟩
          refine ite2 (fun c2 => ?_) (fun c2 => ?_)
          · rw [c2, Bool.true_and] at h
            exact ⟨_, rfl, rfl, _, rfl, rfl, trivial, h⟩
          · rw [Bool.eq_false_iff.mpr c2] at h
            exact h
        · rw [Bool.eq_false_iff.mpr c1] at h
          exact h
/-- any object, and whether it is a list of items -/
inductive Thing (K : PySem.W.Frag) (H : Hp) : V → Bool → Prop where
  | no {v : V} {t : Value} (ty : TyX K H v t) (h : PySem.W.kitOne K t (.type "list") = some false) : Thing K H v false
  | lst {l : Addr} {vs : List V} {os : List (Option Str)} (e : H l = some (.lst vs)) (m : vs.length ≤ 4000) (z : Ents K H vs os) : Thing K H (.ref l) (decide (os.length ≤ 60) && (os.all itemO && decide (os.filterMap id).Nodup))
theorem Thing.good {H : Hp} {l : Addr} {xs : List Str} (e : H l = some (.lst (xs.map V.str))) (i : Items xs) (m : xs.length ≤ 60) : Thing K H (.ref l) true := by
  have z : Ents K H (xs.map V.str) (xs.map some) := Ents.strs xs fun x hx => Nat.le_trans (i.len hx) (by decide)
  have q := Thing.lst e (by rw [List.length_map]; omega) z
  have f : (xs.map some).filterMap id = xs := by
    rw [List.filterMap_map]
    exact List.filterMap_some
  have a : (xs.map some).all itemO = true := by
    rw [List.all_eq_true]
    intro o ho
    obtain ⟨x, hx, rfl⟩ := List.mem_map.mp ho
    exact i.it x hx
  rw [f, a, List.length_map, decide_eq_true m, decide_eq_true i.nd] at q
  exact q
def spIsItems (K : PySem.W.Frag) : Sp := fun vs H Q _ => ∃ (v : V) (b : Bool), vs = [v] ∧ Thing K H v b ∧ ∀ H', Same H H' → Q (.bl b) H'
theorem ok_is_items (T : Txt K mg A) : Ok1 P w K mg base 2 A.f_is_items ["thing"] (spIsItems K) := by
  refine T.fn_is_items.ok sc_is_items (fun _ _ _ _ _ _ us hl => match us, hl with | [_], _ => rfl) (fun vs H Q E h => ?_) (fun cdv B up s H vs Q E hr h => ?_)
  · obtain ⟨v, b, rfl, _⟩ := h
    rfl
  · obtain ⟨v, b, rfl, he, h⟩ := h
    refine ⟨_, (pss_cons (ps_if (PW.pt (pw_or (pt_not (pt_val (pe_callB call_isi (by rfl) T.no_isinstance (by decide +kernel) (pa_cons (pv 0) (pa_cons (pe_bltn (v := .ty "list") (by rfl) T.no_list (by decide +kernel) rfl) pa_nil))))) (pw_or1 (pt_cmpR op_gt (pe_callB call_len (by rfl) T.no_len (by decide +kernel) (pa_cons (pv 0) pa_nil)) (pe_globC T.mg_MOST_ITEMS) (nomark _))))) (pss_one (ps_ret pe_bl)) pss_nil)
      (pss_one (ps_ret (pe_and (pe_callB (cr_all rfl) (by rfl) T.no_all (by decide +kernel) (pa_cons (pe_lcD (own := [("entry", 1)]) rfl sc_is_items.nd (pi_list (pv 0)) (blkOk_by (N := N_is_items) (sc := defScope s_is_items) (by decide +kernel)) (fun _ _ _ _ _ => pg_name (i := 1) sc_is_items.nd rfl (Or.inl rfl)) (fun _ _ _ _ _ => pts_nil) (fun _ _ _ _ _ => (po_call (ok_is_itemA T) (hr.mono (by decide)) T.mg_is_item (pa_cons (pv 1) pa_nil)))) pa_nil)) (pe_one (pe_cmpR (op_eqX hr) (pe_lenSetS T.no_len T.no_set (pv 0)) (pe_callB call_len (by rfl) T.no_len (by decide +kernel) (pa_cons (pv 0) pa_nil)) (nomark _))))))), ?_⟩
    cases he with
    | no ty hk => exact ⟨_, rfl, _, _, _, _, _, rfl, .ty _, ty, hk, _, rfl, iteT (h H (fun _ _ e => e))⟩
    | @lst l vs os e m z =>
      have ll := z.len
      refine ⟨_, rfl, _, _, _, _, _, rfl, .ty _, .base (.lst e), kit_ty (r := true) (by decide +kernel), ?_⟩
      refine ⟨_, rfl, ?_⟩
      refine iteF ?_
      refine ⟨_, rfl, _, _, rfl, .inl ⟨_, SqL.of e, rfl⟩, _, _, rfl, rfl, _, rfl, ?_⟩
      refine ite2 (fun c => ?_) (fun c => ?_)
      · have c' := of_decide_eq_true c
        rw [decide_eq_false (show ¬ os.length ≤ 60 by omega)] at h
        exact h H (fun _ _ e => e)
      · have c' := of_decide_eq_false (Bool.eq_false_iff.mpr c)
        rw [decide_eq_true (show os.length ≤ 60 by omega), Bool.true_and] at h
        refine ⟨_, rfl, l, rfl, ⟨_, SqL.of e⟩, fun D nD => ?_⟩
        refine lc_list (K := K) (a := l) (xs := vs) (fun i H' => Same H H' ∧ H' D = some (.lst (((os.take i).map itemO).map V.bl))) ?_ ?_ ?_ ?_
        · exact ⟨Same.new nD, upd_same⟩
        · rintro i H1 _ ⟨s1, _⟩
          exact SqL.of (s1 _ _ e)
        · rintro i x H1 hx ⟨s1, h1⟩
          obtain ⟨o, ho, en⟩ := z.get hx
          refine ⟨rfl, _, rfl, _, o, rfl, en.same s1, _, h1, ?_, ?_, ?_⟩
          · rw [List.length_map, List.length_map, List.length_take]
            exact Nat.lt_of_le_of_lt (Nat.min_le_left _ _) (Nat.lt_of_lt_of_le (show i < 4001 by have := (List.getElem?_eq_some_iff.mp ho).1; omega) (by decide))
          · intro b o hb
            rw [upd_ne (ne_of_none hb nD)]
            exact s1 _ _ hb
          · have hi : i < os.length := (List.getElem?_eq_some_iff.mp ho).1
            have e9 : os.take (i + 1) = os.take i ++ [o] := by
              rw [List.take_add_one, ho]
              rfl
            rw [upd_same, e9, List.map_append, List.map_append]
            rfl
        · rintro H1 ⟨s1, h1⟩
          rw [ll, List.take_length] at h1
          have eA : (os.map itemO).all id = os.all itemO := by rw [List.all_map]; rfl
          refine ⟨D, _, rfl, SqL.of h1, ?_⟩
          rw [eA]
          refine ⟨_, rfl, ?_⟩
          refine ite2 (fun c2 => ?_) (fun c2 => ?_)
          · have c2 : os.all itemO = true := c2
            obtain ⟨z1, z2, z3⟩ := z.all itemO rfl c2
            have sq : SqL K H1 l ((os.filterMap id).map V.str) := z1 ▸ SqL.of (s1 _ _ e)
            have l2 : vs.length = (os.filterMap id).length := by
              rw [z1, List.length_map]
            refine ⟨_, rfl, l, os.filterMap id, rfl, sq, by omega, _, rfl, _, _, rfl, .inl ⟨_, sq, rfl⟩, eqS rfl ?_⟩
            have dd : decide (V.int ((OwnSet.met (os.filterMap id) (os.filterMap id).length).length : Nat) = V.int (((os.filterMap id).map V.str).length : Nat)) = decide (os.filterMap id).Nodup := by
              rw [← OwnSet.met_all, List.length_map]
              exact decide_eq_decide.mpr ⟨fun z => Int.ofNat.inj (V.int.inj z), fun z => by rw [z]⟩
            rw [dd]
            have h9 := h H1 s1
            rw [c2, Bool.true_and] at h9
            exact h9
          · have c2 : os.all itemO = false := Bool.eq_false_iff.mpr c2
            have h9 := h H1 s1
            rw [c2] at h9
            exact h9
def spCheck (K : PySem.W.Frag) (A : Ad) : Sp := fun vs H Q E => ∃ (v : V) (b : Bool), vs = [v] ∧ Thing K H v b ∧ ∀ H', Same H H' → (b = true → Q .non H') ∧ (b = false → E (.ref A.c_NoList) none H')
theorem ok_check_items (T : Txt K mg A) : OkX P w K mg base 3 A.f_check_items ["items"] (spCheck K A) := by
  refine T.fn_check_items.okX sc_check_items (fun _ _ _ _ _ _ us hl => match us, hl with | [_], _ => rfl) (fun vs H Q E h => ?_) (fun cdv B up s H vs Q E hr h => ?_)
  · obtain ⟨v, b, rfl, _⟩ := h
    rfl
  · obtain ⟨v, b, rfl, he, h⟩ := h
    refine ⟨_, (pss_one (ps_if (pt_not (pt_val (po_call (ok_is_items T) (hr.mono (by decide)) T.mg_is_items (pa_cons (pv 0) pa_nil)))) (pss_one (ps_raise rfl (takes_of rfl rfl rfl rfl) (pmk_own PySem.F.excBase_ValueError T.er_NoList.xP T.mg_NoList T.er_NoList.kp (raises_own T.er_NoList.bP T.er_NoList.tP) rfl))) pss_nil)), ?_⟩
    refine ⟨_, rfl, v, b, rfl, he, fun H' s' => ⟨_, rfl, ?_⟩⟩
    obtain ⟨h1, h2⟩ := h H' s'
    cases b with
    | true => exact iteF (h1 rfl)
    | false =>
      refine iteT ?_
      exact h2 rfl

end
end Own

set_option Elab.async false
set_option linter.all false
set_option maxRecDepth 100000
set_option maxHeartbeats 4000000
namespace Own
open PySem L2 ClX
local macro_rules | `(tactic| walk_at "v") => `(tactic| refine ⟨_, rfl, ?_⟩)
local macro_rules | `(tactic| walk_at "ii") => `(tactic| refine ⟨_, _, rfl, rfl, ?_⟩)
local macro_rules | `(tactic| walk_at "go") => `(tactic| repeat (first | refine ⟨_, rfl, ?_⟩ | refine ⟨_, _, rfl, rfl, ?_⟩ | refine addI ?_ | refine L2.iteT ?_ | refine L2.iteF ?_))

section
variable {P : Program} {w : World} {K : PySem.W.Frag} {mg : Str → Option Value} {base : Heap} {A : Ad}
/-! ### records, or any object; one after another -/
def signW (way : Int) : Str := if way = 0 then "+" else if way = 1 then "-" else if way = 2 then "^" else ""
structure Kd (K : PySem.W.Frag) (A : Ad) (way : Int) : Prop where
  rc : RC K (cw A way)
  ty : InsT K (cw A way)
  kr : PySem.W.kitOne K (.ref (cw A way)) (.ref A.c_Record) = some true
  sg : ∃ u, Con K (cw A way) "SIGN" (.str (signW way)) u
theorem kd_of (T : Txt K mg A) {way : Int} (h0 : 0 ≤ way) (h1 : way ≤ 3) : Kd K A way := by
  rcases way4 h0 h1 with rfl | rfl | rfl | rfl
  · exact ⟨rc_Inserted T, T.ty_Inserted, T.kit_Inserted_Record, T.iv_Inserted_SIGN⟩
  · exact ⟨rc_Removed T, T.ty_Removed, T.kit_Removed_Record, T.iv_Removed_SIGN⟩
  · exact ⟨rc_Fronted T, T.ty_Fronted, T.kit_Fronted_Record, T.iv_Fronted_SIGN⟩
  · exact ⟨rc_Record T, T.ty_Record, T.kit_Record_Record, T.iv_Record_SIGN⟩
/-- an object, and whether it is a record of a kind -/
inductive Rw (K : PySem.W.Frag) (A : Ad) (H : Hp) : V → Bool → Prop where
  | row {p dx : Addr} {way : Int} {x : Str} {n : Nat} (e : H p = some (.ins (cw A way) dx (rfs x n))) (h0 : 0 ≤ way) (h1 : way ≤ 3) : Rw K A H (.ref p) (decide (way < 3))
  | no {v : V} {t : Value} (ty : TyX K H v t) (h : PySem.W.kitOne K t (.ref A.c_Record) = some false) : Rw K A H v false
theorem Rw.same {H H' : Hp} {v : V} {b : Bool} (h : Rw K A H v b) (s : Same H H') : Rw K A H' v b := by
  cases h with
  | row e h0 h1 => exact .row (s _ _ e) h0 h1
  | no ty h => exact .no (ty.same s) h
def spKind (K : PySem.W.Frag) (A : Ad) : Sp := fun vs H Q _ => ∃ (v : V) (b : Bool), vs = [v] ∧ Rw K A H v b ∧ Q (.bl b) H
theorem no_sign (x : Str) (n : Int) : (rfs x n).lookup ("SIGN" : Str) = none := rfs_no _ _ (by decide +kernel) (by decide +kernel)
theorem ok_has_kind (T : Txt K mg A) : Ok1 P w K mg base 1 A.f_has_kind ["thing"] (spKind K A) := by
  refine T.fn_has_kind.ok sc_has_kind (fun _ _ _ _ _ _ us hl => match us, hl with | [_], _ => rfl) (fun vs H Q E h => ?_) (fun cdv B up s H vs Q E hr h => ?_)
  · obtain ⟨v, b, rfl, _⟩ := h
    rfl
  · obtain ⟨v, b, rfl, hv, h⟩ := h
    refine ⟨_, (pss_one (ps_ret (pe_and (pe_callB call_isi (by rfl) T.no_isinstance (by decide +kernel) (pa_cons (pv 0) (pa_cons (pe_glob (v := .ref A.c_Record) rfl T.mg_Record rfl) pa_nil))) (pe_one (pe_cmpR (op_neX hr) (pe_con (pv 0) rfl) (pe_clsv T.cv_Record_SIGN (pe_glob (v := .ref A.c_Record) rfl T.mg_Record rfl)) (nomark _)))))), ?_⟩
    cases hv with
    | no ty hk => exact ⟨_, rfl, _, _, _, _, _, rfl, .own _, ty, hk, _, rfl, iteF h⟩
    | @row p dx way x n e h0 h1 =>
      have k := kd_of T h0 h1
      obtain ⟨u, cn⟩ := k.sg
      refine ⟨_, rfl, _, _, _, _, _, rfl, .own _, .base (.ins e k.rc.cl k.ty.ha k.ty.hn k.ty.ht k.ty.hm), k.kr, _, rfl, iteT ?_⟩
      refine ⟨_, rfl, p, _, dx, _, _, _, rfl, e, k.rc.cl, cn, no_sign _ _, neS rfl ?_⟩
      have z : (!decide (V.str (signW way) = V.str "")) = decide (way < 3) := by
        rcases way4 h0 h1 with rfl | rfl | rfl | rfl
        · decide +kernel
        · decide +kernel
        · decide +kernel
        · decide +kernel
      rw [z]
      exact h

inductive Rws (K : PySem.W.Frag) (A : Ad) (H : Hp) : List V → List Bool → Prop where
  | nil : Rws K A H [] []
  | cons {v : V} {b : Bool} {vs : List V} {bs : List Bool} (h : Rw K A H v b) (t : Rws K A H vs bs) : Rws K A H (v :: vs) (b :: bs)
theorem Rws.same {H H' : Hp} {vs : List V} {bs : List Bool} (h : Rws K A H vs bs) (s : Same H H') : Rws K A H' vs bs := by
  induction h with
  | nil => exact .nil
  | cons a _ ih => exact .cons (a.same s) ih
theorem Rws.len {H : Hp} {vs : List V} {bs : List Bool} (h : Rws K A H vs bs) : vs.length = bs.length := by
  induction h with
  | nil => rfl
  | cons _ _ ih => rw [List.length_cons, List.length_cons, ih]
theorem Rws.get {H : Hp} {vs : List V} {bs : List Bool} (h : Rws K A H vs bs) : ∀ {i : Nat} {v : V}, vs[i]? = some v → ∃ b, bs[i]? = some b ∧ Rw K A H v b := by
  induction h with
  | nil => intro i v e; cases e
  | cons a _ ih =>
    intro i v e
    cases i with
    | zero => cases e; exact ⟨_, rfl, a⟩
    | succ i => exact ih e
theorem Rws.app {H : Hp} {vs ws : List V} {bs cs : List Bool} (h : Rws K A H vs bs) (g : Rws K A H ws cs) : Rws K A H (vs ++ ws) (bs ++ cs) := by
  induction h with
  | nil => exact g
  | cons a _ ih => exact .cons a ih
/-- any object, and whether it is a list of at most so many records of the kinds -/
inductive ThingR (K : PySem.W.Frag) (A : Ad) (H : Hp) (most : Nat) : V → Bool → Prop where
  | no {v : V} {t : Value} (ty : TyX K H v t) (h : PySem.W.kitOne K t (.type "list") = some false) : ThingR K A H most v false
  | lst {l : Addr} {vs : List V} {bs : List Bool} (e : H l = some (.lst vs)) (m : vs.length ≤ 4000) (z : Rws K A H vs bs) : ThingR K A H most (.ref l) (decide (bs.length ≤ most) && bs.all id)
def spAreRec (K : PySem.W.Frag) (A : Ad) : Sp := fun vs H Q _ => ∃ (v : V) (most : Nat) (b : Bool), vs = [v, .int most] ∧ ThingR K A H most v b ∧ ∀ H', Same H H' → Q (.bl b) H'
theorem ok_are_records (T : Txt K mg A) : Ok1 P w K mg base 2 A.f_are_records ["thing", "most"] (spAreRec K A) := by
  refine T.fn_are_records.ok sc_are_records (fun _ _ _ _ _ _ us hl => match us, hl with | [_, _], _ => rfl) (fun vs H Q E h => ?_) (fun cdv B up s H vs Q E hr h => ?_)
  · obtain ⟨v, most, b, rfl, _⟩ := h
    rfl
  · obtain ⟨v, most, b, rfl, he, h⟩ := h
    refine ⟨_, (pss_cons (ps_if (PW.pt (pw_or (pt_not (pt_val (pe_callB call_isi (by rfl) T.no_isinstance (by decide +kernel) (pa_cons (pv 0) (pa_cons (pe_bltn (v := .ty "list") (by rfl) T.no_list (by decide +kernel) rfl) pa_nil))))) (pw_or1 (pt_cmpR op_gt (pe_callB call_len (by rfl) T.no_len (by decide +kernel) (pa_cons (pv 0) pa_nil)) (pv 1) (nomark _))))) (pss_one (ps_ret pe_bl)) pss_nil)
      (pss_one (ps_ret (pe_callB (cr_all rfl) (by rfl) T.no_all (by decide +kernel) (pa_cons (pe_lcD (own := [("entry", 2)]) rfl sc_are_records.nd (pi_list (pv 0)) (blkOk_by (N := N_are_records) (sc := defScope s_are_records) (by decide +kernel)) (fun _ _ _ _ _ => pg_name (i := 2) sc_are_records.nd rfl (Or.inl rfl)) (fun _ _ _ _ _ => pts_nil) (fun _ _ _ _ _ => (po_call (ok_has_kind T) (hr.mono (by decide)) T.mg_has_kind (pa_cons (pv 2) pa_nil)))) pa_nil))))), ?_⟩
    cases he with
    | no ty hk => exact ⟨_, rfl, _, _, _, _, _, rfl, .ty _, ty, hk, _, rfl, iteT (h H (fun _ _ e => e))⟩
    | @lst l vs bs e m z =>
      have ll := z.len
      refine ⟨_, rfl, _, _, _, _, _, rfl, .ty _, .base (.lst e), kit_ty (r := true) (by decide +kernel), ?_⟩
      refine ⟨_, rfl, ?_⟩
      refine iteF ?_
      refine ⟨_, rfl, _, _, rfl, .inl ⟨_, SqL.of e, rfl⟩, _, rfl, _, _, rfl, rfl, _, rfl, ?_⟩
      refine ite2 (fun c => ?_) (fun c => ?_)
      · have c' := of_decide_eq_true c
        rw [decide_eq_false (show ¬ bs.length ≤ most by omega)] at h
        exact h H (fun _ _ e => e)
      · have c' := of_decide_eq_false (Bool.eq_false_iff.mpr c)
        rw [decide_eq_true (show bs.length ≤ most by omega), Bool.true_and] at h
        refine ⟨_, rfl, l, rfl, ⟨_, SqL.of e⟩, fun D nD => ?_⟩
        refine lc_list (K := K) (a := l) (xs := vs) (fun i H' => Same H H' ∧ H' D = some (.lst ((bs.take i).map V.bl))) ?_ ?_ ?_ ?_
        · exact ⟨Same.new nD, upd_same⟩
        · rintro i H1 _ ⟨s1, _⟩
          exact SqL.of (s1 _ _ e)
        · rintro i x H1 hx ⟨s1, h1⟩
          obtain ⟨b, hb, en⟩ := z.get hx
          refine ⟨rfl, _, rfl, _, b, rfl, en.same s1, _, h1, ?_, ?_, ?_⟩
          · rw [List.length_map, List.length_take]
            exact Nat.lt_of_le_of_lt (Nat.min_le_left _ _) (Nat.lt_of_lt_of_le (show i < 4001 by have := (List.getElem?_eq_some_iff.mp hb).1; omega) (by decide))
          · intro c o ho
            rw [upd_ne (ne_of_none ho nD)]
            exact s1 _ _ ho
          · have e9 : bs.take (i + 1) = bs.take i ++ [b] := by
              rw [List.take_add_one, hb]
              rfl
            rw [upd_same, e9, List.map_append]
            rfl
        · rintro H1 ⟨s1, h1⟩
          rw [ll, List.take_length] at h1
          exact ⟨D, bs, rfl, SqL.of h1, h H1 s1⟩

/-- the records of the parts -/
inductive Rows (A : Ad) (H : Hp) : List V → List (Int × Str × Nat) → Prop where
  | nil : Rows A H [] []
  | cons {p dx : Addr} {way : Int} {x : Str} {n : Nat} {vs : List V} {ps : List (Int × Str × Nat)} (e : H p = some (.ins (cw A way) dx (rfs x n))) (h0 : 0 ≤ way) (h1 : way < 3) (hx : isItem x = true) (t : Rows A H vs ps) : Rows A H (.ref p :: vs) ((way, x, n) :: ps)
theorem Rows.same {H H' : Hp} {vs : List V} {ps : List (Int × Str × Nat)} (h : Rows A H vs ps) (s : Same H H') : Rows A H' vs ps := by
  induction h with
  | nil => exact .nil
  | cons e h0 h1 hx _ ih => exact .cons (s _ _ e) h0 h1 hx ih
theorem Rows.len {H : Hp} {vs : List V} {ps : List (Int × Str × Nat)} (h : Rows A H vs ps) : vs.length = ps.length := by
  induction h with
  | nil => rfl
  | cons _ _ _ _ _ ih => rw [List.length_cons, List.length_cons, ih]
theorem Rows.get {H : Hp} {vs : List V} {ps : List (Int × Str × Nat)} (h : Rows A H vs ps) : ∀ {i : Nat} {v : V}, vs[i]? = some v → ∃ p dx way x n, v = .ref p ∧ ps[i]? = some (way, x, n) ∧ H p = some (.ins (cw A way) dx (rfs x n)) ∧ 0 ≤ way ∧ way < 3 ∧ isItem x = true := by
  induction h with
  | nil => intro i v e; cases e
  | cons e h0 h1 hx _ ih =>
    intro i v ev
    cases i with
    | zero => cases ev; exact ⟨_, _, _, _, _, rfl, rfl, e, h0, h1, hx⟩
    | succ i => exact ih ev
theorem Rows.rws {H : Hp} {vs : List V} {ps : List (Int × Str × Nat)} (h : Rows A H vs ps) : Rws K A H vs (ps.map fun _ => true) := by
  induction h with
  | nil => exact .nil
  | cons e h0 h1 hx _ ih =>
    have r := Rw.row (K := K) e h0 (by omega)
    rw [decide_eq_true h1] at r
    exact .cons r ih
theorem Rows.thing {H : Hp} {l : Addr} {vs : List V} {ps : List (Int × Str × Nat)} (e : H l = some (.lst vs)) (h : Rows A H vs ps) (m : ps.length ≤ 80) : ThingR K A H 80 (.ref l) true := by
  have q := ThingR.lst (most := 80) e (by rw [h.len]; omega) (h.rws (K := K))
  have a : (ps.map fun _ => true).all id = true := by simp
  rw [a, List.length_map, decide_eq_true m] at q
  exact q

/-! ### logs, or any object -/
theorem met_nodup (xs : List Str) : ∀ i, (OwnSet.met xs i).Nodup
  | 0 => List.nodup_nil
  | i + 1 => by
    have ih := met_nodup xs i
    show (OwnSet.putM (OwnSet.met xs i) (xs.getD i Str.empty)).Nodup
    unfold OwnSet.putM
    split
    · exact ih
    · rename_i c
      refine List.nodup_append.mpr ⟨ih, by simp, fun a ha b hb e => c ?_⟩
      rw [List.mem_singleton] at hb
      exact List.any_eq_true.mpr ⟨a, ha, by rw [e, hb]; exact beq_self_eq_true _⟩
theorem met_one (xs : List Str) : (OwnSet.met xs xs.length).length ≤ 1 ↔ ∀ a ∈ xs, ∀ b ∈ xs, a = b := by
  have mem : ∀ y, y ∈ OwnSet.met xs xs.length ↔ y ∈ xs := fun y => by
    rw [OwnSet.met_mem xs xs.length (Nat.le_refl _) y, List.take_length]
  have nd := met_nodup xs xs.length
  generalize OwnSet.met xs xs.length = ms at mem nd
  constructor
  · intro l a ha b hb
    have ha := (mem a).mpr ha
    have hb := (mem b).mpr hb
    match ms, l, ha, hb with
    | [], _, ha, _ => cases ha
    | [m], _, ha, hb =>
      rw [List.mem_singleton] at ha hb
      rw [ha, hb]
    | _ :: _ :: _, l, _, _ => simp at l
  · intro h
    match ms, nd, mem with
    | [], _, _ => exact Nat.zero_le _
    | [_], _, _ => exact Nat.le_refl _
    | m :: m2 :: ms, nd, mem =>
      have e := h m ((mem m).mp (by simp)) m2 ((mem m2).mp (by simp))
      rw [e] at nd
      exact absurd List.mem_cons_self (List.nodup_cons.mp nd).1
def spItem (A : Ad) : Sp := fun vs H Q _ => ∃ (p dx : Addr) (way : Int) (x : Str) (n : Int), vs = [.ref p] ∧ H p = some (.ins (cw A way) dx (rfs x n)) ∧ 0 ≤ way ∧ way ≤ 3 ∧ Q (.str x) H
theorem ok_Record_item (T : Txt K mg A) : Ok1 P w K mg base 1 A.m_Record_item ["self"] (spItem A) := by
  refine T.fn_Record_item.ok sc_Record_item (fun _ _ _ _ _ _ us hl => match us, hl with | [_], _ => rfl) (fun vs H Q E h => ?_) (fun cdv B up s H vs Q E hr h => ?_)
  · obtain ⟨p, dx, way, x, n, rfl, _⟩ := h
    rfl
  · obtain ⟨p, dx, way, x, n, rfl, hp, w0, w1, h⟩ := h
    have k := kd_of T w0 w1
    refine ⟨_, (pss_one (ps_ret (pe_fld (pv 0) rfl))), ?_⟩
    exact ⟨_, rfl, p, _, dx, _, _, rfl, hp, k.rc.cl, k.rc.nI, rfs_item _ _, h⟩
/-- an entry: a record, or something else -/
inductive Ety (K : PySem.W.Frag) (A : Ad) (H : Hp) : V → Option (Int × Str × Nat) → Prop where
  | row {p dx : Addr} {way : Int} {x : Str} {n : Nat} (e : H p = some (.ins (cw A way) dx (rfs x n))) (h0 : 0 ≤ way) (h1 : way ≤ 3) (hx : isItem x = true) (hn : n ≤ 60) : Ety K A H (.ref p) (some (way, x, n))
  | no {v : V} {t : Value} (ty : TyX K H v t) (hR : PySem.W.kitOne K t (.ref A.c_Record) = some false) (h1 : PySem.W.kitOne K t (.ref A.c_Inserted) = some false) (h2 : PySem.W.kitOne K t (.ref A.c_Removed) = some false) (h3 : PySem.W.kitOne K t (.ref A.c_Fronted) = some false) : Ety K A H v none
inductive Etys (K : PySem.W.Frag) (A : Ad) (H : Hp) : List V → List (Option (Int × Str × Nat)) → Prop where
  | nil : Etys K A H [] []
  | cons {v : V} {o : Option (Int × Str × Nat)} {vs : List V} {os : List (Option (Int × Str × Nat))} (h : Ety K A H v o) (t : Etys K A H vs os) : Etys K A H (v :: vs) (o :: os)
theorem Ety.same {H H' : Hp} {v : V} {o : Option (Int × Str × Nat)} (h : Ety K A H v o) (s : Same H H') : Ety K A H' v o := by
  cases h with
  | row e h0 h1 hx hn => exact .row (s _ _ e) h0 h1 hx hn
  | no ty a b c d => exact .no (ty.same s) a b c d
theorem Etys.same {H H' : Hp} {vs : List V} {os : List (Option (Int × Str × Nat))} (h : Etys K A H vs os) (s : Same H H') : Etys K A H' vs os := by
  induction h with
  | nil => exact .nil
  | cons a _ ih => exact .cons (a.same s) ih
theorem Etys.len {H : Hp} {vs : List V} {os : List (Option (Int × Str × Nat))} (h : Etys K A H vs os) : vs.length = os.length := by
  induction h with
  | nil => rfl
  | cons _ _ ih => rw [List.length_cons, List.length_cons, ih]
theorem Etys.get {H : Hp} {vs : List V} {os : List (Option (Int × Str × Nat))} (h : Etys K A H vs os) : ∀ {i : Nat} {v : V}, vs[i]? = some v → ∃ o, os[i]? = some o ∧ Ety K A H v o := by
  induction h with
  | nil => intro i v e; cases e
  | cons a _ ih =>
    intro i v e
    cases i with
    | zero => cases e; exact ⟨_, rfl, a⟩
    | succ i => exact ih e
theorem Etys.app {H : Hp} {vs ws : List V} {os us : List (Option (Int × Str × Nat))} (h : Etys K A H vs os) (g : Etys K A H ws us) : Etys K A H (vs ++ ws) (os ++ us) := by
  induction h with
  | nil => exact g
  | cons a _ ih => exact .cons a ih
def kindO : Option (Int × Str × Nat) → Bool
  | some q => decide (q.1 < 3)
  | none => false
theorem Etys.rws {H : Hp} {vs : List V} {os : List (Option (Int × Str × Nat))} (h : Etys K A H vs os) : Rws K A H vs (os.map kindO) := by
  induction h with
  | nil => exact .nil
  | cons a _ ih =>
    cases a with
    | row e h0 h1 hx hn => exact .cons (.row e h0 h1) ih
    | no ty hR _ _ _ => exact .cons (.no ty hR) ih
theorem Etys.rows {H : Hp} {vs : List V} {os : List (Option (Int × Str × Nat))} (h : Etys K A H vs os) (a : os.all kindO = true) : Rows A H vs (os.filterMap id) ∧ os.length = (os.filterMap id).length ∧ ∀ q ∈ os.filterMap id, q.2.2 ≤ 60 := by
  induction h with
  | nil => exact ⟨.nil, rfl, fun q hq => by cases hq⟩
  | cons e _ ih =>
    rw [List.all_cons, Bool.and_eq_true] at a
    obtain ⟨i1, i2, i3⟩ := ih a.2
    cases e with
    | row e h0 h1 hx hn =>
      refine ⟨.cons e h0 (of_decide_eq_true a.1) hx i1, congrArg (· + 1) i2, fun q hq => ?_⟩
      rcases List.mem_cons.mp hq with rfl | hq
      · exact hn
      · exact i3 q hq
    | no _ _ _ _ _ => exact absurd a.1 (by decide)
def signs (qs : List (Int × Str × Nat)) : List Str := qs.map fun q => signW q.1
def names (qs : List (Int × Str × Nat)) : List Str := qs.map fun q => q.2.1
/-- whether these entries are a log -/
def isLogB (os : List (Option (Int × Str × Nat))) : Bool := decide (os.length ≤ 40) && (os.all kindO && (decide (∀ a ∈ signs (os.filterMap id), ∀ b ∈ signs (os.filterMap id), a = b) && decide (names (os.filterMap id)).Nodup))
/-- any object, and its entries, if it is a list -/
inductive Case (K : PySem.W.Frag) (A : Ad) (H : Hp) : V → Option (List (Option (Int × Str × Nat))) → Prop where
  | no {v : V} {t : Value} (ty : TyX K H v t) (h : PySem.W.kitOne K t (.type "list") = some false) : Case K A H v none
  | lst {l : Addr} {vs : List V} {os : List (Option (Int × Str × Nat))} (e : H l = some (.lst vs)) (m : vs.length ≤ 4000) (z : Etys K A H vs os) : Case K A H (.ref l) (some os)
theorem Case.same {H H' : Hp} {v : V} {c : Option (List (Option (Int × Str × Nat)))} (h : Case K A H v c) (s : Same H H') : Case K A H' v c := by
  cases h with
  | no ty h => exact .no (ty.same s) h
  | lst e m z => exact .lst (s _ _ e) m (z.same s)
def logB : Option (List (Option (Int × Str × Nat))) → Bool
  | some os => isLogB os
  | none => false
theorem signs_at {qs : List (Int × Str × Nat)} {i : Nat} {q : Int × Str × Nat} (h : qs[i]? = some q) : (signs qs).getD i Str.empty = signW q.1 := by
  unfold signs
  rw [List.getD_eq_getElem?_getD, List.getElem?_map, h]
  rfl
theorem names_at {qs : List (Int × Str × Nat)} {i : Nat} {q : Int × Str × Nat} (h : qs[i]? = some q) : (names qs).getD i Str.empty = q.2.1 := by
  unfold names
  rw [List.getD_eq_getElem?_getD, List.getElem?_map, h]
  rfl
def spLog (K : PySem.W.Frag) (A : Ad) : Sp := fun vs H Q _ => ∃ (v : V) (c : Option (List (Option (Int × Str × Nat)))), vs = [v] ∧ Case K A H v c ∧ ∀ H', Same H H' → Q (.bl (logB c)) H'
theorem len_is_log : ∀ vs H Q E, spLog K A vs H Q E → vs.length = 1 := fun vs H Q E h => by
  obtain ⟨v, c, rfl, _⟩ := h
  rfl
theorem prop_item (T : Txt K mg A) {way : Int} (h0 : 0 ≤ way) (h1 : way ≤ 3) : PropOf K (cw A way) "item" A.p_Record_item A.m_Record_item := by
  rcases way4 h0 h1 with rfl | rfl | rfl | rfl
  · exact T.pr_Inserted_item
  · exact T.pr_Removed_item
  · exact T.pr_Fronted_item
  · exact T.pr_Record_item
theorem body_is_log (T : Txt K mg A) : BodyX P w K mg base N_is_log "is_log" s_is_log A.f_is_log 3 (spLog K A) := by
  intro cdv B up s H vs Q E hr h
  obtain ⟨v, c, rfl, hc, h⟩ := h
  refine ⟨_, (pss_cons (ps_if (pt_not (pt_val (po_call (ok_are_records T) (hr.mono (by decide)) T.mg_are_records (pa_cons (pv 0) (pa_cons (pe_globC T.mg_MOST_IN_LOG) pa_nil))))) (pss_one (ps_ret pe_bl)) pss_nil)
      (pss_cons (ps_if (pt_cmpR op_gt (pe_callB OwnSet.call_lenTx (by rfl) T.no_len (by decide +kernel) (pa_cons (OwnSet.pe_sxD (own := [("record", 1)]) rfl sc_is_log.nd (pi_list (pv 0)) (blkOk_by (N := N_is_log) (sc := defScope s_is_log) (by decide +kernel)) (fun _ _ _ _ _ => pg_name (i := 1) sc_is_log.nd rfl (Or.inl rfl)) (fun _ _ _ _ _ => pts_nil) (fun _ _ _ _ _ => (pe_con (pv 1) rfl))) pa_nil)) pe_int (nomark _)) (pss_one (ps_ret pe_bl)) pss_nil)
      (pss_one (ps_ret (pe_cmpR (op_eqX hr) (pe_callB OwnSet.call_lenTx (by rfl) T.no_len (by decide +kernel) (pa_cons (OwnSet.pe_sxD (own := [("record", 1)]) rfl sc_is_log.nd (pi_list (pv 0)) (blkOk_by (N := N_is_log) (sc := defScope s_is_log) (by decide +kernel)) (fun _ _ _ _ _ => pg_name (i := 1) sc_is_log.nd rfl (Or.inl rfl)) (fun _ _ _ _ _ => pts_nil) (fun _ _ _ _ _ => (po_propD (p := A.p_Record_item) (ok_Record_item T) (hr.mono (by decide)) (pv 1)))) pa_nil)) (pe_callB call_len (by rfl) T.no_len (by decide +kernel) (pa_cons (pv 0) pa_nil)) (nomark _)))))), ?_⟩
  cases hc with
  | no ty hk => exact ⟨_, rfl, v, 40, false, rfl, .no ty hk, fun H' s' => ⟨_, rfl, iteT (h H' s')⟩⟩
  | @lst l vs os e m z =>
    have lz := z.len
    refine ⟨_, rfl, .ref l, 40, _, rfl, .lst e m z.rws, fun H1 s1 => ⟨_, rfl, ?_⟩⟩
    rw [List.length_map, List.all_map]
    have e1 : (os.all (id ∘ kindO)) = os.all kindO := rfl
    rw [e1]
    by_cases a : (decide (os.length ≤ 40) && os.all kindO) = true
    · rw [a]
      rw [Bool.and_eq_true] at a
      have l40 := of_decide_eq_true a.1
      obtain ⟨rows, lr, bound⟩ := z.rows a.2
      have h : ∀ H', Same H H' → Q (.bl (decide (∀ a ∈ signs (os.filterMap id), ∀ b ∈ signs (os.filterMap id), a = b) && decide (names (os.filterMap id)).Nodup)) H' := fun H' s' => by
        have z := h H' s'
        unfold logB isLogB at z
        dsimp only at z
        rw [a.1, a.2, Bool.true_and, Bool.true_and] at z
        exact z
      generalize os.filterMap id = qs at rows lr bound h
      have lq := rows.len
      refine iteF ⟨_, rfl, l, rfl, ⟨_, SqL.of (s1 _ _ e)⟩, fun D nD => ?_⟩
      refine OwnSet.sx_list (K := K) (P := P) (w := w) (a := l) (xs := vs) (fun i H' => Same H1 H' ∧ H' D = some (OwnSet.TxS P w D (OwnSet.met (signs qs) i))) ?_ ?_ ?_ ?_
      · exact ⟨Same.new nD, upd_same⟩
      · rintro i H2 _ ⟨s2, _⟩
        exact SqL.of (s2 _ _ (s1 _ _ e))
      · rintro i y H2 hy ⟨s2, h2⟩
        obtain ⟨p, dx, way, x, n, rfl, hq, he, w0, w1, hx⟩ := rows.get hy
        have k := kd_of T w0 (by omega)
        obtain ⟨u, cn⟩ := k.sg
        have le := OwnSet.met_le (signs qs) i
        have hi := (List.getElem?_eq_some_iff.mp hq).1
        refine ⟨rfl, _, rfl, p, _, dx, _, _, _, rfl, s2 _ _ (s1 _ _ he), k.rc.cl, cn, no_sign _ _, _, _, rfl, h2, Nat.lt_of_le_of_lt (Nat.add_le_add_right le 1) (Nat.lt_of_lt_of_le (show i + 1 < 100 by omega) (by decide)), ?_, ?_⟩
        · intro c o eo
          rw [upd_ne (ne_of_none eo nD)]
          exact s2 _ _ eo
        · rw [upd_same]
          show _ = some (OwnSet.TxS P w D (OwnSet.putM (OwnSet.met (signs qs) i) ((signs qs).getD i Str.empty)))
          rw [signs_at hq]
      · rintro H2 ⟨s2, h2⟩
        have ls : vs.length = (signs qs).length := by
          unfold signs
          rw [List.length_map, lq]
        rw [ls] at h2
        have le := OwnSet.met_le (signs qs) (signs qs).length
        have sm : (OwnSet.met (signs qs) (signs qs).length).length < scanBound := Nat.lt_of_le_of_lt le (Nat.lt_of_lt_of_le (show _ < 100 by omega) (by decide))
        have one := met_one (signs qs)
        refine ⟨D, _, rfl, h2, sm, _, _, rfl, rfl, _, rfl, ite2 (fun c => ?_) (fun c => ?_)⟩
        · have c' := of_decide_eq_true c
          have no : ¬ ∀ a ∈ signs qs, ∀ b ∈ signs qs, a = b := fun z => by
            have := one.mpr z
            omega
          rw [decide_eq_false no, Bool.false_and] at h
          exact h H2 (s1.trans s2)
        · have c' := of_decide_eq_false (Bool.eq_false_iff.mpr c)
          have yes : ∀ a ∈ signs qs, ∀ b ∈ signs qs, a = b := one.mp (by omega)
          rw [decide_eq_true yes, Bool.true_and] at h
          have s12 := s1.trans s2
          refine ⟨_, rfl, l, rfl, ⟨_, SqL.of (s12 _ _ e)⟩, fun D2 nD2 => ?_⟩
          refine OwnSet.sx_list (K := K) (P := P) (w := w) (a := l) (xs := vs) (fun i H' => Same H2 H' ∧ H' D2 = some (OwnSet.TxS P w D2 (OwnSet.met (names qs) i))) ?_ ?_ ?_ ?_
          · exact ⟨Same.new nD2, upd_same⟩
          · rintro i H3 _ ⟨s3, _⟩
            exact SqL.of (s3 _ _ (s12 _ _ e))
          · rintro i y H3 hy ⟨s3, h3⟩
            obtain ⟨p, dx, way, x, n, rfl, hq, he, w0, w1, hx⟩ := rows.get hy
            have le2 := OwnSet.met_le (names qs) i
            have hi := (List.getElem?_eq_some_iff.mp hq).1
            have he3 := s3 _ _ (s12 _ _ he)
            refine ⟨rfl, _, rfl, p, _, dx, _, rfl, he3, (kd_of T w0 (by omega)).rc.cl, prop_item T w0 (by omega), p, dx, way, x, n, rfl, he3, w0, by omega, _, _, rfl, h3, Nat.lt_of_le_of_lt (Nat.add_le_add_right le2 1) (Nat.lt_of_lt_of_le (show i + 1 < 100 by omega) (by decide)), ?_, ?_⟩
            · intro c o eo
              rw [upd_ne (ne_of_none eo nD2)]
              exact s3 _ _ eo
            · rw [upd_same]
              show _ = some (OwnSet.TxS P w D2 (OwnSet.putM (OwnSet.met (names qs) i) ((names qs).getD i Str.empty)))
              rw [names_at hq]
          · rintro H3 ⟨s3, h3⟩
            have ln : vs.length = (names qs).length := by
              unfold names
              rw [List.length_map, lq]
            have all := OwnSet.met_all (names qs)
            have le2 := OwnSet.met_le (names qs) (names qs).length
            rw [ln] at h3
            have sm2 : (OwnSet.met (names qs) (names qs).length).length < scanBound := Nat.lt_of_le_of_lt le2 (Nat.lt_of_lt_of_le (show _ < 100 by omega) (by decide))
            refine ⟨D2, _, rfl, h3, sm2, _, rfl, _, _, rfl, .inl ⟨_, SqL.of (s3 _ _ (s12 _ _ e)), rfl⟩, eqS rfl ?_⟩
            have z : decide (V.int (((OwnSet.met (names qs) (names qs).length).length : Nat) : Int) = V.int ((vs.length : Nat) : Int)) = decide (names qs).Nodup := by
              rw [← all, ln]
              exact decide_eq_decide.mpr ⟨fun z => by have := V.int.inj z; omega, fun z => by rw [z]⟩
            rw [z]
            exact h H3 (s12.trans s3)
    · have a' := Bool.eq_false_iff.mpr a
      rw [a']
      refine iteT ?_
      have z : logB (some os) = false := by
        show isLogB os = false
        unfold isLogB
        rw [← Bool.and_assoc, a', Bool.false_and]
      rw [z] at h
      exact h H1 s1
theorem ok_is_log (T : Txt K mg A) : OkX P w K mg base 4 A.f_is_log ["thing"] (spLog K A) := T.fn_is_log.okX sc_is_log (fun _ _ _ _ _ _ us hl => match us, hl with | [_], _ => rfl) len_is_log (body_is_log T)
theorem okK_is_log (T : Txt K mg A) : OkX1 P w K mg base 4 A.f_is_log ["thing"] (spLog K A) := T.fn_is_log.okX1 sc_is_log (fun _ _ _ _ _ _ _ => rfl) len_is_log (body_is_log T)

end
end Own

set_option Elab.async false
set_option linter.all false
set_option maxRecDepth 100000
set_option maxHeartbeats 4000000
namespace Own
open PySem L2 ClX
local macro_rules | `(tactic| walk_at "v") => `(tactic| refine ⟨_, rfl, ?_⟩)
local macro_rules | `(tactic| walk_at "ii") => `(tactic| refine ⟨_, _, rfl, rfl, ?_⟩)
local macro_rules | `(tactic| walk_at "go") => `(tactic| repeat (first | refine ⟨_, rfl, ?_⟩ | refine ⟨_, _, rfl, rfl, ?_⟩ | refine addI ?_ | refine L2.iteT ?_ | refine L2.iteF ?_))

section
variable {P : Program} {w : World} {K : PySem.W.Frag} {mg : Str → Option Value} {base : Heap} {A : Ad}
/-! ### logs and known lists -/
theorem Rows.etys {H : Hp} {vs : List V} {ps : List (Int × Str × Nat)} (h : Rows A H vs ps) (b : ∀ q ∈ ps, q.2.2 ≤ 60) : Etys K A H vs (ps.map some) := by
  induction h with
  | nil => exact .nil
  | cons e h0 h1 hx _ ih => exact .cons (.row e h0 (by omega) hx (b _ List.mem_cons_self)) (ih fun q hq => b q (List.mem_cons_of_mem _ hq))
structure LogQ (way : Int) (qs : List (Int × Str × Nat)) : Prop where
  bd : ∀ q ∈ qs, q.2.2 ≤ 60
  wy : ∀ q ∈ qs, q.1 = way
  w0 : 0 ≤ way
  w1 : way ≤ 2
  nd : (names qs).Nodup
  len : qs.length ≤ 40
theorem logB_ok {way : Int} {qs : List (Int × Str × Nat)} (L : LogQ way qs) : logB (some (qs.map some)) = true := by
  show isLogB (qs.map some) = true
  have fm : (qs.map some).filterMap id = qs := by
    rw [List.filterMap_map]
    exact List.filterMap_some
  have all : (qs.map some).all kindO = true := by
    rw [List.all_eq_true]
    intro o ho
    obtain ⟨q, hq, rfl⟩ := List.mem_map.mp ho
    have := L.wy q hq
    have := L.w1
    exact decide_eq_true (by omega)
  have sg : ∀ a ∈ signs qs, ∀ b ∈ signs qs, a = b := fun a ha b hb => by
    obtain ⟨q, hq, rfl⟩ := List.mem_map.mp ha
    obtain ⟨r, hr, rfl⟩ := List.mem_map.mp hb
    show signW q.1 = signW r.1
    rw [L.wy q hq, L.wy r hr]
  unfold isLogB
  rw [fm, all, List.length_map, decide_eq_true L.len, decide_eq_true sg, decide_eq_true L.nd]
  rfl
theorem prop_slot (T : Txt K mg A) {way : Int} (h0 : 0 ≤ way) (h1 : way ≤ 3) : PropOf K (cw A way) "slot" A.p_Record_slot A.m_Record_slot := by
  rcases way4 h0 h1 with rfl | rfl | rfl | rfl
  · exact T.pr_Inserted_slot
  · exact T.pr_Removed_slot
  · exact T.pr_Fronted_slot
  · exact T.pr_Record_slot
def spSlotP (A : Ad) : Sp := fun vs H Q _ => ∃ (p dx : Addr) (way : Int) (x : Str) (n : Int), vs = [.ref p] ∧ H p = some (.ins (cw A way) dx (rfs x n)) ∧ 0 ≤ way ∧ way ≤ 3 ∧ Q (.int n) H
theorem ok_Record_slot (T : Txt K mg A) : Ok1 P w K mg base 1 A.m_Record_slot ["self"] (spSlotP A) := by
  refine T.fn_Record_slot.ok sc_Record_slot (fun _ _ _ _ _ _ us hl => match us, hl with | [_], _ => rfl) (fun vs H Q E h => ?_) (fun cdv B up s H vs Q E hr h => ?_)
  · obtain ⟨p, dx, way, x, n, rfl, _⟩ := h
    rfl
  · obtain ⟨p, dx, way, x, n, rfl, hp, w0, w1, h⟩ := h
    have k := kd_of T w0 w1
    refine ⟨_, (pss_one (ps_ret (pe_fld (pv 0) rfl))), ?_⟩
    exact ⟨_, rfl, p, _, dx, _, _, rfl, hp, k.rc.cl, k.rc.nS, rfs_slot _ _, h⟩
def spCheckL (A : Ad) : Sp := fun vs H Q _ => ∃ (l : Addr) (rs : List V) (way : Int) (qs : List (Int × Str × Nat)), vs = [.ref l] ∧ H l = some (.lst rs) ∧ Rows A H rs qs ∧ LogQ way qs ∧ ∀ H', Same H H' → Q .non H'
theorem ok_check_log (T : Txt K mg A) : Ok1 P w K mg base 5 A.f_check_log ["log"] (spCheckL A) := by
  refine T.fn_check_log.ok sc_check_log (fun _ _ _ _ _ _ us hl => match us, hl with | [_], _ => rfl) (fun vs H Q E h => ?_) (fun cdv B up s H vs Q E hr h => ?_)
  · obtain ⟨l, rs, way, qs, rfl, _⟩ := h
    rfl
  · obtain ⟨l, rs, way, qs, rfl, hl, rows, L, h⟩ := h
    refine ⟨_, (pss_one (ps_if (pt_not (pt_val (px_call (ok_is_log T) (fun _ => atL) (hr.mono (by decide)) T.mg_is_log (pa_cons (pv 0) pa_nil)))) (pss_one ps_never) pss_nil)), ?_⟩
    have lr := rows.len
    have ll := L.len
    refine ⟨_, rfl, .ref l, some (qs.map some), rfl, .lst hl (by omega) (rows.etys L.bd), fun H1 s1 => ⟨_, rfl, ?_⟩⟩
    rw [logB_ok L]
    exact iteF (h H1 s1)
/-- the sign of a log -/
def signQ (way : Int) (qs : List (Int × Str × Nat)) : Str := if qs = [] then "" else signW way
def spSign (A : Ad) : Sp := fun vs H Q _ => ∃ (l : Addr) (rs : List V) (way : Int) (qs : List (Int × Str × Nat)), vs = [.ref l] ∧ H l = some (.lst rs) ∧ Rows A H rs qs ∧ LogQ way qs ∧ Q (.str (signQ way qs)) H
theorem ok_sign_of (T : Txt K mg A) : Ok1 P w K mg base 1 A.f_sign_of ["log"] (spSign A) := by
  refine T.fn_sign_of.ok sc_sign_of (fun _ _ _ _ _ _ us hl => match us, hl with | [_], _ => rfl) (fun vs H Q E h => ?_) (fun cdv B up s H vs Q E hr h => ?_)
  · obtain ⟨l, rs, way, qs, rfl, _⟩ := h
    rfl
  · obtain ⟨l, rs, way, qs, rfl, hl, rows, L, h⟩ := h
    refine ⟨_, (pss_one (ps_ret (pe_ifExp (pt_cmpR op_gt (pe_callB call_len (by rfl) T.no_len (by decide +kernel) (pa_cons (pv 0) pa_nil)) pe_int (nomark _)) (pe_con (pe_ix ix_seq (pv 0) pe_int (fun _ _ => rfl)) rfl) (pe_clsv T.cv_Record_SIGN (pe_glob (v := .ref A.c_Record) rfl T.mg_Record rfl))))), ?_⟩
    refine ⟨_, rfl, _, _, rfl, .inl ⟨_, SqL.of hl, rfl⟩, _, _, rfl, rfl, _, rfl, ?_⟩
    cases rows with
    | nil =>
      rw [decide_eq_false (show ¬ (0 : Int) < (([] : List V).length : Nat) by decide)]
      exact iteF h
    | @cons p dx w x n vs ps e h0 h1 hx t =>
      rw [decide_eq_true (show (0 : Int) < (((.ref p :: vs) : List V).length : Nat) by rw [List.length_cons]; omega)]
      have k := kd_of T h0 (by omega)
      obtain ⟨u, cn⟩ := k.sg
      have ew : w = way := L.wy _ List.mem_cons_self
      subst ew
      refine iteT ⟨_, rfl, ixL hl (atI0 _ _) ?_⟩
      exact ⟨p, _, dx, _, _, _, rfl, e, k.rc.cl, cn, no_sign _ _, h⟩
def frontB (way : Int) (qs : List (Int × Str × Nat)) : Bool := decide (qs ≠ [] ∧ way = 2)
theorem sign_front {way : Int} {qs : List (Int × Str × Nat)} (L : LogQ way qs) : decide (V.str (signQ way qs) = V.str "^") = frontB way qs := by
  unfold signQ frontB
  by_cases e : qs = []
  · rw [if_pos e]
    have : ¬ (qs ≠ [] ∧ way = 2) := fun z => z.1 e
    rw [decide_eq_false this]
    decide +kernel
  · rw [if_neg e]
    have w0 := L.w0
    have w1 := L.w1
    rcases (show way = 0 ∨ way = 1 ∨ way = 2 by omega) with rfl | rfl | rfl
    · rw [decide_eq_false (fun z : qs ≠ [] ∧ (0 : Int) = 2 => absurd z.2 (by decide))]
      decide +kernel
    · rw [decide_eq_false (fun z : qs ≠ [] ∧ (1 : Int) = 2 => absurd z.2 (by decide))]
      decide +kernel
    · rw [decide_eq_true (show qs ≠ [] ∧ (2 : Int) = 2 from ⟨e, rfl⟩)]
      decide +kernel
def spFront (A : Ad) : Sp := fun vs H Q _ => ∃ (l : Addr) (rs : List V) (way : Int) (qs : List (Int × Str × Nat)), vs = [.ref l] ∧ H l = some (.lst rs) ∧ Rows A H rs qs ∧ LogQ way qs ∧ Q (.bl (frontB way qs)) H
theorem ok_is_fronted (T : Txt K mg A) : Ok1 P w K mg base 2 A.f_is_fronted ["log"] (spFront A) := by
  refine T.fn_is_fronted.ok sc_is_fronted (fun _ _ _ _ _ _ us hl => match us, hl with | [_], _ => rfl) (fun vs H Q E h => ?_) (fun cdv B up s H vs Q E hr h => ?_)
  · obtain ⟨l, rs, way, qs, rfl, _⟩ := h
    rfl
  · obtain ⟨l, rs, way, qs, rfl, hl, rows, L, h⟩ := h
    refine ⟨_, (pss_one (ps_ret (pe_cmpR (op_eqX hr) (po_call (ok_sign_of T) (hr.mono (by decide)) T.mg_sign_of (pa_cons (pv 0) pa_nil)) (pe_clsv T.cv_Fronted_SIGN (pe_glob (v := .ref A.c_Fronted) rfl T.mg_Fronted rfl)) (nomark _)))), ?_⟩
    refine ⟨_, rfl, l, rs, way, qs, rfl, hl, rows, L, eqS rfl ?_⟩
    rw [sign_front L]
    exact h

end
end Own

set_option Elab.async false
set_option linter.all false
set_option maxRecDepth 100000
set_option maxHeartbeats 4000000
namespace Own
open PySem L2 ClX
local macro_rules | `(tactic| walk_at "v") => `(tactic| refine ⟨_, rfl, ?_⟩)
local macro_rules | `(tactic| walk_at "ii") => `(tactic| refine ⟨_, _, rfl, rfl, ?_⟩)
local macro_rules | `(tactic| walk_at "go") => `(tactic| repeat (first | refine ⟨_, rfl, ?_⟩ | refine ⟨_, _, rfl, rfl, ?_⟩ | refine addI ?_ | refine L2.iteT ?_ | refine L2.iteF ?_))

section
variable {P : Program} {w : World} {K : PySem.W.Frag} {mg : Str → Option Value} {base : Heap} {A : Ad}
/-! ### shifts and rooms -/
def spKnown (A : Ad) : Sp := fun vs H Q _ => ∃ (l k : Addr) (rs : List V) (way : Int) (qs : List (Int × Str × Nat)) (xs : List Str), vs = [.ref l, .ref k] ∧ H l = some (.lst rs) ∧ Rows A H rs qs ∧ LogQ way qs ∧ H k = some (.lst (xs.map V.str)) ∧ Items xs ∧ xs.length ≤ 60 ∧ (∀ x ∈ names qs, x ∈ xs) ∧
  ∀ H', Same H H' → Q .non H'
theorem rep_snoc (n : Nat) : List.replicate (n + 1) true = List.replicate n true ++ [true] := List.replicate_succ'
theorem ok_check_known (T : Txt K mg A) : Ok1 P w K mg base 4 A.f_check_known ["log", "items"] (spKnown A) := by
  refine T.fn_check_known.ok sc_check_known (fun _ _ _ _ _ _ us hl => match us, hl with | [_, _], _ => rfl) (fun vs H Q E h => ?_) (fun cdv B up s H vs Q E hr h => ?_)
  · obtain ⟨l, k, rs, way, qs, xs, rfl, _⟩ := h
    rfl
  · obtain ⟨l, k, rs, way, qs, xs, rfl, hl, rows, L, hk, ix, lx, sub, h⟩ := h
    refine ⟨_, (pss_cons (ps_expr (px_call (ok_check_items T) (fun _ => atL) (hr.mono (by decide)) T.mg_check_items (pa_cons (pv 1) pa_nil)))
      (pss_one (ps_if (pt_not (pt_val (pe_callB (cr_all rfl) (by rfl) T.no_all (by decide +kernel) (pa_cons (pe_lcD (own := [("record", 2)]) rfl sc_check_known.nd (pi_list (pv 0)) (blkOk_by (N := N_check_known) (sc := defScope s_check_known) (by decide +kernel)) (fun _ _ _ _ _ => pg_name (i := 2) sc_check_known.nd rfl (Or.inl rfl)) (fun _ _ _ _ _ => pts_nil) (fun _ _ _ _ _ => (pe_cmpR op_in_seq (po_propD (p := A.p_Record_item) (ok_Record_item T) (hr.mono (by decide)) (pv 2)) (pv 1) rfl))) pa_nil)))) (pss_one ps_never) pss_nil))), ?_⟩
    refine ⟨_, rfl, .ref k, true, rfl, Thing.good hk ix lx, fun H1 s1 => ⟨fun _ => ?_, fun z => by cases z⟩⟩
    refine ⟨_, rfl, l, rfl, ⟨_, SqL.of (s1 _ _ hl)⟩, fun D nD => ?_⟩
    have ll := L.len
    refine lc_list (K := K) (a := l) (xs := rs) (fun i H' => Same H1 H' ∧ H' D = some (.lst ((List.replicate i true).map V.bl))) ?_ ?_ ?_ ?_
    · exact ⟨Same.new nD, upd_same⟩
    · rintro i H2 _ ⟨s2, _⟩
      exact SqL.of (s2 _ _ (s1 _ _ hl))
    · rintro i y H2 hy ⟨s2, h2⟩
      obtain ⟨p, dx, w, x, n, rfl, hq, he, w0, w1, hx⟩ := rows.get hy
      have he2 := s2 _ _ (s1 _ _ he)
      have hi := (List.getElem?_eq_some_iff.mp hq).1
      have mem : x ∈ xs := sub x (List.mem_map.mpr ⟨_, List.mem_of_getElem? hq, rfl⟩)
      refine ⟨rfl, _, rfl, p, _, dx, _, rfl, he2, (kd_of T w0 (by omega)).rc.cl, prop_item T w0 (by omega), p, dx, w, x, n, rfl, he2, w0, by omega, _, rfl, k, _, rfl, .inl (SqL.of (s2 _ _ (s1 _ _ hk))), rfl, flatS xs, ?_⟩
      rw [inS, decide_eq_true mem]
      refine ⟨_, h2, ?_, ?_, ?_⟩
      · rw [List.length_map, List.length_replicate]
        exact Nat.lt_of_lt_of_le (show i < 1000 by omega) (by decide)
      · intro c o eo
        rw [upd_ne (ne_of_none eo nD)]
        exact s2 _ _ eo
      · rw [upd_same, rep_snoc, List.map_append]
        rfl
    · rintro H2 ⟨s2, h2⟩
      refine ⟨D, _, rfl, SqL.of h2, ?_⟩
      have al : (List.replicate rs.length true).all id = true := by
        rw [List.all_eq_true]
        intro b hb
        rw [(List.mem_replicate.mp hb).2]
        rfl
      rw [al]
      exact ⟨_, rfl, iteF (h H2 (s1.trans s2))⟩
/-- the items of the known list that have a record -/
def knownL (qs : List (Int × Str × Nat)) (xs : List Str) : List Str := xs.filter fun x => decide (x ∈ names qs)
def roomV (fr : Bool) (m b : Nat) : Int := if fr = true then (m : Int) - 1 - (b : Nat) else (b : Nat)
/-- the rooms, in the order of the known list -/
def roomsL (fr : Bool) (ks : List Str) : List (Key × V) := (List.range ks.length).map fun b => (Sum.inr (ks.getD b Str.empty), V.int (roomV fr ks.length b))
theorem putK_new {kvs : List (Key × V)} {k : Key} {v : V} (h : k ∉ kvs.map (·.1)) : putK kvs k v = kvs ++ [(k, v)] := by
  unfold putK
  rw [if_neg]
  intro z
  obtain ⟨kv, hkv, e⟩ := List.any_eq_true.mp z
  exact h (List.mem_map.mpr ⟨kv, hkv, of_decide_eq_true e⟩)
theorem getD_at {xs : List Str} {i : Nat} (h : i < xs.length) : xs.getD i Str.empty = xs[i] := by
  rw [List.getD_eq_getElem?_getD, List.getElem?_eq_getElem h]
  rfl
theorem rooms_len (fr : Bool) (ks : List Str) : (roomsL fr ks).take ks.length = roomsL fr ks := List.take_of_length_le (by unfold roomsL; rw [List.length_map, List.length_range]; exact Nat.le_refl _)
theorem rooms_get {fr : Bool} {ks : List Str} {i : Nat} (h : i < ks.length) : (roomsL fr ks)[i]? = some (Sum.inr ks[i], V.int (roomV fr ks.length i)) := by
  unfold roomsL
  rw [List.getElem?_map, List.getElem?_range h]
  show some (Sum.inr (ks.getD i Str.empty), _) = _
  rw [getD_at h]
theorem rooms_take {fr : Bool} {ks : List Str} {i : Nat} (h : i < ks.length) : (roomsL fr ks).take (i + 1) = (roomsL fr ks).take i ++ [(Sum.inr ks[i], V.int (roomV fr ks.length i))] := by
  rw [List.take_add_one, rooms_get h]
  rfl
theorem rooms_new {fr : Bool} {ks : List Str} {i : Nat} (nd : ks.Nodup) (h : i < ks.length) : (Sum.inr ks[i] : Key) ∉ ((roomsL fr ks).take i).map (·.1) := fun z => by
  obtain ⟨kv, hkv, e⟩ := List.mem_map.mp z
  obtain ⟨j, hj⟩ := List.getElem?_of_mem hkv
  have hji : j < i := by
    have := (List.getElem?_eq_some_iff.mp hj).1
    rw [List.length_take] at this
    omega
  rw [List.getElem?_take_of_lt hji, rooms_get (show j < ks.length by omega)] at hj
  obtain rfl := Option.some.inj hj
  have e2 : ks[j] = ks[i] := Sum.inr.inj e
  have := (List.getElem_inj nd).mp e2
  omega
def spRooms (A : Ad) : Sp := fun vs H Q _ => ∃ (l k : Addr) (rs : List V) (way : Int) (qs : List (Int × Str × Nat)) (xs : List Str), vs = [.ref l, .ref k] ∧ H l = some (.lst rs) ∧ Rows A H rs qs ∧ LogQ way qs ∧ H k = some (.lst (xs.map V.str)) ∧ Items xs ∧ xs.length ≤ 60 ∧
  ∀ (D : Addr) (H' : Hp), Same H H' → H D = none → H' D = some (.dK (roomsL (frontB way qs) (knownL qs xs))) → Q (.ref D) H'
theorem ok_rooms_of (T : Txt K mg A) : Ok1 P w K mg base 3 A.f_rooms_of ["log", "items"] (spRooms A) := by
  refine T.fn_rooms_of.ok sc_rooms_of (fun _ _ _ _ _ _ us hl => match us, hl with | [_, _], _ => rfl) (fun vs H Q E h => ?_) (fun cdv B up s H vs Q E hr h => ?_)
  · obtain ⟨l, k, rs, way, qs, xs, rfl, _⟩ := h
    rfl
  · obtain ⟨l, k, rs, way, qs, xs, rfl, hl, rows, L, hk, ix, lx, h⟩ := h
    refine ⟨_, (pss_cons (ps_set (i := 2) sc_rooms_of.nd rfl (Or.inr rfl) (pe_lcD (own := [("record", 4)]) rfl sc_rooms_of.nd (pi_list (pv 0)) (blkOk_by (N := N_rooms_of) (sc := defScope s_rooms_of) (by decide +kernel)) (fun _ _ _ _ _ => pg_name (i := 4) sc_rooms_of.nd rfl (Or.inl rfl)) (fun _ _ _ _ _ => pts_nil) (fun _ _ _ _ _ => (po_propD (p := A.p_Record_item) (ok_Record_item T) (hr.mono (by decide)) (pv 4)))))
      (pss_cons (ps_set (i := 3) sc_rooms_of.nd rfl (Or.inr rfl) (pe_lcD (own := [("item", 5)]) rfl sc_rooms_of.nd (pi_list (pv 1)) (blkOk_by (N := N_rooms_of) (sc := defScope s_rooms_of) (by decide +kernel)) (fun _ _ _ _ _ => pg_name (i := 5) sc_rooms_of.nd rfl (Or.inl rfl)) (fun _ _ _ _ _ => (pts_one (pt_cmpR op_in_seq (pv 5) (pv 2) rfl))) (fun _ _ _ _ _ => (pv 5))))
      (pss_cons (ps_if (pt_val (po_call (ok_is_fronted T) (hr.mono (by decide)) T.mg_is_fronted (pa_cons (pv 0) pa_nil))) (pss_one (ps_ret (pe_dcD (own := [("before", 6), ("item", 5)]) rfl sc_rooms_of.nd (pi_enum (by rfl) T.no_enumerate (pa_cons (pv 3) pa_nil)) (blkOk_by (N := N_rooms_of) (sc := defScope s_rooms_of) (by decide +kernel)) (fun _ _ _ _ _ => pg_tup (by rfl) (pgs_cons (pg_name (i := 6) sc_rooms_of.nd rfl (Or.inl rfl)) (pgs_cons (pg_name (i := 5) sc_rooms_of.nd rfl (Or.inl rfl)) pgs_nil))) (fun _ _ _ _ _ => pts_nil) (fun _ _ _ _ _ => (pv 5)) (fun _ _ _ _ _ => (pe_op op_sub (pe_op op_sub (pe_callB call_len (by rfl) T.no_len (by decide +kernel) (pa_cons (pv 3) pa_nil)) pe_int) (pv 6)))))) pss_nil)
      (pss_one (ps_ret (pe_dcD (own := [("before", 6), ("item", 5)]) rfl sc_rooms_of.nd (pi_enum (by rfl) T.no_enumerate (pa_cons (pv 3) pa_nil)) (blkOk_by (N := N_rooms_of) (sc := defScope s_rooms_of) (by decide +kernel)) (fun _ _ _ _ _ => pg_tup (by rfl) (pgs_cons (pg_name (i := 6) sc_rooms_of.nd rfl (Or.inl rfl)) (pgs_cons (pg_name (i := 5) sc_rooms_of.nd rfl (Or.inl rfl)) pgs_nil))) (fun _ _ _ _ _ => pts_nil) (fun _ _ _ _ _ => (pv 5)) (fun _ _ _ _ _ => (pv 6)))))))), ?_⟩
    have lr := rows.len
    have ll := L.len
    refine ⟨_, rfl, l, rfl, ⟨_, SqL.of hl⟩, fun N nN => ?_⟩
    refine lc_list (K := K) (a := l) (xs := rs) (fun i H' => Same H H' ∧ H' N = some (.lst (((names qs).take i).map V.str))) ?_ ?_ ?_ ?_
    · exact ⟨Same.new nN, upd_same⟩
    · rintro i H2 _ ⟨s2, _⟩
      exact SqL.of (s2 _ _ hl)
    · rintro i y H2 hy ⟨s2, h2⟩
      obtain ⟨p, dx, w, x, n, rfl, hq, he, w0, w1, hx⟩ := rows.get hy
      have he2 := s2 _ _ he
      have hi := (List.getElem?_eq_some_iff.mp hq).1
      refine ⟨rfl, _, rfl, p, _, dx, _, rfl, he2, (kd_of T w0 (by omega)).rc.cl, prop_item T w0 (by omega), p, dx, w, x, n, rfl, he2, w0, by omega, _, h2, ?_, ?_, ?_⟩
      · rw [List.length_map, List.length_take]
        exact Nat.lt_of_le_of_lt (Nat.min_le_left _ _) (Nat.lt_of_lt_of_le (show i < 1000 by omega) (by decide))
      · intro c o eo
        rw [upd_ne (ne_of_none eo nN)]
        exact s2 _ _ eo
      · have ti : (names qs)[i]? = some x := by
          unfold names
          rw [List.getElem?_map, hq]
          rfl
        rw [upd_same, List.take_add_one, ti, List.map_append]
        rfl
    · rintro H1 ⟨s1, h1⟩
      have ln : rs.length = (names qs).length := by
        unfold names
        rw [List.length_map, lr]
      rw [ln, List.take_length] at h1
      refine ⟨_, rfl, k, rfl, ⟨_, SqL.of (s1 _ _ hk)⟩, fun M nM => ?_⟩
      refine lc_list (K := K) (a := k) (xs := xs.map V.str) (fun i H' => Same H1 H' ∧ H' M = some (.lst ((knownL qs (xs.take i)).map V.str))) ?_ ?_ ?_ ?_
      · exact ⟨Same.new nM, upd_same⟩
      · rintro i H2 _ ⟨s2, _⟩
        exact SqL.of (s2 _ _ (s1 _ _ hk))
      · rintro i y H2 hy ⟨s2, h2⟩
        rw [List.getElem?_map] at hy
        cases ex : xs[i]? with
        | none => rw [ex] at hy; cases hy
        | some x =>
          rw [ex] at hy
          cases hy
          have hi := (List.getElem?_eq_some_iff.mp ex).1
          have e9 : xs.take (i + 1) = xs.take i ++ [x] := by
            rw [List.take_add_one, ex]
            rfl
          refine ⟨rfl, _, rfl, _, rfl, N, _, rfl, .inl (SqL.of (s2 _ _ h1)), rfl, flatS _, _, rfl, ?_⟩
          rw [inS]
          by_cases mem : x ∈ names qs
          · rw [decide_eq_true mem]
            refine iteT ⟨_, rfl, _, h2, ?_, ?_, ?_⟩
            · rw [List.length_map]
              exact Nat.lt_of_le_of_lt (List.length_filter_le _ _) (Nat.lt_of_le_of_lt (List.length_take_le _ _) (Nat.lt_of_lt_of_le (show i < 1000 by omega) (by decide)))
            · intro c o eo
              rw [upd_ne (ne_of_none eo nM)]
              exact s2 _ _ eo
            · unfold knownL
              rw [upd_same, e9, List.filter_append, List.filter_cons_of_pos (by simp [mem]), List.filter_nil, List.map_append]
              rfl
          · rw [decide_eq_false mem]
            refine iteF ⟨s2, ?_⟩
            rw [h2, e9]
            unfold knownL
            rw [List.filter_append, List.filter_cons_of_neg (by simp [mem]), List.filter_nil, List.append_nil]
      · rintro H2 ⟨s2, h2⟩
        have lm : (xs.map V.str).length = xs.length := List.length_map ..
        rw [lm, List.take_length] at h2
        have S2 := s1.trans s2
        have ik : (knownL qs xs).Nodup := ix.nd.sublist List.filter_sublist
        have lk : (knownL qs xs).length ≤ 60 := Nat.le_trans (List.length_filter_le _ _) lx
        generalize knownL qs xs = ks at h2 h ik lk
        refine ⟨_, rfl, l, rs, way, qs, rfl, S2 _ _ hl, rows.same S2, L, _, rfl, ?_⟩
        cases efr : frontB way qs with
        | true =>
          rw [efr] at h
          refine iteT ⟨_, rfl, ?_⟩
          refine ⟨M, _, rfl, SqL.of h2, fun D nD => ?_⟩
          refine dc_it (walk_enum (xs := ks.map V.str)) (fun i H' => Same H2 H' ∧ H' D = some (.dK ((roomsL true ks).take i))) ?_ ?_ ?_ ?_
          · exact ⟨Same.new nD, by rw [List.take_zero]; exact upd_same⟩
          · rintro i H3 _ ⟨s3, _⟩
            exact SqL.of (s3 _ _ h2)
          · rintro i y H3 H4 hi ⟨s3, h3⟩ ⟨tp, x1, y1, rfl, ntp, rfl, ex, ey⟩
            obtain rfl := Option.some.inj ex
            rw [List.length_map] at hi
            have ey : (ks.map V.str)[i]? = some y1 := ey
            rw [List.getElem?_map, List.getElem?_eq_getElem hi] at ey
            obtain rfl := Option.some.inj ey
            have u4 := Same.new (o := .tup [.int (i : Nat), .str ks[i]]) ntp
            have h4 := u4 _ _ h3
            refine ⟨tp, _, rfl, SqT.of upd_same, rfl, _, _, rfl, _, _, rfl, rfl, rfl, _, rfl, _, rfl, _, _, rfl, .inl ⟨_, SqL.of (u4 _ _ (s3 _ _ h2)), rfl⟩, _, _, rfl, rfl, _, rfl, _, _, rfl, rfl, _, .inr ks[i], rfl, h4, ?_, ?_, ?_⟩
            · rw [List.length_take]
              exact Nat.lt_of_le_of_lt (Nat.min_le_left _ _) (Nat.lt_of_lt_of_le (show i < 1000 by omega) (by decide))
            · intro c o eo
              rw [upd_ne (ne_of_none eo nD)]
              exact u4 _ _ (s3 _ _ eo)
            · rw [upd_same, putK_new (rooms_new ik hi), rooms_take hi]
              first
                | rfl
                | (simp only [List.length_map]; rfl)
          · rintro H3 ⟨s3, h3⟩
            rw [List.length_map, rooms_len] at h3
            exact h D H3 (S2.trans s3) (none_same S2 nD) h3
        | false =>
          rw [efr] at h
          refine iteF ⟨_, rfl, ?_⟩
          refine ⟨M, _, rfl, SqL.of h2, fun D nD => ?_⟩
          refine dc_it (walk_enum (xs := ks.map V.str)) (fun i H' => Same H2 H' ∧ H' D = some (.dK ((roomsL false ks).take i))) ?_ ?_ ?_ ?_
          · exact ⟨Same.new nD, by rw [List.take_zero]; exact upd_same⟩
          · rintro i H3 _ ⟨s3, _⟩
            exact SqL.of (s3 _ _ h2)
          · rintro i y H3 H4 hi ⟨s3, h3⟩ ⟨tp, x1, y1, rfl, ntp, rfl, ex, ey⟩
            obtain rfl := Option.some.inj ex
            rw [List.length_map] at hi
            have ey : (ks.map V.str)[i]? = some y1 := ey
            rw [List.getElem?_map, List.getElem?_eq_getElem hi] at ey
            obtain rfl := Option.some.inj ey
            have u4 := Same.new (o := .tup [.int (i : Nat), .str ks[i]]) ntp
            have h4 := u4 _ _ h3
            refine ⟨tp, _, rfl, SqT.of upd_same, rfl, _, _, rfl, _, _, rfl, rfl, rfl, _, rfl, _, rfl, _, .inr ks[i], rfl, h4, ?_, ?_, ?_⟩
            · rw [List.length_take]
              exact Nat.lt_of_le_of_lt (Nat.min_le_left _ _) (Nat.lt_of_lt_of_le (show i < 1000 by omega) (by decide))
            · intro c o eo
              rw [upd_ne (ne_of_none eo nD)]
              exact u4 _ _ (s3 _ _ eo)
            · rw [upd_same, putK_new (rooms_new ik hi), rooms_take hi]
              first
                | rfl
                | (simp only [List.length_map]; rfl)
          · rintro H3 ⟨s3, h3⟩
            rw [List.length_map, rooms_len] at h3
            exact h D H3 (S2.trans s3) (none_same S2 nD) h3
/-- where an item stands -/
def ix (xs : List Str) (x : Str) : Nat := xs.idxOf x
theorem ix_at {x : Str} : ∀ {xs : List Str}, x ∈ xs → ix xs x < xs.length ∧ xs[ix xs x]? = some x ∧ ∀ m z, m < ix xs x → xs[m]? = some z → z ≠ x
  | y :: ys, h => by
    unfold ix
    by_cases e : y = x
    · rw [e, List.idxOf_cons_self]
      exact ⟨Nat.succ_pos _, rfl, fun m z hm => absurd hm (Nat.not_lt_zero _)⟩
    · have h2 : x ∈ ys := (List.mem_cons.mp h).resolve_left fun z => e z.symm
      obtain ⟨a, b, c⟩ := ix_at h2
      unfold ix at a b c
      have ec : (y :: ys).idxOf x = ys.idxOf x + 1 := by rw [List.idxOf_cons, beq_false_of_ne e]; rfl
      rw [ec]
      refine ⟨Nat.succ_lt_succ a, b, fun m z hm hz => ?_⟩
      cases m with
      | zero => exact fun q => e ((Option.some.inj hz).trans q)
      | succ m => exact c m z (Nat.lt_of_succ_lt_succ hm) hz
def shiftV (fr : Bool) (xs : List Str) (q : Int × Str × Nat) : Int := if fr = true then (q.2.2 : Nat) - ((ix xs q.2.1 : Nat) : Int) else ((ix xs q.2.1 : Nat) : Int) - (q.2.2 : Nat)
def shiftsL (fr : Bool) (xs : List Str) (qs : List (Int × Str × Nat)) : List (Key × V) := qs.map fun q => (Sum.inr q.2.1, V.int (shiftV fr xs q))
theorem shifts_new {fr : Bool} {xs : List Str} {qs : List (Int × Str × Nat)} {i : Nat} {q : Int × Str × Nat} (nd : (names qs).Nodup) (h : qs[i]? = some q) : (Sum.inr q.2.1 : Key) ∉ ((shiftsL fr xs qs).take i).map (·.1) := fun z => by
  obtain ⟨kv, hkv, e⟩ := List.mem_map.mp z
  obtain ⟨j, hj⟩ := List.getElem?_of_mem hkv
  have hi := (List.getElem?_eq_some_iff.mp h).1
  have hji : j < i := by
    have := (List.getElem?_eq_some_iff.mp hj).1
    rw [List.length_take] at this
    omega
  rw [List.getElem?_take_of_lt hji] at hj
  unfold shiftsL at hj
  rw [List.getElem?_map] at hj
  cases eq : qs[j]? with
  | none => rw [eq] at hj; cases hj
  | some r =>
    rw [eq] at hj
    obtain rfl := Option.some.inj hj
    have e2 : r.2.1 = q.2.1 := Sum.inr.inj e
    have nj : (names qs)[j]? = some r.2.1 := by
      unfold names
      rw [List.getElem?_map, eq]
      rfl
    have ni : (names qs)[i]? = some q.2.1 := by
      unfold names
      rw [List.getElem?_map, h]
      rfl
    rw [e2] at nj
    obtain ⟨aj, bj⟩ := List.getElem?_eq_some_iff.mp nj
    obtain ⟨ai, bi⟩ := List.getElem?_eq_some_iff.mp ni
    have := (List.getElem_inj nd).mp (bj.trans bi.symm)
    omega
theorem shifts_take {fr : Bool} {xs : List Str} {qs : List (Int × Str × Nat)} {i : Nat} {q : Int × Str × Nat} (h : qs[i]? = some q) : (shiftsL fr xs qs).take (i + 1) = (shiftsL fr xs qs).take i ++ [(Sum.inr q.2.1, V.int (shiftV fr xs q))] := by
  have e : (shiftsL fr xs qs)[i]? = some (Sum.inr q.2.1, V.int (shiftV fr xs q)) := by
    unfold shiftsL
    rw [List.getElem?_map, h]
    rfl
  rw [List.take_add_one, e]
  rfl
def spShifts (A : Ad) : Sp := fun vs H Q _ => ∃ (l k : Addr) (rs : List V) (way : Int) (qs : List (Int × Str × Nat)) (xs : List Str), vs = [.ref l, .ref k] ∧ H l = some (.lst rs) ∧ Rows A H rs qs ∧ LogQ way qs ∧ H k = some (.lst (xs.map V.str)) ∧ Items xs ∧ xs.length ≤ 60 ∧ (∀ x ∈ names qs, x ∈ xs) ∧
  ∀ (D : Addr) (H' : Hp), Same H H' → H D = none → H' D = some (.dK (shiftsL (frontB way qs) xs qs)) → Q (.ref D) H'
theorem ok_shifts_of (T : Txt K mg A) : Ok1 P w K mg base 3 A.f_shifts_of ["log", "items"] (spShifts A) := by
  refine T.fn_shifts_of.ok sc_shifts_of (fun _ _ _ _ _ _ us hl => match us, hl with | [_, _], _ => rfl) (fun vs H Q E h => ?_) (fun cdv B up s H vs Q E hr h => ?_)
  · obtain ⟨l, k, rs, way, qs, xs, rfl, _⟩ := h
    rfl
  · obtain ⟨l, k, rs, way, qs, xs, rfl, hl, rows, L, hk, ixs, lx, sub, h⟩ := h
    refine ⟨_, (pss_cons (ps_if (pt_val (po_call (ok_is_fronted T) (hr.mono (by decide)) T.mg_is_fronted (pa_cons (pv 0) pa_nil))) (pss_one (ps_ret (pe_dcD (own := [("record", 2)]) rfl sc_shifts_of.nd (pi_list (pv 0)) (blkOk_by (N := N_shifts_of) (sc := defScope s_shifts_of) (by decide +kernel)) (fun _ _ _ _ _ => pg_name (i := 2) sc_shifts_of.nd rfl (Or.inl rfl)) (fun _ _ _ _ _ => pts_nil) (fun _ _ _ _ _ => (po_propD (p := A.p_Record_item) (ok_Record_item T) (hr.mono (by decide)) (pv 2))) (fun _ _ _ _ _ => (pe_op op_sub (po_propD (p := A.p_Record_slot) (ok_Record_slot T) (hr.mono (by decide)) (pv 2)) (pe_bm PySem.F.plainAttrs_list PySem.F.slot_list_index PySem.F.type_list_index mt_index (pv 1) (pa_cons (po_propD (p := A.p_Record_item) (ok_Record_item T) (hr.mono (by decide)) (pv 2)) pa_nil))))))) pss_nil)
      (pss_one (ps_ret (pe_dcD (own := [("record", 2)]) rfl sc_shifts_of.nd (pi_list (pv 0)) (blkOk_by (N := N_shifts_of) (sc := defScope s_shifts_of) (by decide +kernel)) (fun _ _ _ _ _ => pg_name (i := 2) sc_shifts_of.nd rfl (Or.inl rfl)) (fun _ _ _ _ _ => pts_nil) (fun _ _ _ _ _ => (po_propD (p := A.p_Record_item) (ok_Record_item T) (hr.mono (by decide)) (pv 2))) (fun _ _ _ _ _ => (pe_op op_sub (pe_bm PySem.F.plainAttrs_list PySem.F.slot_list_index PySem.F.type_list_index mt_index (pv 1) (pa_cons (po_propD (p := A.p_Record_item) (ok_Record_item T) (hr.mono (by decide)) (pv 2)) pa_nil)) (po_propD (p := A.p_Record_slot) (ok_Record_slot T) (hr.mono (by decide)) (pv 2)))))))), ?_⟩
    have lr := rows.len
    have ll := L.len
    refine ⟨_, rfl, l, rs, way, qs, rfl, hl, rows, L, _, rfl, ?_⟩
    cases efr : frontB way qs with
    | true =>
      rw [efr] at h
      refine iteT ⟨_, rfl, ?_⟩
      refine ⟨l, rfl, ⟨_, SqL.of hl⟩, fun D nD => ?_⟩
      refine dc_it (walk_list (K := K) (a := l) (xs := rs)) (fun i H' => Same H H' ∧ H' D = some (.dK ((shiftsL true xs qs).take i))) ?_ ?_ ?_ ?_
      · exact ⟨Same.new nD, by rw [List.take_zero]; exact upd_same⟩
      · rintro i H3 _ ⟨s3, _⟩
        exact SqL.of (s3 _ _ hl)
      · rintro i y H3 H4 hi ⟨s3, h3⟩ ⟨rfl, ey⟩
        obtain ⟨p, dx, w, x, n, rfl, hq, he, w0, w1, hx⟩ := rows.get ey
        have he3 := s3 _ _ he
        have mem : x ∈ xs := sub x (List.mem_map.mpr ⟨_, List.mem_of_getElem? hq, rfl⟩)
        obtain ⟨i1, i2, i3⟩ := ix_at mem
        have flat : (V.str x) = V.str x := rfl
        have pi : PropOf K (cw A w) "item" A.p_Record_item A.m_Record_item := prop_item T w0 (by omega)
        have ps : PropOf K (cw A w) "slot" A.p_Record_slot A.m_Record_slot := prop_slot T w0 (by omega)
        have cl := (kd_of T w0 (by omega)).rc.cl
        refine ⟨rfl, _, rfl, p, _, dx, _, rfl, he3, cl, pi, p, dx, w, x, n, rfl, he3, w0, by omega, _, rfl, p, _, dx, _, rfl, he3, cl, ps, p, dx, w, x, n, rfl, he3, w0, by omega, _, rfl, .inl ⟨rfl, _, SqL.of (s3 _ _ hk)⟩, _, rfl, p, _, dx, _, rfl, he3, cl, pi, p, dx, w, x, n, rfl, he3, w0, by omega, k, _, _, ix xs x, _, rfl, rfl, SqL.of (s3 _ _ hk), rfl, flatS xs, ?_, (show eqV (.str x) (.str x) = true from beq_self_eq_true x), ?_, _, _, rfl, rfl, _, .inr x, rfl, h3, ?_, ?_, ?_⟩
        · rw [List.getElem?_map, i2]
          rfl
        · intro m z' hm hz
          rw [List.getElem?_map] at hz
          cases q : xs[m]? with
          | none => rw [q] at hz; cases hz
          | some z =>
            rw [q] at hz
            cases hz
            exact beq_false_of_ne (i3 m z hm q)
        · rw [List.length_take]
          exact Nat.lt_of_le_of_lt (Nat.min_le_left _ _) (Nat.lt_of_lt_of_le (show i < 1000 by have := (List.getElem?_eq_some_iff.mp hq).1; omega) (by decide))
        · intro c o eo
          rw [upd_ne (ne_of_none eo nD)]
          exact s3 _ _ eo
        · rw [upd_same, putK_new (shifts_new L.nd hq), shifts_take hq]
          rfl
      · rintro H3 ⟨s3, h3⟩
        have lt : (shiftsL true xs qs).take rs.length = shiftsL true xs qs := List.take_of_length_le (by unfold shiftsL; rw [List.length_map]; omega)
        rw [lt] at h3
        exact h D H3 s3 nD h3
    | false =>
      rw [efr] at h
      refine iteF ⟨_, rfl, ?_⟩
      refine ⟨l, rfl, ⟨_, SqL.of hl⟩, fun D nD => ?_⟩
      refine dc_it (walk_list (K := K) (a := l) (xs := rs)) (fun i H' => Same H H' ∧ H' D = some (.dK ((shiftsL false xs qs).take i))) ?_ ?_ ?_ ?_
      · exact ⟨Same.new nD, by rw [List.take_zero]; exact upd_same⟩
      · rintro i H3 _ ⟨s3, _⟩
        exact SqL.of (s3 _ _ hl)
      · rintro i y H3 H4 hi ⟨s3, h3⟩ ⟨rfl, ey⟩
        obtain ⟨p, dx, w, x, n, rfl, hq, he, w0, w1, hx⟩ := rows.get ey
        have he3 := s3 _ _ he
        have mem : x ∈ xs := sub x (List.mem_map.mpr ⟨_, List.mem_of_getElem? hq, rfl⟩)
        obtain ⟨i1, i2, i3⟩ := ix_at mem
        have flat : (V.str x) = V.str x := rfl
        have pi : PropOf K (cw A w) "item" A.p_Record_item A.m_Record_item := prop_item T w0 (by omega)
        have ps : PropOf K (cw A w) "slot" A.p_Record_slot A.m_Record_slot := prop_slot T w0 (by omega)
        have cl := (kd_of T w0 (by omega)).rc.cl
        refine ⟨rfl, _, rfl, p, _, dx, _, rfl, he3, cl, pi, p, dx, w, x, n, rfl, he3, w0, by omega, _, rfl, .inl ⟨rfl, _, SqL.of (s3 _ _ hk)⟩, _, rfl, p, _, dx, _, rfl, he3, cl, pi, p, dx, w, x, n, rfl, he3, w0, by omega, k, _, _, ix xs x, _, rfl, rfl, SqL.of (s3 _ _ hk), rfl, flatS xs, ?_, (show eqV (.str x) (.str x) = true from beq_self_eq_true x), ?_, _, rfl, p, _, dx, _, rfl, he3, cl, ps, p, dx, w, x, n, rfl, he3, w0, by omega, _, _, rfl, rfl, _, .inr x, rfl, h3, ?_, ?_, ?_⟩
        · rw [List.getElem?_map, i2]
          rfl
        · intro m z' hm hz
          rw [List.getElem?_map] at hz
          cases q : xs[m]? with
          | none => rw [q] at hz; cases hz
          | some z =>
            rw [q] at hz
            cases hz
            exact beq_false_of_ne (i3 m z hm q)
        · rw [List.length_take]
          exact Nat.lt_of_le_of_lt (Nat.min_le_left _ _) (Nat.lt_of_lt_of_le (show i < 1000 by have := (List.getElem?_eq_some_iff.mp hq).1; omega) (by decide))
        · intro c o eo
          rw [upd_ne (ne_of_none eo nD)]
          exact s3 _ _ eo
        · rw [upd_same, putK_new (shifts_new L.nd hq), shifts_take hq]
          rfl
      · rintro H3 ⟨s3, h3⟩
        have lt : (shiftsL false xs qs).take rs.length = shiftsL false xs qs := List.take_of_length_le (by unfold shiftsL; rw [List.length_map]; omega)
        rw [lt] at h3
        exact h D H3 s3 nD h3

end
end Own

set_option Elab.async false
set_option linter.all false
set_option maxRecDepth 100000
set_option maxHeartbeats 4000000
namespace Own
open PySem L2 ClX
local macro_rules | `(tactic| walk_at "v") => `(tactic| refine ⟨_, rfl, ?_⟩)
local macro_rules | `(tactic| walk_at "ii") => `(tactic| refine ⟨_, _, rfl, rfl, ?_⟩)
local macro_rules | `(tactic| walk_at "go") => `(tactic| repeat (first | refine ⟨_, rfl, ?_⟩ | refine ⟨_, _, rfl, rfl, ?_⟩ | refine addI ?_ | refine L2.iteT ?_ | refine L2.iteF ?_))

section
variable {P : Program} {w : World} {K : PySem.W.Frag} {mg : Str → Option Value} {base : Heap} {A : Ad}
/-! ### certificates -/
def slotOf (qs : List (Int × Str × Nat)) (x : Str) : Nat := ((qs.find? fun q => decide (q.2.1 = x)).map (·.2.2)).getD 0
def shiftOf (fr : Bool) (xs : List Str) (qs : List (Int × Str × Nat)) (x : Str) : Int := if fr = true then (slotOf qs x : Nat) - ((ix xs x : Nat) : Int) else ((ix xs x : Nat) : Int) - (slotOf qs x : Nat)
def certO (shift room : Int) (x : Str) : Option (Str × Str) := if shift < 0 then some ("low", x) else if room < shift then some ("high", x) else none
def certF (fr : Bool) (xs : List Str) (qs : List (Int × Str × Nat)) (ks : List Str) (b : Nat) : Option (Str × Str) := certO (shiftOf fr xs qs (ks.getD b Str.empty)) (roomV fr ks.length b) (ks.getD b Str.empty)
def certsTo (fr : Bool) (xs : List Str) (qs : List (Int × Str × Nat)) (ks : List Str) (n : Nat) : List (Str × Str) := (List.range n).filterMap (certF fr xs qs ks)
theorem certs_succ (fr : Bool) (xs : List Str) (qs : List (Int × Str × Nat)) (ks : List Str) (n : Nat) : certsTo fr xs qs ks (n + 1) = certsTo fr xs qs ks n ++ (certF fr xs qs ks n).toList := by
  unfold certsTo
  rw [List.range_succ, List.filterMap_append]
  congr 1
theorem shift_val {fr : Bool} {xs : List Str} {qs : List (Int × Str × Nat)} {x : Str} (h : x ∈ names qs) : valV (shiftsL fr xs qs) (Sum.inr x) = some (.int (shiftOf fr xs qs x)) := by
  obtain ⟨q, hq, rfl⟩ := List.mem_map.mp h
  have some_q : ∃ r, qs.find? (fun r => decide (r.2.1 = q.2.1)) = some r := by
    cases e : qs.find? (fun r => decide (r.2.1 = q.2.1)) with
    | some r => exact ⟨r, rfl⟩
    | none => exact absurd (decide_eq_true rfl) (by have := List.find?_eq_none.mp e q hq; exact this)
  obtain ⟨r, er⟩ := some_q
  have e2 : r.2.1 = q.2.1 := of_decide_eq_true (show decide (r.2.1 = q.2.1) = true from List.find?_some (p := fun r : Int × Str × Nat => decide (r.2.1 = q.2.1)) er)
  unfold valV shiftsL
  rw [List.find?_map]
  have ef : (fun kv : Key × V => decide (kv.1 = Sum.inr q.2.1)) ∘ (fun r : Int × Str × Nat => ((Sum.inr r.2.1 : Key), V.int (shiftV fr xs r))) = fun r => decide (r.2.1 = q.2.1) := by
    funext r
    show decide ((Sum.inr r.2.1 : Key) = Sum.inr q.2.1) = _
    exact decide_eq_decide.mpr ⟨fun z => Sum.inr.inj z, fun z => by rw [z]⟩
  rw [ef, er]
  show some (V.int (shiftV fr xs r)) = _
  unfold shiftV shiftOf slotOf
  rw [er, e2]
  rfl
inductive Certs (H : Hp) : List V → List (Str × Str) → Prop where
  | nil : Certs H [] []
  | cons {t : Addr} {w x : Str} {vs : List V} {cs : List (Str × Str)} (e : H t = some (.tup [.str w, .str x])) (r : Certs H vs cs) : Certs H (.ref t :: vs) ((w, x) :: cs)
theorem Certs.same {H H' : Hp} {vs : List V} {cs : List (Str × Str)} (h : Certs H vs cs) (s : Same H H') : Certs H' vs cs := by
  induction h with
  | nil => exact .nil
  | cons e _ ih => exact .cons (s _ _ e) ih
theorem Certs.len {H : Hp} {vs : List V} {cs : List (Str × Str)} (h : Certs H vs cs) : vs.length = cs.length := by
  induction h with
  | nil => rfl
  | cons _ _ ih => rw [List.length_cons, List.length_cons, ih]
theorem Certs.updL {H : Hp} {vs us : List V} {cs : List (Str × Str)} {D : Addr} {o : HO} (h : Certs H vs cs) (hD : H D = some (.lst us)) : Certs (upd H D o) vs cs := by
  induction h with
  | nil => exact .nil
  | @cons t w x vs cs e _ ih =>
    refine .cons ?_ ih
    rw [upd_ne (fun z => by rw [z, hD] at e; cases e)]
    exact e
theorem Certs.snoc {H : Hp} {vs : List V} {cs : List (Str × Str)} {t : Addr} {w x : Str} (h : Certs H vs cs) (e : H t = some (.tup [.str w, .str x])) : Certs H (vs ++ [.ref t]) (cs ++ [(w, x)]) := by
  induction h with
  | nil => exact .cons e .nil
  | cons e' _ ih => exact .cons e' ih
theorem certs_len {fr : Bool} {xs : List Str} {qs : List (Int × Str × Nat)} {ks : List Str} (n : Nat) : (certsTo fr xs qs ks n).length ≤ n := by
  unfold certsTo
  exact Nat.le_trans (List.length_filterMap_le _ _) (by rw [List.length_range]; exact Nat.le_refl _)
def spCerts (A : Ad) : Sp := fun vs H Q _ => ∃ (l k : Addr) (rs : List V) (way : Int) (qs : List (Int × Str × Nat)) (xs : List Str), vs = [.ref l, .ref k] ∧ H l = some (.lst rs) ∧ Rows A H rs qs ∧ LogQ way qs ∧ H k = some (.lst (xs.map V.str)) ∧ Items xs ∧ xs.length ≤ 60 ∧ (∀ x ∈ names qs, x ∈ xs) ∧
  ∀ (D : Addr) (cs : List V) (H' : Hp), Same H H' → H D = none → H' D = some (.lst cs) → Certs H' cs (certsTo (frontB way qs) xs qs (knownL qs xs) (knownL qs xs).length) → Q (.ref D) H'
theorem ok_certificates (T : Txt K mg A) : Ok1 P w K mg base 4 A.f_certificates ["log", "items"] (spCerts A) := by
  refine T.fn_certificates.ok sc_certificates (fun _ _ _ _ _ _ us hl => match us, hl with | [_, _], _ => rfl) (fun vs H Q E h => ?_) (fun cdv B up s H vs Q E hr h => ?_)
  · obtain ⟨l, k, rs, way, qs, xs, rfl, _⟩ := h
    rfl
  · obtain ⟨l, k, rs, way, qs, xs, rfl, hl, rows, L, hk, ixs, lx, sub, h⟩ := h
    refine ⟨_, (pss_cons (ps_set (i := 2) sc_certificates.nd rfl (Or.inl rfl) (po_call (ok_shifts_of T) (hr.mono (by decide)) T.mg_shifts_of (pa_cons (pv 0) (pa_cons (pv 1) pa_nil))))
      (pss_cons (ps_set (i := 3) sc_certificates.nd rfl (Or.inl rfl) (pe_lst pa_nil))
      (pss_cons (ps_for PassesOwn.never rfl (pi_items (pe_freeze (po_call (ok_rooms_of T) (hr.mono (by decide)) T.mg_rooms_of (pa_cons (pv 0) (pa_cons (pv 1) pa_nil))))) (pg_tup (by rfl) (pgs_cons (pg_name (i := 4) sc_certificates.nd rfl (Or.inl rfl)) (pgs_cons (pg_name (i := 5) sc_certificates.nd rfl (Or.inl rfl)) pgs_nil)))
      (pss_one (ps_if (pt_cmpR op_lt (pe_dget (Nat.lt_of_le_of_lt (Nat.add_le_add_left (show 1 ≤ 64 by decide) _) hr.units) (pv 2) (pv 4) (fun _ _ => rfl)) pe_int (nomark _)) (pss_one (ps_expr (pe_bm PySem.F.plainAttrs_list PySem.F.slot_list_append PySem.F.type_list_append mt_append (pv 3) (pa_cons (pe_tup (pa_cons pe_str (pa_cons (pv 4) pa_nil))) pa_nil)))) (pss_one (ps_if (pt_cmpR op_gt (pe_dget (Nat.lt_of_le_of_lt (Nat.add_le_add_left (show 1 ≤ 64 by decide) _) hr.units) (pv 2) (pv 4) (fun _ _ => rfl)) (pv 5) (nomark _)) (pss_one (ps_expr (pe_bm PySem.F.plainAttrs_list PySem.F.slot_list_append PySem.F.type_list_append mt_append (pv 3) (pa_cons (pe_tup (pa_cons pe_str (pa_cons (pv 4) pa_nil))) pa_nil)))) pss_nil)))))
      (pss_one (ps_ret (pv 3)))))), ?_⟩
    refine ⟨_, rfl, _, rfl, l, k, rs, way, qs, xs, rfl, hl, rows, L, hk, ixs, lx, sub, fun S H1 s1 nS hS => ?_⟩
    refine ⟨Nat.zero_le _, fun F nF => ?_⟩
    have u2 := Same.new (o := .lst []) nF
    have S2 := s1.trans u2
    have hS2 := u2 _ _ hS
    have hF2 : upd H1 F (.lst []) F = some (.lst []) := upd_same
    have F0 : H F = none := none_same s1 nF
    have FS : S ≠ F := ne_of_none hS nF
    generalize upd H1 F (.lst []) = H2 at u2 S2 hS2 hF2 ⊢
    refine ⟨_, rfl, _, rfl, l, k, rs, way, qs, xs, rfl, S2 _ _ hl, rows.same S2, L, S2 _ _ hk, ixs, lx, fun R H3 s3 nR hR => ?_⟩
    refine ⟨R, _, rfl, hR, trivial, fun od => ?_⟩
    have RF : F ≠ R := ne_of_none hF2 nR
    have RS : S ≠ R := ne_of_none hS2 nR
    have R0 : H R = none := none_same S2 nR
    have S4 : Same H (upd H3 R (.frz od (.dK (roomsL (frontB way qs) (knownL qs xs))))) := fun c o e => by
      rw [upd_ne (ne_of_none e R0)]
      exact s3 _ _ (S2 _ _ e)
    have hF4 : upd H3 R (.frz od (.dK (roomsL (frontB way qs) (knownL qs xs)))) F = some (.lst []) := by
      rw [upd_ne RF]
      exact s3 _ _ hF2
    have hS4 : upd H3 R (.frz od (.dK (roomsL (frontB way qs) (knownL qs xs)))) S = some (.dK (shiftsL (frontB way qs) xs qs)) := by
      rw [upd_ne RS]
      exact s3 _ _ hS2
    have hR4 : upd H3 R (.frz od (.dK (roomsL (frontB way qs) (knownL qs xs)))) R = some (.frz od (.dK (roomsL (frontB way qs) (knownL qs xs)))) := upd_same
    have inn : ∀ x ∈ knownL qs xs, x ∈ names qs := fun x hx => of_decide_eq_true (List.mem_filter.mp hx).2
    have lk : (knownL qs xs).length ≤ 60 := Nat.le_trans (List.length_filter_le _ _) lx
    generalize upd H3 R (.frz od (.dK (roomsL (frontB way qs) (knownL qs xs)))) = H4 at S4 hF4 hS4 hR4 ⊢
    clear s1 nS hS nF u2 S2 hS2 hF2 s3 nR hR
    generalize knownL qs xs = ks at *
    generalize frontB way qs = fr at *
    have lrm : (roomsL fr ks).length = ks.length := by unfold roomsL; rw [List.length_map, List.length_range]
    refine ⟨R, od, _, rfl, hR4, for_it (walk_items (kvs := roomsL fr ks)) (fun i σ H' => ∃ (a4 a5 : Option V) (cs : List V), σ = [some (.ref l), some (.ref k), some (.ref S), some (.ref F), a4, a5] ∧ Same H H' ∧ H' S = some (.dK (shiftsL fr xs qs)) ∧ H' R = some (.frz od (.dK (roomsL fr ks))) ∧ H' F = some (.lst cs) ∧ Certs H' cs (certsTo fr xs qs ks i))
      ⟨_, _, [], rfl, S4, hS4, hR4, hF4, .nil⟩ ?_ ?_ ?_⟩
    · rintro i σ H5 _ ⟨a4, a5, cs, rfl, _, _, h5, _⟩
      exact h5
    · rintro i y σ H5 H6 hi ⟨a4, a5, cs, rfl, s5, hS5, hR5, hF5, c5⟩ ⟨tp, x1, y1, rfl, ntp, rfl, ex, ey⟩
      rw [lrm] at hi
      have ex : ((roomsL fr ks)[i]?.map fun kv => kV kv.1) = some x1 := ex
      have ey : (roomsL fr ks)[i]?.map Prod.snd = some y1 := ey
      rw [rooms_get hi] at ex ey
      obtain rfl := Option.some.inj ex
      obtain rfl := Option.some.inj ey
      have u6 := Same.new (o := .tup [kV (Sum.inr ks[i]), V.int (roomV fr ks.length i)]) ntp
      have sv := shift_val (fr := fr) (xs := xs) (inn ks[i] (List.getElem_mem hi))
      have lc := c5.len
      have lc2 := certs_len (fr := fr) (xs := xs) (qs := qs) (ks := ks) i
      have ce := certs_succ fr xs qs ks i
      have cf : certF fr xs qs ks i = certO (shiftOf fr xs qs ks[i]) (roomV fr ks.length i) ks[i] := by
        unfold certF
        rw [getD_at hi]
      refine ⟨tp, _, rfl, SqT.of upd_same, rfl, _, _, rfl, _, _, rfl, rfl, ?_⟩
      have hS6 := u6 _ _ hS5
      have hR6 := u6 _ _ hR5
      have hF6 := u6 _ _ hF5
      have s6 := s5.trans u6
      have c6 := c5.same u6
      generalize upd H5 tp (.tup [kV (Sum.inr ks[i]), V.int (roomV fr ks.length i)]) = H6 at hS6 hR6 hF6 s6 c6 ⊢
      clear u6 ntp hS5 hR5 hF5 s5 c5
      generalize shiftOf fr xs qs ks[i] = sh at sv cf
      generalize roomV fr ks.length i = rm at cf ⊢
      have dg : DGet H6 S (.str ks[i]) (some (.int sh)) := sv ▸ DGet.k (k := Sum.inr ks[i]) hS6
      refine ⟨_, rfl, _, rfl, S, _, rfl, dg, _, _, rfl, rfl, _, rfl, ?_⟩
      have app : ∀ (t : Addr) (w : Str), upd H6 t (.tup [.str w, .str ks[i]]) F = some (.lst cs) → H6 t = none → certO sh rm ks[i] = some (w, ks[i]) →
          ∃ (a4 a5 : Option V) (cs' : List V), [some (.ref l), some (.ref k), some (.ref S), some (.ref F), some (V.str ks[i]), some (V.int rm)] = [some (.ref l), some (.ref k), some (.ref S), some (.ref F), a4, a5] ∧
            Same H (upd (upd H6 t (.tup [.str w, .str ks[i]])) F (.lst (cs ++ [.ref t]))) ∧ upd (upd H6 t (.tup [.str w, .str ks[i]])) F (.lst (cs ++ [.ref t])) S = some (.dK (shiftsL fr xs qs)) ∧ upd (upd H6 t (.tup [.str w, .str ks[i]])) F (.lst (cs ++ [.ref t])) R = some (.frz od (.dK (roomsL fr ks))) ∧
              upd (upd H6 t (.tup [.str w, .str ks[i]])) F (.lst (cs ++ [.ref t])) F = some (.lst cs') ∧ Certs (upd (upd H6 t (.tup [.str w, .str ks[i]])) F (.lst (cs ++ [.ref t]))) cs' (certsTo fr xs qs ks (i + 1)) := fun t w hFt nt e => by
        have ut := Same.new (o := .tup [.str w, .str ks[i]]) nt
        refine ⟨_, _, _, rfl, fun c o eo => ?_, ?_, ?_, upd_same, ?_⟩
        · rw [upd_ne (ne_of_none eo F0)]
          exact ut _ _ (s6 _ _ eo)
        · rw [upd_ne FS]
          exact ut _ _ hS6
        · rw [upd_ne RF.symm]
          exact ut _ _ hR6
        · rw [ce, cf, e]
          exact ((c6.same ut).snoc upd_same).updL hFt
      by_cases d0 : sh < 0
      · rw [decide_eq_true d0]
        refine iteT ⟨_, rfl, .inl ⟨rfl, _, SqL.of hF6⟩, _, rfl, Nat.le_of_ble_eq_true rfl, fun t nt => ⟨F, _, _, rfl, rfl, (Same.new nt) _ _ hF6, Nat.lt_of_lt_of_le (show cs.length < 1000 by omega) (by decide), ?_⟩⟩
        exact app t "low" ((Same.new nt) _ _ hF6) nt (if_pos d0)
      · rw [decide_eq_false d0]
        refine iteF ⟨_, rfl, _, rfl, S, _, rfl, dg, _, rfl, _, _, rfl, rfl, _, rfl, ?_⟩
        by_cases d1 : rm < sh
        · rw [decide_eq_true d1]
          refine iteT ⟨_, rfl, .inl ⟨rfl, _, SqL.of hF6⟩, _, rfl, Nat.le_of_ble_eq_true rfl, fun t nt => ⟨F, _, _, rfl, rfl, (Same.new nt) _ _ hF6, Nat.lt_of_lt_of_le (show cs.length < 1000 by omega) (by decide), ?_⟩⟩
          exact app t "high" ((Same.new nt) _ _ hF6) nt (by unfold certO; rw [if_neg d0, if_pos d1])
        · rw [decide_eq_false d1]
          have e0 : certO sh rm ks[i] = none := by unfold certO; rw [if_neg d0, if_neg d1]
          rw [e0] at cf
          rw [cf] at ce
          refine iteF ⟨_, _, cs, rfl, s6, hS6, hR6, hF6, ?_⟩
          rw [ce]
          show Certs H6 cs (certsTo fr xs qs ks i ++ [])
          rw [List.append_nil]
          exact c6
    · rintro σ H5 ⟨a4, a5, cs, rfl, s5, hS5, hR5, hF5, c5⟩
      rw [lrm] at c5
      exact ⟨_, rfl, h F cs H5 s5 F0 hF5 c5⟩
/-- the first certificate -/
def firstC (way : Int) (qs : List (Int × Str × Nat)) (xs : List Str) : Option (Str × Str) := (certsTo (frontB way qs) xs qs (knownL qs xs) (knownL qs xs).length).head?
def spFirst : Sp := fun vs H Q _ => ∃ (l : Addr) (rs : List V), vs = [.ref l] ∧ H l = some (.lst rs) ∧ Q (rs.headD .non) H
theorem ok_first_of (T : Txt K mg A) : Ok1 P w K mg base 1 A.f_first_of ["rows"] spFirst := by
  refine T.fn_first_of.ok sc_first_of (fun _ _ _ _ _ _ us hl => match us, hl with | [_], _ => rfl) (fun vs H Q E h => ?_) (fun cdv B up s H vs Q E hr h => ?_)
  · obtain ⟨l, rs, rfl, _⟩ := h
    rfl
  · obtain ⟨l, rs, rfl, hl, h⟩ := h
    refine ⟨_, (pss_one (ps_ret (pe_ifExp (pt_cmpR op_gt (pe_callB call_len (by rfl) T.no_len (by decide +kernel) (pa_cons (pv 0) pa_nil)) pe_int (nomark _)) (pe_ix ix_seq (pv 0) pe_int (fun _ _ => rfl)) pe_non))), ?_⟩
    refine ⟨_, rfl, _, _, rfl, .inl ⟨_, SqL.of hl, rfl⟩, _, _, rfl, rfl, _, rfl, ?_⟩
    cases rs with
    | nil =>
      rw [decide_eq_false (show ¬ (0 : Int) < (([] : List V).length : Nat) by decide)]
      exact iteF h
    | cons r rs =>
      rw [decide_eq_true (show (0 : Int) < ((r :: rs).length : Nat) by rw [List.length_cons]; omega)]
      exact iteT ⟨_, rfl, ixL hl (atI0 _ _) h⟩
def spReason (A : Ad) : Sp := fun vs H Q _ => ∃ (l k : Addr) (rs : List V) (way : Int) (qs : List (Int × Str × Nat)) (xs : List Str), vs = [.ref l, .ref k] ∧ H l = some (.lst rs) ∧ Rows A H rs qs ∧ LogQ way qs ∧ H k = some (.lst (xs.map V.str)) ∧ Items xs ∧ xs.length ≤ 60 ∧ (∀ x ∈ names qs, x ∈ xs) ∧
  (firstC way qs xs = none → ∀ H', Same H H' → Q .non H') ∧ (∀ w x, firstC way qs xs = some (w, x) → ∀ (t : Addr) (H' : Hp), Same H H' → H' t = some (.tup [.str w, .str x]) → Q (.ref t) H')
theorem len_reason : ∀ vs H Q E, spReason A vs H Q E → vs.length = 2 := fun vs H Q E h => by
  obtain ⟨l, k, rs, way, qs, xs, rfl, _⟩ := h
  rfl
theorem body_reason (T : Txt K mg A) : BodyX P w K mg base N_reason "reason" s_reason A.f_reason 5 (spReason A) := by
  intro cdv B up s H vs Q E hr h
  obtain ⟨l, k, rs, way, qs, xs, rfl, hl, rows, L, hk, ixs, lx, sub, h1, h2⟩ := h
  refine ⟨_, (pss_cons (ps_expr (po_call (ok_check_log T) (hr.mono (by decide)) T.mg_check_log (pa_cons (pv 0) pa_nil)))
      (pss_cons (ps_expr (po_call (ok_check_known T) (hr.mono (by decide)) T.mg_check_known (pa_cons (pv 0) (pa_cons (pv 1) pa_nil))))
      (pss_one (ps_ret (po_call (ok_first_of T) (hr.mono (by decide)) T.mg_first_of (pa_cons (po_call (ok_certificates T) (hr.mono (by decide)) T.mg_certificates (pa_cons (pv 0) (pa_cons (pv 1) pa_nil))) pa_nil)))))), ?_⟩
  refine ⟨_, rfl, l, rs, way, qs, rfl, hl, rows, L, fun H1 s1 => ?_⟩
  refine ⟨_, rfl, _, rfl, l, k, rs, way, qs, xs, rfl, s1 _ _ hl, rows.same s1, L, s1 _ _ hk, ixs, lx, sub, fun H2 s2 => ?_⟩
  have S2 := s1.trans s2
  refine ⟨_, rfl, _, rfl, l, k, rs, way, qs, xs, rfl, S2 _ _ hl, rows.same S2, L, S2 _ _ hk, ixs, lx, sub, fun D cs H3 s3 nD hD hC => ?_⟩
  refine ⟨D, cs, rfl, hD, ?_⟩
  have S3 := S2.trans s3
  unfold firstC at h1 h2
  generalize certsTo (frontB way qs) xs qs (knownL qs xs) (knownL qs xs).length = cc at hC h1 h2
  cases hC with
  | nil => exact h1 rfl H3 S3
  | cons e _ => exact h2 _ _ rfl _ H3 S3 e
theorem ok_reason (T : Txt K mg A) : OkX P w K mg base 6 A.f_reason ["log", "items"] (spReason A) := T.fn_reason.okX sc_reason (fun _ _ _ _ _ _ us hl => match us, hl with | [_, _], _ => rfl) len_reason (body_reason T)
theorem okS_reason (T : Txt K mg A) : OkXS P w K mg base 6 A.f_reason ["log", "items"] ["items", "log"] (spReason A) := T.fn_reason.okXS sc_reason (fun _ _ _ _ _ _ _ _ => rfl) len_reason (body_reason T)

end
end Own

set_option Elab.async false
set_option linter.all false
set_option maxRecDepth 100000
set_option maxHeartbeats 4000000
namespace Own
open PySem L2 ClX
local macro_rules | `(tactic| walk_at "v") => `(tactic| refine ⟨_, rfl, ?_⟩)
local macro_rules | `(tactic| walk_at "ii") => `(tactic| refine ⟨_, _, rfl, rfl, ?_⟩)
local macro_rules | `(tactic| walk_at "go") => `(tactic| repeat (first | refine ⟨_, rfl, ?_⟩ | refine ⟨_, _, rfl, rfl, ?_⟩ | refine addI ?_ | refine L2.iteT ?_ | refine L2.iteF ?_))

section
variable {P : Program} {w : World} {K : PySem.W.Frag} {mg : Str → Option Value} {base : Heap} {A : Ad}
/-! ### the law's own shifts and rooms -/
/-- pairs of an item and an index -/
inductive Prs (H : Hp) : List V → List (Str × Nat) → Prop where
  | nil : Prs H [] []
  | cons {t : Addr} {x : Str} {n : Nat} {vs : List V} {ps : List (Str × Nat)} (e : H t = some (.tup [.str x, .int n])) (r : Prs H vs ps) : Prs H (.ref t :: vs) ((x, n) :: ps)
theorem Prs.same {H H' : Hp} {vs : List V} {ps : List (Str × Nat)} (h : Prs H vs ps) (s : Same H H') : Prs H' vs ps := by
  induction h with
  | nil => exact .nil
  | cons e _ ih => exact .cons (s _ _ e) ih
theorem Prs.len {H : Hp} {vs : List V} {ps : List (Str × Nat)} (h : Prs H vs ps) : vs.length = ps.length := by
  induction h with
  | nil => rfl
  | cons _ _ ih => rw [List.length_cons, List.length_cons, ih]
theorem Prs.updL {H : Hp} {vs us : List V} {ps : List (Str × Nat)} {D : Addr} {o : HO} (h : Prs H vs ps) (hD : H D = some (.lst us)) : Prs (upd H D o) vs ps := by
  induction h with
  | nil => exact .nil
  | @cons t x n vs ps e _ ih =>
    refine .cons ?_ ih
    rw [upd_ne (fun z => by rw [z, hD] at e; cases e)]
    exact e
theorem Prs.snoc {H : Hp} {vs : List V} {ps : List (Str × Nat)} {t : Addr} {x : Str} {n : Nat} (h : Prs H vs ps) (e : H t = some (.tup [.str x, .int n])) : Prs H (vs ++ [.ref t]) (ps ++ [(x, n)]) := by
  induction h with
  | nil => exact .cons e .nil
  | cons e' _ ih => exact .cons e' ih
theorem Prs.get {H : Hp} {vs : List V} {ps : List (Str × Nat)} (h : Prs H vs ps) : ∀ {i : Nat} {v : V}, vs[i]? = some v → ∃ t x n, v = .ref t ∧ ps[i]? = some (x, n) ∧ H t = some (.tup [.str x, .int (n : Nat)]) := by
  induction h with
  | nil => intro i v e; cases e
  | cons e _ ih =>
    intro i v ev
    cases i with
    | zero => cases ev; exact ⟨_, _, _, rfl, rfl, e⟩
    | succ i => exact ih ev
def pairsQ (qs : List (Int × Str × Nat)) : List (Str × Nat) := qs.map fun q => (q.2.1, q.2.2)
theorem at_new {H : Hp} {a : Addr} {o : HO} (_ : Same H (upd H a o)) : upd H a o a = some o := upd_same
def spPairs (A : Ad) : Sp := fun vs H Q _ => ∃ (l : Addr) (rs : List V) (qs : List (Int × Str × Nat)), vs = [.ref l] ∧ H l = some (.lst rs) ∧ Rows A H rs qs ∧ qs.length ≤ 40 ∧
  ∀ (D : Addr) (ts : List V) (H' : Hp), Same H H' → H D = none → H' D = some (.lst ts) → Prs H' ts (pairsQ qs) → Q (.ref D) H'
theorem ok__law_pairs (T : Txt K mg A) : Ok1 P w K mg base 3 A.f__law_pairs ["notes"] (spPairs A) := by
  refine T.fn__law_pairs.ok sc__law_pairs (fun _ _ _ _ _ _ us hl => match us, hl with | [_], _ => rfl) (fun vs H Q E h => ?_) (fun cdv B up s H vs Q E hr h => ?_)
  · obtain ⟨l, rs, qs, rfl, _⟩ := h
    rfl
  · obtain ⟨l, rs, qs, rfl, hl, rows, lq, h⟩ := h
    refine ⟨_, (pss_one (ps_ret (pe_lcD (own := [("record", 1)]) rfl sc__law_pairs.nd (pi_list (pv 0)) (blkOk_by (N := N__law_pairs) (sc := defScope s__law_pairs) (by decide +kernel)) (fun _ _ _ _ _ => pg_name (i := 1) sc__law_pairs.nd rfl (Or.inl rfl)) (fun _ _ _ _ _ => pts_nil) (fun _ _ _ _ _ => (pe_tup (pa_cons (po_propD (p := A.p_Record_item) (ok_Record_item T) (hr.mono (by decide)) (pv 1)) (pa_cons (po_propD (p := A.p_Record_slot) (ok_Record_slot T) (hr.mono (by decide)) (pv 1)) pa_nil))))))), ?_⟩
    refine ⟨_, rfl, l, rfl, ⟨_, SqL.of hl⟩, fun D nD => ?_⟩
    have lr := rows.len
    refine lc_list (K := K) (a := l) (xs := rs) (fun i H' => Same H H' ∧ ∃ ts, H' D = some (.lst ts) ∧ Prs H' ts ((pairsQ qs).take i)) ?_ ?_ ?_ ?_
    · exact ⟨Same.new nD, [], upd_same, .nil⟩
    · rintro i H2 _ ⟨s2, _⟩
      exact SqL.of (s2 _ _ hl)
    · rintro i y H2 hy ⟨s2, ts, h2, p2⟩
      obtain ⟨p, dx, w, x, n, rfl, hq, he, w0, w1, hx⟩ := rows.get hy
      have he2 := s2 _ _ he
      have hi := (List.getElem?_eq_some_iff.mp hq).1
      have cl := (kd_of T w0 (by omega)).rc.cl
      have lp := p2.len
      rw [List.length_take] at lp
      refine ⟨rfl, _, rfl, p, _, dx, _, rfl, he2, cl, prop_item T w0 (by omega), p, dx, w, x, n, rfl, he2, w0, by omega, _, rfl, p, _, dx, _, rfl, he2, cl, prop_slot T w0 (by omega), p, dx, w, x, n, rfl, he2, w0, by omega, Nat.le_of_ble_eq_true rfl, fun t nt => ?_⟩
      have ut := Same.new (o := .tup [.str x, .int (n : Nat)]) nt
      have ht := ut _ _ h2
      refine ⟨ts, ht, Nat.lt_of_lt_of_le (show ts.length < 1000 by omega) (by decide), ?_, ts ++ [.ref t], upd_same, ?_⟩
      · intro c o eo
        rw [upd_ne (ne_of_none eo nD)]
        exact ut _ _ (s2 _ _ eo)
      · have ti : (pairsQ qs)[i]? = some (x, n) := by
          unfold pairsQ
          rw [List.getElem?_map, hq]
          rfl
        rw [List.take_add_one, ti]
        exact ((p2.same ut).snoc (at_new ut)).updL ht
    · rintro H2 ⟨s2, ts, h2, p2⟩
      have e : (pairsQ qs).take rs.length = pairsQ qs := List.take_of_length_le (by unfold pairsQ; rw [List.length_map]; omega)
      rw [e] at p2
      exact h D ts H2 s2 nD h2 p2
/-- an item, its shift and its room -/
inductive Trs (H : Hp) : List V → List (Str × Int × Int) → Prop where
  | nil : Trs H [] []
  | cons {t : Addr} {x : Str} {a b : Int} {vs : List V} {ps : List (Str × Int × Int)} (e : H t = some (.tup [.str x, .int a, .int b])) (r : Trs H vs ps) : Trs H (.ref t :: vs) ((x, a, b) :: ps)
theorem Trs.same {H H' : Hp} {vs : List V} {ps : List (Str × Int × Int)} (h : Trs H vs ps) (s : Same H H') : Trs H' vs ps := by
  induction h with
  | nil => exact .nil
  | cons e _ ih => exact .cons (s _ _ e) ih
theorem Trs.len {H : Hp} {vs : List V} {ps : List (Str × Int × Int)} (h : Trs H vs ps) : vs.length = ps.length := by
  induction h with
  | nil => rfl
  | cons _ _ ih => rw [List.length_cons, List.length_cons, ih]
theorem Trs.updL {H : Hp} {vs us : List V} {ps : List (Str × Int × Int)} {D : Addr} {o : HO} (h : Trs H vs ps) (hD : H D = some (.lst us)) : Trs (upd H D o) vs ps := by
  induction h with
  | nil => exact .nil
  | @cons t x a b vs ps e _ ih =>
    refine .cons ?_ ih
    rw [upd_ne (fun z => by rw [z, hD] at e; cases e)]
    exact e
theorem Trs.snoc {H : Hp} {vs : List V} {ps : List (Str × Int × Int)} {t : Addr} {x : Str} {a b : Int} (h : Trs H vs ps) (e : H t = some (.tup [.str x, .int a, .int b])) : Trs H (vs ++ [.ref t]) (ps ++ [(x, a, b)]) := by
  induction h with
  | nil => exact .cons e .nil
  | cons e' _ ih => exact .cons e' ih
theorem Trs.get {H : Hp} {vs : List V} {ps : List (Str × Int × Int)} (h : Trs H vs ps) : ∀ {i : Nat} {v : V}, vs[i]? = some v → ∃ t x a b, v = .ref t ∧ ps[i]? = some (x, a, b) ∧ H t = some (.tup [.str x, .int a, .int b]) := by
  induction h with
  | nil => intro i v e; cases e
  | cons e _ ih =>
    intro i v ev
    cases i with
    | zero => cases ev; exact ⟨_, _, _, _, rfl, rfl, e⟩
    | succ i => exact ih ev
/-- the first certificate of such a list -/
theorem merge_new : ∀ {kvs acc : List (Key × V)}, (acc.map (·.1) ++ kvs.map (·.1)).Nodup → mergeK acc kvs = acc ++ kvs
  | [], acc, _ => (List.append_nil acc).symm
  | (k, v) :: kvs, acc, nd => by
    have kn : k ∉ acc.map (·.1) := fun z => by
      have := (List.nodup_append.mp nd).2.2 k z k List.mem_cons_self
      exact this rfl
    show mergeK (putK acc k v) kvs = _
    rw [putK_new kn]
    rw [merge_new (acc := acc ++ [(k, v)]) (by rw [List.map_append, List.append_assoc]; exact nd), List.append_assoc]
    rfl
def slotsQ (qs : List (Int × Str × Nat)) : List (Key × V) := (pairsQ qs).map fun p => (Sum.inr p.1, V.int (p.2 : Nat))
theorem slots_keys (qs : List (Int × Str × Nat)) : (slotsQ qs).map (·.1) = (names qs).map Sum.inr := by
  unfold slotsQ pairsQ names
  rw [List.map_map, List.map_map, List.map_map]
  rfl
theorem slots_merge {qs : List (Int × Str × Nat)} (nd : (names qs).Nodup) : mergeK [] (slotsQ qs) = slotsQ qs := by
  rw [merge_new]
  · rfl
  · show ((slotsQ qs).map (·.1)).Nodup
    rw [slots_keys, List.nodup_iff_pairwise_ne, List.pairwise_map]
    exact List.Pairwise.imp (fun ne e => ne (Sum.inr.inj e)) (List.nodup_iff_pairwise_ne.mp nd)
theorem slots_val (qs : List (Int × Str × Nat)) (x : Str) : valV (slotsQ qs) (Sum.inr x) = if x ∈ names qs then some (.int (slotOf qs x : Nat)) else none := by
  unfold valV slotsQ pairsQ
  rw [List.map_map, List.find?_map]
  have ef : (fun kv : Key × V => decide (kv.1 = Sum.inr x)) ∘ ((fun p : Str × Nat => ((Sum.inr p.1 : Key), V.int (p.2 : Nat))) ∘ fun q : Int × Str × Nat => (q.2.1, q.2.2)) = fun q : Int × Str × Nat => decide (q.2.1 = x) := by
    funext r
    show decide ((Sum.inr r.2.1 : Key) = Sum.inr x) = _
    exact decide_eq_decide.mpr ⟨fun z => Sum.inr.inj z, fun z => by rw [z]⟩
  rw [ef]
  unfold slotOf
  cases e : qs.find? (fun q : Int × Str × Nat => decide (q.2.1 = x)) with
  | none =>
    rw [if_neg]
    · rfl
    · intro z
      obtain ⟨q, hq, eq⟩ := List.mem_map.mp z
      have := List.find?_eq_none.mp e q hq
      exact this (decide_eq_true eq)
  | some r =>
    have e2 : r.2.1 = x := of_decide_eq_true (show decide (r.2.1 = x) = true from List.find?_some (p := fun q : Int × Str × Nat => decide (q.2.1 = x)) e)
    have mem : x ∈ names qs := List.mem_map.mpr ⟨r, List.mem_of_find?_eq_some e, e2⟩
    rw [if_pos mem]
    rfl
theorem Prs.pairs {H : Hp} {vs : List V} {ps : List (Str × Nat)} (h : Prs H vs ps) : ∃ as : List Addr, vs = as.map V.ref ∧ Paired (fun (p : Addr) (kv : Key × V) => SqT K H p [kV kv.1, kv.2]) as (ps.map fun p => ((Sum.inr p.1 : Key), V.int (p.2 : Nat))) := by
  induction h with
  | nil => exact ⟨[], rfl, .nil⟩
  | cons e _ ih =>
    obtain ⟨as, rfl, pr⟩ := ih
    exact ⟨_ :: as, rfl, .cons (SqT.of e) pr⟩
def sidesQ (fr : Bool) (xs : List Str) (qs : List (Int × Str × Nat)) (ks : List Str) : List (Str × Int × Int) := (List.range ks.length).map fun b => (ks.getD b Str.empty, shiftOf fr xs qs (ks.getD b Str.empty), roomV fr ks.length b)

end
end Own

set_option Elab.async false
set_option linter.all false
set_option maxRecDepth 100000
set_option maxHeartbeats 4000000
namespace Own
open PySem L2 ClX
local macro_rules | `(tactic| walk_at "v") => `(tactic| refine ⟨_, rfl, ?_⟩)
local macro_rules | `(tactic| walk_at "ii") => `(tactic| refine ⟨_, _, rfl, rfl, ?_⟩)
local macro_rules | `(tactic| walk_at "go") => `(tactic| repeat (first | refine ⟨_, rfl, ?_⟩ | refine ⟨_, _, rfl, rfl, ?_⟩ | refine addI ?_ | refine L2.iteT ?_ | refine L2.iteF ?_))

section
variable {P : Program} {w : World} {K : PySem.W.Frag} {mg : Str → Option Value} {base : Heap} {A : Ad}
theorem sides_len {fr : Bool} {xs : List Str} {qs : List (Int × Str × Nat)} {ks : List Str} : (sidesQ fr xs qs ks).length = ks.length := by unfold sidesQ; rw [List.length_map, List.length_range]
theorem sides_take {fr : Bool} {xs : List Str} {qs : List (Int × Str × Nat)} {ks : List Str} {i : Nat} (h : i < ks.length) : (sidesQ fr xs qs ks).take (i + 1) = (sidesQ fr xs qs ks).take i ++ [(ks[i], shiftOf fr xs qs ks[i], roomV fr ks.length i)] := by
  have e : (sidesQ fr xs qs ks)[i]? = some (ks[i], shiftOf fr xs qs ks[i], roomV fr ks.length i) := by
    unfold sidesQ
    rw [List.getElem?_map, List.getElem?_range h]
    show some (ks.getD i Str.empty, _, _) = _
    rw [getD_at h]
  rw [List.take_add_one, e]
  rfl
def spSides : Sp := fun vs H Q _ => ∃ (way : Int) (pl k : Addr) (ts : List V) (qs : List (Int × Str × Nat)) (xs : List Str), vs = [.int way, .ref pl, .ref k] ∧ H pl = some (.lst ts) ∧ Prs H ts (pairsQ qs) ∧ (names qs).Nodup ∧ qs.length ≤ 40 ∧ 0 ≤ way ∧ way ≤ 2 ∧ H k = some (.lst (xs.map V.str)) ∧ Items xs ∧ xs.length ≤ 60 ∧
  ∀ (D : Addr) (us : List V) (H' : Hp), Same H H' → H' D = some (.lst us) → Trs H' us (sidesQ (decide (way = 2)) xs qs (knownL qs xs)) → Q (.ref D) H'
theorem ok__law_sides (T : Txt K mg A) : Ok1 P w K mg base 1 A.f__law_sides ["kind", "pairs", "known"] spSides := by
  refine T.fn__law_sides.ok sc__law_sides (fun _ _ _ _ _ _ us hl => match us, hl with | [_, _, _], _ => rfl) (fun vs H Q E h => ?_) (fun cdv B up s H vs Q E hr h => ?_)
  · obtain ⟨way, pl, k, ts, qs, xs, rfl, _⟩ := h
    rfl
  · obtain ⟨way, pl, k, ts, qs, xs, rfl, hp, prs, nd, lq, w0, w1, hk, ixs, lx, h⟩ := h
    refine ⟨_, (pss_cons (ps_asg (pe_tup (pa_cons (pe_callTy (call_dictP rfl) (by rfl) T.no_dict (by decide +kernel) (pa_cons (pv 1) pa_nil)) (pa_cons (pe_lst pa_nil) pa_nil))) (pg_tup (by rfl) (pgs_cons (pg_name (i := 3) sc__law_sides.nd rfl (Or.inr rfl)) (pgs_cons (pg_name (i := 4) sc__law_sides.nd rfl (Or.inl rfl)) pgs_nil))))
      (pss_cons (ps_setLcD (i := 5) (own := [("name", 7)]) rfl sc__law_sides.nd rfl rfl (sw_true rfl rfl rfl (by decide +kernel)) (pi_list (pv 2)) (blkOk_by (N := N__law_sides) (sc := defScope s__law_sides) (by decide +kernel)) (fun _ _ _ _ _ => pg_name (i := 7) sc__law_sides.nd rfl (Or.inl rfl)) (fun _ _ _ _ _ => (pts_one (pt_cmp (pc_din (Nat.lt_of_le_of_lt (Nat.add_le_add_left (show 1 ≤ 64 by decide) _) hr.units) (pv 7) (pv 3))))) (fun _ _ _ _ _ => (pv 7)))
      (pss_cons (ps_for PassesOwn.never rfl (pi_enum (by rfl) T.no_enumerate (pa_cons (pv 5) pa_nil)) (pg_tup (by rfl) (pgs_cons (pg_name (i := 6) sc__law_sides.nd rfl (Or.inl rfl)) (pgs_cons (pg_name (i := 7) sc__law_sides.nd rfl (Or.inl rfl)) pgs_nil)))
      (pss_cons (ps_set (i := 8) sc__law_sides.nd rfl (Or.inl rfl) (pe_bm PySem.F.plainAttrs_list PySem.F.slot_list_index PySem.F.type_list_index mt_index (pv 2) (pa_cons (pv 7) pa_nil)))
      (pss_one (ps_if (pt_cmpR op_lt (pv 0) pe_int (nomark _)) (pss_one (ps_expr (pe_bm PySem.F.plainAttrs_list PySem.F.slot_list_append PySem.F.type_list_append mt_append (pv 4) (pa_cons (pe_tup (pa_cons (pv 7) (pa_cons (pe_op op_sub (pv 8) (pe_dget (Nat.lt_of_le_of_lt (Nat.add_le_add_left (show 1 ≤ 64 by decide) _) hr.units) (pv 3) (pv 7) (fun _ _ => rfl))) (pa_cons (pv 6) pa_nil)))) pa_nil)))) (pss_one (ps_expr (pe_bm PySem.F.plainAttrs_list PySem.F.slot_list_append PySem.F.type_list_append mt_append (pv 4) (pa_cons (pe_tup (pa_cons (pv 7) (pa_cons (pe_op op_sub (pe_dget (Nat.lt_of_le_of_lt (Nat.add_le_add_left (show 1 ≤ 64 by decide) _) hr.units) (pv 3) (pv 7) (fun _ _ => rfl)) (pv 8)) (pa_cons (pe_op op_sub (pe_op op_sub (pe_callB call_len (by rfl) T.no_len (by decide +kernel) (pa_cons (pv 5) pa_nil)) pe_int) (pv 6)) pa_nil)))) pa_nil))))))))
      (pss_one (ps_ret (pv 4)))))), ?_⟩
    obtain ⟨as, eas, pa⟩ := prs.pairs
    refine ⟨_, rfl, pl, as, slotsQ qs, rfl, SqL.of (by rw [hp, eas]), pa, fun S nS => ?_⟩
    rw [slots_merge nd]
    have u1 := Same.new (o := .dK (slotsQ qs)) nS
    refine ⟨Nat.zero_le _, fun F nF => ?_⟩
    have u2 := Same.new (o := .lst []) nF
    have FS : S ≠ F := ne_of_none (at_new u1) nF
    have F0 : H F = none := none_same u1 nF
    refine ⟨Nat.le_of_ble_eq_true rfl, fun tt ntt => ⟨tt, _, rfl, SqT.of upd_same, rfl, _, _, rfl, _, _, rfl, rfl, ?_⟩⟩
    have u3 := Same.new (o := .tup [.ref S, .ref F]) ntt
    have hS3 := u3 _ _ (u2 _ _ (at_new u1))
    have hF3 := u3 _ _ (at_new u2)
    have S3 := u1.trans (u2.trans u3)
    generalize upd (upd (upd H S (.dK (slotsQ qs))) F (.lst [])) tt (.tup [.ref S, .ref F]) = H3 at hS3 hF3 S3 ⊢
    clear u1 u2 u3 nS nF ntt pa eas
    refine ⟨_, rfl, k, rfl, ⟨_, SqL.of (S3 _ _ hk)⟩, fun M nM => ?_⟩
    have MF : F ≠ M := ne_of_none hF3 nM
    refine lc_list (K := K) (a := k) (xs := xs.map V.str) (fun i H' => Same H3 H' ∧ H' M = some (.lst ((knownL qs (xs.take i)).map V.str))) ?_ ?_ ?_ ?_
    · exact ⟨Same.new nM, upd_same⟩
    · rintro i H4 _ ⟨s4, _⟩
      exact SqL.of (s4 _ _ (S3 _ _ hk))
    · rintro i y H4 hy ⟨s4, h4⟩
      rw [List.getElem?_map] at hy
      cases ex : xs[i]? with
      | none => rw [ex] at hy; cases hy
      | some x =>
        rw [ex] at hy
        cases hy
        have hi := (List.getElem?_eq_some_iff.mp ex).1
        have e9 : xs.take (i + 1) = xs.take i ++ [x] := by
          rw [List.take_add_one, ex]
          rfl
        refine ⟨rfl, _, rfl, _, rfl, S, _, rfl, DGet.k (k := Sum.inr x) (s4 _ _ hS3), _, rfl, ?_⟩
        rw [slots_val]
        by_cases mem : x ∈ names qs
        · rw [if_pos mem]
          refine iteT ⟨_, rfl, _, h4, ?_, ?_, ?_⟩
          · rw [List.length_map]
            exact Nat.lt_of_le_of_lt (List.length_filter_le _ _) (Nat.lt_of_le_of_lt (List.length_take_le _ _) (Nat.lt_of_lt_of_le (show i < 1000 by omega) (by decide)))
          · intro c o eo
            rw [upd_ne (ne_of_none eo nM)]
            exact s4 _ _ eo
          · unfold knownL
            rw [upd_same, e9, List.filter_append, List.filter_cons_of_pos (by simp [mem]), List.filter_nil, List.map_append]
            rfl
        · rw [if_neg mem]
          refine iteF ⟨s4, ?_⟩
          rw [h4, e9]
          unfold knownL
          rw [List.filter_append, List.filter_cons_of_neg (by simp [mem]), List.filter_nil, List.append_nil]
    · rintro H4 ⟨s4, h4⟩
      have lm : (xs.map V.str).length = xs.length := List.length_map ..
      rw [lm, List.take_length] at h4
      have S4 := S3.trans s4
      have hS4 := s4 _ _ hS3
      have hF4 := s4 _ _ hF3
      clear hS3 hF3 s4 nM S3
      have inn : ∀ x ∈ knownL qs xs, x ∈ names qs ∧ x ∈ xs := fun x hx => ⟨of_decide_eq_true (List.mem_filter.mp hx).2, (List.mem_filter.mp hx).1⟩
      have lk : (knownL qs xs).length ≤ 60 := Nat.le_trans (List.length_filter_le _ _) lx
      generalize knownL qs xs = ks at *
      refine ⟨_, rfl, M, _, rfl, SqL.of h4, for_it (walk_enum (xs := ks.map V.str)) (fun i σ H' => ∃ (a6 a7 a8 : Option V) (us : List V), σ = [some (.int way), some (.ref pl), some (.ref k), some (.ref S), some (.ref F), some (.ref M), a6, a7, a8] ∧ Same H H' ∧ H' S = some (.dK (slotsQ qs)) ∧ H' M = some (.lst (ks.map V.str)) ∧ H' F = some (.lst us) ∧ Trs H' us ((sidesQ (decide (way = 2)) xs qs ks).take i))
        ⟨_, _, _, [], rfl, S4, hS4, h4, hF4, by rw [List.take_zero]; exact .nil⟩ ?_ ?_ ?_⟩
      · rintro i σ H5 _ ⟨a6, a7, a8, us, rfl, _, _, h5, _⟩
        exact SqL.of h5
      · rintro i y σ H5 H6 hi ⟨a6, a7, a8, us, rfl, s5, hS5, hM5, hF5, t5⟩ ⟨tp, x1, y1, rfl, ntp, rfl, ex, ey⟩
        obtain rfl := Option.some.inj ex
        rw [List.length_map] at hi
        have ey : (ks.map V.str)[i]? = some y1 := ey
        rw [List.getElem?_map, List.getElem?_eq_getElem hi] at ey
        obtain rfl := Option.some.inj ey
        have u6 := Same.new (o := .tup [.int (i : Nat), .str ks[i]]) ntp
        obtain ⟨mem, memx⟩ := inn ks[i] (List.getElem_mem hi)
        obtain ⟨i1, i2, i3⟩ := ix_at memx
        refine ⟨tp, _, rfl, SqT.of upd_same, rfl, _, _, rfl, _, _, rfl, rfl, ?_⟩
        have hS6 := u6 _ _ hS5
        have hM6 := u6 _ _ hM5
        have hF6 := u6 _ _ hF5
        have s6 := s5.trans u6
        have t6 := t5.same u6
        have lt := t6.len
        rw [List.length_take, sides_len] at lt
        have st := sides_take (fr := decide (way = 2)) (xs := xs) (qs := qs) hi
        generalize upd H5 tp (.tup [.int (i : Nat), .str ks[i]]) = H6 at hS6 hM6 hF6 s6 t6 ⊢
        clear u6 ntp hS5 hM5 hF5 s5 t5
        have sv := slots_val qs ks[i]
        rw [if_pos mem] at sv
        have dg : ∀ {Hx : Hp}, Hx S = some (.dK (slotsQ qs)) → DGet Hx S (.str ks[i]) (some (.int (slotOf qs ks[i] : Nat))) := fun e => sv ▸ DGet.k (k := Sum.inr ks[i]) e
        refine ⟨_, rfl, .inl ⟨rfl, _, SqL.of (s6 _ _ hk)⟩, _, rfl, k, _, _, ix xs ks[i], _, rfl, rfl, SqL.of (s6 _ _ hk), rfl, flatS xs, ?_, (show eqV (.str ks[i]) (.str ks[i]) = true from beq_self_eq_true ks[i]), ?_, ?_⟩
        · rw [List.getElem?_map, i2]
          rfl
        · intro m z' hm hz
          rw [List.getElem?_map] at hz
          cases q : xs[m]? with
          | none => rw [q] at hz; cases hz
          | some z =>
            rw [q] at hz
            cases hz
            exact beq_false_of_ne (i3 m z hm q)
        have fin : ∀ (t : Addr) (a b : Int), H6 t = none → a = shiftOf (decide (way = 2)) xs qs ks[i] → b = roomV (decide (way = 2)) ks.length i → ∀ a8 : Option V, ∃ (a6 a7 a8' : Option V) (us' : List V), [some (.int way), some (.ref pl), some (.ref k), some (.ref S), some (.ref F), some (.ref M), some (.int (i : Nat)), some (V.str ks[i]), a8] = [some (.int way), some (.ref pl), some (.ref k), some (.ref S), some (.ref F), some (.ref M), a6, a7, a8'] ∧
            Same H (upd (upd H6 t (.tup [.str ks[i], .int a, .int b])) F (.lst (us ++ [.ref t]))) ∧ upd (upd H6 t (.tup [.str ks[i], .int a, .int b])) F (.lst (us ++ [.ref t])) S = some (.dK (slotsQ qs)) ∧ upd (upd H6 t (.tup [.str ks[i], .int a, .int b])) F (.lst (us ++ [.ref t])) M = some (.lst (ks.map V.str)) ∧
              upd (upd H6 t (.tup [.str ks[i], .int a, .int b])) F (.lst (us ++ [.ref t])) F = some (.lst us') ∧ Trs (upd (upd H6 t (.tup [.str ks[i], .int a, .int b])) F (.lst (us ++ [.ref t]))) us' ((sidesQ (decide (way = 2)) xs qs ks).take (i + 1)) := by
          intro t a b nt ea eb a8
          have ut := Same.new (o := .tup [.str ks[i], .int a, .int b]) nt
          refine ⟨_, _, _, _, rfl, fun c o eo => ?_, ?_, ?_, upd_same, ?_⟩
          · rw [upd_ne (ne_of_none eo F0)]
            exact ut _ _ (s6 _ _ eo)
          · rw [upd_ne FS]
            exact ut _ _ hS6
          · rw [upd_ne MF.symm]
            exact ut _ _ hM6
          · rw [st, ← ea, ← eb]
            exact ((t6.same ut).snoc upd_same).updL (ut _ _ hF6)
        refine ⟨_, rfl, _, _, rfl, rfl, _, rfl, ?_⟩
        by_cases w2 : way < 2
        · rw [decide_eq_true w2]
          have ed : decide (way = 2) = false := decide_eq_false (by omega)
          refine iteT ⟨_, rfl, .inl ⟨rfl, _, SqL.of hF6⟩, _, rfl, _, rfl, _, rfl, _, rfl, S, _, rfl, dg hS6, _, _, rfl, rfl, _, rfl, Nat.le_of_ble_eq_true rfl, fun t nt => ⟨F, _, _, rfl, rfl, (Same.new nt) _ _ hF6, Nat.lt_of_lt_of_le (show us.length < 1000 by omega) (by decide), ?_⟩⟩
          exact fin t _ _ nt (by rw [ed]; rfl) (by rw [ed]; rfl) _
        · rw [decide_eq_false w2]
          have ed : decide (way = 2) = true := decide_eq_true (by omega)
          refine iteF ⟨_, rfl, .inl ⟨rfl, _, SqL.of hF6⟩, _, rfl, _, rfl, _, rfl, S, _, rfl, dg hS6, _, rfl, _, _, rfl, rfl, _, rfl, _, _, rfl, .inl ⟨_, SqL.of hM6, rfl⟩, _, _, rfl, rfl, _, rfl, _, _, rfl, rfl, Nat.le_of_ble_eq_true rfl, fun t nt => ⟨F, _, _, rfl, rfl, (Same.new nt) _ _ hF6, Nat.lt_of_lt_of_le (show us.length < 1000 by omega) (by decide), ?_⟩⟩
          exact fin t _ _ nt (by rw [ed]; rfl) (by rw [ed, List.length_map]; rfl) _
      · rintro σ H5 ⟨a6, a7, a8, us, rfl, s5, _, _, hF5, t5⟩
        have e : (sidesQ (decide (way = 2)) xs qs ks).take (ks.map V.str).length = sidesQ (decide (way = 2)) xs qs ks := List.take_of_length_le (by rw [sides_len, List.length_map]; exact Nat.le_refl _)
        rw [e] at t5
        exact ⟨_, rfl, h F us H5 s5 hF5 t5⟩

end
end Own

set_option Elab.async false
set_option linter.all false
set_option maxRecDepth 100000
set_option maxHeartbeats 4000000
namespace Own
open PySem L2 ClX
local macro_rules | `(tactic| walk_at "v") => `(tactic| refine ⟨_, rfl, ?_⟩)
local macro_rules | `(tactic| walk_at "ii") => `(tactic| refine ⟨_, _, rfl, rfl, ?_⟩)
local macro_rules | `(tactic| walk_at "go") => `(tactic| repeat (first | refine ⟨_, rfl, ?_⟩ | refine ⟨_, _, rfl, rfl, ?_⟩ | refine addI ?_ | refine L2.iteT ?_ | refine L2.iteF ?_))

section
variable {P : Program} {w : World} {K : PySem.W.Frag} {mg : Str → Option Value} {base : Heap} {A : Ad}
/-! ### the law's words -/
theorem SrcAt.ne {H : Hp} {p q : Addr} {n : Int} (s : SrcAt H p n) (h : H q = none) : q ≠ p := fun e => by
  obtain ⟨g, m', c, z, _⟩ := s
  rw [e, z] at h
  cases h
def ws0 : List Str := ["a", "aa", "aaa", "aaaaaaaa", "zzzzzzzz", "low", "high", "order", "inserted", "none", "x", "y"]
def sgs : Str := "bcdefghijklm"
def w4 (c : Str) : List Str := [c, c ++ "a", "a" ++ c, c ++ "zzzzzzz"]
def wsAt (i : Nat) : List Str := ws0 ++ ((List.range i).map fun j => w4 ⟨#[sgs.cps.getD j 0]⟩).flatten
theorem wsAt_succ (i : Nat) : wsAt (i + 1) = wsAt i ++ w4 ⟨#[sgs.cps.getD i 0]⟩ := by
  unfold wsAt
  rw [List.range_succ, List.map_append, List.flatten_append, List.append_assoc, List.map_cons, List.map_nil, List.flatten_cons, List.flatten_nil, List.append_nil]
theorem ws_items : Items (wsAt 12) := ⟨List.all_eq_true.mp (by decide +kernel : (wsAt 12).all isItem = true), by decide +kernel⟩
theorem ws_len : (wsAt 12).length = 60 := by decide +kernel
theorem wsAt_len (i : Nat) : (wsAt i).length = 12 + 4 * i := by
  induction i with
  | zero => rfl
  | succ i ih =>
    rw [wsAt_succ, List.length_append, ih]
    show 12 + 4 * i + 4 = _
    omega
def spWords : Sp := fun vs H Q _ => ∃ (p : Addr) (n : Int) (size : Nat), vs = [.ref p, .int size] ∧ SrcAt H p n ∧ n < 2 ^ 50 ∧ size ≤ 60 ∧
  ∀ (D : Addr) (ys : List Str) (H' : Hp), Items ys → ys.length = size → But p H H' → SrcAt H' p (n + size) → H D = none → H' D = some (.lst (ys.map V.str)) → Q (.ref D) H'
theorem ok__law_words (T : Txt K mg A) : Ok1 P w K mg base 2 A.f__law_words ["source", "size"] spWords := by
  refine T.fn__law_words.ok sc__law_words (fun _ _ _ _ _ _ us hl => match us, hl with | [_, _], _ => rfl) (fun vs H Q E h => ?_) (fun cdv B up s H vs Q E hr h => ?_)
  · obtain ⟨p, n, size, rfl, _⟩ := h
    rfl
  · obtain ⟨p, n, size, rfl, hs, hn, hz, h⟩ := h
    refine ⟨_, (pss_cons (ps_set (i := 2) sc__law_words.nd rfl (Or.inr rfl) (pe_lst (pa_cons pe_str (pa_cons pe_str (pa_cons pe_str (pa_cons pe_str (pa_cons pe_str (pa_cons pe_str (pa_cons pe_str (pa_cons pe_str (pa_cons pe_str (pa_cons pe_str (pa_cons pe_str (pa_cons pe_str pa_nil))))))))))))))
      (pss_cons (ps_for PassesOwn.never rfl (pi_str pe_str) (pg_name (i := 3) sc__law_words.nd rfl (Or.inl rfl))
      (pss_one (ps_set (i := 2) sc__law_words.nd rfl (Or.inr rfl) (pe_op op_addX (pv 2) (pe_lst (pa_cons (pv 3) (pa_cons (pe_op op_addX (pv 3) pe_str) (pa_cons (pe_op op_addX pe_str (pv 3)) (pa_cons (pe_op op_addX (pv 3) pe_str) pa_nil)))))))))
      (pss_one (ps_ret (pe_lcD (own := [("k", 4)]) rfl sc__law_words.nd (pi_range1 rfl T.no_range (pa_cons (pv 1) pa_nil)) (blkOk_by (N := N__law_words) (sc := defScope s__law_words) (by decide +kernel)) (fun _ _ _ _ _ => pg_name (i := 4) sc__law_words.nd rfl (Or.inl rfl)) (fun _ _ _ _ _ => pts_nil) (fun _ _ _ _ _ => (pe_bm PySem.F.plainAttrs_list PySem.F.slot_list_pop PySem.F.type_list_pop mt_popAt (pv 2) (pa_cons (po_call (ok__law_pick T) (hr.mono (by decide)) T.mg__law_pick (pa_cons (pv 0) (pa_cons (pe_callB call_len (by rfl) T.no_len (by decide +kernel) (pa_cons (pv 2) pa_nil)) pa_nil))) pa_nil)))))))), ?_⟩
    refine ⟨Nat.le_of_ble_eq_true rfl, fun l0 n0 => ?_⟩
    refine ⟨_, rfl, for_it (walk_str (z := sgs)) (fun i σ H' => ∃ (l : Addr) (a3 : Option V), σ = [some (.ref p), some (.int size), some (.ref l), a3, none] ∧ Same H H' ∧ H l = none ∧ H' l = some (.lst ((wsAt i).map V.str)))
      ⟨l0, _, rfl, Same.new n0, n0, upd_same⟩ ?_ ?_ ?_⟩
    · rintro i σ H1 _ _
      trivial
    · rintro i y σ H1 H2 hi ⟨l, a3, rfl, s1, nl, h1⟩ ⟨rfl, c, ec, rfl⟩
      have ec2 : sgs.cps.getD i 0 = c := by
        rw [Array.getD_eq_getD_getElem?, ec]
        rfl
      refine ⟨_, rfl, _, rfl, _, rfl, addS ?_ ⟨_, rfl, addS ?_ ⟨_, rfl, addS ?_ ⟨Nat.le_of_ble_eq_true rfl, fun b nb => ?_⟩⟩⟩⟩
      · exact Nat.le_of_ble_eq_true rfl
      · exact Nat.le_of_ble_eq_true rfl
      · exact Nat.le_of_ble_eq_true rfl
      have u1 := Same.new (o := .lst ((w4 ⟨#[c]⟩).map V.str)) nb
      refine addL (u1 _ _ h1) upd_same ?_ fun l2 n2 => ?_
      · rw [List.length_map, wsAt_len]
        show 12 + 4 * i + 4 ≤ _
        have : i < 12 := hi
        omega
      have S := s1.trans u1
      refine ⟨l2, _, rfl, S.trans (Same.new n2), none_same S n2, ?_⟩
      rw [upd_same, wsAt_succ, ec2, List.map_append]
      rfl
    · rintro σ H1 ⟨l, a3, rfl, s1, nl, hl⟩
      have hl : H1 l = some (.lst ((wsAt 12).map V.str)) := hl
      have wi := ws_items
      have wl := ws_len
      generalize wsAt 12 = xs at hl wi wl
      have lp : l ≠ p := SrcAt.ne hs nl
      refine ⟨_, rfl, _, rfl, by omega, by omega, fun D nD => ?_⟩
      have Dl : D ≠ l := fun e => by
        rw [e, hl] at nD
        cases nD
      have nD0 : H D = none := none_same s1 nD
      have Dp : D ≠ p := SrcAt.ne hs nD0
      have hs1 := SrcAt.same hs s1
      refine lc_range (fun i H' => ∃ done rest : List Str, (done ++ rest).Perm xs ∧ done.length = i ∧ H' l = some (.lst (rest.map V.str)) ∧ H' D = some (.lst (done.map V.str)) ∧ SrcAt H' p (n + i) ∧ But p H H') ?_ ?_ ?_
      · refine ⟨[], xs, List.Perm.refl _, rfl, ?_, upd_same, ?_, ?_⟩
        · rw [upd_ne (fun e => Dl e.symm), hl]
        · have z := hs1.same (Same.new (o := .lst []) nD)
          have e : n + ((0 : Nat) : Int) = n := by omega
          rw [e]
          exact z
        · exact But.same (s1.trans (Same.new nD))
      · rintro i H1 hi ⟨done, rest, pm, dl, h1, h2, h3, h4⟩
        have hlen : rest.length = 60 - i := by
          have := pm.length_eq
          rw [List.length_append] at this
          omega
        refine ⟨rfl, _, rfl, .inl ⟨rfl, _, SqL.of h1⟩, _, rfl, _, rfl, _, _, rfl, .inl ⟨_, SqL.of h1, rfl⟩, p, _, n + i, rfl, ?_, ?_, h3, by omega, fun r0 H3 g0 g1 g2 g3 => ?_⟩
        · rw [List.length_map]
          omega
        · rw [List.length_map]
          omega
        rw [List.length_map] at g1
        have k1 : r0.toNat < rest.length := by omega
        refine ⟨l, _, r0, r0.toNat, .str (rest[r0.toNat]), rfl, rfl, g3 _ _ h1 lp, by omega, by omega, ?_, ?_, done.map V.str, ?_, ?_, done ++ [rest[r0.toNat]], rest.eraseIdx r0.toNat, (perm_out done rest _ k1).trans pm, ?_, ?_, ?_, ?_, ?_⟩
        · rw [List.length_map]
          exact seqIx g0 g1
        · rw [List.getElem?_map, List.getElem?_eq_getElem k1]
          rfl
        · rw [upd_ne Dl]
          exact g3 _ _ h2 Dp
        · rw [List.length_map, dl]
          exact Nat.lt_of_lt_of_le (show i < 1000 by omega) (by decide)
        · rw [List.length_append, dl]
          rfl
        · rw [upd_ne (fun e => Dl e.symm), upd_same, map_eraseIdx]
        · rw [upd_same, List.map_append]
          rfl
        · have z : n + ((i + 1 : Nat) : Int) = n + i + 1 := by omega
          rw [z]
          obtain ⟨g, m, c, e, r⟩ := g2
          exact ⟨g, m, c, by rw [upd_ne (fun e => Dp e.symm), upd_ne (fun e => lp e.symm)]; exact e, r⟩
        · intro b o hb nb
          rw [upd_ne (ne_of_none hb nD0), upd_ne (ne_of_none hb nl)]
          exact g3 _ _ (h4 b o hb nb) nb
      · rintro H2 ⟨done, rest, pm, dl, h1, h2, h3, h4⟩
        rw [Int.toNat_natCast] at dl h3
        refine h D done H2 ?_ dl h4 h3 nD0 h2
        have wp := wi.perm pm
        exact ⟨fun x hx => wp.it x (List.mem_append_left _ hx), (List.nodup_append.mp wp.nd).1⟩

end
end Own

set_option Elab.async false
set_option linter.all false
set_option maxRecDepth 100000
set_option maxHeartbeats 4000000
namespace Own
open PySem L2 ClX
local macro_rules | `(tactic| walk_at "v") => `(tactic| refine ⟨_, rfl, ?_⟩)
local macro_rules | `(tactic| walk_at "ii") => `(tactic| refine ⟨_, _, rfl, rfl, ?_⟩)
local macro_rules | `(tactic| walk_at "go") => `(tactic| repeat (first | refine ⟨_, rfl, ?_⟩ | refine ⟨_, _, rfl, rfl, ?_⟩ | refine addI ?_ | refine L2.iteT ?_ | refine L2.iteF ?_))

section
variable {P : Program} {w : World} {K : PySem.W.Frag} {mg : Str → Option Value} {base : Heap} {A : Ad}
/-! ### the list after a record that fits -/
def playK (kind : Int) (x : Str) (n : Nat) (xs : List Str) : List Str := if kind = 0 then xs.take n ++ [x] ++ xs.drop n else if kind = 1 then xs.take n ++ xs.drop (n + 1) else [x] ++ (xs.take n ++ xs.drop (n + 1))
def spPlayed : Sp := fun vs H Q _ => ∃ (kind : Int) (l : Addr) (xs : List Str) (x : Str) (n : Nat), vs = [.int kind, .ref l, .str x, .int n] ∧ H l = some (.lst (xs.map V.str)) ∧ xs.length ≤ 60 ∧ 0 ≤ kind ∧ kind ≤ 2 ∧ (kind = 0 → x ∉ xs ∧ n ≤ xs.length) ∧ (kind ≠ 0 → xs[n]? = some x) ∧
  ∀ (D : Addr) (H' : Hp), Same H H' → H D = none → H' D = some (.lst ((playK kind x n xs).map V.str)) → Q (.ref D) H'
theorem ok__law_played (T : Txt K mg A) : Ok1 P w K mg base 2 A.f__law_played ["kind", "here", "name", "index"] spPlayed := by
  refine T.fn__law_played.ok sc__law_played (fun _ _ _ _ _ _ us hl => match us, hl with | [_, _, _, _], _ => rfl) (fun vs H Q E h => ?_) (fun cdv B up s H vs Q E hr h => ?_)
  · obtain ⟨kind, l, xs, x, n, rfl, _⟩ := h
    rfl
  · obtain ⟨kind, l, xs, x, n, rfl, hl, lx, k0, k2, c0, c1, h⟩ := h
    refine ⟨_, (pss_cons (ps_if (pt_cmpR (op_eqX hr) (pv 0) pe_int (nomark _)) (pss_cons (ps_set (i := 4) sc__law_played.nd rfl (Or.inl rfl) (pe_and (pe_cmpR op_notIn_seq (pv 2) (pv 1) rfl) (pe_one (pe_cmpR op_le (pv 3) (pe_callB call_len (by rfl) T.no_len (by decide +kernel) (pa_cons (pv 1) pa_nil)) (nomark _)))))
      (pss_one (ps_ret (pe_ifExp (pt_val (pv 4)) (pe_op op_addX (pe_op op_addX (pe_slice sl_list (pv 1) po_none (po_some (pv 3))) (pe_lst (pa_cons (pv 2) pa_nil))) (pe_slice sl_list (pv 1) (po_some (pv 3)) po_none)) pe_non)))) pss_nil)
      (pss_cons (ps_if (PW.pt (pw_or (pt_cmpR op_ge (pv 3) (pe_callB call_len (by rfl) T.no_len (by decide +kernel) (pa_cons (pv 1) pa_nil)) (nomark _)) (pw_or1 (pt_cmpR (op_neX hr) (pe_ix ix_seq (pv 1) (pv 3) (fun _ _ => rfl)) (pv 2) (nomark _))))) (pss_one (ps_ret pe_non)) pss_nil)
      (pss_cons (ps_set (i := 5) sc__law_played.nd rfl (Or.inl rfl) (pe_op op_addX (pe_slice sl_list (pv 1) po_none (po_some (pv 3))) (pe_slice sl_list (pv 1) (po_some (pe_op op_addX (pv 3) pe_int)) po_none)))
      (pss_one (ps_ret (pe_ifExp (pt_cmpR (op_eqX hr) (pv 0) pe_int (nomark _)) (pv 5) (pe_op op_addX (pe_lst (pa_cons (pv 2) pa_nil)) (pv 5)))))))), ?_⟩
    refine ⟨_, rfl, .inl ⟨rfl, _, rfl, ?_⟩⟩
    refine ite2 (fun c => ?_) (fun c => ?_)
    · obtain rfl := eq_dec c
      obtain ⟨nx, hn⟩ := c0 rfl
      refine ⟨_, rfl, _, rfl, l, _, rfl, .inl (SqL.of hl), rfl, flatS xs, ?_⟩
      rw [inS, decide_eq_false nx]
      refine ⟨_, rfl, iteT ⟨_, rfl, _, rfl, _, _, rfl, .inl ⟨_, SqL.of hl, rfl⟩, _, _, rfl, rfl, ?_⟩⟩
      dsimp only
      rw [List.length_map, decide_eq_true (show ((n : Nat) : Int) ≤ (xs.length : Nat) by omega)]
      refine ⟨_, rfl, _, rfl, iteT ?_⟩
      refine ⟨_, rfl, _, rfl, _, rfl, l, _, rfl, SqL.of hl, fun a na => ?_⟩
      rw [cut_to']
      have s1 := Same.new (o := .lst ((xs.take n).map V.str)) na
      refine ⟨_, rfl, Nat.le_of_ble_eq_true rfl, fun b nb => ?_⟩
      have s2 := Same.new (o := .lst [V.str x]) nb
      refine addL (s2 _ _ upd_same) upd_same (by rw [List.length_map, List.length_take, List.length_singleton]; omega) fun c nc => ?_
      have s3 := Same.new (o := .lst ((xs.take n).map V.str ++ [V.str x])) nc
      refine ⟨_, rfl, _, rfl, _, rfl, l, _, rfl, SqL.of ((s1.trans (s2.trans s3)) _ _ hl), fun d nd => ?_⟩
      rw [cut_from']
      have s4 := Same.new (o := .lst ((xs.drop n).map V.str)) nd
      refine addL (s4 _ _ upd_same) upd_same (by rw [List.length_append, List.length_map, List.length_map, List.length_take, List.length_drop, List.length_singleton]; omega) fun r nr => ?_
      have s5 := Same.new (o := .lst ((xs.take n).map V.str ++ [V.str x] ++ (xs.drop n).map V.str)) nr
      have S := s1.trans (s2.trans (s3.trans s4))
      refine h r _ (S.trans s5) (none_same S nr) ?_
      rw [upd_same]
      unfold playK
      rw [if_pos rfl, List.map_append, List.map_append]
      rfl
    have kne := ne_dec c
    have hx := c1 kne
    have hn : n < xs.length := (List.getElem?_eq_some_iff.mp hx).1
    refine ⟨_, rfl, _, rfl, _, _, rfl, .inl ⟨_, SqL.of hl, rfl⟩, _, _, rfl, rfl, _, rfl, ?_⟩
    rw [List.length_map, decide_eq_false (show ¬ ((xs.length : Nat) : Int) ≤ n by omega)]
    refine iteF ⟨_, rfl, _, rfl, ixL hl (v := .str x) (atI_nat (by rw [List.getElem?_map, hx]; rfl)) ⟨_, rfl, neS rfl ⟨_, rfl, ?_⟩⟩⟩
    rw [strF]
    refine iteF ?_
    refine ⟨_, rfl, _, rfl, _, rfl, l, _, rfl, SqL.of hl, fun a na => ?_⟩
    rw [cut_to']
    have s1 := Same.new (o := .lst ((xs.take n).map V.str)) na
    have z : ((n : Int) + 1) = ((n + 1 : Nat) : Int) := by omega
    refine ⟨_, rfl, _, rfl, addI ⟨_, rfl, l, _, rfl, SqL.of (s1 _ _ hl), fun d nd => ?_⟩⟩
    rw [z, cut_from']
    have s2 := Same.new (o := .lst ((xs.drop (n + 1)).map V.str)) nd
    refine addL (s2 _ _ upd_same) upd_same (by rw [List.length_map, List.length_map, List.length_take, List.length_drop]; omega) fun r nr => ?_
    have s3 := Same.new (o := .lst ((xs.take n).map V.str ++ (xs.drop (n + 1)).map V.str)) nr
    have S := s1.trans (s2.trans s3)
    have Sr := none_same (s1.trans s2) nr
    refine ⟨_, rfl, .inl ⟨rfl, _, rfl, ?_⟩⟩
    refine ite2 (fun c => ?_) (fun c => ?_)
    · obtain rfl := eq_dec c
      refine ⟨_, rfl, h r _ S Sr ?_⟩
      rw [upd_same]
      unfold playK
      rw [if_neg (by decide), if_pos rfl, List.map_append]
    · have c2 := ne_dec c
      refine ⟨_, rfl, Nat.le_of_ble_eq_true rfl, fun b nb => ?_⟩
      have s4 := Same.new (o := .lst [V.str x]) nb
      refine ⟨_, rfl, addL upd_same (s4 _ _ upd_same) (by rw [List.length_append, List.length_map, List.length_map, List.length_take, List.length_drop, List.length_singleton]; omega) fun q nq => ?_⟩
      have s5 := Same.new (o := .lst ([V.str x] ++ ((xs.take n).map V.str ++ (xs.drop (n + 1)).map V.str))) nq
      refine h q _ (S.trans (s4.trans s5)) (none_same (S.trans s4) nq) ?_
      rw [upd_same]
      unfold playK
      rw [if_neg kne, if_neg c2, List.map_append, List.map_append]
      rfl

end
end Own

set_option Elab.async false
set_option linter.all false
set_option maxRecDepth 100000
set_option maxHeartbeats 4000000
namespace Own
open PySem L2 ClX
local macro_rules | `(tactic| walk_at "v") => `(tactic| refine ⟨_, rfl, ?_⟩)
local macro_rules | `(tactic| walk_at "ii") => `(tactic| refine ⟨_, _, rfl, rfl, ?_⟩)
local macro_rules | `(tactic| walk_at "go") => `(tactic| repeat (first | refine ⟨_, rfl, ?_⟩ | refine ⟨_, _, rfl, rfl, ?_⟩ | refine addI ?_ | refine L2.iteT ?_ | refine L2.iteF ?_))

section
variable {P : Program} {w : World} {K : PySem.W.Frag} {mg : Str → Option Value} {base : Heap} {A : Ad}
/-! ### the law's logs, made of pairs -/
theorem Prs.split {H : Hp} {vs : List V} {ps : List (Str × Nat)} (h : Prs H vs ps) : ∃ xs : List (Addr × Str × Nat), vs = xs.map (fun q => V.ref q.1) ∧ ps = xs.map (·.2) ∧ ∀ q ∈ xs, H q.1 = some (.tup [.str q.2.1, .int (q.2.2 : Nat)]) := by
  induction h with
  | nil => exact ⟨[], rfl, rfl, fun q hq => by cases hq⟩
  | @cons t x n vs ps e _ ih =>
    obtain ⟨xs, rfl, rfl, a⟩ := ih
    refine ⟨(t, x, n) :: xs, rfl, rfl, fun q hq => ?_⟩
    rcases List.mem_cons.mp hq with rfl | hq
    · exact e
    · exact a q hq
theorem Rows.snoc {H : Hp} {vs : List V} {ps : List (Int × Str × Nat)} {p dx : Addr} {way : Int} {x : Str} {n : Nat} (h : Rows A H vs ps) (e : H p = some (.ins (cw A way) dx (rfs x n))) (h0 : 0 ≤ way) (h1 : way < 3) (hx : isItem x = true) : Rows A H (vs ++ [.ref p]) (ps ++ [(way, x, n)]) := by
  induction h with
  | nil => exact .cons e h0 h1 hx .nil
  | cons e' a b c _ ih => exact .cons e' a b c ih
theorem Rows.updL {H : Hp} {vs us : List V} {ps : List (Int × Str × Nat)} {D : Addr} {o : HO} (h : Rows A H vs ps) (hD : H D = some (.lst us)) : Rows A (upd H D o) vs ps := by
  induction h with
  | nil => exact .nil
  | @cons p dx way x n vs ps e a b c _ ih =>
    refine .cons (dx := dx) ?_ a b c ih
    rw [upd_ne (fun z => by rw [z, hD] at e; cases e)]
    exact e
def rowsOf (kind : Int) (xs : List (Addr × Str × Nat)) : List (Int × Str × Nat) := xs.map fun q => (kind, q.2.1, q.2.2)
def spLogs (A : Ad) : Sp := fun vs H Q _ => ∃ (p pl : Addr) (n kind : Int) (ts : List V) (ps : List (Str × Nat)), vs = [.ref p, .int kind, .ref pl] ∧ SrcAt H p n ∧ n < 2 ^ 50 ∧ 0 ≤ kind ∧ kind ≤ 2 ∧ H pl = some (.lst ts) ∧ Prs H ts ps ∧ ps.length ≤ 40 ∧ (∀ q ∈ ps, isItem q.1 = true ∧ q.2 ≤ 60) ∧
  ∀ (D : Addr) (rs : List V) (qs : List (Int × Str × Nat)) (H' : Hp), But p H H' → SrcAt H' p (n + ps.length) → H D = none → H' D = some (.lst rs) → Rows A H' rs qs → (∀ v ∈ rs, ∃ a, v = .ref a ∧ H a = none) → (∀ q ∈ qs, q.1 = kind) → (∀ q ∈ qs, q.2.2 ≤ 60) → (pairsQ qs).Perm ps → Q (.ref D) H'
theorem ok__law_log (T : Txt K mg A) : Ok1 P w K mg base 6 A.f__law_log ["source", "kind", "pairs"] (spLogs A) := by
  refine T.fn__law_log.ok sc__law_log (fun _ _ _ _ _ _ us hl => match us, hl with | [_, _, _], _ => rfl) (fun vs H Q E h => ?_) (fun cdv B up s H vs Q E hr h => ?_)
  · obtain ⟨p, pl, n, kind, ts, ps, rfl, _⟩ := h
    rfl
  · obtain ⟨p, pl, n, kind, ts, ps, rfl, hs, hn, k0, k2, hl, prs, lp, good, h⟩ := h
    refine ⟨_, (pss_one (ps_ret (pe_lcD (own := [("name", 3), ("index", 4)]) rfl sc__law_log.nd (pi_list (po_call (ok__law_mixed T) (hr.mono (by decide)) T.mg__law_mixed (pa_cons (pv 0) (pa_cons (pv 2) pa_nil)))) (blkOk_by (N := N__law_log) (sc := defScope s__law_log) (by decide +kernel)) (fun _ _ _ _ _ => pg_tup (by rfl) (pgs_cons (pg_name (i := 3) sc__law_log.nd rfl (Or.inl rfl)) (pgs_cons (pg_name (i := 4) sc__law_log.nd rfl (Or.inl rfl)) pgs_nil))) (fun _ _ _ _ _ => pts_nil) (fun _ _ _ _ _ => (po_call (ok__law_made T) (hr.mono (by decide)) T.mg__law_made (pa_cons (pv 1) (pa_cons (pv 3) (pa_cons (pv 4) pa_nil)))))))), ?_⟩
    obtain ⟨xs, rfl, rfl, tx⟩ := prs.split
    rw [List.length_map] at lp
    refine ⟨_, rfl, _, rfl, p, pl, n, _, _, xs, rfl, hs, hl, by omega, hn, fun D0 ys H1 pm b1 s1 n0 h1 => ?_⟩
    have ne : ∀ q ∈ ys, q.1 ≠ p := fun q hq e => by
      have z := tx q (pm.mem_iff.mp hq)
      obtain ⟨g, m, c, z2, _⟩ := hs
      rw [e, z2] at z
      cases z
    have ty : ∀ q ∈ ys, H1 q.1 = some (.tup [.str q.2.1, .int (q.2.2 : Nat)]) := fun q hq => b1 _ _ (tx q (pm.mem_iff.mp hq)) (ne q hq)
    have ly : ys.length = xs.length := pm.length_eq
    have gy : ∀ q ∈ ys, isItem q.2.1 = true ∧ q.2.2 ≤ 60 := fun q hq => good q.2 (List.mem_map.mpr ⟨q, pm.mem_iff.mp hq, rfl⟩)
    refine ⟨_, rfl, ⟨_, SqL.of h1⟩, fun D nD => ?_⟩
    have fr : ∀ {a : Addr} {Hx : Hp}, Same H1 Hx → Hx a = none → H a = none := fun {a Hx} sx na => by
      have z := none_same sx na
      cases e : H a with
      | none => rfl
      | some o =>
        by_cases ap : a = p
        · obtain ⟨g, m, c, z2, _⟩ := s1
          rw [ap, z2] at z
          cases z
        · rw [b1 a o e ap] at z
          cases z
    refine lc_list (K := K) (a := D0) (xs := ys.map fun q => V.ref q.1) (fun i H' => Same H1 H' ∧ ∃ rs, H' D = some (.lst rs) ∧ Rows A H' rs ((rowsOf kind ys).take i) ∧ ∀ v ∈ rs, ∃ a, v = .ref a ∧ H a = none) ?_ ?_ ?_ ?_
    · exact ⟨Same.new nD, [], upd_same, .nil, fun v hv => by cases hv⟩
    · rintro i H2 _ ⟨s2, _⟩
      exact SqL.of (s2 _ _ h1)
    · rintro i y H2 hy ⟨s2, rs, h2, r2, f2⟩
      rw [List.getElem?_map] at hy
      have hi : i < ys.length := by
        by_cases z : i < ys.length
        · exact z
        · rw [List.getElem?_eq_none (by omega)] at hy
          cases hy
      rw [List.getElem?_eq_getElem hi] at hy
      obtain rfl := Option.some.inj hy
      have mem := List.getElem_mem hi
      have ht := s2 _ _ (ty _ mem)
      obtain ⟨gi, g60⟩ := gy _ mem
      have lr := r2.len
      rw [List.length_take] at lr
      refine ⟨_, _, rfl, SqT.of ht, rfl, _, _, rfl, _, _, rfl, rfl, rfl, _, rfl, _, rfl, _, rfl, kind, _, _, rfl, k0, k2, gi, by omega, by omega, fun r dx H3 s3 nr er => ?_⟩
      refine ⟨_, s3 _ _ h2, Nat.lt_of_lt_of_le (show rs.length < 1000 by omega) (by decide), fun c o eo => ?_, _, upd_same, ?_, ?_⟩
      · rw [upd_ne (ne_of_none eo nD)]
        exact s3 _ _ (s2 _ _ eo)
      · have e2 : (rowsOf kind ys).take (i + 1) = (rowsOf kind ys).take i ++ [(kind, ys[i].2.1, ys[i].2.2)] := by
          rw [List.take_add_one]
          unfold rowsOf
          rw [List.getElem?_map, List.getElem?_eq_getElem hi]
          rfl
        rw [e2]
        exact ((r2.same s3).snoc er k0 (by omega) gi).updL (s3 _ _ h2)
      · intro v hv
        rcases List.mem_append.mp hv with hv | hv
        · exact f2 v hv
        · rw [List.mem_singleton.mp hv]
          exact ⟨r, rfl, fr s2 nr⟩
    · rintro H2 ⟨s2, rs, h2, r2, f2⟩
      rw [List.length_map, List.take_of_length_le (by unfold rowsOf; rw [List.length_map]; omega)] at r2
      refine h D rs (rowsOf kind ys) H2 ?_ ?_ (fr (Same.refl _) nD) h2 r2 f2 ?_ ?_ ?_
      · exact fun a o eo ap => s2 _ _ (b1 a o eo ap)
      · rw [List.length_map]
        exact SrcAt.same s1 s2
      · intro q hq
        obtain ⟨y, _, rfl⟩ := List.mem_map.mp hq
        rfl
      · intro q hq
        obtain ⟨y, hy, rfl⟩ := List.mem_map.mp hq
        exact (gy y hy).2
      · have e3 : pairsQ (rowsOf kind ys) = ys.map (·.2) := by
          unfold pairsQ rowsOf
          rw [List.map_map]
          rfl
        rw [e3]
        exact pm.map _
theorem pairs_names {qs : List (Int × Str × Nat)} {ps : List (Str × Nat)} (h : (pairsQ qs).Perm ps) : (names qs).Perm (ps.map (·.1)) := by
  have e : (pairsQ qs).map (·.1) = names qs := by
    unfold pairsQ names
    rw [List.map_map]
    rfl
  rw [← e]
  exact h.map _
/-- the index that stands beside an item -/
theorem pairs_slot {qs : List (Int × Str × Nat)} {ps : List (Str × Nat)} (h : (pairsQ qs).Perm ps) (nd : (names qs).Nodup) {x : Str} {n : Nat} (m : (x, n) ∈ ps) : slotOf qs x = n := by
  obtain ⟨q, hq, e⟩ := List.mem_map.mp (h.mem_iff.mpr m)
  obtain ⟨e1, e2⟩ := Prod.mk.inj e
  unfold slotOf
  cases f : qs.find? (fun q : Int × Str × Nat => decide (q.2.1 = x)) with
  | none => exact absurd (decide_eq_true e1) (List.find?_eq_none.mp f q hq)
  | some r =>
    have r1 : r.2.1 = x := of_decide_eq_true (show decide (r.2.1 = x) = true from List.find?_some (p := fun q : Int × Str × Nat => decide (q.2.1 = x)) f)
    have rm := List.mem_of_find?_eq_some f
    obtain ⟨i, hi, ei⟩ := List.getElem_of_mem hq
    obtain ⟨j, hj, ej⟩ := List.getElem_of_mem rm
    have same : (names qs)[i]'(by unfold names; rw [List.length_map]; exact hi) = (names qs)[j]'(by unfold names; rw [List.length_map]; exact hj) := by
      unfold names
      rw [List.getElem_map, List.getElem_map, ei, ej, e1, r1]
    have ij := (List.getElem_inj nd).mp same
    subst ij
    rw [ei] at ej
    rw [← ej]
    exact e2

end
end Own

set_option Elab.async false
set_option linter.all false
set_option maxRecDepth 100000
set_option maxHeartbeats 4000000
namespace Own
open PySem L2 ClX
local macro_rules | `(tactic| walk_at "v") => `(tactic| refine ⟨_, rfl, ?_⟩)
local macro_rules | `(tactic| walk_at "ii") => `(tactic| refine ⟨_, _, rfl, rfl, ?_⟩)
local macro_rules | `(tactic| walk_at "go") => `(tactic| repeat (first | refine ⟨_, rfl, ?_⟩ | refine ⟨_, _, rfl, rfl, ?_⟩ | refine addI ?_ | refine L2.iteT ?_ | refine L2.iteF ?_))

section
variable {P : Program} {w : World} {K : PySem.W.Frag} {mg : Str → Option Value} {base : Heap} {A : Ad}
/-! ### some indices changed -/
def spBent : Sp := fun vs H Q _ => ∃ (p pl : Addr) (n : Int) (ts : List V) (ps : List (Str × Nat)), vs = [.ref p, .ref pl] ∧ SrcAt H p n ∧ n < 2 ^ 50 ∧ H pl = some (.lst ts) ∧ Prs H ts ps ∧ ps.length ≤ 40 ∧ (∀ q ∈ ps, q.2 ≤ 60) ∧
  ∀ (D : Addr) (us : List V) (rs : List (Str × Nat)) (H' : Hp), But p H H' → SrcAt H' p (n + 2 * ps.length) → H D = none → H' D = some (.lst us) → Prs H' us rs → (∀ q ∈ rs, q.2 ≤ 60) → rs.map (·.1) = ps.map (·.1) → Q (.ref D) H'
theorem SrcAt.le {H : Hp} {p : Addr} {n m : Int} (s : SrcAt H p n) (h : n ≤ m) : SrcAt H p m := by
  obtain ⟨g, m', c, e, h0, h1, h2, h3⟩ := s
  exact ⟨g, m', c, e, h0, h1, h2, by omega⟩
theorem Prs.but {H H' : Hp} {p : Addr} {n : Int} {vs : List V} {ps : List (Str × Nat)} (h : Prs H vs ps) (s : SrcAt H p n) (b : But p H H') : Prs H' vs ps := by
  induction h with
  | nil => exact .nil
  | @cons t x n vs ps e _ ih =>
    refine .cons (b _ _ e fun z => ?_) ih
    obtain ⟨g, m, c, z2, _⟩ := s
    rw [z, z2] at e
    cases e
theorem ok__law_bent (T : Txt K mg A) : Ok1 P w K mg base 2 A.f__law_bent ["source", "pairs"] spBent := by
  refine T.fn__law_bent.ok sc__law_bent (fun _ _ _ _ _ _ us hl => match us, hl with | [_, _], _ => rfl) (fun vs H Q E h => ?_) (fun cdv B up s H vs Q E hr h => ?_)
  · obtain ⟨p, pl, n, ts, ps, rfl, _⟩ := h
    rfl
  · obtain ⟨p, pl, n, ts, ps, rfl, hs, hn, hl, prs, lp, good, h⟩ := h
    refine ⟨_, (pss_cons (ps_set (i := 2) sc__law_bent.nd rfl (Or.inl rfl) (pe_lst pa_nil))
      (pss_cons (ps_for PassesOwn.never rfl (pi_list (pv 1)) (pg_tup (by rfl) (pgs_cons (pg_name (i := 3) sc__law_bent.nd rfl (Or.inl rfl)) (pgs_cons (pg_name (i := 4) sc__law_bent.nd rfl (Or.inl rfl)) pgs_nil)))
      (pss_cons (ps_set (i := 5) sc__law_bent.nd rfl (Or.inl rfl) (po_call (ok__law_pick T) (hr.mono (by decide)) T.mg__law_pick (pa_cons (pv 0) (pa_cons pe_int pa_nil))))
      (pss_one (ps_expr (pe_bm PySem.F.plainAttrs_list PySem.F.slot_list_append PySem.F.type_list_append mt_append (pv 2) (pa_cons (pe_tup (pa_cons (pv 3) (pa_cons (pe_ix ix_seq (pe_lst (pa_cons (pv 4) (pa_cons (pv 4) (pa_cons (pv 4) (pa_cons (pe_callB (call_max2 rfl) (by rfl) T.no_max (by decide +kernel) (pa_cons pe_int (pa_cons (pe_op op_sub (pv 4) pe_int) pa_nil))) (pa_cons (pe_callB (call_min2 rfl) (by rfl) T.no_min (by decide +kernel) (pa_cons pe_int (pa_cons (pe_op op_addX (pv 4) pe_int) pa_nil))) (pa_cons (po_call (ok__law_pick T) (hr.mono (by decide)) T.mg__law_pick (pa_cons (pv 0) (pa_cons pe_int pa_nil))) pa_nil))))))) (pv 5) (fun _ _ => rfl)) pa_nil))) pa_nil))))))
      (pss_one (ps_ret (pv 2))))), ?_⟩
    have plp : pl ≠ p := fun e => by
      obtain ⟨g, m, c, z2, _⟩ := hs
      obtain ⟨xs, rfl, rfl, _⟩ := prs.split
      rw [e, z2] at hl
      cases xs with
      | nil => cases hl
      | cons a l => cases hl
    have lt := prs.len
    refine ⟨Nat.le_of_ble_eq_true rfl, fun D nD => ?_⟩
    have Dp : D ≠ p := SrcAt.ne hs nD
    refine ⟨_, rfl, pl, rfl, ⟨_, SqL.of ((Same.new nD) _ _ hl)⟩, for_list (K := K) (a := pl) (xs := ts) (fun i σ H' => ∃ (a3 a4 a5 : Option V) (us : List V) (rs : List (Str × Nat)), σ = [some (.ref p), some (.ref pl), some (.ref D), a3, a4, a5] ∧ But p H H' ∧ SrcAt H' p (n + 2 * i) ∧ H' D = some (.lst us) ∧ Prs H' us rs ∧ (∀ q ∈ rs, q.2 ≤ 60) ∧ rs.map (·.1) = (ps.take i).map (·.1))
      ⟨_, _, _, [], [], rfl, But.same (Same.new nD), (SrcAt.same hs (Same.new nD)).le (by omega), upd_same, .nil, (fun q hq => by cases hq), rfl⟩ ?_ ?_ ?_⟩
    · rintro i σ H1 _ ⟨a3, a4, a5, us, rs, rfl, b1, _⟩
      exact SqL.of (b1 _ _ hl plp)
    · rintro i y σ H1 hy ⟨a3, a4, a5, us, rs, rfl, b1, s1, h1, p1, g1, e1⟩
      obtain ⟨t, x, m, rfl, hq, ht⟩ := prs.get hy
      have hi := (List.getElem?_eq_some_iff.mp hq).1
      have ht1 := b1 _ _ ht (fun e => by
        obtain ⟨g, m', c, z2, _⟩ := hs
        rw [e, z2] at ht
        cases ht)
      have m60 := good _ (List.mem_of_getElem? hq)
      have m60 : m ≤ 60 := m60
      have lu := p1.len
      have lr : rs.length = i := by
        have := congrArg List.length e1
        rw [List.length_map, List.length_map, List.length_take] at this
        omega
      refine ⟨t, _, rfl, SqT.of ht1, rfl, _, _, rfl, _, _, rfl, rfl, ?_⟩
      refine ⟨_, rfl, p, 6, n + 2 * i, rfl, by decide, by decide, s1, by omega, fun r H2 r0 r1 s2 b2 => ?_⟩
      have h2 := b2 _ _ h1 Dp
      have p2 := p1.but s1 b2
      refine ⟨_, rfl, .inl ⟨rfl, _, SqL.of h2⟩, _, rfl, _, rfl, _, rfl, _, rfl, ?_⟩
      refine ⟨_, rfl, _, _, rfl, rfl, _, _, rfl, _, rfl, addI ⟨_, _, rfl, _, rfl, p, 61, n + 2 * i + 1, rfl, by decide, by decide, s2, by omega, fun r5 H3 r50 r51 s3 b3 => ?_⟩⟩
      have h3 := b3 _ _ h2 Dp
      have p3 := p2.but s2 b3
      refine ⟨Nat.le_of_ble_eq_true rfl, fun q nq => ?_⟩
      have uq := Same.new (o := .lst [.int m, .int m, .int m, .int (if (m : Int) - 1 > 0 then (m : Int) - 1 else 0), .int (if (m : Int) + 1 < 60 then (m : Int) + 1 else 60), .int r5]) nq
      obtain ⟨z, hz, z0, z1⟩ := pickI (zs := [(m : Int), m, m, (if (m : Int) - 1 > 0 then (m : Int) - 1 else 0), (if (m : Int) + 1 < 60 then (m : Int) + 1 else 60), r5]) (fun z => 0 ≤ z ∧ z ≤ 60)
        (by
          intro z hz
          simp only [List.mem_cons, List.not_mem_nil, or_false] at hz
          rcases hz with rfl | rfl | rfl | rfl | rfl | rfl
          · omega
          · omega
          · omega
          · split <;> omega
          · split <;> omega
          · omega) r0 r1
      refine ⟨_, rfl, ixL upd_same hz ⟨Nat.le_of_ble_eq_true rfl, fun tp ntp => ?_⟩⟩
      obtain ⟨o, rfl⟩ : ∃ o : Nat, z = o := ⟨z.toNat, by omega⟩
      have ut := Same.new (o := .tup [.str x, .int (o : Int)]) ntp
      have u2 := uq.trans ut
      have e2 := u2 _ _ h3
      refine ⟨D, _, _, rfl, rfl, e2, Nat.lt_of_lt_of_le (show us.length < 1000 by omega) (by decide), ?_⟩
      have b13 : But p H H3 := (b1.trans b2).trans b3
      refine ⟨_, _, _, us ++ [.ref tp], rs ++ [(x, o)], rfl, fun c o eo cp => ?_, ?_, upd_same, ?_, ?_, ?_⟩
      · rw [upd_ne (ne_of_none eo nD)]
        exact u2 _ _ (b13 _ _ eo cp)
      · have z3 : n + 2 * ((i + 1 : Nat) : Int) = n + 2 * i + 1 + 1 := by omega
        rw [z3]
        obtain ⟨g, m', c, e, r⟩ := SrcAt.same s3 u2
        exact ⟨g, m', c, by rw [upd_ne Dp.symm]; exact e, r⟩
      · exact ((p3.same u2).snoc upd_same).updL e2
      · intro q hq
        rcases List.mem_append.mp hq with hq | hq
        · exact g1 q hq
        · rw [List.mem_singleton.mp hq]
          show o ≤ 60
          omega
      · have e4 : ps.take (i + 1) = ps.take i ++ [(x, m)] := by
          rw [List.take_add_one, hq]
          rfl
        rw [e4, List.map_append, List.map_append, e1]
        rfl
    · rintro σ H1 ⟨a3, a4, a5, us, rs, rfl, b1, s1, h1, p1, g1, e1⟩
      rw [lt] at s1 e1
      rw [List.take_length] at e1
      exact ⟨_, rfl, h D us rs H1 b1 s1 nD h1 p1 g1 e1⟩

end
end Own

set_option Elab.async false
set_option linter.all false
set_option maxRecDepth 100000
set_option maxHeartbeats 4000000
namespace Own
open PySem L2 ClX
local macro_rules | `(tactic| walk_at "v") => `(tactic| refine ⟨_, rfl, ?_⟩)
local macro_rules | `(tactic| walk_at "ii") => `(tactic| refine ⟨_, _, rfl, rfl, ?_⟩)
local macro_rules | `(tactic| walk_at "go") => `(tactic| repeat (first | refine ⟨_, rfl, ?_⟩ | refine ⟨_, _, rfl, rfl, ?_⟩ | refine addI ?_ | refine L2.iteT ?_ | refine L2.iteF ?_))

section
variable {P : Program} {w : World} {K : PySem.W.Frag} {mg : Str → Option Value} {base : Heap} {A : Ad}
/-! ### a history -/
structure Hst (kind : Int) (names moved hs : List Str) (i : Nat) : Prop where
  h0 : kind = 0 → (hs ++ moved.drop i).Perm names
  h1 : kind = 1 → (hs ++ moved.take i).Perm names
  h2 : kind = 2 → hs.Perm names
theorem cut_at {x : Str} {n : Nat} {hs : List Str} (h : hs[n]? = some x) : (x :: (hs.take n ++ hs.drop (n + 1))).Perm hs := by
  obtain ⟨hn, e⟩ := List.getElem?_eq_some_iff.mp h
  have e2 : hs.drop n = x :: hs.drop (n + 1) := by rw [List.drop_eq_getElem_cons hn, e]
  have e3 := List.take_append_drop n hs
  rw [e2] at e3
  have q := (List.perm_middle (a := x) (l₁ := hs.take n) (l₂ := hs.drop (n + 1))).symm
  rw [e3] at q
  exact q
theorem Hst.good {kind : Int} {names moved hs : List Str} {i : Nat} (h : Hst kind names moved hs i) (k0 : 0 ≤ kind) (k2 : kind ≤ 2) (ni : Items names) : Items hs ∧ hs.length ≤ names.length := by
  have lft : ∀ r : List Str, (hs ++ r).Perm names → Items hs ∧ hs.length ≤ names.length := fun r q => by
    have ia := ni.perm q
    have l := q.length_eq
    rw [List.length_append] at l
    exact ⟨⟨fun x hx => ia.it x (List.mem_append_left _ hx), (List.nodup_append.mp ia.nd).1⟩, by omega⟩
  by_cases c0 : kind = 0
  · exact lft _ (h.h0 c0)
  by_cases c1 : kind = 1
  · exact lft _ (h.h1 c1)
  have q := h.h2 (by omega)
  exact ⟨ni.perm q, Nat.le_of_eq q.length_eq⟩
theorem Hst.pre0 {kind : Int} {names moved hs : List Str} {i : Nat} {x : Str} (h : Hst kind names moved hs i) (c0 : kind = 0) (ni : Items names) (hx : moved[i]? = some x) : x ∉ hs := fun mem => by
  have ia := ni.perm (h.h0 c0)
  obtain ⟨hn, e⟩ := List.getElem?_eq_some_iff.mp hx
  rw [List.drop_eq_getElem_cons hn, e] at ia
  exact (List.nodup_append.mp ia.nd).2.2 x mem x List.mem_cons_self rfl
theorem Hst.preK {kind : Int} {names moved hs : List Str} {i : Nat} {x : Str} (h : Hst kind names moved hs i) (k0 : 0 ≤ kind) (k2 : kind ≤ 2) (c0 : kind ≠ 0) (nm : moved.Nodup) (sub : x ∈ names) (hx : moved[i]? = some x) : x ∈ hs := by
  by_cases c1 : kind = 1
  · have mem := (h.h1 c1).mem_iff.mpr sub
    rcases List.mem_append.mp mem with m | m
    · exact m
    · obtain ⟨hn, e⟩ := List.getElem?_eq_some_iff.mp hx
      have nm2 := nm
      rw [← List.take_append_drop i moved, List.drop_eq_getElem_cons hn, e] at nm2
      exact absurd rfl ((List.nodup_append.mp nm2).2.2 x m x List.mem_cons_self)
  · exact (h.h2 (by omega)).mem_iff.mpr sub
theorem Hst.step {kind : Int} {names moved hs : List Str} {i n : Nat} {x : Str} (h : Hst kind names moved hs i) (hx : moved[i]? = some x) (c1 : kind ≠ 0 → hs[n]? = some x) : Hst kind names moved (playK kind x n hs) (i + 1) := by
  obtain ⟨hi, e⟩ := List.getElem?_eq_some_iff.mp hx
  refine ⟨fun k => ?_, fun k => ?_, fun k => ?_⟩
  · have q := h.h0 k
    rw [List.drop_eq_getElem_cons hi, e] at q
    unfold playK
    rw [if_pos k]
    have p1 : (hs.take n ++ [x] ++ hs.drop n).Perm (x :: hs) := by
      have z := List.perm_middle (a := x) (l₁ := hs.take n) (l₂ := hs.drop n)
      rw [List.take_append_drop] at z
      rw [List.append_assoc]
      exact z
    exact ((p1.append_right _).trans List.perm_middle.symm).trans q
  · have q := h.h1 k
    unfold playK
    rw [if_neg (by omega), if_pos k, List.take_add_one, hx]
    have p1 := cut_at (c1 (by omega))
    have z : ((hs.take n ++ hs.drop (n + 1)) ++ (moved.take i ++ [x])).Perm (hs ++ moved.take i) := by
      rw [← List.append_assoc]
      exact (List.perm_append_singleton x _).trans (p1.append_right (moved.take i))
    exact z.trans q
  · have q := h.h2 k
    unfold playK
    rw [if_neg (by omega), if_neg (by omega)]
    exact (cut_at (c1 (by omega))).trans q
def keepK (kind : Int) (moved : List Str) (x : Str) : Bool := decide (kind > 0) || !decide (x ∈ moved)
theorem keep_all {kind : Int} {names moved : List Str} (k : kind > 0) : names.filter (keepK kind moved) = names := List.filter_eq_self.mpr fun x _ => by
  unfold keepK
  rw [decide_eq_true k]
  rfl
theorem Hst.start {kind : Int} {names moved : List Str} (ni : Items names) (nm : moved.Nodup) (sub : ∀ x ∈ moved, x ∈ names) : Hst kind names moved (names.filter (keepK kind moved)) 0 := by
  have all : kind > 0 → names.filter (keepK kind moved) = names := fun k => List.filter_eq_self.mpr fun x _ => by
    unfold keepK
    rw [decide_eq_true k]
    rfl
  refine ⟨fun k => ?_, fun k => ?_, fun k => ?_⟩
  · have e : names.filter (keepK kind moved) = names.filter (fun x => !decide (x ∈ moved)) := by
      refine List.filter_congr fun x _ => ?_
      unfold keepK
      rw [decide_eq_false (by omega)]
      rfl
    rw [e, List.drop_zero]
    have p1 : (names.filter (fun x => decide (x ∈ moved))).Perm moved := by
      refine (List.perm_ext_iff_of_nodup (ni.nd.filter _) nm).mpr fun x => ?_
      rw [List.mem_filter]
      exact ⟨fun z => of_decide_eq_true z.2, fun z => ⟨sub x z, decide_eq_true z⟩⟩
    have p2 := List.filter_append_perm (fun x => decide (x ∈ moved)) names
    exact ((List.perm_append_comm.trans (p1.symm.append_right _)).trans p2)
  · rw [all (by omega), List.take_zero, List.append_nil]
  · rw [all (by omega)]
theorem but_free {p a : Addr} {n : Int} {H H' : Hp} (b : But p H H') (s : SrcAt H' p n) (na : H' a = none) : H a = none := by
  cases e : H a with
  | none => rfl
  | some o =>
    by_cases ap : a = p
    · obtain ⟨g, m, c, z2, _⟩ := s
      rw [ap, z2] at na
      cases na
    · rw [b a o e ap] at na
      cases na
def spHist : Sp := fun vs H Q _ => ∃ (p : Addr) (n kind : Int) (most more : Nat), vs = [.ref p, .int kind, .int most, .int more] ∧ SrcAt H p n ∧ n < 2 ^ 49 ∧ 0 ≤ kind ∧ kind ≤ 2 ∧ most ≤ 40 ∧ more ≤ 20 ∧
  ∀ (tp pl kl : Addr) (ts : List V) (ps : List (Str × Nat)) (xs : List Str) (H' : Hp), But p H H' → SrcAt H' p (n + 400) → H pl = none → H kl = none → H' tp = some (.tup [.ref pl, .ref kl]) → H' pl = some (.lst ts) → Prs H' ts ps → H' kl = some (.lst (xs.map V.str)) → Items xs → xs.length ≤ 60 → ps.length ≤ 40 → (∀ q ∈ ps, q.2 ≤ 60) → (ps.map (·.1)).Nodup → (∀ x ∈ ps.map (·.1), x ∈ xs) → Q (.ref tp) H'
theorem ok__law_history (T : Txt K mg A) : Ok1 P w K mg base 3 A.f__law_history ["source", "kind", "most", "more"] spHist := by
  refine T.fn__law_history.ok sc__law_history (fun _ _ _ _ _ _ us hl => match us, hl with | [_, _, _, _], _ => rfl) (fun vs H Q E h => ?_) (fun cdv B up s H vs Q E hr h => ?_)
  · obtain ⟨p, n, kind, most, more, rfl, _⟩ := h
    rfl
  · obtain ⟨p, n, kind, most, more, rfl, hs, hn, k0, k2, hm, ho, h⟩ := h
    refine ⟨_, (pss_cons (ps_par (i := 4) (j := 5) (by rfl) sc__law_history.nd rfl rfl (by decide) rfl rfl (pa_cons (po_call (ok__law_pick T) (hr.mono (by decide)) T.mg__law_pick (pa_cons (pv 0) (pa_cons (pe_op op_addX (pv 2) pe_int) pa_nil))) (pa_cons (po_call (ok__law_pick T) (hr.mono (by decide)) T.mg__law_pick (pa_cons (pv 0) (pa_cons (pe_op op_addX (pv 3) pe_int) pa_nil))) pa_nil)) (by rfl))
      (pss_cons (ps_set (i := 6) sc__law_history.nd rfl (Or.inl rfl) (po_call (ok__law_words T) (hr.mono (by decide)) T.mg__law_words (pa_cons (pv 0) (pa_cons (pe_op op_addX (pv 4) (pv 5)) pa_nil))))
      (pss_cons (ps_set (i := 7) sc__law_history.nd rfl (Or.inr rfl) (pe_slice sl_list (po_call (ok__law_mixed T) (hr.mono (by decide)) T.mg__law_mixed (pa_cons (pv 0) (pa_cons (pv 6) pa_nil))) po_none (po_some (pv 4))))
      (pss_cons (ps_set (i := 8) sc__law_history.nd rfl (Or.inl rfl) (po_call (ok__law_pick T) (hr.mono (by decide)) T.mg__law_pick (pa_cons (pv 0) (pa_cons pe_int pa_nil))))
      (pss_cons (ps_setLcD (i := 9) (own := [("name", 12)]) rfl sc__law_history.nd rfl rfl (sw_true rfl rfl rfl (by decide +kernel)) (pi_list (pv 6)) (blkOk_by (N := N__law_history) (sc := defScope s__law_history) (by decide +kernel)) (fun _ _ _ _ _ => pg_name (i := 12) sc__law_history.nd rfl (Or.inl rfl)) (fun _ _ _ _ _ => (pts_one (PW.pt (pw_or (pt_cmpR op_gt (pv 1) pe_int (nomark _)) (pw_or1 (pt_cmpR op_notIn_seq (pv 12) (pv 7) rfl)))))) (fun _ _ _ _ _ => (pv 12)))
      (pss_cons (ps_par (i := 10) (j := 11) (by rfl) sc__law_history.nd rfl rfl (by decide) rfl rfl (pa_cons (pe_callTy call_list_of (by rfl) T.no_list (by decide +kernel) (pa_cons (pv 9) pa_nil)) (pa_cons (pe_lst pa_nil) pa_nil)) (by rfl))
      (pss_cons (ps_for PassesOwn.never rfl (pi_list (pv 7)) (pg_name (i := 12) sc__law_history.nd rfl (Or.inl rfl))
      (pss_cons (ps_set (i := 4) sc__law_history.nd rfl (Or.inl rfl) (pe_callB call_len (by rfl) T.no_len (by decide +kernel) (pa_cons (pv 9) pa_nil)))
      (pss_mid (ps_set (i := 13) sc__law_history.nd rfl (Or.inl rfl) (pe_callB (call_min2 rfl) (by rfl) T.no_min (by decide +kernel) (pa_cons (pv 4) (pa_cons (pe_ix ix_seq (pe_lst (pa_cons (po_call (ok__law_pick T) (hr.mono (by decide)) T.mg__law_pick (pa_cons (pv 0) (pa_cons (pe_op op_addX (pv 4) pe_int) pa_nil))) (pa_cons pe_int (pa_cons (pv 4) (pa_cons (po_call (ok__law_pick T) (hr.mono (by decide)) T.mg__law_pick (pa_cons (pv 0) (pa_cons pe_int pa_nil))) pa_nil))))) (pv 8) (fun _ _ => rfl)) pa_nil))))
      (pss_mid (ps_if (pt_cmpR op_gt (pv 1) pe_int (nomark _)) (pss_one (ps_set (i := 13) sc__law_history.nd rfl (Or.inl rfl) (pe_bm PySem.F.plainAttrs_list PySem.F.slot_list_index PySem.F.type_list_index mt_index (pv 9) (pa_cons (pv 12) pa_nil)))) pss_nil)
      (pss_cons (ps_expr (pe_bm PySem.F.plainAttrs_list PySem.F.slot_list_append PySem.F.type_list_append mt_append (pv 11) (pa_cons (pe_tup (pa_cons (pv 12) (pa_cons (pv 13) pa_nil))) pa_nil)))
      (pss_one (ps_set (i := 9) sc__law_history.nd rfl (Or.inl rfl) (po_call (ok__law_played T) (hr.mono (by decide)) T.mg__law_played (pa_cons (pv 1) (pa_cons (pv 9) (pa_cons (pv 12) (pa_cons (pv 13) pa_nil))))))))))))
      (pss_one (ps_ret (pe_tup (pa_cons (pv 11) (pa_cons (pe_ifExp (pt_cmpR (op_eqX hr) (pv 1) pe_int (nomark _)) (pv 9) (pv 10)) pa_nil)))))))))))), ?_⟩
    refine ⟨_, rfl, _, rfl, addI ⟨p, _, n, rfl, by omega, by omega, hs, by omega, fun sz H1 sz0 sz1 s1 b1 => ?_⟩⟩
    refine ⟨_, rfl, _, rfl, addI ⟨p, _, n + 1, rfl, by omega, by omega, s1, by omega, fun ot H2 ot0 ot1 s2 b2 => ?_⟩⟩
    obtain ⟨sz, rfl⟩ : ∃ o : Nat, sz = o := ⟨sz.toNat, by omega⟩
    obtain ⟨ot, rfl⟩ : ∃ o : Nat, ot = o := ⟨ot.toNat, by omega⟩
    refine ⟨_, _, rfl, ?_⟩
    have b2 := b1.trans b2
    clear b1 s1
    refine ⟨_, rfl, _, rfl, _, rfl, addI ⟨p, n + 1 + 1, sz + ot, by rw [Int.natCast_add]; rfl, s2, by omega, by omega, fun nmD names H4 ni nlen b3 s3 nD4 h4 => ?_⟩⟩
    have b3 := b2.trans b3
    have pm : nmD ≠ p := SrcAt.ne s2 nD4
    clear s2 b2 nD4
    refine ⟨_, rfl, _, rfl, p, nmD, _, _, _, names, rfl, s3, h4, by omega, by omega, fun mxD mixed H5 mpm b4 s4 nD5 h5 => ?_⟩
    have h4 := b4 _ _ h4 pm
    have b4 := b3.trans b4
    refine ⟨_, rfl, _, rfl, mxD, _, rfl, SqL.of h5, fun mv nmv => ?_⟩
    rw [cut_to']
    have u6 := Same.new (o := .lst ((mixed.take sz).map V.str)) nmv
    have h4 := u6 _ _ h4
    have h6 : upd H5 mv (.lst ((mixed.take sz).map V.str)) mv = some (.lst ((mixed.take sz).map V.str)) := upd_same
    have s6 := SrcAt.same s4 u6
    have b6 := b4.trans (But.same u6)
    have mvp : mv ≠ p := SrcAt.ne s4 nmv
    have nm : (mixed.take sz).Nodup := ((ni.perm mpm).nd).sublist (List.take_sublist _ _)
    have sub : ∀ x ∈ mixed.take sz, x ∈ names := fun x hx => mpm.mem_iff.mp (List.mem_of_mem_take hx)
    have lmv : (mixed.take sz).length ≤ 40 := by rw [List.length_take]; omega
    have l60 : names.length ≤ 60 := by omega
    have sN : SrcAt (upd H5 mv (.lst ((mixed.take sz).map V.str))) p (n + 130) := s6.le (by omega)
    generalize upd H5 mv (.lst ((mixed.take sz).map V.str)) = H6 at h4 h6 sN b6 ⊢
    generalize mixed.take sz = moved at nm sub lmv h6 ⊢
    clear h5 s4 b4 nmv u6 s3 b3 mpm s6 nlen sz0 sz1 ot0 ot1
    refine ⟨_, rfl, p, 4, n + 130, rfl, by decide, by decide, sN, by omega, fun st H7 st0 st1 s7 b7 => ?_⟩
    have h7 := b7 _ _ h4 pm
    have m7 := b7 _ _ h6 mvp
    have b7 := b6.trans b7
    clear h4 h6 sN b6
    refine ⟨_, rfl, nmD, rfl, ⟨_, SqL.of h7⟩, fun hr nhr => ?_⟩
    refine lc_list (K := K) (a := nmD) (xs := names.map V.str) (fun i H' => Same H7 H' ∧ H' hr = some (.lst (((names.take i).filter (keepK kind moved)).map V.str))) ?_ ?_ ?_ ?_
    · exact ⟨Same.new nhr, upd_same⟩
    · rintro i H8 _ ⟨s8, _⟩
      exact SqL.of (s8 _ _ h7)
    · rintro i y H8 hy ⟨s8, h8⟩
      rw [List.getElem?_map] at hy
      cases ex : names[i]? with
      | none => rw [ex] at hy; cases hy
      | some x =>
        rw [ex] at hy
        cases hy
        have hi := (List.getElem?_eq_some_iff.mp ex).1
        have e9 : names.take (i + 1) = names.take i ++ [x] := by
          rw [List.take_add_one, ex]
          rfl
        have yes : keepK kind moved x = true → ∃ acc, H8 hr = some (.lst acc) ∧ acc.length < sizeLine ∧ Same H7 (upd H8 hr (.lst (acc ++ [V.str x]))) ∧ upd H8 hr (.lst (acc ++ [V.str x])) hr = some (.lst (((names.take (i + 1)).filter (keepK kind moved)).map V.str)) := fun kp => by
          refine ⟨_, h8, ?_, ?_, ?_⟩
          · rw [List.length_map]
            exact Nat.lt_of_le_of_lt (List.length_filter_le _ _) (Nat.lt_of_le_of_lt (List.length_take_le _ _) (Nat.lt_of_lt_of_le (show i < 1000 by omega) (by decide)))
          · intro c o eo
            rw [upd_ne (ne_of_none eo nhr)]
            exact s8 _ _ eo
          · rw [upd_same, e9, List.filter_append, List.filter_cons_of_pos kp, List.filter_nil, List.map_append]
            rfl
        refine ⟨rfl, _, rfl, _, _, rfl, rfl, _, rfl, ?_⟩
        refine ite2 (fun c => ?_) (fun c => ?_)
        · have kp : keepK kind moved x = true := by
            unfold keepK
            rw [show decide (kind > 0) = true from c]
            rfl
          exact ⟨_, rfl, yes kp⟩
        · refine ⟨_, rfl, _, rfl, mv, _, rfl, .inl (SqL.of (s8 _ _ m7)), rfl, flatS moved, ?_⟩
          rw [inS]
          have ek : keepK kind moved x = !decide (x ∈ moved) := by
            unfold keepK
            rw [show decide (kind > 0) = false from Bool.eq_false_iff.mpr c]
            rfl
          refine ⟨_, rfl, ?_⟩
          by_cases mem : x ∈ moved
          · rw [decide_eq_true mem]
            refine iteF ⟨s8, ?_⟩
            rw [h8, e9, List.filter_append, List.filter_cons_of_neg (by rw [ek, decide_eq_true mem]; decide), List.filter_nil, List.append_nil]
          · rw [decide_eq_false mem]
            exact iteT ⟨_, rfl, yes (by rw [ek, decide_eq_false mem]; rfl)⟩
    · rintro H8 ⟨s8, h8⟩
      rw [List.length_map, List.take_length] at h8
      refine ⟨_, rfl, hr, _, rfl, .inl (SqL.of h8), fun kn nkn => ⟨Nat.le_of_ble_eq_true rfl, fun pl npl => ⟨_, _, rfl, ?_⟩⟩⟩
      have hr0 := but_free b7 s7 nhr
      have s7' := SrcAt.same s7 s8
      have b8 := b7.trans (But.same s8)
      have kn0 := but_free b8 s7' nkn
      have u9 := Same.new (o := .lst ((names.filter (keepK kind moved)).map V.str)) nkn
      have u10 := Same.new (o := .lst []) npl
      have b10 := b8.trans ((But.same u9).trans (But.same u10))
      have pl0 := but_free (b8.trans (But.same u9)) (SrcAt.same s7' u9) npl
      have hrpl : hr ≠ pl := ne_of_none (u9 _ _ h8) npl
      have knpl : kn ≠ pl := ne_of_none upd_same npl
      have mvpl : mv ≠ pl := ne_of_none (u9 _ _ (s8 _ _ m7)) npl
      have e1 := u10 _ _ (u9 _ _ h8)
      have e2 := u10 _ _ (u9 _ _ (s8 _ _ m7))
      have e3 := u10 _ _ (show upd H8 kn (.lst ((names.filter (keepK kind moved)).map V.str)) kn = _ from upd_same)
      have e4 : upd (upd H8 kn (.lst ((names.filter (keepK kind moved)).map V.str))) pl (.lst []) pl = some (.lst []) := upd_same
      have s10 := SrcAt.same (SrcAt.same s7' u9) u10
      have hst := Hst.start (kind := kind) ni nm sub
      generalize upd (upd H8 kn (.lst ((names.filter (keepK kind moved)).map V.str))) pl (.lst []) = H10 at e1 e2 e3 e4 s10 b10 ⊢
      have hrp : hr ≠ p := SrcAt.ne hs hr0
      have knp : kn ≠ p := SrcAt.ne hs kn0
      have plp : pl ≠ p := SrcAt.ne hs pl0
      clear u9 u10 nkn npl nhr s8 h8 s7 b7 s7' b8 h7 m7 pm
      refine ⟨_, rfl, mv, rfl, ⟨_, SqL.of e2⟩, for_list (K := K) (a := mv) (xs := moved.map V.str) (fun i σ H' => ∃ (a4 a12 a13 : Option V) (nmD hr : Addr) (hs : List Str) (us : List V) (ps : List (Str × Nat)), σ = [some (.ref p), some (.int kind), some (.int most), some (.int more), a4, some (.int ot), some (.ref nmD), some (.ref mv), some (.int st), some (.ref hr), some (.ref kn), some (.ref pl), a12, a13] ∧ But p H H' ∧ SrcAt H' p (n + 140 + 2 * i) ∧ H' mv = some (.lst (moved.map V.str)) ∧ H' kn = some (.lst ((names.filter (keepK kind moved)).map V.str)) ∧ H' pl = some (.lst us) ∧ Prs H' us ps ∧ (∀ q ∈ ps, q.2 ≤ 60) ∧ ps.map (·.1) = moved.take i ∧ H' hr = some (.lst (hs.map V.str)) ∧ H hr = none ∧ hr ≠ pl ∧ Hst kind names moved hs i)
        ⟨_, _, _, _, hr, _, [], [], rfl, b10, s10.le (by omega), e2, e3, e4, .nil, (fun q hq => by cases hq), rfl, e1, hr0, hrpl, hst⟩ ?_ ?_ ?_⟩
      · rintro i σ H1 _ ⟨_, _, _, _, _, _, _, _, _, _, _, z, _⟩
        exact SqL.of z
      · clear e1 e2 e3 e4 s10 b10 hst hrpl hrp hr0 H10
        rintro i y σ H1 hy ⟨a4, a12, a13, nmD, hr, xs, us, ps, rfl, b1, s1, e1, e2, e3, p1, g1, q1, e4, hr0, hrpl, hst⟩
        rw [List.getElem?_map] at hy
        cases ex : moved[i]? with
        | none => rw [ex] at hy; cases hy
        | some x =>
        rw [ex] at hy
        cases hy
        have hi := (List.getElem?_eq_some_iff.mp ex).1
        obtain ⟨ixs, lxs⟩ := hst.good k0 k2 ni
        have hrp : hr ≠ p := SrcAt.ne hs hr0
        refine ⟨_, rfl, _, _, rfl, .inl ⟨_, SqL.of e4, rfl⟩, ?_⟩
        rw [List.length_map]
        refine ⟨fun σ1 H2 => ∃ m : Nat, m ≤ xs.length ∧ σ1 = [some (.ref p), some (.int kind), some (.int most), some (.int more), some (.int (xs.length : Nat)), some (.int ot), some (.ref nmD), some (.ref mv), some (.int st), some (.ref hr), some (.ref kn), some (.ref pl), some (.str x), some (.int (m : Nat))] ∧ But p H1 H2 ∧ SrcAt H2 p (n + 140 + 2 * i + 2), ?_, ?_⟩
        · refine ⟨_, rfl, _, rfl, _, rfl, addI ⟨p, _, n + 140 + 2 * i, rfl, by omega, by omega, s1, by omega, fun r1 H2 r10 r11 s2 b2 => ?_⟩⟩
          refine ⟨_, rfl, _, rfl, p, 2, _, rfl, by decide, by decide, s2, by omega, fun r4 H3 r40 r41 s3 b3 => ?_⟩
          refine ⟨Nat.le_of_ble_eq_true rfl, fun q nq => ?_⟩
          obtain ⟨z, hz, z0⟩ := pickI (zs := [r1, 0, (xs.length : Int), r4]) (fun z => 0 ≤ z)
            (by
              intro z hz
              simp only [List.mem_cons, List.not_mem_nil, or_false] at hz
              rcases hz with rfl | rfl | rfl | rfl <;> omega) st0 st1
          have uq := Same.new (o := .lst [.int r1, .int 0, .int (xs.length : Nat), .int r4]) nq
          refine ⟨_, rfl, ixL upd_same hz ⟨_, _, rfl, ?_⟩⟩
          obtain ⟨m, em, lm⟩ : ∃ m : Nat, (if z < (xs.length : Int) then z else (xs.length : Int)) = m ∧ m ≤ xs.length := ⟨(if z < (xs.length : Int) then z else (xs.length : Int)).toNat, by split <;> omega, by split <;> omega⟩
          rw [em]
          exact ⟨m, lm, rfl, (b2.trans b3).trans (But.same uq), (SrcAt.same s3 uq).le (by omega)⟩
        · rintro σ1 H2 ⟨m, lm, rfl, b2, s2⟩
          have b12 := b1.trans b2
          have p2 := p1.but s1 b2
          replace e1 := b2 _ _ e1 mvp
          replace e2 := b2 _ _ e2 knp
          replace e3 := b2 _ _ e3 plp
          replace e4 := b2 _ _ e4 hrp
          clear b1 s1 p1 b2
          refine ⟨fun σ1 H3 => ∃ m : Nat, m ≤ 60 ∧ (kind = 0 → m ≤ xs.length) ∧ (kind ≠ 0 → xs[m]? = some x) ∧ σ1 = [some (.ref p), some (.int kind), some (.int most), some (.int more), some (.int (xs.length : Nat)), some (.int ot), some (.ref nmD), some (.ref mv), some (.int st), some (.ref hr), some (.ref kn), some (.ref pl), some (.str x), some (.int (m : Nat))] ∧ H3 = H2, ?_, ?_⟩
          · refine ⟨_, rfl, _, _, rfl, rfl, _, rfl, ?_⟩
            refine ite2 (fun c => ?_) (fun c => ?_)
            · have kp : (0 : Int) < kind := of_decide_eq_true c
              obtain ⟨i1, i2, i3⟩ := ix_at (hst.preK k0 k2 (by omega) nm (sub _ (List.mem_of_getElem? ex)) ex)
              refine ⟨_, rfl, .inl ⟨rfl, _, SqL.of e4⟩, _, rfl, hr, _, _, ix xs x, _, rfl, rfl, SqL.of e4, rfl, flatS xs, ?_, (show eqV (.str x) (.str x) = true from beq_self_eq_true x), ?_, ?_⟩
              · rw [List.getElem?_map, i2]
                rfl
              · intro j z' hm hz
                rw [List.getElem?_map] at hz
                cases q : xs[j]? with
                | none => rw [q] at hz; cases hz
                | some z =>
                  rw [q] at hz
                  cases hz
                  exact beq_false_of_ne (i3 j z hm q)
              · exact ⟨ix xs x, by omega, fun h0 => by omega, fun _ => i2, rfl, rfl⟩
            · have kz : kind = 0 := by
                have : ¬ (0 : Int) < kind := fun z => c (decide_eq_true z)
                omega
              exact ⟨m, by omega, fun _ => lm, fun z => absurd kz z, rfl, rfl⟩
          · clear lm m
            rintro σ1 H3 ⟨m, m60, c0, c1, rfl, rfl⟩
            have lu := p2.len
            have lr : ps.length = i := by
              have := congrArg List.length q1
              rw [List.length_map, List.length_take] at this
              omega
            refine ⟨_, rfl, .inl ⟨rfl, _, SqL.of e3⟩, _, rfl, _, rfl, Nat.le_of_ble_eq_true rfl, fun t nt => ⟨pl, _, _, rfl, rfl, (Same.new nt) _ _ e3, Nat.lt_of_lt_of_le (show us.length < 1000 by omega) (by decide), ?_⟩⟩
            have ut := Same.new (o := .tup [.str x, .int (m : Nat)]) nt
            have p3 := ((p2.same ut).snoc (show upd H3 t (.tup [.str x, .int (m : Nat)]) t = _ from upd_same)).updL (o := .lst (us ++ [.ref t])) (ut _ _ e3)
            have b3 : But p H (upd (upd H3 t (.tup [.str x, .int (m : Nat)])) pl (.lst (us ++ [.ref t]))) := fun c o eo cp => by
              rw [upd_ne (ne_of_none eo pl0)]
              exact ut _ _ (b12 _ _ eo cp)
            have s3 : SrcAt (upd (upd H3 t (.tup [.str x, .int (m : Nat)])) pl (.lst (us ++ [.ref t]))) p (n + 140 + 2 * i + 2) := by
              obtain ⟨g, m', c, e, r⟩ := SrcAt.same s2 ut
              exact ⟨g, m', c, by rw [upd_ne plp.symm]; exact e, r⟩
            have f1 : upd (upd H3 t (.tup [.str x, .int (m : Nat)])) pl (.lst (us ++ [.ref t])) mv = some (.lst (moved.map V.str)) := by
              rw [upd_ne mvpl]
              exact ut _ _ e1
            have f2 : upd (upd H3 t (.tup [.str x, .int (m : Nat)])) pl (.lst (us ++ [.ref t])) kn = some (.lst ((names.filter (keepK kind moved)).map V.str)) := by
              rw [upd_ne knpl]
              exact ut _ _ e2
            have f3 : upd (upd H3 t (.tup [.str x, .int (m : Nat)])) pl (.lst (us ++ [.ref t])) pl = some (.lst (us ++ [.ref t])) := upd_same
            have f4 : upd (upd H3 t (.tup [.str x, .int (m : Nat)])) pl (.lst (us ++ [.ref t])) hr = some (.lst (xs.map V.str)) := by
              rw [upd_ne hrpl]
              exact ut _ _ e4
            generalize upd (upd H3 t (.tup [.str x, .int (m : Nat)])) pl (.lst (us ++ [.ref t])) = H4 at p3 b3 s3 f1 f2 f3 f4 ⊢
            refine ⟨_, rfl, _, rfl, _, rfl, _, rfl, kind, hr, xs, x, m, rfl, f4, by omega, k0, k2, (fun z => ⟨hst.pre0 z ni ex, c0 z⟩), c1, fun D H5 s5 nD5 h5 => ?_⟩
            refine ⟨_, _, _, _, D, _, _, ps ++ [(x, m)], rfl, b3.trans (But.same s5), (SrcAt.same s3 s5).le (by omega), s5 _ _ f1, s5 _ _ f2, s5 _ _ f3, p3.same s5, ?_, ?_, h5, but_free b3 s3 nD5, (ne_of_none f3 nD5).symm, hst.step ex c1⟩
            · intro q hq
              rcases List.mem_append.mp hq with hq | hq
              · exact g1 q hq
              · rw [List.mem_singleton.mp hq]
                exact m60
            · rw [List.map_append, q1, List.take_add_one, ex]
              rfl
      · rintro σ H1 ⟨a4, a12, a13, nmD, hr, xs, us, ps, rfl, b1, s1, e1, e2, e3, p1, g1, q1, e4, hr0, hrpl, hst⟩
        rw [List.length_map] at s1 q1 hst
        rw [List.take_length] at q1
        have lp : ps.length ≤ 40 := by
          have := congrArg List.length q1
          rw [List.length_map] at this
          omega
        have fin : ∀ (tp kl : Addr) (ys : List Str), H kl = none → H1 kl = some (.lst (ys.map V.str)) → Items ys → ys.length ≤ 60 → (∀ x ∈ moved, x ∈ ys) → H1 tp = none → Q (.ref tp) (upd H1 tp (.tup [.ref pl, .ref kl])) := fun tp kl ys kl0 ek iy ly my ntp => by
          have ut := Same.new (o := .tup [.ref pl, .ref kl]) ntp
          exact h tp pl kl us ps ys _ (b1.trans (But.same ut)) ((SrcAt.same s1 ut).le (by omega)) pl0 kl0 upd_same (ut _ _ e3) (p1.same ut) (ut _ _ ek) iy ly lp g1 (by rw [q1]; exact nm) (by rw [q1]; exact my)
        refine ⟨_, rfl, _, rfl, .inl ⟨rfl, _, rfl, ?_⟩⟩
        refine ite2 (fun c => ?_) (fun c => ?_)
        · have kz := eq_dec c
          have q := hst.h0 kz
          rw [List.drop_length, List.append_nil] at q
          exact ⟨_, rfl, Nat.le_of_ble_eq_true rfl, fun tp ntp => fin tp hr xs hr0 e4 (ni.perm q) (by rw [q.length_eq]; omega) (fun x hx => q.mem_iff.mpr (sub x hx)) ntp⟩
        · have kz := ne_dec c
          rw [keep_all (by omega)] at e2
          exact ⟨_, rfl, Nat.le_of_ble_eq_true rfl, fun tp ntp => fin tp kn names kn0 e2 ni (by omega) sub ntp⟩

end
end Own

set_option Elab.async false
set_option linter.all false
set_option maxRecDepth 100000
set_option maxHeartbeats 4000000
namespace Own
open PySem L2 ClX
local macro_rules | `(tactic| walk_at "v") => `(tactic| refine ⟨_, rfl, ?_⟩)
local macro_rules | `(tactic| walk_at "ii") => `(tactic| refine ⟨_, _, rfl, rfl, ?_⟩)
local macro_rules | `(tactic| walk_at "go") => `(tactic| repeat (first | refine ⟨_, rfl, ?_⟩ | refine ⟨_, _, rfl, rfl, ?_⟩ | refine addI ?_ | refine L2.iteT ?_ | refine L2.iteF ?_))

section
variable {P : Program} {w : World} {K : PySem.W.Frag} {mg : Str → Option Value} {base : Heap} {A : Ad}
/-! ### the range of an item's index -/
theorem rooms_val {fr : Bool} {ks : List Str} {i : Nat} (nd : ks.Nodup) (h : i < ks.length) : valV (roomsL fr ks) (Sum.inr ks[i]) = some (.int (roomV fr ks.length i)) := by
  have hl : (roomsL fr ks).length = ks.length := by
    unfold roomsL
    rw [List.length_map, List.length_range]
  have at' : ∀ j, (hj : j < ks.length) → (roomsL fr ks)[j]'(by omega) = (Sum.inr ks[j], V.int (roomV fr ks.length j)) := fun j hj => by
    have := rooms_get (fr := fr) hj
    rw [List.getElem?_eq_getElem (by omega)] at this
    exact Option.some.inj this
  have f : (roomsL fr ks).find? (fun kv => decide (kv.1 = Sum.inr ks[i])) = some (Sum.inr ks[i], V.int (roomV fr ks.length i)) := by
    refine List.find?_eq_some_iff_getElem.mpr ⟨decide_eq_true rfl, i, by omega, at' i h, fun j hj => ?_⟩
    rw [at' j (by omega)]
    have ne : ks[j] ≠ ks[i] := fun e => by
      have := (List.getElem_inj nd).mp e
      omega
    rw [decide_eq_false (fun z : (Sum.inr ks[j] : Key) = Sum.inr ks[i] => ne (Sum.inr.inj z))]
    rfl
  unfold valV
  rw [f]
  rfl
/-- the room of an item -/
def roomOf (way : Int) (qs : List (Int × Str × Nat)) (xs : List Str) (x : Str) : Int := roomV (frontB way qs) (knownL qs xs).length (ix (knownL qs xs) x)
def rangeOf (way : Int) (qs : List (Int × Str × Nat)) (xs : List Str) (x : Str) : Int × Int := if frontB way qs = true then ((ix xs x : Nat), (ix xs x : Nat) + roomOf way qs xs x) else ((ix xs x : Nat) - roomOf way qs xs x, (ix xs x : Nat))
def spRange (A : Ad) : Sp := fun vs H Q _ => ∃ (l k : Addr) (rs : List V) (way : Int) (qs : List (Int × Str × Nat)) (xs : List Str) (x : Str), vs = [.ref l, .ref k, .str x] ∧ H l = some (.lst rs) ∧ Rows A H rs qs ∧ LogQ way qs ∧ H k = some (.lst (xs.map V.str)) ∧ Items xs ∧ xs.length ≤ 60 ∧ (∀ x ∈ names qs, x ∈ xs) ∧ x ∈ names qs ∧
  ∀ (t : Addr) (H' : Hp), Same H H' → H t = none → H' t = some (.tup [.int (rangeOf way qs xs x).1, .int (rangeOf way qs xs x).2]) → Q (.ref t) H'
theorem len_index_range : ∀ vs H Q E, spRange A vs H Q E → vs.length = 3 := fun vs H Q E h => by
  obtain ⟨l, k, rs, way, qs, xs, x, rfl, _⟩ := h
  rfl
theorem body_index_range (T : Txt K mg A) : BodyX P w K mg base N_index_range "index_range" s_index_range A.f_index_range 5 (spRange A) := by
  intro cdv B up s H vs Q E hr h
  obtain ⟨l, k, rs, way, qs, xs, x, rfl, hl, rows, L, hk, ixs, lx, sub, mem, h⟩ := h
  refine ⟨_, (pss_cons (ps_expr (po_call (ok_check_log T) (hr.mono (by decide)) T.mg_check_log (pa_cons (pv 0) pa_nil)))
      (pss_cons (ps_expr (po_call (ok_check_known T) (hr.mono (by decide)) T.mg_check_known (pa_cons (pv 0) (pa_cons (pv 1) pa_nil))))
      (pss_cons (ps_set (i := 3) sc_index_range.nd rfl (Or.inl rfl) (po_call (ok_rooms_of T) (hr.mono (by decide)) T.mg_rooms_of (pa_cons (pv 0) (pa_cons (pv 1) pa_nil))))
      (pss_cons (ps_if (pt_cmp (pc_dnotin (Nat.lt_of_le_of_lt (Nat.add_le_add_left (show 1 ≤ 64 by decide) _) hr.units) (pv 2) (pv 3))) (pss_one (ps_raise rfl (takes_of rfl rfl rfl rfl) (pmk_own PySem.F.excBase_ValueError T.er_NoItem.xP T.mg_NoItem T.er_NoItem.kp (raises_own T.er_NoItem.bP T.er_NoItem.tP) rfl))) pss_nil)
      (pss_cons (ps_set (i := 4) sc_index_range.nd rfl (Or.inl rfl) (pe_bm PySem.F.plainAttrs_list PySem.F.slot_list_index PySem.F.type_list_index mt_index (pv 1) (pa_cons (pv 2) pa_nil)))
      (pss_cons (ps_if (pt_val (po_call (ok_is_fronted T) (hr.mono (by decide)) T.mg_is_fronted (pa_cons (pv 0) pa_nil))) (pss_one (ps_ret (pe_tup (pa_cons (pv 4) (pa_cons (pe_op op_addX (pv 4) (pe_dget (Nat.lt_of_le_of_lt (Nat.add_le_add_left (show 1 ≤ 64 by decide) _) hr.units) (pv 3) (pv 2) (fun _ _ => rfl))) pa_nil))))) pss_nil)
      (pss_one (ps_ret (pe_tup (pa_cons (pe_op op_sub (pv 4) (pe_dget (Nat.lt_of_le_of_lt (Nat.add_le_add_left (show 1 ≤ 64 by decide) _) hr.units) (pv 3) (pv 2) (fun _ _ => rfl))) (pa_cons (pv 4) pa_nil))))))))))), ?_⟩
  refine ⟨_, rfl, l, rs, way, qs, rfl, hl, rows, L, fun H1 s1 => ?_⟩
  refine ⟨_, rfl, _, rfl, l, k, rs, way, qs, xs, rfl, s1 _ _ hl, rows.same s1, L, s1 _ _ hk, ixs, lx, sub, fun H2 s2 => ?_⟩
  have S2 := s1.trans s2
  refine ⟨_, rfl, _, rfl, l, k, rs, way, qs, xs, rfl, S2 _ _ hl, rows.same S2, L, S2 _ _ hk, ixs, lx, fun D H3 s3 nD hD => ?_⟩
  have S3 := S2.trans s3
  have memk : x ∈ knownL qs xs := List.mem_filter.mpr ⟨sub x mem, decide_eq_true mem⟩
  obtain ⟨j1, j2, j3⟩ := ix_at memk
  obtain ⟨i1, i2, i3⟩ := ix_at (sub x mem)
  have ej : (knownL qs xs)[ix (knownL qs xs) x] = x := by
    have z := j2
    rw [List.getElem?_eq_getElem j1] at z
    exact Option.some.inj z
  have rv : valV (roomsL (frontB way qs) (knownL qs xs)) (Sum.inr x) = some (.int (roomOf way qs xs x)) := by
    have z := rooms_val (fr := frontB way qs) (ks := knownL qs xs) (ixs.nd.filter _) j1
    rw [ej] at z
    exact z
  have dg : DGet H3 D (.str x) (some (.int (roomOf way qs xs x))) := rv ▸ DGet.k (k := Sum.inr x) hD
  refine ⟨_, rfl, _, rfl, D, _, rfl, dg, _, rfl, iteF ?_⟩
  refine ⟨_, rfl, .inl ⟨rfl, _, SqL.of (S3 _ _ hk)⟩, _, rfl, k, _, _, ix xs x, _, rfl, rfl, SqL.of (S3 _ _ hk), rfl, flatS xs, ?_, (show eqV (.str x) (.str x) = true from beq_self_eq_true x), ?_, ?_⟩
  · rw [List.getElem?_map, i2]
    rfl
  · intro m z' hm hz
    rw [List.getElem?_map] at hz
    cases q : xs[m]? with
    | none => rw [q] at hz; cases hz
    | some z =>
      rw [q] at hz
      cases hz
      exact beq_false_of_ne (i3 m z hm q)
  refine ⟨_, rfl, l, rs, way, qs, rfl, S3 _ _ hl, rows.same S3, L, ?_⟩
  have re : rangeOf way qs xs x = if frontB way qs = true then (((ix xs x : Nat) : Int), (ix xs x : Nat) + roomOf way qs xs x) else ((ix xs x : Nat) - roomOf way qs xs x, ((ix xs x : Nat) : Int)) := rfl
  have fin : ∀ (t : Addr) (a b : Int), H3 t = none → rangeOf way qs xs x = (a, b) → Q (.ref t) (upd H3 t (.tup [.int a, .int b])) := fun t a b nt e => by
    refine h t _ (S3.trans (Same.new nt)) (none_same S3 nt) ?_
    rw [e]
    exact upd_same
  cases fb : frontB way qs with
  | true =>
    rw [fb, if_pos rfl] at re
    exact ⟨_, rfl, iteT ⟨_, rfl, _, rfl, _, rfl, _, rfl, D, _, rfl, dg, addI ⟨Nat.le_of_ble_eq_true rfl, fun t nt => fin t _ _ nt re⟩⟩⟩
  | false =>
    rw [fb, if_neg (by decide)] at re
    exact ⟨_, rfl, iteF ⟨_, rfl, _, rfl, _, rfl, D, _, rfl, dg, _, _, rfl, rfl, _, rfl, Nat.le_of_ble_eq_true rfl, fun t nt => fin t _ _ nt re⟩⟩
theorem ok_index_range (T : Txt K mg A) : OkX P w K mg base 6 A.f_index_range ["log", "items", "item"] (spRange A) := T.fn_index_range.okX sc_index_range (fun _ _ _ _ _ _ us hl => match us, hl with | [_, _, _], _ => rfl) len_index_range (body_index_range T)
theorem ok3_index_range (T : Txt K mg A) : OkX3 P w K mg base 6 A.f_index_range ["log", "items", "item"] ["item", "items", "log"] (spRange A) := T.fn_index_range.okX3 sc_index_range (fun _ _ _ _ _ _ _ _ _ => rfl) len_index_range (body_index_range T)

end
end Own

set_option Elab.async false
set_option linter.all false
set_option maxRecDepth 100000
set_option maxHeartbeats 4000000
namespace Own
open PySem L2 ClX
local macro_rules | `(tactic| walk_at "v") => `(tactic| refine ⟨_, rfl, ?_⟩)
local macro_rules | `(tactic| walk_at "ii") => `(tactic| refine ⟨_, _, rfl, rfl, ?_⟩)
local macro_rules | `(tactic| walk_at "go") => `(tactic| repeat (first | refine ⟨_, rfl, ?_⟩ | refine ⟨_, _, rfl, rfl, ?_⟩ | refine addI ?_ | refine L2.iteT ?_ | refine L2.iteF ?_))

section
variable {P : Program} {w : World} {K : PySem.W.Frag} {mg : Str → Option Value} {base : Heap} {A : Ad}
/-! ### the indices that fit -/
def qsI (x : Str) (i : Nat) (qs : List (Int × Str × Nat)) : List (Int × Str × Nat) := qs.map fun q => (q.1, q.2.1, if q.2.1 = x then i else q.2.2)
theorem qsI_names (x : Str) (i : Nat) (qs : List (Int × Str × Nat)) : names (qsI x i qs) = names qs := by
  unfold names qsI
  rw [List.map_map]
  rfl
theorem qsI_known (x : Str) (i : Nat) (qs : List (Int × Str × Nat)) (xs : List Str) : knownL (qsI x i qs) xs = knownL qs xs := by
  unfold knownL
  rw [qsI_names]
theorem qsI_slot {x : Str} {i : Nat} {qs : List (Int × Str × Nat)} (h : x ∈ names qs) : slotOf (qsI x i qs) x = i := by
  unfold slotOf qsI
  rw [List.find?_map]
  have ef : (fun q : Int × Str × Nat => decide (q.2.1 = x)) ∘ (fun q : Int × Str × Nat => (q.1, q.2.1, if q.2.1 = x then i else q.2.2)) = fun q : Int × Str × Nat => decide (q.2.1 = x) := rfl
  rw [ef]
  cases e : qs.find? (fun q : Int × Str × Nat => decide (q.2.1 = x)) with
  | none =>
    obtain ⟨q, hq, eq⟩ := List.mem_map.mp h
    exact absurd (decide_eq_true eq) (List.find?_eq_none.mp e q hq)
  | some r =>
    have e2 : r.2.1 = x := of_decide_eq_true (show decide (r.2.1 = x) = true from List.find?_some (p := fun q : Int × Str × Nat => decide (q.2.1 = x)) e)
    show (if r.2.1 = x then i else r.2.2) = i
    rw [if_pos e2]
def shI (kind : Int) (xs : List Str) (x : Str) (i : Nat) : Int := if decide (kind = 2) = true then (i : Int) - ((ix xs x : Nat) : Int) else ((ix xs x : Nat) : Int) - (i : Int)
def roomI (kind : Int) (qs : List (Int × Str × Nat)) (xs : List Str) (x : Str) : Int := roomV (decide (kind = 2)) (knownL qs xs).length (ix (knownL qs xs) x)
def fitB (kind : Int) (qs : List (Int × Str × Nat)) (xs : List Str) (x : Str) (i : Nat) : Bool := decide (0 ≤ shI kind xs x i) && decide (shI kind xs x i ≤ roomI kind qs xs x)
def fitL (kind : Int) (qs : List (Int × Str × Nat)) (xs : List Str) (x : Str) (n : Nat) : List Nat := (List.range n).filter (fitB kind qs xs x)
def vN (l : List Nat) : List V := l.map fun i => V.int (i : Nat)
def spFit : Sp := fun vs H Q _ => ∃ (kind : Int) (pl k : Addr) (ts : List V) (qs : List (Int × Str × Nat)) (xs : List Str) (x : Str), vs = [.int kind, .ref pl, .ref k, .str x] ∧ H pl = some (.lst ts) ∧ Prs H ts (pairsQ qs) ∧ (names qs).Nodup ∧ qs.length ≤ 40 ∧ 0 ≤ kind ∧ kind ≤ 2 ∧ H k = some (.lst (xs.map V.str)) ∧ Items xs ∧ xs.length ≤ 60 ∧ x ∈ names qs ∧ x ∈ xs ∧
  ∀ (D : Addr) (H' : Hp), Same H H' → H D = none → H' D = some (.lst (vN (fitL kind qs xs x 61))) → Q (.ref D) H'
theorem ok__law_fitting (T : Txt K mg A) : Ok1 P w K mg base 2 A.f__law_fitting ["kind", "pairs", "known", "name"] spFit := by
  refine T.fn__law_fitting.ok sc__law_fitting (fun _ _ _ _ _ _ us hl => match us, hl with | [_, _, _, _], _ => rfl) (fun vs H Q E h => ?_) (fun cdv B up s H vs Q E hr h => ?_)
  · obtain ⟨kind, pl, k, ts, qs, xs, x, rfl, _⟩ := h
    rfl
  · obtain ⟨kind, pl, k, ts, qs, xs, x, rfl, hp, prs, nd, lq, k0, k2, hk, ixs, lx, mx, mxx, h⟩ := h
    refine ⟨_, (pss_cons (ps_set (i := 4) sc__law_fitting.nd rfl (Or.inl rfl) (pe_lst pa_nil))
      (pss_cons (ps_for PassesOwn.never rfl (pi_range1 rfl T.no_range (pa_cons pe_int pa_nil)) (pg_name (i := 5) sc__law_fitting.nd rfl (Or.inr rfl))
      (pss_cons (ps_setLcD (i := 6) (own := [("one", 10), ("slot", 11)]) rfl sc__law_fitting.nd rfl rfl (sw_true rfl rfl rfl (by decide +kernel)) (pi_list (pv 1)) (blkOk_by (N := N__law_fitting) (sc := defScope s__law_fitting) (by decide +kernel)) (fun _ _ _ _ _ => pg_tup (by rfl) (pgs_cons (pg_name (i := 10) sc__law_fitting.nd rfl (Or.inl rfl)) (pgs_cons (pg_name (i := 11) sc__law_fitting.nd rfl (Or.inl rfl)) pgs_nil))) (fun _ _ _ _ _ => pts_nil) (fun _ _ _ _ _ => (pe_tup (pa_cons (pv 10) (pa_cons (pe_ifExp (pt_cmpR (op_eqX hr) (pv 10) (pv 3) (nomark _)) (pv 5) (pv 11)) pa_nil)))))
      (pss_cons (ps_setLcD (i := 7) (own := [("one", 10), ("shift", 8), ("room", 9)]) rfl sc__law_fitting.nd rfl rfl (sw_true rfl rfl rfl (by decide +kernel)) (pi_list (po_call (ok__law_sides T) (hr.mono (by decide)) T.mg__law_sides (pa_cons (pv 0) (pa_cons (pv 6) (pa_cons (pv 2) pa_nil))))) (blkOk_by (N := N__law_fitting) (sc := defScope s__law_fitting) (by decide +kernel)) (fun _ _ _ _ _ => pg_tup (by rfl) (pgs_cons (pg_name (i := 10) sc__law_fitting.nd rfl (Or.inl rfl)) (pgs_cons (pg_name (i := 8) sc__law_fitting.nd rfl (Or.inl rfl)) (pgs_cons (pg_name (i := 9) sc__law_fitting.nd rfl (Or.inl rfl)) pgs_nil)))) (fun _ _ _ _ _ => (pts_one (pt_cmpR (op_eqX hr) (pv 10) (pv 3) (nomark _)))) (fun _ _ _ _ _ => (pe_tup (pa_cons (pv 8) (pa_cons (pv 9) pa_nil)))))
      (pss_cons (ps_asg (pe_ix ix_seq (pv 7) pe_int (fun _ _ => rfl)) (pg_tup (by rfl) (pgs_cons (pg_name (i := 8) sc__law_fitting.nd rfl (Or.inl rfl)) (pgs_cons (pg_name (i := 9) sc__law_fitting.nd rfl (Or.inl rfl)) pgs_nil))))
      (pss_one (ps_if (pt_chain op_le op_le pe_int (pv 8) (pv 9)) (pss_one (ps_expr (pe_bm PySem.F.plainAttrs_list PySem.F.slot_list_append PySem.F.type_list_append mt_append (pv 4) (pa_cons (pv 5) pa_nil)))) pss_nil))))))
      (pss_one (ps_ret (pv 4))))), ?_⟩
    refine ⟨Nat.le_of_ble_eq_true rfl, fun F nF => ?_⟩
    refine ⟨_, rfl, by decide, by decide, for_range (lo := 0) (n := 61) (fun i σ H' => (∃ v5 v6 v7 v8 v9 : Option V, σ = [some (.int kind), some (.ref pl), some (.ref k), some (.str x), some (.ref F), v5, v6, v7, v8, v9, none, none]) ∧ Same H H' ∧ H' F = some (.lst (vN (fitL kind qs xs x i))))
      ⟨⟨_, _, _, _, _, rfl⟩, Same.new nF, upd_same⟩ ?_ ?_⟩
    · rintro i σ H1 hi ⟨⟨v5, v6, v7, v8, v9, rfl⟩, s1, h1⟩
      have lt := prs.len
      refine ⟨_, rfl, pl, rfl, ⟨_, SqL.of (s1 _ _ hp)⟩, fun O nO => ?_⟩
      refine lc_list (K := K) (a := pl) (xs := ts) (fun j H' => Same H1 H' ∧ ∃ us, H' O = some (.lst us) ∧ Prs H' us ((pairsQ (qsI x i qs)).take j)) ?_ ?_ ?_ ?_
      · exact ⟨Same.new nO, [], upd_same, .nil⟩
      · rintro j H2 _ ⟨s2, _⟩
        exact SqL.of (s2 _ _ (s1 _ _ hp))
      · rintro j y H2 hy ⟨s2, us, h2, p2⟩
        obtain ⟨t, z, m, rfl, hq, ht⟩ := prs.get hy
        have ht2 := s2 _ _ (s1 _ _ ht)
        have hj := (List.getElem?_eq_some_iff.mp hq).1
        have lp := p2.len
        rw [List.length_take] at lp
        unfold pairsQ at hj
        rw [List.length_map] at hj
        have fin : ∀ (n : Nat) (v : Int), v = (n : Int) → n = (if z = x then i else m) → ∀ t2, H2 t2 = none → ∃ acc, upd H2 t2 (.tup [.str z, .int v]) O = some (.lst acc) ∧ acc.length < sizeLine ∧ Same H1 (upd (upd H2 t2 (.tup [.str z, .int v])) O (.lst (acc ++ [V.ref t2]))) ∧ ∃ us, upd (upd H2 t2 (.tup [.str z, .int v])) O (.lst (acc ++ [V.ref t2])) O = some (.lst us) ∧ Prs (upd (upd H2 t2 (.tup [.str z, .int v])) O (.lst (acc ++ [V.ref t2]))) us ((pairsQ (qsI x i qs)).take (j + 1)) := fun n v ev en t2 nt2 => by
          subst ev
          have ut := Same.new (o := .tup [.str z, .int (n : Nat)]) nt2
          have e2 := ut _ _ h2
          refine ⟨us, e2, Nat.lt_of_lt_of_le (show us.length < 1000 by omega) (by decide), fun c o eo => ?_, us ++ [.ref t2], upd_same, ?_⟩
          · rw [upd_ne (ne_of_none eo nO)]
            exact ut _ _ (s2 _ _ eo)
          · have ti : (pairsQ (qsI x i qs))[j]? = some (z, n) := by
              unfold pairsQ at hq
              unfold pairsQ qsI
              rw [List.map_map, List.getElem?_map]
              rw [List.getElem?_map] at hq
              cases q : qs[j]? with
              | none => rw [q] at hq; cases hq
              | some r =>
                rw [q] at hq
                obtain ⟨ez, em⟩ := Prod.mk.inj (Option.some.inj hq)
                show some (r.2.1, if r.2.1 = x then i else r.2.2) = some (z, n)
                rw [ez, em, en]
            rw [List.take_add_one, ti]
            exact ((p2.same ut).snoc upd_same).updL e2
        refine ⟨_, _, rfl, SqT.of ht2, rfl, _, _, rfl, _, _, rfl, rfl, rfl, _, rfl, _, rfl, _, rfl, eqS rfl ⟨_, rfl, ?_⟩⟩
        refine ite2 (fun c => ?_) (fun c => ?_)
        · have c := V.str.inj (of_decide_eq_true c)
          exact ⟨_, rfl, Nat.le_of_ble_eq_true rfl, fun t2 nt2 => fin i _ (by omega) (by rw [if_pos c]) t2 nt2⟩
        · have c : z ≠ x := fun e => c (decide_eq_true (by rw [e]))
          exact ⟨_, rfl, Nat.le_of_ble_eq_true rfl, fun t2 nt2 => fin m _ rfl (by rw [if_neg c]) t2 nt2⟩
      · rintro H2 ⟨s2, us, h2, p2⟩
        have ll : ts.length = (pairsQ (qsI x i qs)).length := by
          rw [lt]
          unfold pairsQ qsI
          rw [List.length_map, List.length_map, List.length_map]
        rw [ll, List.take_length] at p2
        have S2 := s1.trans s2
        have lk : (qsI x i qs).length ≤ 40 := by
          unfold qsI
          rw [List.length_map]
          exact lq
        refine ⟨_, rfl, _, rfl, _, rfl, kind, O, k, us, qsI x i qs, xs, rfl, h2, p2, by rw [qsI_names]; exact nd, lk, k0, k2, S2 _ _ hk, ixs, lx, fun D us2 H3 s3 hD t3 => ?_⟩
        rw [qsI_known] at t3
        refine ⟨D, rfl, ⟨_, SqL.of hD⟩, fun R nR => ?_⟩
        have memk : x ∈ knownL qs xs := List.mem_filter.mpr ⟨mxx, decide_eq_true mx⟩
        obtain ⟨j1, j2, j3⟩ := ix_at memk
        have ej : (knownL qs xs)[ix (knownL qs xs) x] = x := by
          have z := j2
          rw [List.getElem?_eq_getElem j1] at z
          exact Option.some.inj z
        have ndk : (knownL qs xs).Nodup := ixs.nd.filter _
        have lu := t3.len
        rw [sides_len] at lu
        refine lc_list (K := K) (a := D) (xs := us2) (fun j H' => Same H3 H' ∧ ((j ≤ ix (knownL qs xs) x ∧ H' R = some (.lst [])) ∨ (ix (knownL qs xs) x < j ∧ ∃ t, H' R = some (.lst [.ref t]) ∧ H' t = some (.tup [.int (shI kind xs x i), .int (roomI kind qs xs x)])))) ?_ ?_ ?_ ?_
        · exact ⟨Same.new nR, .inl ⟨Nat.zero_le _, upd_same⟩⟩
        · rintro j H4 _ ⟨s4, _⟩
          exact SqL.of (s4 _ _ hD)
        · rintro j y H4 hy ⟨s4, h4⟩
          obtain ⟨t, z, a, b, rfl, hq, ht⟩ := t3.get hy
          have ht4 := s4 _ _ ht
          have hj : j < (knownL qs xs).length := by
            have := (List.getElem?_eq_some_iff.mp hq).1
            rw [sides_len] at this
            exact this
          have hq2 : z = (knownL qs xs)[j] ∧ a = shiftOf (decide (kind = 2)) xs (qsI x i qs) (knownL qs xs)[j] ∧ b = roomV (decide (kind = 2)) (knownL qs xs).length j := by
            unfold sidesQ at hq
            rw [List.getElem?_map, List.getElem?_range hj] at hq
            have e := Option.some.inj hq
            dsimp only at e
            rw [getD_at hj] at e
            obtain ⟨e1, e2⟩ := Prod.mk.inj e
            obtain ⟨e2, e3⟩ := Prod.mk.inj e2
            exact ⟨e1.symm, e2.symm, e3.symm⟩
          obtain ⟨ez, ea, eb⟩ := hq2
          refine ⟨_, _, rfl, SqT.of ht4, rfl, _, _, rfl, _, _, rfl, _, _, rfl, rfl, rfl, _, rfl, _, rfl, eqS rfl ⟨_, rfl, ?_⟩⟩
          refine ite2 (fun c => ?_) (fun c => ?_)
          · have c := V.str.inj (of_decide_eq_true c)
            have jb : j = ix (knownL qs xs) x := by
              have e : (knownL qs xs)[j] = (knownL qs xs)[ix (knownL qs xs) x] := by rw [ej, ← ez, c]
              exact (List.getElem_inj ndk).mp e
            have ea2 : a = shI kind xs x i := by
              rw [ea, ← ez, c]
              unfold shiftOf shI
              rw [qsI_slot mx]
            have eb2 : b = roomI kind qs xs x := by
              rw [eb, jb]
              rfl
            refine ⟨_, rfl, _, rfl, Nat.le_of_ble_eq_true rfl, fun t2 nt2 => ?_⟩
            have ut := Same.new (o := .tup [.int a, .int b]) nt2
            rcases h4 with ⟨_, h4⟩ | ⟨w, _⟩
            · refine ⟨[], ut _ _ h4, by decide, fun c o eo => ?_, .inr ⟨by omega, t2, upd_same, ?_⟩⟩
              · rw [upd_ne (ne_of_none eo nR)]
                exact ut _ _ (s4 _ _ eo)
              · rw [upd_ne (ne_of_none h4 nt2).symm, upd_same, ea2, eb2]
            · omega
          · have c : z ≠ x := fun e => c (decide_eq_true (by rw [e]))
            have jb : j ≠ ix (knownL qs xs) x := fun e => c (by
              subst e
              rw [ez, ej])
            refine ⟨s4, ?_⟩
            rcases h4 with ⟨w, h4⟩ | ⟨w, h4⟩
            · exact .inl ⟨by omega, h4⟩
            · exact .inr ⟨by omega, h4⟩
        · rintro H4 ⟨s4, h4⟩
          rw [lu] at h4
          rcases h4 with ⟨w, _⟩ | ⟨_, t, hR, ht⟩
          · omega
          refine ⟨_, rfl, ixL hR (v := .ref t) (atI0 _ _) ⟨t, _, rfl, SqT.of ht, rfl, _, _, rfl, _, _, rfl, rfl, ?_⟩⟩
          have S4 := S2.trans (s3.trans s4)
          have hF := (s2.trans (s3.trans s4)) _ _ h1
          have lf : (fitL kind qs xs x i).length ≤ i := Nat.le_trans (List.length_filter_le _ _) (by rw [List.length_range]; exact Nat.le_refl _)
          have succ : fitL kind qs xs x (i + 1) = fitL kind qs xs x i ++ (if fitB kind qs xs x i = true then [i] else []) := by
            unfold fitL
            rw [List.range_succ, List.filter_append, List.filter_cons, List.filter_nil]
          refine ⟨_, rfl, _, _, rfl, rfl, _, rfl, ?_⟩
          by_cases hA : 0 ≤ shI kind xs x i
          · rw [decide_eq_true hA]
            refine iteT ⟨_, rfl, _, _, rfl, rfl, _, rfl, ?_⟩
            by_cases hB : shI kind xs x i ≤ roomI kind qs xs x
            · rw [decide_eq_true hB]
              have fb : fitB kind qs xs x i = true := by
                unfold fitB
                rw [decide_eq_true hA, decide_eq_true hB]
                rfl
              refine iteT ⟨_, rfl, .inl ⟨rfl, _, SqL.of hF⟩, _, rfl, F, _, _, rfl, rfl, hF, ?_, ⟨_, _, _, _, _, rfl⟩, fun c o eo => ?_, ?_⟩
              · unfold vN
                rw [List.length_map]
                exact Nat.lt_of_lt_of_le (show _ < 1000 by omega) (by decide)
              · rw [upd_ne (ne_of_none eo nF)]
                exact S4 _ _ eo
              · rw [upd_same, succ, if_pos fb]
                unfold vN
                rw [List.map_append]
                have z0 : (0 + (i : Int)) = ((i : Nat) : Int) := by omega
                rw [z0]
                rfl
            · rw [decide_eq_false hB]
              have fb : fitB kind qs xs x i = false := by
                unfold fitB
                rw [decide_eq_false hB, Bool.and_false]
              refine iteF ⟨⟨_, _, _, _, _, rfl⟩, S4, ?_⟩
              rw [hF, succ, fb, if_neg (by decide), List.append_nil]
          · rw [decide_eq_false hA]
            have fb : fitB kind qs xs x i = false := by
              unfold fitB
              rw [decide_eq_false hA, Bool.false_and]
            refine iteF ⟨_, rfl, iteF ⟨⟨_, _, _, _, _, rfl⟩, S4, ?_⟩⟩
            rw [hF, succ, fb, if_neg (by decide), List.append_nil]
    · rintro σ H1 ⟨⟨v5, v6, v7, v8, v9, rfl⟩, s1, h1⟩
      exact ⟨_, rfl, h F H1 s1 nF h1⟩

end
end Own

set_option Elab.async false
set_option linter.all false
set_option maxRecDepth 100000
set_option maxHeartbeats 4000000
namespace Own
open PySem L2 ClX
local macro_rules | `(tactic| walk_at "v") => `(tactic| refine ⟨_, rfl, ?_⟩)
local macro_rules | `(tactic| walk_at "ii") => `(tactic| refine ⟨_, _, rfl, rfl, ?_⟩)
local macro_rules | `(tactic| walk_at "go") => `(tactic| repeat (first | refine ⟨_, rfl, ?_⟩ | refine ⟨_, _, rfl, rfl, ?_⟩ | refine addI ?_ | refine L2.iteT ?_ | refine L2.iteF ?_))

section
variable {P : Program} {w : World} {K : PySem.W.Frag} {mg : Str → Option Value} {base : Heap} {A : Ad}
/-! ### ranges, as numbers -/
theorem ix_filter (p : Str → Bool) (x : Str) (hp : p x = true) : ∀ xs : List Str, x ∈ xs → ix (xs.filter p) x ≤ ix xs x ∧ (xs.filter p).length + ix xs x ≤ xs.length + ix (xs.filter p) x
  | [], h => by cases h
  | y :: ys, h => by
    unfold ix
    by_cases e : y = x
    · subst e
      rw [List.filter_cons_of_pos hp, List.idxOf_cons_self, List.idxOf_cons_self]
      have := List.length_filter_le p ys
      simp only [List.length_cons]
      omega
    · have h2 : x ∈ ys := (List.mem_cons.mp h).resolve_left fun z => e z.symm
      have ih := ix_filter p x hp ys h2
      unfold ix at ih
      have e1 : (y :: ys).idxOf x = ys.idxOf x + 1 := by
        rw [List.idxOf_cons, beq_false_of_ne e]
        rfl
      rw [e1]
      cases hy : p y with
      | true =>
        rw [List.filter_cons_of_pos hy]
        have e2 : (y :: ys.filter p).idxOf x = (ys.filter p).idxOf x + 1 := by
          rw [List.idxOf_cons, beq_false_of_ne e]
          rfl
        rw [e2]
        simp only [List.length_cons]
        omega
      | false =>
        rw [List.filter_cons_of_neg (by rw [hy]; decide)]
        simp only [List.length_cons]
        omega
theorem front_mem {kind : Int} {qs : List (Int × Str × Nat)} {x : Str} (h : x ∈ names qs) : frontB kind qs = decide (kind = 2) := by
  unfold frontB
  refine decide_eq_decide.mpr ⟨fun z => z.2, fun z => ⟨fun e => ?_, z⟩⟩
  rw [e] at h
  cases h
structure Rng (kind : Int) (qs : List (Int × Str × Nat)) (xs : List Str) (x : Str) (lo hi : Nat) : Prop where
  e : rangeOf kind qs xs x = ((lo : Int), (hi : Int))
  le : lo ≤ hi
  h60 : hi ≤ 60
  fit : ∀ i, fitB kind qs xs x i = (decide (lo ≤ i) && decide (i ≤ hi))
theorem rng_of {kind : Int} {qs : List (Int × Str × Nat)} {xs : List Str} {x : Str} (mx : x ∈ names qs) (mxx : x ∈ xs) (lx : xs.length ≤ 60) : ∃ lo hi, Rng kind qs xs x lo hi := by
  have hp : decide (x ∈ names qs) = true := decide_eq_true mx
  obtain ⟨a, b⟩ := ix_filter (fun x => decide (x ∈ names qs)) x hp xs mxx
  have memk : x ∈ knownL qs xs := List.mem_filter.mpr ⟨mxx, hp⟩
  obtain ⟨j1, _, _⟩ := ix_at memk
  obtain ⟨i1, _, _⟩ := ix_at mxx
  have fr := front_mem (kind := kind) mx
  have a : ix (knownL qs xs) x ≤ ix xs x := a
  have b : (knownL qs xs).length + ix xs x ≤ xs.length + ix (knownL qs xs) x := b
  by_cases k2 : kind = 2
  · refine ⟨ix xs x, ix xs x + ((knownL qs xs).length - 1 - ix (knownL qs xs) x), ?_, by omega, by omega, fun i => ?_⟩
    · unfold rangeOf roomOf roomV
      rw [fr, decide_eq_true k2, if_pos rfl, if_pos rfl]
      refine Prod.ext rfl ?_
      show ((ix xs x : Nat) : Int) + _ = _
      omega
    · unfold fitB shI roomI roomV
      rw [decide_eq_true k2, if_pos rfl, if_pos rfl]
      refine congr (congrArg _ ?_) ?_
      · exact decide_eq_decide.mpr ⟨fun z => by omega, fun z => by omega⟩
      · exact decide_eq_decide.mpr ⟨fun z => by omega, fun z => by omega⟩
  · refine ⟨ix xs x - ix (knownL qs xs) x, ix xs x, ?_, by omega, by omega, fun i => ?_⟩
    · unfold rangeOf roomOf roomV
      rw [fr, decide_eq_false k2, if_neg (by decide), if_neg (by decide)]
      refine Prod.ext ?_ rfl
      show ((ix xs x : Nat) : Int) - _ = _
      omega
    · unfold fitB shI roomI roomV
      rw [decide_eq_false k2, if_neg (by decide), if_neg (by decide)]
      rw [Bool.and_comm]
      refine congr (congrArg _ ?_) ?_
      · exact decide_eq_decide.mpr ⟨fun z => by omega, fun z => by omega⟩
      · exact decide_eq_decide.mpr ⟨fun z => by omega, fun z => by omega⟩
/-- the fitting indices are a range -/
theorem range_filter (lo hi : Nat) : ∀ n, hi < n → (List.range n).filter (fun i => decide (lo ≤ i) && decide (i ≤ hi)) = List.range' lo (hi + 1 - lo)
  | 0, h => by omega
  | n + 1, h => by
    rw [List.range_succ, List.filter_append, List.filter_cons, List.filter_nil]
    by_cases c : hi < n
    · rw [range_filter lo hi n c, decide_eq_false (show ¬ n ≤ hi by omega), Bool.and_false, if_neg (by decide), List.append_nil]
    · have e : hi = n := by omega
      subst e
      have all : ∀ m, m ≤ hi → (List.range m).filter (fun i => decide (lo ≤ i) && decide (i ≤ hi)) = List.range' lo (m - lo) := fun m => by
        induction m with
        | zero => intro _; rw [Nat.zero_sub]; rfl
        | succ m ih =>
          intro hm
          rw [List.range_succ, List.filter_append, List.filter_cons, List.filter_nil, ih (by omega), decide_eq_true (show m ≤ hi by omega), Bool.and_true]
          by_cases d : lo ≤ m
          · rw [if_pos (decide_eq_true d), show m + 1 - lo = (m - lo) + 1 by omega, List.range'_1_concat, show lo + (m - lo) = m by omega]
          · rw [if_neg (by rw [decide_eq_false d]; decide), show m - lo = 0 by omega, show m + 1 - lo = 0 by omega, List.append_nil]
      rw [all hi (Nat.le_refl _)]
      by_cases d : lo ≤ hi
      · rw [decide_eq_true d, decide_eq_true (Nat.le_refl hi), Bool.and_self, if_pos rfl, show hi + 1 - lo = (hi - lo) + 1 by omega, List.range'_1_concat, show lo + (hi - lo) = hi by omega]
      · rw [decide_eq_false d, Bool.false_and, if_neg (by decide), show hi - lo = 0 by omega, show hi + 1 - lo = 0 by omega, List.append_nil]
theorem Rng.fits {kind : Int} {qs : List (Int × Str × Nat)} {xs : List Str} {x : Str} {lo hi : Nat} (r : Rng kind qs xs x lo hi) : fitL kind qs xs x 61 = List.range' lo (hi + 1 - lo) := by
  unfold fitL
  have e : fitB kind qs xs x = fun i => decide (lo ≤ i) && decide (i ≤ hi) := funext r.fit
  rw [e]
  exact range_filter lo hi 61 (by have := r.h60; omega)
/-- no certificate: every index fits -/
theorem shift_fit {kind : Int} {qs : List (Int × Str × Nat)} {xs : List Str} {x : Str} : shI kind xs x (slotOf qs x) = shiftOf (decide (kind = 2)) xs qs x := rfl
theorem cert_none {sh rm : Int} {x : Str} : certO sh rm x = none ↔ 0 ≤ sh ∧ sh ≤ rm := by
  unfold certO
  by_cases a : sh < 0
  · rw [if_pos a]
    exact ⟨(fun z => by cases z), (fun z => by omega)⟩
  · rw [if_neg a]
    by_cases b : rm < sh
    · rw [if_pos b]
      exact ⟨(fun z => by cases z), (fun z => by omega)⟩
    · rw [if_neg b]
      exact ⟨fun _ => by omega, fun _ => rfl⟩
theorem first_none {kind : Int} {qs : List (Int × Str × Nat)} {xs : List Str} (ixs : Items xs) (sub : ∀ x ∈ names qs, x ∈ xs) : firstC kind qs xs = none ↔ ∀ x ∈ names qs, fitB kind qs xs x (slotOf qs x) = true := by
  have ndk : (knownL qs xs).Nodup := ixs.nd.filter _
  have one : ∀ x ∈ names qs, ∃ b, ∃ h : b < (knownL qs xs).length, (knownL qs xs)[b] = x ∧ ix (knownL qs xs) x = b := fun x hx => by
    have memk : x ∈ knownL qs xs := List.mem_filter.mpr ⟨sub x hx, decide_eq_true hx⟩
    obtain ⟨j1, j2, _⟩ := ix_at memk
    rw [List.getElem?_eq_getElem j1] at j2
    exact ⟨_, j1, Option.some.inj j2, rfl⟩
  have fitC : ∀ b, (h : b < (knownL qs xs).length) → (certF (frontB kind qs) xs qs (knownL qs xs) b = none ↔ fitB kind qs xs (knownL qs xs)[b] (slotOf qs (knownL qs xs)[b]) = true) := fun b h => by
    have mem := (List.mem_filter.mp (List.getElem_mem h))
    have mx : (knownL qs xs)[b] ∈ names qs := of_decide_eq_true mem.2
    have eb : ix (knownL qs xs) (knownL qs xs)[b] = b := by
      obtain ⟨b', h', e1, e2⟩ := one _ mx
      rw [e2]
      exact (List.getElem_inj ndk).mp e1
    unfold certF
    rw [getD_at h, cert_none, front_mem mx]
    unfold fitB roomI
    rw [shift_fit, eb]
    simp only [Bool.and_eq_true, decide_eq_true_eq]
  unfold firstC
  rw [List.head?_eq_none_iff]
  unfold certsTo
  rw [List.filterMap_eq_nil_iff]
  constructor
  · intro all x hx
    obtain ⟨b, h, e1, _⟩ := one x hx
    have z := (fitC b h).mp (all b (List.mem_range.mpr h))
    rw [e1] at z
    exact z
  · intro all b hb
    have h := List.mem_range.mp hb
    exact (fitC b h).mpr (all _ (of_decide_eq_true (List.mem_filter.mp (List.getElem_mem h)).2))

end
end Own

set_option Elab.async false
set_option linter.all false
set_option maxRecDepth 100000
set_option maxHeartbeats 4000000
namespace Own
open PySem L2 ClX
local macro_rules | `(tactic| walk_at "v") => `(tactic| refine ⟨_, rfl, ?_⟩)
local macro_rules | `(tactic| walk_at "ii") => `(tactic| refine ⟨_, _, rfl, rfl, ?_⟩)
local macro_rules | `(tactic| walk_at "go") => `(tactic| repeat (first | refine ⟨_, rfl, ?_⟩ | refine ⟨_, _, rfl, rfl, ?_⟩ | refine addI ?_ | refine L2.iteT ?_ | refine L2.iteF ?_))

section
variable {P : Program} {w : World} {K : PySem.W.Frag} {mg : Str → Option Value} {base : Heap} {A : Ad}
/-! ### one question -/
def pdata (qs : List (Int × Str × Nat)) : PyData := .list ((pairsQ qs).map fun p => .tuple [.str p.1, .int (p.2 : Nat)])
theorem Prs.dp {H : Hp} {vs : List V} {ps : List (Str × Nat)} (h : Prs H vs ps) : DpAll K H vs (ps.map fun p => PyData.tuple [.str p.1, .int (p.2 : Nat)]) := by
  induction h with
  | nil => exact .nil
  | cons e _ ih => exact .cons (.tup (SqT.of e) (.cons (.str _) (.cons (.int _) .nil))) ih
theorem showableP : ∀ ps : List (Str × Nat), (∀ p ∈ ps, p.2 ≤ 60) → PyData.showableAll (ps.map fun p => PyData.tuple [.str p.1, .int (p.2 : Nat)]) = true
  | [], _ => by simp [PyData.showableAll]
  | p :: ps, h => by
    have ih := showableP ps fun y hy => h y (List.mem_cons_of_mem _ hy)
    have hp := h p List.mem_cons_self
    have lg : p.2.log2 < 1920 := Nat.lt_of_le_of_lt (Nat.log2_le_self p.2) (by omega)
    simp [PyData.showableAll, PyData.showable, ih, lg]
theorem noDictP : ∀ ps : List (Str × Nat), PyData.hasDictAll (ps.map fun p => PyData.tuple [.str p.1, .int (p.2 : Nat)]) = false
  | [] => by simp [PyData.hasDictAll]
  | p :: ps => by simp [PyData.hasDictAll, PyData.hasDict, noDictP ps]
theorem depthPr : ∀ ps : List (Str × Nat), PyData.depthAll (ps.map fun p => PyData.tuple [.str p.1, .int (p.2 : Nat)]) ≤ 1
  | [] => by simp [PyData.depthAll]
  | p :: ps => by
    have := depthPr ps
    simp only [List.map_cons, PyData.depthAll, PyData.depth]
    omega
theorem shownP : ∀ ps : List (Str × Nat), PyData.shownAll (ps.map fun p => PyData.tuple [.str p.1, .int (p.2 : Nat)]) = ps.map fun p => (PyData.tuple [.str p.1, .int (p.2 : Nat)]).shown
  | [] => by simp [PyData.shownAll]
  | p :: ps => by simp [PyData.shownAll, shownP ps]
theorem pair_len {x : Str} {n : Nat} (hx : isItem x = true) (hn : n ≤ 60) : (PyData.tuple [.str x, .int (n : Nat)]).shown.length ≤ 200 := by
  have q := StrLaws.reprText_len x fun c hc => Nat.lt_of_lt_of_le (item_chars hx c hc) (by decide)
  have l := item_len hx
  have ln : (PyData.int ((n : Nat) : Int)).shown.length ≤ 10 := by
    have all : ∀ m : Fin 61, (PyData.int (((m : Nat)) : Int)).shown.length ≤ 10 := by decide +kernel
    exact all ⟨n, by omega⟩
  have z := tupleText_len_le [reprText x, (PyData.int ((n : Nat) : Int)).shown]
  have e : (PyData.tuple [.str x, .int (n : Nat)]).shown = tupleText [reprText x, (PyData.int ((n : Nat) : Int)).shown] := by
    simp only [PyData.shown, PyData.shownAll]
  rw [e]
  simp only [List.map_cons, List.map_nil, List.sum_cons, List.sum_nil, List.length_cons, List.length_nil] at z
  omega
theorem sumP : ∀ ps : List (Str × Nat), (∀ p ∈ ps, isItem p.1 = true ∧ p.2 ≤ 60) → ((ps.map fun p => (PyData.tuple [.str p.1, .int (p.2 : Nat)]).shown).map (·.length)).sum ≤ 200 * ps.length
  | [], _ => by simp
  | p :: ps, h => by
    have ih := sumP ps fun y hy => h y (List.mem_cons_of_mem _ hy)
    obtain ⟨a, b⟩ := h p List.mem_cons_self
    have z := pair_len a b
    simp only [List.map_cons, List.sum_cons, List.length_cons]
    omega
theorem showsPK {qs : List (Int × Str × Nat)} {xs : List Str} (hq : ∀ q ∈ qs, isItem q.2.1 = true ∧ q.2.2 ≤ 60) (lq : qs.length ≤ 40) (hx : ∀ x ∈ xs, isItem x = true) (lx : xs.length ≤ 60) : Shows (.list [pdata qs, sl xs]) := by
  have hp : ∀ p ∈ pairsQ qs, isItem p.1 = true ∧ p.2 ≤ 60 := fun p hp => by
    obtain ⟨q, hq', rfl⟩ := List.mem_map.mp hp
    exact hq q hq'
  have lp : (pairsQ qs).length = qs.length := List.length_map ..
  have sx := showsS hx (by omega)
  have d1 := depthPr (pairsQ qs)
  have d2 := sx.dp
  refine ⟨?_, ?_, ?_, ?_⟩
  · have := sx.sh
    simp only [PyData.showable, PyData.showableAll, pdata, showableP _ fun p hp' => (hp p hp').2, this, Bool.and_self]
  · have := sx.nd
    simp only [PyData.hasDict, PyData.hasDictAll, pdata, noDictP, this, Bool.or_self]
  · simp only [PyData.depth, PyData.depthAll, pdata, sl, depthS]
    omega
  · have z1 := listText_len_le ((pairsQ qs).map fun p => (PyData.tuple [.str p.1, .int (p.2 : Nat)]).shown)
    have z2 := sumP (pairsQ qs) hp
    have z3 := shownS_len hx (by omega)
    have e1 : (pdata qs).shown = listText ((pairsQ qs).map fun p => (PyData.tuple [.str p.1, .int (p.2 : Nat)]).shown) := by
      unfold pdata
      simp only [PyData.shown, shownP]
    rw [List.length_map] at z1
    have z := listText_len_le [(pdata qs).shown, (sl xs).shown]
    have e2 : (PyData.list [pdata qs, sl xs]).shown = listText [(pdata qs).shown, (sl xs).shown] := by
      simp only [PyData.shown, PyData.shownAll]
    rw [e2]
    rw [e1] at z ⊢
    simp only [List.map_cons, List.map_nil, List.sum_cons, List.sum_nil, List.length_cons, List.length_nil] at z
    exact Nat.le_trans (show _ ≤ 30000 by omega) (by decide)
theorem Rows.its {H : Hp} {vs : List V} {ps : List (Int × Str × Nat)} (h : Rows A H vs ps) : ∀ q ∈ ps, isItem q.2.1 = true := by
  induction h with
  | nil => intro q hq; cases hq
  | cons e h0 h1 hx _ ih =>
    intro q hq
    rcases List.mem_cons.mp hq with rfl | hq
    · exact hx
    · exact ih q hq
theorem showsII {a b : Nat} (ha : a ≤ 60) (hb : b ≤ 60) : Shows (.tuple [.int (a : Nat), .int (b : Nat)]) := by
  have all : ∀ m : Fin 61, (PyData.int (((m : Nat)) : Int)).shown.length ≤ 10 := by decide +kernel
  have la : (PyData.int ((a : Nat) : Int)).shown.length ≤ 10 := all ⟨a, by omega⟩
  have lb : (PyData.int ((b : Nat) : Int)).shown.length ≤ 10 := all ⟨b, by omega⟩
  have ga : a.log2 < 1920 := Nat.lt_of_le_of_lt (Nat.log2_le_self a) (by omega)
  have gb : b.log2 < 1920 := Nat.lt_of_le_of_lt (Nat.log2_le_self b) (by omega)
  refine ⟨?_, ?_, ?_, ?_⟩
  · simp [PyData.showable, PyData.showableAll, ga, gb]
  · simp [PyData.hasDict, PyData.hasDictAll]
  · simp [PyData.depth, PyData.depthAll]
  · have z := tupleText_len_le [(PyData.int ((a : Nat) : Int)).shown, (PyData.int ((b : Nat) : Int)).shown]
    have e : (PyData.tuple [.int (a : Nat), .int (b : Nat)]).shown = tupleText [(PyData.int ((a : Nat) : Int)).shown, (PyData.int ((b : Nat) : Int)).shown] := by
      simp only [PyData.shown, PyData.shownAll]
    rw [e]
    simp only [List.map_cons, List.map_nil, List.sum_cons, List.sum_nil, List.length_cons, List.length_nil] at z
    exact Nat.le_trans (show _ ≤ 1000 by omega) (by decide)
/-- what is told of each item: the item, and its range -/
inductive Ends (H : Hp) : List V → List (Str × Nat × Nat) → Prop where
  | nil : Ends H [] []
  | cons {a t : Addr} {x : Str} {lo hi : Nat} {vs : List V} {es : List (Str × Nat × Nat)} (e : H a = some (.tup [.str x, .ref t])) (f : H t = some (.tup [.int (lo : Nat), .int (hi : Nat)])) (r : Ends H vs es) : Ends H (.ref a :: vs) ((x, lo, hi) :: es)
theorem Ends.same {H H' : Hp} {vs : List V} {es : List (Str × Nat × Nat)} (h : Ends H vs es) (s : Same H H') : Ends H' vs es := by
  induction h with
  | nil => exact .nil
  | cons e f _ ih => exact .cons (s _ _ e) (s _ _ f) ih
theorem Ends.len {H : Hp} {vs : List V} {es : List (Str × Nat × Nat)} (h : Ends H vs es) : vs.length = es.length := by
  induction h with
  | nil => rfl
  | cons _ _ _ ih => rw [List.length_cons, List.length_cons, ih]
theorem Ends.snoc {H : Hp} {vs : List V} {es : List (Str × Nat × Nat)} {a t : Addr} {x : Str} {lo hi : Nat} (h : Ends H vs es) (e : H a = some (.tup [.str x, .ref t])) (f : H t = some (.tup [.int (lo : Nat), .int (hi : Nat)])) : Ends H (vs ++ [.ref a]) (es ++ [(x, lo, hi)]) := by
  induction h with
  | nil => exact .cons e f .nil
  | cons e' f' _ ih => exact .cons e' f' ih
theorem Ends.updL {H : Hp} {vs us : List V} {es : List (Str × Nat × Nat)} {D : Addr} {o : HO} (h : Ends H vs es) (hD : H D = some (.lst us)) : Ends (upd H D o) vs es := by
  induction h with
  | nil => exact .nil
  | @cons a t x lo hi vs es e f _ ih =>
    refine .cons (t := t) ?_ ?_ ih
    · rw [upd_ne (fun z => by rw [z, hD] at e; cases e)]
      exact e
    · rw [upd_ne (fun z => by rw [z, hD] at f; cases f)]
      exact f
theorem Ends.get {H : Hp} {vs : List V} {es : List (Str × Nat × Nat)} (h : Ends H vs es) : ∀ {i : Nat} {v : V}, vs[i]? = some v → ∃ a t x lo hi, v = .ref a ∧ es[i]? = some (x, lo, hi) ∧ H a = some (.tup [.str x, .ref t]) ∧ H t = some (.tup [.int (lo : Nat), .int (hi : Nat)]) := by
  induction h with
  | nil => intro i v e; cases e
  | cons e f _ ih =>
    intro i v ev
    cases i with
    | zero => cases ev; exact ⟨_, _, _, _, _, rfl, rfl, e, f⟩
    | succ i => exact ih ev
theorem Ends.split {H : Hp} {vs : List V} {es : List (Str × Nat × Nat)} (h : Ends H vs es) : ∃ ys : List (Addr × Addr × Str × Nat × Nat), vs = ys.map (fun q => V.ref q.1) ∧ es = ys.map (·.2.2) ∧ ∀ q ∈ ys, H q.1 = some (.tup [.str q.2.2.1, .ref q.2.1]) ∧ H q.2.1 = some (.tup [.int (q.2.2.2.1 : Nat), .int (q.2.2.2.2 : Nat)]) := by
  induction h with
  | nil => exact ⟨[], rfl, rfl, fun q hq => by cases hq⟩
  | @cons a t x lo hi vs es e f _ ih =>
    obtain ⟨ys, rfl, rfl, g⟩ := ih
    refine ⟨(a, t, x, lo, hi) :: ys, rfl, rfl, fun q hq => ?_⟩
    rcases List.mem_cons.mp hq with rfl | hq
    · exact ⟨e, f⟩
    · exact g q hq
/-- pairs as records of a kind -/
def ofPairs (kind : Int) (ps : List (Str × Nat)) : List (Int × Str × Nat) := ps.map fun q => (kind, q.1, q.2)
theorem ofPairs_pairs (kind : Int) (ps : List (Str × Nat)) : pairsQ (ofPairs kind ps) = ps := by
  unfold pairsQ ofPairs
  rw [List.map_map]
  exact List.map_id' _
theorem ofPairs_names (kind : Int) (ps : List (Str × Nat)) : names (ofPairs kind ps) = ps.map (·.1) := by
  unfold names ofPairs
  rw [List.map_map]
  rfl
theorem known_perm {qs rs : List (Int × Str × Nat)} {xs : List Str} (h : (names qs).Perm (names rs)) : knownL qs xs = knownL rs xs := by
  unfold knownL
  exact List.filter_congr fun x _ => decide_eq_decide.mpr h.mem_iff
theorem range_perm {kind : Int} {qs rs : List (Int × Str × Nat)} {xs : List Str} {x : Str} (h : (names qs).Perm (names rs)) (mx : x ∈ names qs) : rangeOf kind qs xs x = rangeOf kind rs xs x := by
  unfold rangeOf roomOf
  rw [front_mem mx, front_mem (h.mem_iff.mp mx), known_perm h]
/-- lists of whole numbers, compared -/
def numsD (l : List Nat) : PyData := .list (l.map fun i => PyData.int (i : Nat))
theorem nums_plain : ∀ l : List Nat, PyData.plainAll (l.map fun i => PyData.int (i : Nat)) = true
  | [] => rfl
  | i :: l => by simp [PyData.plainAll, PyData.plain, nums_plain l]
theorem nums_eqv (l : List Nat) : PyData.eqv (numsD l) (numsD l) = true := PySem.SeqAt.eqv_refl_plain _ (by
  unfold numsD
  simp [PyData.plain, nums_plain])
theorem nums_dp (l : List Nat) {H : Hp} : DpAll K H (l.map fun i => V.int (i : Nat)) (l.map fun i => PyData.int (i : Nat)) := by
  induction l with
  | nil => exact .nil
  | cons i l ih => exact .cons (.int _) ih
theorem nums_lay : ∀ l : List Nat, PyData.canLayAll0 (l.map fun i => PyData.int (i : Nat)) = true
  | [] => by simp [PyData.canLayAll0]
  | i :: l => by simp [PyData.canLayAll0, PyData.canLay0, nums_lay l]
theorem nums_depth : ∀ l : List Nat, PyData.depthAll (l.map fun i => PyData.int (i : Nat)) ≤ 1
  | [] => by simp [PyData.depthAll]
  | i :: l => by
    have := nums_depth l
    simp only [List.map_cons, PyData.depthAll, PyData.depth]
    omega
theorem nums_shaped (l : List Nat) : SeqAt.shaped (numsD l) = true := by
  have a := nums_lay l
  have b := nums_depth l
  unfold SeqAt.shaped numsD
  refine Bool.and_eq_true_iff.mpr ⟨?_, decide_eq_true ?_⟩
  · rw [PyData.canLay0]
    exact a
  · simp only [PyData.depth]
    omega

end
end Own

set_option Elab.async false
set_option linter.all false
set_option maxRecDepth 100000
set_option maxHeartbeats 4000000
namespace Own
open PySem L2 ClX
local macro_rules | `(tactic| walk_at "v") => `(tactic| refine ⟨_, rfl, ?_⟩)
local macro_rules | `(tactic| walk_at "ii") => `(tactic| refine ⟨_, _, rfl, rfl, ?_⟩)
local macro_rules | `(tactic| walk_at "go") => `(tactic| repeat (first | refine ⟨_, rfl, ?_⟩ | refine ⟨_, _, rfl, rfl, ?_⟩ | refine addI ?_ | refine L2.iteT ?_ | refine L2.iteF ?_))

section
variable {P : Program} {w : World} {K : PySem.W.Frag} {mg : Str → Option Value} {base : Heap} {A : Ad}
/-! ### ranges, told and compared -/
def rgN (kind : Int) (qs : List (Int × Str × Nat)) (xs : List Str) (x : Str) : Nat × Nat := ((rangeOf kind qs xs x).1.toNat, (rangeOf kind qs xs x).2.toNat)
theorem rgN_ok {kind : Int} {qs : List (Int × Str × Nat)} {xs : List Str} {x : Str} (mx : x ∈ names qs) (mxx : x ∈ xs) (lx : xs.length ≤ 60) : Rng kind qs xs x (rgN kind qs xs x).1 (rgN kind qs xs x).2 := by
  obtain ⟨lo, hi, r⟩ := rng_of (kind := kind) mx mxx lx
  have e : rgN kind qs xs x = (lo, hi) := by
    unfold rgN
    rw [r.e]
    rfl
  rw [e]
  exact r
theorem cutV_to (vs : List V) (k : Nat) : cutV vs none (some (k : Int)) = vs.take k := by
  unfold cutV
  rw [HT.sIx_none, HT.sIx_nat, List.drop_zero, Nat.sub_zero]
  rcases Nat.lt_or_ge vs.length k with h | h
  · rw [Nat.min_eq_right (Nat.le_of_lt h), List.take_of_length_le (Nat.le_refl _), List.take_of_length_le (Nat.le_of_lt h)]
  · rw [Nat.min_eq_left h]
theorem cutV_to3 (vs : List V) : cutV vs none (some 3) = vs.take 3 := cutV_to vs 3
theorem atI_neg1 {α : Type} (l : List α) (a : α) : atI (l ++ [a]) (-1) = some a := by
  unfold atI ixN
  rw [if_neg (by decide), if_pos (by rw [List.length_append, List.length_singleton]; omega)]
  show (l ++ [a])[(-1 + (((l ++ [a]).length : Nat) : Int)).toNat]? = some a
  have e : (-1 + (((l ++ [a]).length : Nat) : Int)).toNat = l.length := by
    rw [List.length_append, List.length_singleton]
    omega
  rw [e, List.getElem?_append_right (Nat.le_refl _), Nat.sub_self]
  rfl
theorem vN_first {lo hi : Nat} (h : lo ≤ hi) : atI (vN (List.range' lo (hi + 1 - lo))) 0 = some (.int (lo : Nat)) := by
  rw [show hi + 1 - lo = (hi - lo) + 1 by omega, List.range'_succ]
  exact atI0 _ _
theorem vN_last {lo hi : Nat} (h : lo ≤ hi) : atI (vN (List.range' lo (hi + 1 - lo))) (-1) = some (.int (hi : Nat)) := by
  rw [show hi + 1 - lo = (hi - lo) + 1 by omega, List.range'_1_concat, show lo + (hi - lo) = hi by omega]
  unfold vN
  rw [List.map_append]
  exact atI_neg1 _ _
theorem vN_rg {lo hi : Nat} : rgV (lo : Nat) ((hi : Nat) + 1) = vN (List.range' lo (hi + 1 - lo)) := by
  unfold rgV vN
  rw [List.range'_eq_map_range, List.map_map, show ((hi : Nat) + 1 - (lo : Nat) : Int).toNat = hi + 1 - lo by omega]
  refine List.map_congr_left fun i _ => ?_
  show V.int ((lo : Int) + (i : Int)) = V.int ((lo + i : Nat) : Int)
  rw [Int.natCast_add]
theorem vN_dp (l : List Nat) {H : Hp} {D : Addr} (h : H D = some (.lst (vN l))) : Dp K H (.ref D) (numsD l) := .lst (SqL.of h) (nums_dp l)
theorem rgN_perm {kind : Int} {qs rs : List (Int × Str × Nat)} {xs : List Str} {x : Str} (h : (names qs).Perm (names rs)) (mx : x ∈ names qs) : rgN kind qs xs x = rgN kind rs xs x := by
  unfold rgN
  rw [range_perm h mx]
theorem Rng.perm {kind : Int} {qs rs : List (Int × Str × Nat)} {xs : List Str} {x : Str} {lo hi : Nat} (r : Rng kind qs xs x lo hi) (h : (names qs).Perm (names rs)) (mx : x ∈ names qs) : Rng kind rs xs x lo hi := by
  refine ⟨by rw [← range_perm h mx]; exact r.e, r.le, r.h60, fun i => ?_⟩
  rw [← r.fit i]
  unfold fitB roomI
  rw [known_perm h]
theorem Rows.but {H H' : Hp} {p : Addr} {n : Int} {vs : List V} {ps : List (Int × Str × Nat)} (h : Rows A H vs ps) (s : SrcAt H p n) (b : But p H H') : Rows A H' vs ps := by
  induction h with
  | nil => exact .nil
  | @cons q dx way x m vs ps e h0 h1 hx _ ih =>
    refine .cons (dx := dx) (b _ _ e fun z => ?_) h0 h1 hx ih
    obtain ⟨g, m', c, z2, _⟩ := s
    rw [z, z2] at e
    cases e
/-- no certificate, by the ranges -/
theorem none_pairs {kind : Int} {qs : List (Int × Str × Nat)} {xs : List Str} {cs : List (Str × Nat)} (pm : (pairsQ qs).Perm cs) (nd : (names qs).Nodup) (ixs : Items xs) (lx : xs.length ≤ 60) (sub : ∀ x ∈ names qs, x ∈ xs) :
    firstC kind qs xs = none ↔ ∀ c ∈ cs, (rgN kind qs xs c.1).1 ≤ c.2 ∧ c.2 ≤ (rgN kind qs xs c.1).2 := by
  rw [first_none ixs sub]
  have nm := pairs_names pm
  constructor
  · intro a c hc
    have mx : c.1 ∈ names qs := nm.mem_iff.mpr (List.mem_map.mpr ⟨c, hc, rfl⟩)
    have z := a _ mx
    rw [pairs_slot pm nd (show (c.1, c.2) ∈ cs from hc), (rgN_ok mx (sub _ mx) lx).fit, Bool.and_eq_true] at z
    exact ⟨of_decide_eq_true z.1, of_decide_eq_true z.2⟩
  · intro a x mx
    obtain ⟨c, hc, e⟩ := List.mem_map.mp (nm.mem_iff.mp mx)
    have z := a c hc
    rw [e] at z
    rw [pairs_slot pm nd (show (x, c.2) ∈ cs by rw [← e]; exact hc), (rgN_ok mx (sub _ mx) lx).fit, Bool.and_eq_true]
    exact ⟨decide_eq_true z.1, decide_eq_true z.2⟩
/-- a log made of pairs -/
theorem LogQ.of {kind : Int} {cs : List (Str × Nat)} (k0 : 0 ≤ kind) (k2 : kind ≤ 2) (b60 : ∀ c ∈ cs, c.2 ≤ 60) (nd : (cs.map (·.1)).Nodup) (l : cs.length ≤ 40) : LogQ kind (ofPairs kind cs) := by
  refine ⟨fun q hq => ?_, fun q hq => ?_, k0, k2, by rw [ofPairs_names]; exact nd, by unfold ofPairs; rw [List.length_map]; exact l⟩
  · obtain ⟨c, hc, rfl⟩ := List.mem_map.mp hq
    exact b60 c hc
  · obtain ⟨c, hc, rfl⟩ := List.mem_map.mp hq
    rfl
/-- an index within the range of its item -/
def InR (kind : Int) (qs : List (Int × Str × Nat)) (xs : List Str) (c : Str × Nat) : Prop := c.1 ∈ names qs ∧ (rgN kind qs xs c.1).1 ≤ c.2 ∧ c.2 ≤ (rgN kind qs xs c.1).2
theorem cs_log {kind : Int} {qs : List (Int × Str × Nat)} {xs : List Str} {cs : List (Str × Nat)} (L : LogQ kind qs) (pm : (names qs).Perm (cs.map (·.1))) (ixs : Items xs) (lx : xs.length ≤ 60) (sub : ∀ x ∈ names qs, x ∈ xs) (h : ∀ c ∈ cs, InR kind qs xs c) :
    LogQ kind (ofPairs kind cs) ∧ firstC kind (ofPairs kind cs) xs = none ∧ ∀ x ∈ names (ofPairs kind cs), x ∈ xs := by
  have pmo : (names qs).Perm (names (ofPairs kind cs)) := by
    rw [ofPairs_names]
    exact pm
  have nd : (names (ofPairs kind cs)).Nodup := pmo.nodup_iff.mp L.nd
  have l40 : cs.length ≤ 40 := by
    have := pm.length_eq
    have l := L.len
    unfold names at this
    rw [List.length_map, List.length_map] at this
    omega
  have sub2 : ∀ x ∈ names (ofPairs kind cs), x ∈ xs := fun x hx => sub x (pmo.mem_iff.mpr hx)
  refine ⟨LogQ.of L.w0 L.w1 (fun c hc => ?_) (by rw [← ofPairs_names kind]; exact nd) l40, ?_, sub2⟩
  · obtain ⟨mx, _, le⟩ := h c hc
    exact Nat.le_trans le (rgN_ok mx (sub _ mx) lx).h60
  · refine (none_pairs (cs := cs) (by rw [ofPairs_pairs]) nd ixs lx sub2).mpr fun c hc => ?_
    obtain ⟨mx, a, b⟩ := h c hc
    rw [← rgN_perm pmo mx]
    exact ⟨a, b⟩
def gdB (kind : Int) (qs : List (Int × Str × Nat)) (xs : List Str) (c : Str × Nat) : Bool := decide ((rgN kind qs xs c.1).1 ≤ c.2) && decide (c.2 ≤ (rgN kind qs xs c.1).2)
def sel (s lo hi : Nat) : Nat := if s = 0 then lo else hi
theorem atI_sel {s lo hi : Nat} (h : s < 2) : atI [V.int (lo : Nat), V.int (hi : Nat)] (0 + (s : Int)) = some (.int (sel s lo hi : Nat)) := by
  have e : s = 0 ∨ s = 1 := by omega
  rcases e with rfl | rfl <;> rfl
theorem ofPairs_snoc (kind : Int) (cs : List (Str × Nat)) (x : Str) (n : Nat) : ofPairs kind (cs ++ [(x, n)]) = ofPairs kind cs ++ [(kind, x, n)] := by
  unfold ofPairs
  rw [List.map_append]
  rfl
/-- what a dict without equal keys holds -/
theorem val_at {kvs : List (Key × V)} (nd : (kvs.map (·.1)).Nodup) {k : Key} {v : V} (h : (k, v) ∈ kvs) : valV kvs k = some v := by
  unfold valV
  cases e : kvs.find? (fun kv : Key × V => decide (kv.1 = k)) with
  | none => exact absurd (decide_eq_true rfl) (List.find?_eq_none.mp e _ h)
  | some r =>
    have r1 : r.1 = k := of_decide_eq_true (show decide (r.1 = k) = true from List.find?_some (p := fun kv : Key × V => decide (kv.1 = k)) e)
    have rm := List.mem_of_find?_eq_some e
    obtain ⟨i, hi, ei⟩ := List.getElem_of_mem h
    obtain ⟨j, hj, ej⟩ := List.getElem_of_mem rm
    have same : (kvs.map (·.1))[i]'(by rw [List.length_map]; exact hi) = (kvs.map (·.1))[j]'(by rw [List.length_map]; exact hj) := by
      rw [List.getElem_map, List.getElem_map, ei, ej, r1]
    have ij := (List.getElem_inj nd).mp same
    subst ij
    rw [ei] at ej
    show some r.2 = some v
    rw [← ej]
def slotsE (ys : List (Addr × Addr × Str × Nat × Nat)) : List (Key × V) := ys.map fun q => (Sum.inr q.2.2.1, V.ref q.2.1)
theorem slotsE_keys (ys : List (Addr × Addr × Str × Nat × Nat)) : (slotsE ys).map (·.1) = (ys.map (·.2.2.1)).map Sum.inr := by
  unfold slotsE
  rw [List.map_map, List.map_map]
  rfl
theorem slotsE_nd {ys : List (Addr × Addr × Str × Nat × Nat)} (nd : (ys.map (·.2.2.1)).Nodup) : ((slotsE ys).map (·.1)).Nodup := by
  rw [slotsE_keys, List.nodup_iff_pairwise_ne, List.pairwise_map]
  exact List.Pairwise.imp (fun ne e => ne (Sum.inr.inj e)) (List.nodup_iff_pairwise_ne.mp nd)
theorem slotsE_merge {ys : List (Addr × Addr × Str × Nat × Nat)} (nd : (ys.map (·.2.2.1)).Nodup) : mergeK [] (slotsE ys) = slotsE ys := by
  have z : (([] : List (Key × V)).map (fun r => r.1) ++ (slotsE ys).map (fun r => r.1)).Nodup := slotsE_nd nd
  rw [merge_new z]
  rfl
theorem slotsE_paired {H : Hp} : ∀ ys : List (Addr × Addr × Str × Nat × Nat), (∀ q ∈ ys, H q.1 = some (.tup [.str q.2.2.1, .ref q.2.1])) → Paired (fun (p : Addr) (kv : Key × V) => SqT K H p [kV kv.1, kv.2]) (ys.map fun q => q.1) (slotsE ys)
  | [], _ => .nil
  | q :: ys, h => .cons (SqT.of (h q List.mem_cons_self)) (slotsE_paired ys fun y hy => h y (List.mem_cons_of_mem _ hy))
theorem filter_all {α : Type} (g : α → Bool) : ∀ l : List α, (l.filter g).length = l.length ↔ ∀ x ∈ l, g x = true
  | [] => ⟨fun _ x hx => (by cases hx), fun _ => rfl⟩
  | y :: l => by
    have ih := filter_all g l
    have le := List.length_filter_le g l
    cases e : g y with
    | true =>
      rw [List.filter_cons_of_pos e]
      constructor
      · intro h x hx
        rcases List.mem_cons.mp hx with rfl | hx
        · exact e
        · exact ih.mp (by rw [List.length_cons, List.length_cons] at h; omega) x hx
      · intro h
        rw [List.length_cons, List.length_cons, ih.mpr fun x hx => h x (List.mem_cons_of_mem _ hx)]
    | false =>
      rw [List.filter_cons_of_neg (by rw [e]; decide)]
      constructor
      · intro h
        rw [List.length_cons] at h
        omega
      · intro h
        have := h y List.mem_cons_self
        rw [e] at this
        cases this

end
end Own

set_option Elab.async false
set_option linter.all false
set_option maxRecDepth 100000
set_option maxHeartbeats 4000000
namespace Own
open PySem L2 ClX
local macro_rules | `(tactic| walk_at "v") => `(tactic| refine ⟨_, rfl, ?_⟩)
local macro_rules | `(tactic| walk_at "ii") => `(tactic| refine ⟨_, _, rfl, rfl, ?_⟩)
local macro_rules | `(tactic| walk_at "go") => `(tactic| repeat (first | refine ⟨_, rfl, ?_⟩ | refine ⟨_, _, rfl, rfl, ?_⟩ | refine addI ?_ | refine L2.iteT ?_ | refine L2.iteF ?_))

section
variable {P : Program} {w : World} {K : PySem.W.Frag} {mg : Str → Option Value} {base : Heap} {A : Ad}
/-! ### one question -/
def endsL (kind : Int) (qs : List (Int × Str × Nat)) (xs : List Str) (ps : List (Str × Nat)) : List (Str × Nat × Nat) := ps.map fun q => (q.1, rgN kind qs xs q.1)
def spRight (A : Ad) : Sp := fun vs H Q _ => ∃ (p pl k : Addr) (n kind : Int) (ts : List V) (ps : List (Str × Nat)) (xs : List Str), vs = [.ref p, .int kind, .ref pl, .ref k] ∧ SrcAt H p n ∧ n < 2 ^ 49 ∧ 0 ≤ kind ∧ kind ≤ 2 ∧ H pl = some (.lst ts) ∧ Prs H ts ps ∧ ps.length ≤ 40 ∧ (∀ q ∈ ps, q.2 ≤ 60) ∧ (ps.map (·.1)).Nodup ∧ (∀ x ∈ ps.map (·.1), x ∈ xs) ∧ pl ≠ p ∧ k ≠ p ∧ H k = some (.lst (xs.map V.str)) ∧ Items xs ∧ xs.length ≤ 60 ∧
  ∀ H', But p H H' → SrcAt H' p (n + 200) → Q (.bl true) H'
theorem ok__law_right (T : Txt K mg A) : OkG P w K mg base 7 A.f__law_right ["source", "kind", "pairs", "known"] (spRight A) := by
  refine T.fn__law_right.okG sc__law_right (fun _ _ _ _ _ _ us hl => match us, hl with | [_, _, _, _], _ => rfl) (fun vs H Q E h => ?_) (fun cdv B up s H vs Q hr gd h => ?_)
  · obtain ⟨p, pl, k, n, kind, ts, ps, xs, rfl, _⟩ := h
    rfl
  · obtain ⟨p, pl, k, n, kind, ts, ps, xs, rfl, hs, hn, k0, k2, hl, prs, lp, b60, nd, sub, plp, kp, hk, ixs, lx, h⟩ := h
    refine ⟨_, (pss_cons (ps_set (i := 4) sc__law_right.nd rfl (Or.inl rfl) (po_call (ok__law_log T) (hr.mono (by decide)) T.mg__law_log (pa_cons (pv 0) (pa_cons (pv 1) (pa_cons (pv 2) pa_nil)))))
      (pss_cons (ps_set (i := 5) sc__law_right.nd rfl (Or.inl rfl) (pe_callB (call_reprD hr gd) (by rfl) T.no_repr (by decide +kernel) (pa_cons (pe_lst (pa_cons (po_call (ok__law_pairs T) (hr.mono (by decide)) T.mg__law_pairs (pa_cons (pv 4) pa_nil)) (pa_cons (pv 3) pa_nil))) pa_nil)))
      (pss_cons (ps_set (i := 6) sc__law_right.nd rfl (Or.inl rfl) (pe_lst pa_nil))
      (pss_cons (ps_for PassesOwn.never rfl (pi_list (pv 2)) (pg_tup (by rfl) (pgs_cons (pg_name (i := 7) sc__law_right.nd rfl (Or.inl rfl)) (pgs_cons (pg_name (i := 8) sc__law_right.nd rfl (Or.inl rfl)) pgs_nil)))
      (pss_cons (ps_set (i := 9) sc__law_right.nd rfl (Or.inl rfl) (px_call (ok_index_range T) (fun _ => atL) (hr.mono (by decide)) T.mg_index_range (pa_cons (pv 4) (pa_cons (pv 3) (pa_cons (pv 7) pa_nil)))))
      (pss_cons (ps_expr (pe_bm PySem.F.plainAttrs_list PySem.F.slot_list_append PySem.F.type_list_append mt_append (pv 6) (pa_cons (pe_tup (pa_cons (pv 7) (pa_cons (pv 9) pa_nil))) pa_nil)))
      (pss_cons (ps_if (pt_cmpR (op_neX hr) (pe_callB (call_reprD hr gd) (by rfl) T.no_repr (by decide +kernel) (pa_cons (pv 9) pa_nil)) (pe_callB (call_reprD hr gd) (by rfl) T.no_repr (by decide +kernel) (pa_cons (px_call3 (ok3_index_range T) (fun _ => atL) (hr.mono (by decide)) T.mg_index_range (pk_cons (pv 7) (pk_cons (pv 3) (pk_cons (pv 4) pk_nil)))) pa_nil)) (nomark _)) (pss_one (ps_ret pe_bl)) pss_nil)
      (pss_one (ps_if (pt_cmpR (op_neX hr) (pe_callB (call_reprD hr gd) (by rfl) T.no_repr (by decide +kernel) (pa_cons (pe_lst (pa_cons (po_call (ok__law_pairs T) (hr.mono (by decide)) T.mg__law_pairs (pa_cons (pv 4) pa_nil)) (pa_cons (pv 3) pa_nil))) pa_nil)) (pv 5) (nomark _)) (pss_one (ps_ret pe_bl)) pss_nil))))))
      (pss_cons (ps_for PassesOwn.never rfl (pi_list (pe_slice sl_list (po_call (ok__law_mixed T) (hr.mono (by decide)) T.mg__law_mixed (pa_cons (pv 0) (pa_cons (pv 6) pa_nil))) po_none (po_some pe_int))) (pg_tup (by rfl) (pgs_cons (pg_name (i := 7) sc__law_right.nd rfl (Or.inl rfl)) (pgs_cons (pg_name (i := 9) sc__law_right.nd rfl (Or.inl rfl)) pgs_nil)))
      (pss_cons (ps_set (i := 10) sc__law_right.nd rfl (Or.inl rfl) (po_call (ok__law_fitting T) (hr.mono (by decide)) T.mg__law_fitting (pa_cons (pv 1) (pa_cons (pv 2) (pa_cons (pv 3) (pa_cons (pv 7) pa_nil))))))
      (pss_one (ps_if (PW.pt (pw_or (pt_cmpR (op_neX hr) (pe_callB (call_reprD hr gd) (by rfl) T.no_repr (by decide +kernel) (pa_cons (pv 9) pa_nil)) (pe_callB (call_reprD hr gd) (by rfl) T.no_repr (by decide +kernel) (pa_cons (pe_tup (pa_cons (pe_ix ix_seq (pv 10) pe_int (fun _ _ => rfl)) (pa_cons (pe_ix ix_seq (pv 10) (pe_un un_neg pe_int) (fun _ _ => rfl)) pa_nil))) pa_nil)) (nomark _)) (pw_or1 (pt_cmpR (op_neX hr) (pv 10) (pe_listRg rfl rfl T.no_list (prg_2 rfl T.no_range (pe_ix ix_seq (pv 10) pe_int (fun _ _ => rfl)) (pe_op op_addX (pe_ix ix_seq (pv 10) (pe_un un_neg pe_int) (fun _ _ => rfl)) pe_int))) (nomark _))))) (pss_one (ps_ret pe_bl)) pss_nil))))
      (pss_cons (ps_for PassesOwn.never rfl (pi_range1 rfl T.no_range (pa_cons pe_int pa_nil)) (pg_name (i := 11) sc__law_right.nd rfl (Or.inr rfl))
      (pss_cons (ps_setLcD (i := 12) (own := [("name", 7), ("found", 9)]) rfl sc__law_right.nd rfl rfl (sw_true rfl rfl rfl (by decide +kernel)) (pi_list (pv 6)) (blkOk_by (N := N__law_right) (sc := defScope s__law_right) (by decide +kernel)) (fun _ _ _ _ _ => pg_tup (by rfl) (pgs_cons (pg_name (i := 7) sc__law_right.nd rfl (Or.inl rfl)) (pgs_cons (pg_name (i := 9) sc__law_right.nd rfl (Or.inl rfl)) pgs_nil))) (fun _ _ _ _ _ => pts_nil) (fun _ _ _ _ _ => (po_call (ok__law_made T) (hr.mono (by decide)) T.mg__law_made (pa_cons (pv 1) (pa_cons (pv 7) (pa_cons (pe_ix ix_seq (pv 9) (pv 11) (fun _ _ => rfl)) pa_nil))))))
      (pss_one (ps_if (pt_cmpR op_notN (px_call (ok_reason T) (fun _ => atL) (hr.mono (by decide)) T.mg_reason (pa_cons (pv 12) (pa_cons (pv 3) pa_nil))) pe_non (nomark _)) (pss_one (ps_ret pe_bl)) pss_nil))))
      (pss_cons (ps_setLcD (i := 13) (own := [("name", 7), ("found", 9)]) rfl sc__law_right.nd rfl rfl (sw_true rfl rfl rfl (by decide +kernel)) (pi_list (pv 6)) (blkOk_by (N := N__law_right) (sc := defScope s__law_right) (by decide +kernel)) (fun _ _ _ _ _ => pg_tup (by rfl) (pgs_cons (pg_name (i := 7) sc__law_right.nd rfl (Or.inl rfl)) (pgs_cons (pg_name (i := 9) sc__law_right.nd rfl (Or.inl rfl)) pgs_nil))) (fun _ _ _ _ _ => pts_nil) (fun _ _ _ _ _ => (po_call (ok__law_made T) (hr.mono (by decide)) T.mg__law_made (pa_cons (pv 1) (pa_cons (pv 7) (pa_cons (pe_op op_addX (pe_ix ix_seq (pv 9) pe_int (fun _ _ => rfl)) (po_call (ok__law_pick T) (hr.mono (by decide)) T.mg__law_pick (pa_cons (pv 0) (pa_cons (pe_op op_addX (pe_op op_sub (pe_ix ix_seq (pv 9) pe_int (fun _ _ => rfl)) (pe_ix ix_seq (pv 9) pe_int (fun _ _ => rfl))) pe_int) pa_nil)))) pa_nil))))))
      (pss_cons (ps_if (pt_cmpR op_notN (px_call (ok_reason T) (fun _ => atL) (hr.mono (by decide)) T.mg_reason (pa_cons (pv 13) (pa_cons (pv 3) pa_nil))) pe_non (nomark _)) (pss_one (ps_ret pe_bl)) pss_nil)
      (pss_cons (ps_set (i := 14) sc__law_right.nd rfl (Or.inr rfl) (pe_callTy (call_dictP rfl) (by rfl) T.no_dict (by decide +kernel) (pa_cons (pv 6) pa_nil)))
      (pss_cons (ps_setLcD (i := 15) (own := [("pair", 16)]) rfl sc__law_right.nd rfl rfl (sw_true rfl rfl rfl (by decide +kernel)) (pi_list (pv 2)) (blkOk_by (N := N__law_right) (sc := defScope s__law_right) (by decide +kernel)) (fun _ _ _ _ _ => pg_name (i := 16) sc__law_right.nd rfl (Or.inl rfl)) (fun _ _ _ _ _ => (pts_one (pt_chain op_le op_le (pe_ix ix_seq (pe_dget (Nat.lt_of_le_of_lt (Nat.add_le_add_left (show 1 ≤ 64 by decide) _) hr.units) (pv 14) (pe_ix ix_seq (pv 16) pe_int (fun _ _ => rfl)) (fun _ _ => rfl)) pe_int (fun _ _ => rfl)) (pe_ix ix_seq (pv 16) pe_int (fun _ _ => rfl)) (pe_ix ix_seq (pe_dget (Nat.lt_of_le_of_lt (Nat.add_le_add_left (show 1 ≤ 64 by decide) _) hr.units) (pv 14) (pe_ix ix_seq (pv 16) pe_int (fun _ _ => rfl)) (fun _ _ => rfl)) pe_int (fun _ _ => rfl))))) (fun _ _ _ _ _ => (pv 16)))
      (pss_one (ps_ret (pe_cmpR (op_eqX hr) (pe_cmpR op_isN (px_call (ok_reason T) (fun _ => atL) (hr.mono (by decide)) T.mg_reason (pa_cons (pv 4) (pa_cons (pv 3) pa_nil))) pe_non (nomark _)) (pe_cmpR (op_eqX hr) (pe_callB call_len (by rfl) T.no_len (by decide +kernel) (pa_cons (pv 15) pa_nil)) (pe_callB call_len (by rfl) T.no_len (by decide +kernel) (pa_cons (pv 2) pa_nil)) (nomark _)) (nomark _)))))))))))))), ?_⟩
    have good : ∀ q ∈ ps, isItem q.1 = true ∧ q.2 ≤ 60 := fun q hq => ⟨ixs.it _ (sub _ (List.mem_map.mpr ⟨q, hq, rfl⟩)), b60 q hq⟩
    refine ⟨_, rfl, _, rfl, _, rfl, p, pl, n, kind, ts, ps, rfl, hs, by omega, k0, k2, hl, prs, lp, good, fun D rs qs H1 b1 s1 nD h1 rows fr wy bd pq => ?_⟩
    have pm := pairs_names pq
    have L : LogQ kind qs := ⟨bd, wy, k0, k2, pm.nodup_iff.mpr nd, by
      have := pm.length_eq
      unfold names at this
      rw [List.length_map, List.length_map] at this
      omega⟩
    have shp := showsPK (fun q hq => ⟨rows.its q hq, L.bd q hq⟩) L.len ixs.it lx
    have hk1 := b1 _ _ hk kp
    have hp1 := b1 _ _ hl plp
    have pr1 := prs.but hs b1
    have subq : ∀ x ∈ names qs, x ∈ xs := fun x hx => sub x (pm.mem_iff.mp hx)
    refine ⟨_, rfl, D, rs, qs, rfl, h1, rows, L.len, fun D1 ts1 H2 s2 n2 h2 p2 => ?_⟩
    refine ⟨_, rfl, Nat.le_of_ble_eq_true rfl, fun a na => ?_⟩
    have u2 := Same.new (o := .lst [.ref D1, .ref k]) na
    refine ⟨_, .list [pdata qs, sl xs], rfl, .lst (SqL.of upd_same) (.cons (.lst (SqL.of (u2 _ _ h2)) (p2.same u2).dp) (.cons (dpS (SqL.of ((s2.trans u2) _ _ hk1))) .nil)), shp, ?_⟩
    have S2 := s2.trans u2
    generalize upd H2 a (.lst [.ref D1, .ref k]) = H3 at S2 ⊢
    have hD3 := S2 _ _ h1
    have hk3 := S2 _ _ hk1
    have hp3 := S2 _ _ hp1
    have pr3 := pr1.same S2
    have rows3 := rows.same S2
    have b3 : But p H H3 := b1.trans (But.same S2)
    have s3 := (SrcAt.same s1 S2).le (show _ ≤ n + 40 by omega)
    clear s2 n2 h2 p2 u2 na S2 hk1 hp1 pr1 rows b1 s1 h1 hl hk prs
    refine ⟨Nat.le_of_ble_eq_true rfl, fun E nE => ?_⟩
    have lts := pr3.len
    refine ⟨_, rfl, pl, rfl, ⟨_, SqL.of ((Same.new nE) _ _ hp3)⟩, for_list (K := K) (a := pl) (xs := ts) (fun i σ H' => (∃ a7 a8 a9 : Option V, σ = [some (.ref p), some (.int kind), some (.ref pl), some (.ref k), some (.ref D), some (.str (PyData.list [pdata qs, sl xs]).shown), some (.ref E), a7, a8, a9, none, none, none, none, none, none, none]) ∧ Same H3 H' ∧ ∃ es, H' E = some (.lst es) ∧ Ends H' es (endsL kind qs xs (ps.take i)))
      ⟨⟨_, _, _, rfl⟩, Same.new nE, [], upd_same, .nil⟩ ?_ ?_ ?_⟩
    · rintro i σ H1 _ ⟨_, s1, _⟩
      exact SqL.of (s1 _ _ hp3)
    · rintro i y σ H4 hy ⟨⟨a7, a8, a9, rfl⟩, s4, es, h4, e4⟩
      obtain ⟨t0, x, m, rfl, hq, ht0⟩ := pr3.get hy
      have hi := (List.getElem?_eq_some_iff.mp hq).1
      have mx : x ∈ names qs := pm.mem_iff.mpr (List.mem_map.mpr ⟨_, List.mem_of_getElem? hq, rfl⟩)
      have r := rgN_ok (kind := kind) mx (subq x mx) lx
      have le4 := e4.len
      unfold endsL at le4
      rw [List.length_map, List.length_take] at le4
      refine ⟨t0, _, rfl, SqT.of (s4 _ _ ht0), rfl, _, _, rfl, _, _, rfl, rfl, ?_⟩
      refine ⟨_, rfl, _, rfl, _, rfl, D, k, rs, kind, qs, xs, x, rfl, s4 _ _ hD3, rows3.same s4, L, s4 _ _ hk3, ixs, lx, subq, mx, fun t H5 s5 nt ht => ?_⟩
      rw [r.e] at ht
      have S5 := s4.trans s5
      have h5 := s5 _ _ h4
      refine ⟨_, rfl, .inl ⟨rfl, _, SqL.of h5⟩, _, rfl, _, rfl, Nat.le_of_ble_eq_true rfl, fun tp ntp => ⟨E, _, _, rfl, rfl, (Same.new ntp) _ _ h5, Nat.lt_of_lt_of_le (show es.length < 1000 by omega) (by decide), ?_⟩⟩
      have u6 := Same.new (o := .tup [.str x, .ref t]) ntp
      have e6 := (((e4.same s5).same u6).snoc (show upd H5 tp (.tup [.str x, .ref t]) tp = _ from upd_same) (u6 _ _ ht)).updL (o := .lst (es ++ [.ref tp])) (u6 _ _ h5)
      have h6 : upd (upd H5 tp (.tup [.str x, .ref t])) E (.lst (es ++ [.ref tp])) E = some (.lst (es ++ [.ref tp])) := upd_same
      have S6 : Same H3 (upd (upd H5 tp (.tup [.str x, .ref t])) E (.lst (es ++ [.ref tp]))) := fun c o eo => by
        rw [upd_ne (ne_of_none eo nE)]
        exact u6 _ _ (S5 _ _ eo)
      have tE : t ≠ E := fun z => by rw [z, h5] at ht; cases ht
      have ht6 : upd (upd H5 tp (.tup [.str x, .ref t])) E (.lst (es ++ [.ref tp])) t = some (.tup [.int ((rgN kind qs xs x).1 : Nat), .int ((rgN kind qs xs x).2 : Nat)]) := by
        rw [upd_ne tE]
        exact u6 _ _ ht
      generalize upd (upd H5 tp (.tup [.str x, .ref t])) E (.lst (es ++ [.ref tp])) = H6 at e6 h6 S6 ht6 ⊢
      clear u6 ntp ht nt s5 S5 h5 e4 h4 s4
      have shr := showsII (Nat.le_trans r.le r.h60) r.h60
      refine ⟨_, rfl, _, .tuple [.int ((rgN kind qs xs x).1 : Nat), .int ((rgN kind qs xs x).2 : Nat)], rfl, .tup (SqT.of ht6) (.cons (.int _) (.cons (.int _) .nil)), shr, ?_⟩
      refine ⟨_, rfl, _, rfl, _, rfl, D, k, rs, kind, qs, xs, x, rfl, S6 _ _ hD3, rows3.same S6, L, S6 _ _ hk3, ixs, lx, subq, mx, fun t7 H7 s7 nt7 ht7 => ?_⟩
      rw [r.e] at ht7
      refine ⟨_, .tuple [.int ((rgN kind qs xs x).1 : Nat), .int ((rgN kind qs xs x).2 : Nat)], rfl, .tup (SqT.of ht7) (.cons (.int _) (.cons (.int _) .nil)), shr, neS rfl ⟨_, rfl, ?_⟩⟩
      rw [strF]
      have S7 := S6.trans s7
      refine iteF ⟨_, rfl, D, rs, qs, rfl, S7 _ _ hD3, rows3.same S7, L.len, fun D8 ts8 H8 s8 n8 h8 p8 => ?_⟩
      refine ⟨_, rfl, Nat.le_of_ble_eq_true rfl, fun b8 nb8 => ?_⟩
      have u8 := Same.new (o := .lst [.ref D8, .ref k]) nb8
      have S9 := S7.trans (s8.trans u8)
      refine ⟨_, .list [pdata qs, sl xs], rfl, .lst (SqL.of upd_same) (.cons (.lst (SqL.of (u8 _ _ h8)) (p8.same u8).dp) (.cons (dpS (SqL.of (S9 _ _ hk3))) .nil)), shp, _, rfl, neS rfl ⟨_, rfl, ?_⟩⟩
      rw [strF]
      have V := s7.trans (s8.trans u8)
      refine iteF ⟨⟨_, _, _, rfl⟩, S9, _, V _ _ h6, ?_⟩
      have ee : endsL kind qs xs (ps.take (i + 1)) = endsL kind qs xs (ps.take i) ++ [(x, (rgN kind qs xs x).1, (rgN kind qs xs x).2)] := by
        unfold endsL
        rw [List.take_add_one, hq, List.map_append]
        rfl
      rw [ee]
      exact e6.same V
    · rintro σ H4 ⟨⟨a7, a8, a9, rfl⟩, s4, es, h4, e4⟩
      rw [lts, List.take_length] at e4
      obtain ⟨ys, rfl, eq4, ty⟩ := e4.split
      have l40 : ys.length ≤ 40 := by
        have z := congrArg List.length eq4
        unfold endsL at z
        rw [List.length_map, List.length_map] at z
        omega
      have cs4 := SrcAt.same s3 s4
      refine ⟨_, rfl, _, rfl, p, E, n + 40, _, _, ys, rfl, cs4, h4, by omega, by omega, fun M zs H5 pmz b5 s5 nM hM => ?_⟩
      refine ⟨_, rfl, M, _, rfl, SqL.of hM, fun Lz nL => ?_⟩
      rw [cutV_to3]
      have u6 := Same.new (o := .lst ((zs.map fun q => V.ref q.1).take 3)) nL
      have hL : upd H5 Lz (.lst ((zs.map fun q => V.ref q.1).take 3)) Lz = some (.lst ((zs.map fun q => V.ref q.1).take 3)) := upd_same
      have b6 : But p H4 (upd H5 Lz (.lst ((zs.map fun q => V.ref q.1).take 3))) := b5.trans (But.same u6)
      have s6 := SrcAt.same s5 u6
      have tz : ∀ q ∈ zs, ∃ n ∈ ps, n.1 = q.2.2.1 ∧ q.2.2.2 = rgN kind qs xs q.2.2.1 := fun q hq => by
        have mq : q.2.2 ∈ endsL kind qs xs ps := by
          rw [eq4]
          exact List.mem_map.mpr ⟨q, pmz.mem_iff.mp hq, rfl⟩
        obtain ⟨n, hn, e⟩ := List.mem_map.mp mq
        exact ⟨n, hn, congrArg (·.1) e, by rw [← e]⟩
      have ne4 : ∀ {a : Addr} {vs : List V}, H4 a = some (.tup vs) → a ≠ p := fun {a vs} e z => by
        obtain ⟨g, m', c, z2, _⟩ := cs4
        rw [z, z2] at e
        cases e
      have Ep : E ≠ p := SrcAt.ne s3 nE
      have ty6 : ∀ q ∈ ys, upd H5 Lz (.lst ((zs.map fun q => V.ref q.1).take 3)) q.1 = some (.tup [.str q.2.2.1, .ref q.2.1]) ∧ upd H5 Lz (.lst ((zs.map fun q => V.ref q.1).take 3)) q.2.1 = some (.tup [.int (q.2.2.2.1 : Nat), .int (q.2.2.2.2 : Nat)]) := fun q hq => by
        obtain ⟨e1, e2⟩ := ty q hq
        exact ⟨b6 _ _ e1 (ne4 e1), b6 _ _ e2 (ne4 e2)⟩
      have B6 : But p H (upd H5 Lz (.lst ((zs.map fun q => V.ref q.1).take 3))) := (b3.trans (But.same s4)).trans b6
      have hE6 := b6 _ _ h4 Ep
      have Dp : D ≠ p := SrcAt.ne hs nD
      have hp6 := b6 _ _ (s4 _ _ hp3) plp
      have hk6 := b6 _ _ (s4 _ _ hk3) kp
      have hD6 := b6 _ _ (s4 _ _ hD3) Dp
      have pr6 := (pr3.same s4).but cs4 b6
      have rows6 := (rows3.same s4).but cs4 b6
      generalize upd H5 Lz (.lst ((zs.map fun q => V.ref q.1).take 3)) = H6 at hL s6 ty6 B6 hE6 hp6 hk6 hD6 pr6 rows6 ⊢
      have pmo : (names qs).Perm (names (ofPairs kind ps)) := by
        rw [ofPairs_names]
        exact pm
      clear hp3 hk3 hD3 pr3 rows3 b3 s3 s4 h4 b5 s5 nM hM nL u6 b6 cs4
      refine ⟨Lz, rfl, ⟨_, SqL.of hL⟩, for_list (K := K) (a := Lz) (xs := (zs.map fun q => V.ref q.1).take 3) (fun i σ H' => (∃ a7 a9 a10 : Option V, σ = [some (.ref p), some (.int kind), some (.ref pl), some (.ref k), some (.ref D), some (.str (PyData.list [pdata qs, sl xs]).shown), some (.ref E), a7, a8, a9, a10, none, none, none, none, none, none]) ∧ Same H6 H')
        ⟨⟨_, _, _, rfl⟩, Same.refl _⟩ ?_ ?_ ?_⟩
      · rintro i σ H7 _ ⟨_, s7⟩
        exact SqL.of (s7 _ _ hL)
      · rintro i y σ H7 hy ⟨⟨a7, a9, a10, rfl⟩, s7⟩
        obtain ⟨q, hq, rfl⟩ := List.mem_map.mp (List.mem_of_mem_take (List.mem_of_getElem? hy))
        obtain ⟨t1, t2⟩ := ty6 q (pmz.mem_iff.mp hq)
        obtain ⟨nm, hnm, en, er⟩ := tz q hq
        have mx : q.2.2.1 ∈ names qs := pm.mem_iff.mpr (List.mem_map.mpr ⟨nm, hnm, en⟩)
        have r := rgN_ok (kind := kind) mx (subq _ mx) lx
        rw [← er] at r
        have r2 := r.perm pmo mx
        refine ⟨q.1, _, rfl, SqT.of (s7 _ _ t1), rfl, _, _, rfl, _, _, rfl, rfl, ?_⟩
        refine ⟨_, rfl, _, rfl, _, rfl, _, rfl, kind, pl, k, ts, ofPairs kind ps, xs, q.2.2.1, rfl, s7 _ _ hp6, by rw [ofPairs_pairs]; exact pr6.same s7, by rw [ofPairs_names]; exact nd, by unfold ofPairs; rw [List.length_map]; exact lp, k0, k2, s7 _ _ hk6, ixs, lx, pmo.mem_iff.mp mx, subq _ mx, fun D9 H8 s8 n8 h8 => ?_⟩
        rw [r2.fits] at h8
        have shr := showsII (Nat.le_trans r.le r.h60) r.h60
        refine ⟨_, rfl, _, .tuple [.int (q.2.2.2.1 : Nat), .int (q.2.2.2.2 : Nat)], rfl, .tup (SqT.of (s8 _ _ (s7 _ _ t2))) (.cons (.int _) (.cons (.int _) .nil)), shr, ?_⟩
        refine ⟨_, rfl, ixL h8 (vN_first r.le) ⟨_, rfl, 1, rfl, ixL h8 (vN_last r.le) ⟨Nat.le_of_ble_eq_true rfl, fun tp ntp => ?_⟩⟩⟩
        have u9 := Same.new (o := .tup [.int (q.2.2.2.1 : Nat), .int (q.2.2.2.2 : Nat)]) ntp
        have h9 := u9 _ _ h8
        refine ⟨_, .tuple [.int (q.2.2.2.1 : Nat), .int (q.2.2.2.2 : Nat)], rfl, .tup (SqT.of upd_same) (.cons (.int _) (.cons (.int _) .nil)), shr, neS rfl ⟨_, rfl, ?_⟩⟩
        rw [strF]
        refine iteF ⟨_, rfl, _, rfl, ixL h9 (vN_first r.le) ⟨_, rfl, 1, rfl, ixL h9 (vN_last r.le) (addI ?_)⟩⟩
        have h60 := r.h60
        have hle := r.le
        refine ⟨_, _, rfl, rfl, RgOk.of_le (by omega) (by omega) (by omega) (by omega), fun q9 nq9 => .inr ⟨_, _, vN_dp _ ((Same.new nq9) _ _ h9), vN_dp (List.range' q.2.2.2.1 (q.2.2.2.2 + 1 - q.2.2.2.1)) (by rw [upd_same, vN_rg]), nums_shaped _, nums_shaped _, ?_⟩⟩
        rw [nums_eqv]
        exact ⟨_, rfl, iteF ⟨⟨_, _, _, rfl⟩, s7.trans (s8.trans (u9.trans (Same.new nq9)))⟩⟩
      · rintro σ H7 ⟨⟨a7, a9, a10, rfl⟩, s7⟩
        have rg : ∀ q ∈ ys, InR kind qs xs (q.2.2.1, q.2.2.2.1) ∧ q.2.2.2.1 ≤ q.2.2.2.2 ∧ q.2.2.2 = rgN kind qs xs q.2.2.1 := fun q hq => by
          obtain ⟨nm, hnm, en, er⟩ := tz q (pmz.mem_iff.mpr hq)
          have mx : q.2.2.1 ∈ names qs := pm.mem_iff.mpr (List.mem_map.mpr ⟨nm, hnm, en⟩)
          have r := rgN_ok (kind := kind) mx (subq _ mx) lx
          rw [← er] at r
          refine ⟨⟨mx, ?_, ?_⟩, r.le, er⟩
          · show (rgN kind qs xs q.2.2.1).1 ≤ q.2.2.2.1
            rw [← er]
            exact Nat.le_refl _
          · show q.2.2.2.1 ≤ (rgN kind qs xs q.2.2.1).2
            rw [← er]
            exact r.le
        have yn : ys.map (·.2.2.1) = ps.map (·.1) := by
          have z := congrArg (List.map (·.1)) eq4
          unfold endsL at z
          rw [List.map_map, List.map_map] at z
          exact z.symm
        have ty7 : ∀ q ∈ ys, H7 q.1 = some (.tup [.str q.2.2.1, .ref q.2.1]) ∧ H7 q.2.1 = some (.tup [.int (q.2.2.2.1 : Nat), .int (q.2.2.2.2 : Nat)]) := fun q hq => ⟨s7 _ _ (ty6 q hq).1, s7 _ _ (ty6 q hq).2⟩
        have hp7 := s7 _ _ hp6
        have hk7 := s7 _ _ hk6
        have hD7 := s7 _ _ hD6
        have hE7 := s7 _ _ hE6
        have pr7 := pr6.same s7
        have rows7 := rows6.same s7
        have src7 := SrcAt.same s6 s7
        have B7 := B6.trans (But.same s7)
        clear hp6 hk6 hD6 hE6 pr6 rows6 s6 s7 B6 ty6 tz hL pmz ty
        refine ⟨_, rfl, by decide, by decide, for_range (lo := 0) (n := 2) (fun i σ H' => (∃ a7 a9 a10 a11 a12 : Option V, σ = [some (.ref p), some (.int kind), some (.ref pl), some (.ref k), some (.ref D), some (.str (PyData.list [pdata qs, sl xs]).shown), some (.ref E), a7, a8, a9, a10, a11, a12, none, none, none, none]) ∧ Same H7 H')
          ⟨⟨_, _, _, _, _, rfl⟩, Same.refl _⟩ ?_ ?_⟩
        · rintro i σ H8 hi ⟨⟨a7, a9, a10, a11, a12, rfl⟩, s8⟩
          refine ⟨_, rfl, E, rfl, ⟨_, SqL.of (s8 _ _ hE7)⟩, fun O nO => ?_⟩
          refine lc_list (K := K) (a := E) (xs := ys.map fun q => V.ref q.1) (fun j H' => Same H8 H' ∧ ∃ us cs, H' O = some (.lst us) ∧ Rows A H' us (ofPairs kind cs) ∧ cs.map (·.1) = (ys.take j).map (·.2.2.1) ∧ ∀ c ∈ cs, InR kind qs xs c) ?_ ?_ ?_ ?_
          · exact ⟨Same.new nO, [], [], upd_same, .nil, rfl, fun c hc => by cases hc⟩
          · rintro j H9 _ ⟨s9, _⟩
            exact SqL.of (s9 _ _ (s8 _ _ hE7))
          · rintro j y H9 hy ⟨s9, us, cs, h9, r9, n9, g9⟩
            rw [List.getElem?_map] at hy
            cases hq : ys[j]? with
            | none => rw [hq] at hy; cases hy
            | some q =>
              rw [hq] at hy
              cases hy
              have mq := List.mem_of_getElem? hq
              have hj := (List.getElem?_eq_some_iff.mp hq).1
              obtain ⟨t1, t2⟩ := ty7 q mq
              obtain ⟨in1, le1, er1⟩ := rg q mq
              have S9 := s8.trans s9
              have in2 : InR kind qs xs (q.2.2.1, sel i q.2.2.2.1 q.2.2.2.2) := by
                refine ⟨in1.1, ?_, ?_⟩
                · show (rgN kind qs xs q.2.2.1).1 ≤ sel i q.2.2.2.1 q.2.2.2.2
                  rw [← er1]
                  unfold sel
                  split
                  · exact Nat.le_refl _
                  · exact le1
                · show sel i q.2.2.2.1 q.2.2.2.2 ≤ (rgN kind qs xs q.2.2.1).2
                  rw [← er1]
                  unfold sel
                  split
                  · exact le1
                  · exact Nat.le_refl _
              have h60 : sel i q.2.2.2.1 q.2.2.2.2 ≤ 60 := Nat.le_trans in2.2.2 (rgN_ok in1.1 (subq _ in1.1) lx).h60
              have gi : isItem q.2.2.1 = true := ixs.it _ (subq _ in1.1)
              have l9 := r9.len
              have ln : cs.length = j := by
                have z := congrArg List.length n9
                rw [List.length_map, List.length_map, List.length_take] at z
                omega
              refine ⟨_, _, rfl, SqT.of (S9 _ _ t1), rfl, _, _, rfl, _, _, rfl, rfl, rfl, _, rfl, _, rfl, _, rfl, _, rfl, ixT (S9 _ _ t2) (atI_sel hi) ⟨kind, _, _, rfl, k0, k2, gi, by omega, by omega, fun r dx H10 s10 nr er => ?_⟩⟩
              refine ⟨_, s10 _ _ h9, Nat.lt_of_lt_of_le (show us.length < 1000 by unfold ofPairs at l9; rw [List.length_map] at l9; omega) (by decide), fun c o eo => ?_, _, cs ++ [(q.2.2.1, sel i q.2.2.2.1 q.2.2.2.2)], upd_same, ?_, ?_, ?_⟩
              · rw [upd_ne (ne_of_none eo nO)]
                exact s10 _ _ (s9 _ _ eo)
              · rw [ofPairs_snoc]
                exact ((r9.same s10).snoc er k0 (by omega) gi).updL (s10 _ _ h9)
              · rw [List.take_add_one, hq, List.map_append, List.map_append, n9]
                rfl
              · intro c hc
                rcases List.mem_append.mp hc with hc | hc
                · exact g9 c hc
                · rw [List.mem_singleton.mp hc]
                  exact in2
          · rintro H9 ⟨s9, us, cs, h9, r9, n9, g9⟩
            rw [List.length_map, List.take_length, yn] at n9
            obtain ⟨L9, fn9, sub9⟩ := cs_log L (by rw [n9]; exact pm) ixs lx subq g9
            have S9 := s8.trans s9
            refine ⟨_, rfl, _, rfl, O, k, us, kind, ofPairs kind cs, xs, rfl, h9, r9, L9, S9 _ _ hk7, ixs, lx, sub9, fun _ H10 s10 => ?_, fun w x e => by rw [fn9] at e; cases e⟩
            exact ⟨rfl, _, rfl, iteF ⟨⟨_, _, _, _, _, rfl⟩, S9.trans s10⟩⟩
        · rintro σ H8 ⟨⟨a7, a9, a10, a11, a12, rfl⟩, s8⟩
          have ty8 : ∀ q ∈ ys, H8 q.1 = some (.tup [.str q.2.2.1, .ref q.2.1]) ∧ H8 q.2.1 = some (.tup [.int (q.2.2.2.1 : Nat), .int (q.2.2.2.2 : Nat)]) := fun q hq => ⟨s8 _ _ (ty7 q hq).1, s8 _ _ (ty7 q hq).2⟩
          have hp8 := s8 _ _ hp7
          have hk8 := s8 _ _ hk7
          have hD8 := s8 _ _ hD7
          have hE8 := s8 _ _ hE7
          have pr8 := pr7.same s8
          have rows8 := rows7.same s8
          have src8 := SrcAt.same src7 s8
          have B8 := B7.trans (But.same s8)
          clear hp7 hk7 hD7 hE7 pr7 rows7 src7 B7 ty7 s8
          have ne8 : ∀ {a : Addr} {vs : List V}, H8 a = some (.tup vs) → a ≠ p := fun {a vs} e z => by
            obtain ⟨g, m', c, z2, _⟩ := src8
            rw [z, z2] at e
            cases e
          refine ⟨_, rfl, E, rfl, ⟨_, SqL.of hE8⟩, fun O nO => ?_⟩
          have Op : O ≠ p := SrcAt.ne src8 nO
          refine lc_list (K := K) (a := E) (xs := ys.map fun q => V.ref q.1) (fun j H' => But p H8 H' ∧ SrcAt H' p (n + 200 - 40 + j) ∧ ∃ us cs, H' O = some (.lst us) ∧ Rows A H' us (ofPairs kind cs) ∧ cs.map (·.1) = (ys.take j).map (·.2.2.1) ∧ ∀ c ∈ cs, InR kind qs xs c) ?_ ?_ ?_ ?_
          · exact ⟨But.same (Same.new nO), (SrcAt.same src8 (Same.new nO)).le (by have := l40; omega), [], [], upd_same, .nil, rfl, fun c hc => by cases hc⟩
          · rintro j H9 _ ⟨b9, _⟩
            exact SqL.of (b9 _ _ hE8 Ep)
          · rintro j y H9 hy ⟨b9, s9, us, cs, h9, r9, n9, g9⟩
            rw [List.getElem?_map] at hy
            cases hq : ys[j]? with
            | none => rw [hq] at hy; cases hy
            | some q =>
              rw [hq] at hy
              cases hy
              have mq := List.mem_of_getElem? hq
              have hj := (List.getElem?_eq_some_iff.mp hq).1
              obtain ⟨t1, t2⟩ := ty8 q mq
              obtain ⟨in1, le1, er1⟩ := rg q mq
              have t1 := b9 _ _ t1 (ne8 t1)
              have t2 := b9 _ _ t2 (ne8 t2)
              have gi : isItem q.2.2.1 = true := ixs.it _ (subq _ in1.1)
              have l9 := r9.len
              have ln : cs.length = j := by
                have z := congrArg List.length n9
                rw [List.length_map, List.length_map, List.length_take] at z
                omega
              have hi60 : q.2.2.2.2 ≤ 60 := by
                have z := (rgN_ok (kind := kind) in1.1 (subq _ in1.1) lx).h60
                rw [← er1] at z
                exact z
              refine ⟨_, _, rfl, SqT.of t1, rfl, _, _, rfl, _, _, rfl, rfl, rfl, _, rfl, _, rfl, _, rfl, ixT t2 (atI0 _ _) ⟨_, rfl, _, rfl, ixT t2 (show atI _ 1 = some (.int (q.2.2.2.2 : Nat)) from rfl) ⟨_, rfl, ixT t2 (atI0 _ _) ⟨_, _, rfl, rfl, addI ⟨p, _, n + 200 - 40 + j, rfl, by omega, by omega, s9, by omega, fun o H10 o0 o1 s10 b10 => addI ?_⟩⟩⟩⟩⟩
              obtain ⟨o, rfl⟩ : ∃ m : Nat, o = m := ⟨o.toNat, by omega⟩
              rw [← Int.natCast_add]
              have in2 : InR kind qs xs (q.2.2.1, q.2.2.2.1 + o) := by
                refine ⟨in1.1, ?_, ?_⟩
                · show (rgN kind qs xs q.2.2.1).1 ≤ q.2.2.2.1 + o
                  rw [← er1]
                  exact Nat.le_add_right _ _
                · show q.2.2.2.1 + o ≤ (rgN kind qs xs q.2.2.1).2
                  rw [← er1]
                  omega
              have h10 := b10 _ _ h9 Op
              refine ⟨kind, _, _, rfl, k0, k2, gi, by omega, by omega, fun r dx H11 s11 nr er => ?_⟩
              refine ⟨_, s11 _ _ h10, Nat.lt_of_lt_of_le (show us.length < 1000 by unfold ofPairs at l9; rw [List.length_map] at l9; omega) (by decide), fun c u eo np => ?_, ?_, _, cs ++ [(q.2.2.1, q.2.2.2.1 + o)], upd_same, ?_, ?_, ?_⟩
              · rw [upd_ne (ne_of_none eo nO)]
                exact s11 _ _ (b10 _ _ (b9 _ _ eo np) np)
              · obtain ⟨g, m', c', e, r⟩ := SrcAt.same s10 s11
                exact SrcAt.le ⟨g, m', c', by rw [upd_ne Op.symm]; exact e, r⟩ (by omega)
              · rw [ofPairs_snoc]
                exact (((r9.but s9 b10).same s11).snoc er k0 (by omega) gi).updL (s11 _ _ h10)
              · rw [List.take_add_one, hq, List.map_append, List.map_append, n9]
                rfl
              · intro c hc
                rcases List.mem_append.mp hc with hc | hc
                · exact g9 c hc
                · rw [List.mem_singleton.mp hc]
                  exact in2
          · rintro H9 ⟨b9, s9, us, cs, h9, r9, n9, g9⟩
            rw [List.length_map, List.take_length, yn] at n9
            rw [List.length_map] at s9
            obtain ⟨L9, fn9, sub9⟩ := cs_log L (by rw [n9]; exact pm) ixs lx subq g9
            have hk9 := b9 _ _ hk8 kp
            have ty9 : ∀ q ∈ ys, H9 q.1 = some (.tup [.str q.2.2.1, .ref q.2.1]) ∧ H9 q.2.1 = some (.tup [.int (q.2.2.2.1 : Nat), .int (q.2.2.2.2 : Nat)]) := fun q hq => ⟨b9 _ _ (ty8 q hq).1 (ne8 (ty8 q hq).1), b9 _ _ (ty8 q hq).2 (ne8 (ty8 q hq).2)⟩
            have hp9 := b9 _ _ hp8 plp
            have hD9 := b9 _ _ hD8 Dp
            have hE9 := b9 _ _ hE8 Ep
            have pr9 := pr8.but src8 b9
            have rows9 := rows8.but src8 b9
            have B9 := B8.trans b9
            clear hp8 hk8 hD8 hE8 pr8 rows8 src8 B8 ty8 b9 ne8
            refine ⟨_, rfl, _, rfl, O, k, us, kind, ofPairs kind cs, xs, rfl, h9, r9, L9, hk9, ixs, lx, sub9, fun _ H10 s10 => ?_, fun w x e => by rw [fn9] at e; cases e⟩
            refine ⟨rfl, _, rfl, iteF ?_⟩
            have ndy : (ys.map (·.2.2.1)).Nodup := by
              rw [yn]
              exact nd
            refine ⟨_, rfl, E, ys.map (fun q => q.1), slotsE ys, rfl, SqL.of (by rw [s10 _ _ hE9, List.map_map]; rfl), slotsE_paired ys (fun q hq => s10 _ _ (ty9 q hq).1), fun S nS => ?_⟩
            rw [slotsE_merge ndy]
            have S11 := s10.trans (Same.new (o := .dK (slotsE ys)) nS)
            have hS : upd H10 S (.dK (slotsE ys)) S = some (.dK (slotsE ys)) := upd_same
            generalize upd H10 S (.dK (slotsE ys)) = H11 at S11 hS ⊢
            have lts := pr9.len
            refine ⟨_, rfl, pl, rfl, ⟨_, SqL.of (S11 _ _ hp9)⟩, fun G nG => ?_⟩
            refine lc_list (K := K) (a := pl) (xs := ts) (fun j H' => Same H11 H' ∧ ∃ us, H' G = some (.lst us) ∧ us.length = ((ps.take j).filter (gdB kind qs xs)).length) ?_ ?_ ?_ ?_
            · exact ⟨Same.new nG, [], upd_same, rfl⟩
            · rintro j H12 _ ⟨s12, _⟩
              exact SqL.of (s12 _ _ (S11 _ _ hp9))
            · rintro j y H12 hy ⟨s12, us2, h12, l12⟩
              obtain ⟨t0, x, m, rfl, hq, ht0⟩ := pr9.get hy
              have hj := (List.getElem?_eq_some_iff.mp hq).1
              have S12 := S11.trans s12
              obtain ⟨q, mq, ex⟩ : ∃ q ∈ ys, q.2.2.1 = x := List.mem_map.mp (by rw [yn]; exact List.mem_map.mpr ⟨_, List.mem_of_getElem? hq, rfl⟩)
              obtain ⟨_, _, er1⟩ := rg q mq
              have dg : DGet H12 S (.str x) (some (.ref q.2.1)) := (val_at (slotsE_nd ndy) (k := Sum.inr x) (v := .ref q.2.1) (List.mem_map.mpr ⟨q, mq, by rw [ex]⟩)) ▸ DGet.k (k := Sum.inr x) (s12 _ _ hS)
              have t2 := S12 _ _ (ty9 q mq).2
              have ht := S12 _ _ ht0
              rw [er1, ex] at t2
              have l12' : us2.length < 1000 := by
                have := List.length_filter_le (gdB kind qs xs) (ps.take j)
                rw [List.length_take] at this
                omega
              have tk : ps.take (j + 1) = ps.take j ++ [(x, m)] := by
                rw [List.take_add_one, hq]
                rfl
              refine ⟨rfl, _, rfl, _, rfl, ixT ht (atI0 _ _) ⟨S, _, rfl, dg, ixT t2 (atI0 _ _) ⟨_, rfl, ixT ht (show atI _ 1 = some (.int (m : Nat)) from rfl) ⟨_, _, rfl, rfl, _, rfl, ?_⟩⟩⟩⟩
              have no : (decide ((rgN kind qs xs x).1 ≤ m) && decide (m ≤ (rgN kind qs xs x).2)) = false → Same H11 H12 ∧ ∃ us, H12 G = some (.lst us) ∧ us.length = ((ps.take (j + 1)).filter (gdB kind qs xs)).length := fun e => by
                refine ⟨s12, us2, h12, ?_⟩
                rw [tk, List.filter_append, List.filter_cons_of_neg (by rw [show gdB kind qs xs (x, m) = false from e]; decide), List.filter_nil, List.append_nil]
                exact l12
              by_cases cA : (rgN kind qs xs x).1 ≤ m
              · rw [decide_eq_true (show (((rgN kind qs xs x).1 : Nat) : Int) ≤ (m : Nat) by omega)]
                refine iteT ⟨_, rfl, _, rfl, ixT ht (atI0 _ _) ⟨S, _, rfl, dg, ixT t2 (show atI _ 1 = some (.int ((rgN kind qs xs x).2 : Nat)) from rfl) ⟨_, _, rfl, rfl, _, rfl, ?_⟩⟩⟩
                by_cases cB : m ≤ (rgN kind qs xs x).2
                · rw [decide_eq_true (show ((m : Nat) : Int) ≤ ((rgN kind qs xs x).2 : Nat) by omega)]
                  refine iteT ⟨_, rfl, us2, h12, Nat.lt_of_lt_of_le l12' (by decide), fun c o eo => ?_, _, upd_same, ?_⟩
                  · rw [upd_ne (ne_of_none eo nG)]
                    exact s12 _ _ eo
                  · have e : gdB kind qs xs (x, m) = true := by
                      unfold gdB
                      rw [decide_eq_true (show (rgN kind qs xs (x, m).1).1 ≤ (x, m).2 from cA), decide_eq_true (show (x, m).2 ≤ (rgN kind qs xs (x, m).1).2 from cB)]
                      rfl
                    rw [tk, List.filter_append, List.filter_cons_of_pos e, List.filter_nil, List.length_append, List.length_append, l12]
                    rfl
                · rw [decide_eq_false (show ¬ ((m : Nat) : Int) ≤ ((rgN kind qs xs x).2 : Nat) by omega)]
                  exact iteF (no (by rw [decide_eq_false cB, Bool.and_false]))
              · rw [decide_eq_false (show ¬ (((rgN kind qs xs x).1 : Nat) : Int) ≤ (m : Nat) by omega)]
                exact iteF ⟨_, rfl, iteF (no (by rw [decide_eq_false cA, Bool.false_and]))⟩
            · rintro H12 ⟨s12, us2, h12, l12⟩
              rw [lts, List.take_length] at l12
              have S12 := S11.trans s12
              have iff : firstC kind qs xs = none ↔ us2.length = ts.length := by
                rw [none_pairs pq L.nd ixs lx subq, l12, lts, filter_all]
                refine forall_congr' fun c => forall_congr' fun hc => ?_
                unfold gdB
                rw [Bool.and_eq_true, decide_eq_true_eq, decide_eq_true_eq]
              have fin : ∀ H13, Same H12 H13 → Q (.bl true) H13 := fun H13 s13 => by
                refine h H13 ?_ ?_
                · exact B9.trans (But.same (S12.trans s13))
                · exact (SrcAt.same s9 (S12.trans s13)).le (by have := l40; omega)
              refine ⟨_, rfl, _, rfl, D, k, rs, kind, qs, xs, rfl, S12 _ _ hD9, rows9.same S12, L, S12 _ _ hk9, ixs, lx, subq, fun e H13 s13 => ⟨rfl, ?_⟩, fun w x e t H13 s13 ht => ⟨rfl, ?_⟩⟩
              · have e2 := iff.mp e
                refine ⟨_, rfl, _, _, rfl, .inl ⟨_, SqL.of (s13 _ _ h12), rfl⟩, _, rfl, _, _, rfl, .inl ⟨_, SqL.of (s13 _ _ (S12 _ _ hp9)), rfl⟩, eqS rfl (eqS rfl ?_)⟩
                have e3 : decide (V.bl (decide (V.non = V.non)) = V.bl (decide (V.int ((us2.length : Nat) : Int) = V.int ((ts.length : Nat) : Int)))) = true := by
                  rw [e2, decide_eq_true (show V.non = V.non from rfl), decide_eq_true (show V.int ((ts.length : Nat) : Int) = V.int ((ts.length : Nat) : Int) from rfl)]
                  decide
                rw [e3]
                exact fin H13 s13
              · have e2 : ¬ us2.length = ts.length := fun z => by
                  rw [iff.mpr z] at e
                  cases e
                refine ⟨_, rfl, _, _, rfl, .inl ⟨_, SqL.of (s13 _ _ h12), rfl⟩, _, rfl, _, _, rfl, .inl ⟨_, SqL.of (s13 _ _ (S12 _ _ hp9)), rfl⟩, eqS rfl (eqS rfl ?_)⟩
                have e3 : decide (V.bl (decide (V.ref t = V.non)) = V.bl (decide (V.int ((us2.length : Nat) : Int) = V.int ((ts.length : Nat) : Int)))) = true := by
                  rw [decide_eq_false (fun z : V.ref t = V.non => by cases z), decide_eq_false (fun z : V.int ((us2.length : Nat) : Int) = V.int ((ts.length : Nat) : Int) => e2 (by have := V.int.inj z; omega))]
                  decide
                rw [e3]
                exact fin H13 s13

end
end Own

set_option Elab.async false
set_option linter.all false
set_option maxRecDepth 100000
set_option maxHeartbeats 4000000
namespace Own
open PySem L2 ClX
local macro_rules | `(tactic| walk_at "v") => `(tactic| refine ⟨_, rfl, ?_⟩)
local macro_rules | `(tactic| walk_at "ii") => `(tactic| refine ⟨_, _, rfl, rfl, ?_⟩)
local macro_rules | `(tactic| walk_at "go") => `(tactic| repeat (first | refine ⟨_, rfl, ?_⟩ | refine ⟨_, _, rfl, rfl, ?_⟩ | refine addI ?_ | refine L2.iteT ?_ | refine L2.iteF ?_))

section
variable {P : Program} {w : World} {K : PySem.W.Frag} {mg : Str → Option Value} {base : Heap} {A : Ad}
/-! ### what stands while the law asks -/
structure Wk (H0 H : Hp) (p : Addr) (m : Int) (pl kl : Addr) (ts : List V) (ps : List (Str × Nat)) (xs : List Str) : Prop where
  sd : Sd H0 p m H
  plp : pl ≠ p
  klp : kl ≠ p
  hp : H pl = some (.lst ts)
  pr : Prs H ts ps
  hk : H kl = some (.lst (xs.map V.str))
  lp : ps.length ≤ 40
  b60 : ∀ q ∈ ps, q.2 ≤ 60
  nd : (ps.map (·.1)).Nodup
  sub : ∀ x ∈ ps.map (·.1), x ∈ xs
  ix : Items xs
  lx : xs.length ≤ 60
theorem Wk.pick {H0 H H' : Hp} {p pl kl : Addr} {m j : Int} {ts : List V} {ps : List (Str × Nat)} {xs : List Str} (c : Wk H0 H p m pl kl ts ps xs) (b : But p H H') (s : SrcAt H' p j) : Wk H0 H' p j pl kl ts ps xs :=
  { c with sd := ⟨c.sd.same.but c.sd.fr b, s, c.sd.fr⟩, hp := b _ _ c.hp c.plp, pr := c.pr.but c.sd.src b, hk := b _ _ c.hk c.klp }
theorem Wk.more {H0 H H' : Hp} {p pl kl : Addr} {m : Int} {ts : List V} {ps : List (Str × Nat)} {xs : List Str} (c : Wk H0 H p m pl kl ts ps xs) (s : Same H H') : Wk H0 H' p m pl kl ts ps xs := c.pick (But.same s) (SrcAt.same c.sd.src s)
theorem Wk.le {H0 H : Hp} {p pl kl : Addr} {m j : Int} {ts : List V} {ps : List (Str × Nat)} {xs : List Str} (c : Wk H0 H p m pl kl ts ps xs) (h : m ≤ j) : Wk H0 H p j pl kl ts ps xs := { c with sd := c.sd.le h }
def Alt (H : Hp) (p : Addr) (ps : List (Str × Nat)) (v : V) : Prop := ∃ (b : Addr) (us : List V) (rs : List (Str × Nat)), v = .ref b ∧ b ≠ p ∧ H b = some (.lst us) ∧ Prs H us rs ∧ (∀ q ∈ rs, q.2 ≤ 60) ∧ rs.map (·.1) = ps.map (·.1)
theorem Alt.but {H H' : Hp} {p : Addr} {n : Int} {ps : List (Str × Nat)} {v : V} (h : Alt H p ps v) (s : SrcAt H p n) (b : But p H H') : Alt H' p ps v := by
  obtain ⟨a, us, rs, e, ap, ha, pr, g, q⟩ := h
  exact ⟨a, us, rs, e, ap, b _ _ ha ap, pr.but s b, g, q⟩
theorem Wk.ask {H0 H : Hp} {p pl kl : Addr} {m : Int} {ts : List V} {ps : List (Str × Nat)} {xs : List Str} (c : Wk H0 H p m pl kl ts ps xs) {rs : List (Str × Nat)} (q : rs.map (·.1) = ps.map (·.1)) : rs.length ≤ 40 ∧ (rs.map (·.1)).Nodup ∧ ∀ x ∈ rs.map (·.1), x ∈ xs := by
  have l := congrArg List.length q
  rw [List.length_map, List.length_map] at l
  have := c.lp
  exact ⟨by omega, by rw [q]; exact c.nd, by rw [q]; exact c.sub⟩

/-! ### the law -/
def nt2 : List (Int × Str × Nat) := [(2, "a", 9), (2, "b", 9)]
def kn4 : List Str := ["x", "b", "y", "a"]
def nm2 : List Str := ["a", "b"]
def rg2 : List (Nat × Nat) := [(3, 3), (1, 2)]
theorem told_rg : ∀ i : Fin 2, rangeOf 2 nt2 kn4 (nm2.getD (i : Nat) Str.empty) = (((rg2.getD (i : Nat) (0, 0)).1 : Int), ((rg2.getD (i : Nat) (0, 0)).2 : Int)) := by decide +kernel
theorem items4 : Items kn4 := ⟨List.all_eq_true.mp (by decide +kernel : kn4.all isItem = true), by decide +kernel⟩
theorem nm_in : ∀ i : Fin 2, nm2.getD (i : Nat) Str.empty ∈ names nt2 := by decide +kernel
theorem logQ2 : LogQ 2 nt2 := by
  refine ⟨fun q hq => ?_, fun q hq => ?_, by decide, by decide, by decide +kernel, by decide⟩
  · have z : nt2.all (fun q => decide (q.2.2 ≤ 60)) = true := by decide +kernel
    exact of_decide_eq_true (List.all_eq_true.mp z q hq)
  · have z : nt2.all (fun q => decide (q.1 = 2)) = true := by decide +kernel
    exact of_decide_eq_true (List.all_eq_true.mp z q hq)
/-- pairs of whole numbers -/
inductive Nps (H : Hp) : List V → List (Nat × Nat) → Prop where
  | nil : Nps H [] []
  | cons {t : Addr} {a b : Nat} {vs : List V} {ps : List (Nat × Nat)} (e : H t = some (.tup [.int (a : Nat), .int (b : Nat)])) (r : Nps H vs ps) : Nps H (.ref t :: vs) ((a, b) :: ps)
theorem Nps.same {H H' : Hp} {vs : List V} {ps : List (Nat × Nat)} (h : Nps H vs ps) (s : Same H H') : Nps H' vs ps := by
  induction h with
  | nil => exact .nil
  | cons e _ ih => exact .cons (s _ _ e) ih
theorem Nps.len {H : Hp} {vs : List V} {ps : List (Nat × Nat)} (h : Nps H vs ps) : vs.length = ps.length := by
  induction h with
  | nil => rfl
  | cons _ _ ih => rw [List.length_cons, List.length_cons, ih]
theorem Nps.snoc {H : Hp} {vs : List V} {ps : List (Nat × Nat)} {t : Addr} {a b : Nat} (h : Nps H vs ps) (e : H t = some (.tup [.int (a : Nat), .int (b : Nat)])) : Nps H (vs ++ [.ref t]) (ps ++ [(a, b)]) := by
  induction h with
  | nil => exact .cons e .nil
  | cons e' _ ih => exact .cons e' ih
theorem Nps.updL {H : Hp} {vs us : List V} {ps : List (Nat × Nat)} {D : Addr} {o : HO} (h : Nps H vs ps) (hD : H D = some (.lst us)) : Nps (upd H D o) vs ps := by
  induction h with
  | nil => exact .nil
  | @cons t a b vs ps e _ ih =>
    refine .cons ?_ ih
    rw [upd_ne (fun z => by rw [z, hD] at e; cases e)]
    exact e
theorem Nps.dp {H : Hp} {vs : List V} {ps : List (Nat × Nat)} (h : Nps H vs ps) : DpAll K H vs (ps.map fun c => PyData.tuple [.int (c.1 : Nat), .int (c.2 : Nat)]) := by
  induction h with
  | nil => exact .nil
  | cons e _ ih => exact .cons (.tup (SqT.of e) (.cons (.int _) (.cons (.int _) .nil))) ih
def toldD : PyData := .list (rg2.map fun c => PyData.tuple [.int (c.1 : Nat), .int (c.2 : Nat)])
theorem told_shaped : SeqAt.shaped toldD = true := by decide +kernel
theorem told_eqv : PyData.eqv toldD toldD = true := by decide +kernel
def spLaw (K : PySem.W.Frag) : Sp := fun vs H Q _ => ∃ (a : Addr) (ns : List Int), vs = [.ref a] ∧ SqL K H a (ns.map V.int) ∧ ns.length ≤ 63 ∧ ∀ H', Q (.bl true) H'
theorem ok_law (T : Txt K mg A) : OkG P w K mg base 9 A.f_law ["script"] (spLaw K) := by
  refine T.fn_law.okG sc_law (fun _ _ _ _ _ _ us hl => match us, hl with | [_], _ => rfl) (fun vs H Q E h => ?_) (fun cdv B up s H0 vs Q hr gd h => ?_)
  · obtain ⟨a, ns, rfl, _⟩ := h
    rfl
  · obtain ⟨a0, ns, rfl, hS, hl, h⟩ := h
    refine ⟨_, (pss_cons (ps_for PassesOwn.never rfl (pi_range1 rfl T.no_range (pa_cons (pe_callB (call_max2 rfl) (by rfl) T.no_max (by decide +kernel) (pa_cons pe_int (pa_cons (pe_callB (call_min2 rfl) (by rfl) T.no_min (by decide +kernel) (pa_cons pe_int (pa_cons (pe_callB call_len (by rfl) T.no_len (by decide +kernel) (pa_cons (pv 0) pa_nil)) pa_nil))) pa_nil))) pa_nil)) (pg_name (i := 1) sc_law.nd rfl (Or.inl rfl))
      (pss_cons (ps_set (i := 2) sc_law.nd rfl (Or.inr rfl) (po_call (ok__law_source T) (hr.mono (by decide)) T.mg__law_source (pa_cons (pv 0) (pa_cons (pv 1) pa_nil))))
      (pss_one (ps_for PassesOwn.never rfl (pi_range1 rfl T.no_range (pa_cons pe_int pa_nil)) (pg_name (i := 3) sc_law.nd rfl (Or.inl rfl))
      (pss_cons (ps_set (i := 4) sc_law.nd rfl (Or.inl rfl) (pe_ix ix_seq (pe_lst (pa_cons pe_int (pa_cons (pe_ix ix_seq (pe_lst (pa_cons pe_int (pa_cons pe_int pa_nil))) (pe_callTy call_int1 (by rfl) T.no_int (by decide +kernel) (pa_cons (pe_cmpR (op_eqX hr) (pv 1) pe_int (nomark _)) pa_nil)) (fun _ _ => rfl)) pa_nil))) (po_call (ok__law_pick T) (hr.mono (by decide)) T.mg__law_pick (pa_cons (pv 2) (pa_cons pe_int pa_nil))) (fun _ _ => rfl)))
      (pss_cons (ps_asg (po_call (ok__law_history T) (hr.mono (by decide)) T.mg__law_history (pa_cons (pv 2) (pa_cons (pv 3) (pa_cons (pv 4) (pa_cons (pe_ix ix_seq (pe_lst (pa_cons pe_int (pa_cons pe_int pa_nil))) (po_call (ok__law_pick T) (hr.mono (by decide)) T.mg__law_pick (pa_cons (pv 2) (pa_cons pe_int pa_nil))) (fun _ _ => rfl)) pa_nil))))) (pg_tup (by rfl) (pgs_cons (pg_name (i := 5) sc_law.nd rfl (Or.inl rfl)) (pgs_cons (pg_name (i := 6) sc_law.nd rfl (Or.inl rfl)) pgs_nil))))
      (pss_cons (ps_setLcD (i := 7) (own := [("name", 10), ("index", 11)]) rfl sc_law.nd rfl rfl (sw_true rfl rfl rfl (by decide +kernel)) (pi_list (pv 5)) (blkOk_by (N := N_law) (sc := defScope s_law) (by decide +kernel)) (fun _ _ _ _ _ => pg_tup (by rfl) (pgs_cons (pg_name (i := 10) sc_law.nd rfl (Or.inl rfl)) (pgs_cons (pg_name (i := 11) sc_law.nd rfl (Or.inl rfl)) pgs_nil))) (fun _ _ _ _ _ => pts_nil) (fun _ _ _ _ _ => (pe_tup (pa_cons (pv 10) (pa_cons (po_call (ok__law_pick T) (hr.mono (by decide)) T.mg__law_pick (pa_cons (pv 2) (pa_cons pe_int pa_nil))) pa_nil)))))
      (pss_cons (ps_for PassesOwn.never rfl (pi_list (pe_lst (pa_cons (po_call (ok__law_bent T) (hr.mono (by decide)) T.mg__law_bent (pa_cons (pv 2) (pa_cons (pv 5) pa_nil))) (pa_cons (pv 7) pa_nil)))) (pg_name (i := 8) sc_law.nd rfl (Or.inl rfl))
      (pss_one (ps_if (pt_not (pt_val (pg_call (ok__law_right T) (hr.mono (by decide)) gd T.mg__law_right (pa_cons (pv 2) (pa_cons (pv 3) (pa_cons (pv 8) (pa_cons (pv 6) pa_nil))))))) (pss_one (ps_ret pe_bl)) pss_nil)))
      (pss_one (ps_if (pt_not (pt_val (pg_call (ok__law_right T) (hr.mono (by decide)) gd T.mg__law_right (pa_cons (pv 2) (pa_cons (pv 3) (pa_cons (pv 5) (pa_cons (po_call (ok__law_mixed T) (hr.mono (by decide)) T.mg__law_mixed (pa_cons (pv 2) (pa_cons (pv 6) pa_nil))) pa_nil))))))) (pss_one (ps_ret pe_bl)) pss_nil))))))))))
      (pss_cons (ps_set (i := 9) sc_law.nd rfl (Or.inr rfl) (pe_lst (pa_cons (po_make T.mk_Fronted (ok_Record___init__ T) (hr.mono (by decide)) T.mg_Fronted (pa_cons pe_str (pa_cons pe_int pa_nil))) (pa_cons (po_make T.mk_Fronted (ok_Record___init__ T) (hr.mono (by decide)) T.mg_Fronted (pa_cons pe_str (pa_cons pe_int pa_nil))) pa_nil))))
      (pss_one (ps_ret (pe_cmpR (op_eqX hr) (pe_lcD (own := [("name", 10)]) rfl sc_law.nd (pi_tup (pe_tup (pa_cons pe_str (pa_cons pe_str pa_nil)))) (blkOk_by (N := N_law) (sc := defScope s_law) (by decide +kernel)) (fun _ _ _ _ _ => pg_name (i := 10) sc_law.nd rfl (Or.inl rfl)) (fun _ _ _ _ _ => pts_nil) (fun _ _ _ _ _ => (px_call (ok_index_range T) (fun _ => atL) (hr.mono (by decide)) T.mg_index_range (pa_cons (pv 9) (pa_cons (pe_lst (pa_cons pe_str (pa_cons pe_str (pa_cons pe_str (pa_cons pe_str pa_nil))))) (pa_cons (pv 10) pa_nil)))))) (pe_lst (pa_cons (pe_tup (pa_cons pe_int (pa_cons pe_int pa_nil))) (pa_cons (pe_tup (pa_cons pe_int (pa_cons pe_int pa_nil))) pa_nil))) (nomark _)))))), ?_⟩
    refine ⟨_, rfl, _, _, rfl, .inl ⟨_, hS, rfl⟩, _, _, rfl, _, _, rfl, ?_⟩
    have hJ : ∀ L : Int, 0 ≤ (if (if L < 3 then L else 3) > 1 then (if L < 3 then L else 3) else 1) ∧ (if (if L < 3 then L else 3) > 1 then (if L < 3 then L else 3) else 1) ≤ 3 := fun L => by
      constructor <;> (repeat' split) <;> omega
    obtain ⟨j0, j1⟩ := hJ ((List.map V.int ns).length : Int)
    refine ⟨_, rfl, by omega, by omega, for_range (lo := 0) (n := Int.toNat _) (fun i σ H => (∃ v1 v2 v3 v4 v5 v6 v7 v8 : Option V, σ = [some (.ref a0), v1, v2, v3, v4, v5, v6, v7, v8, none, none, none]) ∧ Same H0 H)
      ⟨⟨_, _, _, _, _, _, _, _, rfl⟩, Same.refl _⟩ ?_ ?_⟩
    · rintro i σ H hi ⟨⟨v1, v2, v3, v4, v5, v6, v7, v8, rfl⟩, sm⟩
      have hi6 : i < 64 := by omega
      refine ⟨_, rfl, _, rfl, a0, ns, i, by rw [Int.zero_add]; rfl, sm.seq hS, hi6, fun p H1 s1 np src0 => ?_⟩
      have f0 : H0 p = none := sm.free np
      refine ⟨_, rfl, by decide, by decide, for_range (lo := 0) (n := 3) (fun t σ H => (∃ v3 v4 v5 v6 v7 v8 : Option V, σ = [some (.ref a0), some (.int (0 + i)), some (.ref p), v3, v4, v5, v6, v7, v8, none, none, none]) ∧ Sd H0 p (2000 * t) H)
        ⟨⟨_, _, _, _, _, _, rfl⟩, sm.trans s1, (by rw [show (2000 : Int) * ((0 : Nat) : Int) = 0 from rfl]; exact src0), f0⟩ ?_ ?_⟩
      · rintro t σ H2 ht ⟨⟨v3, v4, v5, v6, v7, v8, rfl⟩, d⟩
        generalize hN : 2000 * (t : Int) = N at d
        have hN2 : N < 2 ^ 40 := by omega
        -- most
        refine ⟨Nat.le_of_ble_eq_true rfl, fun q1 nq1 => ?_⟩
        have u1 := Same.new (o := .lst [.int 8, .int 40]) nq1
        have d1 := d.more u1
        obtain ⟨z1, hz1, z10, z11⟩ := pickI (zs := [8, 40]) (r := if decide (V.int (0 + (i : Int)) = V.int 0) = true then 1 else 0) (fun z => 0 ≤ z ∧ z ≤ 40)
          (by
            intro z hz
            simp only [List.mem_cons, List.not_mem_nil, or_false] at hz
            rcases hz with rfl | rfl <;> omega) (by split <;> omega) (by split <;> decide)
        refine ⟨_, rfl, eqS rfl (.inr ⟨_, rfl, ixL upd_same hz1 ⟨Nat.le_of_ble_eq_true rfl, fun q2 nq2 => ?_⟩⟩)⟩
        have u2 := Same.new (o := .lst [.int 5, .int z1]) nq2
        have d2 := d1.more u2
        have q2p := d1.ne nq2
        refine ⟨_, rfl, p, 2, N, rfl, by decide, by decide, d2.src, by omega, fun r1 H3 r10 r11 s3 b3 => ?_⟩
        obtain ⟨z2, hz2, z20, z21⟩ := pickI (zs := [5, z1]) (fun z => 0 ≤ z ∧ z ≤ 40)
          (by
            intro z hz
            simp only [List.mem_cons, List.not_mem_nil, or_false] at hz
            rcases hz with rfl | rfl <;> omega) r10 r11
        refine ixL (b3 _ _ upd_same q2p) hz2 ?_
        have d3 := d2.pick b3 s3
        obtain ⟨most, rfl⟩ : ∃ o : Nat, z2 = o := ⟨z2.toNat, by omega⟩
        refine ⟨_, rfl, _, rfl, _, rfl, Nat.le_of_ble_eq_true rfl, fun q3 nq3 => ?_⟩
        have u3 := Same.new (o := .lst [.int 2, .int 20]) nq3
        have d4 := d3.more u3
        have q3p := d3.ne nq3
        refine ⟨_, rfl, p, 2, N + 1, rfl, by decide, by decide, d4.src, by omega, fun r2 H4 r20 r21 s4 b4 => ?_⟩
        obtain ⟨z3, hz3, z30, z31⟩ := pickI (zs := [2, 20]) (fun z => 0 ≤ z ∧ z ≤ 20)
          (by
            intro z hz
            simp only [List.mem_cons, List.not_mem_nil, or_false] at hz
            rcases hz with rfl | rfl <;> omega) r20 r21
        refine ixL (b4 _ _ upd_same q3p) hz3 ?_
        have d5 := d4.pick b4 s4
        obtain ⟨more, rfl⟩ : ∃ o : Nat, z3 = o := ⟨z3.toNat, by omega⟩
        refine ⟨p, N + 1 + 1, 0 + (t : Int), most, more, rfl, d5.src, by omega, by omega, by omega, by omega, by omega, fun tp pl kl ts ps xs H5 b5 s5 npl nkl htp hpl prs hkl ixs lx lp b60 nd sub => ?_⟩
        refine ⟨tp, _, rfl, SqT.of htp, rfl, _, _, rfl, _, _, rfl, rfl, ?_⟩
        have c : Wk H0 H5 p (N + 402) pl kl ts ps xs :=
          { sd := ⟨d5.same.but d5.fr b5, s5.le (by omega), d5.fr⟩, plp := d5.ne npl, klp := d5.ne nkl, hp := hpl, pr := prs, hk := hkl, lp := lp, b60 := b60, nd := nd, sub := sub, ix := ixs, lx := lx }
        clear d d1 d2 d3 d4 d5 u1 u2 u3 nq1 nq2 nq3 q2p q3p s3 b3 s4 b4 b5 s5 npl nkl htp hpl prs hkl ixs lx lp b60 nd sub hz1 hz2 hz3 r10 r11 r20 r21 z10 z11
        have lp := c.lp
        -- free indices
        refine ⟨_, rfl, pl, rfl, ⟨_, SqL.of c.hp⟩, fun D nD => ?_⟩
        have Dp := c.sd.ne nD
        refine lc_list (K := K) (a := pl) (xs := ts) (fun j H' => ∃ (us : List V) (rs : List (Str × Nat)), H' D = some (.lst us) ∧ Prs H' us rs ∧ (∀ q ∈ rs, q.2 ≤ 60) ∧ rs.map (·.1) = (ps.take j).map (·.1) ∧ But p H5 H' ∧ SrcAt H' p (N + 402 + j)) ?_ ?_ ?_ ?_
        · exact ⟨[], [], upd_same, .nil, (fun q hq => by cases hq), rfl, But.same (Same.new nD), (SrcAt.same c.sd.src (Same.new nD)).le (by omega)⟩
        · rintro j H' _ ⟨us, rs, h1, p1, g1, e1, b1, s1⟩
          exact SqL.of (b1 _ _ c.hp c.plp)
        · rintro j y H' hy ⟨us, rs, h1, p1, g1, e1, b1, s1⟩
          obtain ⟨tt, x, m, rfl, hq, ht⟩ := c.pr.get hy
          have hj := (List.getElem?_eq_some_iff.mp hq).1
          have ht' := b1 _ _ ht (fun e => by
            obtain ⟨g, m', c', z2, _⟩ := c.sd.src
            rw [e, z2] at ht
            cases ht)
          have lu := p1.len
          have lr : rs.length = j := by
            have := congrArg List.length e1
            rw [List.length_map, List.length_map, List.length_take] at this
            omega
          refine ⟨_, _, rfl, SqT.of ht', rfl, _, _, rfl, _, _, rfl, rfl, rfl, _, rfl, _, rfl, p, 61, _, rfl, by decide, by decide, s1, by omega, fun r H2 r0 r1 s2 b2 => ⟨Nat.le_of_ble_eq_true rfl, fun tp ntp => ?_⟩⟩
          obtain ⟨o, rfl⟩ : ∃ o : Nat, r = o := ⟨r.toNat, by omega⟩
          have ut := Same.new (o := .tup [.str x, .int (o : Nat)]) ntp
          have e2 := ut _ _ (b2 _ _ h1 Dp)
          refine ⟨_, e2, Nat.lt_of_lt_of_le (show us.length < 1000 by omega) (by decide), us ++ [.ref tp], rs ++ [(x, o)], upd_same, (((p1.but s1 b2).same ut).snoc upd_same).updL e2, ?_, ?_, fun a u ea ap => ?_, ?_⟩
          · intro q hq
            rcases List.mem_append.mp hq with hq | hq
            · exact g1 q hq
            · rw [List.mem_singleton.mp hq]
              show o ≤ 60
              omega
          · have e4 : ps.take (j + 1) = ps.take j ++ [(x, m)] := by
              rw [List.take_add_one, hq]
              rfl
            rw [e4, List.map_append, List.map_append, e1]
            rfl
          · rw [upd_ne (ne_of_none ea nD)]
            exact ut _ _ (b2 _ _ (b1 _ _ ea ap) ap)
          · have z3 : N + 402 + ((j + 1 : Nat) : Int) = N + 402 + j + 1 := by omega
            rw [z3]
            obtain ⟨g, m', c', e, r⟩ := SrcAt.same s2 ut
            exact ⟨g, m', c', by rw [upd_ne Dp.symm]; exact e, r⟩
        rintro H6 ⟨us2, rs2, hD2, pD2, g2, e2, b1, s1⟩
        rw [c.pr.len] at s1 e2
        rw [List.take_length] at e2
        have a2 : Alt H6 p ps (.ref D) := ⟨D, us2, rs2, rfl, Dp, hD2, pD2, g2, e2⟩
        replace c := (c.pick b1 s1).le (show _ ≤ N + 442 by omega)
        clear hD2 pD2 g2 e2 b1 s1 nD
        refine ⟨_, rfl, _, rfl, p, pl, N + 442, ts, ps, rfl, c.sd.src, by omega, c.hp, c.pr, c.lp, c.b60, fun B1 us1 rs1 H7 b7 s7 nB1 hB1 pB1 g1 e1 => ?_⟩
        have B1p := c.sd.ne nB1
        replace a2 := a2.but c.sd.src b7
        replace c := (c.pick b7 s7).le (show _ ≤ N + 522 by omega)
        have a1 : Alt H7 p ps (.ref B1) := ⟨B1, us1, rs1, rfl, B1p, hB1, pB1, g1, e1⟩
        refine ⟨_, rfl, Nat.le_of_ble_eq_true rfl, fun L nL => ?_⟩
        have uL := Same.new (o := .lst [.ref B1, .ref D]) nL
        have Lp := c.sd.ne nL
        have al : ∀ v ∈ [V.ref B1, .ref D], Alt (upd H7 L (.lst [.ref B1, .ref D])) p ps v := by
          intro v hv
          simp only [List.mem_cons, List.not_mem_nil, or_false] at hv
          rcases hv with rfl | rfl
          · exact a1.but c.sd.src (But.same uL)
          · exact a2.but c.sd.src (But.same uL)
        replace c := c.more uL
        have hL : upd H7 L (.lst [.ref B1, .ref D]) L = some (.lst [.ref B1, .ref D]) := upd_same
        generalize upd H7 L (.lst [.ref B1, .ref D]) = H8 at c al hL ⊢
        clear a1 a2 uL nL b7 s7 nB1 hB1 pB1 g1 e1
        refine ⟨L, rfl, ⟨_, SqL.of hL⟩, for_list (K := K) (a := L) (xs := [.ref B1, .ref D]) (fun j σ H => (∃ v8 : Option V, σ = [some (.ref a0), some (.int (0 + i)), some (.ref p), some (.int (0 + t)), some (.int (most : Nat)), some (.ref pl), some (.ref kl), some (.ref D), v8, none, none, none]) ∧ Wk H0 H p (N + 522 + 200 * j) pl kl ts ps xs ∧ H L = some (.lst [.ref B1, .ref D]) ∧ ∀ v ∈ [V.ref B1, .ref D], Alt H p ps v)
          ⟨⟨_, rfl⟩, c.le (by omega), hL, al⟩ ?_ ?_ ?_⟩
        · rintro j σ H _ ⟨_, _, z, _⟩
          exact SqL.of z
        · clear c al hL H8
          rintro j y σ H9 hy ⟨⟨v8, rfl⟩, c, hL, al⟩
          obtain ⟨b, us, rs, rfl, bp, hb, pb, gb, eb⟩ := al y (List.mem_of_getElem? hy)
          have hj : j < 2 := (List.getElem?_eq_some_iff.mp hy).1
          obtain ⟨l40, nd2, sub2⟩ := c.ask eb
          refine ⟨_, rfl, _, rfl, _, rfl, _, rfl, p, b, kl, N + 522 + 200 * j, 0 + (t : Int), us, rs, xs, rfl, c.sd.src, by omega, by omega, by omega, hb, pb, l40, gb, nd2, sub2, bp, c.klp, c.hk, c.ix, c.lx, fun H10 b10 s10 => ⟨_, rfl, iteF ?_⟩⟩
          exact ⟨⟨_, rfl⟩, (c.pick b10 s10).le (by omega), b10 _ _ hL Lp, fun v hv => (al v hv).but c.sd.src b10⟩
        · clear c al hL H8
          rintro σ H9 ⟨⟨v8, rfl⟩, c, _, _⟩
          replace c := c.le (show _ ≤ N + 922 by show N + 522 + 200 * ((2 : Nat) : Int) ≤ _; omega)
          -- another known list
          have lx := c.lx
          refine ⟨_, rfl, _, rfl, _, rfl, _, rfl, _, rfl, p, kl, _, _, _, xs, rfl, c.sd.src, c.hk, by omega, by omega, fun M ys H10 pm b10 s10 nM hM => ?_⟩
          have c10 := (c.pick b10 s10).le (show _ ≤ N + 982 by omega)
          refine ⟨p, pl, M, N + 982, 0 + (t : Int), ts, ps, ys, rfl, c10.sd.src, by omega, by omega, by omega, c10.hp, c10.pr, c.lp, c.b60, c.nd, (fun x hx => pm.mem_iff.mpr (c.sub x hx)), c.plp, c.sd.ne nM, hM, c.ix.perm pm, by rw [pm.length_eq]; exact lx, fun H11 b11 s11 => ⟨_, rfl, iteF ?_⟩⟩
          have c11 := (c10.pick b11 s11).le (show _ ≤ 2000 * ((t + 1 : Nat) : Int) by omega)
          exact ⟨⟨_, _, _, _, _, _, rfl⟩, c11.sd⟩
      · rintro σ H ⟨⟨v3, v4, v5, v6, v7, v8, rfl⟩, d⟩
        exact ⟨⟨_, _, _, _, _, _, _, _, rfl⟩, d.same⟩
    · rintro σ H ⟨⟨v1, v2, v3, v4, v5, v6, v7, v8, rfl⟩, sm⟩
      clear j0 j1 hJ
      have gx : isItem "a" = true := by decide +kernel
      have gy : isItem "b" = true := by decide +kernel
      refine fun p1 dx1 np1 nd1 ne1 => ⟨p1, _, dx1, "a", 9, rfl, upd_same, rc_Fronted T, gx, by decide, by decide, fun H1 e1 b1 => ⟨rfl, ?_⟩⟩
      refine fun p2 dx2 np2 nd2 ne2 => ⟨p2, _, dx2, "b", 9, rfl, upd_same, rc_Fronted T, gy, by decide, by decide, fun H2 e2 b2 => ⟨rfl, Nat.le_of_ble_eq_true rfl, fun NN nN => ?_⟩⟩
      have e1 := made_same np2 nd2 b2 _ _ e1
      have uN := Same.new (o := .lst [.ref p1, .ref p2]) nN
      have hN : upd H2 NN (.lst [.ref p1, .ref p2]) NN = some (.lst [.ref p1, .ref p2]) := upd_same
      have e1 := uN _ _ e1
      have e2 := uN _ _ e2
      have rows : Rows A (upd H2 NN (.lst [.ref p1, .ref p2])) [.ref p1, .ref p2] nt2 := .cons (dx := dx1) (way := 2) (x := "a") (n := 9) e1 (by decide) (by decide) gx (.cons (dx := dx2) (way := 2) (x := "b") (n := 9) e2 (by decide) (by decide) gy .nil)
      generalize upd H2 NN (.lst [.ref p1, .ref p2]) = H3 at hN rows ⊢
      clear e1 e2 uN nN b1 b2 np1 nd1 ne1 np2 nd2 ne2
      refine ⟨Nat.le_of_ble_eq_true rfl, fun tt ntt => ⟨tt, rfl, ⟨_, SqT.of upd_same⟩, fun G nG => ?_⟩⟩
      have ut := Same.new (o := .tup [.str "a", .str "b"]) ntt
      have htt : upd H3 tt (.tup [.str "a", .str "b"]) tt = some (.tup [.str "a", .str "b"]) := upd_same
      replace hN := ut _ _ hN
      replace rows := rows.same ut
      generalize upd H3 tt (.tup [.str "a", .str "b"]) = H4 at htt hN rows nG ⊢
      refine lc_tup (K := K) (a := tt) (xs := [.str "a", .str "b"]) (fun j H' => Same H4 H' ∧ ∃ us, H' G = some (.lst us) ∧ Nps H' us (rg2.take j)) ?_ ?_ ?_ ?_
      · exact ⟨Same.new nG, [], upd_same, .nil⟩
      · rintro j H' _ ⟨s, _⟩
        exact SqT.of (s _ _ htt)
      · rintro j y H' hy ⟨s, us, h1, q1⟩
        have hj : j < 2 := (List.getElem?_eq_some_iff.mp hy).1
        have ey : y = .str (nm2.getD j Str.empty) := by
          have z : j = 0 ∨ j = 1 := by omega
          rcases z with rfl | rfl <;> (cases hy; rfl)
        subst ey
        have tr : rangeOf 2 nt2 kn4 (nm2.getD j Str.empty) = _ := told_rg ⟨j, hj⟩
        have mn : nm2.getD j Str.empty ∈ names nt2 := nm_in ⟨j, hj⟩
        refine ⟨rfl, _, rfl, Nat.le_of_ble_eq_true rfl, fun b nb => ⟨_, rfl, ?_⟩⟩
        have ub := Same.new (o := .lst (kn4.map V.str)) nb
        refine ⟨NN, b, _, 2, nt2, kn4, nm2.getD j Str.empty, rfl, ub _ _ (s _ _ hN), (rows.same s).same ub, logQ2, upd_same, items4, by decide, ?_, mn, fun t H5 s5 nt ht => ?_⟩
        · have z : (names nt2).all (fun x => decide (x ∈ kn4)) = true := by decide +kernel
          exact fun x hx => of_decide_eq_true (List.all_eq_true.mp z x hx)
        rw [tr] at ht
        have lu := q1.len
        rw [List.length_take] at lu
        have e2 := s5 _ _ (ub _ _ h1)
        refine ⟨us, e2, Nat.lt_of_lt_of_le (show us.length < 1000 by omega) (by decide), fun a o ea => ?_, us ++ [.ref t], upd_same, ?_⟩
        · rw [upd_ne (ne_of_none ea nG)]
          exact s5 _ _ (ub _ _ (s _ _ ea))
        · have e4 : rg2.take (j + 1) = rg2.take j ++ [rg2.getD j (0, 0)] := by
            have z : j = 0 ∨ j = 1 := by omega
            rcases z with rfl | rfl <;> rfl
          rw [e4]
          exact (((q1.same ub).same s5).snoc ht).updL e2
      rintro H8 ⟨s8, us1, hD1, q1⟩
      have q1 : Nps H8 us1 rg2 := q1
      refine ⟨Nat.le_of_ble_eq_true rfl, fun t1 n1 => ⟨Nat.le_of_ble_eq_true rfl, fun t2 n2 => ⟨Nat.le_of_ble_eq_true rfl, fun E1 nE => ?_⟩⟩⟩
      have v1 := Same.new (o := .tup [.int 3, .int 3]) n1
      have v2 := Same.new (o := .tup [.int 1, .int 2]) n2
      have v3 := Same.new (o := .lst [.ref t1, .ref t2]) nE
      have qe : Nps _ [.ref t1, .ref t2] rg2 := .cons (a := 3) (b := 3) (v3 _ _ (v2 _ _ upd_same)) (.cons (a := 1) (b := 2) (v3 _ _ upd_same) .nil)
      have V := v1.trans (v2.trans v3)
      refine .inr ⟨toldD, toldD, .lst (SqL.of (V _ _ hD1)) (q1.same V).dp, .lst (SqL.of upd_same) qe.dp, told_shaped, told_shaped, ?_⟩
      rw [told_eqv]
      exact h _
theorem done {fa : Addr} (T : Txt K mg A) (hm : mg "law" = some (.ref fa)) : ∀ base : Heap, K.In base → base.Ns mainGlobals mg → OkG P w K mg base 9 fa ["script"] (spLaw K) := by
  have e := T.mg_law.symm.trans hm
  obtain rfl : A.f_law = fa := by
    injection e with e
    injection e
  exact fun base _ _ => ok_law T

end
end Own

set_option Elab.async false
set_option linter.all false
set_option maxRecDepth 100000
set_option maxHeartbeats 4000000
namespace Own
open PySem L2 ClX
local macro_rules | `(tactic| walk_at "v") => `(tactic| refine ⟨_, rfl, ?_⟩)
local macro_rules | `(tactic| walk_at "ii") => `(tactic| refine ⟨_, _, rfl, rfl, ?_⟩)
local macro_rules | `(tactic| walk_at "go") => `(tactic| repeat (first | refine ⟨_, rfl, ?_⟩ | refine ⟨_, _, rfl, rfl, ?_⟩ | refine addI ?_ | refine L2.iteT ?_ | refine L2.iteF ?_))

theorem txt_mk {K : PySem.W.Frag} {h : Heap} {mg : Str → Option Value} {f_is_integer f_is_item f_is_items f_check_items f_first_of f_check_index f_has_kind f_are_records f_is_log f_check_log f_sign_of f_is_fronted f_check_known f_rooms_of f_shifts_of f_certificates f_reason f_index_range f__law_source f__law_pick f__law_mixed f__law_words f__law_made f__law_played f__law_history f__law_log f__law_pairs f__law_sides f__law_bent f__law_fitting f__law_right f_law c_Record c_Inserted c_Removed c_Fronted c_NoList c_NoItem c_LogError m_Record___init__ m_Record_move_to m_Record_item p_Record_item m_Record_slot p_Record_slot : Addr} (X : K.In h) (G : h.Ns mainGlobals mg)
    (a_is_integer : PySem.W.nsIn K mainGlobals "is_integer" = some (some (.ref f_is_integer)))
    (g_is_integer : FnT K "is_integer" "is_integer" s_is_integer f_is_integer)
    (a_is_item : PySem.W.nsIn K mainGlobals "is_item" = some (some (.ref f_is_item)))
    (g_is_item : FnT K "is_item" "is_item" s_is_item f_is_item)
    (a_is_items : PySem.W.nsIn K mainGlobals "is_items" = some (some (.ref f_is_items)))
    (g_is_items : FnT K "is_items" "is_items" s_is_items f_is_items)
    (a_check_items : PySem.W.nsIn K mainGlobals "check_items" = some (some (.ref f_check_items)))
    (g_check_items : FnT K "check_items" "check_items" s_check_items f_check_items)
    (a_first_of : PySem.W.nsIn K mainGlobals "first_of" = some (some (.ref f_first_of)))
    (g_first_of : FnT K "first_of" "first_of" s_first_of f_first_of)
    (a_check_index : PySem.W.nsIn K mainGlobals "check_index" = some (some (.ref f_check_index)))
    (g_check_index : FnT K "check_index" "check_index" s_check_index f_check_index)
    (a_has_kind : PySem.W.nsIn K mainGlobals "has_kind" = some (some (.ref f_has_kind)))
    (g_has_kind : FnT K "has_kind" "has_kind" s_has_kind f_has_kind)
    (a_are_records : PySem.W.nsIn K mainGlobals "are_records" = some (some (.ref f_are_records)))
    (g_are_records : FnT K "are_records" "are_records" s_are_records f_are_records)
    (a_is_log : PySem.W.nsIn K mainGlobals "is_log" = some (some (.ref f_is_log)))
    (g_is_log : FnT K "is_log" "is_log" s_is_log f_is_log)
    (a_check_log : PySem.W.nsIn K mainGlobals "check_log" = some (some (.ref f_check_log)))
    (g_check_log : FnT K "check_log" "check_log" s_check_log f_check_log)
    (a_sign_of : PySem.W.nsIn K mainGlobals "sign_of" = some (some (.ref f_sign_of)))
    (g_sign_of : FnT K "sign_of" "sign_of" s_sign_of f_sign_of)
    (a_is_fronted : PySem.W.nsIn K mainGlobals "is_fronted" = some (some (.ref f_is_fronted)))
    (g_is_fronted : FnT K "is_fronted" "is_fronted" s_is_fronted f_is_fronted)
    (a_check_known : PySem.W.nsIn K mainGlobals "check_known" = some (some (.ref f_check_known)))
    (g_check_known : FnT K "check_known" "check_known" s_check_known f_check_known)
    (a_rooms_of : PySem.W.nsIn K mainGlobals "rooms_of" = some (some (.ref f_rooms_of)))
    (g_rooms_of : FnT K "rooms_of" "rooms_of" s_rooms_of f_rooms_of)
    (a_shifts_of : PySem.W.nsIn K mainGlobals "shifts_of" = some (some (.ref f_shifts_of)))
    (g_shifts_of : FnT K "shifts_of" "shifts_of" s_shifts_of f_shifts_of)
    (a_certificates : PySem.W.nsIn K mainGlobals "certificates" = some (some (.ref f_certificates)))
    (g_certificates : FnT K "certificates" "certificates" s_certificates f_certificates)
    (a_reason : PySem.W.nsIn K mainGlobals "reason" = some (some (.ref f_reason)))
    (g_reason : FnT K "reason" "reason" s_reason f_reason)
    (a_index_range : PySem.W.nsIn K mainGlobals "index_range" = some (some (.ref f_index_range)))
    (g_index_range : FnT K "index_range" "index_range" s_index_range f_index_range)
    (a__law_source : PySem.W.nsIn K mainGlobals "_law_source" = some (some (.ref f__law_source)))
    (g__law_source : FnT K "_law_source" "_law_source" s__law_source f__law_source)
    (a__law_pick : PySem.W.nsIn K mainGlobals "_law_pick" = some (some (.ref f__law_pick)))
    (g__law_pick : FnT K "_law_pick" "_law_pick" s__law_pick f__law_pick)
    (a__law_mixed : PySem.W.nsIn K mainGlobals "_law_mixed" = some (some (.ref f__law_mixed)))
    (g__law_mixed : FnT K "_law_mixed" "_law_mixed" s__law_mixed f__law_mixed)
    (a__law_words : PySem.W.nsIn K mainGlobals "_law_words" = some (some (.ref f__law_words)))
    (g__law_words : FnT K "_law_words" "_law_words" s__law_words f__law_words)
    (a__law_made : PySem.W.nsIn K mainGlobals "_law_made" = some (some (.ref f__law_made)))
    (g__law_made : FnT K "_law_made" "_law_made" s__law_made f__law_made)
    (a__law_played : PySem.W.nsIn K mainGlobals "_law_played" = some (some (.ref f__law_played)))
    (g__law_played : FnT K "_law_played" "_law_played" s__law_played f__law_played)
    (a__law_history : PySem.W.nsIn K mainGlobals "_law_history" = some (some (.ref f__law_history)))
    (g__law_history : FnT K "_law_history" "_law_history" s__law_history f__law_history)
    (a__law_log : PySem.W.nsIn K mainGlobals "_law_log" = some (some (.ref f__law_log)))
    (g__law_log : FnT K "_law_log" "_law_log" s__law_log f__law_log)
    (a__law_pairs : PySem.W.nsIn K mainGlobals "_law_pairs" = some (some (.ref f__law_pairs)))
    (g__law_pairs : FnT K "_law_pairs" "_law_pairs" s__law_pairs f__law_pairs)
    (a__law_sides : PySem.W.nsIn K mainGlobals "_law_sides" = some (some (.ref f__law_sides)))
    (g__law_sides : FnT K "_law_sides" "_law_sides" s__law_sides f__law_sides)
    (a__law_bent : PySem.W.nsIn K mainGlobals "_law_bent" = some (some (.ref f__law_bent)))
    (g__law_bent : FnT K "_law_bent" "_law_bent" s__law_bent f__law_bent)
    (a__law_fitting : PySem.W.nsIn K mainGlobals "_law_fitting" = some (some (.ref f__law_fitting)))
    (g__law_fitting : FnT K "_law_fitting" "_law_fitting" s__law_fitting f__law_fitting)
    (a__law_right : PySem.W.nsIn K mainGlobals "_law_right" = some (some (.ref f__law_right)))
    (g__law_right : FnT K "_law_right" "_law_right" s__law_right f__law_right)
    (a_law : PySem.W.nsIn K mainGlobals "law" = some (some (.ref f_law)))
    (g_law : FnT K "law" "law" s_law f_law)
    (a_Record : PySem.W.nsIn K mainGlobals "Record" = some (some (.ref c_Record)))
    (a_Inserted : PySem.W.nsIn K mainGlobals "Inserted" = some (some (.ref c_Inserted)))
    (a_Removed : PySem.W.nsIn K mainGlobals "Removed" = some (some (.ref c_Removed)))
    (a_Fronted : PySem.W.nsIn K mainGlobals "Fronted" = some (some (.ref c_Fronted)))
    (a_NoList : PySem.W.nsIn K mainGlobals "NoList" = some (some (.ref c_NoList)))
    (a_NoItem : PySem.W.nsIn K mainGlobals "NoItem" = some (some (.ref c_NoItem)))
    (a_LogError : PySem.W.nsIn K mainGlobals "LogError" = some (some (.ref c_LogError)))
    (mk_Record : PySem.W.makesIn K c_Record = true)
    (in_Record : PySem.W.findIn K (.ref c_Record) "__init__" = some (some (.ref m_Record___init__)))
    (fi_Record : PySem.W.isFn K (.ref m_Record___init__) = true)
    (kc_Record : PySem.W.keepIn K (.ref c_Record) = true)
    (g_Record___init__ : FnT K "__init__" "Record.__init__" s_Record___init__ m_Record___init__)
    (pg_Record : PySem.W.plainGet K c_Record Str.empty = true)
    (hd_Record : PySem.W.hasDictIn K c_Record = true)
    (po_Record : PySem.W.plainOver K c_Record = true)
    (sa_Record : PySem.W.findIn K (.ref c_Record) "__setattr__" = some (some (.builtin "object.__setattr__")))
    (na_Record_item : PySem.W.findIn K (.ref c_Record) "_item" = some none)
    (na_Record_slot : PySem.W.findIn K (.ref c_Record) "_slot" = some none)
    (mk_Inserted : PySem.W.makesIn K c_Inserted = true)
    (in_Inserted : PySem.W.findIn K (.ref c_Inserted) "__init__" = some (some (.ref m_Record___init__)))
    (fi_Inserted : PySem.W.isFn K (.ref m_Record___init__) = true)
    (kc_Inserted : PySem.W.keepIn K (.ref c_Inserted) = true)
    (pg_Inserted : PySem.W.plainGet K c_Inserted Str.empty = true)
    (hd_Inserted : PySem.W.hasDictIn K c_Inserted = true)
    (po_Inserted : PySem.W.plainOver K c_Inserted = true)
    (sa_Inserted : PySem.W.findIn K (.ref c_Inserted) "__setattr__" = some (some (.builtin "object.__setattr__")))
    (na_Inserted_item : PySem.W.findIn K (.ref c_Inserted) "_item" = some none)
    (na_Inserted_slot : PySem.W.findIn K (.ref c_Inserted) "_slot" = some none)
    (mk_Removed : PySem.W.makesIn K c_Removed = true)
    (in_Removed : PySem.W.findIn K (.ref c_Removed) "__init__" = some (some (.ref m_Record___init__)))
    (fi_Removed : PySem.W.isFn K (.ref m_Record___init__) = true)
    (kc_Removed : PySem.W.keepIn K (.ref c_Removed) = true)
    (pg_Removed : PySem.W.plainGet K c_Removed Str.empty = true)
    (hd_Removed : PySem.W.hasDictIn K c_Removed = true)
    (po_Removed : PySem.W.plainOver K c_Removed = true)
    (sa_Removed : PySem.W.findIn K (.ref c_Removed) "__setattr__" = some (some (.builtin "object.__setattr__")))
    (na_Removed_item : PySem.W.findIn K (.ref c_Removed) "_item" = some none)
    (na_Removed_slot : PySem.W.findIn K (.ref c_Removed) "_slot" = some none)
    (mk_Fronted : PySem.W.makesIn K c_Fronted = true)
    (in_Fronted : PySem.W.findIn K (.ref c_Fronted) "__init__" = some (some (.ref m_Record___init__)))
    (fi_Fronted : PySem.W.isFn K (.ref m_Record___init__) = true)
    (kc_Fronted : PySem.W.keepIn K (.ref c_Fronted) = true)
    (pg_Fronted : PySem.W.plainGet K c_Fronted Str.empty = true)
    (hd_Fronted : PySem.W.hasDictIn K c_Fronted = true)
    (po_Fronted : PySem.W.plainOver K c_Fronted = true)
    (sa_Fronted : PySem.W.findIn K (.ref c_Fronted) "__setattr__" = some (some (.builtin "object.__setattr__")))
    (na_Fronted_item : PySem.W.findIn K (.ref c_Fronted) "_item" = some none)
    (na_Fronted_slot : PySem.W.findIn K (.ref c_Fronted) "_slot" = some none)
    (me_Record_move_to : PySem.W.findIn K (.ref c_Record) "move_to" = some (some (.ref m_Record_move_to)))
    (mf_Record_move_to : PySem.W.isFn K (.ref m_Record_move_to) = true)
    (mq_Record_move_to : PySem.W.keepIn K (.ref m_Record_move_to) = true)
    (g_Record_move_to : FnT K "move_to" "Record.move_to" s_Record_move_to m_Record_move_to)
    (me_Inserted_move_to : PySem.W.findIn K (.ref c_Inserted) "move_to" = some (some (.ref m_Record_move_to)))
    (mf_Inserted_move_to : PySem.W.isFn K (.ref m_Record_move_to) = true)
    (mq_Inserted_move_to : PySem.W.keepIn K (.ref m_Record_move_to) = true)
    (me_Removed_move_to : PySem.W.findIn K (.ref c_Removed) "move_to" = some (some (.ref m_Record_move_to)))
    (mf_Removed_move_to : PySem.W.isFn K (.ref m_Record_move_to) = true)
    (mq_Removed_move_to : PySem.W.keepIn K (.ref m_Record_move_to) = true)
    (me_Fronted_move_to : PySem.W.findIn K (.ref c_Fronted) "move_to" = some (some (.ref m_Record_move_to)))
    (mf_Fronted_move_to : PySem.W.isFn K (.ref m_Record_move_to) = true)
    (mq_Fronted_move_to : PySem.W.keepIn K (.ref m_Record_move_to) = true)
    (rd_Inserted : ∃ mc, ClX.CRead K c_Inserted mc)
    (rd_Record : ∃ mc, ClX.CRead K c_Record mc)
    (rd_Fronted : ∃ mc, ClX.CRead K c_Fronted mc)
    (cv_Record_MOST : ∃ mc u, ClX.CRead K c_Record mc ∧ ClX.CVal K c_Record mc "MOST" (.int 60) u)
    (cv_Record_SIGN : ∃ mc u, ClX.CRead K c_Record mc ∧ ClX.CVal K c_Record mc "SIGN" (.str "") u)
    (cv_Inserted_SIGN : ∃ mc u, ClX.CRead K c_Inserted mc ∧ ClX.CVal K c_Inserted mc "SIGN" (.str "+") u)
    (cv_Fronted_SIGN : ∃ mc u, ClX.CRead K c_Fronted mc ∧ ClX.CVal K c_Fronted mc "SIGN" (.str "^") u)
    (iv_Record_SIGN : ∃ u, Con K c_Record "SIGN" (.str "") u)
    (iv_Inserted_SIGN : ∃ u, Con K c_Inserted "SIGN" (.str "+") u)
    (iv_Removed_SIGN : ∃ u, Con K c_Removed "SIGN" (.str "-") u)
    (iv_Fronted_SIGN : ∃ u, Con K c_Fronted "SIGN" (.str "^") u)
    (mc_MOST_LETTERS : ∃ t, PySem.W.nsIn K mainGlobals "MOST_LETTERS" = some (some (.int 8 t)))
    (mc_MOST_ITEMS : ∃ t, PySem.W.nsIn K mainGlobals "MOST_ITEMS" = some (some (.int 60 t)))
    (mc_MOST_IN_LOG : ∃ t, PySem.W.nsIn K mainGlobals "MOST_IN_LOG" = some (some (.int 40 t)))
    (er_NoList : ErrT K c_NoList)
    (er_NoItem : ErrT K c_NoItem)
    (kit_Record_Record : PySem.W.kitOne K (.ref c_Record) (.ref c_Record) = some true)
    (kit_Inserted_Record : PySem.W.kitOne K (.ref c_Inserted) (.ref c_Record) = some true)
    (kit_Removed_Record : PySem.W.kitOne K (.ref c_Removed) (.ref c_Record) = some true)
    (kit_Fronted_Record : PySem.W.kitOne K (.ref c_Fronted) (.ref c_Record) = some true)
    (pr_Record_item : PropOf K c_Record "item" p_Record_item m_Record_item)
    (g_Record_item : FnT K "item" "Record.item" s_Record_item m_Record_item)
    (pr_Record_slot : PropOf K c_Record "slot" p_Record_slot m_Record_slot)
    (g_Record_slot : FnT K "slot" "Record.slot" s_Record_slot m_Record_slot)
    (pr_Inserted_item : PropOf K c_Inserted "item" p_Record_item m_Record_item)
    (pr_Inserted_slot : PropOf K c_Inserted "slot" p_Record_slot m_Record_slot)
    (pr_Removed_item : PropOf K c_Removed "item" p_Record_item m_Record_item)
    (pr_Removed_slot : PropOf K c_Removed "slot" p_Record_slot m_Record_slot)
    (pr_Fronted_item : PropOf K c_Fronted "item" p_Record_item m_Record_item)
    (pr_Fronted_slot : PropOf K c_Fronted "slot" p_Record_slot m_Record_slot)
    (ty_Record : InsT K c_Record)
    (ty_Inserted : InsT K c_Inserted)
    (ty_Removed : InsT K c_Removed)
    (ty_Fronted : InsT K c_Fronted)
    (no_abs : PySem.W.nsIn K mainGlobals "abs" = some none)
    (no_all : PySem.W.nsIn K mainGlobals "all" = some none)
    (no_bool : PySem.W.nsIn K mainGlobals "bool" = some none)
    (no_dict : PySem.W.nsIn K mainGlobals "dict" = some none)
    (no_enumerate : PySem.W.nsIn K mainGlobals "enumerate" = some none)
    (no_int : PySem.W.nsIn K mainGlobals "int" = some none)
    (no_isinstance : PySem.W.nsIn K mainGlobals "isinstance" = some none)
    (no_len : PySem.W.nsIn K mainGlobals "len" = some none)
    (no_list : PySem.W.nsIn K mainGlobals "list" = some none)
    (no_max : PySem.W.nsIn K mainGlobals "max" = some none)
    (no_min : PySem.W.nsIn K mainGlobals "min" = some none)
    (no_property : PySem.W.nsIn K mainGlobals "property" = some none)
    (no_range : PySem.W.nsIn K mainGlobals "range" = some none)
    (no_repr : PySem.W.nsIn K mainGlobals "repr" = some none)
    (no_set : PySem.W.nsIn K mainGlobals "set" = some none)
    (no_str : PySem.W.nsIn K mainGlobals "str" = some none)
    : Txt K mg ⟨f_is_integer, f_is_item, f_is_items, f_check_items, f_first_of, f_check_index, f_has_kind, f_are_records, f_is_log, f_check_log, f_sign_of, f_is_fronted, f_check_known, f_rooms_of, f_shifts_of, f_certificates, f_reason, f_index_range, f__law_source, f__law_pick, f__law_mixed, f__law_words, f__law_made, f__law_played, f__law_history, f__law_log, f__law_pairs, f__law_sides, f__law_bent, f__law_fitting, f__law_right, f_law, c_Record, c_Inserted, c_Removed, c_Fronted, c_NoList, c_NoItem, c_LogError, m_Record___init__, m_Record_move_to, m_Record_item, p_Record_item, m_Record_slot, p_Record_slot⟩ :=
  {
    mg_is_integer := PySem.W.mg_of X G a_is_integer
    fn_is_integer := g_is_integer
    mg_is_item := PySem.W.mg_of X G a_is_item
    fn_is_item := g_is_item
    mg_is_items := PySem.W.mg_of X G a_is_items
    fn_is_items := g_is_items
    mg_check_items := PySem.W.mg_of X G a_check_items
    fn_check_items := g_check_items
    mg_first_of := PySem.W.mg_of X G a_first_of
    fn_first_of := g_first_of
    mg_check_index := PySem.W.mg_of X G a_check_index
    fn_check_index := g_check_index
    mg_has_kind := PySem.W.mg_of X G a_has_kind
    fn_has_kind := g_has_kind
    mg_are_records := PySem.W.mg_of X G a_are_records
    fn_are_records := g_are_records
    mg_is_log := PySem.W.mg_of X G a_is_log
    fn_is_log := g_is_log
    mg_check_log := PySem.W.mg_of X G a_check_log
    fn_check_log := g_check_log
    mg_sign_of := PySem.W.mg_of X G a_sign_of
    fn_sign_of := g_sign_of
    mg_is_fronted := PySem.W.mg_of X G a_is_fronted
    fn_is_fronted := g_is_fronted
    mg_check_known := PySem.W.mg_of X G a_check_known
    fn_check_known := g_check_known
    mg_rooms_of := PySem.W.mg_of X G a_rooms_of
    fn_rooms_of := g_rooms_of
    mg_shifts_of := PySem.W.mg_of X G a_shifts_of
    fn_shifts_of := g_shifts_of
    mg_certificates := PySem.W.mg_of X G a_certificates
    fn_certificates := g_certificates
    mg_reason := PySem.W.mg_of X G a_reason
    fn_reason := g_reason
    mg_index_range := PySem.W.mg_of X G a_index_range
    fn_index_range := g_index_range
    mg__law_source := PySem.W.mg_of X G a__law_source
    fn__law_source := g__law_source
    mg__law_pick := PySem.W.mg_of X G a__law_pick
    fn__law_pick := g__law_pick
    mg__law_mixed := PySem.W.mg_of X G a__law_mixed
    fn__law_mixed := g__law_mixed
    mg__law_words := PySem.W.mg_of X G a__law_words
    fn__law_words := g__law_words
    mg__law_made := PySem.W.mg_of X G a__law_made
    fn__law_made := g__law_made
    mg__law_played := PySem.W.mg_of X G a__law_played
    fn__law_played := g__law_played
    mg__law_history := PySem.W.mg_of X G a__law_history
    fn__law_history := g__law_history
    mg__law_log := PySem.W.mg_of X G a__law_log
    fn__law_log := g__law_log
    mg__law_pairs := PySem.W.mg_of X G a__law_pairs
    fn__law_pairs := g__law_pairs
    mg__law_sides := PySem.W.mg_of X G a__law_sides
    fn__law_sides := g__law_sides
    mg__law_bent := PySem.W.mg_of X G a__law_bent
    fn__law_bent := g__law_bent
    mg__law_fitting := PySem.W.mg_of X G a__law_fitting
    fn__law_fitting := g__law_fitting
    mg__law_right := PySem.W.mg_of X G a__law_right
    fn__law_right := g__law_right
    mg_law := PySem.W.mg_of X G a_law
    fn_law := g_law
    mg_Record := PySem.W.mg_of X G a_Record
    mg_Inserted := PySem.W.mg_of X G a_Inserted
    mg_Removed := PySem.W.mg_of X G a_Removed
    mg_Fronted := PySem.W.mg_of X G a_Fronted
    mg_NoList := PySem.W.mg_of X G a_NoList
    mg_NoItem := PySem.W.mg_of X G a_NoItem
    mg_LogError := PySem.W.mg_of X G a_LogError
    mk_Record := ⟨mk_Record, in_Record, fi_Record, kc_Record⟩
    fn_Record___init__ := g_Record___init__
    cl_Record := ⟨pg_Record, hd_Record, po_Record, sa_Record⟩
    na_Record_item := na_Record_item
    na_Record_slot := na_Record_slot
    mk_Inserted := ⟨mk_Inserted, in_Inserted, fi_Inserted, kc_Inserted⟩
    cl_Inserted := ⟨pg_Inserted, hd_Inserted, po_Inserted, sa_Inserted⟩
    na_Inserted_item := na_Inserted_item
    na_Inserted_slot := na_Inserted_slot
    mk_Removed := ⟨mk_Removed, in_Removed, fi_Removed, kc_Removed⟩
    cl_Removed := ⟨pg_Removed, hd_Removed, po_Removed, sa_Removed⟩
    na_Removed_item := na_Removed_item
    na_Removed_slot := na_Removed_slot
    mk_Fronted := ⟨mk_Fronted, in_Fronted, fi_Fronted, kc_Fronted⟩
    cl_Fronted := ⟨pg_Fronted, hd_Fronted, po_Fronted, sa_Fronted⟩
    na_Fronted_item := na_Fronted_item
    na_Fronted_slot := na_Fronted_slot
    me_Record_move_to := ⟨me_Record_move_to, mf_Record_move_to, mq_Record_move_to⟩
    fn_Record_move_to := g_Record_move_to
    me_Inserted_move_to := ⟨me_Inserted_move_to, mf_Inserted_move_to, mq_Inserted_move_to⟩
    me_Removed_move_to := ⟨me_Removed_move_to, mf_Removed_move_to, mq_Removed_move_to⟩
    me_Fronted_move_to := ⟨me_Fronted_move_to, mf_Fronted_move_to, mq_Fronted_move_to⟩
    cv_Record_MOST := cv_Record_MOST
    cv_Record_SIGN := cv_Record_SIGN
    cv_Inserted_SIGN := cv_Inserted_SIGN
    cv_Fronted_SIGN := cv_Fronted_SIGN
    iv_Record_SIGN := iv_Record_SIGN
    iv_Inserted_SIGN := iv_Inserted_SIGN
    iv_Removed_SIGN := iv_Removed_SIGN
    iv_Fronted_SIGN := iv_Fronted_SIGN
    mg_MOST_LETTERS := let ⟨t, h⟩ := mc_MOST_LETTERS; ⟨t, PySem.W.mg_of X G h⟩
    mg_MOST_ITEMS := let ⟨t, h⟩ := mc_MOST_ITEMS; ⟨t, PySem.W.mg_of X G h⟩
    mg_MOST_IN_LOG := let ⟨t, h⟩ := mc_MOST_IN_LOG; ⟨t, PySem.W.mg_of X G h⟩
    er_NoList := er_NoList
    er_NoItem := er_NoItem
    kit_Record_Record := kit_Record_Record
    kit_Inserted_Record := kit_Inserted_Record
    kit_Removed_Record := kit_Removed_Record
    kit_Fronted_Record := kit_Fronted_Record
    pr_Record_item := pr_Record_item
    fn_Record_item := g_Record_item
    pr_Record_slot := pr_Record_slot
    fn_Record_slot := g_Record_slot
    pr_Inserted_item := pr_Inserted_item
    pr_Inserted_slot := pr_Inserted_slot
    pr_Removed_item := pr_Removed_item
    pr_Removed_slot := pr_Removed_slot
    pr_Fronted_item := pr_Fronted_item
    pr_Fronted_slot := pr_Fronted_slot
    ty_Record := ty_Record
    ty_Inserted := ty_Inserted
    ty_Removed := ty_Removed
    ty_Fronted := ty_Fronted
    no_abs := PySem.W.mg_none_of X G no_abs
    no_all := PySem.W.mg_none_of X G no_all
    no_bool := PySem.W.mg_none_of X G no_bool
    no_dict := PySem.W.mg_none_of X G no_dict
    no_enumerate := PySem.W.mg_none_of X G no_enumerate
    no_int := PySem.W.mg_none_of X G no_int
    no_isinstance := PySem.W.mg_none_of X G no_isinstance
    no_len := PySem.W.mg_none_of X G no_len
    no_list := PySem.W.mg_none_of X G no_list
    no_max := PySem.W.mg_none_of X G no_max
    no_min := PySem.W.mg_none_of X G no_min
    no_property := PySem.W.mg_none_of X G no_property
    no_range := PySem.W.mg_none_of X G no_range
    no_repr := PySem.W.mg_none_of X G no_repr
    no_set := PySem.W.mg_none_of X G no_set
    no_str := PySem.W.mg_none_of X G no_str }

end Own

open PySem PySem.W PyProof.Rows in
set_option maxRecDepth 100000 in
set_option maxHeartbeats 0 in
theorem PySem.Challenge.cw_indexlogs_k29_ranges_of_indices_holds : PySem.Challenge.rw_indexlogs_k29_ranges_of_indices.Holds := by
  w_on; o_law; k_head; (case hw => w_witness2)
  k_fill
  refine L2.walkG (l := PySem.Challenge.rw_indexlogs_k29_ranges_of_indices) (n := 63) (k := 9) (sp := Own.spLaw) rfl (by decide) rfl ⟨rfl, by decide, by decide⟩ (fun w h Y => PySem.W.kIn_of Y) ?F fun K H a ns hl hS => ⟨a, ns, rfl, hS, hl, fun _ => rfl⟩
  case F =>
    intro w mg fa h KX G hmg
    refine' Own.done (Own.txt_mk KX G ?a_is_integer ?g_is_integer ?a_is_item ?g_is_item ?a_is_items ?g_is_items ?a_check_items ?g_check_items ?a_first_of ?g_first_of ?a_check_index ?g_check_index ?a_has_kind ?g_has_kind ?a_are_records ?g_are_records ?a_is_log ?g_is_log ?a_check_log ?g_check_log ?a_sign_of ?g_sign_of ?a_is_fronted ?g_is_fronted ?a_check_known ?g_check_known ?a_rooms_of ?g_rooms_of ?a_shifts_of ?g_shifts_of ?a_certificates ?g_certificates ?a_reason ?g_reason ?a_index_range ?g_index_range ?a__law_source ?g__law_source ?a__law_pick ?g__law_pick ?a__law_mixed ?g__law_mixed ?a__law_words ?g__law_words ?a__law_made ?g__law_made ?a__law_played ?g__law_played ?a__law_history ?g__law_history ?a__law_log ?g__law_log ?a__law_pairs ?g__law_pairs ?a__law_sides ?g__law_sides ?a__law_bent ?g__law_bent ?a__law_fitting ?g__law_fitting ?a__law_right ?g__law_right ?a_law ?g_law ?a_Record ?a_Inserted ?a_Removed ?a_Fronted ?a_NoList ?a_NoItem ?a_LogError ?mk_Record ?in_Record ?fi_Record ?kc_Record ?g_Record___init__ ?pg_Record ?hd_Record ?po_Record ?sa_Record ?na_Record_item ?na_Record_slot ?mk_Inserted ?in_Inserted ?fi_Inserted ?kc_Inserted ?pg_Inserted ?hd_Inserted ?po_Inserted ?sa_Inserted ?na_Inserted_item ?na_Inserted_slot ?mk_Removed ?in_Removed ?fi_Removed ?kc_Removed ?pg_Removed ?hd_Removed ?po_Removed ?sa_Removed ?na_Removed_item ?na_Removed_slot ?mk_Fronted ?in_Fronted ?fi_Fronted ?kc_Fronted ?pg_Fronted ?hd_Fronted ?po_Fronted ?sa_Fronted ?na_Fronted_item ?na_Fronted_slot ?me_Record_move_to ?mf_Record_move_to ?mq_Record_move_to ?g_Record_move_to ?me_Inserted_move_to ?mf_Inserted_move_to ?mq_Inserted_move_to ?me_Removed_move_to ?mf_Removed_move_to ?mq_Removed_move_to ?me_Fronted_move_to ?mf_Fronted_move_to ?mq_Fronted_move_to ?rd_Inserted ?rd_Record ?rd_Fronted ?cv_Record_MOST ?cv_Record_SIGN ?cv_Inserted_SIGN ?cv_Fronted_SIGN ?iv_Record_SIGN ?iv_Inserted_SIGN ?iv_Removed_SIGN ?iv_Fronted_SIGN ?mc_MOST_LETTERS ?mc_MOST_ITEMS ?mc_MOST_IN_LOG ?er_NoList ?er_NoItem ?kit_Record_Record ?kit_Inserted_Record ?kit_Removed_Record ?kit_Fronted_Record ?pr_Record_item ?g_Record_item ?pr_Record_slot ?g_Record_slot ?pr_Inserted_item ?pr_Inserted_slot ?pr_Removed_item ?pr_Removed_slot ?pr_Fronted_item ?pr_Fronted_slot ?ty_Record ?ty_Inserted ?ty_Removed ?ty_Fronted ?no_abs ?no_all ?no_bool ?no_dict ?no_enumerate ?no_int ?no_isinstance ?no_len ?no_list ?no_max ?no_min ?no_property ?no_range ?no_repr ?no_set ?no_str) hmg
    (case a_is_integer => k_is)
    (case g_is_integer => (refine' L2.fnT_mk ?l ?c ?k; (case l => k_is); (case c => k_is); (case k => k_is)))
    (case a_is_item => k_is)
    (case g_is_item => (refine' L2.fnT_mk ?l ?c ?k; (case l => k_is); (case c => k_is); (case k => k_is)))
    (case a_is_items => k_is)
    (case g_is_items => (refine' L2.fnT_mk ?l ?c ?k; (case l => k_is); (case c => k_is); (case k => k_is)))
    (case a_check_items => k_is)
    (case g_check_items => (refine' L2.fnT_mk ?l ?c ?k; (case l => k_is); (case c => k_is); (case k => k_is)))
    (case a_first_of => k_is)
    (case g_first_of => (refine' L2.fnT_mk ?l ?c ?k; (case l => k_is); (case c => k_is); (case k => k_is)))
    (case a_check_index => k_is)
    (case g_check_index => (refine' L2.fnT_mk ?l ?c ?k; (case l => k_is); (case c => k_is); (case k => k_is)))
    (case a_has_kind => k_is)
    (case g_has_kind => (refine' L2.fnT_mk ?l ?c ?k; (case l => k_is); (case c => k_is); (case k => k_is)))
    (case a_are_records => k_is)
    (case g_are_records => (refine' L2.fnT_mk ?l ?c ?k; (case l => k_is); (case c => k_is); (case k => k_is)))
    (case a_is_log => k_is)
    (case g_is_log => (refine' L2.fnT_mk ?l ?c ?k; (case l => k_is); (case c => k_is); (case k => k_is)))
    (case a_check_log => k_is)
    (case g_check_log => (refine' L2.fnT_mk ?l ?c ?k; (case l => k_is); (case c => k_is); (case k => k_is)))
    (case a_sign_of => k_is)
    (case g_sign_of => (refine' L2.fnT_mk ?l ?c ?k; (case l => k_is); (case c => k_is); (case k => k_is)))
    (case a_is_fronted => k_is)
    (case g_is_fronted => (refine' L2.fnT_mk ?l ?c ?k; (case l => k_is); (case c => k_is); (case k => k_is)))
    (case a_check_known => k_is)
    (case g_check_known => (refine' L2.fnT_mk ?l ?c ?k; (case l => k_is); (case c => k_is); (case k => k_is)))
    (case a_rooms_of => k_is)
    (case g_rooms_of => (refine' L2.fnT_mk ?l ?c ?k; (case l => k_is); (case c => k_is); (case k => k_is)))
    (case a_shifts_of => k_is)
    (case g_shifts_of => (refine' L2.fnT_mk ?l ?c ?k; (case l => k_is); (case c => k_is); (case k => k_is)))
    (case a_certificates => k_is)
    (case g_certificates => (refine' L2.fnT_mk ?l ?c ?k; (case l => k_is); (case c => k_is); (case k => k_is)))
    (case a_reason => k_is)
    (case g_reason => (refine' L2.fnT_mk ?l ?c ?k; (case l => k_is); (case c => k_is); (case k => k_is)))
    (case a_index_range => k_is)
    (case g_index_range => (refine' L2.fnT_mk ?l ?c ?k; (case l => k_is); (case c => k_is); (case k => k_is)))
    (case a__law_source => k_is)
    (case g__law_source => (refine' L2.fnT_mk ?l ?c ?k; (case l => k_is); (case c => k_is); (case k => k_is)))
    (case a__law_pick => k_is)
    (case g__law_pick => (refine' L2.fnT_mk ?l ?c ?k; (case l => k_is); (case c => k_is); (case k => k_is)))
    (case a__law_mixed => k_is)
    (case g__law_mixed => (refine' L2.fnT_mk ?l ?c ?k; (case l => k_is); (case c => k_is); (case k => k_is)))
    (case a__law_words => k_is)
    (case g__law_words => (refine' L2.fnT_mk ?l ?c ?k; (case l => k_is); (case c => k_is); (case k => k_is)))
    (case a__law_made => k_is)
    (case g__law_made => (refine' L2.fnT_mk ?l ?c ?k; (case l => k_is); (case c => k_is); (case k => k_is)))
    (case a__law_played => k_is)
    (case g__law_played => (refine' L2.fnT_mk ?l ?c ?k; (case l => k_is); (case c => k_is); (case k => k_is)))
    (case a__law_history => k_is)
    (case g__law_history => (refine' L2.fnT_mk ?l ?c ?k; (case l => k_is); (case c => k_is); (case k => k_is)))
    (case a__law_log => k_is)
    (case g__law_log => (refine' L2.fnT_mk ?l ?c ?k; (case l => k_is); (case c => k_is); (case k => k_is)))
    (case a__law_pairs => k_is)
    (case g__law_pairs => (refine' L2.fnT_mk ?l ?c ?k; (case l => k_is); (case c => k_is); (case k => k_is)))
    (case a__law_sides => k_is)
    (case g__law_sides => (refine' L2.fnT_mk ?l ?c ?k; (case l => k_is); (case c => k_is); (case k => k_is)))
    (case a__law_bent => k_is)
    (case g__law_bent => (refine' L2.fnT_mk ?l ?c ?k; (case l => k_is); (case c => k_is); (case k => k_is)))
    (case a__law_fitting => k_is)
    (case g__law_fitting => (refine' L2.fnT_mk ?l ?c ?k; (case l => k_is); (case c => k_is); (case k => k_is)))
    (case a__law_right => k_is)
    (case g__law_right => (refine' L2.fnT_mk ?l ?c ?k; (case l => k_is); (case c => k_is); (case k => k_is)))
    (case a_law => k_is)
    (case g_law => (refine' L2.fnT_mk ?l ?c ?k; (case l => k_is); (case c => k_is); (case k => k_is)))
    (case a_Record => k_is)
    (case a_Inserted => k_is)
    (case a_Removed => k_is)
    (case a_Fronted => k_is)
    (case a_NoList => k_is)
    (case a_NoItem => k_is)
    (case a_LogError => k_is)
    (case mk_Record => k_is)
    (case in_Record => k_is)
    (case fi_Record => k_is)
    (case kc_Record => k_is)
    (case g_Record___init__ => (refine' L2.fnT_mk ?l ?c ?k; (case l => k_is); (case c => k_is); (case k => k_is)))
    (case pg_Record => k_is)
    (case hd_Record => k_is)
    (case po_Record => k_is)
    (case sa_Record => k_is)
    (case na_Record_item => k_is)
    (case na_Record_slot => k_is)
    (case mk_Inserted => k_is)
    (case in_Inserted => k_is)
    (case fi_Inserted => k_is)
    (case kc_Inserted => k_is)
    (case pg_Inserted => k_is)
    (case hd_Inserted => k_is)
    (case po_Inserted => k_is)
    (case sa_Inserted => k_is)
    (case na_Inserted_item => k_is)
    (case na_Inserted_slot => k_is)
    (case mk_Removed => k_is)
    (case in_Removed => k_is)
    (case fi_Removed => k_is)
    (case kc_Removed => k_is)
    (case pg_Removed => k_is)
    (case hd_Removed => k_is)
    (case po_Removed => k_is)
    (case sa_Removed => k_is)
    (case na_Removed_item => k_is)
    (case na_Removed_slot => k_is)
    (case mk_Fronted => k_is)
    (case in_Fronted => k_is)
    (case fi_Fronted => k_is)
    (case kc_Fronted => k_is)
    (case pg_Fronted => k_is)
    (case hd_Fronted => k_is)
    (case po_Fronted => k_is)
    (case sa_Fronted => k_is)
    (case na_Fronted_item => k_is)
    (case na_Fronted_slot => k_is)
    (case me_Record_move_to => k_is)
    (case mf_Record_move_to => k_is)
    (case mq_Record_move_to => k_is)
    (case g_Record_move_to => (refine' L2.fnT_mk ?l ?c ?k; (case l => k_is); (case c => k_is); (case k => k_is)))
    (case me_Inserted_move_to => k_is)
    (case mf_Inserted_move_to => k_is)
    (case mq_Inserted_move_to => k_is)
    (case me_Removed_move_to => k_is)
    (case mf_Removed_move_to => k_is)
    (case mq_Removed_move_to => k_is)
    (case me_Fronted_move_to => k_is)
    (case mf_Fronted_move_to => k_is)
    (case mq_Fronted_move_to => k_is)
    (case rd_Inserted => (refine' ⟨.type "type", ⟨?r, ?s⟩⟩; (case r => k_is); (case s => k_is)))
    (case rd_Record => (refine' ⟨.type "type", ⟨?r, ?s⟩⟩; (case r => k_is); (case s => k_is)))
    (case rd_Fronted => (refine' ⟨.type "type", ⟨?r, ?s⟩⟩; (case r => k_is); (case s => k_is)))
    (case cv_Record_MOST => (refine' ⟨.type "type", _, ⟨?r, ?s⟩, ⟨?t, ?v⟩⟩; (case r => k_is); (case s => k_is); (case t => k_is); (case v => first | rfl | exact ⟨_, rfl⟩)))
    (case cv_Record_SIGN => (refine' ⟨.type "type", _, ⟨?r, ?s⟩, ⟨?t, ?v⟩⟩; (case r => k_is); (case s => k_is); (case t => k_is); (case v => first | rfl | exact ⟨_, rfl⟩)))
    (case cv_Inserted_SIGN => (refine' ⟨.type "type", _, ⟨?r, ?s⟩, ⟨?t, ?v⟩⟩; (case r => k_is); (case s => k_is); (case t => k_is); (case v => first | rfl | exact ⟨_, rfl⟩)))
    (case cv_Fronted_SIGN => (refine' ⟨.type "type", _, ⟨?r, ?s⟩, ⟨?t, ?v⟩⟩; (case r => k_is); (case s => k_is); (case t => k_is); (case v => first | rfl | exact ⟨_, rfl⟩)))
    (case iv_Record_SIGN => (refine' ⟨_, ⟨?t, ?v, ?g, ?w⟩⟩; (case t => k_is); (case v => first | rfl | exact ⟨_, rfl⟩); (case g => first | k_is | rfl | decide +kernel); (case w => first | rfl | decide +kernel)))
    (case iv_Inserted_SIGN => (refine' ⟨_, ⟨?t, ?v, ?g, ?w⟩⟩; (case t => k_is); (case v => first | rfl | exact ⟨_, rfl⟩); (case g => first | k_is | rfl | decide +kernel); (case w => first | rfl | decide +kernel)))
    (case iv_Removed_SIGN => (refine' ⟨_, ⟨?t, ?v, ?g, ?w⟩⟩; (case t => k_is); (case v => first | rfl | exact ⟨_, rfl⟩); (case g => first | k_is | rfl | decide +kernel); (case w => first | rfl | decide +kernel)))
    (case iv_Fronted_SIGN => (refine' ⟨_, ⟨?t, ?v, ?g, ?w⟩⟩; (case t => k_is); (case v => first | rfl | exact ⟨_, rfl⟩); (case g => first | k_is | rfl | decide +kernel); (case w => first | rfl | decide +kernel)))
    (case mc_MOST_LETTERS => (refine' L2.gconst_mk ?t ?r; (case t => k_is); (case r => exact ⟨_, rfl⟩)))
    (case mc_MOST_ITEMS => (refine' L2.gconst_mk ?t ?r; (case t => k_is); (case r => exact ⟨_, rfl⟩)))
    (case mc_MOST_IN_LOG => (refine' L2.gconst_mk ?t ?r; (case t => k_is); (case r => exact ⟨_, rfl⟩)))
    (case er_NoList => (refine' ⟨?a, ?b, ?c, ?d⟩; (case a => first | k_exc | k_is | decide +kernel | kernel_rfl); (case b => k_is); (case c => k_is); (case d => k_is)))
    (case er_NoItem => (refine' ⟨?a, ?b, ?c, ?d⟩; (case a => first | k_exc | k_is | decide +kernel | kernel_rfl); (case b => k_is); (case c => k_is); (case d => k_is)))
    (case kit_Record_Record => (refine' L2.kit_ref ?a ?b ?c ?d; (case a => k_is); (case b => k_is); (case c => k_is); (case d => first | exact fun _ => rfl | exact fun z => absurd (Value.ref.inj z) (by decide) | exact fun z => by cases z)))
    (case kit_Inserted_Record => (refine' L2.kit_ref ?a ?b ?c ?d; (case a => k_is); (case b => k_is); (case c => k_is); (case d => first | exact fun _ => rfl | exact fun z => absurd (Value.ref.inj z) (by decide) | exact fun z => by cases z)))
    (case kit_Removed_Record => (refine' L2.kit_ref ?a ?b ?c ?d; (case a => k_is); (case b => k_is); (case c => k_is); (case d => first | exact fun _ => rfl | exact fun z => absurd (Value.ref.inj z) (by decide) | exact fun z => by cases z)))
    (case kit_Fronted_Record => (refine' L2.kit_ref ?a ?b ?c ?d; (case a => k_is); (case b => k_is); (case c => k_is); (case d => first | exact fun _ => rfl | exact fun z => absurd (Value.ref.inj z) (by decide) | exact fun z => by cases z)))
    (case pr_Record_item => (refine' L2.propOf_mk ?pa ?pb ?pc ?pd; (case pa => k_is); (case pb => k_is); (case pc => k_is); (case pd => k_is)))
    (case g_Record_item => (refine' L2.fnT_mk ?l ?c ?k; (case l => k_is); (case c => k_is); (case k => k_is)))
    (case pr_Record_slot => (refine' L2.propOf_mk ?pa ?pb ?pc ?pd; (case pa => k_is); (case pb => k_is); (case pc => k_is); (case pd => k_is)))
    (case g_Record_slot => (refine' L2.fnT_mk ?l ?c ?k; (case l => k_is); (case c => k_is); (case k => k_is)))
    (case pr_Inserted_item => (refine' L2.propOf_mk ?pa ?pb ?pc ?pd; (case pa => k_is); (case pb => k_is); (case pc => k_is); (case pd => k_is)))
    (case pr_Inserted_slot => (refine' L2.propOf_mk ?pa ?pb ?pc ?pd; (case pa => k_is); (case pb => k_is); (case pc => k_is); (case pd => k_is)))
    (case pr_Removed_item => (refine' L2.propOf_mk ?pa ?pb ?pc ?pd; (case pa => k_is); (case pb => k_is); (case pc => k_is); (case pd => k_is)))
    (case pr_Removed_slot => (refine' L2.propOf_mk ?pa ?pb ?pc ?pd; (case pa => k_is); (case pb => k_is); (case pc => k_is); (case pd => k_is)))
    (case pr_Fronted_item => (refine' L2.propOf_mk ?pa ?pb ?pc ?pd; (case pa => k_is); (case pb => k_is); (case pc => k_is); (case pd => k_is)))
    (case pr_Fronted_slot => (refine' L2.propOf_mk ?pa ?pb ?pc ?pd; (case pa => k_is); (case pb => k_is); (case pc => k_is); (case pd => k_is)))
    (case ty_Record => (refine' ⟨?a, ?b, ?c, ?d⟩; (case a => k_is); (case b => k_is); (case c => k_is); (case d => k_is)))
    (case ty_Inserted => (refine' ⟨?a, ?b, ?c, ?d⟩; (case a => k_is); (case b => k_is); (case c => k_is); (case d => k_is)))
    (case ty_Removed => (refine' ⟨?a, ?b, ?c, ?d⟩; (case a => k_is); (case b => k_is); (case c => k_is); (case d => k_is)))
    (case ty_Fronted => (refine' ⟨?a, ?b, ?c, ?d⟩; (case a => k_is); (case b => k_is); (case c => k_is); (case d => k_is)))
    (case no_abs => k_is)
    (case no_all => k_is)
    (case no_bool => k_is)
    (case no_dict => k_is)
    (case no_enumerate => k_is)
    (case no_int => k_is)
    (case no_isinstance => k_is)
    (case no_len => k_is)
    (case no_list => k_is)
    (case no_max => k_is)
    (case no_min => k_is)
    (case no_property => k_is)
    (case no_range => k_is)
    (case no_repr => k_is)
    (case no_set => k_is)
    (case no_str => k_is)
