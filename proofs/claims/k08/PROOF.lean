import PyProof.Rows.All
import Wide.All
import OpenK.AllK
import Wide.FinOn
import HandS.ForMost
import HandS.Wide
import HandS.IsInst
import HandS.ClsMeth
import HandS.Property
import HandS.FStr
import HandS.Defaults
import HandS.MakeKw
import HandS.MakeKwOnly
import HandS.Style
import HandS.StrMore
import PyProof.ReprRoads
import HandS.ForExc
import HandS.ExcIs
import HandS.ExcField
import HandS.ExcInit
import HandS.ExcValue
import HandS.Set
import HandS.Strs
import HandS.Zip
import HandS.SetBool
import HandS.Codes
import PySem.Challenge.RW_indexlogs_k08_logs_recognized
set_option Elab.async false
set_option linter.all false
set_option maxRecDepth 100000
set_option maxHeartbeats 4000000
/-! Own layer: more rules over the hand layer. -/
namespace L2
open ClX
open PySem PySem.Spec PyProof.Rows

/-! ### operators of more than one kind -/
section
variable {X : Cx}
def rAddX : R2 := fun x y H Q => rI0 (fun i j => .int (i + j)) x y H Q ∨ (∃ i j, x = .str i ∧ y = .str j ∧ i.length + j.length ≤ sizeLine ∧ Q (.str (i ++ j)) H) ∨ rCat x y H Q
theorem op_addX : OpR X (binaryOp .Add) rAddX := op_add.or (op_add_str.or op_cat)
def rMulX : R2 := fun x y H Q => rI CMulW (fun i j => .int (i * j)) x y H Q ∨ rRep x y H Q
theorem op_mulX : OpR X (binaryOp .Mult) rMulX := op_mulW.or op_rep
def CPowW (i j : Int) : Prop := 0 ≤ j ∧ j ≤ 1000 ∧ i.natAbs.log2 < 2000
theorem op_powX : OpR X (binaryOp .Pow) (rI CPowW fun i j => .int (i ^ j.toNat)) := opI fun i j _ _ _ _ _ hc q => by
  obtain ⟨h0, h1, h2⟩ := hc
  have b : Builtin.Int.intBits i ≤ 2000 := by
    unfold Builtin.Int.intBits
    split <;> omega
  refine pow_int h0 ?_ q
  have hh : Builtin.Int.intBits i * j.toNat ≤ 2000 * 1000 := Nat.mul_le_mul b (by omega)
  have : ((Builtin.Int.intBits i : Nat) : Int) * j = ((Builtin.Int.intBits i * j.toNat : Nat) : Int) := by
    rw [Int.natCast_mul, Int.toNat_of_nonneg h0]
  rw [this]
  omega
theorem cpow {i j : Int} {b : Nat} (h0 : 0 ≤ j) (h1 : j ≤ 1000) (hb : i.natAbs < 2 ^ b) (hp : 0 < b) (h : b ≤ 2000) : CPowW i j :=
  ⟨h0, h1, Nat.lt_of_lt_of_le (PySem.Flt.log2_lt_of hp hb) h⟩
def rFdivX : R2 := rI CDivW fun i j => .int (i / j)
theorem op_fdivX : OpR X (binaryOp .FloorDiv) rFdivX := op_fdivW
/-- scalars, or data of any depth -/
def rEqX (K : PySem.W.Frag) : R2 := fun x y H Q => rEq x y H Q ∨ rEqD K x y H Q
def rNeX (K : PySem.W.Frag) : R2 := fun x y H Q => rNe x y H Q ∨ rNeD K x y H Q
theorem op_eqX {k : Nat} (hr : Room k X.A) : OpR X (compareOp .Eq) (rEqX X.K) := op_eq.or (op_eqD hr.units)
theorem op_neX {k : Nat} (hr : Room k X.A) : OpR X (compareOp .NotEq) (rNeX X.K) := op_ne.or (op_neD hr.units)
end
section
variable {σ : St} {H : Hp} {Q : VK} {i j : Int} {x y : Str}
theorem addI (h : Q (.int (i + j)) H) : rAddX (.int i) (.int j) H Q := .inl ⟨i, j, rfl, rfl, h⟩
theorem addS (h0 : x.length + y.length ≤ sizeLine) (h : Q (.str (x ++ y)) H) : rAddX (.str x) (.str y) H Q := .inr (.inl ⟨x, y, rfl, rfl, h0, h⟩)
theorem mulI (h0 : CMulW i j) (h : Q (.int (i * j)) H) : rMulX (.int i) (.int j) H Q := .inl ⟨i, j, rfl, rfl, h0, h⟩
theorem eqS {K : PySem.W.Frag} {a b : V} (h0 : scal a b = true) (h : Q (.bl (decide (a = b))) H) : rEqX K a b H Q := .inl ⟨h0, h⟩
theorem neS {K : PySem.W.Frag} {a b : V} (h0 : scal a b = true) (h : Q (.bl (!decide (a = b))) H) : rNeX K a b H Q := .inl ⟨h0, h⟩
end

/-! ### names of the module, constants of a class -/
section
variable {X : Cx} {x f : Str} {pos : Pos} {i : Int} {t : Tok}
theorem pe_globC (hm : ∃ t, X.mg x = some (.int i t)) (hg : Gl X x := by rfl) (hd : (x == ("__debug__" : Str)) = false := by decide) : PE X (.Name x pos) (tC (.int i)) := by
  obtain ⟨t, hm⟩ := hm
  exact pe_glob hg hm ⟨_, rfl⟩ hd
/-- C.f, the class by its name, a constant of the class -/
theorem pe_clsv {C : Addr} {v : V} {e : Expr} (c : ∃ mc u, CRead X.K C mc ∧ CVal X.K C mc f v u) (he : PE X e (tC (.ref C))) (hab : attributeBase e f X.env (eval e X.env) = eval e X.env := by rfl) :
    PE X (.Attribute e f pos) (tC v) := by
  refine ⟨fun pins s σ H Q I h => (pe_cval (pos := pos) he hab).run pins s σ H Q I ?_⟩
  obtain ⟨mc, u, c1, c2⟩ := c
  exact ⟨C, mc, v, u, rfl, c1, c2, h⟩
end

/-! ### o.m(.., k = v) -/
def tMethK (C : Addr) (m : Str) (sp : Sp) (gV : List V → List V → List V) (E : XK) (ta : TE) (t tk : TA) : TE := fun σ H Q => ta σ H fun x H1 => ∃ a dx fs, x = .ref a ∧ H1 a = some (.ins C dx fs) ∧ fs.lookup m = none ∧
  t σ H1 fun vs H2 => tk σ H2 fun zs H3 => sp (gV (x :: vs) zs) H3 Q E
section
variable {X : Cx} {CX : CXT} {k : Nat} {f C : Addr} {fd : FuncData} {ps ks : List Str} {sp : Sp} {E : XK} {m : Str} {pos apos : Pos} {o : Expr} {kws : List Keyword} {ta : TE} {t tk : TA} {g : List Value → List Value → List Value} {gV : List V → List V → List V}
theorem pe_methK0 {pl : Sem Bool} (he : PE X o ta) (c : Cls X.K C) (hm : Meth X.K C m f) (F : FnOk X.prog X.w X.K X.mg X.base CX k f fd ps sp) (hr : Room k X.A) (hb : KBinds X.K fd ps ks g gV) (hx : Passes CX X E)
    (hkw : PK X kws tk) (hall : (backToKw pos (keywordEach kws X.env)).all (·.1.isSome) = true := by rfl) (hks : (backToKw pos (keywordEach kws X.env)).filterMap (·.1) = ks := by rfl)
    (hpl : ((backTo pos (starEach [] X.env)).any (·.1) || (backToKw pos (keywordEach kws X.env)).any (·.1.isNone)) = false := by rfl)
    (ht : eval (.Call (.Attribute o m apos) [] kws pos) X.env = (do
      let ov ← eval o X.env
      standAt apos.atName
      let (f, first) ← holding [ov] (getMethod ov m pl)
      callWith pos f first (backTo pos (starEach [] X.env)) (backToKw pos (keywordEach kws X.env))) := by rfl) :
    PE X (.Call (.Attribute o m apos) [] kws pos) (tMethK C m sp gV E ta tNil tk) := by
  refine ⟨fun pins s σ H Q I h => ?_⟩
  refine PySem.W.methodCall_KW (pl := pl) (thn (he.run pins s σ H _ I h) fun u s1 ⟨x, H1, I1, rx, a, dx, fs, ex, ea, l, q⟩ => ?_) ht
  subst ex
  obtain rfl : u = Value.ref a := rx
  refine getmeth_ok I1 ea c hm l ?_
  refine PySem.W.callWith_KW0 (first := [.ref a]) (h₀ := X.base) I.ok.mod.kin hm.kp hall ?_ hpl
  refine thn (hkw.run pos pins s1 σ H1 _ I1 q) fun ws s2 ⟨zs, H2, I2, rz, q2⟩ => ⟨I2.kIn, ?_⟩
  rw [hks]
  exact run_fnk (us := [.ref a]) (vs := [.ref a]) F hr hb hx I2 (.cons rfl .nil) rz q2
end
section
variable {K : PySem.W.Frag}
/-- how a call by keywords binds (no defaults) -/
theorem Fun.kbinds {x qual : Str} {st : Stmt} {f : Addr} {fd : FuncData} {ps : List Str} (F : Fun K x qual st f fd) (n : Nat) (ks : List Str) (g : {α : Type} → List α → List α → List α) (hlen : ∀ {α : Type} (us ws : List α), (g us ws).length = ps.length → us.length = n ∧ ws.length = ks.length)
    (hrel : ∀ {vs : List V} {us : List Value} {zs : List V} {ws : List Value}, Vals vs us → Vals zs ws → Vals (g vs zs) (g us ws))
    (h : ∀ (kV doc pm : Value) (an : Option Addr) (cdv ct : Value) (us ws : List Value), us.length = n → ws.length = ks.length → bindArgs (PySem.W.fnOf x qual (defArgs st) (defBody st) (defScope st) .none kV doc pm an cdv ct) ⟨us, ks.zip ws⟩ = pure (ps.zip (g us ws))) :
    KBinds K fd ps ks (fun us ws => g us ws) (fun vs zs => g vs zs) := by
  obtain ⟨oc, od, kV, doc, pm, an, cdv, ct, osl, rfl, lk, hcd⟩ := F.ex
  refine ⟨fun s us ws _ hl => .of_eq ?_, hrel⟩
  obtain ⟨h1, h2⟩ := hlen us ws hl
  exact h kV doc pm an cdv ct us ws h1 h2
end
end L2

namespace L2
open ClX
open PySem PySem.Spec PyProof.Rows

/-! ### a def of the text behind the top; its promise, without naming its record -/
structure FnT (K : PySem.W.Frag) (x qual : Str) (st : Stmt) (f : Addr) : Prop where
  ex : ∃ fd, Fun K x qual st f fd
theorem FnT.kp {K : PySem.W.Frag} {x qual : Str} {st : Stmt} {f : Addr} (h : FnT K x qual st f) : PySem.W.keepIn K (.ref f) = true := h.ex.elim fun _ F => F.kp
theorem fnT_mk {K : PySem.W.Frag} {x qual : Str} {st : Stmt} {f : Addr} {oc : Value} {od an : Option Addr} {osl : Array (Option Value)} {kV doc pm cdv ct : Value}
    (l : K.lookup f = some ⟨oc, od, .func (PySem.W.fnOf x qual (defArgs st) (defBody st) (defScope st) .none kV doc pm an cdv ct), osl⟩)
    (c : PySem.W.codeIn K cdv qual = true) (k : PySem.W.keepIn K (.ref f) = true) : FnT K x qual st f := ⟨_, fun_mk l c k⟩
theorem gconst_mk {K : PySem.W.Frag} {x : Str} {u : Value} {n : Int} (h : PySem.W.nsIn K mainGlobals x = some (some u)) (e : ∃ t, u = .int n t) : ∃ t, PySem.W.nsIn K mainGlobals x = some (some (.int n t)) := by
  obtain ⟨t, rfl⟩ := e
  exact ⟨t, h⟩
/-- called by positions -/
structure Ok1 (P : Program) (w : World) (K : PySem.W.Frag) (mg : Str → Option Value) (base : Heap) (k : Nat) (f : Addr) (ps : List Str) (sp : Sp) : Prop where
  ex : ∃ fd, FnOk P w K mg base CX0 k f fd ps sp ∧ Binds K fd ps []
  kp : PySem.W.keepIn K (.ref f) = true
section
variable {P : Program} {w : World} {K : PySem.W.Frag} {mg : Str → Option Value} {base : Heap}
/-- how no defaults bind: for a def of at most six parameters -/
def BindsAll (st : Stmt) (x qual : Str) (ps : List Str) : Prop :=
  ∀ (kV doc pm : Value) (an : Option Addr) (cdv ct : Value) (us : List Value), us.length = ps.length → bindArgs (PySem.W.fnOf x qual (defArgs st) (defBody st) (defScope st) .none kV doc pm an cdv ct) ⟨us, []⟩ = pure (ps.zip us)
theorem FnT.ok {x qual : Str} {st : Stmt} {f : Addr} {N ps : List Str} {k : Nat} {sp : Sp} (h : FnT K x qual st f) (S : FnScope N ps (defScope st)) (hb : BindsAll st x qual ps)
    (len : ∀ vs H Q E, sp vs H Q E → vs.length = ps.length)
    (body : ∀ (cdv : Value) (A : Around) (outer : List Env) (s : Shared) (H : Hp) (vs : List V) (Q : VK) (E : XK), Room k (A.deeper (envOfC qual (defScope st) s.heap.objs.size f cdv)) → sp vs H Q E →
      ∃ t, PSs (cxOf CX0 P w K mg base N qual (defScope st) f cdv A outer s H E).nox (defBody st) t ∧ t { nx := fun _ H' => Q .non H', rt := Q } (start N vs) H) :
    Ok1 P w K mg base (k + 1) f ps sp := by
  obtain ⟨fd, F⟩ := h.ex
  exact ⟨⟨fd, F.ok S len body, F.binds hb⟩, F.kp⟩
theorem Ok1.mono {j k : Nat} {f : Addr} {ps : List Str} {sp : Sp} (h : Ok1 P w K mg base j f ps sp) (le : j ≤ k) : Ok1 P w K mg base k f ps sp := by
  obtain ⟨⟨fd, F, b⟩, kp⟩ := h
  exact ⟨⟨fd, F.mono le, b⟩, kp⟩
theorem Ok1.imp {k : Nat} {f : Addr} {ps : List Str} {sp sp' : Sp} (h : Ok1 P w K mg base k f ps sp) (i : ∀ vs H Q E, sp' vs H Q E → sp vs H Q E) : Ok1 P w K mg base k f ps sp' := by
  obtain ⟨⟨fd, F, b⟩, kp⟩ := h
  exact ⟨⟨fd, F.imp i, b⟩, kp⟩
end
section
variable {X : Cx} {k : Nat} {f C : Addr} {ps : List Str} {sp : Sp} {x m : Str} {p pos apos : Pos} {e o : Expr} {es : List Expr} {ta : TE} {t : TA}
theorem po_call (G : Ok1 X.prog X.w X.K X.mg X.base k f ps sp) (hr : Room k X.A) (hm : X.mg x = some (.ref f)) (ha : PA X (e :: es) t) (hg : Gl X x := by rfl)
    (hdb : (x == ("__debug__" : Str)) = false := by decide) (he : starEach (e :: es) X.env = (false, eval e X.env) :: starEach es X.env := by rfl) (hpl : (backTo pos (starEach es X.env)).any (·.1) = false := by rfl) :
    PE X (.Call (.Name x p) (e :: es) [] pos) (tCall sp [] E0 t) := by
  obtain ⟨⟨fd, F, b⟩, kp⟩ := G
  exact pe_call F hr hg hm kp b .nil pass0 ha hdb he hpl
theorem po_call0 (G : Ok1 X.prog X.w X.K X.mg X.base k f ps sp) (hr : Room k X.A) (hm : X.mg x = some (.ref f)) (hg : Gl X x := by rfl)
    (hdb : (x == ("__debug__" : Str)) = false := by decide) : PE X (.Call (.Name x p) [] [] pos) (tCall sp [] E0 tNil) := by
  obtain ⟨⟨fd, F, b⟩, kp⟩ := G
  exact pe_call0 F hr hg hm kp b .nil pass0 hdb
theorem po_make (M : Mk X.K C f) (G : Ok1 X.prog X.w X.K X.mg X.base k f ps sp) (hr : Room (k + 1) X.A) (hm : X.mg x = some (.ref C)) (ha : PA X (e :: es) t) (hg : Gl X x := by rfl)
    (hdb : (x == ("__debug__" : Str)) = false := by decide) (he : starEach (e :: es) X.env = (false, eval e X.env) :: starEach es X.env := by rfl) (hpl : (backTo pos (starEach es X.env)).any (·.1) = false := by rfl) :
    PE X (.Call (.Name x p) (e :: es) [] pos) (tMake C sp [] E0 t) := by
  obtain ⟨⟨fd, F, b⟩, kp⟩ := G
  exact pe_make M F hr hg hm b .nil pass0 ha hdb he hpl
theorem po_meth {pl : Sem Bool} (c : Cls X.K C) (hm : Meth X.K C m f) (G : Ok1 X.prog X.w X.K X.mg X.base k f ps sp) (hr : Room k X.A) (he : PE X o ta) (ha : PA X (e :: es) t)
    (hst : starEach (e :: es) X.env = (false, eval e X.env) :: starEach es X.env := by rfl) (hpl : (backTo pos (starEach es X.env)).any (·.1) = false := by rfl)
    (ht : eval (.Call (.Attribute o m apos) (e :: es) [] pos) X.env = (do
      let ov ← eval o X.env
      standAt apos.atName
      let (f, first) ← holding [ov] (getMethod ov m pl)
      callWith pos f first (backTo pos (starEach (e :: es) X.env)) (backToKw pos (keywordEach [] X.env))) := by rfl) :
    PE X (.Call (.Attribute o m apos) (e :: es) [] pos) (tMeth C m sp [] E0 ta t) := by
  obtain ⟨⟨fd, F, b⟩, kp⟩ := G
  exact pe_meth he c hm F hr b .nil pass0 ha hst hpl ht
end

/-! ### promises of defs that show data (repr): nothing is being shown around them -/
structure OkG (P : Program) (w : World) (K : PySem.W.Frag) (mg : Str → Option Value) (base : Heap) (k : Nat) (f : Addr) (ps : List Str) (sp : Sp) : Prop where
  kp : PySem.W.keepIn K (.ref f) = true
  go : ∀ (B : Around) (up : List Env) (s : Shared) (H : Hp) (us : List Value) (vs : List V) (Q : VK), Room k B → B.guards = some [] → Env0 P w K mg base B up s H → Vals vs us → sp vs H Q E0 →
    codeAny (model P w) B (.call (.ref f) ⟨us, []⟩) (CR CX0 up P w H s Q E0) s
section
variable {P : Program} {w : World} {K : PySem.W.Frag} {mg : Str → Option Value} {base : Heap}
theorem Ok1.toG {k : Nat} {f : Addr} {ps : List Str} {sp : Sp} (h : Ok1 P w K mg base k f ps sp) : OkG P w K mg base k f ps sp := by
  obtain ⟨⟨fd, F, b⟩, kp⟩ := h
  refine ⟨kp, fun B up s H us vs Q room _ e0 rv q => ?_⟩
  have n : (us ++ []).length = ps.length := by
    rw [List.append_nil, ← rv.length]
    exact F.len _ _ _ _ q
  have bt := b s us (e0.mod.kin.keeps fun c o z => (e0.bs c o z).1) n
  rw [List.append_nil] at bt
  exact F.run B up s H ⟨us, []⟩ us vs Q E0 room e0 bt rv q
theorem FnT.okG {x qual : Str} {st : Stmt} {f : Addr} {N ps : List Str} {k : Nat} {sp : Sp} (h : FnT K x qual st f) (S : FnScope N ps (defScope st)) (hb : BindsAll st x qual ps)
    (len : ∀ vs H Q E, sp vs H Q E → vs.length = ps.length)
    (body : ∀ (cdv : Value) (A : Around) (outer : List Env) (s : Shared) (H : Hp) (vs : List V) (Q : VK), Room k (A.deeper (envOfC qual (defScope st) s.heap.objs.size f cdv)) → A.guards = some [] → sp vs H Q E0 →
      ∃ t, PSs (cxOf CX0 P w K mg base N qual (defScope st) f cdv A outer s H E0).nox (defBody st) t ∧ t { nx := fun _ H' => Q .non H', rt := Q } (start N vs) H) :
    OkG P w K mg base (k + 1) f ps sp := by
  obtain ⟨fd, F⟩ := h.ex
  have kp := F.kp
  have bd := F.binds hb
  obtain ⟨oc, od, kV, dc, pm, an, cv, ct, sl, rfl, lk, cd⟩ := F.ex
  refine ⟨kp, fun B up s H us vs Q room gd e0 rv q => ?_⟩
  have n := len _ _ _ _ q
  have KH : K.In s.heap := e0.mod.kin.keeps fun c o z => (e0.bs c o z).1
  have noLim : s.heap.NoLimit := e0.mod.nolimit.keeps fun c o z => (e0.bs c o z).1
  have bt := bd s us KH (by rw [List.append_nil, ← rv.length]; exact n)
  rw [List.append_nil] at bt
  refine codeAny_call_function room.depth (KH _ _ lk) rfl S.co S.gen rfl (PySem.W.codeRec_of KH cd) (bt _ _ _ _ ?_)
  refine wpAny_newFunctionEnv_cells S.kind (fun ⟨y, v⟩ hy => ?_) fun en eq s1 ic => ?_
  · exact (S.par y (List.of_mem_zip hy).1).imp id fun z => ⟨z, PySem.W.cellsFrom_some _ _ _ (.inl z)⟩
  · subst eq
    obtain ⟨t, d, r⟩ := body cv B up s H vs Q (room.deeper _) gd q
    have I0 := inv_start (CX := CX0) (P := P) (w := w) (K := K) (mg := mg) (base := base) (E := E0) (cd := cv) (f := f) (qual := qual) S room.hd e0 n rv ic
    refine ⟨noLim.keeps ic.toInCall.keep, codeAny_func (wpAny_mono (d.nox.run [] s1 (start N vs) H _ I0 r) (fun fl s2 z => ?_) fun _ _ z => z)⟩
    cases fl with
    | ret u => obtain ⟨v, σ2, H2, J, rel, fin⟩ := z; exact ⟨v, H2, J.os, J.bare, J.base, J.hok, rel, fin⟩
    | next => obtain ⟨σ2, H2, J, fin⟩ := z; exact ⟨.non, H2, J.os, J.bare, J.base, J.hok, rfl, fin⟩
    | brk => obtain ⟨σ2, H2, J, fin⟩ := z; exact fin.elim
    | cont => obtain ⟨σ2, H2, J, fin⟩ := z; exact fin.elim
end
section
variable {X : Cx} {k : Nat} {f C : Addr} {ps : List Str} {sp : Sp} {x m : Str} {p pos apos : Pos} {e o : Expr} {es : List Expr} {ta : TE} {t : TA}
theorem pg_call (G : OkG X.prog X.w X.K X.mg X.base k f ps sp) (hr : Room k X.A) (gd : X.A.guards = some []) (hm : X.mg x = some (.ref f)) (ha : PA X (e :: es) t) (hg : Gl X x := by rfl)
    (hdb : (x == ("__debug__" : Str)) = false := by decide) (he : starEach (e :: es) X.env = (false, eval e X.env) :: starEach es X.env := by rfl) (hpl : (backTo pos (starEach es X.env)).any (·.1) = false := by rfl) :
    PE X (.Call (.Name x p) (e :: es) [] pos) (tCall sp [] E0 t) := by
  refine ⟨fun pn s σ H Q I h => wpAny_Call_Name_kw (ld_glob I hg hm ?_ hdb)⟩
  refine PySem.W.callWith_K (h₀ := X.base) I.ok.mod.kin G.kp (thn (ha.run pos pn s σ H _ I h) fun us s1 ⟨vs, H1, I1, r, q⟩ => ⟨I1.kIn, ?_⟩) he hpl
  have q1 : sp (vs ++ []) H1 Q E0 := q
  rw [List.append_nil] at q1
  refine wpAny_call (codeAny_mono (G.go X.A X.stack s1 H1 us vs Q hr gd I1.env0 r q1) fun res s2 z => ?_)
  match res, z with
  | .error _, z => exact z.elim
  | .ok (.ret u), z => exact I1.after z
  | .ok .next, z => exact z.elim
  | .ok .brk, z => exact z.elim
  | .ok .cont, z => exact z.elim
end
end L2

namespace L2
open ClX
open PySem PySem.Spec PyProof.Rows

/-! ### repr of data -/
structure Shows (d : PyData) : Prop where
  sh : d.showable = true
  nd : d.hasDict = false
  dp : d.depth ≤ 40
  sz : d.shown.length ≤ sizeLine
def rRepr (K : PySem.W.Frag) : List V → Hp → VK → Prop := fun xs H Q => ∃ x d, xs = [x] ∧ Dp K H x d ∧ Shows d ∧ Q (.str d.shown) H
theorem call_reprD {X : Cx} {k : Nat} (hr : Room k X.A) (gd : X.A.guards = some []) : CallR X (.builtin "repr") (rRepr X.K) := by
  intro pins s σ H xs us Q I r h
  obtain ⟨x, d, rfl, rd, S, q⟩ := h
  obtain ⟨u, rfl, ru⟩ := vals1 r
  have fin : ∀ h' t, (∀ b o, s.heap.get? b = some o → h'.get? b = some o) → ∀ tk, EP X pins σ Q (.str d.shown tk) { s with heap := h', toks := t } := fun h' t keep tk => ⟨.str d.shown, H, I.kept keep, ⟨tk, rfl⟩, q⟩
  have un : X.A.units + (d.depth + 1) < cLine := by
    have := hr.units
    have := S.dp
    omega
  have rds := Dp.reads I d x u rd ru
  cases rd with
  | non => cases ru; exact PySem.P.repr_of_none (fin s.heap _ (fun _ _ z => z) _)
  | bl b => cases ru; exact PySem.P.repr_of_bool (fin s.heap _ (fun _ _ z => z) _)
  | int i =>
    obtain ⟨t, rfl⟩ := ru
    have z := S.sh
    simp only [PyData.showable, decide_eq_true_eq] at z
    exact PySem.P.repr_of_int z (fin s.heap _ (fun _ _ z => z) _)
  | str y =>
    obtain ⟨t, rfl⟩ := ru
    have z := S.sz
    simp only [PyData.shown] at z
    exact PySem.P.repr_of_str (fin s.heap _ (fun _ _ z => z) _) z
  | lst h1 h2 =>
    cases ru
    obtain ⟨as, rd⟩ := rds
    exact repr_of_reads' rd S.sh (PyData.noDict_hsm S.nd) gd un (fun _ _ z => z) (fun h' t tk keep => fin h' tk keep t) S.sz
  | tup h1 h2 =>
    cases ru
    obtain ⟨as, rd⟩ := rds
    exact repr_of_reads' rd S.sh (PyData.noDict_hsm S.nd) gd un (fun _ _ z => z) (fun h' t tk keep => fin h' tk keep t) S.sz
end L2

namespace L2
open ClX
open PySem PySem.Spec PyProof.Rows
/-! ### called with one keyword -/
def glue1 {α : Type} (us ws : List α) : List α := if us.length = 1 ∧ ws.length = 1 then us ++ ws else []
structure OkK (P : Program) (w : World) (K : PySem.W.Frag) (mg : Str → Option Value) (base : Heap) (k : Nat) (f : Addr) (ps : List Str) (kw : Str) (sp : Sp) : Prop where
  ex : ∃ fd, FnOk P w K mg base CX0 k f fd ps sp ∧ KBinds K fd ps [kw] (fun us ws => glue1 us ws) (fun vs zs => glue1 vs zs)
section
variable {P : Program} {w : World} {K : PySem.W.Frag} {mg : Str → Option Value} {base : Heap}
theorem FnT.okK {x qual kw p0 : Str} {st : Stmt} {f : Addr} {N : List Str} {k : Nat} {sp : Sp} (h : FnT K x qual st f) (S : FnScope N [p0, kw] (defScope st))
    (hb : ∀ (kV doc pm : Value) (an : Option Addr) (cdv ct u v : Value), bindArgs (PySem.W.fnOf x qual (defArgs st) (defBody st) (defScope st) .none kV doc pm an cdv ct) ⟨[u], [(kw, v)]⟩ = pure [(p0, u), (kw, v)])
    (len : ∀ vs H Q E, sp vs H Q E → vs.length = 2)
    (body : ∀ (cdv : Value) (A : Around) (outer : List Env) (s : Shared) (H : Hp) (vs : List V) (Q : VK) (E : XK), Room k (A.deeper (envOfC qual (defScope st) s.heap.objs.size f cdv)) → sp vs H Q E →
      ∃ t, PSs (cxOf CX0 P w K mg base N qual (defScope st) f cdv A outer s H E).nox (defBody st) t ∧ t { nx := fun _ H' => Q .non H', rt := Q } (start N vs) H) :
    OkK P w K mg base (k + 1) f [p0, kw] kw sp := by
  obtain ⟨fd, F⟩ := h.ex
  refine ⟨fd, F.ok S len body, F.kbinds 1 [kw] glue1 (fun us ws hl => ?_) (fun r q => ?_) fun kV doc pm an cdv ct us ws h1 h2 => ?_⟩
  · unfold glue1 at hl
    split at hl
    · assumption
    · cases hl
  · unfold glue1
    rw [r.length, q.length]
    split
    · exact r.append q
    · exact .nil
  · match us, h1, ws, h2 with
    | [u], _, [v], _ => exact hb kV doc pm an cdv ct u v
end
section
variable {X : Cx} {k : Nat} {f C : Addr} {ps : List Str} {kw : Str} {sp : Sp} {m : Str} {pos apos : Pos} {o : Expr} {kws : List Keyword} {ta : TE} {tk : TA}
theorem po_methK {pl : Sem Bool} (c : Cls X.K C) (hm : Meth X.K C m f) (G : OkK X.prog X.w X.K X.mg X.base k f ps kw sp) (hr : Room k X.A) (he : PE X o ta)
    (hkw : PK X kws tk) (hall : (backToKw pos (keywordEach kws X.env)).all (·.1.isSome) = true := by rfl) (hks : (backToKw pos (keywordEach kws X.env)).filterMap (·.1) = [kw] := by rfl)
    (hpl : ((backTo pos (starEach [] X.env)).any (·.1) || (backToKw pos (keywordEach kws X.env)).any (·.1.isNone)) = false := by rfl)
    (ht : eval (.Call (.Attribute o m apos) [] kws pos) X.env = (do
      let ov ← eval o X.env
      standAt apos.atName
      let (f, first) ← holding [ov] (getMethod ov m pl)
      callWith pos f first (backTo pos (starEach [] X.env)) (backToKw pos (keywordEach kws X.env))) := by rfl) :
    PE X (.Call (.Attribute o m apos) [] kws pos) (tMethK C m sp (fun vs zs => glue1 vs zs) E0 ta tNil tk) := by
  obtain ⟨fd, F, b⟩ := G.ex
  exact pe_methK0 he c hm F hr b pass0 hkw hall hks hpl ht
end

/-- a statement, then the rest, with a word of one's own between them -/
def tMid (t u : TS) : TS := fun D σ H => ∃ M : St → Hp → Prop, t { D with nx := M } σ H ∧ ∀ σ1 H1, M σ1 H1 → u D σ1 H1
theorem pss_mid {X : Cx} {st : Stmt} {more : List Stmt} {t u : TS} (a : PS X st t) (b : PSs X more u) : PSs X (st :: more) (tMid t u) := by
  refine ⟨fun pn s σ H D I ⟨M, h, g⟩ => wpAny_execs_cons (thn (a.run pn s σ H { D with nx := M } I h) fun fl s1 z => ?_)⟩
  match fl, z with
  | .next, ⟨σ1, H1, I1, z⟩ => exact b.run pn s1 σ1 H1 D I1 (g σ1 H1 z)
  | .ret _, z => exact z
  | .brk, z => exact z
  | .cont, z => exact z
/-! ### small steps of readings -/
section
variable {K : PySem.W.Frag} {H : Hp} {Q : VK} {p : Addr} {xs : List V} {i : Int} {v : V} {z : Str} {c : Nat}
theorem ixL (h : H p = some (.lst xs)) (ha : atI xs i = some v) (q : Q v H) : rIx K (.ref p) (.int i) H Q := .inl ⟨p, xs, i, v, rfl, rfl, SqL.of h, ha, q⟩
theorem ixSq (h : SqL K H p xs) (ha : atI xs i = some v) (q : Q v H) : rIx K (.ref p) (.int i) H Q := .inl ⟨p, xs, i, v, rfl, rfl, h, ha, q⟩
theorem ixT (h : H p = some (.tup xs)) (ha : atI xs i = some v) (q : Q v H) : rIx K (.ref p) (.int i) H Q := .inr (.inl ⟨p, xs, i, v, rfl, rfl, SqT.of h, ha, q⟩)
theorem ixS (hz : z.length ≤ sizeLine) (ha : atI z.cps.toList i = some c) (q : Q (.str ⟨#[c]⟩) H) : rIx K (.str z) (.int i) H Q := .inr (.inr ⟨z, i, c, rfl, rfl, hz, ha, q⟩)
theorem setL {Qs : Hp → Prop} {j : Nat} (h : H p = some (.lst xs)) (hj : ixN xs.length i = some j) (q : Qs (upd H p (.lst (xs.set j v)))) : rSetL (.ref p) (.int i) v H Qs := ⟨p, xs, i, j, rfl, rfl, h, hj, q⟩
theorem szS {n : Nat} (h : n ≤ 1000000) : n ≤ sizeLine := Nat.le_trans h (by decide)
theorem isI {c : V} {t u : Value} {b : Bool} {x : V} (hc : ClsV c u) (ht : TyX K H x t) (hk : PySem.W.kitOne K t u = some b) (q : Q (.bl b) H) : rIsi K [x, c] H Q := ⟨x, c, t, u, b, rfl, hc, ht, hk, q⟩
end
/-- all that was tracked is as it was, but at a -/
def But (a : Addr) (H H' : Hp) : Prop := ∀ b o, H b = some o → b ≠ a → H' b = some o
theorem But.refl {a : Addr} {H : Hp} : But a H H := fun _ _ h _ => h
theorem But.trans {a : Addr} {H H1 H2 : Hp} (x : But a H H1) (y : But a H1 H2) : But a H H2 := fun b o h n => y b o (x b o h n) n
theorem But.same {a : Addr} {H H1 : Hp} (x : Same H H1) : But a H H1 := fun b o h _ => x b o h
theorem But.upd {a : Addr} {H : Hp} {o : HO} : But a H (L2.upd H a o) := fun b u h n => by
  rw [upd_ne n]
  exact h
theorem Same.new {H : Hp} {a : Addr} {o : HO} (h : H a = none) : Same H (L2.upd H a o) := fun b u e => by
  rw [upd_ne (ne_of_none e h)]
  exact e
/-- what is new since H0 may change -/
theorem Same.but {H0 H H1 : Hp} {a : Addr} (s : Same H0 H) (h : H0 a = none) (b : But a H H1) : Same H0 H1 := fun c o e => b c o (s c o e) (ne_of_none e h)
end L2

namespace L2
open ClX
open PySem PySem.Spec PyProof.Rows
/-! ### the end, for a law whose defs show data -/
section
variable {P : Program} {w : World} {K : PySem.W.Frag} {mg mb : Str → Option Value} {s1 : Shared} {vs : List Value} {ns : List Int} {a : Addr}
/-- nothing is tracked but the script, unless it is an object of the module -/
def onlyS (K : PySem.W.Frag) (a : Addr) (vs : List Value) (ns : List Int) : Hp := fun b => if b = a ∧ K.lookup a = none then some (.frz { cls := .type "list", data := .seq vs.toArray } (.lst (ns.map V.int))) else none
theorem onlyS_some {b : Addr} {o : HO} (h : onlyS K a vs ns b = some o) : b = a ∧ K.lookup a = none ∧ o = .frz { cls := .type "list", data := .seq vs.toArray } (.lst (ns.map V.int)) := by
  unfold onlyS at h
  split at h
  · rename_i c
    exact ⟨c.1, c.2, (Option.some.inj h).symm⟩
  · cases h
theorem lawG {k : Nat} {fa : Addr} {sp : Sp} (KX : K.In s1.heap) (hg : s1.heap.Ns mainGlobals mg) (hb : s1.heap.Ns builtinsNs mb) (hbb : ∀ x : Str, x ≠ "__name__" → mb x = bootBuiltins x) (hl : s1.heap.NoLimit) (gn : s1.gens = #[])
    (ha : s1.heap.get? a = some { cls := .type "list", data := .seq vs.toArray }) (hi : IntsAre vs ns) (hz : ns.length ≤ sizeLine) (room : Room k callerA)
    (F : ∀ base : Heap, K.In base → base.Ns mainGlobals mg → OkG P w K mg base k fa ["script"] sp) (hsp : ∀ H : Hp, SqL K H a (ns.map V.int) → sp [.ref a] H (fun v _ => v = .bl true) E0) :
    codeAny (model P w) callerA (.call (.ref fa) ⟨[.ref a], []⟩) (fun r s' => r = .ok (.ret (.bool true)) ∧ OldK s1.heap s'.heap ∧ s'.os = s1.os ∧ AllBare s'.gens) s1 := by
  have rel := vals_ints hi
  have len := hi.length
  have H := onlyS K a vs ns
  have hidden : ∀ {b : Addr} {o : Obj}, s1.heap.get? b = some o → onlyS K a vs ns b = none → (hidT s1.heap (onlyS K a vs ns)).get? b = some o := fun z n => hidT_get z n
  have free : ∀ {b : Addr} {o : Obj} {es : Array DictEntry} {n : Nat}, s1.heap.get? b = some o → o.data = .dict es n → onlyS K a vs ns b = none := fun {b o es n} z d => by
    cases q : onlyS K a vs ns b with
    | none => rfl
    | some u =>
      have e := (onlyS_some q).1
      rw [e, ha] at z
      cases z
      cases d
  have names : ∀ {b : Addr} {m : Str → Option Value}, s1.heap.Ns b m → (hidT s1.heap (onlyS K a vs ns)).Ns b m := fun ⟨o, es, n, z, d, r⟩ => ⟨o, es, n, hidden z (free z d), d, r⟩
  have KB : K.In (hidT s1.heap (onlyS K a vs ns)) := fun b o z => hidden (KX b o z) (by
    cases q : onlyS K a vs ns b with
    | none => rfl
    | some u =>
      obtain ⟨e, n, _⟩ := onlyS_some q
      rw [e, n] at z
      cases z)
  have lim : (hidT s1.heap (onlyS K a vs ns)).NoLimit := by
    obtain ⟨m, h1, h2⟩ := hl
    exact ⟨m, names h1, h2⟩
  have hok : HOk P w (onlyS K a vs ns) s1.heap := fun b u q => by
    obtain ⟨e, _, rfl⟩ := onlyS_some q
    subst e
    exact ⟨ha, by rw [List.length_map]; exact hz, vs, _, rel, ha⟩
  have sq : SqL K (onlyS K a vs ns) a (ns.map V.int) := by
    cases q : K.lookup a with
    | none => exact .inl (.inr ⟨_, if_pos ⟨rfl, q⟩⟩)
    | some o =>
      have z := KX a o q
      rw [ha] at z
      cases z
      exact .inr ⟨_, vs.toArray, _, q, rfl, rfl, rfl, by rw [List.size_toArray, len]; exact hz, by simpa using rel⟩
  have none_mem : ∀ b : Addr, b ∉ frs [] := fun b z => by cases z
  have e0 : Env0 P w K mg (hidT s1.heap (onlyS K a vs ns)) callerA [] s1 (onlyS K a vs ns) :=
    { frames := rfl, mod := ⟨KB, names hg, ⟨mb, names hb, hbb⟩, lim⟩, bs := fun b o z => of_hidT z, bsz := Nat.le_of_eq (hidT_size _ _), funs := trivial, frf := fun b z => (none_mem b z).elim, hok := hok, bare := .of_eq gn }
  refine codeAny_mono ((F _ KB (names hg)).go callerA [] s1 (onlyS K a vs ns) [.ref a] [.ref a] _ room rfl e0 (.cons rfl .nil) (hsp _ sq)) fun r s2 z => ?_
  match r, z with
  | .error _, z => exact z.elim
  | .ok .next, z => exact z.elim
  | .ok .brk, z => exact z.elim
  | .ok .cont, z => exact z.elim
  | .ok (.ret u), ⟨v, H2, os, bare, un, hok2, ru, q⟩ =>
    obtain rfl : v = .bl true := q
    obtain rfl : u = Value.bool true := ru
    refine ⟨rfl, OldK.of_keep fun b o z => ?_, os, bare⟩
    cases q : onlyS K a vs ns b with
    | none => exact un.keep b o z q (none_mem b) (none_mem b)
    | some u =>
      obtain ⟨e, _, rfl⟩ := onlyS_some q
      have z2 := (hok2 b _ (un.frzs b _ _ q)).1
      rw [e, ha] at z
      cases z
      exact z2
end
theorem walkG {l : PySem.W.OpenLaw} {n k : Nat} {q : Program} {loose : List Str} {XP : (Str → Option Value) → Heap → Prop} {YP : World → Heap → Prop} {d : DefRec} {K : Params → PySem.W.Frag} {sp : PySem.W.Frag → Sp}
    (hn : l.most = some n) (hn2 : n ≤ sizeLine) (hdf : d.params.defaults = []) (room : Room k callerA) (hY : ∀ (w : World) (h : Heap), YP w h → (K w.params).In h)
    (F : ∀ (w : World) (mg : Str → Option Value) (fa : Addr) (h : Heap), (K w.params).In h → h.Ns mainGlobals mg → mg d.name = some (.ref fa) → ∀ base : Heap, (K w.params).In base → base.Ns mainGlobals mg → OkG l.prog w (K w.params) mg base k fa ["script"] (sp (K w.params)))
    (hsp : ∀ (K : PySem.W.Frag) (H : Hp) (a : Addr) (ns : List Int), ns.length ≤ n → SqL K H a (ns.map V.int) → sp K [.ref a] H (fun v _ => v = .bl true) E0) :
    PySem.W.WalkO q loose XP YP l.row.toRowW d [] (fun f vs => PySem.call f vs) := by
  refine Att.attach_call hn hdf fun w s0 s1 mg mb fa o pm cd doc a vs ns G Y _ _ _ hm ho hi hl hg => ?_
  have KX := hY w _ Y
  exact lawG KX G.T.g G.T.b G.T.builtins G.T.nolimit hg ho hi (Nat.le_trans hl hn2) room (F w mg fa _ KX G.T.g hm) fun H hS => hsp _ H a ns hl hS
end L2

set_option Elab.async false
set_option linter.all false
set_option maxRecDepth 100000
set_option maxHeartbeats 4000000
/-! Own layer: a caught error that is kept behind its except suite. -/
namespace L2
open ClX
open PySem PySem.Spec PyProof.Rows

/-- an error of the class cls, with the dict d, at a -/
def errO (cls : Value) (d : Option Addr) (a : Addr) : HO := .ext fun h => ∃ (oe : Obj) (vs : Array Value), h.get? a = some oe ∧ Zc cls d oe ∧ oe.data = .fields vs
theorem errO_ok {P : Program} {w : World} {H : Hp} {h : Heap} {a : Addr} {cls : Value} {d : Option Addr} {oe : Obj} {vs : Array Value} (e : h.get? a = some oe) (z : Zc cls d oe) (f : oe.data = .fields vs) : ObjOk P w H h a (errO cls d a) :=
  ⟨⟨oe, vs, e, z, f⟩, ⟨oe, e⟩, fun _ _ ⟨o, u, q, r⟩ k => ⟨o, u, k o q, r⟩⟩
/-- the context of an except suite, the error being tracked -/
abbrev Cx.held (X : Cx) (a : Addr) (pn : List (Addr × Obj)) : Cx := { X with A := X.A.mark (some (.ref a)), calm := false, pn := pn, xe := fun _ _ => False }
section
variable {X : Cx} {pins : List (Addr × Obj)} {σ : St} {H : Hp} {sI s' s : Shared} {B : Heap}
theorem Cx.Ok.held (ok : X.Ok) (a : Addr) (pn : List (Addr × Obj)) : (X.held a pn).Ok :=
  { mod := ok.mod, kind := ok.kind, glob := ok.glob, blt := ok.blt, above := ok.above, inj := ok.inj, has := ok.has, cab := ok.cab, hd := fun z => (by cases z), frames := ok.frames, stk := ok.stk, exf := ok.exf, bs := ok.bs, bsz := ok.bsz, noex := ok.noex, exfs := ok.exfs, funs := ok.funs, frf := ok.frf }
theorem Inv.held (I : Inv X pins σ H s) (a : Addr) : Inv (X.held a (X.pn ++ pins)) [] σ H s :=
  { ok := I.ok.held _ _, os := I.os, bare := I.bare, base := I.base, loc := I.loc, cell := I.cell, free := I.free, freeC := I.freeC, hok := I.hok, len := I.len,
    pin := fun p hp => I.pin p (by rw [List.append_nil] at hp; exact hp) }
theorem Inv.unheld {a : Addr} {pn : List (Addr × Obj)} (I : Inv (X.held a (X.pn ++ pins)) pn σ H s) (ok : X.Ok) : Inv X pins σ H s :=
  { ok := ok, os := I.os, bare := I.bare, base := I.base, loc := I.loc, cell := I.cell, free := I.free, freeC := I.freeC, hok := I.hok, len := I.len,
    pin := fun p hp => I.pin p (List.mem_append_left _ hp) }
/-- the state that an error leaves on the ground, the error tracked -/
theorem Inv.landedE {a : Addr} {cls : Value} {d : Option Addr} {oe : Obj} {vs : Array Value} (I : Inv X pins σ H sI) (nb : ∀ b o, sI.heap.get? b = some o → b ∉ frs X.stack → B.get? b = some o) (st : B.StaysIn s'.heap)
    (up : sI.heap.UpToSlots s'.heap) (os : s'.os = sI.os) (ag : AllBare s'.gens) (na : H a = none) (nB : B.get? a = none) (nF : a ∉ frs X.stack) (he : s'.heap.get? a = some oe) (hz : Zc cls d oe) (hf : oe.data = .fields vs) :
    Inv X pins σ (upd H a (errO cls d a)) s' := by
  have nI : sI.heap.get? a = none := by
    cases q : sI.heap.get? a with
    | none => rfl
    | some o =>
      have z := nb a o q nF
      rw [nB] at z
      cases z
  have ne : ∀ b o, sI.heap.get? b = some o → b ≠ a := fun b o q z => by
    rw [z, nI] at q
    cases q
  have hok0 : HOk X.prog X.w H s'.heap := HOk.kept (I.inGround nb) st
  have hok : HOk X.prog X.w (upd H a (errO cls d a)) s'.heap := HOk.laidN hok0 (fun _ _ z => z) na (errO_ok he hz hf)
  have keepS : ∀ b o, sI.heap.get? b = some o → b ∉ frs X.stack → s'.heap.get? b = some o := fun b o q n => st b o (nb b o q n)
  have J := I.call (H' := upd H a (errO cls d a)) (h' := s'.heap) (g' := s'.gens) (t' := s'.toks) (d' := s'.drawn) (ch := [])
    { keep := fun b o q _ n _ => keepS b o q n
      slot := fun b o q _ n _ => by
        obtain ⟨_, o1, e1, hnf⟩ := I.stack.mem n
        rw [q] at e1
        cases e1
        exact up b o q hnf
      free := fun b o q n _ => by
        rw [upd_ne (ne b o q)]
        exact n
      there := fun b o q _ => by
        by_cases n : b ∈ frs X.stack
        · obtain ⟨_, o1, e1, hnf⟩ := I.stack.mem n
          rw [q] at e1
          cases e1
          obtain ⟨sl, z⟩ := up b o q hnf
          exact ⟨_, z⟩
        · exact ⟨o, keepS b o q n⟩
      tups := fun b xs q => by
        rw [upd_ne (ne_of_none q na)]
        exact q
      frzs := fun b o u q => by
        rw [upd_ne (ne_of_none q na)]
        exact q
      tbls := fun b ps q => ⟨#[], by rw [upd_ne (ne_of_none q na), q]; simp⟩ } hok ag (fun _ z => nomatch z)
  obtain ⟨a1, a2, a3, a4, a5⟩ := s'
  have e5 : a5 = sI.os := os
  subst e5
  exact J

/-- what the clause wishes of an error of the body: it takes it, and the suite goes on with the error tracked; slot i is the clause's name -/
def wKept (K : PySem.W.Frag) (c : Value) (i : Nat) (ts : TS) (D : Ends) : WX := fun cls d σ H => PySem.W.exmOne K cls c = some true ∧ ∀ a, H a = none →
  ts ⟨fun σ1 H1 => D.nx (σ1.set i none) H1, D.rt, fun σ1 H1 => D.bk (σ1.set i none) H1, fun σ1 H1 => D.ct (σ1.set i none) H1⟩ (σ.set i (some (.ref a))) (upd H a (errO cls d a))
theorem ps_try_kept {x n : Str} {c : Value} {i : Nat} {body suite : List Stmt} {b0 : Stmt} {np pos pos' : Pos} {tb : WX → TS} {ts : TS}
    (stk : X.stack = X.env :: X.outer) (frm : X.env.frame = some X.env.locals) (hN : X.N.Nodup) (hi : X.N[i]? = some n) (hl : X.env.kindOf n = some .local) (hc : Names X x c)
    (hb : ∀ (W : WX) (pn : List (Addr × Obj)) (xe : Value → Shared → Prop), Takes (X.tr pn xe) W → PassesOwn (model X.prog X.w) X.A X.env xe → PSs (X.tr pn xe) body (tb W))
    (hsu : ∀ (a : Addr) (pn : List (Addr × Obj)), PSs (X.held a pn) (b0 :: suite) ts) :
    PS X (.Try body [.ExceptHandler (some (.Name x np)) (some n) (b0 :: suite) pos'] [] [] pos) (fun D σ H => tb (wKept X.K c i ts D) D σ H) := by
  refine ⟨fun pn s σ H D I h => ?_⟩
  have ok := I.ok
  have fr2 : X.A.frames = some (X.env :: X.outer) := by rw [ok.frames, stk]
  let seen : Value → Shared → Prop := fun e s₁ => wpAny (model X.prog X.w) X.A (noteFrame e X.env) (fun _ s₂ => wpAny (model X.prog X.w) X.A (setFlight e none) (fun _ s₃ =>
    wpAny (model X.prog X.w) X.A (handleBy e X.env [.ExceptHandler (some (.Name x np)) (some n) (b0 :: suite) pos']) (SP X pn D) X.xe s₃) X.xe s₂) X.xe s₁
  have caught : ∀ u s1, XE (X.tr (X.pn ++ pn) seen) (wKept X.K c i ts D) u s1 → seen u s1 := fun u s1 xx => by
    obtain ⟨a, B, sI, pn2, σ1, H1, cls, d, rfl, J0, nb, up, sky, na, os, ag, yes, go⟩ := xx
    have J : Inv X pn σ1 H1 sI := J0.ofTry ok
    have sky1 : Sky B (X.env :: X.outer) a (Zc cls d) X.env.locals s1.heap := by
      rw [← stk]
      exact sky
    show wpAny (model X.prog X.w) X.A (noteFrame (.ref a) X.env) _ _ _
    refine Sky.land Zc.steady fr2 frm sky1 fun h3 fl3 up3 => ?_
    have offF : ∀ {h : Heap} {o : Obj} {vs : Array Value}, h.FunFrames B (X.env :: X.outer) → h.get? a = some o → o.data = .fields vs → a ∉ frs X.stack := fun {h o vs} ff e dd hm => by
      rw [stk] at hm
      obtain ⟨_, o2, e2, hnf⟩ := ff.mem hm
      rw [e] at e2
      cases e2
      exact hnf _ dd
    obtain ⟨oe3, vs3, he3, hz3, hd3⟩ := fl3.there
    have T3 := (J.landedE (s' := { s1 with heap := h3 }) nb fl3.1 (up.trans up3) os ag na fl3.2.1 (offF fl3.2.2.1 he3 hd3) he3 hz3 hd3).held a
    refine wpAny_handleBy_cons (codeAny_handlers_test ?_) (fun z => by cases z)
    have LT : PySem.W.Looks (model X.prog X.w) h3 (typeOf (.ref a)) cls := fun A2 Q2 E2 s2 k2 q2 => wpAny_typeOf_ref (k2 _ _ he3) (by rw [hz3.1]; exact q2)
    have LM := PySem.W.exm_one (M := model X.prog X.w) T3.kIn LT yes
    have look : ∀ {Q2 : Value → Shared → Prop} {E2 : Value → Shared → Prop}, Q2 c { s1 with heap := h3 } → wpAny (model X.prog X.w) (X.A.mark (some (.ref a))) (eval (.Name x np) X.env) Q2 E2 { s1 with heap := h3 } := fun {Q2 E2} q2 => by
      obtain ⟨g1, g2, g3 | ⟨g3, g4, g5⟩⟩ := hc
      · exact ld_glob (X := X.held a (X.pn ++ pn)) T3 g1 g3 q2 g2
      · exact ld_blt (X := X.held a (X.pn ++ pn)) T3 g1 g3 g4 q2 g5 g2
    refine look (LM.here (codeAny_handlers_suite_as ?_))
    refine HandSPX.lands_againZ fl3 fun h4 fl4 up4 => ?_
    obtain ⟨oe4, vs4, he4, hz4, hd4⟩ := fl4.there
    have T4 := (J.landedE (s' := { s1 with heap := h4 }) nb fl4.1 ((up.trans up3).trans up4) os ag na fl4.2.1 (offF fl4.2.2.1 he4 hd4) he4 hz4 hd4).held a
    refine store_ok (X := X.held a (X.pn ++ pn)) (v := .ref a) T4 hN hi (.inl hl) rfl (fun s5 T5 => ?_) (.inr hl)
    refine wpAny_mono ((hsu a (X.pn ++ pn)).run [] s5 _ _ _ T5 (go a na)) (fun fl s6 z => ?_) fun _ _ z => False.elim z
    have fin : ∀ {σ6 : St} {H6 : Hp} {Q6 : Shared → Prop}, Inv (X.held a (X.pn ++ pn)) [] σ6 H6 s6 → (∀ s7, Inv X pn (σ6.set i none) H6 s7 → Q6 s7) →
        wpAny (model X.prog X.w) X.A (do bindName X.env n .none; unbindBehindTheSuite X.env n pos') (fun _ s7 => Q6 s7) X.xe s6 := fun {σ6 H6 Q6} T6 q => gone_ok (T6.unheld ok) hN hi hl q
    match fl, z with
    | .next, ⟨σ6, H6, T6, q⟩ => exact fin T6 fun s7 J7 => ⟨_, _, J7, q⟩
    | .brk, ⟨σ6, H6, T6, q⟩ => exact fin T6 fun s7 J7 => ⟨_, _, J7, q⟩
    | .cont, ⟨σ6, H6, T6, q⟩ => exact fin T6 fun s7 J7 => ⟨_, _, J7, q⟩
    | .ret u, ⟨v, σ6, H6, T6, r6, q⟩ => exact fin T6 fun s7 J7 => ⟨_, _, _, J7, r6, q⟩
  refine wpAny_Try_except (wpAny_mono ((hb (wKept X.K c i ts D) (X.pn ++ pn) seen caught PassesOwn.looking).run [] s σ H D (I.toTry _) h) (fun fl s1 z => ?_) fun _ _ z => z)
  match fl, z with
  | .next, ⟨σ1, H1, J, q⟩ => exact wpAny_execs_nil ⟨σ1, H1, J.ofTry ok, q⟩
  | .brk, ⟨σ1, H1, J, q⟩ => exact ⟨σ1, H1, J.ofTry ok, q⟩
  | .cont, ⟨σ1, H1, J, q⟩ => exact ⟨σ1, H1, J.ofTry ok, q⟩
  | .ret u, ⟨v, σ1, H1, J, r, q⟩ => exact ⟨v, σ1, H1, J.ofTry ok, r, q⟩
end
end L2

set_option Elab.async false
set_option linter.all false
set_option maxRecDepth 100000
set_option maxHeartbeats 4000000
/-! Own layer: a kept error's class and its field. -/
namespace PySem.W
open PySem PySem.Spec PySem.Calls PyProof.Rows
section
variable {prog : Program} {w : World} {A : Around} {E : Value → Shared → Prop} {s : Shared} {K : Frag} {x D : Addr} {ox : Obj} {od : Option Obj}
/-- an error's own __class__, whatever its dict holds -/
theorem err_class {Q : Option Value → Shared → Prop} (fnd : findObj K D od "__class__" = some (.bind (.builtin "getset_descriptor.__get__") (.builtin "object.__class__")))
    (c1 : findIn K (.ref D) "__getattribute__" = some (some (.builtin "BaseException.__getattribute__"))) (c2 : findIn K (.ref D) "__getattr__" = some none) (c3 : subIn K (.ref D) (.type "BaseException") = some true)
    (c4 : mroIn K D (.type "object") = some true) (KX : K.In s.heap) (J : InstAt s.heap x ox D od) (fin : Q (some (.ref D)) { s with toks := s.toks + 1 }) : wpAny (model prog w) A (getAttr? (.ref x) "__class__") Q E s := by
  obtain ⟨hp, gn, dr, tk, os⟩ := s
  have l0 := J.type (M := model prog w)
  have l1 := looks_findIn (M := model prog w) KX c1
  have l2 := looks_findIn (M := model prog w) KX c2
  have l3 := looks_find (M := model prog w) KX J fnd
  have isExc : Looks (model prog w) hp (isInstance (.ref x) (.type "BaseException")) true := l0.andThen (looks_subIn KX c3)
  have b0 : (false && onTheHeap (Value.builtin "BaseException.__getattribute__")) = false := rfl
  have b1 : (Value.builtin "BaseException.__getattribute__" == Value.builtin "object.__getattribute__") = false := by decide +kernel
  have b2 : (onTheHeap (Value.ref D) && Value.builtin "BaseException.__getattribute__" == Value.builtin "object.__getattribute__") = false := by
    rw [b1]
    rfl
  unfold getAttr? getAttrBy? getAttrBy
  refine wpAny_bind (wpAny_mkText (wpAny_bind (wpAny_attempt (wpAny_holding (wpAny_bind (l0.at (wpAny_bind (l1.at ?_))))))))
  show wpAny _ _ (if (onTheHeap (Value.ref D) && Value.builtin "BaseException.__getattribute__" == Value.builtin "object.__getattribute__") = true then _ else _) _ _ _
  rw [b2, if_neg Bool.false_ne_true]
  unfold getAttrByItsOwn hookBefore
  refine wpAny_bind ?_
  rw [if_pos (show onTheHeap (Value.ref D) = true from rfl)]
  refine l2.at (wpAny_bind (wpAny_attempt (wpAny_holding ?_)))
  unfold callGetattribute
  rw [b0, if_neg Bool.false_ne_true]
  unfold boundAndCalled
  rw [PySem.F.excAttr_ValueError.ga.bind (.ref x)]
  refine wpAny_bind (wpAny_pure ?_)
  show wpAny _ _ (call (.builtin "BaseException.__getattribute__") [.ref x, .str "__class__" tk]) _ _ _
  refine wpAny_call (codeAny_call_builtin PySem.F.excAttr_ValueError.ga.plain PySem.F.entry_bexc_ga ?_)
  refine @check_slot (model prog w) _ _ ⟨hp, gn, dr, tk + 1, os⟩ "BaseException.__getattribute__" "BaseException" "__getattribute__" (.ref x) [.str "__class__" tk] [] _ (by decide +kernel) (by decide +kernel) isExc (PySem.F.args_bexc_ga (.ref x) (.str "__class__" tk)) ?_
  unfold Builtin.«object.__getattribute__»
  refine wpAny_bind (wpAny_of_eq (a := ((Value.ref x : Value), [Value.str "__class__" tk])) (by first | rfl | (simp only [slotArgs]; rfl)) ?_)
  refine wpAny_bind (wpAny_pure (wpAny_bind (l0.at (wpAny_bind (l3.at ?_)))))
  show wpAny _ _ (holding [Value.builtin "object.__class__"] (call (.builtin "getset_descriptor.__get__") [.builtin "object.__class__", .ref x, .ref D]) >>= ret) _ _ _
  refine wpAny_bind (wpAny_holding (wpAny_call (class_get (s := ⟨hp, gn, dr, tk + 1, os⟩) (ox := ox) (od := od) KX J c4 ?_)))
  refine wpAny_pure ?_
  show wpAny _ _ (handedOut (.ref D)) _ _ _
  rw [handedOut_of (v := .ref D) rfl]
  first
    | exact wpAny_pure (wpAny_pure fin)
    | exact wpAny_pure fin
    | exact wpAny_pure (wpAny_bind (wpAny_pure (wpAny_pure fin)))
end
end PySem.W
namespace L2
open ClX
open PySem PySem.Spec PyProof.Rows
section
variable {X : Cx} {pins : List (Addr × Obj)} {σ : St} {H : Hp} {s : Shared}
theorem err_find {K : PySem.W.Frag} {D : Addr} (T : ExcC K D) (od : Option Obj) : PySem.W.findObj K D od "__class__" = some (.bind (.builtin "getset_descriptor.__get__") (.builtin "object.__class__")) := by
  have hc : (PySem.W.clsIn K D).isSome = true := by
    obtain ⟨cd, h, _⟩ := PySem.W.any_some T.hd
    rw [h]
    rfl
  cases od with
  | none => exact PySem.W.findObj_dataN hc T.ha T.hn T.ht
  | some o => exact PySem.W.findObj_data hc T.ha T.hn T.ht
/-- what an error's object is -/
theorem err_inst (I : Inv X pins σ H s) {D a : Addr} {d : Option Addr} (h : H a = some (errO (.ref D) d a)) (hd : ∀ dd, d = some dd → ∃ fs, H dd = some (.xd fs)) : ∃ (ox : Obj) (od : Option Obj), PySem.W.InstAt s.heap a ox D od ∧
    ∀ dd fs, d = some dd → H dd = some (.xd fs) → ∀ f v, fs.lookup f = some v → ∃ o u, od = some o ∧ RelV v u ∧ PySem.W.lookIn f o = some (some u) := by
  obtain ⟨⟨oe, vs, e, z, f⟩, _⟩ := I.hok a _ h
  obtain ⟨oc, dd, da, sl⟩ := oe
  obtain ⟨z1, z2⟩ := z
  dsimp only at z1 z2 f
  subst z1 z2 f
  cases dd with
  | none => exact ⟨_, none, ⟨e, rfl, rfl, trivial⟩, fun _ _ q => by cases q⟩
  | some p =>
    obtain ⟨fs0, hp⟩ := hd p rfl
    obtain ⟨mA, hns, hr⟩ := (show ObjOk X.prog X.w H s.heap p (.xd fs0) from I.hok p _ hp)
    obtain ⟨od, ho, hl⟩ := lookIn_ns hns
    refine ⟨_, some od, ⟨e, rfl, rfl, ho⟩, fun q fs1 e1 e2 g v l => ?_⟩
    cases e1
    rw [hp] at e2
    cases e2
    obtain ⟨u, hu, ru⟩ := RelO.some_of (v := v) (o := mA g) (by rw [← l]; exact hr g)
    exact ⟨od, u, rfl, ru, by rw [hl, hu]⟩
/-- isinstance(e, C), isinstance(e, (C, ..)), e a kept error -/
def rIsErr (K : PySem.W.Frag) : List V → Hp → VK → Prop := fun xs H Q => ∃ (a D : Addr) (d : Option Addr) (c : V) (cv : Value) (b : Bool), xs = [.ref a, c] ∧ H a = some (errO (.ref D) d a) ∧ (∀ dd, d = some dd → ∃ fs, H dd = some (.xd fs)) ∧ ExcC K D ∧
  ClsV c cv ∧ PySem.W.kitOne K (.ref D) cv = some b ∧ Q (.bl b) H
def rIsErrT (K : PySem.W.Frag) : List V → Hp → VK → Prop := fun xs H Q => ∃ (a D tp : Addr) (d : Option Addr) (cs : List V) (us : List Value) (b : Bool), xs = [.ref a, .ref tp] ∧ H a = some (errO (.ref D) d a) ∧ (∀ dd, d = some dd → ∃ fs, H dd = some (.xd fs)) ∧ ExcC K D ∧
  H tp = some (.tup cs) ∧ Paired ClsV cs us ∧ PySem.W.kitAny K (.ref D) us = some b ∧ Q (.bl b) H
theorem err_kit {K : PySem.W.Frag} {a D : Addr} {ox : Obj} {od : Option Obj} (T : ExcC K D) : PySem.W.KitX K (.ref a) (.ref D) (fun h => PySem.W.InstAt h a ox D od) where
  ty := fun _ _ _ J => J.type
  it := fun _ _ KX _ => by
    obtain ⟨cd, hc, _⟩ := PySem.W.any_some T.hd
    unfold PySem.W.clsIn at hc
    split at hc
    · rename_i c2 d2 cd2 sl2 ho
      intro A2 Q2 E2 s2 k2 q2
      unfold isType loadHead
      exact wpAny_bind (wpAny_loadPart (k2 _ _ (KX _ _ ho)) (wpAny_pure q2))
    · cases hc
  ne := fun h tp dd its n sl KX htp => by
    obtain ⟨cd, hc, _⟩ := PySem.W.any_some T.hd
    refine Bool.eq_false_iff.mpr fun q => ?_
    obtain rfl : D = tp := Value.ref.inj (beq_iff_eq.mp q)
    unfold PySem.W.clsIn at hc
    split at hc
    · rename_i c2 d2 cd2 sl2 ho
      have z := (KX _ _ ho).symm.trans htp
      cases z
    · cases hc
  ca := fun KX J k => PySem.W.err_class (err_find T od) T.hg T.hk T.hs T.hm KX J k
theorem call_isErr : CallR X (.builtin "isinstance") (rIsErr X.K) := by
  intro pn s σ H xs us Q I r h
  obtain ⟨a, D, d, c, cv, b, rfl, ha, hd, T, hc, e, q⟩ := h
  obtain ⟨u1, u2, rfl, r1, r2⟩ := vals2 r
  cases r1
  have ec := hc.eq r2
  subst ec
  obtain ⟨ox, od, J, _⟩ := err_inst I ha hd
  exact PySem.W.kia_one (err_kit T) I.kIn J e (fun z => nomatch z) fun tk => ⟨.bl b, H, I.kept (t' := tk) fun _ _ z => z, rfl, q⟩
theorem call_isErrT : CallR X (.builtin "isinstance") (rIsErrT X.K) := by
  intro pn s σ H xs us Q I r h
  obtain ⟨a, D, tp, d, cs, ws, b, rfl, ha, hd, T, ht, hc, e, q⟩ := h
  obtain ⟨u1, u2, rfl, r1, r2⟩ := vals2 r
  cases r1
  cases r2
  obtain ⟨ox, od, J, _⟩ := err_inst I ha hd
  obtain ⟨_, its, r3, o, e1, e2, n, e3⟩ := (show ObjOk X.prog X.w H s.heap tp (.tup cs) from I.hok tp _ ht)
  have ew := ClsV.all hc r3
  subst ew
  obtain ⟨o1, o2, o3, o4⟩ := o
  dsimp only at e2 e3
  subst e2 e3
  exact PySem.W.kia_tup (err_kit T) I.kIn J e1 e (fun z => nomatch z) fun tk => ⟨.bl b, H, I.kept (t' := tk) fun _ _ z => z, rfl, q⟩
/-- e.f, e a kept error with a field -/
def tErrF (K : PySem.W.Frag) (f : Str) (te : TE) : TE := fun σ H Q => te σ H fun x H1 => ∃ (a D dd : Addr) (fs : List (Str × V)) (v : V), x = .ref a ∧ H1 a = some (errO (.ref D) (some dd) a) ∧ H1 dd = some (.xd fs) ∧ XfC K D ∧ PySem.W.findIn K (.ref D) f = some none ∧
  fs.lookup f = some v ∧ Q v H1
theorem pe_errF {e : Expr} {te : TE} {f : Str} {pos : Pos} (he : PE X e te) (hb : attributeBase e f X.env (eval e X.env) = eval e X.env := by rfl) : PE X (.Attribute e f pos) (tErrF X.K f te) := by
  refine ⟨fun pn s σ H Q I h => attr_of hb (thn (he.run pn s σ H _ I h) fun u s1 ⟨x, H1, I1, rx, a, D, dd, fs, v, ex, ha, hf, T, no, l, q⟩ => ?_)⟩
  subst ex
  cases rx
  obtain ⟨ox, od, J, g⟩ := err_inst I1 ha (fun d2 z => by cases z; exact ⟨fs, hf⟩)
  obtain ⟨o, u, rfl, ru, lk⟩ := g dd fs rfl hf f v l
  exact HandSPX.exc_get I1.kIn J T.ga T.gg T.exC (PySem.W.findObj_own T.hdC no rfl lk) (handed_of ru) ⟨v, H1, I1.tok _, ru, q⟩
end
end L2

set_option Elab.async false
set_option linter.all false
set_option maxRecDepth 100000
set_option maxHeartbeats 4000000
/-! Own layer: the set of a list of texts, its size. -/
namespace OwnSet
open PySem PySem.Spec PyProof.Rows
/-- the different ones among the first i, in the order in which they are met -/
def met (xs : List Str) : Nat → List Str
  | 0 => []
  | i + 1 => if (met xs i).any (· == xs.getD i Str.empty) then met xs i else met xs i ++ [xs.getD i Str.empty]
theorem met_le (xs : List Str) : ∀ i, (met xs i).length ≤ i
  | 0 => Nat.le_refl _
  | i + 1 => by
    have := met_le xs i
    show (if _ then _ else _ : List Str).length ≤ _
    split
    · omega
    · rw [List.length_append]
      simp
      omega
theorem met_any (xs : List Str) (i : Nat) (k : Str) : (met xs (i + 1)).any (· == k) = ((met xs i).any (· == k) || decide (k = xs.getD i Str.empty)) := by
  show (if _ then _ else _ : List Str).any _ = _
  split
  · rename_i c
    by_cases e : k = xs.getD i Str.empty
    · subst e
      rw [c]
      rfl
    · rw [decide_eq_false e, Bool.or_false]
  · rw [List.any_append]
    congr 1
    simp only [List.any_cons, List.any_nil, Bool.or_false]
    by_cases e : k = xs.getD i Str.empty
    · subst e
      simp
    · rw [decide_eq_false e]
      exact beq_eq_false_iff_ne.mpr fun q => e q.symm
theorem met_len (xs : List Str) (i : Nat) : (met xs (i + 1)).length = if (met xs i).any (· == xs.getD i Str.empty) = true then (met xs i).length else (met xs i).length + 1 := by
  show (if _ then _ else _ : List Str).length = _
  split <;> simp_all
theorem met_mem (xs : List Str) : ∀ i, i ≤ xs.length → ∀ y, y ∈ met xs i ↔ y ∈ xs.take i
  | 0, _, y => by simp [met]
  | i + 1, h, y => by
    have ih := met_mem xs i (by omega) y
    have hx : xs.getD i Str.empty = xs[i] := by simp [List.getD, List.getElem?_eq_getElem (show i < xs.length by omega)]
    have e2 : xs.take (i + 1) = xs.take i ++ [xs[i]] := by
      rw [List.take_add_one, List.getElem?_eq_getElem (show i < xs.length by omega)]
      rfl
    rw [e2, List.mem_append, ← ih]
    show y ∈ (if _ then _ else _ : List Str) ↔ _
    rw [hx]
    split
    · rename_i c
      obtain ⟨z, hz, ez⟩ := List.any_eq_true.mp c
      have ez : z = xs[i] := eq_of_beq ez
      constructor
      · exact .inl
      · rintro (q | q)
        · exact q
        · rw [List.mem_singleton.mp q, ← ez]
          exact hz
    · rw [List.mem_append]
theorem met_full (xs : List Str) : ∀ i, i ≤ xs.length → ((met xs i).length = i ↔ (xs.take i).Nodup)
  | 0, _ => by simp [met]
  | i + 1, h => by
    have ih := met_full xs i (by omega)
    have hm := met_mem xs i (by omega)
    have le := met_le xs i
    have hx : xs.getD i Str.empty = xs[i] := by simp [List.getD, List.getElem?_eq_getElem (show i < xs.length by omega)]
    have e2 : xs.take (i + 1) = xs.take i ++ [xs[i]] := by
      rw [List.take_add_one, List.getElem?_eq_getElem (show i < xs.length by omega)]
      rfl
    rw [e2, met_len, hx]
    have ea : (met xs i).any (· == xs[i]) = true ↔ xs[i] ∈ xs.take i := by
      rw [← hm]
      constructor
      · intro c
        obtain ⟨z, hz, ez⟩ := List.any_eq_true.mp c
        have ez : z = xs[i] := eq_of_beq ez
        rw [← ez]
        exact hz
      · intro c
        exact List.any_eq_true.mpr ⟨_, c, beq_self_eq_true _⟩
    rw [List.nodup_append]
    by_cases c : xs[i] ∈ xs.take i
    · rw [if_pos (ea.mpr c)]
      constructor
      · intro z
        omega
      · intro z
        exact absurd rfl (z.2.2 _ c _ (List.mem_singleton.mpr rfl))
    · rw [if_neg (fun z => c (ea.mp z))]
      constructor
      · intro z
        refine ⟨ih.mp (by omega), by simp, fun y hy z hz q => c ?_⟩
        rw [List.mem_singleton.mp hz] at q
        rw [← q]
        exact hy
      · intro z
        rw [ih.mpr z.1]
theorem met_all (xs : List Str) : decide ((met xs xs.length).length = xs.length) = decide xs.Nodup := by
  have h := met_full xs xs.length (Nat.le_refl _)
  rw [List.take_length] at h
  exact decide_eq_decide.mpr h
section
variable {prog : Program} {w : World} {A : Around} {R : Result → Shared → Prop} {It : Addr} {own wrt : List Addr} {G : Array GenState → Array GenState → Prop} {n : Nat} {P : Nat → Value → Prop} {St : Nat → Shared → Prop}
/-- the loop that fills a set with texts -/
theorem fill (W : WalksS prog w A.in1 It own wrt G n P St) (S : Addr) (free : S ∉ own) (xs : List Str) (each : ∀ i v, P i v → ∃ t, v = .str (xs.getD i Str.empty) t) (small : n + 1 < scanBound) :
    ∀ (k i : Nat) (s : Shared), n - i = k → i ≤ n → St i s → s.heap.SetOf (PySem.strKind prog w) S (fun y => (met xs i).any (· == y)) (met xs i).length →
      (∀ s2, Moved (S :: wrt) G s s2 → s2.heap.SetOf (PySem.strKind prog w) S (fun y => (met xs n).any (· == y)) (met xs n).length → R (.ok (.ret .none)) s2) →
      codeAny (model prog w) A (.builtin "set.update.loop" ⟨[.ref S, .ref It], []⟩) R s := by
  have freeW : S ∉ wrt := fun z => free (W.sub _ z)
  have more : ∀ b ∈ wrt, b ∈ S :: wrt := fun b z => List.mem_cons_of_mem _ z
  have kept : ∀ {s s2 : Shared} {i : Nat}, Moved wrt G s s2 → s.heap.SetOf (PySem.strKind prog w) S (fun y => (met xs i).any (· == y)) (met xs i).length →
      s2.heap.SetOf (PySem.strKind prog w) S (fun y => (met xs i).any (· == y)) (met xs i).length := fun mv ⟨o, es, ep, tb, ho, r⟩ => ⟨o, es, ep, tb, mv.heap S _ freeW ho, r⟩
  intro k
  induction k with
  | zero =>
    intro i s hk hi st hs fin
    obtain rfl : i = n := by omega
    refine codeAny_builtin PyProof.Rows.F.entry_set_update_loop ?_
    rw [Around.under_plainId PyProof.Rows.F.plain_set_update_loop _]
    show wpAny _ A.in1 (pyNext (.ref It) >>= _) _ _ s
    refine wpAny_bind (W.done s _ _ st fun s2 mv => ?_)
    show wpAny _ A.in1 (ret Value.none) _ _ s2
    exact wpAny_pure (fin s2 (mv.mono more) (kept mv hs))
  | succ k ih =>
    intro i s hk hi st hs fin
    have lt : i < n := by omega
    have le := met_le xs i
    refine codeAny_builtin PyProof.Rows.F.entry_set_update_loop ?_
    rw [Around.under_plainId PyProof.Rows.F.plain_set_update_loop _]
    show wpAny _ A.in1 (pyNext (.ref It) >>= _) _ _ s
    refine wpAny_bind (W.item i s _ _ lt st fun v s2 hv st2 mv => ?_)
    obtain ⟨t, rfl⟩ := each i v hv
    show wpAny _ A.in1 (holding [Value.str (xs.getD i Str.empty) t] (setAdd S (.str (xs.getD i Str.empty) t)) >>= _) _ _ s2
    refine wpAny_bind (wpAny_holding ?_)
    unfold setAdd
    refine wpAny_holding (wpAny_bind ((PySem.strKind prog w).pyHash (k := xs.getD i Str.empty) (strKind_is _ _ _ _) ?_))
    have hk2 := kept mv hs
    refine wpAny_setAddHashed_of (knd := PySem.strKind prog w) (s := { s2 with toks := s2.toks + 1 }) (strKind_is _ _ _ _) rfl hk2 (by omega) fun h2 sb hs2 => ?_
    have hs3 : h2.SetOf (PySem.strKind prog w) S (fun y => (met xs (i + 1)).any (· == y)) (met xs (i + 1)).length := SetOf_congr hs2 (fun y => (met_any xs i y).symm) (met_len xs i).symm
    have off : ∀ b, b ≠ S → h2.get? b = s2.heap.get? b := fun b z => sb.2 b z
    refine wpAny_pure ⟨plainId_quiet PyProof.Rows.F.plain_set_update_loop _, ih (i + 1) _ (by omega) lt (W.frame _ s2 _ _ st2 (Nat.le_succ _) fun b z o e => (off b fun q => free (q ▸ z)).trans e) hs3 fun s3 mv3 hs4 => ?_⟩
    exact fin s3 (Moved.trans W.gtrans ((mv.mono more).then_heap (Nat.le_succ _) fun b o z e => (off b fun q => z (q ▸ List.mem_cons_self)).trans e) mv3) hs4
end
section
variable {prog : Program} {w : World} {A : Around} {E : Value → Shared → Prop} {s : Shared}
abbrev newSet (led : Bool) : Obj := { cls := .type "set", dict := none, data := .set #[] 0 (.fresh 0 0 led) }
/-- set(xs), xs a list of texts -/
theorem set_of {l : Addr} {items : Array Value} {xs : List Str} {Q : Value → Shared → Prop} (calm : A.handled = none) (hl : s.heap.IsList l items) (hi : StrsAre items.toList xs) (small : items.size + 1 < scanBound)
    (fin : ∀ (h2 : Heap) (tk : Nat), h2.SetOf (PySem.strKind prog w) s.heap.objs.size (fun y => (met xs items.size).any (· == y)) (met xs items.size).length →
      (∀ b o, b < s.heap.objs.size → s.heap.get? b = some o → h2.get? b = some o) → Q (.ref s.heap.objs.size) { s with heap := h2, toks := tk }) :
    wpAny (model prog w) A (call (.type "set") [.ref l]) Q E s := by
  obtain ⟨c0, tl0, mro0⟩ := PySem.F.called_set.mro
  have made0 := PySem.F.called_set.made
  have sub0 := PySem.F.called_set.sub
  refine wpAny_call (codeAny_of_tree ?_)
  show wpAny _ _ (callAny (.type "set") _) _ _ _
  refine wpAny_pure ⟨Code.quiet_builtin _ (by decide +kernel), codeAny_builtin PySem.F.entry_type_call ?_⟩
  rw [Around.under_plain (weight_type_call_type "set" [.ref l] []) rfl]
  have notT := PySem.F.called_set.notType
  have canC := PySem.F.called_set.canCreate
  have chk := PySem.F.typeCall_set_1 (.ref l)
  repeat (any_goals (first | assumption | wp_step))
  refine codeAny_mono (code_set_new_1 (.ref l) (E := E) (Q₁ := fun ob s1 => ∃ led : Bool, ob = .ref s.heap.objs.size ∧ s1 = { s with heap := s.heap.push (newSet led) }) fun led => ⟨led, rfl, rfl⟩) fun r s1 z => ?_
  match r, z with
  | .error _, z => exact z
  | .ok .next, z => exact z.elim
  | .ok .brk, z => exact z.elim
  | .ok .cont, z => exact z.elim
  | .ok (.ret _), ⟨led, e1, e2⟩ =>
    subst e1 e2
    have at0 : (s.heap.push (newSet led)).get? s.heap.objs.size = some (newSet led) := Heap.get?_push_size _ rfl
    have ty0 : Shared.TypeIs { s with heap := s.heap.push (newSet led) } (.ref s.heap.objs.size) "set" := ⟨_, at0, rfl⟩
    have lk0 := PySem.F.called_set.init.lookup
    have bd0 := PySem.F.called_set.init.bind (.ref s.heap.objs.size)
    repeat (any_goals (first | assumption | wp_step))
    refine codeAny_mono (codeAny_call_builtin (R := wants (fun r s2 => r = .none ∧ ∃ h2 tk, s2 = { s with heap := h2, toks := tk } ∧ h2.SetOf (PySem.strKind prog w) s.heap.objs.size (fun y => (met xs items.size).any (· == y)) (met xs items.size).length ∧
      (∀ b o, b < s.heap.objs.size → s.heap.get? b = some o → h2.get? b = some o)) E) PySem.F.called_set.init.plain PySem.F.entry_set_init (check_set_init_1 ty0 ?_)) fun r2 s2 z2 => ?_
    · obtain ⟨ol, lol, lcl, nl, ldl⟩ := hl
      obtain ⟨oc, od, oda, osl⟩ := ol
      simp only at lcl ldl
      subst lcl
      subst ldl
      have at1 : (s.heap.push (newSet led)).get? l = some { cls := .type "list", dict := od, data := .seq items nl, slots := osl } := Heap.get?_push_of_some _ lol
      have q1 := PySem.F.sub_list_set
      have q2 := PySem.F.sub_list_frozenset
      have q3 : (Value.type "list" == Value.type "dict") = false := by decide
      have isl : (s.heap.push (newSet led)).IsList l items := ⟨_, at1, rfl, nl, rfl⟩
      unfold Builtin.«set.__init__» noKeywords Builtin.Frozenset.updateFrom
      generalize gpi : pyIter = PI
      wp_walk
      subst gpi
      refine wpAny_pyIter_list isl (wpAny_bind (wpAny_runValue ?_))
      have lltS : l < s.heap.objs.size := Heap.lt_size lol
      have calm3 : A.in1.in1.in1.handled = none := by simp [calm]
      have sz1 : (s.heap.push (newSet led)).objs.size = s.heap.objs.size + 1 := Heap.size_push _ _
      have lne : l ≠ (s.heap.push (newSet led)).objs.size := by
        rw [sz1]
        exact Nat.ne_of_lt (Nat.lt_succ_of_lt lltS)
      have frS : s.heap.objs.size ∉ [(s.heap.push (newSet led)).objs.size, l] := by
        rw [sz1]
        simp only [List.mem_cons, List.not_mem_nil, or_false, not_or]
        exact ⟨Nat.ne_of_lt (Nat.lt_succ_self _), Nat.ne_of_gt lltS⟩
      refine fill ((Walks.list calm3 _ l lne items).toS) s.heap.objs.size frS xs (fun i v hv => SS.strs_at hi i v (by rw [Array.getElem?_toList]; exact hv)) small (items.size - 0) 0 _ (by omega) (Nat.zero_le _)
        ⟨⟨_, Heap.get?_push_size _ rfl, rfl, rfl⟩, isl.push _⟩ ?_ ?_
      · have at2 : ((s.heap.push (newSet led)).push { cls := .type "list_iterator", data := .fields #[.ref l, .int 0 0] }).get? s.heap.objs.size = some (newSet led) := Heap.get?_push_of_some _ at0
        exact SetOf_congr ((setObjOf_fresh (knd := PySem.strKind prog w) led).setOf at2 (by unfold scanBound; omega)) (fun _ => rfl) rfl
      · intro s3 mv hs3
        obtain ⟨h3, g3, d3, t3, o3⟩ := s3
        have eg : g3 = s.gens := mv.gens
        have ed : d3 = s.drawn := mv.drawn
        have eo : o3 = s.os := mv.os
        subst eg
        subst ed
        subst eo
        show wpAny _ _ _ _ _ _
        refine wpAny_pure ?_
        show wpAny _ _ (ret Value.none) _ _ _
        refine wpAny_pure ⟨rfl, h3, t3, rfl, hs3, fun b o hb e => mv.heap b o ?_ (Heap.get?_push_of_some _ (Heap.get?_push_of_some _ e))⟩
        rw [sz1]
        simp only [List.mem_cons, List.not_mem_nil, or_false, not_or]
        exact ⟨Nat.ne_of_lt hb, Nat.ne_of_lt (Nat.lt_succ_of_lt hb)⟩
    · match r2, z2 with
      | .error _, z2 => exact z2
      | .ok .next, z2 => exact z2.elim
      | .ok .brk, z2 => exact z2.elim
      | .ok .cont, z2 => exact z2.elim
      | .ok (.ret _), ⟨e1, h2, tk, e2, a1, a2⟩ =>
        subst e1 e2
        repeat (any_goals (first | assumption | wp_step))
        exact fin _ _ a1 a2
end
end OwnSet
namespace L2
open PySem PySem.Spec PyProof.Rows
/-- len(set(xs)), xs a list of texts -/
def tLenSetS (K : PySem.W.Frag) (ta : TE) : TE := fun σ H Q => ta σ H fun x H1 => ∃ (l : Addr) (xs : List Str), x = .ref l ∧ SqL K H1 l (xs.map V.str) ∧ xs.length ≤ 4000 ∧ Q (.int ((OwnSet.met xs xs.length).length : Nat)) H1
theorem pe_lenSetS {X : Cx} {a : Expr} {ta : TE} {p p2 q pos : Pos} (hm : X.mg "len" = none) (hm2 : X.mg "set" = none) (ha : PE X a ta) (hc : X.calm = true := by rfl) (hg : Gl X "len" := by rfl) (hg2 : Gl X "set" := by rfl)
    (na : starEach [a] X.env = (false, eval a X.env) :: starEach [] X.env := by rfl) : PE X (.Call (.Name "len" p) [.Call (.Name "set" p2) [a] [] q] [] pos) (tLenSetS X.K ta) := by
  refine ⟨fun pn s σ H Q I h => Call_ (ld_blt I hg hm boot_len ?_)⟩
  refine callWith_builtin1 (args_cons (Call_ (ld_blt I hg2 hm2 boot_set ?_)) rfl) rfl rfl
  refine callWith_type1 (args_cons (thn (ha.run pn s σ H _ I h) fun v s1 ⟨x, H1, I1, r1, l, xs, ex, hq, hl, q1⟩ => args_nil ?_) na) na rfl
  subst ex
  cases r1
  obtain ⟨its, r, pl, hz⟩ := I1.list hq
  have sz : its.toArray.size = xs.length := by rw [List.size_toArray, ← r.length, List.length_map]
  refine OwnSet.set_of (xs := xs) (I1.ok.hd hc) pl.isList (by simpa using strsAre_of r) (by rw [sz]; unfold scanBound; omega) fun h2 tk hs keep => args_nil ?_
  rw [sz] at hs
  have le := OwnSet.met_le xs xs.length
  obtain ⟨o, es, ep, t, ho, hex, hd, _, _, _, hf, hn⟩ := hs
  have I2 : Inv X pn σ H1 { s1 with heap := h2, toks := tk } := I1.kept fun b o e => keep b o (Heap.lt_size e) e
  exact call_len_set ho hex hd hf (by rw [hn]; omega) ⟨.int _, H1, I2.tok _, ⟨_, by rw [hn]⟩, q1⟩
end L2

set_option Elab.async false
set_option linter.all false
set_option maxRecDepth 100000
set_option maxHeartbeats 4000000
/-! Own errors with one field (after the guide's own page on them). -/
namespace PySem
namespace ImpX
open PySem.W PySem.Calls PyProof.Rows PySem.HandSPX
/-! ### the text of __init__ -/
def iA (p1 p2 : Pos) : Arguments := { posonlyargs := [], args := [{ arg := "self", annotation := none, pos := p1 }, { arg := "reason", annotation := none, pos := p2 }], vararg := none, kwonlyargs := [], kw_defaults := [], kwarg := none, defaults := [] }
def iB (q1 q2 q3 q4 : Pos) : List Stmt := [.Assign [.Attribute (.Name "self" q1) "reason" q2] (.Name "reason" q3) q4]
def iS : Scope := { kind := .function, names := [(PySem.Str.ofString "self", .local), (PySem.Str.ofString "reason", .local)], isGenerator := false, isCoroutine := false, more := [] }
/-- what the written part says of Low, at C, and of its __init__, at fI -/
structure ImpTxt (K : Frag) (mg : Str → Option Value) (C fI : Addr) : Prop where
  gC : mg "Impossible" = some (.ref C)
  cls : ∃ nm q N bs bm sn sub ab col dd k0 k1 k2 k3 k5, K.lookup C = some (excClassObj nm q C N bs bm true sn sub ab col dd k0 k1 k2 k3 k5 "ValueError.__new__") ∧ refsVE bm = true
  sa : findIn K (.ref C) "__setattr__" = some (some (.builtin "object.__setattr__"))
  ga : findIn K (.ref C) "__getattribute__" = some (some (.builtin "BaseException.__getattribute__"))
  gg : findIn K (.ref C) "__getattr__" = some none
  noN : findIn K (.ref C) "reason" = some none
  iC : findIn K (.ref C) "__init__" = some (some (.ref fI))
  tC : typeIn K (.ref fI) = some (.type "function")
  kC : keepIn K (.ref C) = true
  exC : subIn K (.ref C) (.type "BaseException") = some true
  tyC : typeIn K (.ref C) = some (.type "type")
  hdC : hasDictIn K C = true
  te : exmOne K (.ref C) (.ref C) = some true
  fn : ∃ (oc : Value) (od : Option Addr) (doc pm : Value) (an : Option Addr) (cdv ct : Value) (osl : Array (Option Value)) (p1 p2 q1 q2 q3 q4 : Pos),
    K.lookup fI = some ⟨oc, od, .func (fnOf "__init__" "Impossible.__init__" (iA p1 p2) (iB q1 q2 q3 q4) iS .none .none doc pm an cdv ct), osl⟩ ∧ codeIn K cdv "Impossible.__init__" = true
theorem one_size (v : Value) : [v].length ≤ sizeLine := by
  rw [sizeLine_eq]
  exact (by decide : 1 ≤ 16777216)
theorem kept_but {K : Frag} {h h' : Heap} {x : Addr} (X : K.In h) (hx : K.lookup x = none) (k : ∀ b o, b ≠ x → h.get? b = some o → h'.get? b = some o) : K.In h' := fun a o e =>
  k a o (fun z => by rw [z, hx] at e; cases e) (X a o e)
theorem ldC {M : Model} {s : Shared} {name : Str} {scope : Scope} {L a : Addr} {cd : Value} {m : Str → Option Value} {x : Str} {pos : Pos} {v : Value} {Q : Value → Shared → Prop} {A : Around} {E : Value → Shared → Prop} (hn : s.heap.Ns L m) (hv : m x = some v) (h : Q v s)
    (hk : scope.kind = .function := by rfl) (hl : (envOfC name scope L a cd).kindOf x = some .local := by rfl) (hd : (x == ("__debug__" : Str)) = false := by decide) :
    wpAny M A (eval (.Name x pos) (envOfC name scope L a cd)) Q E s := wpAny_Name (wpAny_loadName_local hk hl hn hv h) hd
/-- what __init__ leaves of a fresh exception at x -/
structure InitEnd (h h' : Heap) (x C dx t1 : Addr) (v : Value) : Prop where
  keep : ∀ b o, b ≠ x → h.get? b = some o → h'.get? b = some o
  obj : h'.get? x = some { cls := .ref C, dict := some dx, data := .fields #[.ref t1, .none, .none, .none, .bool false, .none] }
  dbig : h.objs.size ≤ dx
  dne : dx ≠ x
  ns : h'.Ns1 dx (fun y => if y = "reason" then some v else none)
/-- a made Low -/
structure OwnMade (h h' : Heap) (e C d : Addr) (v : Value) : Prop where
  keep : ∀ b o, h.get? b = some o → h'.get? b = some o
  new : h.objs.size ≤ e
  obj : ∃ oe vs, h'.get? e = some oe ∧ oe.cls = .ref C ∧ oe.dict = some d ∧ oe.data = .fields vs ∧ vs[1]? = some .none
  dbig : h.objs.size ≤ d
  dne : d ≠ e
  ns : h'.Ns1 d (fun y => if y = "reason" then some v else none)
section
variable {prog : Program} {w : World} {A : Around} {E : Value → Shared → Prop} {R : Result → Shared → Prop} {s : Shared} {K : Frag} {mg : Str → Option Value} {C fI : Addr}
theorem imp_init (T : ImpTxt K mg C fI) {x t0 : Addr} {v : Value} (X : K.In s.heap) (hlim : s.heap.NoLimit) (hx : s.heap.get? x = some (excO C t0)) (hnx : K.lookup x = none) (hroom : A.depth < recursionLimit)
    (hq : ∀ h' tk dx, InitEnd s.heap h' x C dx t0 v → R (.ok (.ret .none)) { s with heap := h', toks := tk }) :
    codeAny (model prog w) A (.call (.ref fI) ⟨[.ref x, v], []⟩) R s := by
  obtain ⟨oc, od, doc, pm, an, cdv, ct, osl, p1, p2, q1, q2, q3, q4, ho, hcd⟩ := T.fn
  obtain ⟨nm, q, N, bs, bm, sn, sub, ab, col, dd, k0, k1, k2, k3, k5, hC, hbm⟩ := T.cls
  have hcl : clsIn K C = some { name := nm, bases := bs, mro := .ref C :: bm, ns := N, qualname := q, hasDict := true, slotNames := sn, subclasses := sub, abstract := ab, collection := col, hasDel := false } := by unfold clsIn; rw [hC] <;> rfl
  refine Att.call_fn (binds := [("self", .ref x), ("reason", v)]) X hlim ho hcd hroom (BindsTo.of_eq (by first | rfl | with_unfolding_all rfl)) (by first | rfl | decide | with_unfolding_all rfl) (fun s₁ IC => ?_) rfl rfl rfl
  obtain ⟨h₁, tk₁, rfl⟩ := IC.toInCall.same
  have k : ∀ b o, s.heap.get? b = some o → h₁.get? b = some o := IC.toInCall.keep
  have hn := IC.toInCall.ns
  have hxL : s.heap.objs.size ≠ x := Nat.ne_of_gt (Heap.lt_size hx)
  have X₁ : K.In h₁ := X.keeps k
  have hx₁ := k _ _ hx
  -- self.by = by
  show wpAny _ _ (execs _ _) _ _ _
  refine wpAny_execs_cons (plainObj_wpAny_Assign_Attribute ?_)
  refine ldC (v := v) hn (by first | rfl | with_unfolding_all rfl | kernel_rfl) (ldC (v := .ref x) hn (by first | rfl | with_unfolding_all rfl | kernel_rfl) ?_)
  refine set_plain X₁ (ox := excO C t0) (od := none) ⟨hx₁, rfl, rfl, trivial⟩ T.sa ?_
  refine exc_osa X₁ hx₁ hcl (show refsVE (.ref C :: bm) = true from hbm) rfl T.noN (fun h₃ tk₃ dx k₃ dn dne hx₃ hn₃ => ?_)
  show wpAny _ _ (execs _ _) _ _ _
  have z : s.heap.objs.size < h₁.objs.size := hn.lt
  exact wpAny_execs_nil (hq h₃ tk₃ dx ⟨fun b o hb e => k₃ b o hb (k b o e), hx₃, Nat.le_of_lt (Nat.lt_of_lt_of_le z dn), dne, hn₃⟩)
theorem imp_made (T : ImpTxt K mg C fI) {v : Value} (X : K.In s.heap) (hlim : s.heap.NoLimit) (hroom : A.depth + 1 < recursionLimit)
    (hq : ∀ h' tk e d, OwnMade s.heap h' e C d v → R (.ok (.ret (.ref e))) { s with heap := h', toks := tk }) :
    codeAny (model prog w) A (.call (.ref C) ⟨[v], []⟩) R s := by
  obtain ⟨nm, q, N, bs, bm, sn, sub, ab, col, dd, k0, k1, k2, k3, k5, hC, hbm⟩ := T.cls
  obtain ⟨hp, g, dr, tk, os⟩ := s
  have k : ∀ b o, hp.get? b = some o → ((hp.push (kdv_tup [v])).push (excO C hp.objs.size)).get? b = some o := fun b o e => Heap.get?_push_of_some _ (Heap.get?_push_of_some _ e)
  have hget : ((hp.push (kdv_tup [v])).push (excO C hp.objs.size)).get? (hp.objs.size + 1) = some (excO C hp.objs.size) := by heap_get
  have hnx : K.lookup (hp.objs.size + 1) = none := by
    cases e : K.lookup (hp.objs.size + 1) with
    | none => rfl
    | some o =>
      have z : hp.get? (hp.objs.size + 1) = some o := X _ _ e
      exact absurd (Nat.lt_of_succ_lt (Heap.lt_size z)) (Nat.lt_irrefl _)
  refine call_own F.excBase_ValueError (fun X => refsVE_contains X bm hbm) (X _ _ hC) (looks_findIn X T.iC) (fun self => bind_fn X self T.tC) (one_size v) ?_
  refine imp_init (s := ⟨(hp.push (kdv_tup [v])).push (excO C hp.objs.size), g, dr, tk, os⟩) T (X.keeps k) (hlim.keeps k) hget hnx ?_ fun h' tk' dx ⟨k', hx, dn, dne, hns⟩ => ?_
  · show A.depth + 1 < recursionLimit
    exact hroom
  · have old : ∀ b o, hp.get? b = some o → h'.get? b = some o := fun b o e => k' b o (Nat.ne_of_lt (Nat.lt_succ_of_lt (Heap.lt_size e))) (k b o e)
    have z : hp.objs.size + 1 + 1 ≤ dx := by
      first
        | (simpa only [Heap.size_push] using dn)
        | exact dn
        | (have q := dn; rw [Heap.size_push, Heap.size_push] at q; exact q)
    exact ⟨rfl, hq h' tk' (hp.objs.size + 1) dx ⟨old, Nat.le_succ _, ⟨_, _, hx, rfl, rfl, rfl, rfl⟩, Nat.le_trans (Nat.le_trans (Nat.le_succ _) (Nat.le_succ _)) z, dne, hns⟩⟩
end
end ImpX
end PySem
namespace L2
open PySem PySem.Spec PyProof.Rows
theorem relO_imp {v : V} {v' : Value} (r : RelV v v') (f : Str) : RelO (List.lookup f [(("reason" : Str), v)]) (if f = "reason" then some v' else none) := by
  by_cases hw : f = "reason"
  · subst hw
    rw [if_pos rfl]
    have q : List.lookup ("reason" : Str) [(("reason" : Str), v)] = some v := by simp [List.lookup]
    rw [q]
    exact r
  · rw [if_neg hw]
    have qw : (f == ("reason" : Str)) = false := by simpa using hw
    have q2 : List.lookup f [(("reason" : Str), v)] = none := by simp [List.lookup, qw]
    rw [q2]
    trivial
section
variable {X : Cx} {C fI : Addr}
/-- Low(e) -/
def tMkImp (C : Addr) (ta : TA) : St → Hp → XK → Prop := fun σ H Q => ta σ H fun vs H1 => ∃ v, vs = [v] ∧ ∀ d, H1 d = none → Q (.ref C) (some d) (upd H1 d (.xd [(("reason" : Str), v)]))
theorem pmk_imp {a : Expr} {ta : TA} {p pos : Pos} {k : Nat} (T : PySem.ImpX.ImpTxt X.K X.mg C fI) (hr : Room k X.A) (ha : PA X [a] ta) (hg : Gl X "Impossible" := by rfl)
    (he : starEach (a :: []) X.env = (false, eval a X.env) :: starEach [] X.env := by rfl) (hpl : (backTo pos (starEach [] X.env)).any (·.1) = false := by rfl) :
    PMk X (.Call (.Name "Impossible" p) [a] [] pos) (tMkImp C ta) := by
  intro pins s σ H Q I h
  refine wpAny_Call_Name_kw (ld_glob I hg T.gC ?_)
  refine PySem.W.callWith_K (h₀ := X.base) I.ok.mod.kin T.kC (thn (ha.run pos pins s σ H _ I h) fun us s1 hh => ?_) he hpl
  obtain ⟨vs, H1, I1, r1, v, ev, q1⟩ := hh
  subst ev
  refine ⟨I1.kIn, ?_⟩
  cases r1 with
  | cons rv rn =>
    rename_i v' us'
    cases rn
    show wpAny _ _ (call (.ref C) [v']) _ _ _
    have hlim := I1.nolimit
    obtain ⟨hp, g, dr, tk, os⟩ := s1
    refine wpAny_call (PySem.ImpX.imp_made T I1.kIn hlim (by have := hr.dp; omega) fun h' tk' e d M => ?_)
    show MkP X pins σ Q (.ref e) ⟨h', g, dr, tk', os⟩
    obtain ⟨oe, fv, hoe, hc, hd, hdat, h1⟩ := M.obj
    have hns := M.ns
    obtain ⟨G', g1, g2⟩ := restrict h' fun b => decide (b ≠ e)
    have gk : ∀ b, b ≠ e → G'.get? b = h'.get? b := fun b hb => g1 b (decide_eq_true hb)
    have ge : G'.get? e = none := g2 e (by simp)
    have old : ∀ b o, hp.get? b = some o → G'.get? b = some o := fun b o q => (gk b (Nat.ne_of_lt (Nat.lt_of_lt_of_le (Heap.lt_size q) M.new))).trans (M.keep b o q)
    have ob : ObjOk X.prog X.w (upd H1 d (.xd [(("reason" : Str), v)])) G' d (.xd [(("reason" : Str), v)]) :=
      ⟨_, hns.at (fun o q => (gk d M.dne).trans q), fun f => relO_imp rv f⟩
    have J : Inv X pins σ (upd H1 d (.xd [(("reason" : Str), v)])) ⟨G', g, dr, tk', os⟩ := I1.laid (t' := tk') old M.dbig ob
    refine ⟨e, oe, fv, ⟨G', g, dr, tk', os⟩, _, .ref C, some d, rfl, J, fun b o q => ?_, ge, hoe, ⟨hc, hd⟩, hdat, h1, ?_, rfl, I1.bare, raises_own T.exC T.tyC, q1 d (I1.hok.fresh M.dbig)⟩
    · by_cases hb : b = e
      · have q' : G'.get? b = some o := q
        rw [hb, ge] at q'; cases q'
      · exact (gk b hb).symm.trans q
    · rw [upd_ne (Ne.symm M.dne)]
      exact I1.hok.fresh M.new
/-- raise Low(e) -/
def tRaiseImp (C : Addr) (W : WX) (ta : TA) : TS := fun _ σ H => tMkImp C ta σ H fun cls d H' => W cls d σ H'
theorem ps_raiseImp {a : Expr} {ta : TA} {W : WX} {p pos pos2 : Pos} {k : Nat} (hc : X.calm = true) (T : PySem.ImpX.ImpTxt X.K X.mg C fI) (hr : Room k X.A) (tk : Takes X W) (ha : PA X [a] ta) (hg : Gl X "Impossible" := by rfl)
    (he : starEach (a :: []) X.env = (false, eval a X.env) :: starEach [] X.env := by rfl) (hpl : (backTo pos (starEach [] X.env)).any (·.1) = false := by rfl) :
    PS X (.Raise (some (.Call (.Name "Impossible" p) [a] [] pos)) none pos2) (tRaiseImp C W ta) := ps_raise hc tk (pmk_imp T hr ha hg he hpl)
end
end L2

set_option Elab.async false
set_option linter.all false
set_option maxRecDepth 100000
set_option maxHeartbeats 4000000
/-! Own errors with one field (after the guide's own page on them). -/
namespace PySem
namespace TxtX
open PySem.W PySem.Calls PyProof.Rows PySem.HandSPX
/-! ### the text of __init__ -/
def iA (p1 p2 : Pos) : Arguments := { posonlyargs := [], args := [{ arg := "self", annotation := none, pos := p1 }, { arg := "at", annotation := none, pos := p2 }], vararg := none, kwonlyargs := [], kw_defaults := [], kwarg := none, defaults := [] }
def iB (q1 q2 q3 q4 : Pos) : List Stmt := [.Assign [.Attribute (.Name "self" q1) "at" q2] (.Name "at" q3) q4]
def iS : Scope := { kind := .function, names := [(PySem.Str.ofString "self", .local), (PySem.Str.ofString "at", .local)], isGenerator := false, isCoroutine := false, more := [] }
/-- what the written part says of Low, at C, and of its __init__, at fI -/
structure TxtTxt (K : Frag) (mg : Str → Option Value) (C fI : Addr) : Prop where
  gC : mg "NoText" = some (.ref C)
  cls : ∃ nm q N bs bm sn sub ab col dd k0 k1 k2 k3 k5, K.lookup C = some (excClassObj nm q C N bs bm true sn sub ab col dd k0 k1 k2 k3 k5 "ValueError.__new__") ∧ refsVE bm = true
  sa : findIn K (.ref C) "__setattr__" = some (some (.builtin "object.__setattr__"))
  ga : findIn K (.ref C) "__getattribute__" = some (some (.builtin "BaseException.__getattribute__"))
  gg : findIn K (.ref C) "__getattr__" = some none
  noN : findIn K (.ref C) "at" = some none
  iC : findIn K (.ref C) "__init__" = some (some (.ref fI))
  tC : typeIn K (.ref fI) = some (.type "function")
  kC : keepIn K (.ref C) = true
  exC : subIn K (.ref C) (.type "BaseException") = some true
  tyC : typeIn K (.ref C) = some (.type "type")
  hdC : hasDictIn K C = true
  te : exmOne K (.ref C) (.ref C) = some true
  fn : ∃ (oc : Value) (od : Option Addr) (doc pm : Value) (an : Option Addr) (cdv ct : Value) (osl : Array (Option Value)) (p1 p2 q1 q2 q3 q4 : Pos),
    K.lookup fI = some ⟨oc, od, .func (fnOf "__init__" "NoText.__init__" (iA p1 p2) (iB q1 q2 q3 q4) iS .none .none doc pm an cdv ct), osl⟩ ∧ codeIn K cdv "NoText.__init__" = true
theorem one_size (v : Value) : [v].length ≤ sizeLine := by
  rw [sizeLine_eq]
  exact (by decide : 1 ≤ 16777216)
theorem kept_but {K : Frag} {h h' : Heap} {x : Addr} (X : K.In h) (hx : K.lookup x = none) (k : ∀ b o, b ≠ x → h.get? b = some o → h'.get? b = some o) : K.In h' := fun a o e =>
  k a o (fun z => by rw [z, hx] at e; cases e) (X a o e)
theorem ldC {M : Model} {s : Shared} {name : Str} {scope : Scope} {L a : Addr} {cd : Value} {m : Str → Option Value} {x : Str} {pos : Pos} {v : Value} {Q : Value → Shared → Prop} {A : Around} {E : Value → Shared → Prop} (hn : s.heap.Ns L m) (hv : m x = some v) (h : Q v s)
    (hk : scope.kind = .function := by rfl) (hl : (envOfC name scope L a cd).kindOf x = some .local := by rfl) (hd : (x == ("__debug__" : Str)) = false := by decide) :
    wpAny M A (eval (.Name x pos) (envOfC name scope L a cd)) Q E s := wpAny_Name (wpAny_loadName_local hk hl hn hv h) hd
/-- what __init__ leaves of a fresh exception at x -/
structure InitEnd (h h' : Heap) (x C dx t1 : Addr) (v : Value) : Prop where
  keep : ∀ b o, b ≠ x → h.get? b = some o → h'.get? b = some o
  obj : h'.get? x = some { cls := .ref C, dict := some dx, data := .fields #[.ref t1, .none, .none, .none, .bool false, .none] }
  dbig : h.objs.size ≤ dx
  dne : dx ≠ x
  ns : h'.Ns1 dx (fun y => if y = "at" then some v else none)
/-- a made Low -/
structure OwnMade (h h' : Heap) (e C d : Addr) (v : Value) : Prop where
  keep : ∀ b o, h.get? b = some o → h'.get? b = some o
  new : h.objs.size ≤ e
  obj : ∃ oe vs, h'.get? e = some oe ∧ oe.cls = .ref C ∧ oe.dict = some d ∧ oe.data = .fields vs ∧ vs[1]? = some .none
  dbig : h.objs.size ≤ d
  dne : d ≠ e
  ns : h'.Ns1 d (fun y => if y = "at" then some v else none)
section
variable {prog : Program} {w : World} {A : Around} {E : Value → Shared → Prop} {R : Result → Shared → Prop} {s : Shared} {K : Frag} {mg : Str → Option Value} {C fI : Addr}
theorem txt_init (T : TxtTxt K mg C fI) {x t0 : Addr} {v : Value} (X : K.In s.heap) (hlim : s.heap.NoLimit) (hx : s.heap.get? x = some (excO C t0)) (hnx : K.lookup x = none) (hroom : A.depth < recursionLimit)
    (hq : ∀ h' tk dx, InitEnd s.heap h' x C dx t0 v → R (.ok (.ret .none)) { s with heap := h', toks := tk }) :
    codeAny (model prog w) A (.call (.ref fI) ⟨[.ref x, v], []⟩) R s := by
  obtain ⟨oc, od, doc, pm, an, cdv, ct, osl, p1, p2, q1, q2, q3, q4, ho, hcd⟩ := T.fn
  obtain ⟨nm, q, N, bs, bm, sn, sub, ab, col, dd, k0, k1, k2, k3, k5, hC, hbm⟩ := T.cls
  have hcl : clsIn K C = some { name := nm, bases := bs, mro := .ref C :: bm, ns := N, qualname := q, hasDict := true, slotNames := sn, subclasses := sub, abstract := ab, collection := col, hasDel := false } := by unfold clsIn; rw [hC] <;> rfl
  refine Att.call_fn (binds := [("self", .ref x), ("at", v)]) X hlim ho hcd hroom (BindsTo.of_eq (by first | rfl | with_unfolding_all rfl)) (by first | rfl | decide | with_unfolding_all rfl) (fun s₁ IC => ?_) rfl rfl rfl
  obtain ⟨h₁, tk₁, rfl⟩ := IC.toInCall.same
  have k : ∀ b o, s.heap.get? b = some o → h₁.get? b = some o := IC.toInCall.keep
  have hn := IC.toInCall.ns
  have hxL : s.heap.objs.size ≠ x := Nat.ne_of_gt (Heap.lt_size hx)
  have X₁ : K.In h₁ := X.keeps k
  have hx₁ := k _ _ hx
  -- self.by = by
  show wpAny _ _ (execs _ _) _ _ _
  refine wpAny_execs_cons (plainObj_wpAny_Assign_Attribute ?_)
  refine ldC (v := v) hn (by first | rfl | with_unfolding_all rfl | kernel_rfl) (ldC (v := .ref x) hn (by first | rfl | with_unfolding_all rfl | kernel_rfl) ?_)
  refine set_plain X₁ (ox := excO C t0) (od := none) ⟨hx₁, rfl, rfl, trivial⟩ T.sa ?_
  refine exc_osa X₁ hx₁ hcl (show refsVE (.ref C :: bm) = true from hbm) rfl T.noN (fun h₃ tk₃ dx k₃ dn dne hx₃ hn₃ => ?_)
  show wpAny _ _ (execs _ _) _ _ _
  have z : s.heap.objs.size < h₁.objs.size := hn.lt
  exact wpAny_execs_nil (hq h₃ tk₃ dx ⟨fun b o hb e => k₃ b o hb (k b o e), hx₃, Nat.le_of_lt (Nat.lt_of_lt_of_le z dn), dne, hn₃⟩)
theorem txt_made (T : TxtTxt K mg C fI) {v : Value} (X : K.In s.heap) (hlim : s.heap.NoLimit) (hroom : A.depth + 1 < recursionLimit)
    (hq : ∀ h' tk e d, OwnMade s.heap h' e C d v → R (.ok (.ret (.ref e))) { s with heap := h', toks := tk }) :
    codeAny (model prog w) A (.call (.ref C) ⟨[v], []⟩) R s := by
  obtain ⟨nm, q, N, bs, bm, sn, sub, ab, col, dd, k0, k1, k2, k3, k5, hC, hbm⟩ := T.cls
  obtain ⟨hp, g, dr, tk, os⟩ := s
  have k : ∀ b o, hp.get? b = some o → ((hp.push (kdv_tup [v])).push (excO C hp.objs.size)).get? b = some o := fun b o e => Heap.get?_push_of_some _ (Heap.get?_push_of_some _ e)
  have hget : ((hp.push (kdv_tup [v])).push (excO C hp.objs.size)).get? (hp.objs.size + 1) = some (excO C hp.objs.size) := by heap_get
  have hnx : K.lookup (hp.objs.size + 1) = none := by
    cases e : K.lookup (hp.objs.size + 1) with
    | none => rfl
    | some o =>
      have z : hp.get? (hp.objs.size + 1) = some o := X _ _ e
      exact absurd (Nat.lt_of_succ_lt (Heap.lt_size z)) (Nat.lt_irrefl _)
  refine call_own F.excBase_ValueError (fun X => refsVE_contains X bm hbm) (X _ _ hC) (looks_findIn X T.iC) (fun self => bind_fn X self T.tC) (one_size v) ?_
  refine txt_init (s := ⟨(hp.push (kdv_tup [v])).push (excO C hp.objs.size), g, dr, tk, os⟩) T (X.keeps k) (hlim.keeps k) hget hnx ?_ fun h' tk' dx ⟨k', hx, dn, dne, hns⟩ => ?_
  · show A.depth + 1 < recursionLimit
    exact hroom
  · have old : ∀ b o, hp.get? b = some o → h'.get? b = some o := fun b o e => k' b o (Nat.ne_of_lt (Nat.lt_succ_of_lt (Heap.lt_size e))) (k b o e)
    have z : hp.objs.size + 1 + 1 ≤ dx := by
      first
        | (simpa only [Heap.size_push] using dn)
        | exact dn
        | (have q := dn; rw [Heap.size_push, Heap.size_push] at q; exact q)
    exact ⟨rfl, hq h' tk' (hp.objs.size + 1) dx ⟨old, Nat.le_succ _, ⟨_, _, hx, rfl, rfl, rfl, rfl⟩, Nat.le_trans (Nat.le_trans (Nat.le_succ _) (Nat.le_succ _)) z, dne, hns⟩⟩
end
end TxtX
end PySem
namespace L2
open PySem PySem.Spec PyProof.Rows
theorem relO_txt {v : V} {v' : Value} (r : RelV v v') (f : Str) : RelO (List.lookup f [(("at" : Str), v)]) (if f = "at" then some v' else none) := by
  by_cases hw : f = "at"
  · subst hw
    rw [if_pos rfl]
    have q : List.lookup ("at" : Str) [(("at" : Str), v)] = some v := by simp [List.lookup]
    rw [q]
    exact r
  · rw [if_neg hw]
    have qw : (f == ("at" : Str)) = false := by simpa using hw
    have q2 : List.lookup f [(("at" : Str), v)] = none := by simp [List.lookup, qw]
    rw [q2]
    trivial
section
variable {X : Cx} {C fI : Addr}
/-- Low(e) -/
def tMkTxt (C : Addr) (ta : TA) : St → Hp → XK → Prop := fun σ H Q => ta σ H fun vs H1 => ∃ v, vs = [v] ∧ ∀ d, H1 d = none → Q (.ref C) (some d) (upd H1 d (.xd [(("at" : Str), v)]))
theorem pmk_txt {a : Expr} {ta : TA} {p pos : Pos} {k : Nat} (T : PySem.TxtX.TxtTxt X.K X.mg C fI) (hr : Room k X.A) (ha : PA X [a] ta) (hg : Gl X "NoText" := by rfl)
    (he : starEach (a :: []) X.env = (false, eval a X.env) :: starEach [] X.env := by rfl) (hpl : (backTo pos (starEach [] X.env)).any (·.1) = false := by rfl) :
    PMk X (.Call (.Name "NoText" p) [a] [] pos) (tMkTxt C ta) := by
  intro pins s σ H Q I h
  refine wpAny_Call_Name_kw (ld_glob I hg T.gC ?_)
  refine PySem.W.callWith_K (h₀ := X.base) I.ok.mod.kin T.kC (thn (ha.run pos pins s σ H _ I h) fun us s1 hh => ?_) he hpl
  obtain ⟨vs, H1, I1, r1, v, ev, q1⟩ := hh
  subst ev
  refine ⟨I1.kIn, ?_⟩
  cases r1 with
  | cons rv rn =>
    rename_i v' us'
    cases rn
    show wpAny _ _ (call (.ref C) [v']) _ _ _
    have hlim := I1.nolimit
    obtain ⟨hp, g, dr, tk, os⟩ := s1
    refine wpAny_call (PySem.TxtX.txt_made T I1.kIn hlim (by have := hr.dp; omega) fun h' tk' e d M => ?_)
    show MkP X pins σ Q (.ref e) ⟨h', g, dr, tk', os⟩
    obtain ⟨oe, fv, hoe, hc, hd, hdat, h1⟩ := M.obj
    have hns := M.ns
    obtain ⟨G', g1, g2⟩ := restrict h' fun b => decide (b ≠ e)
    have gk : ∀ b, b ≠ e → G'.get? b = h'.get? b := fun b hb => g1 b (decide_eq_true hb)
    have ge : G'.get? e = none := g2 e (by simp)
    have old : ∀ b o, hp.get? b = some o → G'.get? b = some o := fun b o q => (gk b (Nat.ne_of_lt (Nat.lt_of_lt_of_le (Heap.lt_size q) M.new))).trans (M.keep b o q)
    have ob : ObjOk X.prog X.w (upd H1 d (.xd [(("at" : Str), v)])) G' d (.xd [(("at" : Str), v)]) :=
      ⟨_, hns.at (fun o q => (gk d M.dne).trans q), fun f => relO_txt rv f⟩
    have J : Inv X pins σ (upd H1 d (.xd [(("at" : Str), v)])) ⟨G', g, dr, tk', os⟩ := I1.laid (t' := tk') old M.dbig ob
    refine ⟨e, oe, fv, ⟨G', g, dr, tk', os⟩, _, .ref C, some d, rfl, J, fun b o q => ?_, ge, hoe, ⟨hc, hd⟩, hdat, h1, ?_, rfl, I1.bare, raises_own T.exC T.tyC, q1 d (I1.hok.fresh M.dbig)⟩
    · by_cases hb : b = e
      · have q' : G'.get? b = some o := q
        rw [hb, ge] at q'; cases q'
      · exact (gk b hb).symm.trans q
    · rw [upd_ne (Ne.symm M.dne)]
      exact I1.hok.fresh M.new
/-- raise Low(e) -/
def tRaiseTxt (C : Addr) (W : WX) (ta : TA) : TS := fun _ σ H => tMkTxt C ta σ H fun cls d H' => W cls d σ H'
theorem ps_raiseTxt {a : Expr} {ta : TA} {W : WX} {p pos pos2 : Pos} {k : Nat} (hc : X.calm = true) (T : PySem.TxtX.TxtTxt X.K X.mg C fI) (hr : Room k X.A) (tk : Takes X W) (ha : PA X [a] ta) (hg : Gl X "NoText" := by rfl)
    (he : starEach (a :: []) X.env = (false, eval a X.env) :: starEach [] X.env := by rfl) (hpl : (backTo pos (starEach [] X.env)).any (·.1) = false := by rfl) :
    PS X (.Raise (some (.Call (.Name "NoText" p) [a] [] pos)) none pos2) (tRaiseTxt C W ta) := ps_raise hc tk (pmk_txt T hr ha hg he hpl)
end
end L2

set_option Elab.async false
set_option linter.all false
set_option maxRecDepth 100000
set_option maxHeartbeats 4000000
/-! Own layer: defs that may raise, and their calls. -/
namespace L2
open ClX
open PySem PySem.Spec PyProof.Rows
structure OkX (P : Program) (w : World) (K : PySem.W.Frag) (mg : Str → Option Value) (base : Heap) (k : Nat) (f : Addr) (ps : List Str) (sp : Sp) : Prop where
  ex : ∃ fd, FnOk P w K mg base (L2.CX P w) k f fd ps sp ∧ Binds K fd ps []
  kp : PySem.W.keepIn K (.ref f) = true
/-- the same by one keyword (its last parameter) -/
structure OkXK (P : Program) (w : World) (K : PySem.W.Frag) (mg : Str → Option Value) (base : Heap) (k : Nat) (f : Addr) (ps : List Str) (kw : Str) (sp : Sp) : Prop where
  ex : ∃ fd, FnOk P w K mg base (L2.CX P w) k f fd ps sp ∧ KBinds K fd ps [kw] (fun us ws => glue1 us ws) (fun vs zs => glue1 vs zs)
section
variable {P : Program} {w : World} {K : PySem.W.Frag} {mg : Str → Option Value} {base : Heap}
theorem FnT.okX {x qual : Str} {st : Stmt} {f : Addr} {N ps : List Str} {k : Nat} {sp : Sp} (h : FnT K x qual st f) (S : FnScope N ps (defScope st)) (hb : BindsAll st x qual ps)
    (len : ∀ vs H Q E, sp vs H Q E → vs.length = ps.length)
    (body : ∀ (cdv : Value) (A : Around) (outer : List Env) (s : Shared) (H : Hp) (vs : List V) (Q : VK) (E : XK), Room k (A.deeper (envOfC qual (defScope st) s.heap.objs.size f cdv)) → sp vs H Q E →
      ∃ t, PSs (cxOf (L2.CX P w) P w K mg base N qual (defScope st) f cdv A outer s H E) (defBody st) t ∧ t { nx := fun _ H' => Q .non H', rt := Q } (start N vs) H) :
    OkX P w K mg base (k + 1) f ps sp := by
  obtain ⟨fd, F⟩ := h.ex
  exact ⟨⟨fd, F.okX S len body, F.binds hb⟩, F.kp⟩
theorem FnT.okXK {x qual kw p0 : Str} {st : Stmt} {f : Addr} {N : List Str} {k : Nat} {sp : Sp} (h : FnT K x qual st f) (S : FnScope N [p0, kw] (defScope st))
    (hb : ∀ (kV doc pm : Value) (an : Option Addr) (cdv ct u v : Value), bindArgs (PySem.W.fnOf x qual (defArgs st) (defBody st) (defScope st) .none kV doc pm an cdv ct) ⟨[u], [(kw, v)]⟩ = pure [(p0, u), (kw, v)])
    (len : ∀ vs H Q E, sp vs H Q E → vs.length = 2)
    (body : ∀ (cdv : Value) (A : Around) (outer : List Env) (s : Shared) (H : Hp) (vs : List V) (Q : VK) (E : XK), Room k (A.deeper (envOfC qual (defScope st) s.heap.objs.size f cdv)) → sp vs H Q E →
      ∃ t, PSs (cxOf (L2.CX P w) P w K mg base N qual (defScope st) f cdv A outer s H E) (defBody st) t ∧ t { nx := fun _ H' => Q .non H', rt := Q } (start N vs) H) :
    OkXK P w K mg base (k + 1) f [p0, kw] kw sp := by
  obtain ⟨fd, F⟩ := h.ex
  refine ⟨fd, F.okX S len body, F.kbinds 1 [kw] glue1 (fun us ws hl => ?_) (fun r q => ?_) fun kV doc pm an cdv ct us ws h1 h2 => ?_⟩
  · unfold glue1 at hl
    split at hl
    · assumption
    · cases hl
  · unfold glue1
    rw [r.length, q.length]
    split
    · exact r.append q
    · exact .nil
  · match us, h1, ws, h2 with
    | [u], _, [v], _ => exact hb kV doc pm an cdv ct u v
end
/-! ### who takes what is raised: nobody (it is not raised), the def's own callers, a try around -/
section
variable {X : Cx}
theorem atL {σ : St} : PassesAt (L2.CX X.prog X.w) X σ E0 := fun pins H s e s' I c => passL pins σ H s e s' I c
theorem atE {E : XK} (tk : Takes X (fun cls d _ H => E cls d H)) {σ : St} : PassesAt (L2.CX X.prog X.w) X σ E := fun _ _ _ e s' I c => tk e s' (XE.of_call I (fun _ _ _ h => h) c)
end
section
variable {X : Cx} {CX : CXT} {k : Nat} {f C : Addr} {fd : FuncData} {ps : List Str} {kw : Str} {sp : Sp} {E : St → XK} {x m : Str} {p pos apos : Pos} {e o : Expr} {es : List Expr} {kws : List Keyword} {ta : TE} {t tk : TA}
theorem px_call (G : OkX X.prog X.w X.K X.mg X.base k f ps sp) (hx : ∀ σ, PassesAt (L2.CX X.prog X.w) X σ (E σ)) (hr : Room k X.A) (hm : X.mg x = some (.ref f)) (ha : PA X (e :: es) t) (hg : Gl X x := by rfl)
    (hdb : (x == ("__debug__" : Str)) = false := by decide) (he : starEach (e :: es) X.env = (false, eval e X.env) :: starEach es X.env := by rfl) (hpl : (backTo pos (starEach es X.env)).any (·.1) = false := by rfl) :
    PE X (.Call (.Name x p) (e :: es) [] pos) (tCallS sp E t) := by
  obtain ⟨⟨fd, F, b⟩, kp⟩ := G
  exact pe_callS F hr hg hm kp b hx ha hdb he hpl
/-- a method's call by positions; what it raises is wished for at the slots -/
def oMeth (C : Addr) (m : Str) (sp : Sp) (E : St → XK) (ta : TE) (t : TA) : TE := fun σ H Q => ta σ H fun x H1 => ∃ a dx fs, x = .ref a ∧ H1 a = some (.ins C dx fs) ∧ fs.lookup m = none ∧ t σ H1 fun vs H2 => sp (x :: vs) H2 Q (E σ)
def oMethK (C : Addr) (m : Str) (sp : Sp) (E : St → XK) (ta : TE) (tk : TA) : TE := fun σ H Q => ta σ H fun x H1 => ∃ a dx fs, x = .ref a ∧ H1 a = some (.ins C dx fs) ∧ fs.lookup m = none ∧ tk σ H1 fun zs H2 => sp (glue1 [x] zs) H2 Q (E σ)
theorem px_meth {pl : Sem Bool} (c : Cls X.K C) (hm : Meth X.K C m f) (G : OkX X.prog X.w X.K X.mg X.base k f ps sp) (hx : ∀ σ, PassesAt (L2.CX X.prog X.w) X σ (E σ)) (hr : Room k X.A) (he : PE X o ta) (ha : PA X (e :: es) t)
    (hst : starEach (e :: es) X.env = (false, eval e X.env) :: starEach es X.env := by rfl) (hpl : (backTo pos (starEach es X.env)).any (·.1) = false := by rfl)
    (ht : eval (.Call (.Attribute o m apos) (e :: es) [] pos) X.env = (do
      let ov ← eval o X.env
      standAt apos.atName
      let (f, first) ← holding [ov] (getMethod ov m pl)
      callWith pos f first (backTo pos (starEach (e :: es) X.env)) (backToKw pos (keywordEach [] X.env))) := by rfl) :
    PE X (.Call (.Attribute o m apos) (e :: es) [] pos) (oMeth C m sp E ta t) := by
  obtain ⟨⟨fd, F, b⟩, kp⟩ := G
  refine ⟨fun pn s σ H Q I h => PySem.W.methodCall_KW (pl := pl) (thn (he.run pn s σ H _ I h) fun u s1 ⟨x, H1, I1, rx, a, dx, fs, ex, ea, l, q⟩ => ?_) ht⟩
  subst ex
  cases rx
  refine getmeth_ok I1 ea c hm l (PySem.W.callWith_K (first := [.ref a]) (h₀ := X.base) I.ok.mod.kin hm.kp (thn (ha.run pos pn s1 σ H1 _ I1 q) fun us s2 ⟨vs, H2, I2, r, q2⟩ => ⟨I2.kIn, ?_⟩) hst hpl)
  exact run_fnS (us := .ref a :: us) (vs := .ref a :: vs) F hr b (hx σ) I2 (.cons rfl r) q2
theorem px_methK {pl : Sem Bool} (c : Cls X.K C) (hm : Meth X.K C m f) (G : OkXK X.prog X.w X.K X.mg X.base k f ps kw sp) (hx : ∀ σ, PassesAt (L2.CX X.prog X.w) X σ (E σ)) (hr : Room k X.A) (he : PE X o ta)
    (hkw : PK X kws tk) (hall : (backToKw pos (keywordEach kws X.env)).all (·.1.isSome) = true := by rfl) (hks : (backToKw pos (keywordEach kws X.env)).filterMap (·.1) = [kw] := by rfl)
    (hpl : ((backTo pos (starEach [] X.env)).any (·.1) || (backToKw pos (keywordEach kws X.env)).any (·.1.isNone)) = false := by rfl)
    (ht : eval (.Call (.Attribute o m apos) [] kws pos) X.env = (do
      let ov ← eval o X.env
      standAt apos.atName
      let (f, first) ← holding [ov] (getMethod ov m pl)
      callWith pos f first (backTo pos (starEach [] X.env)) (backToKw pos (keywordEach kws X.env))) := by rfl) :
    PE X (.Call (.Attribute o m apos) [] kws pos) (oMethK C m sp E ta tk) := by
  obtain ⟨fd, F, b⟩ := G.ex
  refine ⟨fun pn s σ H Q I h => PySem.W.methodCall_KW (pl := pl) (thn (he.run pn s σ H _ I h) fun u s1 ⟨x, H1, I1, rx, a, dx, fs, ex, ea, l, q⟩ => ?_) ht⟩
  subst ex
  cases rx
  refine getmeth_ok I1 ea c hm l (PySem.W.callWith_KW0 (first := [.ref a]) (h₀ := X.base) I.ok.mod.kin hm.kp hall ?_ hpl)
  refine thn (hkw.run pos pn s1 σ H1 _ I1 q) fun ws s2 ⟨zs, H2, I2, rz, q2⟩ => ⟨I2.kIn, ?_⟩
  rw [hks]
  have rv : Vals (glue1 [V.ref a] zs) (glue1 [Value.ref a] ws) := b.rel (.cons rfl .nil) rz
  have hl : (glue1 [Value.ref a] ws).length = ps.length := by
    rw [← rv.length]
    exact F.len _ _ _ _ q2
  refine wpAny_call (codeAny_mono (F.run X.A X.stack s2 H2 ⟨[.ref a], [kw].zip ws⟩ (glue1 [Value.ref a] ws) (glue1 [V.ref a] zs) Q (E σ) hr I2.env0 (b.to s2 [.ref a] ws I2.kIn hl) rv q2) fun r s3 z => ?_)
  match r, z with
  | .error e2, z => exact hx σ pn H2 s2 e2 s3 I2 z
  | .ok (.ret u2), z => exact I2.after z
  | .ok .next, z => exact z.elim
  | .ok .brk, z => exact z.elim
  | .ok .cont, z => exact z.elim
end
/-! ### the classes of errors -/
structure ErrT (K : PySem.W.Frag) (C : Addr) : Prop where
  xP : PySem.W.excIn K C [.type "ValueError", .type "Exception", .type "BaseException", .type "object"] "ValueError.__new__" = true
  kp : PySem.W.keepIn K (.ref C) = true
  bP : PySem.W.subIn K (.ref C) (.type "BaseException") = some true
  tP : PySem.W.typeIn K (.ref C) = some (.type "type")
/-- isinstance's answer from a subclass's -/
theorem kit_ref {K : PySem.W.Frag} {t : Value} {C : Addr} {b : Bool} (hi : PySem.W.isClsIn K C = true) (ht : PySem.W.typeIn K (.ref C) = some (.type "type")) (hs : PySem.W.subIn K t (.ref C) = some b) (hn : t = .ref C → b = true) : PySem.W.kitOne K t (.ref C) = some b := by
  unfold PySem.W.kitOne
  by_cases e : t = .ref C
  · rw [if_pos (by rw [e]; exact beq_self_eq_true _), hn e]
  · rw [if_neg (fun z => e (eq_of_beq z))]
    have z : ((PySem.W.clsIn K C).isSome && PySem.W.typeIn K (.ref C) == some (.type "type")) = true := by
      have h2 : (PySem.W.clsIn K C).isSome = true := hi
      rw [h2, ht]
      rfl
    show (if ((PySem.W.clsIn K C).isSome && PySem.W.typeIn K (.ref C) == some (.type "type")) = true then PySem.W.subIn K t (.ref C) else none) = some b
    rw [if_pos z]
    exact hs
theorem kit_bty {K : PySem.W.Frag} {D : Addr} {T : String} {b : Bool} (hm : PySem.W.kitMeta T = true) (hs : PySem.W.subIn K (.ref D) (.type T) = some b) : PySem.W.kitOne K (.ref D) (.type T) = some b := by
  unfold PySem.W.kitOne
  rw [if_neg (fun z => by cases (eq_of_beq z))]
  show (if PySem.W.kitMeta T = true then PySem.W.subIn K (.ref D) (.type T) else none) = some b
  rw [if_pos hm]
  exact hs
end L2

/-! Own layer: comprehensions whose inner words are found by the terms. -/
namespace L2
open ClX
open PySem PySem.Spec PyProof.Rows
section
variable {X : Cx}
theorem pe_lcD {elt tg iter : Expr} {ifs : List Expr} {scope : Scope} {own : List (Str × Nat)} {pos : Pos} {wi : TI} {g' : Shared → Hp → Addr → List (Str × Addr) → List Addr → TG} {tt' : Shared → Hp → Addr → List (Str × Addr) → List Addr → TT}
    {te' : Shared → Hp → Addr → List (Str × Addr) → List Addr → TE} (hc : X.calm = true) (hN : X.N.Nodup) (hi : PI X tg iter wi) (ok : BlkOk X.N X.env.scope scope own)
    (hg : ∀ (s : Shared) (H : Hp) (C : Addr) (cl : List (Str × Addr)) (fp : List Addr), PG (X.blk s H scope (compEnvC scope cl C X.env) fp) tg (g' s H C cl fp))
    (ht : ∀ (s : Shared) (H : Hp) (C : Addr) (cl : List (Str × Addr)) (fp : List Addr), PTs (X.blk s H scope (compEnvC scope cl C X.env) fp) ifs (tt' s H C cl fp))
    (he : ∀ (s : Shared) (H : Hp) (C : Addr) (cl : List (Str × Addr)) (fp : List Addr), PE (X.blk s H scope (compEnvC scope cl C X.env) fp) elt (te' s H C cl fp))
    (eg : ∀ s H C cl fp, g' s H C cl fp = g' X.s_0 X.H_0 0 [] [] := by intro _ _ _ _ _; rfl) (et : ∀ s H C cl fp, tt' s H C cl fp = tt' X.s_0 X.H_0 0 [] [] := by intro _ _ _ _ _; rfl)
    (ee : ∀ s H C cl fp, te' s H C cl fp = te' X.s_0 X.H_0 0 [] [] := by intro _ _ _ _ _; rfl) (hs : ∀ x, foldedSetIterable iter X.env x = pure x := by intro _; rfl) :
    PE X (.ListComp elt [⟨tg, iter, ifs, 0⟩] scope pos) (tLc wi (g' X.s_0 X.H_0 0 [] []) (tt' X.s_0 X.H_0 0 [] []) (te' X.s_0 X.H_0 0 [] []) (own.map (·.2))) :=
  pe_lc hc hN hi ok (fun s H C cl fp => eg s H C cl fp ▸ hg s H C cl fp) (fun s H C cl fp => et s H C cl fp ▸ ht s H C cl fp) (fun s H C cl fp => ee s H C cl fp ▸ he s H C cl fp) hs
theorem ps_setLcD {i : Nat} {y : Str} {py : Pos} {elt tg iter : Expr} {ifs : List Expr} {scope : Scope} {own : List (Str × Nat)} {pos spos : Pos} {wi : TI} {g' : Shared → Hp → Addr → List (Str × Addr) → List Addr → TG} {tt' : Shared → Hp → Addr → List (Str × Addr) → List Addr → TT}
    {te' : Shared → Hp → Addr → List (Str × Addr) → List Addr → TE} (hc : X.calm = true) (hN : X.N.Nodup) (hy : X.N[i]? = some y) (hyl : X.env.scope.names.lookup y = some .local)
    (hsw : swapsWith (.ListComp elt [⟨tg, iter, ifs, 0⟩] scope pos) (some (.Name y py)) spos.line X.env = pure true) (hi : PI X tg iter wi) (ok : BlkOk X.N X.env.scope scope own)
    (hg : ∀ (s : Shared) (H : Hp) (C : Addr) (cl : List (Str × Addr)) (fp : List Addr), PG (X.blk s H scope (compEnvC scope cl C X.env) fp) tg (g' s H C cl fp))
    (ht : ∀ (s : Shared) (H : Hp) (C : Addr) (cl : List (Str × Addr)) (fp : List Addr), PTs (X.blk s H scope (compEnvC scope cl C X.env) fp) ifs (tt' s H C cl fp))
    (he : ∀ (s : Shared) (H : Hp) (C : Addr) (cl : List (Str × Addr)) (fp : List Addr), PE (X.blk s H scope (compEnvC scope cl C X.env) fp) elt (te' s H C cl fp))
    (eg : ∀ s H C cl fp, g' s H C cl fp = g' X.s_0 X.H_0 0 [] [] := by intro _ _ _ _ _; rfl) (et : ∀ s H C cl fp, tt' s H C cl fp = tt' X.s_0 X.H_0 0 [] [] := by intro _ _ _ _ _; rfl)
    (ee : ∀ s H C cl fp, te' s H C cl fp = te' X.s_0 X.H_0 0 [] [] := by intro _ _ _ _ _; rfl) (hs : ∀ x, foldedSetIterable iter X.env x = pure x := by intro _; rfl) :
    PS X (.Assign [.Name y py] (.ListComp elt [⟨tg, iter, ifs, 0⟩] scope pos) spos) (tAsg (tLc wi (g' X.s_0 X.H_0 0 [] []) (tt' X.s_0 X.H_0 0 [] []) (te' X.s_0 X.H_0 0 [] []) (own.map (·.2))) (gName i)) :=
  ps_setLc hc hN hy hyl hsw hi ok (fun s H C cl fp => eg s H C cl fp ▸ hg s H C cl fp) (fun s H C cl fp => et s H C cl fp ▸ ht s H C cl fp) (fun s H C cl fp => ee s H C cl fp ▸ he s H C cl fp) hs
end
/-- a def's body keeps its promise -/
def BodyX (P : Program) (w : World) (K : PySem.W.Frag) (mg : Str → Option Value) (base : Heap) (N : List Str) (qual : Str) (st : Stmt) (f : Addr) (k : Nat) (sp : Sp) : Prop :=
  ∀ (cdv : Value) (A : Around) (outer : List Env) (s : Shared) (H : Hp) (vs : List V) (Q : VK) (E : XK), Room k (A.deeper (PyProof.Rows.envOfC qual (defScope st) s.heap.objs.size f cdv)) → sp vs H Q E →
      ∃ t, PSs (cxOf (L2.CX P w) P w K mg base N qual (defScope st) f cdv A outer s H E) (defBody st) t ∧ t { nx := fun _ H' => Q .non H', rt := Q } (start N vs) H
/-! ### what isinstance asks of an instance; entries of any kind -/
structure InsT (K : PySem.W.Frag) (C : Addr) : Prop where
  ha : PySem.W.findIn K (.ref C) "__class__" = some (some (.builtin "object.__class__"))
  hn : PySem.W.specialIn K (.builtin "object.__class__") "__get__" = some (some (.builtin "getset_descriptor.__get__"))
  ht : PySem.W.takesIn K (.builtin "object.__class__") = some true
  hm : PySem.W.mroIn K C (.type "object") = some true
theorem TyOf.same {K : PySem.W.Frag} {H H' : Hp} {v : V} {t : Value} (h : TyOf K H v t) (s : Same H H') : TyOf K H' v t := by
  cases h with
  | non => exact .non
  | bl x => exact .bl x
  | int x => exact .int x
  | str x => exact .str x
  | flt x => exact .flt x
  | lst e => exact .lst (s _ _ e)
  | frz e => exact .frz (s _ _ e)
  | tup e => exact .tup (s _ _ e)
  | dK e => exact .dK (s _ _ e)
  | dT e => exact .dT (s _ _ e)
  | ins e c a b d m => exact .ins (s _ _ e) c a b d m
theorem TyX.same {K : PySem.W.Frag} {H H' : Hp} {v : V} {t : Value} (h : TyX K H v t) (s : Same H H') : TyX K H' v t := by
  cases h with
  | base b => exact .base (b.same s)
  | byt b => exact .byt b
  | set e => exact .set (s _ _ e)
  | kList e c => exact .kList e c
  | kTuple e c => exact .kTuple e c
  | kDict e c => exact .kDict e c
  | fTuple e => exact .fTuple (s _ _ e)
  | fDict e => exact .fDict (s _ _ e)
/-- an entry: a text, or something that is none -/
inductive Ent (K : PySem.W.Frag) (H : Hp) : V → Option Str → Prop where
  | str (x : Str) (h : x.length ≤ 1000) : Ent K H (.str x) (some x)
  | no {v : V} {t : Value} (ty : TyX K H v t) (h : PySem.W.kitOne K t (.type "str") = some false) : Ent K H v none
inductive Ents (K : PySem.W.Frag) (H : Hp) : List V → List (Option Str) → Prop where
  | nil : Ents K H [] []
  | cons {v : V} {o : Option Str} {vs : List V} {os : List (Option Str)} (h : Ent K H v o) (t : Ents K H vs os) : Ents K H (v :: vs) (o :: os)
theorem Ent.same {K : PySem.W.Frag} {H H' : Hp} {v : V} {o : Option Str} (h : Ent K H v o) (s : Same H H') : Ent K H' v o := by
  cases h with
  | str x h => exact .str x h
  | no ty h => exact .no (ty.same s) h
theorem Ents.same {K : PySem.W.Frag} {H H' : Hp} {vs : List V} {os : List (Option Str)} (h : Ents K H vs os) (s : Same H H') : Ents K H' vs os := by
  induction h with
  | nil => exact .nil
  | cons a _ ih => exact .cons (a.same s) ih
theorem Ents.len {K : PySem.W.Frag} {H : Hp} {vs : List V} {os : List (Option Str)} (h : Ents K H vs os) : vs.length = os.length := by
  induction h with
  | nil => rfl
  | cons _ _ ih => rw [List.length_cons, List.length_cons, ih]
theorem Ents.get {K : PySem.W.Frag} {H : Hp} {vs : List V} {os : List (Option Str)} (h : Ents K H vs os) : ∀ {i : Nat} {v : V}, vs[i]? = some v → ∃ o, os[i]? = some o ∧ Ent K H v o := by
  induction h with
  | nil => intro i v e; cases e
  | cons a _ ih =>
    intro i v e
    cases i with
    | zero => cases e; exact ⟨_, rfl, a⟩
    | succ i => exact ih e
theorem Ents.app {K : PySem.W.Frag} {H : Hp} {vs ws : List V} {os us : List (Option Str)} (h : Ents K H vs os) (g : Ents K H ws us) : Ents K H (vs ++ ws) (os ++ us) := by
  induction h with
  | nil => exact g
  | cons a _ ih => exact .cons a ih
theorem Ents.strs {K : PySem.W.Frag} {H : Hp} : ∀ (xs : List Str), (∀ x ∈ xs, x.length ≤ 1000) → Ents K H (xs.map V.str) (xs.map some)
  | [], _ => .nil
  | x :: xs, h => .cons (.str x (h x List.mem_cons_self)) (Ents.strs xs fun y hy => h y (List.mem_cons_of_mem _ hy))
/-- all entries are texts -/
theorem Ents.all {K : PySem.W.Frag} {H : Hp} {vs : List V} {os : List (Option Str)} (h : Ents K H vs os) (p : Option Str → Bool) (hp : p none = false) (a : os.all p = true) : vs = (os.filterMap id).map V.str ∧ os = (os.filterMap id).map some ∧ ∀ x ∈ os.filterMap id, x.length ≤ 1000 := by
  induction h with
  | nil => exact ⟨rfl, rfl, fun x hx => by cases hx⟩
  | cons e _ ih =>
    rw [List.all_cons, Bool.and_eq_true] at a
    obtain ⟨i1, i2, i3⟩ := ih a.2
    cases e with
    | str x hx =>
      refine ⟨congrArg (V.str x :: ·) i1, congrArg (some x :: ·) i2, fun y hy => ?_⟩
      rcases List.mem_cons.mp hy with rfl | hy
      · exact hx
      · exact i3 y hy
    | no ty h => rw [hp] at a; exact absurd a.1 (by decide)
end L2

/-! Own layer: a def that may raise, called by two keywords in the other order. -/
namespace L2
open ClX
open PySem PySem.Spec PyProof.Rows
def swap2 {α : Type} : List α → List α → List α
  | [], [a, b] => [b, a]
  | _, _ => []
structure OkXS (P : Program) (w : World) (K : PySem.W.Frag) (mg : Str → Option Value) (base : Heap) (k : Nat) (f : Addr) (ps ks : List Str) (sp : Sp) : Prop where
  ex : ∃ fd, FnOk P w K mg base (L2.CX P w) k f fd ps sp ∧ KBinds K fd ps ks (fun us ws => swap2 us ws) (fun vs zs => swap2 vs zs)
  kp : PySem.W.keepIn K (.ref f) = true
section
variable {P : Program} {w : World} {K : PySem.W.Frag} {mg : Str → Option Value} {base : Heap}
theorem FnT.okXS {x qual p0 p1 : Str} {st : Stmt} {f : Addr} {N : List Str} {k : Nat} {sp : Sp} (h : FnT K x qual st f) (S : FnScope N [p0, p1] (defScope st))
    (hb : ∀ (kV doc pm : Value) (an : Option Addr) (cdv ct u v : Value), bindArgs (PySem.W.fnOf x qual (defArgs st) (defBody st) (defScope st) .none kV doc pm an cdv ct) ⟨[], [(p1, u), (p0, v)]⟩ = pure [(p0, v), (p1, u)])
    (len : ∀ vs H Q E, sp vs H Q E → vs.length = 2) (body : BodyX P w K mg base N qual st f k sp) : OkXS P w K mg base (k + 1) f [p0, p1] [p1, p0] sp := by
  obtain ⟨fd, F⟩ := h.ex
  refine ⟨⟨fd, F.okX S len body, F.kbinds 0 [p1, p0] swap2 (fun us ws hl => ?_) (fun r q => ?_) fun kV doc pm an cdv ct us ws h1 h2 => ?_⟩, F.kp⟩
  · match us, ws, hl with
    | [], [_, _], _ => exact ⟨rfl, rfl⟩
    | [], [], hl => cases hl
    | [], [_], hl => cases hl
    | [], _ :: _ :: _ :: _, hl => cases hl
    | _ :: _, _, hl => cases hl
  · cases r with
    | nil =>
      cases q with
      | nil => exact .nil
      | cons a q =>
        cases q with
        | nil => exact .nil
        | cons b q =>
          cases q with
          | nil => exact .cons b (.cons a .nil)
          | cons _ _ => exact .nil
    | cons _ _ => exact .nil
  · match us, h1, ws, h2 with
    | [], _, [u, v], _ => exact hb kV doc pm an cdv ct u v
end
def oCallS (sp : Sp) (E : St → XK) (tk : TA) : TE := fun σ H Q => tk σ H fun zs H1 => sp (swap2 [] zs) H1 Q (E σ)
theorem px_callS {X : Cx} {k : Nat} {f : Addr} {ps ks : List Str} {sp : Sp} {E : St → XK} {x : Str} {p pos : Pos} {kws : List Keyword} {tk : TA} (G : OkXS X.prog X.w X.K X.mg X.base k f ps ks sp) (hx : ∀ σ, PassesAt (L2.CX X.prog X.w) X σ (E σ)) (hr : Room k X.A)
    (hm : X.mg x = some (.ref f)) (hkw : PK X kws tk) (hg : Gl X x := by rfl) (hall : (backToKw pos (keywordEach kws X.env)).all (·.1.isSome) = true := by rfl) (hks : (backToKw pos (keywordEach kws X.env)).filterMap (·.1) = ks := by rfl)
    (hdb : (x == ("__debug__" : Str)) = false := by decide) (hpl : ((backTo pos (starEach [] X.env)).any (·.1) || (backToKw pos (keywordEach kws X.env)).any (·.1.isNone)) = false := by rfl) :
    PE X (.Call (.Name x p) [] kws pos) (oCallS sp E tk) := by
  obtain ⟨⟨fd, F, b⟩, kp⟩ := G
  refine ⟨fun pn s σ H Q I h => ?_⟩
  refine wpAny_Call_Name_kw (ld_glob I hg hm ?_ hdb)
  refine PySem.W.callWith_KW0 (first := []) (h₀ := X.base) I.ok.mod.kin kp hall ?_ hpl
  refine thn (hkw.run pos pn s σ H _ I h) fun ws s2 ⟨zs, H2, I2, rz, q2⟩ => ⟨I2.kIn, ?_⟩
  rw [hks]
  have rv : Vals (swap2 [] zs) (swap2 [] ws) := b.rel .nil rz
  have hl : (swap2 [] ws).length = ps.length := by
    rw [← rv.length]
    exact F.len _ _ _ _ q2
  refine wpAny_call (codeAny_mono (F.run X.A X.stack s2 H2 ⟨[], ks.zip ws⟩ (swap2 [] ws) (swap2 [] zs) Q (E σ) hr I2.env0 (b.to s2 [] ws I2.kIn hl) rv q2) fun r s3 z => ?_)
  match r, z with
  | .error e2, z => exact hx σ pn H2 s2 e2 s3 I2 z
  | .ok (.ret u2), z => exact I2.after z
  | .ok .next, z => exact z.elim
  | .ok .brk, z => exact z.elim
  | .ok .cont, z => exact z.elim
end L2

/-! Own layer: a property read off an instance whose class is found at run time; f-strings. -/
namespace L2
open ClX
open PySem PySem.Spec PyProof.Rows
theorem propOf_mk {K : PySem.W.Frag} {C p g : Addr} {f : Str} {rest : List Value} (a : PySem.W.findIn K (.ref C) f = some (some (.ref p))) (b : PySem.W.specialIn K (.ref p) "__get__" = some (some (.builtin "property.__get__"))) (c : PySem.W.takesIn K (.ref p) = some true) (d : PySem.W.recIn K p "property" = some (.ref g :: rest)) : PropOf K C f p g := ⟨a, b, c, rest, d⟩
def tPropD (K : PySem.W.Frag) (f : Str) (p g : Addr) (sp : Sp) (ta : TE) : TE := fun σ H Q => ta σ H fun x H1 => ∃ a C dx fs, x = .ref a ∧ H1 a = some (.ins C dx fs) ∧ Cls K C ∧ PropOf K C f p g ∧ sp [.ref a] H1 Q E0
theorem po_propD {X : Cx} {k : Nat} {p g : Addr} {ps : List Str} {sp : Sp} {e : Expr} {f : Str} {pos : Pos} {ta : TE} (G : Ok1 X.prog X.w X.K X.mg X.base k g ps sp) (hr : Room (k + 1) X.A) (he : PE X e ta) (hab : attributeBase e f X.env (eval e X.env) = eval e X.env := by rfl) :
    PE X (.Attribute e f pos) (tPropD X.K f p g sp ta) := by
  obtain ⟨⟨fd, F, b⟩, kp⟩ := G
  refine ⟨fun pins s σ H Q I h => ?_⟩
  refine attr_of hab (thn (he.run pins s σ H _ I h) fun u s1 ⟨x, H1, I1, rx, a, C, dx, fs, ex, ea, c, hp, q⟩ => ?_)
  subst ex
  obtain rfl : u = Value.ref a := rx
  exact getprop_ok I1 ea c hp F hr b .nil pass0 q
end L2

/-! Own layer: the set that a comprehension makes of texts, and its size. -/
set_option Elab.async false
set_option linter.all false
set_option maxRecDepth 100000
set_option maxHeartbeats 4000000
namespace OwnSet
open PySem PySem.Spec PyProof.Rows L2 PpSet
/-- one more member -/
def putM (ms : List Str) (y : Str) : List Str := if ms.any (· == y) then ms else ms ++ [y]
theorem putM_any (ms : List Str) (y k : Str) : (putM ms y).any (· == k) = (ms.any (· == k) || decide (k = y)) := by
  unfold putM
  split
  · rename_i c
    by_cases e : k = y
    · subst e
      rw [c]
      rfl
    · rw [decide_eq_false e, Bool.or_false]
  · rw [List.any_append]
    congr 1
    simp only [List.any_cons, List.any_nil, Bool.or_false]
    by_cases e : k = y
    · subst e
      simp
    · rw [decide_eq_false e]
      exact beq_eq_false_iff_ne.mpr fun q => e q.symm
theorem putM_len (ms : List Str) (y : Str) : (putM ms y).length = if (ms.any (· == y)) = true then ms.length else ms.length + 1 := by
  unfold putM
  split <;> simp_all
/-- a set of texts at a place -/
def TxS (P : Program) (w : World) (a : Addr) (ms : List Str) : HO := .ext fun h => h.SetOf (PySem.strKind P w) a (fun y => ms.any (· == y)) ms.length
theorem txs_ok {P : Program} {w : World} {H : Hp} {h : Heap} {a : Addr} {ms : List Str} (R : h.SetOf (PySem.strKind P w) a (fun y => ms.any (· == y)) ms.length) : ObjOk P w H h a (TxS P w a ms) := by
  have R' := R
  obtain ⟨o, es, ep, t, ho, r⟩ := R'
  refine ⟨R, ⟨o, ho⟩, fun h1 h2 z k => ?_⟩
  obtain ⟨o', es', ep', t', ho', r'⟩ := z
  exact ⟨o', es', ep', t', k o' ho', r'⟩
section
variable {X : Cx}
theorem txs_get {pins : List (Addr × Obj)} {σ : L2.St} {H : Hp} {s : Shared} {a : Addr} {ms : List Str} (I : Inv X pins σ H s) (ha : H a = some (TxS X.prog X.w a ms)) : s.heap.SetOf (PySem.strKind X.prog X.w) a (fun y => ms.any (· == y)) ms.length := (I.hok a _ ha).1
theorem txs_add {pins : List (Addr × Obj)} {σ : L2.St} {H : Hp} {s : Shared} {E : Value → Shared → Prop} {D : Addr} {ms : List Str} {y : Str} {tk : Tok} {Q : Value → Shared → Prop} (I : Inv X pins σ H s) (hD : H D = some (TxS X.prog X.w D ms)) (room : ms.length + 1 < scanBound)
    (h : ∀ s', Inv X pins σ (upd H D (TxS X.prog X.w D (putM ms y))) s' → Q .none s') : wpAny (model X.prog X.w) X.A (call (.builtin "set.add") [.ref D, .str y tk]) Q E s := by
  refine call_set_add (knd := PySem.strKind X.prog X.w) (strKind_is _ _ y tk) rfl (txs_get I hD) room fun h' sb new => ?_
  have new2 : h'.SetOf (PySem.strKind X.prog X.w) D (fun k => (putM ms y).any (· == k)) (putM ms y).length := SetOf_congr new (fun k => (putM_any ms y k).symm) (putM_len ms y).symm
  have has : ∃ u, h'.get? D = some u := by
    obtain ⟨o, _, _, _, ho, _⟩ := new
    exact ⟨o, ho⟩
  exact h _ (I.write (e := D) (t' := s.toks + 1) (by rw [hD]; trivial) (.inl rfl) (fun b u hb hu => (sb.2 b hb).trans hu) has (txs_ok new2))

/-- {elt for target in iter if ..}, elt a text: D is the set -/
def tSx (P : Program) (w : World) (wi : TI) (g : TG) (tt : TT) (te : TE) (own : List Nat) : TE := fun σ H Q => wi σ H fun J H1 => ∀ D, H1 D = none → ∃ W : Nat → Nat → Hp → Prop, (∃ m, W 0 m (upd H1 D (TxS P w D []))) ∧
  ∀ i m H, W i m H → (J.stop i H ∧ Q (.ref D) H) ∨ (J.go i H ∧ ∃ Nx : Hp → Prop, (∀ H', Nx H' → ∃ m', m' < m ∧ W (i + 1) m' H') ∧ ∀ x H', J.yld i H x H' → g x (wipe σ own) H' fun σ2 H2 => wipe σ2 own = wipe σ own ∧
    tt σ2 H2 fun b H3 => if b = true then te σ2 H3 fun y H4 => ∃ (z : Str) (ms : List Str), y = .str z ∧ H4 D = some (TxS P w D ms) ∧ ms.length + 1 < scanBound ∧ Nx (upd H4 D (TxS P w D (putM ms z))) else Nx H3)
theorem sx_core {pins : List (Addr × Obj)} {s : Shared} {σ : L2.St} {H : Hp} {Q : VK} {elt tg iter : Expr} {ifs : List Expr} {sc : Scope} {own : List (PySem.Str × Nat)} {pos pos' : Pos} {wi : TI} {g : TG} {tt : TT} {te : TE} {Qf : Value → Shared → Prop} {use : Option (Value → Sem Unit)}
    (calm : X.calm = true) (nd : X.N.Nodup) (I : Inv X pins σ H s) (ri : PI X tg iter wi) (blk : BlkOk X.N X.env.scope sc own)
    (rg : ∀ (s : Shared) (H : Hp) (C : Addr) (cl : List (PySem.Str × Addr)) (ex : List Addr), PG (X.blk s H sc (compEnvC sc cl C X.env) ex) tg g)
    (rt : ∀ (s : Shared) (H : Hp) (C : Addr) (cl : List (PySem.Str × Addr)) (ex : List Addr), PTs (X.blk s H sc (compEnvC sc cl C X.env) ex) ifs tt)
    (re : ∀ (s : Shared) (H : Hp) (C : Addr) (cl : List (PySem.Str × Addr)) (ex : List Addr), PE (X.blk s H sc (compEnvC sc cl C X.env) ex) elt te)
    (fold : ∀ x, foldedSetIterable iter X.env x = pure x) (h : tSx X.prog X.w wi g tt te (own.map (·.2)) σ H Q)
    (out : ∀ D C s' m H', Inv X pins σ H' s' → Q (.ref D) H' → s'.heap.Ns C m → FpOk X pins H' C → compPost (model X.prog X.w) X.A X.xe use Qf (.ref D) C (.ok .next) s') :
    wpAny (model X.prog X.w) X.A (comprehension (.SetComp elt [⟨tg, iter, ifs, 0⟩] sc pos) sc X.env pos' (PySem.newSet (.type "set")) false (eval iter X.env) use) Qf X.xe s := by
  have frees : ∀ y ∈ sc.names, y.2 = .free → ∃ c, X.env.cells.lookup y.1 = some c := fun y my e => (blk.free y my e).elim (fun k => I.ok.has _ (.inl k)) (fun k => I.ok.has _ (.inr k))
  refine wpAny_comprehension_free (use := use) rfl fold (closure_ok frees) blk.kind (fun y my e => by rw [blk.uniq y my, e]) (thn (ri.run pins s σ H _ I h) fun xv s1 q1 => thn q1 fun itv s2 q2 => ?_)
  obtain ⟨it, ex, tn, J, H2, rfl, I2, T, st2, f2, q⟩ := q2
  refine wpAny_newSet_of (knd := PySem.strKind X.prog X.w) (fun led fresh => newEnv_comp ?_)
  generalize eD : s2.heap.objs.size = D at fresh
  have freeD : H2 D = none := I2.hok.fresh (Nat.le_of_eq eD)
  obtain ⟨W, ⟨m0, w0⟩, turn⟩ := q D freeD
  generalize e3 : ({ s2 with heap := s2.heap.push { cls := .type "set", dict := none, data := .set #[] 0 (.fresh 0 0 led) } } : Shared) = s3
  have p3 : s3.heap = s2.heap.push { cls := .type "set", dict := none, data := .set #[] 0 (.fresh 0 0 led) } := by rw [← e3]
  have more3 : ∀ b o, s2.heap.get? b = some o → s3.heap.get? b = some o := fun b o z => by rw [p3]; exact Heap.get?_push_of_some _ z
  have new3 : s3.heap.SetOf (PySem.strKind X.prog X.w) D (fun y => ([] : List Str).any (· == y)) ([] : List Str).length := by
    rw [p3]
    exact SetOf_congr fresh (fun _ => rfl) rfl
  have I3 : Inv X pins σ (upd H2 D (TxS X.prog X.w D [])) s3 := by
    have z := I2.laid (h' := s3.heap) (t' := s2.toks) (a := D) more3 (Nat.le_of_eq eD) (txs_ok new3)
    rw [← e3] at z ⊢
    exact z
  have lt2 : ∀ b ∈ ex, b < s2.heap.objs.size := fun b mb => let ⟨_, z, _⟩ := T.obj _ _ st2 b mb; Heap.lt_size z
  have f3 : ∀ b ∈ ex, FpOk X pins (upd H2 D (TxS X.prog X.w D [])) b ∧ b < s3.heap.objs.size := fun b mb => by
    refine ⟨⟨?_, (f2 b mb).2⟩, by rw [p3, Heap.size_push]; exact Nat.lt_succ_of_lt (lt2 b mb)⟩
    have ne : b ≠ D := by rw [← eD]; exact Nat.ne_of_lt (lt2 b mb)
    rw [upd_ne ne]
    exact (f2 b mb).1
  have st3 : tn 0 s3.heap := T.keep _ _ _ st2 fun b _ o z => more3 b o z
  have I4 := block_start I3 blk nd f3
  generalize eH : upd H2 D (TxS X.prog X.w D []) = H3 at w0 I3 f3 I4
  have gg := rg s3 H3 s3.heap.objs.size (cellsFrom (s3.heap.objs.size + 1) sc.names (cloFrom X.env.cells sc.names [])) ex
  have gt := rt s3 H3 s3.heap.objs.size (cellsFrom (s3.heap.objs.size + 1) sc.names (cloFrom X.env.cells sc.names [])) ex
  have ge := re s3 H3 s3.heap.objs.size (cellsFrom (s3.heap.objs.size + 1) sc.names (cloFrom X.env.cells sc.names [])) ex
  have n3 : ∀ b ∈ ex, H3 b = none := fun b mb => (f3 b mb).1.1
  generalize ec : compEnvC sc (cellsFrom (s3.heap.objs.size + 1) sc.names (cloFrom X.env.cells sc.names [])) s3.heap.objs.size X.env = ce at I4 gg gt ge
  have lc : ce.locals = s3.heap.objs.size := by rw [← ec]; rfl
  show codeAny _ _ (.compStart (.SetComp elt [⟨tg, iter, ifs, 0⟩] sc pos) 0 (.ref it) (.ref D) (compEnvC sc (cellsFrom (s3.heap.objs.size + 1) sc.names (cloFrom X.env.cells sc.names [])) s3.heap.objs.size X.env)) (compPost (model X.prog X.w) X.A X.xe use Qf (.ref D) s3.heap.objs.size)
    { s3 with heap := pushCells (s3.heap.push { cls := .type "dict", data := .dict #[] }) sc.names }
  rw [ec]
  generalize e4 : ({ s3 with heap := pushCells (s3.heap.push { cls := .type "dict", data := .dict #[] }) sc.names } : Shared) = s4 at I4 ⊢
  have st4 : tn 0 s4.heap := T.keep _ _ _ st3 fun b _ o z => by
    rw [← e4]
    exact pushCells_keeps _ _ _ _ (Heap.get?_push_of_some _ z)
  have calmFp : ∀ {σ' : L2.St} {H' : Hp} {s' : Shared}, Inv (X.blk s3 H3 sc ce ex) [] σ' H' s' → (∀ b ∈ ex, H' b = none) → ∀ b ∈ ex, FpOk (X.blk s3 H3 sc ce ex) [] H' b := fun {σ' H' s'} J nn b mb =>
    ⟨nn b mb, (J.ok.exf b mb).1, J.ok.exfs b mb, .inl mb, (J.ok.exf b mb).2, fun p mp => absurd (show p ∈ ([] : List (Addr × Obj)) ++ [] from mp) (by simp)⟩
  let Pn : Nat → Shared → Prop := fun n s' => ∃ i H', Inv (X.blk s3 H3 sc ce ex) [] (wipe σ (own.map (·.2))) H' s' ∧ tn i s'.heap ∧ (∀ b ∈ ex, H' b = none) ∧ W i n H'
  have loop : codeAny (model X.prog X.w) X.A (.compLoop (.SetComp elt [⟨tg, iter, ifs, 0⟩] sc pos) 0 (.ref it) (.ref D) ce) (compPost (model X.prog X.w) X.A X.xe use Qf (.ref D) s3.heap.objs.size) s4 := by
    refine compLoopS_any Pn ?_ m0 ⟨0, H3, I4, st4, n3, w0⟩
    rintro n s5 ⟨i, H5, I5, st5, n5, w5⟩
    rcases turn i n H5 w5 with ⟨stop, fin⟩ | ⟨go, Nx, nxt, step⟩
    · refine thnF (T.done (X.blk s3 H3 sc ce ex) rfl rfl rfl calm i [] s5 _ H5 (fun _ _ => False) I5 (calmFp I5 n5) st5 stop) fun r s6 ⟨er, I6⟩ => ?_
      subst er
      have nC : H5 s3.heap.objs.size = none := lc ▸ (show H5 ce.locals = none from I6.free)
      obtain ⟨m, nm, _⟩ := I6.loc
      have nm : s6.heap.Ns s3.heap.objs.size m := lc ▸ (show s6.heap.Ns ce.locals m from nm)
      refine out D s3.heap.objs.size s6 m H5 (I3.call' (ch := ex) I6.os I6.base I6.hok I6.bare fun b mb => ?_) fin nm (I3.fpOk (Nat.le_refl _) nC)
      have z := (f3 b mb).1.2
      exact ⟨z.2.2.1, z.1, z.2.2.2.1, z.2.2.2.2⟩
    · refine thnF (T.item (X.blk s3 H3 sc ce ex) rfl rfl rfl calm i [] s5 _ H5 (fun _ _ => False) I5 (calmFp I5 n5) st5 go) fun r s6 ⟨u, er, q6⟩ => ?_
      subst er
      refine thnF q6 fun _ s7 ⟨x, H7, I7, r7, y7, st7, n7⟩ => ?_
      refine thnF (gg.run _ s7 _ H7 x u _ (I7.pinned (calmFp I7 n7) (T.obj _ _ st7)) r7 (step x H7 y7)) fun _ s8 ⟨σ8, H8, I8, ew, q8⟩ => ?_
      refine thnF (gt.run _ s8 σ8 H8 _ I8 q8) fun b s9 ⟨H9, I9, q9⟩ => ?_
      have again : ∀ {s' : Shared} {H' : Hp}, Inv (X.blk s3 H3 sc ce ex) ([] ++ pinsAt ex s7.heap) σ8 H' s' → Nx H' → ∃ m, m < n ∧ Pn m s' := fun {s' H'} J nx => by
        obtain ⟨m', lm, w'⟩ := nxt H' nx
        have stay : ∀ c ∈ ex, ∀ o, s7.heap.get? c = some o → s'.heap.get? c = some o ∧ H' c = none := fun c mc o z => by
          have y := J.pin (c, o) (List.mem_append_right _ (List.mem_append_right _ (mem_pinsAt mc z)))
          exact ⟨y.1, y.2.1⟩
        refine ⟨m', lm, i + 1, H', (J.unpinned (pins := [])).weak (by rw [← ew, wipe_length]) (fun j v z => ?_), T.keep _ _ _ st7 fun c mc o z => (stay c mc o z).1, fun c mc => ?_, w'⟩
        · rw [← ew] at z
          exact (wipe_some z).1
        · obtain ⟨o, z, _⟩ := T.obj _ _ st7 c mc
          exact (stay c mc o z).2
      have q9 : if b = true then te σ8 H9 (fun y H4 => ∃ (z : Str) (ms : List Str), y = .str z ∧ H4 D = some (TxS X.prog X.w D ms) ∧ ms.length + 1 < scanBound ∧ Nx (upd H4 D (TxS X.prog X.w D (putM ms z)))) else Nx H9 := q9
      by_cases hb : b = true
      · subst hb
        rw [if_pos rfl] at q9 ⊢
        refine thnF (ge.run _ s9 σ8 H9 _ I9 q9) fun z s10 ⟨yv, H10, I10, r10, zt, ms, ey, hD, small, nx⟩ => ?_
        subst ey
        obtain ⟨tk, ez⟩ := r10
        subst ez
        exact txs_add (X := X.blk s3 H3 sc ce ex) I10 hD small fun s11 I11 => again I11 nx
      · rw [if_neg hb] at q9 ⊢
        exact again I9 q9
  exact codeAny_compStart_set loop (T.self X.A 0 _ _ _ st4 loop)
/-- as a value; the inner words are found by the terms -/
theorem pe_sxD {elt tg iter : Expr} {ifs : List Expr} {scope : Scope} {own : List (Str × Nat)} {pos : Pos} {wi : TI} {g' : Shared → Hp → Addr → List (Str × Addr) → List Addr → TG} {tt' : Shared → Hp → Addr → List (Str × Addr) → List Addr → TT}
    {te' : Shared → Hp → Addr → List (Str × Addr) → List Addr → TE} (hc : X.calm = true) (hN : X.N.Nodup) (hi : PI X tg iter wi) (ok : BlkOk X.N X.env.scope scope own)
    (hg : ∀ (s : Shared) (H : Hp) (C : Addr) (cl : List (Str × Addr)) (fp : List Addr), PG (X.blk s H scope (compEnvC scope cl C X.env) fp) tg (g' s H C cl fp))
    (ht : ∀ (s : Shared) (H : Hp) (C : Addr) (cl : List (Str × Addr)) (fp : List Addr), PTs (X.blk s H scope (compEnvC scope cl C X.env) fp) ifs (tt' s H C cl fp))
    (he : ∀ (s : Shared) (H : Hp) (C : Addr) (cl : List (Str × Addr)) (fp : List Addr), PE (X.blk s H scope (compEnvC scope cl C X.env) fp) elt (te' s H C cl fp))
    (eg : ∀ s H C cl fp, g' s H C cl fp = g' X.s_0 X.H_0 0 [] [] := by intro _ _ _ _ _; rfl) (et : ∀ s H C cl fp, tt' s H C cl fp = tt' X.s_0 X.H_0 0 [] [] := by intro _ _ _ _ _; rfl)
    (ee : ∀ s H C cl fp, te' s H C cl fp = te' X.s_0 X.H_0 0 [] [] := by intro _ _ _ _ _; rfl) (hs : ∀ x, foldedSetIterable iter X.env x = pure x := by intro _; rfl) :
    PE X (.SetComp elt [⟨tg, iter, ifs, 0⟩] scope pos) (tSx X.prog X.w wi (g' X.s_0 X.H_0 0 [] []) (tt' X.s_0 X.H_0 0 [] []) (te' X.s_0 X.H_0 0 [] []) (own.map (·.2))) := by
  refine ⟨fun pins s σ H Q I h => ?_⟩
  rw [eval_SetComp]
  refine sx_core hc hN I hi ok (fun s H C cl fp => eg s H C cl fp ▸ hg s H C cl fp) (fun s H C cl fp => et s H C cl fp ▸ ht s H C cl fp) (fun s H C cl fp => ee s H C cl fp ▸ he s H C cl fp) hs h fun D C s' m H' J q nm f => ⟨m, nm, fun h2 sb => ?_⟩
  obtain ⟨a0, a1, _, a3, a4, a5⟩ := f
  exact ⟨.ref D, H', J.turned (t' := s'.toks) (fun b o ne e => (sb.2 b ne).trans e) a0 a1 a3 a4 a5, rfl, q⟩
/-- len of a set of texts -/
def rLenTx (P : Program) (w : World) : List V → Hp → VK → Prop := fun xs H Q => ∃ (a : Addr) (ms : List Str), xs = [V.ref a] ∧ H a = some (TxS P w a ms) ∧ ms.length < scanBound ∧ Q (.int (ms.length : Nat)) H
theorem call_lenTx : CallR X (.builtin "len") (rLenTx X.prog X.w) := by
  intro pins s σ H xs us Q I r h
  obtain ⟨a, ms, rfl, ha, small, q⟩ := h
  cases r with
  | cons ra rt =>
    cases rt
    cases ra
    obtain ⟨o, es, ep, t, ho, hex, hd, _, _, _, hf, hn⟩ := txs_get I ha
    exact call_len_set ho hex hd hf (by rw [hn]; unfold scanBound at small; omega) ⟨.int _, H, I.tok _, ⟨_, by rw [hn]⟩, q⟩
/-- over a list that the block leaves as it is -/
theorem sx_list {P : Program} {w : World} {K : PySem.W.Frag} {a : Addr} {xs : List V} {g : TG} {tt : TT} {te : TE} {vs : List Nat} {σ : L2.St} {H1 : Hp} {D : Addr} {Qd : Hp → Prop} (Pv : Nat → Hp → Prop) (h0 : Pv 0 (upd H1 D (TxS P w D []))) (hl : ∀ i H, i ≤ xs.length → Pv i H → SqL K H a xs)
    (hs : ∀ i x H, xs[i]? = some x → Pv i H → g x (wipe σ vs) H fun σ2 H2 => wipe σ2 vs = wipe σ vs ∧ tt σ2 H2 fun b H3 =>
      if b = true then te σ2 H3 fun y H4 => ∃ (z : Str) (ms : List Str), y = .str z ∧ H4 D = some (TxS P w D ms) ∧ ms.length + 1 < scanBound ∧ Pv (i + 1) (upd H4 D (TxS P w D (putM ms z))) else Pv (i + 1) H3) (hd : ∀ H, Pv xs.length H → Qd H) :
    ∃ W : Nat → Nat → Hp → Prop, (∃ m, W 0 m (upd H1 D (TxS P w D []))) ∧ ∀ i m H, W i m H → ((Itl K a).stop i H ∧ Qd H) ∨ ((Itl K a).go i H ∧ ∃ Nx : Hp → Prop, (∀ H', Nx H' → ∃ m', m' < m ∧ W (i + 1) m' H') ∧
      ∀ x H', (Itl K a).yld i H x H' → g x (wipe σ vs) H' fun σ2 H2 => wipe σ2 vs = wipe σ vs ∧ tt σ2 H2 fun b H3 =>
        if b = true then te σ2 H3 fun y H4 => ∃ (z : Str) (ms : List Str), y = .str z ∧ H4 D = some (TxS P w D ms) ∧ ms.length + 1 < scanBound ∧ Nx (upd H4 D (TxS P w D (putM ms z))) else Nx H3) := by
  refine ⟨fun i m H => i ≤ xs.length ∧ m + i = xs.length ∧ Pv i H, ⟨xs.length, Nat.zero_le _, rfl, h0⟩, ?_⟩
  rintro i m H ⟨le, sum, p⟩
  have sq := hl i H le p
  rcases Nat.lt_or_eq_of_le le with lt | rfl
  · refine .inr ⟨⟨xs, xs[i], sq, List.getElem?_eq_getElem lt⟩, Pv (i + 1), fun H' p' => ⟨m - 1, by omega, lt, by omega, p'⟩, ?_⟩
    rintro x H' ⟨rfl, y⟩
    exact hs i x _ (y xs sq) p
  · exact .inl ⟨⟨xs, sq, Nat.le_refl _⟩, hd H p⟩
/-- a list beside the empty one, whatever its entries are -/
def rNil (K : PySem.W.Frag) (f : Bool → Bool) : R2 := fun x y H Q => ∃ (a b : Addr) (xs : List V), x = .ref a ∧ y = .ref b ∧ SqL K H a xs ∧ SqL K H b [] ∧ Q (.bl (f (decide (xs = [])))) H
theorem op_eqNil (hu : X.A.units + 64 < cLine) : OpR X (compareOp .Eq) (rNil X.K id) := by
  intro pins s σ H x y v u Q I rx ry h
  obtain ⟨a, b, xs, rfl, rfl, ha, hb, q⟩ := h
  cases rx
  cases ry
  obtain ⟨is, r1, l1, _⟩ := I.list ha
  obtain ⟨js, r2, l2, _⟩ := I.list hb
  cases r2
  cases xs with
  | nil =>
    cases r1
    exact SeqAt.eq_listAt (e := fun _ => true) l1.isList l2.isList rfl (by omega) (fun j h1 _ => absurd h1 (Nat.not_lt_zero _)) ⟨.bl _, H, I, rfl, q⟩
  | cons z zs =>
    cases r1
    exact SeqAt.eq_list_lengthsAt l1.isList l2.isList rfl (by omega) ⟨.bl _, H, I, rfl, q⟩
theorem op_neNil (hu : X.A.units + 64 < cLine) : OpR X (compareOp .NotEq) (rNil X.K fun b => !b) := by
  intro pins s σ H x y v u Q I rx ry h
  obtain ⟨a, b, xs, rfl, rfl, ha, hb, q⟩ := h
  cases rx
  cases ry
  obtain ⟨is, r1, l1, _⟩ := I.list ha
  obtain ⟨js, r2, l2, _⟩ := I.list hb
  cases r2
  cases xs with
  | nil =>
    cases r1
    exact SeqAt.RcNeAt.lists (e := fun _ => true) l1.isList l2.isList rfl (by omega) (fun j h1 _ => absurd h1 (Nat.not_lt_zero _)) _ _ _ _ ⟨.bl _, H, I, rfl, q⟩
  | cons z zs =>
    cases r1
    exact SeqAt.RcNeAt.lists_lengths l1.isList l2.isList rfl (by omega) _ _ _ _ ⟨.bl _, H, I, rfl, q⟩
end
end OwnSet
namespace L2
open ClX
open PySem PySem.Spec PyProof.Rows
def only1 {α : Type} : List α → List α → List α
  | [], [a] => [a]
  | _, _ => []
/-- a def of one parameter, called by its name -/
structure OkX1 (P : Program) (w : World) (K : PySem.W.Frag) (mg : Str → Option Value) (base : Heap) (k : Nat) (f : Addr) (ps : List Str) (sp : Sp) : Prop where
  ex : ∃ fd, FnOk P w K mg base (L2.CX P w) k f fd ps sp ∧ KBinds K fd ps ps (fun us ws => only1 us ws) (fun vs zs => only1 vs zs)
  kp : PySem.W.keepIn K (.ref f) = true
section
variable {P : Program} {w : World} {K : PySem.W.Frag} {mg : Str → Option Value} {base : Heap}
theorem FnT.okX1 {x qual p0 : Str} {st : Stmt} {f : Addr} {N : List Str} {k : Nat} {sp : Sp} (h : FnT K x qual st f) (S : FnScope N [p0] (defScope st))
    (hb : ∀ (kV doc pm : Value) (an : Option Addr) (cdv ct u : Value), bindArgs (PySem.W.fnOf x qual (defArgs st) (defBody st) (defScope st) .none kV doc pm an cdv ct) ⟨[], [(p0, u)]⟩ = pure [(p0, u)])
    (len : ∀ vs H Q E, sp vs H Q E → vs.length = 1) (body : BodyX P w K mg base N qual st f k sp) : OkX1 P w K mg base (k + 1) f [p0] sp := by
  obtain ⟨fd, F⟩ := h.ex
  refine ⟨⟨fd, F.okX S len body, F.kbinds 0 [p0] only1 (fun us ws hl => ?_) (fun r q => ?_) fun kV doc pm an cdv ct us ws h1 h2 => ?_⟩, F.kp⟩
  · match us, ws, hl with
    | [], [_], _ => exact ⟨rfl, rfl⟩
    | [], [], hl => cases hl
    | [], _ :: _ :: _, hl => cases hl
    | _ :: _, _, hl => cases hl
  · cases r with
    | nil =>
      cases q with
      | nil => exact .nil
      | cons a q =>
        cases q with
        | nil => exact .cons a .nil
        | cons _ _ => exact .nil
    | cons _ _ => exact .nil
  · match us, h1, ws, h2 with
    | [], _, [u], _ => exact hb kV doc pm an cdv ct u
end
def oCall1 (sp : Sp) (E : St → XK) (tk : TA) : TE := fun σ H Q => tk σ H fun zs H1 => sp (only1 [] zs) H1 Q (E σ)
theorem px_call1 {X : Cx} {k : Nat} {f : Addr} {ps : List Str} {sp : Sp} {E : St → XK} {x : Str} {p pos : Pos} {kws : List Keyword} {tk : TA} (G : OkX1 X.prog X.w X.K X.mg X.base k f ps sp) (hx : ∀ σ, PassesAt (L2.CX X.prog X.w) X σ (E σ)) (hr : Room k X.A)
    (hm : X.mg x = some (.ref f)) (hkw : PK X kws tk) (hg : Gl X x := by rfl) (hall : (backToKw pos (keywordEach kws X.env)).all (·.1.isSome) = true := by rfl) (hks : (backToKw pos (keywordEach kws X.env)).filterMap (·.1) = ps := by rfl)
    (hdb : (x == ("__debug__" : Str)) = false := by decide) (hpl : ((backTo pos (starEach [] X.env)).any (·.1) || (backToKw pos (keywordEach kws X.env)).any (·.1.isNone)) = false := by rfl) :
    PE X (.Call (.Name x p) [] kws pos) (oCall1 sp E tk) := by
  obtain ⟨⟨fd, F, b⟩, kp⟩ := G
  refine ⟨fun pn s σ H Q I h => wpAny_Call_Name_kw (ld_glob I hg hm ?_ hdb)⟩
  refine PySem.W.callWith_KW0 (first := []) (h₀ := X.base) I.ok.mod.kin kp hall ?_ hpl
  refine thn (hkw.run pos pn s σ H _ I h) fun ws s2 ⟨zs, H2, I2, rz, q2⟩ => ⟨I2.kIn, ?_⟩
  rw [hks]
  have rv : Vals (only1 [] zs) (only1 [] ws) := b.rel .nil rz
  have hl : (only1 [] ws).length = ps.length := by
    rw [← rv.length]
    exact F.len _ _ _ _ q2
  refine wpAny_call (codeAny_mono (F.run X.A X.stack s2 H2 ⟨[], ps.zip ws⟩ (only1 [] ws) (only1 [] zs) Q (E σ) hr I2.env0 (b.to s2 [] ws I2.kIn hl) rv q2) fun r s3 z => ?_)
  match r, z with
  | .error e2, z => exact hx σ pn H2 s2 e2 s3 I2 z
  | .ok (.ret u2), z => exact I2.after z
  | .ok .next, z => exact z.elim
  | .ok .brk, z => exact z.elim
  | .ok .cont, z => exact z.elim
end L2

set_option Elab.async false
set_option linter.all false
set_option maxRecDepth 100000
set_option maxHeartbeats 4000000
namespace Own
open PySem L2 ClX
local macro_rules | `(tactic| walk_at "v") => `(tactic| refine ⟨_, rfl, ?_⟩)
local macro_rules | `(tactic| walk_at "ii") => `(tactic| refine ⟨_, _, rfl, rfl, ?_⟩)
local macro_rules | `(tactic| walk_at "go") => `(tactic| repeat (first | refine ⟨_, rfl, ?_⟩ | refine ⟨_, _, rfl, rfl, ?_⟩ | refine addI ?_ | refine L2.iteT ?_ | refine L2.iteF ?_))

def top (i : Nat) : Stmt := PySem.Challenge.pw_indexlogs_k08_logs_recognized.main.body.getD i (.Pass ⟨0, 0, 0, 0⟩)
abbrev s_is_integer : Stmt := top 8
abbrev N_is_integer : List Str := ["thing"]
theorem sc_is_integer : FnScope N_is_integer ["thing"] (defScope s_is_integer) := ⟨rfl, rfl, rfl, by decide +kernel, rfl, by decide +kernel, by decide +kernel⟩
abbrev s_is_item : Stmt := top 9
abbrev N_is_item : List Str := ["thing"]
theorem sc_is_item : FnScope N_is_item ["thing"] (defScope s_is_item) := ⟨rfl, rfl, rfl, by decide +kernel, rfl, by decide +kernel, by decide +kernel⟩
abbrev s_check_index : Stmt := top 11
abbrev N_check_index : List Str := ["slot"]
theorem sc_check_index : FnScope N_check_index ["slot"] (defScope s_check_index) := ⟨rfl, rfl, rfl, by decide +kernel, rfl, by decide +kernel, by decide +kernel⟩
abbrev s_Record___init__ : Stmt := inClass (top 13) 2
abbrev N_Record___init__ : List Str := ["self", "item", "slot"]
theorem sc_Record___init__ : FnScope N_Record___init__ ["self", "item", "slot"] (defScope s_Record___init__) := ⟨rfl, rfl, rfl, by decide +kernel, rfl, by decide +kernel, by decide +kernel⟩
abbrev s_Record_item : Stmt := inClass (top 13) 4
abbrev N_Record_item : List Str := ["self"]
theorem sc_Record_item : FnScope N_Record_item ["self"] (defScope s_Record_item) := ⟨rfl, rfl, rfl, by decide +kernel, rfl, by decide +kernel, by decide +kernel⟩
abbrev s_Record_text : Stmt := inClass (top 13) 6
abbrev N_Record_text : List Str := ["self"]
theorem sc_Record_text : FnScope N_Record_text ["self"] (defScope s_Record_text) := ⟨rfl, rfl, rfl, by decide +kernel, rfl, by decide +kernel, by decide +kernel⟩
abbrev s_has_kind : Stmt := top 19
abbrev N_has_kind : List Str := ["thing"]
theorem sc_has_kind : FnScope N_has_kind ["thing"] (defScope s_has_kind) := ⟨rfl, rfl, rfl, by decide +kernel, rfl, by decide +kernel, by decide +kernel⟩
abbrev s_are_records : Stmt := top 20
abbrev N_are_records : List Str := ["thing", "most", "entry"]
theorem sc_are_records : FnScope N_are_records ["thing", "most"] (defScope s_are_records) := ⟨rfl, rfl, rfl, by decide +kernel, rfl, by decide +kernel, by decide +kernel⟩
abbrev s_is_log : Stmt := top 21
abbrev N_is_log : List Str := ["thing", "record"]
theorem sc_is_log : FnScope N_is_log ["thing"] (defScope s_is_log) := ⟨rfl, rfl, rfl, by decide +kernel, rfl, by decide +kernel, by decide +kernel⟩
abbrev s__law_source : Stmt := top 23
abbrev N__law_source : List Str := ["script", "k", "cell"]
theorem sc__law_source : FnScope N__law_source ["script", "k"] (defScope s__law_source) := ⟨rfl, rfl, rfl, by decide +kernel, rfl, by decide +kernel, by decide +kernel⟩
abbrev s__law_pick : Stmt := top 24
abbrev N__law_pick : List Str := ["source", "size", "digit", "mixed"]
theorem sc__law_pick : FnScope N__law_pick ["source", "size"] (defScope s__law_pick) := ⟨rfl, rfl, rfl, by decide +kernel, rfl, by decide +kernel, by decide +kernel⟩
abbrev s__law_shuffled : Stmt := top 25
abbrev N__law_shuffled : List Str := ["source", "row", "left", "j"]
theorem sc__law_shuffled : FnScope N__law_shuffled ["source", "row"] (defScope s__law_shuffled) := ⟨rfl, rfl, rfl, by decide +kernel, rfl, by decide +kernel, by decide +kernel⟩
abbrev s__law_names : Stmt := top 26
abbrev N__law_names : List Str := ["source", "many", "letters", "style", "found", "j", "short", "two"]
theorem sc__law_names : FnScope N__law_names ["source", "many"] (defScope s__law_names) := ⟨rfl, rfl, rfl, by decide +kernel, rfl, by decide +kernel, by decide +kernel⟩
abbrev s__law_make : Stmt := top 27
abbrev N__law_make : List Str := ["way", "name", "place"]
theorem sc__law_make : FnScope N__law_make ["way", "name", "place"] (defScope s__law_make) := ⟨rfl, rfl, rfl, by decide +kernel, rfl, by decide +kernel, by decide +kernel⟩
abbrev s__law_rows : Stmt := top 28
abbrev N__law_rows : List Str := ["parts", "way", "name", "place"]
theorem sc__law_rows : FnScope N__law_rows ["parts"] (defScope s__law_rows) := ⟨rfl, rfl, rfl, by decide +kernel, rfl, by decide +kernel, by decide +kernel⟩
abbrev s__law_log : Stmt := top 29
abbrev N__law_log : List Str := ["source", "most", "many", "way", "high", "name"]
theorem sc__law_log : FnScope N__law_log ["source", "most"] (defScope s__law_log) := ⟨rfl, rfl, rfl, by decide +kernel, rfl, by decide +kernel, by decide +kernel⟩
abbrev s__law_things : Stmt := top 30
abbrev N__law_things : List Str := ["found"]
theorem sc__law_things : FnScope N__law_things [] (defScope s__law_things) := ⟨rfl, rfl, rfl, by decide +kernel, rfl, by decide +kernel, by decide +kernel⟩
abbrev s__law_due : Stmt := top 31
abbrev N__law_due : List Str := ["case", "signs", "row"]
theorem sc__law_due : FnScope N__law_due ["case"] (defScope s__law_due) := ⟨rfl, rfl, rfl, by decide +kernel, rfl, by decide +kernel, by decide +kernel⟩
abbrev s__law_right : Stmt := top 32
abbrev N__law_right : List Str := ["case", "due"]
theorem sc__law_right : FnScope N__law_right ["case"] (defScope s__law_right) := ⟨rfl, rfl, rfl, by decide +kernel, rfl, by decide +kernel, by decide +kernel⟩
abbrev s__law_changed : Stmt := top 33
abbrev N__law_changed : List Str := ["source", "rows", "parts", "spot", "way", "some", "odd", "found", "kind", "name", "place"]
theorem sc__law_changed : FnScope N__law_changed ["source", "rows", "parts"] (defScope s__law_changed) := ⟨rfl, rfl, rfl, by decide +kernel, rfl, by decide +kernel, by decide +kernel⟩
abbrev s__law_texts : Stmt := top 34
abbrev N__law_texts : List Str := ["rows", "row"]
theorem sc__law_texts : FnScope N__law_texts ["rows"] (defScope s__law_texts) := ⟨rfl, rfl, rfl, by decide +kernel, rfl, by decide +kernel, by decide +kernel⟩
abbrev s_law : Stmt := top 35
abbrev N_law : List Str := ["script", "k", "source", "turn", "parts", "rows", "told", "some", "case"]
theorem sc_law : FnScope N_law ["script"] (defScope s_law) := ⟨rfl, rfl, rfl, by decide +kernel, rfl, by decide +kernel, by decide +kernel⟩

structure Ad where
  f_is_integer : Addr
  f_is_item : Addr
  f_check_index : Addr
  f_has_kind : Addr
  f_are_records : Addr
  f_is_log : Addr
  f__law_source : Addr
  f__law_pick : Addr
  f__law_shuffled : Addr
  f__law_names : Addr
  f__law_make : Addr
  f__law_rows : Addr
  f__law_log : Addr
  f__law_things : Addr
  f__law_due : Addr
  f__law_right : Addr
  f__law_changed : Addr
  f__law_texts : Addr
  f_law : Addr
  c_Record : Addr
  c_Inserted : Addr
  c_Removed : Addr
  c_Fronted : Addr
  m_Record___init__ : Addr
  m_Record_text : Addr
  p_Record_text : Addr
  m_Record_item : Addr
  p_Record_item : Addr
structure Txt (K : PySem.W.Frag) (mg : Str → Option Value) (A : Ad) : Prop where
  mg_is_integer : mg "is_integer" = some (.ref A.f_is_integer)
  fn_is_integer : FnT K "is_integer" "is_integer" s_is_integer A.f_is_integer
  mg_is_item : mg "is_item" = some (.ref A.f_is_item)
  fn_is_item : FnT K "is_item" "is_item" s_is_item A.f_is_item
  mg_check_index : mg "check_index" = some (.ref A.f_check_index)
  fn_check_index : FnT K "check_index" "check_index" s_check_index A.f_check_index
  mg_has_kind : mg "has_kind" = some (.ref A.f_has_kind)
  fn_has_kind : FnT K "has_kind" "has_kind" s_has_kind A.f_has_kind
  mg_are_records : mg "are_records" = some (.ref A.f_are_records)
  fn_are_records : FnT K "are_records" "are_records" s_are_records A.f_are_records
  mg_is_log : mg "is_log" = some (.ref A.f_is_log)
  fn_is_log : FnT K "is_log" "is_log" s_is_log A.f_is_log
  mg__law_source : mg "_law_source" = some (.ref A.f__law_source)
  fn__law_source : FnT K "_law_source" "_law_source" s__law_source A.f__law_source
  mg__law_pick : mg "_law_pick" = some (.ref A.f__law_pick)
  fn__law_pick : FnT K "_law_pick" "_law_pick" s__law_pick A.f__law_pick
  mg__law_shuffled : mg "_law_shuffled" = some (.ref A.f__law_shuffled)
  fn__law_shuffled : FnT K "_law_shuffled" "_law_shuffled" s__law_shuffled A.f__law_shuffled
  mg__law_names : mg "_law_names" = some (.ref A.f__law_names)
  fn__law_names : FnT K "_law_names" "_law_names" s__law_names A.f__law_names
  mg__law_make : mg "_law_make" = some (.ref A.f__law_make)
  fn__law_make : FnT K "_law_make" "_law_make" s__law_make A.f__law_make
  mg__law_rows : mg "_law_rows" = some (.ref A.f__law_rows)
  fn__law_rows : FnT K "_law_rows" "_law_rows" s__law_rows A.f__law_rows
  mg__law_log : mg "_law_log" = some (.ref A.f__law_log)
  fn__law_log : FnT K "_law_log" "_law_log" s__law_log A.f__law_log
  mg__law_things : mg "_law_things" = some (.ref A.f__law_things)
  fn__law_things : FnT K "_law_things" "_law_things" s__law_things A.f__law_things
  mg__law_due : mg "_law_due" = some (.ref A.f__law_due)
  fn__law_due : FnT K "_law_due" "_law_due" s__law_due A.f__law_due
  mg__law_right : mg "_law_right" = some (.ref A.f__law_right)
  fn__law_right : FnT K "_law_right" "_law_right" s__law_right A.f__law_right
  mg__law_changed : mg "_law_changed" = some (.ref A.f__law_changed)
  fn__law_changed : FnT K "_law_changed" "_law_changed" s__law_changed A.f__law_changed
  mg__law_texts : mg "_law_texts" = some (.ref A.f__law_texts)
  fn__law_texts : FnT K "_law_texts" "_law_texts" s__law_texts A.f__law_texts
  mg_law : mg "law" = some (.ref A.f_law)
  fn_law : FnT K "law" "law" s_law A.f_law
  mg_Record : mg "Record" = some (.ref A.c_Record)
  mg_Inserted : mg "Inserted" = some (.ref A.c_Inserted)
  mg_Removed : mg "Removed" = some (.ref A.c_Removed)
  mg_Fronted : mg "Fronted" = some (.ref A.c_Fronted)
  mk_Record : Mk K A.c_Record A.m_Record___init__
  fn_Record___init__ : FnT K "__init__" "Record.__init__" s_Record___init__ A.m_Record___init__
  cl_Record : Cls K A.c_Record
  na_Record_item : NoAttr K A.c_Record "_item"
  na_Record_slot : NoAttr K A.c_Record "_slot"
  mk_Inserted : Mk K A.c_Inserted A.m_Record___init__
  cl_Inserted : Cls K A.c_Inserted
  na_Inserted_item : NoAttr K A.c_Inserted "_item"
  na_Inserted_slot : NoAttr K A.c_Inserted "_slot"
  mk_Removed : Mk K A.c_Removed A.m_Record___init__
  cl_Removed : Cls K A.c_Removed
  na_Removed_item : NoAttr K A.c_Removed "_item"
  na_Removed_slot : NoAttr K A.c_Removed "_slot"
  mk_Fronted : Mk K A.c_Fronted A.m_Record___init__
  cl_Fronted : Cls K A.c_Fronted
  na_Fronted_item : NoAttr K A.c_Fronted "_item"
  na_Fronted_slot : NoAttr K A.c_Fronted "_slot"
  cv_Record_MOST : ∃ mc u, ClX.CRead K A.c_Record mc ∧ ClX.CVal K A.c_Record mc "MOST" (.int 60) u
  cv_Record_SIGN : ∃ mc u, ClX.CRead K A.c_Record mc ∧ ClX.CVal K A.c_Record mc "SIGN" (.str "") u
  iv_Record_SIGN : ∃ u, Con K A.c_Record "SIGN" (.str "") u
  iv_Inserted_SIGN : ∃ u, Con K A.c_Inserted "SIGN" (.str "+") u
  iv_Removed_SIGN : ∃ u, Con K A.c_Removed "SIGN" (.str "-") u
  iv_Fronted_SIGN : ∃ u, Con K A.c_Fronted "SIGN" (.str "^") u
  mg_MOST_LETTERS : ∃ t, mg "MOST_LETTERS" = some (.int 8 t)
  mg_MOST_IN_LOG : ∃ t, mg "MOST_IN_LOG" = some (.int 40 t)
  kit_Record_Record : PySem.W.kitOne K (.ref A.c_Record) (.ref A.c_Record) = some true
  kit_Inserted_Record : PySem.W.kitOne K (.ref A.c_Inserted) (.ref A.c_Record) = some true
  kit_Removed_Record : PySem.W.kitOne K (.ref A.c_Removed) (.ref A.c_Record) = some true
  kit_Fronted_Record : PySem.W.kitOne K (.ref A.c_Fronted) (.ref A.c_Record) = some true
  kit_Record_Inserted : PySem.W.kitOne K (.ref A.c_Record) (.ref A.c_Inserted) = some false
  kit_Record_Removed : PySem.W.kitOne K (.ref A.c_Record) (.ref A.c_Removed) = some false
  kit_Record_Fronted : PySem.W.kitOne K (.ref A.c_Record) (.ref A.c_Fronted) = some false
  kit_Inserted_Inserted : PySem.W.kitOne K (.ref A.c_Inserted) (.ref A.c_Inserted) = some true
  kit_Inserted_Removed : PySem.W.kitOne K (.ref A.c_Inserted) (.ref A.c_Removed) = some false
  kit_Inserted_Fronted : PySem.W.kitOne K (.ref A.c_Inserted) (.ref A.c_Fronted) = some false
  kit_Removed_Inserted : PySem.W.kitOne K (.ref A.c_Removed) (.ref A.c_Inserted) = some false
  kit_Removed_Removed : PySem.W.kitOne K (.ref A.c_Removed) (.ref A.c_Removed) = some true
  kit_Removed_Fronted : PySem.W.kitOne K (.ref A.c_Removed) (.ref A.c_Fronted) = some false
  kit_Fronted_Inserted : PySem.W.kitOne K (.ref A.c_Fronted) (.ref A.c_Inserted) = some false
  kit_Fronted_Removed : PySem.W.kitOne K (.ref A.c_Fronted) (.ref A.c_Removed) = some false
  kit_Fronted_Fronted : PySem.W.kitOne K (.ref A.c_Fronted) (.ref A.c_Fronted) = some true
  kit_type_NoneType_Record : PySem.W.kitOne K (.type "NoneType") (.ref A.c_Record) = some false
  kit_type_NoneType_Inserted : PySem.W.kitOne K (.type "NoneType") (.ref A.c_Inserted) = some false
  kit_type_NoneType_Removed : PySem.W.kitOne K (.type "NoneType") (.ref A.c_Removed) = some false
  kit_type_NoneType_Fronted : PySem.W.kitOne K (.type "NoneType") (.ref A.c_Fronted) = some false
  kit_type_bool_Record : PySem.W.kitOne K (.type "bool") (.ref A.c_Record) = some false
  kit_type_bool_Inserted : PySem.W.kitOne K (.type "bool") (.ref A.c_Inserted) = some false
  kit_type_bool_Removed : PySem.W.kitOne K (.type "bool") (.ref A.c_Removed) = some false
  kit_type_bool_Fronted : PySem.W.kitOne K (.type "bool") (.ref A.c_Fronted) = some false
  kit_type_int_Record : PySem.W.kitOne K (.type "int") (.ref A.c_Record) = some false
  kit_type_int_Inserted : PySem.W.kitOne K (.type "int") (.ref A.c_Inserted) = some false
  kit_type_int_Removed : PySem.W.kitOne K (.type "int") (.ref A.c_Removed) = some false
  kit_type_int_Fronted : PySem.W.kitOne K (.type "int") (.ref A.c_Fronted) = some false
  kit_type_str_Record : PySem.W.kitOne K (.type "str") (.ref A.c_Record) = some false
  kit_type_str_Inserted : PySem.W.kitOne K (.type "str") (.ref A.c_Inserted) = some false
  kit_type_str_Removed : PySem.W.kitOne K (.type "str") (.ref A.c_Removed) = some false
  kit_type_str_Fronted : PySem.W.kitOne K (.type "str") (.ref A.c_Fronted) = some false
  kit_type_list_Record : PySem.W.kitOne K (.type "list") (.ref A.c_Record) = some false
  kit_type_list_Inserted : PySem.W.kitOne K (.type "list") (.ref A.c_Inserted) = some false
  kit_type_list_Removed : PySem.W.kitOne K (.type "list") (.ref A.c_Removed) = some false
  kit_type_list_Fronted : PySem.W.kitOne K (.type "list") (.ref A.c_Fronted) = some false
  kit_type_tuple_Record : PySem.W.kitOne K (.type "tuple") (.ref A.c_Record) = some false
  kit_type_tuple_Inserted : PySem.W.kitOne K (.type "tuple") (.ref A.c_Inserted) = some false
  kit_type_tuple_Removed : PySem.W.kitOne K (.type "tuple") (.ref A.c_Removed) = some false
  kit_type_tuple_Fronted : PySem.W.kitOne K (.type "tuple") (.ref A.c_Fronted) = some false
  kit_type_dict_Record : PySem.W.kitOne K (.type "dict") (.ref A.c_Record) = some false
  kit_type_dict_Inserted : PySem.W.kitOne K (.type "dict") (.ref A.c_Inserted) = some false
  kit_type_dict_Removed : PySem.W.kitOne K (.type "dict") (.ref A.c_Removed) = some false
  kit_type_dict_Fronted : PySem.W.kitOne K (.type "dict") (.ref A.c_Fronted) = some false
  kit_Record_type_list : PySem.W.kitOne K (.ref A.c_Record) (.type "list") = some false
  kit_Inserted_type_list : PySem.W.kitOne K (.ref A.c_Inserted) (.type "list") = some false
  kit_Removed_type_list : PySem.W.kitOne K (.ref A.c_Removed) (.type "list") = some false
  kit_Fronted_type_list : PySem.W.kitOne K (.ref A.c_Fronted) (.type "list") = some false
  pr_Record_text : PropOf K A.c_Record "text" A.p_Record_text A.m_Record_text
  fn_Record_text : FnT K "text" "Record.text" s_Record_text A.m_Record_text
  pr_Record_item : PropOf K A.c_Record "item" A.p_Record_item A.m_Record_item
  fn_Record_item : FnT K "item" "Record.item" s_Record_item A.m_Record_item
  pr_Inserted_text : PropOf K A.c_Inserted "text" A.p_Record_text A.m_Record_text
  pr_Inserted_item : PropOf K A.c_Inserted "item" A.p_Record_item A.m_Record_item
  pr_Removed_text : PropOf K A.c_Removed "text" A.p_Record_text A.m_Record_text
  pr_Removed_item : PropOf K A.c_Removed "item" A.p_Record_item A.m_Record_item
  pr_Fronted_text : PropOf K A.c_Fronted "text" A.p_Record_text A.m_Record_text
  pr_Fronted_item : PropOf K A.c_Fronted "item" A.p_Record_item A.m_Record_item
  ty_Record : InsT K A.c_Record
  ty_Inserted : InsT K A.c_Inserted
  ty_Removed : InsT K A.c_Removed
  ty_Fronted : InsT K A.c_Fronted
  no_abs : mg "abs" = none
  no_all : mg "all" = none
  no_bool : mg "bool" = none
  no_int : mg "int" = none
  no_isinstance : mg "isinstance" = none
  no_len : mg "len" = none
  no_list : mg "list" = none
  no_max : mg "max" = none
  no_min : mg "min" = none
  no_property : mg "property" = none
  no_range : mg "range" = none
  no_repr : mg "repr" = none
  no_set : mg "set" = none
  no_str : mg "str" = none
  no_tuple : mg "tuple" = none

/-! ### what is told of records -/
theorem ks : ¬ (("_item" : Str) = "_slot") := by decide +kernel
/-- the attributes of a record, in the order in which they are stored -/
def rfs (x : Str) (n : Int) : List (Str × V) := putF "_slot" (.int n) (putF "_item" (.str x) [])
theorem rfs_item (x : Str) (n : Int) : (rfs x n).lookup ("_item" : Str) = some (.str x) := by
  unfold rfs
  rw [lookup_putF, if_neg ks, lookup_putF, if_pos rfl]
theorem rfs_slot (x : Str) (n : Int) : (rfs x n).lookup ("_slot" : Str) = some (.int n) := by
  unfold rfs
  rw [lookup_putF, if_pos rfl]
theorem rfs_no (x : Str) (n : Int) {m : Str} (h1 : ¬ m = "_slot") (h2 : ¬ m = "_item") : (rfs x n).lookup m = none := by
  unfold rfs
  rw [lookup_putF, if_neg h1, lookup_putF, if_neg h2]
  all_goals rfl
theorem rfs_eq (x : Str) (n : Int) : rfs x n = ([("_item", V.str x), ("_slot", V.int n)] : List (Str × V)) := by
  show (if ("_item" : Str) = "_slot" then [(("_item" : Str), V.int n)] else (("_item" : Str), V.str x) :: putF "_slot" (V.int n) []) = _
  rw [if_neg ks]
  all_goals rfl
theorem rfs_put (x : Str) (n m : Int) : putF "_slot" (.int m) (rfs x n) = rfs x m := by
  rw [rfs_eq, rfs_eq]
  show (if ("_item" : Str) = "_slot" then _ else (("_item" : Str), V.str x) :: (if ("_slot" : Str) = "_slot" then [(("_slot" : Str), V.int m)] else _)) = _
  rw [if_neg ks, if_pos rfl]
theorem rfs_len (x : Str) (n : Int) : (rfs x n).length < 1000 := by
  rw [rfs_eq]
  exact Nat.lt_of_lt_of_le (Nat.lt_succ_self 2) (by decide)
theorem made_same {H H' : Hp} {p dx C : Addr} (np : H p = none) (nd : H dx = none) (b : But p (upd (upd H dx (.own p)) p (.ins C dx [])) H') : Same H H' := fun c o e =>
  b c o (by rw [upd_ne (ne_of_none e np), upd_ne (ne_of_none e nd)]; exact e) (ne_of_none e np)
structure RC (K : PySem.W.Frag) (C : Addr) : Prop where
  cl : Cls K C
  nI : NoAttr K C "_item"
  nS : NoAttr K C "_slot"
/-- the texts that are items -/
def isItem (x : Str) : Bool := decide (x.length ≤ 8) && (Txt.isascii x && (Txt.isalpha x && Txt.islower x))
/-- the class of a way -/
def cw (A : Ad) (way : Int) : Addr := if way = 0 then A.c_Inserted else if way = 1 then A.c_Removed else if way = 2 then A.c_Fronted else A.c_Record
theorem way4 {way : Int} (h0 : 0 ≤ way) (h1 : way ≤ 3) : way = 0 ∨ way = 1 ∨ way = 2 ∨ way = 3 := by omega
/-! ### the drawn numbers -/
/-- at p stands a source, from which at most n numbers were drawn -/
def SrcAt (H : Hp) (p : Addr) (n : Int) : Prop := ∃ g m c : Int, H p = some (.lst [.int g, .int m, .int c]) ∧ 0 ≤ m ∧ m < 2 ^ 140 ∧ 0 ≤ c ∧ c ≤ n
theorem SrcAt.but {H H' : Hp} {p a : Addr} {n : Int} (h : SrcAt H p n) (b : But a H H') (ne : p ≠ a) : SrcAt H' p n := by
  obtain ⟨g, m, c, e, r⟩ := h
  exact ⟨g, m, c, b _ _ e ne, r⟩
theorem SrcAt.same {H H' : Hp} {p : Addr} {n : Int} (h : SrcAt H p n) (b : Same H H') : SrcAt H' p n := by
  obtain ⟨g, m, c, e, r⟩ := h
  exact ⟨g, m, c, b _ _ e, r⟩

section
variable {P : Program} {w : World} {K : PySem.W.Frag} {mg : Str → Option Value} {base : Heap} {A : Ad}
/-! ### whole numbers, items, indices -/
def spYesInt : Sp := fun vs H Q _ => ∃ n : Int, vs = [.int n] ∧ Q (.bl true) H
theorem ok_is_integer (T : Txt K mg A) : Ok1 P w K mg base 1 A.f_is_integer ["thing"] spYesInt := by
  refine T.fn_is_integer.ok sc_is_integer (fun _ _ _ _ _ _ us hl => match us, hl with | [_], _ => rfl) (fun vs H Q E h => ?_) (fun cdv B up s H vs Q E hr h => ?_)
  · obtain ⟨n, rfl, _⟩ := h
    rfl
  · obtain ⟨n, rfl, h⟩ := h
    refine ⟨_, (pss_one (ps_ret (pe_and (pe_callB call_isi (by rfl) T.no_isinstance (by decide +kernel) (pa_cons (pv 0) (pa_cons (pe_bltn (v := .ty "int") (by rfl) T.no_int (by decide +kernel) rfl) pa_nil))) (pe_one (pe_not (pe_callB call_isi (by rfl) T.no_isinstance (by decide +kernel) (pa_cons (pv 0) (pa_cons (pe_bltn (v := .ty "bool") (by rfl) T.no_bool (by decide +kernel) rfl) pa_nil)))))))), ?_⟩
    refine ⟨_, rfl, _, _, _, _, _, rfl, .ty _, .base (.int _), kit_ty (r := true) (by decide +kernel), _, rfl, iteT ?_⟩
    exact ⟨_, rfl, _, _, _, _, _, rfl, .ty _, .base (.int _), kit_ty (r := false) (by decide +kernel), _, rfl, h⟩

def spIsItem : Sp := fun vs H Q _ => ∃ x : Str, vs = [.str x] ∧ x.length ≤ 1000000 ∧ Q (.bl (isItem x)) H
theorem ok_is_item (T : Txt K mg A) : Ok1 P w K mg base 1 A.f_is_item ["thing"] spIsItem := by
  refine T.fn_is_item.ok sc_is_item (fun _ _ _ _ _ _ us hl => match us, hl with | [_], _ => rfl) (fun vs H Q E h => ?_) (fun cdv B up s H vs Q E hr h => ?_)
  · obtain ⟨n, rfl, _⟩ := h
    rfl
  · obtain ⟨x, rfl, hx, h⟩ := h
    refine ⟨_, (pss_cons (ps_if (PW.pt (pw_or (pt_not (pt_val (pe_callB call_isi (by rfl) T.no_isinstance (by decide +kernel) (pa_cons (pv 0) (pa_cons (pe_bltn (v := .ty "str") (by rfl) T.no_str (by decide +kernel) rfl) pa_nil))))) (pw_or1 (pt_cmpR op_gt (pe_callB call_len (by rfl) T.no_len (by decide +kernel) (pa_cons (pv 0) pa_nil)) (pe_globC T.mg_MOST_LETTERS) (nomark _))))) (pss_one (ps_ret pe_bl)) pss_nil)
      (pss_one (ps_ret (pe_and (pe_bm0 PySem.F.plainAttrs_str PySem.F.slot_str_isascii PySem.F.type_str_isascii mt_isascii (pv 0)) (pe_and (pe_bm0 PySem.F.plainAttrs_str PySem.F.slot_str_isalpha PySem.F.type_str_isalpha mt_isalpha (pv 0)) (pe_one (pe_bm0 PySem.F.plainAttrs_str PySem.F.slot_str_islower PySem.F.type_str_islower mt_islower (pv 0)))))))), ?_⟩
    refine ⟨_, rfl, _, _, _, _, _, rfl, .ty _, .base (.str _), kit_ty (r := true) (by decide +kernel), ?_⟩
    refine ⟨_, rfl, ?_⟩
    refine iteF ?_
    refine ⟨_, rfl, _, _, rfl, ⟨szS hx, rfl⟩, _, _, rfl, rfl, _, rfl, ?_⟩
    unfold isItem at h
    refine ite2 (fun c => ?_) (fun c => ?_)
    · have e : decide (x.length ≤ 8) = false := decide_eq_false (by have := of_decide_eq_true c; omega)
      rw [e] at h
      exact h
    · have e : decide (x.length ≤ 8) = true := decide_eq_true (by have := of_decide_eq_false (Bool.eq_false_iff.mpr c); omega)
      rw [e, Bool.true_and] at h
      refine ⟨_, rfl, rfl, _, rfl, rfl, trivial, _, rfl, ?_⟩
      refine ite2 (fun c1 => ?_) (fun c1 => ?_)
      · rw [c1, Bool.true_and] at h
        refine ⟨_, rfl, rfl, _, rfl, rfl, trivial, _, rfl, ?_⟩
        refine ite2 (fun c2 => ?_) (fun c2 => ?_)
        · rw [c2, Bool.true_and] at h
          exact ⟨_, rfl, rfl, _, rfl, rfl, trivial, h⟩
        · rw [Bool.eq_false_iff.mpr c2] at h
          exact h
      · rw [Bool.eq_false_iff.mpr c1] at h
        exact h
def spIndex : Sp := fun vs H Q _ => ∃ n : Int, vs = [.int n] ∧ 0 ≤ n ∧ n ≤ 60 ∧ Q .non H
theorem ok_check_index (T : Txt K mg A) : Ok1 P w K mg base 2 A.f_check_index ["slot"] spIndex := by
  refine T.fn_check_index.ok sc_check_index (fun _ _ _ _ _ _ us hl => match us, hl with | [_], _ => rfl) (fun vs H Q E h => ?_) (fun cdv B up s H vs Q E hr h => ?_)
  · obtain ⟨n, rfl, _⟩ := h
    rfl
  · obtain ⟨n, rfl, h0, h1, h⟩ := h
    refine ⟨_, (pss_one (ps_if (PW.pt (pw_or (pt_not (pt_val (po_call (ok_is_integer T) (hr.mono (by decide)) T.mg_is_integer (pa_cons (pv 0) pa_nil)))) (pw_or1 (pt_not (pt_chain op_le op_le pe_int (pv 0) (pe_clsv T.cv_Record_MOST (pe_glob (v := .ref A.c_Record) rfl T.mg_Record rfl))))))) (pss_one ps_never) pss_nil)), ?_⟩
    refine ⟨_, rfl, _, rfl, _, rfl, ?_⟩
    refine iteF ?_
    refine ⟨_, rfl, _, _, rfl, rfl, _, rfl, ?_⟩
    rw [decide_eq_true h0]
    refine iteT ?_
    refine ⟨_, _, rfl, rfl, _, rfl, ?_⟩
    rw [decide_eq_true h1]
    exact iteF h

/-! ### the records' own defs -/
theorem rc_Record (T : Txt K mg A) : RC K A.c_Record := ⟨T.cl_Record, T.na_Record_item, T.na_Record_slot⟩
theorem rc_Inserted (T : Txt K mg A) : RC K A.c_Inserted := ⟨T.cl_Inserted, T.na_Inserted_item, T.na_Inserted_slot⟩
theorem rc_Removed (T : Txt K mg A) : RC K A.c_Removed := ⟨T.cl_Removed, T.na_Removed_item, T.na_Removed_slot⟩
theorem rc_Fronted (T : Txt K mg A) : RC K A.c_Fronted := ⟨T.cl_Fronted, T.na_Fronted_item, T.na_Fronted_slot⟩
def spInit (K : PySem.W.Frag) : Sp := fun vs H Q _ => ∃ (p C dx : Addr) (x : Str) (n : Int), vs = [.ref p, .str x, .int n] ∧ H p = some (.ins C dx []) ∧ RC K C ∧ isItem x = true ∧ 0 ≤ n ∧ n ≤ 60 ∧
  ∀ H' : Hp, H' p = some (.ins C dx (rfs x n)) → But p H H' → Q .non H'
theorem item_len {x : Str} (h : isItem x = true) : x.length ≤ 8 := by
  unfold isItem at h
  rw [Bool.and_eq_true] at h
  exact of_decide_eq_true h.1
theorem ok_Record___init__ (T : Txt K mg A) : Ok1 P w K mg base 3 A.m_Record___init__ ["self", "item", "slot"] (spInit K) := by
  refine T.fn_Record___init__.ok sc_Record___init__ (fun _ _ _ _ _ _ us hl => match us, hl with | [_, _, _], _ => rfl) (fun vs H Q E h => ?_) (fun cdv B up s H vs Q E hr h => ?_)
  · obtain ⟨p, C, dx, x, n, rfl, _⟩ := h
    rfl
  · obtain ⟨p, C, dx, x, n, rfl, hp, R, hi, h0, h1, h⟩ := h
    refine ⟨_, (pss_cons (ps_if (pt_not (pt_val (po_call (ok_is_item T) (hr.mono (by decide)) T.mg_is_item (pa_cons (pv 1) pa_nil)))) (pss_one ps_never) pss_nil)
      (pss_cons (ps_expr (po_call (ok_check_index T) (hr.mono (by decide)) T.mg_check_index (pa_cons (pv 2) pa_nil)))
      (pss_cons (ps_fld (pv 0) (pv 1) rfl)
      (pss_one (ps_fld (pv 0) (pv 2) rfl))))), ?_⟩
    refine ⟨_, rfl, _, rfl, Nat.le_trans (item_len hi) (by decide), _, rfl, ?_⟩
    rw [hi]
    refine iteF ?_
    refine ⟨_, rfl, _, rfl, h0, h1, ?_⟩
    refine ⟨_, rfl, _, rfl, p, C, dx, _, rfl, hp, R.cl, R.nI, (by decide), ?_⟩
    refine ⟨_, rfl, _, rfl, p, C, dx, _, rfl, upd_same, R.cl, R.nS, (by show 1 < 1000; decide), ?_⟩
    exact h _ upd_same (But.upd.trans But.upd)

/-! ### the law's own defs -/
theorem big39 : ((10 : Int) ^ (39 : Int).toNat + 153) = 1000000000000000000000000000000000000153 := by decide +kernel
theorem big41 : ((10 : Int) ^ (41 : Int).toNat + 109) = 100000000000000000000000000000000000000109 := by decide +kernel
theorem big38 : ((10 : Int) ^ (38 : Int).toNat + 133) = 100000000000000000000000000000000000133 := by decide +kernel
theorem atI0 {α : Type} (a : α) (l : List α) : atI (a :: l) 0 = some a := atI_nat (j := 0) rfl
def spSource (K : PySem.W.Frag) : Sp := fun vs H Q _ => ∃ (a : Addr) (ns : List Int) (k : Nat), vs = [.ref a, .int k] ∧ SqL K H a (ns.map V.int) ∧ k < 64 ∧
  ∀ (p : Addr) (H' : Hp), Same H H' → H p = none → SrcAt H' p 0 → Q (.ref p) H'
theorem ok__law_source (T : Txt K mg A) : Ok1 P w K mg base 1 A.f__law_source ["script", "k"] (spSource K) := by
  refine T.fn__law_source.ok sc__law_source (fun _ _ _ _ _ _ us hl => match us, hl with | [_, _], _ => rfl) (fun vs H Q E h => ?_) (fun cdv B up s H vs Q E hr h => ?_)
  · obtain ⟨a, ns, k, rfl, _⟩ := h
    rfl
  · obtain ⟨a, ns, k, rfl, hS, hk, h⟩ := h
    refine ⟨_, (pss_mid (ps_set (i := 2) sc__law_source.nd rfl (Or.inl rfl) (pe_ifExp (pt_cmpR op_lt (pv 1) (pe_callB call_len (by rfl) T.no_len (by decide +kernel) (pa_cons (pv 0) pa_nil)) (nomark _)) (pe_callB call_abs (by rfl) T.no_abs (by decide +kernel) (pa_cons (pe_ix ix_seq (pv 0) (pv 1) (fun _ _ => rfl)) pa_nil)) pe_int))
      (pss_one (ps_ret (pe_lst (pa_cons (pe_callB (call_max2 rfl) (by rfl) T.no_max (by decide +kernel) (pa_cons pe_int (pa_cons (pe_op op_sub (pv 2) (pe_op op_powX pe_int pe_int)) pa_nil))) (pa_cons (pe_op op_addX (pe_op op_mulX (pe_op op_mod (pv 2) (pe_op op_addX (pe_op op_powX pe_int pe_int) pe_int)) pe_int) (pv 1)) (pa_cons pe_int pa_nil))))))), ?_⟩
    refine ⟨fun σ1 H1 => H1 = H ∧ ∃ c : Int, σ1 = [some (.ref a), some (.int k), some (.int c)], ?_, ?_⟩
    · refine ⟨_, rfl, _, rfl, _, _, rfl, .inl ⟨_, hS, rfl⟩, _, _, rfl, rfl, _, rfl, ?_⟩
      refine ite2 (fun c => ?_) (fun _ => ⟨rfl, 0, rfl⟩)
      have hkn : k < ns.length := by
        have := of_decide_eq_true c
        rw [List.length_map] at this
        omega
      refine ⟨_, rfl, _, rfl, .inl ⟨_, _, _, .int ns[k], rfl, rfl, hS, atI_nat (by simp [hkn]), ?_⟩⟩
      exact ⟨_, rfl, rfl, _, rfl⟩
    · rintro σ1 H1 ⟨rfl, c, rfl⟩
      refine ⟨_, rfl, _, _, rfl, rfl, ⟨by decide, by decide, by decide +kernel⟩, _, _, rfl, rfl, _, _, rfl, ?_⟩
      refine ⟨_, rfl, _, _, rfl, rfl, ⟨by decide, by decide, by decide +kernel⟩, .inl ⟨_, _, rfl, rfl, ?_⟩⟩
      dsimp only
      rw [big39]
      have e0 := Int.emod_nonneg c (show (1000000000000000000000000000000000000153 : Int) ≠ 0 by decide)
      have e1 := Int.emod_lt_of_pos c (show (0 : Int) < 1000000000000000000000000000000000000153 by decide)
      refine ⟨_, _, rfl, rfl, (by show (0 : Int) < _; decide), .inl ⟨_, _, rfl, rfl, wide_mul (a := 140) (b := 7) ?_ (by decide) (by decide) (by decide) (by decide), ?_⟩⟩
      · omega
      refine ⟨_, rfl, .inl ⟨_, _, rfl, rfl, ?_⟩⟩
      refine ⟨Nat.le_of_ble_eq_true rfl, fun p hp => ?_⟩
      refine h p _ (Same.new hp) hp ⟨_, _, 0, upd_same, ?_⟩
      omega
def spPick : Sp := fun vs H Q _ => ∃ (a : Addr) (size n : Int), vs = [.ref a, .int size] ∧ 0 < size ∧ size < 2 ^ 200 ∧ SrcAt H a n ∧ n < 2 ^ 60 ∧
  ∀ (r : Int) (H' : Hp), 0 ≤ r → r < size → SrcAt H' a (n + 1) → But a H H' → Q (.int r) H'
theorem ok__law_pick (T : Txt K mg A) : Ok1 P w K mg base 1 A.f__law_pick ["source", "size"] spPick := by
  refine T.fn__law_pick.ok sc__law_pick (fun _ _ _ _ _ _ us hl => match us, hl with | [_, _], _ => rfl) (fun vs H Q E h => ?_) (fun cdv B up s H vs Q E hr h => ?_)
  · obtain ⟨a, size, n, rfl, _⟩ := h
    rfl
  · obtain ⟨a, size, n, rfl, hs, hs2, ⟨g, m, c, ha, hm0, hm1, hc0, hc1⟩, hn, h⟩ := h
    have hz : CDivW g size := wide_div (b := 200) hs (by omega) (by decide) (by decide)
    refine ⟨_, (pss_cons (ps_if (pt_cmpR op_gt (pe_ix ix_seq (pv 0) pe_int (fun _ _ => rfl)) pe_int (nomark _)) (pss_cons (ps_set (i := 2) sc__law_pick.nd rfl (Or.inl rfl) (pe_op op_mod (pe_ix ix_seq (pv 0) pe_int (fun _ _ => rfl)) (pv 1)))
      (pss_cons (ps_asg (pe_op op_fdivX (pe_ix ix_seq (pv 0) pe_int (fun _ _ => rfl)) (pv 1)) (pg_sub (pv 0) pe_int set_list))
      (pss_one (ps_ret (pv 2))))) pss_nil)
      (pss_cons (ps_asg (pe_op op_addX (pe_ix ix_seq (pv 0) pe_int (fun _ _ => rfl)) pe_int) (pg_sub (pv 0) pe_int set_list))
      (pss_cons (ps_set (i := 3) sc__law_pick.nd rfl (Or.inl rfl) (pe_op op_mod (pe_op op_powX (pe_op op_addX (pe_ix ix_seq (pv 0) pe_int (fun _ _ => rfl)) (pe_op op_mulX pe_int (pe_ix ix_seq (pv 0) pe_int (fun _ _ => rfl)))) pe_int) (pe_op op_addX (pe_op op_powX pe_int pe_int) pe_int)))
      (pss_cons (ps_set (i := 3) sc__law_pick.nd rfl (Or.inl rfl) (pe_op op_mod (pe_op op_powX (pe_op op_addX (pv 3) (pe_op op_mulX pe_int (pe_ix ix_seq (pv 0) pe_int (fun _ _ => rfl)))) pe_int) (pe_op op_addX (pe_op op_powX pe_int pe_int) pe_int)))
      (pss_one (ps_ret (pe_op op_mod (pe_op op_fdivX (pv 3) pe_int) (pv 1)))))))), ?_⟩
    refine ⟨_, rfl, .inl ⟨_, _, _, _, rfl, rfl, SqL.of ha, rfl, _, _, rfl, rfl, _, rfl, ?_⟩⟩
    refine ite2 (fun _ => ?_) (fun _ => ?_)
    · -- the digits of a large cell
      refine ⟨_, rfl, .inl ⟨_, _, _, _, rfl, rfl, SqL.of ha, rfl, _, rfl, _, _, rfl, rfl, hs, ?_⟩⟩
      refine ⟨_, rfl, .inl ⟨_, _, _, _, rfl, rfl, SqL.of ha, rfl, _, rfl, _, _, rfl, rfl, hz, ?_⟩⟩
      refine ⟨_, rfl, _, _, _, _, rfl, rfl, ha, rfl, ?_⟩
      refine ⟨_, rfl, h _ _ (Int.emod_nonneg _ (by omega)) (Int.emod_lt_of_pos _ hs) ⟨_, m, c, upd_same, hm0, hm1, hc0, by omega⟩ But.upd⟩
    · -- source[2] = source[2] + 1
      refine ⟨_, rfl, .inl ⟨_, _, _, _, rfl, rfl, SqL.of ha, rfl, .inl ⟨_, _, rfl, rfl, ?_⟩⟩⟩
      refine ⟨_, rfl, _, _, _, _, rfl, rfl, ha, rfl, ?_⟩
      -- mixed
      refine ⟨_, rfl, .inl ⟨_, _, _, _, rfl, rfl, SqL.of upd_same, rfl, ?_⟩⟩
      refine ⟨_, rfl, .inl ⟨_, _, _, _, rfl, rfl, SqL.of upd_same, rfl, ?_⟩⟩
      refine .inl ⟨_, _, rfl, rfl, wide_mul (a := 30) (b := 62) (by decide) (by omega) (by decide) (by decide) (by decide), .inl ⟨_, _, rfl, rfl, ?_⟩⟩
      have b1 : (m + 86028121 * (c + 1)).natAbs < 2 ^ 150 := by omega
      refine ⟨_, _, rfl, rfl, cpow (by decide) (by decide) b1 (by decide) (by decide), _, _, rfl, rfl, ⟨by decide, by decide, by decide +kernel⟩, .inl ⟨_, _, rfl, rfl, ?_⟩⟩
      dsimp only
      rw [big41]
      refine ⟨_, _, rfl, rfl, (by show (0 : Int) < _; decide), ?_⟩
      dsimp only
      generalize (m + 86028121 * (c + 1)) ^ (3 : Int).toNat = z1
      have e0 := Int.emod_nonneg z1 (show (100000000000000000000000000000000000000109 : Int) ≠ 0 by decide)
      have e1 := Int.emod_lt_of_pos z1 (show (0 : Int) < 100000000000000000000000000000000000000109 by decide)
      generalize z1 % 100000000000000000000000000000000000000109 = y1 at e0 e1 ⊢
      refine ⟨_, rfl, _, rfl, .inl ⟨_, _, _, _, rfl, rfl, SqL.of upd_same, rfl, ?_⟩⟩
      refine .inl ⟨_, _, rfl, rfl, wide_mul (a := 30) (b := 62) (by decide) (by omega) (by decide) (by decide) (by decide), .inl ⟨_, _, rfl, rfl, ?_⟩⟩
      have b2 : (y1 + 122949823 * (c + 1)).natAbs < 2 ^ 150 := by omega
      refine ⟨_, _, rfl, rfl, cpow (by decide) (by decide) b2 (by decide) (by decide), _, _, rfl, rfl, ⟨by decide, by decide, by decide +kernel⟩, .inl ⟨_, _, rfl, rfl, ?_⟩⟩
      dsimp only
      rw [big38]
      refine ⟨_, _, rfl, rfl, (by show (0 : Int) < _; decide), ?_⟩
      dsimp only
      generalize (y1 + 122949823 * (c + 1)) ^ (5 : Int).toNat = z2
      generalize z2 % 100000000000000000000000000000000000133 = y2
      refine ⟨_, rfl, _, _, rfl, rfl, wide_div (b := 30) (by decide) (by decide) (by decide) (by decide), _, rfl, _, _, rfl, rfl, hs, ?_⟩
      exact h _ _ (Int.emod_nonneg _ (by omega)) (Int.emod_lt_of_pos _ hs) ⟨_, m, c + 1, upd_same, hm0, hm1, by omega, by omega⟩ But.upd
theorem eq_dec {a b : Int} (h : decide (V.int a = V.int b) = true) : a = b := V.int.inj (of_decide_eq_true h)
theorem ne_dec {a b : Int} (h : ¬ decide (V.int a = V.int b) = true) : a ≠ b := fun e => h (decide_eq_true (by rw [e]))
def spMake (A : Ad) : Sp := fun vs H Q _ => ∃ (way n : Int) (x : Str), vs = [.int way, .str x, .int n] ∧ 0 ≤ way ∧ way ≤ 3 ∧ isItem x = true ∧ 0 ≤ n ∧ n ≤ 60 ∧
  ∀ (p dx : Addr) (H' : Hp), Same H H' → H p = none → H' p = some (.ins (cw A way) dx (rfs x n)) → Q (.ref p) H'
theorem ok__law_make (T : Txt K mg A) : Ok1 P w K mg base 5 A.f__law_make ["way", "name", "place"] (spMake A) := by
  refine T.fn__law_make.ok sc__law_make (fun _ _ _ _ _ _ us hl => match us, hl with | [_, _, _], _ => rfl) (fun vs H Q E h => ?_) (fun cdv B up s H vs Q E hr h => ?_)
  · obtain ⟨way, n, x, rfl, _⟩ := h
    rfl
  · obtain ⟨way, n, x, rfl, w0, w1, hi, h0, h1, h⟩ := h
    refine ⟨_, (pss_cons (ps_if (pt_cmpR (op_eqX hr) (pv 0) pe_int (nomark _)) (pss_one (ps_ret (po_make T.mk_Inserted (ok_Record___init__ T) (hr.mono (by decide)) T.mg_Inserted (pa_cons (pv 1) (pa_cons (pv 2) pa_nil))))) pss_nil)
      (pss_cons (ps_if (pt_cmpR (op_eqX hr) (pv 0) pe_int (nomark _)) (pss_one (ps_ret (po_make T.mk_Removed (ok_Record___init__ T) (hr.mono (by decide)) T.mg_Removed (pa_cons (pv 1) (pa_cons (pv 2) pa_nil))))) pss_nil)
      (pss_one (ps_ret (pe_ifExp (pt_cmpR (op_eqX hr) (pv 0) pe_int (nomark _)) (po_make T.mk_Fronted (ok_Record___init__ T) (hr.mono (by decide)) T.mg_Fronted (pa_cons (pv 1) (pa_cons (pv 2) pa_nil))) (po_make T.mk_Record (ok_Record___init__ T) (hr.mono (by decide)) T.mg_Record (pa_cons (pv 1) (pa_cons (pv 2) pa_nil)))))))), ?_⟩
    refine ⟨_, rfl, .inl ⟨rfl, _, rfl, ?_⟩⟩
    refine ite2 (fun c => ?_) (fun c => ?_)
    · obtain rfl := eq_dec c
      exact ⟨_, rfl, _, rfl, fun p dx np nd ne => ⟨p, _, dx, x, n, rfl, upd_same, rc_Inserted T, hi, h0, h1, fun H' e b => ⟨rfl, h p dx H' (made_same np nd b) np e⟩⟩⟩
    have c0 := ne_dec c
    refine ⟨_, rfl, .inl ⟨rfl, _, rfl, ?_⟩⟩
    refine ite2 (fun c => ?_) (fun c => ?_)
    · obtain rfl := eq_dec c
      exact ⟨_, rfl, _, rfl, fun p dx np nd ne => ⟨p, _, dx, x, n, rfl, upd_same, rc_Removed T, hi, h0, h1, fun H' e b => ⟨rfl, h p dx H' (made_same np nd b) np e⟩⟩⟩
    have c1 := ne_dec c
    refine ⟨_, rfl, .inl ⟨rfl, _, rfl, ?_⟩⟩
    refine ite2 (fun c => ?_) (fun c => ?_)
    · obtain rfl := eq_dec c
      exact ⟨_, rfl, _, rfl, fun p dx np nd ne => ⟨p, _, dx, x, n, rfl, upd_same, rc_Fronted T, hi, h0, h1, fun H' e b => ⟨rfl, h p dx H' (made_same np nd b) np e⟩⟩⟩
    have c2 := ne_dec c
    obtain rfl : way = 3 := by omega
    exact ⟨_, rfl, _, rfl, fun p dx np nd ne => ⟨p, _, dx, x, n, rfl, upd_same, rc_Record T, hi, h0, h1, fun H' e b => ⟨rfl, h p dx H' (made_same np nd b) np e⟩⟩⟩

/-- the law's own state: what stood at first stands, and p is the source -/
structure Sd (H0 : Hp) (p : Addr) (n : Int) (H : Hp) : Prop where
  same : Same H0 H
  src : SrcAt H p n
  fr : H0 p = none
theorem Sd.pick {H0 H H' : Hp} {p : Addr} {n : Int} (s : Sd H0 p n H) (b : But p H H') (r : SrcAt H' p (n + 1)) : Sd H0 p (n + 1) H' := ⟨s.same.but s.fr b, r, s.fr⟩
theorem Sd.more {H0 H H' : Hp} {p : Addr} {n : Int} (s : Sd H0 p n H) (e : Same H H') : Sd H0 p n H' := ⟨s.same.trans e, s.src.same e, s.fr⟩
theorem Sd.le {H0 H : Hp} {p : Addr} {n m : Int} (s : Sd H0 p n H) (h : n ≤ m) : Sd H0 p m H := by
  obtain ⟨a, ⟨g, m', c, e, h0, h1, h2, h3⟩, f⟩ := s
  exact ⟨a, ⟨g, m', c, e, h0, h1, h2, by omega⟩, f⟩
theorem Sd.ne {H0 H : Hp} {p q : Addr} {n : Int} (s : Sd H0 p n H) (h : H q = none) : q ≠ p := fun e => by
  obtain ⟨g, m', c, z, _⟩ := s.src
  rw [e, z] at h
  cases h
theorem pickI {zs : List Int} {r : Int} (C : Int → Prop) (hC : ∀ z ∈ zs, C z) (h0 : 0 ≤ r) (h1 : r < zs.length) : ∃ z, atI (zs.map V.int) r = some (.int z) ∧ C z := by
  obtain ⟨j, rfl⟩ : ∃ j : Nat, r = j := ⟨r.toNat, by omega⟩
  have hj : j < zs.length := by omega
  exact ⟨zs[j], atI_nat (by simp [hj]), hC _ (List.getElem_mem hj)⟩
theorem at_map {zs : List Int} {i : Nat} {y : V} (h : (zs.map V.int)[i]? = some y) : ∃ z ∈ zs, y = .int z := by
  rw [List.getElem?_map] at h
  cases e : zs[i]? with
  | none => rw [e] at h; cases h
  | some z => rw [e] at h; exact ⟨z, List.mem_of_getElem? e, (Option.some.inj h).symm⟩
/-! ### slices of lists of texts -/
theorem cut_to (xs : List Str) (k : Nat) (h : k ≤ xs.length) : cutV (xs.map V.str) none (some (k : Int)) = (xs.take k).map V.str := by
  unfold cutV
  rw [HT.sIx_none, HT.sIx_nat, List.length_map, Nat.min_eq_left h, List.drop_zero, Nat.sub_zero, List.map_take]
theorem cut_from (xs : List Str) (k : Nat) (h : k ≤ xs.length) : cutV (xs.map V.str) (some (k : Int)) none = (xs.drop k).map V.str := by
  unfold cutV
  rw [HT.sIx_none, HT.sIx_nat, List.length_map, Nat.min_eq_left h, ← List.map_drop, ← List.map_take]
  rw [List.take_of_length_le (by rw [List.length_drop]; exact Nat.le_refl _)]
theorem cut_to' (xs : List Str) (k : Nat) : cutV (xs.map V.str) none (some (k : Int)) = (xs.take k).map V.str := by
  rcases Nat.lt_or_ge xs.length k with h | h
  · unfold cutV
    rw [HT.sIx_none, HT.sIx_nat, List.length_map, Nat.min_eq_right (Nat.le_of_lt h), List.drop_zero, Nat.sub_zero, List.map_take, List.take_of_length_le (by simp), List.take_of_length_le (by simp; omega)]
  · exact cut_to xs k h
theorem cut_from' (xs : List Str) (k : Nat) : cutV (xs.map V.str) (some (k : Int)) none = (xs.drop k).map V.str := by
  rcases Nat.lt_or_ge xs.length k with h | h
  · unfold cutV
    rw [HT.sIx_none, HT.sIx_nat, List.length_map, Nat.min_eq_right (Nat.le_of_lt h), List.drop_of_length_le (show xs.length ≤ k by omega), Nat.sub_self, List.take_zero]
    rfl
  · exact cut_from xs k h
theorem cut_both (xs : List Str) (j k : Nat) : cutV (xs.map V.str) (some (j : Int)) (some (k : Int)) = ((xs.take k).drop j).map V.str := by
  unfold cutV
  rw [HT.sIx_nat, HT.sIx_nat, List.length_map, List.drop_take, List.map_take, List.map_drop]
  rcases Nat.lt_or_ge xs.length j with h | h
  · rw [Nat.min_eq_right (Nat.le_of_lt h), List.drop_of_length_le (by simp), List.drop_of_length_le (by simp; omega)]
    simp
  · rw [Nat.min_eq_left h]
    rcases Nat.lt_or_ge xs.length k with h2 | h2
    · rw [Nat.min_eq_right (Nat.le_of_lt h2), List.take_of_length_le (by simp), List.take_of_length_le (by simp; omega)]
    · rw [Nat.min_eq_left h2]

/-! ### names -/
def letters26 : Str := "abcdefghijklmnopqrstuvwxyz"
def letr (k : Nat) : Str := ⟨#[97 + k]⟩
theorem letters_at {j : Int} (h0 : 0 ≤ j) (h1 : j < 26) : atI letters26.cps.toList j = some (97 + j.toNat) := by
  obtain ⟨k, rfl⟩ : ∃ k : Nat, j = k := ⟨j.toNat, by omega⟩
  refine atI_nat ?_
  have hk : k < 26 := by omega
  have all : ∀ k : Fin 26, letters26.cps.toList[(k : Nat)]? = some (97 + (k : Nat)) := by decide +kernel
  exact all ⟨k, hk⟩
def two (j : Nat) : Str := letr (j / 26) ++ letr (j % 26)
/-- the j-th name of a style -/
def nm (style j : Nat) : Str := if style = 0 then (if j < 26 then letr j else letr (j / 26 - 1) ++ letr (j % 26)) else if style = 1 then two j else "abcdef" ++ two j
theorem nm_item {style j : Nat} (hs : style < 3) (hj : j < 70) : isItem (nm style j) = true := by
  have all : ∀ (s : Fin 3) (j : Fin 70), isItem (nm s j) = true := by decide +kernel
  exact all ⟨style, hs⟩ ⟨j, hj⟩
theorem nm_inj {style i j : Nat} (hs : style < 3) (hi : i < 70) (hj : j < 70) (e : nm style i = nm style j) : i = j := by
  have all : ∀ (s : Fin 3) (i j : Fin 70), nm s i = nm s j → i = j := by decide +kernel
  have := all ⟨style, hs⟩ ⟨i, hi⟩ ⟨j, hj⟩ e
  exact congrArg Fin.val this
theorem nm_nodup {style many : Nat} (hs : style < 3) (hm : many ≤ 70) : ((List.range many).map (nm style)).Nodup := by
  rw [List.nodup_iff_pairwise_ne, List.pairwise_map]
  refine List.Pairwise.imp_of_mem (fun {i j} hi hj ne e => ne ?_) List.nodup_range
  rw [List.mem_range] at hi hj
  exact nm_inj hs (by omega) (by omega) e
/-- different items -/
structure Items (xs : List Str) : Prop where
  it : ∀ x ∈ xs, isItem x = true
  nd : xs.Nodup
theorem Items.perm {xs ys : List Str} (h : Items xs) (p : ys.Perm xs) : Items ys := ⟨fun x hx => h.it x (p.mem_iff.mp hx), p.nodup_iff.mpr h.nd⟩
theorem Items.len {xs : List Str} (h : Items xs) {x : Str} (hx : x ∈ xs) : x.length ≤ 8 := item_len (h.it x hx)

end
end Own

set_option Elab.async false
set_option linter.all false
set_option maxRecDepth 100000
set_option maxHeartbeats 4000000
namespace Own
open PySem L2 ClX
local macro_rules | `(tactic| walk_at "v") => `(tactic| refine ⟨_, rfl, ?_⟩)
local macro_rules | `(tactic| walk_at "ii") => `(tactic| refine ⟨_, _, rfl, rfl, ?_⟩)
local macro_rules | `(tactic| walk_at "go") => `(tactic| repeat (first | refine ⟨_, rfl, ?_⟩ | refine ⟨_, _, rfl, rfl, ?_⟩ | refine addI ?_ | refine L2.iteT ?_ | refine L2.iteF ?_))

section
variable {P : Program} {w : World} {K : PySem.W.Frag} {mg : Str → Option Value} {base : Heap} {A : Ad}
/-! ### shuffled -/
theorem seqIx {r : Int} {n : Nat} (h0 : 0 ≤ r) (h1 : r < n) : seqIndex? r n = some r.toNat := by
  have h2 : ¬ r < 0 := by omega
  simp [seqIndex?, h2, h0, h1]
theorem erase_perm {α : Type} : ∀ (l : List α) (k : Nat) (h : k < l.length), (l[k] :: l.eraseIdx k).Perm l
  | _ :: _, 0, _ => List.Perm.refl _
  | x :: l, k + 1, h => (List.Perm.swap x _ (l.eraseIdx k)).trans ((erase_perm l k (Nat.lt_of_succ_lt_succ h)).cons x)
theorem perm_out {α : Type} (done rest : List α) (k : Nat) (h : k < rest.length) : ((done ++ [rest[k]]) ++ rest.eraseIdx k).Perm (done ++ rest) := by
  rw [List.append_assoc]
  exact List.Perm.append_left _ (erase_perm rest k h)
theorem map_eraseIdx {α β : Type} (f : α → β) : ∀ (l : List α) (k : Nat), (l.map f).eraseIdx k = (l.eraseIdx k).map f
  | [], _ => rfl
  | _ :: _, 0 => rfl
  | x :: l, k + 1 => congrArg (f x :: ·) (map_eraseIdx f l k)
def spShuf : Sp := fun vs H Q _ => ∃ (p r : Addr) (n : Int) (xs : List Str), vs = [.ref p, .ref r] ∧ SrcAt H p n ∧ H r = some (.lst (xs.map V.str)) ∧ xs.length ≤ 100 ∧ n < 2 ^ 50 ∧
  ∀ (D : Addr) (ys : List Str) (H' : Hp), ys.Perm xs → But p H H' → SrcAt H' p (n + xs.length) → H D = none → H' D = some (.lst (ys.map V.str)) → Q (.ref D) H'
theorem ok__law_shuffled (T : Txt K mg A) : Ok1 P w K mg base 2 A.f__law_shuffled ["source", "row"] spShuf := by
  refine T.fn__law_shuffled.ok sc__law_shuffled (fun _ _ _ _ _ _ us hl => match us, hl with | [_, _], _ => rfl) (fun vs H Q E h => ?_) (fun cdv B up s H vs Q E hr h => ?_)
  · obtain ⟨p, r, n, xs, rfl, _⟩ := h
    rfl
  · obtain ⟨p, r, n, xs, rfl, hs, hx, hl, hn, h⟩ := h
    refine ⟨_, (pss_cons (ps_set (i := 2) sc__law_shuffled.nd rfl (Or.inr rfl) (pe_callTy call_list_of (by rfl) T.no_list (by decide +kernel) (pa_cons (pv 1) pa_nil)))
      (pss_one (ps_ret (pe_lcD (own := [("j", 3)]) rfl sc__law_shuffled.nd (pi_range1 rfl T.no_range (pa_cons (pe_callB call_len (by rfl) T.no_len (by decide +kernel) (pa_cons (pv 1) pa_nil)) pa_nil)) (blkOk_by (N := N__law_shuffled) (sc := defScope s__law_shuffled) (by decide +kernel)) (fun _ _ _ _ _ => pg_name (i := 3) sc__law_shuffled.nd rfl (Or.inl rfl)) (fun _ _ _ _ _ => pts_nil) (fun _ _ _ _ _ => (pe_bm PySem.F.plainAttrs_list PySem.F.slot_list_pop PySem.F.type_list_pop mt_popAt (pv 2) (pa_cons (po_call (ok__law_pick T) (hr.mono (by decide)) T.mg__law_pick (pa_cons (pv 0) (pa_cons (pe_callB call_len (by rfl) T.no_len (by decide +kernel) (pa_cons (pv 2) pa_nil)) pa_nil))) pa_nil))))))), ?_⟩
    refine ⟨_, rfl, r, _, rfl, .inl (SqL.of hx), fun l nl => ?_⟩
    have lp : l ≠ p := fun e => by
      obtain ⟨g, m, c, z, _⟩ := hs
      rw [e, z] at nl
      cases nl
    refine ⟨_, rfl, _, _, rfl, .inl ⟨_, SqL.of (show upd H l _ r = _ by rw [upd_ne (ne_of_none hx nl)]; exact hx), rfl⟩, ?_⟩
    refine ⟨_, rfl, by omega, by rw [List.length_map]; omega, fun D nD => ?_⟩
    have Dl : D ≠ l := fun e => by
      rw [e, upd_same] at nD
      cases nD
    have nD0 : H D = none := by
      rw [upd_ne Dl] at nD
      exact nD
    have Dp : D ≠ p := fun e => by
      obtain ⟨g, m, c, z, _⟩ := hs
      rw [e, z] at nD0
      cases nD0
    refine lc_range (fun i H' => ∃ done rest : List Str, (done ++ rest).Perm xs ∧ done.length = i ∧ H' l = some (.lst (rest.map V.str)) ∧ H' D = some (.lst (done.map V.str)) ∧ SrcAt H' p (n + i) ∧ But p H H') ?_ ?_ ?_
    · refine ⟨[], xs, List.Perm.refl _, rfl, ?_, upd_same, ?_, ?_⟩
      · rw [upd_ne (fun e => Dl e.symm), upd_same]
      · have z := (hs.same (Same.new (o := .lst (xs.map V.str)) nl)).same (Same.new (o := .lst []) nD)
        have e : n + ((0 : Nat) : Int) = n := by omega
        rw [e]
        exact z
      · exact But.same ((Same.new nl).trans (Same.new nD))
    · rintro i H1 hi ⟨done, rest, pm, dl, h1, h2, h3, h4⟩
      rw [List.length_map, Int.toNat_natCast] at hi
      have hlen : rest.length = xs.length - i := by
        have := pm.length_eq
        rw [List.length_append] at this
        omega
      refine ⟨rfl, _, rfl, .inl ⟨rfl, _, SqL.of h1⟩, _, rfl, _, rfl, _, _, rfl, .inl ⟨_, SqL.of h1, rfl⟩, p, _, n + i, rfl, ?_, ?_, h3, by omega, fun r0 H3 g0 g1 g2 g3 => ?_⟩
      · rw [List.length_map]
        omega
      · rw [List.length_map]
        omega
      rw [List.length_map] at g1
      have k1 : r0.toNat < rest.length := by omega
      refine ⟨l, _, r0, r0.toNat, V.str (rest[r0.toNat]), rfl, rfl, g3 _ _ h1 lp, by omega, by omega, ?_, ?_, done.map V.str, ?_, ?_, done ++ [rest[r0.toNat]], rest.eraseIdx r0.toNat, (perm_out done rest _ k1).trans pm, ?_, ?_, ?_, ?_, ?_⟩
      · rw [List.length_map]
        exact seqIx g0 g1
      · rw [List.getElem?_map, List.getElem?_eq_getElem k1]
        rfl
      · rw [upd_ne Dl]
        exact g3 _ _ h2 Dp
      · rw [List.length_map, dl]
        exact Nat.lt_of_lt_of_le (show i < 1000 by omega) (by decide)
      · rw [List.length_append, dl]
        rfl
      · rw [upd_ne (fun e => Dl e.symm), upd_same, map_eraseIdx]
      · rw [upd_same, List.map_append]
        rfl
      · have z : n + ((i + 1 : Nat) : Int) = n + i + 1 := by omega
        rw [z]
        obtain ⟨g, m, c, e, r⟩ := g2
        exact ⟨g, m, c, by rw [upd_ne (fun e => Dp e.symm), upd_ne (fun e => lp e.symm)]; exact e, r⟩
      · intro b o hb nb
        rw [upd_ne (ne_of_none hb nD0), upd_ne (ne_of_none hb nl)]
        exact g3 _ _ (h4 b o hb nb) nb
    · rintro H1 ⟨done, rest, pm, dl, h1, h2, h3, h4⟩
      rw [List.length_map, Int.toNat_natCast] at dl h3
      have hlen : rest.length = 0 := by
        have := pm.length_eq
        rw [List.length_append] at this
        omega
      rw [List.length_eq_zero_iff.mp hlen, List.append_nil] at pm
      exact h D done H1 pm h4 h3 nD0 h2

end
end Own

set_option Elab.async false
set_option linter.all false
set_option maxRecDepth 100000
set_option maxHeartbeats 4000000
namespace Own
open PySem L2 ClX
local macro_rules | `(tactic| walk_at "v") => `(tactic| refine ⟨_, rfl, ?_⟩)
local macro_rules | `(tactic| walk_at "ii") => `(tactic| refine ⟨_, _, rfl, rfl, ?_⟩)
local macro_rules | `(tactic| walk_at "go") => `(tactic| repeat (first | refine ⟨_, rfl, ?_⟩ | refine ⟨_, _, rfl, rfl, ?_⟩ | refine addI ?_ | refine L2.iteT ?_ | refine L2.iteF ?_))

section
variable {P : Program} {w : World} {K : PySem.W.Frag} {mg : Str → Option Value} {base : Heap} {A : Ad}
/-! ### names, drawn -/
def spNames : Sp := fun vs H Q _ => ∃ (p : Addr) (n : Int) (many : Nat), vs = [.ref p, .int many] ∧ SrcAt H p n ∧ many ≤ 64 ∧ n < 2 ^ 49 ∧
  ∀ (D : Addr) (ys : List Str) (H' : Hp), Items ys → ys.length = many → But p H H' → SrcAt H' p (n + 100) → H D = none → H' D = some (.lst (ys.map V.str)) → Q (.ref D) H'
theorem SrcAt.le {H : Hp} {p : Addr} {n m : Int} (h : SrcAt H p n) (l : n ≤ m) : SrcAt H p m := by
  obtain ⟨g, m', c, e, h0, h1, h2, h3⟩ := h
  exact ⟨g, m', c, e, h0, h1, h2, by omega⟩
theorem SrcAt.ne {H : Hp} {p q : Addr} {n : Int} (s : SrcAt H p n) (h : H q = none) : q ≠ p := fun e => by
  obtain ⟨g, m', c, z, _⟩ := s
  rw [e, z] at h
  cases h
theorem ok__law_names (T : Txt K mg A) : Ok1 P w K mg base 3 A.f__law_names ["source", "many"] spNames := by
  refine T.fn__law_names.ok sc__law_names (fun _ _ _ _ _ _ us hl => match us, hl with | [_, _], _ => rfl) (fun vs H Q E h => ?_) (fun cdv B up s H vs Q E hr h => ?_)
  · obtain ⟨p, n, many, rfl, _⟩ := h
    rfl
  · obtain ⟨p, n, many, rfl, hs, hm, hn, h⟩ := h
    refine ⟨_, (pss_cons (ps_set (i := 2) sc__law_names.nd rfl (Or.inl rfl) pe_str)
      (pss_cons (ps_set (i := 3) sc__law_names.nd rfl (Or.inl rfl) (po_call (ok__law_pick T) (hr.mono (by decide)) T.mg__law_pick (pa_cons (pv 0) (pa_cons pe_int pa_nil))))
      (pss_cons (ps_set (i := 4) sc__law_names.nd rfl (Or.inl rfl) (pe_lst pa_nil))
      (pss_cons (ps_for PassesOwn.never rfl (pi_range1 rfl T.no_range (pa_cons (pv 1) pa_nil)) (pg_name (i := 5) sc__law_names.nd rfl (Or.inl rfl))
      (pss_mid (ps_set (i := 6) sc__law_names.nd rfl (Or.inl rfl) (pe_ifExp (pt_cmpR op_lt (pv 5) pe_int (nomark _)) (pe_ix ix_seq (pv 2) (pv 5) (fun _ _ => rfl)) (pe_op op_addX (pe_ix ix_seq (pv 2) (pe_op op_sub (pe_op op_fdivX (pv 5) pe_int) pe_int) (fun _ _ => rfl)) (pe_ix ix_seq (pv 2) (pe_op op_mod (pv 5) pe_int) (fun _ _ => rfl)))))
      (pss_cons (ps_set (i := 7) sc__law_names.nd rfl (Or.inl rfl) (pe_op op_addX (pe_ix ix_seq (pv 2) (pe_op op_fdivX (pv 5) pe_int) (fun _ _ => rfl)) (pe_ix ix_seq (pv 2) (pe_op op_mod (pv 5) pe_int) (fun _ _ => rfl))))
      (pss_one (ps_expr (pe_bm PySem.F.plainAttrs_list PySem.F.slot_list_append PySem.F.type_list_append mt_append (pv 4) (pa_cons (pe_ix ix_seq (pe_lst (pa_cons (pv 6) (pa_cons (pv 7) (pa_cons (pe_op op_addX pe_str (pv 7)) pa_nil)))) (pv 3) (fun _ _ => rfl)) pa_nil)))))))
      (pss_one (ps_ret (po_call (ok__law_shuffled T) (hr.mono (by decide)) T.mg__law_shuffled (pa_cons (pv 0) (pa_cons (pv 4) pa_nil))))))))), ?_⟩
    refine ⟨_, rfl, p, 3, n, rfl, by decide, by decide, hs, by omega, fun st H1 g0 g1 g2 g3 => ?_⟩
    refine ⟨Nat.zero_le _, fun f nf => ?_⟩
    have fp : f ≠ p := g2.ne nf
    have nf0 : H f = none := by
      cases e : H f with
      | none => rfl
      | some o =>
        rw [g3 _ _ e fp] at nf
        cases nf
    refine ⟨_, rfl, _, rfl, by omega, by omega, ?_⟩
    refine for_range (fun i σ H' => (∃ a5 a6 a7, σ = [some (.ref p), some (.int many), some (.str letters26), some (.int st), some (.ref f), a5, a6, a7]) ∧ H' f = some (.lst (((List.range i).map (nm st.toNat)).map V.str)) ∧ SrcAt H' p (n + 1) ∧ But p H H') ?_ ?_ ?_
    · refine ⟨⟨_, _, _, rfl⟩, upd_same, ?_, ?_⟩
      · exact g2.same (Same.new nf)
      · exact g3.trans (But.same (Same.new nf))
    · rintro i σ H2 hi ⟨⟨a5, a6, a7, rfl⟩, h1, h2, h3⟩
      rw [Int.toNat_natCast] at hi
      have hi70 : i < 70 := by omega
      refine (?_ : gName 5 (.int (0 + (i : Int))) _ _ _)
      rw [Int.zero_add]
      have lt : ∀ j : Int, 0 ≤ j → j < 26 → atI letters26.cps.toList j = some (97 + j.toNat) := fun j a b => letters_at a b
      have q26 : CDivW (i : Int) 26 := wide_div (b := 30) (by decide) (by decide) (by decide) (by decide)
      refine ⟨fun σ1 H1' => H1' = H2 ∧ σ1 = [some (.ref p), some (.int many), some (.str letters26), some (.int st), some (.ref f), some (.int i), some (.str (if i < 26 then letr i else letr (i / 26 - 1) ++ letr (i % 26))), a7], ?_, ?_⟩
      · refine ⟨_, rfl, _, _, rfl, rfl, _, rfl, ?_⟩
        refine ite2 (fun c => ?_) (fun c => ?_)
        · have c' := of_decide_eq_true c
          refine ⟨_, rfl, _, rfl, ixS (by decide) (lt _ (by omega) (by omega)) ⟨rfl, ?_⟩⟩
          rw [if_pos (show i < 26 by omega)]
          rfl
        · have c' : ¬ (i : Int) < 26 := fun z => c (decide_eq_true z)
          refine ⟨_, rfl, _, rfl, _, _, rfl, rfl, q26, _, _, rfl, rfl, ixS (by decide) (lt _ (by omega) (by omega)) ?_⟩
          refine ⟨_, rfl, _, rfl, _, _, rfl, rfl, (by show (0 : Int) < 26; decide), ixS (by decide) (lt _ (by omega) (by omega)) ?_⟩
          refine addS (Nat.le_of_ble_eq_true rfl) ⟨rfl, ?_⟩
          rw [if_neg (show ¬ i < 26 by omega)]
          have e1 : ((i : Int) / 26 - 1).toNat = i / 26 - 1 := by omega
          have e2 : ((i : Int) % 26).toNat = i % 26 := by omega
          rw [e1, e2]
          rfl
      · rintro σ1 H1' ⟨rfl, rfl⟩
        refine ⟨_, rfl, _, rfl, _, _, rfl, rfl, q26, ixS (by decide) (lt _ (by omega) (by omega)) ?_⟩
        refine ⟨_, rfl, _, rfl, _, _, rfl, rfl, (by show (0 : Int) < 26; decide), ixS (by decide) (lt _ (by omega) (by omega)) ?_⟩
        refine addS (Nat.le_of_ble_eq_true rfl) ?_
        have e1 : ((i : Int) / 26).toNat = i / 26 := by omega
        have e2 : ((i : Int) % 26).toNat = i % 26 := by omega
        rw [e1, e2]
        refine (?_ : gName 7 (.str (two i)) _ _ _)
        have pick : atI [V.str (if i < 26 then letr i else letr (i / 26 - 1) ++ letr (i % 26)), V.str (two i), V.str ("abcdef" ++ two i)] st = some (V.str (nm st.toNat i)) := by
          rcases (show st = 0 ∨ st = 1 ∨ st = 2 by omega) with rfl | rfl | rfl
          · exact atI0 _ _
          · exact atI_nat (j := 1) rfl
          · exact atI_nat (j := 2) rfl
        refine ⟨_, rfl, .inl ⟨rfl, _, SqL.of h1⟩, _, rfl, _, rfl, _, rfl, addS (Nat.le_of_ble_eq_true rfl) ⟨Nat.le_of_ble_eq_true rfl, fun q nq => ?_⟩⟩
        have qf : q ≠ f := ne_of_none h1 nq |>.symm
        have qp : q ≠ p := h2.ne nq
        have nq0 : H q = none := by
          cases e : H q with
          | none => rfl
          | some o =>
            rw [h3 _ _ e qp] at nq
            cases nq
        refine ⟨_, rfl, ixL upd_same pick ⟨f, _, _, rfl, rfl, (show upd H1' q _ f = _ by rw [upd_ne (fun e => qf e.symm)]; exact h1), ?_, ?_⟩⟩
        · rw [List.length_map, List.length_map, List.length_range]
          exact Nat.lt_of_lt_of_le (show i < 1000 by omega) (by decide)
        · refine ⟨⟨_, _, _, rfl⟩, ?_, ?_, ?_⟩
          · rw [upd_same, List.range_succ, List.map_append, List.map_append]
            rfl
          · exact (h2.same (Same.new nq)).but But.upd (fun e => fp e.symm)
          · intro b o hb nb
            rw [upd_ne (ne_of_none hb nf0), upd_ne (ne_of_none hb nq0)]
            exact h3 b o hb nb
    · rintro σ H2 ⟨⟨a5, a6, a7, rfl⟩, h1, h2, h3⟩
      rw [Int.toNat_natCast] at h1
      have itm : Items ((List.range many).map (nm st.toNat)) := by
        refine ⟨fun x hx => ?_, nm_nodup (by omega) (by omega)⟩
        obtain ⟨j, hj, rfl⟩ := List.mem_map.mp hx
        rw [List.mem_range] at hj
        exact nm_item (by omega) (by omega)
      refine ⟨_, rfl, _, rfl, p, f, n + 1, _, rfl, h2, h1, ?_, by omega, fun D ys H' pm b1 s1 nD hD => ?_⟩
      · rw [List.length_map, List.length_range]
        omega
      · rw [List.length_map, List.length_range] at s1
        refine h D ys H' (itm.perm pm) ?_ (h3.trans b1) (s1.le (by omega)) ?_ hD
        · rw [pm.length_eq, List.length_map, List.length_range]
        · cases e : H D with
          | none => rfl
          | some o =>
            have z : D ≠ p := h2.ne nD
            rw [h3 _ _ e z] at nD
            cases nD

end
end Own

set_option Elab.async false
set_option linter.all false
set_option maxRecDepth 100000
set_option maxHeartbeats 4000000
namespace Own
open PySem L2 ClX
local macro_rules | `(tactic| walk_at "v") => `(tactic| refine ⟨_, rfl, ?_⟩)
local macro_rules | `(tactic| walk_at "ii") => `(tactic| refine ⟨_, _, rfl, rfl, ?_⟩)
local macro_rules | `(tactic| walk_at "go") => `(tactic| repeat (first | refine ⟨_, rfl, ?_⟩ | refine ⟨_, _, rfl, rfl, ?_⟩ | refine addI ?_ | refine L2.iteT ?_ | refine L2.iteF ?_))

section
variable {P : Program} {w : World} {K : PySem.W.Frag} {mg : Str → Option Value} {base : Heap} {A : Ad}
/-! ### small facts -/
theorem inS (x : Str) : ∀ xs : List Str, inV (.str x) (xs.map V.str) = decide (x ∈ xs)
  | [] => rfl
  | y :: ys => by
    have ih := inS x ys
    unfold inV at ih ⊢
    rw [List.map_cons, List.any_cons, ih]
    show ((y == x) || decide (x ∈ ys)) = decide (x ∈ y :: ys)
    by_cases e : x = y
    · subst e
      simp
    · have e2 : (y == x) = false := beq_false_of_ne fun z => e z.symm
      rw [e2]
      simp [e]
theorem flatS (xs : List Str) : (xs.map V.str).all flatV = true := by
  rw [List.all_map, List.all_eq_true]
  intro x _
  rfl
theorem addL {H : Hp} {Q : VK} {l b : Addr} {xs zs : List V} (h1 : H l = some (.lst xs)) (h2 : H b = some (.lst zs)) (h3 : xs.length + zs.length ≤ 1000000) (q : ∀ p, H p = none → Q (.ref p) (upd H p (.lst (xs ++ zs)))) : rAddX (.ref l) (.ref b) H Q :=
  .inr (.inr ⟨l, b, xs, zs, rfl, rfl, h1, h2, Nat.le_trans h3 (by decide), q⟩)
theorem none_same {H H' : Hp} {D : Addr} (s : Same H H') (nD : H' D = none) : H D = none := by
  cases e : H D with
  | none => rfl
  | some o =>
    rw [s _ _ e] at nD
    cases nD
theorem strT (z : Str) : decide (V.str z = V.str z) = true := decide_eq_true rfl
theorem strF (z : Str) : (!decide (V.str z = V.str z)) = false := by rw [strT]; rfl

/-! ### lists of items as data -/
theorem item_chars {x : Str} (h : isItem x = true) : ∀ c ∈ x.cps.toList, c < 128 := by
  unfold isItem at h
  rw [Bool.and_eq_true, Bool.and_eq_true] at h
  have z := h.2.1
  unfold Txt.isascii at z
  intro c hc
  rw [Array.all_eq_true'] at z
  exact of_decide_eq_true (z c (Array.mem_toList_iff.mp hc))
def sl (xs : List Str) : PyData := .list (xs.map .str)
theorem dpAllS (xs : List Str) (H : Hp) : DpAll K H (xs.map V.str) (xs.map PyData.str) := by
  induction xs with
  | nil => exact .nil
  | cons x xs ih => exact .cons (.str x) ih
theorem dpS {H : Hp} {a : Addr} {xs : List Str} (h : SqL K H a (xs.map V.str)) : Dp K H (.ref a) (sl xs) := .lst h (dpAllS xs H)
theorem eqvAllS : ∀ xs ys : List Str, PyData.eqvAll (xs.map .str) (ys.map .str) = decide (xs = ys)
  | [], [] => by simp [PyData.eqvAll]
  | [], _ :: _ => by simp [PyData.eqvAll]
  | _ :: _, [] => by simp [PyData.eqvAll]
  | x :: xs, y :: ys => by
    have ih := eqvAllS xs ys
    simp only [List.map_cons, PyData.eqvAll, PyData.eqv, ih]
    by_cases e : x = y
    · subst e
      simp
    · have e2 : (x == y) = false := beq_false_of_ne e
      rw [e2]
      simp [e]
theorem eqvS (xs ys : List Str) : PyData.eqv (sl xs) (sl ys) = decide (xs = ys) := by
  unfold sl
  simp only [PyData.eqv]
  exact eqvAllS xs ys
theorem layS : ∀ xs : List Str, (∀ x ∈ xs, isItem x = true) → PyData.canLayAll0 (xs.map .str) = true
  | [], _ => by simp [PyData.canLayAll0]
  | x :: xs, h => by
    have ih := layS xs fun y hy => h y (List.mem_cons_of_mem _ hy)
    have hx : PyData.strOk x = true := by
      unfold PyData.strOk
      rw [Array.all_eq_true']
      intro c hc
      have := item_chars (h x List.mem_cons_self) c (Array.mem_toList_iff.mpr hc)
      exact decide_eq_true (by omega)
    simp only [List.map_cons, PyData.canLayAll0, PyData.canLay0, ih, hx, Bool.and_self]
theorem depthS : ∀ xs : List Str, PyData.depthAll (xs.map .str) = 0
  | [] => by simp [PyData.depthAll]
  | x :: xs => by simp [PyData.depthAll, PyData.depth, depthS xs]
theorem shapedS {xs : List Str} (h : ∀ x ∈ xs, isItem x = true) : SeqAt.shaped (sl xs) = true := by
  unfold SeqAt.shaped sl
  simp [PyData.canLay0, layS xs h, PyData.depth, depthS xs]
theorem showableS : ∀ xs : List Str, PyData.showableAll (xs.map .str) = true
  | [] => by simp [PyData.showableAll]
  | x :: xs => by simp [PyData.showableAll, PyData.showable, showableS xs]
theorem noDictS : ∀ xs : List Str, PyData.hasDictAll (xs.map .str) = false
  | [] => by simp [PyData.hasDictAll]
  | x :: xs => by simp [PyData.hasDictAll, PyData.hasDict, noDictS xs]
theorem shownS : ∀ xs : List Str, PyData.shownAll (xs.map .str) = xs.map reprText
  | [] => by simp [PyData.shownAll]
  | x :: xs => by simp [PyData.shownAll, PyData.shown, shownS xs]
theorem sumS : ∀ xs : List Str, (∀ x ∈ xs, isItem x = true) → ((xs.map reprText).map (·.length)).sum ≤ 82 * xs.length
  | [], _ => by simp
  | x :: xs, h => by
    have ih := sumS xs fun y hy => h y (List.mem_cons_of_mem _ hy)
    have hx := h x List.mem_cons_self
    have l := item_len hx
    have z := StrLaws.reprText_len x fun c hc => Nat.lt_of_lt_of_le (item_chars hx c hc) (by decide)
    simp only [List.map_cons, List.sum_cons, List.length_cons]
    omega
theorem shownS_len {xs : List Str} (h : ∀ x ∈ xs, isItem x = true) (m : xs.length ≤ 70) : (sl xs).shown.length ≤ 6000 := by
  have z := listText_len_le (xs.map reprText)
  have q := sumS xs h
  rw [List.length_map] at z
  unfold sl
  simp only [PyData.shown, shownS]
  omega
theorem showsS {xs : List Str} (h : ∀ x ∈ xs, isItem x = true) (m : xs.length ≤ 70) : Shows (sl xs) := by
  refine ⟨?_, ?_, ?_, Nat.le_trans (shownS_len h m) (by decide)⟩
  · simp [sl, PyData.showable, showableS]
  · simp [sl, PyData.hasDict, noDictS]
  · simp [sl, PyData.depth, depthS]
/-- what is told of a list, or of none -/
def tl (o : Option (List Str)) (x : Str) : PyData := match o with
  | some ys => sl ys
  | none => .tuple [.str "impossible", .str x]
theorem tl_len {o : Option (List Str)} {x : Str} (h : ∀ ys, o = some ys → (∀ y ∈ ys, isItem y = true) ∧ ys.length ≤ 70) (hx : isItem x = true) : (tl o x).shown.length ≤ 6000 := by
  cases o with
  | some ys => exact shownS_len (h ys rfl).1 (h ys rfl).2
  | none =>
    have z := tupleText_len_le [reprText "impossible", reprText x]
    have l := item_len hx
    have q := StrLaws.reprText_len x fun c hc => Nat.lt_of_lt_of_le (item_chars hx c hc) (by decide)
    have q2 : (reprText "impossible").length ≤ 100 := by decide +kernel
    unfold tl
    simp only [PyData.shown, PyData.shownAll]
    simp only [List.map_cons, List.map_nil, List.sum_cons, List.sum_nil, List.length_cons, List.length_nil] at z
    omega
theorem tl_shape {o : Option (List Str)} {x : Str} (h : ∀ ys, o = some ys → (∀ y ∈ ys, isItem y = true) ∧ ys.length ≤ 70) (hx : isItem x = true) : (tl o x).showable = true ∧ (tl o x).hasDict = false ∧ (tl o x).depth ≤ 3 := by
  cases o with
  | some ys =>
    refine ⟨?_, ?_, ?_⟩
    · simp [tl, sl, PyData.showable, showableS]
    · simp [tl, sl, PyData.hasDict, noDictS]
    · simp [tl, sl, PyData.depth, depthS]
  | none =>
    refine ⟨?_, ?_, ?_⟩
    · simp [tl, PyData.showable, PyData.showableAll]
    · simp [tl, PyData.hasDict, PyData.hasDictAll]
    · simp [tl, PyData.depth, PyData.depthAll]
theorem shows_tl2 {o : Option (List Str)} {x : Str} (h : ∀ ys, o = some ys → (∀ y ∈ ys, isItem y = true) ∧ ys.length ≤ 70) (hx : isItem x = true) : Shows (.list [tl o x, tl o x]) := by
  obtain ⟨a, b, c⟩ := tl_shape h hx
  have l := tl_len h hx
  refine ⟨?_, ?_, ?_, ?_⟩
  · simp [PyData.showable, PyData.showableAll, a]
  · simp [PyData.hasDict, PyData.hasDictAll, b]
  · simp only [PyData.depth, PyData.depthAll]
    omega
  · have z := listText_len_le [(tl o x).shown, (tl o x).shown]
    simp only [PyData.shown, PyData.shownAll]
    simp only [List.map_cons, List.map_nil, List.sum_cons, List.sum_nil, List.length_cons, List.length_nil] at z
    exact Nat.le_trans (show _ ≤ 13000 by omega) (by decide)

/-! ### records, or any object; one after another -/
def signW (way : Int) : Str := if way = 0 then "+" else if way = 1 then "-" else if way = 2 then "^" else ""
structure Kd (K : PySem.W.Frag) (A : Ad) (way : Int) : Prop where
  rc : RC K (cw A way)
  ty : InsT K (cw A way)
  kr : PySem.W.kitOne K (.ref (cw A way)) (.ref A.c_Record) = some true
  sg : ∃ u, Con K (cw A way) "SIGN" (.str (signW way)) u
theorem kd_of (T : Txt K mg A) {way : Int} (h0 : 0 ≤ way) (h1 : way ≤ 3) : Kd K A way := by
  rcases way4 h0 h1 with rfl | rfl | rfl | rfl
  · exact ⟨rc_Inserted T, T.ty_Inserted, T.kit_Inserted_Record, T.iv_Inserted_SIGN⟩
  · exact ⟨rc_Removed T, T.ty_Removed, T.kit_Removed_Record, T.iv_Removed_SIGN⟩
  · exact ⟨rc_Fronted T, T.ty_Fronted, T.kit_Fronted_Record, T.iv_Fronted_SIGN⟩
  · exact ⟨rc_Record T, T.ty_Record, T.kit_Record_Record, T.iv_Record_SIGN⟩
/-- an object, and whether it is a record of a kind -/
inductive Rw (K : PySem.W.Frag) (A : Ad) (H : Hp) : V → Bool → Prop where
  | row {p dx : Addr} {way : Int} {x : Str} {n : Nat} (e : H p = some (.ins (cw A way) dx (rfs x n))) (h0 : 0 ≤ way) (h1 : way ≤ 3) : Rw K A H (.ref p) (decide (way < 3))
  | no {v : V} {t : Value} (ty : TyX K H v t) (h : PySem.W.kitOne K t (.ref A.c_Record) = some false) : Rw K A H v false
theorem Rw.same {H H' : Hp} {v : V} {b : Bool} (h : Rw K A H v b) (s : Same H H') : Rw K A H' v b := by
  cases h with
  | row e h0 h1 => exact .row (s _ _ e) h0 h1
  | no ty h => exact .no (ty.same s) h
def spKind (K : PySem.W.Frag) (A : Ad) : Sp := fun vs H Q _ => ∃ (v : V) (b : Bool), vs = [v] ∧ Rw K A H v b ∧ Q (.bl b) H
theorem no_sign (x : Str) (n : Int) : (rfs x n).lookup ("SIGN" : Str) = none := rfs_no _ _ (by decide +kernel) (by decide +kernel)
theorem ok_has_kind (T : Txt K mg A) : Ok1 P w K mg base 1 A.f_has_kind ["thing"] (spKind K A) := by
  refine T.fn_has_kind.ok sc_has_kind (fun _ _ _ _ _ _ us hl => match us, hl with | [_], _ => rfl) (fun vs H Q E h => ?_) (fun cdv B up s H vs Q E hr h => ?_)
  · obtain ⟨v, b, rfl, _⟩ := h
    rfl
  · obtain ⟨v, b, rfl, hv, h⟩ := h
    refine ⟨_, (pss_one (ps_ret (pe_and (pe_callB call_isi (by rfl) T.no_isinstance (by decide +kernel) (pa_cons (pv 0) (pa_cons (pe_glob (v := .ref A.c_Record) rfl T.mg_Record rfl) pa_nil))) (pe_one (pe_cmpR (op_neX hr) (pe_con (pv 0) rfl) (pe_clsv T.cv_Record_SIGN (pe_glob (v := .ref A.c_Record) rfl T.mg_Record rfl)) (nomark _)))))), ?_⟩
    cases hv with
    | no ty hk => exact ⟨_, rfl, _, _, _, _, _, rfl, .own _, ty, hk, _, rfl, iteF h⟩
    | @row p dx way x n e h0 h1 =>
      have k := kd_of T h0 h1
      obtain ⟨u, cn⟩ := k.sg
      refine ⟨_, rfl, _, _, _, _, _, rfl, .own _, .base (.ins e k.rc.cl k.ty.ha k.ty.hn k.ty.ht k.ty.hm), k.kr, _, rfl, iteT ?_⟩
      refine ⟨_, rfl, p, _, dx, _, _, _, rfl, e, k.rc.cl, cn, no_sign _ _, neS rfl ?_⟩
      have z : (!decide (V.str (signW way) = V.str "")) = decide (way < 3) := by
        rcases way4 h0 h1 with rfl | rfl | rfl | rfl
        · decide +kernel
        · decide +kernel
        · decide +kernel
        · decide +kernel
      rw [z]
      exact h

inductive Rws (K : PySem.W.Frag) (A : Ad) (H : Hp) : List V → List Bool → Prop where
  | nil : Rws K A H [] []
  | cons {v : V} {b : Bool} {vs : List V} {bs : List Bool} (h : Rw K A H v b) (t : Rws K A H vs bs) : Rws K A H (v :: vs) (b :: bs)
theorem Rws.same {H H' : Hp} {vs : List V} {bs : List Bool} (h : Rws K A H vs bs) (s : Same H H') : Rws K A H' vs bs := by
  induction h with
  | nil => exact .nil
  | cons a _ ih => exact .cons (a.same s) ih
theorem Rws.len {H : Hp} {vs : List V} {bs : List Bool} (h : Rws K A H vs bs) : vs.length = bs.length := by
  induction h with
  | nil => rfl
  | cons _ _ ih => rw [List.length_cons, List.length_cons, ih]
theorem Rws.get {H : Hp} {vs : List V} {bs : List Bool} (h : Rws K A H vs bs) : ∀ {i : Nat} {v : V}, vs[i]? = some v → ∃ b, bs[i]? = some b ∧ Rw K A H v b := by
  induction h with
  | nil => intro i v e; cases e
  | cons a _ ih =>
    intro i v e
    cases i with
    | zero => cases e; exact ⟨_, rfl, a⟩
    | succ i => exact ih e
theorem Rws.app {H : Hp} {vs ws : List V} {bs cs : List Bool} (h : Rws K A H vs bs) (g : Rws K A H ws cs) : Rws K A H (vs ++ ws) (bs ++ cs) := by
  induction h with
  | nil => exact g
  | cons a _ ih => exact .cons a ih
/-- any object, and whether it is a list of at most so many records of the kinds -/
inductive ThingR (K : PySem.W.Frag) (A : Ad) (H : Hp) (most : Nat) : V → Bool → Prop where
  | no {v : V} {t : Value} (ty : TyX K H v t) (h : PySem.W.kitOne K t (.type "list") = some false) : ThingR K A H most v false
  | lst {l : Addr} {vs : List V} {bs : List Bool} (e : H l = some (.lst vs)) (m : vs.length ≤ 4000) (z : Rws K A H vs bs) : ThingR K A H most (.ref l) (decide (bs.length ≤ most) && bs.all id)
def spAreRec (K : PySem.W.Frag) (A : Ad) : Sp := fun vs H Q _ => ∃ (v : V) (most : Nat) (b : Bool), vs = [v, .int most] ∧ ThingR K A H most v b ∧ ∀ H', Same H H' → Q (.bl b) H'
theorem ok_are_records (T : Txt K mg A) : Ok1 P w K mg base 2 A.f_are_records ["thing", "most"] (spAreRec K A) := by
  refine T.fn_are_records.ok sc_are_records (fun _ _ _ _ _ _ us hl => match us, hl with | [_, _], _ => rfl) (fun vs H Q E h => ?_) (fun cdv B up s H vs Q E hr h => ?_)
  · obtain ⟨v, most, b, rfl, _⟩ := h
    rfl
  · obtain ⟨v, most, b, rfl, he, h⟩ := h
    refine ⟨_, (pss_cons (ps_if (PW.pt (pw_or (pt_not (pt_val (pe_callB call_isi (by rfl) T.no_isinstance (by decide +kernel) (pa_cons (pv 0) (pa_cons (pe_bltn (v := .ty "list") (by rfl) T.no_list (by decide +kernel) rfl) pa_nil))))) (pw_or1 (pt_cmpR op_gt (pe_callB call_len (by rfl) T.no_len (by decide +kernel) (pa_cons (pv 0) pa_nil)) (pv 1) (nomark _))))) (pss_one (ps_ret pe_bl)) pss_nil)
      (pss_one (ps_ret (pe_callB (cr_all rfl) (by rfl) T.no_all (by decide +kernel) (pa_cons (pe_lcD (own := [("entry", 2)]) rfl sc_are_records.nd (pi_list (pv 0)) (blkOk_by (N := N_are_records) (sc := defScope s_are_records) (by decide +kernel)) (fun _ _ _ _ _ => pg_name (i := 2) sc_are_records.nd rfl (Or.inl rfl)) (fun _ _ _ _ _ => pts_nil) (fun _ _ _ _ _ => (po_call (ok_has_kind T) (hr.mono (by decide)) T.mg_has_kind (pa_cons (pv 2) pa_nil)))) pa_nil))))), ?_⟩
    cases he with
    | no ty hk => exact ⟨_, rfl, _, _, _, _, _, rfl, .ty _, ty, hk, _, rfl, iteT (h H (fun _ _ e => e))⟩
    | @lst l vs bs e m z =>
      have ll := z.len
      refine ⟨_, rfl, _, _, _, _, _, rfl, .ty _, .base (.lst e), kit_ty (r := true) (by decide +kernel), ?_⟩
      refine ⟨_, rfl, ?_⟩
      refine iteF ?_
      refine ⟨_, rfl, _, _, rfl, .inl ⟨_, SqL.of e, rfl⟩, _, rfl, _, _, rfl, rfl, _, rfl, ?_⟩
      refine ite2 (fun c => ?_) (fun c => ?_)
      · have c' := of_decide_eq_true c
        rw [decide_eq_false (show ¬ bs.length ≤ most by omega)] at h
        exact h H (fun _ _ e => e)
      · have c' := of_decide_eq_false (Bool.eq_false_iff.mpr c)
        rw [decide_eq_true (show bs.length ≤ most by omega), Bool.true_and] at h
        refine ⟨_, rfl, l, rfl, ⟨_, SqL.of e⟩, fun D nD => ?_⟩
        refine lc_list (K := K) (a := l) (xs := vs) (fun i H' => Same H H' ∧ H' D = some (.lst ((bs.take i).map V.bl))) ?_ ?_ ?_ ?_
        · exact ⟨Same.new nD, upd_same⟩
        · rintro i H1 _ ⟨s1, _⟩
          exact SqL.of (s1 _ _ e)
        · rintro i x H1 hx ⟨s1, h1⟩
          obtain ⟨b, hb, en⟩ := z.get hx
          refine ⟨rfl, _, rfl, _, b, rfl, en.same s1, _, h1, ?_, ?_, ?_⟩
          · rw [List.length_map, List.length_take]
            exact Nat.lt_of_le_of_lt (Nat.min_le_left _ _) (Nat.lt_of_lt_of_le (show i < 4001 by have := (List.getElem?_eq_some_iff.mp hb).1; omega) (by decide))
          · intro c o ho
            rw [upd_ne (ne_of_none ho nD)]
            exact s1 _ _ ho
          · have e9 : bs.take (i + 1) = bs.take i ++ [b] := by
              rw [List.take_add_one, hb]
              rfl
            rw [upd_same, e9, List.map_append]
            rfl
        · rintro H1 ⟨s1, h1⟩
          rw [ll, List.take_length] at h1
          exact ⟨D, bs, rfl, SqL.of h1, h H1 s1⟩

/-- the records of the parts -/
inductive Rows (A : Ad) (H : Hp) : List V → List (Int × Str × Nat) → Prop where
  | nil : Rows A H [] []
  | cons {p dx : Addr} {way : Int} {x : Str} {n : Nat} {vs : List V} {ps : List (Int × Str × Nat)} (e : H p = some (.ins (cw A way) dx (rfs x n))) (h0 : 0 ≤ way) (h1 : way < 3) (hx : isItem x = true) (t : Rows A H vs ps) : Rows A H (.ref p :: vs) ((way, x, n) :: ps)
theorem Rows.same {H H' : Hp} {vs : List V} {ps : List (Int × Str × Nat)} (h : Rows A H vs ps) (s : Same H H') : Rows A H' vs ps := by
  induction h with
  | nil => exact .nil
  | cons e h0 h1 hx _ ih => exact .cons (s _ _ e) h0 h1 hx ih
theorem Rows.len {H : Hp} {vs : List V} {ps : List (Int × Str × Nat)} (h : Rows A H vs ps) : vs.length = ps.length := by
  induction h with
  | nil => rfl
  | cons _ _ _ _ _ ih => rw [List.length_cons, List.length_cons, ih]
theorem Rows.get {H : Hp} {vs : List V} {ps : List (Int × Str × Nat)} (h : Rows A H vs ps) : ∀ {i : Nat} {v : V}, vs[i]? = some v → ∃ p dx way x n, v = .ref p ∧ ps[i]? = some (way, x, n) ∧ H p = some (.ins (cw A way) dx (rfs x n)) ∧ 0 ≤ way ∧ way < 3 ∧ isItem x = true := by
  induction h with
  | nil => intro i v e; cases e
  | cons e h0 h1 hx _ ih =>
    intro i v ev
    cases i with
    | zero => cases ev; exact ⟨_, _, _, _, _, rfl, rfl, e, h0, h1, hx⟩
    | succ i => exact ih ev
theorem Rows.rws {H : Hp} {vs : List V} {ps : List (Int × Str × Nat)} (h : Rows A H vs ps) : Rws K A H vs (ps.map fun _ => true) := by
  induction h with
  | nil => exact .nil
  | cons e h0 h1 hx _ ih =>
    have r := Rw.row (K := K) e h0 (by omega)
    rw [decide_eq_true h1] at r
    exact .cons r ih
theorem Rows.thing {H : Hp} {l : Addr} {vs : List V} {ps : List (Int × Str × Nat)} (e : H l = some (.lst vs)) (h : Rows A H vs ps) (m : ps.length ≤ 80) : ThingR K A H 80 (.ref l) true := by
  have q := ThingR.lst (most := 80) e (by rw [h.len]; omega) (h.rws (K := K))
  have a : (ps.map fun _ => true).all id = true := by simp
  rw [a, List.length_map, decide_eq_true m] at q
  exact q

/-! ### parts and their records -/
inductive Parts (H : Hp) : List V → List (Int × Str × Nat) → Prop where
  | nil : Parts H [] []
  | cons {t : Addr} {way : Int} {x : Str} {n : Nat} {vs : List V} {ps : List (Int × Str × Nat)} (e : H t = some (.tup [.int way, .str x, .int n])) (h0 : 0 ≤ way) (h1 : way < 3) (hx : isItem x = true) (hn : n ≤ 60) (r : Parts H vs ps) : Parts H (.ref t :: vs) ((way, x, n) :: ps)
theorem Parts.same {H H' : Hp} {vs : List V} {ps : List (Int × Str × Nat)} (h : Parts H vs ps) (s : Same H H') : Parts H' vs ps := by
  induction h with
  | nil => exact .nil
  | cons e h0 h1 hx hn _ ih => exact .cons (s _ _ e) h0 h1 hx hn ih
theorem Parts.len {H : Hp} {vs : List V} {ps : List (Int × Str × Nat)} (h : Parts H vs ps) : vs.length = ps.length := by
  induction h with
  | nil => rfl
  | cons _ _ _ _ _ _ ih => rw [List.length_cons, List.length_cons, ih]
theorem Parts.get {H : Hp} {vs : List V} {ps : List (Int × Str × Nat)} (h : Parts H vs ps) : ∀ {i : Nat} {v : V}, vs[i]? = some v → ∃ t way x n, v = .ref t ∧ ps[i]? = some (way, x, n) ∧ H t = some (.tup [.int way, .str x, .int (n : Nat)]) ∧ 0 ≤ way ∧ way < 3 ∧ isItem x = true ∧ n ≤ 60 := by
  induction h with
  | nil => intro i v e; cases e
  | cons e h0 h1 hx hn _ ih =>
    intro i v ev
    cases i with
    | zero => cases ev; exact ⟨_, _, _, _, rfl, rfl, e, h0, h1, hx, hn⟩
    | succ i => exact ih ev
theorem Parts.app {H : Hp} {vs ws : List V} {ps qs : List (Int × Str × Nat)} (h : Parts H vs ps) (g : Parts H ws qs) : Parts H (vs ++ ws) (ps ++ qs) := by
  induction h with
  | nil => exact g
  | cons e h0 h1 hx hn _ ih => exact .cons e h0 h1 hx hn ih
theorem Rows.snoc {H : Hp} {vs : List V} {ps : List (Int × Str × Nat)} {p dx : Addr} {way : Int} {x : Str} {n : Nat} (h : Rows A H vs ps) (e : H p = some (.ins (cw A way) dx (rfs x n))) (h0 : 0 ≤ way) (h1 : way < 3) (hx : isItem x = true) : Rows A H (vs ++ [.ref p]) (ps ++ [(way, x, n)]) := by
  induction h with
  | nil => exact .cons e h0 h1 hx .nil
  | cons e' h0' h1' hx' _ ih => exact .cons e' h0' h1' hx' ih
theorem Rows.updL {H : Hp} {vs us : List V} {ps : List (Int × Str × Nat)} {D : Addr} {o : HO} (h : Rows A H vs ps) (hD : H D = some (.lst us)) : Rows A (upd H D o) vs ps := by
  induction h with
  | nil => exact .nil
  | @cons p dx way x n vs ps e h0 h1 hx _ ih =>
    refine .cons (dx := dx) ?_ h0 h1 hx ih
    rw [upd_ne (fun z => by rw [z, hD] at e; cases e)]
    exact e
def spRows (A : Ad) : Sp := fun vs H Q _ => ∃ (pl : Addr) (ts : List V) (ps : List (Int × Str × Nat)), vs = [.ref pl] ∧ H pl = some (.lst ts) ∧ Parts H ts ps ∧ ps.length ≤ 100 ∧
  ∀ (D : Addr) (rs : List V) (H' : Hp), Same H H' → H D = none → H' D = some (.lst rs) → Rows A H' rs ps → Q (.ref D) H'
theorem ok__law_rows (T : Txt K mg A) : Ok1 P w K mg base 6 A.f__law_rows ["parts"] (spRows A) := by
  refine T.fn__law_rows.ok sc__law_rows (fun _ _ _ _ _ _ us hl => match us, hl with | [_], _ => rfl) (fun vs H Q E h => ?_) (fun cdv B up s H vs Q E hr h => ?_)
  · obtain ⟨pl, ts, ps, rfl, _⟩ := h
    rfl
  · obtain ⟨pl, ts, ps, rfl, hp, hps, hm, h⟩ := h
    refine ⟨_, (pss_one (ps_ret (pe_lcD (own := [("way", 1), ("name", 2), ("place", 3)]) rfl sc__law_rows.nd (pi_list (pv 0)) (blkOk_by (N := N__law_rows) (sc := defScope s__law_rows) (by decide +kernel)) (fun _ _ _ _ _ => pg_tup (by rfl) (pgs_cons (pg_name (i := 1) sc__law_rows.nd rfl (Or.inl rfl)) (pgs_cons (pg_name (i := 2) sc__law_rows.nd rfl (Or.inl rfl)) (pgs_cons (pg_name (i := 3) sc__law_rows.nd rfl (Or.inl rfl)) pgs_nil)))) (fun _ _ _ _ _ => pts_nil) (fun _ _ _ _ _ => (po_call (ok__law_make T) (hr.mono (by decide)) T.mg__law_make (pa_cons (pv 1) (pa_cons (pv 2) (pa_cons (pv 3) pa_nil)))))))), ?_⟩
    refine ⟨_, rfl, pl, rfl, ⟨_, SqL.of hp⟩, fun D nD => ?_⟩
    refine lc_list (K := K) (a := pl) (xs := ts) (fun i H' => Same H H' ∧ ∃ rs, H' D = some (.lst rs) ∧ rs.length = i ∧ Rows A H' rs (ps.take i)) ?_ ?_ ?_ ?_
    · exact ⟨Same.new nD, [], upd_same, rfl, .nil⟩
    · rintro i H1 _ ⟨s1, _⟩
      exact SqL.of (s1 _ _ hp)
    · rintro i y H1 hy ⟨s1, rs, hr1, lr, rw1⟩
      obtain ⟨t, way, x, n, rfl, hpi, ht, w0, w1, hx, hn⟩ := hps.get hy
      have hi6 : i < ps.length := (List.getElem?_eq_some_iff.mp hpi).1
      refine ⟨t, _, rfl, SqT.of (s1 _ _ ht), rfl, _, _, rfl, _, _, rfl, _, _, rfl, rfl, rfl, _, rfl, _, rfl, _, rfl, way, n, x, rfl, w0, by omega, hx, by omega, by omega, fun p dx H2 s2 np hp2 => ?_⟩
      refine ⟨rs, s2 _ _ hr1, Nat.lt_of_lt_of_le (show rs.length < 1000 by omega) (by decide), ?_, rs ++ [.ref p], upd_same, by rw [List.length_append, lr]; rfl, ?_⟩
      · intro c o e
        rw [upd_ne (ne_of_none e nD)]
        exact s2 _ _ (s1 _ _ e)
      · have e9 : ps.take (i + 1) = ps.take i ++ [(way, x, n)] := by
          rw [List.take_add_one, hpi]
          rfl
        rw [e9]
        have Dp : p ≠ D := (ne_of_none hr1 np).symm
        exact ((rw1.same s2).updL (s2 _ _ hr1)).snoc (by rw [upd_ne Dp]; exact hp2) w0 w1 hx
    · rintro H1 ⟨s1, rs, hr1, lr, rw1⟩
      rw [hps.len, List.take_length] at rw1
      exact h D rs H1 s1 nD hr1 rw1

/-! ### the texts of records -/
def textW (way : Int) (x : Str) (n : Nat) : Str := Str.empty ++ signW way ++ x ++ "@" ++ toString (n : Int)
def spText (A : Ad) : Sp := fun vs H Q _ => ∃ (p dx : Addr) (way : Int) (x : Str) (n : Nat), vs = [.ref p] ∧ H p = some (.ins (cw A way) dx (rfs x n)) ∧ 0 ≤ way ∧ way ≤ 3 ∧ isItem x = true ∧ n ≤ 60 ∧ Q (.str (textW way x n)) H
theorem ok_Record_text (T : Txt K mg A) : Ok1 P w K mg base 1 A.m_Record_text ["self"] (spText A) := by
  refine T.fn_Record_text.ok sc_Record_text (fun _ _ _ _ _ _ us hl => match us, hl with | [_], _ => rfl) (fun vs H Q E h => ?_) (fun cdv B up s H vs Q E hr h => ?_)
  · obtain ⟨p, dx, way, x, n, rfl, _⟩ := h
    rfl
  · obtain ⟨p, dx, way, x, n, rfl, hp, w0, w1, hx, hn, h⟩ := h
    refine ⟨_, (pss_one (ps_ret (pe_joined (PJ.cons (pe_fmt (pe_con (pv 0) rfl)) (PJ.cons (pe_fmt (pe_fld (pv 0) rfl)) (PJ.cons pe_str (PJ.cons (pe_fmt (pe_fld (pv 0) rfl)) PJ.nil))))))), ?_⟩
    have k := kd_of T w0 w1
    obtain ⟨u, cn⟩ := k.sg
    have ls : (signW way).length ≤ 1 := by
      rcases way4 w0 w1 with rfl | rfl | rfl | rfl <;> decide +kernel
    have lx := item_len hx
    have ln : (Str.ofString (toString (n : Int))).length ≤ 2 := by
      have all : ∀ m : Fin 61, (Str.ofString (toString ((m : Nat) : Int))).length ≤ 2 := by decide +kernel
      exact all ⟨n, by omega⟩
    have la : ∀ a b : Str, (a ++ b).length = a.length + b.length := fun a b => Array.size_append
    have e0 : Str.empty.length = 0 := rfl
    have e1 : (Str.ofString "@").length = 1 := rfl
    refine ⟨_, rfl, p, _, dx, _, _, _, rfl, hp, k.rc.cl, cn, no_sign _ _, .inl ⟨_, rfl, szS (by omega), _, rfl, szS (by rw [la]; omega), ?_⟩⟩
    refine ⟨_, rfl, p, _, dx, _, _, rfl, hp, k.rc.cl, k.rc.nI, rfs_item _ _, .inl ⟨_, rfl, szS (by omega), _, rfl, szS (by rw [la, la]; omega), ?_⟩⟩
    refine ⟨_, rfl, szS (by rw [la, la, la]; omega), ?_⟩
    refine ⟨_, rfl, p, _, dx, _, _, rfl, hp, k.rc.cl, k.rc.nS, rfs_slot _ _, .inr ⟨_, rfl, ?_, _, rfl, szS (by rw [la, la, la, la]; omega), h⟩⟩
    have all : ∀ m : Fin 61, ((m : Nat) : Int).natAbs.log2 < 1920 := by decide +kernel
    exact all ⟨n, by omega⟩

end
end Own

set_option Elab.async false
set_option linter.all false
set_option maxRecDepth 100000
set_option maxHeartbeats 4000000
namespace Own
open PySem L2 ClX
local macro_rules | `(tactic| walk_at "v") => `(tactic| refine ⟨_, rfl, ?_⟩)
local macro_rules | `(tactic| walk_at "ii") => `(tactic| refine ⟨_, _, rfl, rfl, ?_⟩)
local macro_rules | `(tactic| walk_at "go") => `(tactic| repeat (first | refine ⟨_, rfl, ?_⟩ | refine ⟨_, _, rfl, rfl, ?_⟩ | refine addI ?_ | refine L2.iteT ?_ | refine L2.iteF ?_))

section
variable {P : Program} {w : World} {K : PySem.W.Frag} {mg : Str → Option Value} {base : Heap} {A : Ad}
/-! ### logs, or any object -/
theorem met_nodup (xs : List Str) : ∀ i, (OwnSet.met xs i).Nodup
  | 0 => List.nodup_nil
  | i + 1 => by
    have ih := met_nodup xs i
    show (OwnSet.putM (OwnSet.met xs i) (xs.getD i Str.empty)).Nodup
    unfold OwnSet.putM
    split
    · exact ih
    · rename_i c
      refine List.nodup_append.mpr ⟨ih, by simp, fun a ha b hb e => c ?_⟩
      rw [List.mem_singleton] at hb
      exact List.any_eq_true.mpr ⟨a, ha, by rw [e, hb]; exact beq_self_eq_true _⟩
theorem met_one (xs : List Str) : (OwnSet.met xs xs.length).length ≤ 1 ↔ ∀ a ∈ xs, ∀ b ∈ xs, a = b := by
  have mem : ∀ y, y ∈ OwnSet.met xs xs.length ↔ y ∈ xs := fun y => by
    rw [OwnSet.met_mem xs xs.length (Nat.le_refl _) y, List.take_length]
  have nd := met_nodup xs xs.length
  generalize OwnSet.met xs xs.length = ms at mem nd
  constructor
  · intro l a ha b hb
    have ha := (mem a).mpr ha
    have hb := (mem b).mpr hb
    match ms, l, ha, hb with
    | [], _, ha, _ => cases ha
    | [m], _, ha, hb =>
      rw [List.mem_singleton] at ha hb
      rw [ha, hb]
    | _ :: _ :: _, l, _, _ => simp at l
  · intro h
    match ms, nd, mem with
    | [], _, _ => exact Nat.zero_le _
    | [_], _, _ => exact Nat.le_refl _
    | m :: m2 :: ms, nd, mem =>
      have e := h m ((mem m).mp (by simp)) m2 ((mem m2).mp (by simp))
      rw [e] at nd
      exact absurd List.mem_cons_self (List.nodup_cons.mp nd).1
def spItem (A : Ad) : Sp := fun vs H Q _ => ∃ (p dx : Addr) (way : Int) (x : Str) (n : Int), vs = [.ref p] ∧ H p = some (.ins (cw A way) dx (rfs x n)) ∧ 0 ≤ way ∧ way ≤ 3 ∧ Q (.str x) H
theorem ok_Record_item (T : Txt K mg A) : Ok1 P w K mg base 1 A.m_Record_item ["self"] (spItem A) := by
  refine T.fn_Record_item.ok sc_Record_item (fun _ _ _ _ _ _ us hl => match us, hl with | [_], _ => rfl) (fun vs H Q E h => ?_) (fun cdv B up s H vs Q E hr h => ?_)
  · obtain ⟨p, dx, way, x, n, rfl, _⟩ := h
    rfl
  · obtain ⟨p, dx, way, x, n, rfl, hp, w0, w1, h⟩ := h
    have k := kd_of T w0 w1
    refine ⟨_, (pss_one (ps_ret (pe_fld (pv 0) rfl))), ?_⟩
    exact ⟨_, rfl, p, _, dx, _, _, rfl, hp, k.rc.cl, k.rc.nI, rfs_item _ _, h⟩
/-- an entry: a record, or something else -/
inductive Ety (K : PySem.W.Frag) (A : Ad) (H : Hp) : V → Option (Int × Str × Nat) → Prop where
  | row {p dx : Addr} {way : Int} {x : Str} {n : Nat} (e : H p = some (.ins (cw A way) dx (rfs x n))) (h0 : 0 ≤ way) (h1 : way ≤ 3) (hx : isItem x = true) (hn : n ≤ 60) : Ety K A H (.ref p) (some (way, x, n))
  | no {v : V} {t : Value} (ty : TyX K H v t) (hR : PySem.W.kitOne K t (.ref A.c_Record) = some false) (h1 : PySem.W.kitOne K t (.ref A.c_Inserted) = some false) (h2 : PySem.W.kitOne K t (.ref A.c_Removed) = some false) (h3 : PySem.W.kitOne K t (.ref A.c_Fronted) = some false) : Ety K A H v none
inductive Etys (K : PySem.W.Frag) (A : Ad) (H : Hp) : List V → List (Option (Int × Str × Nat)) → Prop where
  | nil : Etys K A H [] []
  | cons {v : V} {o : Option (Int × Str × Nat)} {vs : List V} {os : List (Option (Int × Str × Nat))} (h : Ety K A H v o) (t : Etys K A H vs os) : Etys K A H (v :: vs) (o :: os)
theorem Ety.same {H H' : Hp} {v : V} {o : Option (Int × Str × Nat)} (h : Ety K A H v o) (s : Same H H') : Ety K A H' v o := by
  cases h with
  | row e h0 h1 hx hn => exact .row (s _ _ e) h0 h1 hx hn
  | no ty a b c d => exact .no (ty.same s) a b c d
theorem Etys.same {H H' : Hp} {vs : List V} {os : List (Option (Int × Str × Nat))} (h : Etys K A H vs os) (s : Same H H') : Etys K A H' vs os := by
  induction h with
  | nil => exact .nil
  | cons a _ ih => exact .cons (a.same s) ih
theorem Etys.len {H : Hp} {vs : List V} {os : List (Option (Int × Str × Nat))} (h : Etys K A H vs os) : vs.length = os.length := by
  induction h with
  | nil => rfl
  | cons _ _ ih => rw [List.length_cons, List.length_cons, ih]
theorem Etys.get {H : Hp} {vs : List V} {os : List (Option (Int × Str × Nat))} (h : Etys K A H vs os) : ∀ {i : Nat} {v : V}, vs[i]? = some v → ∃ o, os[i]? = some o ∧ Ety K A H v o := by
  induction h with
  | nil => intro i v e; cases e
  | cons a _ ih =>
    intro i v e
    cases i with
    | zero => cases e; exact ⟨_, rfl, a⟩
    | succ i => exact ih e
theorem Etys.app {H : Hp} {vs ws : List V} {os us : List (Option (Int × Str × Nat))} (h : Etys K A H vs os) (g : Etys K A H ws us) : Etys K A H (vs ++ ws) (os ++ us) := by
  induction h with
  | nil => exact g
  | cons a _ ih => exact .cons a ih
def kindO : Option (Int × Str × Nat) → Bool
  | some q => decide (q.1 < 3)
  | none => false
theorem Etys.rws {H : Hp} {vs : List V} {os : List (Option (Int × Str × Nat))} (h : Etys K A H vs os) : Rws K A H vs (os.map kindO) := by
  induction h with
  | nil => exact .nil
  | cons a _ ih =>
    cases a with
    | row e h0 h1 hx hn => exact .cons (.row e h0 h1) ih
    | no ty hR _ _ _ => exact .cons (.no ty hR) ih
theorem Etys.rows {H : Hp} {vs : List V} {os : List (Option (Int × Str × Nat))} (h : Etys K A H vs os) (a : os.all kindO = true) : Rows A H vs (os.filterMap id) ∧ os.length = (os.filterMap id).length ∧ ∀ q ∈ os.filterMap id, q.2.2 ≤ 60 := by
  induction h with
  | nil => exact ⟨.nil, rfl, fun q hq => by cases hq⟩
  | cons e _ ih =>
    rw [List.all_cons, Bool.and_eq_true] at a
    obtain ⟨i1, i2, i3⟩ := ih a.2
    cases e with
    | row e h0 h1 hx hn =>
      refine ⟨.cons e h0 (of_decide_eq_true a.1) hx i1, congrArg (· + 1) i2, fun q hq => ?_⟩
      rcases List.mem_cons.mp hq with rfl | hq
      · exact hn
      · exact i3 q hq
    | no _ _ _ _ _ => exact absurd a.1 (by decide)
def signs (qs : List (Int × Str × Nat)) : List Str := qs.map fun q => signW q.1
def names (qs : List (Int × Str × Nat)) : List Str := qs.map fun q => q.2.1
/-- whether these entries are a log -/
def isLogB (os : List (Option (Int × Str × Nat))) : Bool := decide (os.length ≤ 40) && (os.all kindO && (decide (∀ a ∈ signs (os.filterMap id), ∀ b ∈ signs (os.filterMap id), a = b) && decide (names (os.filterMap id)).Nodup))
/-- any object, and its entries, if it is a list -/
inductive Case (K : PySem.W.Frag) (A : Ad) (H : Hp) : V → Option (List (Option (Int × Str × Nat))) → Prop where
  | no {v : V} {t : Value} (ty : TyX K H v t) (h : PySem.W.kitOne K t (.type "list") = some false) : Case K A H v none
  | lst {l : Addr} {vs : List V} {os : List (Option (Int × Str × Nat))} (e : H l = some (.lst vs)) (m : vs.length ≤ 4000) (z : Etys K A H vs os) : Case K A H (.ref l) (some os)
theorem Case.same {H H' : Hp} {v : V} {c : Option (List (Option (Int × Str × Nat)))} (h : Case K A H v c) (s : Same H H') : Case K A H' v c := by
  cases h with
  | no ty h => exact .no (ty.same s) h
  | lst e m z => exact .lst (s _ _ e) m (z.same s)
def logB : Option (List (Option (Int × Str × Nat))) → Bool
  | some os => isLogB os
  | none => false
theorem signs_at {qs : List (Int × Str × Nat)} {i : Nat} {q : Int × Str × Nat} (h : qs[i]? = some q) : (signs qs).getD i Str.empty = signW q.1 := by
  unfold signs
  rw [List.getD_eq_getElem?_getD, List.getElem?_map, h]
  rfl
theorem names_at {qs : List (Int × Str × Nat)} {i : Nat} {q : Int × Str × Nat} (h : qs[i]? = some q) : (names qs).getD i Str.empty = q.2.1 := by
  unfold names
  rw [List.getD_eq_getElem?_getD, List.getElem?_map, h]
  rfl
def spLog (K : PySem.W.Frag) (A : Ad) : Sp := fun vs H Q _ => ∃ (v : V) (c : Option (List (Option (Int × Str × Nat)))), vs = [v] ∧ Case K A H v c ∧ ∀ H', Same H H' → Q (.bl (logB c)) H'
theorem len_is_log : ∀ vs H Q E, spLog K A vs H Q E → vs.length = 1 := fun vs H Q E h => by
  obtain ⟨v, c, rfl, _⟩ := h
  rfl
theorem prop_text (T : Txt K mg A) {way : Int} (h0 : 0 ≤ way) (h1 : way ≤ 3) : PropOf K (cw A way) "text" A.p_Record_text A.m_Record_text := by
  rcases way4 h0 h1 with rfl | rfl | rfl | rfl
  · exact T.pr_Inserted_text
  · exact T.pr_Removed_text
  · exact T.pr_Fronted_text
  · exact T.pr_Record_text
theorem prop_item (T : Txt K mg A) {way : Int} (h0 : 0 ≤ way) (h1 : way ≤ 3) : PropOf K (cw A way) "item" A.p_Record_item A.m_Record_item := by
  rcases way4 h0 h1 with rfl | rfl | rfl | rfl
  · exact T.pr_Inserted_item
  · exact T.pr_Removed_item
  · exact T.pr_Fronted_item
  · exact T.pr_Record_item
theorem body_is_log (T : Txt K mg A) : BodyX P w K mg base N_is_log "is_log" s_is_log A.f_is_log 3 (spLog K A) := by
  intro cdv B up s H vs Q E hr h
  obtain ⟨v, c, rfl, hc, h⟩ := h
  refine ⟨_, (pss_cons (ps_if (pt_not (pt_val (po_call (ok_are_records T) (hr.mono (by decide)) T.mg_are_records (pa_cons (pv 0) (pa_cons (pe_globC T.mg_MOST_IN_LOG) pa_nil))))) (pss_one (ps_ret pe_bl)) pss_nil)
      (pss_cons (ps_if (pt_cmpR op_gt (pe_callB OwnSet.call_lenTx (by rfl) T.no_len (by decide +kernel) (pa_cons (OwnSet.pe_sxD (own := [("record", 1)]) rfl sc_is_log.nd (pi_list (pv 0)) (blkOk_by (N := N_is_log) (sc := defScope s_is_log) (by decide +kernel)) (fun _ _ _ _ _ => pg_name (i := 1) sc_is_log.nd rfl (Or.inl rfl)) (fun _ _ _ _ _ => pts_nil) (fun _ _ _ _ _ => (pe_con (pv 1) rfl))) pa_nil)) pe_int (nomark _)) (pss_one (ps_ret pe_bl)) pss_nil)
      (pss_one (ps_ret (pe_cmpR (op_eqX hr) (pe_callB OwnSet.call_lenTx (by rfl) T.no_len (by decide +kernel) (pa_cons (OwnSet.pe_sxD (own := [("record", 1)]) rfl sc_is_log.nd (pi_list (pv 0)) (blkOk_by (N := N_is_log) (sc := defScope s_is_log) (by decide +kernel)) (fun _ _ _ _ _ => pg_name (i := 1) sc_is_log.nd rfl (Or.inl rfl)) (fun _ _ _ _ _ => pts_nil) (fun _ _ _ _ _ => (po_propD (p := A.p_Record_item) (ok_Record_item T) (hr.mono (by decide)) (pv 1)))) pa_nil)) (pe_callB call_len (by rfl) T.no_len (by decide +kernel) (pa_cons (pv 0) pa_nil)) (nomark _)))))), ?_⟩
  cases hc with
  | no ty hk => exact ⟨_, rfl, v, 40, false, rfl, .no ty hk, fun H' s' => ⟨_, rfl, iteT (h H' s')⟩⟩
  | @lst l vs os e m z =>
    have lz := z.len
    refine ⟨_, rfl, .ref l, 40, _, rfl, .lst e m z.rws, fun H1 s1 => ⟨_, rfl, ?_⟩⟩
    rw [List.length_map, List.all_map]
    have e1 : (os.all (id ∘ kindO)) = os.all kindO := rfl
    rw [e1]
    by_cases a : (decide (os.length ≤ 40) && os.all kindO) = true
    · rw [a]
      rw [Bool.and_eq_true] at a
      have l40 := of_decide_eq_true a.1
      obtain ⟨rows, lr, bound⟩ := z.rows a.2
      have h : ∀ H', Same H H' → Q (.bl (decide (∀ a ∈ signs (os.filterMap id), ∀ b ∈ signs (os.filterMap id), a = b) && decide (names (os.filterMap id)).Nodup)) H' := fun H' s' => by
        have z := h H' s'
        unfold logB isLogB at z
        dsimp only at z
        rw [a.1, a.2, Bool.true_and, Bool.true_and] at z
        exact z
      generalize os.filterMap id = qs at rows lr bound h
      have lq := rows.len
      refine iteF ⟨_, rfl, l, rfl, ⟨_, SqL.of (s1 _ _ e)⟩, fun D nD => ?_⟩
      refine OwnSet.sx_list (K := K) (P := P) (w := w) (a := l) (xs := vs) (fun i H' => Same H1 H' ∧ H' D = some (OwnSet.TxS P w D (OwnSet.met (signs qs) i))) ?_ ?_ ?_ ?_
      · exact ⟨Same.new nD, upd_same⟩
      · rintro i H2 _ ⟨s2, _⟩
        exact SqL.of (s2 _ _ (s1 _ _ e))
      · rintro i y H2 hy ⟨s2, h2⟩
        obtain ⟨p, dx, way, x, n, rfl, hq, he, w0, w1, hx⟩ := rows.get hy
        have k := kd_of T w0 (by omega)
        obtain ⟨u, cn⟩ := k.sg
        have le := OwnSet.met_le (signs qs) i
        have hi := (List.getElem?_eq_some_iff.mp hq).1
        refine ⟨rfl, _, rfl, p, _, dx, _, _, _, rfl, s2 _ _ (s1 _ _ he), k.rc.cl, cn, no_sign _ _, _, _, rfl, h2, Nat.lt_of_le_of_lt (Nat.add_le_add_right le 1) (Nat.lt_of_lt_of_le (show i + 1 < 100 by omega) (by decide)), ?_, ?_⟩
        · intro c o eo
          rw [upd_ne (ne_of_none eo nD)]
          exact s2 _ _ eo
        · rw [upd_same]
          show _ = some (OwnSet.TxS P w D (OwnSet.putM (OwnSet.met (signs qs) i) ((signs qs).getD i Str.empty)))
          rw [signs_at hq]
      · rintro H2 ⟨s2, h2⟩
        have ls : vs.length = (signs qs).length := by
          unfold signs
          rw [List.length_map, lq]
        rw [ls] at h2
        have le := OwnSet.met_le (signs qs) (signs qs).length
        have sm : (OwnSet.met (signs qs) (signs qs).length).length < scanBound := Nat.lt_of_le_of_lt le (Nat.lt_of_lt_of_le (show _ < 100 by omega) (by decide))
        have one := met_one (signs qs)
        refine ⟨D, _, rfl, h2, sm, _, _, rfl, rfl, _, rfl, ite2 (fun c => ?_) (fun c => ?_)⟩
        · have c' := of_decide_eq_true c
          have no : ¬ ∀ a ∈ signs qs, ∀ b ∈ signs qs, a = b := fun z => by
            have := one.mpr z
            omega
          rw [decide_eq_false no, Bool.false_and] at h
          exact h H2 (s1.trans s2)
        · have c' := of_decide_eq_false (Bool.eq_false_iff.mpr c)
          have yes : ∀ a ∈ signs qs, ∀ b ∈ signs qs, a = b := one.mp (by omega)
          rw [decide_eq_true yes, Bool.true_and] at h
          have s12 := s1.trans s2
          refine ⟨_, rfl, l, rfl, ⟨_, SqL.of (s12 _ _ e)⟩, fun D2 nD2 => ?_⟩
          refine OwnSet.sx_list (K := K) (P := P) (w := w) (a := l) (xs := vs) (fun i H' => Same H2 H' ∧ H' D2 = some (OwnSet.TxS P w D2 (OwnSet.met (names qs) i))) ?_ ?_ ?_ ?_
          · exact ⟨Same.new nD2, upd_same⟩
          · rintro i H3 _ ⟨s3, _⟩
            exact SqL.of (s3 _ _ (s12 _ _ e))
          · rintro i y H3 hy ⟨s3, h3⟩
            obtain ⟨p, dx, way, x, n, rfl, hq, he, w0, w1, hx⟩ := rows.get hy
            have le2 := OwnSet.met_le (names qs) i
            have hi := (List.getElem?_eq_some_iff.mp hq).1
            have he3 := s3 _ _ (s12 _ _ he)
            refine ⟨rfl, _, rfl, p, _, dx, _, rfl, he3, (kd_of T w0 (by omega)).rc.cl, prop_item T w0 (by omega), p, dx, way, x, n, rfl, he3, w0, by omega, _, _, rfl, h3, Nat.lt_of_le_of_lt (Nat.add_le_add_right le2 1) (Nat.lt_of_lt_of_le (show i + 1 < 100 by omega) (by decide)), ?_, ?_⟩
            · intro c o eo
              rw [upd_ne (ne_of_none eo nD2)]
              exact s3 _ _ eo
            · rw [upd_same]
              show _ = some (OwnSet.TxS P w D2 (OwnSet.putM (OwnSet.met (names qs) i) ((names qs).getD i Str.empty)))
              rw [names_at hq]
          · rintro H3 ⟨s3, h3⟩
            have ln : vs.length = (names qs).length := by
              unfold names
              rw [List.length_map, lq]
            have all := OwnSet.met_all (names qs)
            have le2 := OwnSet.met_le (names qs) (names qs).length
            rw [ln] at h3
            have sm2 : (OwnSet.met (names qs) (names qs).length).length < scanBound := Nat.lt_of_le_of_lt le2 (Nat.lt_of_lt_of_le (show _ < 100 by omega) (by decide))
            refine ⟨D2, _, rfl, h3, sm2, _, rfl, _, _, rfl, .inl ⟨_, SqL.of (s3 _ _ (s12 _ _ e)), rfl⟩, eqS rfl ?_⟩
            have z : decide (V.int (((OwnSet.met (names qs) (names qs).length).length : Nat) : Int) = V.int ((vs.length : Nat) : Int)) = decide (names qs).Nodup := by
              rw [← all, ln]
              exact decide_eq_decide.mpr ⟨fun z => by have := V.int.inj z; omega, fun z => by rw [z]⟩
            rw [z]
            exact h H3 (s12.trans s3)
    · have a' := Bool.eq_false_iff.mpr a
      rw [a']
      refine iteT ?_
      have z : logB (some os) = false := by
        show isLogB os = false
        unfold isLogB
        rw [← Bool.and_assoc, a', Bool.false_and]
      rw [z] at h
      exact h H1 s1
theorem ok_is_log (T : Txt K mg A) : OkX P w K mg base 4 A.f_is_log ["thing"] (spLog K A) := T.fn_is_log.okX sc_is_log (fun _ _ _ _ _ _ us hl => match us, hl with | [_], _ => rfl) len_is_log (body_is_log T)
theorem okK_is_log (T : Txt K mg A) : OkX1 P w K mg base 4 A.f_is_log ["thing"] (spLog K A) := T.fn_is_log.okX1 sc_is_log (fun _ _ _ _ _ _ _ => rfl) len_is_log (body_is_log T)

end
end Own

set_option Elab.async false
set_option linter.all false
set_option maxRecDepth 100000
set_option maxHeartbeats 4000000
namespace Own
open PySem L2 ClX
local macro_rules | `(tactic| walk_at "v") => `(tactic| refine ⟨_, rfl, ?_⟩)
local macro_rules | `(tactic| walk_at "ii") => `(tactic| refine ⟨_, _, rfl, rfl, ?_⟩)
local macro_rules | `(tactic| walk_at "go") => `(tactic| repeat (first | refine ⟨_, rfl, ?_⟩ | refine ⟨_, _, rfl, rfl, ?_⟩ | refine addI ?_ | refine L2.iteT ?_ | refine L2.iteF ?_))

section
variable {P : Program} {w : World} {K : PySem.W.Frag} {mg : Str → Option Value} {base : Heap} {A : Ad}
def lowS (x : Str) : Prop := ∀ c ∈ x.cps.toList, c < 0x110000
theorem lowS.app {a b : Str} (h : lowS a) (g : lowS b) : lowS (a ++ b) := by
  intro c hc
  have e : (a ++ b).cps.toList = a.cps.toList ++ b.cps.toList := Array.toList_append
  rw [e] at hc
  exact (List.mem_append.mp hc).elim (h c) (g c)
theorem low_text {way : Int} {x : Str} {n : Nat} (h0 : 0 ≤ way) (h1 : way ≤ 3) (hx : isItem x = true) (hn : n ≤ 60) : lowS (textW way x n) := by
  have ls : lowS (signW way) := by
    rcases way4 h0 h1 with rfl | rfl | rfl | rfl
    · unfold lowS; decide +kernel
    · unfold lowS; decide +kernel
    · unfold lowS; decide +kernel
    · unfold lowS; decide +kernel
  have lx : lowS x := fun c hc => Nat.lt_trans (item_chars hx c hc) (by decide)
  have la : lowS (Str.ofString "@") := by unfold lowS; decide +kernel
  have ln : lowS (Str.ofString (toString (n : Int))) := by
    have all : ∀ m : Fin 61, ∀ c ∈ (Str.ofString (toString ((m : Nat) : Int))).cps.toList, c < 0x110000 := by decide +kernel
    exact all ⟨n, by omega⟩
  have l0 : lowS Str.empty := by unfold lowS; decide +kernel
  exact (((l0.app ls).app lx).app la).app ln
theorem layT : ∀ xs : List Str, (∀ x ∈ xs, lowS x) → PyData.canLayAll0 (xs.map .str) = true
  | [], _ => by simp [PyData.canLayAll0]
  | x :: xs, h => by
    have ih := layT xs fun y hy => h y (List.mem_cons_of_mem _ hy)
    have hx : PyData.strOk x = true := by
      unfold PyData.strOk
      rw [Array.all_eq_true']
      intro c hc
      exact decide_eq_true (h x List.mem_cons_self c (Array.mem_toList_iff.mpr hc))
    simp only [List.map_cons, PyData.canLayAll0, PyData.canLay0, ih, hx, Bool.and_self]
theorem shapedT {xs : List Str} (h : ∀ x ∈ xs, lowS x) : SeqAt.shaped (sl xs) = true := by
  unfold SeqAt.shaped sl
  simp [PyData.canLay0, layT xs h, PyData.depth, depthS xs]

/-! ### what the law asks of an object -/
theorem text_sign {way : Int} {x : Str} {n : Nat} (h0 : 0 ≤ way) (h1 : way < 3) : Txt.slice (textW way x n) none (some 1) = signW way := by
  have e : ∀ z : Str, z = SX.S z.cps.toList := fun z => by
    cases z
    rfl
  rw [e (textW way x n), SX.slice_to (by decide), e (signW way)]
  have ap : ∀ a b : Str, (a ++ b).cps.toList = a.cps.toList ++ b.cps.toList := fun a b => Array.toList_append
  unfold textW
  rw [ap, ap, ap, ap]
  rcases (show way = 0 ∨ way = 1 ∨ way = 2 by omega) with rfl | rfl | rfl <;> rfl
theorem text_len {way : Int} {x : Str} {n : Nat} (w0 : 0 ≤ way) (w1 : way ≤ 3) (hx : isItem x = true) (hn : n ≤ 60) : (textW way x n).length ≤ 20 := by
  have ls : (signW way).length ≤ 1 := by
    rcases way4 w0 w1 with rfl | rfl | rfl | rfl <;> decide +kernel
  have lx := item_len hx
  have ln : (Str.ofString (toString (n : Int))).length ≤ 2 := by
    have all : ∀ m : Fin 61, (Str.ofString (toString ((m : Nat) : Int))).length ≤ 2 := by decide +kernel
    exact all ⟨n, by omega⟩
  have la : ∀ a b : Str, (a ++ b).length = a.length + b.length := fun a b => Array.size_append
  have e0 : Str.empty.length = 0 := rfl
  have e1 : (Str.ofString "@").length = 1 := rfl
  unfold textW
  rw [la, la, la, la]
  omega
theorem low_sign {way : Int} (w0 : 0 ≤ way) (w1 : way ≤ 3) : lowS (signW way) := by
  rcases way4 w0 w1 with rfl | rfl | rfl | rfl
  · unfold lowS; decide +kernel
  · unfold lowS; decide +kernel
  · unfold lowS; decide +kernel
  · unfold lowS; decide +kernel
theorem same_rep (xs : List Str) : decide (xs = (List.replicate xs.length (xs.take 1)).flatten) = decide (∀ a ∈ xs, ∀ b ∈ xs, a = b) := by
  refine decide_eq_decide.mpr ?_
  cases xs with
  | nil => simp
  | cons x xs =>
    have fl : ∀ n, (List.replicate n [x]).flatten = List.replicate n x := fun n => by
      induction n with
      | zero => rfl
      | succ n ih => rw [List.replicate_succ, List.flatten_cons, ih, List.replicate_succ]; rfl
    have t : (x :: xs).take 1 = [x] := rfl
    rw [t, fl, List.eq_replicate_iff]
    constructor
    · rintro ⟨_, h⟩ a ha b hb
      rw [h a ha, h b hb]
    · intro h
      exact ⟨rfl, fun b hb => h b hb x List.mem_cons_self⟩
theorem map_rep (n : Nat) (xs : List Str) : (List.replicate n ((xs.map V.str).take 1)).flatten = ((List.replicate n (xs.take 1)).flatten).map V.str := by
  rw [List.map_flatten, List.map_replicate, List.map_take]
theorem kitsIRF (T : Txt K mg A) {way : Int} (h0 : 0 ≤ way) (h1 : way ≤ 3) : PySem.W.kitAny K (.ref (cw A way)) [.ref A.c_Inserted, .ref A.c_Removed, .ref A.c_Fronted] = some (decide (way < 3)) := by
  rcases way4 h0 h1 with rfl | rfl | rfl | rfl
  · exact kitAny_cons T.kit_Inserted_Inserted (fun z => by cases z) (fun _ => rfl)
  · exact kitAny_cons T.kit_Removed_Inserted (fun _ => kitAny_cons T.kit_Removed_Removed (fun z => by cases z) (fun _ => rfl)) (fun z => by cases z)
  · exact kitAny_cons T.kit_Fronted_Inserted (fun _ => kitAny_cons T.kit_Fronted_Removed (fun _ => kitAny_cons T.kit_Fronted_Fronted (fun z => by cases z) (fun _ => rfl)) (fun z => by cases z)) (fun z => by cases z)
  · exact kitAny_cons T.kit_Record_Inserted (fun _ => kitAny_cons T.kit_Record_Removed (fun _ => kitAny_cons T.kit_Record_Fronted (fun _ => kitAny_nil) (fun z => by cases z)) (fun z => by cases z)) (fun z => by cases z)
/-- what isinstance tells of an entry -/
theorem Ety.is3 (T : Txt K mg A) {H : Hp} {v : V} {o : Option (Int × Str × Nat)} (h : Ety K A H v o) : ∃ t, TyX K H v t ∧ PySem.W.kitAny K t [.ref A.c_Inserted, .ref A.c_Removed, .ref A.c_Fronted] = some (kindO o) := by
  cases h with
  | row e h0 h1 hx hn =>
    have k := kd_of T h0 h1
    exact ⟨_, .base (.ins e k.rc.cl k.ty.ha k.ty.hn k.ty.ht k.ty.hm), kitsIRF T h0 h1⟩
  | no ty _ a b c => exact ⟨_, ty, kitAny_cons a (fun _ => kitAny_cons b (fun _ => kitAny_cons c (fun _ => kitAny_nil) (fun z => by cases z)) (fun z => by cases z)) (fun z => by cases z)⟩
theorem others_nil (os : List (Option (Int × Str × Nat))) : (((os.filter fun o => !kindO o).map fun _ => V.int 1) = []) ↔ os.all kindO = true := by
  rw [List.map_eq_nil_iff, List.filter_eq_nil_iff, List.all_eq_true]
  constructor
  · intro h o ho
    have := h o ho
    cases e : kindO o with
    | true => rfl
    | false => rw [e] at this; exact absurd rfl this
  · intro h o ho
    rw [h o ho]
    decide
theorem ok__law_due (T : Txt K mg A) : Ok1 P w K mg base 3 A.f__law_due ["case"] (spLog K A) := by
  refine T.fn__law_due.ok sc__law_due (fun _ _ _ _ _ _ us hl => match us, hl with | [_], _ => rfl) (fun vs H Q E h => ?_) (fun cdv B up s H vs Q E hr h => ?_)
  · obtain ⟨v, c, rfl, _⟩ := h
    rfl
  · obtain ⟨v, c, rfl, hc, h⟩ := h
    refine ⟨_, (pss_cons (ps_if (PW.pt (pw_or (pt_not (pt_val (pe_callB call_isi (by rfl) T.no_isinstance (by decide +kernel) (pa_cons (pv 0) (pa_cons (pe_bltn (v := .ty "list") (by rfl) T.no_list (by decide +kernel) rfl) pa_nil))))) (pw_or1 (pt_cmpR op_gt (pe_callB call_len (by rfl) T.no_len (by decide +kernel) (pa_cons (pv 0) pa_nil)) pe_int (nomark _))))) (pss_one (ps_ret pe_bl)) pss_nil)
      (pss_cons (ps_if (pt_cmpR (OwnSet.op_neNil hr.units) (pe_lcD (own := [("row", 2)]) rfl sc__law_due.nd (pi_list (pv 0)) (blkOk_by (N := N__law_due) (sc := defScope s__law_due) (by decide +kernel)) (fun _ _ _ _ _ => pg_name (i := 2) sc__law_due.nd rfl (Or.inl rfl)) (fun _ _ _ _ _ => (pts_one (pt_not (pt_val (pe_callB call_isiT (by rfl) T.no_isinstance (by decide +kernel) (pa_cons (pv 2) (pa_cons (pe_tup (pa_cons (pe_glob (v := .ref A.c_Inserted) rfl T.mg_Inserted rfl) (pa_cons (pe_glob (v := .ref A.c_Removed) rfl T.mg_Removed rfl) (pa_cons (pe_glob (v := .ref A.c_Fronted) rfl T.mg_Fronted rfl) pa_nil)))) pa_nil))))))) (fun _ _ _ _ _ => pe_int)) (pe_lst pa_nil) (nomark _)) (pss_one (ps_ret pe_bl)) pss_nil)
      (pss_cons (ps_setLcD (i := 1) (own := [("row", 2)]) rfl sc__law_due.nd rfl rfl (sw_true rfl rfl rfl (by decide +kernel)) (pi_list (pv 0)) (blkOk_by (N := N__law_due) (sc := defScope s__law_due) (by decide +kernel)) (fun _ _ _ _ _ => pg_name (i := 2) sc__law_due.nd rfl (Or.inl rfl)) (fun _ _ _ _ _ => pts_nil) (fun _ _ _ _ _ => (pe_slice C8.sl_txt (po_propD (p := A.p_Record_text) (ok_Record_text T) (hr.mono (by decide)) (pv 2)) po_none (po_some pe_int))))
      (pss_one (ps_ret (pe_and (pe_cmpR (op_eqX hr) (pv 1) (pe_op op_mulX (pe_slice sl_list (pv 1) po_none (po_some pe_int)) (pe_callB call_len (by rfl) T.no_len (by decide +kernel) (pa_cons (pv 1) pa_nil))) (nomark _)) (pe_one (pe_cmpR (op_eqX hr) (pe_lenSetS T.no_len T.no_set (pe_lcD (own := [("row", 2)]) rfl sc__law_due.nd (pi_list (pv 0)) (blkOk_by (N := N__law_due) (sc := defScope s__law_due) (by decide +kernel)) (fun _ _ _ _ _ => pg_name (i := 2) sc__law_due.nd rfl (Or.inl rfl)) (fun _ _ _ _ _ => pts_nil) (fun _ _ _ _ _ => (po_propD (p := A.p_Record_item) (ok_Record_item T) (hr.mono (by decide)) (pv 2))))) (pe_callB call_len (by rfl) T.no_len (by decide +kernel) (pa_cons (pv 0) pa_nil)) (nomark _))))))))), ?_⟩
    cases hc with
    | no ty hk => exact ⟨_, rfl, _, _, _, _, _, rfl, .ty _, ty, hk, _, rfl, iteT (h H (Same.refl _))⟩
    | @lst l vs os e m z =>
      have lz := z.len
      refine ⟨_, rfl, _, _, _, _, _, rfl, .ty _, .base (.lst e), kit_ty (r := true) (by decide +kernel), ?_⟩
      refine ⟨_, rfl, ?_⟩
      refine iteF ?_
      refine ⟨_, rfl, _, _, rfl, .inl ⟨_, SqL.of e, rfl⟩, _, _, rfl, rfl, _, rfl, ?_⟩
      refine ite2 (fun c => ?_) (fun c => ?_)
      · have c' := of_decide_eq_true c
        have z2 : logB (some os) = false := by
          show isLogB os = false
          unfold isLogB
          rw [decide_eq_false (show ¬ os.length ≤ 40 by omega), Bool.false_and]
        rw [z2] at h
        exact h H (Same.refl _)
      have c' := of_decide_eq_false (Bool.eq_false_iff.mpr c)
      have l40 : os.length ≤ 40 := by omega
      refine ⟨_, rfl, l, rfl, ⟨_, SqL.of e⟩, fun D nD => ?_⟩
      refine lc_list (K := K) (a := l) (xs := vs) (fun i H' => Same H H' ∧ H' D = some (.lst (((os.take i).filter fun o => !kindO o).map fun _ => V.int 1))) ?_ ?_ ?_ ?_
      · exact ⟨Same.new nD, upd_same⟩
      · rintro i H1 _ ⟨s1, _⟩
        exact SqL.of (s1 _ _ e)
      · rintro i y H1 hy ⟨s1, h1⟩
        obtain ⟨o, ho, ey⟩ := z.get hy
        obtain ⟨t, ty, kt⟩ := Ety.is3 T ey
        have ho6 := (List.getElem?_eq_some_iff.mp ho).1
        have e9 : os.take (i + 1) = os.take i ++ [o] := by
          rw [List.take_add_one, ho]
          rfl
        refine ⟨rfl, _, rfl, Nat.le_of_ble_eq_true rfl, fun tp ntp => ?_⟩
        have u2 := Same.new (o := .tup [.ref A.c_Inserted, .ref A.c_Removed, .ref A.c_Fronted]) ntp
        refine ⟨y, tp, _, t, _, _, rfl, upd_same, .cons (.own _) (.cons (.own _) (.cons (.own _) .nil)), (ty.same s1).same u2, kt, _, rfl, ?_⟩
        have h2 := u2 _ _ h1
        cases hk : kindO o with
        | true =>
          refine iteF ⟨s1.trans u2, ?_⟩
          rw [h2, e9, List.filter_append, List.filter_cons_of_neg (by rw [hk]; decide), List.filter_nil, List.append_nil]
        | false =>
          refine iteT ⟨_, h2, ?_, ?_, ?_⟩
          · rw [List.length_map]
            exact Nat.lt_of_le_of_lt (List.length_filter_le _ _) (Nat.lt_of_le_of_lt (List.length_take_le _ _) (Nat.lt_of_lt_of_le (show i < 1000 by omega) (by decide)))
          · intro c o eo
            rw [upd_ne (ne_of_none eo nD)]
            exact (s1.trans u2) _ _ eo
          · rw [upd_same, e9, List.filter_append, List.filter_cons_of_pos (by rw [hk]; decide), List.filter_nil, List.map_append]
            rfl
      · rintro H1 ⟨s1, h1⟩
        rw [lz, List.take_length] at h1
        refine ⟨Nat.zero_le _, fun D2 n2 => ⟨D, D2, _, rfl, rfl, SqL.of ((Same.new n2) _ _ h1), SqL.of upd_same, ?_⟩⟩
        have u2 := Same.new (o := .lst []) n2
        have S2 := s1.trans u2
        by_cases al : os.all kindO = true
        · rw [decide_eq_true ((others_nil os).mpr al)]
          refine ⟨_, rfl, iteF ?_⟩
          obtain ⟨rows, lr, bound⟩ := z.rows al
          have h : ∀ H', Same H H' → Q (.bl (decide (∀ a ∈ signs (os.filterMap id), ∀ b ∈ signs (os.filterMap id), a = b) && decide (names (os.filterMap id)).Nodup)) H' := fun H' s' => by
            have z := h H' s'
            unfold logB isLogB at z
            dsimp only at z
            rw [decide_eq_true l40, al, Bool.true_and, Bool.true_and] at z
            exact z
          generalize os.filterMap id = qs at rows lr bound h
          have lq := rows.len
          clear h1 n2 nD u2 s1
          generalize upd H1 D2 (.lst []) = H2 at S2 ⊢
          refine ⟨_, rfl, l, rfl, ⟨_, SqL.of (S2 _ _ e)⟩, fun G nG => ?_⟩
          refine lc_list (K := K) (a := l) (xs := vs) (fun i H' => Same H2 H' ∧ H' G = some (.lst (((signs qs).take i).map V.str))) ?_ ?_ ?_ ?_
          · exact ⟨Same.new nG, upd_same⟩
          · rintro i H3 _ ⟨s3, _⟩
            exact SqL.of (s3 _ _ (S2 _ _ e))
          · rintro i y H3 hy ⟨s3, h3⟩
            obtain ⟨p, dx, way, x, n, rfl, hq, he, w0, w1, hx⟩ := rows.get hy
            have hn := bound _ (List.mem_of_getElem? hq)
            have he3 := s3 _ _ (S2 _ _ he)
            have hi := (List.getElem?_eq_some_iff.mp hq).1
            have tl := text_len (way := way) (x := x) (n := n) w0 (by omega) hx hn
            refine ⟨rfl, _, rfl, p, _, dx, _, rfl, he3, (kd_of T w0 (by omega)).rc.cl, prop_text T w0 (by omega), p, dx, way, x, n, rfl, he3, w0, by omega, hx, hn, _, rfl, _, rfl, szS (by omega), ?_⟩
            rw [text_sign w0 w1]
            refine ⟨_, h3, ?_, ?_, ?_⟩
            · rw [List.length_map, List.length_take]
              exact Nat.lt_of_le_of_lt (Nat.min_le_left _ _) (Nat.lt_of_lt_of_le (show i < 1000 by omega) (by decide))
            · intro c o eo
              rw [upd_ne (ne_of_none eo nG)]
              exact s3 _ _ eo
            · have ti : (signs qs)[i]? = some (signW way) := by
                unfold signs
                rw [List.getElem?_map, hq]
                rfl
              rw [upd_same, List.take_add_one, ti, List.map_append]
              rfl
          · rintro H3 ⟨s3, h3⟩
            have ls : vs.length = (signs qs).length := by
              unfold signs
              rw [List.length_map, lq]
            rw [ls, List.take_length] at h3
            have S3 := S2.trans s3
            refine ⟨_, rfl, _, rfl, _, rfl, G, _, rfl, SqL.of h3, fun L1 n1 => ?_⟩
            have c1 : cutV ((signs qs).map V.str) none (some (1 : Int)) = ((signs qs).map V.str).take 1 := by
              rw [show (1 : Int) = ((1 : Nat) : Int) from rfl, cut_to', List.map_take]
            rw [c1]
            have u1 := Same.new (o := .lst (((signs qs).map V.str).take 1)) n1
            have lm : ((signs qs).map V.str).length = (signs qs).length := List.length_map ..
            refine ⟨_, rfl, _, _, rfl, .inl ⟨_, SqL.of (u1 _ _ h3), rfl⟩, .inr ⟨L1, _, _, rfl, rfl, upd_same, by omega, by omega, ?_, fun L2 n2 => ?_⟩⟩
            · rw [List.length_take, lm, Int.toNat_natCast]
              refine Nat.le_trans (Nat.mul_le_mul (Nat.min_le_left _ _) (Nat.le_refl _)) ?_
              exact Nat.le_trans (show 1 * (signs qs).length ≤ 100 by omega) (by decide)
            have eR : (List.replicate (((((signs qs).map V.str).length : Nat) : Int).toNat) (((signs qs).map V.str).take 1)).flatten = ((List.replicate (signs qs).length ((signs qs).take 1)).flatten).map V.str := by
              rw [Int.toNat_natCast, lm, map_rep]
            rw [eR]
            have u2 := Same.new (o := .lst (((List.replicate (signs qs).length ((signs qs).take 1)).flatten).map V.str)) n2
            have lowSg : ∀ z ∈ signs qs, lowS z := fun z hz => by
              obtain ⟨q, hq, rfl⟩ := List.mem_map.mp hz
              obtain ⟨i, hi⟩ := List.getElem?_of_mem hq
              have hil : i < vs.length := by rw [lq]; exact (List.getElem?_eq_some_iff.mp hi).1
              have hiv : vs[i]? = some vs[i] := List.getElem?_eq_getElem hil
              obtain ⟨p, dx, way, x, n, _, hq2, _, w0, w1, _⟩ := rows.get hiv
              rw [hi] at hq2
              obtain rfl := Option.some.inj hq2
              exact low_sign w0 (by omega)
            have lowR : ∀ z ∈ (List.replicate (signs qs).length ((signs qs).take 1)).flatten, lowS z := fun z hz => by
              obtain ⟨ys, hys, hz⟩ := List.mem_flatten.mp hz
              rw [List.mem_replicate] at hys
              rw [hys.2] at hz
              exact lowSg z (List.mem_of_mem_take hz)
            refine .inr ⟨_, _, dpS (SqL.of ((u1.trans u2) _ _ h3)), dpS (SqL.of upd_same), shapedT lowSg, shapedT lowR, ?_⟩
            rw [eqvS, same_rep]
            refine ⟨_, rfl, ?_⟩
            have S5 := S3.trans (u1.trans u2)
            by_cases sg : ∀ a ∈ signs qs, ∀ b ∈ signs qs, a = b
            · rw [decide_eq_true sg]
              rw [decide_eq_true sg, Bool.true_and] at h
              refine iteT ?_
              clear eR u1 u2 n1 n2 h3 s3 nG
              generalize upd (upd H3 L1 (.lst (((signs qs).map V.str).take 1))) L2 (.lst (((List.replicate (signs qs).length ((signs qs).take 1)).flatten).map V.str)) = H5 at S5 ⊢
              refine ⟨_, rfl, l, rfl, ⟨_, SqL.of (S5 _ _ e)⟩, fun G2 nG2 => ?_⟩
              refine lc_list (K := K) (a := l) (xs := vs) (fun i H' => Same H5 H' ∧ H' G2 = some (.lst (((names qs).take i).map V.str))) ?_ ?_ ?_ ?_
              · exact ⟨Same.new nG2, upd_same⟩
              · rintro i H6 _ ⟨s6, _⟩
                exact SqL.of (s6 _ _ (S5 _ _ e))
              · rintro i y H6 hy ⟨s6, h6⟩
                obtain ⟨p, dx, way, x, n, rfl, hq, he, w0, w1, hx⟩ := rows.get hy
                have he6 := s6 _ _ (S5 _ _ he)
                have hi := (List.getElem?_eq_some_iff.mp hq).1
                refine ⟨rfl, _, rfl, p, _, dx, _, rfl, he6, (kd_of T w0 (by omega)).rc.cl, prop_item T w0 (by omega), p, dx, way, x, n, rfl, he6, w0, by omega, _, h6, ?_, ?_, ?_⟩
                · rw [List.length_map, List.length_take]
                  exact Nat.lt_of_le_of_lt (Nat.min_le_left _ _) (Nat.lt_of_lt_of_le (show i < 1000 by omega) (by decide))
                · intro c o eo
                  rw [upd_ne (ne_of_none eo nG2)]
                  exact s6 _ _ eo
                · have ti : (names qs)[i]? = some x := by
                    unfold names
                    rw [List.getElem?_map, hq]
                    rfl
                  rw [upd_same, List.take_add_one, ti, List.map_append]
                  rfl
              · rintro H6 ⟨s6, h6⟩
                have ln : vs.length = (names qs).length := by
                  unfold names
                  rw [List.length_map, lq]
                rw [ln, List.take_length] at h6
                have all := OwnSet.met_all (names qs)
                refine ⟨G2, _, rfl, SqL.of h6, by omega, _, rfl, _, _, rfl, .inl ⟨_, SqL.of (s6 _ _ (S5 _ _ e)), rfl⟩, eqS rfl ?_⟩
                have z : decide (V.int (((OwnSet.met (names qs) (names qs).length).length : Nat) : Int) = V.int ((vs.length : Nat) : Int)) = decide (names qs).Nodup := by
                  rw [← all, ln]
                  exact decide_eq_decide.mpr ⟨fun z => by have := V.int.inj z; omega, fun z => by rw [z]⟩
                rw [z]
                exact h H6 (S5.trans s6)
            · rw [decide_eq_false sg]
              rw [decide_eq_false sg, Bool.false_and] at h
              exact iteF (h _ S5)
        · rw [decide_eq_false fun z => al ((others_nil os).mp z)]
          refine ⟨_, rfl, iteT ?_⟩
          have z2 : logB (some os) = false := by
            show isLogB os = false
            unfold isLogB
            rw [Bool.eq_false_iff.mpr al, Bool.false_and, Bool.and_false]
          rw [z2] at h
          exact h _ S2

end
end Own

set_option Elab.async false
set_option linter.all false
set_option maxRecDepth 100000
set_option maxHeartbeats 4000000
namespace Own
open PySem L2 ClX
local macro_rules | `(tactic| walk_at "v") => `(tactic| refine ⟨_, rfl, ?_⟩)
local macro_rules | `(tactic| walk_at "ii") => `(tactic| refine ⟨_, _, rfl, rfl, ?_⟩)
local macro_rules | `(tactic| walk_at "go") => `(tactic| repeat (first | refine ⟨_, rfl, ?_⟩ | refine ⟨_, _, rfl, rfl, ?_⟩ | refine addI ?_ | refine L2.iteT ?_ | refine L2.iteF ?_))

section
variable {P : Program} {w : World} {K : PySem.W.Frag} {mg : Str → Option Value} {base : Heap} {A : Ad}

/-! ### a case, and the texts of records -/
theorem shows2 (b : Bool) : Shows (.list [.bool b, .bool b]) := by
  cases b
  · exact ⟨by decide +kernel, by decide +kernel, by decide +kernel, by decide +kernel⟩
  · exact ⟨by decide +kernel, by decide +kernel, by decide +kernel, by decide +kernel⟩
def spRight (K : PySem.W.Frag) (A : Ad) : Sp := fun vs H Q _ => ∃ (v : V) (c : Option (List (Option (Int × Str × Nat)))), vs = [v] ∧ Case K A H v c ∧ ∀ H', Same H H' → Q (.bl true) H'
theorem ok__law_right (T : Txt K mg A) : OkG P w K mg base 5 A.f__law_right ["case"] (spRight K A) := by
  refine T.fn__law_right.okG sc__law_right (fun _ _ _ _ _ _ us hl => match us, hl with | [_], _ => rfl) (fun vs H Q E h => ?_) (fun cdv B up s H vs Q hr gd h => ?_)
  · obtain ⟨v, c, rfl, _⟩ := h
    rfl
  · obtain ⟨v, c, rfl, hc, h⟩ := h
    refine ⟨_, (pss_cons (ps_set (i := 1) sc__law_right.nd rfl (Or.inl rfl) (po_call (ok__law_due T) (hr.mono (by decide)) T.mg__law_due (pa_cons (pv 0) pa_nil)))
      (pss_one (ps_ret (pe_cmpR (op_eqX hr) (pe_callB (call_reprD hr gd) (by rfl) T.no_repr (by decide +kernel) (pa_cons (pe_lst (pa_cons (px_call (ok_is_log T) (fun _ => atL) (hr.mono (by decide)) T.mg_is_log (pa_cons (pv 0) pa_nil)) (pa_cons (px_call1 (okK_is_log T) (fun _ => atL) (hr.mono (by decide)) T.mg_is_log (pk_cons (pv 0) pk_nil)) pa_nil))) pa_nil)) (pe_callB (call_reprD hr gd) (by rfl) T.no_repr (by decide +kernel) (pa_cons (pe_lst (pa_cons (pv 1) (pa_cons (pv 1) pa_nil))) pa_nil)) (nomark _))))), ?_⟩
    refine ⟨_, rfl, v, c, rfl, hc, fun H1 s1 => ?_⟩
    refine ⟨_, rfl, v, c, rfl, hc.same s1, fun H2 s2 => ?_⟩
    refine ⟨_, rfl, v, c, rfl, (hc.same s1).same s2, fun H3 s3 => ?_⟩
    refine ⟨Nat.le_of_ble_eq_true rfl, fun a na => ?_⟩
    have u1 := Same.new (o := .lst [.bl (logB c), .bl (logB c)]) na
    refine ⟨_, .list [.bool (logB c), .bool (logB c)], rfl, .lst (SqL.of upd_same) (.cons (.bl _) (.cons (.bl _) .nil)), shows2 _, ?_⟩
    refine ⟨_, rfl, _, rfl, Nat.le_of_ble_eq_true rfl, fun b nb => ?_⟩
    have u2 := Same.new (o := .lst [.bl (logB c), .bl (logB c)]) nb
    refine ⟨_, .list [.bool (logB c), .bool (logB c)], rfl, .lst (SqL.of upd_same) (.cons (.bl _) (.cons (.bl _) .nil)), shows2 _, eqS rfl ?_⟩
    rw [strT]
    exact h _ (s1.trans (s2.trans (s3.trans (u1.trans u2))))
def spTexts (A : Ad) : Sp := fun vs H Q _ => ∃ (l : Addr) (rs : List V) (ps : List (Int × Str × Nat)), vs = [.ref l] ∧ H l = some (.lst rs) ∧ Rows A H rs ps ∧ ps.length ≤ 100 ∧ (∀ q ∈ ps, q.2.2 ≤ 60) ∧
  ∀ (D : Addr) (H' : Hp), Same H H' → H D = none → H' D = some (.lst ((ps.map fun q => textW q.1 q.2.1 q.2.2).map V.str)) → Q (.ref D) H'
theorem ok__law_texts (T : Txt K mg A) : Ok1 P w K mg base 3 A.f__law_texts ["rows"] (spTexts A) := by
  refine T.fn__law_texts.ok sc__law_texts (fun _ _ _ _ _ _ us hl => match us, hl with | [_], _ => rfl) (fun vs H Q E h => ?_) (fun cdv B up s H vs Q E hr h => ?_)
  · obtain ⟨l, rs, ps, rfl, _⟩ := h
    rfl
  · obtain ⟨l, rs, ps, rfl, hl, rows, lp, bound, h⟩ := h
    refine ⟨_, (pss_one (ps_ret (pe_lcD (own := [("row", 1)]) rfl sc__law_texts.nd (pi_list (pv 0)) (blkOk_by (N := N__law_texts) (sc := defScope s__law_texts) (by decide +kernel)) (fun _ _ _ _ _ => pg_name (i := 1) sc__law_texts.nd rfl (Or.inl rfl)) (fun _ _ _ _ _ => pts_nil) (fun _ _ _ _ _ => (po_propD (p := A.p_Record_text) (ok_Record_text T) (hr.mono (by decide)) (pv 1)))))), ?_⟩
    refine ⟨_, rfl, l, rfl, ⟨_, SqL.of hl⟩, fun W nW => ?_⟩
    refine lc_list (K := K) (a := l) (xs := rs) (fun i H' => Same H H' ∧ H' W = some (.lst ((((ps.map fun q => textW q.1 q.2.1 q.2.2).take i)).map V.str))) ?_ ?_ ?_ ?_
    · exact ⟨Same.new nW, upd_same⟩
    · rintro i Hc _ ⟨sc, _⟩
      exact SqL.of (sc _ _ hl)
    · rintro i y Hc hy ⟨sc, hc⟩
      obtain ⟨p, dx, way, x, n, rfl, hpi, he, w0, w1, hx⟩ := rows.get hy
      have hn := bound _ (List.mem_of_getElem? hpi)
      refine ⟨rfl, _, rfl, p, _, dx, _, rfl, sc _ _ he, (kd_of T w0 (by omega)).rc.cl, prop_text T w0 (by omega), p, dx, way, x, n, rfl, sc _ _ he, w0, by omega, hx, hn, _, hc, ?_, ?_, ?_⟩
      · rw [List.length_map, List.length_take]
        exact Nat.lt_of_le_of_lt (Nat.min_le_left _ _) (Nat.lt_of_lt_of_le (show i < 1000 by have := (List.getElem?_eq_some_iff.mp hpi).1; omega) (by decide))
      · intro c o e0
        rw [upd_ne (ne_of_none e0 nW)]
        exact sc _ _ e0
      · have ti : (ps.map fun q => textW q.1 q.2.1 q.2.2)[i]? = some (textW way x n) := by
          rw [List.getElem?_map, hpi]
          rfl
        rw [upd_same, List.take_add_one, ti, List.map_append]
        rfl
    · rintro H1 ⟨s1, h1⟩
      have lt : rs.length = (ps.map fun q => textW q.1 q.2.1 q.2.2).length := by
        rw [rows.len]
        exact (List.length_map ..).symm
      rw [lt, List.take_length] at h1
      exact h W H1 s1 nW h1
/-! ### a log, drawn -/
theorem at_new {H : Hp} {a : Addr} {o : HO} (_ : Same H (upd H a o)) : upd H a o a = some o := upd_same
def spDrawn : Sp := fun vs H Q _ => ∃ (p : Addr) (n : Int) (most : Nat), vs = [.ref p, .int most] ∧ SrcAt H p n ∧ most ≤ 41 ∧ n < 2 ^ 47 ∧
  ∀ (D : Addr) (ts : List V) (ps : List (Int × Str × Nat)) (H' : Hp), But p H H' → SrcAt H' p (n + 200) → D ≠ p → H' D = some (.lst ts) → Parts H' ts ps → ps.length ≤ 41 → Q (.ref D) H'
theorem Parts.butS {H H' : Hp} {p : Addr} {n : Int} {vs : List V} {ps : List (Int × Str × Nat)} (h : Parts H vs ps) (s : SrcAt H p n) (b : But p H H') : Parts H' vs ps := by
  induction h with
  | nil => exact .nil
  | cons e h0 h1 hx hn _ ih =>
    refine .cons (b _ _ e fun z => ?_) h0 h1 hx hn ih
    obtain ⟨g, m', c, z2, _⟩ := s
    rw [z, z2] at e
    cases e
theorem Parts.updL {H : Hp} {vs us : List V} {ps : List (Int × Str × Nat)} {D : Addr} {o : HO} (h : Parts H vs ps) (hD : H D = some (.lst us)) : Parts (upd H D o) vs ps := by
  induction h with
  | nil => exact .nil
  | @cons t way x n vs ps e h0 h1 hx hn _ ih =>
    refine .cons ?_ h0 h1 hx hn ih
    rw [upd_ne (fun z => by rw [z, hD] at e; cases e)]
    exact e
theorem ok__law_log (T : Txt K mg A) : Ok1 P w K mg base 4 A.f__law_log ["source", "most"] spDrawn := by
  refine T.fn__law_log.ok sc__law_log (fun _ _ _ _ _ _ us hl => match us, hl with | [_, _], _ => rfl) (fun vs H Q E h => ?_) (fun cdv B up s H vs Q E hr h => ?_)
  · obtain ⟨p, n, most, rfl, _⟩ := h
    rfl
  · obtain ⟨p, n, most, rfl, hs, hm, hn, h⟩ := h
    refine ⟨_, (pss_cons (ps_set (i := 2) sc__law_log.nd rfl (Or.inl rfl) (pe_ix ix_seq (pe_lst (pa_cons (po_call (ok__law_pick T) (hr.mono (by decide)) T.mg__law_pick (pa_cons (pv 0) (pa_cons pe_int pa_nil))) (pa_cons (po_call (ok__law_pick T) (hr.mono (by decide)) T.mg__law_pick (pa_cons (pv 0) (pa_cons (pe_op op_addX (pv 1) pe_int) pa_nil))) (pa_cons (pv 1) pa_nil)))) (po_call (ok__law_pick T) (hr.mono (by decide)) T.mg__law_pick (pa_cons (pv 0) (pa_cons pe_int pa_nil))) (fun _ _ => rfl)))
      (pss_cons (ps_asg (pe_tup (pa_cons (po_call (ok__law_pick T) (hr.mono (by decide)) T.mg__law_pick (pa_cons (pv 0) (pa_cons pe_int pa_nil))) (pa_cons (pe_ix ix_seq (pe_lst (pa_cons pe_int (pa_cons pe_int (pa_cons (pe_op op_addX (pv 2) pe_int) (pa_cons pe_int pa_nil))))) (po_call (ok__law_pick T) (hr.mono (by decide)) T.mg__law_pick (pa_cons (pv 0) (pa_cons pe_int pa_nil))) (fun _ _ => rfl)) pa_nil))) (pg_tup (by rfl) (pgs_cons (pg_name (i := 3) sc__law_log.nd rfl (Or.inr rfl)) (pgs_cons (pg_name (i := 4) sc__law_log.nd rfl (Or.inr rfl)) pgs_nil))))
      (pss_one (ps_ret (pe_lcD (own := [("name", 5)]) rfl sc__law_log.nd (pi_list (po_call (ok__law_names T) (hr.mono (by decide)) T.mg__law_names (pa_cons (pv 0) (pa_cons (pv 2) pa_nil)))) (blkOk_by (N := N__law_log) (sc := defScope s__law_log) (by decide +kernel)) (fun _ _ _ _ _ => pg_name (i := 5) sc__law_log.nd rfl (Or.inl rfl)) (fun _ _ _ _ _ => pts_nil) (fun _ _ _ _ _ => (pe_tup (pa_cons (pv 3) (pa_cons (pv 5) (pa_cons (po_call (ok__law_pick T) (hr.mono (by decide)) T.mg__law_pick (pa_cons (pv 0) (pa_cons (pe_callB (call_min2 rfl) (by rfl) T.no_min (by decide +kernel) (pa_cons (pv 4) (pa_cons pe_int pa_nil))) pa_nil))) pa_nil)))))))))), ?_⟩
    refine ⟨_, rfl, p, 4, n, rfl, by decide, by decide, hs, by omega, fun r1 H1 a0 a1 a2 a3 => ?_⟩
    refine ⟨_, rfl, _, rfl, addI ⟨p, (most : Int) + 1, n + 1, rfl, by omega, by omega, a2, by omega, fun r2 H2 b0 b1 b2 b3 => ?_⟩⟩
    refine ⟨_, rfl, Nat.le_of_ble_eq_true rfl, fun q nq => ?_⟩
    have uq := Same.new (o := .lst [.int r1, .int r2, .int (most : Nat)]) nq
    refine ⟨_, rfl, p, 3, n + 1 + 1, rfl, by decide, by decide, b2.same uq, by omega, fun r3 H3 c0 c1 c2 c3 => ?_⟩
    obtain ⟨z, hz, z0, z1⟩ := pickI (zs := [r1, r2, (most : Nat)]) (fun z => 0 ≤ z ∧ z ≤ 41) (by intro z hz; simp at hz; omega) c0 c1
    refine ixL (c3 _ _ upd_same (b2.ne nq)) hz ?_
    obtain ⟨many, rfl⟩ : ∃ k : Nat, z = k := ⟨z.toNat, by omega⟩
    have B3 : But p H H3 := (a3.trans b3).trans ((But.same uq).trans c3)
    clear a2 a3 b2 b3 c3 uq nq hz hs
    refine ⟨_, rfl, p, 3, n + 1 + 1 + 1, rfl, by decide, by decide, c2, by omega, fun r4 H4 d0 d1 d2 d3 => ?_⟩
    refine ⟨_, rfl, addI ⟨Nat.le_of_ble_eq_true rfl, fun q2 nq2 => ?_⟩⟩
    have u2 := Same.new (o := .lst [.int 1, .int 5, .int ((many : Nat) + 1), .int 61]) nq2
    refine ⟨_, rfl, p, 4, n + 1 + 1 + 1 + 1, rfl, by decide, by decide, d2.same u2, by omega, fun r5 H5 e0 e1 e2 e3 => ?_⟩
    obtain ⟨high, hh, hi0, hi1⟩ := pickI (zs := [1, 5, (many : Nat) + 1, 61]) (fun z => 1 ≤ z ∧ z ≤ 61) (by intro z hz; simp at hz; omega) e0 e1
    refine ixL (e3 _ _ upd_same (d2.ne nq2)) hh ⟨Nat.le_of_ble_eq_true rfl, fun t nt => ⟨t, _, rfl, SqT.of upd_same, rfl, _, _, rfl, _, _, rfl, rfl, ?_⟩⟩
    have u3 := Same.new (o := .tup [.int r4, .int high]) nt
    have B5 : But p H _ := ((B3.trans d3).trans ((But.same u2).trans e3)).trans (But.same u3)
    have S5 := e2.same u3
    clear B3 c2 d2 d3 u2 nq2 e2 e3 hh u3
    generalize upd H5 t (.tup [.int r4, .int high]) = H6 at B5 S5 ⊢
    clear nt
    refine ⟨_, rfl, _, rfl, p, n + 1 + 1 + 1 + 1 + 1, many, rfl, S5, by omega, by omega, fun D ys H7 iy ly b7 s7 nD hD => ?_⟩
    have Dp : D ≠ p := S5.ne nD
    refine ⟨D, rfl, ⟨_, SqL.of hD⟩, fun G nG => ?_⟩
    have Gp : G ≠ p := s7.ne nG
    have DG : D ≠ G := ne_of_none hD nG
    refine lc_list (K := K) (a := D) (xs := ys.map V.str) (fun i H' => But p H7 H' ∧ SrcAt H' p (n + 105 + (i : Nat)) ∧ H' D = some (.lst (ys.map V.str)) ∧ ∃ (ts : List V) (ps : List (Int × Str × Nat)), H' G = some (.lst ts) ∧ Parts H' ts ps ∧ ps.length = i) ?_ ?_ ?_ ?_
    · have uG := Same.new (o := .lst []) nG
      exact ⟨But.same uG, (s7.same uG).le (by omega), uG _ _ hD, [], [], upd_same, .nil, rfl⟩
    · rintro i H8 _ ⟨_, _, h8, _⟩
      exact SqL.of h8
    · rintro i y H8 hy ⟨b8, s8, h8, ts, ps, g8, q8, l8⟩
      rw [List.getElem?_map] at hy
      cases ex : ys[i]? with
      | none => rw [ex] at hy; cases hy
      | some x =>
        rw [ex] at hy
        cases hy
        have hi := (List.getElem?_eq_some_iff.mp ex).1
        have hx := iy.it x (List.mem_of_getElem? ex)
        have lt := q8.len
        refine ⟨rfl, _, rfl, _, rfl, _, rfl, _, rfl, _, _, rfl, p, _, n + 105 + (i : Nat), rfl, ?_, ?_, s8, by omega, fun r6 H9 f0 f1 f2 f3 => ?_⟩
        · split <;> omega
        · split <;> omega
        have f1' : r6 ≤ 60 := by
          revert f1
          split <;> intro f1 <;> omega
        obtain ⟨k, rfl⟩ : ∃ k : Nat, r6 = k := ⟨r6.toNat, by omega⟩
        refine ⟨Nat.le_of_ble_eq_true rfl, fun t nt => ?_⟩
        have ut := Same.new (o := .tup [.int r4, .str x, .int (k : Nat)]) nt
        have g9 := ut _ _ (f3 _ _ g8 Gp)
        have q9 := ((q8.butS s8 f3).same ut).app (.cons (at_new ut) d0 d1 hx (show k ≤ 60 by omega) .nil)
        refine ⟨ts, g9, Nat.lt_of_lt_of_le (show ts.length < 1000 by omega) (by decide), ?_, ?_, ?_, ts ++ [.ref t], ps ++ [(r4, x, k)], upd_same, q9.updL g9, by rw [List.length_append, l8]; rfl⟩
        · intro c o eo ne
          have nG7 : c ≠ G := ne_of_none eo nG
          rw [upd_ne nG7]
          exact ut _ _ (f3 _ _ (b8 _ _ eo ne) ne)
        · exact ((f2.same ut).but But.upd Gp.symm).le (by omega)
        · rw [upd_ne DG]
          exact ut _ _ (f3 _ _ h8 Dp)
    · rintro H8 ⟨b8, s8, h8, ts, ps, g8, q8, l8⟩
      rw [List.length_map] at l8 s8
      refine h G ts ps H8 ((B5.trans b7).trans b8) (s8.le (by omega)) Gp g8 q8 (by omega)

end
end Own

set_option Elab.async false
set_option linter.all false
set_option maxRecDepth 100000
set_option maxHeartbeats 4000000
namespace Own
open PySem L2 ClX
local macro_rules | `(tactic| walk_at "v") => `(tactic| refine ⟨_, rfl, ?_⟩)
local macro_rules | `(tactic| walk_at "ii") => `(tactic| refine ⟨_, _, rfl, rfl, ?_⟩)
local macro_rules | `(tactic| walk_at "go") => `(tactic| repeat (first | refine ⟨_, rfl, ?_⟩ | refine ⟨_, _, rfl, rfl, ?_⟩ | refine addI ?_ | refine L2.iteT ?_ | refine L2.iteF ?_))

section
variable {P : Program} {w : World} {K : PySem.W.Frag} {mg : Str → Option Value} {base : Heap} {A : Ad}

/-! ### any objects -/
def Th (K : PySem.W.Frag) (A : Ad) (H : Hp) (v : V) : Prop := ∃ c o, Case K A H v c ∧ Ety K A H v o
def Ths (K : PySem.W.Frag) (A : Ad) (H : Hp) (vs : List V) : Prop := ∀ v ∈ vs, Th K A H v
theorem Th.same {H H' : Hp} {v : V} (h : Th K A H v) (s : Same H H') : Th K A H' v := let ⟨c, o, a, b⟩ := h; ⟨c, o, a.same s, b.same s⟩
theorem Ths.same {H H' : Hp} {vs : List V} (h : Ths K A H vs) (s : Same H H') : Ths K A H' vs := fun v hv => (h v hv).same s
theorem Ths.push {H H' : Hp} {vs : List V} {v : V} (h : Ths K A H vs) (s : Same H H') (t : Th K A H' v) : Ths K A H' (vs ++ [v]) := fun u hu => by
  rcases List.mem_append.mp hu with hu | hu
  · exact (h u hu).same s
  · rw [List.mem_singleton.mp hu]
    exact t
theorem Ths.app {H : Hp} {vs ws : List V} (h : Ths K A H vs) (g : Ths K A H ws) : Ths K A H (vs ++ ws) := fun u hu => (List.mem_append.mp hu).elim (h u) (g u)
theorem eNon (T : Txt K mg A) {H : Hp} : Ety K A H .non none := .no (.base .non) T.kit_type_NoneType_Record T.kit_type_NoneType_Inserted T.kit_type_NoneType_Removed T.kit_type_NoneType_Fronted
theorem eBl (T : Txt K mg A) {H : Hp} (b : Bool) : Ety K A H (.bl b) none := .no (.base (.bl b)) T.kit_type_bool_Record T.kit_type_bool_Inserted T.kit_type_bool_Removed T.kit_type_bool_Fronted
theorem eInt (T : Txt K mg A) {H : Hp} (i : Int) : Ety K A H (.int i) none := .no (.base (.int i)) T.kit_type_int_Record T.kit_type_int_Inserted T.kit_type_int_Removed T.kit_type_int_Fronted
theorem eStr (T : Txt K mg A) {H : Hp} (x : Str) : Ety K A H (.str x) none := .no (.base (.str x)) T.kit_type_str_Record T.kit_type_str_Inserted T.kit_type_str_Removed T.kit_type_str_Fronted
theorem eTup (T : Txt K mg A) {H : Hp} {a : Addr} {xs : List V} (e : H a = some (.tup xs)) : Ety K A H (.ref a) none := .no (.base (.tup e)) T.kit_type_tuple_Record T.kit_type_tuple_Inserted T.kit_type_tuple_Removed T.kit_type_tuple_Fronted
theorem eDic (T : Txt K mg A) {H : Hp} {a : Addr} {xs : List (Key × V)} (e : H a = some (.dK xs)) : Ety K A H (.ref a) none := .no (.base (.dK e)) T.kit_type_dict_Record T.kit_type_dict_Inserted T.kit_type_dict_Removed T.kit_type_dict_Fronted
theorem eLst (T : Txt K mg A) {H : Hp} {a : Addr} {xs : List V} (e : H a = some (.lst xs)) : Ety K A H (.ref a) none := .no (.base (.lst e)) T.kit_type_list_Record T.kit_type_list_Inserted T.kit_type_list_Removed T.kit_type_list_Fronted
theorem tNon (T : Txt K mg A) {H : Hp} : Th K A H .non := ⟨none, none, .no (.base .non) (kit_ty (r := false) (by decide +kernel)), eNon T⟩
theorem tBl (T : Txt K mg A) {H : Hp} (b : Bool) : Th K A H (.bl b) := ⟨none, none, .no (.base (.bl b)) (kit_ty (r := false) (by decide +kernel)), eBl T b⟩
theorem tInt (T : Txt K mg A) {H : Hp} (i : Int) : Th K A H (.int i) := ⟨none, none, .no (.base (.int i)) (kit_ty (r := false) (by decide +kernel)), eInt T i⟩
theorem tStr (T : Txt K mg A) {H : Hp} (x : Str) : Th K A H (.str x) := ⟨none, none, .no (.base (.str x)) (kit_ty (r := false) (by decide +kernel)), eStr T x⟩
theorem tTupl (T : Txt K mg A) {H : Hp} {a : Addr} {xs : List V} (e : H a = some (.tup xs)) : Th K A H (.ref a) := ⟨none, none, .no (.base (.tup e)) (kit_ty (r := false) (by decide +kernel)), eTup T e⟩
theorem tDic (T : Txt K mg A) {H : Hp} {a : Addr} {xs : List (Key × V)} (e : H a = some (.dK xs)) : Th K A H (.ref a) := ⟨none, none, .no (.base (.dK e)) (kit_ty (r := false) (by decide +kernel)), eDic T e⟩
theorem tList (T : Txt K mg A) {H : Hp} {a : Addr} {xs : List V} {os : List (Option (Int × Str × Nat))} (e : H a = some (.lst xs)) (m : xs.length ≤ 4000) (z : Etys K A H xs os) : Th K A H (.ref a) := ⟨some os, none, .lst e m z, eLst T e⟩
theorem kitL (T : Txt K mg A) {way : Int} (h0 : 0 ≤ way) (h1 : way ≤ 3) : PySem.W.kitOne K (.ref (cw A way)) (.type "list") = some false := by
  rcases way4 h0 h1 with rfl | rfl | rfl | rfl
  · exact T.kit_Inserted_type_list
  · exact T.kit_Removed_type_list
  · exact T.kit_Fronted_type_list
  · exact T.kit_Record_type_list
theorem tRow (T : Txt K mg A) {H : Hp} {p dx : Addr} {way : Int} {x : Str} {n : Nat} (e : H p = some (.ins (cw A way) dx (rfs x n))) (h0 : 0 ≤ way) (h1 : way ≤ 3) (hx : isItem x = true) (hn : n ≤ 60) : Th K A H (.ref p) := by
  have k := kd_of T h0 h1
  exact ⟨none, _, .no (.base (.ins e k.rc.cl k.ty.ha k.ty.hn k.ty.ht k.ty.hm)) (kitL T h0 h1), .row e h0 h1 hx hn⟩
theorem Same.new2 {H : Hp} {a : Addr} {o o' : HO} (h : H a = none) : Same H (upd (upd H a o) a o') := fun b u e => by
  rw [upd_ne (ne_of_none e h), upd_ne (ne_of_none e h)]
  exact e
theorem Same.over {H H1 : Hp} {a : Addr} {o o' : HO} (h : H a = none) (s : Same (upd H a o) H1) : Same H (upd H1 a o') := fun b u e => by
  have ne := ne_of_none e h
  rw [upd_ne ne]
  exact s _ _ (by rw [upd_ne ne]; exact e)
def spThings (K : PySem.W.Frag) (A : Ad) : Sp := fun vs H Q _ => vs = [] ∧ ∀ (D : Addr) (ts : List V) (H' : Hp), Same H H' → H D = none → H' D = some (.lst ts) → Ths K A H' ts → ts.length = 38 → Q (.ref D) H'
theorem ok__law_things (T : Txt K mg A) : Ok1 P w K mg base 5 A.f__law_things [] (spThings K A) := by
  refine T.fn__law_things.ok sc__law_things (fun _ _ _ _ _ _ us hl => match us, hl with | [], _ => rfl) (fun vs H Q E h => ?_) (fun cdv B up s H vs Q E hr h => ?_)
  · obtain ⟨rfl, _⟩ := h
    rfl
  · obtain ⟨rfl, h⟩ := h
    refine ⟨_, (pss_mid (ps_set (i := 0) sc__law_things.nd rfl (Or.inl rfl) (pe_lst (pa_cons pe_non (pa_cons pe_bl (pa_cons pe_bl (pa_cons pe_int (pa_cons pe_int (pa_cons pe_int (pa_cons pe_int (pa_cons (pe_un un_neg pe_int) (pa_cons (pe_op op_powX pe_int pe_int) (pa_cons (pe_op op_sub pe_int (pe_op op_powX pe_int pe_int)) (pa_cons pe_str (pa_cons pe_str (pa_cons pe_str (pa_cons pe_str (pa_cons pe_str (pa_cons pe_str pa_nil))))))))))))))))))
      (pss_mid (ps_set (i := 0) sc__law_things.nd rfl (Or.inl rfl) (pe_op op_addX (pv 0) (pe_lst (pa_cons pe_str (pa_cons pe_str (pa_cons pe_str (pa_cons pe_str (pa_cons pe_str (pa_cons pe_str (pa_cons pe_str (pa_cons pe_str (pa_cons (pe_lst pa_nil) (pa_cons (pe_lst (pa_cons pe_str pa_nil)) (pa_cons (pe_lst (pa_cons pe_int pa_nil)) (pa_cons (pe_tup pa_nil) (pa_cons (pe_tup (pa_cons pe_str pa_nil)) (pa_cons (pe_tup (pa_cons pe_int pa_nil)) (pa_cons pe_dnewK (pa_cons (pe_disp (pps_cons pe_str pe_int pps_nil) (by rfl) (by rfl) (fun z => by cases z) (by decide)) pa_nil)))))))))))))))))))
      (pss_one (ps_ret (pe_op op_addX (pv 0) (pe_lst (pa_cons (pe_lst (pa_cons (pe_lst (pa_cons (pe_lst (pa_cons (pe_lst (pa_cons (pe_lst pa_nil) pa_nil)) pa_nil)) pa_nil)) pa_nil)) (pa_cons (pe_lst (pa_cons pe_non pa_nil)) (pa_cons (po_make T.mk_Inserted (ok_Record___init__ T) (hr.mono (by decide)) T.mg_Inserted (pa_cons pe_str (pa_cons pe_int pa_nil))) (pa_cons (po_make T.mk_Record (ok_Record___init__ T) (hr.mono (by decide)) T.mg_Record (pa_cons pe_str (pa_cons pe_int pa_nil))) (pa_cons (pe_lst (pa_cons (po_make T.mk_Fronted (ok_Record___init__ T) (hr.mono (by decide)) T.mg_Fronted (pa_cons pe_str (pa_cons pe_int pa_nil))) pa_nil)) (pa_cons (pe_disp (pps_cons pe_str (po_make T.mk_Removed (ok_Record___init__ T) (hr.mono (by decide)) T.mg_Removed (pa_cons pe_str (pa_cons pe_int pa_nil))) pps_nil) (by rfl) (by rfl) (fun z => by cases z) (by decide)) pa_nil)))))))))))), ?_⟩
    have s0 : Same H H := Same.refl _
    have cp : CPowW 10 59 := ⟨by decide, by decide, by decide +kernel⟩
    refine ⟨fun σ1 H' => ∃ l vs, σ1 = [some (.ref l)] ∧ Same H H' ∧ H l = none ∧ H' l = some (.lst vs) ∧ vs.length = 16 ∧ Ths K A H' vs, ?_, ?_⟩
    · refine ⟨_, rfl, _, _, rfl, rfl, cp, _, _, rfl, rfl, cp, _, _, rfl, rfl, Nat.le_of_ble_eq_true rfl, fun L nL => ?_⟩
      refine ⟨L, _, rfl, Same.new nL, nL, upd_same, rfl, fun v hv => ?_⟩
      simp only [List.mem_cons, List.not_mem_nil, or_false] at hv
      rcases hv with rfl | rfl | rfl | rfl | rfl | rfl | rfl | rfl | rfl | rfl | rfl | rfl | rfl | rfl | rfl | rfl
      · exact tNon T
      · exact tBl T true
      · exact tBl T false
      · exact tInt T 0
      · exact tInt T 1
      · exact tInt T 60
      · exact tInt T 61
      · exact tInt T _
      · exact tInt T _
      · exact tInt T _
      · exact tStr T _
      · exact tStr T _
      · exact tStr T _
      · exact tStr T _
      · exact tStr T _
      · exact tStr T _
    rintro σ1 H1 ⟨l, vs, rfl, s1, nl, hl, lv, B1⟩
    refine ⟨fun σ1 H' => ∃ l vs, σ1 = [some (.ref l)] ∧ Same H H' ∧ H l = none ∧ H' l = some (.lst vs) ∧ vs.length = 32 ∧ Ths K A H' vs, ?_, ?_⟩
    · refine ⟨_, rfl, ?_⟩
      have A0 : Ths K A H1 [] := fun v hv => by cases hv
      have A1 := A0.push (Same.refl _) (tStr T "a b")
      have A2 := A1.push (Same.refl _) (tStr T " a")
      have A3 := A2.push (Same.refl _) (tStr T "a1")
      have A4 := A3.push (Same.refl _) (tStr T "a_b")
      have A5 := A4.push (Same.refl _) (tStr T "a\n")
      have A6 := A5.push (Same.refl _) (tStr T "3")
      have A7 := A6.push (Same.refl _) (tStr T "+a@3")
      have A8 := A7.push (Same.refl _) (tStr T "zz")
      refine ⟨Nat.zero_le _, fun D1 n1 => ?_⟩
      have u1 := Same.new (o := .lst []) n1
      have S1 := s1.trans u1
      have W1 := u1
      have A9 := A8.push u1 (tList T (at_new u1) (Nat.zero_le _) .nil)
      refine ⟨Nat.le_of_ble_eq_true rfl, fun D2 n2 => ?_⟩
      have u2 := Same.new (o := .lst [.str "a"]) n2
      have S2 := S1.trans u2
      have W2 := W1.trans u2
      have A10 := A9.push u2 (tList T (at_new u2) (Nat.le_of_ble_eq_true rfl) (.cons (eStr T _) .nil))
      refine ⟨Nat.le_of_ble_eq_true rfl, fun D3 n3 => ?_⟩
      have u3 := Same.new (o := .lst [.int 0]) n3
      have S3 := S2.trans u3
      have W3 := W2.trans u3
      have A11 := A10.push u3 (tList T (at_new u3) (Nat.le_of_ble_eq_true rfl) (.cons (eInt T _) .nil))
      refine ⟨Nat.zero_le _, fun D4 n4 => ?_⟩
      have u4 := Same.new (o := .tup []) n4
      have S4 := S3.trans u4
      have W4 := W3.trans u4
      have A12 := A11.push u4 (tTupl T (at_new u4))
      refine ⟨Nat.le_of_ble_eq_true rfl, fun D5 n5 => ?_⟩
      have u5 := Same.new (o := .tup [.str "a"]) n5
      have S5 := S4.trans u5
      have W5 := W4.trans u5
      have A13 := A12.push u5 (tTupl T (at_new u5))
      refine ⟨Nat.le_of_ble_eq_true rfl, fun D6 n6 => ?_⟩
      have u6 := Same.new (o := .tup [.int 0]) n6
      have S6 := S5.trans u6
      have W6 := W5.trans u6
      have A14 := A13.push u6 (tTupl T (at_new u6))
      refine fun D7 n7 => ?_
      have u7 := Same.new (o := .dK []) n7
      have S7 := S6.trans u7
      have W7 := W6.trans u7
      have A15 := A14.push u7 (tDic T (at_new u7))
      refine fun D8 n8 => ⟨upd_same, [(Sum.inr "a", .int 0)], rfl, by decide, ?_⟩
      have u8 := Same.new2 (o := .dK []) (o' := .dK (mergeK [] [(Sum.inr "a", .int 0)])) n8
      have S8 := S7.trans u8
      have W8 := W7.trans u8
      have A16 := A15.push u8 (tDic T upd_same)
      refine ⟨Nat.le_of_ble_eq_true rfl, fun L nL => ?_⟩
      have uL := Same.new (o := .lst [.str "a b", .str " a", .str "a1", .str "a_b", .str "a\n", .str "3", .str "+a@3", .str "zz", .ref D1, .ref D2, .ref D3, .ref D4, .ref D5, .ref D6, .ref D7, .ref D8]) nL
      have AL := A16.same uL
      refine addL (uL _ _ (W8 _ _ hl)) upd_same (by rw [lv]; exact Nat.le_of_ble_eq_true rfl) fun q nq => ?_
      have uq := Same.new (o := .lst (vs ++ [.str "a b", .str " a", .str "a1", .str "a_b", .str "a\n", .str "3", .str "+a@3", .str "zz", .ref D1, .ref D2, .ref D3, .ref D4, .ref D5, .ref D6, .ref D7, .ref D8])) nq
      exact ⟨q, _, rfl, S8.trans (uL.trans uq), none_same (S8.trans uL) nq, upd_same, by rw [List.length_append, lv]; rfl, (B1.same (W8.trans (uL.trans uq))).app (AL.same uq)⟩
    rintro σ1 H2 ⟨l, vs, rfl, s2, nl, hl, lv, B2⟩
    refine ⟨_, rfl, ?_⟩
    have A0 : Ths K A H2 [] := fun v hv => by cases hv
    refine ⟨Nat.zero_le _, fun D1 n1 => ?_⟩
    have u1 := Same.new (o := .lst []) n1
    have S1 := s2.trans u1
    have W1 := u1
    refine ⟨Nat.le_of_ble_eq_true rfl, fun D2 n2 => ?_⟩
    have u2 := Same.new (o := .lst [.ref D1]) n2
    have S2 := S1.trans u2
    have W2 := W1.trans u2
    refine ⟨Nat.le_of_ble_eq_true rfl, fun D3 n3 => ?_⟩
    have u3 := Same.new (o := .lst [.ref D2]) n3
    have S3 := S2.trans u3
    have W3 := W2.trans u3
    refine ⟨Nat.le_of_ble_eq_true rfl, fun D4 n4 => ?_⟩
    have u4 := Same.new (o := .lst [.ref D3]) n4
    have S4 := S3.trans u4
    have W4 := W3.trans u4
    refine ⟨Nat.le_of_ble_eq_true rfl, fun D5 n5 => ?_⟩
    have u5 := Same.new (o := .lst [.ref D4]) n5
    have S5 := S4.trans u5
    have W5 := W4.trans u5
    have A1 := A0.push (u1.trans (u2.trans (u3.trans (u4.trans u5)))) (tList T (at_new u5) (Nat.le_of_ble_eq_true rfl) (.cons (eLst T (u5 _ _ (at_new u4))) .nil))
    refine ⟨Nat.le_of_ble_eq_true rfl, fun D6 n6 => ?_⟩
    have u6 := Same.new (o := .lst [V.non]) n6
    have S6 := S5.trans u6
    have W6 := W5.trans u6
    have A2 := A1.push u6 (tList T (at_new u6) (Nat.le_of_ble_eq_true rfl) (.cons (eNon T) .nil))
    refine fun D7 dx7 n7 m7 q7 => ⟨D7, _, dx7, "a", 0, rfl, upd_same, rc_Inserted T, by decide +kernel, by decide, by decide, fun Hm7 em7 bm7 => ⟨rfl, ?_⟩⟩
    have u7 := made_same n7 m7 bm7
    have S7 := S6.trans u7
    have W7 := W6.trans u7
    have A3 := A2.push u7 (tRow T (way := 0) (n := 0) em7 (by decide) (by decide) (by decide +kernel) (by decide))
    refine fun D8 dx8 n8 m8 q8 => ⟨D8, _, dx8, "b", 3, rfl, upd_same, rc_Record T, by decide +kernel, by decide, by decide, fun Hm8 em8 bm8 => ⟨rfl, ?_⟩⟩
    have u8 := made_same n8 m8 bm8
    have S8 := S7.trans u8
    have W8 := W7.trans u8
    have A4 := A3.push u8 (tRow T (way := 3) (n := 3) em8 (by decide) (by decide) (by decide +kernel) (by decide))
    refine fun D9 dx9 n9 m9 q9 => ⟨D9, _, dx9, "c", 1, rfl, upd_same, rc_Fronted T, by decide +kernel, by decide, by decide, fun Hm9 em9 bm9 => ⟨rfl, ?_⟩⟩
    have u9 := made_same n9 m9 bm9
    have S9 := S8.trans u9
    have W9 := W8.trans u9
    refine ⟨Nat.le_of_ble_eq_true rfl, fun D10 n10 => ?_⟩
    have u10 := Same.new (o := .lst [.ref D9]) n10
    have S10 := S9.trans u10
    have W10 := W9.trans u10
    have A5 := A4.push (u9.trans u10) (tList T (at_new u10) (Nat.le_of_ble_eq_true rfl) (.cons (.row (way := 2) (n := 1) (u10 _ _ em9) (by decide) (by decide) (by decide +kernel) (by decide)) .nil))
    refine fun D11 n11 => fun r11 dx11 nr11 m11 q11 => ⟨r11, _, dx11, "a", 0, rfl, upd_same, rc_Removed T, by decide +kernel, by decide, by decide, fun Hm11 em11 bm11 => ⟨rfl, made_same nr11 m11 bm11 _ _ upd_same, [(Sum.inr "a", .ref r11)], rfl, Nat.le_of_ble_eq_true rfl, ?_⟩⟩
    have u11 := Same.over (o := .dK []) (o' := .dK (mergeK [] [(Sum.inr "a", .ref r11)])) n11 (made_same nr11 m11 bm11)
    have S11 := S10.trans u11
    have W11 := W10.trans u11
    have A6 := A5.push u11 (tDic T upd_same)
    refine ⟨Nat.le_of_ble_eq_true rfl, fun L nL => ?_⟩
    have uL := Same.new (o := .lst [.ref D5, .ref D6, .ref D7, .ref D8, .ref D10, .ref D11]) nL
    have AL := A6.same uL
    refine addL (uL _ _ (W11 _ _ hl)) upd_same (by rw [lv]; exact Nat.le_of_ble_eq_true rfl) fun q nq => ?_
    have uq := Same.new (o := .lst (vs ++ [.ref D5, .ref D6, .ref D7, .ref D8, .ref D10, .ref D11])) nq
    exact h q _ _ (S11.trans (uL.trans uq)) (none_same (S11.trans uL) nq) upd_same ((B2.same (W11.trans (uL.trans uq))).app (AL.same uq)) (by rw [List.length_append, lv]; rfl)

end
end Own

set_option Elab.async false
set_option linter.all false
set_option maxRecDepth 100000
set_option maxHeartbeats 4000000
namespace Own
open PySem L2 ClX
local macro_rules | `(tactic| walk_at "v") => `(tactic| refine ⟨_, rfl, ?_⟩)
local macro_rules | `(tactic| walk_at "ii") => `(tactic| refine ⟨_, _, rfl, rfl, ?_⟩)
local macro_rules | `(tactic| walk_at "go") => `(tactic| repeat (first | refine ⟨_, rfl, ?_⟩ | refine ⟨_, _, rfl, rfl, ?_⟩ | refine addI ?_ | refine L2.iteT ?_ | refine L2.iteF ?_))

section
variable {P : Program} {w : World} {K : PySem.W.Frag} {mg : Str → Option Value} {base : Heap} {A : Ad}

/-! ### records with another entry -/
def rem (p : Addr) (H : Hp) : Hp := fun c => if c = p then none else H c
theorem rem_at {p D : Addr} {H : Hp} {o : HO} (d : D ≠ p) (e : H D = some o) : rem p H D = some o := by
  unfold rem
  rw [if_neg d]
  exact e
theorem rem_of {p D : Addr} {H : Hp} {o : HO} (e : rem p H D = some o) : D ≠ p ∧ H D = some o := by
  unfold rem at e
  by_cases d : D = p
  · rw [if_pos d] at e
    cases e
  · rw [if_neg d] at e
    exact ⟨d, e⟩
theorem rem_same {p : Addr} {H H' : Hp} (s : Same H H') : Same (rem p H) (rem p H') := fun c o e => let ⟨d, e⟩ := rem_of e; rem_at d (s _ _ e)
theorem rem_but {p : Addr} {H H' : Hp} (b : But p H H') : Same (rem p H) H' := fun c o e => let ⟨d, e⟩ := rem_of e; b _ _ e d
theorem rem_rem {p : Addr} {H H' : Hp} (b : But p H H') : Same (rem p H) (rem p H') := fun c o e => let ⟨d, e⟩ := rem_of e; rem_at d (b _ _ e d)
theorem Rows.rem {p : Addr} {n : Int} {H : Hp} {vs : List V} {ps : List (Int × Str × Nat)} (s : SrcAt H p n) (h : Rows A H vs ps) : Rows A (rem p H) vs ps := by
  induction h with
  | nil => exact .nil
  | @cons q dx way x m vs ps e h0 h1 hx _ ih =>
    refine .cons (dx := dx) (rem_at (fun z => ?_) e) h0 h1 hx ih
    obtain ⟨g, m', c, z2, _⟩ := s
    rw [z, z2] at e
    cases e
theorem Rows.butS {H H' : Hp} {p : Addr} {n : Int} {vs : List V} {ps : List (Int × Str × Nat)} (h : Rows A H vs ps) (s : SrcAt H p n) (b : But p H H') : Rows A H' vs ps := (h.rem s).same (rem_but b)
theorem Rows.take {H : Hp} {vs : List V} {ps : List (Int × Str × Nat)} (h : Rows A H vs ps) : ∀ k : Nat, Rows A H (vs.take k) (ps.take k) := by
  induction h with
  | nil => intro k; rw [List.take_nil, List.take_nil]; exact .nil
  | cons e h0 h1 hx _ ih =>
    intro k
    cases k with
    | zero => exact .nil
    | succ k => exact .cons e h0 h1 hx (ih k)
theorem Rows.drop {H : Hp} {vs : List V} {ps : List (Int × Str × Nat)} (h : Rows A H vs ps) : ∀ k : Nat, Rows A H (vs.drop k) (ps.drop k) := by
  induction h with
  | nil => intro k; rw [List.drop_nil, List.drop_nil]; exact .nil
  | cons e h0 h1 hx t ih =>
    intro k
    cases k with
    | zero => exact .cons e h0 h1 hx t
    | succ k => exact ih k
theorem Parts.takeP {H : Hp} {vs : List V} {ps : List (Int × Str × Nat)} (h : Parts H vs ps) : ∀ k : Nat, Parts H (vs.take k) (ps.take k) := by
  induction h with
  | nil => intro k; rw [List.take_nil, List.take_nil]; exact .nil
  | cons e h0 h1 hx hn _ ih =>
    intro k
    cases k with
    | zero => exact .nil
    | succ k => exact .cons e h0 h1 hx hn (ih k)
theorem Parts.bound {H : Hp} {vs : List V} {ps : List (Int × Str × Nat)} (h : Parts H vs ps) : ∀ q ∈ ps, q.2.2 ≤ 60 := by
  induction h with
  | nil => intro q hq; cases hq
  | cons e h0 h1 hx hn _ ih =>
    intro q hq
    rcases List.mem_cons.mp hq with rfl | hq
    · exact hn
    · exact ih q hq
theorem Rows.etys {H : Hp} {vs : List V} {ps : List (Int × Str × Nat)} (h : Rows A H vs ps) (b : ∀ q ∈ ps, q.2.2 ≤ 60) : Etys K A H vs (ps.map some) := by
  induction h with
  | nil => exact .nil
  | cons e h0 h1 hx _ ih => exact .cons (.row e h0 (by omega) hx (b _ List.mem_cons_self)) (ih fun q hq => b q (List.mem_cons_of_mem _ hq))
theorem cutV_to (xs : List V) (k : Nat) : cutV xs none (some (k : Int)) = xs.take k := by
  unfold cutV
  rw [HT.sIx_none, HT.sIx_nat, List.drop_zero, Nat.sub_zero]
  rcases Nat.lt_or_ge xs.length k with h | h
  · rw [Nat.min_eq_right (Nat.le_of_lt h), List.take_of_length_le (Nat.le_refl _), List.take_of_length_le (Nat.le_of_lt h)]
  · rw [Nat.min_eq_left h]
theorem cutV_from (xs : List V) (k : Nat) : cutV xs (some (k : Int)) none = xs.drop k := by
  unfold cutV
  rw [HT.sIx_none, HT.sIx_nat]
  rcases Nat.lt_or_ge xs.length k with h | h
  · rw [Nat.min_eq_right (Nat.le_of_lt h), List.drop_of_length_le (show xs.length ≤ k by omega), Nat.sub_self, List.take_zero]
  · rw [Nat.min_eq_left h, List.take_of_length_le (by rw [List.length_drop]; exact Nat.le_refl _)]
theorem pickV {xs : List V} {r : Int} (C : V → Prop) (hC : ∀ v ∈ xs, C v) (h0 : 0 ≤ r) (h1 : r < xs.length) : ∃ v, atI xs r = some v ∧ C v := by
  obtain ⟨j, rfl⟩ : ∃ j : Nat, r = j := ⟨r.toNat, by omega⟩
  have hj : j < xs.length := by omega
  exact ⟨xs[j], atI_nat (by simp [hj]), hC _ (List.getElem_mem hj)⟩
/-- entries of any kind, apart from the source -/
def Ok8 (K : PySem.W.Frag) (A : Ad) (p : Addr) (H : Hp) (vs : List V) : Prop := ∀ v ∈ vs, ∃ o, Ety K A (Own.rem p H) v o
theorem Ok8.more {p : Addr} {H H' : Hp} {vs : List V} (h : Ok8 K A p H vs) (b : But p H H') : Ok8 K A p H' vs := fun v hv => let ⟨o, e⟩ := h v hv; ⟨o, e.same (rem_rem b)⟩
theorem any3 {H : Hp} {a b c : V} (ha : ∃ o, Ety K A H a o) (hb : ∃ o, Ety K A H b o) (hc : ∃ o, Ety K A H c o) : ∀ u ∈ [a, b, c], ∃ o, Ety K A H u o := fun u hu => by
  simp only [List.mem_cons, List.not_mem_nil, or_false] at hu
  rcases hu with rfl | rfl | rfl
  · exact ha
  · exact hb
  · exact hc
structure Ch (A : Ad) (H0 H : Hp) (p l pl : Addr) (m : Int) (rs ts : List V) (ps : List (Int × Str × Nat)) : Prop where
  b : But p H0 H
  s : SrcAt H p m
  lp : l ≠ p
  qp : pl ≠ p
  hl : H l = some (.lst rs)
  rows : Rows A H rs ps
  hq : H pl = some (.lst ts)
  parts : Parts H ts ps
theorem Ch.more {H0 H H' : Hp} {p l pl : Addr} {m : Int} {rs ts : List V} {ps : List (Int × Str × Nat)} (c : Ch A H0 H p l pl m rs ts ps) (s : Same H H') : Ch A H0 H' p l pl m rs ts ps :=
  ⟨c.b.trans (But.same s), c.s.same s, c.lp, c.qp, s _ _ c.hl, c.rows.same s, s _ _ c.hq, c.parts.same s⟩
theorem Ch.pick {H0 H H' : Hp} {p l pl : Addr} {m k : Int} {rs ts : List V} {ps : List (Int × Str × Nat)} (c : Ch A H0 H p l pl m rs ts ps) (b : But p H H') (s : SrcAt H' p k) : Ch A H0 H' p l pl k rs ts ps :=
  ⟨c.b.trans b, s, c.lp, c.qp, b _ _ c.hl c.lp, c.rows.butS c.s b, b _ _ c.hq c.qp, c.parts.butS c.s b⟩
theorem Ch.le {H0 H : Hp} {p l pl : Addr} {m k : Int} {rs ts : List V} {ps : List (Int × Str × Nat)} (c : Ch A H0 H p l pl m rs ts ps) (h : m ≤ k) : Ch A H0 H p l pl k rs ts ps := { c with s := c.s.le h }
def spChanged (K : PySem.W.Frag) (A : Ad) : Sp := fun vs H Q _ => ∃ (p l pl : Addr) (n : Int) (rs ts : List V) (ps : List (Int × Str × Nat)), vs = [.ref p, .ref l, .ref pl] ∧ n < 2 ^ 48 ∧ Ch A H H p l pl n rs ts ps ∧ ps.length ≤ 41 ∧
  ∀ (D : Addr) (vs' : List V) (os : List (Option (Int × Str × Nat))) (H' : Hp), But p H H' → SrcAt H' p (n + 4) → D ≠ p → H' D = some (.lst vs') → Etys K A (Own.rem p H') vs' os → vs'.length ≤ 100 → Q (.ref D) H'
theorem ok__law_changed (T : Txt K mg A) : Ok1 P w K mg base 6 A.f__law_changed ["source", "rows", "parts"] (spChanged K A) := by
  refine T.fn__law_changed.ok sc__law_changed (fun _ _ _ _ _ _ us hl => match us, hl with | [_, _, _], _ => rfl) (fun vs H Q E h => ?_) (fun cdv B up s H vs Q E hr h => ?_)
  · obtain ⟨p, l, pl, n, rs, ts, ps, rfl, _⟩ := h
    rfl
  · obtain ⟨p, l, pl, n, rs, ts, ps, rfl, hn, c0, hm, h⟩ := h
    refine ⟨_, (pss_cons (ps_par (i := 3) (j := 4) (by rfl) sc__law_changed.nd rfl rfl (by decide) rfl rfl (pa_cons (po_call (ok__law_pick T) (hr.mono (by decide)) T.mg__law_pick (pa_cons (pv 0) (pa_cons (pe_op op_addX (pe_callB call_len (by rfl) T.no_len (by decide +kernel) (pa_cons (pv 1) pa_nil)) pe_int) pa_nil))) (pa_cons (po_call (ok__law_pick T) (hr.mono (by decide)) T.mg__law_pick (pa_cons (pv 0) (pa_cons pe_int pa_nil))) pa_nil)) (by rfl))
      (pss_mid (ps_set (i := 5) sc__law_changed.nd rfl (Or.inl rfl) (pe_lst (pa_cons pe_non (pa_cons pe_int (pa_cons pe_bl (pa_cons pe_str (pa_cons pe_str (pa_cons (pe_lst pa_nil) (pa_cons (pe_tup pa_nil) (pa_cons pe_dnewK (pa_cons (pe_tup (pa_cons pe_str (pa_cons pe_int pa_nil))) (pa_cons (pe_lst (pa_cons pe_str (pa_cons pe_int pa_nil))) pa_nil))))))))))))
      (pss_mid (ps_set (i := 6) sc__law_changed.nd rfl (Or.inl rfl) (pe_lst (pa_cons (pe_ix ix_seq (pv 5) (po_call (ok__law_pick T) (hr.mono (by decide)) T.mg__law_pick (pa_cons (pv 0) (pa_cons pe_int pa_nil))) (fun _ _ => rfl)) (pa_cons (po_make T.mk_Record (ok_Record___init__ T) (hr.mono (by decide)) T.mg_Record (pa_cons pe_str (pa_cons pe_int pa_nil))) (pa_cons (po_make T.mk_Inserted (ok_Record___init__ T) (hr.mono (by decide)) T.mg_Inserted (pa_cons pe_str (pa_cons pe_int pa_nil))) (pa_cons (po_make T.mk_Removed (ok_Record___init__ T) (hr.mono (by decide)) T.mg_Removed (pa_cons pe_str (pa_cons pe_int pa_nil))) (pa_cons (po_make T.mk_Fronted (ok_Record___init__ T) (hr.mono (by decide)) T.mg_Fronted (pa_cons pe_str (pa_cons pe_int pa_nil))) pa_nil)))))))
      (pss_cons (ps_set (i := 7) sc__law_changed.nd rfl (Or.inl rfl) (pe_op op_addX (pe_op op_addX (pe_slice sl_list (pv 1) po_none (po_some (pv 3))) (pe_lst (pa_cons (pe_ix ix_seq (pv 6) (pe_op op_mod (pv 4) pe_int) (fun _ _ => rfl)) pa_nil))) (pe_slice sl_list (pv 1) (po_some (pv 3)) po_none)))
      (pss_mid (ps_if (PW.pt (pw_and (pt_cmpR op_gt (pv 4) pe_int (nomark _)) (pw_and1 (pt_cmpR (OwnSet.op_neNil hr.units) (pv 1) (pe_lst pa_nil) (nomark _))))) (pss_cons (ps_asg (pe_ix ix_seq (pv 2) (po_call (ok__law_pick T) (hr.mono (by decide)) T.mg__law_pick (pa_cons (pv 0) (pa_cons (pe_callB call_len (by rfl) T.no_len (by decide +kernel) (pa_cons (pv 2) pa_nil)) pa_nil))) (fun _ _ => rfl)) (pg_tup (by rfl) (pgs_cons (pg_name (i := 8) sc__law_changed.nd rfl (Or.inl rfl)) (pgs_cons (pg_name (i := 9) sc__law_changed.nd rfl (Or.inl rfl)) (pgs_cons (pg_name (i := 10) sc__law_changed.nd rfl (Or.inl rfl)) pgs_nil)))))
      (pss_one (ps_set (i := 7) sc__law_changed.nd rfl (Or.inl rfl) (pe_op op_addX (pe_op op_addX (pe_slice sl_list (pv 1) po_none (po_some (pv 3))) (pe_lst (pa_cons (pe_ix ix_seq (pe_lst (pa_cons (po_call (ok__law_make T) (hr.mono (by decide)) T.mg__law_make (pa_cons (pv 8) (pa_cons (pv 9) (pa_cons (pe_op op_sub pe_int (pv 10)) pa_nil)))) (pa_cons (pe_ix ix_seq (pv 1) pe_int (fun _ _ => rfl)) (pa_cons (pe_ix ix_seq (pv 1) (pe_un un_neg pe_int) (fun _ _ => rfl)) pa_nil)))) (pe_op op_sub (pv 4) pe_int) (fun _ _ => rfl)) pa_nil))) (pe_slice sl_list (pv 1) (po_some (pv 3)) po_none))))) pss_nil)
      (pss_one (ps_ret (pv 7)))))))), ?_⟩
    have lr := c0.rows.len
    have lt := c0.parts.len
    have iz : isItem "zzz" = true := by decide +kernel
    refine ⟨_, rfl, _, rfl, _, _, rfl, .inl ⟨_, SqL.of c0.hl, rfl⟩, addI ⟨p, _, n, rfl, by omega, by omega, c0.s, by omega, fun r1 H1 a0 a1 a2 a3 => ?_⟩⟩
    have c1 := c0.pick a3 a2
    refine ⟨_, rfl, p, 9, n + 1, rfl, by decide, by decide, c1.s, by omega, fun r2 H2 b0 b1 b2 b3 => ?_⟩
    have c2 := c1.pick b3 b2
    clear c0 c1 a2 a3 b2 b3
    refine ⟨_, _, rfl, ?_⟩
    obtain ⟨i, rfl⟩ : ∃ k : Nat, r1 = k := ⟨r1.toNat, by omega⟩
    have hi : i ≤ 41 := by omega
    refine ⟨fun σ1 H' => ∃ L vs, σ1 = [some (.ref p), some (.ref l), some (.ref pl), some (.int (i : Nat)), some (.int r2), some (.ref L), none, none, none, none, none] ∧ Ch A H H' p l pl (n + 1 + 1) rs ts ps ∧ L ≠ p ∧ H' L = some (.lst vs) ∧ vs.length = 10 ∧ Ok8 K A p H' vs, ?_, ?_⟩
    · refine ⟨Nat.zero_le _, fun D1 n1 => ?_⟩
      have d1 := c2.s.ne n1
      have u1 := Same.new (o := .lst []) n1
      refine ⟨Nat.zero_le _, fun D2 n2 => ?_⟩
      have d2 := (c2.s.same u1).ne n2
      have u2 := Same.new (o := .tup []) n2
      refine fun D3 n3 => ?_
      have d3 := (c2.s.same (u1.trans u2)).ne n3
      have u3 := Same.new (o := .dK []) n3
      refine ⟨Nat.le_of_ble_eq_true rfl, fun D4 n4 => ?_⟩
      have d4 := (c2.s.same (u1.trans (u2.trans u3))).ne n4
      have u4 := Same.new (o := .tup [.str "a", .int 0]) n4
      refine ⟨Nat.le_of_ble_eq_true rfl, fun D5 n5 => ?_⟩
      have u14 := u1.trans (u2.trans (u3.trans u4))
      have d5 := (c2.s.same u14).ne n5
      have u5 := Same.new (o := .lst [.str "a", .int 0]) n5
      refine ⟨Nat.le_of_ble_eq_true rfl, fun L nL => ?_⟩
      have uL := Same.new (o := .lst [.non, .int 0, .bl true, .str "+a@0", .str "a", .ref D1, .ref D2, .ref D3, .ref D4, .ref D5]) nL
      refine ⟨L, _, rfl, c2.more (u14.trans (u5.trans uL)), (c2.s.same (u14.trans u5)).ne nL, upd_same, rfl, fun v hv => ?_⟩
      simp only [List.mem_cons, List.not_mem_nil, or_false] at hv
      rcases hv with rfl | rfl | rfl | rfl | rfl | rfl | rfl | rfl | rfl | rfl
      · exact ⟨_, eNon T⟩
      · exact ⟨_, eInt T _⟩
      · exact ⟨_, eBl T _⟩
      · exact ⟨_, eStr T _⟩
      · exact ⟨_, eStr T _⟩
      · exact ⟨_, eLst T (rem_at d1 ((u2.trans (u3.trans (u4.trans (u5.trans uL)))) _ _ (at_new u1)))⟩
      · exact ⟨_, eTup T (rem_at d2 ((u3.trans (u4.trans (u5.trans uL))) _ _ (at_new u2)))⟩
      · exact ⟨_, eDic T (rem_at d3 ((u4.trans (u5.trans uL)) _ _ (at_new u3)))⟩
      · exact ⟨_, eTup T (rem_at d4 ((u5.trans uL) _ _ (at_new u4)))⟩
      · exact ⟨_, eLst T (rem_at d5 (uL _ _ (at_new u5)))⟩
    rintro σ1 H3 ⟨L, vs, rfl, c3, Lp, hL, lv, ok3⟩
    clear c2
    refine ⟨fun σ1 H' => ∃ O vs, σ1 = [some (.ref p), some (.ref l), some (.ref pl), some (.int (i : Nat)), some (.int r2), some (.ref L), some (.ref O), none, none, none, none] ∧ Ch A H H' p l pl (n + 3) rs ts ps ∧ O ≠ p ∧ H' O = some (.lst vs) ∧ vs.length = 5 ∧ Ok8 K A p H' vs, ?_, ?_⟩
    · refine ⟨_, rfl, _, rfl, p, 10, n + 1 + 1, rfl, by decide, by decide, c3.s, by omega, fun r3 H4 d0 d1 d2 d3 => ?_⟩
      have c4 := (c3.pick d3 d2).le (k := n + 3) (by omega)
      have ok4 := ok3.more d3
      obtain ⟨v, hv, o, ev⟩ := pickV (xs := vs) (fun v => ∃ o, Ety K A (Own.rem p H4) v o) (fun v hv => ok4 v hv) d0 (by omega)
      refine ixL (d3 _ _ hL Lp) hv ?_
      refine fun q1 x1 f1 g1 t1 => ⟨q1, _, x1, "zzz", 0, rfl, upd_same, rc_Record T, iz, by decide, by decide, fun I1 e1 w1 => ⟨rfl, ?_⟩⟩
      have z1 := made_same f1 g1 w1
      have p1 := c4.s.ne f1
      refine fun q2 x2 f2 g2 t2 => ⟨q2, _, x2, "zzz", 0, rfl, upd_same, rc_Inserted T, iz, by decide, by decide, fun I2 e2 w2 => ⟨rfl, ?_⟩⟩
      have z2 := made_same f2 g2 w2
      have p2 := (c4.s.same z1).ne f2
      refine fun q3 x3 f3 g3 t3 => ⟨q3, _, x3, "zzz", 60, rfl, upd_same, rc_Removed T, iz, by decide, by decide, fun I3 e3 w3 => ⟨rfl, ?_⟩⟩
      have z3 := made_same f3 g3 w3
      have p3 := (c4.s.same (z1.trans z2)).ne f3
      refine fun q4 x4 f4 g4 t4 => ⟨q4, _, x4, "zzz", 1, rfl, upd_same, rc_Fronted T, iz, by decide, by decide, fun I4 e4 w4 => ⟨rfl, ?_⟩⟩
      have z4 := made_same f4 g4 w4
      have p4 := (c4.s.same (z1.trans (z2.trans z3))).ne f4
      refine ⟨Nat.le_of_ble_eq_true rfl, fun O nO => ?_⟩
      have uO := Same.new (o := .lst [v, .ref q1, .ref q2, .ref q3, .ref q4]) nO
      have zz := z1.trans (z2.trans (z3.trans (z4.trans uO)))
      refine ⟨O, _, rfl, c4.more zz, (c4.s.same (z1.trans (z2.trans (z3.trans z4)))).ne nO, upd_same, rfl, fun v' hv' => ?_⟩
      simp only [List.mem_cons, List.not_mem_nil, or_false] at hv'
      rcases hv' with rfl | rfl | rfl | rfl | rfl
      · exact ⟨o, ev.same (rem_same zz)⟩
      · exact ⟨_, .row (way := 3) (n := 0) (rem_at p1 ((z2.trans (z3.trans (z4.trans uO))) _ _ e1)) (by decide) (by decide) iz (by decide)⟩
      · exact ⟨_, .row (way := 0) (n := 0) (rem_at p2 ((z3.trans (z4.trans uO)) _ _ e2)) (by decide) (by decide) iz (by decide)⟩
      · exact ⟨_, .row (way := 1) (n := 60) (rem_at p3 ((z4.trans uO) _ _ e3)) (by decide) (by decide) iz (by decide)⟩
      · exact ⟨_, .row (way := 2) (n := 1) (rem_at p4 (uO _ _ e4)) (by decide) (by decide) iz (by decide)⟩
    rintro σ1 H4 ⟨O, os, rfl, c4, Op, hO, lo, ok4⟩
    clear c3 ok3 hL lv Lp
    have bd := c4.parts.bound
    have big : ∀ {k : Nat}, k ≤ 1000 → k ≤ 1000000 := fun z => Nat.le_trans z (by decide)
    refine ⟨_, rfl, _, rfl, _, rfl, l, _, rfl, SqL.of c4.hl, fun D1 n1 => ?_⟩
    rw [cutV_to]
    have u1 := Same.new (o := .lst (rs.take i)) n1
    obtain ⟨v, hv, o, ev⟩ := pickV (xs := os) (r := r2 % 5) (fun v => ∃ o, Ety K A (Own.rem p H4) v o) (fun v hv => ok4 v hv) (by omega) (by omega)
    refine ⟨_, rfl, _, rfl, _, _, rfl, rfl, (by show (0 : Int) < 5; decide), ixL (u1 _ _ hO) hv ⟨Nat.le_of_ble_eq_true rfl, fun D2 n2 => ?_⟩⟩
    have u2 := Same.new (o := .lst [v]) n2
    refine addL (u2 _ _ upd_same) upd_same (big (by rw [List.length_take]; simp; omega)) fun D3 n3 => ?_
    have u3 := Same.new (o := .lst (rs.take i ++ [v])) n3
    have u123 := u1.trans (u2.trans u3)
    refine ⟨_, rfl, _, rfl, _, rfl, l, _, rfl, SqL.of (u123 _ _ c4.hl), fun D4 n4 => ?_⟩
    rw [cutV_from]
    have u4 := Same.new (o := .lst (rs.drop i)) n4
    refine addL (u4 _ _ (at_new u3)) upd_same (big (by rw [List.length_append, List.length_take, List.length_drop]; simp; omega)) fun F nF => ?_
    have uF := Same.new (o := .lst (rs.take i ++ [v] ++ rs.drop i)) nF
    have uu := u123.trans (u4.trans uF)
    have c5 := c4.more uu
    have Fp := (c4.s.same (u123.trans u4)).ne nF
    have hF := at_new uF
    have es : ∀ {Hx : Hp} {v : V} {o : Option (Int × Str × Nat)}, Ch A H Hx p l pl (n + 3) rs ts ps ∨ Ch A H Hx p l pl (n + 4) rs ts ps → Ety K A (Own.rem p Hx) v o → Etys K A (Own.rem p Hx) (rs.take i ++ [v] ++ rs.drop i) ((ps.take i).map some ++ [o] ++ (ps.drop i).map some) := fun {Hx v o} cc e => by
      have rr : Rows A (Own.rem p Hx) rs ps := cc.elim (fun c => c.rows.rem c.s) (fun c => c.rows.rem c.s)
      exact (((rr.take i).etys fun q hq => bd q (List.mem_of_mem_take hq)).app (.cons e .nil)).app ((rr.drop i).etys fun q hq => bd q (List.mem_of_mem_drop hq))
    have ef := es (.inl c5) (ev.same (rem_same uu))
    have lf : (rs.take i ++ [v] ++ rs.drop i).length ≤ 100 := by
      rw [List.length_append, List.length_append, List.length_take, List.length_drop]
      simp
      omega
    clear c4 u1 u2 u3 u123 u4 uF uu n1 n2 n3 n4 nF hO ok4 hv ev
    generalize rs.take i ++ [v] ++ rs.drop i = fs at *
    refine ⟨fun σ1 H' => ∃ F fs os a8 a9 a10, σ1 = [some (.ref p), some (.ref l), some (.ref pl), some (.int (i : Nat)), some (.int r2), some (.ref L), some (.ref O), some (.ref F), a8, a9, a10] ∧ Ch A H H' p l pl (n + 4) rs ts ps ∧ F ≠ p ∧ H' F = some (.lst fs) ∧ Etys K A (Own.rem p H') fs os ∧ fs.length ≤ 100, ?_, ?_⟩
    · refine ⟨_, rfl, _, _, rfl, rfl, _, rfl, ?_⟩
      by_cases w5 : (5 : Int) < r2
      · rw [decide_eq_true w5]
        refine iteT ⟨_, rfl, Nat.zero_le _, fun o1 no1 => ⟨l, o1, rs, rfl, rfl, SqL.of ((Same.new no1) _ _ c5.hl), SqL.of upd_same, _, rfl, ?_⟩⟩
        have c6 := c5.more (Same.new (o := .lst []) no1)
        have hF6 := (Same.new (o := .lst []) no1) _ _ hF
        have ef6 := ef.same (rem_same (Same.new (o := .lst []) no1))
        by_cases re : rs = []
        · rw [decide_eq_true re]
          repeat refine iteF ?_
          exact ⟨F, fs, _, _, _, _, rfl, c6.le (by omega), Fp, hF6, ef6, lf⟩
        · rw [decide_eq_false re]
          repeat refine iteT ?_
          clear c5 hF ef hF6 ef6
          generalize upd _ o1 (.lst []) = H6 at c6
          have pos : 0 < rs.length := List.length_pos_iff.mpr re
          refine ⟨_, rfl, _, rfl, _, rfl, _, _, rfl, .inl ⟨_, SqL.of c6.hq, rfl⟩, p, _, n + 3, rfl, by omega, by omega, c6.s, by omega, fun r4 H7 f0 f1 f2 f3 => ?_⟩
          have c7 := (c6.pick f3 f2).le (k := n + 4) (by omega)
          obtain ⟨j, rfl⟩ : ∃ k : Nat, r4 = k := ⟨r4.toNat, by omega⟩
          have hj : j < ts.length := by omega
          obtain ⟨t, way, x, m, et, hpj, ht, w0, w1, hx, hm2⟩ := c7.parts.get (List.getElem?_eq_getElem hj)
          have ej : ts[j]? = some (.ref t) := by rw [List.getElem?_eq_getElem hj, et]
          refine ixL c7.hq (atI_nat ej) ⟨t, _, rfl, SqT.of ht, rfl, _, _, rfl, _, _, rfl, _, _, rfl, rfl, ?_⟩
          clear c6 f2 f3
          refine ⟨_, rfl, _, rfl, _, rfl, l, _, rfl, SqL.of c7.hl, fun E1 m1 => ?_⟩
          rw [cutV_to]
          have v1 := Same.new (o := .lst (rs.take i)) m1
          refine ⟨_, rfl, _, rfl, _, rfl, _, _, rfl, rfl, way, 60 - (m : Int), x, rfl, w0, by omega, hx, by omega, by omega, fun q dq H8 s8 nq hq => ?_⟩
          have qp := (c7.s.same v1).ne nq
          have eq60 : (60 : Int) - (m : Nat) = ((60 - m : Nat) : Int) := by omega
          rw [eq60] at hq
          have v18 := v1.trans s8
          have c8 := c7.more v18
          have g0 : rs[0]? = some rs[0] := List.getElem?_eq_getElem pos
          have gl : rs[rs.length - 1]? = some rs[rs.length - 1] := List.getElem?_eq_getElem (by omega)
          have neg : atI rs (-1) = some rs[rs.length - 1] := by
            unfold atI ixN
            rw [if_neg (by decide), if_pos (by omega)]
            show rs[((-1 : Int) + (rs.length : Int)).toNat]? = _
            rw [show ((-1 : Int) + (rs.length : Int)).toNat = rs.length - 1 by omega]
            exact gl
          refine ⟨_, rfl, ixL c8.hl (atI_nat g0) ⟨_, rfl, _, rfl, ixL c8.hl neg ⟨Nat.le_of_ble_eq_true rfl, fun E2 m2 => ?_⟩⟩⟩
          have v2 := Same.new (o := .lst [.ref q, rs[0], rs[rs.length - 1]]) m2
          have ets := Etys.same (K := K) ((c8.rows.rem c8.s).etys bd) (rem_same v2)
          have any := any3 ⟨_, Ety.row (K := K) (rem_at qp (v2 _ _ hq)) w0 (by omega) hx (by omega)⟩ (let ⟨o, _, e⟩ := ets.get g0; ⟨o, e⟩) (let ⟨o, _, e⟩ := ets.get gl; ⟨o, e⟩)
          obtain ⟨u, hu, ou, eu⟩ := pickV (r := r2 - 6) _ any (by omega) (by show r2 - 6 < 3; omega)
          refine ⟨_, rfl, _, _, rfl, rfl, ixL upd_same hu ⟨Nat.le_of_ble_eq_true rfl, fun E3 m3 => ?_⟩⟩
          have v3 := Same.new (o := .lst [u]) m3
          have v23 := v2.trans v3
          refine addL ((s8.trans v23) _ _ (at_new v1)) upd_same (big (by rw [List.length_take]; simp; omega)) fun E4 m4 => ?_
          have v4 := Same.new (o := .lst (rs.take i ++ [u])) m4
          have v234 := v23.trans v4
          refine ⟨_, rfl, _, rfl, _, rfl, l, _, rfl, SqL.of (v234 _ _ c8.hl), fun E5 m5 => ?_⟩
          rw [cutV_from]
          have v5 := Same.new (o := .lst (rs.drop i)) m5
          refine addL (v5 _ _ (at_new v4)) upd_same (big (by rw [List.length_append, List.length_take, List.length_drop]; simp; omega)) fun E6 m6 => ?_
          have v6 := Same.new (o := .lst (rs.take i ++ [u] ++ rs.drop i)) m6
          have v36 := v3.trans (v4.trans (v5.trans v6))
          have c9 := c8.more (v234.trans (v5.trans v6))
          refine ⟨E6, _, _, _, _, _, rfl, c9, (c8.more (v234.trans v5)).s.ne m6, at_new v6, es (.inr c9) (eu.same (rem_same v36)), ?_⟩
          rw [List.length_append, List.length_append, List.length_take, List.length_drop]
          simp
          omega
      · rw [decide_eq_false w5]
        repeat refine iteF ?_
        exact ⟨F, fs, _, _, _, _, rfl, c5.le (by omega), Fp, hF, ef, lf⟩
    · rintro σ1 H7 ⟨F, fs, os', a8, a9, a10, rfl, c7, Fp, hF, ef, lf⟩
      exact ⟨_, rfl, h F fs os' H7 c7.b c7.s Fp hF ef lf⟩

end
end Own

set_option Elab.async false
set_option linter.all false
set_option maxRecDepth 100000
set_option maxHeartbeats 4000000
namespace Own
open PySem L2 ClX
local macro_rules | `(tactic| walk_at "v") => `(tactic| refine ⟨_, rfl, ?_⟩)
local macro_rules | `(tactic| walk_at "ii") => `(tactic| refine ⟨_, _, rfl, rfl, ?_⟩)
local macro_rules | `(tactic| walk_at "go") => `(tactic| repeat (first | refine ⟨_, rfl, ?_⟩ | refine ⟨_, _, rfl, rfl, ?_⟩ | refine addI ?_ | refine L2.iteT ?_ | refine L2.iteF ?_))

section
variable {P : Program} {w : World} {K : PySem.W.Frag} {mg : Str → Option Value} {base : Heap} {A : Ad}

/-! ### the law -/
theorem Etys.reverse {H : Hp} {vs : List V} {os : List (Option (Int × Str × Nat))} (h : Etys K A H vs os) : Etys K A H vs.reverse os.reverse := by
  induction h with
  | nil => exact .nil
  | cons a _ ih =>
    rw [List.reverse_cons, List.reverse_cons]
    exact ih.app (.cons a .nil)
theorem Etys.takeE {H : Hp} {vs : List V} {os : List (Option (Int × Str × Nat))} (h : Etys K A H vs os) : ∀ k : Nat, Etys K A H (vs.take k) (os.take k) := by
  induction h with
  | nil => intro k; rw [List.take_nil, List.take_nil]; exact .nil
  | cons a _ ih =>
    intro k
    cases k with
    | zero => exact .nil
    | succ k => exact .cons a (ih k)
theorem Etys.dropE {H : Hp} {vs : List V} {os : List (Option (Int × Str × Nat))} (h : Etys K A H vs os) : ∀ k : Nat, Etys K A H (vs.drop k) (os.drop k) := by
  induction h with
  | nil => intro k; rw [List.drop_nil, List.drop_nil]; exact .nil
  | cons a t ih =>
    intro k
    cases k with
    | zero => exact .cons a t
    | succ k => exact ih k
theorem Parts.low {H : Hp} {vs : List V} {ps : List (Int × Str × Nat)} (h : Parts H vs ps) : ∀ z ∈ ps.map (fun q => textW q.1 q.2.1 q.2.2), lowS z := by
  induction h with
  | nil => intro z hz; cases hz
  | cons e h0 h1 hx hn _ ih =>
    intro z hz
    rcases List.mem_cons.mp hz with rfl | hz
    · exact low_text h0 (by omega) hx hn
    · exact ih z hz
/-- objects that may be cases, apart from the source -/
def C8s (K : PySem.W.Frag) (A : Ad) (p : Addr) (H : Hp) (vs : List V) : Prop := ∀ v ∈ vs, ∃ c, Case K A (Own.rem p H) v c
theorem C8s.more {p : Addr} {H H' : Hp} {vs : List V} (h : C8s K A p H vs) (b : But p H H') : C8s K A p H' vs := fun v hv => let ⟨c, e⟩ := h v hv; ⟨c, e.same (rem_rem b)⟩
theorem C8s.push {p : Addr} {H H' : Hp} {vs : List V} {v : V} {c : Option (List (Option (Int × Str × Nat)))} (h : C8s K A p H vs) (b : But p H H') (t : Case K A (Own.rem p H') v c) : C8s K A p H' (vs ++ [v]) := fun u hu => by
  rcases List.mem_append.mp hu with hu | hu
  · exact h.more b u hu
  · rw [List.mem_singleton.mp hu]
    exact ⟨c, t⟩
theorem C8s.app {p : Addr} {H : Hp} {vs ws : List V} (h : C8s K A p H vs) (g : C8s K A p H ws) : C8s K A p H (vs ++ ws) := fun u hu => (List.mem_append.mp hu).elim (h u) (g u)
theorem C8s.nil {p : Addr} {H : Hp} : C8s K A p H [] := fun v hv => by cases hv
def spLaw (K : PySem.W.Frag) : Sp := fun vs H Q _ => ∃ (a : Addr) (ns : List Int), vs = [.ref a] ∧ SqL K H a (ns.map V.int) ∧ ns.length ≤ 63 ∧ ∀ H', Q (.bl true) H'
theorem ok_law (T : Txt K mg A) : OkG P w K mg base 9 A.f_law ["script"] (spLaw K) := by
  refine T.fn_law.okG sc_law (fun _ _ _ _ _ _ us hl => match us, hl with | [_], _ => rfl) (fun vs H Q E h => ?_) (fun cdv B up s H0 vs Q hr gd h => ?_)
  · obtain ⟨a, ns, rfl, _⟩ := h
    rfl
  · obtain ⟨a0, ns, rfl, hS, hl, h⟩ := h
    refine ⟨_, (pss_cons (ps_for PassesOwn.never rfl (pi_range1 rfl T.no_range (pa_cons (pe_callB (call_max2 rfl) (by rfl) T.no_max (by decide +kernel) (pa_cons pe_int (pa_cons (pe_callB (call_min2 rfl) (by rfl) T.no_min (by decide +kernel) (pa_cons pe_int (pa_cons (pe_callB call_len (by rfl) T.no_len (by decide +kernel) (pa_cons (pv 0) pa_nil)) pa_nil))) pa_nil))) pa_nil)) (pg_name (i := 1) sc_law.nd rfl (Or.inl rfl))
      (pss_cons (ps_set (i := 2) sc_law.nd rfl (Or.inl rfl) (po_call (ok__law_source T) (hr.mono (by decide)) T.mg__law_source (pa_cons (pv 0) (pa_cons (pv 1) pa_nil))))
      (pss_one (ps_for PassesOwn.never rfl (pi_range1 rfl T.no_range (pa_cons pe_int pa_nil)) (pg_name (i := 3) sc_law.nd rfl (Or.inl rfl))
      (pss_cons (ps_set (i := 4) sc_law.nd rfl (Or.inl rfl) (po_call (ok__law_log T) (hr.mono (by decide)) T.mg__law_log (pa_cons (pv 2) (pa_cons pe_int pa_nil))))
      (pss_cons (ps_set (i := 5) sc_law.nd rfl (Or.inl rfl) (po_call (ok__law_rows T) (hr.mono (by decide)) T.mg__law_rows (pa_cons (pv 4) pa_nil)))
      (pss_cons (ps_set (i := 6) sc_law.nd rfl (Or.inl rfl) (po_call (ok__law_texts T) (hr.mono (by decide)) T.mg__law_texts (pa_cons (pv 5) pa_nil)))
      (pss_cons (ps_set (i := 7) sc_law.nd rfl (Or.inl rfl) (pe_lst (pa_cons (pv 5) (pa_cons (pe_revL (pv 5)) (pa_cons (po_call (ok__law_changed T) (hr.mono (by decide)) T.mg__law_changed (pa_cons (pv 2) (pa_cons (pv 5) (pa_cons (pv 4) pa_nil)))) (pa_cons (pe_slice sl_list (pv 5) po_none (po_some pe_int)) (pa_cons (pe_slice sl_list (pv 5) (po_some pe_int) po_none) (pa_cons (pe_callTy call_tuple_of (by rfl) T.no_tuple (by decide +kernel) (pa_cons (pv 5) pa_nil)) (pa_cons (pe_lst (pa_cons (pv 5) pa_nil)) pa_nil)))))))))
      (pss_mid (ps_set (i := 7) sc_law.nd rfl (Or.inl rfl) (pe_op op_addX (pv 7) (pe_lst (pa_cons (pe_op op_addX (pv 5) (pv 5)) (pa_cons (po_call (ok__law_changed T) (hr.mono (by decide)) T.mg__law_changed (pa_cons (pv 2) (pa_cons (pe_slice sl_list (pv 5) po_none (po_some pe_int)) (pa_cons (pe_slice sl_list (pv 4) po_none (po_some pe_int)) pa_nil)))) (pa_cons (pe_disp (pps_cons pe_str (pv 5) pps_nil) (by rfl) (by rfl) (fun z => by cases z) (by decide)) (pa_cons (pe_op op_addX (pv 5) (pe_lst (pa_cons pe_non pa_nil))) pa_nil)))))))
      (pss_one (ps_if (PW.pt (pw_or (pt_cmpR (OwnSet.op_neNil hr.units) (pe_lcD (own := [("case", 8)]) rfl sc_law.nd (pi_list (pv 7)) (blkOk_by (N := N_law) (sc := defScope s_law) (by decide +kernel)) (fun _ _ _ _ _ => pg_name (i := 8) sc_law.nd rfl (Or.inl rfl)) (fun _ _ _ _ _ => (pts_one (pt_not (pt_val (pg_call (ok__law_right T) (hr.mono (by decide)) gd T.mg__law_right (pa_cons (pv 8) pa_nil)))))) (fun _ _ _ _ _ => (pv 8))) (pe_lst pa_nil) (nomark _)) (pw_or1 (pt_cmpR (op_neX hr) (po_call (ok__law_texts T) (hr.mono (by decide)) T.mg__law_texts (pa_cons (pv 5) pa_nil)) (pv 6) (nomark _))))) (pss_one (ps_ret pe_bl)) pss_nil)))))))))))
      (pss_cons (ps_set (i := 7) sc_law.nd rfl (Or.inl rfl) (po_call0 (ok__law_things T) (hr.mono (by decide)) T.mg__law_things))
      (pss_cons (ps_if (pt_cmpR (OwnSet.op_neNil hr.units) (pe_lcD (own := [("case", 8)]) rfl sc_law.nd (pi_list (pv 7)) (blkOk_by (N := N_law) (sc := defScope s_law) (by decide +kernel)) (fun _ _ _ _ _ => pg_name (i := 8) sc_law.nd rfl (Or.inl rfl)) (fun _ _ _ _ _ => (pts_one (PW.pt (pw_or (pt_not (pt_val (pg_call (ok__law_right T) (hr.mono (by decide)) gd T.mg__law_right (pa_cons (pv 8) pa_nil)))) (pw_or1 (pt_not (pt_val (pg_call (ok__law_right T) (hr.mono (by decide)) gd T.mg__law_right (pa_cons (pe_lst (pa_cons (pv 8) pa_nil)) pa_nil))))))))) (fun _ _ _ _ _ => (pv 8))) (pe_lst pa_nil) (nomark _)) (pss_one (ps_ret pe_bl)) pss_nil)
      (pss_one (ps_ret (pe_and (pe_cmpR op_isBl (px_call (ok_is_log T) (fun _ => atL) (hr.mono (by decide)) T.mg_is_log (pa_cons (pe_lst pa_nil) pa_nil)) pe_bl (nomark _)) (pe_one (pe_cmpR op_isBl (px_call (ok_is_log T) (fun _ => atL) (hr.mono (by decide)) T.mg_is_log (pa_cons (pe_lst (pa_cons (po_make T.mk_Inserted (ok_Record___init__ T) (hr.mono (by decide)) T.mg_Inserted (pa_cons pe_str (pa_cons pe_int pa_nil))) (pa_cons (po_make T.mk_Removed (ok_Record___init__ T) (hr.mono (by decide)) T.mg_Removed (pa_cons pe_str (pa_cons pe_int pa_nil))) pa_nil))) pa_nil)) pe_bl (nomark _))))))))), ?_⟩
    refine ⟨_, rfl, _, _, rfl, .inl ⟨_, hS, rfl⟩, _, _, rfl, _, _, rfl, ?_⟩
    have hJ : ∀ L : Int, 0 ≤ (if (if L < 8 then L else 8) > 1 then (if L < 8 then L else 8) else 1) ∧ (if (if L < 8 then L else 8) > 1 then (if L < 8 then L else 8) else 1) ≤ 8 := fun L => by
      constructor <;> (repeat' split) <;> omega
    obtain ⟨j0, j1⟩ := hJ ((List.map V.int ns).length : Int)
    refine ⟨_, rfl, by omega, by omega, for_range (lo := 0) (n := Int.toNat _) (fun i σ H => (∃ v1 v2 v3 v4 v5 v6 v7 v8 : Option V, σ = [some (.ref a0), v1, v2, v3, v4, v5, v6, v7, v8]) ∧ Same H0 H)
      ⟨⟨_, _, _, _, _, _, _, _, rfl⟩, Same.refl _⟩ ?_ ?_⟩
    · rintro i σ H hi ⟨⟨v1, v2, v3, v4, v5, v6, v7, v8, rfl⟩, sm⟩
      have hi6 : i < 64 := by omega
      refine ⟨_, rfl, _, rfl, a0, ns, i, by rw [Int.zero_add]; rfl, sm.seq hS, hi6, fun p H1 s1 np src0 => ?_⟩
      have f0 : H0 p = none := sm.free np
      refine ⟨_, rfl, by decide, by decide, for_range (lo := 0) (n := 10) (fun t σ H => (∃ v3 v4 v5 v6 v7 v8 : Option V, σ = [some (.ref a0), some (.int (0 + i)), some (.ref p), v3, v4, v5, v6, v7, v8]) ∧ Sd H0 p (400 * t) H)
        ⟨⟨_, _, _, _, _, _, rfl⟩, sm.trans s1, (by rw [show (400 : Int) * ((0 : Nat) : Int) = 0 from rfl]; exact src0), f0⟩ ?_ ?_⟩
      · rintro t σ H2 ht ⟨⟨v3, v4, v5, v6, v7, v8, rfl⟩, d⟩
        generalize hN : 400 * (t : Int) = N at d
        have hN0 : 0 ≤ N := by omega
        have hN2 : N < 2 ^ 30 := by omega
        refine ⟨_, rfl, p, N, 41, rfl, d.src, by decide, by omega, fun pl ts ps H3 b3 s3 qp hq parts lps => ?_⟩
        have d3 : Sd H0 p (N + 200) H3 := ⟨d.same.but d.fr b3, s3, d.fr⟩
        clear d b3 s3
        refine ⟨_, rfl, pl, ts, ps, rfl, hq, parts, by omega, fun R rs H4 s4 nR hR rowsR => ?_⟩
        have d4 := d3.more s4
        have Rp : R ≠ p := d3.ne nR
        have bd := parts.bound
        have hq4 := s4 _ _ hq
        have parts4 := parts.same s4
        clear d3 hq parts nR
        refine ⟨_, rfl, R, rs, ps, rfl, hR, rowsR, by omega, bd, fun To H5 s5 nTo hTo => ?_⟩
        have Tp : To ≠ p := d4.ne nTo
        have c5 : Ch A H5 H5 p R pl (N + 200) rs ts ps := ⟨But.refl, d4.src.same s5, Rp, qp, s5 _ _ hR, rowsR.same s5, s5 _ _ hq4, parts4.same s5⟩
        have d5 := d4.more s5
        have To5 := hTo
        have lr := rowsR.len
        clear s4 s5 nTo hR rowsR hq4 parts4 d4 s1 src0
        have ry : ∀ {Hx : Hp} {m : Int}, Ch A H5 Hx p R pl m rs ts ps → Etys K A (Own.rem p Hx) rs (ps.map some) := fun c => (c.rows.rem c.s).etys bd
        have big : ∀ {k : Nat}, k ≤ 1000 → k ≤ 1000000 := fun z => Nat.le_trans z (by decide)
        have four : ∀ {k : Nat}, k ≤ 1000 → k ≤ 4000 := fun z => Nat.le_trans z (by decide)
        -- seven cases
        refine ⟨_, rfl, _, rfl, R, _, rfl, SqL.of c5.hl, fun D1 n1 => ?_⟩
        have u1 := Same.new (o := .lst rs.reverse) n1
        have p1 := c5.s.ne n1
        have c6 := c5.more u1
        refine ⟨_, rfl, _, rfl, _, rfl, p, R, pl, N + 200, rs, ts, ps, rfl, by omega, ⟨But.refl, c6.s, Rp, qp, c6.hl, c6.rows, c6.hq, c6.parts⟩, lps, fun D2 vs2 os2 H7 b7 s7 p2 h7 e7 l7 => ?_⟩
        have c7 := c6.pick b7 s7
        refine ⟨_, rfl, _, rfl, R, _, rfl, SqL.of c7.hl, fun D3 n3 => ?_⟩
        rw [show (40 : Int) = ((40 : Nat) : Int) from rfl, cutV_to]
        have u3 := Same.new (o := .lst (rs.take 40)) n3
        have p3 := c7.s.ne n3
        have c8 := c7.more u3
        refine ⟨_, rfl, _, rfl, R, _, rfl, SqL.of c8.hl, fun D4 n4 => ?_⟩
        rw [show (1 : Int) = ((1 : Nat) : Int) from rfl, cutV_from]
        have u4 := Same.new (o := .lst (rs.drop 1)) n4
        have p4 := c8.s.ne n4
        have c9 := c8.more u4
        refine ⟨_, rfl, R, _, rfl, .inl ⟨SqL.of c9.hl, fun D5 n5 => ?_⟩⟩
        have u5 := Same.new (o := .tup rs) n5
        have p5 := c9.s.ne n5
        have c10 := c9.more u5
        refine ⟨_, rfl, Nat.le_of_ble_eq_true rfl, fun D6 n6 => ?_⟩
        have u6 := Same.new (o := .lst [.ref R]) n6
        have p6 := c10.s.ne n6
        have c11 := c10.more u6
        have len1 : rs.length ≤ 41 := by omega
        have B1 : C8s K A p _ [.ref R, .ref D1] := (C8s.nil.push But.refl (Case.lst (rem_at Rp c5.hl) (four (by omega)) (ry c5))).push (But.same u1) (Case.lst (rem_at p1 (at_new u1)) (four (by rw [List.length_reverse]; omega)) (ry c6).reverse)
        have B2 := B1.push b7 (Case.lst (rem_at p2 h7) (four (by omega)) e7)
        have B3 := B2.push (But.same u3) (Case.lst (rem_at p3 (at_new u3)) (four (by rw [List.length_take]; omega)) ((ry c8).takeE 40))
        have B4 := B3.push (But.same u4) (Case.lst (rem_at p4 (at_new u4)) (four (by rw [List.length_drop]; omega)) ((ry c9).dropE 1))
        have B5 := B4.push (But.same u5) (Case.no (.base (.tup (rem_at p5 (at_new u5)))) (kit_ty (r := false) (by decide +kernel)))
        have B6 := B5.push (But.same u6) (Case.lst (rem_at p6 (at_new u6)) (Nat.le_of_ble_eq_true rfl) (.cons (eLst T (rem_at Rp c11.hl)) .nil))
        refine ⟨Nat.le_of_ble_eq_true rfl, fun L1 m1 => ?_⟩
        have uL1 := Same.new (o := .lst [.ref R, .ref D1, .ref D2, .ref D3, .ref D4, .ref D5, .ref D6]) m1
        have q1 := c11.s.ne m1
        have c12 := c11.more uL1
        have h12 := at_new uL1
        have B7 : C8s K A p _ [.ref R, .ref D1, .ref D2, .ref D3, .ref D4, .ref D5, .ref D6] := B6.more (But.same uL1)
        clear B1 B2 B3 B4 B5 B6 c6 c7 c8 c9 c10 c11 u1 u3 u4 u5 u6 uL1 n1 n3 n4 n5 n6 m1 h7 e7 l7 b7 s7
        generalize upd _ L1 (.lst [.ref R, .ref D1, .ref D2, .ref D3, .ref D4, .ref D5, .ref D6]) = H8 at c12 h12 B7
        refine ⟨fun σ1 H' => ∃ L vs, σ1 = [some (.ref a0), some (.int (0 + i)), some (.ref p), some (.int (0 + t)), some (.ref pl), some (.ref R), some (.ref To), some (.ref L), v8] ∧ Ch A H5 H' p R pl (N + 300) rs ts ps ∧ H' L = some (.lst vs) ∧ vs.length = 11 ∧ C8s K A p H' vs, ?_, ?_⟩
        · refine ⟨_, rfl, _, rfl, _, rfl, addL c12.hl c12.hl (big (by omega)) fun E1 k1 => ?_⟩
          have w1 := Same.new (o := .lst (rs ++ rs)) k1
          have q2 := c12.s.ne k1
          have g1 := c12.more w1
          refine ⟨_, rfl, _, rfl, _, rfl, R, _, rfl, SqL.of g1.hl, fun E2 k2 => ?_⟩
          rw [show (39 : Int) = ((39 : Nat) : Int) from rfl, cutV_to]
          have w2 := Same.new (o := .lst (rs.take 39)) k2
          have q3 := g1.s.ne k2
          have g2 := g1.more w2
          refine ⟨_, rfl, _, rfl, pl, _, rfl, SqL.of g2.hq, fun E3 k3 => ?_⟩
          rw [cutV_to]
          have w3 := Same.new (o := .lst (ts.take 39)) k3
          have q4 := g2.s.ne k3
          have g3 := g2.more w3
          refine ⟨p, E2, E3, _, rs.take 39, ts.take 39, ps.take 39, rfl, by omega, ⟨But.refl, g3.s, q3, q4, w3 _ _ (at_new w2), g3.rows.take 39, at_new w3, g3.parts.takeP 39⟩, by rw [List.length_take]; omega, fun E4 vs4 os4 I4 b4 s4 q5 h4 e4 l4 => ?_⟩
          have g4 := g3.pick b4 s4
          refine fun E5 k5 => ⟨_, rfl, upd_same, [(Sum.inr "a", .ref R)], rfl, Nat.le_of_ble_eq_true rfl, ?_⟩
          have w5 := Same.new2 (o := .dK []) (o' := .dK (mergeK [] [(Sum.inr "a", .ref R)])) k5
          have q6 := g4.s.ne k5
          have g5 := g4.more w5
          refine ⟨_, rfl, Nat.le_of_ble_eq_true rfl, fun E6 k6 => ?_⟩
          have w6 := Same.new (o := .lst [V.non]) k6
          have g6 := g5.more w6
          refine addL g6.hl upd_same (big (by rw [List.length_singleton]; omega)) fun E7 k7 => ?_
          have w7 := Same.new (o := .lst (rs ++ [V.non])) k7
          have q7 := g6.s.ne k7
          have g7 := g6.more w7
          have bk : But p H8 _ := (But.same (w1.trans (w2.trans w3))).trans b4
          have G1 : C8s K A p _ [.ref E1] := C8s.nil.push But.refl (Case.lst (rem_at q2 (at_new w1)) (four (by rw [List.length_append]; omega)) ((ry g1).app (ry g1)))
          have G2 := G1.push ((But.same (w2.trans w3)).trans b4) (Case.lst (rem_at q5 h4) (four (by omega)) e4)
          have G3 := G2.push (But.same w5) (Case.no (.base (.dK (rem_at q6 upd_same))) (kit_ty (r := false) (by decide +kernel)))
          have G4 := G3.push (But.same (w6.trans w7)) (Case.lst (rem_at q7 (at_new w7)) (four (by rw [List.length_append, List.length_singleton]; omega)) ((ry g7).app (.cons (eNon T) .nil)))
          refine ⟨Nat.le_of_ble_eq_true rfl, fun L2 m2 => ?_⟩
          have uL2 := Same.new (o := .lst [.ref E1, .ref E4, .ref E5, .ref E7]) m2
          have back := ((But.same (a := p) (w1.trans (w2.trans w3))).trans b4).trans (But.same (w5.trans (w6.trans (w7.trans uL2))))
          refine addL (back _ _ h12 q1) upd_same (Nat.le_of_ble_eq_true rfl) fun L3 m3 => ?_
          have uL3 := Same.new (o := .lst ([.ref R, .ref D1, .ref D2, .ref D3, .ref D4, .ref D5, .ref D6] ++ [.ref E1, .ref E4, .ref E5, .ref E7])) m3
          exact ⟨L3, _, rfl, ((g7.more uL2).more uL3).le (by omega), upd_same, rfl, (B7.more (back.trans (But.same uL3))).app (G4.more ((But.same uL2).trans (But.same uL3)))⟩
        rintro σ1 H9 ⟨L, vs, rfl, c13, hL, lv, C13⟩
        clear c12 h12 B7
        refine ⟨_, rfl, L, rfl, ⟨_, SqL.of hL⟩, fun G nG => ?_⟩
        refine lc_list (K := K) (a := L) (xs := vs) (fun i H' => Same H9 H' ∧ H' G = some (.lst [])) ?_ ?_ ?_ ?_
        · exact ⟨Same.new nG, upd_same⟩
        · rintro j Hc _ ⟨sc, _⟩
          exact SqL.of (sc _ _ hL)
        · rintro j y Hc hy ⟨sc, hc⟩
          obtain ⟨c, cy⟩ := C13 y (List.mem_of_getElem? hy)
          have cy2 := (cy.same (rem_but But.refl)).same sc
          refine ⟨rfl, _, rfl, y, c, rfl, cy2, fun Hd sd => ⟨_, rfl, iteF ⟨sc.trans sd, sd _ _ hc⟩⟩⟩
        · rintro Hc ⟨sc, hc⟩
          refine ⟨Nat.zero_le _, fun o no => ⟨G, o, [], rfl, rfl, SqL.of ((Same.new no) _ _ hc), SqL.of upd_same, ?_⟩⟩
          have uo := Same.new (o := .lst []) no
          rw [decide_eq_true rfl]
          refine ⟨_, rfl, iteF ?_⟩
          have c14 := c13.more (sc.trans uo)
          refine ⟨_, rfl, R, rs, ps, rfl, c14.hl, c14.rows, by omega, bd, fun T2 Hd sd nT2 hT2 => ?_⟩
          have c15 := c14.more sd
          have low := c15.parts.low
          have told := c15.b _ _ (To5) Tp
          refine ⟨_, rfl, .inr ⟨_, _, dpS (SqL.of hT2), dpS (SqL.of told), shapedT low, shapedT low, ?_⟩⟩
          rw [eqvS, decide_eq_true rfl]
          refine ⟨_, rfl, ?_⟩
          repeat refine iteF ?_
          refine ⟨⟨_, _, _, _, _, _, rfl⟩, ?_⟩
          exact (⟨d5.same.but d5.fr c15.b, c15.s, d5.fr⟩ : Sd H0 p (N + 300) Hd).le (by omega)
      · rintro σ H2 ⟨⟨v3, v4, v5, v6, v7, v8, rfl⟩, d⟩
        exact ⟨⟨_, _, _, _, _, _, _, _, rfl⟩, d.same⟩
    · rintro σ H ⟨⟨v1, v2, v3, v4, v5, v6, v7, v8, rfl⟩, sm⟩
      refine ⟨rfl, fun L ts H1 s1 nL hL th lts => ?_⟩
      refine ⟨_, rfl, L, rfl, ⟨_, SqL.of hL⟩, fun G nG => ?_⟩
      refine lc_list (K := K) (a := L) (xs := ts) (fun i H' => Same H1 H' ∧ H' G = some (.lst [])) ?_ ?_ ?_ ?_
      · exact ⟨Same.new nG, upd_same⟩
      · rintro j Hc _ ⟨sc, _⟩
        exact SqL.of (sc _ _ hL)
      · rintro j y Hc hy ⟨sc, hc⟩
        obtain ⟨c, o, cy, ey⟩ := (th y (List.mem_of_getElem? hy)).same sc
        refine ⟨rfl, _, rfl, y, c, rfl, cy, fun Hd sd => ⟨_, rfl, iteF ?_⟩⟩
        refine ⟨_, rfl, Nat.le_of_ble_eq_true rfl, fun q nq => ?_⟩
        have uq := Same.new (o := .lst [y]) nq
        refine ⟨.ref q, some [o], rfl, .lst (at_new uq) (Nat.le_of_ble_eq_true rfl) (.cons ((ey.same sd).same uq) .nil), fun He se => ⟨_, rfl, ?_⟩⟩
        repeat refine iteF ?_
        exact ⟨sc.trans (sd.trans (uq.trans se)), (sd.trans (uq.trans se)) _ _ hc⟩
      · rintro Hc ⟨sc, hc⟩
        refine ⟨Nat.zero_le _, fun o no => ⟨G, o, [], rfl, rfl, SqL.of ((Same.new no) _ _ hc), SqL.of upd_same, ?_⟩⟩
        rw [decide_eq_true rfl]
        refine ⟨_, rfl, iteF ?_⟩
        refine ⟨Nat.zero_le _, fun q nq => ⟨.ref q, some [], rfl, .lst upd_same (Nat.zero_le _) .nil, fun He se => ?_⟩⟩
        have lt : logB (some []) = true := by decide +kernel
        rw [lt]
        refine ⟨true, true, rfl, rfl, ?_⟩
        rw [decide_eq_true rfl]
        refine ⟨_, rfl, iteT ?_⟩
        have ix : isItem "x" = true := by decide +kernel
        have iy : isItem "y" = true := by decide +kernel
        intro p1 dx1 np1 nd1 ne1
        refine ⟨p1, _, dx1, "x", 1, rfl, upd_same, rc_Inserted T, ix, by decide, by decide, fun H1 e1 b1 => ⟨rfl, ?_⟩⟩
        intro p2 dx2 np2 nd2 ne2
        refine ⟨p2, _, dx2, "y", 0, rfl, upd_same, rc_Removed T, iy, by decide, by decide, fun H2 e2 b2 => ⟨rfl, ?_⟩⟩
        have m2 := made_same np2 nd2 b2
        refine ⟨Nat.le_of_ble_eq_true rfl, fun r nr => ?_⟩
        have ur := Same.new (o := .lst [.ref p1, .ref p2]) nr
        refine ⟨.ref r, some [some (0, "x", 1), some (1, "y", 0)], rfl, .lst (at_new ur) (Nat.le_of_ble_eq_true rfl) (.cons (.row (way := 0) (n := 1) ((m2.trans ur) _ _ e1) (by decide) (by decide) ix (by decide)) (.cons (.row (way := 1) (n := 0) (ur _ _ e2) (by decide) (by decide) iy (by decide)) .nil)), fun Hf sf => ?_⟩
        have lf : logB (some [some (0, "x", 1), some (1, "y", 0)]) = false := by decide +kernel
        rw [lf]
        refine ⟨false, false, rfl, rfl, ?_⟩
        rw [decide_eq_true rfl]
        exact h _
theorem done {fa : Addr} (T : Txt K mg A) (hm : mg "law" = some (.ref fa)) : ∀ base : Heap, K.In base → base.Ns mainGlobals mg → OkG P w K mg base 9 fa ["script"] (spLaw K) := by
  have e := T.mg_law.symm.trans hm
  obtain rfl : A.f_law = fa := by
    injection e with e
    injection e
  exact fun base _ _ => ok_law T

end
end Own

set_option Elab.async false
set_option linter.all false
set_option maxRecDepth 100000
set_option maxHeartbeats 4000000
namespace Own
open PySem L2 ClX
local macro_rules | `(tactic| walk_at "v") => `(tactic| refine ⟨_, rfl, ?_⟩)
local macro_rules | `(tactic| walk_at "ii") => `(tactic| refine ⟨_, _, rfl, rfl, ?_⟩)
local macro_rules | `(tactic| walk_at "go") => `(tactic| repeat (first | refine ⟨_, rfl, ?_⟩ | refine ⟨_, _, rfl, rfl, ?_⟩ | refine addI ?_ | refine L2.iteT ?_ | refine L2.iteF ?_))

theorem txt_mk {K : PySem.W.Frag} {h : Heap} {mg : Str → Option Value} {f_is_integer f_is_item f_check_index f_has_kind f_are_records f_is_log f__law_source f__law_pick f__law_shuffled f__law_names f__law_make f__law_rows f__law_log f__law_things f__law_due f__law_right f__law_changed f__law_texts f_law c_Record c_Inserted c_Removed c_Fronted m_Record___init__ m_Record_text p_Record_text m_Record_item p_Record_item : Addr} (X : K.In h) (G : h.Ns mainGlobals mg)
    (a_is_integer : PySem.W.nsIn K mainGlobals "is_integer" = some (some (.ref f_is_integer)))
    (g_is_integer : FnT K "is_integer" "is_integer" s_is_integer f_is_integer)
    (a_is_item : PySem.W.nsIn K mainGlobals "is_item" = some (some (.ref f_is_item)))
    (g_is_item : FnT K "is_item" "is_item" s_is_item f_is_item)
    (a_check_index : PySem.W.nsIn K mainGlobals "check_index" = some (some (.ref f_check_index)))
    (g_check_index : FnT K "check_index" "check_index" s_check_index f_check_index)
    (a_has_kind : PySem.W.nsIn K mainGlobals "has_kind" = some (some (.ref f_has_kind)))
    (g_has_kind : FnT K "has_kind" "has_kind" s_has_kind f_has_kind)
    (a_are_records : PySem.W.nsIn K mainGlobals "are_records" = some (some (.ref f_are_records)))
    (g_are_records : FnT K "are_records" "are_records" s_are_records f_are_records)
    (a_is_log : PySem.W.nsIn K mainGlobals "is_log" = some (some (.ref f_is_log)))
    (g_is_log : FnT K "is_log" "is_log" s_is_log f_is_log)
    (a__law_source : PySem.W.nsIn K mainGlobals "_law_source" = some (some (.ref f__law_source)))
    (g__law_source : FnT K "_law_source" "_law_source" s__law_source f__law_source)
    (a__law_pick : PySem.W.nsIn K mainGlobals "_law_pick" = some (some (.ref f__law_pick)))
    (g__law_pick : FnT K "_law_pick" "_law_pick" s__law_pick f__law_pick)
    (a__law_shuffled : PySem.W.nsIn K mainGlobals "_law_shuffled" = some (some (.ref f__law_shuffled)))
    (g__law_shuffled : FnT K "_law_shuffled" "_law_shuffled" s__law_shuffled f__law_shuffled)
    (a__law_names : PySem.W.nsIn K mainGlobals "_law_names" = some (some (.ref f__law_names)))
    (g__law_names : FnT K "_law_names" "_law_names" s__law_names f__law_names)
    (a__law_make : PySem.W.nsIn K mainGlobals "_law_make" = some (some (.ref f__law_make)))
    (g__law_make : FnT K "_law_make" "_law_make" s__law_make f__law_make)
    (a__law_rows : PySem.W.nsIn K mainGlobals "_law_rows" = some (some (.ref f__law_rows)))
    (g__law_rows : FnT K "_law_rows" "_law_rows" s__law_rows f__law_rows)
    (a__law_log : PySem.W.nsIn K mainGlobals "_law_log" = some (some (.ref f__law_log)))
    (g__law_log : FnT K "_law_log" "_law_log" s__law_log f__law_log)
    (a__law_things : PySem.W.nsIn K mainGlobals "_law_things" = some (some (.ref f__law_things)))
    (g__law_things : FnT K "_law_things" "_law_things" s__law_things f__law_things)
    (a__law_due : PySem.W.nsIn K mainGlobals "_law_due" = some (some (.ref f__law_due)))
    (g__law_due : FnT K "_law_due" "_law_due" s__law_due f__law_due)
    (a__law_right : PySem.W.nsIn K mainGlobals "_law_right" = some (some (.ref f__law_right)))
    (g__law_right : FnT K "_law_right" "_law_right" s__law_right f__law_right)
    (a__law_changed : PySem.W.nsIn K mainGlobals "_law_changed" = some (some (.ref f__law_changed)))
    (g__law_changed : FnT K "_law_changed" "_law_changed" s__law_changed f__law_changed)
    (a__law_texts : PySem.W.nsIn K mainGlobals "_law_texts" = some (some (.ref f__law_texts)))
    (g__law_texts : FnT K "_law_texts" "_law_texts" s__law_texts f__law_texts)
    (a_law : PySem.W.nsIn K mainGlobals "law" = some (some (.ref f_law)))
    (g_law : FnT K "law" "law" s_law f_law)
    (a_Record : PySem.W.nsIn K mainGlobals "Record" = some (some (.ref c_Record)))
    (a_Inserted : PySem.W.nsIn K mainGlobals "Inserted" = some (some (.ref c_Inserted)))
    (a_Removed : PySem.W.nsIn K mainGlobals "Removed" = some (some (.ref c_Removed)))
    (a_Fronted : PySem.W.nsIn K mainGlobals "Fronted" = some (some (.ref c_Fronted)))
    (mk_Record : PySem.W.makesIn K c_Record = true)
    (in_Record : PySem.W.findIn K (.ref c_Record) "__init__" = some (some (.ref m_Record___init__)))
    (fi_Record : PySem.W.isFn K (.ref m_Record___init__) = true)
    (kc_Record : PySem.W.keepIn K (.ref c_Record) = true)
    (g_Record___init__ : FnT K "__init__" "Record.__init__" s_Record___init__ m_Record___init__)
    (pg_Record : PySem.W.plainGet K c_Record Str.empty = true)
    (hd_Record : PySem.W.hasDictIn K c_Record = true)
    (po_Record : PySem.W.plainOver K c_Record = true)
    (sa_Record : PySem.W.findIn K (.ref c_Record) "__setattr__" = some (some (.builtin "object.__setattr__")))
    (na_Record_item : PySem.W.findIn K (.ref c_Record) "_item" = some none)
    (na_Record_slot : PySem.W.findIn K (.ref c_Record) "_slot" = some none)
    (mk_Inserted : PySem.W.makesIn K c_Inserted = true)
    (in_Inserted : PySem.W.findIn K (.ref c_Inserted) "__init__" = some (some (.ref m_Record___init__)))
    (fi_Inserted : PySem.W.isFn K (.ref m_Record___init__) = true)
    (kc_Inserted : PySem.W.keepIn K (.ref c_Inserted) = true)
    (pg_Inserted : PySem.W.plainGet K c_Inserted Str.empty = true)
    (hd_Inserted : PySem.W.hasDictIn K c_Inserted = true)
    (po_Inserted : PySem.W.plainOver K c_Inserted = true)
    (sa_Inserted : PySem.W.findIn K (.ref c_Inserted) "__setattr__" = some (some (.builtin "object.__setattr__")))
    (na_Inserted_item : PySem.W.findIn K (.ref c_Inserted) "_item" = some none)
    (na_Inserted_slot : PySem.W.findIn K (.ref c_Inserted) "_slot" = some none)
    (mk_Removed : PySem.W.makesIn K c_Removed = true)
    (in_Removed : PySem.W.findIn K (.ref c_Removed) "__init__" = some (some (.ref m_Record___init__)))
    (fi_Removed : PySem.W.isFn K (.ref m_Record___init__) = true)
    (kc_Removed : PySem.W.keepIn K (.ref c_Removed) = true)
    (pg_Removed : PySem.W.plainGet K c_Removed Str.empty = true)
    (hd_Removed : PySem.W.hasDictIn K c_Removed = true)
    (po_Removed : PySem.W.plainOver K c_Removed = true)
    (sa_Removed : PySem.W.findIn K (.ref c_Removed) "__setattr__" = some (some (.builtin "object.__setattr__")))
    (na_Removed_item : PySem.W.findIn K (.ref c_Removed) "_item" = some none)
    (na_Removed_slot : PySem.W.findIn K (.ref c_Removed) "_slot" = some none)
    (mk_Fronted : PySem.W.makesIn K c_Fronted = true)
    (in_Fronted : PySem.W.findIn K (.ref c_Fronted) "__init__" = some (some (.ref m_Record___init__)))
    (fi_Fronted : PySem.W.isFn K (.ref m_Record___init__) = true)
    (kc_Fronted : PySem.W.keepIn K (.ref c_Fronted) = true)
    (pg_Fronted : PySem.W.plainGet K c_Fronted Str.empty = true)
    (hd_Fronted : PySem.W.hasDictIn K c_Fronted = true)
    (po_Fronted : PySem.W.plainOver K c_Fronted = true)
    (sa_Fronted : PySem.W.findIn K (.ref c_Fronted) "__setattr__" = some (some (.builtin "object.__setattr__")))
    (na_Fronted_item : PySem.W.findIn K (.ref c_Fronted) "_item" = some none)
    (na_Fronted_slot : PySem.W.findIn K (.ref c_Fronted) "_slot" = some none)
    (rd_Record : ∃ mc, ClX.CRead K c_Record mc)
    (cv_Record_MOST : ∃ mc u, ClX.CRead K c_Record mc ∧ ClX.CVal K c_Record mc "MOST" (.int 60) u)
    (cv_Record_SIGN : ∃ mc u, ClX.CRead K c_Record mc ∧ ClX.CVal K c_Record mc "SIGN" (.str "") u)
    (iv_Record_SIGN : ∃ u, Con K c_Record "SIGN" (.str "") u)
    (iv_Inserted_SIGN : ∃ u, Con K c_Inserted "SIGN" (.str "+") u)
    (iv_Removed_SIGN : ∃ u, Con K c_Removed "SIGN" (.str "-") u)
    (iv_Fronted_SIGN : ∃ u, Con K c_Fronted "SIGN" (.str "^") u)
    (mc_MOST_LETTERS : ∃ t, PySem.W.nsIn K mainGlobals "MOST_LETTERS" = some (some (.int 8 t)))
    (mc_MOST_IN_LOG : ∃ t, PySem.W.nsIn K mainGlobals "MOST_IN_LOG" = some (some (.int 40 t)))
    (kit_Record_Record : PySem.W.kitOne K (.ref c_Record) (.ref c_Record) = some true)
    (kit_Inserted_Record : PySem.W.kitOne K (.ref c_Inserted) (.ref c_Record) = some true)
    (kit_Removed_Record : PySem.W.kitOne K (.ref c_Removed) (.ref c_Record) = some true)
    (kit_Fronted_Record : PySem.W.kitOne K (.ref c_Fronted) (.ref c_Record) = some true)
    (kit_Record_Inserted : PySem.W.kitOne K (.ref c_Record) (.ref c_Inserted) = some false)
    (kit_Record_Removed : PySem.W.kitOne K (.ref c_Record) (.ref c_Removed) = some false)
    (kit_Record_Fronted : PySem.W.kitOne K (.ref c_Record) (.ref c_Fronted) = some false)
    (kit_Inserted_Inserted : PySem.W.kitOne K (.ref c_Inserted) (.ref c_Inserted) = some true)
    (kit_Inserted_Removed : PySem.W.kitOne K (.ref c_Inserted) (.ref c_Removed) = some false)
    (kit_Inserted_Fronted : PySem.W.kitOne K (.ref c_Inserted) (.ref c_Fronted) = some false)
    (kit_Removed_Inserted : PySem.W.kitOne K (.ref c_Removed) (.ref c_Inserted) = some false)
    (kit_Removed_Removed : PySem.W.kitOne K (.ref c_Removed) (.ref c_Removed) = some true)
    (kit_Removed_Fronted : PySem.W.kitOne K (.ref c_Removed) (.ref c_Fronted) = some false)
    (kit_Fronted_Inserted : PySem.W.kitOne K (.ref c_Fronted) (.ref c_Inserted) = some false)
    (kit_Fronted_Removed : PySem.W.kitOne K (.ref c_Fronted) (.ref c_Removed) = some false)
    (kit_Fronted_Fronted : PySem.W.kitOne K (.ref c_Fronted) (.ref c_Fronted) = some true)
    (kit_type_NoneType_Record : PySem.W.kitOne K (.type "NoneType") (.ref c_Record) = some false)
    (kit_type_NoneType_Inserted : PySem.W.kitOne K (.type "NoneType") (.ref c_Inserted) = some false)
    (kit_type_NoneType_Removed : PySem.W.kitOne K (.type "NoneType") (.ref c_Removed) = some false)
    (kit_type_NoneType_Fronted : PySem.W.kitOne K (.type "NoneType") (.ref c_Fronted) = some false)
    (kit_type_bool_Record : PySem.W.kitOne K (.type "bool") (.ref c_Record) = some false)
    (kit_type_bool_Inserted : PySem.W.kitOne K (.type "bool") (.ref c_Inserted) = some false)
    (kit_type_bool_Removed : PySem.W.kitOne K (.type "bool") (.ref c_Removed) = some false)
    (kit_type_bool_Fronted : PySem.W.kitOne K (.type "bool") (.ref c_Fronted) = some false)
    (kit_type_int_Record : PySem.W.kitOne K (.type "int") (.ref c_Record) = some false)
    (kit_type_int_Inserted : PySem.W.kitOne K (.type "int") (.ref c_Inserted) = some false)
    (kit_type_int_Removed : PySem.W.kitOne K (.type "int") (.ref c_Removed) = some false)
    (kit_type_int_Fronted : PySem.W.kitOne K (.type "int") (.ref c_Fronted) = some false)
    (kit_type_str_Record : PySem.W.kitOne K (.type "str") (.ref c_Record) = some false)
    (kit_type_str_Inserted : PySem.W.kitOne K (.type "str") (.ref c_Inserted) = some false)
    (kit_type_str_Removed : PySem.W.kitOne K (.type "str") (.ref c_Removed) = some false)
    (kit_type_str_Fronted : PySem.W.kitOne K (.type "str") (.ref c_Fronted) = some false)
    (kit_type_list_Record : PySem.W.kitOne K (.type "list") (.ref c_Record) = some false)
    (kit_type_list_Inserted : PySem.W.kitOne K (.type "list") (.ref c_Inserted) = some false)
    (kit_type_list_Removed : PySem.W.kitOne K (.type "list") (.ref c_Removed) = some false)
    (kit_type_list_Fronted : PySem.W.kitOne K (.type "list") (.ref c_Fronted) = some false)
    (kit_type_tuple_Record : PySem.W.kitOne K (.type "tuple") (.ref c_Record) = some false)
    (kit_type_tuple_Inserted : PySem.W.kitOne K (.type "tuple") (.ref c_Inserted) = some false)
    (kit_type_tuple_Removed : PySem.W.kitOne K (.type "tuple") (.ref c_Removed) = some false)
    (kit_type_tuple_Fronted : PySem.W.kitOne K (.type "tuple") (.ref c_Fronted) = some false)
    (kit_type_dict_Record : PySem.W.kitOne K (.type "dict") (.ref c_Record) = some false)
    (kit_type_dict_Inserted : PySem.W.kitOne K (.type "dict") (.ref c_Inserted) = some false)
    (kit_type_dict_Removed : PySem.W.kitOne K (.type "dict") (.ref c_Removed) = some false)
    (kit_type_dict_Fronted : PySem.W.kitOne K (.type "dict") (.ref c_Fronted) = some false)
    (kit_Record_type_list : PySem.W.kitOne K (.ref c_Record) (.type "list") = some false)
    (kit_Inserted_type_list : PySem.W.kitOne K (.ref c_Inserted) (.type "list") = some false)
    (kit_Removed_type_list : PySem.W.kitOne K (.ref c_Removed) (.type "list") = some false)
    (kit_Fronted_type_list : PySem.W.kitOne K (.ref c_Fronted) (.type "list") = some false)
    (pr_Record_text : PropOf K c_Record "text" p_Record_text m_Record_text)
    (g_Record_text : FnT K "text" "Record.text" s_Record_text m_Record_text)
    (pr_Record_item : PropOf K c_Record "item" p_Record_item m_Record_item)
    (g_Record_item : FnT K "item" "Record.item" s_Record_item m_Record_item)
    (pr_Inserted_text : PropOf K c_Inserted "text" p_Record_text m_Record_text)
    (pr_Inserted_item : PropOf K c_Inserted "item" p_Record_item m_Record_item)
    (pr_Removed_text : PropOf K c_Removed "text" p_Record_text m_Record_text)
    (pr_Removed_item : PropOf K c_Removed "item" p_Record_item m_Record_item)
    (pr_Fronted_text : PropOf K c_Fronted "text" p_Record_text m_Record_text)
    (pr_Fronted_item : PropOf K c_Fronted "item" p_Record_item m_Record_item)
    (ty_Record : InsT K c_Record)
    (ty_Inserted : InsT K c_Inserted)
    (ty_Removed : InsT K c_Removed)
    (ty_Fronted : InsT K c_Fronted)
    (no_abs : PySem.W.nsIn K mainGlobals "abs" = some none)
    (no_all : PySem.W.nsIn K mainGlobals "all" = some none)
    (no_bool : PySem.W.nsIn K mainGlobals "bool" = some none)
    (no_int : PySem.W.nsIn K mainGlobals "int" = some none)
    (no_isinstance : PySem.W.nsIn K mainGlobals "isinstance" = some none)
    (no_len : PySem.W.nsIn K mainGlobals "len" = some none)
    (no_list : PySem.W.nsIn K mainGlobals "list" = some none)
    (no_max : PySem.W.nsIn K mainGlobals "max" = some none)
    (no_min : PySem.W.nsIn K mainGlobals "min" = some none)
    (no_property : PySem.W.nsIn K mainGlobals "property" = some none)
    (no_range : PySem.W.nsIn K mainGlobals "range" = some none)
    (no_repr : PySem.W.nsIn K mainGlobals "repr" = some none)
    (no_set : PySem.W.nsIn K mainGlobals "set" = some none)
    (no_str : PySem.W.nsIn K mainGlobals "str" = some none)
    (no_tuple : PySem.W.nsIn K mainGlobals "tuple" = some none)
    : Txt K mg ⟨f_is_integer, f_is_item, f_check_index, f_has_kind, f_are_records, f_is_log, f__law_source, f__law_pick, f__law_shuffled, f__law_names, f__law_make, f__law_rows, f__law_log, f__law_things, f__law_due, f__law_right, f__law_changed, f__law_texts, f_law, c_Record, c_Inserted, c_Removed, c_Fronted, m_Record___init__, m_Record_text, p_Record_text, m_Record_item, p_Record_item⟩ :=
  {
    mg_is_integer := PySem.W.mg_of X G a_is_integer
    fn_is_integer := g_is_integer
    mg_is_item := PySem.W.mg_of X G a_is_item
    fn_is_item := g_is_item
    mg_check_index := PySem.W.mg_of X G a_check_index
    fn_check_index := g_check_index
    mg_has_kind := PySem.W.mg_of X G a_has_kind
    fn_has_kind := g_has_kind
    mg_are_records := PySem.W.mg_of X G a_are_records
    fn_are_records := g_are_records
    mg_is_log := PySem.W.mg_of X G a_is_log
    fn_is_log := g_is_log
    mg__law_source := PySem.W.mg_of X G a__law_source
    fn__law_source := g__law_source
    mg__law_pick := PySem.W.mg_of X G a__law_pick
    fn__law_pick := g__law_pick
    mg__law_shuffled := PySem.W.mg_of X G a__law_shuffled
    fn__law_shuffled := g__law_shuffled
    mg__law_names := PySem.W.mg_of X G a__law_names
    fn__law_names := g__law_names
    mg__law_make := PySem.W.mg_of X G a__law_make
    fn__law_make := g__law_make
    mg__law_rows := PySem.W.mg_of X G a__law_rows
    fn__law_rows := g__law_rows
    mg__law_log := PySem.W.mg_of X G a__law_log
    fn__law_log := g__law_log
    mg__law_things := PySem.W.mg_of X G a__law_things
    fn__law_things := g__law_things
    mg__law_due := PySem.W.mg_of X G a__law_due
    fn__law_due := g__law_due
    mg__law_right := PySem.W.mg_of X G a__law_right
    fn__law_right := g__law_right
    mg__law_changed := PySem.W.mg_of X G a__law_changed
    fn__law_changed := g__law_changed
    mg__law_texts := PySem.W.mg_of X G a__law_texts
    fn__law_texts := g__law_texts
    mg_law := PySem.W.mg_of X G a_law
    fn_law := g_law
    mg_Record := PySem.W.mg_of X G a_Record
    mg_Inserted := PySem.W.mg_of X G a_Inserted
    mg_Removed := PySem.W.mg_of X G a_Removed
    mg_Fronted := PySem.W.mg_of X G a_Fronted
    mk_Record := ⟨mk_Record, in_Record, fi_Record, kc_Record⟩
    fn_Record___init__ := g_Record___init__
    cl_Record := ⟨pg_Record, hd_Record, po_Record, sa_Record⟩
    na_Record_item := na_Record_item
    na_Record_slot := na_Record_slot
    mk_Inserted := ⟨mk_Inserted, in_Inserted, fi_Inserted, kc_Inserted⟩
    cl_Inserted := ⟨pg_Inserted, hd_Inserted, po_Inserted, sa_Inserted⟩
    na_Inserted_item := na_Inserted_item
    na_Inserted_slot := na_Inserted_slot
    mk_Removed := ⟨mk_Removed, in_Removed, fi_Removed, kc_Removed⟩
    cl_Removed := ⟨pg_Removed, hd_Removed, po_Removed, sa_Removed⟩
    na_Removed_item := na_Removed_item
    na_Removed_slot := na_Removed_slot
    mk_Fronted := ⟨mk_Fronted, in_Fronted, fi_Fronted, kc_Fronted⟩
    cl_Fronted := ⟨pg_Fronted, hd_Fronted, po_Fronted, sa_Fronted⟩
    na_Fronted_item := na_Fronted_item
    na_Fronted_slot := na_Fronted_slot
    cv_Record_MOST := cv_Record_MOST
    cv_Record_SIGN := cv_Record_SIGN
    iv_Record_SIGN := iv_Record_SIGN
    iv_Inserted_SIGN := iv_Inserted_SIGN
    iv_Removed_SIGN := iv_Removed_SIGN
    iv_Fronted_SIGN := iv_Fronted_SIGN
    mg_MOST_LETTERS := let ⟨t, h⟩ := mc_MOST_LETTERS; ⟨t, PySem.W.mg_of X G h⟩
    mg_MOST_IN_LOG := let ⟨t, h⟩ := mc_MOST_IN_LOG; ⟨t, PySem.W.mg_of X G h⟩
    kit_Record_Record := kit_Record_Record
    kit_Inserted_Record := kit_Inserted_Record
    kit_Removed_Record := kit_Removed_Record
    kit_Fronted_Record := kit_Fronted_Record
    kit_Record_Inserted := kit_Record_Inserted
    kit_Record_Removed := kit_Record_Removed
    kit_Record_Fronted := kit_Record_Fronted
    kit_Inserted_Inserted := kit_Inserted_Inserted
    kit_Inserted_Removed := kit_Inserted_Removed
    kit_Inserted_Fronted := kit_Inserted_Fronted
    kit_Removed_Inserted := kit_Removed_Inserted
    kit_Removed_Removed := kit_Removed_Removed
    kit_Removed_Fronted := kit_Removed_Fronted
    kit_Fronted_Inserted := kit_Fronted_Inserted
    kit_Fronted_Removed := kit_Fronted_Removed
    kit_Fronted_Fronted := kit_Fronted_Fronted
    kit_type_NoneType_Record := kit_type_NoneType_Record
    kit_type_NoneType_Inserted := kit_type_NoneType_Inserted
    kit_type_NoneType_Removed := kit_type_NoneType_Removed
    kit_type_NoneType_Fronted := kit_type_NoneType_Fronted
    kit_type_bool_Record := kit_type_bool_Record
    kit_type_bool_Inserted := kit_type_bool_Inserted
    kit_type_bool_Removed := kit_type_bool_Removed
    kit_type_bool_Fronted := kit_type_bool_Fronted
    kit_type_int_Record := kit_type_int_Record
    kit_type_int_Inserted := kit_type_int_Inserted
    kit_type_int_Removed := kit_type_int_Removed
    kit_type_int_Fronted := kit_type_int_Fronted
    kit_type_str_Record := kit_type_str_Record
    kit_type_str_Inserted := kit_type_str_Inserted
    kit_type_str_Removed := kit_type_str_Removed
    kit_type_str_Fronted := kit_type_str_Fronted
    kit_type_list_Record := kit_type_list_Record
    kit_type_list_Inserted := kit_type_list_Inserted
    kit_type_list_Removed := kit_type_list_Removed
    kit_type_list_Fronted := kit_type_list_Fronted
    kit_type_tuple_Record := kit_type_tuple_Record
    kit_type_tuple_Inserted := kit_type_tuple_Inserted
    kit_type_tuple_Removed := kit_type_tuple_Removed
    kit_type_tuple_Fronted := kit_type_tuple_Fronted
    kit_type_dict_Record := kit_type_dict_Record
    kit_type_dict_Inserted := kit_type_dict_Inserted
    kit_type_dict_Removed := kit_type_dict_Removed
    kit_type_dict_Fronted := kit_type_dict_Fronted
    kit_Record_type_list := kit_Record_type_list
    kit_Inserted_type_list := kit_Inserted_type_list
    kit_Removed_type_list := kit_Removed_type_list
    kit_Fronted_type_list := kit_Fronted_type_list
    pr_Record_text := pr_Record_text
    fn_Record_text := g_Record_text
    pr_Record_item := pr_Record_item
    fn_Record_item := g_Record_item
    pr_Inserted_text := pr_Inserted_text
    pr_Inserted_item := pr_Inserted_item
    pr_Removed_text := pr_Removed_text
    pr_Removed_item := pr_Removed_item
    pr_Fronted_text := pr_Fronted_text
    pr_Fronted_item := pr_Fronted_item
    ty_Record := ty_Record
    ty_Inserted := ty_Inserted
    ty_Removed := ty_Removed
    ty_Fronted := ty_Fronted
    no_abs := PySem.W.mg_none_of X G no_abs
    no_all := PySem.W.mg_none_of X G no_all
    no_bool := PySem.W.mg_none_of X G no_bool
    no_int := PySem.W.mg_none_of X G no_int
    no_isinstance := PySem.W.mg_none_of X G no_isinstance
    no_len := PySem.W.mg_none_of X G no_len
    no_list := PySem.W.mg_none_of X G no_list
    no_max := PySem.W.mg_none_of X G no_max
    no_min := PySem.W.mg_none_of X G no_min
    no_property := PySem.W.mg_none_of X G no_property
    no_range := PySem.W.mg_none_of X G no_range
    no_repr := PySem.W.mg_none_of X G no_repr
    no_set := PySem.W.mg_none_of X G no_set
    no_str := PySem.W.mg_none_of X G no_str
    no_tuple := PySem.W.mg_none_of X G no_tuple }

end Own

open PySem PySem.W PyProof.Rows in
set_option maxRecDepth 100000 in
set_option maxHeartbeats 0 in
theorem PySem.Challenge.cw_indexlogs_k08_logs_recognized_holds : PySem.Challenge.rw_indexlogs_k08_logs_recognized.Holds := by
  w_on; o_law; k_head; (case hw => w_witness2)
  k_fill
  refine L2.walkG (l := PySem.Challenge.rw_indexlogs_k08_logs_recognized) (n := 63) (k := 9) (sp := Own.spLaw) rfl (by decide) rfl ⟨rfl, by decide, by decide⟩ (fun w h Y => PySem.W.kIn_of Y) ?F fun K H a ns hl hS => ⟨a, ns, rfl, hS, hl, fun _ => rfl⟩
  case F =>
    intro w mg fa h KX G hmg
    refine' Own.done (Own.txt_mk KX G ?a_is_integer ?g_is_integer ?a_is_item ?g_is_item ?a_check_index ?g_check_index ?a_has_kind ?g_has_kind ?a_are_records ?g_are_records ?a_is_log ?g_is_log ?a__law_source ?g__law_source ?a__law_pick ?g__law_pick ?a__law_shuffled ?g__law_shuffled ?a__law_names ?g__law_names ?a__law_make ?g__law_make ?a__law_rows ?g__law_rows ?a__law_log ?g__law_log ?a__law_things ?g__law_things ?a__law_due ?g__law_due ?a__law_right ?g__law_right ?a__law_changed ?g__law_changed ?a__law_texts ?g__law_texts ?a_law ?g_law ?a_Record ?a_Inserted ?a_Removed ?a_Fronted ?mk_Record ?in_Record ?fi_Record ?kc_Record ?g_Record___init__ ?pg_Record ?hd_Record ?po_Record ?sa_Record ?na_Record_item ?na_Record_slot ?mk_Inserted ?in_Inserted ?fi_Inserted ?kc_Inserted ?pg_Inserted ?hd_Inserted ?po_Inserted ?sa_Inserted ?na_Inserted_item ?na_Inserted_slot ?mk_Removed ?in_Removed ?fi_Removed ?kc_Removed ?pg_Removed ?hd_Removed ?po_Removed ?sa_Removed ?na_Removed_item ?na_Removed_slot ?mk_Fronted ?in_Fronted ?fi_Fronted ?kc_Fronted ?pg_Fronted ?hd_Fronted ?po_Fronted ?sa_Fronted ?na_Fronted_item ?na_Fronted_slot ?rd_Record ?cv_Record_MOST ?cv_Record_SIGN ?iv_Record_SIGN ?iv_Inserted_SIGN ?iv_Removed_SIGN ?iv_Fronted_SIGN ?mc_MOST_LETTERS ?mc_MOST_IN_LOG ?kit_Record_Record ?kit_Inserted_Record ?kit_Removed_Record ?kit_Fronted_Record ?kit_Record_Inserted ?kit_Record_Removed ?kit_Record_Fronted ?kit_Inserted_Inserted ?kit_Inserted_Removed ?kit_Inserted_Fronted ?kit_Removed_Inserted ?kit_Removed_Removed ?kit_Removed_Fronted ?kit_Fronted_Inserted ?kit_Fronted_Removed ?kit_Fronted_Fronted ?kit_type_NoneType_Record ?kit_type_NoneType_Inserted ?kit_type_NoneType_Removed ?kit_type_NoneType_Fronted ?kit_type_bool_Record ?kit_type_bool_Inserted ?kit_type_bool_Removed ?kit_type_bool_Fronted ?kit_type_int_Record ?kit_type_int_Inserted ?kit_type_int_Removed ?kit_type_int_Fronted ?kit_type_str_Record ?kit_type_str_Inserted ?kit_type_str_Removed ?kit_type_str_Fronted ?kit_type_list_Record ?kit_type_list_Inserted ?kit_type_list_Removed ?kit_type_list_Fronted ?kit_type_tuple_Record ?kit_type_tuple_Inserted ?kit_type_tuple_Removed ?kit_type_tuple_Fronted ?kit_type_dict_Record ?kit_type_dict_Inserted ?kit_type_dict_Removed ?kit_type_dict_Fronted ?kit_Record_type_list ?kit_Inserted_type_list ?kit_Removed_type_list ?kit_Fronted_type_list ?pr_Record_text ?g_Record_text ?pr_Record_item ?g_Record_item ?pr_Inserted_text ?pr_Inserted_item ?pr_Removed_text ?pr_Removed_item ?pr_Fronted_text ?pr_Fronted_item ?ty_Record ?ty_Inserted ?ty_Removed ?ty_Fronted ?no_abs ?no_all ?no_bool ?no_int ?no_isinstance ?no_len ?no_list ?no_max ?no_min ?no_property ?no_range ?no_repr ?no_set ?no_str ?no_tuple) hmg
    (case a_is_integer => k_is)
    (case g_is_integer => (refine' L2.fnT_mk ?l ?c ?k; (case l => k_is); (case c => k_is); (case k => k_is)))
    (case a_is_item => k_is)
    (case g_is_item => (refine' L2.fnT_mk ?l ?c ?k; (case l => k_is); (case c => k_is); (case k => k_is)))
    (case a_check_index => k_is)
    (case g_check_index => (refine' L2.fnT_mk ?l ?c ?k; (case l => k_is); (case c => k_is); (case k => k_is)))
    (case a_has_kind => k_is)
    (case g_has_kind => (refine' L2.fnT_mk ?l ?c ?k; (case l => k_is); (case c => k_is); (case k => k_is)))
    (case a_are_records => k_is)
    (case g_are_records => (refine' L2.fnT_mk ?l ?c ?k; (case l => k_is); (case c => k_is); (case k => k_is)))
    (case a_is_log => k_is)
    (case g_is_log => (refine' L2.fnT_mk ?l ?c ?k; (case l => k_is); (case c => k_is); (case k => k_is)))
    (case a__law_source => k_is)
    (case g__law_source => (refine' L2.fnT_mk ?l ?c ?k; (case l => k_is); (case c => k_is); (case k => k_is)))
    (case a__law_pick => k_is)
    (case g__law_pick => (refine' L2.fnT_mk ?l ?c ?k; (case l => k_is); (case c => k_is); (case k => k_is)))
    (case a__law_shuffled => k_is)
    (case g__law_shuffled => (refine' L2.fnT_mk ?l ?c ?k; (case l => k_is); (case c => k_is); (case k => k_is)))
    (case a__law_names => k_is)
    (case g__law_names => (refine' L2.fnT_mk ?l ?c ?k; (case l => k_is); (case c => k_is); (case k => k_is)))
    (case a__law_make => k_is)
    (case g__law_make => (refine' L2.fnT_mk ?l ?c ?k; (case l => k_is); (case c => k_is); (case k => k_is)))
    (case a__law_rows => k_is)
    (case g__law_rows => (refine' L2.fnT_mk ?l ?c ?k; (case l => k_is); (case c => k_is); (case k => k_is)))
    (case a__law_log => k_is)
    (case g__law_log => (refine' L2.fnT_mk ?l ?c ?k; (case l => k_is); (case c => k_is); (case k => k_is)))
    (case a__law_things => k_is)
    (case g__law_things => (refine' L2.fnT_mk ?l ?c ?k; (case l => k_is); (case c => k_is); (case k => k_is)))
    (case a__law_due => k_is)
    (case g__law_due => (refine' L2.fnT_mk ?l ?c ?k; (case l => k_is); (case c => k_is); (case k => k_is)))
    (case a__law_right => k_is)
    (case g__law_right => (refine' L2.fnT_mk ?l ?c ?k; (case l => k_is); (case c => k_is); (case k => k_is)))
    (case a__law_changed => k_is)
    (case g__law_changed => (refine' L2.fnT_mk ?l ?c ?k; (case l => k_is); (case c => k_is); (case k => k_is)))
    (case a__law_texts => k_is)
    (case g__law_texts => (refine' L2.fnT_mk ?l ?c ?k; (case l => k_is); (case c => k_is); (case k => k_is)))
    (case a_law => k_is)
    (case g_law => (refine' L2.fnT_mk ?l ?c ?k; (case l => k_is); (case c => k_is); (case k => k_is)))
    (case a_Record => k_is)
    (case a_Inserted => k_is)
    (case a_Removed => k_is)
    (case a_Fronted => k_is)
    (case mk_Record => k_is)
    (case in_Record => k_is)
    (case fi_Record => k_is)
    (case kc_Record => k_is)
    (case g_Record___init__ => (refine' L2.fnT_mk ?l ?c ?k; (case l => k_is); (case c => k_is); (case k => k_is)))
    (case pg_Record => k_is)
    (case hd_Record => k_is)
    (case po_Record => k_is)
    (case sa_Record => k_is)
    (case na_Record_item => k_is)
    (case na_Record_slot => k_is)
    (case mk_Inserted => k_is)
    (case in_Inserted => k_is)
    (case fi_Inserted => k_is)
    (case kc_Inserted => k_is)
    (case pg_Inserted => k_is)
    (case hd_Inserted => k_is)
    (case po_Inserted => k_is)
    (case sa_Inserted => k_is)
    (case na_Inserted_item => k_is)
    (case na_Inserted_slot => k_is)
    (case mk_Removed => k_is)
    (case in_Removed => k_is)
    (case fi_Removed => k_is)
    (case kc_Removed => k_is)
    (case pg_Removed => k_is)
    (case hd_Removed => k_is)
    (case po_Removed => k_is)
    (case sa_Removed => k_is)
    (case na_Removed_item => k_is)
    (case na_Removed_slot => k_is)
    (case mk_Fronted => k_is)
    (case in_Fronted => k_is)
    (case fi_Fronted => k_is)
    (case kc_Fronted => k_is)
    (case pg_Fronted => k_is)
    (case hd_Fronted => k_is)
    (case po_Fronted => k_is)
    (case sa_Fronted => k_is)
    (case na_Fronted_item => k_is)
    (case na_Fronted_slot => k_is)
    (case rd_Record => (refine' ⟨.type "type", ⟨?r, ?s⟩⟩; (case r => k_is); (case s => k_is)))
    (case cv_Record_MOST => (refine' ⟨.type "type", _, ⟨?r, ?s⟩, ⟨?t, ?v⟩⟩; (case r => k_is); (case s => k_is); (case t => k_is); (case v => first | rfl | exact ⟨_, rfl⟩)))
    (case cv_Record_SIGN => (refine' ⟨.type "type", _, ⟨?r, ?s⟩, ⟨?t, ?v⟩⟩; (case r => k_is); (case s => k_is); (case t => k_is); (case v => first | rfl | exact ⟨_, rfl⟩)))
    (case iv_Record_SIGN => (refine' ⟨_, ⟨?t, ?v, ?g, ?w⟩⟩; (case t => k_is); (case v => first | rfl | exact ⟨_, rfl⟩); (case g => first | k_is | rfl | decide +kernel); (case w => first | rfl | decide +kernel)))
    (case iv_Inserted_SIGN => (refine' ⟨_, ⟨?t, ?v, ?g, ?w⟩⟩; (case t => k_is); (case v => first | rfl | exact ⟨_, rfl⟩); (case g => first | k_is | rfl | decide +kernel); (case w => first | rfl | decide +kernel)))
    (case iv_Removed_SIGN => (refine' ⟨_, ⟨?t, ?v, ?g, ?w⟩⟩; (case t => k_is); (case v => first | rfl | exact ⟨_, rfl⟩); (case g => first | k_is | rfl | decide +kernel); (case w => first | rfl | decide +kernel)))
    (case iv_Fronted_SIGN => (refine' ⟨_, ⟨?t, ?v, ?g, ?w⟩⟩; (case t => k_is); (case v => first | rfl | exact ⟨_, rfl⟩); (case g => first | k_is | rfl | decide +kernel); (case w => first | rfl | decide +kernel)))
    (case mc_MOST_LETTERS => (refine' L2.gconst_mk ?t ?r; (case t => k_is); (case r => exact ⟨_, rfl⟩)))
    (case mc_MOST_IN_LOG => (refine' L2.gconst_mk ?t ?r; (case t => k_is); (case r => exact ⟨_, rfl⟩)))
    (case kit_Record_Record => (refine' L2.kit_ref ?a ?b ?c ?d; (case a => k_is); (case b => k_is); (case c => k_is); (case d => first | exact fun _ => rfl | exact fun z => absurd (Value.ref.inj z) (by decide) | exact fun z => by cases z)))
    (case kit_Inserted_Record => (refine' L2.kit_ref ?a ?b ?c ?d; (case a => k_is); (case b => k_is); (case c => k_is); (case d => first | exact fun _ => rfl | exact fun z => absurd (Value.ref.inj z) (by decide) | exact fun z => by cases z)))
    (case kit_Removed_Record => (refine' L2.kit_ref ?a ?b ?c ?d; (case a => k_is); (case b => k_is); (case c => k_is); (case d => first | exact fun _ => rfl | exact fun z => absurd (Value.ref.inj z) (by decide) | exact fun z => by cases z)))
    (case kit_Fronted_Record => (refine' L2.kit_ref ?a ?b ?c ?d; (case a => k_is); (case b => k_is); (case c => k_is); (case d => first | exact fun _ => rfl | exact fun z => absurd (Value.ref.inj z) (by decide) | exact fun z => by cases z)))
    (case kit_Record_Inserted => (refine' L2.kit_ref ?a ?b ?c ?d; (case a => k_is); (case b => k_is); (case c => k_is); (case d => first | exact fun _ => rfl | exact fun z => absurd (Value.ref.inj z) (by decide) | exact fun z => by cases z)))
    (case kit_Record_Removed => (refine' L2.kit_ref ?a ?b ?c ?d; (case a => k_is); (case b => k_is); (case c => k_is); (case d => first | exact fun _ => rfl | exact fun z => absurd (Value.ref.inj z) (by decide) | exact fun z => by cases z)))
    (case kit_Record_Fronted => (refine' L2.kit_ref ?a ?b ?c ?d; (case a => k_is); (case b => k_is); (case c => k_is); (case d => first | exact fun _ => rfl | exact fun z => absurd (Value.ref.inj z) (by decide) | exact fun z => by cases z)))
    (case kit_Inserted_Inserted => (refine' L2.kit_ref ?a ?b ?c ?d; (case a => k_is); (case b => k_is); (case c => k_is); (case d => first | exact fun _ => rfl | exact fun z => absurd (Value.ref.inj z) (by decide) | exact fun z => by cases z)))
    (case kit_Inserted_Removed => (refine' L2.kit_ref ?a ?b ?c ?d; (case a => k_is); (case b => k_is); (case c => k_is); (case d => first | exact fun _ => rfl | exact fun z => absurd (Value.ref.inj z) (by decide) | exact fun z => by cases z)))
    (case kit_Inserted_Fronted => (refine' L2.kit_ref ?a ?b ?c ?d; (case a => k_is); (case b => k_is); (case c => k_is); (case d => first | exact fun _ => rfl | exact fun z => absurd (Value.ref.inj z) (by decide) | exact fun z => by cases z)))
    (case kit_Removed_Inserted => (refine' L2.kit_ref ?a ?b ?c ?d; (case a => k_is); (case b => k_is); (case c => k_is); (case d => first | exact fun _ => rfl | exact fun z => absurd (Value.ref.inj z) (by decide) | exact fun z => by cases z)))
    (case kit_Removed_Removed => (refine' L2.kit_ref ?a ?b ?c ?d; (case a => k_is); (case b => k_is); (case c => k_is); (case d => first | exact fun _ => rfl | exact fun z => absurd (Value.ref.inj z) (by decide) | exact fun z => by cases z)))
    (case kit_Removed_Fronted => (refine' L2.kit_ref ?a ?b ?c ?d; (case a => k_is); (case b => k_is); (case c => k_is); (case d => first | exact fun _ => rfl | exact fun z => absurd (Value.ref.inj z) (by decide) | exact fun z => by cases z)))
    (case kit_Fronted_Inserted => (refine' L2.kit_ref ?a ?b ?c ?d; (case a => k_is); (case b => k_is); (case c => k_is); (case d => first | exact fun _ => rfl | exact fun z => absurd (Value.ref.inj z) (by decide) | exact fun z => by cases z)))
    (case kit_Fronted_Removed => (refine' L2.kit_ref ?a ?b ?c ?d; (case a => k_is); (case b => k_is); (case c => k_is); (case d => first | exact fun _ => rfl | exact fun z => absurd (Value.ref.inj z) (by decide) | exact fun z => by cases z)))
    (case kit_Fronted_Fronted => (refine' L2.kit_ref ?a ?b ?c ?d; (case a => k_is); (case b => k_is); (case c => k_is); (case d => first | exact fun _ => rfl | exact fun z => absurd (Value.ref.inj z) (by decide) | exact fun z => by cases z)))
    (case kit_type_NoneType_Record => (refine' L2.kit_ref ?a ?b ?c ?d; (case a => k_is); (case b => k_is); (case c => k_is); (case d => first | exact fun _ => rfl | exact fun z => absurd (Value.ref.inj z) (by decide) | exact fun z => by cases z)))
    (case kit_type_NoneType_Inserted => (refine' L2.kit_ref ?a ?b ?c ?d; (case a => k_is); (case b => k_is); (case c => k_is); (case d => first | exact fun _ => rfl | exact fun z => absurd (Value.ref.inj z) (by decide) | exact fun z => by cases z)))
    (case kit_type_NoneType_Removed => (refine' L2.kit_ref ?a ?b ?c ?d; (case a => k_is); (case b => k_is); (case c => k_is); (case d => first | exact fun _ => rfl | exact fun z => absurd (Value.ref.inj z) (by decide) | exact fun z => by cases z)))
    (case kit_type_NoneType_Fronted => (refine' L2.kit_ref ?a ?b ?c ?d; (case a => k_is); (case b => k_is); (case c => k_is); (case d => first | exact fun _ => rfl | exact fun z => absurd (Value.ref.inj z) (by decide) | exact fun z => by cases z)))
    (case kit_type_bool_Record => (refine' L2.kit_ref ?a ?b ?c ?d; (case a => k_is); (case b => k_is); (case c => k_is); (case d => first | exact fun _ => rfl | exact fun z => absurd (Value.ref.inj z) (by decide) | exact fun z => by cases z)))
    (case kit_type_bool_Inserted => (refine' L2.kit_ref ?a ?b ?c ?d; (case a => k_is); (case b => k_is); (case c => k_is); (case d => first | exact fun _ => rfl | exact fun z => absurd (Value.ref.inj z) (by decide) | exact fun z => by cases z)))
    (case kit_type_bool_Removed => (refine' L2.kit_ref ?a ?b ?c ?d; (case a => k_is); (case b => k_is); (case c => k_is); (case d => first | exact fun _ => rfl | exact fun z => absurd (Value.ref.inj z) (by decide) | exact fun z => by cases z)))
    (case kit_type_bool_Fronted => (refine' L2.kit_ref ?a ?b ?c ?d; (case a => k_is); (case b => k_is); (case c => k_is); (case d => first | exact fun _ => rfl | exact fun z => absurd (Value.ref.inj z) (by decide) | exact fun z => by cases z)))
    (case kit_type_int_Record => (refine' L2.kit_ref ?a ?b ?c ?d; (case a => k_is); (case b => k_is); (case c => k_is); (case d => first | exact fun _ => rfl | exact fun z => absurd (Value.ref.inj z) (by decide) | exact fun z => by cases z)))
    (case kit_type_int_Inserted => (refine' L2.kit_ref ?a ?b ?c ?d; (case a => k_is); (case b => k_is); (case c => k_is); (case d => first | exact fun _ => rfl | exact fun z => absurd (Value.ref.inj z) (by decide) | exact fun z => by cases z)))
    (case kit_type_int_Removed => (refine' L2.kit_ref ?a ?b ?c ?d; (case a => k_is); (case b => k_is); (case c => k_is); (case d => first | exact fun _ => rfl | exact fun z => absurd (Value.ref.inj z) (by decide) | exact fun z => by cases z)))
    (case kit_type_int_Fronted => (refine' L2.kit_ref ?a ?b ?c ?d; (case a => k_is); (case b => k_is); (case c => k_is); (case d => first | exact fun _ => rfl | exact fun z => absurd (Value.ref.inj z) (by decide) | exact fun z => by cases z)))
    (case kit_type_str_Record => (refine' L2.kit_ref ?a ?b ?c ?d; (case a => k_is); (case b => k_is); (case c => k_is); (case d => first | exact fun _ => rfl | exact fun z => absurd (Value.ref.inj z) (by decide) | exact fun z => by cases z)))
    (case kit_type_str_Inserted => (refine' L2.kit_ref ?a ?b ?c ?d; (case a => k_is); (case b => k_is); (case c => k_is); (case d => first | exact fun _ => rfl | exact fun z => absurd (Value.ref.inj z) (by decide) | exact fun z => by cases z)))
    (case kit_type_str_Removed => (refine' L2.kit_ref ?a ?b ?c ?d; (case a => k_is); (case b => k_is); (case c => k_is); (case d => first | exact fun _ => rfl | exact fun z => absurd (Value.ref.inj z) (by decide) | exact fun z => by cases z)))
    (case kit_type_str_Fronted => (refine' L2.kit_ref ?a ?b ?c ?d; (case a => k_is); (case b => k_is); (case c => k_is); (case d => first | exact fun _ => rfl | exact fun z => absurd (Value.ref.inj z) (by decide) | exact fun z => by cases z)))
    (case kit_type_list_Record => (refine' L2.kit_ref ?a ?b ?c ?d; (case a => k_is); (case b => k_is); (case c => k_is); (case d => first | exact fun _ => rfl | exact fun z => absurd (Value.ref.inj z) (by decide) | exact fun z => by cases z)))
    (case kit_type_list_Inserted => (refine' L2.kit_ref ?a ?b ?c ?d; (case a => k_is); (case b => k_is); (case c => k_is); (case d => first | exact fun _ => rfl | exact fun z => absurd (Value.ref.inj z) (by decide) | exact fun z => by cases z)))
    (case kit_type_list_Removed => (refine' L2.kit_ref ?a ?b ?c ?d; (case a => k_is); (case b => k_is); (case c => k_is); (case d => first | exact fun _ => rfl | exact fun z => absurd (Value.ref.inj z) (by decide) | exact fun z => by cases z)))
    (case kit_type_list_Fronted => (refine' L2.kit_ref ?a ?b ?c ?d; (case a => k_is); (case b => k_is); (case c => k_is); (case d => first | exact fun _ => rfl | exact fun z => absurd (Value.ref.inj z) (by decide) | exact fun z => by cases z)))
    (case kit_type_tuple_Record => (refine' L2.kit_ref ?a ?b ?c ?d; (case a => k_is); (case b => k_is); (case c => k_is); (case d => first | exact fun _ => rfl | exact fun z => absurd (Value.ref.inj z) (by decide) | exact fun z => by cases z)))
    (case kit_type_tuple_Inserted => (refine' L2.kit_ref ?a ?b ?c ?d; (case a => k_is); (case b => k_is); (case c => k_is); (case d => first | exact fun _ => rfl | exact fun z => absurd (Value.ref.inj z) (by decide) | exact fun z => by cases z)))
    (case kit_type_tuple_Removed => (refine' L2.kit_ref ?a ?b ?c ?d; (case a => k_is); (case b => k_is); (case c => k_is); (case d => first | exact fun _ => rfl | exact fun z => absurd (Value.ref.inj z) (by decide) | exact fun z => by cases z)))
    (case kit_type_tuple_Fronted => (refine' L2.kit_ref ?a ?b ?c ?d; (case a => k_is); (case b => k_is); (case c => k_is); (case d => first | exact fun _ => rfl | exact fun z => absurd (Value.ref.inj z) (by decide) | exact fun z => by cases z)))
    (case kit_type_dict_Record => (refine' L2.kit_ref ?a ?b ?c ?d; (case a => k_is); (case b => k_is); (case c => k_is); (case d => first | exact fun _ => rfl | exact fun z => absurd (Value.ref.inj z) (by decide) | exact fun z => by cases z)))
    (case kit_type_dict_Inserted => (refine' L2.kit_ref ?a ?b ?c ?d; (case a => k_is); (case b => k_is); (case c => k_is); (case d => first | exact fun _ => rfl | exact fun z => absurd (Value.ref.inj z) (by decide) | exact fun z => by cases z)))
    (case kit_type_dict_Removed => (refine' L2.kit_ref ?a ?b ?c ?d; (case a => k_is); (case b => k_is); (case c => k_is); (case d => first | exact fun _ => rfl | exact fun z => absurd (Value.ref.inj z) (by decide) | exact fun z => by cases z)))
    (case kit_type_dict_Fronted => (refine' L2.kit_ref ?a ?b ?c ?d; (case a => k_is); (case b => k_is); (case c => k_is); (case d => first | exact fun _ => rfl | exact fun z => absurd (Value.ref.inj z) (by decide) | exact fun z => by cases z)))
    (case kit_Record_type_list => (refine' L2.kit_bty (by decide +kernel) ?c; (case c => k_is)))
    (case kit_Inserted_type_list => (refine' L2.kit_bty (by decide +kernel) ?c; (case c => k_is)))
    (case kit_Removed_type_list => (refine' L2.kit_bty (by decide +kernel) ?c; (case c => k_is)))
    (case kit_Fronted_type_list => (refine' L2.kit_bty (by decide +kernel) ?c; (case c => k_is)))
    (case pr_Record_text => (refine' L2.propOf_mk ?pa ?pb ?pc ?pd; (case pa => k_is); (case pb => k_is); (case pc => k_is); (case pd => k_is)))
    (case g_Record_text => (refine' L2.fnT_mk ?l ?c ?k; (case l => k_is); (case c => k_is); (case k => k_is)))
    (case pr_Record_item => (refine' L2.propOf_mk ?pa ?pb ?pc ?pd; (case pa => k_is); (case pb => k_is); (case pc => k_is); (case pd => k_is)))
    (case g_Record_item => (refine' L2.fnT_mk ?l ?c ?k; (case l => k_is); (case c => k_is); (case k => k_is)))
    (case pr_Inserted_text => (refine' L2.propOf_mk ?pa ?pb ?pc ?pd; (case pa => k_is); (case pb => k_is); (case pc => k_is); (case pd => k_is)))
    (case pr_Inserted_item => (refine' L2.propOf_mk ?pa ?pb ?pc ?pd; (case pa => k_is); (case pb => k_is); (case pc => k_is); (case pd => k_is)))
    (case pr_Removed_text => (refine' L2.propOf_mk ?pa ?pb ?pc ?pd; (case pa => k_is); (case pb => k_is); (case pc => k_is); (case pd => k_is)))
    (case pr_Removed_item => (refine' L2.propOf_mk ?pa ?pb ?pc ?pd; (case pa => k_is); (case pb => k_is); (case pc => k_is); (case pd => k_is)))
    (case pr_Fronted_text => (refine' L2.propOf_mk ?pa ?pb ?pc ?pd; (case pa => k_is); (case pb => k_is); (case pc => k_is); (case pd => k_is)))
    (case pr_Fronted_item => (refine' L2.propOf_mk ?pa ?pb ?pc ?pd; (case pa => k_is); (case pb => k_is); (case pc => k_is); (case pd => k_is)))
    (case ty_Record => (refine' ⟨?a, ?b, ?c, ?d⟩; (case a => k_is); (case b => k_is); (case c => k_is); (case d => k_is)))
    (case ty_Inserted => (refine' ⟨?a, ?b, ?c, ?d⟩; (case a => k_is); (case b => k_is); (case c => k_is); (case d => k_is)))
    (case ty_Removed => (refine' ⟨?a, ?b, ?c, ?d⟩; (case a => k_is); (case b => k_is); (case c => k_is); (case d => k_is)))
    (case ty_Fronted => (refine' ⟨?a, ?b, ?c, ?d⟩; (case a => k_is); (case b => k_is); (case c => k_is); (case d => k_is)))
    (case no_abs => k_is)
    (case no_all => k_is)
    (case no_bool => k_is)
    (case no_int => k_is)
    (case no_isinstance => k_is)
    (case no_len => k_is)
    (case no_list => k_is)
    (case no_max => k_is)
    (case no_min => k_is)
    (case no_property => k_is)
    (case no_range => k_is)
    (case no_repr => k_is)
    (case no_set => k_is)
    (case no_str => k_is)
    (case no_tuple => k_is)
