import PyProof.Rows.All
import Wide.All
import OpenK.AllK
import Wide.FinOn
import HandS.ForMost
import HandS.Wide
import HandS.IsInst
import HandS.ClsMeth
import HandS.Property
import HandS.FStr
import HandS.Defaults
import HandS.MakeKw
import HandS.MakeKwOnly
import HandS.Style
import HandS.StrMore
import PyProof.ReprRoads
import HandS.ForExc
import HandS.ExcIs
import HandS.ExcField
import HandS.ExcInit
import HandS.ExcValue
import HandS.Set
import HandS.Strs
import HandS.Zip
import HandS.Walk
import PySem.Challenge.RW_indexlogs_k09_records_replayed
set_option Elab.async false
set_option linter.all false
set_option maxRecDepth 100000
set_option maxHeartbeats 4000000
/-! Own layer: more rules over the hand layer. -/
namespace L2
open ClX
open PySem PySem.Spec PyProof.Rows

/-! ### operators of more than one kind -/
section
variable {X : Cx}
def rAddX : R2 := fun x y H Q => rI0 (fun i j => .int (i + j)) x y H Q ∨ (∃ i j, x = .str i ∧ y = .str j ∧ i.length + j.length ≤ sizeLine ∧ Q (.str (i ++ j)) H) ∨ rCat x y H Q
theorem op_addX : OpR X (binaryOp .Add) rAddX := op_add.or (op_add_str.or op_cat)
def rMulX : R2 := fun x y H Q => rI CMulW (fun i j => .int (i * j)) x y H Q ∨ rRep x y H Q
theorem op_mulX : OpR X (binaryOp .Mult) rMulX := op_mulW.or op_rep
def CPowW (i j : Int) : Prop := 0 ≤ j ∧ j ≤ 1000 ∧ i.natAbs.log2 < 2000
theorem op_powX : OpR X (binaryOp .Pow) (rI CPowW fun i j => .int (i ^ j.toNat)) := opI fun i j _ _ _ _ _ hc q => by
  obtain ⟨h0, h1, h2⟩ := hc
  have b : Builtin.Int.intBits i ≤ 2000 := by
    unfold Builtin.Int.intBits
    split <;> omega
  refine pow_int h0 ?_ q
  have hh : Builtin.Int.intBits i * j.toNat ≤ 2000 * 1000 := Nat.mul_le_mul b (by omega)
  have : ((Builtin.Int.intBits i : Nat) : Int) * j = ((Builtin.Int.intBits i * j.toNat : Nat) : Int) := by
    rw [Int.natCast_mul, Int.toNat_of_nonneg h0]
  rw [this]
  omega
theorem cpow {i j : Int} {b : Nat} (h0 : 0 ≤ j) (h1 : j ≤ 1000) (hb : i.natAbs < 2 ^ b) (hp : 0 < b) (h : b ≤ 2000) : CPowW i j :=
  ⟨h0, h1, Nat.lt_of_lt_of_le (PySem.Flt.log2_lt_of hp hb) h⟩
def rFdivX : R2 := rI CDivW fun i j => .int (i / j)
theorem op_fdivX : OpR X (binaryOp .FloorDiv) rFdivX := op_fdivW
/-- scalars, or data of any depth -/
def rEqX (K : PySem.W.Frag) : R2 := fun x y H Q => rEq x y H Q ∨ rEqD K x y H Q
def rNeX (K : PySem.W.Frag) : R2 := fun x y H Q => rNe x y H Q ∨ rNeD K x y H Q
theorem op_eqX {k : Nat} (hr : Room k X.A) : OpR X (compareOp .Eq) (rEqX X.K) := op_eq.or (op_eqD hr.units)
theorem op_neX {k : Nat} (hr : Room k X.A) : OpR X (compareOp .NotEq) (rNeX X.K) := op_ne.or (op_neD hr.units)
end
section
variable {σ : St} {H : Hp} {Q : VK} {i j : Int} {x y : Str}
theorem addI (h : Q (.int (i + j)) H) : rAddX (.int i) (.int j) H Q := .inl ⟨i, j, rfl, rfl, h⟩
theorem addS (h0 : x.length + y.length ≤ sizeLine) (h : Q (.str (x ++ y)) H) : rAddX (.str x) (.str y) H Q := .inr (.inl ⟨x, y, rfl, rfl, h0, h⟩)
theorem mulI (h0 : CMulW i j) (h : Q (.int (i * j)) H) : rMulX (.int i) (.int j) H Q := .inl ⟨i, j, rfl, rfl, h0, h⟩
theorem eqS {K : PySem.W.Frag} {a b : V} (h0 : scal a b = true) (h : Q (.bl (decide (a = b))) H) : rEqX K a b H Q := .inl ⟨h0, h⟩
theorem neS {K : PySem.W.Frag} {a b : V} (h0 : scal a b = true) (h : Q (.bl (!decide (a = b))) H) : rNeX K a b H Q := .inl ⟨h0, h⟩
end

/-! ### names of the module, constants of a class -/
section
variable {X : Cx} {x f : Str} {pos : Pos} {i : Int} {t : Tok}
theorem pe_globC (hm : ∃ t, X.mg x = some (.int i t)) (hg : Gl X x := by rfl) (hd : (x == ("__debug__" : Str)) = false := by decide) : PE X (.Name x pos) (tC (.int i)) := by
  obtain ⟨t, hm⟩ := hm
  exact pe_glob hg hm ⟨_, rfl⟩ hd
/-- C.f, the class by its name, a constant of the class -/
theorem pe_clsv {C : Addr} {v : V} {e : Expr} (c : ∃ mc u, CRead X.K C mc ∧ CVal X.K C mc f v u) (he : PE X e (tC (.ref C))) (hab : attributeBase e f X.env (eval e X.env) = eval e X.env := by rfl) :
    PE X (.Attribute e f pos) (tC v) := by
  refine ⟨fun pins s σ H Q I h => (pe_cval (pos := pos) he hab).run pins s σ H Q I ?_⟩
  obtain ⟨mc, u, c1, c2⟩ := c
  exact ⟨C, mc, v, u, rfl, c1, c2, h⟩
end

/-! ### o.m(.., k = v) -/
def tMethK (C : Addr) (m : Str) (sp : Sp) (gV : List V → List V → List V) (E : XK) (ta : TE) (t tk : TA) : TE := fun σ H Q => ta σ H fun x H1 => ∃ a dx fs, x = .ref a ∧ H1 a = some (.ins C dx fs) ∧ fs.lookup m = none ∧
  t σ H1 fun vs H2 => tk σ H2 fun zs H3 => sp (gV (x :: vs) zs) H3 Q E
section
variable {X : Cx} {CX : CXT} {k : Nat} {f C : Addr} {fd : FuncData} {ps ks : List Str} {sp : Sp} {E : XK} {m : Str} {pos apos : Pos} {o : Expr} {kws : List Keyword} {ta : TE} {t tk : TA} {g : List Value → List Value → List Value} {gV : List V → List V → List V}
theorem pe_methK0 {pl : Sem Bool} (he : PE X o ta) (c : Cls X.K C) (hm : Meth X.K C m f) (F : FnOk X.prog X.w X.K X.mg X.base CX k f fd ps sp) (hr : Room k X.A) (hb : KBinds X.K fd ps ks g gV) (hx : Passes CX X E)
    (hkw : PK X kws tk) (hall : (backToKw pos (keywordEach kws X.env)).all (·.1.isSome) = true := by rfl) (hks : (backToKw pos (keywordEach kws X.env)).filterMap (·.1) = ks := by rfl)
    (hpl : ((backTo pos (starEach [] X.env)).any (·.1) || (backToKw pos (keywordEach kws X.env)).any (·.1.isNone)) = false := by rfl)
    (ht : eval (.Call (.Attribute o m apos) [] kws pos) X.env = (do
      let ov ← eval o X.env
      standAt apos.atName
      let (f, first) ← holding [ov] (getMethod ov m pl)
      callWith pos f first (backTo pos (starEach [] X.env)) (backToKw pos (keywordEach kws X.env))) := by rfl) :
    PE X (.Call (.Attribute o m apos) [] kws pos) (tMethK C m sp gV E ta tNil tk) := by
  refine ⟨fun pins s σ H Q I h => ?_⟩
  refine PySem.W.methodCall_KW (pl := pl) (thn (he.run pins s σ H _ I h) fun u s1 ⟨x, H1, I1, rx, a, dx, fs, ex, ea, l, q⟩ => ?_) ht
  subst ex
  obtain rfl : u = Value.ref a := rx
  refine getmeth_ok I1 ea c hm l ?_
  refine PySem.W.callWith_KW0 (first := [.ref a]) (h₀ := X.base) I.ok.mod.kin hm.kp hall ?_ hpl
  refine thn (hkw.run pos pins s1 σ H1 _ I1 q) fun ws s2 ⟨zs, H2, I2, rz, q2⟩ => ⟨I2.kIn, ?_⟩
  rw [hks]
  exact run_fnk (us := [.ref a]) (vs := [.ref a]) F hr hb hx I2 (.cons rfl .nil) rz q2
end
section
variable {K : PySem.W.Frag}
/-- how a call by keywords binds (no defaults) -/
theorem Fun.kbinds {x qual : Str} {st : Stmt} {f : Addr} {fd : FuncData} {ps : List Str} (F : Fun K x qual st f fd) (n : Nat) (ks : List Str) (g : {α : Type} → List α → List α → List α) (hlen : ∀ {α : Type} (us ws : List α), (g us ws).length = ps.length → us.length = n ∧ ws.length = ks.length)
    (hrel : ∀ {vs : List V} {us : List Value} {zs : List V} {ws : List Value}, Vals vs us → Vals zs ws → Vals (g vs zs) (g us ws))
    (h : ∀ (kV doc pm : Value) (an : Option Addr) (cdv ct : Value) (us ws : List Value), us.length = n → ws.length = ks.length → bindArgs (PySem.W.fnOf x qual (defArgs st) (defBody st) (defScope st) .none kV doc pm an cdv ct) ⟨us, ks.zip ws⟩ = pure (ps.zip (g us ws))) :
    KBinds K fd ps ks (fun us ws => g us ws) (fun vs zs => g vs zs) := by
  obtain ⟨oc, od, kV, doc, pm, an, cdv, ct, osl, rfl, lk, hcd⟩ := F.ex
  refine ⟨fun s us ws _ hl => .of_eq ?_, hrel⟩
  obtain ⟨h1, h2⟩ := hlen us ws hl
  exact h kV doc pm an cdv ct us ws h1 h2
end
end L2

namespace L2
open ClX
open PySem PySem.Spec PyProof.Rows

/-! ### a def of the text behind the top; its promise, without naming its record -/
structure FnT (K : PySem.W.Frag) (x qual : Str) (st : Stmt) (f : Addr) : Prop where
  ex : ∃ fd, Fun K x qual st f fd
theorem FnT.kp {K : PySem.W.Frag} {x qual : Str} {st : Stmt} {f : Addr} (h : FnT K x qual st f) : PySem.W.keepIn K (.ref f) = true := h.ex.elim fun _ F => F.kp
theorem fnT_mk {K : PySem.W.Frag} {x qual : Str} {st : Stmt} {f : Addr} {oc : Value} {od an : Option Addr} {osl : Array (Option Value)} {kV doc pm cdv ct : Value}
    (l : K.lookup f = some ⟨oc, od, .func (PySem.W.fnOf x qual (defArgs st) (defBody st) (defScope st) .none kV doc pm an cdv ct), osl⟩)
    (c : PySem.W.codeIn K cdv qual = true) (k : PySem.W.keepIn K (.ref f) = true) : FnT K x qual st f := ⟨_, fun_mk l c k⟩
theorem gconst_mk {K : PySem.W.Frag} {x : Str} {u : Value} {n : Int} (h : PySem.W.nsIn K mainGlobals x = some (some u)) (e : ∃ t, u = .int n t) : ∃ t, PySem.W.nsIn K mainGlobals x = some (some (.int n t)) := by
  obtain ⟨t, rfl⟩ := e
  exact ⟨t, h⟩
/-- called by positions -/
structure Ok1 (P : Program) (w : World) (K : PySem.W.Frag) (mg : Str → Option Value) (base : Heap) (k : Nat) (f : Addr) (ps : List Str) (sp : Sp) : Prop where
  ex : ∃ fd, FnOk P w K mg base CX0 k f fd ps sp ∧ Binds K fd ps []
  kp : PySem.W.keepIn K (.ref f) = true
section
variable {P : Program} {w : World} {K : PySem.W.Frag} {mg : Str → Option Value} {base : Heap}
/-- how no defaults bind: for a def of at most six parameters -/
def BindsAll (st : Stmt) (x qual : Str) (ps : List Str) : Prop :=
  ∀ (kV doc pm : Value) (an : Option Addr) (cdv ct : Value) (us : List Value), us.length = ps.length → bindArgs (PySem.W.fnOf x qual (defArgs st) (defBody st) (defScope st) .none kV doc pm an cdv ct) ⟨us, []⟩ = pure (ps.zip us)
theorem FnT.ok {x qual : Str} {st : Stmt} {f : Addr} {N ps : List Str} {k : Nat} {sp : Sp} (h : FnT K x qual st f) (S : FnScope N ps (defScope st)) (hb : BindsAll st x qual ps)
    (len : ∀ vs H Q E, sp vs H Q E → vs.length = ps.length)
    (body : ∀ (cdv : Value) (A : Around) (outer : List Env) (s : Shared) (H : Hp) (vs : List V) (Q : VK) (E : XK), Room k (A.deeper (envOfC qual (defScope st) s.heap.objs.size f cdv)) → sp vs H Q E →
      ∃ t, PSs (cxOf CX0 P w K mg base N qual (defScope st) f cdv A outer s H E).nox (defBody st) t ∧ t { nx := fun _ H' => Q .non H', rt := Q } (start N vs) H) :
    Ok1 P w K mg base (k + 1) f ps sp := by
  obtain ⟨fd, F⟩ := h.ex
  exact ⟨⟨fd, F.ok S len body, F.binds hb⟩, F.kp⟩
theorem Ok1.mono {j k : Nat} {f : Addr} {ps : List Str} {sp : Sp} (h : Ok1 P w K mg base j f ps sp) (le : j ≤ k) : Ok1 P w K mg base k f ps sp := by
  obtain ⟨⟨fd, F, b⟩, kp⟩ := h
  exact ⟨⟨fd, F.mono le, b⟩, kp⟩
theorem Ok1.imp {k : Nat} {f : Addr} {ps : List Str} {sp sp' : Sp} (h : Ok1 P w K mg base k f ps sp) (i : ∀ vs H Q E, sp' vs H Q E → sp vs H Q E) : Ok1 P w K mg base k f ps sp' := by
  obtain ⟨⟨fd, F, b⟩, kp⟩ := h
  exact ⟨⟨fd, F.imp i, b⟩, kp⟩
end
section
variable {X : Cx} {k : Nat} {f C : Addr} {ps : List Str} {sp : Sp} {x m : Str} {p pos apos : Pos} {e o : Expr} {es : List Expr} {ta : TE} {t : TA}
theorem po_call (G : Ok1 X.prog X.w X.K X.mg X.base k f ps sp) (hr : Room k X.A) (hm : X.mg x = some (.ref f)) (ha : PA X (e :: es) t) (hg : Gl X x := by rfl)
    (hdb : (x == ("__debug__" : Str)) = false := by decide) (he : starEach (e :: es) X.env = (false, eval e X.env) :: starEach es X.env := by rfl) (hpl : (backTo pos (starEach es X.env)).any (·.1) = false := by rfl) :
    PE X (.Call (.Name x p) (e :: es) [] pos) (tCall sp [] E0 t) := by
  obtain ⟨⟨fd, F, b⟩, kp⟩ := G
  exact pe_call F hr hg hm kp b .nil pass0 ha hdb he hpl
theorem po_call0 (G : Ok1 X.prog X.w X.K X.mg X.base k f ps sp) (hr : Room k X.A) (hm : X.mg x = some (.ref f)) (hg : Gl X x := by rfl)
    (hdb : (x == ("__debug__" : Str)) = false := by decide) : PE X (.Call (.Name x p) [] [] pos) (tCall sp [] E0 tNil) := by
  obtain ⟨⟨fd, F, b⟩, kp⟩ := G
  exact pe_call0 F hr hg hm kp b .nil pass0 hdb
theorem po_make (M : Mk X.K C f) (G : Ok1 X.prog X.w X.K X.mg X.base k f ps sp) (hr : Room (k + 1) X.A) (hm : X.mg x = some (.ref C)) (ha : PA X (e :: es) t) (hg : Gl X x := by rfl)
    (hdb : (x == ("__debug__" : Str)) = false := by decide) (he : starEach (e :: es) X.env = (false, eval e X.env) :: starEach es X.env := by rfl) (hpl : (backTo pos (starEach es X.env)).any (·.1) = false := by rfl) :
    PE X (.Call (.Name x p) (e :: es) [] pos) (tMake C sp [] E0 t) := by
  obtain ⟨⟨fd, F, b⟩, kp⟩ := G
  exact pe_make M F hr hg hm b .nil pass0 ha hdb he hpl
theorem po_meth {pl : Sem Bool} (c : Cls X.K C) (hm : Meth X.K C m f) (G : Ok1 X.prog X.w X.K X.mg X.base k f ps sp) (hr : Room k X.A) (he : PE X o ta) (ha : PA X (e :: es) t)
    (hst : starEach (e :: es) X.env = (false, eval e X.env) :: starEach es X.env := by rfl) (hpl : (backTo pos (starEach es X.env)).any (·.1) = false := by rfl)
    (ht : eval (.Call (.Attribute o m apos) (e :: es) [] pos) X.env = (do
      let ov ← eval o X.env
      standAt apos.atName
      let (f, first) ← holding [ov] (getMethod ov m pl)
      callWith pos f first (backTo pos (starEach (e :: es) X.env)) (backToKw pos (keywordEach [] X.env))) := by rfl) :
    PE X (.Call (.Attribute o m apos) (e :: es) [] pos) (tMeth C m sp [] E0 ta t) := by
  obtain ⟨⟨fd, F, b⟩, kp⟩ := G
  exact pe_meth he c hm F hr b .nil pass0 ha hst hpl ht
end

/-! ### promises of defs that show data (repr): nothing is being shown around them -/
structure OkG (P : Program) (w : World) (K : PySem.W.Frag) (mg : Str → Option Value) (base : Heap) (k : Nat) (f : Addr) (ps : List Str) (sp : Sp) : Prop where
  kp : PySem.W.keepIn K (.ref f) = true
  go : ∀ (B : Around) (up : List Env) (s : Shared) (H : Hp) (us : List Value) (vs : List V) (Q : VK), Room k B → B.guards = some [] → Env0 P w K mg base B up s H → Vals vs us → sp vs H Q E0 →
    codeAny (model P w) B (.call (.ref f) ⟨us, []⟩) (CR CX0 up P w H s Q E0) s
section
variable {P : Program} {w : World} {K : PySem.W.Frag} {mg : Str → Option Value} {base : Heap}
theorem Ok1.toG {k : Nat} {f : Addr} {ps : List Str} {sp : Sp} (h : Ok1 P w K mg base k f ps sp) : OkG P w K mg base k f ps sp := by
  obtain ⟨⟨fd, F, b⟩, kp⟩ := h
  refine ⟨kp, fun B up s H us vs Q room _ e0 rv q => ?_⟩
  have n : (us ++ []).length = ps.length := by
    rw [List.append_nil, ← rv.length]
    exact F.len _ _ _ _ q
  have bt := b s us (e0.mod.kin.keeps fun c o z => (e0.bs c o z).1) n
  rw [List.append_nil] at bt
  exact F.run B up s H ⟨us, []⟩ us vs Q E0 room e0 bt rv q
theorem FnT.okG {x qual : Str} {st : Stmt} {f : Addr} {N ps : List Str} {k : Nat} {sp : Sp} (h : FnT K x qual st f) (S : FnScope N ps (defScope st)) (hb : BindsAll st x qual ps)
    (len : ∀ vs H Q E, sp vs H Q E → vs.length = ps.length)
    (body : ∀ (cdv : Value) (A : Around) (outer : List Env) (s : Shared) (H : Hp) (vs : List V) (Q : VK), Room k (A.deeper (envOfC qual (defScope st) s.heap.objs.size f cdv)) → A.guards = some [] → sp vs H Q E0 →
      ∃ t, PSs (cxOf CX0 P w K mg base N qual (defScope st) f cdv A outer s H E0).nox (defBody st) t ∧ t { nx := fun _ H' => Q .non H', rt := Q } (start N vs) H) :
    OkG P w K mg base (k + 1) f ps sp := by
  obtain ⟨fd, F⟩ := h.ex
  have kp := F.kp
  have bd := F.binds hb
  obtain ⟨oc, od, kV, dc, pm, an, cv, ct, sl, rfl, lk, cd⟩ := F.ex
  refine ⟨kp, fun B up s H us vs Q room gd e0 rv q => ?_⟩
  have n := len _ _ _ _ q
  have KH : K.In s.heap := e0.mod.kin.keeps fun c o z => (e0.bs c o z).1
  have noLim : s.heap.NoLimit := e0.mod.nolimit.keeps fun c o z => (e0.bs c o z).1
  have bt := bd s us KH (by rw [List.append_nil, ← rv.length]; exact n)
  rw [List.append_nil] at bt
  refine codeAny_call_function room.depth (KH _ _ lk) rfl S.co S.gen rfl (PySem.W.codeRec_of KH cd) (bt _ _ _ _ ?_)
  refine wpAny_newFunctionEnv_cells S.kind (fun ⟨y, v⟩ hy => ?_) fun en eq s1 ic => ?_
  · exact (S.par y (List.of_mem_zip hy).1).imp id fun z => ⟨z, PySem.W.cellsFrom_some _ _ _ (.inl z)⟩
  · subst eq
    obtain ⟨t, d, r⟩ := body cv B up s H vs Q (room.deeper _) gd q
    have I0 := inv_start (CX := CX0) (P := P) (w := w) (K := K) (mg := mg) (base := base) (E := E0) (cd := cv) (f := f) (qual := qual) S room.hd e0 n rv ic
    refine ⟨noLim.keeps ic.toInCall.keep, codeAny_func (wpAny_mono (d.nox.run [] s1 (start N vs) H _ I0 r) (fun fl s2 z => ?_) fun _ _ z => z)⟩
    cases fl with
    | ret u => obtain ⟨v, σ2, H2, J, rel, fin⟩ := z; exact ⟨v, H2, J.os, J.bare, J.base, J.hok, rel, fin⟩
    | next => obtain ⟨σ2, H2, J, fin⟩ := z; exact ⟨.non, H2, J.os, J.bare, J.base, J.hok, rfl, fin⟩
    | brk => obtain ⟨σ2, H2, J, fin⟩ := z; exact fin.elim
    | cont => obtain ⟨σ2, H2, J, fin⟩ := z; exact fin.elim
end
section
variable {X : Cx} {k : Nat} {f C : Addr} {ps : List Str} {sp : Sp} {x m : Str} {p pos apos : Pos} {e o : Expr} {es : List Expr} {ta : TE} {t : TA}
theorem pg_call (G : OkG X.prog X.w X.K X.mg X.base k f ps sp) (hr : Room k X.A) (gd : X.A.guards = some []) (hm : X.mg x = some (.ref f)) (ha : PA X (e :: es) t) (hg : Gl X x := by rfl)
    (hdb : (x == ("__debug__" : Str)) = false := by decide) (he : starEach (e :: es) X.env = (false, eval e X.env) :: starEach es X.env := by rfl) (hpl : (backTo pos (starEach es X.env)).any (·.1) = false := by rfl) :
    PE X (.Call (.Name x p) (e :: es) [] pos) (tCall sp [] E0 t) := by
  refine ⟨fun pn s σ H Q I h => wpAny_Call_Name_kw (ld_glob I hg hm ?_ hdb)⟩
  refine PySem.W.callWith_K (h₀ := X.base) I.ok.mod.kin G.kp (thn (ha.run pos pn s σ H _ I h) fun us s1 ⟨vs, H1, I1, r, q⟩ => ⟨I1.kIn, ?_⟩) he hpl
  have q1 : sp (vs ++ []) H1 Q E0 := q
  rw [List.append_nil] at q1
  refine wpAny_call (codeAny_mono (G.go X.A X.stack s1 H1 us vs Q hr gd I1.env0 r q1) fun res s2 z => ?_)
  match res, z with
  | .error _, z => exact z.elim
  | .ok (.ret u), z => exact I1.after z
  | .ok .next, z => exact z.elim
  | .ok .brk, z => exact z.elim
  | .ok .cont, z => exact z.elim
end
end L2

namespace L2
open ClX
open PySem PySem.Spec PyProof.Rows

/-! ### repr of data -/
structure Shows (d : PyData) : Prop where
  sh : d.showable = true
  nd : d.hasDict = false
  dp : d.depth ≤ 40
  sz : d.shown.length ≤ sizeLine
def rRepr (K : PySem.W.Frag) : List V → Hp → VK → Prop := fun xs H Q => ∃ x d, xs = [x] ∧ Dp K H x d ∧ Shows d ∧ Q (.str d.shown) H
theorem call_reprD {X : Cx} {k : Nat} (hr : Room k X.A) (gd : X.A.guards = some []) : CallR X (.builtin "repr") (rRepr X.K) := by
  intro pins s σ H xs us Q I r h
  obtain ⟨x, d, rfl, rd, S, q⟩ := h
  obtain ⟨u, rfl, ru⟩ := vals1 r
  have fin : ∀ h' t, (∀ b o, s.heap.get? b = some o → h'.get? b = some o) → ∀ tk, EP X pins σ Q (.str d.shown tk) { s with heap := h', toks := t } := fun h' t keep tk => ⟨.str d.shown, H, I.kept keep, ⟨tk, rfl⟩, q⟩
  have un : X.A.units + (d.depth + 1) < cLine := by
    have := hr.units
    have := S.dp
    omega
  have rds := Dp.reads I d x u rd ru
  cases rd with
  | non => cases ru; exact PySem.P.repr_of_none (fin s.heap _ (fun _ _ z => z) _)
  | bl b => cases ru; exact PySem.P.repr_of_bool (fin s.heap _ (fun _ _ z => z) _)
  | int i =>
    obtain ⟨t, rfl⟩ := ru
    have z := S.sh
    simp only [PyData.showable, decide_eq_true_eq] at z
    exact PySem.P.repr_of_int z (fin s.heap _ (fun _ _ z => z) _)
  | str y =>
    obtain ⟨t, rfl⟩ := ru
    have z := S.sz
    simp only [PyData.shown] at z
    exact PySem.P.repr_of_str (fin s.heap _ (fun _ _ z => z) _) z
  | lst h1 h2 =>
    cases ru
    obtain ⟨as, rd⟩ := rds
    exact repr_of_reads' rd S.sh (PyData.noDict_hsm S.nd) gd un (fun _ _ z => z) (fun h' t tk keep => fin h' tk keep t) S.sz
  | tup h1 h2 =>
    cases ru
    obtain ⟨as, rd⟩ := rds
    exact repr_of_reads' rd S.sh (PyData.noDict_hsm S.nd) gd un (fun _ _ z => z) (fun h' t tk keep => fin h' tk keep t) S.sz
end L2

namespace L2
open ClX
open PySem PySem.Spec PyProof.Rows
/-! ### called with one keyword -/
def glue1 {α : Type} (us ws : List α) : List α := if us.length = 1 ∧ ws.length = 1 then us ++ ws else []
structure OkK (P : Program) (w : World) (K : PySem.W.Frag) (mg : Str → Option Value) (base : Heap) (k : Nat) (f : Addr) (ps : List Str) (kw : Str) (sp : Sp) : Prop where
  ex : ∃ fd, FnOk P w K mg base CX0 k f fd ps sp ∧ KBinds K fd ps [kw] (fun us ws => glue1 us ws) (fun vs zs => glue1 vs zs)
section
variable {P : Program} {w : World} {K : PySem.W.Frag} {mg : Str → Option Value} {base : Heap}
theorem FnT.okK {x qual kw p0 : Str} {st : Stmt} {f : Addr} {N : List Str} {k : Nat} {sp : Sp} (h : FnT K x qual st f) (S : FnScope N [p0, kw] (defScope st))
    (hb : ∀ (kV doc pm : Value) (an : Option Addr) (cdv ct u v : Value), bindArgs (PySem.W.fnOf x qual (defArgs st) (defBody st) (defScope st) .none kV doc pm an cdv ct) ⟨[u], [(kw, v)]⟩ = pure [(p0, u), (kw, v)])
    (len : ∀ vs H Q E, sp vs H Q E → vs.length = 2)
    (body : ∀ (cdv : Value) (A : Around) (outer : List Env) (s : Shared) (H : Hp) (vs : List V) (Q : VK) (E : XK), Room k (A.deeper (envOfC qual (defScope st) s.heap.objs.size f cdv)) → sp vs H Q E →
      ∃ t, PSs (cxOf CX0 P w K mg base N qual (defScope st) f cdv A outer s H E).nox (defBody st) t ∧ t { nx := fun _ H' => Q .non H', rt := Q } (start N vs) H) :
    OkK P w K mg base (k + 1) f [p0, kw] kw sp := by
  obtain ⟨fd, F⟩ := h.ex
  refine ⟨fd, F.ok S len body, F.kbinds 1 [kw] glue1 (fun us ws hl => ?_) (fun r q => ?_) fun kV doc pm an cdv ct us ws h1 h2 => ?_⟩
  · unfold glue1 at hl
    split at hl
    · assumption
    · cases hl
  · unfold glue1
    rw [r.length, q.length]
    split
    · exact r.append q
    · exact .nil
  · match us, h1, ws, h2 with
    | [u], _, [v], _ => exact hb kV doc pm an cdv ct u v
end
section
variable {X : Cx} {k : Nat} {f C : Addr} {ps : List Str} {kw : Str} {sp : Sp} {m : Str} {pos apos : Pos} {o : Expr} {kws : List Keyword} {ta : TE} {tk : TA}
theorem po_methK {pl : Sem Bool} (c : Cls X.K C) (hm : Meth X.K C m f) (G : OkK X.prog X.w X.K X.mg X.base k f ps kw sp) (hr : Room k X.A) (he : PE X o ta)
    (hkw : PK X kws tk) (hall : (backToKw pos (keywordEach kws X.env)).all (·.1.isSome) = true := by rfl) (hks : (backToKw pos (keywordEach kws X.env)).filterMap (·.1) = [kw] := by rfl)
    (hpl : ((backTo pos (starEach [] X.env)).any (·.1) || (backToKw pos (keywordEach kws X.env)).any (·.1.isNone)) = false := by rfl)
    (ht : eval (.Call (.Attribute o m apos) [] kws pos) X.env = (do
      let ov ← eval o X.env
      standAt apos.atName
      let (f, first) ← holding [ov] (getMethod ov m pl)
      callWith pos f first (backTo pos (starEach [] X.env)) (backToKw pos (keywordEach kws X.env))) := by rfl) :
    PE X (.Call (.Attribute o m apos) [] kws pos) (tMethK C m sp (fun vs zs => glue1 vs zs) E0 ta tNil tk) := by
  obtain ⟨fd, F, b⟩ := G.ex
  exact pe_methK0 he c hm F hr b pass0 hkw hall hks hpl ht
end

/-- a statement, then the rest, with a word of one's own between them -/
def tMid (t u : TS) : TS := fun D σ H => ∃ M : St → Hp → Prop, t { D with nx := M } σ H ∧ ∀ σ1 H1, M σ1 H1 → u D σ1 H1
theorem pss_mid {X : Cx} {st : Stmt} {more : List Stmt} {t u : TS} (a : PS X st t) (b : PSs X more u) : PSs X (st :: more) (tMid t u) := by
  refine ⟨fun pn s σ H D I ⟨M, h, g⟩ => wpAny_execs_cons (thn (a.run pn s σ H { D with nx := M } I h) fun fl s1 z => ?_)⟩
  match fl, z with
  | .next, ⟨σ1, H1, I1, z⟩ => exact b.run pn s1 σ1 H1 D I1 (g σ1 H1 z)
  | .ret _, z => exact z
  | .brk, z => exact z
  | .cont, z => exact z
/-! ### small steps of readings -/
section
variable {K : PySem.W.Frag} {H : Hp} {Q : VK} {p : Addr} {xs : List V} {i : Int} {v : V} {z : Str} {c : Nat}
theorem ixL (h : H p = some (.lst xs)) (ha : atI xs i = some v) (q : Q v H) : rIx K (.ref p) (.int i) H Q := .inl ⟨p, xs, i, v, rfl, rfl, SqL.of h, ha, q⟩
theorem ixSq (h : SqL K H p xs) (ha : atI xs i = some v) (q : Q v H) : rIx K (.ref p) (.int i) H Q := .inl ⟨p, xs, i, v, rfl, rfl, h, ha, q⟩
theorem ixT (h : H p = some (.tup xs)) (ha : atI xs i = some v) (q : Q v H) : rIx K (.ref p) (.int i) H Q := .inr (.inl ⟨p, xs, i, v, rfl, rfl, SqT.of h, ha, q⟩)
theorem ixS (hz : z.length ≤ sizeLine) (ha : atI z.cps.toList i = some c) (q : Q (.str ⟨#[c]⟩) H) : rIx K (.str z) (.int i) H Q := .inr (.inr ⟨z, i, c, rfl, rfl, hz, ha, q⟩)
theorem setL {Qs : Hp → Prop} {j : Nat} (h : H p = some (.lst xs)) (hj : ixN xs.length i = some j) (q : Qs (upd H p (.lst (xs.set j v)))) : rSetL (.ref p) (.int i) v H Qs := ⟨p, xs, i, j, rfl, rfl, h, hj, q⟩
theorem szS {n : Nat} (h : n ≤ 1000000) : n ≤ sizeLine := Nat.le_trans h (by decide)
theorem isI {c : V} {t u : Value} {b : Bool} {x : V} (hc : ClsV c u) (ht : TyX K H x t) (hk : PySem.W.kitOne K t u = some b) (q : Q (.bl b) H) : rIsi K [x, c] H Q := ⟨x, c, t, u, b, rfl, hc, ht, hk, q⟩
end
/-- all that was tracked is as it was, but at a -/
def But (a : Addr) (H H' : Hp) : Prop := ∀ b o, H b = some o → b ≠ a → H' b = some o
theorem But.refl {a : Addr} {H : Hp} : But a H H := fun _ _ h _ => h
theorem But.trans {a : Addr} {H H1 H2 : Hp} (x : But a H H1) (y : But a H1 H2) : But a H H2 := fun b o h n => y b o (x b o h n) n
theorem But.same {a : Addr} {H H1 : Hp} (x : Same H H1) : But a H H1 := fun b o h _ => x b o h
theorem But.upd {a : Addr} {H : Hp} {o : HO} : But a H (L2.upd H a o) := fun b u h n => by
  rw [upd_ne n]
  exact h
theorem Same.new {H : Hp} {a : Addr} {o : HO} (h : H a = none) : Same H (L2.upd H a o) := fun b u e => by
  rw [upd_ne (ne_of_none e h)]
  exact e
/-- what is new since H0 may change -/
theorem Same.but {H0 H H1 : Hp} {a : Addr} (s : Same H0 H) (h : H0 a = none) (b : But a H H1) : Same H0 H1 := fun c o e => b c o (s c o e) (ne_of_none e h)
end L2

namespace L2
open ClX
open PySem PySem.Spec PyProof.Rows
/-! ### the end, for a law whose defs show data -/
section
variable {P : Program} {w : World} {K : PySem.W.Frag} {mg mb : Str → Option Value} {s1 : Shared} {vs : List Value} {ns : List Int} {a : Addr}
/-- nothing is tracked but the script, unless it is an object of the module -/
def onlyS (K : PySem.W.Frag) (a : Addr) (vs : List Value) (ns : List Int) : Hp := fun b => if b = a ∧ K.lookup a = none then some (.frz { cls := .type "list", data := .seq vs.toArray } (.lst (ns.map V.int))) else none
theorem onlyS_some {b : Addr} {o : HO} (h : onlyS K a vs ns b = some o) : b = a ∧ K.lookup a = none ∧ o = .frz { cls := .type "list", data := .seq vs.toArray } (.lst (ns.map V.int)) := by
  unfold onlyS at h
  split at h
  · rename_i c
    exact ⟨c.1, c.2, (Option.some.inj h).symm⟩
  · cases h
theorem lawG {k : Nat} {fa : Addr} {sp : Sp} (KX : K.In s1.heap) (hg : s1.heap.Ns mainGlobals mg) (hb : s1.heap.Ns builtinsNs mb) (hbb : ∀ x : Str, x ≠ "__name__" → mb x = bootBuiltins x) (hl : s1.heap.NoLimit) (gn : s1.gens = #[])
    (ha : s1.heap.get? a = some { cls := .type "list", data := .seq vs.toArray }) (hi : IntsAre vs ns) (hz : ns.length ≤ sizeLine) (room : Room k callerA)
    (F : ∀ base : Heap, K.In base → base.Ns mainGlobals mg → OkG P w K mg base k fa ["script"] sp) (hsp : ∀ H : Hp, SqL K H a (ns.map V.int) → sp [.ref a] H (fun v _ => v = .bl true) E0) :
    codeAny (model P w) callerA (.call (.ref fa) ⟨[.ref a], []⟩) (fun r s' => r = .ok (.ret (.bool true)) ∧ OldK s1.heap s'.heap ∧ s'.os = s1.os ∧ AllBare s'.gens) s1 := by
  have rel := vals_ints hi
  have len := hi.length
  have H := onlyS K a vs ns
  have hidden : ∀ {b : Addr} {o : Obj}, s1.heap.get? b = some o → onlyS K a vs ns b = none → (hidT s1.heap (onlyS K a vs ns)).get? b = some o := fun z n => hidT_get z n
  have free : ∀ {b : Addr} {o : Obj} {es : Array DictEntry} {n : Nat}, s1.heap.get? b = some o → o.data = .dict es n → onlyS K a vs ns b = none := fun {b o es n} z d => by
    cases q : onlyS K a vs ns b with
    | none => rfl
    | some u =>
      have e := (onlyS_some q).1
      rw [e, ha] at z
      cases z
      cases d
  have names : ∀ {b : Addr} {m : Str → Option Value}, s1.heap.Ns b m → (hidT s1.heap (onlyS K a vs ns)).Ns b m := fun ⟨o, es, n, z, d, r⟩ => ⟨o, es, n, hidden z (free z d), d, r⟩
  have KB : K.In (hidT s1.heap (onlyS K a vs ns)) := fun b o z => hidden (KX b o z) (by
    cases q : onlyS K a vs ns b with
    | none => rfl
    | some u =>
      obtain ⟨e, n, _⟩ := onlyS_some q
      rw [e, n] at z
      cases z)
  have lim : (hidT s1.heap (onlyS K a vs ns)).NoLimit := by
    obtain ⟨m, h1, h2⟩ := hl
    exact ⟨m, names h1, h2⟩
  have hok : HOk P w (onlyS K a vs ns) s1.heap := fun b u q => by
    obtain ⟨e, _, rfl⟩ := onlyS_some q
    subst e
    exact ⟨ha, by rw [List.length_map]; exact hz, vs, _, rel, ha⟩
  have sq : SqL K (onlyS K a vs ns) a (ns.map V.int) := by
    cases q : K.lookup a with
    | none => exact .inl (.inr ⟨_, if_pos ⟨rfl, q⟩⟩)
    | some o =>
      have z := KX a o q
      rw [ha] at z
      cases z
      exact .inr ⟨_, vs.toArray, _, q, rfl, rfl, rfl, by rw [List.size_toArray, len]; exact hz, by simpa using rel⟩
  have none_mem : ∀ b : Addr, b ∉ frs [] := fun b z => by cases z
  have e0 : Env0 P w K mg (hidT s1.heap (onlyS K a vs ns)) callerA [] s1 (onlyS K a vs ns) :=
    { frames := rfl, mod := ⟨KB, names hg, ⟨mb, names hb, hbb⟩, lim⟩, bs := fun b o z => of_hidT z, bsz := Nat.le_of_eq (hidT_size _ _), funs := trivial, frf := fun b z => (none_mem b z).elim, hok := hok, bare := .of_eq gn }
  refine codeAny_mono ((F _ KB (names hg)).go callerA [] s1 (onlyS K a vs ns) [.ref a] [.ref a] _ room rfl e0 (.cons rfl .nil) (hsp _ sq)) fun r s2 z => ?_
  match r, z with
  | .error _, z => exact z.elim
  | .ok .next, z => exact z.elim
  | .ok .brk, z => exact z.elim
  | .ok .cont, z => exact z.elim
  | .ok (.ret u), ⟨v, H2, os, bare, un, hok2, ru, q⟩ =>
    obtain rfl : v = .bl true := q
    obtain rfl : u = Value.bool true := ru
    refine ⟨rfl, OldK.of_keep fun b o z => ?_, os, bare⟩
    cases q : onlyS K a vs ns b with
    | none => exact un.keep b o z q (none_mem b) (none_mem b)
    | some u =>
      obtain ⟨e, _, rfl⟩ := onlyS_some q
      have z2 := (hok2 b _ (un.frzs b _ _ q)).1
      rw [e, ha] at z
      cases z
      exact z2
end
theorem walkG {l : PySem.W.OpenLaw} {n k : Nat} {q : Program} {loose : List Str} {XP : (Str → Option Value) → Heap → Prop} {YP : World → Heap → Prop} {d : DefRec} {K : Params → PySem.W.Frag} {sp : PySem.W.Frag → Sp}
    (hn : l.most = some n) (hn2 : n ≤ sizeLine) (hdf : d.params.defaults = []) (room : Room k callerA) (hY : ∀ (w : World) (h : Heap), YP w h → (K w.params).In h)
    (F : ∀ (w : World) (mg : Str → Option Value) (fa : Addr) (h : Heap), (K w.params).In h → h.Ns mainGlobals mg → mg d.name = some (.ref fa) → ∀ base : Heap, (K w.params).In base → base.Ns mainGlobals mg → OkG l.prog w (K w.params) mg base k fa ["script"] (sp (K w.params)))
    (hsp : ∀ (K : PySem.W.Frag) (H : Hp) (a : Addr) (ns : List Int), ns.length ≤ n → SqL K H a (ns.map V.int) → sp K [.ref a] H (fun v _ => v = .bl true) E0) :
    PySem.W.WalkO q loose XP YP l.row.toRowW d [] (fun f vs => PySem.call f vs) := by
  refine Att.attach_call hn hdf fun w s0 s1 mg mb fa o pm cd doc a vs ns G Y _ _ _ hm ho hi hl hg => ?_
  have KX := hY w _ Y
  exact lawG KX G.T.g G.T.b G.T.builtins G.T.nolimit hg ho hi (Nat.le_trans hl hn2) room (F w mg fa _ KX G.T.g hm) fun H hS => hsp _ H a ns hl hS
end L2

set_option Elab.async false
set_option linter.all false
set_option maxRecDepth 100000
set_option maxHeartbeats 4000000
/-! Own layer: a caught error that is kept behind its except suite. -/
namespace L2
open ClX
open PySem PySem.Spec PyProof.Rows

/-- an error of the class cls, with the dict d, at a -/
def errO (cls : Value) (d : Option Addr) (a : Addr) : HO := .ext fun h => ∃ (oe : Obj) (vs : Array Value), h.get? a = some oe ∧ Zc cls d oe ∧ oe.data = .fields vs
theorem errO_ok {P : Program} {w : World} {H : Hp} {h : Heap} {a : Addr} {cls : Value} {d : Option Addr} {oe : Obj} {vs : Array Value} (e : h.get? a = some oe) (z : Zc cls d oe) (f : oe.data = .fields vs) : ObjOk P w H h a (errO cls d a) :=
  ⟨⟨oe, vs, e, z, f⟩, ⟨oe, e⟩, fun _ _ ⟨o, u, q, r⟩ k => ⟨o, u, k o q, r⟩⟩
/-- the context of an except suite, the error being tracked -/
abbrev Cx.held (X : Cx) (a : Addr) (pn : List (Addr × Obj)) : Cx := { X with A := X.A.mark (some (.ref a)), calm := false, pn := pn, xe := fun _ _ => False }
section
variable {X : Cx} {pins : List (Addr × Obj)} {σ : St} {H : Hp} {sI s' s : Shared} {B : Heap}
theorem Cx.Ok.held (ok : X.Ok) (a : Addr) (pn : List (Addr × Obj)) : (X.held a pn).Ok :=
  { mod := ok.mod, kind := ok.kind, glob := ok.glob, blt := ok.blt, above := ok.above, inj := ok.inj, has := ok.has, cab := ok.cab, hd := fun z => (by cases z), frames := ok.frames, stk := ok.stk, exf := ok.exf, bs := ok.bs, bsz := ok.bsz, noex := ok.noex, exfs := ok.exfs, funs := ok.funs, frf := ok.frf }
theorem Inv.held (I : Inv X pins σ H s) (a : Addr) : Inv (X.held a (X.pn ++ pins)) [] σ H s :=
  { ok := I.ok.held _ _, os := I.os, bare := I.bare, base := I.base, loc := I.loc, cell := I.cell, free := I.free, freeC := I.freeC, hok := I.hok, len := I.len,
    pin := fun p hp => I.pin p (by rw [List.append_nil] at hp; exact hp) }
theorem Inv.unheld {a : Addr} {pn : List (Addr × Obj)} (I : Inv (X.held a (X.pn ++ pins)) pn σ H s) (ok : X.Ok) : Inv X pins σ H s :=
  { ok := ok, os := I.os, bare := I.bare, base := I.base, loc := I.loc, cell := I.cell, free := I.free, freeC := I.freeC, hok := I.hok, len := I.len,
    pin := fun p hp => I.pin p (List.mem_append_left _ hp) }
/-- the state that an error leaves on the ground, the error tracked -/
theorem Inv.landedE {a : Addr} {cls : Value} {d : Option Addr} {oe : Obj} {vs : Array Value} (I : Inv X pins σ H sI) (nb : ∀ b o, sI.heap.get? b = some o → b ∉ frs X.stack → B.get? b = some o) (st : B.StaysIn s'.heap)
    (up : sI.heap.UpToSlots s'.heap) (os : s'.os = sI.os) (ag : AllBare s'.gens) (na : H a = none) (nB : B.get? a = none) (nF : a ∉ frs X.stack) (he : s'.heap.get? a = some oe) (hz : Zc cls d oe) (hf : oe.data = .fields vs) :
    Inv X pins σ (upd H a (errO cls d a)) s' := by
  have nI : sI.heap.get? a = none := by
    cases q : sI.heap.get? a with
    | none => rfl
    | some o =>
      have z := nb a o q nF
      rw [nB] at z
      cases z
  have ne : ∀ b o, sI.heap.get? b = some o → b ≠ a := fun b o q z => by
    rw [z, nI] at q
    cases q
  have hok0 : HOk X.prog X.w H s'.heap := HOk.kept (I.inGround nb) st
  have hok : HOk X.prog X.w (upd H a (errO cls d a)) s'.heap := HOk.laidN hok0 (fun _ _ z => z) na (errO_ok he hz hf)
  have keepS : ∀ b o, sI.heap.get? b = some o → b ∉ frs X.stack → s'.heap.get? b = some o := fun b o q n => st b o (nb b o q n)
  have J := I.call (H' := upd H a (errO cls d a)) (h' := s'.heap) (g' := s'.gens) (t' := s'.toks) (d' := s'.drawn) (ch := [])
    { keep := fun b o q _ n _ => keepS b o q n
      slot := fun b o q _ n _ => by
        obtain ⟨_, o1, e1, hnf⟩ := I.stack.mem n
        rw [q] at e1
        cases e1
        exact up b o q hnf
      free := fun b o q n _ => by
        rw [upd_ne (ne b o q)]
        exact n
      there := fun b o q _ => by
        by_cases n : b ∈ frs X.stack
        · obtain ⟨_, o1, e1, hnf⟩ := I.stack.mem n
          rw [q] at e1
          cases e1
          obtain ⟨sl, z⟩ := up b o q hnf
          exact ⟨_, z⟩
        · exact ⟨o, keepS b o q n⟩
      tups := fun b xs q => by
        rw [upd_ne (ne_of_none q na)]
        exact q
      frzs := fun b o u q => by
        rw [upd_ne (ne_of_none q na)]
        exact q
      tbls := fun b ps q => ⟨#[], by rw [upd_ne (ne_of_none q na), q]; simp⟩ } hok ag (fun _ z => nomatch z)
  obtain ⟨a1, a2, a3, a4, a5⟩ := s'
  have e5 : a5 = sI.os := os
  subst e5
  exact J

/-- what the clause wishes of an error of the body: it takes it, and the suite goes on with the error tracked; slot i is the clause's name -/
def wKept (K : PySem.W.Frag) (c : Value) (i : Nat) (ts : TS) (D : Ends) : WX := fun cls d σ H => PySem.W.exmOne K cls c = some true ∧ ∀ a, H a = none →
  ts ⟨fun σ1 H1 => D.nx (σ1.set i none) H1, D.rt, fun σ1 H1 => D.bk (σ1.set i none) H1, fun σ1 H1 => D.ct (σ1.set i none) H1⟩ (σ.set i (some (.ref a))) (upd H a (errO cls d a))
theorem ps_try_kept {x n : Str} {c : Value} {i : Nat} {body suite : List Stmt} {b0 : Stmt} {np pos pos' : Pos} {tb : WX → TS} {ts : TS}
    (stk : X.stack = X.env :: X.outer) (frm : X.env.frame = some X.env.locals) (hN : X.N.Nodup) (hi : X.N[i]? = some n) (hl : X.env.kindOf n = some .local) (hc : Names X x c)
    (hb : ∀ (W : WX) (pn : List (Addr × Obj)) (xe : Value → Shared → Prop), Takes (X.tr pn xe) W → PassesOwn (model X.prog X.w) X.A X.env xe → PSs (X.tr pn xe) body (tb W))
    (hsu : ∀ (a : Addr) (pn : List (Addr × Obj)), PSs (X.held a pn) (b0 :: suite) ts) :
    PS X (.Try body [.ExceptHandler (some (.Name x np)) (some n) (b0 :: suite) pos'] [] [] pos) (fun D σ H => tb (wKept X.K c i ts D) D σ H) := by
  refine ⟨fun pn s σ H D I h => ?_⟩
  have ok := I.ok
  have fr2 : X.A.frames = some (X.env :: X.outer) := by rw [ok.frames, stk]
  let seen : Value → Shared → Prop := fun e s₁ => wpAny (model X.prog X.w) X.A (noteFrame e X.env) (fun _ s₂ => wpAny (model X.prog X.w) X.A (setFlight e none) (fun _ s₃ =>
    wpAny (model X.prog X.w) X.A (handleBy e X.env [.ExceptHandler (some (.Name x np)) (some n) (b0 :: suite) pos']) (SP X pn D) X.xe s₃) X.xe s₂) X.xe s₁
  have caught : ∀ u s1, XE (X.tr (X.pn ++ pn) seen) (wKept X.K c i ts D) u s1 → seen u s1 := fun u s1 xx => by
    obtain ⟨a, B, sI, pn2, σ1, H1, cls, d, rfl, J0, nb, up, sky, na, os, ag, yes, go⟩ := xx
    have J : Inv X pn σ1 H1 sI := J0.ofTry ok
    have sky1 : Sky B (X.env :: X.outer) a (Zc cls d) X.env.locals s1.heap := by
      rw [← stk]
      exact sky
    show wpAny (model X.prog X.w) X.A (noteFrame (.ref a) X.env) _ _ _
    refine Sky.land Zc.steady fr2 frm sky1 fun h3 fl3 up3 => ?_
    have offF : ∀ {h : Heap} {o : Obj} {vs : Array Value}, h.FunFrames B (X.env :: X.outer) → h.get? a = some o → o.data = .fields vs → a ∉ frs X.stack := fun {h o vs} ff e dd hm => by
      rw [stk] at hm
      obtain ⟨_, o2, e2, hnf⟩ := ff.mem hm
      rw [e] at e2
      cases e2
      exact hnf _ dd
    obtain ⟨oe3, vs3, he3, hz3, hd3⟩ := fl3.there
    have T3 := (J.landedE (s' := { s1 with heap := h3 }) nb fl3.1 (up.trans up3) os ag na fl3.2.1 (offF fl3.2.2.1 he3 hd3) he3 hz3 hd3).held a
    refine wpAny_handleBy_cons (codeAny_handlers_test ?_) (fun z => by cases z)
    have LT : PySem.W.Looks (model X.prog X.w) h3 (typeOf (.ref a)) cls := fun A2 Q2 E2 s2 k2 q2 => wpAny_typeOf_ref (k2 _ _ he3) (by rw [hz3.1]; exact q2)
    have LM := PySem.W.exm_one (M := model X.prog X.w) T3.kIn LT yes
    have look : ∀ {Q2 : Value → Shared → Prop} {E2 : Value → Shared → Prop}, Q2 c { s1 with heap := h3 } → wpAny (model X.prog X.w) (X.A.mark (some (.ref a))) (eval (.Name x np) X.env) Q2 E2 { s1 with heap := h3 } := fun {Q2 E2} q2 => by
      obtain ⟨g1, g2, g3 | ⟨g3, g4, g5⟩⟩ := hc
      · exact ld_glob (X := X.held a (X.pn ++ pn)) T3 g1 g3 q2 g2
      · exact ld_blt (X := X.held a (X.pn ++ pn)) T3 g1 g3 g4 q2 g5 g2
    refine look (LM.here (codeAny_handlers_suite_as ?_))
    refine HandSPX.lands_againZ fl3 fun h4 fl4 up4 => ?_
    obtain ⟨oe4, vs4, he4, hz4, hd4⟩ := fl4.there
    have T4 := (J.landedE (s' := { s1 with heap := h4 }) nb fl4.1 ((up.trans up3).trans up4) os ag na fl4.2.1 (offF fl4.2.2.1 he4 hd4) he4 hz4 hd4).held a
    refine store_ok (X := X.held a (X.pn ++ pn)) (v := .ref a) T4 hN hi (.inl hl) rfl (fun s5 T5 => ?_) (.inr hl)
    refine wpAny_mono ((hsu a (X.pn ++ pn)).run [] s5 _ _ _ T5 (go a na)) (fun fl s6 z => ?_) fun _ _ z => False.elim z
    have fin : ∀ {σ6 : St} {H6 : Hp} {Q6 : Shared → Prop}, Inv (X.held a (X.pn ++ pn)) [] σ6 H6 s6 → (∀ s7, Inv X pn (σ6.set i none) H6 s7 → Q6 s7) →
        wpAny (model X.prog X.w) X.A (do bindName X.env n .none; unbindBehindTheSuite X.env n pos') (fun _ s7 => Q6 s7) X.xe s6 := fun {σ6 H6 Q6} T6 q => gone_ok (T6.unheld ok) hN hi hl q
    match fl, z with
    | .next, ⟨σ6, H6, T6, q⟩ => exact fin T6 fun s7 J7 => ⟨_, _, J7, q⟩
    | .brk, ⟨σ6, H6, T6, q⟩ => exact fin T6 fun s7 J7 => ⟨_, _, J7, q⟩
    | .cont, ⟨σ6, H6, T6, q⟩ => exact fin T6 fun s7 J7 => ⟨_, _, J7, q⟩
    | .ret u, ⟨v, σ6, H6, T6, r6, q⟩ => exact fin T6 fun s7 J7 => ⟨_, _, _, J7, r6, q⟩
  refine wpAny_Try_except (wpAny_mono ((hb (wKept X.K c i ts D) (X.pn ++ pn) seen caught PassesOwn.looking).run [] s σ H D (I.toTry _) h) (fun fl s1 z => ?_) fun _ _ z => z)
  match fl, z with
  | .next, ⟨σ1, H1, J, q⟩ => exact wpAny_execs_nil ⟨σ1, H1, J.ofTry ok, q⟩
  | .brk, ⟨σ1, H1, J, q⟩ => exact ⟨σ1, H1, J.ofTry ok, q⟩
  | .cont, ⟨σ1, H1, J, q⟩ => exact ⟨σ1, H1, J.ofTry ok, q⟩
  | .ret u, ⟨v, σ1, H1, J, r, q⟩ => exact ⟨v, σ1, H1, J.ofTry ok, r, q⟩
end
end L2

set_option Elab.async false
set_option linter.all false
set_option maxRecDepth 100000
set_option maxHeartbeats 4000000
/-! Own layer: a kept error's class and its field. -/
namespace PySem.W
open PySem PySem.Spec PySem.Calls PyProof.Rows
section
variable {prog : Program} {w : World} {A : Around} {E : Value → Shared → Prop} {s : Shared} {K : Frag} {x D : Addr} {ox : Obj} {od : Option Obj}
/-- an error's own __class__, whatever its dict holds -/
theorem err_class {Q : Option Value → Shared → Prop} (fnd : findObj K D od "__class__" = some (.bind (.builtin "getset_descriptor.__get__") (.builtin "object.__class__")))
    (c1 : findIn K (.ref D) "__getattribute__" = some (some (.builtin "BaseException.__getattribute__"))) (c2 : findIn K (.ref D) "__getattr__" = some none) (c3 : subIn K (.ref D) (.type "BaseException") = some true)
    (c4 : mroIn K D (.type "object") = some true) (KX : K.In s.heap) (J : InstAt s.heap x ox D od) (fin : Q (some (.ref D)) { s with toks := s.toks + 1 }) : wpAny (model prog w) A (getAttr? (.ref x) "__class__") Q E s := by
  obtain ⟨hp, gn, dr, tk, os⟩ := s
  have l0 := J.type (M := model prog w)
  have l1 := looks_findIn (M := model prog w) KX c1
  have l2 := looks_findIn (M := model prog w) KX c2
  have l3 := looks_find (M := model prog w) KX J fnd
  have isExc : Looks (model prog w) hp (isInstance (.ref x) (.type "BaseException")) true := l0.andThen (looks_subIn KX c3)
  have b0 : (false && onTheHeap (Value.builtin "BaseException.__getattribute__")) = false := rfl
  have b1 : (Value.builtin "BaseException.__getattribute__" == Value.builtin "object.__getattribute__") = false := by decide +kernel
  have b2 : (onTheHeap (Value.ref D) && Value.builtin "BaseException.__getattribute__" == Value.builtin "object.__getattribute__") = false := by
    rw [b1]
    rfl
  unfold getAttr? getAttrBy? getAttrBy
  refine wpAny_bind (wpAny_mkText (wpAny_bind (wpAny_attempt (wpAny_holding (wpAny_bind (l0.at (wpAny_bind (l1.at ?_))))))))
  show wpAny _ _ (if (onTheHeap (Value.ref D) && Value.builtin "BaseException.__getattribute__" == Value.builtin "object.__getattribute__") = true then _ else _) _ _ _
  rw [b2, if_neg Bool.false_ne_true]
  unfold getAttrByItsOwn hookBefore
  refine wpAny_bind ?_
  rw [if_pos (show onTheHeap (Value.ref D) = true from rfl)]
  refine l2.at (wpAny_bind (wpAny_attempt (wpAny_holding ?_)))
  unfold callGetattribute
  rw [b0, if_neg Bool.false_ne_true]
  unfold boundAndCalled
  rw [PySem.F.excAttr_ValueError.ga.bind (.ref x)]
  refine wpAny_bind (wpAny_pure ?_)
  show wpAny _ _ (call (.builtin "BaseException.__getattribute__") [.ref x, .str "__class__" tk]) _ _ _
  refine wpAny_call (codeAny_call_builtin PySem.F.excAttr_ValueError.ga.plain PySem.F.entry_bexc_ga ?_)
  refine @check_slot (model prog w) _ _ ⟨hp, gn, dr, tk + 1, os⟩ "BaseException.__getattribute__" "BaseException" "__getattribute__" (.ref x) [.str "__class__" tk] [] _ (by decide +kernel) (by decide +kernel) isExc (PySem.F.args_bexc_ga (.ref x) (.str "__class__" tk)) ?_
  unfold Builtin.«object.__getattribute__»
  refine wpAny_bind (wpAny_of_eq (a := ((Value.ref x : Value), [Value.str "__class__" tk])) (by first | rfl | (simp only [slotArgs]; rfl)) ?_)
  refine wpAny_bind (wpAny_pure (wpAny_bind (l0.at (wpAny_bind (l3.at ?_)))))
  show wpAny _ _ (holding [Value.builtin "object.__class__"] (call (.builtin "getset_descriptor.__get__") [.builtin "object.__class__", .ref x, .ref D]) >>= ret) _ _ _
  refine wpAny_bind (wpAny_holding (wpAny_call (class_get (s := ⟨hp, gn, dr, tk + 1, os⟩) (ox := ox) (od := od) KX J c4 ?_)))
  refine wpAny_pure ?_
  show wpAny _ _ (handedOut (.ref D)) _ _ _
  rw [handedOut_of (v := .ref D) rfl]
  first
    | exact wpAny_pure (wpAny_pure fin)
    | exact wpAny_pure fin
    | exact wpAny_pure (wpAny_bind (wpAny_pure (wpAny_pure fin)))
end
end PySem.W
namespace L2
open ClX
open PySem PySem.Spec PyProof.Rows
section
variable {X : Cx} {pins : List (Addr × Obj)} {σ : St} {H : Hp} {s : Shared}
theorem err_find {K : PySem.W.Frag} {D : Addr} (T : ExcC K D) (od : Option Obj) : PySem.W.findObj K D od "__class__" = some (.bind (.builtin "getset_descriptor.__get__") (.builtin "object.__class__")) := by
  have hc : (PySem.W.clsIn K D).isSome = true := by
    obtain ⟨cd, h, _⟩ := PySem.W.any_some T.hd
    rw [h]
    rfl
  cases od with
  | none => exact PySem.W.findObj_dataN hc T.ha T.hn T.ht
  | some o => exact PySem.W.findObj_data hc T.ha T.hn T.ht
/-- what an error's object is -/
theorem err_inst (I : Inv X pins σ H s) {D a : Addr} {d : Option Addr} (h : H a = some (errO (.ref D) d a)) (hd : ∀ dd, d = some dd → ∃ fs, H dd = some (.xd fs)) : ∃ (ox : Obj) (od : Option Obj), PySem.W.InstAt s.heap a ox D od ∧
    ∀ dd fs, d = some dd → H dd = some (.xd fs) → ∀ f v, fs.lookup f = some v → ∃ o u, od = some o ∧ RelV v u ∧ PySem.W.lookIn f o = some (some u) := by
  obtain ⟨⟨oe, vs, e, z, f⟩, _⟩ := I.hok a _ h
  obtain ⟨oc, dd, da, sl⟩ := oe
  obtain ⟨z1, z2⟩ := z
  dsimp only at z1 z2 f
  subst z1 z2 f
  cases dd with
  | none => exact ⟨_, none, ⟨e, rfl, rfl, trivial⟩, fun _ _ q => by cases q⟩
  | some p =>
    obtain ⟨fs0, hp⟩ := hd p rfl
    obtain ⟨mA, hns, hr⟩ := (show ObjOk X.prog X.w H s.heap p (.xd fs0) from I.hok p _ hp)
    obtain ⟨od, ho, hl⟩ := lookIn_ns hns
    refine ⟨_, some od, ⟨e, rfl, rfl, ho⟩, fun q fs1 e1 e2 g v l => ?_⟩
    cases e1
    rw [hp] at e2
    cases e2
    obtain ⟨u, hu, ru⟩ := RelO.some_of (v := v) (o := mA g) (by rw [← l]; exact hr g)
    exact ⟨od, u, rfl, ru, by rw [hl, hu]⟩
/-- isinstance(e, C), isinstance(e, (C, ..)), e a kept error -/
def rIsErr (K : PySem.W.Frag) : List V → Hp → VK → Prop := fun xs H Q => ∃ (a D : Addr) (d : Option Addr) (c : V) (cv : Value) (b : Bool), xs = [.ref a, c] ∧ H a = some (errO (.ref D) d a) ∧ (∀ dd, d = some dd → ∃ fs, H dd = some (.xd fs)) ∧ ExcC K D ∧
  ClsV c cv ∧ PySem.W.kitOne K (.ref D) cv = some b ∧ Q (.bl b) H
def rIsErrT (K : PySem.W.Frag) : List V → Hp → VK → Prop := fun xs H Q => ∃ (a D tp : Addr) (d : Option Addr) (cs : List V) (us : List Value) (b : Bool), xs = [.ref a, .ref tp] ∧ H a = some (errO (.ref D) d a) ∧ (∀ dd, d = some dd → ∃ fs, H dd = some (.xd fs)) ∧ ExcC K D ∧
  H tp = some (.tup cs) ∧ Paired ClsV cs us ∧ PySem.W.kitAny K (.ref D) us = some b ∧ Q (.bl b) H
theorem err_kit {K : PySem.W.Frag} {a D : Addr} {ox : Obj} {od : Option Obj} (T : ExcC K D) : PySem.W.KitX K (.ref a) (.ref D) (fun h => PySem.W.InstAt h a ox D od) where
  ty := fun _ _ _ J => J.type
  it := fun _ _ KX _ => by
    obtain ⟨cd, hc, _⟩ := PySem.W.any_some T.hd
    unfold PySem.W.clsIn at hc
    split at hc
    · rename_i c2 d2 cd2 sl2 ho
      intro A2 Q2 E2 s2 k2 q2
      unfold isType loadHead
      exact wpAny_bind (wpAny_loadPart (k2 _ _ (KX _ _ ho)) (wpAny_pure q2))
    · cases hc
  ne := fun h tp dd its n sl KX htp => by
    obtain ⟨cd, hc, _⟩ := PySem.W.any_some T.hd
    refine Bool.eq_false_iff.mpr fun q => ?_
    obtain rfl : D = tp := Value.ref.inj (beq_iff_eq.mp q)
    unfold PySem.W.clsIn at hc
    split at hc
    · rename_i c2 d2 cd2 sl2 ho
      have z := (KX _ _ ho).symm.trans htp
      cases z
    · cases hc
  ca := fun KX J k => PySem.W.err_class (err_find T od) T.hg T.hk T.hs T.hm KX J k
theorem call_isErr : CallR X (.builtin "isinstance") (rIsErr X.K) := by
  intro pn s σ H xs us Q I r h
  obtain ⟨a, D, d, c, cv, b, rfl, ha, hd, T, hc, e, q⟩ := h
  obtain ⟨u1, u2, rfl, r1, r2⟩ := vals2 r
  cases r1
  have ec := hc.eq r2
  subst ec
  obtain ⟨ox, od, J, _⟩ := err_inst I ha hd
  exact PySem.W.kia_one (err_kit T) I.kIn J e (fun z => nomatch z) fun tk => ⟨.bl b, H, I.kept (t' := tk) fun _ _ z => z, rfl, q⟩
theorem call_isErrT : CallR X (.builtin "isinstance") (rIsErrT X.K) := by
  intro pn s σ H xs us Q I r h
  obtain ⟨a, D, tp, d, cs, ws, b, rfl, ha, hd, T, ht, hc, e, q⟩ := h
  obtain ⟨u1, u2, rfl, r1, r2⟩ := vals2 r
  cases r1
  cases r2
  obtain ⟨ox, od, J, _⟩ := err_inst I ha hd
  obtain ⟨_, its, r3, o, e1, e2, n, e3⟩ := (show ObjOk X.prog X.w H s.heap tp (.tup cs) from I.hok tp _ ht)
  have ew := ClsV.all hc r3
  subst ew
  obtain ⟨o1, o2, o3, o4⟩ := o
  dsimp only at e2 e3
  subst e2 e3
  exact PySem.W.kia_tup (err_kit T) I.kIn J e1 e (fun z => nomatch z) fun tk => ⟨.bl b, H, I.kept (t' := tk) fun _ _ z => z, rfl, q⟩
/-- e.f, e a kept error with a field -/
def tErrF (K : PySem.W.Frag) (f : Str) (te : TE) : TE := fun σ H Q => te σ H fun x H1 => ∃ (a D dd : Addr) (fs : List (Str × V)) (v : V), x = .ref a ∧ H1 a = some (errO (.ref D) (some dd) a) ∧ H1 dd = some (.xd fs) ∧ XfC K D ∧ PySem.W.findIn K (.ref D) f = some none ∧
  fs.lookup f = some v ∧ Q v H1
theorem pe_errF {e : Expr} {te : TE} {f : Str} {pos : Pos} (he : PE X e te) (hb : attributeBase e f X.env (eval e X.env) = eval e X.env := by rfl) : PE X (.Attribute e f pos) (tErrF X.K f te) := by
  refine ⟨fun pn s σ H Q I h => attr_of hb (thn (he.run pn s σ H _ I h) fun u s1 ⟨x, H1, I1, rx, a, D, dd, fs, v, ex, ha, hf, T, no, l, q⟩ => ?_)⟩
  subst ex
  cases rx
  obtain ⟨ox, od, J, g⟩ := err_inst I1 ha (fun d2 z => by cases z; exact ⟨fs, hf⟩)
  obtain ⟨o, u, rfl, ru, lk⟩ := g dd fs rfl hf f v l
  exact HandSPX.exc_get I1.kIn J T.ga T.gg T.exC (PySem.W.findObj_own T.hdC no rfl lk) (handed_of ru) ⟨v, H1, I1.tok _, ru, q⟩
end
end L2

set_option Elab.async false
set_option linter.all false
set_option maxRecDepth 100000
set_option maxHeartbeats 4000000
/-! Own layer: the set of a list of texts, its size. -/
namespace OwnSet
open PySem PySem.Spec PyProof.Rows
/-- the different ones among the first i, in the order in which they are met -/
def met (xs : List Str) : Nat → List Str
  | 0 => []
  | i + 1 => if (met xs i).any (· == xs.getD i Str.empty) then met xs i else met xs i ++ [xs.getD i Str.empty]
theorem met_le (xs : List Str) : ∀ i, (met xs i).length ≤ i
  | 0 => Nat.le_refl _
  | i + 1 => by
    have := met_le xs i
    show (if _ then _ else _ : List Str).length ≤ _
    split
    · omega
    · rw [List.length_append]
      simp
      omega
theorem met_any (xs : List Str) (i : Nat) (k : Str) : (met xs (i + 1)).any (· == k) = ((met xs i).any (· == k) || decide (k = xs.getD i Str.empty)) := by
  show (if _ then _ else _ : List Str).any _ = _
  split
  · rename_i c
    by_cases e : k = xs.getD i Str.empty
    · subst e
      rw [c]
      rfl
    · rw [decide_eq_false e, Bool.or_false]
  · rw [List.any_append]
    congr 1
    simp only [List.any_cons, List.any_nil, Bool.or_false]
    by_cases e : k = xs.getD i Str.empty
    · subst e
      simp
    · rw [decide_eq_false e]
      exact beq_eq_false_iff_ne.mpr fun q => e q.symm
theorem met_len (xs : List Str) (i : Nat) : (met xs (i + 1)).length = if (met xs i).any (· == xs.getD i Str.empty) = true then (met xs i).length else (met xs i).length + 1 := by
  show (if _ then _ else _ : List Str).length = _
  split <;> simp_all
theorem met_mem (xs : List Str) : ∀ i, i ≤ xs.length → ∀ y, y ∈ met xs i ↔ y ∈ xs.take i
  | 0, _, y => by simp [met]
  | i + 1, h, y => by
    have ih := met_mem xs i (by omega) y
    have hx : xs.getD i Str.empty = xs[i] := by simp [List.getD, List.getElem?_eq_getElem (show i < xs.length by omega)]
    have e2 : xs.take (i + 1) = xs.take i ++ [xs[i]] := by
      rw [List.take_add_one, List.getElem?_eq_getElem (show i < xs.length by omega)]
      rfl
    rw [e2, List.mem_append, ← ih]
    show y ∈ (if _ then _ else _ : List Str) ↔ _
    rw [hx]
    split
    · rename_i c
      obtain ⟨z, hz, ez⟩ := List.any_eq_true.mp c
      have ez : z = xs[i] := eq_of_beq ez
      constructor
      · exact .inl
      · rintro (q | q)
        · exact q
        · rw [List.mem_singleton.mp q, ← ez]
          exact hz
    · rw [List.mem_append]
theorem met_full (xs : List Str) : ∀ i, i ≤ xs.length → ((met xs i).length = i ↔ (xs.take i).Nodup)
  | 0, _ => by simp [met]
  | i + 1, h => by
    have ih := met_full xs i (by omega)
    have hm := met_mem xs i (by omega)
    have le := met_le xs i
    have hx : xs.getD i Str.empty = xs[i] := by simp [List.getD, List.getElem?_eq_getElem (show i < xs.length by omega)]
    have e2 : xs.take (i + 1) = xs.take i ++ [xs[i]] := by
      rw [List.take_add_one, List.getElem?_eq_getElem (show i < xs.length by omega)]
      rfl
    rw [e2, met_len, hx]
    have ea : (met xs i).any (· == xs[i]) = true ↔ xs[i] ∈ xs.take i := by
      rw [← hm]
      constructor
      · intro c
        obtain ⟨z, hz, ez⟩ := List.any_eq_true.mp c
        have ez : z = xs[i] := eq_of_beq ez
        rw [← ez]
        exact hz
      · intro c
        exact List.any_eq_true.mpr ⟨_, c, beq_self_eq_true _⟩
    rw [List.nodup_append]
    by_cases c : xs[i] ∈ xs.take i
    · rw [if_pos (ea.mpr c)]
      constructor
      · intro z
        omega
      · intro z
        exact absurd rfl (z.2.2 _ c _ (List.mem_singleton.mpr rfl))
    · rw [if_neg (fun z => c (ea.mp z))]
      constructor
      · intro z
        refine ⟨ih.mp (by omega), by simp, fun y hy z hz q => c ?_⟩
        rw [List.mem_singleton.mp hz] at q
        rw [← q]
        exact hy
      · intro z
        rw [ih.mpr z.1]
theorem met_all (xs : List Str) : decide ((met xs xs.length).length = xs.length) = decide xs.Nodup := by
  have h := met_full xs xs.length (Nat.le_refl _)
  rw [List.take_length] at h
  exact decide_eq_decide.mpr h
section
variable {prog : Program} {w : World} {A : Around} {R : Result → Shared → Prop} {It : Addr} {own wrt : List Addr} {G : Array GenState → Array GenState → Prop} {n : Nat} {P : Nat → Value → Prop} {St : Nat → Shared → Prop}
/-- the loop that fills a set with texts -/
theorem fill (W : WalksS prog w A.in1 It own wrt G n P St) (S : Addr) (free : S ∉ own) (xs : List Str) (each : ∀ i v, P i v → ∃ t, v = .str (xs.getD i Str.empty) t) (small : n + 1 < scanBound) :
    ∀ (k i : Nat) (s : Shared), n - i = k → i ≤ n → St i s → s.heap.SetOf (PySem.strKind prog w) S (fun y => (met xs i).any (· == y)) (met xs i).length →
      (∀ s2, Moved (S :: wrt) G s s2 → s2.heap.SetOf (PySem.strKind prog w) S (fun y => (met xs n).any (· == y)) (met xs n).length → R (.ok (.ret .none)) s2) →
      codeAny (model prog w) A (.builtin "set.update.loop" ⟨[.ref S, .ref It], []⟩) R s := by
  have freeW : S ∉ wrt := fun z => free (W.sub _ z)
  have more : ∀ b ∈ wrt, b ∈ S :: wrt := fun b z => List.mem_cons_of_mem _ z
  have kept : ∀ {s s2 : Shared} {i : Nat}, Moved wrt G s s2 → s.heap.SetOf (PySem.strKind prog w) S (fun y => (met xs i).any (· == y)) (met xs i).length →
      s2.heap.SetOf (PySem.strKind prog w) S (fun y => (met xs i).any (· == y)) (met xs i).length := fun mv ⟨o, es, ep, tb, ho, r⟩ => ⟨o, es, ep, tb, mv.heap S _ freeW ho, r⟩
  intro k
  induction k with
  | zero =>
    intro i s hk hi st hs fin
    obtain rfl : i = n := by omega
    refine codeAny_builtin PyProof.Rows.F.entry_set_update_loop ?_
    rw [Around.under_plainId PyProof.Rows.F.plain_set_update_loop _]
    show wpAny _ A.in1 (pyNext (.ref It) >>= _) _ _ s
    refine wpAny_bind (W.done s _ _ st fun s2 mv => ?_)
    show wpAny _ A.in1 (ret Value.none) _ _ s2
    exact wpAny_pure (fin s2 (mv.mono more) (kept mv hs))
  | succ k ih =>
    intro i s hk hi st hs fin
    have lt : i < n := by omega
    have le := met_le xs i
    refine codeAny_builtin PyProof.Rows.F.entry_set_update_loop ?_
    rw [Around.under_plainId PyProof.Rows.F.plain_set_update_loop _]
    show wpAny _ A.in1 (pyNext (.ref It) >>= _) _ _ s
    refine wpAny_bind (W.item i s _ _ lt st fun v s2 hv st2 mv => ?_)
    obtain ⟨t, rfl⟩ := each i v hv
    show wpAny _ A.in1 (holding [Value.str (xs.getD i Str.empty) t] (setAdd S (.str (xs.getD i Str.empty) t)) >>= _) _ _ s2
    refine wpAny_bind (wpAny_holding ?_)
    unfold setAdd
    refine wpAny_holding (wpAny_bind ((PySem.strKind prog w).pyHash (k := xs.getD i Str.empty) (strKind_is _ _ _ _) ?_))
    have hk2 := kept mv hs
    refine wpAny_setAddHashed_of (knd := PySem.strKind prog w) (s := { s2 with toks := s2.toks + 1 }) (strKind_is _ _ _ _) rfl hk2 (by omega) fun h2 sb hs2 => ?_
    have hs3 : h2.SetOf (PySem.strKind prog w) S (fun y => (met xs (i + 1)).any (· == y)) (met xs (i + 1)).length := SetOf_congr hs2 (fun y => (met_any xs i y).symm) (met_len xs i).symm
    have off : ∀ b, b ≠ S → h2.get? b = s2.heap.get? b := fun b z => sb.2 b z
    refine wpAny_pure ⟨plainId_quiet PyProof.Rows.F.plain_set_update_loop _, ih (i + 1) _ (by omega) lt (W.frame _ s2 _ _ st2 (Nat.le_succ _) fun b z o e => (off b fun q => free (q ▸ z)).trans e) hs3 fun s3 mv3 hs4 => ?_⟩
    exact fin s3 (Moved.trans W.gtrans ((mv.mono more).then_heap (Nat.le_succ _) fun b o z e => (off b fun q => z (q ▸ List.mem_cons_self)).trans e) mv3) hs4
end
section
variable {prog : Program} {w : World} {A : Around} {E : Value → Shared → Prop} {s : Shared}
abbrev newSet (led : Bool) : Obj := { cls := .type "set", dict := none, data := .set #[] 0 (.fresh 0 0 led) }
/-- set(xs), xs a list of texts -/
theorem set_of {l : Addr} {items : Array Value} {xs : List Str} {Q : Value → Shared → Prop} (calm : A.handled = none) (hl : s.heap.IsList l items) (hi : StrsAre items.toList xs) (small : items.size + 1 < scanBound)
    (fin : ∀ (h2 : Heap) (tk : Nat), h2.SetOf (PySem.strKind prog w) s.heap.objs.size (fun y => (met xs items.size).any (· == y)) (met xs items.size).length →
      (∀ b o, b < s.heap.objs.size → s.heap.get? b = some o → h2.get? b = some o) → Q (.ref s.heap.objs.size) { s with heap := h2, toks := tk }) :
    wpAny (model prog w) A (call (.type "set") [.ref l]) Q E s := by
  obtain ⟨c0, tl0, mro0⟩ := PySem.F.called_set.mro
  have made0 := PySem.F.called_set.made
  have sub0 := PySem.F.called_set.sub
  refine wpAny_call (codeAny_of_tree ?_)
  show wpAny _ _ (callAny (.type "set") _) _ _ _
  refine wpAny_pure ⟨Code.quiet_builtin _ (by decide +kernel), codeAny_builtin PySem.F.entry_type_call ?_⟩
  rw [Around.under_plain (weight_type_call_type "set" [.ref l] []) rfl]
  have notT := PySem.F.called_set.notType
  have canC := PySem.F.called_set.canCreate
  have chk := PySem.F.typeCall_set_1 (.ref l)
  repeat (any_goals (first | assumption | wp_step))
  refine codeAny_mono (code_set_new_1 (.ref l) (E := E) (Q₁ := fun ob s1 => ∃ led : Bool, ob = .ref s.heap.objs.size ∧ s1 = { s with heap := s.heap.push (newSet led) }) fun led => ⟨led, rfl, rfl⟩) fun r s1 z => ?_
  match r, z with
  | .error _, z => exact z
  | .ok .next, z => exact z.elim
  | .ok .brk, z => exact z.elim
  | .ok .cont, z => exact z.elim
  | .ok (.ret _), ⟨led, e1, e2⟩ =>
    subst e1 e2
    have at0 : (s.heap.push (newSet led)).get? s.heap.objs.size = some (newSet led) := Heap.get?_push_size _ rfl
    have ty0 : Shared.TypeIs { s with heap := s.heap.push (newSet led) } (.ref s.heap.objs.size) "set" := ⟨_, at0, rfl⟩
    have lk0 := PySem.F.called_set.init.lookup
    have bd0 := PySem.F.called_set.init.bind (.ref s.heap.objs.size)
    repeat (any_goals (first | assumption | wp_step))
    refine codeAny_mono (codeAny_call_builtin (R := wants (fun r s2 => r = .none ∧ ∃ h2 tk, s2 = { s with heap := h2, toks := tk } ∧ h2.SetOf (PySem.strKind prog w) s.heap.objs.size (fun y => (met xs items.size).any (· == y)) (met xs items.size).length ∧
      (∀ b o, b < s.heap.objs.size → s.heap.get? b = some o → h2.get? b = some o)) E) PySem.F.called_set.init.plain PySem.F.entry_set_init (check_set_init_1 ty0 ?_)) fun r2 s2 z2 => ?_
    · obtain ⟨ol, lol, lcl, nl, ldl⟩ := hl
      obtain ⟨oc, od, oda, osl⟩ := ol
      simp only at lcl ldl
      subst lcl
      subst ldl
      have at1 : (s.heap.push (newSet led)).get? l = some { cls := .type "list", dict := od, data := .seq items nl, slots := osl } := Heap.get?_push_of_some _ lol
      have q1 := PySem.F.sub_list_set
      have q2 := PySem.F.sub_list_frozenset
      have q3 : (Value.type "list" == Value.type "dict") = false := by decide
      have isl : (s.heap.push (newSet led)).IsList l items := ⟨_, at1, rfl, nl, rfl⟩
      unfold Builtin.«set.__init__» noKeywords Builtin.Frozenset.updateFrom
      generalize gpi : pyIter = PI
      wp_walk
      subst gpi
      refine wpAny_pyIter_list isl (wpAny_bind (wpAny_runValue ?_))
      have lltS : l < s.heap.objs.size := Heap.lt_size lol
      have calm3 : A.in1.in1.in1.handled = none := by simp [calm]
      have sz1 : (s.heap.push (newSet led)).objs.size = s.heap.objs.size + 1 := Heap.size_push _ _
      have lne : l ≠ (s.heap.push (newSet led)).objs.size := by
        rw [sz1]
        exact Nat.ne_of_lt (Nat.lt_succ_of_lt lltS)
      have frS : s.heap.objs.size ∉ [(s.heap.push (newSet led)).objs.size, l] := by
        rw [sz1]
        simp only [List.mem_cons, List.not_mem_nil, or_false, not_or]
        exact ⟨Nat.ne_of_lt (Nat.lt_succ_self _), Nat.ne_of_gt lltS⟩
      refine fill ((Walks.list calm3 _ l lne items).toS) s.heap.objs.size frS xs (fun i v hv => SS.strs_at hi i v (by rw [Array.getElem?_toList]; exact hv)) small (items.size - 0) 0 _ (by omega) (Nat.zero_le _)
        ⟨⟨_, Heap.get?_push_size _ rfl, rfl, rfl⟩, isl.push _⟩ ?_ ?_
      · have at2 : ((s.heap.push (newSet led)).push { cls := .type "list_iterator", data := .fields #[.ref l, .int 0 0] }).get? s.heap.objs.size = some (newSet led) := Heap.get?_push_of_some _ at0
        exact SetOf_congr ((setObjOf_fresh (knd := PySem.strKind prog w) led).setOf at2 (by unfold scanBound; omega)) (fun _ => rfl) rfl
      · intro s3 mv hs3
        obtain ⟨h3, g3, d3, t3, o3⟩ := s3
        have eg : g3 = s.gens := mv.gens
        have ed : d3 = s.drawn := mv.drawn
        have eo : o3 = s.os := mv.os
        subst eg
        subst ed
        subst eo
        show wpAny _ _ _ _ _ _
        refine wpAny_pure ?_
        show wpAny _ _ (ret Value.none) _ _ _
        refine wpAny_pure ⟨rfl, h3, t3, rfl, hs3, fun b o hb e => mv.heap b o ?_ (Heap.get?_push_of_some _ (Heap.get?_push_of_some _ e))⟩
        rw [sz1]
        simp only [List.mem_cons, List.not_mem_nil, or_false, not_or]
        exact ⟨Nat.ne_of_lt hb, Nat.ne_of_lt (Nat.lt_succ_of_lt hb)⟩
    · match r2, z2 with
      | .error _, z2 => exact z2
      | .ok .next, z2 => exact z2.elim
      | .ok .brk, z2 => exact z2.elim
      | .ok .cont, z2 => exact z2.elim
      | .ok (.ret _), ⟨e1, h2, tk, e2, a1, a2⟩ =>
        subst e1 e2
        repeat (any_goals (first | assumption | wp_step))
        exact fin _ _ a1 a2
end
end OwnSet
namespace L2
open PySem PySem.Spec PyProof.Rows
/-- len(set(xs)), xs a list of texts -/
def tLenSetS (K : PySem.W.Frag) (ta : TE) : TE := fun σ H Q => ta σ H fun x H1 => ∃ (l : Addr) (xs : List Str), x = .ref l ∧ SqL K H1 l (xs.map V.str) ∧ xs.length ≤ 4000 ∧ Q (.int ((OwnSet.met xs xs.length).length : Nat)) H1
theorem pe_lenSetS {X : Cx} {a : Expr} {ta : TE} {p p2 q pos : Pos} (hm : X.mg "len" = none) (hm2 : X.mg "set" = none) (ha : PE X a ta) (hc : X.calm = true := by rfl) (hg : Gl X "len" := by rfl) (hg2 : Gl X "set" := by rfl)
    (na : starEach [a] X.env = (false, eval a X.env) :: starEach [] X.env := by rfl) : PE X (.Call (.Name "len" p) [.Call (.Name "set" p2) [a] [] q] [] pos) (tLenSetS X.K ta) := by
  refine ⟨fun pn s σ H Q I h => Call_ (ld_blt I hg hm boot_len ?_)⟩
  refine callWith_builtin1 (args_cons (Call_ (ld_blt I hg2 hm2 boot_set ?_)) rfl) rfl rfl
  refine callWith_type1 (args_cons (thn (ha.run pn s σ H _ I h) fun v s1 ⟨x, H1, I1, r1, l, xs, ex, hq, hl, q1⟩ => args_nil ?_) na) na rfl
  subst ex
  cases r1
  obtain ⟨its, r, pl, hz⟩ := I1.list hq
  have sz : its.toArray.size = xs.length := by rw [List.size_toArray, ← r.length, List.length_map]
  refine OwnSet.set_of (xs := xs) (I1.ok.hd hc) pl.isList (by simpa using strsAre_of r) (by rw [sz]; unfold scanBound; omega) fun h2 tk hs keep => args_nil ?_
  rw [sz] at hs
  have le := OwnSet.met_le xs xs.length
  obtain ⟨o, es, ep, t, ho, hex, hd, _, _, _, hf, hn⟩ := hs
  have I2 : Inv X pn σ H1 { s1 with heap := h2, toks := tk } := I1.kept fun b o e => keep b o (Heap.lt_size e) e
  exact call_len_set ho hex hd hf (by rw [hn]; omega) ⟨.int _, H1, I2.tok _, ⟨_, by rw [hn]⟩, q1⟩
end L2

set_option Elab.async false
set_option linter.all false
set_option maxRecDepth 100000
set_option maxHeartbeats 4000000
/-! Own errors with one field (after the guide's own page on them). -/
namespace PySem
namespace ImpX
open PySem.W PySem.Calls PyProof.Rows PySem.HandSPX
/-! ### the text of __init__ -/
def iA (p1 p2 : Pos) : Arguments := { posonlyargs := [], args := [{ arg := "self", annotation := none, pos := p1 }, { arg := "reason", annotation := none, pos := p2 }], vararg := none, kwonlyargs := [], kw_defaults := [], kwarg := none, defaults := [] }
def iB (q1 q2 q3 q4 : Pos) : List Stmt := [.Assign [.Attribute (.Name "self" q1) "reason" q2] (.Name "reason" q3) q4]
def iS : Scope := { kind := .function, names := [(PySem.Str.ofString "self", .local), (PySem.Str.ofString "reason", .local)], isGenerator := false, isCoroutine := false, more := [] }
/-- what the written part says of Low, at C, and of its __init__, at fI -/
structure ImpTxt (K : Frag) (mg : Str → Option Value) (C fI : Addr) : Prop where
  gC : mg "Impossible" = some (.ref C)
  cls : ∃ nm q N bs bm sn sub ab col dd k0 k1 k2 k3 k5, K.lookup C = some (excClassObj nm q C N bs bm true sn sub ab col dd k0 k1 k2 k3 k5 "ValueError.__new__") ∧ refsVE bm = true
  sa : findIn K (.ref C) "__setattr__" = some (some (.builtin "object.__setattr__"))
  ga : findIn K (.ref C) "__getattribute__" = some (some (.builtin "BaseException.__getattribute__"))
  gg : findIn K (.ref C) "__getattr__" = some none
  noN : findIn K (.ref C) "reason" = some none
  iC : findIn K (.ref C) "__init__" = some (some (.ref fI))
  tC : typeIn K (.ref fI) = some (.type "function")
  kC : keepIn K (.ref C) = true
  exC : subIn K (.ref C) (.type "BaseException") = some true
  tyC : typeIn K (.ref C) = some (.type "type")
  hdC : hasDictIn K C = true
  te : exmOne K (.ref C) (.ref C) = some true
  fn : ∃ (oc : Value) (od : Option Addr) (doc pm : Value) (an : Option Addr) (cdv ct : Value) (osl : Array (Option Value)) (p1 p2 q1 q2 q3 q4 : Pos),
    K.lookup fI = some ⟨oc, od, .func (fnOf "__init__" "Impossible.__init__" (iA p1 p2) (iB q1 q2 q3 q4) iS .none .none doc pm an cdv ct), osl⟩ ∧ codeIn K cdv "Impossible.__init__" = true
theorem one_size (v : Value) : [v].length ≤ sizeLine := by
  rw [sizeLine_eq]
  exact (by decide : 1 ≤ 16777216)
theorem kept_but {K : Frag} {h h' : Heap} {x : Addr} (X : K.In h) (hx : K.lookup x = none) (k : ∀ b o, b ≠ x → h.get? b = some o → h'.get? b = some o) : K.In h' := fun a o e =>
  k a o (fun z => by rw [z, hx] at e; cases e) (X a o e)
theorem ldC {M : Model} {s : Shared} {name : Str} {scope : Scope} {L a : Addr} {cd : Value} {m : Str → Option Value} {x : Str} {pos : Pos} {v : Value} {Q : Value → Shared → Prop} {A : Around} {E : Value → Shared → Prop} (hn : s.heap.Ns L m) (hv : m x = some v) (h : Q v s)
    (hk : scope.kind = .function := by rfl) (hl : (envOfC name scope L a cd).kindOf x = some .local := by rfl) (hd : (x == ("__debug__" : Str)) = false := by decide) :
    wpAny M A (eval (.Name x pos) (envOfC name scope L a cd)) Q E s := wpAny_Name (wpAny_loadName_local hk hl hn hv h) hd
/-- what __init__ leaves of a fresh exception at x -/
structure InitEnd (h h' : Heap) (x C dx t1 : Addr) (v : Value) : Prop where
  keep : ∀ b o, b ≠ x → h.get? b = some o → h'.get? b = some o
  obj : h'.get? x = some { cls := .ref C, dict := some dx, data := .fields #[.ref t1, .none, .none, .none, .bool false, .none] }
  dbig : h.objs.size ≤ dx
  dne : dx ≠ x
  ns : h'.Ns1 dx (fun y => if y = "reason" then some v else none)
/-- a made Low -/
structure OwnMade (h h' : Heap) (e C d : Addr) (v : Value) : Prop where
  keep : ∀ b o, h.get? b = some o → h'.get? b = some o
  new : h.objs.size ≤ e
  obj : ∃ oe vs, h'.get? e = some oe ∧ oe.cls = .ref C ∧ oe.dict = some d ∧ oe.data = .fields vs ∧ vs[1]? = some .none
  dbig : h.objs.size ≤ d
  dne : d ≠ e
  ns : h'.Ns1 d (fun y => if y = "reason" then some v else none)
section
variable {prog : Program} {w : World} {A : Around} {E : Value → Shared → Prop} {R : Result → Shared → Prop} {s : Shared} {K : Frag} {mg : Str → Option Value} {C fI : Addr}
theorem imp_init (T : ImpTxt K mg C fI) {x t0 : Addr} {v : Value} (X : K.In s.heap) (hlim : s.heap.NoLimit) (hx : s.heap.get? x = some (excO C t0)) (hnx : K.lookup x = none) (hroom : A.depth < recursionLimit)
    (hq : ∀ h' tk dx, InitEnd s.heap h' x C dx t0 v → R (.ok (.ret .none)) { s with heap := h', toks := tk }) :
    codeAny (model prog w) A (.call (.ref fI) ⟨[.ref x, v], []⟩) R s := by
  obtain ⟨oc, od, doc, pm, an, cdv, ct, osl, p1, p2, q1, q2, q3, q4, ho, hcd⟩ := T.fn
  obtain ⟨nm, q, N, bs, bm, sn, sub, ab, col, dd, k0, k1, k2, k3, k5, hC, hbm⟩ := T.cls
  have hcl : clsIn K C = some { name := nm, bases := bs, mro := .ref C :: bm, ns := N, qualname := q, hasDict := true, slotNames := sn, subclasses := sub, abstract := ab, collection := col, hasDel := false } := by unfold clsIn; rw [hC] <;> rfl
  refine Att.call_fn (binds := [("self", .ref x), ("reason", v)]) X hlim ho hcd hroom (BindsTo.of_eq (by first | rfl | with_unfolding_all rfl)) (by first | rfl | decide | with_unfolding_all rfl) (fun s₁ IC => ?_) rfl rfl rfl
  obtain ⟨h₁, tk₁, rfl⟩ := IC.toInCall.same
  have k : ∀ b o, s.heap.get? b = some o → h₁.get? b = some o := IC.toInCall.keep
  have hn := IC.toInCall.ns
  have hxL : s.heap.objs.size ≠ x := Nat.ne_of_gt (Heap.lt_size hx)
  have X₁ : K.In h₁ := X.keeps k
  have hx₁ := k _ _ hx
  -- self.by = by
  show wpAny _ _ (execs _ _) _ _ _
  refine wpAny_execs_cons (plainObj_wpAny_Assign_Attribute ?_)
  refine ldC (v := v) hn (by first | rfl | with_unfolding_all rfl | kernel_rfl) (ldC (v := .ref x) hn (by first | rfl | with_unfolding_all rfl | kernel_rfl) ?_)
  refine set_plain X₁ (ox := excO C t0) (od := none) ⟨hx₁, rfl, rfl, trivial⟩ T.sa ?_
  refine exc_osa X₁ hx₁ hcl (show refsVE (.ref C :: bm) = true from hbm) rfl T.noN (fun h₃ tk₃ dx k₃ dn dne hx₃ hn₃ => ?_)
  show wpAny _ _ (execs _ _) _ _ _
  have z : s.heap.objs.size < h₁.objs.size := hn.lt
  exact wpAny_execs_nil (hq h₃ tk₃ dx ⟨fun b o hb e => k₃ b o hb (k b o e), hx₃, Nat.le_of_lt (Nat.lt_of_lt_of_le z dn), dne, hn₃⟩)
theorem imp_made (T : ImpTxt K mg C fI) {v : Value} (X : K.In s.heap) (hlim : s.heap.NoLimit) (hroom : A.depth + 1 < recursionLimit)
    (hq : ∀ h' tk e d, OwnMade s.heap h' e C d v → R (.ok (.ret (.ref e))) { s with heap := h', toks := tk }) :
    codeAny (model prog w) A (.call (.ref C) ⟨[v], []⟩) R s := by
  obtain ⟨nm, q, N, bs, bm, sn, sub, ab, col, dd, k0, k1, k2, k3, k5, hC, hbm⟩ := T.cls
  obtain ⟨hp, g, dr, tk, os⟩ := s
  have k : ∀ b o, hp.get? b = some o → ((hp.push (kdv_tup [v])).push (excO C hp.objs.size)).get? b = some o := fun b o e => Heap.get?_push_of_some _ (Heap.get?_push_of_some _ e)
  have hget : ((hp.push (kdv_tup [v])).push (excO C hp.objs.size)).get? (hp.objs.size + 1) = some (excO C hp.objs.size) := by heap_get
  have hnx : K.lookup (hp.objs.size + 1) = none := by
    cases e : K.lookup (hp.objs.size + 1) with
    | none => rfl
    | some o =>
      have z : hp.get? (hp.objs.size + 1) = some o := X _ _ e
      exact absurd (Nat.lt_of_succ_lt (Heap.lt_size z)) (Nat.lt_irrefl _)
  refine call_own F.excBase_ValueError (fun X => refsVE_contains X bm hbm) (X _ _ hC) (looks_findIn X T.iC) (fun self => bind_fn X self T.tC) (one_size v) ?_
  refine imp_init (s := ⟨(hp.push (kdv_tup [v])).push (excO C hp.objs.size), g, dr, tk, os⟩) T (X.keeps k) (hlim.keeps k) hget hnx ?_ fun h' tk' dx ⟨k', hx, dn, dne, hns⟩ => ?_
  · show A.depth + 1 < recursionLimit
    exact hroom
  · have old : ∀ b o, hp.get? b = some o → h'.get? b = some o := fun b o e => k' b o (Nat.ne_of_lt (Nat.lt_succ_of_lt (Heap.lt_size e))) (k b o e)
    have z : hp.objs.size + 1 + 1 ≤ dx := by
      first
        | (simpa only [Heap.size_push] using dn)
        | exact dn
        | (have q := dn; rw [Heap.size_push, Heap.size_push] at q; exact q)
    exact ⟨rfl, hq h' tk' (hp.objs.size + 1) dx ⟨old, Nat.le_succ _, ⟨_, _, hx, rfl, rfl, rfl, rfl⟩, Nat.le_trans (Nat.le_trans (Nat.le_succ _) (Nat.le_succ _)) z, dne, hns⟩⟩
end
end ImpX
end PySem
namespace L2
open PySem PySem.Spec PyProof.Rows
theorem relO_imp {v : V} {v' : Value} (r : RelV v v') (f : Str) : RelO (List.lookup f [(("reason" : Str), v)]) (if f = "reason" then some v' else none) := by
  by_cases hw : f = "reason"
  · subst hw
    rw [if_pos rfl]
    have q : List.lookup ("reason" : Str) [(("reason" : Str), v)] = some v := by simp [List.lookup]
    rw [q]
    exact r
  · rw [if_neg hw]
    have qw : (f == ("reason" : Str)) = false := by simpa using hw
    have q2 : List.lookup f [(("reason" : Str), v)] = none := by simp [List.lookup, qw]
    rw [q2]
    trivial
section
variable {X : Cx} {C fI : Addr}
/-- Low(e) -/
def tMkImp (C : Addr) (ta : TA) : St → Hp → XK → Prop := fun σ H Q => ta σ H fun vs H1 => ∃ v, vs = [v] ∧ ∀ d, H1 d = none → Q (.ref C) (some d) (upd H1 d (.xd [(("reason" : Str), v)]))
theorem pmk_imp {a : Expr} {ta : TA} {p pos : Pos} {k : Nat} (T : PySem.ImpX.ImpTxt X.K X.mg C fI) (hr : Room k X.A) (ha : PA X [a] ta) (hg : Gl X "Impossible" := by rfl)
    (he : starEach (a :: []) X.env = (false, eval a X.env) :: starEach [] X.env := by rfl) (hpl : (backTo pos (starEach [] X.env)).any (·.1) = false := by rfl) :
    PMk X (.Call (.Name "Impossible" p) [a] [] pos) (tMkImp C ta) := by
  intro pins s σ H Q I h
  refine wpAny_Call_Name_kw (ld_glob I hg T.gC ?_)
  refine PySem.W.callWith_K (h₀ := X.base) I.ok.mod.kin T.kC (thn (ha.run pos pins s σ H _ I h) fun us s1 hh => ?_) he hpl
  obtain ⟨vs, H1, I1, r1, v, ev, q1⟩ := hh
  subst ev
  refine ⟨I1.kIn, ?_⟩
  cases r1 with
  | cons rv rn =>
    rename_i v' us'
    cases rn
    show wpAny _ _ (call (.ref C) [v']) _ _ _
    have hlim := I1.nolimit
    obtain ⟨hp, g, dr, tk, os⟩ := s1
    refine wpAny_call (PySem.ImpX.imp_made T I1.kIn hlim (by have := hr.dp; omega) fun h' tk' e d M => ?_)
    show MkP X pins σ Q (.ref e) ⟨h', g, dr, tk', os⟩
    obtain ⟨oe, fv, hoe, hc, hd, hdat, h1⟩ := M.obj
    have hns := M.ns
    obtain ⟨G', g1, g2⟩ := restrict h' fun b => decide (b ≠ e)
    have gk : ∀ b, b ≠ e → G'.get? b = h'.get? b := fun b hb => g1 b (decide_eq_true hb)
    have ge : G'.get? e = none := g2 e (by simp)
    have old : ∀ b o, hp.get? b = some o → G'.get? b = some o := fun b o q => (gk b (Nat.ne_of_lt (Nat.lt_of_lt_of_le (Heap.lt_size q) M.new))).trans (M.keep b o q)
    have ob : ObjOk X.prog X.w (upd H1 d (.xd [(("reason" : Str), v)])) G' d (.xd [(("reason" : Str), v)]) :=
      ⟨_, hns.at (fun o q => (gk d M.dne).trans q), fun f => relO_imp rv f⟩
    have J : Inv X pins σ (upd H1 d (.xd [(("reason" : Str), v)])) ⟨G', g, dr, tk', os⟩ := I1.laid (t' := tk') old M.dbig ob
    refine ⟨e, oe, fv, ⟨G', g, dr, tk', os⟩, _, .ref C, some d, rfl, J, fun b o q => ?_, ge, hoe, ⟨hc, hd⟩, hdat, h1, ?_, rfl, I1.bare, raises_own T.exC T.tyC, q1 d (I1.hok.fresh M.dbig)⟩
    · by_cases hb : b = e
      · have q' : G'.get? b = some o := q
        rw [hb, ge] at q'; cases q'
      · exact (gk b hb).symm.trans q
    · rw [upd_ne (Ne.symm M.dne)]
      exact I1.hok.fresh M.new
/-- raise Low(e) -/
def tRaiseImp (C : Addr) (W : WX) (ta : TA) : TS := fun _ σ H => tMkImp C ta σ H fun cls d H' => W cls d σ H'
theorem ps_raiseImp {a : Expr} {ta : TA} {W : WX} {p pos pos2 : Pos} {k : Nat} (hc : X.calm = true) (T : PySem.ImpX.ImpTxt X.K X.mg C fI) (hr : Room k X.A) (tk : Takes X W) (ha : PA X [a] ta) (hg : Gl X "Impossible" := by rfl)
    (he : starEach (a :: []) X.env = (false, eval a X.env) :: starEach [] X.env := by rfl) (hpl : (backTo pos (starEach [] X.env)).any (·.1) = false := by rfl) :
    PS X (.Raise (some (.Call (.Name "Impossible" p) [a] [] pos)) none pos2) (tRaiseImp C W ta) := ps_raise hc tk (pmk_imp T hr ha hg he hpl)
end
end L2

set_option Elab.async false
set_option linter.all false
set_option maxRecDepth 100000
set_option maxHeartbeats 4000000
/-! Own errors with one field (after the guide's own page on them). -/
namespace PySem
namespace TxtX
open PySem.W PySem.Calls PyProof.Rows PySem.HandSPX
/-! ### the text of __init__ -/
def iA (p1 p2 : Pos) : Arguments := { posonlyargs := [], args := [{ arg := "self", annotation := none, pos := p1 }, { arg := "at", annotation := none, pos := p2 }], vararg := none, kwonlyargs := [], kw_defaults := [], kwarg := none, defaults := [] }
def iB (q1 q2 q3 q4 : Pos) : List Stmt := [.Assign [.Attribute (.Name "self" q1) "at" q2] (.Name "at" q3) q4]
def iS : Scope := { kind := .function, names := [(PySem.Str.ofString "self", .local), (PySem.Str.ofString "at", .local)], isGenerator := false, isCoroutine := false, more := [] }
/-- what the written part says of Low, at C, and of its __init__, at fI -/
structure TxtTxt (K : Frag) (mg : Str → Option Value) (C fI : Addr) : Prop where
  gC : mg "NoText" = some (.ref C)
  cls : ∃ nm q N bs bm sn sub ab col dd k0 k1 k2 k3 k5, K.lookup C = some (excClassObj nm q C N bs bm true sn sub ab col dd k0 k1 k2 k3 k5 "ValueError.__new__") ∧ refsVE bm = true
  sa : findIn K (.ref C) "__setattr__" = some (some (.builtin "object.__setattr__"))
  ga : findIn K (.ref C) "__getattribute__" = some (some (.builtin "BaseException.__getattribute__"))
  gg : findIn K (.ref C) "__getattr__" = some none
  noN : findIn K (.ref C) "at" = some none
  iC : findIn K (.ref C) "__init__" = some (some (.ref fI))
  tC : typeIn K (.ref fI) = some (.type "function")
  kC : keepIn K (.ref C) = true
  exC : subIn K (.ref C) (.type "BaseException") = some true
  tyC : typeIn K (.ref C) = some (.type "type")
  hdC : hasDictIn K C = true
  te : exmOne K (.ref C) (.ref C) = some true
  fn : ∃ (oc : Value) (od : Option Addr) (doc pm : Value) (an : Option Addr) (cdv ct : Value) (osl : Array (Option Value)) (p1 p2 q1 q2 q3 q4 : Pos),
    K.lookup fI = some ⟨oc, od, .func (fnOf "__init__" "NoText.__init__" (iA p1 p2) (iB q1 q2 q3 q4) iS .none .none doc pm an cdv ct), osl⟩ ∧ codeIn K cdv "NoText.__init__" = true
theorem one_size (v : Value) : [v].length ≤ sizeLine := by
  rw [sizeLine_eq]
  exact (by decide : 1 ≤ 16777216)
theorem kept_but {K : Frag} {h h' : Heap} {x : Addr} (X : K.In h) (hx : K.lookup x = none) (k : ∀ b o, b ≠ x → h.get? b = some o → h'.get? b = some o) : K.In h' := fun a o e =>
  k a o (fun z => by rw [z, hx] at e; cases e) (X a o e)
theorem ldC {M : Model} {s : Shared} {name : Str} {scope : Scope} {L a : Addr} {cd : Value} {m : Str → Option Value} {x : Str} {pos : Pos} {v : Value} {Q : Value → Shared → Prop} {A : Around} {E : Value → Shared → Prop} (hn : s.heap.Ns L m) (hv : m x = some v) (h : Q v s)
    (hk : scope.kind = .function := by rfl) (hl : (envOfC name scope L a cd).kindOf x = some .local := by rfl) (hd : (x == ("__debug__" : Str)) = false := by decide) :
    wpAny M A (eval (.Name x pos) (envOfC name scope L a cd)) Q E s := wpAny_Name (wpAny_loadName_local hk hl hn hv h) hd
/-- what __init__ leaves of a fresh exception at x -/
structure InitEnd (h h' : Heap) (x C dx t1 : Addr) (v : Value) : Prop where
  keep : ∀ b o, b ≠ x → h.get? b = some o → h'.get? b = some o
  obj : h'.get? x = some { cls := .ref C, dict := some dx, data := .fields #[.ref t1, .none, .none, .none, .bool false, .none] }
  dbig : h.objs.size ≤ dx
  dne : dx ≠ x
  ns : h'.Ns1 dx (fun y => if y = "at" then some v else none)
/-- a made Low -/
structure OwnMade (h h' : Heap) (e C d : Addr) (v : Value) : Prop where
  keep : ∀ b o, h.get? b = some o → h'.get? b = some o
  new : h.objs.size ≤ e
  obj : ∃ oe vs, h'.get? e = some oe ∧ oe.cls = .ref C ∧ oe.dict = some d ∧ oe.data = .fields vs ∧ vs[1]? = some .none
  dbig : h.objs.size ≤ d
  dne : d ≠ e
  ns : h'.Ns1 d (fun y => if y = "at" then some v else none)
section
variable {prog : Program} {w : World} {A : Around} {E : Value → Shared → Prop} {R : Result → Shared → Prop} {s : Shared} {K : Frag} {mg : Str → Option Value} {C fI : Addr}
theorem txt_init (T : TxtTxt K mg C fI) {x t0 : Addr} {v : Value} (X : K.In s.heap) (hlim : s.heap.NoLimit) (hx : s.heap.get? x = some (excO C t0)) (hnx : K.lookup x = none) (hroom : A.depth < recursionLimit)
    (hq : ∀ h' tk dx, InitEnd s.heap h' x C dx t0 v → R (.ok (.ret .none)) { s with heap := h', toks := tk }) :
    codeAny (model prog w) A (.call (.ref fI) ⟨[.ref x, v], []⟩) R s := by
  obtain ⟨oc, od, doc, pm, an, cdv, ct, osl, p1, p2, q1, q2, q3, q4, ho, hcd⟩ := T.fn
  obtain ⟨nm, q, N, bs, bm, sn, sub, ab, col, dd, k0, k1, k2, k3, k5, hC, hbm⟩ := T.cls
  have hcl : clsIn K C = some { name := nm, bases := bs, mro := .ref C :: bm, ns := N, qualname := q, hasDict := true, slotNames := sn, subclasses := sub, abstract := ab, collection := col, hasDel := false } := by unfold clsIn; rw [hC] <;> rfl
  refine Att.call_fn (binds := [("self", .ref x), ("at", v)]) X hlim ho hcd hroom (BindsTo.of_eq (by first | rfl | with_unfolding_all rfl)) (by first | rfl | decide | with_unfolding_all rfl) (fun s₁ IC => ?_) rfl rfl rfl
  obtain ⟨h₁, tk₁, rfl⟩ := IC.toInCall.same
  have k : ∀ b o, s.heap.get? b = some o → h₁.get? b = some o := IC.toInCall.keep
  have hn := IC.toInCall.ns
  have hxL : s.heap.objs.size ≠ x := Nat.ne_of_gt (Heap.lt_size hx)
  have X₁ : K.In h₁ := X.keeps k
  have hx₁ := k _ _ hx
  -- self.by = by
  show wpAny _ _ (execs _ _) _ _ _
  refine wpAny_execs_cons (plainObj_wpAny_Assign_Attribute ?_)
  refine ldC (v := v) hn (by first | rfl | with_unfolding_all rfl | kernel_rfl) (ldC (v := .ref x) hn (by first | rfl | with_unfolding_all rfl | kernel_rfl) ?_)
  refine set_plain X₁ (ox := excO C t0) (od := none) ⟨hx₁, rfl, rfl, trivial⟩ T.sa ?_
  refine exc_osa X₁ hx₁ hcl (show refsVE (.ref C :: bm) = true from hbm) rfl T.noN (fun h₃ tk₃ dx k₃ dn dne hx₃ hn₃ => ?_)
  show wpAny _ _ (execs _ _) _ _ _
  have z : s.heap.objs.size < h₁.objs.size := hn.lt
  exact wpAny_execs_nil (hq h₃ tk₃ dx ⟨fun b o hb e => k₃ b o hb (k b o e), hx₃, Nat.le_of_lt (Nat.lt_of_lt_of_le z dn), dne, hn₃⟩)
theorem txt_made (T : TxtTxt K mg C fI) {v : Value} (X : K.In s.heap) (hlim : s.heap.NoLimit) (hroom : A.depth + 1 < recursionLimit)
    (hq : ∀ h' tk e d, OwnMade s.heap h' e C d v → R (.ok (.ret (.ref e))) { s with heap := h', toks := tk }) :
    codeAny (model prog w) A (.call (.ref C) ⟨[v], []⟩) R s := by
  obtain ⟨nm, q, N, bs, bm, sn, sub, ab, col, dd, k0, k1, k2, k3, k5, hC, hbm⟩ := T.cls
  obtain ⟨hp, g, dr, tk, os⟩ := s
  have k : ∀ b o, hp.get? b = some o → ((hp.push (kdv_tup [v])).push (excO C hp.objs.size)).get? b = some o := fun b o e => Heap.get?_push_of_some _ (Heap.get?_push_of_some _ e)
  have hget : ((hp.push (kdv_tup [v])).push (excO C hp.objs.size)).get? (hp.objs.size + 1) = some (excO C hp.objs.size) := by heap_get
  have hnx : K.lookup (hp.objs.size + 1) = none := by
    cases e : K.lookup (hp.objs.size + 1) with
    | none => rfl
    | some o =>
      have z : hp.get? (hp.objs.size + 1) = some o := X _ _ e
      exact absurd (Nat.lt_of_succ_lt (Heap.lt_size z)) (Nat.lt_irrefl _)
  refine call_own F.excBase_ValueError (fun X => refsVE_contains X bm hbm) (X _ _ hC) (looks_findIn X T.iC) (fun self => bind_fn X self T.tC) (one_size v) ?_
  refine txt_init (s := ⟨(hp.push (kdv_tup [v])).push (excO C hp.objs.size), g, dr, tk, os⟩) T (X.keeps k) (hlim.keeps k) hget hnx ?_ fun h' tk' dx ⟨k', hx, dn, dne, hns⟩ => ?_
  · show A.depth + 1 < recursionLimit
    exact hroom
  · have old : ∀ b o, hp.get? b = some o → h'.get? b = some o := fun b o e => k' b o (Nat.ne_of_lt (Nat.lt_succ_of_lt (Heap.lt_size e))) (k b o e)
    have z : hp.objs.size + 1 + 1 ≤ dx := by
      first
        | (simpa only [Heap.size_push] using dn)
        | exact dn
        | (have q := dn; rw [Heap.size_push, Heap.size_push] at q; exact q)
    exact ⟨rfl, hq h' tk' (hp.objs.size + 1) dx ⟨old, Nat.le_succ _, ⟨_, _, hx, rfl, rfl, rfl, rfl⟩, Nat.le_trans (Nat.le_trans (Nat.le_succ _) (Nat.le_succ _)) z, dne, hns⟩⟩
end
end TxtX
end PySem
namespace L2
open PySem PySem.Spec PyProof.Rows
theorem relO_txt {v : V} {v' : Value} (r : RelV v v') (f : Str) : RelO (List.lookup f [(("at" : Str), v)]) (if f = "at" then some v' else none) := by
  by_cases hw : f = "at"
  · subst hw
    rw [if_pos rfl]
    have q : List.lookup ("at" : Str) [(("at" : Str), v)] = some v := by simp [List.lookup]
    rw [q]
    exact r
  · rw [if_neg hw]
    have qw : (f == ("at" : Str)) = false := by simpa using hw
    have q2 : List.lookup f [(("at" : Str), v)] = none := by simp [List.lookup, qw]
    rw [q2]
    trivial
section
variable {X : Cx} {C fI : Addr}
/-- Low(e) -/
def tMkTxt (C : Addr) (ta : TA) : St → Hp → XK → Prop := fun σ H Q => ta σ H fun vs H1 => ∃ v, vs = [v] ∧ ∀ d, H1 d = none → Q (.ref C) (some d) (upd H1 d (.xd [(("at" : Str), v)]))
theorem pmk_txt {a : Expr} {ta : TA} {p pos : Pos} {k : Nat} (T : PySem.TxtX.TxtTxt X.K X.mg C fI) (hr : Room k X.A) (ha : PA X [a] ta) (hg : Gl X "NoText" := by rfl)
    (he : starEach (a :: []) X.env = (false, eval a X.env) :: starEach [] X.env := by rfl) (hpl : (backTo pos (starEach [] X.env)).any (·.1) = false := by rfl) :
    PMk X (.Call (.Name "NoText" p) [a] [] pos) (tMkTxt C ta) := by
  intro pins s σ H Q I h
  refine wpAny_Call_Name_kw (ld_glob I hg T.gC ?_)
  refine PySem.W.callWith_K (h₀ := X.base) I.ok.mod.kin T.kC (thn (ha.run pos pins s σ H _ I h) fun us s1 hh => ?_) he hpl
  obtain ⟨vs, H1, I1, r1, v, ev, q1⟩ := hh
  subst ev
  refine ⟨I1.kIn, ?_⟩
  cases r1 with
  | cons rv rn =>
    rename_i v' us'
    cases rn
    show wpAny _ _ (call (.ref C) [v']) _ _ _
    have hlim := I1.nolimit
    obtain ⟨hp, g, dr, tk, os⟩ := s1
    refine wpAny_call (PySem.TxtX.txt_made T I1.kIn hlim (by have := hr.dp; omega) fun h' tk' e d M => ?_)
    show MkP X pins σ Q (.ref e) ⟨h', g, dr, tk', os⟩
    obtain ⟨oe, fv, hoe, hc, hd, hdat, h1⟩ := M.obj
    have hns := M.ns
    obtain ⟨G', g1, g2⟩ := restrict h' fun b => decide (b ≠ e)
    have gk : ∀ b, b ≠ e → G'.get? b = h'.get? b := fun b hb => g1 b (decide_eq_true hb)
    have ge : G'.get? e = none := g2 e (by simp)
    have old : ∀ b o, hp.get? b = some o → G'.get? b = some o := fun b o q => (gk b (Nat.ne_of_lt (Nat.lt_of_lt_of_le (Heap.lt_size q) M.new))).trans (M.keep b o q)
    have ob : ObjOk X.prog X.w (upd H1 d (.xd [(("at" : Str), v)])) G' d (.xd [(("at" : Str), v)]) :=
      ⟨_, hns.at (fun o q => (gk d M.dne).trans q), fun f => relO_txt rv f⟩
    have J : Inv X pins σ (upd H1 d (.xd [(("at" : Str), v)])) ⟨G', g, dr, tk', os⟩ := I1.laid (t' := tk') old M.dbig ob
    refine ⟨e, oe, fv, ⟨G', g, dr, tk', os⟩, _, .ref C, some d, rfl, J, fun b o q => ?_, ge, hoe, ⟨hc, hd⟩, hdat, h1, ?_, rfl, I1.bare, raises_own T.exC T.tyC, q1 d (I1.hok.fresh M.dbig)⟩
    · by_cases hb : b = e
      · have q' : G'.get? b = some o := q
        rw [hb, ge] at q'; cases q'
      · exact (gk b hb).symm.trans q
    · rw [upd_ne (Ne.symm M.dne)]
      exact I1.hok.fresh M.new
/-- raise Low(e) -/
def tRaiseTxt (C : Addr) (W : WX) (ta : TA) : TS := fun _ σ H => tMkTxt C ta σ H fun cls d H' => W cls d σ H'
theorem ps_raiseTxt {a : Expr} {ta : TA} {W : WX} {p pos pos2 : Pos} {k : Nat} (hc : X.calm = true) (T : PySem.TxtX.TxtTxt X.K X.mg C fI) (hr : Room k X.A) (tk : Takes X W) (ha : PA X [a] ta) (hg : Gl X "NoText" := by rfl)
    (he : starEach (a :: []) X.env = (false, eval a X.env) :: starEach [] X.env := by rfl) (hpl : (backTo pos (starEach [] X.env)).any (·.1) = false := by rfl) :
    PS X (.Raise (some (.Call (.Name "NoText" p) [a] [] pos)) none pos2) (tRaiseTxt C W ta) := ps_raise hc tk (pmk_txt T hr ha hg he hpl)
end
end L2

set_option Elab.async false
set_option linter.all false
set_option maxRecDepth 100000
set_option maxHeartbeats 4000000
/-! Own layer: defs that may raise, and their calls. -/
namespace L2
open ClX
open PySem PySem.Spec PyProof.Rows
structure OkX (P : Program) (w : World) (K : PySem.W.Frag) (mg : Str → Option Value) (base : Heap) (k : Nat) (f : Addr) (ps : List Str) (sp : Sp) : Prop where
  ex : ∃ fd, FnOk P w K mg base (L2.CX P w) k f fd ps sp ∧ Binds K fd ps []
  kp : PySem.W.keepIn K (.ref f) = true
/-- the same by one keyword (its last parameter) -/
structure OkXK (P : Program) (w : World) (K : PySem.W.Frag) (mg : Str → Option Value) (base : Heap) (k : Nat) (f : Addr) (ps : List Str) (kw : Str) (sp : Sp) : Prop where
  ex : ∃ fd, FnOk P w K mg base (L2.CX P w) k f fd ps sp ∧ KBinds K fd ps [kw] (fun us ws => glue1 us ws) (fun vs zs => glue1 vs zs)
section
variable {P : Program} {w : World} {K : PySem.W.Frag} {mg : Str → Option Value} {base : Heap}
theorem FnT.okX {x qual : Str} {st : Stmt} {f : Addr} {N ps : List Str} {k : Nat} {sp : Sp} (h : FnT K x qual st f) (S : FnScope N ps (defScope st)) (hb : BindsAll st x qual ps)
    (len : ∀ vs H Q E, sp vs H Q E → vs.length = ps.length)
    (body : ∀ (cdv : Value) (A : Around) (outer : List Env) (s : Shared) (H : Hp) (vs : List V) (Q : VK) (E : XK), Room k (A.deeper (envOfC qual (defScope st) s.heap.objs.size f cdv)) → sp vs H Q E →
      ∃ t, PSs (cxOf (L2.CX P w) P w K mg base N qual (defScope st) f cdv A outer s H E) (defBody st) t ∧ t { nx := fun _ H' => Q .non H', rt := Q } (start N vs) H) :
    OkX P w K mg base (k + 1) f ps sp := by
  obtain ⟨fd, F⟩ := h.ex
  exact ⟨⟨fd, F.okX S len body, F.binds hb⟩, F.kp⟩
theorem FnT.okXK {x qual kw p0 : Str} {st : Stmt} {f : Addr} {N : List Str} {k : Nat} {sp : Sp} (h : FnT K x qual st f) (S : FnScope N [p0, kw] (defScope st))
    (hb : ∀ (kV doc pm : Value) (an : Option Addr) (cdv ct u v : Value), bindArgs (PySem.W.fnOf x qual (defArgs st) (defBody st) (defScope st) .none kV doc pm an cdv ct) ⟨[u], [(kw, v)]⟩ = pure [(p0, u), (kw, v)])
    (len : ∀ vs H Q E, sp vs H Q E → vs.length = 2)
    (body : ∀ (cdv : Value) (A : Around) (outer : List Env) (s : Shared) (H : Hp) (vs : List V) (Q : VK) (E : XK), Room k (A.deeper (envOfC qual (defScope st) s.heap.objs.size f cdv)) → sp vs H Q E →
      ∃ t, PSs (cxOf (L2.CX P w) P w K mg base N qual (defScope st) f cdv A outer s H E) (defBody st) t ∧ t { nx := fun _ H' => Q .non H', rt := Q } (start N vs) H) :
    OkXK P w K mg base (k + 1) f [p0, kw] kw sp := by
  obtain ⟨fd, F⟩ := h.ex
  refine ⟨fd, F.okX S len body, F.kbinds 1 [kw] glue1 (fun us ws hl => ?_) (fun r q => ?_) fun kV doc pm an cdv ct us ws h1 h2 => ?_⟩
  · unfold glue1 at hl
    split at hl
    · assumption
    · cases hl
  · unfold glue1
    rw [r.length, q.length]
    split
    · exact r.append q
    · exact .nil
  · match us, h1, ws, h2 with
    | [u], _, [v], _ => exact hb kV doc pm an cdv ct u v
end
/-! ### who takes what is raised: nobody (it is not raised), the def's own callers, a try around -/
section
variable {X : Cx}
theorem atL {σ : St} : PassesAt (L2.CX X.prog X.w) X σ E0 := fun pins H s e s' I c => passL pins σ H s e s' I c
theorem atE {E : XK} (tk : Takes X (fun cls d _ H => E cls d H)) {σ : St} : PassesAt (L2.CX X.prog X.w) X σ E := fun _ _ _ e s' I c => tk e s' (XE.of_call I (fun _ _ _ h => h) c)
end
section
variable {X : Cx} {CX : CXT} {k : Nat} {f C : Addr} {fd : FuncData} {ps : List Str} {kw : Str} {sp : Sp} {E : St → XK} {x m : Str} {p pos apos : Pos} {e o : Expr} {es : List Expr} {kws : List Keyword} {ta : TE} {t tk : TA}
theorem px_call (G : OkX X.prog X.w X.K X.mg X.base k f ps sp) (hx : ∀ σ, PassesAt (L2.CX X.prog X.w) X σ (E σ)) (hr : Room k X.A) (hm : X.mg x = some (.ref f)) (ha : PA X (e :: es) t) (hg : Gl X x := by rfl)
    (hdb : (x == ("__debug__" : Str)) = false := by decide) (he : starEach (e :: es) X.env = (false, eval e X.env) :: starEach es X.env := by rfl) (hpl : (backTo pos (starEach es X.env)).any (·.1) = false := by rfl) :
    PE X (.Call (.Name x p) (e :: es) [] pos) (tCallS sp E t) := by
  obtain ⟨⟨fd, F, b⟩, kp⟩ := G
  exact pe_callS F hr hg hm kp b hx ha hdb he hpl
/-- a method's call by positions; what it raises is wished for at the slots -/
def oMeth (C : Addr) (m : Str) (sp : Sp) (E : St → XK) (ta : TE) (t : TA) : TE := fun σ H Q => ta σ H fun x H1 => ∃ a dx fs, x = .ref a ∧ H1 a = some (.ins C dx fs) ∧ fs.lookup m = none ∧ t σ H1 fun vs H2 => sp (x :: vs) H2 Q (E σ)
def oMethK (C : Addr) (m : Str) (sp : Sp) (E : St → XK) (ta : TE) (tk : TA) : TE := fun σ H Q => ta σ H fun x H1 => ∃ a dx fs, x = .ref a ∧ H1 a = some (.ins C dx fs) ∧ fs.lookup m = none ∧ tk σ H1 fun zs H2 => sp (glue1 [x] zs) H2 Q (E σ)
theorem px_meth {pl : Sem Bool} (c : Cls X.K C) (hm : Meth X.K C m f) (G : OkX X.prog X.w X.K X.mg X.base k f ps sp) (hx : ∀ σ, PassesAt (L2.CX X.prog X.w) X σ (E σ)) (hr : Room k X.A) (he : PE X o ta) (ha : PA X (e :: es) t)
    (hst : starEach (e :: es) X.env = (false, eval e X.env) :: starEach es X.env := by rfl) (hpl : (backTo pos (starEach es X.env)).any (·.1) = false := by rfl)
    (ht : eval (.Call (.Attribute o m apos) (e :: es) [] pos) X.env = (do
      let ov ← eval o X.env
      standAt apos.atName
      let (f, first) ← holding [ov] (getMethod ov m pl)
      callWith pos f first (backTo pos (starEach (e :: es) X.env)) (backToKw pos (keywordEach [] X.env))) := by rfl) :
    PE X (.Call (.Attribute o m apos) (e :: es) [] pos) (oMeth C m sp E ta t) := by
  obtain ⟨⟨fd, F, b⟩, kp⟩ := G
  refine ⟨fun pn s σ H Q I h => PySem.W.methodCall_KW (pl := pl) (thn (he.run pn s σ H _ I h) fun u s1 ⟨x, H1, I1, rx, a, dx, fs, ex, ea, l, q⟩ => ?_) ht⟩
  subst ex
  cases rx
  refine getmeth_ok I1 ea c hm l (PySem.W.callWith_K (first := [.ref a]) (h₀ := X.base) I.ok.mod.kin hm.kp (thn (ha.run pos pn s1 σ H1 _ I1 q) fun us s2 ⟨vs, H2, I2, r, q2⟩ => ⟨I2.kIn, ?_⟩) hst hpl)
  exact run_fnS (us := .ref a :: us) (vs := .ref a :: vs) F hr b (hx σ) I2 (.cons rfl r) q2
theorem px_methK {pl : Sem Bool} (c : Cls X.K C) (hm : Meth X.K C m f) (G : OkXK X.prog X.w X.K X.mg X.base k f ps kw sp) (hx : ∀ σ, PassesAt (L2.CX X.prog X.w) X σ (E σ)) (hr : Room k X.A) (he : PE X o ta)
    (hkw : PK X kws tk) (hall : (backToKw pos (keywordEach kws X.env)).all (·.1.isSome) = true := by rfl) (hks : (backToKw pos (keywordEach kws X.env)).filterMap (·.1) = [kw] := by rfl)
    (hpl : ((backTo pos (starEach [] X.env)).any (·.1) || (backToKw pos (keywordEach kws X.env)).any (·.1.isNone)) = false := by rfl)
    (ht : eval (.Call (.Attribute o m apos) [] kws pos) X.env = (do
      let ov ← eval o X.env
      standAt apos.atName
      let (f, first) ← holding [ov] (getMethod ov m pl)
      callWith pos f first (backTo pos (starEach [] X.env)) (backToKw pos (keywordEach kws X.env))) := by rfl) :
    PE X (.Call (.Attribute o m apos) [] kws pos) (oMethK C m sp E ta tk) := by
  obtain ⟨fd, F, b⟩ := G.ex
  refine ⟨fun pn s σ H Q I h => PySem.W.methodCall_KW (pl := pl) (thn (he.run pn s σ H _ I h) fun u s1 ⟨x, H1, I1, rx, a, dx, fs, ex, ea, l, q⟩ => ?_) ht⟩
  subst ex
  cases rx
  refine getmeth_ok I1 ea c hm l (PySem.W.callWith_KW0 (first := [.ref a]) (h₀ := X.base) I.ok.mod.kin hm.kp hall ?_ hpl)
  refine thn (hkw.run pos pn s1 σ H1 _ I1 q) fun ws s2 ⟨zs, H2, I2, rz, q2⟩ => ⟨I2.kIn, ?_⟩
  rw [hks]
  have rv : Vals (glue1 [V.ref a] zs) (glue1 [Value.ref a] ws) := b.rel (.cons rfl .nil) rz
  have hl : (glue1 [Value.ref a] ws).length = ps.length := by
    rw [← rv.length]
    exact F.len _ _ _ _ q2
  refine wpAny_call (codeAny_mono (F.run X.A X.stack s2 H2 ⟨[.ref a], [kw].zip ws⟩ (glue1 [Value.ref a] ws) (glue1 [V.ref a] zs) Q (E σ) hr I2.env0 (b.to s2 [.ref a] ws I2.kIn hl) rv q2) fun r s3 z => ?_)
  match r, z with
  | .error e2, z => exact hx σ pn H2 s2 e2 s3 I2 z
  | .ok (.ret u2), z => exact I2.after z
  | .ok .next, z => exact z.elim
  | .ok .brk, z => exact z.elim
  | .ok .cont, z => exact z.elim
end
/-! ### the classes of errors -/
structure ErrT (K : PySem.W.Frag) (C : Addr) : Prop where
  xP : PySem.W.excIn K C [.type "ValueError", .type "Exception", .type "BaseException", .type "object"] "ValueError.__new__" = true
  kp : PySem.W.keepIn K (.ref C) = true
  bP : PySem.W.subIn K (.ref C) (.type "BaseException") = some true
  tP : PySem.W.typeIn K (.ref C) = some (.type "type")
/-- isinstance's answer from a subclass's -/
theorem kit_ref {K : PySem.W.Frag} {t : Value} {C : Addr} {b : Bool} (hi : PySem.W.isClsIn K C = true) (ht : PySem.W.typeIn K (.ref C) = some (.type "type")) (hs : PySem.W.subIn K t (.ref C) = some b) (hn : t = .ref C → b = true) : PySem.W.kitOne K t (.ref C) = some b := by
  unfold PySem.W.kitOne
  by_cases e : t = .ref C
  · rw [if_pos (by rw [e]; exact beq_self_eq_true _), hn e]
  · rw [if_neg (fun z => e (eq_of_beq z))]
    have z : ((PySem.W.clsIn K C).isSome && PySem.W.typeIn K (.ref C) == some (.type "type")) = true := by
      have h2 : (PySem.W.clsIn K C).isSome = true := hi
      rw [h2, ht]
      rfl
    show (if ((PySem.W.clsIn K C).isSome && PySem.W.typeIn K (.ref C) == some (.type "type")) = true then PySem.W.subIn K t (.ref C) else none) = some b
    rw [if_pos z]
    exact hs
theorem kit_bty {K : PySem.W.Frag} {D : Addr} {T : String} {b : Bool} (hm : PySem.W.kitMeta T = true) (hs : PySem.W.subIn K (.ref D) (.type T) = some b) : PySem.W.kitOne K (.ref D) (.type T) = some b := by
  unfold PySem.W.kitOne
  rw [if_neg (fun z => by cases (eq_of_beq z))]
  show (if PySem.W.kitMeta T = true then PySem.W.subIn K (.ref D) (.type T) else none) = some b
  rw [if_pos hm]
  exact hs
end L2

/-! Own layer: comprehensions whose inner words are found by the terms. -/
namespace L2
open ClX
open PySem PySem.Spec PyProof.Rows
section
variable {X : Cx}
theorem pe_lcD {elt tg iter : Expr} {ifs : List Expr} {scope : Scope} {own : List (Str × Nat)} {pos : Pos} {wi : TI} {g' : Shared → Hp → Addr → List (Str × Addr) → List Addr → TG} {tt' : Shared → Hp → Addr → List (Str × Addr) → List Addr → TT}
    {te' : Shared → Hp → Addr → List (Str × Addr) → List Addr → TE} (hc : X.calm = true) (hN : X.N.Nodup) (hi : PI X tg iter wi) (ok : BlkOk X.N X.env.scope scope own)
    (hg : ∀ (s : Shared) (H : Hp) (C : Addr) (cl : List (Str × Addr)) (fp : List Addr), PG (X.blk s H scope (compEnvC scope cl C X.env) fp) tg (g' s H C cl fp))
    (ht : ∀ (s : Shared) (H : Hp) (C : Addr) (cl : List (Str × Addr)) (fp : List Addr), PTs (X.blk s H scope (compEnvC scope cl C X.env) fp) ifs (tt' s H C cl fp))
    (he : ∀ (s : Shared) (H : Hp) (C : Addr) (cl : List (Str × Addr)) (fp : List Addr), PE (X.blk s H scope (compEnvC scope cl C X.env) fp) elt (te' s H C cl fp))
    (eg : ∀ s H C cl fp, g' s H C cl fp = g' X.s_0 X.H_0 0 [] [] := by intro _ _ _ _ _; rfl) (et : ∀ s H C cl fp, tt' s H C cl fp = tt' X.s_0 X.H_0 0 [] [] := by intro _ _ _ _ _; rfl)
    (ee : ∀ s H C cl fp, te' s H C cl fp = te' X.s_0 X.H_0 0 [] [] := by intro _ _ _ _ _; rfl) (hs : ∀ x, foldedSetIterable iter X.env x = pure x := by intro _; rfl) :
    PE X (.ListComp elt [⟨tg, iter, ifs, 0⟩] scope pos) (tLc wi (g' X.s_0 X.H_0 0 [] []) (tt' X.s_0 X.H_0 0 [] []) (te' X.s_0 X.H_0 0 [] []) (own.map (·.2))) :=
  pe_lc hc hN hi ok (fun s H C cl fp => eg s H C cl fp ▸ hg s H C cl fp) (fun s H C cl fp => et s H C cl fp ▸ ht s H C cl fp) (fun s H C cl fp => ee s H C cl fp ▸ he s H C cl fp) hs
theorem ps_setLcD {i : Nat} {y : Str} {py : Pos} {elt tg iter : Expr} {ifs : List Expr} {scope : Scope} {own : List (Str × Nat)} {pos spos : Pos} {wi : TI} {g' : Shared → Hp → Addr → List (Str × Addr) → List Addr → TG} {tt' : Shared → Hp → Addr → List (Str × Addr) → List Addr → TT}
    {te' : Shared → Hp → Addr → List (Str × Addr) → List Addr → TE} (hc : X.calm = true) (hN : X.N.Nodup) (hy : X.N[i]? = some y) (hyl : X.env.scope.names.lookup y = some .local)
    (hsw : swapsWith (.ListComp elt [⟨tg, iter, ifs, 0⟩] scope pos) (some (.Name y py)) spos.line X.env = pure true) (hi : PI X tg iter wi) (ok : BlkOk X.N X.env.scope scope own)
    (hg : ∀ (s : Shared) (H : Hp) (C : Addr) (cl : List (Str × Addr)) (fp : List Addr), PG (X.blk s H scope (compEnvC scope cl C X.env) fp) tg (g' s H C cl fp))
    (ht : ∀ (s : Shared) (H : Hp) (C : Addr) (cl : List (Str × Addr)) (fp : List Addr), PTs (X.blk s H scope (compEnvC scope cl C X.env) fp) ifs (tt' s H C cl fp))
    (he : ∀ (s : Shared) (H : Hp) (C : Addr) (cl : List (Str × Addr)) (fp : List Addr), PE (X.blk s H scope (compEnvC scope cl C X.env) fp) elt (te' s H C cl fp))
    (eg : ∀ s H C cl fp, g' s H C cl fp = g' X.s_0 X.H_0 0 [] [] := by intro _ _ _ _ _; rfl) (et : ∀ s H C cl fp, tt' s H C cl fp = tt' X.s_0 X.H_0 0 [] [] := by intro _ _ _ _ _; rfl)
    (ee : ∀ s H C cl fp, te' s H C cl fp = te' X.s_0 X.H_0 0 [] [] := by intro _ _ _ _ _; rfl) (hs : ∀ x, foldedSetIterable iter X.env x = pure x := by intro _; rfl) :
    PS X (.Assign [.Name y py] (.ListComp elt [⟨tg, iter, ifs, 0⟩] scope pos) spos) (tAsg (tLc wi (g' X.s_0 X.H_0 0 [] []) (tt' X.s_0 X.H_0 0 [] []) (te' X.s_0 X.H_0 0 [] []) (own.map (·.2))) (gName i)) :=
  ps_setLc hc hN hy hyl hsw hi ok (fun s H C cl fp => eg s H C cl fp ▸ hg s H C cl fp) (fun s H C cl fp => et s H C cl fp ▸ ht s H C cl fp) (fun s H C cl fp => ee s H C cl fp ▸ he s H C cl fp) hs
end
/-- a def's body keeps its promise -/
def BodyX (P : Program) (w : World) (K : PySem.W.Frag) (mg : Str → Option Value) (base : Heap) (N : List Str) (qual : Str) (st : Stmt) (f : Addr) (k : Nat) (sp : Sp) : Prop :=
  ∀ (cdv : Value) (A : Around) (outer : List Env) (s : Shared) (H : Hp) (vs : List V) (Q : VK) (E : XK), Room k (A.deeper (PyProof.Rows.envOfC qual (defScope st) s.heap.objs.size f cdv)) → sp vs H Q E →
      ∃ t, PSs (cxOf (L2.CX P w) P w K mg base N qual (defScope st) f cdv A outer s H E) (defBody st) t ∧ t { nx := fun _ H' => Q .non H', rt := Q } (start N vs) H
/-! ### what isinstance asks of an instance; entries of any kind -/
structure InsT (K : PySem.W.Frag) (C : Addr) : Prop where
  ha : PySem.W.findIn K (.ref C) "__class__" = some (some (.builtin "object.__class__"))
  hn : PySem.W.specialIn K (.builtin "object.__class__") "__get__" = some (some (.builtin "getset_descriptor.__get__"))
  ht : PySem.W.takesIn K (.builtin "object.__class__") = some true
  hm : PySem.W.mroIn K C (.type "object") = some true
theorem TyOf.same {K : PySem.W.Frag} {H H' : Hp} {v : V} {t : Value} (h : TyOf K H v t) (s : Same H H') : TyOf K H' v t := by
  cases h with
  | non => exact .non
  | bl x => exact .bl x
  | int x => exact .int x
  | str x => exact .str x
  | flt x => exact .flt x
  | lst e => exact .lst (s _ _ e)
  | frz e => exact .frz (s _ _ e)
  | tup e => exact .tup (s _ _ e)
  | dK e => exact .dK (s _ _ e)
  | dT e => exact .dT (s _ _ e)
  | ins e c a b d m => exact .ins (s _ _ e) c a b d m
theorem TyX.same {K : PySem.W.Frag} {H H' : Hp} {v : V} {t : Value} (h : TyX K H v t) (s : Same H H') : TyX K H' v t := by
  cases h with
  | base b => exact .base (b.same s)
  | byt b => exact .byt b
  | set e => exact .set (s _ _ e)
  | kList e c => exact .kList e c
  | kTuple e c => exact .kTuple e c
  | kDict e c => exact .kDict e c
  | fTuple e => exact .fTuple (s _ _ e)
  | fDict e => exact .fDict (s _ _ e)
/-- an entry: a text, or something that is none -/
inductive Ent (K : PySem.W.Frag) (H : Hp) : V → Option Str → Prop where
  | str (x : Str) (h : x.length ≤ 1000) : Ent K H (.str x) (some x)
  | no {v : V} {t : Value} (ty : TyX K H v t) (h : PySem.W.kitOne K t (.type "str") = some false) : Ent K H v none
inductive Ents (K : PySem.W.Frag) (H : Hp) : List V → List (Option Str) → Prop where
  | nil : Ents K H [] []
  | cons {v : V} {o : Option Str} {vs : List V} {os : List (Option Str)} (h : Ent K H v o) (t : Ents K H vs os) : Ents K H (v :: vs) (o :: os)
theorem Ent.same {K : PySem.W.Frag} {H H' : Hp} {v : V} {o : Option Str} (h : Ent K H v o) (s : Same H H') : Ent K H' v o := by
  cases h with
  | str x h => exact .str x h
  | no ty h => exact .no (ty.same s) h
theorem Ents.same {K : PySem.W.Frag} {H H' : Hp} {vs : List V} {os : List (Option Str)} (h : Ents K H vs os) (s : Same H H') : Ents K H' vs os := by
  induction h with
  | nil => exact .nil
  | cons a _ ih => exact .cons (a.same s) ih
theorem Ents.len {K : PySem.W.Frag} {H : Hp} {vs : List V} {os : List (Option Str)} (h : Ents K H vs os) : vs.length = os.length := by
  induction h with
  | nil => rfl
  | cons _ _ ih => rw [List.length_cons, List.length_cons, ih]
theorem Ents.get {K : PySem.W.Frag} {H : Hp} {vs : List V} {os : List (Option Str)} (h : Ents K H vs os) : ∀ {i : Nat} {v : V}, vs[i]? = some v → ∃ o, os[i]? = some o ∧ Ent K H v o := by
  induction h with
  | nil => intro i v e; cases e
  | cons a _ ih =>
    intro i v e
    cases i with
    | zero => cases e; exact ⟨_, rfl, a⟩
    | succ i => exact ih e
theorem Ents.app {K : PySem.W.Frag} {H : Hp} {vs ws : List V} {os us : List (Option Str)} (h : Ents K H vs os) (g : Ents K H ws us) : Ents K H (vs ++ ws) (os ++ us) := by
  induction h with
  | nil => exact g
  | cons a _ ih => exact .cons a ih
theorem Ents.strs {K : PySem.W.Frag} {H : Hp} : ∀ (xs : List Str), (∀ x ∈ xs, x.length ≤ 1000) → Ents K H (xs.map V.str) (xs.map some)
  | [], _ => .nil
  | x :: xs, h => .cons (.str x (h x List.mem_cons_self)) (Ents.strs xs fun y hy => h y (List.mem_cons_of_mem _ hy))
/-- all entries are texts -/
theorem Ents.all {K : PySem.W.Frag} {H : Hp} {vs : List V} {os : List (Option Str)} (h : Ents K H vs os) (p : Option Str → Bool) (hp : p none = false) (a : os.all p = true) : vs = (os.filterMap id).map V.str ∧ os = (os.filterMap id).map some ∧ ∀ x ∈ os.filterMap id, x.length ≤ 1000 := by
  induction h with
  | nil => exact ⟨rfl, rfl, fun x hx => by cases hx⟩
  | cons e _ ih =>
    rw [List.all_cons, Bool.and_eq_true] at a
    obtain ⟨i1, i2, i3⟩ := ih a.2
    cases e with
    | str x hx =>
      refine ⟨congrArg (V.str x :: ·) i1, congrArg (some x :: ·) i2, fun y hy => ?_⟩
      rcases List.mem_cons.mp hy with rfl | hy
      · exact hx
      · exact i3 y hy
    | no ty h => rw [hp] at a; exact absurd a.1 (by decide)
end L2

/-! Own layer: a def that may raise, called by two keywords in the other order. -/
namespace L2
open ClX
open PySem PySem.Spec PyProof.Rows
def swap2 {α : Type} : List α → List α → List α
  | [], [a, b] => [b, a]
  | _, _ => []
structure OkXS (P : Program) (w : World) (K : PySem.W.Frag) (mg : Str → Option Value) (base : Heap) (k : Nat) (f : Addr) (ps ks : List Str) (sp : Sp) : Prop where
  ex : ∃ fd, FnOk P w K mg base (L2.CX P w) k f fd ps sp ∧ KBinds K fd ps ks (fun us ws => swap2 us ws) (fun vs zs => swap2 vs zs)
  kp : PySem.W.keepIn K (.ref f) = true
section
variable {P : Program} {w : World} {K : PySem.W.Frag} {mg : Str → Option Value} {base : Heap}
theorem FnT.okXS {x qual p0 p1 : Str} {st : Stmt} {f : Addr} {N : List Str} {k : Nat} {sp : Sp} (h : FnT K x qual st f) (S : FnScope N [p0, p1] (defScope st))
    (hb : ∀ (kV doc pm : Value) (an : Option Addr) (cdv ct u v : Value), bindArgs (PySem.W.fnOf x qual (defArgs st) (defBody st) (defScope st) .none kV doc pm an cdv ct) ⟨[], [(p1, u), (p0, v)]⟩ = pure [(p0, v), (p1, u)])
    (len : ∀ vs H Q E, sp vs H Q E → vs.length = 2) (body : BodyX P w K mg base N qual st f k sp) : OkXS P w K mg base (k + 1) f [p0, p1] [p1, p0] sp := by
  obtain ⟨fd, F⟩ := h.ex
  refine ⟨⟨fd, F.okX S len body, F.kbinds 0 [p1, p0] swap2 (fun us ws hl => ?_) (fun r q => ?_) fun kV doc pm an cdv ct us ws h1 h2 => ?_⟩, F.kp⟩
  · match us, ws, hl with
    | [], [_, _], _ => exact ⟨rfl, rfl⟩
    | [], [], hl => cases hl
    | [], [_], hl => cases hl
    | [], _ :: _ :: _ :: _, hl => cases hl
    | _ :: _, _, hl => cases hl
  · cases r with
    | nil =>
      cases q with
      | nil => exact .nil
      | cons a q =>
        cases q with
        | nil => exact .nil
        | cons b q =>
          cases q with
          | nil => exact .cons b (.cons a .nil)
          | cons _ _ => exact .nil
    | cons _ _ => exact .nil
  · match us, h1, ws, h2 with
    | [], _, [u, v], _ => exact hb kV doc pm an cdv ct u v
end
def oCallS (sp : Sp) (E : St → XK) (tk : TA) : TE := fun σ H Q => tk σ H fun zs H1 => sp (swap2 [] zs) H1 Q (E σ)
theorem px_callS {X : Cx} {k : Nat} {f : Addr} {ps ks : List Str} {sp : Sp} {E : St → XK} {x : Str} {p pos : Pos} {kws : List Keyword} {tk : TA} (G : OkXS X.prog X.w X.K X.mg X.base k f ps ks sp) (hx : ∀ σ, PassesAt (L2.CX X.prog X.w) X σ (E σ)) (hr : Room k X.A)
    (hm : X.mg x = some (.ref f)) (hkw : PK X kws tk) (hg : Gl X x := by rfl) (hall : (backToKw pos (keywordEach kws X.env)).all (·.1.isSome) = true := by rfl) (hks : (backToKw pos (keywordEach kws X.env)).filterMap (·.1) = ks := by rfl)
    (hdb : (x == ("__debug__" : Str)) = false := by decide) (hpl : ((backTo pos (starEach [] X.env)).any (·.1) || (backToKw pos (keywordEach kws X.env)).any (·.1.isNone)) = false := by rfl) :
    PE X (.Call (.Name x p) [] kws pos) (oCallS sp E tk) := by
  obtain ⟨⟨fd, F, b⟩, kp⟩ := G
  refine ⟨fun pn s σ H Q I h => ?_⟩
  refine wpAny_Call_Name_kw (ld_glob I hg hm ?_ hdb)
  refine PySem.W.callWith_KW0 (first := []) (h₀ := X.base) I.ok.mod.kin kp hall ?_ hpl
  refine thn (hkw.run pos pn s σ H _ I h) fun ws s2 ⟨zs, H2, I2, rz, q2⟩ => ⟨I2.kIn, ?_⟩
  rw [hks]
  have rv : Vals (swap2 [] zs) (swap2 [] ws) := b.rel .nil rz
  have hl : (swap2 [] ws).length = ps.length := by
    rw [← rv.length]
    exact F.len _ _ _ _ q2
  refine wpAny_call (codeAny_mono (F.run X.A X.stack s2 H2 ⟨[], ks.zip ws⟩ (swap2 [] ws) (swap2 [] zs) Q (E σ) hr I2.env0 (b.to s2 [] ws I2.kIn hl) rv q2) fun r s3 z => ?_)
  match r, z with
  | .error e2, z => exact hx σ pn H2 s2 e2 s3 I2 z
  | .ok (.ret u2), z => exact I2.after z
  | .ok .next, z => exact z.elim
  | .ok .brk, z => exact z.elim
  | .ok .cont, z => exact z.elim
end L2

/-! Own layer: a property read off an instance whose class is found at run time; f-strings. -/
namespace L2
open ClX
open PySem PySem.Spec PyProof.Rows
theorem propOf_mk {K : PySem.W.Frag} {C p g : Addr} {f : Str} {rest : List Value} (a : PySem.W.findIn K (.ref C) f = some (some (.ref p))) (b : PySem.W.specialIn K (.ref p) "__get__" = some (some (.builtin "property.__get__"))) (c : PySem.W.takesIn K (.ref p) = some true) (d : PySem.W.recIn K p "property" = some (.ref g :: rest)) : PropOf K C f p g := ⟨a, b, c, rest, d⟩
def tPropD (K : PySem.W.Frag) (f : Str) (p g : Addr) (sp : Sp) (ta : TE) : TE := fun σ H Q => ta σ H fun x H1 => ∃ a C dx fs, x = .ref a ∧ H1 a = some (.ins C dx fs) ∧ Cls K C ∧ PropOf K C f p g ∧ sp [.ref a] H1 Q E0
theorem po_propD {X : Cx} {k : Nat} {p g : Addr} {ps : List Str} {sp : Sp} {e : Expr} {f : Str} {pos : Pos} {ta : TE} (G : Ok1 X.prog X.w X.K X.mg X.base k g ps sp) (hr : Room (k + 1) X.A) (he : PE X e ta) (hab : attributeBase e f X.env (eval e X.env) = eval e X.env := by rfl) :
    PE X (.Attribute e f pos) (tPropD X.K f p g sp ta) := by
  obtain ⟨⟨fd, F, b⟩, kp⟩ := G
  refine ⟨fun pins s σ H Q I h => ?_⟩
  refine attr_of hab (thn (he.run pins s σ H _ I h) fun u s1 ⟨x, H1, I1, rx, a, C, dx, fs, ex, ea, c, hp, q⟩ => ?_)
  subst ex
  obtain rfl : u = Value.ref a := rx
  exact getprop_ok I1 ea c hp F hr b .nil pass0 q
end L2

set_option Elab.async false
set_option linter.all false
set_option maxRecDepth 100000
set_option maxHeartbeats 4000000
namespace Own
open PySem L2 ClX
local macro_rules | `(tactic| walk_at "v") => `(tactic| refine ⟨_, rfl, ?_⟩)
local macro_rules | `(tactic| walk_at "ii") => `(tactic| refine ⟨_, _, rfl, rfl, ?_⟩)
local macro_rules | `(tactic| walk_at "go") => `(tactic| repeat (first | refine ⟨_, rfl, ?_⟩ | refine ⟨_, _, rfl, rfl, ?_⟩ | refine addI ?_ | refine L2.iteT ?_ | refine L2.iteF ?_))

def top (i : Nat) : Stmt := PySem.Challenge.pw_indexlogs_k09_records_replayed.main.body.getD i (.Pass ⟨0, 0, 0, 0⟩)
abbrev s_is_integer : Stmt := top 18
abbrev N_is_integer : List Str := ["thing"]
theorem sc_is_integer : FnScope N_is_integer ["thing"] (defScope s_is_integer) := ⟨rfl, rfl, rfl, by decide +kernel, rfl, by decide +kernel, by decide +kernel⟩
abbrev s_is_item : Stmt := top 19
abbrev N_is_item : List Str := ["thing"]
theorem sc_is_item : FnScope N_is_item ["thing"] (defScope s_is_item) := ⟨rfl, rfl, rfl, by decide +kernel, rfl, by decide +kernel, by decide +kernel⟩
abbrev s_is_items : Stmt := top 20
abbrev N_is_items : List Str := ["thing", "entry"]
theorem sc_is_items : FnScope N_is_items ["thing"] (defScope s_is_items) := ⟨rfl, rfl, rfl, by decide +kernel, rfl, by decide +kernel, by decide +kernel⟩
abbrev s_check_items : Stmt := top 21
abbrev N_check_items : List Str := ["items"]
theorem sc_check_items : FnScope N_check_items ["items"] (defScope s_check_items) := ⟨rfl, rfl, rfl, by decide +kernel, rfl, by decide +kernel, by decide +kernel⟩
abbrev s_check_index : Stmt := top 23
abbrev N_check_index : List Str := ["slot"]
theorem sc_check_index : FnScope N_check_index ["slot"] (defScope s_check_index) := ⟨rfl, rfl, rfl, by decide +kernel, rfl, by decide +kernel, by decide +kernel⟩
abbrev s_stands_at : Stmt := top 25
abbrev N_stands_at : List Str := ["items", "item", "slot"]
theorem sc_stands_at : FnScope N_stands_at ["items", "item", "slot"] (defScope s_stands_at) := ⟨rfl, rfl, rfl, by decide +kernel, rfl, by decide +kernel, by decide +kernel⟩
abbrev s_has_place : Stmt := top 26
abbrev N_has_place : List Str := ["items", "item", "slot"]
theorem sc_has_place : FnScope N_has_place ["items", "item", "slot"] (defScope s_has_place) := ⟨rfl, rfl, rfl, by decide +kernel, rfl, by decide +kernel, by decide +kernel⟩
abbrev s_put_in : Stmt := top 27
abbrev N_put_in : List Str := ["items", "item", "slot"]
theorem sc_put_in : FnScope N_put_in ["items", "item", "slot"] (defScope s_put_in) := ⟨rfl, rfl, rfl, by decide +kernel, rfl, by decide +kernel, by decide +kernel⟩
abbrev s_taken_out : Stmt := top 28
abbrev N_taken_out : List Str := ["items", "slot"]
theorem sc_taken_out : FnScope N_taken_out ["items", "slot"] (defScope s_taken_out) := ⟨rfl, rfl, rfl, by decide +kernel, rfl, by decide +kernel, by decide +kernel⟩
abbrev s_Record___init__ : Stmt := inClass (top 29) 2
abbrev N_Record___init__ : List Str := ["self", "item", "slot"]
theorem sc_Record___init__ : FnScope N_Record___init__ ["self", "item", "slot"] (defScope s_Record___init__) := ⟨rfl, rfl, rfl, by decide +kernel, rfl, by decide +kernel, by decide +kernel⟩
abbrev s_Record_text : Stmt := inClass (top 29) 6
abbrev N_Record_text : List Str := ["self"]
theorem sc_Record_text : FnScope N_Record_text ["self"] (defScope s_Record_text) := ⟨rfl, rfl, rfl, by decide +kernel, rfl, by decide +kernel, by decide +kernel⟩
abbrev s_Record_applies : Stmt := inClass (top 29) 10
abbrev N_Record_applies : List Str := ["self", "items"]
theorem sc_Record_applies : FnScope N_Record_applies ["self", "items"] (defScope s_Record_applies) := ⟨rfl, rfl, rfl, by decide +kernel, rfl, by decide +kernel, by decide +kernel⟩
abbrev s_Record_applied : Stmt := inClass (top 29) 11
abbrev N_Record_applied : List Str := ["self", "items"]
theorem sc_Record_applied : FnScope N_Record_applied ["self", "items"] (defScope s_Record_applied) := ⟨rfl, rfl, rfl, by decide +kernel, rfl, by decide +kernel, by decide +kernel⟩
abbrev s_Inserted_applies : Stmt := inClass (top 30) 3
abbrev N_Inserted_applies : List Str := ["self", "items"]
theorem sc_Inserted_applies : FnScope N_Inserted_applies ["self", "items"] (defScope s_Inserted_applies) := ⟨rfl, rfl, rfl, by decide +kernel, rfl, by decide +kernel, by decide +kernel⟩
abbrev s_Inserted_applied : Stmt := inClass (top 30) 4
abbrev N_Inserted_applied : List Str := ["self", "items"]
theorem sc_Inserted_applied : FnScope N_Inserted_applied ["self", "items"] (defScope s_Inserted_applied) := ⟨rfl, rfl, rfl, by decide +kernel, rfl, by decide +kernel, by decide +kernel⟩
abbrev s_Removed_applies : Stmt := inClass (top 31) 3
abbrev N_Removed_applies : List Str := ["self", "items"]
theorem sc_Removed_applies : FnScope N_Removed_applies ["self", "items"] (defScope s_Removed_applies) := ⟨rfl, rfl, rfl, by decide +kernel, rfl, by decide +kernel, by decide +kernel⟩
abbrev s_Removed_applied : Stmt := inClass (top 31) 4
abbrev N_Removed_applied : List Str := ["self", "items"]
theorem sc_Removed_applied : FnScope N_Removed_applied ["self", "items"] (defScope s_Removed_applied) := ⟨rfl, rfl, rfl, by decide +kernel, rfl, by decide +kernel, by decide +kernel⟩
abbrev s_Fronted_applies : Stmt := inClass (top 32) 3
abbrev N_Fronted_applies : List Str := ["self", "items"]
theorem sc_Fronted_applies : FnScope N_Fronted_applies ["self", "items"] (defScope s_Fronted_applies) := ⟨rfl, rfl, rfl, by decide +kernel, rfl, by decide +kernel, by decide +kernel⟩
abbrev s_Fronted_applied : Stmt := inClass (top 32) 4
abbrev N_Fronted_applied : List Str := ["self", "items"]
theorem sc_Fronted_applied : FnScope N_Fronted_applied ["self", "items"] (defScope s_Fronted_applied) := ⟨rfl, rfl, rfl, by decide +kernel, rfl, by decide +kernel, by decide +kernel⟩
abbrev s_has_kind : Stmt := top 35
abbrev N_has_kind : List Str := ["thing"]
theorem sc_has_kind : FnScope N_has_kind ["thing"] (defScope s_has_kind) := ⟨rfl, rfl, rfl, by decide +kernel, rfl, by decide +kernel, by decide +kernel⟩
abbrev s_are_records : Stmt := top 36
abbrev N_are_records : List Str := ["thing", "most", "entry"]
theorem sc_are_records : FnScope N_are_records ["thing", "most"] (defScope s_are_records) := ⟨rfl, rfl, rfl, by decide +kernel, rfl, by decide +kernel, by decide +kernel⟩
abbrev s_check_records : Stmt := top 37
abbrev N_check_records : List Str := ["records"]
theorem sc_check_records : FnScope N_check_records ["records"] (defScope s_check_records) := ⟨rfl, rfl, rfl, by decide +kernel, rfl, by decide +kernel, by decide +kernel⟩
abbrev s_list_after : Stmt := top 38
abbrev N_list_after : List Str := ["items", "record", "number"]
theorem sc_list_after : FnScope N_list_after ["items", "record", "number"] (defScope s_list_after) := ⟨rfl, rfl, rfl, by decide +kernel, rfl, by decide +kernel, by decide +kernel⟩
abbrev s_replay : Stmt := top 39
abbrev N_replay : List Str := ["items", "records", "now", "number", "record"]
theorem sc_replay : FnScope N_replay ["items", "records"] (defScope s_replay) := ⟨rfl, rfl, rfl, by decide +kernel, rfl, by decide +kernel, by decide +kernel⟩
abbrev s__law_source : Stmt := top 41
abbrev N__law_source : List Str := ["script", "k", "cell"]
theorem sc__law_source : FnScope N__law_source ["script", "k"] (defScope s__law_source) := ⟨rfl, rfl, rfl, by decide +kernel, rfl, by decide +kernel, by decide +kernel⟩
abbrev s__law_pick : Stmt := top 42
abbrev N__law_pick : List Str := ["source", "size", "digit", "mixed"]
theorem sc__law_pick : FnScope N__law_pick ["source", "size"] (defScope s__law_pick) := ⟨rfl, rfl, rfl, by decide +kernel, rfl, by decide +kernel, by decide +kernel⟩
abbrev s__law_shuffled : Stmt := top 43
abbrev N__law_shuffled : List Str := ["source", "row", "left", "j"]
theorem sc__law_shuffled : FnScope N__law_shuffled ["source", "row"] (defScope s__law_shuffled) := ⟨rfl, rfl, rfl, by decide +kernel, rfl, by decide +kernel, by decide +kernel⟩
abbrev s__law_names : Stmt := top 44
abbrev N__law_names : List Str := ["source", "many", "letters", "style", "found", "j", "short", "two"]
theorem sc__law_names : FnScope N__law_names ["source", "many"] (defScope s__law_names) := ⟨rfl, rfl, rfl, by decide +kernel, rfl, by decide +kernel, by decide +kernel⟩
abbrev s__law_make : Stmt := top 45
abbrev N__law_make : List Str := ["way", "name", "place"]
theorem sc__law_make : FnScope N__law_make ["way", "name", "place"] (defScope s__law_make) := ⟨rfl, rfl, rfl, by decide +kernel, rfl, by decide +kernel, by decide +kernel⟩
abbrev s__law_rows : Stmt := top 46
abbrev N__law_rows : List Str := ["parts", "way", "name", "place"]
theorem sc__law_rows : FnScope N__law_rows ["parts"] (defScope s__law_rows) := ⟨rfl, rfl, rfl, by decide +kernel, rfl, by decide +kernel, by decide +kernel⟩
abbrev s__law_class : Stmt := top 47
abbrev N__law_class : List Str := ["caught", "some", "found", "others", "word", "so"]
theorem sc__law_class : FnScope N__law_class ["caught"] (defScope s__law_class) := ⟨rfl, rfl, rfl, by decide +kernel, rfl, by decide +kernel, by decide +kernel⟩
abbrev s__law_done : Stmt := top 48
abbrev N__law_done : List Str := ["way", "name", "place", "shelf", "rest"]
theorem sc__law_done : FnScope N__law_done ["way", "name", "place", "shelf"] (defScope s__law_done) := ⟨rfl, rfl, rfl, by decide +kernel, rfl, by decide +kernel, by decide +kernel⟩
abbrev s__law_shelf : Stmt := top 49
abbrev N__law_shelf : List Str := ["source", "most", "many", "pool"]
theorem sc__law_shelf : FnScope N__law_shelf ["source", "most"] (defScope s__law_shelf) := ⟨rfl, rfl, rfl, by decide +kernel, rfl, by decide +kernel, by decide +kernel⟩
abbrev s__law_play : Stmt := top 50
abbrev N__law_play : List Str := ["source", "shelf", "spare", "many", "here", "found", "lists", "turn", "way", "free", "name", "place"]
theorem sc__law_play : FnScope N__law_play ["source", "shelf", "spare", "many"] (defScope s__law_play) := ⟨rfl, rfl, rfl, by decide +kernel, rfl, by decide +kernel, by decide +kernel⟩
abbrev s__law_no_shelves : Stmt := top 51
abbrev N__law_no_shelves : List Str := ["source", "shelf", "letters", "far", "some", "j"]
theorem sc__law_no_shelves : FnScope N__law_no_shelves ["source", "shelf"] (defScope s__law_no_shelves) := ⟨rfl, rfl, rfl, by decide +kernel, rfl, by decide +kernel, by decide +kernel⟩
abbrev s__law_no_rows : Stmt := top 52
abbrev N__law_no_rows : List Str := ["source", "rows", "some"]
theorem sc__law_no_rows : FnScope N__law_no_rows ["source", "rows"] (defScope s__law_no_rows) := ⟨rfl, rfl, rfl, by decide +kernel, rfl, by decide +kernel, by decide +kernel⟩
abbrev s__law_told : Stmt := top 53
abbrev N__law_told : List Str := ["shelf", "rows", "by_name", "caught", "e"]
theorem sc__law_told : FnScope N__law_told ["shelf", "rows", "by_name"] (defScope s__law_told) := ⟨rfl, rfl, rfl, by decide +kernel, rfl, by decide +kernel, by decide +kernel⟩
abbrev s__law_due : Stmt := top 54
abbrev N__law_due : List Str := ["shelf", "parts", "here", "number", "way", "name", "place", "later"]
theorem sc__law_due : FnScope N__law_due ["shelf", "parts"] (defScope s__law_due) := ⟨rfl, rfl, rfl, by decide +kernel, rfl, by decide +kernel, by decide +kernel⟩
abbrev s__law_right : Stmt := top 55
abbrev N__law_right : List Str := ["shelf", "parts", "rows", "due", "kept", "words", "found", "again", "row"]
theorem sc__law_right : FnScope N__law_right ["shelf", "parts"] (defScope s__law_right) := ⟨rfl, rfl, rfl, by decide +kernel, rfl, by decide +kernel, by decide +kernel⟩
abbrev s__law_by_turns : Stmt := top 56
abbrev N__law_by_turns : List Str := ["shelf", "parts", "rows", "here"]
theorem sc__law_by_turns : FnScope N__law_by_turns ["shelf", "parts"] (defScope s__law_by_turns) := ⟨rfl, rfl, rfl, by decide +kernel, rfl, by decide +kernel, by decide +kernel⟩
abbrev s__law_changed : Stmt := top 57
abbrev N__law_changed : List Str := ["source", "parts", "spot", "other", "way", "name", "place", "near", "some", "row", "rest"]
theorem sc__law_changed : FnScope N__law_changed ["source", "parts"] (defScope s__law_changed) := ⟨rfl, rfl, rfl, by decide +kernel, rfl, by decide +kernel, by decide +kernel⟩
abbrev s_law : Stmt := top 58
abbrev N_law : List Str := ["script", "k", "source", "turn", "shelf", "spare", "many", "parts", "lists", "step", "row", "rows", "bad", "odd", "told"]
theorem sc_law : FnScope N_law ["script"] (defScope s_law) := ⟨rfl, rfl, rfl, by decide +kernel, rfl, by decide +kernel, by decide +kernel⟩

structure Ad where
  f_is_integer : Addr
  f_is_item : Addr
  f_is_items : Addr
  f_check_items : Addr
  f_check_index : Addr
  f_stands_at : Addr
  f_has_place : Addr
  f_put_in : Addr
  f_taken_out : Addr
  f_has_kind : Addr
  f_are_records : Addr
  f_check_records : Addr
  f_list_after : Addr
  f_replay : Addr
  f__law_source : Addr
  f__law_pick : Addr
  f__law_shuffled : Addr
  f__law_names : Addr
  f__law_make : Addr
  f__law_rows : Addr
  f__law_class : Addr
  f__law_done : Addr
  f__law_shelf : Addr
  f__law_play : Addr
  f__law_no_shelves : Addr
  f__law_no_rows : Addr
  f__law_told : Addr
  f__law_due : Addr
  f__law_right : Addr
  f__law_by_turns : Addr
  f__law_changed : Addr
  f_law : Addr
  c_Record : Addr
  c_Inserted : Addr
  c_Removed : Addr
  c_Fronted : Addr
  c_NoItem : Addr
  c_NoIndex : Addr
  c_NoList : Addr
  c_NoLog : Addr
  c_Impossible : Addr
  c_NoText : Addr
  c_NoClients : Addr
  c_NoNumber : Addr
  c_NoPosition : Addr
  c_NoSeen : Addr
  c_Nothing : Addr
  c_TooMany : Addr
  c_LogError : Addr
  m_Record___init__ : Addr
  m_Record_applies : Addr
  m_Record_applied : Addr
  m_Inserted_applies : Addr
  m_Inserted_applied : Addr
  m_Removed_applies : Addr
  m_Removed_applied : Addr
  m_Fronted_applies : Addr
  m_Fronted_applied : Addr
  m_Impossible___init__ : Addr
  m_Record_text : Addr
  p_Record_text : Addr
structure Txt (K : PySem.W.Frag) (mg : Str → Option Value) (A : Ad) : Prop where
  mg_is_integer : mg "is_integer" = some (.ref A.f_is_integer)
  fn_is_integer : FnT K "is_integer" "is_integer" s_is_integer A.f_is_integer
  mg_is_item : mg "is_item" = some (.ref A.f_is_item)
  fn_is_item : FnT K "is_item" "is_item" s_is_item A.f_is_item
  mg_is_items : mg "is_items" = some (.ref A.f_is_items)
  fn_is_items : FnT K "is_items" "is_items" s_is_items A.f_is_items
  mg_check_items : mg "check_items" = some (.ref A.f_check_items)
  fn_check_items : FnT K "check_items" "check_items" s_check_items A.f_check_items
  mg_check_index : mg "check_index" = some (.ref A.f_check_index)
  fn_check_index : FnT K "check_index" "check_index" s_check_index A.f_check_index
  mg_stands_at : mg "stands_at" = some (.ref A.f_stands_at)
  fn_stands_at : FnT K "stands_at" "stands_at" s_stands_at A.f_stands_at
  mg_has_place : mg "has_place" = some (.ref A.f_has_place)
  fn_has_place : FnT K "has_place" "has_place" s_has_place A.f_has_place
  mg_put_in : mg "put_in" = some (.ref A.f_put_in)
  fn_put_in : FnT K "put_in" "put_in" s_put_in A.f_put_in
  mg_taken_out : mg "taken_out" = some (.ref A.f_taken_out)
  fn_taken_out : FnT K "taken_out" "taken_out" s_taken_out A.f_taken_out
  mg_has_kind : mg "has_kind" = some (.ref A.f_has_kind)
  fn_has_kind : FnT K "has_kind" "has_kind" s_has_kind A.f_has_kind
  mg_are_records : mg "are_records" = some (.ref A.f_are_records)
  fn_are_records : FnT K "are_records" "are_records" s_are_records A.f_are_records
  mg_check_records : mg "check_records" = some (.ref A.f_check_records)
  fn_check_records : FnT K "check_records" "check_records" s_check_records A.f_check_records
  mg_list_after : mg "list_after" = some (.ref A.f_list_after)
  fn_list_after : FnT K "list_after" "list_after" s_list_after A.f_list_after
  mg_replay : mg "replay" = some (.ref A.f_replay)
  fn_replay : FnT K "replay" "replay" s_replay A.f_replay
  mg__law_source : mg "_law_source" = some (.ref A.f__law_source)
  fn__law_source : FnT K "_law_source" "_law_source" s__law_source A.f__law_source
  mg__law_pick : mg "_law_pick" = some (.ref A.f__law_pick)
  fn__law_pick : FnT K "_law_pick" "_law_pick" s__law_pick A.f__law_pick
  mg__law_shuffled : mg "_law_shuffled" = some (.ref A.f__law_shuffled)
  fn__law_shuffled : FnT K "_law_shuffled" "_law_shuffled" s__law_shuffled A.f__law_shuffled
  mg__law_names : mg "_law_names" = some (.ref A.f__law_names)
  fn__law_names : FnT K "_law_names" "_law_names" s__law_names A.f__law_names
  mg__law_make : mg "_law_make" = some (.ref A.f__law_make)
  fn__law_make : FnT K "_law_make" "_law_make" s__law_make A.f__law_make
  mg__law_rows : mg "_law_rows" = some (.ref A.f__law_rows)
  fn__law_rows : FnT K "_law_rows" "_law_rows" s__law_rows A.f__law_rows
  mg__law_class : mg "_law_class" = some (.ref A.f__law_class)
  fn__law_class : FnT K "_law_class" "_law_class" s__law_class A.f__law_class
  mg__law_done : mg "_law_done" = some (.ref A.f__law_done)
  fn__law_done : FnT K "_law_done" "_law_done" s__law_done A.f__law_done
  mg__law_shelf : mg "_law_shelf" = some (.ref A.f__law_shelf)
  fn__law_shelf : FnT K "_law_shelf" "_law_shelf" s__law_shelf A.f__law_shelf
  mg__law_play : mg "_law_play" = some (.ref A.f__law_play)
  fn__law_play : FnT K "_law_play" "_law_play" s__law_play A.f__law_play
  mg__law_no_shelves : mg "_law_no_shelves" = some (.ref A.f__law_no_shelves)
  fn__law_no_shelves : FnT K "_law_no_shelves" "_law_no_shelves" s__law_no_shelves A.f__law_no_shelves
  mg__law_no_rows : mg "_law_no_rows" = some (.ref A.f__law_no_rows)
  fn__law_no_rows : FnT K "_law_no_rows" "_law_no_rows" s__law_no_rows A.f__law_no_rows
  mg__law_told : mg "_law_told" = some (.ref A.f__law_told)
  fn__law_told : FnT K "_law_told" "_law_told" s__law_told A.f__law_told
  mg__law_due : mg "_law_due" = some (.ref A.f__law_due)
  fn__law_due : FnT K "_law_due" "_law_due" s__law_due A.f__law_due
  mg__law_right : mg "_law_right" = some (.ref A.f__law_right)
  fn__law_right : FnT K "_law_right" "_law_right" s__law_right A.f__law_right
  mg__law_by_turns : mg "_law_by_turns" = some (.ref A.f__law_by_turns)
  fn__law_by_turns : FnT K "_law_by_turns" "_law_by_turns" s__law_by_turns A.f__law_by_turns
  mg__law_changed : mg "_law_changed" = some (.ref A.f__law_changed)
  fn__law_changed : FnT K "_law_changed" "_law_changed" s__law_changed A.f__law_changed
  mg_law : mg "law" = some (.ref A.f_law)
  fn_law : FnT K "law" "law" s_law A.f_law
  mg_Record : mg "Record" = some (.ref A.c_Record)
  mg_Inserted : mg "Inserted" = some (.ref A.c_Inserted)
  mg_Removed : mg "Removed" = some (.ref A.c_Removed)
  mg_Fronted : mg "Fronted" = some (.ref A.c_Fronted)
  mg_NoItem : mg "NoItem" = some (.ref A.c_NoItem)
  mg_NoIndex : mg "NoIndex" = some (.ref A.c_NoIndex)
  mg_NoList : mg "NoList" = some (.ref A.c_NoList)
  mg_NoLog : mg "NoLog" = some (.ref A.c_NoLog)
  mg_Impossible : mg "Impossible" = some (.ref A.c_Impossible)
  mg_NoText : mg "NoText" = some (.ref A.c_NoText)
  mg_NoClients : mg "NoClients" = some (.ref A.c_NoClients)
  mg_NoNumber : mg "NoNumber" = some (.ref A.c_NoNumber)
  mg_NoPosition : mg "NoPosition" = some (.ref A.c_NoPosition)
  mg_NoSeen : mg "NoSeen" = some (.ref A.c_NoSeen)
  mg_Nothing : mg "Nothing" = some (.ref A.c_Nothing)
  mg_TooMany : mg "TooMany" = some (.ref A.c_TooMany)
  mg_LogError : mg "LogError" = some (.ref A.c_LogError)
  mk_Record : Mk K A.c_Record A.m_Record___init__
  fn_Record___init__ : FnT K "__init__" "Record.__init__" s_Record___init__ A.m_Record___init__
  cl_Record : Cls K A.c_Record
  na_Record_item : NoAttr K A.c_Record "_item"
  na_Record_slot : NoAttr K A.c_Record "_slot"
  mk_Inserted : Mk K A.c_Inserted A.m_Record___init__
  cl_Inserted : Cls K A.c_Inserted
  na_Inserted_item : NoAttr K A.c_Inserted "_item"
  na_Inserted_slot : NoAttr K A.c_Inserted "_slot"
  mk_Removed : Mk K A.c_Removed A.m_Record___init__
  cl_Removed : Cls K A.c_Removed
  na_Removed_item : NoAttr K A.c_Removed "_item"
  na_Removed_slot : NoAttr K A.c_Removed "_slot"
  mk_Fronted : Mk K A.c_Fronted A.m_Record___init__
  cl_Fronted : Cls K A.c_Fronted
  na_Fronted_item : NoAttr K A.c_Fronted "_item"
  na_Fronted_slot : NoAttr K A.c_Fronted "_slot"
  me_Record_applies : Meth K A.c_Record "applies" A.m_Record_applies
  fn_Record_applies : FnT K "applies" "Record.applies" s_Record_applies A.m_Record_applies
  me_Record_applied : Meth K A.c_Record "applied" A.m_Record_applied
  fn_Record_applied : FnT K "applied" "Record.applied" s_Record_applied A.m_Record_applied
  me_Inserted_applies : Meth K A.c_Inserted "applies" A.m_Inserted_applies
  fn_Inserted_applies : FnT K "applies" "Inserted.applies" s_Inserted_applies A.m_Inserted_applies
  me_Inserted_applied : Meth K A.c_Inserted "applied" A.m_Inserted_applied
  fn_Inserted_applied : FnT K "applied" "Inserted.applied" s_Inserted_applied A.m_Inserted_applied
  me_Removed_applies : Meth K A.c_Removed "applies" A.m_Removed_applies
  fn_Removed_applies : FnT K "applies" "Removed.applies" s_Removed_applies A.m_Removed_applies
  me_Removed_applied : Meth K A.c_Removed "applied" A.m_Removed_applied
  fn_Removed_applied : FnT K "applied" "Removed.applied" s_Removed_applied A.m_Removed_applied
  me_Fronted_applies : Meth K A.c_Fronted "applies" A.m_Fronted_applies
  fn_Fronted_applies : FnT K "applies" "Fronted.applies" s_Fronted_applies A.m_Fronted_applies
  me_Fronted_applied : Meth K A.c_Fronted "applied" A.m_Fronted_applied
  fn_Fronted_applied : FnT K "applied" "Fronted.applied" s_Fronted_applied A.m_Fronted_applied
  cv_Record_MOST : ∃ mc u, ClX.CRead K A.c_Record mc ∧ ClX.CVal K A.c_Record mc "MOST" (.int 60) u
  cv_Record_SIGN : ∃ mc u, ClX.CRead K A.c_Record mc ∧ ClX.CVal K A.c_Record mc "SIGN" (.str "") u
  iv_Record_SIGN : ∃ u, Con K A.c_Record "SIGN" (.str "") u
  iv_Inserted_SIGN : ∃ u, Con K A.c_Inserted "SIGN" (.str "+") u
  iv_Removed_SIGN : ∃ u, Con K A.c_Removed "SIGN" (.str "-") u
  iv_Fronted_SIGN : ∃ u, Con K A.c_Fronted "SIGN" (.str "^") u
  mg_MOST_LETTERS : ∃ t, mg "MOST_LETTERS" = some (.int 8 t)
  mg_MOST_ITEMS : ∃ t, mg "MOST_ITEMS" = some (.int 60 t)
  mg_MOST_REPLAYED : ∃ t, mg "MOST_REPLAYED" = some (.int 80 t)
  er_NoList : ErrT K A.c_NoList
  er_NoLog : ErrT K A.c_NoLog
  ec_NoList : ExcC K A.c_NoList
  exm_NoList : PySem.W.exmOne K (.ref A.c_NoList) (.ref A.c_LogError) = some true
  ec_NoLog : ExcC K A.c_NoLog
  exm_NoLog : PySem.W.exmOne K (.ref A.c_NoLog) (.ref A.c_LogError) = some true
  ec_Impossible : ExcC K A.c_Impossible
  exm_Impossible : PySem.W.exmOne K (.ref A.c_Impossible) (.ref A.c_LogError) = some true
  kit_NoList_NoItem : PySem.W.kitOne K (.ref A.c_NoList) (.ref A.c_NoItem) = some false
  kit_NoList_NoIndex : PySem.W.kitOne K (.ref A.c_NoList) (.ref A.c_NoIndex) = some false
  kit_NoList_NoList : PySem.W.kitOne K (.ref A.c_NoList) (.ref A.c_NoList) = some true
  kit_NoList_NoLog : PySem.W.kitOne K (.ref A.c_NoList) (.ref A.c_NoLog) = some false
  kit_NoList_Impossible : PySem.W.kitOne K (.ref A.c_NoList) (.ref A.c_Impossible) = some false
  kit_NoList_NoText : PySem.W.kitOne K (.ref A.c_NoList) (.ref A.c_NoText) = some false
  kit_NoList_NoClients : PySem.W.kitOne K (.ref A.c_NoList) (.ref A.c_NoClients) = some false
  kit_NoList_NoNumber : PySem.W.kitOne K (.ref A.c_NoList) (.ref A.c_NoNumber) = some false
  kit_NoList_NoPosition : PySem.W.kitOne K (.ref A.c_NoList) (.ref A.c_NoPosition) = some false
  kit_NoList_NoSeen : PySem.W.kitOne K (.ref A.c_NoList) (.ref A.c_NoSeen) = some false
  kit_NoList_Nothing : PySem.W.kitOne K (.ref A.c_NoList) (.ref A.c_Nothing) = some false
  kit_NoList_TooMany : PySem.W.kitOne K (.ref A.c_NoList) (.ref A.c_TooMany) = some false
  kit_NoLog_NoItem : PySem.W.kitOne K (.ref A.c_NoLog) (.ref A.c_NoItem) = some false
  kit_NoLog_NoIndex : PySem.W.kitOne K (.ref A.c_NoLog) (.ref A.c_NoIndex) = some false
  kit_NoLog_NoList : PySem.W.kitOne K (.ref A.c_NoLog) (.ref A.c_NoList) = some false
  kit_NoLog_NoLog : PySem.W.kitOne K (.ref A.c_NoLog) (.ref A.c_NoLog) = some true
  kit_NoLog_Impossible : PySem.W.kitOne K (.ref A.c_NoLog) (.ref A.c_Impossible) = some false
  kit_NoLog_NoText : PySem.W.kitOne K (.ref A.c_NoLog) (.ref A.c_NoText) = some false
  kit_NoLog_NoClients : PySem.W.kitOne K (.ref A.c_NoLog) (.ref A.c_NoClients) = some false
  kit_NoLog_NoNumber : PySem.W.kitOne K (.ref A.c_NoLog) (.ref A.c_NoNumber) = some false
  kit_NoLog_NoPosition : PySem.W.kitOne K (.ref A.c_NoLog) (.ref A.c_NoPosition) = some false
  kit_NoLog_NoSeen : PySem.W.kitOne K (.ref A.c_NoLog) (.ref A.c_NoSeen) = some false
  kit_NoLog_Nothing : PySem.W.kitOne K (.ref A.c_NoLog) (.ref A.c_Nothing) = some false
  kit_NoLog_TooMany : PySem.W.kitOne K (.ref A.c_NoLog) (.ref A.c_TooMany) = some false
  kit_Impossible_NoItem : PySem.W.kitOne K (.ref A.c_Impossible) (.ref A.c_NoItem) = some false
  kit_Impossible_NoIndex : PySem.W.kitOne K (.ref A.c_Impossible) (.ref A.c_NoIndex) = some false
  kit_Impossible_NoList : PySem.W.kitOne K (.ref A.c_Impossible) (.ref A.c_NoList) = some false
  kit_Impossible_NoLog : PySem.W.kitOne K (.ref A.c_Impossible) (.ref A.c_NoLog) = some false
  kit_Impossible_Impossible : PySem.W.kitOne K (.ref A.c_Impossible) (.ref A.c_Impossible) = some true
  kit_Impossible_NoText : PySem.W.kitOne K (.ref A.c_Impossible) (.ref A.c_NoText) = some false
  kit_Impossible_NoClients : PySem.W.kitOne K (.ref A.c_Impossible) (.ref A.c_NoClients) = some false
  kit_Impossible_NoNumber : PySem.W.kitOne K (.ref A.c_Impossible) (.ref A.c_NoNumber) = some false
  kit_Impossible_NoPosition : PySem.W.kitOne K (.ref A.c_Impossible) (.ref A.c_NoPosition) = some false
  kit_Impossible_NoSeen : PySem.W.kitOne K (.ref A.c_Impossible) (.ref A.c_NoSeen) = some false
  kit_Impossible_Nothing : PySem.W.kitOne K (.ref A.c_Impossible) (.ref A.c_Nothing) = some false
  kit_Impossible_TooMany : PySem.W.kitOne K (.ref A.c_Impossible) (.ref A.c_TooMany) = some false
  kit_NoList_type_ValueError : PySem.W.kitOne K (.ref A.c_NoList) (.type "ValueError") = some true
  kit_NoLog_type_ValueError : PySem.W.kitOne K (.ref A.c_NoLog) (.type "ValueError") = some true
  kit_Impossible_type_ValueError : PySem.W.kitOne K (.ref A.c_Impossible) (.type "ValueError") = some true
  kit_Record_Record : PySem.W.kitOne K (.ref A.c_Record) (.ref A.c_Record) = some true
  kit_Inserted_Record : PySem.W.kitOne K (.ref A.c_Inserted) (.ref A.c_Record) = some true
  kit_Removed_Record : PySem.W.kitOne K (.ref A.c_Removed) (.ref A.c_Record) = some true
  kit_Fronted_Record : PySem.W.kitOne K (.ref A.c_Fronted) (.ref A.c_Record) = some true
  kit_type_NoneType_Record : PySem.W.kitOne K (.type "NoneType") (.ref A.c_Record) = some false
  kit_type_bool_Record : PySem.W.kitOne K (.type "bool") (.ref A.c_Record) = some false
  kit_type_int_Record : PySem.W.kitOne K (.type "int") (.ref A.c_Record) = some false
  kit_type_str_Record : PySem.W.kitOne K (.type "str") (.ref A.c_Record) = some false
  kit_type_list_Record : PySem.W.kitOne K (.type "list") (.ref A.c_Record) = some false
  kit_type_tuple_Record : PySem.W.kitOne K (.type "tuple") (.ref A.c_Record) = some false
  kit_type_dict_Record : PySem.W.kitOne K (.type "dict") (.ref A.c_Record) = some false
  kit_Inserted_type_str : PySem.W.kitOne K (.ref A.c_Inserted) (.type "str") = some false
  kit_Inserted_type_list : PySem.W.kitOne K (.ref A.c_Inserted) (.type "list") = some false
  low_Impossible : PySem.ImpX.ImpTxt K mg A.c_Impossible A.m_Impossible___init__
  xf_Impossible : XfC K A.c_Impossible
  nf_Impossible : PySem.W.findIn K (.ref A.c_Impossible) "reason" = some none
  pr_Record_text : PropOf K A.c_Record "text" A.p_Record_text A.m_Record_text
  fn_Record_text : FnT K "text" "Record.text" s_Record_text A.m_Record_text
  pr_Inserted_text : PropOf K A.c_Inserted "text" A.p_Record_text A.m_Record_text
  pr_Removed_text : PropOf K A.c_Removed "text" A.p_Record_text A.m_Record_text
  pr_Fronted_text : PropOf K A.c_Fronted "text" A.p_Record_text A.m_Record_text
  ty_Record : InsT K A.c_Record
  ty_Inserted : InsT K A.c_Inserted
  ty_Removed : InsT K A.c_Removed
  ty_Fronted : InsT K A.c_Fronted
  no_ValueError : mg "ValueError" = none
  no_abs : mg "abs" = none
  no_all : mg "all" = none
  no_bool : mg "bool" = none
  no_enumerate : mg "enumerate" = none
  no_int : mg "int" = none
  no_isinstance : mg "isinstance" = none
  no_len : mg "len" = none
  no_list : mg "list" = none
  no_max : mg "max" = none
  no_min : mg "min" = none
  no_property : mg "property" = none
  no_range : mg "range" = none
  no_repr : mg "repr" = none
  no_set : mg "set" = none
  no_str : mg "str" = none
  no_tuple : mg "tuple" = none

/-! ### what is told of records -/
theorem ks : ¬ (("_item" : Str) = "_slot") := by decide +kernel
/-- the attributes of a record, in the order in which they are stored -/
def rfs (x : Str) (n : Int) : List (Str × V) := putF "_slot" (.int n) (putF "_item" (.str x) [])
theorem rfs_item (x : Str) (n : Int) : (rfs x n).lookup ("_item" : Str) = some (.str x) := by
  unfold rfs
  rw [lookup_putF, if_neg ks, lookup_putF, if_pos rfl]
theorem rfs_slot (x : Str) (n : Int) : (rfs x n).lookup ("_slot" : Str) = some (.int n) := by
  unfold rfs
  rw [lookup_putF, if_pos rfl]
theorem rfs_no (x : Str) (n : Int) {m : Str} (h1 : ¬ m = "_slot") (h2 : ¬ m = "_item") : (rfs x n).lookup m = none := by
  unfold rfs
  rw [lookup_putF, if_neg h1, lookup_putF, if_neg h2]
  all_goals rfl
theorem rfs_eq (x : Str) (n : Int) : rfs x n = ([("_item", V.str x), ("_slot", V.int n)] : List (Str × V)) := by
  show (if ("_item" : Str) = "_slot" then [(("_item" : Str), V.int n)] else (("_item" : Str), V.str x) :: putF "_slot" (V.int n) []) = _
  rw [if_neg ks]
  all_goals rfl
theorem rfs_put (x : Str) (n m : Int) : putF "_slot" (.int m) (rfs x n) = rfs x m := by
  rw [rfs_eq, rfs_eq]
  show (if ("_item" : Str) = "_slot" then _ else (("_item" : Str), V.str x) :: (if ("_slot" : Str) = "_slot" then [(("_slot" : Str), V.int m)] else _)) = _
  rw [if_neg ks, if_pos rfl]
theorem rfs_len (x : Str) (n : Int) : (rfs x n).length < 1000 := by
  rw [rfs_eq]
  exact Nat.lt_of_lt_of_le (Nat.lt_succ_self 2) (by decide)
theorem made_same {H H' : Hp} {p dx C : Addr} (np : H p = none) (nd : H dx = none) (b : But p (upd (upd H dx (.own p)) p (.ins C dx [])) H') : Same H H' := fun c o e =>
  b c o (by rw [upd_ne (ne_of_none e np), upd_ne (ne_of_none e nd)]; exact e) (ne_of_none e np)
structure RC (K : PySem.W.Frag) (C : Addr) : Prop where
  cl : Cls K C
  nI : NoAttr K C "_item"
  nS : NoAttr K C "_slot"
/-- the texts that are items -/
def isItem (x : Str) : Bool := decide (x.length ≤ 8) && (Txt.isascii x && (Txt.isalpha x && Txt.islower x))
/-- the class of a way -/
def cw (A : Ad) (way : Int) : Addr := if way = 0 then A.c_Inserted else if way = 1 then A.c_Removed else if way = 2 then A.c_Fronted else A.c_Record
theorem way4 {way : Int} (h0 : 0 ≤ way) (h1 : way ≤ 3) : way = 0 ∨ way = 1 ∨ way = 2 ∨ way = 3 := by omega
/-! ### the drawn numbers -/
/-- at p stands a source, from which at most n numbers were drawn -/
def SrcAt (H : Hp) (p : Addr) (n : Int) : Prop := ∃ g m c : Int, H p = some (.lst [.int g, .int m, .int c]) ∧ 0 ≤ m ∧ m < 2 ^ 140 ∧ 0 ≤ c ∧ c ≤ n
theorem SrcAt.but {H H' : Hp} {p a : Addr} {n : Int} (h : SrcAt H p n) (b : But a H H') (ne : p ≠ a) : SrcAt H' p n := by
  obtain ⟨g, m, c, e, r⟩ := h
  exact ⟨g, m, c, b _ _ e ne, r⟩
theorem SrcAt.same {H H' : Hp} {p : Addr} {n : Int} (h : SrcAt H p n) (b : Same H H') : SrcAt H' p n := by
  obtain ⟨g, m, c, e, r⟩ := h
  exact ⟨g, m, c, b _ _ e, r⟩

section
variable {P : Program} {w : World} {K : PySem.W.Frag} {mg : Str → Option Value} {base : Heap} {A : Ad}
/-! ### whole numbers, items, indices -/
def spYesInt : Sp := fun vs H Q _ => ∃ n : Int, vs = [.int n] ∧ Q (.bl true) H
theorem ok_is_integer (T : Txt K mg A) : Ok1 P w K mg base 1 A.f_is_integer ["thing"] spYesInt := by
  refine T.fn_is_integer.ok sc_is_integer (fun _ _ _ _ _ _ us hl => match us, hl with | [_], _ => rfl) (fun vs H Q E h => ?_) (fun cdv B up s H vs Q E hr h => ?_)
  · obtain ⟨n, rfl, _⟩ := h
    rfl
  · obtain ⟨n, rfl, h⟩ := h
    refine ⟨_, (pss_one (ps_ret (pe_and (pe_callB call_isi (by rfl) T.no_isinstance (by decide +kernel) (pa_cons (pv 0) (pa_cons (pe_bltn (v := .ty "int") (by rfl) T.no_int (by decide +kernel) rfl) pa_nil))) (pe_one (pe_not (pe_callB call_isi (by rfl) T.no_isinstance (by decide +kernel) (pa_cons (pv 0) (pa_cons (pe_bltn (v := .ty "bool") (by rfl) T.no_bool (by decide +kernel) rfl) pa_nil)))))))), ?_⟩
    refine ⟨_, rfl, _, _, _, _, _, rfl, .ty _, .base (.int _), kit_ty (r := true) (by decide +kernel), _, rfl, iteT ?_⟩
    exact ⟨_, rfl, _, _, _, _, _, rfl, .ty _, .base (.int _), kit_ty (r := false) (by decide +kernel), _, rfl, h⟩

def spIsItem : Sp := fun vs H Q _ => ∃ x : Str, vs = [.str x] ∧ x.length ≤ 1000000 ∧ Q (.bl (isItem x)) H
theorem ok_is_item (T : Txt K mg A) : Ok1 P w K mg base 1 A.f_is_item ["thing"] spIsItem := by
  refine T.fn_is_item.ok sc_is_item (fun _ _ _ _ _ _ us hl => match us, hl with | [_], _ => rfl) (fun vs H Q E h => ?_) (fun cdv B up s H vs Q E hr h => ?_)
  · obtain ⟨n, rfl, _⟩ := h
    rfl
  · obtain ⟨x, rfl, hx, h⟩ := h
    refine ⟨_, (pss_cons (ps_if (PW.pt (pw_or (pt_not (pt_val (pe_callB call_isi (by rfl) T.no_isinstance (by decide +kernel) (pa_cons (pv 0) (pa_cons (pe_bltn (v := .ty "str") (by rfl) T.no_str (by decide +kernel) rfl) pa_nil))))) (pw_or1 (pt_cmpR op_gt (pe_callB call_len (by rfl) T.no_len (by decide +kernel) (pa_cons (pv 0) pa_nil)) (pe_globC T.mg_MOST_LETTERS) (nomark _))))) (pss_one (ps_ret pe_bl)) pss_nil)
      (pss_one (ps_ret (pe_and (pe_bm0 PySem.F.plainAttrs_str PySem.F.slot_str_isascii PySem.F.type_str_isascii mt_isascii (pv 0)) (pe_and (pe_bm0 PySem.F.plainAttrs_str PySem.F.slot_str_isalpha PySem.F.type_str_isalpha mt_isalpha (pv 0)) (pe_one (pe_bm0 PySem.F.plainAttrs_str PySem.F.slot_str_islower PySem.F.type_str_islower mt_islower (pv 0)))))))), ?_⟩
    refine ⟨_, rfl, _, _, _, _, _, rfl, .ty _, .base (.str _), kit_ty (r := true) (by decide +kernel), ?_⟩
    refine ⟨_, rfl, ?_⟩
    refine iteF ?_
    refine ⟨_, rfl, _, _, rfl, ⟨szS hx, rfl⟩, _, _, rfl, rfl, _, rfl, ?_⟩
    unfold isItem at h
    refine ite2 (fun c => ?_) (fun c => ?_)
    · have e : decide (x.length ≤ 8) = false := decide_eq_false (by have := of_decide_eq_true c; omega)
      rw [e] at h
      exact h
    · have e : decide (x.length ≤ 8) = true := decide_eq_true (by have := of_decide_eq_false (Bool.eq_false_iff.mpr c); omega)
      rw [e, Bool.true_and] at h
      refine ⟨_, rfl, rfl, _, rfl, rfl, trivial, _, rfl, ?_⟩
      refine ite2 (fun c1 => ?_) (fun c1 => ?_)
      · rw [c1, Bool.true_and] at h
        refine ⟨_, rfl, rfl, _, rfl, rfl, trivial, _, rfl, ?_⟩
        refine ite2 (fun c2 => ?_) (fun c2 => ?_)
        · rw [c2, Bool.true_and] at h
          exact ⟨_, rfl, rfl, _, rfl, rfl, trivial, h⟩
        · rw [Bool.eq_false_iff.mpr c2] at h
          exact h
      · rw [Bool.eq_false_iff.mpr c1] at h
        exact h
def spIndex : Sp := fun vs H Q _ => ∃ n : Int, vs = [.int n] ∧ 0 ≤ n ∧ n ≤ 60 ∧ Q .non H
theorem ok_check_index (T : Txt K mg A) : Ok1 P w K mg base 2 A.f_check_index ["slot"] spIndex := by
  refine T.fn_check_index.ok sc_check_index (fun _ _ _ _ _ _ us hl => match us, hl with | [_], _ => rfl) (fun vs H Q E h => ?_) (fun cdv B up s H vs Q E hr h => ?_)
  · obtain ⟨n, rfl, _⟩ := h
    rfl
  · obtain ⟨n, rfl, h0, h1, h⟩ := h
    refine ⟨_, (pss_one (ps_if (PW.pt (pw_or (pt_not (pt_val (po_call (ok_is_integer T) (hr.mono (by decide)) T.mg_is_integer (pa_cons (pv 0) pa_nil)))) (pw_or1 (pt_not (pt_chain op_le op_le pe_int (pv 0) (pe_clsv T.cv_Record_MOST (pe_glob (v := .ref A.c_Record) rfl T.mg_Record rfl))))))) (pss_one ps_never) pss_nil)), ?_⟩
    refine ⟨_, rfl, _, rfl, _, rfl, ?_⟩
    refine iteF ?_
    refine ⟨_, rfl, _, _, rfl, rfl, _, rfl, ?_⟩
    rw [decide_eq_true h0]
    refine iteT ?_
    refine ⟨_, _, rfl, rfl, _, rfl, ?_⟩
    rw [decide_eq_true h1]
    exact iteF h

/-! ### the records' own defs -/
theorem rc_Record (T : Txt K mg A) : RC K A.c_Record := ⟨T.cl_Record, T.na_Record_item, T.na_Record_slot⟩
theorem rc_Inserted (T : Txt K mg A) : RC K A.c_Inserted := ⟨T.cl_Inserted, T.na_Inserted_item, T.na_Inserted_slot⟩
theorem rc_Removed (T : Txt K mg A) : RC K A.c_Removed := ⟨T.cl_Removed, T.na_Removed_item, T.na_Removed_slot⟩
theorem rc_Fronted (T : Txt K mg A) : RC K A.c_Fronted := ⟨T.cl_Fronted, T.na_Fronted_item, T.na_Fronted_slot⟩
def spInit (K : PySem.W.Frag) : Sp := fun vs H Q _ => ∃ (p C dx : Addr) (x : Str) (n : Int), vs = [.ref p, .str x, .int n] ∧ H p = some (.ins C dx []) ∧ RC K C ∧ isItem x = true ∧ 0 ≤ n ∧ n ≤ 60 ∧
  ∀ H' : Hp, H' p = some (.ins C dx (rfs x n)) → But p H H' → Q .non H'
theorem item_len {x : Str} (h : isItem x = true) : x.length ≤ 8 := by
  unfold isItem at h
  rw [Bool.and_eq_true] at h
  exact of_decide_eq_true h.1
theorem ok_Record___init__ (T : Txt K mg A) : Ok1 P w K mg base 3 A.m_Record___init__ ["self", "item", "slot"] (spInit K) := by
  refine T.fn_Record___init__.ok sc_Record___init__ (fun _ _ _ _ _ _ us hl => match us, hl with | [_, _, _], _ => rfl) (fun vs H Q E h => ?_) (fun cdv B up s H vs Q E hr h => ?_)
  · obtain ⟨p, C, dx, x, n, rfl, _⟩ := h
    rfl
  · obtain ⟨p, C, dx, x, n, rfl, hp, R, hi, h0, h1, h⟩ := h
    refine ⟨_, (pss_cons (ps_if (pt_not (pt_val (po_call (ok_is_item T) (hr.mono (by decide)) T.mg_is_item (pa_cons (pv 1) pa_nil)))) (pss_one ps_never) pss_nil)
      (pss_cons (ps_expr (po_call (ok_check_index T) (hr.mono (by decide)) T.mg_check_index (pa_cons (pv 2) pa_nil)))
      (pss_cons (ps_fld (pv 0) (pv 1) rfl)
      (pss_one (ps_fld (pv 0) (pv 2) rfl))))), ?_⟩
    refine ⟨_, rfl, _, rfl, Nat.le_trans (item_len hi) (by decide), _, rfl, ?_⟩
    rw [hi]
    refine iteF ?_
    refine ⟨_, rfl, _, rfl, h0, h1, ?_⟩
    refine ⟨_, rfl, _, rfl, p, C, dx, _, rfl, hp, R.cl, R.nI, (by decide), ?_⟩
    refine ⟨_, rfl, _, rfl, p, C, dx, _, rfl, upd_same, R.cl, R.nS, (by show 1 < 1000; decide), ?_⟩
    exact h _ upd_same (But.upd.trans But.upd)

/-! ### the law's own defs -/
theorem big39 : ((10 : Int) ^ (39 : Int).toNat + 153) = 1000000000000000000000000000000000000153 := by decide +kernel
theorem big41 : ((10 : Int) ^ (41 : Int).toNat + 109) = 100000000000000000000000000000000000000109 := by decide +kernel
theorem big38 : ((10 : Int) ^ (38 : Int).toNat + 133) = 100000000000000000000000000000000000133 := by decide +kernel
theorem atI0 {α : Type} (a : α) (l : List α) : atI (a :: l) 0 = some a := atI_nat (j := 0) rfl
def spSource (K : PySem.W.Frag) : Sp := fun vs H Q _ => ∃ (a : Addr) (ns : List Int) (k : Nat), vs = [.ref a, .int k] ∧ SqL K H a (ns.map V.int) ∧ k < 64 ∧
  ∀ (p : Addr) (H' : Hp), Same H H' → H p = none → SrcAt H' p 0 → Q (.ref p) H'
theorem ok__law_source (T : Txt K mg A) : Ok1 P w K mg base 1 A.f__law_source ["script", "k"] (spSource K) := by
  refine T.fn__law_source.ok sc__law_source (fun _ _ _ _ _ _ us hl => match us, hl with | [_, _], _ => rfl) (fun vs H Q E h => ?_) (fun cdv B up s H vs Q E hr h => ?_)
  · obtain ⟨a, ns, k, rfl, _⟩ := h
    rfl
  · obtain ⟨a, ns, k, rfl, hS, hk, h⟩ := h
    refine ⟨_, (pss_mid (ps_set (i := 2) sc__law_source.nd rfl (Or.inl rfl) (pe_ifExp (pt_cmpR op_lt (pv 1) (pe_callB call_len (by rfl) T.no_len (by decide +kernel) (pa_cons (pv 0) pa_nil)) (nomark _)) (pe_callB call_abs (by rfl) T.no_abs (by decide +kernel) (pa_cons (pe_ix ix_seq (pv 0) (pv 1) (fun _ _ => rfl)) pa_nil)) pe_int))
      (pss_one (ps_ret (pe_lst (pa_cons (pe_callB (call_max2 rfl) (by rfl) T.no_max (by decide +kernel) (pa_cons pe_int (pa_cons (pe_op op_sub (pv 2) (pe_op op_powX pe_int pe_int)) pa_nil))) (pa_cons (pe_op op_addX (pe_op op_mulX (pe_op op_mod (pv 2) (pe_op op_addX (pe_op op_powX pe_int pe_int) pe_int)) pe_int) (pv 1)) (pa_cons pe_int pa_nil))))))), ?_⟩
    refine ⟨fun σ1 H1 => H1 = H ∧ ∃ c : Int, σ1 = [some (.ref a), some (.int k), some (.int c)], ?_, ?_⟩
    · refine ⟨_, rfl, _, rfl, _, _, rfl, .inl ⟨_, hS, rfl⟩, _, _, rfl, rfl, _, rfl, ?_⟩
      refine ite2 (fun c => ?_) (fun _ => ⟨rfl, 0, rfl⟩)
      have hkn : k < ns.length := by
        have := of_decide_eq_true c
        rw [List.length_map] at this
        omega
      refine ⟨_, rfl, _, rfl, .inl ⟨_, _, _, .int ns[k], rfl, rfl, hS, atI_nat (by simp [hkn]), ?_⟩⟩
      exact ⟨_, rfl, rfl, _, rfl⟩
    · rintro σ1 H1 ⟨rfl, c, rfl⟩
      refine ⟨_, rfl, _, _, rfl, rfl, ⟨by decide, by decide, by decide +kernel⟩, _, _, rfl, rfl, _, _, rfl, ?_⟩
      refine ⟨_, rfl, _, _, rfl, rfl, ⟨by decide, by decide, by decide +kernel⟩, .inl ⟨_, _, rfl, rfl, ?_⟩⟩
      dsimp only
      rw [big39]
      have e0 := Int.emod_nonneg c (show (1000000000000000000000000000000000000153 : Int) ≠ 0 by decide)
      have e1 := Int.emod_lt_of_pos c (show (0 : Int) < 1000000000000000000000000000000000000153 by decide)
      refine ⟨_, _, rfl, rfl, (by show (0 : Int) < _; decide), .inl ⟨_, _, rfl, rfl, wide_mul (a := 140) (b := 7) ?_ (by decide) (by decide) (by decide) (by decide), ?_⟩⟩
      · omega
      refine ⟨_, rfl, .inl ⟨_, _, rfl, rfl, ?_⟩⟩
      refine ⟨Nat.le_of_ble_eq_true rfl, fun p hp => ?_⟩
      refine h p _ (Same.new hp) hp ⟨_, _, 0, upd_same, ?_⟩
      omega
def spPick : Sp := fun vs H Q _ => ∃ (a : Addr) (size n : Int), vs = [.ref a, .int size] ∧ 0 < size ∧ size < 2 ^ 200 ∧ SrcAt H a n ∧ n < 2 ^ 60 ∧
  ∀ (r : Int) (H' : Hp), 0 ≤ r → r < size → SrcAt H' a (n + 1) → But a H H' → Q (.int r) H'
theorem ok__law_pick (T : Txt K mg A) : Ok1 P w K mg base 1 A.f__law_pick ["source", "size"] spPick := by
  refine T.fn__law_pick.ok sc__law_pick (fun _ _ _ _ _ _ us hl => match us, hl with | [_, _], _ => rfl) (fun vs H Q E h => ?_) (fun cdv B up s H vs Q E hr h => ?_)
  · obtain ⟨a, size, n, rfl, _⟩ := h
    rfl
  · obtain ⟨a, size, n, rfl, hs, hs2, ⟨g, m, c, ha, hm0, hm1, hc0, hc1⟩, hn, h⟩ := h
    have hz : CDivW g size := wide_div (b := 200) hs (by omega) (by decide) (by decide)
    refine ⟨_, (pss_cons (ps_if (pt_cmpR op_gt (pe_ix ix_seq (pv 0) pe_int (fun _ _ => rfl)) pe_int (nomark _)) (pss_cons (ps_set (i := 2) sc__law_pick.nd rfl (Or.inl rfl) (pe_op op_mod (pe_ix ix_seq (pv 0) pe_int (fun _ _ => rfl)) (pv 1)))
      (pss_cons (ps_asg (pe_op op_fdivX (pe_ix ix_seq (pv 0) pe_int (fun _ _ => rfl)) (pv 1)) (pg_sub (pv 0) pe_int set_list))
      (pss_one (ps_ret (pv 2))))) pss_nil)
      (pss_cons (ps_asg (pe_op op_addX (pe_ix ix_seq (pv 0) pe_int (fun _ _ => rfl)) pe_int) (pg_sub (pv 0) pe_int set_list))
      (pss_cons (ps_set (i := 3) sc__law_pick.nd rfl (Or.inl rfl) (pe_op op_mod (pe_op op_powX (pe_op op_addX (pe_ix ix_seq (pv 0) pe_int (fun _ _ => rfl)) (pe_op op_mulX pe_int (pe_ix ix_seq (pv 0) pe_int (fun _ _ => rfl)))) pe_int) (pe_op op_addX (pe_op op_powX pe_int pe_int) pe_int)))
      (pss_cons (ps_set (i := 3) sc__law_pick.nd rfl (Or.inl rfl) (pe_op op_mod (pe_op op_powX (pe_op op_addX (pv 3) (pe_op op_mulX pe_int (pe_ix ix_seq (pv 0) pe_int (fun _ _ => rfl)))) pe_int) (pe_op op_addX (pe_op op_powX pe_int pe_int) pe_int)))
      (pss_one (ps_ret (pe_op op_mod (pe_op op_fdivX (pv 3) pe_int) (pv 1)))))))), ?_⟩
    refine ⟨_, rfl, .inl ⟨_, _, _, _, rfl, rfl, SqL.of ha, rfl, _, _, rfl, rfl, _, rfl, ?_⟩⟩
    refine ite2 (fun _ => ?_) (fun _ => ?_)
    · -- the digits of a large cell
      refine ⟨_, rfl, .inl ⟨_, _, _, _, rfl, rfl, SqL.of ha, rfl, _, rfl, _, _, rfl, rfl, hs, ?_⟩⟩
      refine ⟨_, rfl, .inl ⟨_, _, _, _, rfl, rfl, SqL.of ha, rfl, _, rfl, _, _, rfl, rfl, hz, ?_⟩⟩
      refine ⟨_, rfl, _, _, _, _, rfl, rfl, ha, rfl, ?_⟩
      refine ⟨_, rfl, h _ _ (Int.emod_nonneg _ (by omega)) (Int.emod_lt_of_pos _ hs) ⟨_, m, c, upd_same, hm0, hm1, hc0, by omega⟩ But.upd⟩
    · -- source[2] = source[2] + 1
      refine ⟨_, rfl, .inl ⟨_, _, _, _, rfl, rfl, SqL.of ha, rfl, .inl ⟨_, _, rfl, rfl, ?_⟩⟩⟩
      refine ⟨_, rfl, _, _, _, _, rfl, rfl, ha, rfl, ?_⟩
      -- mixed
      refine ⟨_, rfl, .inl ⟨_, _, _, _, rfl, rfl, SqL.of upd_same, rfl, ?_⟩⟩
      refine ⟨_, rfl, .inl ⟨_, _, _, _, rfl, rfl, SqL.of upd_same, rfl, ?_⟩⟩
      refine .inl ⟨_, _, rfl, rfl, wide_mul (a := 30) (b := 62) (by decide) (by omega) (by decide) (by decide) (by decide), .inl ⟨_, _, rfl, rfl, ?_⟩⟩
      have b1 : (m + 86028121 * (c + 1)).natAbs < 2 ^ 150 := by omega
      refine ⟨_, _, rfl, rfl, cpow (by decide) (by decide) b1 (by decide) (by decide), _, _, rfl, rfl, ⟨by decide, by decide, by decide +kernel⟩, .inl ⟨_, _, rfl, rfl, ?_⟩⟩
      dsimp only
      rw [big41]
      refine ⟨_, _, rfl, rfl, (by show (0 : Int) < _; decide), ?_⟩
      dsimp only
      generalize (m + 86028121 * (c + 1)) ^ (3 : Int).toNat = z1
      have e0 := Int.emod_nonneg z1 (show (100000000000000000000000000000000000000109 : Int) ≠ 0 by decide)
      have e1 := Int.emod_lt_of_pos z1 (show (0 : Int) < 100000000000000000000000000000000000000109 by decide)
      generalize z1 % 100000000000000000000000000000000000000109 = y1 at e0 e1 ⊢
      refine ⟨_, rfl, _, rfl, .inl ⟨_, _, _, _, rfl, rfl, SqL.of upd_same, rfl, ?_⟩⟩
      refine .inl ⟨_, _, rfl, rfl, wide_mul (a := 30) (b := 62) (by decide) (by omega) (by decide) (by decide) (by decide), .inl ⟨_, _, rfl, rfl, ?_⟩⟩
      have b2 : (y1 + 122949823 * (c + 1)).natAbs < 2 ^ 150 := by omega
      refine ⟨_, _, rfl, rfl, cpow (by decide) (by decide) b2 (by decide) (by decide), _, _, rfl, rfl, ⟨by decide, by decide, by decide +kernel⟩, .inl ⟨_, _, rfl, rfl, ?_⟩⟩
      dsimp only
      rw [big38]
      refine ⟨_, _, rfl, rfl, (by show (0 : Int) < _; decide), ?_⟩
      dsimp only
      generalize (y1 + 122949823 * (c + 1)) ^ (5 : Int).toNat = z2
      generalize z2 % 100000000000000000000000000000000000133 = y2
      refine ⟨_, rfl, _, _, rfl, rfl, wide_div (b := 30) (by decide) (by decide) (by decide) (by decide), _, rfl, _, _, rfl, rfl, hs, ?_⟩
      exact h _ _ (Int.emod_nonneg _ (by omega)) (Int.emod_lt_of_pos _ hs) ⟨_, m, c + 1, upd_same, hm0, hm1, by omega, by omega⟩ But.upd
theorem eq_dec {a b : Int} (h : decide (V.int a = V.int b) = true) : a = b := V.int.inj (of_decide_eq_true h)
theorem ne_dec {a b : Int} (h : ¬ decide (V.int a = V.int b) = true) : a ≠ b := fun e => h (decide_eq_true (by rw [e]))
def spMake (A : Ad) : Sp := fun vs H Q _ => ∃ (way n : Int) (x : Str), vs = [.int way, .str x, .int n] ∧ 0 ≤ way ∧ way ≤ 3 ∧ isItem x = true ∧ 0 ≤ n ∧ n ≤ 60 ∧
  ∀ (p dx : Addr) (H' : Hp), Same H H' → H p = none → H' p = some (.ins (cw A way) dx (rfs x n)) → Q (.ref p) H'
theorem ok__law_make (T : Txt K mg A) : Ok1 P w K mg base 5 A.f__law_make ["way", "name", "place"] (spMake A) := by
  refine T.fn__law_make.ok sc__law_make (fun _ _ _ _ _ _ us hl => match us, hl with | [_, _, _], _ => rfl) (fun vs H Q E h => ?_) (fun cdv B up s H vs Q E hr h => ?_)
  · obtain ⟨way, n, x, rfl, _⟩ := h
    rfl
  · obtain ⟨way, n, x, rfl, w0, w1, hi, h0, h1, h⟩ := h
    refine ⟨_, (pss_cons (ps_if (pt_cmpR (op_eqX hr) (pv 0) pe_int (nomark _)) (pss_one (ps_ret (po_make T.mk_Inserted (ok_Record___init__ T) (hr.mono (by decide)) T.mg_Inserted (pa_cons (pv 1) (pa_cons (pv 2) pa_nil))))) pss_nil)
      (pss_cons (ps_if (pt_cmpR (op_eqX hr) (pv 0) pe_int (nomark _)) (pss_one (ps_ret (po_make T.mk_Removed (ok_Record___init__ T) (hr.mono (by decide)) T.mg_Removed (pa_cons (pv 1) (pa_cons (pv 2) pa_nil))))) pss_nil)
      (pss_one (ps_ret (pe_ifExp (pt_cmpR (op_eqX hr) (pv 0) pe_int (nomark _)) (po_make T.mk_Fronted (ok_Record___init__ T) (hr.mono (by decide)) T.mg_Fronted (pa_cons (pv 1) (pa_cons (pv 2) pa_nil))) (po_make T.mk_Record (ok_Record___init__ T) (hr.mono (by decide)) T.mg_Record (pa_cons (pv 1) (pa_cons (pv 2) pa_nil)))))))), ?_⟩
    refine ⟨_, rfl, .inl ⟨rfl, _, rfl, ?_⟩⟩
    refine ite2 (fun c => ?_) (fun c => ?_)
    · obtain rfl := eq_dec c
      exact ⟨_, rfl, _, rfl, fun p dx np nd ne => ⟨p, _, dx, x, n, rfl, upd_same, rc_Inserted T, hi, h0, h1, fun H' e b => ⟨rfl, h p dx H' (made_same np nd b) np e⟩⟩⟩
    have c0 := ne_dec c
    refine ⟨_, rfl, .inl ⟨rfl, _, rfl, ?_⟩⟩
    refine ite2 (fun c => ?_) (fun c => ?_)
    · obtain rfl := eq_dec c
      exact ⟨_, rfl, _, rfl, fun p dx np nd ne => ⟨p, _, dx, x, n, rfl, upd_same, rc_Removed T, hi, h0, h1, fun H' e b => ⟨rfl, h p dx H' (made_same np nd b) np e⟩⟩⟩
    have c1 := ne_dec c
    refine ⟨_, rfl, .inl ⟨rfl, _, rfl, ?_⟩⟩
    refine ite2 (fun c => ?_) (fun c => ?_)
    · obtain rfl := eq_dec c
      exact ⟨_, rfl, _, rfl, fun p dx np nd ne => ⟨p, _, dx, x, n, rfl, upd_same, rc_Fronted T, hi, h0, h1, fun H' e b => ⟨rfl, h p dx H' (made_same np nd b) np e⟩⟩⟩
    have c2 := ne_dec c
    obtain rfl : way = 3 := by omega
    exact ⟨_, rfl, _, rfl, fun p dx np nd ne => ⟨p, _, dx, x, n, rfl, upd_same, rc_Record T, hi, h0, h1, fun H' e b => ⟨rfl, h p dx H' (made_same np nd b) np e⟩⟩⟩

/-- the law's own state: what stood at first stands, and p is the source -/
structure Sd (H0 : Hp) (p : Addr) (n : Int) (H : Hp) : Prop where
  same : Same H0 H
  src : SrcAt H p n
  fr : H0 p = none
theorem Sd.pick {H0 H H' : Hp} {p : Addr} {n : Int} (s : Sd H0 p n H) (b : But p H H') (r : SrcAt H' p (n + 1)) : Sd H0 p (n + 1) H' := ⟨s.same.but s.fr b, r, s.fr⟩
theorem Sd.more {H0 H H' : Hp} {p : Addr} {n : Int} (s : Sd H0 p n H) (e : Same H H') : Sd H0 p n H' := ⟨s.same.trans e, s.src.same e, s.fr⟩
theorem Sd.le {H0 H : Hp} {p : Addr} {n m : Int} (s : Sd H0 p n H) (h : n ≤ m) : Sd H0 p m H := by
  obtain ⟨a, ⟨g, m', c, e, h0, h1, h2, h3⟩, f⟩ := s
  exact ⟨a, ⟨g, m', c, e, h0, h1, h2, by omega⟩, f⟩
theorem Sd.ne {H0 H : Hp} {p q : Addr} {n : Int} (s : Sd H0 p n H) (h : H q = none) : q ≠ p := fun e => by
  obtain ⟨g, m', c, z, _⟩ := s.src
  rw [e, z] at h
  cases h
theorem pickI {zs : List Int} {r : Int} (C : Int → Prop) (hC : ∀ z ∈ zs, C z) (h0 : 0 ≤ r) (h1 : r < zs.length) : ∃ z, atI (zs.map V.int) r = some (.int z) ∧ C z := by
  obtain ⟨j, rfl⟩ : ∃ j : Nat, r = j := ⟨r.toNat, by omega⟩
  have hj : j < zs.length := by omega
  exact ⟨zs[j], atI_nat (by simp [hj]), hC _ (List.getElem_mem hj)⟩
theorem at_map {zs : List Int} {i : Nat} {y : V} (h : (zs.map V.int)[i]? = some y) : ∃ z ∈ zs, y = .int z := by
  rw [List.getElem?_map] at h
  cases e : zs[i]? with
  | none => rw [e] at h; cases h
  | some z => rw [e] at h; exact ⟨z, List.mem_of_getElem? e, (Option.some.inj h).symm⟩
/-! ### slices of lists of texts -/
theorem cut_to (xs : List Str) (k : Nat) (h : k ≤ xs.length) : cutV (xs.map V.str) none (some (k : Int)) = (xs.take k).map V.str := by
  unfold cutV
  rw [HT.sIx_none, HT.sIx_nat, List.length_map, Nat.min_eq_left h, List.drop_zero, Nat.sub_zero, List.map_take]
theorem cut_from (xs : List Str) (k : Nat) (h : k ≤ xs.length) : cutV (xs.map V.str) (some (k : Int)) none = (xs.drop k).map V.str := by
  unfold cutV
  rw [HT.sIx_none, HT.sIx_nat, List.length_map, Nat.min_eq_left h, ← List.map_drop, ← List.map_take]
  rw [List.take_of_length_le (by rw [List.length_drop]; exact Nat.le_refl _)]
theorem cut_to' (xs : List Str) (k : Nat) : cutV (xs.map V.str) none (some (k : Int)) = (xs.take k).map V.str := by
  rcases Nat.lt_or_ge xs.length k with h | h
  · unfold cutV
    rw [HT.sIx_none, HT.sIx_nat, List.length_map, Nat.min_eq_right (Nat.le_of_lt h), List.drop_zero, Nat.sub_zero, List.map_take, List.take_of_length_le (by simp), List.take_of_length_le (by simp; omega)]
  · exact cut_to xs k h
theorem cut_from' (xs : List Str) (k : Nat) : cutV (xs.map V.str) (some (k : Int)) none = (xs.drop k).map V.str := by
  rcases Nat.lt_or_ge xs.length k with h | h
  · unfold cutV
    rw [HT.sIx_none, HT.sIx_nat, List.length_map, Nat.min_eq_right (Nat.le_of_lt h), List.drop_of_length_le (show xs.length ≤ k by omega), Nat.sub_self, List.take_zero]
    rfl
  · exact cut_from xs k h
theorem cut_both (xs : List Str) (j k : Nat) : cutV (xs.map V.str) (some (j : Int)) (some (k : Int)) = ((xs.take k).drop j).map V.str := by
  unfold cutV
  rw [HT.sIx_nat, HT.sIx_nat, List.length_map, List.drop_take, List.map_take, List.map_drop]
  rcases Nat.lt_or_ge xs.length j with h | h
  · rw [Nat.min_eq_right (Nat.le_of_lt h), List.drop_of_length_le (by simp), List.drop_of_length_le (by simp; omega)]
    simp
  · rw [Nat.min_eq_left h]
    rcases Nat.lt_or_ge xs.length k with h2 | h2
    · rw [Nat.min_eq_right (Nat.le_of_lt h2), List.take_of_length_le (by simp), List.take_of_length_le (by simp; omega)]
    · rw [Nat.min_eq_left h2]

/-! ### names -/
def letters26 : Str := "abcdefghijklmnopqrstuvwxyz"
def letr (k : Nat) : Str := ⟨#[97 + k]⟩
theorem letters_at {j : Int} (h0 : 0 ≤ j) (h1 : j < 26) : atI letters26.cps.toList j = some (97 + j.toNat) := by
  obtain ⟨k, rfl⟩ : ∃ k : Nat, j = k := ⟨j.toNat, by omega⟩
  refine atI_nat ?_
  have hk : k < 26 := by omega
  have all : ∀ k : Fin 26, letters26.cps.toList[(k : Nat)]? = some (97 + (k : Nat)) := by decide +kernel
  exact all ⟨k, hk⟩
def two (j : Nat) : Str := letr (j / 26) ++ letr (j % 26)
/-- the j-th name of a style -/
def nm (style j : Nat) : Str := if style = 0 then (if j < 26 then letr j else letr (j / 26 - 1) ++ letr (j % 26)) else if style = 1 then two j else "abcdef" ++ two j
theorem nm_item {style j : Nat} (hs : style < 3) (hj : j < 70) : isItem (nm style j) = true := by
  have all : ∀ (s : Fin 3) (j : Fin 70), isItem (nm s j) = true := by decide +kernel
  exact all ⟨style, hs⟩ ⟨j, hj⟩
theorem nm_inj {style i j : Nat} (hs : style < 3) (hi : i < 70) (hj : j < 70) (e : nm style i = nm style j) : i = j := by
  have all : ∀ (s : Fin 3) (i j : Fin 70), nm s i = nm s j → i = j := by decide +kernel
  have := all ⟨style, hs⟩ ⟨i, hi⟩ ⟨j, hj⟩ e
  exact congrArg Fin.val this
theorem nm_nodup {style many : Nat} (hs : style < 3) (hm : many ≤ 70) : ((List.range many).map (nm style)).Nodup := by
  rw [List.nodup_iff_pairwise_ne, List.pairwise_map]
  refine List.Pairwise.imp_of_mem (fun {i j} hi hj ne e => ne ?_) List.nodup_range
  rw [List.mem_range] at hi hj
  exact nm_inj hs (by omega) (by omega) e
/-- different items -/
structure Items (xs : List Str) : Prop where
  it : ∀ x ∈ xs, isItem x = true
  nd : xs.Nodup
theorem Items.perm {xs ys : List Str} (h : Items xs) (p : ys.Perm xs) : Items ys := ⟨fun x hx => h.it x (p.mem_iff.mp hx), p.nodup_iff.mpr h.nd⟩
theorem Items.len {xs : List Str} (h : Items xs) {x : Str} (hx : x ∈ xs) : x.length ≤ 8 := item_len (h.it x hx)

end
end Own

set_option Elab.async false
set_option linter.all false
set_option maxRecDepth 100000
set_option maxHeartbeats 4000000
namespace Own
open PySem L2 ClX
local macro_rules | `(tactic| walk_at "v") => `(tactic| refine ⟨_, rfl, ?_⟩)
local macro_rules | `(tactic| walk_at "ii") => `(tactic| refine ⟨_, _, rfl, rfl, ?_⟩)
local macro_rules | `(tactic| walk_at "go") => `(tactic| repeat (first | refine ⟨_, rfl, ?_⟩ | refine ⟨_, _, rfl, rfl, ?_⟩ | refine addI ?_ | refine L2.iteT ?_ | refine L2.iteF ?_))

section
variable {P : Program} {w : World} {K : PySem.W.Frag} {mg : Str → Option Value} {base : Heap} {A : Ad}
/-! ### shuffled -/
theorem seqIx {r : Int} {n : Nat} (h0 : 0 ≤ r) (h1 : r < n) : seqIndex? r n = some r.toNat := by
  have h2 : ¬ r < 0 := by omega
  simp [seqIndex?, h2, h0, h1]
theorem erase_perm {α : Type} : ∀ (l : List α) (k : Nat) (h : k < l.length), (l[k] :: l.eraseIdx k).Perm l
  | _ :: _, 0, _ => List.Perm.refl _
  | x :: l, k + 1, h => (List.Perm.swap x _ (l.eraseIdx k)).trans ((erase_perm l k (Nat.lt_of_succ_lt_succ h)).cons x)
theorem perm_out {α : Type} (done rest : List α) (k : Nat) (h : k < rest.length) : ((done ++ [rest[k]]) ++ rest.eraseIdx k).Perm (done ++ rest) := by
  rw [List.append_assoc]
  exact List.Perm.append_left _ (erase_perm rest k h)
theorem map_eraseIdx {α β : Type} (f : α → β) : ∀ (l : List α) (k : Nat), (l.map f).eraseIdx k = (l.eraseIdx k).map f
  | [], _ => rfl
  | _ :: _, 0 => rfl
  | x :: l, k + 1 => congrArg (f x :: ·) (map_eraseIdx f l k)
def spShuf : Sp := fun vs H Q _ => ∃ (p r : Addr) (n : Int) (xs : List Str), vs = [.ref p, .ref r] ∧ SrcAt H p n ∧ H r = some (.lst (xs.map V.str)) ∧ xs.length ≤ 100 ∧ n < 2 ^ 50 ∧
  ∀ (D : Addr) (ys : List Str) (H' : Hp), ys.Perm xs → But p H H' → SrcAt H' p (n + xs.length) → H D = none → H' D = some (.lst (ys.map V.str)) → Q (.ref D) H'
theorem ok__law_shuffled (T : Txt K mg A) : Ok1 P w K mg base 2 A.f__law_shuffled ["source", "row"] spShuf := by
  refine T.fn__law_shuffled.ok sc__law_shuffled (fun _ _ _ _ _ _ us hl => match us, hl with | [_, _], _ => rfl) (fun vs H Q E h => ?_) (fun cdv B up s H vs Q E hr h => ?_)
  · obtain ⟨p, r, n, xs, rfl, _⟩ := h
    rfl
  · obtain ⟨p, r, n, xs, rfl, hs, hx, hl, hn, h⟩ := h
    refine ⟨_, (pss_cons (ps_set (i := 2) sc__law_shuffled.nd rfl (Or.inr rfl) (pe_callTy call_list_of (by rfl) T.no_list (by decide +kernel) (pa_cons (pv 1) pa_nil)))
      (pss_one (ps_ret (pe_lcD (own := [("j", 3)]) rfl sc__law_shuffled.nd (pi_range1 rfl T.no_range (pa_cons (pe_callB call_len (by rfl) T.no_len (by decide +kernel) (pa_cons (pv 1) pa_nil)) pa_nil)) (blkOk_by (N := N__law_shuffled) (sc := defScope s__law_shuffled) (by decide +kernel)) (fun _ _ _ _ _ => pg_name (i := 3) sc__law_shuffled.nd rfl (Or.inl rfl)) (fun _ _ _ _ _ => pts_nil) (fun _ _ _ _ _ => (pe_bm PySem.F.plainAttrs_list PySem.F.slot_list_pop PySem.F.type_list_pop mt_popAt (pv 2) (pa_cons (po_call (ok__law_pick T) (hr.mono (by decide)) T.mg__law_pick (pa_cons (pv 0) (pa_cons (pe_callB call_len (by rfl) T.no_len (by decide +kernel) (pa_cons (pv 2) pa_nil)) pa_nil))) pa_nil))))))), ?_⟩
    refine ⟨_, rfl, r, _, rfl, .inl (SqL.of hx), fun l nl => ?_⟩
    have lp : l ≠ p := fun e => by
      obtain ⟨g, m, c, z, _⟩ := hs
      rw [e, z] at nl
      cases nl
    refine ⟨_, rfl, _, _, rfl, .inl ⟨_, SqL.of (show upd H l _ r = _ by rw [upd_ne (ne_of_none hx nl)]; exact hx), rfl⟩, ?_⟩
    refine ⟨_, rfl, by omega, by rw [List.length_map]; omega, fun D nD => ?_⟩
    have Dl : D ≠ l := fun e => by
      rw [e, upd_same] at nD
      cases nD
    have nD0 : H D = none := by
      rw [upd_ne Dl] at nD
      exact nD
    have Dp : D ≠ p := fun e => by
      obtain ⟨g, m, c, z, _⟩ := hs
      rw [e, z] at nD0
      cases nD0
    refine lc_range (fun i H' => ∃ done rest : List Str, (done ++ rest).Perm xs ∧ done.length = i ∧ H' l = some (.lst (rest.map V.str)) ∧ H' D = some (.lst (done.map V.str)) ∧ SrcAt H' p (n + i) ∧ But p H H') ?_ ?_ ?_
    · refine ⟨[], xs, List.Perm.refl _, rfl, ?_, upd_same, ?_, ?_⟩
      · rw [upd_ne (fun e => Dl e.symm), upd_same]
      · have z := (hs.same (Same.new (o := .lst (xs.map V.str)) nl)).same (Same.new (o := .lst []) nD)
        have e : n + ((0 : Nat) : Int) = n := by omega
        rw [e]
        exact z
      · exact But.same ((Same.new nl).trans (Same.new nD))
    · rintro i H1 hi ⟨done, rest, pm, dl, h1, h2, h3, h4⟩
      rw [List.length_map, Int.toNat_natCast] at hi
      have hlen : rest.length = xs.length - i := by
        have := pm.length_eq
        rw [List.length_append] at this
        omega
      refine ⟨rfl, _, rfl, .inl ⟨rfl, _, SqL.of h1⟩, _, rfl, _, rfl, _, _, rfl, .inl ⟨_, SqL.of h1, rfl⟩, p, _, n + i, rfl, ?_, ?_, h3, by omega, fun r0 H3 g0 g1 g2 g3 => ?_⟩
      · rw [List.length_map]
        omega
      · rw [List.length_map]
        omega
      rw [List.length_map] at g1
      have k1 : r0.toNat < rest.length := by omega
      refine ⟨l, _, r0, r0.toNat, V.str (rest[r0.toNat]), rfl, rfl, g3 _ _ h1 lp, by omega, by omega, ?_, ?_, done.map V.str, ?_, ?_, done ++ [rest[r0.toNat]], rest.eraseIdx r0.toNat, (perm_out done rest _ k1).trans pm, ?_, ?_, ?_, ?_, ?_⟩
      · rw [List.length_map]
        exact seqIx g0 g1
      · rw [List.getElem?_map, List.getElem?_eq_getElem k1]
        rfl
      · rw [upd_ne Dl]
        exact g3 _ _ h2 Dp
      · rw [List.length_map, dl]
        exact Nat.lt_of_lt_of_le (show i < 1000 by omega) (by decide)
      · rw [List.length_append, dl]
        rfl
      · rw [upd_ne (fun e => Dl e.symm), upd_same, map_eraseIdx]
      · rw [upd_same, List.map_append]
        rfl
      · have z : n + ((i + 1 : Nat) : Int) = n + i + 1 := by omega
        rw [z]
        obtain ⟨g, m, c, e, r⟩ := g2
        exact ⟨g, m, c, by rw [upd_ne (fun e => Dp e.symm), upd_ne (fun e => lp e.symm)]; exact e, r⟩
      · intro b o hb nb
        rw [upd_ne (ne_of_none hb nD0), upd_ne (ne_of_none hb nl)]
        exact g3 _ _ (h4 b o hb nb) nb
    · rintro H1 ⟨done, rest, pm, dl, h1, h2, h3, h4⟩
      rw [List.length_map, Int.toNat_natCast] at dl h3
      have hlen : rest.length = 0 := by
        have := pm.length_eq
        rw [List.length_append] at this
        omega
      rw [List.length_eq_zero_iff.mp hlen, List.append_nil] at pm
      exact h D done H1 pm h4 h3 nD0 h2

end
end Own

set_option Elab.async false
set_option linter.all false
set_option maxRecDepth 100000
set_option maxHeartbeats 4000000
namespace Own
open PySem L2 ClX
local macro_rules | `(tactic| walk_at "v") => `(tactic| refine ⟨_, rfl, ?_⟩)
local macro_rules | `(tactic| walk_at "ii") => `(tactic| refine ⟨_, _, rfl, rfl, ?_⟩)
local macro_rules | `(tactic| walk_at "go") => `(tactic| repeat (first | refine ⟨_, rfl, ?_⟩ | refine ⟨_, _, rfl, rfl, ?_⟩ | refine addI ?_ | refine L2.iteT ?_ | refine L2.iteF ?_))

section
variable {P : Program} {w : World} {K : PySem.W.Frag} {mg : Str → Option Value} {base : Heap} {A : Ad}
/-! ### names, drawn -/
def spNames : Sp := fun vs H Q _ => ∃ (p : Addr) (n : Int) (many : Nat), vs = [.ref p, .int many] ∧ SrcAt H p n ∧ many ≤ 64 ∧ n < 2 ^ 49 ∧
  ∀ (D : Addr) (ys : List Str) (H' : Hp), Items ys → ys.length = many → But p H H' → SrcAt H' p (n + 100) → H D = none → H' D = some (.lst (ys.map V.str)) → Q (.ref D) H'
theorem SrcAt.le {H : Hp} {p : Addr} {n m : Int} (h : SrcAt H p n) (l : n ≤ m) : SrcAt H p m := by
  obtain ⟨g, m', c, e, h0, h1, h2, h3⟩ := h
  exact ⟨g, m', c, e, h0, h1, h2, by omega⟩
theorem SrcAt.ne {H : Hp} {p q : Addr} {n : Int} (s : SrcAt H p n) (h : H q = none) : q ≠ p := fun e => by
  obtain ⟨g, m', c, z, _⟩ := s
  rw [e, z] at h
  cases h
theorem ok__law_names (T : Txt K mg A) : Ok1 P w K mg base 3 A.f__law_names ["source", "many"] spNames := by
  refine T.fn__law_names.ok sc__law_names (fun _ _ _ _ _ _ us hl => match us, hl with | [_, _], _ => rfl) (fun vs H Q E h => ?_) (fun cdv B up s H vs Q E hr h => ?_)
  · obtain ⟨p, n, many, rfl, _⟩ := h
    rfl
  · obtain ⟨p, n, many, rfl, hs, hm, hn, h⟩ := h
    refine ⟨_, (pss_cons (ps_set (i := 2) sc__law_names.nd rfl (Or.inl rfl) pe_str)
      (pss_cons (ps_set (i := 3) sc__law_names.nd rfl (Or.inl rfl) (po_call (ok__law_pick T) (hr.mono (by decide)) T.mg__law_pick (pa_cons (pv 0) (pa_cons pe_int pa_nil))))
      (pss_cons (ps_set (i := 4) sc__law_names.nd rfl (Or.inl rfl) (pe_lst pa_nil))
      (pss_cons (ps_for PassesOwn.never rfl (pi_range1 rfl T.no_range (pa_cons (pv 1) pa_nil)) (pg_name (i := 5) sc__law_names.nd rfl (Or.inl rfl))
      (pss_mid (ps_set (i := 6) sc__law_names.nd rfl (Or.inl rfl) (pe_ifExp (pt_cmpR op_lt (pv 5) pe_int (nomark _)) (pe_ix ix_seq (pv 2) (pv 5) (fun _ _ => rfl)) (pe_op op_addX (pe_ix ix_seq (pv 2) (pe_op op_sub (pe_op op_fdivX (pv 5) pe_int) pe_int) (fun _ _ => rfl)) (pe_ix ix_seq (pv 2) (pe_op op_mod (pv 5) pe_int) (fun _ _ => rfl)))))
      (pss_cons (ps_set (i := 7) sc__law_names.nd rfl (Or.inl rfl) (pe_op op_addX (pe_ix ix_seq (pv 2) (pe_op op_fdivX (pv 5) pe_int) (fun _ _ => rfl)) (pe_ix ix_seq (pv 2) (pe_op op_mod (pv 5) pe_int) (fun _ _ => rfl))))
      (pss_one (ps_expr (pe_bm PySem.F.plainAttrs_list PySem.F.slot_list_append PySem.F.type_list_append mt_append (pv 4) (pa_cons (pe_ix ix_seq (pe_lst (pa_cons (pv 6) (pa_cons (pv 7) (pa_cons (pe_op op_addX pe_str (pv 7)) pa_nil)))) (pv 3) (fun _ _ => rfl)) pa_nil)))))))
      (pss_one (ps_ret (po_call (ok__law_shuffled T) (hr.mono (by decide)) T.mg__law_shuffled (pa_cons (pv 0) (pa_cons (pv 4) pa_nil))))))))), ?_⟩
    refine ⟨_, rfl, p, 3, n, rfl, by decide, by decide, hs, by omega, fun st H1 g0 g1 g2 g3 => ?_⟩
    refine ⟨Nat.zero_le _, fun f nf => ?_⟩
    have fp : f ≠ p := g2.ne nf
    have nf0 : H f = none := by
      cases e : H f with
      | none => rfl
      | some o =>
        rw [g3 _ _ e fp] at nf
        cases nf
    refine ⟨_, rfl, _, rfl, by omega, by omega, ?_⟩
    refine for_range (fun i σ H' => (∃ a5 a6 a7, σ = [some (.ref p), some (.int many), some (.str letters26), some (.int st), some (.ref f), a5, a6, a7]) ∧ H' f = some (.lst (((List.range i).map (nm st.toNat)).map V.str)) ∧ SrcAt H' p (n + 1) ∧ But p H H') ?_ ?_ ?_
    · refine ⟨⟨_, _, _, rfl⟩, upd_same, ?_, ?_⟩
      · exact g2.same (Same.new nf)
      · exact g3.trans (But.same (Same.new nf))
    · rintro i σ H2 hi ⟨⟨a5, a6, a7, rfl⟩, h1, h2, h3⟩
      rw [Int.toNat_natCast] at hi
      have hi70 : i < 70 := by omega
      refine (?_ : gName 5 (.int (0 + (i : Int))) _ _ _)
      rw [Int.zero_add]
      have lt : ∀ j : Int, 0 ≤ j → j < 26 → atI letters26.cps.toList j = some (97 + j.toNat) := fun j a b => letters_at a b
      have q26 : CDivW (i : Int) 26 := wide_div (b := 30) (by decide) (by decide) (by decide) (by decide)
      refine ⟨fun σ1 H1' => H1' = H2 ∧ σ1 = [some (.ref p), some (.int many), some (.str letters26), some (.int st), some (.ref f), some (.int i), some (.str (if i < 26 then letr i else letr (i / 26 - 1) ++ letr (i % 26))), a7], ?_, ?_⟩
      · refine ⟨_, rfl, _, _, rfl, rfl, _, rfl, ?_⟩
        refine ite2 (fun c => ?_) (fun c => ?_)
        · have c' := of_decide_eq_true c
          refine ⟨_, rfl, _, rfl, ixS (by decide) (lt _ (by omega) (by omega)) ⟨rfl, ?_⟩⟩
          rw [if_pos (show i < 26 by omega)]
          rfl
        · have c' : ¬ (i : Int) < 26 := fun z => c (decide_eq_true z)
          refine ⟨_, rfl, _, rfl, _, _, rfl, rfl, q26, _, _, rfl, rfl, ixS (by decide) (lt _ (by omega) (by omega)) ?_⟩
          refine ⟨_, rfl, _, rfl, _, _, rfl, rfl, (by show (0 : Int) < 26; decide), ixS (by decide) (lt _ (by omega) (by omega)) ?_⟩
          refine addS (Nat.le_of_ble_eq_true rfl) ⟨rfl, ?_⟩
          rw [if_neg (show ¬ i < 26 by omega)]
          have e1 : ((i : Int) / 26 - 1).toNat = i / 26 - 1 := by omega
          have e2 : ((i : Int) % 26).toNat = i % 26 := by omega
          rw [e1, e2]
          rfl
      · rintro σ1 H1' ⟨rfl, rfl⟩
        refine ⟨_, rfl, _, rfl, _, _, rfl, rfl, q26, ixS (by decide) (lt _ (by omega) (by omega)) ?_⟩
        refine ⟨_, rfl, _, rfl, _, _, rfl, rfl, (by show (0 : Int) < 26; decide), ixS (by decide) (lt _ (by omega) (by omega)) ?_⟩
        refine addS (Nat.le_of_ble_eq_true rfl) ?_
        have e1 : ((i : Int) / 26).toNat = i / 26 := by omega
        have e2 : ((i : Int) % 26).toNat = i % 26 := by omega
        rw [e1, e2]
        refine (?_ : gName 7 (.str (two i)) _ _ _)
        have pick : atI [V.str (if i < 26 then letr i else letr (i / 26 - 1) ++ letr (i % 26)), V.str (two i), V.str ("abcdef" ++ two i)] st = some (V.str (nm st.toNat i)) := by
          rcases (show st = 0 ∨ st = 1 ∨ st = 2 by omega) with rfl | rfl | rfl
          · exact atI0 _ _
          · exact atI_nat (j := 1) rfl
          · exact atI_nat (j := 2) rfl
        refine ⟨_, rfl, .inl ⟨rfl, _, SqL.of h1⟩, _, rfl, _, rfl, _, rfl, addS (Nat.le_of_ble_eq_true rfl) ⟨Nat.le_of_ble_eq_true rfl, fun q nq => ?_⟩⟩
        have qf : q ≠ f := ne_of_none h1 nq |>.symm
        have qp : q ≠ p := h2.ne nq
        have nq0 : H q = none := by
          cases e : H q with
          | none => rfl
          | some o =>
            rw [h3 _ _ e qp] at nq
            cases nq
        refine ⟨_, rfl, ixL upd_same pick ⟨f, _, _, rfl, rfl, (show upd H1' q _ f = _ by rw [upd_ne (fun e => qf e.symm)]; exact h1), ?_, ?_⟩⟩
        · rw [List.length_map, List.length_map, List.length_range]
          exact Nat.lt_of_lt_of_le (show i < 1000 by omega) (by decide)
        · refine ⟨⟨_, _, _, rfl⟩, ?_, ?_, ?_⟩
          · rw [upd_same, List.range_succ, List.map_append, List.map_append]
            rfl
          · exact (h2.same (Same.new nq)).but But.upd (fun e => fp e.symm)
          · intro b o hb nb
            rw [upd_ne (ne_of_none hb nf0), upd_ne (ne_of_none hb nq0)]
            exact h3 b o hb nb
    · rintro σ H2 ⟨⟨a5, a6, a7, rfl⟩, h1, h2, h3⟩
      rw [Int.toNat_natCast] at h1
      have itm : Items ((List.range many).map (nm st.toNat)) := by
        refine ⟨fun x hx => ?_, nm_nodup (by omega) (by omega)⟩
        obtain ⟨j, hj, rfl⟩ := List.mem_map.mp hx
        rw [List.mem_range] at hj
        exact nm_item (by omega) (by omega)
      refine ⟨_, rfl, _, rfl, p, f, n + 1, _, rfl, h2, h1, ?_, by omega, fun D ys H' pm b1 s1 nD hD => ?_⟩
      · rw [List.length_map, List.length_range]
        omega
      · rw [List.length_map, List.length_range] at s1
        refine h D ys H' (itm.perm pm) ?_ (h3.trans b1) (s1.le (by omega)) ?_ hD
        · rw [pm.length_eq, List.length_map, List.length_range]
        · cases e : H D with
          | none => rfl
          | some o =>
            have z : D ≠ p := h2.ne nD
            rw [h3 _ _ e z] at nD
            cases nD

end
end Own

set_option Elab.async false
set_option linter.all false
set_option maxRecDepth 100000
set_option maxHeartbeats 4000000
namespace Own
open PySem L2 ClX
local macro_rules | `(tactic| walk_at "v") => `(tactic| refine ⟨_, rfl, ?_⟩)
local macro_rules | `(tactic| walk_at "ii") => `(tactic| refine ⟨_, _, rfl, rfl, ?_⟩)
local macro_rules | `(tactic| walk_at "go") => `(tactic| repeat (first | refine ⟨_, rfl, ?_⟩ | refine ⟨_, _, rfl, rfl, ?_⟩ | refine addI ?_ | refine L2.iteT ?_ | refine L2.iteF ?_))

section
variable {P : Program} {w : World} {K : PySem.W.Frag} {mg : Str → Option Value} {base : Heap} {A : Ad}
/-! ### a list and spare items, drawn -/
theorem none_of_but {H H' : Hp} {p D : Addr} {n : Int} (b : But p H H') (s : SrcAt H' p n) (nD : H' D = none) : H D = none := by
  cases e : H D with
  | none => rfl
  | some o =>
    rw [b _ _ e (s.ne nD)] at nD
    cases nD
def spShelf : Sp := fun vs H Q _ => ∃ (p : Addr) (n most : Int), vs = [.ref p, .int most] ∧ SrcAt H p n ∧ 0 ≤ most ∧ most ≤ 60 ∧ n < 2 ^ 48 ∧
  ∀ (t a b : Addr) (xs ys : List Str) (H' : Hp), Items (xs ++ ys) → xs.length ≤ 60 → ys.length = 4 → But p H H' → SrcAt H' p (n + 110) → H a = none → H b = none → a ≠ b → H' a = some (.lst (xs.map V.str)) → H' b = some (.lst (ys.map V.str)) →
    H' t = some (.tup [.ref a, .ref b]) → Q (.ref t) H'
theorem ok__law_shelf (T : Txt K mg A) : Ok1 P w K mg base 4 A.f__law_shelf ["source", "most"] spShelf := by
  refine T.fn__law_shelf.ok sc__law_shelf (fun _ _ _ _ _ _ us hl => match us, hl with | [_, _], _ => rfl) (fun vs H Q E h => ?_) (fun cdv B up s H vs Q E hr h => ?_)
  · obtain ⟨p, n, most, rfl, _⟩ := h
    rfl
  · obtain ⟨p, n, most, rfl, hs, m0, m1, hn, h⟩ := h
    refine ⟨_, (pss_cons (ps_set (i := 2) sc__law_shelf.nd rfl (Or.inl rfl) (pe_ix ix_seq (pe_lst (pa_cons (po_call (ok__law_pick T) (hr.mono (by decide)) T.mg__law_pick (pa_cons (pv 0) (pa_cons pe_int pa_nil))) (pa_cons (po_call (ok__law_pick T) (hr.mono (by decide)) T.mg__law_pick (pa_cons (pv 0) (pa_cons (pe_op op_addX (pv 1) pe_int) pa_nil))) (pa_cons (pv 1) pa_nil)))) (po_call (ok__law_pick T) (hr.mono (by decide)) T.mg__law_pick (pa_cons (pv 0) (pa_cons pe_int pa_nil))) (fun _ _ => rfl)))
      (pss_cons (ps_set (i := 3) sc__law_shelf.nd rfl (Or.inl rfl) (po_call (ok__law_names T) (hr.mono (by decide)) T.mg__law_names (pa_cons (pv 0) (pa_cons (pe_op op_addX (pv 2) pe_int) pa_nil))))
      (pss_one (ps_ret (pe_tup (pa_cons (pe_slice sl_list (pv 3) po_none (po_some (pv 2))) (pa_cons (pe_slice sl_list (pv 3) (po_some (pv 2)) po_none) pa_nil))))))), ?_⟩
    refine ⟨_, rfl, p, 5, n, rfl, by decide, by decide, hs, by omega, fun r1 H1 a0 a1 a2 a3 => ?_⟩
    refine ⟨_, rfl, _, rfl, addI ⟨p, most + 1, n + 1, rfl, by omega, by omega, a2, by omega, fun r2 H2 b0 b1 b2 b3 => ?_⟩⟩
    refine ⟨_, rfl, Nat.le_of_ble_eq_true rfl, fun q nq => ?_⟩
    have qp : q ≠ p := b2.ne nq
    refine ⟨_, rfl, p, 3, n + 1 + 1, rfl, by decide, by decide, b2.same (Same.new nq), by omega, fun r3 H3 c0 c1 c2 c3 => ?_⟩
    have nq0 : H q = none := none_of_but (a3.trans b3) b2 nq
    have B3 : But p H H3 := (a3.trans b3).trans ((But.same (Same.new nq)).trans c3)
    obtain ⟨z, hz, z0, z1⟩ := pickI (zs := [r1, r2, most]) (fun z => 0 ≤ z ∧ z ≤ 60) (by intro z hz; simp at hz; omega) c0 c1
    refine ixL (c3 _ _ upd_same qp) hz ?_
    obtain ⟨k, rfl⟩ : ∃ k : Nat, z = k := ⟨z.toNat, by omega⟩
    have z1' : k ≤ 60 := by omega
    refine ⟨_, rfl, _, rfl, addI ⟨p, n + 1 + 1 + 1, k + 4, rfl, c2, by omega, by omega, fun D zs H4 iz lz b4 s4 nD hD => ?_⟩⟩
    have Dp : D ≠ p := c2.ne nD
    have nD0 : H D = none := none_of_but B3 c2 nD
    refine ⟨_, rfl, _, rfl, _, rfl, D, _, rfl, SqL.of hD, fun a na => ?_⟩
    have aD : D ≠ a := ne_of_none hD na
    refine ⟨_, rfl, _, rfl, _, rfl, D, _, rfl, SqL.of (show upd H4 a _ D = _ by rw [upd_ne aD]; exact hD), fun b nb => ?_⟩
    have ba : b ≠ a := fun e => by
      rw [e, upd_same] at nb
      cases nb
    have nb4 : H4 b = none := by
      rw [upd_ne ba] at nb
      exact nb
    have ap : a ≠ p := s4.ne na
    have bp : b ≠ p := s4.ne nb4
    have B4 : But p H H4 := B3.trans b4
    have na0 : H a = none := none_of_but B4 s4 na
    have nb0 : H b = none := none_of_but B4 s4 nb4
    refine ⟨Nat.le_of_ble_eq_true rfl, fun t nt => ?_⟩
    have tb : b ≠ t := fun e => by
      rw [← e, upd_same] at nt
      cases nt
    have ta : a ≠ t := fun e => by
      rw [← e, upd_ne (fun z => ba z.symm), upd_same] at nt
      cases nt
    refine h t a b (zs.take k) (zs.drop k) _ ?_ ?_ ?_ ?_ ?_ na0 nb0 (fun e => ba e.symm) ?_ ?_ upd_same
    · rw [List.take_append_drop]
      exact iz
    · rw [List.length_take]
      omega
    · rw [List.length_drop]
      omega
    · exact B4.trans (But.same ((Same.new na).trans ((Same.new nb).trans (Same.new nt))))
    · exact (s4.same ((Same.new na).trans ((Same.new nb).trans (Same.new nt)))).le (by omega)
    · rw [upd_ne ta, upd_ne (fun z => ba z.symm), upd_same, cut_to' zs k]
    · rw [upd_ne tb, upd_same, cut_from' zs k]

end
end Own

set_option Elab.async false
set_option linter.all false
set_option maxRecDepth 100000
set_option maxHeartbeats 4000000
namespace Own
open PySem L2 ClX
local macro_rules | `(tactic| walk_at "v") => `(tactic| refine ⟨_, rfl, ?_⟩)
local macro_rules | `(tactic| walk_at "ii") => `(tactic| refine ⟨_, _, rfl, rfl, ?_⟩)
local macro_rules | `(tactic| walk_at "go") => `(tactic| repeat (first | refine ⟨_, rfl, ?_⟩ | refine ⟨_, _, rfl, rfl, ?_⟩ | refine addI ?_ | refine L2.iteT ?_ | refine L2.iteF ?_))

section
variable {P : Program} {w : World} {K : PySem.W.Frag} {mg : Str → Option Value} {base : Heap} {A : Ad}
/-! ### lists of items, or any object -/
def itemO : Option Str → Bool
  | some x => isItem x
  | none => false
def spItemA (K : PySem.W.Frag) : Sp := fun vs H Q _ => ∃ (v : V) (o : Option Str), vs = [v] ∧ Ent K H v o ∧ Q (.bl (itemO o)) H
theorem ok_is_itemA (T : Txt K mg A) : Ok1 P w K mg base 1 A.f_is_item ["thing"] (spItemA K) := by
  refine T.fn_is_item.ok sc_is_item (fun _ _ _ _ _ _ us hl => match us, hl with | [_], _ => rfl) (fun vs H Q E h => ?_) (fun cdv B up s H vs Q E hr h => ?_)
  · obtain ⟨v, o, rfl, _⟩ := h
    rfl
  · obtain ⟨v, o, rfl, he, h⟩ := h
    refine ⟨_, (pss_cons (ps_if (PW.pt (pw_or (pt_not (pt_val (pe_callB call_isi (by rfl) T.no_isinstance (by decide +kernel) (pa_cons (pv 0) (pa_cons (pe_bltn (v := .ty "str") (by rfl) T.no_str (by decide +kernel) rfl) pa_nil))))) (pw_or1 (pt_cmpR op_gt (pe_callB call_len (by rfl) T.no_len (by decide +kernel) (pa_cons (pv 0) pa_nil)) (pe_globC T.mg_MOST_LETTERS) (nomark _))))) (pss_one (ps_ret pe_bl)) pss_nil)
      (pss_one (ps_ret (pe_and (pe_bm0 PySem.F.plainAttrs_str PySem.F.slot_str_isascii PySem.F.type_str_isascii mt_isascii (pv 0)) (pe_and (pe_bm0 PySem.F.plainAttrs_str PySem.F.slot_str_isalpha PySem.F.type_str_isalpha mt_isalpha (pv 0)) (pe_one (pe_bm0 PySem.F.plainAttrs_str PySem.F.slot_str_islower PySem.F.type_str_islower mt_islower (pv 0)))))))), ?_⟩
    cases he with
    | no ty hk => exact ⟨_, rfl, _, _, _, _, _, rfl, .ty _, ty, hk, _, rfl, iteT h⟩
    | str x hx =>
      refine ⟨_, rfl, _, _, _, _, _, rfl, .ty _, .base (.str _), kit_ty (r := true) (by decide +kernel), ?_⟩
      refine ⟨_, rfl, ?_⟩
      refine iteF ?_
      have h : Q (.bl (isItem x)) H := h
      refine ⟨_, rfl, _, _, rfl, ⟨szS (by omega), rfl⟩, _, _, rfl, rfl, _, rfl, ?_⟩
      unfold isItem at h
      refine ite2 (fun c => ?_) (fun c => ?_)
      · have e : decide (x.length ≤ 8) = false := decide_eq_false (by have := of_decide_eq_true c; omega)
        rw [e] at h
        exact h
      · have e : decide (x.length ≤ 8) = true := decide_eq_true (by have := of_decide_eq_false (Bool.eq_false_iff.mpr c); omega)
        rw [e, Bool.true_and] at h
        refine ⟨_, rfl, rfl, _, rfl, rfl, trivial, _, rfl, ?_⟩
        refine ite2 (fun c1 => ?_) (fun c1 => ?_)
        · rw [c1, Bool.true_and] at h
          refine ⟨_, rfl, rfl, _, rfl, rfl, trivial, _, rfl, ?_⟩
          refine ite2 (fun c2 => ?_) (fun c2 => ?_)
          · rw [c2, Bool.true_and] at h
            exact ⟨_, rfl, rfl, _, rfl, rfl, trivial, h⟩
          · rw [Bool.eq_false_iff.mpr c2] at h
            exact h
        · rw [Bool.eq_false_iff.mpr c1] at h
          exact h
/-- any object, and whether it is a list of items -/
inductive Thing (K : PySem.W.Frag) (H : Hp) : V → Bool → Prop where
  | no {v : V} {t : Value} (ty : TyX K H v t) (h : PySem.W.kitOne K t (.type "list") = some false) : Thing K H v false
  | lst {l : Addr} {vs : List V} {os : List (Option Str)} (e : H l = some (.lst vs)) (m : vs.length ≤ 4000) (z : Ents K H vs os) : Thing K H (.ref l) (decide (os.length ≤ 60) && (os.all itemO && decide (os.filterMap id).Nodup))
theorem Thing.good {H : Hp} {l : Addr} {xs : List Str} (e : H l = some (.lst (xs.map V.str))) (i : Items xs) (m : xs.length ≤ 60) : Thing K H (.ref l) true := by
  have z : Ents K H (xs.map V.str) (xs.map some) := Ents.strs xs fun x hx => Nat.le_trans (i.len hx) (by decide)
  have q := Thing.lst e (by rw [List.length_map]; omega) z
  have f : (xs.map some).filterMap id = xs := by
    rw [List.filterMap_map]
    exact List.filterMap_some
  have a : (xs.map some).all itemO = true := by
    rw [List.all_eq_true]
    intro o ho
    obtain ⟨x, hx, rfl⟩ := List.mem_map.mp ho
    exact i.it x hx
  rw [f, a, List.length_map, decide_eq_true m, decide_eq_true i.nd] at q
  exact q
def spIsItems (K : PySem.W.Frag) : Sp := fun vs H Q _ => ∃ (v : V) (b : Bool), vs = [v] ∧ Thing K H v b ∧ ∀ H', Same H H' → Q (.bl b) H'
theorem ok_is_items (T : Txt K mg A) : Ok1 P w K mg base 2 A.f_is_items ["thing"] (spIsItems K) := by
  refine T.fn_is_items.ok sc_is_items (fun _ _ _ _ _ _ us hl => match us, hl with | [_], _ => rfl) (fun vs H Q E h => ?_) (fun cdv B up s H vs Q E hr h => ?_)
  · obtain ⟨v, b, rfl, _⟩ := h
    rfl
  · obtain ⟨v, b, rfl, he, h⟩ := h
    refine ⟨_, (pss_cons (ps_if (PW.pt (pw_or (pt_not (pt_val (pe_callB call_isi (by rfl) T.no_isinstance (by decide +kernel) (pa_cons (pv 0) (pa_cons (pe_bltn (v := .ty "list") (by rfl) T.no_list (by decide +kernel) rfl) pa_nil))))) (pw_or1 (pt_cmpR op_gt (pe_callB call_len (by rfl) T.no_len (by decide +kernel) (pa_cons (pv 0) pa_nil)) (pe_globC T.mg_MOST_ITEMS) (nomark _))))) (pss_one (ps_ret pe_bl)) pss_nil)
      (pss_one (ps_ret (pe_and (pe_callB (cr_all rfl) (by rfl) T.no_all (by decide +kernel) (pa_cons (pe_lcD (own := [("entry", 1)]) rfl sc_is_items.nd (pi_list (pv 0)) (blkOk_by (N := N_is_items) (sc := defScope s_is_items) (by decide +kernel)) (fun _ _ _ _ _ => pg_name (i := 1) sc_is_items.nd rfl (Or.inl rfl)) (fun _ _ _ _ _ => pts_nil) (fun _ _ _ _ _ => (po_call (ok_is_itemA T) (hr.mono (by decide)) T.mg_is_item (pa_cons (pv 1) pa_nil)))) pa_nil)) (pe_one (pe_cmpR (op_eqX hr) (pe_lenSetS T.no_len T.no_set (pv 0)) (pe_callB call_len (by rfl) T.no_len (by decide +kernel) (pa_cons (pv 0) pa_nil)) (nomark _))))))), ?_⟩
    cases he with
    | no ty hk => exact ⟨_, rfl, _, _, _, _, _, rfl, .ty _, ty, hk, _, rfl, iteT (h H (fun _ _ e => e))⟩
    | @lst l vs os e m z =>
      have ll := z.len
      refine ⟨_, rfl, _, _, _, _, _, rfl, .ty _, .base (.lst e), kit_ty (r := true) (by decide +kernel), ?_⟩
      refine ⟨_, rfl, ?_⟩
      refine iteF ?_
      refine ⟨_, rfl, _, _, rfl, .inl ⟨_, SqL.of e, rfl⟩, _, _, rfl, rfl, _, rfl, ?_⟩
      refine ite2 (fun c => ?_) (fun c => ?_)
      · have c' := of_decide_eq_true c
        rw [decide_eq_false (show ¬ os.length ≤ 60 by omega)] at h
        exact h H (fun _ _ e => e)
      · have c' := of_decide_eq_false (Bool.eq_false_iff.mpr c)
        rw [decide_eq_true (show os.length ≤ 60 by omega), Bool.true_and] at h
        refine ⟨_, rfl, l, rfl, ⟨_, SqL.of e⟩, fun D nD => ?_⟩
        refine lc_list (K := K) (a := l) (xs := vs) (fun i H' => Same H H' ∧ H' D = some (.lst (((os.take i).map itemO).map V.bl))) ?_ ?_ ?_ ?_
        · exact ⟨Same.new nD, upd_same⟩
        · rintro i H1 _ ⟨s1, _⟩
          exact SqL.of (s1 _ _ e)
        · rintro i x H1 hx ⟨s1, h1⟩
          obtain ⟨o, ho, en⟩ := z.get hx
          refine ⟨rfl, _, rfl, _, o, rfl, en.same s1, _, h1, ?_, ?_, ?_⟩
          · rw [List.length_map, List.length_map, List.length_take]
            exact Nat.lt_of_le_of_lt (Nat.min_le_left _ _) (Nat.lt_of_lt_of_le (show i < 4001 by have := (List.getElem?_eq_some_iff.mp ho).1; omega) (by decide))
          · intro b o hb
            rw [upd_ne (ne_of_none hb nD)]
            exact s1 _ _ hb
          · have hi : i < os.length := (List.getElem?_eq_some_iff.mp ho).1
            have e9 : os.take (i + 1) = os.take i ++ [o] := by
              rw [List.take_add_one, ho]
              rfl
            rw [upd_same, e9, List.map_append, List.map_append]
            rfl
        · rintro H1 ⟨s1, h1⟩
          rw [ll, List.take_length] at h1
          have eA : (os.map itemO).all id = os.all itemO := by rw [List.all_map]; rfl
          refine ⟨D, _, rfl, SqL.of h1, ?_⟩
          rw [eA]
          refine ⟨_, rfl, ?_⟩
          refine ite2 (fun c2 => ?_) (fun c2 => ?_)
          · have c2 : os.all itemO = true := c2
            obtain ⟨z1, z2, z3⟩ := z.all itemO rfl c2
            have sq : SqL K H1 l ((os.filterMap id).map V.str) := z1 ▸ SqL.of (s1 _ _ e)
            have l2 : vs.length = (os.filterMap id).length := by
              rw [z1, List.length_map]
            refine ⟨_, rfl, l, os.filterMap id, rfl, sq, by omega, _, rfl, _, _, rfl, .inl ⟨_, sq, rfl⟩, eqS rfl ?_⟩
            have dd : decide (V.int ((OwnSet.met (os.filterMap id) (os.filterMap id).length).length : Nat) = V.int (((os.filterMap id).map V.str).length : Nat)) = decide (os.filterMap id).Nodup := by
              rw [← OwnSet.met_all, List.length_map]
              exact decide_eq_decide.mpr ⟨fun z => Int.ofNat.inj (V.int.inj z), fun z => by rw [z]⟩
            rw [dd]
            have h9 := h H1 s1
            rw [c2, Bool.true_and] at h9
            exact h9
          · have c2 : os.all itemO = false := Bool.eq_false_iff.mpr c2
            have h9 := h H1 s1
            rw [c2] at h9
            exact h9
def spCheck (K : PySem.W.Frag) (A : Ad) : Sp := fun vs H Q E => ∃ (v : V) (b : Bool), vs = [v] ∧ Thing K H v b ∧ ∀ H', Same H H' → (b = true → Q .non H') ∧ (b = false → E (.ref A.c_NoList) none H')
theorem ok_check_items (T : Txt K mg A) : OkX P w K mg base 3 A.f_check_items ["items"] (spCheck K A) := by
  refine T.fn_check_items.okX sc_check_items (fun _ _ _ _ _ _ us hl => match us, hl with | [_], _ => rfl) (fun vs H Q E h => ?_) (fun cdv B up s H vs Q E hr h => ?_)
  · obtain ⟨v, b, rfl, _⟩ := h
    rfl
  · obtain ⟨v, b, rfl, he, h⟩ := h
    refine ⟨_, (pss_one (ps_if (pt_not (pt_val (po_call (ok_is_items T) (hr.mono (by decide)) T.mg_is_items (pa_cons (pv 0) pa_nil)))) (pss_one (ps_raise rfl (takes_of rfl rfl rfl rfl) (pmk_own PySem.F.excBase_ValueError T.er_NoList.xP T.mg_NoList T.er_NoList.kp (raises_own T.er_NoList.bP T.er_NoList.tP) rfl))) pss_nil)), ?_⟩
    refine ⟨_, rfl, v, b, rfl, he, fun H' s' => ⟨_, rfl, ?_⟩⟩
    obtain ⟨h1, h2⟩ := h H' s'
    cases b with
    | true => exact iteF (h1 rfl)
    | false =>
      refine iteT ?_
      exact h2 rfl

end
end Own

set_option Elab.async false
set_option linter.all false
set_option maxRecDepth 100000
set_option maxHeartbeats 4000000
namespace Own
open PySem L2 ClX
local macro_rules | `(tactic| walk_at "v") => `(tactic| refine ⟨_, rfl, ?_⟩)
local macro_rules | `(tactic| walk_at "ii") => `(tactic| refine ⟨_, _, rfl, rfl, ?_⟩)
local macro_rules | `(tactic| walk_at "go") => `(tactic| repeat (first | refine ⟨_, rfl, ?_⟩ | refine ⟨_, _, rfl, rfl, ?_⟩ | refine addI ?_ | refine L2.iteT ?_ | refine L2.iteF ?_))

section
variable {P : Program} {w : World} {K : PySem.W.Frag} {mg : Str → Option Value} {base : Heap} {A : Ad}
/-! ### where an item stands, and lists with one item more or less -/
theorem inS (x : Str) : ∀ xs : List Str, inV (.str x) (xs.map V.str) = decide (x ∈ xs)
  | [] => rfl
  | y :: ys => by
    have ih := inS x ys
    unfold inV at ih ⊢
    rw [List.map_cons, List.any_cons, ih]
    show ((y == x) || decide (x ∈ ys)) = decide (x ∈ y :: ys)
    by_cases e : x = y
    · subst e
      simp
    · have e2 : (y == x) = false := beq_false_of_ne fun z => e z.symm
      rw [e2]
      simp [e]
theorem flatS (xs : List Str) : (xs.map V.str).all flatV = true := by
  rw [List.all_map, List.all_eq_true]
  intro x _
  rfl
def spStands : Sp := fun vs H Q _ => ∃ (l : Addr) (xs : List Str) (x : Str) (n : Nat), vs = [.ref l, .str x, .int n] ∧ H l = some (.lst (xs.map V.str)) ∧ Q (.bl (decide (xs[n]? = some x))) H
theorem ok_stands_at (T : Txt K mg A) : Ok1 P w K mg base 1 A.f_stands_at ["items", "item", "slot"] spStands := by
  refine T.fn_stands_at.ok sc_stands_at (fun _ _ _ _ _ _ us hl => match us, hl with | [_, _, _], _ => rfl) (fun vs H Q E h => ?_) (fun cdv B up s H vs Q E hr h => ?_)
  · obtain ⟨l, xs, x, n, rfl, _⟩ := h
    rfl
  · obtain ⟨l, xs, x, n, rfl, e, h⟩ := h
    refine ⟨_, (pss_one (ps_ret (pe_and (pe_cmpR op_lt (pv 2) (pe_callB call_len (by rfl) T.no_len (by decide +kernel) (pa_cons (pv 0) pa_nil)) (nomark _)) (pe_one (pe_cmpR (op_eqX hr) (pe_ix ix_seq (pv 0) (pv 2) (fun _ _ => rfl)) (pv 1) (nomark _)))))), ?_⟩
    refine ⟨_, rfl, _, rfl, _, _, rfl, .inl ⟨_, SqL.of e, rfl⟩, _, _, rfl, rfl, _, rfl, ?_⟩
    rw [List.length_map]
    refine ite2 (fun c => ?_) (fun c => ?_)
    · have c' : n < xs.length := by have := of_decide_eq_true c; omega
      refine ⟨_, rfl, _, rfl, ixL e (v := .str xs[n]) (atI_nat (by simp [c'])) ⟨_, rfl, eqS rfl ?_⟩⟩
      rw [List.getElem?_eq_getElem c'] at h
      have z : decide (V.str xs[n] = V.str x) = decide (some xs[n] = some x) := decide_eq_decide.mpr ⟨fun z => congrArg some (V.str.inj z), fun z => by rw [Option.some.inj z]⟩
      rw [z]
      exact h
    · have c' : ¬ n < xs.length := by have := of_decide_eq_false (Bool.eq_false_iff.mpr c); omega
      have z : xs[n]? = none := List.getElem?_eq_none (by omega)
      rw [z] at h
      exact h
def spPlace : Sp := fun vs H Q _ => ∃ (l : Addr) (xs : List Str) (x : Str) (n : Nat), vs = [.ref l, .str x, .int n] ∧ H l = some (.lst (xs.map V.str)) ∧ Q (.bl (decide (x ∉ xs ∧ n ≤ xs.length ∧ xs.length < 60))) H
theorem ok_has_place (T : Txt K mg A) : Ok1 P w K mg base 1 A.f_has_place ["items", "item", "slot"] spPlace := by
  refine T.fn_has_place.ok sc_has_place (fun _ _ _ _ _ _ us hl => match us, hl with | [_, _, _], _ => rfl) (fun vs H Q E h => ?_) (fun cdv B up s H vs Q E hr h => ?_)
  · obtain ⟨l, xs, x, n, rfl, _⟩ := h
    rfl
  · obtain ⟨l, xs, x, n, rfl, e, h⟩ := h
    refine ⟨_, (pss_one (ps_ret (pe_and (pe_cmpR op_notIn_seq (pv 1) (pv 0) rfl) (pe_one (pe_chain op_le op_lt (pv 2) (pe_callB call_len (by rfl) T.no_len (by decide +kernel) (pa_cons (pv 0) pa_nil)) (pe_globC T.mg_MOST_ITEMS)))))), ?_⟩
    refine ⟨_, rfl, _, rfl, l, _, rfl, .inl (SqL.of e), rfl, flatS xs, ?_⟩
    rw [inS]
    refine ⟨_, rfl, ?_⟩
    by_cases c : x ∈ xs
    · rw [decide_eq_true c]
      rw [decide_eq_false (fun z => z.1 c)] at h
      exact iteF h
    rw [decide_eq_false c]
    refine iteT ?_
    refine ⟨_, rfl, _, rfl, _, _, rfl, .inl ⟨_, SqL.of e, rfl⟩, _, _, rfl, rfl, _, rfl, ?_⟩
    rw [List.length_map]
    by_cases c2 : n ≤ xs.length
    · rw [decide_eq_true (show (n : Int) ≤ (xs.length : Nat) by omega)]
      refine iteT ⟨_, _, rfl, rfl, ?_⟩
      have z : decide (((xs.length : Nat) : Int) < 60) = decide (x ∉ xs ∧ n ≤ xs.length ∧ xs.length < 60) := decide_eq_decide.mpr ⟨fun z => ⟨c, c2, by omega⟩, fun z => by omega⟩
      rw [← z] at h
      exact h
    · rw [decide_eq_false (show ¬ (n : Int) ≤ (xs.length : Nat) by omega)]
      rw [decide_eq_false (fun z => c2 z.2.1)] at h
      exact iteF h
theorem addL {H : Hp} {Q : VK} {l b : Addr} {xs zs : List V} (h1 : H l = some (.lst xs)) (h2 : H b = some (.lst zs)) (h3 : xs.length + zs.length ≤ 1000000) (q : ∀ p, H p = none → Q (.ref p) (upd H p (.lst (xs ++ zs)))) : rAddX (.ref l) (.ref b) H Q :=
  .inr (.inr ⟨l, b, xs, zs, rfl, rfl, h1, h2, Nat.le_trans h3 (by decide), q⟩)
theorem none_same {H H' : Hp} {D : Addr} (s : Same H H') (nD : H' D = none) : H D = none := by
  cases e : H D with
  | none => rfl
  | some o =>
    rw [s _ _ e] at nD
    cases nD
def outL (xs : List Str) (n : Nat) : List Str := xs.take n ++ xs.drop (n + 1)
def inL (xs : List Str) (x : Str) (n : Nat) : List Str := xs.take n ++ [x] ++ xs.drop n
def spPut : Sp := fun vs H Q _ => ∃ (l : Addr) (xs : List Str) (x : Str) (n : Nat), vs = [.ref l, .str x, .int n] ∧ H l = some (.lst (xs.map V.str)) ∧ xs.length ≤ 60 ∧ ∀ (D : Addr) (H' : Hp), Same H H' → H D = none → H' D = some (.lst ((inL xs x n).map V.str)) → Q (.ref D) H'
theorem ok_put_in (T : Txt K mg A) : Ok1 P w K mg base 1 A.f_put_in ["items", "item", "slot"] spPut := by
  refine T.fn_put_in.ok sc_put_in (fun _ _ _ _ _ _ us hl => match us, hl with | [_, _, _], _ => rfl) (fun vs H Q E h => ?_) (fun cdv B up s H vs Q E hr h => ?_)
  · obtain ⟨l, xs, x, n, rfl, _⟩ := h
    rfl
  · obtain ⟨l, xs, x, n, rfl, e, hl, h⟩ := h
    refine ⟨_, (pss_one (ps_ret (pe_op op_addX (pe_op op_addX (pe_slice sl_list (pv 0) po_none (po_some (pv 2))) (pe_lst (pa_cons (pv 1) pa_nil))) (pe_slice sl_list (pv 0) (po_some (pv 2)) po_none)))), ?_⟩
    refine ⟨_, rfl, _, rfl, _, rfl, l, _, rfl, SqL.of e, fun a na => ?_⟩
    rw [cut_to']
    have s1 := Same.new (o := .lst ((xs.take n).map V.str)) na
    refine ⟨_, rfl, Nat.le_of_ble_eq_true rfl, fun b nb => ?_⟩
    have s2 := Same.new (o := .lst [V.str x]) nb
    refine addL (s2 _ _ upd_same) upd_same (by rw [List.length_map, List.length_take, List.length_singleton]; omega) fun c nc => ?_
    have s3 := Same.new (o := .lst ((xs.take n).map V.str ++ [V.str x])) nc
    refine ⟨_, rfl, _, rfl, _, rfl, l, _, rfl, SqL.of ((s1.trans (s2.trans s3)) _ _ e), fun d nd => ?_⟩
    rw [cut_from']
    have s4 := Same.new (o := .lst ((xs.drop n).map V.str)) nd
    refine addL (s4 _ _ upd_same) upd_same (by rw [List.length_append, List.length_map, List.length_map, List.length_take, List.length_drop, List.length_singleton]; omega) fun r nr => ?_
    have s5 := Same.new (o := .lst ((xs.take n).map V.str ++ [V.str x] ++ (xs.drop n).map V.str)) nr
    refine h r _ (s1.trans (s2.trans (s3.trans (s4.trans s5)))) (none_same (s1.trans (s2.trans (s3.trans s4))) nr) ?_
    rw [upd_same]
    unfold inL
    rw [List.map_append, List.map_append]
    rfl
def spOut : Sp := fun vs H Q _ => ∃ (l : Addr) (xs : List Str) (n : Nat), vs = [.ref l, .int n] ∧ H l = some (.lst (xs.map V.str)) ∧ xs.length ≤ 60 ∧ ∀ (D : Addr) (H' : Hp), Same H H' → H D = none → H' D = some (.lst ((outL xs n).map V.str)) → Q (.ref D) H'
theorem ok_taken_out (T : Txt K mg A) : Ok1 P w K mg base 1 A.f_taken_out ["items", "slot"] spOut := by
  refine T.fn_taken_out.ok sc_taken_out (fun _ _ _ _ _ _ us hl => match us, hl with | [_, _], _ => rfl) (fun vs H Q E h => ?_) (fun cdv B up s H vs Q E hr h => ?_)
  · obtain ⟨l, xs, n, rfl, _⟩ := h
    rfl
  · obtain ⟨l, xs, n, rfl, e, hl, h⟩ := h
    refine ⟨_, (pss_one (ps_ret (pe_op op_addX (pe_slice sl_list (pv 0) po_none (po_some (pv 1))) (pe_slice sl_list (pv 0) (po_some (pe_op op_addX (pv 1) pe_int)) po_none)))), ?_⟩
    refine ⟨_, rfl, _, rfl, _, rfl, l, _, rfl, SqL.of e, fun a na => ?_⟩
    rw [cut_to']
    have s1 := Same.new (o := .lst ((xs.take n).map V.str)) na
    refine ⟨_, rfl, _, rfl, addI ⟨_, rfl, l, _, rfl, SqL.of (s1 _ _ e), fun d nd => ?_⟩⟩
    have z : ((n : Int) + 1) = ((n + 1 : Nat) : Int) := by omega
    rw [z, cut_from']
    have s4 := Same.new (o := .lst ((xs.drop (n + 1)).map V.str)) nd
    refine addL (s4 _ _ upd_same) upd_same (by rw [List.length_map, List.length_map, List.length_take, List.length_drop]; omega) fun r nr => ?_
    have s5 := Same.new (o := .lst ((xs.take n).map V.str ++ (xs.drop (n + 1)).map V.str)) nr
    refine h r _ (s1.trans (s4.trans s5)) (none_same (s1.trans s4) nr) ?_
    rw [upd_same]
    unfold outL
    rw [List.map_append]

end
end Own

set_option Elab.async false
set_option linter.all false
set_option maxRecDepth 100000
set_option maxHeartbeats 4000000
namespace Own
open PySem L2 ClX
local macro_rules | `(tactic| walk_at "v") => `(tactic| refine ⟨_, rfl, ?_⟩)
local macro_rules | `(tactic| walk_at "ii") => `(tactic| refine ⟨_, _, rfl, rfl, ?_⟩)
local macro_rules | `(tactic| walk_at "go") => `(tactic| repeat (first | refine ⟨_, rfl, ?_⟩ | refine ⟨_, _, rfl, rfl, ?_⟩ | refine addI ?_ | refine L2.iteT ?_ | refine L2.iteF ?_))

section
variable {P : Program} {w : World} {K : PySem.W.Frag} {mg : Str → Option Value} {base : Heap} {A : Ad}
/-! ### the methods of records on lists of items -/
theorem done_id {H : Hp} : Same H H := fun _ _ e => e
def bkI (x : Str) (n : Nat) (xs : List Str) : Option (List Str) := if xs[n]? = some x then some (outL xs n) else none
def bkR (x : Str) (n : Nat) (xs : List Str) : Option (List Str) := if x ∉ xs ∧ n ≤ xs.length ∧ xs.length < 60 then some (inL xs x n) else none
def bkN (_ : Str) (_ : Nat) (_ : List Str) : Option (List Str) := none
def dnF (x : Str) (n : Nat) (xs : List Str) : Option (List Str) := if xs[n]? = some x then some (inL (outL xs n) x 0) else none
def spApplies (K : PySem.W.Frag) (A : Ad) (C : Addr) (dn : Str → Nat → List Str → Option (List Str)) : Sp := fun vs H Q E => ∃ (p dx : Addr) (x : Str) (n : Nat) (v : V), vs = [.ref p, v] ∧ H p = some (.ins C dx (rfs x n)) ∧
  ((Thing K H v false ∧ ∀ H', Same H H' → E (.ref A.c_NoList) none H') ∨
   ∃ (l : Addr) (xs : List Str), v = .ref l ∧ H l = some (.lst (xs.map V.str)) ∧ Items xs ∧ xs.length ≤ 60 ∧ ∀ H', Same H H' → Q (.bl (dn x n xs).isSome) H')
def spBack (K : PySem.W.Frag) (A : Ad) (C : Addr) (bk : Str → Nat → List Str → Option (List Str)) : Sp := fun vs H Q E => ∃ (p dx : Addr) (x : Str) (n : Nat) (v : V), vs = [.ref p, v] ∧ H p = some (.ins C dx (rfs x n)) ∧
  ((Thing K H v false ∧ ∀ H', Same H H' → E (.ref A.c_NoList) none H') ∨
   ∃ (l : Addr) (xs : List Str), v = .ref l ∧ H l = some (.lst (xs.map V.str)) ∧ Items xs ∧ xs.length ≤ 60 ∧
     (∀ ys, bk x n xs = some ys → ∀ (D : Addr) (H' : Hp), Same H H' → H D = none → H' D = some (.lst (ys.map V.str)) → Q (.ref D) H') ∧
     (bk x n xs = none → ∀ (d : Addr) (H' : Hp), Same H H' → H d = none → H' d = some (.xd [("reason", .str x)]) → E (.ref A.c_Impossible) (some d) H'))
theorem no_applies (x : Str) (n : Int) : (rfs x n).lookup ("applies" : Str) = none := rfs_no _ _ (by decide +kernel) (by decide +kernel)
theorem outL_len (xs : List Str) (n : Nat) (h : xs.length ≤ 60) : (outL xs n).length ≤ 60 := by
  unfold outL
  rw [List.length_append, List.length_take, List.length_drop]
  omega
theorem bkI_some {x : Str} {n : Nat} {xs ys : List Str} (h : bkI x n xs = some ys) : xs[n]? = some x ∧ ys = outL xs n := by
  unfold bkI at h
  split at h
  · exact ⟨‹_›, (Option.some.inj h).symm⟩
  · cases h
theorem bkR_some {x : Str} {n : Nat} {xs ys : List Str} (h : bkR x n xs = some ys) : (x ∉ xs ∧ n ≤ xs.length ∧ xs.length < 60) ∧ ys = inL xs x n := by
  unfold bkR at h
  split at h
  · exact ⟨‹_›, (Option.some.inj h).symm⟩
  · cases h
theorem dnF_some {x : Str} {n : Nat} {xs ys : List Str} (h : dnF x n xs = some ys) : xs[n]? = some x ∧ ys = inL (outL xs n) x 0 := by
  unfold dnF at h
  split at h
  · exact ⟨‹_›, (Option.some.inj h).symm⟩
  · cases h
theorem body_Inserted_applies (T : Txt K mg A) : BodyX P w K mg base N_Inserted_applies "Inserted.applies" s_Inserted_applies A.m_Inserted_applies 3 (spApplies K A A.c_Inserted bkR) := by
  intro cdv B up s H vs Q E hr h
  obtain ⟨p, dx, x, n, v, rfl, hp, h⟩ := h
  refine ⟨_, (pss_cons (ps_expr (px_call (ok_check_items T) (fun _ => atE (takes_of rfl rfl rfl rfl)) (hr.mono (by decide)) T.mg_check_items (pa_cons (pv 1) pa_nil)))
      (pss_one (ps_ret (po_call (ok_has_place T) (hr.mono (by decide)) T.mg_has_place (pa_cons (pv 1) (pa_cons (pe_fld (pv 0) rfl) (pa_cons (pe_fld (pv 0) rfl) pa_nil))))))), ?_⟩
  rcases h with ⟨ht, h⟩ | ⟨l, xs, rfl, hl, hi, hm, h⟩
  · exact ⟨_, rfl, v, false, rfl, ht, fun H' s' => ⟨(fun z => by cases z), fun _ => h H' s'⟩⟩
  · refine ⟨_, rfl, .ref l, true, rfl, Thing.good hl hi hm, fun H' s' => ⟨fun _ => ?_, fun z => by cases z⟩⟩
    refine ⟨_, rfl, _, rfl, p, _, dx, _, _, rfl, s' _ _ hp, T.cl_Inserted, T.na_Inserted_item, rfs_item _ _, _, rfl, p, _, dx, _, _, rfl, s' _ _ hp, T.cl_Inserted, T.na_Inserted_slot, rfs_slot _ _, l, xs, x, n, rfl, s' _ _ hl, ?_⟩
    have z := h H' s'
    have e : (bkR x n xs).isSome = decide (x ∉ xs ∧ n ≤ xs.length ∧ xs.length < 60) := by
      unfold bkR
      by_cases c : x ∉ xs ∧ n ≤ xs.length ∧ xs.length < 60
      · rw [if_pos c, decide_eq_true c]
        rfl
      · rw [if_neg c, decide_eq_false c]
        rfl
    rw [e] at z
    exact z
theorem len_Inserted_applies : ∀ vs H Q E, spApplies K A A.c_Inserted bkR vs H Q E → vs.length = 2 := fun vs H Q E h => by
  obtain ⟨p, dx, x, n, v, rfl, _⟩ := h
  rfl
theorem ok_Inserted_applies (T : Txt K mg A) : OkX P w K mg base 4 A.m_Inserted_applies ["self", "items"] (spApplies K A A.c_Inserted bkR) := T.fn_Inserted_applies.okX sc_Inserted_applies (fun _ _ _ _ _ _ us hl => match us, hl with | [_, _], _ => rfl) len_Inserted_applies (body_Inserted_applies T)
theorem okk_Inserted_applies (T : Txt K mg A) : OkXK P w K mg base 4 A.m_Inserted_applies ["self", "items"] "items" (spApplies K A A.c_Inserted bkR) := T.fn_Inserted_applies.okXK sc_Inserted_applies (fun _ _ _ _ _ _ _ _ => rfl) len_Inserted_applies (body_Inserted_applies T)
theorem body_Inserted_applied (T : Txt K mg A) : BodyX P w K mg base N_Inserted_applied "Inserted.applied" s_Inserted_applied A.m_Inserted_applied 5 (spBack K A A.c_Inserted bkR) := by
  intro cdv B up s H vs Q E hr h
  obtain ⟨p, dx, x, n, v, rfl, hp, h⟩ := h
  refine ⟨_, (pss_cons (ps_if (pt_not (pt_val (px_meth T.cl_Inserted T.me_Inserted_applies (ok_Inserted_applies T) (fun _ => atE (takes_of rfl rfl rfl rfl)) (hr.mono (by decide)) (pv 0) (pa_cons (pv 1) pa_nil)))) (pss_one (ps_raiseImp rfl T.low_Impossible hr (takes_of rfl rfl rfl rfl) (pa_cons (pe_fld (pv 0) rfl) pa_nil))) pss_nil)
      (pss_one (ps_ret (po_call (ok_put_in T) (hr.mono (by decide)) T.mg_put_in (pa_cons (pv 1) (pa_cons (pe_fld (pv 0) rfl) (pa_cons (pe_fld (pv 0) rfl) pa_nil))))))), ?_⟩
  rcases h with ⟨ht, h⟩ | ⟨l, xs, rfl, hl, hi, hm, h1, h2⟩
  · exact ⟨_, rfl, p, dx, _, rfl, hp, no_applies _ _, _, rfl, p, dx, x, n, v, rfl, hp, .inl ⟨ht, h⟩⟩
  · refine ⟨_, rfl, p, dx, _, rfl, hp, no_applies _ _, _, rfl, p, dx, x, n, .ref l, rfl, hp, .inr ⟨l, xs, rfl, hl, hi, hm, fun H' s' => ⟨_, rfl, ?_⟩⟩⟩
    cases eb : bkR x n xs with
    | some ys =>
      refine iteF ?_
      have HX : ∀ {Hz : Hp} {D : Addr}, Hz D = some (.lst ((inL xs x n).map V.str)) → Hz D = some (.lst (ys.map V.str)) := fun z => by rw [(bkR_some eb).2]; exact z
      refine ⟨_, rfl, _, rfl, p, _, dx, _, _, rfl, s' _ _ hp, T.cl_Inserted, T.na_Inserted_item, rfs_item _ _, _, rfl, p, _, dx, _, _, rfl, s' _ _ hp, T.cl_Inserted, T.na_Inserted_slot, rfs_slot _ _, l, xs, x, n, rfl, s' _ _ hl, hm, fun D H2 s2 nD hD => ?_⟩
      exact h1 ys eb D H2 (s'.trans s2) (none_same s' nD) (HX hD)
    | none =>
      exact iteT ⟨_, rfl, p, _, dx, _, _, rfl, s' _ _ hp, T.cl_Inserted, T.na_Inserted_item, rfs_item _ _, _, rfl, fun d nd => h2 eb d _ (s'.trans (Same.new nd)) (none_same s' nd) upd_same⟩
theorem len_Inserted_applied : ∀ vs H Q E, spBack K A A.c_Inserted bkR vs H Q E → vs.length = 2 := fun vs H Q E h => by
  obtain ⟨p, dx, x, n, v, rfl, _⟩ := h
  rfl
theorem ok_Inserted_applied (T : Txt K mg A) : OkX P w K mg base 6 A.m_Inserted_applied ["self", "items"] (spBack K A A.c_Inserted bkR) := T.fn_Inserted_applied.okX sc_Inserted_applied (fun _ _ _ _ _ _ us hl => match us, hl with | [_, _], _ => rfl) len_Inserted_applied (body_Inserted_applied T)
theorem okk_Inserted_applied (T : Txt K mg A) : OkXK P w K mg base 6 A.m_Inserted_applied ["self", "items"] "items" (spBack K A A.c_Inserted bkR) := T.fn_Inserted_applied.okXK sc_Inserted_applied (fun _ _ _ _ _ _ _ _ => rfl) len_Inserted_applied (body_Inserted_applied T)
theorem body_Removed_applies (T : Txt K mg A) : BodyX P w K mg base N_Removed_applies "Removed.applies" s_Removed_applies A.m_Removed_applies 3 (spApplies K A A.c_Removed bkI) := by
  intro cdv B up s H vs Q E hr h
  obtain ⟨p, dx, x, n, v, rfl, hp, h⟩ := h
  refine ⟨_, (pss_cons (ps_expr (px_call (ok_check_items T) (fun _ => atE (takes_of rfl rfl rfl rfl)) (hr.mono (by decide)) T.mg_check_items (pa_cons (pv 1) pa_nil)))
      (pss_one (ps_ret (po_call (ok_stands_at T) (hr.mono (by decide)) T.mg_stands_at (pa_cons (pv 1) (pa_cons (pe_fld (pv 0) rfl) (pa_cons (pe_fld (pv 0) rfl) pa_nil))))))), ?_⟩
  rcases h with ⟨ht, h⟩ | ⟨l, xs, rfl, hl, hi, hm, h⟩
  · exact ⟨_, rfl, v, false, rfl, ht, fun H' s' => ⟨(fun z => by cases z), fun _ => h H' s'⟩⟩
  · refine ⟨_, rfl, .ref l, true, rfl, Thing.good hl hi hm, fun H' s' => ⟨fun _ => ?_, fun z => by cases z⟩⟩
    refine ⟨_, rfl, _, rfl, p, _, dx, _, _, rfl, s' _ _ hp, T.cl_Removed, T.na_Removed_item, rfs_item _ _, _, rfl, p, _, dx, _, _, rfl, s' _ _ hp, T.cl_Removed, T.na_Removed_slot, rfs_slot _ _, l, xs, x, n, rfl, s' _ _ hl, ?_⟩
    have z := h H' s'
    have e : (bkI x n xs).isSome = decide (xs[n]? = some x) := by
      unfold bkI
      by_cases c : xs[n]? = some x
      · rw [if_pos c, decide_eq_true c]
        rfl
      · rw [if_neg c, decide_eq_false c]
        rfl
    rw [e] at z
    exact z
theorem len_Removed_applies : ∀ vs H Q E, spApplies K A A.c_Removed bkI vs H Q E → vs.length = 2 := fun vs H Q E h => by
  obtain ⟨p, dx, x, n, v, rfl, _⟩ := h
  rfl
theorem ok_Removed_applies (T : Txt K mg A) : OkX P w K mg base 4 A.m_Removed_applies ["self", "items"] (spApplies K A A.c_Removed bkI) := T.fn_Removed_applies.okX sc_Removed_applies (fun _ _ _ _ _ _ us hl => match us, hl with | [_, _], _ => rfl) len_Removed_applies (body_Removed_applies T)
theorem okk_Removed_applies (T : Txt K mg A) : OkXK P w K mg base 4 A.m_Removed_applies ["self", "items"] "items" (spApplies K A A.c_Removed bkI) := T.fn_Removed_applies.okXK sc_Removed_applies (fun _ _ _ _ _ _ _ _ => rfl) len_Removed_applies (body_Removed_applies T)
theorem body_Removed_applied (T : Txt K mg A) : BodyX P w K mg base N_Removed_applied "Removed.applied" s_Removed_applied A.m_Removed_applied 5 (spBack K A A.c_Removed bkI) := by
  intro cdv B up s H vs Q E hr h
  obtain ⟨p, dx, x, n, v, rfl, hp, h⟩ := h
  refine ⟨_, (pss_cons (ps_if (pt_not (pt_val (px_meth T.cl_Removed T.me_Removed_applies (ok_Removed_applies T) (fun _ => atE (takes_of rfl rfl rfl rfl)) (hr.mono (by decide)) (pv 0) (pa_cons (pv 1) pa_nil)))) (pss_one (ps_raiseImp rfl T.low_Impossible hr (takes_of rfl rfl rfl rfl) (pa_cons (pe_fld (pv 0) rfl) pa_nil))) pss_nil)
      (pss_one (ps_ret (po_call (ok_taken_out T) (hr.mono (by decide)) T.mg_taken_out (pa_cons (pv 1) (pa_cons (pe_fld (pv 0) rfl) pa_nil)))))), ?_⟩
  rcases h with ⟨ht, h⟩ | ⟨l, xs, rfl, hl, hi, hm, h1, h2⟩
  · exact ⟨_, rfl, p, dx, _, rfl, hp, no_applies _ _, _, rfl, p, dx, x, n, v, rfl, hp, .inl ⟨ht, h⟩⟩
  · refine ⟨_, rfl, p, dx, _, rfl, hp, no_applies _ _, _, rfl, p, dx, x, n, .ref l, rfl, hp, .inr ⟨l, xs, rfl, hl, hi, hm, fun H' s' => ⟨_, rfl, ?_⟩⟩⟩
    cases eb : bkI x n xs with
    | some ys =>
      refine iteF ?_
      have HX : ∀ {Hz : Hp} {D : Addr}, Hz D = some (.lst ((outL xs n).map V.str)) → Hz D = some (.lst (ys.map V.str)) := fun z => by rw [(bkI_some eb).2]; exact z
      refine ⟨_, rfl, _, rfl, p, _, dx, _, _, rfl, s' _ _ hp, T.cl_Removed, T.na_Removed_slot, rfs_slot _ _, l, xs, n, rfl, s' _ _ hl, hm, fun D H2 s2 nD hD => ?_⟩
      exact h1 ys eb D H2 (s'.trans s2) (none_same s' nD) (HX hD)
    | none =>
      exact iteT ⟨_, rfl, p, _, dx, _, _, rfl, s' _ _ hp, T.cl_Removed, T.na_Removed_item, rfs_item _ _, _, rfl, fun d nd => h2 eb d _ (s'.trans (Same.new nd)) (none_same s' nd) upd_same⟩
theorem len_Removed_applied : ∀ vs H Q E, spBack K A A.c_Removed bkI vs H Q E → vs.length = 2 := fun vs H Q E h => by
  obtain ⟨p, dx, x, n, v, rfl, _⟩ := h
  rfl
theorem ok_Removed_applied (T : Txt K mg A) : OkX P w K mg base 6 A.m_Removed_applied ["self", "items"] (spBack K A A.c_Removed bkI) := T.fn_Removed_applied.okX sc_Removed_applied (fun _ _ _ _ _ _ us hl => match us, hl with | [_, _], _ => rfl) len_Removed_applied (body_Removed_applied T)
theorem okk_Removed_applied (T : Txt K mg A) : OkXK P w K mg base 6 A.m_Removed_applied ["self", "items"] "items" (spBack K A A.c_Removed bkI) := T.fn_Removed_applied.okXK sc_Removed_applied (fun _ _ _ _ _ _ _ _ => rfl) len_Removed_applied (body_Removed_applied T)
theorem body_Fronted_applies (T : Txt K mg A) : BodyX P w K mg base N_Fronted_applies "Fronted.applies" s_Fronted_applies A.m_Fronted_applies 3 (spApplies K A A.c_Fronted dnF) := by
  intro cdv B up s H vs Q E hr h
  obtain ⟨p, dx, x, n, v, rfl, hp, h⟩ := h
  refine ⟨_, (pss_cons (ps_expr (px_call (ok_check_items T) (fun _ => atE (takes_of rfl rfl rfl rfl)) (hr.mono (by decide)) T.mg_check_items (pa_cons (pv 1) pa_nil)))
      (pss_one (ps_ret (po_call (ok_stands_at T) (hr.mono (by decide)) T.mg_stands_at (pa_cons (pv 1) (pa_cons (pe_fld (pv 0) rfl) (pa_cons (pe_fld (pv 0) rfl) pa_nil))))))), ?_⟩
  rcases h with ⟨ht, h⟩ | ⟨l, xs, rfl, hl, hi, hm, h⟩
  · exact ⟨_, rfl, v, false, rfl, ht, fun H' s' => ⟨(fun z => by cases z), fun _ => h H' s'⟩⟩
  · refine ⟨_, rfl, .ref l, true, rfl, Thing.good hl hi hm, fun H' s' => ⟨fun _ => ?_, fun z => by cases z⟩⟩
    refine ⟨_, rfl, _, rfl, p, _, dx, _, _, rfl, s' _ _ hp, T.cl_Fronted, T.na_Fronted_item, rfs_item _ _, _, rfl, p, _, dx, _, _, rfl, s' _ _ hp, T.cl_Fronted, T.na_Fronted_slot, rfs_slot _ _, l, xs, x, n, rfl, s' _ _ hl, ?_⟩
    have z := h H' s'
    have e : (dnF x n xs).isSome = decide (xs[n]? = some x) := by
      unfold dnF
      by_cases c : xs[n]? = some x
      · rw [if_pos c, decide_eq_true c]
        rfl
      · rw [if_neg c, decide_eq_false c]
        rfl
    rw [e] at z
    exact z
theorem len_Fronted_applies : ∀ vs H Q E, spApplies K A A.c_Fronted dnF vs H Q E → vs.length = 2 := fun vs H Q E h => by
  obtain ⟨p, dx, x, n, v, rfl, _⟩ := h
  rfl
theorem ok_Fronted_applies (T : Txt K mg A) : OkX P w K mg base 4 A.m_Fronted_applies ["self", "items"] (spApplies K A A.c_Fronted dnF) := T.fn_Fronted_applies.okX sc_Fronted_applies (fun _ _ _ _ _ _ us hl => match us, hl with | [_, _], _ => rfl) len_Fronted_applies (body_Fronted_applies T)
theorem okk_Fronted_applies (T : Txt K mg A) : OkXK P w K mg base 4 A.m_Fronted_applies ["self", "items"] "items" (spApplies K A A.c_Fronted dnF) := T.fn_Fronted_applies.okXK sc_Fronted_applies (fun _ _ _ _ _ _ _ _ => rfl) len_Fronted_applies (body_Fronted_applies T)
theorem body_Fronted_applied (T : Txt K mg A) : BodyX P w K mg base N_Fronted_applied "Fronted.applied" s_Fronted_applied A.m_Fronted_applied 5 (spBack K A A.c_Fronted dnF) := by
  intro cdv B up s H vs Q E hr h
  obtain ⟨p, dx, x, n, v, rfl, hp, h⟩ := h
  refine ⟨_, (pss_cons (ps_if (pt_not (pt_val (px_meth T.cl_Fronted T.me_Fronted_applies (ok_Fronted_applies T) (fun _ => atE (takes_of rfl rfl rfl rfl)) (hr.mono (by decide)) (pv 0) (pa_cons (pv 1) pa_nil)))) (pss_one (ps_raiseImp rfl T.low_Impossible hr (takes_of rfl rfl rfl rfl) (pa_cons (pe_fld (pv 0) rfl) pa_nil))) pss_nil)
      (pss_one (ps_ret (po_call (ok_put_in T) (hr.mono (by decide)) T.mg_put_in (pa_cons (po_call (ok_taken_out T) (hr.mono (by decide)) T.mg_taken_out (pa_cons (pv 1) (pa_cons (pe_fld (pv 0) rfl) pa_nil))) (pa_cons (pe_fld (pv 0) rfl) (pa_cons pe_int pa_nil))))))), ?_⟩
  rcases h with ⟨ht, h⟩ | ⟨l, xs, rfl, hl, hi, hm, h1, h2⟩
  · exact ⟨_, rfl, p, dx, _, rfl, hp, no_applies _ _, _, rfl, p, dx, x, n, v, rfl, hp, .inl ⟨ht, h⟩⟩
  · refine ⟨_, rfl, p, dx, _, rfl, hp, no_applies _ _, _, rfl, p, dx, x, n, .ref l, rfl, hp, .inr ⟨l, xs, rfl, hl, hi, hm, fun H' s' => ⟨_, rfl, ?_⟩⟩⟩
    cases eb : dnF x n xs with
    | some ys =>
      refine iteF ?_
      have HX : ∀ {Hz : Hp} {D : Addr}, Hz D = some (.lst ((inL (outL xs n) x 0).map V.str)) → Hz D = some (.lst (ys.map V.str)) := fun z => by rw [(dnF_some eb).2]; exact z
      refine ⟨_, rfl, _, rfl, p, _, dx, _, _, rfl, s' _ _ hp, T.cl_Fronted, T.na_Fronted_slot, rfs_slot _ _, l, xs, n, rfl, s' _ _ hl, hm, fun D H2 s2 nD hD => ?_⟩
      refine ⟨_, rfl, p, _, dx, _, _, rfl, s2 _ _ (s' _ _ hp), T.cl_Fronted, T.na_Fronted_item, rfs_item _ _, D, _, x, 0, rfl, hD, outL_len xs n hm, fun D2 H3 s3 nD2 hD2 => ?_⟩
      exact h1 ys eb D2 H3 (s'.trans (s2.trans s3)) (none_same (s'.trans s2) nD2) (HX hD2)
    | none =>
      exact iteT ⟨_, rfl, p, _, dx, _, _, rfl, s' _ _ hp, T.cl_Fronted, T.na_Fronted_item, rfs_item _ _, _, rfl, fun d nd => h2 eb d _ (s'.trans (Same.new nd)) (none_same s' nd) upd_same⟩
theorem len_Fronted_applied : ∀ vs H Q E, spBack K A A.c_Fronted dnF vs H Q E → vs.length = 2 := fun vs H Q E h => by
  obtain ⟨p, dx, x, n, v, rfl, _⟩ := h
  rfl
theorem ok_Fronted_applied (T : Txt K mg A) : OkX P w K mg base 6 A.m_Fronted_applied ["self", "items"] (spBack K A A.c_Fronted dnF) := T.fn_Fronted_applied.okX sc_Fronted_applied (fun _ _ _ _ _ _ us hl => match us, hl with | [_, _], _ => rfl) len_Fronted_applied (body_Fronted_applied T)
theorem okk_Fronted_applied (T : Txt K mg A) : OkXK P w K mg base 6 A.m_Fronted_applied ["self", "items"] "items" (spBack K A A.c_Fronted dnF) := T.fn_Fronted_applied.okXK sc_Fronted_applied (fun _ _ _ _ _ _ _ _ => rfl) len_Fronted_applied (body_Fronted_applied T)
theorem body_Record_applies (T : Txt K mg A) : BodyX P w K mg base N_Record_applies "Record.applies" s_Record_applies A.m_Record_applies 3 (spApplies K A A.c_Record bkN) := by
  intro cdv B up s H vs Q E hr h
  obtain ⟨p, dx, x, n, v, rfl, hp, h⟩ := h
  refine ⟨_, (pss_cons (ps_expr (px_call (ok_check_items T) (fun _ => atE (takes_of rfl rfl rfl rfl)) (hr.mono (by decide)) T.mg_check_items (pa_cons (pv 1) pa_nil)))
      (pss_one (ps_ret pe_bl))), ?_⟩
  rcases h with ⟨ht, h⟩ | ⟨l, xs, rfl, hl, hi, hm, h⟩
  · exact ⟨_, rfl, v, false, rfl, ht, fun H' s' => ⟨(fun z => by cases z), fun _ => h H' s'⟩⟩
  · exact ⟨_, rfl, .ref l, true, rfl, Thing.good hl hi hm, fun H' s' => ⟨fun _ => h H' s', fun z => by cases z⟩⟩
theorem len_Record_applies : ∀ vs H Q E, spApplies K A A.c_Record bkN vs H Q E → vs.length = 2 := fun vs H Q E h => by
  obtain ⟨p, dx, x, n, v, rfl, _⟩ := h
  rfl
theorem ok_Record_applies (T : Txt K mg A) : OkX P w K mg base 4 A.m_Record_applies ["self", "items"] (spApplies K A A.c_Record bkN) := T.fn_Record_applies.okX sc_Record_applies (fun _ _ _ _ _ _ us hl => match us, hl with | [_, _], _ => rfl) len_Record_applies (body_Record_applies T)
theorem okk_Record_applies (T : Txt K mg A) : OkXK P w K mg base 4 A.m_Record_applies ["self", "items"] "items" (spApplies K A A.c_Record bkN) := T.fn_Record_applies.okXK sc_Record_applies (fun _ _ _ _ _ _ _ _ => rfl) len_Record_applies (body_Record_applies T)
theorem body_Record_applied (T : Txt K mg A) : BodyX P w K mg base N_Record_applied "Record.applied" s_Record_applied A.m_Record_applied 5 (spBack K A A.c_Record bkN) := by
  intro cdv B up s H vs Q E hr h
  obtain ⟨p, dx, x, n, v, rfl, hp, h⟩ := h
  refine ⟨_, (pss_cons (ps_expr (px_call (ok_check_items T) (fun _ => atE (takes_of rfl rfl rfl rfl)) (hr.mono (by decide)) T.mg_check_items (pa_cons (pv 1) pa_nil)))
      (pss_one (ps_raiseImp rfl T.low_Impossible hr (takes_of rfl rfl rfl rfl) (pa_cons (pe_fld (pv 0) rfl) pa_nil)))), ?_⟩
  rcases h with ⟨ht, h⟩ | ⟨l, xs, rfl, hl, hi, hm, h1, h2⟩
  · exact ⟨_, rfl, v, false, rfl, ht, fun H' s' => ⟨(fun z => by cases z), fun _ => h H' s'⟩⟩
  · refine ⟨_, rfl, .ref l, true, rfl, Thing.good hl hi hm, fun H' s' => ⟨fun _ => ?_, fun z => by cases z⟩⟩
    exact ⟨_, rfl, p, _, dx, _, _, rfl, s' _ _ hp, T.cl_Record, T.na_Record_item, rfs_item _ _, _, rfl, fun d nd => h2 rfl d _ (s'.trans (Same.new nd)) (none_same s' nd) upd_same⟩
theorem len_Record_applied : ∀ vs H Q E, spBack K A A.c_Record bkN vs H Q E → vs.length = 2 := fun vs H Q E h => by
  obtain ⟨p, dx, x, n, v, rfl, _⟩ := h
  rfl
theorem ok_Record_applied (T : Txt K mg A) : OkX P w K mg base 6 A.m_Record_applied ["self", "items"] (spBack K A A.c_Record bkN) := T.fn_Record_applied.okX sc_Record_applied (fun _ _ _ _ _ _ us hl => match us, hl with | [_, _], _ => rfl) len_Record_applied (body_Record_applied T)
theorem okk_Record_applied (T : Txt K mg A) : OkXK P w K mg base 6 A.m_Record_applied ["self", "items"] "items" (spBack K A A.c_Record bkN) := T.fn_Record_applied.okXK sc_Record_applied (fun _ _ _ _ _ _ _ _ => rfl) len_Record_applied (body_Record_applied T)

end
end Own

set_option Elab.async false
set_option linter.all false
set_option maxRecDepth 100000
set_option maxHeartbeats 4000000
namespace Own
open PySem L2 ClX
local macro_rules | `(tactic| walk_at "v") => `(tactic| refine ⟨_, rfl, ?_⟩)
local macro_rules | `(tactic| walk_at "ii") => `(tactic| refine ⟨_, _, rfl, rfl, ?_⟩)
local macro_rules | `(tactic| walk_at "go") => `(tactic| repeat (first | refine ⟨_, rfl, ?_⟩ | refine ⟨_, _, rfl, rfl, ?_⟩ | refine addI ?_ | refine L2.iteT ?_ | refine L2.iteF ?_))

section
variable {P : Program} {w : World} {K : PySem.W.Frag} {mg : Str → Option Value} {base : Heap} {A : Ad}
/-! ### records, or any object; one after another -/
def signW (way : Int) : Str := if way = 0 then "+" else if way = 1 then "-" else if way = 2 then "^" else ""
structure Kd (K : PySem.W.Frag) (A : Ad) (way : Int) : Prop where
  rc : RC K (cw A way)
  ty : InsT K (cw A way)
  kr : PySem.W.kitOne K (.ref (cw A way)) (.ref A.c_Record) = some true
  sg : ∃ u, Con K (cw A way) "SIGN" (.str (signW way)) u
theorem kd_of (T : Txt K mg A) {way : Int} (h0 : 0 ≤ way) (h1 : way ≤ 3) : Kd K A way := by
  rcases way4 h0 h1 with rfl | rfl | rfl | rfl
  · exact ⟨rc_Inserted T, T.ty_Inserted, T.kit_Inserted_Record, T.iv_Inserted_SIGN⟩
  · exact ⟨rc_Removed T, T.ty_Removed, T.kit_Removed_Record, T.iv_Removed_SIGN⟩
  · exact ⟨rc_Fronted T, T.ty_Fronted, T.kit_Fronted_Record, T.iv_Fronted_SIGN⟩
  · exact ⟨rc_Record T, T.ty_Record, T.kit_Record_Record, T.iv_Record_SIGN⟩
/-- an object, and whether it is a record of a kind -/
inductive Rw (K : PySem.W.Frag) (A : Ad) (H : Hp) : V → Bool → Prop where
  | row {p dx : Addr} {way : Int} {x : Str} {n : Nat} (e : H p = some (.ins (cw A way) dx (rfs x n))) (h0 : 0 ≤ way) (h1 : way ≤ 3) : Rw K A H (.ref p) (decide (way < 3))
  | no {v : V} {t : Value} (ty : TyX K H v t) (h : PySem.W.kitOne K t (.ref A.c_Record) = some false) : Rw K A H v false
theorem Rw.same {H H' : Hp} {v : V} {b : Bool} (h : Rw K A H v b) (s : Same H H') : Rw K A H' v b := by
  cases h with
  | row e h0 h1 => exact .row (s _ _ e) h0 h1
  | no ty h => exact .no (ty.same s) h
def spKind (K : PySem.W.Frag) (A : Ad) : Sp := fun vs H Q _ => ∃ (v : V) (b : Bool), vs = [v] ∧ Rw K A H v b ∧ Q (.bl b) H
theorem no_sign (x : Str) (n : Int) : (rfs x n).lookup ("SIGN" : Str) = none := rfs_no _ _ (by decide +kernel) (by decide +kernel)
theorem ok_has_kind (T : Txt K mg A) : Ok1 P w K mg base 1 A.f_has_kind ["thing"] (spKind K A) := by
  refine T.fn_has_kind.ok sc_has_kind (fun _ _ _ _ _ _ us hl => match us, hl with | [_], _ => rfl) (fun vs H Q E h => ?_) (fun cdv B up s H vs Q E hr h => ?_)
  · obtain ⟨v, b, rfl, _⟩ := h
    rfl
  · obtain ⟨v, b, rfl, hv, h⟩ := h
    refine ⟨_, (pss_one (ps_ret (pe_and (pe_callB call_isi (by rfl) T.no_isinstance (by decide +kernel) (pa_cons (pv 0) (pa_cons (pe_glob (v := .ref A.c_Record) rfl T.mg_Record rfl) pa_nil))) (pe_one (pe_cmpR (op_neX hr) (pe_con (pv 0) rfl) (pe_clsv T.cv_Record_SIGN (pe_glob (v := .ref A.c_Record) rfl T.mg_Record rfl)) (nomark _)))))), ?_⟩
    cases hv with
    | no ty hk => exact ⟨_, rfl, _, _, _, _, _, rfl, .own _, ty, hk, _, rfl, iteF h⟩
    | @row p dx way x n e h0 h1 =>
      have k := kd_of T h0 h1
      obtain ⟨u, cn⟩ := k.sg
      refine ⟨_, rfl, _, _, _, _, _, rfl, .own _, .base (.ins e k.rc.cl k.ty.ha k.ty.hn k.ty.ht k.ty.hm), k.kr, _, rfl, iteT ?_⟩
      refine ⟨_, rfl, p, _, dx, _, _, _, rfl, e, k.rc.cl, cn, no_sign _ _, neS rfl ?_⟩
      have z : (!decide (V.str (signW way) = V.str "")) = decide (way < 3) := by
        rcases way4 h0 h1 with rfl | rfl | rfl | rfl
        · decide +kernel
        · decide +kernel
        · decide +kernel
        · decide +kernel
      rw [z]
      exact h

end
end Own

set_option Elab.async false
set_option linter.all false
set_option maxRecDepth 100000
set_option maxHeartbeats 4000000
namespace Own
open PySem L2 ClX
local macro_rules | `(tactic| walk_at "v") => `(tactic| refine ⟨_, rfl, ?_⟩)
local macro_rules | `(tactic| walk_at "ii") => `(tactic| refine ⟨_, _, rfl, rfl, ?_⟩)
local macro_rules | `(tactic| walk_at "go") => `(tactic| repeat (first | refine ⟨_, rfl, ?_⟩ | refine ⟨_, _, rfl, rfl, ?_⟩ | refine addI ?_ | refine L2.iteT ?_ | refine L2.iteF ?_))

section
variable {P : Program} {w : World} {K : PySem.W.Frag} {mg : Str → Option Value} {base : Heap} {A : Ad}
inductive Rws (K : PySem.W.Frag) (A : Ad) (H : Hp) : List V → List Bool → Prop where
  | nil : Rws K A H [] []
  | cons {v : V} {b : Bool} {vs : List V} {bs : List Bool} (h : Rw K A H v b) (t : Rws K A H vs bs) : Rws K A H (v :: vs) (b :: bs)
theorem Rws.same {H H' : Hp} {vs : List V} {bs : List Bool} (h : Rws K A H vs bs) (s : Same H H') : Rws K A H' vs bs := by
  induction h with
  | nil => exact .nil
  | cons a _ ih => exact .cons (a.same s) ih
theorem Rws.len {H : Hp} {vs : List V} {bs : List Bool} (h : Rws K A H vs bs) : vs.length = bs.length := by
  induction h with
  | nil => rfl
  | cons _ _ ih => rw [List.length_cons, List.length_cons, ih]
theorem Rws.get {H : Hp} {vs : List V} {bs : List Bool} (h : Rws K A H vs bs) : ∀ {i : Nat} {v : V}, vs[i]? = some v → ∃ b, bs[i]? = some b ∧ Rw K A H v b := by
  induction h with
  | nil => intro i v e; cases e
  | cons a _ ih =>
    intro i v e
    cases i with
    | zero => cases e; exact ⟨_, rfl, a⟩
    | succ i => exact ih e
theorem Rws.app {H : Hp} {vs ws : List V} {bs cs : List Bool} (h : Rws K A H vs bs) (g : Rws K A H ws cs) : Rws K A H (vs ++ ws) (bs ++ cs) := by
  induction h with
  | nil => exact g
  | cons a _ ih => exact .cons a ih
/-- any object, and whether it is a list of at most so many records of the kinds -/
inductive ThingR (K : PySem.W.Frag) (A : Ad) (H : Hp) (most : Nat) : V → Bool → Prop where
  | no {v : V} {t : Value} (ty : TyX K H v t) (h : PySem.W.kitOne K t (.type "list") = some false) : ThingR K A H most v false
  | lst {l : Addr} {vs : List V} {bs : List Bool} (e : H l = some (.lst vs)) (m : vs.length ≤ 4000) (z : Rws K A H vs bs) : ThingR K A H most (.ref l) (decide (bs.length ≤ most) && bs.all id)
def spAreRec (K : PySem.W.Frag) (A : Ad) : Sp := fun vs H Q _ => ∃ (v : V) (most : Nat) (b : Bool), vs = [v, .int most] ∧ ThingR K A H most v b ∧ ∀ H', Same H H' → Q (.bl b) H'
theorem ok_are_records (T : Txt K mg A) : Ok1 P w K mg base 2 A.f_are_records ["thing", "most"] (spAreRec K A) := by
  refine T.fn_are_records.ok sc_are_records (fun _ _ _ _ _ _ us hl => match us, hl with | [_, _], _ => rfl) (fun vs H Q E h => ?_) (fun cdv B up s H vs Q E hr h => ?_)
  · obtain ⟨v, most, b, rfl, _⟩ := h
    rfl
  · obtain ⟨v, most, b, rfl, he, h⟩ := h
    refine ⟨_, (pss_cons (ps_if (PW.pt (pw_or (pt_not (pt_val (pe_callB call_isi (by rfl) T.no_isinstance (by decide +kernel) (pa_cons (pv 0) (pa_cons (pe_bltn (v := .ty "list") (by rfl) T.no_list (by decide +kernel) rfl) pa_nil))))) (pw_or1 (pt_cmpR op_gt (pe_callB call_len (by rfl) T.no_len (by decide +kernel) (pa_cons (pv 0) pa_nil)) (pv 1) (nomark _))))) (pss_one (ps_ret pe_bl)) pss_nil)
      (pss_one (ps_ret (pe_callB (cr_all rfl) (by rfl) T.no_all (by decide +kernel) (pa_cons (pe_lcD (own := [("entry", 2)]) rfl sc_are_records.nd (pi_list (pv 0)) (blkOk_by (N := N_are_records) (sc := defScope s_are_records) (by decide +kernel)) (fun _ _ _ _ _ => pg_name (i := 2) sc_are_records.nd rfl (Or.inl rfl)) (fun _ _ _ _ _ => pts_nil) (fun _ _ _ _ _ => (po_call (ok_has_kind T) (hr.mono (by decide)) T.mg_has_kind (pa_cons (pv 2) pa_nil)))) pa_nil))))), ?_⟩
    cases he with
    | no ty hk => exact ⟨_, rfl, _, _, _, _, _, rfl, .ty _, ty, hk, _, rfl, iteT (h H (fun _ _ e => e))⟩
    | @lst l vs bs e m z =>
      have ll := z.len
      refine ⟨_, rfl, _, _, _, _, _, rfl, .ty _, .base (.lst e), kit_ty (r := true) (by decide +kernel), ?_⟩
      refine ⟨_, rfl, ?_⟩
      refine iteF ?_
      refine ⟨_, rfl, _, _, rfl, .inl ⟨_, SqL.of e, rfl⟩, _, rfl, _, _, rfl, rfl, _, rfl, ?_⟩
      refine ite2 (fun c => ?_) (fun c => ?_)
      · have c' := of_decide_eq_true c
        rw [decide_eq_false (show ¬ bs.length ≤ most by omega)] at h
        exact h H (fun _ _ e => e)
      · have c' := of_decide_eq_false (Bool.eq_false_iff.mpr c)
        rw [decide_eq_true (show bs.length ≤ most by omega), Bool.true_and] at h
        refine ⟨_, rfl, l, rfl, ⟨_, SqL.of e⟩, fun D nD => ?_⟩
        refine lc_list (K := K) (a := l) (xs := vs) (fun i H' => Same H H' ∧ H' D = some (.lst ((bs.take i).map V.bl))) ?_ ?_ ?_ ?_
        · exact ⟨Same.new nD, upd_same⟩
        · rintro i H1 _ ⟨s1, _⟩
          exact SqL.of (s1 _ _ e)
        · rintro i x H1 hx ⟨s1, h1⟩
          obtain ⟨b, hb, en⟩ := z.get hx
          refine ⟨rfl, _, rfl, _, b, rfl, en.same s1, _, h1, ?_, ?_, ?_⟩
          · rw [List.length_map, List.length_take]
            exact Nat.lt_of_le_of_lt (Nat.min_le_left _ _) (Nat.lt_of_lt_of_le (show i < 4001 by have := (List.getElem?_eq_some_iff.mp hb).1; omega) (by decide))
          · intro c o ho
            rw [upd_ne (ne_of_none ho nD)]
            exact s1 _ _ ho
          · have e9 : bs.take (i + 1) = bs.take i ++ [b] := by
              rw [List.take_add_one, hb]
              rfl
            rw [upd_same, e9, List.map_append]
            rfl
        · rintro H1 ⟨s1, h1⟩
          rw [ll, List.take_length] at h1
          exact ⟨D, bs, rfl, SqL.of h1, h H1 s1⟩
def spCheckR (K : PySem.W.Frag) (A : Ad) : Sp := fun vs H Q E => ∃ (v : V) (b : Bool), vs = [v] ∧ ThingR K A H 80 v b ∧ ∀ H', Same H H' → (b = true → Q .non H') ∧ (b = false → E (.ref A.c_NoLog) none H')
theorem ok_check_records (T : Txt K mg A) : OkX P w K mg base 3 A.f_check_records ["records"] (spCheckR K A) := by
  refine T.fn_check_records.okX sc_check_records (fun _ _ _ _ _ _ us hl => match us, hl with | [_], _ => rfl) (fun vs H Q E h => ?_) (fun cdv B up s H vs Q E hr h => ?_)
  · obtain ⟨v, b, rfl, _⟩ := h
    rfl
  · obtain ⟨v, b, rfl, he, h⟩ := h
    refine ⟨_, (pss_one (ps_if (pt_not (pt_val (po_call (ok_are_records T) (hr.mono (by decide)) T.mg_are_records (pa_cons (pv 0) (pa_cons (pe_globC T.mg_MOST_REPLAYED) pa_nil))))) (pss_one (ps_raise rfl (takes_of rfl rfl rfl rfl) (pmk_own PySem.F.excBase_ValueError T.er_NoLog.xP T.mg_NoLog T.er_NoLog.kp (raises_own T.er_NoLog.bP T.er_NoLog.tP) rfl))) pss_nil)), ?_⟩
    refine ⟨_, rfl, v, 80, b, rfl, he, fun H' s' => ⟨_, rfl, ?_⟩⟩
    obtain ⟨h1, h2⟩ := h H' s'
    cases b with
    | true => exact iteF (h1 rfl)
    | false =>
      refine iteT ?_
      exact h2 rfl

end
end Own

set_option Elab.async false
set_option linter.all false
set_option maxRecDepth 100000
set_option maxHeartbeats 4000000
namespace Own
open PySem L2 ClX
local macro_rules | `(tactic| walk_at "v") => `(tactic| refine ⟨_, rfl, ?_⟩)
local macro_rules | `(tactic| walk_at "ii") => `(tactic| refine ⟨_, _, rfl, rfl, ?_⟩)
local macro_rules | `(tactic| walk_at "go") => `(tactic| repeat (first | refine ⟨_, rfl, ?_⟩ | refine ⟨_, _, rfl, rfl, ?_⟩ | refine addI ?_ | refine L2.iteT ?_ | refine L2.iteF ?_))

section
variable {P : Program} {w : World} {K : PySem.W.Frag} {mg : Str → Option Value} {base : Heap} {A : Ad}
/-! ### the ways of records -/
def backW (way : Int) : Str → Nat → List Str → Option (List Str) := if way = 0 then bkR else if way = 1 then bkI else if way = 2 then dnF else bkN
theorem meths_back (T : Txt K mg A) {way : Int} (h0 : 0 ≤ way) (h1 : way ≤ 3) : RC K (cw A way) ∧ ∃ f, Meth K (cw A way) "applied" f ∧ OkX P w K mg base 6 f ["self", "items"] (spBack K A (cw A way) (backW way)) ∧ OkXK P w K mg base 6 f ["self", "items"] "items" (spBack K A (cw A way) (backW way)) := by
  rcases way4 h0 h1 with rfl | rfl | rfl | rfl
  · exact ⟨rc_Inserted T, _, T.me_Inserted_applied, ok_Inserted_applied T, okk_Inserted_applied T⟩
  · exact ⟨rc_Removed T, _, T.me_Removed_applied, ok_Removed_applied T, okk_Removed_applied T⟩
  · exact ⟨rc_Fronted T, _, T.me_Fronted_applied, ok_Fronted_applied T, okk_Fronted_applied T⟩
  · exact ⟨rc_Record T, _, T.me_Record_applied, ok_Record_applied T, okk_Record_applied T⟩
theorem no_applied (x : Str) (n : Int) : (rfs x n).lookup ("applied" : Str) = none := rfs_no _ _ (by decide +kernel) (by decide +kernel)
theorem meths_applies (T : Txt K mg A) {way : Int} (h0 : 0 ≤ way) (h1 : way ≤ 3) : ∃ f, Meth K (cw A way) "applies" f ∧ OkX P w K mg base 4 f ["self", "items"] (spApplies K A (cw A way) (backW way)) ∧ OkXK P w K mg base 4 f ["self", "items"] "items" (spApplies K A (cw A way) (backW way)) := by
  rcases way4 h0 h1 with rfl | rfl | rfl | rfl
  · exact ⟨_, T.me_Inserted_applies, ok_Inserted_applies T, okk_Inserted_applies T⟩
  · exact ⟨_, T.me_Removed_applies, ok_Removed_applies T, okk_Removed_applies T⟩
  · exact ⟨_, T.me_Fronted_applies, ok_Fronted_applies T, okk_Fronted_applies T⟩
  · exact ⟨_, T.me_Record_applies, ok_Record_applies T, okk_Record_applies T⟩
theorem outL_in {xs : List Str} {x : Str} {n : Nat} (h : xs[n]? = some x) : inL (outL xs n) x n = xs ∧ n < xs.length := by
  obtain ⟨hn, e⟩ := List.getElem?_eq_some_iff.mp h
  refine ⟨?_, hn⟩
  have t : (outL xs n).take n = xs.take n := by
    unfold outL
    rw [List.take_append_of_le_length (by rw [List.length_take]; omega), List.take_take, Nat.min_self]
  have d : (outL xs n).drop n = xs.drop (n + 1) := by
    unfold outL
    have l : (xs.take n).length = n := by
      rw [List.length_take]
      omega
    rw [List.drop_append_of_le_length (by omega), List.drop_of_length_le (by omega), List.nil_append]
  unfold inL
  rw [t, d, List.append_assoc]
  have c := List.drop_eq_getElem_cons hn
  rw [e] at c
  show xs.take n ++ (x :: xs.drop (n + 1)) = xs
  rw [← c, List.take_append_drop]
theorem outL_perm {xs : List Str} {x : Str} {n : Nat} (h : xs[n]? = some x) : (x :: outL xs n).Perm xs := by
  have e := (outL_in h).1
  have p : (inL (outL xs n) x n).Perm (x :: outL xs n) := by
    unfold inL
    rw [List.append_assoc]
    refine List.perm_middle.trans ?_
    show (x :: (List.take n (outL xs n) ++ List.drop n (outL xs n))).Perm _
    rw [List.take_append_drop]
  rw [e] at p
  exact p.symm
theorem inL_perm (xs : List Str) (x : Str) (n : Nat) : (inL xs x n).Perm (x :: xs) := by
  unfold inL
  rw [List.append_assoc]
  refine List.perm_middle.trans ?_
  show (x :: (List.take n xs ++ List.drop n xs)).Perm _
  rw [List.take_append_drop]
theorem inL_at {xs : List Str} {x : Str} {n : Nat} (h : n ≤ xs.length) : (inL xs x n)[n]? = some x ∧ outL (inL xs x n) n = xs := by
  have l : (xs.take n).length = n := by
    rw [List.length_take]
    omega
  constructor
  · unfold inL
    rw [List.append_assoc, List.getElem?_append_right (by omega), l, Nat.sub_self]
    rfl
  · unfold outL inL
    have t : (xs.take n ++ [x] ++ xs.drop n).take n = xs.take n := by
      rw [List.append_assoc, List.take_append_of_le_length (by omega), List.take_take, Nat.min_self]
    have d : (xs.take n ++ [x] ++ xs.drop n).drop (n + 1) = xs.drop n := by
      have l2 : (xs.take n ++ [x]).length = n + 1 := by
        rw [List.length_append, l]
        rfl
      rw [List.drop_append_of_le_length (by omega), List.drop_of_length_le (by omega), List.nil_append]
    rw [t, d, List.take_append_drop]
theorem Items.out {xs : List Str} {x : Str} {n : Nat} (i : Items xs) (h : xs[n]? = some x) : Items (outL xs n) ∧ x ∉ outL xs n ∧ (outL xs n).length + 1 = xs.length := by
  have p := outL_perm h
  have i2 := i.perm p
  refine ⟨⟨fun y hy => i2.it y (List.mem_cons_of_mem _ hy), (List.nodup_cons.mp i2.nd).2⟩, (List.nodup_cons.mp i2.nd).1, ?_⟩
  have := p.length_eq
  rw [List.length_cons] at this
  exact this
theorem Items.inn {xs : List Str} {x : Str} {n : Nat} (i : Items xs) (hx : isItem x = true) (h : x ∉ xs) : Items (inL xs x n) ∧ (inL xs x n).length = xs.length + 1 := by
  have p := inL_perm xs x n
  refine ⟨Items.perm ⟨fun y hy => ?_, List.nodup_cons.mpr ⟨h, i.nd⟩⟩ p, ?_⟩
  · rcases List.mem_cons.mp hy with rfl | hy
    · exact hx
    · exact i.it y hy
  · rw [p.length_eq, List.length_cons]
theorem done_ok {way : Int} {x : Str} {n : Nat} {xs ys : List Str} (i : Items xs) (m : xs.length ≤ 60) (hx : isItem x = true) (h : backW way x n xs = some ys) : Items ys ∧ ys.length ≤ 60 := by
  unfold backW at h
  by_cases w0 : way = 0
  · rw [if_pos w0] at h
    obtain ⟨⟨no, hn, hl⟩, rfl⟩ := bkR_some h
    obtain ⟨i2, l⟩ := i.inn (n := n) hx no
    exact ⟨i2, by omega⟩
  rw [if_neg w0] at h
  by_cases w1 : way = 1
  · rw [if_pos w1] at h
    obtain ⟨e, rfl⟩ := bkI_some h
    obtain ⟨i2, no, l⟩ := i.out e
    exact ⟨i2, by omega⟩
  rw [if_neg w1] at h
  by_cases w2 : way = 2
  · rw [if_pos w2] at h
    obtain ⟨e, rfl⟩ := dnF_some h
    obtain ⟨i2, no, l⟩ := i.out e
    obtain ⟨i3, l3⟩ := i2.inn (n := 0) hx no
    exact ⟨i3, by omega⟩
  rw [if_neg w2] at h
  cases h

/-! ### one record after another -/
def spAfter (A : Ad) : Sp := fun vs H Q E => ∃ (l p dx : Addr) (way : Int) (x : Str) (n : Nat) (k : Int) (xs : List Str), vs = [.ref l, .ref p, .int k] ∧ 0 ≤ way ∧ way ≤ 3 ∧ H p = some (.ins (cw A way) dx (rfs x n)) ∧ H l = some (.lst (xs.map V.str)) ∧ Items xs ∧ xs.length ≤ 60 ∧
  (∀ ys, backW way x n xs = some ys → ∀ (D : Addr) (H' : Hp), Same H H' → H D = none → H' D = some (.lst (ys.map V.str)) → Q (.ref D) H') ∧
  (backW way x n xs = none → ∀ (d : Addr) (H' : Hp), Same H H' → H d = none → H' d = some (.xd [("reason", .int k)]) → E (.ref A.c_Impossible) (some d) H')
theorem len_list_after : ∀ vs H Q E, spAfter A vs H Q E → vs.length = 3 := fun vs H Q E h => by
  obtain ⟨l, p, dx, way, x, n, k, xs, rfl, _⟩ := h
  rfl
theorem ok_list_after (T : Txt K mg A) : OkX P w K mg base 7 A.f_list_after ["items", "record", "number"] (spAfter A) := by
  refine T.fn_list_after.okX sc_list_after (fun _ _ _ _ _ _ us hl => match us, hl with | [_, _, _], _ => rfl) len_list_after (fun cdv B up s H vs Q E hr h => ?_)
  obtain ⟨l, p, dx, way, x, n, k, xs, rfl, w0, w1, hp, hl, hi, hm, h1, h2⟩ := h
  obtain ⟨R, f2, me2, okA2, _⟩ := meths_back (P := P) (w := w) (base := base) T w0 w1
  obtain ⟨f, me, okA, _⟩ := meths_applies (P := P) (w := w) (base := base) T w0 w1
  refine ⟨_, (pss_cons (ps_if (pt_not (pt_val (px_meth R.cl me okA (fun _ => atE (takes_of rfl rfl rfl rfl)) (hr.mono (by decide)) (pv 1) (pa_cons (pv 0) pa_nil)))) (pss_one (ps_raiseImp rfl T.low_Impossible hr (takes_of rfl rfl rfl rfl) (pa_cons (pv 2) pa_nil))) pss_nil)
      (pss_one (ps_ret (px_meth R.cl me2 okA2 (fun _ => atE (takes_of rfl rfl rfl rfl)) (hr.mono (by decide)) (pv 1) (pa_cons (pv 0) pa_nil))))), ?_⟩
  refine ⟨_, rfl, p, dx, _, rfl, hp, no_applies _ _, _, rfl, p, dx, x, n, .ref l, rfl, hp, .inr ⟨l, xs, rfl, hl, hi, hm, fun H' s' => ⟨_, rfl, ?_⟩⟩⟩
  cases eb : backW way x n xs with
  | some ys =>
    refine iteF ⟨_, rfl, p, dx, _, rfl, s' _ _ hp, no_applied _ _, _, rfl, p, dx, x, n, .ref l, rfl, s' _ _ hp, .inr ⟨l, xs, rfl, s' _ _ hl, hi, hm, fun ys' e' D H2 s2 nD hD => ?_, fun z => by rw [eb] at z; cases z⟩⟩
    rw [eb] at e'
    obtain rfl := Option.some.inj e'
    exact h1 _ eb D H2 (s'.trans s2) (none_same s' nD) hD
  | none =>
    exact iteT ⟨_, rfl, _, rfl, fun d nd => h2 eb d _ (s'.trans (Same.new nd)) (none_same s' nd) upd_same⟩
/-- the list after the records, or the number of the first that cannot be applied -/
def playL : List (Int × Str × Nat) → Nat → List Str → Except Nat (List Str)
  | [], _, xs => .ok xs
  | (w, x, n) :: ps, k, xs => match backW w x n xs with
    | some ys => playL ps (k + 1) ys
    | none => .error k
/-- the records of the parts -/
inductive Rows (A : Ad) (H : Hp) : List V → List (Int × Str × Nat) → Prop where
  | nil : Rows A H [] []
  | cons {p dx : Addr} {way : Int} {x : Str} {n : Nat} {vs : List V} {ps : List (Int × Str × Nat)} (e : H p = some (.ins (cw A way) dx (rfs x n))) (h0 : 0 ≤ way) (h1 : way < 3) (hx : isItem x = true) (t : Rows A H vs ps) : Rows A H (.ref p :: vs) ((way, x, n) :: ps)
theorem Rows.same {H H' : Hp} {vs : List V} {ps : List (Int × Str × Nat)} (h : Rows A H vs ps) (s : Same H H') : Rows A H' vs ps := by
  induction h with
  | nil => exact .nil
  | cons e h0 h1 hx _ ih => exact .cons (s _ _ e) h0 h1 hx ih
theorem Rows.len {H : Hp} {vs : List V} {ps : List (Int × Str × Nat)} (h : Rows A H vs ps) : vs.length = ps.length := by
  induction h with
  | nil => rfl
  | cons _ _ _ _ _ ih => rw [List.length_cons, List.length_cons, ih]
theorem Rows.get {H : Hp} {vs : List V} {ps : List (Int × Str × Nat)} (h : Rows A H vs ps) : ∀ {i : Nat} {v : V}, vs[i]? = some v → ∃ p dx way x n, v = .ref p ∧ ps[i]? = some (way, x, n) ∧ H p = some (.ins (cw A way) dx (rfs x n)) ∧ 0 ≤ way ∧ way < 3 ∧ isItem x = true := by
  induction h with
  | nil => intro i v e; cases e
  | cons e h0 h1 hx _ ih =>
    intro i v ev
    cases i with
    | zero => cases ev; exact ⟨_, _, _, _, _, rfl, rfl, e, h0, h1, hx⟩
    | succ i => exact ih ev
theorem Rows.rws {H : Hp} {vs : List V} {ps : List (Int × Str × Nat)} (h : Rows A H vs ps) : Rws K A H vs (ps.map fun _ => true) := by
  induction h with
  | nil => exact .nil
  | cons e h0 h1 hx _ ih =>
    have r := Rw.row (K := K) e h0 (by omega)
    rw [decide_eq_true h1] at r
    exact .cons r ih
theorem Rows.thing {H : Hp} {l : Addr} {vs : List V} {ps : List (Int × Str × Nat)} (e : H l = some (.lst vs)) (h : Rows A H vs ps) (m : ps.length ≤ 80) : ThingR K A H 80 (.ref l) true := by
  have q := ThingR.lst (most := 80) e (by rw [h.len]; omega) (h.rws (K := K))
  have a : (ps.map fun _ => true).all id = true := by simp
  rw [a, List.length_map, decide_eq_true m] at q
  exact q

end
end Own

set_option Elab.async false
set_option linter.all false
set_option maxRecDepth 100000
set_option maxHeartbeats 4000000
namespace Own
open PySem L2 ClX
local macro_rules | `(tactic| walk_at "v") => `(tactic| refine ⟨_, rfl, ?_⟩)
local macro_rules | `(tactic| walk_at "ii") => `(tactic| refine ⟨_, _, rfl, rfl, ?_⟩)
local macro_rules | `(tactic| walk_at "go") => `(tactic| repeat (first | refine ⟨_, rfl, ?_⟩ | refine ⟨_, _, rfl, rfl, ?_⟩ | refine addI ?_ | refine L2.iteT ?_ | refine L2.iteF ?_))

section
variable {P : Program} {w : World} {K : PySem.W.Frag} {mg : Str → Option Value} {base : Heap} {A : Ad}
/-! ### replay -/
def spReplay (K : PySem.W.Frag) (A : Ad) : Sp := fun vs H Q E => ∃ v r : V, vs = [v, r] ∧
  ((Thing K H v false ∧ ∀ H', Same H H' → E (.ref A.c_NoList) none H') ∨
   ∃ (l : Addr) (xs : List Str), v = .ref l ∧ H l = some (.lst (xs.map V.str)) ∧ Items xs ∧ xs.length ≤ 60 ∧
    ((ThingR K A H 80 r false ∧ ∀ H', Same H H' → E (.ref A.c_NoLog) none H') ∨
     ∃ (rl : Addr) (rs : List V) (ps : List (Int × Str × Nat)), r = .ref rl ∧ H rl = some (.lst rs) ∧ Rows A H rs ps ∧ ps.length ≤ 80 ∧
      (∀ ys, playL ps 0 xs = .ok ys → ∀ (D : Addr) (H' : Hp), Same H H' → H D = none → H' D = some (.lst (ys.map V.str)) → Q (.ref D) H') ∧
      (∀ k, playL ps 0 xs = .error k → ∀ (d : Addr) (H' : Hp), Same H H' → H d = none → H' d = some (.xd [("reason", .int (k : Nat))]) → E (.ref A.c_Impossible) (some d) H')))
theorem ThingR.same {H H' : Hp} {m : Nat} {v : V} {b : Bool} (h : ThingR K A H m v b) (s : Same H H') : ThingR K A H' m v b := by
  cases h with
  | no ty k => exact .no (ty.same s) k
  | lst e m z => exact .lst (s _ _ e) m (z.same s)
theorem playL_cons (w : Int) (x : Str) (n k : Nat) (ps : List (Int × Str × Nat)) (xs : List Str) : playL ((w, x, n) :: ps) k xs = match backW w x n xs with
    | some ys => playL ps (k + 1) ys
    | none => .error k := rfl
theorem len_replay : ∀ vs H Q E, spReplay K A vs H Q E → vs.length = 2 := fun vs H Q E h => by
  obtain ⟨v, r, rfl, _⟩ := h
  rfl
theorem body_replay (T : Txt K mg A) : BodyX P w K mg base N_replay "replay" s_replay A.f_replay 7 (spReplay K A) := by
  intro cdv B up s H vs Q E hr h
  obtain ⟨v, r, rfl, h⟩ := h
  refine ⟨_, (pss_cons (ps_expr (px_call (ok_check_items T) (fun _ => atE (takes_of rfl rfl rfl rfl)) (hr.mono (by decide)) T.mg_check_items (pa_cons (pv 0) pa_nil)))
      (pss_cons (ps_expr (px_call (ok_check_records T) (fun _ => atE (takes_of rfl rfl rfl rfl)) (hr.mono (by decide)) T.mg_check_records (pa_cons (pv 1) pa_nil)))
      (pss_cons (ps_set (i := 2) sc_replay.nd rfl (Or.inl rfl) (pe_callTy call_list_of (by rfl) T.no_list (by decide +kernel) (pa_cons (pv 0) pa_nil)))
      (pss_cons (ps_for (passes_of rfl) rfl (pi_enum (by rfl) T.no_enumerate (pa_cons (pv 1) pa_nil)) (pg_tup (by rfl) (pgs_cons (pg_name (i := 3) sc_replay.nd rfl (Or.inl rfl)) (pgs_cons (pg_name (i := 4) sc_replay.nd rfl (Or.inl rfl)) pgs_nil)))
      (pss_one (ps_set (i := 2) sc_replay.nd rfl (Or.inl rfl) (px_call (ok_list_after T) (fun _ => atE (takes_of rfl rfl rfl rfl)) (hr.mono (by decide)) T.mg_list_after (pa_cons (pv 2) (pa_cons (pv 4) (pa_cons (pv 3) pa_nil)))))))
      (pss_one (ps_ret (pv 2))))))), ?_⟩
  rcases h with ⟨ht, h⟩ | ⟨l, xs, rfl, hl, hi, hm, h⟩
  · exact ⟨_, rfl, v, false, rfl, ht, fun H' s' => ⟨(fun z => by cases z), fun _ => h H' s'⟩⟩
  refine ⟨_, rfl, .ref l, true, rfl, Thing.good hl hi hm, fun H1 s1 => ⟨fun _ => ?_, fun z => by cases z⟩⟩
  rcases h with ⟨ht, h⟩ | ⟨rl, rs, ps, rfl, hrl, hrs, hm2, h1, h2⟩
  · exact ⟨_, rfl, r, false, rfl, ht.same s1, fun H' s' => ⟨(fun z => by cases z), fun _ => h H' (s1.trans s')⟩⟩
  refine ⟨_, rfl, .ref rl, true, rfl, (hrs.same s1).thing (s1 _ _ hrl) hm2, fun H2 s2 => ⟨fun _ => ?_, fun z => by cases z⟩⟩
  have S2 := s1.trans s2
  refine ⟨_, rfl, l, _, rfl, .inl (SqL.of (S2 _ _ hl)), fun D nD => ?_⟩
  have u3 := Same.new (o := .lst (xs.map V.str)) nD
  have S3 := S2.trans u3
  have pos := hrs.len
  refine ⟨_, rfl, rl, rs, rfl, SqL.of (S3 _ _ hrl), for_it (walk_enum (xs := rs))  (fun i σ H' => ∃ (cur : List Str) (C : Addr) (a3 a4 : Option V), σ = [some (.ref l), some (.ref rl), some (.ref C), a3, a4] ∧ Same H H' ∧ H C = none ∧ H' C = some (.lst (cur.map V.str)) ∧ Items cur ∧ cur.length ≤ 60 ∧ playL (ps.drop i) i cur = playL ps 0 xs)
    ⟨xs, D, _, _, rfl, S3, none_same S2 nD, upd_same, hi, hm, rfl⟩ ?_ ?_ ?_⟩
  · rintro i σ H4 _ ⟨cur, C, a3, a4, rfl, S4, _⟩
    exact SqL.of (S4 _ _ hrl)
  · rintro i x σ H4 H5 hi5 ⟨cur, C, a3, a4, rfl, S4, nC, hC, ic, mc, pl⟩ ⟨tp, x1, y1, rfl, ntp, rfl, ex, ey⟩
    obtain rfl := Option.some.inj ex
    obtain ⟨p, dx, way, x, n, rfl, hp, he, w0, w1, hx⟩ := hrs.get ey
    have u5 := Same.new (o := .tup [.int (i : Nat), .ref p]) ntp
    have S5 := S4.trans u5
    refine ⟨tp, _, rfl, SqT.of upd_same, rfl, _, _, rfl, _, _, rfl, rfl, ?_⟩
    have hi6 : i < ps.length := (List.getElem?_eq_some_iff.mp hp).1
    have dp : ps.drop i = (way, x, n) :: ps.drop (i + 1) := by
      have c := List.drop_eq_getElem_cons hi6
      rw [List.getElem?_eq_getElem hi6] at hp
      rw [c, Option.some.inj hp]
    rw [dp] at pl
    rw [playL_cons] at pl
    refine ⟨_, rfl, _, rfl, _, rfl, C, p, dx, way, x, n, (i : Nat), cur, rfl, w0, by omega, S5 _ _ he, u5 _ _ hC, ic, mc, ?_, ?_⟩
    · intro ys eb C2 H6 s6 nC2 hC2
      rw [eb] at pl
      obtain ⟨i2, m2⟩ := done_ok ic mc hx eb
      exact ⟨ys, C2, _, _, rfl, S5.trans s6, none_same S5 nC2, hC2, i2, m2, pl⟩
    · intro eb d H6 s6 nd hd
      rw [eb] at pl
      exact h2 i pl.symm d H6 (S5.trans s6) (none_same S5 nd) hd
  · rintro σ H4 ⟨cur, C, a3, a4, rfl, S4, nC, hC, ic, mc, pl⟩
    rw [hrs.len, List.drop_length] at pl
    exact ⟨_, rfl, h1 cur pl.symm C H4 S4 nC hC⟩
theorem ok_replay (T : Txt K mg A) : OkX P w K mg base 8 A.f_replay ["items", "records"] (spReplay K A) := T.fn_replay.okX sc_replay (fun _ _ _ _ _ _ us hl => match us, hl with | [_, _], _ => rfl) len_replay (body_replay T)

end
end Own

set_option Elab.async false
set_option linter.all false
set_option maxRecDepth 100000
set_option maxHeartbeats 4000000
namespace Own
open PySem L2 ClX
local macro_rules | `(tactic| walk_at "v") => `(tactic| refine ⟨_, rfl, ?_⟩)
local macro_rules | `(tactic| walk_at "ii") => `(tactic| refine ⟨_, _, rfl, rfl, ?_⟩)
local macro_rules | `(tactic| walk_at "go") => `(tactic| repeat (first | refine ⟨_, rfl, ?_⟩ | refine ⟨_, _, rfl, rfl, ?_⟩ | refine addI ?_ | refine L2.iteT ?_ | refine L2.iteF ?_))

section
variable {P : Program} {w : World} {K : PySem.W.Frag} {mg : Str → Option Value} {base : Heap} {A : Ad}
/-! ### the class of a kept error -/
def ErrAt (H : Hp) (a D : Addr) : Prop := ∃ d, H a = some (errO (.ref D) d a) ∧ ∀ dd, d = some dd → ∃ fs, H dd = some (.xd fs)
theorem ErrAt.same {H H' : Hp} {a D : Addr} (h : ErrAt H a D) (s : Same H H') : ErrAt H' a D := by
  obtain ⟨d, e, f⟩ := h
  exact ⟨d, s _ _ e, fun dd z => let ⟨fs, q⟩ := f dd z; ⟨fs, s _ _ q⟩⟩
def XdAt (H : Hp) (d : Option Addr) : Prop := ∀ dd, d = some dd → ∃ fs, H dd = some (.xd fs)
theorem XdAt.same {H H' : Hp} {d : Option Addr} (h : XdAt H d) (s : Same H H') : XdAt H' d := fun dd z => let ⟨fs, q⟩ := h dd z; ⟨fs, s _ _ q⟩
/-- what isinstance answers of the errors of a class -/
structure Kits (K : PySem.W.Frag) (A : Ad) (D : Addr) (w : Str) (b1 b2 b3 b4 b5 b6 : Bool) : Prop where
  ec : ExcC K D
  k1 : PySem.W.kitOne K (.ref D) (.ref A.c_NoItem) = some b1
  k2 : PySem.W.kitOne K (.ref D) (.ref A.c_NoIndex) = some b2
  k3 : PySem.W.kitOne K (.ref D) (.ref A.c_NoList) = some b3
  k4 : PySem.W.kitOne K (.ref D) (.ref A.c_NoLog) = some b4
  k5 : PySem.W.kitOne K (.ref D) (.ref A.c_Impossible) = some b5
  k6 : PySem.W.kitOne K (.ref D) (.ref A.c_NoText) = some b6
  o1 : PySem.W.kitOne K (.ref D) (.ref A.c_NoClients) = some false
  o2 : PySem.W.kitOne K (.ref D) (.ref A.c_NoNumber) = some false
  o3 : PySem.W.kitOne K (.ref D) (.ref A.c_NoPosition) = some false
  o4 : PySem.W.kitOne K (.ref D) (.ref A.c_NoSeen) = some false
  o5 : PySem.W.kitOne K (.ref D) (.ref A.c_Nothing) = some false
  o6 : PySem.W.kitOne K (.ref D) (.ref A.c_TooMany) = some false
  ve : PySem.W.kitOne K (.ref D) (.type "ValueError") = some true
  one : ((([("item", b1), ("index", b2), ("list", b3), ("log", b4), ("impossible", b5), ("text", b6)] : List (Str × Bool)).filter (·.2)).map (·.1)) = [w]
theorem kits_NoList (T : Txt K mg A) : Kits K A A.c_NoList "list" false false true false false false :=
  ⟨T.ec_NoList, T.kit_NoList_NoItem, T.kit_NoList_NoIndex, T.kit_NoList_NoList, T.kit_NoList_NoLog, T.kit_NoList_Impossible, T.kit_NoList_NoText, T.kit_NoList_NoClients, T.kit_NoList_NoNumber, T.kit_NoList_NoPosition, T.kit_NoList_NoSeen, T.kit_NoList_Nothing, T.kit_NoList_TooMany, T.kit_NoList_type_ValueError, rfl⟩
theorem kits_Impossible (T : Txt K mg A) : Kits K A A.c_Impossible "impossible" false false false false true false :=
  ⟨T.ec_Impossible, T.kit_Impossible_NoItem, T.kit_Impossible_NoIndex, T.kit_Impossible_NoList, T.kit_Impossible_NoLog, T.kit_Impossible_Impossible, T.kit_Impossible_NoText, T.kit_Impossible_NoClients, T.kit_Impossible_NoNumber, T.kit_Impossible_NoPosition, T.kit_Impossible_NoSeen, T.kit_Impossible_Nothing, T.kit_Impossible_TooMany, T.kit_Impossible_type_ValueError, rfl⟩
def spClass (K : PySem.W.Frag) (A : Ad) : Sp := fun vs H Q _ => ∃ (a D : Addr) (wd : Str) (b1 b2 b3 b4 b5 b6 : Bool), vs = [.ref a] ∧ ErrAt H a D ∧ Kits K A D wd b1 b2 b3 b4 b5 b6 ∧ ∀ H', Same H H' → Q (.str wd) H'
theorem ok__law_class (T : Txt K mg A) : Ok1 P w K mg base 1 A.f__law_class ["caught"] (spClass K A) := by
  refine T.fn__law_class.ok sc__law_class (fun _ _ _ _ _ _ us hl => match us, hl with | [_], _ => rfl) (fun vs H Q E h => ?_) (fun cdv B up s H vs Q E hr h => ?_)
  · obtain ⟨a, D, wd, b1, b2, b3, b4, b5, b6, rfl, _⟩ := h
    rfl
  · obtain ⟨a, D, wd, b1, b2, b3, b4, b5, b6, rfl, ⟨d, e, f⟩, k, h⟩ := h
    have f : XdAt H d := f
    refine ⟨_, (pss_cons (ps_set (i := 1) sc__law_class.nd rfl (Or.inl rfl) (pe_lst (pa_cons (pe_tup (pa_cons pe_str (pa_cons (pe_callB call_isErr (by rfl) T.no_isinstance (by decide +kernel) (pa_cons (pv 0) (pa_cons (pe_glob (v := .ref A.c_NoItem) rfl T.mg_NoItem rfl) pa_nil))) pa_nil))) (pa_cons (pe_tup (pa_cons pe_str (pa_cons (pe_callB call_isErr (by rfl) T.no_isinstance (by decide +kernel) (pa_cons (pv 0) (pa_cons (pe_glob (v := .ref A.c_NoIndex) rfl T.mg_NoIndex rfl) pa_nil))) pa_nil))) pa_nil))))
      (pss_cons (ps_set (i := 1) sc__law_class.nd rfl (Or.inl rfl) (pe_op op_addX (pv 1) (pe_lst (pa_cons (pe_tup (pa_cons pe_str (pa_cons (pe_callB call_isErr (by rfl) T.no_isinstance (by decide +kernel) (pa_cons (pv 0) (pa_cons (pe_glob (v := .ref A.c_NoList) rfl T.mg_NoList rfl) pa_nil))) pa_nil))) (pa_cons (pe_tup (pa_cons pe_str (pa_cons (pe_callB call_isErr (by rfl) T.no_isinstance (by decide +kernel) (pa_cons (pv 0) (pa_cons (pe_glob (v := .ref A.c_NoLog) rfl T.mg_NoLog rfl) pa_nil))) pa_nil))) pa_nil)))))
      (pss_cons (ps_set (i := 1) sc__law_class.nd rfl (Or.inl rfl) (pe_op op_addX (pv 1) (pe_lst (pa_cons (pe_tup (pa_cons pe_str (pa_cons (pe_callB call_isErr (by rfl) T.no_isinstance (by decide +kernel) (pa_cons (pv 0) (pa_cons (pe_glob (v := .ref A.c_Impossible) rfl T.mg_Impossible rfl) pa_nil))) pa_nil))) (pa_cons (pe_tup (pa_cons pe_str (pa_cons (pe_callB call_isErr (by rfl) T.no_isinstance (by decide +kernel) (pa_cons (pv 0) (pa_cons (pe_glob (v := .ref A.c_NoText) rfl T.mg_NoText rfl) pa_nil))) pa_nil))) pa_nil)))))
      (pss_cons (ps_setLcD (i := 2) (own := [("word", 4), ("so", 5)]) rfl sc__law_class.nd rfl rfl (sw_true rfl rfl rfl (by decide +kernel)) (pi_list (pv 1)) (blkOk_by (N := N__law_class) (sc := defScope s__law_class) (by decide +kernel)) (fun _ _ _ _ _ => pg_tup (by rfl) (pgs_cons (pg_name (i := 4) sc__law_class.nd rfl (Or.inl rfl)) (pgs_cons (pg_name (i := 5) sc__law_class.nd rfl (Or.inl rfl)) pgs_nil))) (fun _ _ _ _ _ => (pts_one (pt_val (pv 5)))) (fun _ _ _ _ _ => (pv 4)))
      (pss_cons (ps_set (i := 3) sc__law_class.nd rfl (Or.inl rfl) (pe_callB call_isErrT (by rfl) T.no_isinstance (by decide +kernel) (pa_cons (pv 0) (pa_cons (pe_tup (pa_cons (pe_glob (v := .ref A.c_NoClients) rfl T.mg_NoClients rfl) (pa_cons (pe_glob (v := .ref A.c_NoNumber) rfl T.mg_NoNumber rfl) (pa_cons (pe_glob (v := .ref A.c_NoPosition) rfl T.mg_NoPosition rfl) (pa_cons (pe_glob (v := .ref A.c_NoSeen) rfl T.mg_NoSeen rfl) (pa_cons (pe_glob (v := .ref A.c_Nothing) rfl T.mg_Nothing rfl) (pa_cons (pe_glob (v := .ref A.c_TooMany) rfl T.mg_TooMany rfl) pa_nil))))))) pa_nil))))
      (pss_one (ps_ret (pe_ifExp (PW.pt (pw_and (pt_cmpR (op_eqX hr) (pe_callB call_len (by rfl) T.no_len (by decide +kernel) (pa_cons (pv 2) pa_nil)) pe_int (nomark _)) (pw_and (pt_not (pt_val (pv 3))) (pw_and1 (pt_val (pe_callB call_isErr (by rfl) T.no_isinstance (by decide +kernel) (pa_cons (pv 0) (pa_cons (pe_bltn (v := .ty "ValueError") (by rfl) T.no_ValueError (by decide +kernel) rfl) pa_nil)))))))) (pe_ix ix_seq (pv 2) pe_int (fun _ _ => rfl)) pe_str)))))))), ?_⟩
    refine ⟨_, rfl, a, D, d, _, _, _, rfl, e, f, k.ec, .own _, k.k1, Nat.le_of_ble_eq_true rfl, fun t1 n1 => ?_⟩
    have u1 := Same.new (o := .tup [.str "item", .bl b1]) n1
    have s1 := u1
    refine ⟨_, rfl, a, D, d, _, _, _, rfl, s1 _ _ e, f.same s1, k.ec, .own _, k.k2, Nat.le_of_ble_eq_true rfl, fun t2 n2 => ?_⟩
    have u2 := Same.new (o := .tup [.str "index", .bl b2]) n2
    have s2 := s1.trans u2
    refine ⟨Nat.le_of_ble_eq_true rfl, fun l1 m1 => ?_⟩
    have u3 := Same.new (o := .lst [.ref t1, .ref t2]) m1
    have s3 := s2.trans u3
    refine ⟨_, rfl, _, rfl, a, D, d, _, _, _, rfl, s3 _ _ e, f.same s3, k.ec, .own _, k.k3, Nat.le_of_ble_eq_true rfl, fun t3 n3 => ?_⟩
    have u4 := Same.new (o := .tup [.str "list", .bl b3]) n3
    have s4 := s3.trans u4
    refine ⟨_, rfl, a, D, d, _, _, _, rfl, s4 _ _ e, f.same s4, k.ec, .own _, k.k4, Nat.le_of_ble_eq_true rfl, fun t4 n4 => ?_⟩
    have u5 := Same.new (o := .tup [.str "log", .bl b4]) n4
    have s5 := s4.trans u5
    refine ⟨Nat.le_of_ble_eq_true rfl, fun l2 m2 => ?_⟩
    have u6 := Same.new (o := .lst [.ref t3, .ref t4]) m2
    have s6 := s5.trans u6
    refine addL ((u4.trans (u5.trans u6)) _ _ upd_same) upd_same (Nat.le_of_ble_eq_true rfl) fun q1 r1 => ?_
    have u7 := Same.new (o := .lst ([V.ref t1, V.ref t2] ++ [V.ref t3, V.ref t4])) r1
    have s7 := s6.trans u7
    refine ⟨_, rfl, _, rfl, a, D, d, _, _, _, rfl, s7 _ _ e, f.same s7, k.ec, .own _, k.k5, Nat.le_of_ble_eq_true rfl, fun t5 n5 => ?_⟩
    have u8 := Same.new (o := .tup [.str "impossible", .bl b5]) n5
    have s8 := s7.trans u8
    refine ⟨_, rfl, a, D, d, _, _, _, rfl, s8 _ _ e, f.same s8, k.ec, .own _, k.k6, Nat.le_of_ble_eq_true rfl, fun t6 n6 => ?_⟩
    have u9 := Same.new (o := .tup [.str "text", .bl b6]) n6
    have s9 := s8.trans u9
    refine ⟨Nat.le_of_ble_eq_true rfl, fun l3 m3 => ?_⟩
    have u10 := Same.new (o := .lst [.ref t5, .ref t6]) m3
    have s10 := s9.trans u10
    refine addL ((u8.trans (u9.trans u10)) _ _ upd_same) upd_same (Nat.le_of_ble_eq_true rfl) fun q2 r2 => ?_
    have u11 := Same.new (o := .lst ([V.ref t1, V.ref t2] ++ [V.ref t3, V.ref t4] ++ [V.ref t5, V.ref t6])) r2
    have s11 := s10.trans u11
    have hq : (upd (upd (upd (upd (upd (upd (upd (upd (upd (upd (upd H t1 (.tup [.str "item", .bl b1])) t2 (.tup [.str "index", .bl b2])) l1 (.lst [.ref t1, .ref t2])) t3 (.tup [.str "list", .bl b3])) t4 (.tup [.str "log", .bl b4])) l2 (.lst [.ref t3, .ref t4])) q1 (.lst ([V.ref t1, V.ref t2] ++ [V.ref t3, V.ref t4]))) t5 (.tup [.str "impossible", .bl b5])) t6 (.tup [.str "text", .bl b6])) l3 (.lst [.ref t5, .ref t6])) q2 (.lst ([V.ref t1, V.ref t2] ++ [V.ref t3, V.ref t4] ++ [V.ref t5, V.ref t6]))) q2 = some (.lst [.ref t1, .ref t2, .ref t3, .ref t4, .ref t5, .ref t6]) := upd_same
    have h1 : (upd (upd (upd (upd (upd (upd (upd (upd (upd (upd (upd H t1 (.tup [.str "item", .bl b1])) t2 (.tup [.str "index", .bl b2])) l1 (.lst [.ref t1, .ref t2])) t3 (.tup [.str "list", .bl b3])) t4 (.tup [.str "log", .bl b4])) l2 (.lst [.ref t3, .ref t4])) q1 (.lst ([V.ref t1, V.ref t2] ++ [V.ref t3, V.ref t4]))) t5 (.tup [.str "impossible", .bl b5])) t6 (.tup [.str "text", .bl b6])) l3 (.lst [.ref t5, .ref t6])) q2 (.lst ([V.ref t1, V.ref t2] ++ [V.ref t3, V.ref t4] ++ [V.ref t5, V.ref t6]))) t1 = some (.tup [.str "item", .bl b1]) := ((u2.trans (u3.trans (u4.trans (u5.trans (u6.trans (u7.trans (u8.trans (u9.trans (u10.trans u11))))))))) _ _ upd_same)
    have h2 : (upd (upd (upd (upd (upd (upd (upd (upd (upd (upd (upd H t1 (.tup [.str "item", .bl b1])) t2 (.tup [.str "index", .bl b2])) l1 (.lst [.ref t1, .ref t2])) t3 (.tup [.str "list", .bl b3])) t4 (.tup [.str "log", .bl b4])) l2 (.lst [.ref t3, .ref t4])) q1 (.lst ([V.ref t1, V.ref t2] ++ [V.ref t3, V.ref t4]))) t5 (.tup [.str "impossible", .bl b5])) t6 (.tup [.str "text", .bl b6])) l3 (.lst [.ref t5, .ref t6])) q2 (.lst ([V.ref t1, V.ref t2] ++ [V.ref t3, V.ref t4] ++ [V.ref t5, V.ref t6]))) t2 = some (.tup [.str "index", .bl b2]) := ((u3.trans (u4.trans (u5.trans (u6.trans (u7.trans (u8.trans (u9.trans (u10.trans u11)))))))) _ _ upd_same)
    have h3 : (upd (upd (upd (upd (upd (upd (upd (upd (upd (upd (upd H t1 (.tup [.str "item", .bl b1])) t2 (.tup [.str "index", .bl b2])) l1 (.lst [.ref t1, .ref t2])) t3 (.tup [.str "list", .bl b3])) t4 (.tup [.str "log", .bl b4])) l2 (.lst [.ref t3, .ref t4])) q1 (.lst ([V.ref t1, V.ref t2] ++ [V.ref t3, V.ref t4]))) t5 (.tup [.str "impossible", .bl b5])) t6 (.tup [.str "text", .bl b6])) l3 (.lst [.ref t5, .ref t6])) q2 (.lst ([V.ref t1, V.ref t2] ++ [V.ref t3, V.ref t4] ++ [V.ref t5, V.ref t6]))) t3 = some (.tup [.str "list", .bl b3]) := ((u5.trans (u6.trans (u7.trans (u8.trans (u9.trans (u10.trans u11)))))) _ _ upd_same)
    have h4 : (upd (upd (upd (upd (upd (upd (upd (upd (upd (upd (upd H t1 (.tup [.str "item", .bl b1])) t2 (.tup [.str "index", .bl b2])) l1 (.lst [.ref t1, .ref t2])) t3 (.tup [.str "list", .bl b3])) t4 (.tup [.str "log", .bl b4])) l2 (.lst [.ref t3, .ref t4])) q1 (.lst ([V.ref t1, V.ref t2] ++ [V.ref t3, V.ref t4]))) t5 (.tup [.str "impossible", .bl b5])) t6 (.tup [.str "text", .bl b6])) l3 (.lst [.ref t5, .ref t6])) q2 (.lst ([V.ref t1, V.ref t2] ++ [V.ref t3, V.ref t4] ++ [V.ref t5, V.ref t6]))) t4 = some (.tup [.str "log", .bl b4]) := ((u6.trans (u7.trans (u8.trans (u9.trans (u10.trans u11))))) _ _ upd_same)
    have h5 : (upd (upd (upd (upd (upd (upd (upd (upd (upd (upd (upd H t1 (.tup [.str "item", .bl b1])) t2 (.tup [.str "index", .bl b2])) l1 (.lst [.ref t1, .ref t2])) t3 (.tup [.str "list", .bl b3])) t4 (.tup [.str "log", .bl b4])) l2 (.lst [.ref t3, .ref t4])) q1 (.lst ([V.ref t1, V.ref t2] ++ [V.ref t3, V.ref t4]))) t5 (.tup [.str "impossible", .bl b5])) t6 (.tup [.str "text", .bl b6])) l3 (.lst [.ref t5, .ref t6])) q2 (.lst ([V.ref t1, V.ref t2] ++ [V.ref t3, V.ref t4] ++ [V.ref t5, V.ref t6]))) t5 = some (.tup [.str "impossible", .bl b5]) := ((u9.trans (u10.trans u11)) _ _ upd_same)
    have h6 : (upd (upd (upd (upd (upd (upd (upd (upd (upd (upd (upd H t1 (.tup [.str "item", .bl b1])) t2 (.tup [.str "index", .bl b2])) l1 (.lst [.ref t1, .ref t2])) t3 (.tup [.str "list", .bl b3])) t4 (.tup [.str "log", .bl b4])) l2 (.lst [.ref t3, .ref t4])) q1 (.lst ([V.ref t1, V.ref t2] ++ [V.ref t3, V.ref t4]))) t5 (.tup [.str "impossible", .bl b5])) t6 (.tup [.str "text", .bl b6])) l3 (.lst [.ref t5, .ref t6])) q2 (.lst ([V.ref t1, V.ref t2] ++ [V.ref t3, V.ref t4] ++ [V.ref t5, V.ref t6]))) t6 = some (.tup [.str "text", .bl b6]) := ((u10.trans u11) _ _ upd_same)
    clear u11 u10 u9 u8 u7 u6 u5 u4 u3 u2 u1
    generalize (upd (upd (upd (upd (upd (upd (upd (upd (upd (upd (upd H t1 (.tup [.str "item", .bl b1])) t2 (.tup [.str "index", .bl b2])) l1 (.lst [.ref t1, .ref t2])) t3 (.tup [.str "list", .bl b3])) t4 (.tup [.str "log", .bl b4])) l2 (.lst [.ref t3, .ref t4])) q1 (.lst ([V.ref t1, V.ref t2] ++ [V.ref t3, V.ref t4]))) t5 (.tup [.str "impossible", .bl b5])) t6 (.tup [.str "text", .bl b6])) l3 (.lst [.ref t5, .ref t6])) q2 (.lst ([V.ref t1, V.ref t2] ++ [V.ref t3, V.ref t4] ++ [V.ref t5, V.ref t6]))) = Hq at hq h1 h2 h3 h4 h5 h6 s11 ⊢
    rename Same H Hq => sq
    clear s10 s9 s8 s7 s6 s5 s4 s3 s2 s1 r2 m3 n6 n5 r1 m2 n4 n3 m1 n2 n1
    have tups : ∀ (i : Nat) (x : V), ([.ref t1, .ref t2, .ref t3, .ref t4, .ref t5, .ref t6] : List V)[i]? = some x → ∃ (t : Addr) (wo : Str) (b : Bool), x = V.ref t ∧ Hq t = some (.tup [.str wo, .bl b]) ∧
        ([("item", b1), ("index", b2), ("list", b3), ("log", b4), ("impossible", b5), ("text", b6)] : List (Str × Bool))[i]? = some (wo, b) := by
      intro i x hx
      match i, hx with
      | 0, hx => cases hx; exact ⟨t1, _, _, rfl, h1, rfl⟩
      | 1, hx => cases hx; exact ⟨t2, _, _, rfl, h2, rfl⟩
      | 2, hx => cases hx; exact ⟨t3, _, _, rfl, h3, rfl⟩
      | 3, hx => cases hx; exact ⟨t4, _, _, rfl, h4, rfl⟩
      | 4, hx => cases hx; exact ⟨t5, _, _, rfl, h5, rfl⟩
      | 5, hx => cases hx; exact ⟨t6, _, _, rfl, h6, rfl⟩
      | _ + 6, hx => cases hx
    have one := k.one
    have l6 : ([("item", b1), ("index", b2), ("list", b3), ("log", b4), ("impossible", b5), ("text", b6)] : List (Str × Bool)).length = 6 := rfl
    generalize ([("item", b1), ("index", b2), ("list", b3), ("log", b4), ("impossible", b5), ("text", b6)] : List (Str × Bool)) = ps at tups one l6
    refine ⟨_, rfl, q2, rfl, ⟨_, SqL.of hq⟩, fun D' nD => ?_⟩
    refine lc_list (K := K) (a := q2) (xs := [.ref t1, .ref t2, .ref t3, .ref t4, .ref t5, .ref t6]) (fun i H' => Same Hq H' ∧ H' D' = some (.lst ((((ps.take i).filter (·.2)).map (·.1)).map V.str))) ?_ ?_ ?_ ?_
    · exact ⟨Same.new nD, upd_same⟩
    · rintro i H1 _ ⟨v1, _⟩
      exact SqL.of (v1 _ _ hq)
    · rintro i x H1 hx ⟨v1, g1⟩
      obtain ⟨t, wo, b, rfl, ht, hp⟩ := tups i x hx
      have hi6 : i < 6 := by
        have := (List.getElem?_eq_some_iff.mp hp).1
        omega
      have e9 : ps.take (i + 1) = ps.take i ++ [(wo, b)] := by
        rw [List.take_add_one, hp]
        rfl
      refine ⟨t, _, rfl, SqT.of (v1 _ _ ht), rfl, _, _, rfl, _, _, rfl, rfl, rfl, _, rfl, b, rfl, ?_⟩
      have v2 : ∀ o, Same Hq (upd H1 D' o) := fun o c u z => by
        rw [upd_ne (ne_of_none z nD)]
        exact v1 _ _ z
      cases b with
      | true =>
        refine iteT ⟨_, rfl, _, g1, ?_, v2 _, ?_⟩
        · rw [List.length_map, List.length_map]
          exact Nat.lt_of_le_of_lt (List.length_filter_le _ _) (Nat.lt_of_le_of_lt (List.length_take_le _ _) (Nat.lt_of_lt_of_le (show i < 1000 by omega) (by decide)))
        · rw [upd_same, e9, List.filter_append, List.map_append, List.map_append]
          rfl
      | false =>
        refine iteF ⟨v1, ?_⟩
        rw [g1, e9, List.filter_append]
        show _ = some (HO.lst (List.map V.str (List.map (fun x => x.fst) (List.filter (fun x => x.snd) (ps.take i) ++ []))))
        rw [List.append_nil]
    · rintro H1 ⟨v1, g1⟩
      have e6 : ps.take 6 = ps := List.take_of_length_le (by omega)
      have g2 : H1 D' = some (.lst [.str wd]) := by
        rw [g1]
        show some (HO.lst (List.map V.str (List.map (fun x => x.fst) (List.filter (fun x => x.snd) (ps.take 6))))) = _
        rw [e6, one]
        rfl
      have w1 := sq.trans v1
      have kA : PySem.W.kitAny K (.ref D) [.ref A.c_NoClients, .ref A.c_NoNumber, .ref A.c_NoPosition, .ref A.c_NoSeen, .ref A.c_Nothing, .ref A.c_TooMany] = some false :=
        kitAny_cons k.o1 (fun _ => kitAny_cons k.o2 (fun _ => kitAny_cons k.o3 (fun _ => kitAny_cons k.o4 (fun _ => kitAny_cons k.o5 (fun _ => kitAny_cons k.o6 (fun _ => kitAny_nil) (fun z => by cases z)) (fun z => by cases z)) (fun z => by cases z)) (fun z => by cases z)) (fun z => by cases z)) (fun z => by cases z)
      refine ⟨_, rfl, Nat.le_of_ble_eq_true rfl, fun tp ntp => ?_⟩
      have w2 := Same.new (o := .tup [.ref A.c_NoClients, .ref A.c_NoNumber, .ref A.c_NoPosition, .ref A.c_NoSeen, .ref A.c_Nothing, .ref A.c_TooMany]) ntp
      refine ⟨a, D, tp, d, _, _, _, rfl, w2 _ _ (w1 _ _ e), (f.same w1).same w2, k.ec, upd_same, .cons (.own _) (.cons (.own _) (.cons (.own _) (.cons (.own _) (.cons (.own _) (.cons (.own _) .nil))))), kA, ?_⟩
      refine ⟨_, rfl, _, _, rfl, .inl ⟨_, SqL.of (w2 _ _ g2), rfl⟩, eqS rfl ⟨_, rfl, iteT ⟨_, rfl, _, rfl, iteT ⟨_, rfl, a, D, d, _, _, _, rfl, w2 _ _ (w1 _ _ e), (f.same w1).same w2, k.ec, .ty _, k.ve, _, rfl, iteT ?_⟩⟩⟩⟩
      exact ⟨_, rfl, ixL (w2 _ _ g2) (atI0 _ _) (h _ (w1.trans w2))⟩

end
end Own

set_option Elab.async false
set_option linter.all false
set_option maxRecDepth 100000
set_option maxHeartbeats 4000000
namespace Own
open PySem L2 ClX
local macro_rules | `(tactic| walk_at "v") => `(tactic| refine ⟨_, rfl, ?_⟩)
local macro_rules | `(tactic| walk_at "ii") => `(tactic| refine ⟨_, _, rfl, rfl, ?_⟩)
local macro_rules | `(tactic| walk_at "go") => `(tactic| repeat (first | refine ⟨_, rfl, ?_⟩ | refine ⟨_, _, rfl, rfl, ?_⟩ | refine addI ?_ | refine L2.iteT ?_ | refine L2.iteF ?_))

section
variable {P : Program} {w : World} {K : PySem.W.Frag} {mg : Str → Option Value} {base : Heap} {A : Ad}
/-! ### lists of items as data -/
theorem item_chars {x : Str} (h : isItem x = true) : ∀ c ∈ x.cps.toList, c < 128 := by
  unfold isItem at h
  rw [Bool.and_eq_true, Bool.and_eq_true] at h
  have z := h.2.1
  unfold Txt.isascii at z
  intro c hc
  rw [Array.all_eq_true'] at z
  exact of_decide_eq_true (z c (Array.mem_toList_iff.mp hc))
def sl (xs : List Str) : PyData := .list (xs.map .str)
theorem dpAllS (xs : List Str) (H : Hp) : DpAll K H (xs.map V.str) (xs.map PyData.str) := by
  induction xs with
  | nil => exact .nil
  | cons x xs ih => exact .cons (.str x) ih
theorem dpS {H : Hp} {a : Addr} {xs : List Str} (h : SqL K H a (xs.map V.str)) : Dp K H (.ref a) (sl xs) := .lst h (dpAllS xs H)
theorem eqvAllS : ∀ xs ys : List Str, PyData.eqvAll (xs.map .str) (ys.map .str) = decide (xs = ys)
  | [], [] => by simp [PyData.eqvAll]
  | [], _ :: _ => by simp [PyData.eqvAll]
  | _ :: _, [] => by simp [PyData.eqvAll]
  | x :: xs, y :: ys => by
    have ih := eqvAllS xs ys
    simp only [List.map_cons, PyData.eqvAll, PyData.eqv, ih]
    by_cases e : x = y
    · subst e
      simp
    · have e2 : (x == y) = false := beq_false_of_ne e
      rw [e2]
      simp [e]
theorem eqvS (xs ys : List Str) : PyData.eqv (sl xs) (sl ys) = decide (xs = ys) := by
  unfold sl
  simp only [PyData.eqv]
  exact eqvAllS xs ys
theorem layS : ∀ xs : List Str, (∀ x ∈ xs, isItem x = true) → PyData.canLayAll0 (xs.map .str) = true
  | [], _ => by simp [PyData.canLayAll0]
  | x :: xs, h => by
    have ih := layS xs fun y hy => h y (List.mem_cons_of_mem _ hy)
    have hx : PyData.strOk x = true := by
      unfold PyData.strOk
      rw [Array.all_eq_true']
      intro c hc
      have := item_chars (h x List.mem_cons_self) c (Array.mem_toList_iff.mpr hc)
      exact decide_eq_true (by omega)
    simp only [List.map_cons, PyData.canLayAll0, PyData.canLay0, ih, hx, Bool.and_self]
theorem depthS : ∀ xs : List Str, PyData.depthAll (xs.map .str) = 0
  | [] => by simp [PyData.depthAll]
  | x :: xs => by simp [PyData.depthAll, PyData.depth, depthS xs]
theorem shapedS {xs : List Str} (h : ∀ x ∈ xs, isItem x = true) : SeqAt.shaped (sl xs) = true := by
  unfold SeqAt.shaped sl
  simp [PyData.canLay0, layS xs h, PyData.depth, depthS xs]
theorem showableS : ∀ xs : List Str, PyData.showableAll (xs.map .str) = true
  | [] => by simp [PyData.showableAll]
  | x :: xs => by simp [PyData.showableAll, PyData.showable, showableS xs]
theorem noDictS : ∀ xs : List Str, PyData.hasDictAll (xs.map .str) = false
  | [] => by simp [PyData.hasDictAll]
  | x :: xs => by simp [PyData.hasDictAll, PyData.hasDict, noDictS xs]
theorem shownS : ∀ xs : List Str, PyData.shownAll (xs.map .str) = xs.map reprText
  | [] => by simp [PyData.shownAll]
  | x :: xs => by simp [PyData.shownAll, PyData.shown, shownS xs]
theorem sumS : ∀ xs : List Str, (∀ x ∈ xs, isItem x = true) → ((xs.map reprText).map (·.length)).sum ≤ 82 * xs.length
  | [], _ => by simp
  | x :: xs, h => by
    have ih := sumS xs fun y hy => h y (List.mem_cons_of_mem _ hy)
    have hx := h x List.mem_cons_self
    have l := item_len hx
    have z := StrLaws.reprText_len x fun c hc => Nat.lt_of_lt_of_le (item_chars hx c hc) (by decide)
    simp only [List.map_cons, List.sum_cons, List.length_cons]
    omega
theorem shownS_len {xs : List Str} (h : ∀ x ∈ xs, isItem x = true) (m : xs.length ≤ 70) : (sl xs).shown.length ≤ 6000 := by
  have z := listText_len_le (xs.map reprText)
  have q := sumS xs h
  rw [List.length_map] at z
  unfold sl
  simp only [PyData.shown, shownS]
  omega
theorem showsS {xs : List Str} (h : ∀ x ∈ xs, isItem x = true) (m : xs.length ≤ 70) : Shows (sl xs) := by
  refine ⟨?_, ?_, ?_, Nat.le_trans (shownS_len h m) (by decide)⟩
  · simp [sl, PyData.showable, showableS]
  · simp [sl, PyData.hasDict, noDictS]
  · simp [sl, PyData.depth, depthS]
/-- what is told of a list, or of none -/
def tl (o : Option (List Str)) (x : Str) : PyData := match o with
  | some ys => sl ys
  | none => .tuple [.str "impossible", .str x]
theorem tl_len {o : Option (List Str)} {x : Str} (h : ∀ ys, o = some ys → (∀ y ∈ ys, isItem y = true) ∧ ys.length ≤ 70) (hx : isItem x = true) : (tl o x).shown.length ≤ 6000 := by
  cases o with
  | some ys => exact shownS_len (h ys rfl).1 (h ys rfl).2
  | none =>
    have z := tupleText_len_le [reprText "impossible", reprText x]
    have l := item_len hx
    have q := StrLaws.reprText_len x fun c hc => Nat.lt_of_lt_of_le (item_chars hx c hc) (by decide)
    have q2 : (reprText "impossible").length ≤ 100 := by decide +kernel
    unfold tl
    simp only [PyData.shown, PyData.shownAll]
    simp only [List.map_cons, List.map_nil, List.sum_cons, List.sum_nil, List.length_cons, List.length_nil] at z
    omega
theorem tl_shape {o : Option (List Str)} {x : Str} (h : ∀ ys, o = some ys → (∀ y ∈ ys, isItem y = true) ∧ ys.length ≤ 70) (hx : isItem x = true) : (tl o x).showable = true ∧ (tl o x).hasDict = false ∧ (tl o x).depth ≤ 3 := by
  cases o with
  | some ys =>
    refine ⟨?_, ?_, ?_⟩
    · simp [tl, sl, PyData.showable, showableS]
    · simp [tl, sl, PyData.hasDict, noDictS]
    · simp [tl, sl, PyData.depth, depthS]
  | none =>
    refine ⟨?_, ?_, ?_⟩
    · simp [tl, PyData.showable, PyData.showableAll]
    · simp [tl, PyData.hasDict, PyData.hasDictAll]
    · simp [tl, PyData.depth, PyData.depthAll]
theorem shows_tl2 {o : Option (List Str)} {x : Str} (h : ∀ ys, o = some ys → (∀ y ∈ ys, isItem y = true) ∧ ys.length ≤ 70) (hx : isItem x = true) : Shows (.list [tl o x, tl o x]) := by
  obtain ⟨a, b, c⟩ := tl_shape h hx
  have l := tl_len h hx
  refine ⟨?_, ?_, ?_, ?_⟩
  · simp [PyData.showable, PyData.showableAll, a]
  · simp [PyData.hasDict, PyData.hasDictAll, b]
  · simp only [PyData.depth, PyData.depthAll]
    omega
  · have z := listText_len_le [(tl o x).shown, (tl o x).shown]
    simp only [PyData.shown, PyData.shownAll]
    simp only [List.map_cons, List.map_nil, List.sum_cons, List.sum_nil, List.length_cons, List.length_nil] at z
    exact Nat.le_trans (show _ ≤ 13000 by omega) (by decide)

end
end Own

set_option Elab.async false
set_option linter.all false
set_option maxRecDepth 100000
set_option maxHeartbeats 4000000
namespace Own
open PySem L2 ClX
local macro_rules | `(tactic| walk_at "v") => `(tactic| refine ⟨_, rfl, ?_⟩)
local macro_rules | `(tactic| walk_at "ii") => `(tactic| refine ⟨_, _, rfl, rfl, ?_⟩)
local macro_rules | `(tactic| walk_at "go") => `(tactic| repeat (first | refine ⟨_, rfl, ?_⟩ | refine ⟨_, _, rfl, rfl, ?_⟩ | refine addI ?_ | refine L2.iteT ?_ | refine L2.iteF ?_))

section
variable {P : Program} {w : World} {K : PySem.W.Frag} {mg : Str → Option Value} {base : Heap} {A : Ad}
theorem dpImp {H : Hp} {a : Addr} {x : Str} (h : H a = some (.tup [.str "impossible", .str x])) : Dp K H (.ref a) (tl none x) := .tup (SqT.of h) (.cons (.str _) (.cons (.str _) .nil))
theorem strT (z : Str) : decide (V.str z = V.str z) = true := decide_eq_true rfl
theorem strF (z : Str) : (!decide (V.str z = V.str z)) = false := by rw [strT]; rfl
/-! ### the law's own way forth -/
def spUndone : Sp := fun vs H Q _ => ∃ (way : Int) (x : Str) (n : Nat) (l : Addr) (xs : List Str), vs = [.int way, .str x, .int n, .ref l] ∧ 0 ≤ way ∧ way ≤ 3 ∧ isItem x = true ∧ H l = some (.lst (xs.map V.str)) ∧ Items xs ∧ xs.length ≤ 60 ∧
  (∀ ys, backW way x n xs = some ys → ∀ (D : Addr) (H' : Hp), Same H H' → H D = none → H' D = some (.lst (ys.map V.str)) → Q (.ref D) H') ∧ (backW way x n xs = none → ∀ H', Same H H' → Q .non H')
theorem ok__law_done (T : Txt K mg A) : Ok1 P w K mg base 2 A.f__law_done ["way", "name", "place", "shelf"] spUndone := by
  refine T.fn__law_done.ok sc__law_done (fun _ _ _ _ _ _ us hl => match us, hl with | [_, _, _, _], _ => rfl) (fun vs H Q E h => ?_) (fun cdv B up s H vs Q E hr h => ?_)
  · obtain ⟨way, x, n, l, xs, rfl, _⟩ := h
    rfl
  · obtain ⟨way, x, n, l, xs, rfl, w0, w1, hx, hl, hi, hm, h1, h2⟩ := h
    refine ⟨_, (pss_cons (ps_if (pt_cmpR (op_eqX hr) (pv 0) pe_int (nomark _)) (pss_cons (ps_if (PW.pt (pw_or (pt_cmpR op_in_seq (pv 1) (pv 3) rfl) (pw_or (pt_cmpR op_gt (pv 2) (pe_callB call_len (by rfl) T.no_len (by decide +kernel) (pa_cons (pv 3) pa_nil)) (nomark _)) (pw_or1 (pt_cmpR op_gt (pe_callB call_len (by rfl) T.no_len (by decide +kernel) (pa_cons (pv 3) pa_nil)) pe_int (nomark _)))))) (pss_one (ps_ret pe_non)) pss_nil)
      (pss_one (ps_ret (pe_op op_addX (pe_op op_addX (pe_slice sl_list (pv 3) po_none (po_some (pv 2))) (pe_lst (pa_cons (pv 1) pa_nil))) (pe_slice sl_list (pv 3) (po_some (pv 2)) po_none))))) pss_nil)
      (pss_cons (ps_if (PW.pt (pw_or (pt_cmpR op_gt (pv 0) pe_int (nomark _)) (pw_or (pt_cmpR op_ge (pv 2) (pe_callB call_len (by rfl) T.no_len (by decide +kernel) (pa_cons (pv 3) pa_nil)) (nomark _)) (pw_or1 (pt_cmpR (op_neX hr) (pe_ix ix_seq (pv 3) (pv 2) (fun _ _ => rfl)) (pv 1) (nomark _)))))) (pss_one (ps_ret pe_non)) pss_nil)
      (pss_cons (ps_set (i := 4) sc__law_done.nd rfl (Or.inl rfl) (pe_op op_addX (pe_slice sl_list (pv 3) po_none (po_some (pv 2))) (pe_slice sl_list (pv 3) (po_some (pe_op op_addX (pv 2) pe_int)) po_none)))
      (pss_one (ps_ret (pe_ifExp (pt_cmpR (op_eqX hr) (pv 0) pe_int (nomark _)) (pv 4) (pe_op op_addX (pe_lst (pa_cons (pv 1) pa_nil)) (pv 4)))))))), ?_⟩
    have hx1 : ∀ y ∈ [x], isItem y = true := fun y hy => by
      rw [List.mem_singleton.mp hy]
      exact hx
    refine ⟨_, rfl, .inl ⟨rfl, _, rfl, ?_⟩⟩
    refine ite2 (fun c => ?_) (fun c => ?_)
    · obtain rfl := eq_dec c
      refine ⟨_, rfl, _, rfl, l, _, rfl, .inl (SqL.of hl), rfl, flatS xs, ?_⟩
      rw [inS]
      refine ⟨_, rfl, ?_⟩
      by_cases d0 : x ∈ xs
      · rw [decide_eq_true d0]
        exact iteT (iteT (h2 (if_neg fun z => z.1 d0) _ done_id))
      rw [decide_eq_false d0]
      refine iteF ⟨_, rfl, _, rfl, _, _, rfl, .inl ⟨_, SqL.of hl, rfl⟩, _, _, rfl, rfl, _, rfl, ?_⟩
      rw [List.length_map]
      by_cases d1 : n ≤ xs.length
      · rw [decide_eq_false (show ¬ ((xs.length : Nat) : Int) < n by omega)]
        refine iteF ⟨_, rfl, _, _, rfl, .inl ⟨_, SqL.of hl, rfl⟩, _, _, rfl, rfl, _, rfl, ?_⟩
        rw [List.length_map]
        by_cases d2 : xs.length < 60
        · rw [decide_eq_false (show ¬ (59 : Int) < (xs.length : Nat) by omega)]
          refine iteF ⟨_, rfl, _, rfl, _, rfl, l, _, rfl, SqL.of hl, fun a na => ?_⟩
          rw [cut_to']
          have s1 := Same.new (o := .lst ((xs.take n).map V.str)) na
          refine ⟨_, rfl, Nat.le_of_ble_eq_true rfl, fun b nb => ?_⟩
          have s2 := Same.new (o := .lst [V.str x]) nb
          refine addL (s2 _ _ upd_same) upd_same (by rw [List.length_map, List.length_take, List.length_singleton]; omega) fun c nc => ?_
          have s3 := Same.new (o := .lst ((xs.take n).map V.str ++ [V.str x])) nc
          refine ⟨_, rfl, _, rfl, _, rfl, l, _, rfl, SqL.of ((s1.trans (s2.trans s3)) _ _ hl), fun d nd => ?_⟩
          rw [cut_from']
          have s4 := Same.new (o := .lst ((xs.drop n).map V.str)) nd
          refine addL (s4 _ _ upd_same) upd_same (by rw [List.length_append, List.length_map, List.length_map, List.length_take, List.length_drop, List.length_singleton]; omega) fun r nr => ?_
          have s5 := Same.new (o := .lst ((xs.take n).map V.str ++ [V.str x] ++ (xs.drop n).map V.str)) nr
          have S := s1.trans (s2.trans (s3.trans s4))
          refine h1 (inL xs x n) (if_pos ⟨d0, d1, d2⟩) r _ (S.trans s5) (none_same S nr) ?_
          rw [upd_same]
          unfold inL
          rw [List.map_append, List.map_append]
          rfl
        · rw [decide_eq_true (show (59 : Int) < (xs.length : Nat) by omega)]
          exact iteT (h2 (if_neg fun z => d2 z.2.2) _ done_id)
      · rw [decide_eq_true (show ((xs.length : Nat) : Int) < n by omega)]
        exact iteT (iteT (h2 (if_neg fun z => d1 z.2.1) _ done_id))
    have c0 := ne_dec c
    refine ⟨_, rfl, _, _, rfl, rfl, _, rfl, ?_⟩
    by_cases d0 : (2 : Int) < way
    · rw [decide_eq_true d0]
      obtain rfl : way = 3 := by omega
      exact iteT (iteT (h2 rfl _ done_id))
    rw [decide_eq_false d0]
    have bw : backW way x n xs = if way = 1 then bkI x n xs else dnF x n xs := by
      unfold backW
      rw [if_neg c0]
      by_cases w1 : way = 1
      · rw [if_pos w1, if_pos w1]
      · rw [if_neg w1, if_neg w1, if_pos (show way = 2 by omega)]
    refine iteF ⟨_, rfl, _, rfl, _, _, rfl, .inl ⟨_, SqL.of hl, rfl⟩, _, _, rfl, rfl, _, rfl, ?_⟩
    rw [List.length_map]
    by_cases d1 : n < xs.length
    · rw [decide_eq_false (show ¬ ((xs.length : Nat) : Int) ≤ n by omega)]
      refine iteF ⟨_, rfl, _, rfl, ixL hl (v := .str xs[n]) (atI_nat (by simp [d1])) ⟨_, rfl, neS rfl ⟨_, rfl, ?_⟩⟩⟩
      by_cases e0 : xs[n] = x
      · have g0 : xs[n]? = some x := by rw [List.getElem?_eq_getElem d1, e0]
        rw [e0, strF]
        refine iteF ⟨_, rfl, _, rfl, _, rfl, l, _, rfl, SqL.of hl, fun a2 na2 => ?_⟩
        rw [cut_to']
        have z : ((n : Int) + 1) = ((n + 1 : Nat) : Int) := by omega
        have s3 := Same.new (o := .lst ((xs.take n).map V.str)) na2
        refine ⟨_, rfl, _, rfl, addI ⟨_, rfl, l, _, rfl, SqL.of (s3 _ _ hl), fun d nd => ?_⟩⟩
        rw [z, cut_from']
        have s4 := Same.new (o := .lst ((xs.drop (n + 1)).map V.str)) nd
        refine addL (s4 _ _ upd_same) upd_same (by rw [List.length_map, List.length_map, List.length_take, List.length_drop]; omega) fun r nr => ?_
        have eo : (xs.take n).map V.str ++ (xs.drop (n + 1)).map V.str = (outL xs n).map V.str := by
          unfold outL
          rw [List.map_append]
        rw [eo]
        have s5 := Same.new (o := .lst ((outL xs n).map V.str)) nr
        have S := s3.trans s4
        refine ⟨_, rfl, eqS rfl ⟨_, rfl, ?_⟩⟩
        refine ite2 (fun w1 => ?_) (fun w1 => ?_)
        · have w1 := eq_dec w1
          refine ⟨_, rfl, h1 (outL xs n) ?_ r _ (S.trans s5) (none_same S nr) upd_same⟩
          rw [bw, if_pos w1]
          exact if_pos g0
        · have w1 := ne_dec w1
          refine ⟨_, rfl, Nat.le_of_ble_eq_true rfl, fun b nb => ⟨_, rfl, addL upd_same (Same.new nb _ _ upd_same) (by rw [List.length_map]; have := outL_len xs n hm; simp; omega) fun q nq => ?_⟩⟩
          have s6 := Same.new (o := .lst [V.str x]) nb
          have s7 := Same.new (o := .lst ([V.str x] ++ (outL xs n).map V.str)) nq
          refine h1 (inL (outL xs n) x 0) ?_ q _ (S.trans (s5.trans (s6.trans s7))) (none_same (S.trans (s5.trans s6)) nq) ?_
          · rw [bw, if_neg w1]
            exact if_pos g0
          · rw [upd_same]
            rfl
      · rw [decide_eq_false (fun z => e0 (V.str.inj z))]
        refine iteT (h2 ?_ _ done_id)
        have g0 : ¬ xs[n]? = some x := fun z => by
          rw [List.getElem?_eq_getElem d1] at z
          exact e0 (Option.some.inj z)
        rw [bw]
        split
        · exact if_neg g0
        · exact if_neg g0
    · rw [decide_eq_true (show ((xs.length : Nat) : Int) ≤ n by omega)]
      refine iteT (iteT (h2 ?_ _ done_id))
      have g0 : ¬ xs[n]? = some x := fun z => by
        rw [List.getElem?_eq_none (by omega)] at z
        cases z
      rw [bw]
      split
      · exact if_neg g0
      · exact if_neg g0

end
end Own

set_option Elab.async false
set_option linter.all false
set_option maxRecDepth 100000
set_option maxHeartbeats 4000000
namespace Own
open PySem L2 ClX
local macro_rules | `(tactic| walk_at "v") => `(tactic| refine ⟨_, rfl, ?_⟩)
local macro_rules | `(tactic| walk_at "ii") => `(tactic| refine ⟨_, _, rfl, rfl, ?_⟩)
local macro_rules | `(tactic| walk_at "go") => `(tactic| repeat (first | refine ⟨_, rfl, ?_⟩ | refine ⟨_, _, rfl, rfl, ?_⟩ | refine addI ?_ | refine L2.iteT ?_ | refine L2.iteF ?_))

section
variable {P : Program} {w : World} {K : PySem.W.Frag} {mg : Str → Option Value} {base : Heap} {A : Ad}
/-! ### what replay tells -/
theorem okS_replay (T : Txt K mg A) : OkXS P w K mg base 8 A.f_replay ["items", "records"] ["records", "items"] (spReplay K A) := T.fn_replay.okXS sc_replay (fun _ _ _ _ _ _ _ _ => rfl) len_replay (body_replay T)
theorem kits_NoLog (T : Txt K mg A) : Kits K A A.c_NoLog "log" false false false true false false :=
  ⟨T.ec_NoLog, T.kit_NoLog_NoItem, T.kit_NoLog_NoIndex, T.kit_NoLog_NoList, T.kit_NoLog_NoLog, T.kit_NoLog_Impossible, T.kit_NoLog_NoText, T.kit_NoLog_NoClients, T.kit_NoLog_NoNumber, T.kit_NoLog_NoPosition, T.kit_NoLog_NoSeen, T.kit_NoLog_Nothing, T.kit_NoLog_TooMany, T.kit_NoLog_type_ValueError, rfl⟩
def spTold (K : PySem.W.Frag) (A : Ad) : Sp := fun vs H Q _ => ∃ (v r : V) (bn : Bool), vs = [v, r, .bl bn] ∧
  ((Thing K H v false ∧ ∀ H', Same H H' → Q (.str "list") H') ∨
   ∃ (l : Addr) (xs : List Str), v = .ref l ∧ H l = some (.lst (xs.map V.str)) ∧ Items xs ∧ xs.length ≤ 60 ∧
    ((ThingR K A H 80 r false ∧ ∀ H', Same H H' → Q (.str "log") H') ∨
     ∃ (rl : Addr) (rs : List V) (ps : List (Int × Str × Nat)), r = .ref rl ∧ H rl = some (.lst rs) ∧ Rows A H rs ps ∧ ps.length ≤ 80 ∧
      (∀ ys, playL ps 0 xs = .ok ys → ∀ (D : Addr) (H' : Hp), Same H H' → H D = none → H' D = some (.lst (ys.map V.str)) → Q (.ref D) H') ∧
      (∀ k, playL ps 0 xs = .error k → ∀ (t : Addr) (H' : Hp), Same H H' → H t = none → H' t = some (.tup [.str "impossible", .int (k : Nat)]) → Q (.ref t) H')))
theorem ok__law_told (T : Txt K mg A) : Ok1 P w K mg base 9 A.f__law_told ["shelf", "rows", "by_name"] (spTold K A) := by
  refine T.fn__law_told.ok sc__law_told (fun _ _ _ _ _ _ us hl => match us, hl with | [_, _, _], _ => rfl) (fun vs H Q E h => ?_) (fun cdv B up s H vs Q E hr h => ?_)
  · obtain ⟨v, r, bn, rfl, _⟩ := h
    rfl
  · obtain ⟨v, r, bn, rfl, h⟩ := h
    refine ⟨_, (pss_cons (ps_set (i := 3) sc__law_told.nd rfl (Or.inl rfl) pe_non)
      (pss_cons (ps_try_kept (i := 4) rfl rfl sc__law_told.nd rfl rfl ⟨rfl, by decide, .inl T.mg_LogError⟩ (fun W pn xe tk _ => (pss_one (ps_ret (pe_ifExp (pt_val (pv 2)) (px_callS (okS_replay T) (fun σ => passAt tk σ) (hr.mono (by decide)) T.mg_replay (pk_cons (pv 1) (pk_cons (pv 0) pk_nil))) (px_call (ok_replay T) (fun σ => passAt tk σ) (hr.mono (by decide)) T.mg_replay (pa_cons (pv 0) (pa_cons (pv 1) pa_nil))))))) (fun _ _ => (pss_one (ps_set (i := 3) sc__law_told.nd rfl (Or.inl rfl) (pv 4)))))
      (pss_one (ps_ret (pe_ifExp (pt_cmpR (op_eqX hr) (po_call (ok__law_class T) (hr.mono (by decide)) T.mg__law_class (pa_cons (pv 3) pa_nil)) pe_str (nomark _)) (pe_tup (pa_cons pe_str (pa_cons (pe_errF (pv 3)) pa_nil))) (po_call (ok__law_class T) (hr.mono (by decide)) T.mg__law_class (pa_cons (pv 3) pa_nil))))))), ?_⟩
    have ne : decide (V.str "list" = V.str "impossible") = false := by decide +kernel
    have ne2 : decide (V.str "log" = V.str "impossible") = false := by decide +kernel
    have eq : decide (V.str "impossible" = V.str "impossible") = true := by decide +kernel
    refine ⟨_, rfl, bn, rfl, ?_⟩
    cases bn
    · refine iteF ⟨_, rfl, _, rfl, v, r, rfl, ?_⟩
      rcases h with ⟨ht, h⟩ | ⟨l, xs, rfl, hl, hi, hm, h⟩
      · refine .inl ⟨ht, fun H' s' => ⟨T.exm_NoList, fun a na => ⟨_, rfl, ?_⟩⟩⟩
        have e1 : Same H (upd H' a (errO (.ref A.c_NoList) none a)) := s'.trans (Same.new na)
        have e2 : ErrAt (upd H' a (errO (.ref A.c_NoList) none a)) a A.c_NoList := ⟨none, upd_same, fun dd z => by cases z⟩
        refine ⟨_, rfl, a, _, _, _, _, _, _, _, _, rfl, e2, kits_NoList T, fun H2 s2 => eqS rfl ⟨_, rfl, ?_⟩⟩
        rw [ne]
        exact iteF ⟨_, rfl, a, _, _, _, _, _, _, _, _, rfl, e2.same s2, kits_NoList T, fun H3 s3 => h H3 (e1.trans (s2.trans s3))⟩
      rcases h with ⟨ht, h⟩ | ⟨rl, rs, ps, rfl, hrl, hrs, hp, h1, h2⟩
      · refine .inr ⟨l, xs, rfl, hl, hi, hm, .inl ⟨ht, fun H' s' => ⟨T.exm_NoLog, fun a na => ⟨_, rfl, ?_⟩⟩⟩⟩
        have e1 : Same H (upd H' a (errO (.ref A.c_NoLog) none a)) := s'.trans (Same.new na)
        have e2 : ErrAt (upd H' a (errO (.ref A.c_NoLog) none a)) a A.c_NoLog := ⟨none, upd_same, fun dd z => by cases z⟩
        refine ⟨_, rfl, a, _, _, _, _, _, _, _, _, rfl, e2, kits_NoLog T, fun H2 s2 => eqS rfl ⟨_, rfl, ?_⟩⟩
        rw [ne2]
        exact iteF ⟨_, rfl, a, _, _, _, _, _, _, _, _, rfl, e2.same s2, kits_NoLog T, fun H3 s3 => h H3 (e1.trans (s2.trans s3))⟩
      · refine .inr ⟨l, xs, rfl, hl, hi, hm, .inr ⟨rl, rs, ps, rfl, hrl, hrs, hp, h1, fun k hb d H' s' nd hd => ⟨T.exm_Impossible, fun a na => ⟨_, rfl, ?_⟩⟩⟩⟩
        have da : d ≠ a := ne_of_none hd na
        have e1 : Same H (upd H' a (errO (.ref A.c_Impossible) (some d) a)) := s'.trans (Same.new na)
        have e3 : upd H' a (errO (.ref A.c_Impossible) (some d) a) d = some (.xd [("reason", .int (k : Nat))]) := by rw [upd_ne da]; exact hd
        have e2 : ErrAt (upd H' a (errO (.ref A.c_Impossible) (some d) a)) a A.c_Impossible := ⟨some d, upd_same, fun dd z => by cases z; exact ⟨_, e3⟩⟩
        refine ⟨_, rfl, a, _, _, _, _, _, _, _, _, rfl, e2, kits_Impossible T, fun H2 s2 => eqS rfl ⟨_, rfl, ?_⟩⟩
        rw [eq]
        refine iteT ⟨_, rfl, a, _, d, _, _, rfl, s2 _ _ upd_same, s2 _ _ e3, T.xf_Impossible, T.nf_Impossible, rfl, Nat.le_of_ble_eq_true rfl, fun t nt => ?_⟩
        exact h2 k hb t _ (e1.trans (s2.trans (Same.new nt))) (none_same (e1.trans s2) nt) upd_same
    · refine iteT ⟨_, rfl, _, rfl, v, r, rfl, ?_⟩
      rcases h with ⟨ht, h⟩ | ⟨l, xs, rfl, hl, hi, hm, h⟩
      · refine .inl ⟨ht, fun H' s' => ⟨T.exm_NoList, fun a na => ⟨_, rfl, ?_⟩⟩⟩
        have e1 : Same H (upd H' a (errO (.ref A.c_NoList) none a)) := s'.trans (Same.new na)
        have e2 : ErrAt (upd H' a (errO (.ref A.c_NoList) none a)) a A.c_NoList := ⟨none, upd_same, fun dd z => by cases z⟩
        refine ⟨_, rfl, a, _, _, _, _, _, _, _, _, rfl, e2, kits_NoList T, fun H2 s2 => eqS rfl ⟨_, rfl, ?_⟩⟩
        rw [ne]
        exact iteF ⟨_, rfl, a, _, _, _, _, _, _, _, _, rfl, e2.same s2, kits_NoList T, fun H3 s3 => h H3 (e1.trans (s2.trans s3))⟩
      rcases h with ⟨ht, h⟩ | ⟨rl, rs, ps, rfl, hrl, hrs, hp, h1, h2⟩
      · refine .inr ⟨l, xs, rfl, hl, hi, hm, .inl ⟨ht, fun H' s' => ⟨T.exm_NoLog, fun a na => ⟨_, rfl, ?_⟩⟩⟩⟩
        have e1 : Same H (upd H' a (errO (.ref A.c_NoLog) none a)) := s'.trans (Same.new na)
        have e2 : ErrAt (upd H' a (errO (.ref A.c_NoLog) none a)) a A.c_NoLog := ⟨none, upd_same, fun dd z => by cases z⟩
        refine ⟨_, rfl, a, _, _, _, _, _, _, _, _, rfl, e2, kits_NoLog T, fun H2 s2 => eqS rfl ⟨_, rfl, ?_⟩⟩
        rw [ne2]
        exact iteF ⟨_, rfl, a, _, _, _, _, _, _, _, _, rfl, e2.same s2, kits_NoLog T, fun H3 s3 => h H3 (e1.trans (s2.trans s3))⟩
      · refine .inr ⟨l, xs, rfl, hl, hi, hm, .inr ⟨rl, rs, ps, rfl, hrl, hrs, hp, h1, fun k hb d H' s' nd hd => ⟨T.exm_Impossible, fun a na => ⟨_, rfl, ?_⟩⟩⟩⟩
        have da : d ≠ a := ne_of_none hd na
        have e1 : Same H (upd H' a (errO (.ref A.c_Impossible) (some d) a)) := s'.trans (Same.new na)
        have e3 : upd H' a (errO (.ref A.c_Impossible) (some d) a) d = some (.xd [("reason", .int (k : Nat))]) := by rw [upd_ne da]; exact hd
        have e2 : ErrAt (upd H' a (errO (.ref A.c_Impossible) (some d) a)) a A.c_Impossible := ⟨some d, upd_same, fun dd z => by cases z; exact ⟨_, e3⟩⟩
        refine ⟨_, rfl, a, _, _, _, _, _, _, _, _, rfl, e2, kits_Impossible T, fun H2 s2 => eqS rfl ⟨_, rfl, ?_⟩⟩
        rw [eq]
        refine iteT ⟨_, rfl, a, _, d, _, _, rfl, s2 _ _ upd_same, s2 _ _ e3, T.xf_Impossible, T.nf_Impossible, rfl, Nat.le_of_ble_eq_true rfl, fun t nt => ?_⟩
        exact h2 k hb t _ (e1.trans (s2.trans (Same.new nt))) (none_same (e1.trans s2) nt) upd_same

end
end Own

set_option Elab.async false
set_option linter.all false
set_option maxRecDepth 100000
set_option maxHeartbeats 4000000
namespace Own
open PySem L2 ClX
local macro_rules | `(tactic| walk_at "v") => `(tactic| refine ⟨_, rfl, ?_⟩)
local macro_rules | `(tactic| walk_at "ii") => `(tactic| refine ⟨_, _, rfl, rfl, ?_⟩)
local macro_rules | `(tactic| walk_at "go") => `(tactic| repeat (first | refine ⟨_, rfl, ?_⟩ | refine ⟨_, _, rfl, rfl, ?_⟩ | refine addI ?_ | refine L2.iteT ?_ | refine L2.iteF ?_))

section
variable {P : Program} {w : World} {K : PySem.W.Frag} {mg : Str → Option Value} {base : Heap} {A : Ad}
/-! ### parts and their records -/
inductive Parts (H : Hp) : List V → List (Int × Str × Nat) → Prop where
  | nil : Parts H [] []
  | cons {t : Addr} {way : Int} {x : Str} {n : Nat} {vs : List V} {ps : List (Int × Str × Nat)} (e : H t = some (.tup [.int way, .str x, .int n])) (h0 : 0 ≤ way) (h1 : way < 3) (hx : isItem x = true) (hn : n ≤ 60) (r : Parts H vs ps) : Parts H (.ref t :: vs) ((way, x, n) :: ps)
theorem Parts.same {H H' : Hp} {vs : List V} {ps : List (Int × Str × Nat)} (h : Parts H vs ps) (s : Same H H') : Parts H' vs ps := by
  induction h with
  | nil => exact .nil
  | cons e h0 h1 hx hn _ ih => exact .cons (s _ _ e) h0 h1 hx hn ih
theorem Parts.len {H : Hp} {vs : List V} {ps : List (Int × Str × Nat)} (h : Parts H vs ps) : vs.length = ps.length := by
  induction h with
  | nil => rfl
  | cons _ _ _ _ _ _ ih => rw [List.length_cons, List.length_cons, ih]
theorem Parts.get {H : Hp} {vs : List V} {ps : List (Int × Str × Nat)} (h : Parts H vs ps) : ∀ {i : Nat} {v : V}, vs[i]? = some v → ∃ t way x n, v = .ref t ∧ ps[i]? = some (way, x, n) ∧ H t = some (.tup [.int way, .str x, .int (n : Nat)]) ∧ 0 ≤ way ∧ way < 3 ∧ isItem x = true ∧ n ≤ 60 := by
  induction h with
  | nil => intro i v e; cases e
  | cons e h0 h1 hx hn _ ih =>
    intro i v ev
    cases i with
    | zero => cases ev; exact ⟨_, _, _, _, rfl, rfl, e, h0, h1, hx, hn⟩
    | succ i => exact ih ev
theorem Parts.app {H : Hp} {vs ws : List V} {ps qs : List (Int × Str × Nat)} (h : Parts H vs ps) (g : Parts H ws qs) : Parts H (vs ++ ws) (ps ++ qs) := by
  induction h with
  | nil => exact g
  | cons e h0 h1 hx hn _ ih => exact .cons e h0 h1 hx hn ih
theorem Rows.snoc {H : Hp} {vs : List V} {ps : List (Int × Str × Nat)} {p dx : Addr} {way : Int} {x : Str} {n : Nat} (h : Rows A H vs ps) (e : H p = some (.ins (cw A way) dx (rfs x n))) (h0 : 0 ≤ way) (h1 : way < 3) (hx : isItem x = true) : Rows A H (vs ++ [.ref p]) (ps ++ [(way, x, n)]) := by
  induction h with
  | nil => exact .cons e h0 h1 hx .nil
  | cons e' h0' h1' hx' _ ih => exact .cons e' h0' h1' hx' ih
theorem Rows.updL {H : Hp} {vs us : List V} {ps : List (Int × Str × Nat)} {D : Addr} {o : HO} (h : Rows A H vs ps) (hD : H D = some (.lst us)) : Rows A (upd H D o) vs ps := by
  induction h with
  | nil => exact .nil
  | @cons p dx way x n vs ps e h0 h1 hx _ ih =>
    refine .cons (dx := dx) ?_ h0 h1 hx ih
    rw [upd_ne (fun z => by rw [z, hD] at e; cases e)]
    exact e
def spRows (A : Ad) : Sp := fun vs H Q _ => ∃ (pl : Addr) (ts : List V) (ps : List (Int × Str × Nat)), vs = [.ref pl] ∧ H pl = some (.lst ts) ∧ Parts H ts ps ∧ ps.length ≤ 100 ∧
  ∀ (D : Addr) (rs : List V) (H' : Hp), Same H H' → H D = none → H' D = some (.lst rs) → Rows A H' rs ps → Q (.ref D) H'
theorem ok__law_rows (T : Txt K mg A) : Ok1 P w K mg base 6 A.f__law_rows ["parts"] (spRows A) := by
  refine T.fn__law_rows.ok sc__law_rows (fun _ _ _ _ _ _ us hl => match us, hl with | [_], _ => rfl) (fun vs H Q E h => ?_) (fun cdv B up s H vs Q E hr h => ?_)
  · obtain ⟨pl, ts, ps, rfl, _⟩ := h
    rfl
  · obtain ⟨pl, ts, ps, rfl, hp, hps, hm, h⟩ := h
    refine ⟨_, (pss_one (ps_ret (pe_lcD (own := [("way", 1), ("name", 2), ("place", 3)]) rfl sc__law_rows.nd (pi_list (pv 0)) (blkOk_by (N := N__law_rows) (sc := defScope s__law_rows) (by decide +kernel)) (fun _ _ _ _ _ => pg_tup (by rfl) (pgs_cons (pg_name (i := 1) sc__law_rows.nd rfl (Or.inl rfl)) (pgs_cons (pg_name (i := 2) sc__law_rows.nd rfl (Or.inl rfl)) (pgs_cons (pg_name (i := 3) sc__law_rows.nd rfl (Or.inl rfl)) pgs_nil)))) (fun _ _ _ _ _ => pts_nil) (fun _ _ _ _ _ => (po_call (ok__law_make T) (hr.mono (by decide)) T.mg__law_make (pa_cons (pv 1) (pa_cons (pv 2) (pa_cons (pv 3) pa_nil)))))))), ?_⟩
    refine ⟨_, rfl, pl, rfl, ⟨_, SqL.of hp⟩, fun D nD => ?_⟩
    refine lc_list (K := K) (a := pl) (xs := ts) (fun i H' => Same H H' ∧ ∃ rs, H' D = some (.lst rs) ∧ rs.length = i ∧ Rows A H' rs (ps.take i)) ?_ ?_ ?_ ?_
    · exact ⟨Same.new nD, [], upd_same, rfl, .nil⟩
    · rintro i H1 _ ⟨s1, _⟩
      exact SqL.of (s1 _ _ hp)
    · rintro i y H1 hy ⟨s1, rs, hr1, lr, rw1⟩
      obtain ⟨t, way, x, n, rfl, hpi, ht, w0, w1, hx, hn⟩ := hps.get hy
      have hi6 : i < ps.length := (List.getElem?_eq_some_iff.mp hpi).1
      refine ⟨t, _, rfl, SqT.of (s1 _ _ ht), rfl, _, _, rfl, _, _, rfl, _, _, rfl, rfl, rfl, _, rfl, _, rfl, _, rfl, way, n, x, rfl, w0, by omega, hx, by omega, by omega, fun p dx H2 s2 np hp2 => ?_⟩
      refine ⟨rs, s2 _ _ hr1, Nat.lt_of_lt_of_le (show rs.length < 1000 by omega) (by decide), ?_, rs ++ [.ref p], upd_same, by rw [List.length_append, lr]; rfl, ?_⟩
      · intro c o e
        rw [upd_ne (ne_of_none e nD)]
        exact s2 _ _ (s1 _ _ e)
      · have e9 : ps.take (i + 1) = ps.take i ++ [(way, x, n)] := by
          rw [List.take_add_one, hpi]
          rfl
        rw [e9]
        have Dp : p ≠ D := (ne_of_none hr1 np).symm
        exact ((rw1.same s2).updL (s2 _ _ hr1)).snoc (by rw [upd_ne Dp]; exact hp2) w0 w1 hx
    · rintro H1 ⟨s1, rs, hr1, lr, rw1⟩
      rw [hps.len, List.take_length] at rw1
      exact h D rs H1 s1 nD hr1 rw1

end
end Own

set_option Elab.async false
set_option linter.all false
set_option maxRecDepth 100000
set_option maxHeartbeats 4000000
namespace Own
open PySem L2 ClX
local macro_rules | `(tactic| walk_at "v") => `(tactic| refine ⟨_, rfl, ?_⟩)
local macro_rules | `(tactic| walk_at "ii") => `(tactic| refine ⟨_, _, rfl, rfl, ?_⟩)
local macro_rules | `(tactic| walk_at "go") => `(tactic| repeat (first | refine ⟨_, rfl, ?_⟩ | refine ⟨_, _, rfl, rfl, ?_⟩ | refine addI ?_ | refine L2.iteT ?_ | refine L2.iteF ?_))

section
variable {P : Program} {w : World} {K : PySem.W.Frag} {mg : Str → Option Value} {base : Heap} {A : Ad}
/-! ### the law's own replay -/
def spDue : Sp := fun vs H Q _ => ∃ (l pl : Addr) (xs : List Str) (ts : List V) (ps : List (Int × Str × Nat)), vs = [.ref l, .ref pl] ∧ H l = some (.lst (xs.map V.str)) ∧ Items xs ∧ xs.length ≤ 60 ∧ H pl = some (.lst ts) ∧ Parts H ts ps ∧
  (∀ ys, playL ps 0 xs = .ok ys → ∀ (D : Addr) (H' : Hp), Same H H' → H D = none → H' D = some (.lst (ys.map V.str)) → Q (.ref D) H') ∧
  (∀ k, playL ps 0 xs = .error k → ∀ (t : Addr) (H' : Hp), Same H H' → H t = none → H' t = some (.tup [.str "impossible", .int (k : Nat)]) → Q (.ref t) H')
theorem ok__law_due (T : Txt K mg A) : Ok1 P w K mg base 3 A.f__law_due ["shelf", "parts"] spDue := by
  refine T.fn__law_due.ok sc__law_due (fun _ _ _ _ _ _ us hl => match us, hl with | [_, _], _ => rfl) (fun vs H Q E h => ?_) (fun cdv B up s H vs Q E hr h => ?_)
  · obtain ⟨l, pl, xs, ts, ps, rfl, _⟩ := h
    rfl
  · obtain ⟨l, pl, xs, ts, ps, rfl, hl, hi, hm, hpl, hps, h1, h2⟩ := h
    refine ⟨_, (pss_cons (ps_set (i := 2) sc__law_due.nd rfl (Or.inl rfl) (pe_callTy call_list_of (by rfl) T.no_list (by decide +kernel) (pa_cons (pv 0) pa_nil)))
      (pss_cons (ps_for PassesOwn.never rfl (pi_enum (by rfl) T.no_enumerate (pa_cons (pv 1) pa_nil)) (pg_tup (by rfl) (pgs_cons (pg_name (i := 3) sc__law_due.nd rfl (Or.inl rfl)) (pgs_cons (pg_tup (by rfl) (pgs_cons (pg_name (i := 4) sc__law_due.nd rfl (Or.inl rfl)) (pgs_cons (pg_name (i := 5) sc__law_due.nd rfl (Or.inl rfl)) (pgs_cons (pg_name (i := 6) sc__law_due.nd rfl (Or.inl rfl)) pgs_nil)))) pgs_nil)))
      (pss_cons (ps_set (i := 7) sc__law_due.nd rfl (Or.inl rfl) (po_call (ok__law_done T) (hr.mono (by decide)) T.mg__law_done (pa_cons (pv 4) (pa_cons (pv 5) (pa_cons (pv 6) (pa_cons (pv 2) pa_nil))))))
      (pss_cons (ps_if (pt_cmpR op_isN (pv 7) pe_non (nomark _)) (pss_one (ps_ret (pe_tup (pa_cons pe_str (pa_cons (pv 3) pa_nil))))) pss_nil)
      (pss_one (ps_set (i := 2) sc__law_due.nd rfl (Or.inl rfl) (pv 7))))))
      (pss_one (ps_ret (pv 2))))), ?_⟩
    refine ⟨_, rfl, l, _, rfl, .inl (SqL.of hl), fun D nD => ?_⟩
    have u3 := Same.new (o := .lst (xs.map V.str)) nD
    have pos := hps.len
    refine ⟨_, rfl, pl, ts, rfl, SqL.of (u3 _ _ hpl), for_it (walk_enum (xs := ts)) (fun i σ H' => ∃ (cur : List Str) (C : Addr) (a3 a4 a5 a6 a7 : Option V), σ = [some (.ref l), some (.ref pl), some (.ref C), a3, a4, a5, a6, a7] ∧ Same H H' ∧ H C = none ∧ H' C = some (.lst (cur.map V.str)) ∧ Items cur ∧ cur.length ≤ 60 ∧ playL (ps.drop i) i cur = playL ps 0 xs)
      ⟨xs, D, _, _, _, _, _, rfl, u3, nD, upd_same, hi, hm, rfl⟩ ?_ ?_ ?_⟩
    · rintro i σ H4 _ ⟨cur, C, a3, a4, a5, a6, a7, rfl, S4, _⟩
      exact SqL.of (S4 _ _ hpl)
    · rintro i x σ H4 H5 hi5 ⟨cur, C, a3, a4, a5, a6, a7, rfl, S4, nC, hC, ic, mc, pl2⟩ ⟨tp, x1, y1, rfl, ntp, rfl, ex, ey⟩
      obtain rfl := Option.some.inj ex
      obtain ⟨t, way, x, n, rfl, hp, ht, w0, w1, hx, hn⟩ := hps.get ey
      have u5 := Same.new (o := .tup [.int (i : Nat), .ref t]) ntp
      have S5 := S4.trans u5
      refine ⟨tp, _, rfl, SqT.of upd_same, rfl, _, _, rfl, _, _, rfl, ⟨t, _, rfl, SqT.of (S5 _ _ ht), rfl, _, _, rfl, _, _, rfl, _, _, rfl, rfl, rfl, ?_⟩⟩
      have hi6 : i < ps.length := (List.getElem?_eq_some_iff.mp hp).1
      have dp : ps.drop i = (way, x, n) :: ps.drop (i + 1) := by
        have c := List.drop_eq_getElem_cons hi6
        rw [List.getElem?_eq_getElem hi6] at hp
        rw [c, Option.some.inj hp]
      rw [dp, playL_cons] at pl2
      refine ⟨_, rfl, _, rfl, _, rfl, _, rfl, way, x, n, C, cur, rfl, w0, by omega, hx, u5 _ _ hC, ic, mc, ?_, ?_⟩
      · intro ys eb C2 H6 s6 nC2 hC2
        rw [eb] at pl2
        obtain ⟨i2, m2⟩ := done_ok ic mc hx eb
        exact ⟨_, rfl, rfl, _, rfl, iteF ⟨_, rfl, ys, C2, _, _, _, _, _, rfl, S5.trans s6, none_same S5 nC2, hC2, i2, m2, pl2⟩⟩
      · intro eb H6 s6
        rw [eb] at pl2
        exact ⟨_, rfl, rfl, _, rfl, iteT ⟨_, rfl, Nat.le_of_ble_eq_true rfl, fun q nq => h2 i pl2.symm q _ ((S5.trans s6).trans (Same.new nq)) (none_same (S5.trans s6) nq) upd_same⟩⟩
    · rintro σ H4 ⟨cur, C, a3, a4, a5, a6, a7, rfl, S4, nC, hC, ic, mc, pl2⟩
      rw [pos, List.drop_length] at pl2
      exact ⟨_, rfl, h1 cur pl2.symm C H4 S4 nC hC⟩

end
end Own

set_option Elab.async false
set_option linter.all false
set_option maxRecDepth 100000
set_option maxHeartbeats 4000000
namespace Own
open PySem L2 ClX
local macro_rules | `(tactic| walk_at "v") => `(tactic| refine ⟨_, rfl, ?_⟩)
local macro_rules | `(tactic| walk_at "ii") => `(tactic| refine ⟨_, _, rfl, rfl, ?_⟩)
local macro_rules | `(tactic| walk_at "go") => `(tactic| repeat (first | refine ⟨_, rfl, ?_⟩ | refine ⟨_, _, rfl, rfl, ?_⟩ | refine addI ?_ | refine L2.iteT ?_ | refine L2.iteF ?_))

section
variable {P : Program} {w : World} {K : PySem.W.Frag} {mg : Str → Option Value} {base : Heap} {A : Ad}
/-! ### the texts of records -/
def textW (way : Int) (x : Str) (n : Nat) : Str := Str.empty ++ signW way ++ x ++ "@" ++ toString (n : Int)
def spText (A : Ad) : Sp := fun vs H Q _ => ∃ (p dx : Addr) (way : Int) (x : Str) (n : Nat), vs = [.ref p] ∧ H p = some (.ins (cw A way) dx (rfs x n)) ∧ 0 ≤ way ∧ way ≤ 3 ∧ isItem x = true ∧ n ≤ 60 ∧ Q (.str (textW way x n)) H
theorem ok_Record_text (T : Txt K mg A) : Ok1 P w K mg base 1 A.m_Record_text ["self"] (spText A) := by
  refine T.fn_Record_text.ok sc_Record_text (fun _ _ _ _ _ _ us hl => match us, hl with | [_], _ => rfl) (fun vs H Q E h => ?_) (fun cdv B up s H vs Q E hr h => ?_)
  · obtain ⟨p, dx, way, x, n, rfl, _⟩ := h
    rfl
  · obtain ⟨p, dx, way, x, n, rfl, hp, w0, w1, hx, hn, h⟩ := h
    refine ⟨_, (pss_one (ps_ret (pe_joined (PJ.cons (pe_fmt (pe_con (pv 0) rfl)) (PJ.cons (pe_fmt (pe_fld (pv 0) rfl)) (PJ.cons pe_str (PJ.cons (pe_fmt (pe_fld (pv 0) rfl)) PJ.nil))))))), ?_⟩
    have k := kd_of T w0 w1
    obtain ⟨u, cn⟩ := k.sg
    have ls : (signW way).length ≤ 1 := by
      rcases way4 w0 w1 with rfl | rfl | rfl | rfl <;> decide +kernel
    have lx := item_len hx
    have ln : (Str.ofString (toString (n : Int))).length ≤ 2 := by
      have all : ∀ m : Fin 61, (Str.ofString (toString ((m : Nat) : Int))).length ≤ 2 := by decide +kernel
      exact all ⟨n, by omega⟩
    have la : ∀ a b : Str, (a ++ b).length = a.length + b.length := fun a b => Array.size_append
    have e0 : Str.empty.length = 0 := rfl
    have e1 : (Str.ofString "@").length = 1 := rfl
    refine ⟨_, rfl, p, _, dx, _, _, _, rfl, hp, k.rc.cl, cn, no_sign _ _, .inl ⟨_, rfl, szS (by omega), _, rfl, szS (by rw [la]; omega), ?_⟩⟩
    refine ⟨_, rfl, p, _, dx, _, _, rfl, hp, k.rc.cl, k.rc.nI, rfs_item _ _, .inl ⟨_, rfl, szS (by omega), _, rfl, szS (by rw [la, la]; omega), ?_⟩⟩
    refine ⟨_, rfl, szS (by rw [la, la, la]; omega), ?_⟩
    refine ⟨_, rfl, p, _, dx, _, _, rfl, hp, k.rc.cl, k.rc.nS, rfs_slot _ _, .inr ⟨_, rfl, ?_, _, rfl, szS (by rw [la, la, la, la]; omega), h⟩⟩
    have all : ∀ m : Fin 61, ((m : Nat) : Int).natAbs.log2 < 1920 := by decide +kernel
    exact all ⟨n, by omega⟩

end
end Own

set_option Elab.async false
set_option linter.all false
set_option maxRecDepth 100000
set_option maxHeartbeats 4000000
namespace Own
open PySem L2 ClX
local macro_rules | `(tactic| walk_at "v") => `(tactic| refine ⟨_, rfl, ?_⟩)
local macro_rules | `(tactic| walk_at "ii") => `(tactic| refine ⟨_, _, rfl, rfl, ?_⟩)
local macro_rules | `(tactic| walk_at "go") => `(tactic| repeat (first | refine ⟨_, rfl, ?_⟩ | refine ⟨_, _, rfl, rfl, ?_⟩ | refine addI ?_ | refine L2.iteT ?_ | refine L2.iteF ?_))

section
variable {P : Program} {w : World} {K : PySem.W.Frag} {mg : Str → Option Value} {base : Heap} {A : Ad}
/-! ### what the law asks of parts -/
theorem play_ok : ∀ {ps : List (Int × Str × Nat)} {k : Nat} {xs ys : List Str}, Items xs → xs.length ≤ 60 → (∀ q ∈ ps, isItem q.2.1 = true) → playL ps k xs = .ok ys → Items ys ∧ ys.length ≤ 60
  | [], _, _, _, i, m, _, h => by
    cases h
    exact ⟨i, m⟩
  | (w, x, n) :: ps, k, xs, ys, i, m, a, h => by
    rw [playL_cons] at h
    cases eb : backW w x n xs with
    | none => rw [eb] at h; cases h
    | some zs =>
      rw [eb] at h
      obtain ⟨i2, m2⟩ := done_ok i m (a (w, x, n) List.mem_cons_self) eb
      exact play_ok i2 m2 (fun q hq => a q (List.mem_cons_of_mem _ hq)) h
theorem play_err : ∀ {ps : List (Int × Str × Nat)} {k j : Nat} {xs : List Str}, playL ps k xs = .error j → j < k + ps.length
  | [], _, _, _, h => by cases h
  | (w, x, n) :: ps, k, j, xs, h => by
    rw [playL_cons] at h
    cases eb : backW w x n xs with
    | none =>
      rw [eb] at h
      cases h
      rw [List.length_cons]
      omega
    | some zs =>
      rw [eb] at h
      have := play_err h
      rw [List.length_cons]
      omega
theorem Parts.items {H : Hp} {vs : List V} {ps : List (Int × Str × Nat)} (h : Parts H vs ps) : ∀ q ∈ ps, isItem q.2.1 = true := by
  induction h with
  | nil => intro q hq; cases hq
  | cons e h0 h1 hx hn _ ih =>
    intro q hq
    rcases List.mem_cons.mp hq with rfl | hq
    · exact hx
    · exact ih q hq
/-- the data of what is told -/
def tlE : Except Nat (List Str) → PyData
  | .ok ys => sl ys
  | .error k => .tuple [.str "impossible", .int (k : Nat)]
/-- what is told stands there -/
def TlAt (H : Hp) (v : V) (r : Except Nat (List Str)) : Prop := ∃ a, v = .ref a ∧ match r with
  | .ok ys => H a = some (.lst (ys.map V.str))
  | .error k => H a = some (.tup [.str "impossible", .int (k : Nat)])
theorem TlAt.same {H H' : Hp} {v : V} {r : Except Nat (List Str)} (h : TlAt H v r) (s : Same H H') : TlAt H' v r := by
  obtain ⟨a, e, m⟩ := h
  refine ⟨a, e, ?_⟩
  cases r with
  | ok ys => exact s _ _ m
  | error k => exact s _ _ m
theorem TlAt.dp {H : Hp} {v : V} {r : Except Nat (List Str)} (h : TlAt H v r) : Dp K H v (tlE r) := by
  obtain ⟨a, rfl, m⟩ := h
  cases r with
  | ok ys => exact dpS (SqL.of m)
  | error k => exact .tup (SqT.of m) (.cons (.str _) (.cons (.int _) .nil))
structure Fine (r : Except Nat (List Str)) : Prop where
  ok : ∀ ys, r = .ok ys → Items ys ∧ ys.length ≤ 60
  er : ∀ k, r = .error k → k < 200
theorem fineP {ps : List (Int × Str × Nat)} {xs : List Str} {H : Hp} {vs : List V} (h : Parts H vs ps) (i : Items xs) (m : xs.length ≤ 60) (l : ps.length ≤ 80) : Fine (playL ps 0 xs) :=
  ⟨fun ys e => play_ok i m h.items e, fun k e => by have := play_err e; omega⟩
theorem Fine.shows {r : Except Nat (List Str)} (f : Fine r) : Shows (tlE r) ∧ Shows (.list [tlE r, tlE r]) := by
  cases r with
  | ok ys =>
    obtain ⟨i, m⟩ := f.ok ys rfl
    exact ⟨showsS i.it (by omega), shows_tl2 (o := some ys) (x := "a") (fun z e => by cases e; exact ⟨i.it, by omega⟩) (by decide +kernel)⟩
  | error k =>
    have hk := f.er k rfl
    have all : ∀ m : Fin 200, Shows (.tuple [.str "impossible", .int ((m : Nat) : Int)]) ∧ Shows (.list [.tuple [.str "impossible", .int ((m : Nat) : Int)], .tuple [.str "impossible", .int ((m : Nat) : Int)]]) := by
      have z : ∀ m : Fin 200, ((PyData.tuple [.str "impossible", .int ((m : Nat) : Int)]).showable = true ∧ (PyData.tuple [.str "impossible", .int ((m : Nat) : Int)]).hasDict = false ∧ (PyData.tuple [.str "impossible", .int ((m : Nat) : Int)]).depth ≤ 40 ∧ (PyData.tuple [.str "impossible", .int ((m : Nat) : Int)]).shown.length ≤ sizeLine) ∧
          ((PyData.list [.tuple [.str "impossible", .int ((m : Nat) : Int)], .tuple [.str "impossible", .int ((m : Nat) : Int)]]).showable = true ∧ (PyData.list [.tuple [.str "impossible", .int ((m : Nat) : Int)], .tuple [.str "impossible", .int ((m : Nat) : Int)]]).hasDict = false ∧ (PyData.list [.tuple [.str "impossible", .int ((m : Nat) : Int)], .tuple [.str "impossible", .int ((m : Nat) : Int)]]).depth ≤ 40 ∧ (PyData.list [.tuple [.str "impossible", .int ((m : Nat) : Int)], .tuple [.str "impossible", .int ((m : Nat) : Int)]]).shown.length ≤ sizeLine) := by decide +kernel
      intro m
      obtain ⟨⟨a, b, c, d⟩, a2, b2, c2, d2⟩ := z m
      exact ⟨⟨a, b, c, d⟩, ⟨a2, b2, c2, d2⟩⟩
    exact all ⟨k, hk⟩

end
end Own

set_option Elab.async false
set_option linter.all false
set_option maxRecDepth 100000
set_option maxHeartbeats 4000000
namespace Own
open PySem L2 ClX
local macro_rules | `(tactic| walk_at "v") => `(tactic| refine ⟨_, rfl, ?_⟩)
local macro_rules | `(tactic| walk_at "ii") => `(tactic| refine ⟨_, _, rfl, rfl, ?_⟩)
local macro_rules | `(tactic| walk_at "go") => `(tactic| repeat (first | refine ⟨_, rfl, ?_⟩ | refine ⟨_, _, rfl, rfl, ?_⟩ | refine addI ?_ | refine L2.iteT ?_ | refine L2.iteF ?_))

section
variable {P : Program} {w : World} {K : PySem.W.Frag} {mg : Str → Option Value} {base : Heap} {A : Ad}
theorem Parts.bound {H : Hp} {vs : List V} {ps : List (Int × Str × Nat)} (h : Parts H vs ps) : ∀ q ∈ ps, 0 ≤ q.1 ∧ q.1 < 3 ∧ isItem q.2.1 = true ∧ q.2.2 ≤ 60 := by
  induction h with
  | nil => intro q hq; cases hq
  | cons e h0 h1 hx hn _ ih =>
    intro q hq
    rcases List.mem_cons.mp hq with rfl | hq
    · exact ⟨h0, h1, hx, hn⟩
    · exact ih q hq
theorem prop_text (T : Txt K mg A) {way : Int} (h0 : 0 ≤ way) (h1 : way ≤ 3) : PropOf K (cw A way) "text" A.p_Record_text A.m_Record_text := by
  rcases way4 h0 h1 with rfl | rfl | rfl | rfl
  · exact T.pr_Inserted_text
  · exact T.pr_Removed_text
  · exact T.pr_Fronted_text
  · exact T.pr_Record_text
def lowS (x : Str) : Prop := ∀ c ∈ x.cps.toList, c < 0x110000
theorem lowS.app {a b : Str} (h : lowS a) (g : lowS b) : lowS (a ++ b) := by
  intro c hc
  have e : (a ++ b).cps.toList = a.cps.toList ++ b.cps.toList := Array.toList_append
  rw [e] at hc
  exact (List.mem_append.mp hc).elim (h c) (g c)
theorem low_text {way : Int} {x : Str} {n : Nat} (h0 : 0 ≤ way) (h1 : way ≤ 3) (hx : isItem x = true) (hn : n ≤ 60) : lowS (textW way x n) := by
  have ls : lowS (signW way) := by
    rcases way4 h0 h1 with rfl | rfl | rfl | rfl
    · unfold lowS; decide +kernel
    · unfold lowS; decide +kernel
    · unfold lowS; decide +kernel
    · unfold lowS; decide +kernel
  have lx : lowS x := fun c hc => Nat.lt_trans (item_chars hx c hc) (by decide)
  have la : lowS (Str.ofString "@") := by unfold lowS; decide +kernel
  have ln : lowS (Str.ofString (toString (n : Int))) := by
    have all : ∀ m : Fin 61, ∀ c ∈ (Str.ofString (toString ((m : Nat) : Int))).cps.toList, c < 0x110000 := by decide +kernel
    exact all ⟨n, by omega⟩
  have l0 : lowS Str.empty := by unfold lowS; decide +kernel
  exact (((l0.app ls).app lx).app la).app ln
theorem layT : ∀ xs : List Str, (∀ x ∈ xs, lowS x) → PyData.canLayAll0 (xs.map .str) = true
  | [], _ => by simp [PyData.canLayAll0]
  | x :: xs, h => by
    have ih := layT xs fun y hy => h y (List.mem_cons_of_mem _ hy)
    have hx : PyData.strOk x = true := by
      unfold PyData.strOk
      rw [Array.all_eq_true']
      intro c hc
      exact decide_eq_true (h x List.mem_cons_self c (Array.mem_toList_iff.mpr hc))
    simp only [List.map_cons, PyData.canLayAll0, PyData.canLay0, ih, hx, Bool.and_self]
theorem shapedT {xs : List Str} (h : ∀ x ∈ xs, lowS x) : SeqAt.shaped (sl xs) = true := by
  unfold SeqAt.shaped sl
  simp [PyData.canLay0, layT xs h, PyData.depth, depthS xs]

end
end Own

set_option Elab.async false
set_option linter.all false
set_option maxRecDepth 100000
set_option maxHeartbeats 4000000
namespace Own
open PySem L2 ClX
local macro_rules | `(tactic| walk_at "v") => `(tactic| refine ⟨_, rfl, ?_⟩)
local macro_rules | `(tactic| walk_at "ii") => `(tactic| refine ⟨_, _, rfl, rfl, ?_⟩)
local macro_rules | `(tactic| walk_at "go") => `(tactic| repeat (first | refine ⟨_, rfl, ?_⟩ | refine ⟨_, _, rfl, rfl, ?_⟩ | refine addI ?_ | refine L2.iteT ?_ | refine L2.iteF ?_))

section
variable {P : Program} {w : World} {K : PySem.W.Frag} {mg : Str → Option Value} {base : Heap} {A : Ad}
/-! ### parts and a list -/
theorem Rows.but {H H' : Hp} {vs us : List V} {ps : List (Int × Str × Nat)} {D : Addr} (h : Rows A H vs ps) (hD : H D = some (.lst us)) (b : But D H H') : Rows A H' vs ps := by
  induction h with
  | nil => exact .nil
  | @cons p dx way x n vs ps e h0 h1 hx _ ih => exact .cons (dx := dx) (b _ _ e (fun z => by rw [z, hD] at e; cases e)) h0 h1 hx ih
def spRight : Sp := fun vs H Q _ => ∃ (l pl : Addr) (xs : List Str) (ts : List V) (ps : List (Int × Str × Nat)), vs = [.ref l, .ref pl] ∧ H l = some (.lst (xs.map V.str)) ∧ Items xs ∧ xs.length ≤ 60 ∧ H pl = some (.lst ts) ∧ Parts H ts ps ∧ ps.length ≤ 80 ∧ ∀ H', Same H H' → Q (.bl true) H'
theorem ok__law_right (T : Txt K mg A) : OkG P w K mg base 10 A.f__law_right ["shelf", "parts"] spRight := by
  refine T.fn__law_right.okG sc__law_right (fun _ _ _ _ _ _ us hl => match us, hl with | [_, _], _ => rfl) (fun vs H Q E h => ?_) (fun cdv B up s H vs Q hr gd h => ?_)
  · obtain ⟨l, pl, xs, ts, ps, rfl, _⟩ := h
    rfl
  · obtain ⟨l, pl, xs, ts, ps, rfl, hl, hi, hm, hpl, hps, hp80, h⟩ := h
    refine ⟨_, (pss_cons (ps_par3 (i := 2) (j := 3) (l := 4) (by rfl) sc__law_right.nd rfl rfl rfl (by decide) (by decide) (by decide) rfl rfl rfl (pa_cons (po_call (ok__law_rows T) (hr.mono (by decide)) T.mg__law_rows (pa_cons (pv 1) pa_nil)) (pa_cons (po_call (ok__law_due T) (hr.mono (by decide)) T.mg__law_due (pa_cons (pv 0) (pa_cons (pv 1) pa_nil))) (pa_cons (pe_callB (call_reprD hr gd) (by rfl) T.no_repr (by decide +kernel) (pa_cons (pv 0) pa_nil)) pa_nil))) (by rfl))
      (pss_cons (ps_setLcD (i := 5) (own := [("row", 8)]) rfl sc__law_right.nd rfl rfl (sw_true rfl rfl rfl (by decide +kernel)) (pi_list (pv 2)) (blkOk_by (N := N__law_right) (sc := defScope s__law_right) (by decide +kernel)) (fun _ _ _ _ _ => pg_name (i := 8) sc__law_right.nd rfl (Or.inl rfl)) (fun _ _ _ _ _ => pts_nil) (fun _ _ _ _ _ => (po_propD (p := A.p_Record_text) (ok_Record_text T) (hr.mono (by decide)) (pv 8))))
      (pss_cons (ps_par (i := 6) (j := 7) (by rfl) sc__law_right.nd rfl rfl (by decide) rfl rfl (pa_cons (po_call (ok__law_told T) (hr.mono (by decide)) T.mg__law_told (pa_cons (pv 0) (pa_cons (pv 2) (pa_cons pe_bl pa_nil)))) (pa_cons (po_call (ok__law_told T) (hr.mono (by decide)) T.mg__law_told (pa_cons (pv 0) (pa_cons (pv 2) (pa_cons pe_bl pa_nil)))) pa_nil)) (by rfl))
      (pss_cons (ps_if (PW.pt (pw_or (pt_cmpR (op_neX hr) (pe_callB (call_reprD hr gd) (by rfl) T.no_repr (by decide +kernel) (pa_cons (pe_lst (pa_cons (pv 6) (pa_cons (pv 7) pa_nil))) pa_nil)) (pe_callB (call_reprD hr gd) (by rfl) T.no_repr (by decide +kernel) (pa_cons (pe_lst (pa_cons (pv 3) (pa_cons (pv 3) pa_nil))) pa_nil)) (nomark _)) (pw_or (pt_cmpR (op_neX hr) (pe_callB (call_reprD hr gd) (by rfl) T.no_repr (by decide +kernel) (pa_cons (pv 0) pa_nil)) (pv 4) (nomark _)) (pw_or1 (pt_cmpR (op_neX hr) (pe_lcD (own := [("row", 8)]) rfl sc__law_right.nd (pi_list (pv 2)) (blkOk_by (N := N__law_right) (sc := defScope s__law_right) (by decide +kernel)) (fun _ _ _ _ _ => pg_name (i := 8) sc__law_right.nd rfl (Or.inl rfl)) (fun _ _ _ _ _ => pts_nil) (fun _ _ _ _ _ => (po_propD (p := A.p_Record_text) (ok_Record_text T) (hr.mono (by decide)) (pv 8)))) (pv 5) (nomark _)))))) (pss_one (ps_ret pe_bl)) pss_nil)
      (pss_cons (ps_if (pt_val (pe_callB call_isi (by rfl) T.no_isinstance (by decide +kernel) (pa_cons (pv 6) (pa_cons (pe_bltn (v := .ty "list") (by rfl) T.no_list (by decide +kernel) rfl) pa_nil)))) (pss_cons (ps_expr (pe_bm PySem.F.plainAttrs_list PySem.F.slot_list_append PySem.F.type_list_append mt_append (pv 6) (pa_cons pe_str pa_nil)))
      (pss_one (ps_expr (pe_bm0 PySem.F.plainAttrs_list PySem.F.slot_list_reverse PySem.F.type_list_reverse mt_reverse (pv 6))))) pss_nil)
      (pss_one (ps_ret (pe_and (pe_cmpR (op_eqX hr) (pe_callB (call_reprD hr gd) (by rfl) T.no_repr (by decide +kernel) (pa_cons (pv 7) pa_nil)) (pe_callB (call_reprD hr gd) (by rfl) T.no_repr (by decide +kernel) (pa_cons (pv 3) pa_nil)) (nomark _)) (pe_and (pe_cmpR (op_eqX hr) (pe_callB (call_reprD hr gd) (by rfl) T.no_repr (by decide +kernel) (pa_cons (po_call (ok__law_told T) (hr.mono (by decide)) T.mg__law_told (pa_cons (pv 0) (pa_cons (pv 2) (pa_cons pe_bl pa_nil)))) pa_nil)) (pe_callB (call_reprD hr gd) (by rfl) T.no_repr (by decide +kernel) (pa_cons (pv 3) pa_nil)) (nomark _)) (pe_one (pe_cmpR (op_eqX hr) (pe_callB (call_reprD hr gd) (by rfl) T.no_repr (by decide +kernel) (pa_cons (pv 0) pa_nil)) (pv 4) (nomark _)))))))))))), ?_⟩
    have sx := showsS hi.it (show xs.length ≤ 70 by omega)
    have fine := fineP hps hi hm hp80
    obtain ⟨sh1, sh2⟩ := fine.shows
    refine ⟨_, rfl, pl, ts, ps, rfl, hpl, hps, by omega, fun R rs H1 s1 nR hR rowsR => ?_⟩
    refine ⟨_, rfl, _, rfl, l, pl, xs, ts, ps, rfl, s1 _ _ hl, hi, hm, s1 _ _ hpl, hps.same s1, ?_, ?_⟩
    · intro ys e D H2 s2 nD hD
      have hl2 := s2 _ _ (s1 _ _ hl)
      have hR2 := s2 _ _ hR
      have rows2 := rowsR.same s2
      refine ⟨_, rfl, .ref l, sl xs, rfl, dpS (SqL.of hl2), sx, _, _, _, rfl, ?_⟩
      refine ⟨_, rfl, R, rfl, ⟨_, SqL.of hR2⟩, fun W nW => ?_⟩
      refine lc_list (K := K) (a := R) (xs := rs) (fun i H' => Same H2 H' ∧ H' W = some (.lst ((((ps.map fun q => textW q.1 q.2.1 q.2.2).take i)).map V.str))) ?_ ?_ ?_ ?_
      · exact ⟨Same.new nW, upd_same⟩
      · rintro i Hc _ ⟨sc, _⟩
        exact SqL.of (sc _ _ hR2)
      · rintro i y Hc hy ⟨sc, hc⟩
        obtain ⟨p, dx, way, x, n, rfl, hpi, he, w0, w1, hx⟩ := rows2.get hy
        obtain ⟨_, _, _, hn⟩ := hps.bound _ (List.mem_of_getElem? hpi)
        refine ⟨rfl, _, rfl, p, _, dx, _, rfl, sc _ _ he, (kd_of T w0 (by omega)).rc.cl, prop_text T w0 (by omega), p, dx, way, x, n, rfl, sc _ _ he, w0, by omega, hx, hn, _, hc, ?_, ?_, ?_⟩
        · rw [List.length_map, List.length_take]
          exact Nat.lt_of_le_of_lt (Nat.min_le_left _ _) (Nat.lt_of_lt_of_le (show i < 1000 by have := (List.getElem?_eq_some_iff.mp hpi).1; omega) (by decide))
        · intro c o e0
          rw [upd_ne (ne_of_none e0 nW)]
          exact sc _ _ e0
        · have ti : (ps.map fun q => textW q.1 q.2.1 q.2.2)[i]? = some (textW way x n) := by
            rw [List.getElem?_map, hpi]
            rfl
          rw [upd_same, List.take_add_one, ti, List.map_append]
          rfl
      · rintro HW ⟨sW, hW⟩
        have ltW : rs.length = (ps.map fun q => textW q.1 q.2.1 q.2.2).length := by
          rw [rows2.len]
          exact (List.length_map ..).symm
        rw [ltW, List.take_length] at hW
        have sy : Shows (sl ys) := by rw [e] at sh1; exact sh1
        have sy2 : Shows (.list [sl ys, sl ys]) := by rw [e] at sh2; exact sh2
        have hlW := sW _ _ hl2
        have hRW := sW _ _ hR2
        have rowsW := rows2.same sW
        have hDW := sW _ _ hD
        refine ⟨_, rfl, _, rfl, .ref l, .ref R, false, rfl, .inr ⟨l, xs, rfl, hlW, hi, hm, .inr ⟨R, rs, ps, rfl, hRW, rowsW, hp80, fun ys' e' f1 H4 s4 nf hf => ?_, fun k e' => by rw [e] at e'; cases e'⟩⟩⟩
        obtain rfl : ys = ys' := by rw [e] at e'; cases e'; rfl
        refine ⟨_, rfl, _, rfl, .ref l, .ref R, true, rfl, .inr ⟨l, xs, rfl, s4 _ _ hlW, hi, hm, .inr ⟨R, rs, ps, rfl, s4 _ _ hRW, rowsW.same s4, hp80, fun ys' e' g1 H5 s5 ng hg => ?_, fun k e' => by rw [e] at e'; cases e'⟩⟩⟩
        obtain rfl : ys = ys' := by rw [e] at e'; cases e'; rfl
        refine ⟨_, _, rfl, ?_⟩
        have s45 := s4.trans s5
        refine ⟨_, rfl, _, rfl, Nat.le_of_ble_eq_true rfl, fun a na => ?_⟩
        have u6 := Same.new (o := .lst [.ref f1, .ref g1]) na
        refine ⟨_, .list [sl ys, sl ys], rfl, .lst (SqL.of upd_same) (.cons (dpS (SqL.of (u6 _ _ (s5 _ _ hf)))) (.cons (dpS (SqL.of (u6 _ _ hg))) .nil)), sy2, ?_⟩
        refine ⟨_, rfl, _, rfl, Nat.le_of_ble_eq_true rfl, fun b nb => ?_⟩
        have u7 := Same.new (o := .lst [.ref D, .ref D]) nb
        have S7 := s45.trans (u6.trans u7)
        have hD7 := S7 _ _ hDW
        refine ⟨_, .list [sl ys, sl ys], rfl, .lst (SqL.of upd_same) (.cons (dpS (SqL.of hD7)) (.cons (dpS (SqL.of hD7)) .nil)), sy2, neS rfl ⟨_, rfl, ?_⟩⟩
        rw [strF]
        have hf7 := (s5.trans (u6.trans u7)) _ _ hf
        have hg7 := (u6.trans u7) _ _ hg
        have hl7 := S7 _ _ hlW
        have hR7 := S7 _ _ hRW
        have hW7 := S7 _ _ hW
        have rows7 := rowsW.same S7
        have T7 := (s1.trans s2).trans (sW.trans S7)
        clear u6 u7
        generalize upd (upd H5 a (.lst [.ref f1, .ref g1])) b (.lst [.ref D, .ref D]) = H7 at *
        refine iteF ⟨_, rfl, .ref l, sl xs, rfl, dpS (SqL.of hl7), sx, _, rfl, neS rfl ⟨_, rfl, ?_⟩⟩
        rw [strF]
        refine iteF ⟨_, rfl, R, rfl, ⟨_, SqL.of hR7⟩, fun Z nZ => ?_⟩
        refine lc_list (K := K) (a := R) (xs := rs) (fun i H' => Same H7 H' ∧ H' Z = some (.lst ((((ps.map fun q => textW q.1 q.2.1 q.2.2).take i)).map V.str))) ?_ ?_ ?_ ?_
        · exact ⟨Same.new nZ, upd_same⟩
        · rintro i Hc _ ⟨sc, _⟩
          exact SqL.of (sc _ _ hR7)
        · rintro i y Hc hy ⟨sc, hc⟩
          obtain ⟨p, dx, way, x, n, rfl, hpi, he, w0, w1, hx⟩ := rows7.get hy
          obtain ⟨_, _, _, hn⟩ := hps.bound _ (List.mem_of_getElem? hpi)
          refine ⟨rfl, _, rfl, p, _, dx, _, rfl, sc _ _ he, (kd_of T w0 (by omega)).rc.cl, prop_text T w0 (by omega), p, dx, way, x, n, rfl, sc _ _ he, w0, by omega, hx, hn, _, hc, ?_, ?_, ?_⟩
          · rw [List.length_map, List.length_take]
            exact Nat.lt_of_le_of_lt (Nat.min_le_left _ _) (Nat.lt_of_lt_of_le (show i < 1000 by have := (List.getElem?_eq_some_iff.mp hpi).1; omega) (by decide))
          · intro c o e0
            rw [upd_ne (ne_of_none e0 nZ)]
            exact sc _ _ e0
          · have ti : (ps.map fun q => textW q.1 q.2.1 q.2.2)[i]? = some (textW way x n) := by
              rw [List.getElem?_map, hpi]
              rfl
            rw [upd_same, List.take_add_one, ti, List.map_append]
            rfl
        · rintro HZ ⟨sZ, hZ⟩
          have ltZ : rs.length = (ps.map fun q => textW q.1 q.2.1 q.2.2).length := by
            rw [rows7.len]
            exact (List.length_map ..).symm
          rw [ltZ, List.take_length] at hZ
          have lw : ∀ z ∈ (ps.map fun q => textW q.1 q.2.1 q.2.2), lowS z := fun z hz => by
            obtain ⟨q, hq, rfl⟩ := List.mem_map.mp hz
            obtain ⟨q0, q1, q2, q3⟩ := hps.bound q hq
            exact low_text q0 (by omega) q2 q3
          refine ⟨_, rfl, .inr ⟨_, _, dpS (SqL.of hZ), dpS (SqL.of (sZ _ _ hW7)), shapedT lw, shapedT lw, ?_⟩⟩
          rw [eqvS, decide_eq_true rfl]
          refine ⟨_, rfl, iteF ?_⟩
          have hfZ := sZ _ _ hf7
          have TZ := T7.trans sZ
          refine ⟨_, rfl, _, _, _, _, _, rfl, .ty _, .base (.lst hfZ), kit_ty (r := true) (by decide +kernel), _, rfl, iteT ?_⟩
          have iy := (fine.ok ys e).1
          have my := (fine.ok ys e).2
          refine ⟨_, rfl, .inl ⟨rfl, _, SqL.of hfZ⟩, f1, _, _, rfl, rfl, hfZ, ?_, ?_⟩
          · rw [List.length_map]
            exact Nat.lt_of_lt_of_le (show ys.length < 1000 by omega) (by decide)
          have b7 : But f1 HZ (upd HZ f1 (.lst (ys.map V.str ++ [V.str "new"]))) := But.upd
          have hf8 : upd HZ f1 (.lst (ys.map V.str ++ [V.str "new"])) f1 = some (.lst (ys.map V.str ++ [V.str "new"])) := upd_same
          generalize upd HZ f1 (.lst (ys.map V.str ++ [V.str "new"])) = H8 at b7 hf8 ⊢
          refine ⟨_, rfl, .inl ⟨rfl, _, SqL.of hf8⟩, f1, _, rfl, rfl, hf8, ?_⟩
          have b8 : But f1 H8 (upd H8 f1 (.lst (ys.map V.str ++ [V.str "new"]).reverse)) := But.upd
          generalize upd H8 f1 (.lst (ys.map V.str ++ [V.str "new"]).reverse) = H9 at b8 ⊢
          have b9 := b7.trans b8
          have f0 : H f1 = none := none_same ((s1.trans s2).trans sW) nf
          have T9 : Same H H9 := TZ.but f0 b9
          have gf : g1 ≠ f1 := fun z => by rw [z, hf] at ng; cases ng
          have hg9 := b9 _ _ (sZ _ _ hg7) gf
          have hD9 := b9 _ _ (sZ _ _ hD7) (ne_of_none hDW nf)
          have hl9 := b9 _ _ (sZ _ _ hl7) (ne_of_none hlW nf)
          have hR9 := b9 _ _ (sZ _ _ hR7) (ne_of_none hRW nf)
          have rows9 := (rows7.same sZ).but hfZ b9
          refine ⟨_, rfl, .ref g1, sl ys, rfl, (dpS (SqL.of hg9)), sy, _, rfl, .ref D, sl ys, rfl, (dpS (SqL.of hD9)), sy, eqS rfl ⟨_, rfl, ?_⟩⟩
          rw [strT]
          refine iteT ⟨_, rfl, _, rfl, .ref l, .ref R, false, rfl, .inr ⟨l, xs, rfl, hl9, hi, hm, .inr ⟨R, rs, ps, rfl, hR9, rows9, hp80, fun ys' e' r2 H10 s10 nr2 hr2 => ?_, fun k e' => by rw [e] at e'; cases e'⟩⟩⟩
          obtain rfl : ys = ys' := by rw [e] at e'; cases e'; rfl
          refine ⟨.ref r2, sl ys, rfl, (dpS (SqL.of hr2)), sy, _, rfl, .ref D, sl ys, rfl, (dpS (SqL.of (s10 _ _ hD9))), sy, eqS rfl ⟨_, rfl, ?_⟩⟩
          rw [strT]
          refine iteT ⟨_, rfl, .ref l, sl xs, rfl, dpS (SqL.of (s10 _ _ hl9)), sx, _, rfl, eqS rfl ?_⟩
          rw [strT]
          exact h _ (T9.trans s10)
    · intro k e D H2 s2 nD hD
      have hl2 := s2 _ _ (s1 _ _ hl)
      have hR2 := s2 _ _ hR
      have rows2 := rowsR.same s2
      refine ⟨_, rfl, .ref l, sl xs, rfl, dpS (SqL.of hl2), sx, _, _, _, rfl, ?_⟩
      refine ⟨_, rfl, R, rfl, ⟨_, SqL.of hR2⟩, fun W nW => ?_⟩
      refine lc_list (K := K) (a := R) (xs := rs) (fun i H' => Same H2 H' ∧ H' W = some (.lst ((((ps.map fun q => textW q.1 q.2.1 q.2.2).take i)).map V.str))) ?_ ?_ ?_ ?_
      · exact ⟨Same.new nW, upd_same⟩
      · rintro i Hc _ ⟨sc, _⟩
        exact SqL.of (sc _ _ hR2)
      · rintro i y Hc hy ⟨sc, hc⟩
        obtain ⟨p, dx, way, x, n, rfl, hpi, he, w0, w1, hx⟩ := rows2.get hy
        obtain ⟨_, _, _, hn⟩ := hps.bound _ (List.mem_of_getElem? hpi)
        refine ⟨rfl, _, rfl, p, _, dx, _, rfl, sc _ _ he, (kd_of T w0 (by omega)).rc.cl, prop_text T w0 (by omega), p, dx, way, x, n, rfl, sc _ _ he, w0, by omega, hx, hn, _, hc, ?_, ?_, ?_⟩
        · rw [List.length_map, List.length_take]
          exact Nat.lt_of_le_of_lt (Nat.min_le_left _ _) (Nat.lt_of_lt_of_le (show i < 1000 by have := (List.getElem?_eq_some_iff.mp hpi).1; omega) (by decide))
        · intro c o e0
          rw [upd_ne (ne_of_none e0 nW)]
          exact sc _ _ e0
        · have ti : (ps.map fun q => textW q.1 q.2.1 q.2.2)[i]? = some (textW way x n) := by
            rw [List.getElem?_map, hpi]
            rfl
          rw [upd_same, List.take_add_one, ti, List.map_append]
          rfl
      · rintro HW ⟨sW, hW⟩
        have ltW : rs.length = (ps.map fun q => textW q.1 q.2.1 q.2.2).length := by
          rw [rows2.len]
          exact (List.length_map ..).symm
        rw [ltW, List.take_length] at hW
        have sy : Shows (.tuple [.str "impossible", .int (k : Nat)]) := by rw [e] at sh1; exact sh1
        have sy2 : Shows (.list [.tuple [.str "impossible", .int (k : Nat)], .tuple [.str "impossible", .int (k : Nat)]]) := by rw [e] at sh2; exact sh2
        have hlW := sW _ _ hl2
        have hRW := sW _ _ hR2
        have rowsW := rows2.same sW
        have hDW := sW _ _ hD
        refine ⟨_, rfl, _, rfl, .ref l, .ref R, false, rfl, .inr ⟨l, xs, rfl, hlW, hi, hm, .inr ⟨R, rs, ps, rfl, hRW, rowsW, hp80, fun ys e' => (by rw [e] at e'; cases e'), fun k' e' f1 H4 s4 nf hf => ?_⟩⟩⟩
        obtain rfl : k = k' := by rw [e] at e'; cases e'; rfl
        refine ⟨_, rfl, _, rfl, .ref l, .ref R, true, rfl, .inr ⟨l, xs, rfl, s4 _ _ hlW, hi, hm, .inr ⟨R, rs, ps, rfl, s4 _ _ hRW, rowsW.same s4, hp80, fun ys e' => (by rw [e] at e'; cases e'), fun k' e' g1 H5 s5 ng hg => ?_⟩⟩⟩
        obtain rfl : k = k' := by rw [e] at e'; cases e'; rfl
        refine ⟨_, _, rfl, ?_⟩
        have s45 := s4.trans s5
        refine ⟨_, rfl, _, rfl, Nat.le_of_ble_eq_true rfl, fun a na => ?_⟩
        have u6 := Same.new (o := .lst [.ref f1, .ref g1]) na
        refine ⟨_, .list [.tuple [.str "impossible", .int (k : Nat)], .tuple [.str "impossible", .int (k : Nat)]], rfl, .lst (SqL.of upd_same) (.cons (.tup (SqT.of (u6 _ _ (s5 _ _ hf))) (.cons (.str _) (.cons (.int _) .nil))) (.cons (.tup (SqT.of (u6 _ _ hg)) (.cons (.str _) (.cons (.int _) .nil))) .nil)), sy2, ?_⟩
        refine ⟨_, rfl, _, rfl, Nat.le_of_ble_eq_true rfl, fun b nb => ?_⟩
        have u7 := Same.new (o := .lst [.ref D, .ref D]) nb
        have S7 := s45.trans (u6.trans u7)
        have hD7 := S7 _ _ hDW
        refine ⟨_, .list [.tuple [.str "impossible", .int (k : Nat)], .tuple [.str "impossible", .int (k : Nat)]], rfl, .lst (SqL.of upd_same) (.cons (.tup (SqT.of hD7) (.cons (.str _) (.cons (.int _) .nil))) (.cons (.tup (SqT.of hD7) (.cons (.str _) (.cons (.int _) .nil))) .nil)), sy2, neS rfl ⟨_, rfl, ?_⟩⟩
        rw [strF]
        have hf7 := (s5.trans (u6.trans u7)) _ _ hf
        have hg7 := (u6.trans u7) _ _ hg
        have hl7 := S7 _ _ hlW
        have hR7 := S7 _ _ hRW
        have hW7 := S7 _ _ hW
        have rows7 := rowsW.same S7
        have T7 := (s1.trans s2).trans (sW.trans S7)
        clear u6 u7
        generalize upd (upd H5 a (.lst [.ref f1, .ref g1])) b (.lst [.ref D, .ref D]) = H7 at *
        refine iteF ⟨_, rfl, .ref l, sl xs, rfl, dpS (SqL.of hl7), sx, _, rfl, neS rfl ⟨_, rfl, ?_⟩⟩
        rw [strF]
        refine iteF ⟨_, rfl, R, rfl, ⟨_, SqL.of hR7⟩, fun Z nZ => ?_⟩
        refine lc_list (K := K) (a := R) (xs := rs) (fun i H' => Same H7 H' ∧ H' Z = some (.lst ((((ps.map fun q => textW q.1 q.2.1 q.2.2).take i)).map V.str))) ?_ ?_ ?_ ?_
        · exact ⟨Same.new nZ, upd_same⟩
        · rintro i Hc _ ⟨sc, _⟩
          exact SqL.of (sc _ _ hR7)
        · rintro i y Hc hy ⟨sc, hc⟩
          obtain ⟨p, dx, way, x, n, rfl, hpi, he, w0, w1, hx⟩ := rows7.get hy
          obtain ⟨_, _, _, hn⟩ := hps.bound _ (List.mem_of_getElem? hpi)
          refine ⟨rfl, _, rfl, p, _, dx, _, rfl, sc _ _ he, (kd_of T w0 (by omega)).rc.cl, prop_text T w0 (by omega), p, dx, way, x, n, rfl, sc _ _ he, w0, by omega, hx, hn, _, hc, ?_, ?_, ?_⟩
          · rw [List.length_map, List.length_take]
            exact Nat.lt_of_le_of_lt (Nat.min_le_left _ _) (Nat.lt_of_lt_of_le (show i < 1000 by have := (List.getElem?_eq_some_iff.mp hpi).1; omega) (by decide))
          · intro c o e0
            rw [upd_ne (ne_of_none e0 nZ)]
            exact sc _ _ e0
          · have ti : (ps.map fun q => textW q.1 q.2.1 q.2.2)[i]? = some (textW way x n) := by
              rw [List.getElem?_map, hpi]
              rfl
            rw [upd_same, List.take_add_one, ti, List.map_append]
            rfl
        · rintro HZ ⟨sZ, hZ⟩
          have ltZ : rs.length = (ps.map fun q => textW q.1 q.2.1 q.2.2).length := by
            rw [rows7.len]
            exact (List.length_map ..).symm
          rw [ltZ, List.take_length] at hZ
          have lw : ∀ z ∈ (ps.map fun q => textW q.1 q.2.1 q.2.2), lowS z := fun z hz => by
            obtain ⟨q, hq, rfl⟩ := List.mem_map.mp hz
            obtain ⟨q0, q1, q2, q3⟩ := hps.bound q hq
            exact low_text q0 (by omega) q2 q3
          refine ⟨_, rfl, .inr ⟨_, _, dpS (SqL.of hZ), dpS (SqL.of (sZ _ _ hW7)), shapedT lw, shapedT lw, ?_⟩⟩
          rw [eqvS, decide_eq_true rfl]
          refine ⟨_, rfl, iteF ?_⟩
          have hfZ := sZ _ _ hf7
          have T9 := T7.trans sZ
          refine ⟨_, rfl, _, _, _, _, _, rfl, .ty _, .base (.tup hfZ), kit_ty (r := false) (by decide +kernel), _, rfl, iteF ?_⟩
          have hg9 := sZ _ _ hg7
          have hD9 := sZ _ _ hD7
          have hl9 := sZ _ _ hl7
          have hR9 := sZ _ _ hR7
          have rows9 := rows7.same sZ
          refine ⟨_, rfl, .ref g1, .tuple [.str "impossible", .int (k : Nat)], rfl, (.tup (SqT.of hg9) (.cons (.str _) (.cons (.int _) .nil))), sy, _, rfl, .ref D, .tuple [.str "impossible", .int (k : Nat)], rfl, (.tup (SqT.of hD9) (.cons (.str _) (.cons (.int _) .nil))), sy, eqS rfl ⟨_, rfl, ?_⟩⟩
          rw [strT]
          refine iteT ⟨_, rfl, _, rfl, .ref l, .ref R, false, rfl, .inr ⟨l, xs, rfl, hl9, hi, hm, .inr ⟨R, rs, ps, rfl, hR9, rows9, hp80, fun ys e' => (by rw [e] at e'; cases e'), fun k' e' r2 H10 s10 nr2 hr2 => ?_⟩⟩⟩
          obtain rfl : k = k' := by rw [e] at e'; cases e'; rfl
          refine ⟨.ref r2, .tuple [.str "impossible", .int (k : Nat)], rfl, (.tup (SqT.of hr2) (.cons (.str _) (.cons (.int _) .nil))), sy, _, rfl, .ref D, .tuple [.str "impossible", .int (k : Nat)], rfl, (.tup (SqT.of (s10 _ _ hD9)) (.cons (.str _) (.cons (.int _) .nil))), sy, eqS rfl ⟨_, rfl, ?_⟩⟩
          rw [strT]
          refine iteT ⟨_, rfl, .ref l, sl xs, rfl, dpS (SqL.of (s10 _ _ hl9)), sx, _, rfl, eqS rfl ?_⟩
          rw [strT]
          exact h _ (T9.trans s10)

end
end Own

set_option Elab.async false
set_option linter.all false
set_option maxRecDepth 100000
set_option maxHeartbeats 4000000
namespace Own
open PySem L2 ClX
local macro_rules | `(tactic| walk_at "v") => `(tactic| refine ⟨_, rfl, ?_⟩)
local macro_rules | `(tactic| walk_at "ii") => `(tactic| refine ⟨_, _, rfl, rfl, ?_⟩)
local macro_rules | `(tactic| walk_at "go") => `(tactic| repeat (first | refine ⟨_, rfl, ?_⟩ | refine ⟨_, _, rfl, rfl, ?_⟩ | refine addI ?_ | refine L2.iteT ?_ | refine L2.iteF ?_))

section
variable {P : Program} {w : World} {K : PySem.W.Frag} {mg : Str → Option Value} {base : Heap} {A : Ad}
/-! ### the same records with several lists -/
theorem ok__law_by_turns (T : Txt K mg A) : OkG P w K mg base 10 A.f__law_by_turns ["shelf", "parts"] spRight := by
  refine T.fn__law_by_turns.okG sc__law_by_turns (fun _ _ _ _ _ _ us hl => match us, hl with | [_, _], _ => rfl) (fun vs H Q E h => ?_) (fun cdv B up s H vs Q hr gd h => ?_)
  · obtain ⟨l, pl, xs, ts, ps, rfl, _⟩ := h
    rfl
  · obtain ⟨l, pl, xs, ts, ps, rfl, hl, hi, hm, hpl, hps, hp80, h⟩ := h
    refine ⟨_, (pss_cons (ps_set (i := 2) sc__law_by_turns.nd rfl (Or.inl rfl) (po_call (ok__law_rows T) (hr.mono (by decide)) T.mg__law_rows (pa_cons (pv 1) pa_nil)))
      (pss_cons (ps_for PassesOwn.never rfl (pi_list (pe_lst (pa_cons (pe_revL (pv 0)) (pa_cons (pv 0) (pa_cons (pe_slice sl_list (pv 0) (po_some pe_int) po_none) pa_nil))))) (pg_name (i := 3) sc__law_by_turns.nd rfl (Or.inl rfl))
      (pss_one (ps_if (pt_cmpR (op_neX hr) (pe_callB (call_reprD hr gd) (by rfl) T.no_repr (by decide +kernel) (pa_cons (po_call (ok__law_told T) (hr.mono (by decide)) T.mg__law_told (pa_cons (pv 3) (pa_cons (pv 2) (pa_cons pe_bl pa_nil)))) pa_nil)) (pe_callB (call_reprD hr gd) (by rfl) T.no_repr (by decide +kernel) (pa_cons (po_call (ok__law_due T) (hr.mono (by decide)) T.mg__law_due (pa_cons (pv 3) (pa_cons (pv 1) pa_nil))) pa_nil)) (nomark _)) (pss_one (ps_ret pe_bl)) pss_nil)))
      (pss_one (ps_ret pe_bl)))), ?_⟩
    refine ⟨_, rfl, pl, ts, ps, rfl, hpl, hps, by omega, fun R rs H1 s1 nR hR rowsR => ?_⟩
    refine ⟨_, rfl, l, _, rfl, SqL.of (s1 _ _ hl), fun D1 n1 => ?_⟩
    have er : (xs.map V.str).reverse = xs.reverse.map V.str := List.map_reverse.symm
    rw [er]
    have u1 := Same.new (o := .lst (xs.reverse.map V.str)) n1
    have S1 := s1.trans u1
    refine ⟨_, rfl, _, rfl, _, rfl, l, _, rfl, SqL.of (S1 _ _ hl), fun D2 n2 => ?_⟩
    have c2 : cutV (xs.map V.str) (some (1 : Int)) none = (xs.drop 1).map V.str := cut_from' xs 1
    rw [c2]
    have u2 := Same.new (o := .lst ((xs.drop 1).map V.str)) n2
    refine ⟨Nat.le_of_ble_eq_true rfl, fun L nL => ?_⟩
    have uL := Same.new (o := .lst [.ref D1, .ref l, .ref D2]) nL
    have SL := S1.trans (u2.trans uL)
    have g1 := (u2.trans uL) _ _ upd_same
    have g2 := uL _ _ upd_same
    have goods : ∀ v ∈ ([.ref D1, .ref l, .ref D2] : List V), ∃ (a : Addr) (zs : List Str), v = .ref a ∧ upd _ L (.lst [.ref D1, .ref l, .ref D2]) a = some (.lst (zs.map V.str)) ∧ Items zs ∧ zs.length ≤ 60 := fun v hv => by
      simp only [List.mem_cons, List.not_mem_nil, or_false] at hv
      rcases hv with rfl | rfl | rfl
      · exact ⟨D1, xs.reverse, rfl, g1, hi.perm (List.reverse_perm xs), by rw [List.length_reverse]; exact hm⟩
      · exact ⟨l, xs, rfl, SL _ _ hl, hi, hm⟩
      · exact ⟨D2, xs.drop 1, rfl, g2, ⟨fun x hx => hi.it x (List.mem_of_mem_drop hx), hi.nd.sublist (List.drop_sublist 1 xs)⟩, by rw [List.length_drop]; omega⟩
    have hRL := (u1.trans (u2.trans uL)) _ _ hR
    have rowsL := rowsR.same (u1.trans (u2.trans uL))
    refine ⟨L, rfl, ⟨_, SqL.of upd_same⟩, for_list (a := L) (xs := [.ref D1, .ref l, .ref D2])
      (fun _ σ H' => (∃ v3 : Option V, σ = [some (.ref l), some (.ref pl), some (.ref R), v3]) ∧ Same (upd _ L (.lst [.ref D1, .ref l, .ref D2])) H')
      ⟨⟨_, rfl⟩, Same.refl _⟩ (fun _ σ H _ hw => hw.2.seq (SqL.of upd_same)) ?_ ?_⟩
    · rintro j y σ H4 hy ⟨⟨v3, rfl⟩, s4⟩
      obtain ⟨a, zs, rfl, ha, iz, lz⟩ := goods y (List.mem_of_getElem? hy)
      have fine := fineP hps iz lz hp80
      obtain ⟨sh1, _⟩ := fine.shows
      have key : ∀ (v : V) (H5 : Hp), Same H4 H5 → TlAt H5 v (playL ps 0 zs) → ∀ (v2 : V) (H6 : Hp), Same H5 H6 → TlAt H6 v2 (playL ps 0 zs) → Dp K H5 v (tlE (playL ps 0 zs)) ∧ Dp K H6 v2 (tlE (playL ps 0 zs)) := fun v H5 _ t v2 H6 _ t2 => ⟨t.dp, t2.dp⟩
      cases e : playL ps 0 zs with
      | ok ys =>
        rw [e] at sh1
        refine ⟨_, rfl, _, rfl, .ref a, .ref R, false, rfl, .inr ⟨a, zs, rfl, s4 _ _ ha, iz, lz, .inr ⟨R, rs, ps, rfl, s4 _ _ hRL, rowsL.same s4, hp80, fun ys' e' f1 H5 s5 nf hf => ?_, fun k e' => by rw [e] at e'; cases e'⟩⟩⟩
        obtain rfl : ys = ys' := by rw [e] at e'; cases e'; rfl
        refine ⟨_, sl ys, rfl, dpS (SqL.of hf), sh1, ?_⟩
        refine ⟨_, rfl, _, rfl, a, pl, zs, ts, ps, rfl, s5 _ _ (s4 _ _ ha), iz, lz, s5 _ _ (s4 _ _ (SL _ _ hpl)), hps.same (SL.trans (s4.trans s5)), fun ys2 e2 f2 H6 s6 nf2 hf2 => ?_, fun k e' => by rw [e] at e'; cases e'⟩
        obtain rfl : ys = ys2 := by rw [e] at e2; cases e2; rfl
        refine ⟨_, sl ys, rfl, dpS (SqL.of hf2), sh1, neS rfl ⟨_, rfl, ?_⟩⟩
        rw [strF]
        exact iteF ⟨⟨_, rfl⟩, s4.trans (s5.trans s6)⟩
      | error k =>
        rw [e] at sh1
        refine ⟨_, rfl, _, rfl, .ref a, .ref R, false, rfl, .inr ⟨a, zs, rfl, s4 _ _ ha, iz, lz, .inr ⟨R, rs, ps, rfl, s4 _ _ hRL, rowsL.same s4, hp80, fun ys' e' => (by rw [e] at e'; cases e'), fun k' e' f1 H5 s5 nf hf => ?_⟩⟩⟩
        obtain rfl : k = k' := by rw [e] at e'; cases e'; rfl
        refine ⟨_, .tuple [.str "impossible", .int (k : Nat)], rfl, .tup (SqT.of hf) (.cons (.str _) (.cons (.int _) .nil)), sh1, ?_⟩
        refine ⟨_, rfl, _, rfl, a, pl, zs, ts, ps, rfl, s5 _ _ (s4 _ _ ha), iz, lz, s5 _ _ (s4 _ _ (SL _ _ hpl)), hps.same (SL.trans (s4.trans s5)), fun ys2 e2 => (by rw [e] at e2; cases e2), fun k2 e2 f2 H6 s6 nf2 hf2 => ?_⟩
        obtain rfl : k = k2 := by rw [e] at e2; cases e2; rfl
        refine ⟨_, .tuple [.str "impossible", .int (k : Nat)], rfl, .tup (SqT.of hf2) (.cons (.str _) (.cons (.int _) .nil)), sh1, neS rfl ⟨_, rfl, ?_⟩⟩
        rw [strF]
        exact iteF ⟨⟨_, rfl⟩, s4.trans (s5.trans s6)⟩
    · rintro σ H4 ⟨⟨v3, rfl⟩, s4⟩
      exact h _ (SL.trans s4)

end
end Own

set_option Elab.async false
set_option linter.all false
set_option maxRecDepth 100000
set_option maxHeartbeats 4000000
namespace Own
open PySem L2 ClX
local macro_rules | `(tactic| walk_at "v") => `(tactic| refine ⟨_, rfl, ?_⟩)
local macro_rules | `(tactic| walk_at "ii") => `(tactic| refine ⟨_, _, rfl, rfl, ?_⟩)
local macro_rules | `(tactic| walk_at "go") => `(tactic| repeat (first | refine ⟨_, rfl, ?_⟩ | refine ⟨_, _, rfl, rfl, ?_⟩ | refine addI ?_ | refine L2.iteT ?_ | refine L2.iteF ?_))

section
variable {P : Program} {w : World} {K : PySem.W.Frag} {mg : Str → Option Value} {base : Heap} {A : Ad}
/-! ### parts, changed -/
def pd (q : Int × Str × Nat) : PyData := .tuple [.int q.1, .str q.2.1, .int (q.2.2 : Nat)]
theorem Parts.dpAll {H : Hp} {vs : List V} {ps : List (Int × Str × Nat)} (h : Parts H vs ps) : DpAll K H vs (ps.map pd) := by
  induction h with
  | nil => exact .nil
  | cons e _ _ _ _ _ ih => exact .cons (.tup (SqT.of e) (.cons (.int _) (.cons (.str _) (.cons (.int _) .nil)))) ih
theorem layP : ∀ ps : List (Int × Str × Nat), (∀ q ∈ ps, isItem q.2.1 = true) → PyData.canLayAll0 (ps.map pd) = true
  | [], _ => by simp [PyData.canLayAll0]
  | q :: ps, h => by
    have ih := layP ps fun y hy => h y (List.mem_cons_of_mem _ hy)
    have hx : PyData.strOk q.2.1 = true := by
      unfold PyData.strOk
      rw [Array.all_eq_true']
      intro c hc
      have := item_chars (h q List.mem_cons_self) c (Array.mem_toList_iff.mpr hc)
      exact decide_eq_true (by omega)
    simp only [List.map_cons, pd, PyData.canLayAll0, PyData.canLay0, ih, hx, Bool.and_self]
theorem depthP : ∀ ps : List (Int × Str × Nat), PyData.depthAll (ps.map pd) ≤ 1
  | [] => by simp [PyData.depthAll]
  | q :: ps => by
    have := depthP ps
    simp only [List.map_cons, pd, PyData.depthAll, PyData.depth]
    omega
theorem shapedP {ps : List (Int × Str × Nat)} (h : ∀ q ∈ ps, isItem q.2.1 = true) : SeqAt.shaped (.list (ps.map pd)) = true := by
  have d := depthP ps
  unfold SeqAt.shaped
  simp only [PyData.canLay0, layP ps h, PyData.depth, Bool.true_and]
  exact decide_eq_true (by omega)
theorem eqvP0 (ps : List (Int × Str × Nat)) : PyData.eqv (.list (ps.map pd)) (.list []) = decide (ps = []) := by
  cases ps with
  | nil => simp [PyData.eqv, PyData.eqvAll]
  | cons q ps => simp [PyData.eqv, PyData.eqvAll]
theorem Parts.take {H : Hp} {vs : List V} {ps : List (Int × Str × Nat)} (h : Parts H vs ps) : ∀ k : Nat, Parts H (vs.take k) (ps.take k) := by
  induction h with
  | nil => intro k; rw [List.take_nil, List.take_nil]; exact .nil
  | cons e h0 h1 hx hn _ ih =>
    intro k
    cases k with
    | zero => exact .nil
    | succ k => exact .cons e h0 h1 hx hn (ih k)
theorem Parts.drop {H : Hp} {vs : List V} {ps : List (Int × Str × Nat)} (h : Parts H vs ps) : ∀ k : Nat, Parts H (vs.drop k) (ps.drop k) := by
  induction h with
  | nil => intro k; rw [List.drop_nil, List.drop_nil]; exact .nil
  | cons e h0 h1 hx hn t ih =>
    intro k
    cases k with
    | zero => exact .cons e h0 h1 hx hn t
    | succ k => exact ih k
theorem Parts.but {H H' : Hp} {p : Addr} {n : Int} {vs : List V} {ps : List (Int × Str × Nat)} (h : Parts H vs ps) (s : SrcAt H p n) (b : But p H H') : Parts H' vs ps := by
  induction h with
  | nil => exact .nil
  | cons e h0 h1 hx hn _ ih =>
    refine .cons (b _ _ e fun z => ?_) h0 h1 hx hn ih
    obtain ⟨g, m', c, z2, _⟩ := s
    rw [z, z2] at e
    cases e
theorem cutV_to (xs : List V) (k : Nat) : cutV xs none (some (k : Int)) = xs.take k := by
  unfold cutV
  rw [HT.sIx_none, HT.sIx_nat, List.drop_zero, Nat.sub_zero]
  rcases Nat.lt_or_ge xs.length k with h | h
  · rw [Nat.min_eq_right (Nat.le_of_lt h), List.take_of_length_le (Nat.le_refl _), List.take_of_length_le (Nat.le_of_lt h)]
  · rw [Nat.min_eq_left h]
theorem cutV_from (xs : List V) (k : Nat) : cutV xs (some (k : Int)) none = xs.drop k := by
  unfold cutV
  rw [HT.sIx_none, HT.sIx_nat]
  rcases Nat.lt_or_ge xs.length k with h | h
  · rw [Nat.min_eq_right (Nat.le_of_lt h), List.drop_of_length_le (show xs.length ≤ k by omega), Nat.sub_self, List.take_zero]
  · rw [Nat.min_eq_left h, List.take_of_length_le (by rw [List.length_drop]; exact Nat.le_refl _)]
/-- the source and the parts, while numbers are drawn -/
structure Cg (H0 H : Hp) (p pl : Addr) (m : Int) (ts : List V) (ps : List (Int × Str × Nat)) : Prop where
  b : But p H0 H
  s : SrcAt H p m
  l : H pl = some (.lst ts)
  q : Parts H ts ps
  ne : pl ≠ p
theorem Cg.more {H0 H H' : Hp} {p pl : Addr} {m : Int} {ts : List V} {ps : List (Int × Str × Nat)} (c : Cg H0 H p pl m ts ps) (s : Same H H') : Cg H0 H' p pl m ts ps :=
  ⟨c.b.trans (But.same s), c.s.same s, s _ _ c.l, c.q.same s, c.ne⟩
theorem Cg.pick {H0 H H' : Hp} {p pl : Addr} {m k : Int} {ts : List V} {ps : List (Int × Str × Nat)} (c : Cg H0 H p pl m ts ps) (b : But p H H') (s : SrcAt H' p k) : Cg H0 H' p pl k ts ps :=
  ⟨c.b.trans b, s, b _ _ c.l c.ne, c.q.but c.s b, c.ne⟩
theorem at_new {H : Hp} {a : Addr} {o : HO} (_ : Same H (upd H a o)) : upd H a o a = some o := upd_same
theorem some3 {H : Hp} {t1 t3 t4 : Addr} {q1 q3 q4 : Int × Str × Nat} (h1 : Parts H [.ref t1] [q1]) (h3 : Parts H [.ref t3] [q3]) (h4 : Parts H [.ref t4] [q4]) {r : Nat} (hr : r < 3) : ∃ t q, ([.ref t1, .ref t3, .ref t4] : List V)[r]? = some (.ref t) ∧ Parts H [.ref t] [q] := by
  rcases (show r = 0 ∨ r = 1 ∨ r = 2 by omega) with rfl | rfl | rfl
  · exact ⟨_, _, rfl, h1⟩
  · exact ⟨_, _, rfl, h3⟩
  · exact ⟨_, _, rfl, h4⟩
def spChanged : Sp := fun vs H Q _ => ∃ (p pl : Addr) (n : Int) (ts : List V) (ps : List (Int × Str × Nat)), vs = [.ref p, .ref pl] ∧ SrcAt H p n ∧ n < 2 ^ 48 ∧ pl ≠ p ∧ H pl = some (.lst ts) ∧ Parts H ts ps ∧ ps.length ≤ 80 ∧
  ∀ (D : Addr) (ts' : List V) (ps' : List (Int × Str × Nat)) (H' : Hp), But p H H' → SrcAt H' p (n + 4) → D ≠ p → H' D = some (.lst ts') → Parts H' ts' ps' → ps'.length ≤ 80 → Q (.ref D) H'
theorem ok__law_changed (T : Txt K mg A) : Ok1 P w K mg base 2 A.f__law_changed ["source", "parts"] spChanged := by
  refine T.fn__law_changed.ok sc__law_changed (fun _ _ _ _ _ _ us hl => match us, hl with | [_, _], _ => rfl) (fun vs H Q E h => ?_) (fun cdv B up s H vs Q E hr h => ?_)
  · obtain ⟨p, pl, n, ts, ps, rfl, _⟩ := h
    rfl
  · obtain ⟨p, pl, n, ts, ps, rfl, hs, hn, hne, hpl, hps, hm, h⟩ := h
    refine ⟨_, (pss_cons (ps_if (pt_cmpR (op_eqX hr) (pv 1) (pe_lst pa_nil) (nomark _)) (pss_one (ps_ret (pe_lst (pa_cons (pe_tup (pa_cons (po_call (ok__law_pick T) (hr.mono (by decide)) T.mg__law_pick (pa_cons (pv 0) (pa_cons pe_int pa_nil))) (pa_cons pe_str (pa_cons (po_call (ok__law_pick T) (hr.mono (by decide)) T.mg__law_pick (pa_cons (pv 0) (pa_cons pe_int pa_nil))) pa_nil)))) pa_nil)))) pss_nil)
      (pss_cons (ps_par (i := 2) (j := 3) (by rfl) sc__law_changed.nd rfl rfl (by decide) rfl rfl (pa_cons (po_call (ok__law_pick T) (hr.mono (by decide)) T.mg__law_pick (pa_cons (pv 0) (pa_cons (pe_callB call_len (by rfl) T.no_len (by decide +kernel) (pa_cons (pv 1) pa_nil)) pa_nil))) (pa_cons (po_call (ok__law_pick T) (hr.mono (by decide)) T.mg__law_pick (pa_cons (pv 0) (pa_cons (pe_callB call_len (by rfl) T.no_len (by decide +kernel) (pa_cons (pv 1) pa_nil)) pa_nil))) pa_nil)) (by rfl))
      (pss_cons (ps_asg (pe_ix ix_seq (pv 1) (pv 2) (fun _ _ => rfl)) (pg_tup (by rfl) (pgs_cons (pg_name (i := 4) sc__law_changed.nd rfl (Or.inl rfl)) (pgs_cons (pg_name (i := 5) sc__law_changed.nd rfl (Or.inl rfl)) (pgs_cons (pg_name (i := 6) sc__law_changed.nd rfl (Or.inl rfl)) pgs_nil)))))
      (pss_cons (ps_set (i := 7) sc__law_changed.nd rfl (Or.inl rfl) (pe_callB (call_min2 rfl) (by rfl) T.no_min (by decide +kernel) (pa_cons pe_int (pa_cons (pe_callB (call_max2 rfl) (by rfl) T.no_max (by decide +kernel) (pa_cons pe_int (pa_cons (pe_op op_sub (pe_op op_addX (pv 6) (po_call (ok__law_pick T) (hr.mono (by decide)) T.mg__law_pick (pa_cons (pv 0) (pa_cons pe_int pa_nil)))) pe_int) pa_nil))) pa_nil))))
      (pss_cons (ps_set (i := 8) sc__law_changed.nd rfl (Or.inl rfl) (pe_lst (pa_cons (pe_tup (pa_cons (pv 4) (pa_cons (pv 5) (pa_cons (pv 7) pa_nil)))) (pa_cons (pe_tup (pa_cons (pe_op op_mod (pe_op op_addX (pv 4) pe_int) pe_int) (pa_cons (pv 5) (pa_cons (pv 6) pa_nil)))) (pa_cons (pe_tup (pa_cons (pv 4) (pa_cons (pe_ix ix_seq (pe_ix ix_seq (pv 1) (pv 3) (fun _ _ => rfl)) pe_int (fun _ _ => rfl)) (pa_cons (pv 6) pa_nil)))) pa_nil)))))
      (pss_cons (ps_set (i := 9) sc__law_changed.nd rfl (Or.inl rfl) (po_call (ok__law_pick T) (hr.mono (by decide)) T.mg__law_pick (pa_cons (pv 0) (pa_cons pe_int pa_nil))))
      (pss_cons (ps_if (pt_cmpR op_lt (pv 9) pe_int (nomark _)) (pss_one (ps_ret (pe_op op_addX (pe_op op_addX (pe_slice sl_list (pv 1) po_none (po_some (pv 2))) (pe_lst (pa_cons (pe_ix ix_seq (pv 8) (pv 9) (fun _ _ => rfl)) pa_nil))) (pe_slice sl_list (pv 1) (po_some (pe_op op_addX (pv 2) pe_int)) po_none)))) pss_nil)
      (pss_cons (ps_set (i := 10) sc__law_changed.nd rfl (Or.inl rfl) (pe_op op_addX (pe_slice sl_list (pv 1) po_none (po_some (pv 2))) (pe_slice sl_list (pv 1) (po_some (pe_op op_addX (pv 2) pe_int)) po_none)))
      (pss_cons (ps_if (pt_cmpR (op_eqX hr) (pv 9) pe_int (nomark _)) (pss_one (ps_ret (pv 10))) pss_nil)
      (pss_one (ps_ret (pe_ifExp (pt_cmpR (op_eqX hr) (pv 9) pe_int (nomark _)) (pe_op op_addX (pe_op op_addX (pe_slice sl_list (pv 10) po_none (po_some (pv 3))) (pe_lst (pa_cons (pe_ix ix_seq (pv 1) (pv 2) (fun _ _ => rfl)) pa_nil))) (pe_slice sl_list (pv 10) (po_some (pv 3)) po_none)) (pe_slice sl_list (pe_op op_addX (pe_slice sl_list (pv 1) po_none (po_some (pe_op op_addX (pv 2) pe_int))) (pe_slice sl_list (pv 1) (po_some (pv 2)) po_none)) po_none (po_some pe_int)))))))))))))), ?_⟩
    have ll := hps.len
    have zi : isItem "zzz" = true := by decide +kernel
    have big : 1000 < sizeLine := by decide
    refine ⟨_, rfl, Nat.zero_le _, fun o no => .inr ⟨.list (ps.map pd), .list [], .lst (SqL.of ((Same.new no) _ _ hpl)) (hps.same (Same.new no)).dpAll, .lst (SqL.of upd_same) .nil, shapedP hps.items, by decide +kernel, ?_⟩⟩
    rw [eqvP0]
    have c0 : Cg H (upd H o (.lst [])) p pl n ts ps := (Cg.mk But.refl hs hpl hps hne).more (Same.new no)
    generalize upd H o (.lst []) = H0 at c0 ⊢
    clear no hs hpl hps
    refine ⟨_, rfl, ?_⟩
    by_cases e : ps = []
    · rw [decide_eq_true e]
      refine iteT ⟨_, rfl, p, 3, n, rfl, by decide, by decide, c0.s, by omega, fun r1 H1 a0 a1 a2 a3 => ?_⟩
      refine ⟨_, rfl, p, 3, n + 1, rfl, by decide, by decide, a2, by omega, fun r2 H2 b0 b1 b2 b3 => ?_⟩
      obtain ⟨k, rfl⟩ : ∃ k : Nat, r2 = k := ⟨r2.toNat, by omega⟩
      refine ⟨Nat.le_of_ble_eq_true rfl, fun t nt => ⟨Nat.le_of_ble_eq_true rfl, fun D nD => ?_⟩⟩
      have s1 := Same.new (o := .tup [.int r1, .str "zzz", .int (k : Nat)]) nt
      have s2 := Same.new (o := .lst [.ref t]) nD
      exact h D [.ref t] [(r1, "zzz", k)] _ (((c0.b.trans a3).trans b3).trans (But.same (s1.trans s2))) ((b2.same (s1.trans s2)).le (by omega)) ((b2.same s1).ne nD) upd_same (.cons (s2 _ _ upd_same) a0 (by omega) zi (by omega) .nil) (Nat.le_of_ble_eq_true rfl)
    · rw [decide_eq_false e]
      have pos : 0 < ps.length := List.length_pos_iff.mpr e
      refine iteF ⟨_, rfl, _, rfl, _, _, rfl, .inl ⟨_, SqL.of c0.l, rfl⟩, p, (ts.length : Nat), n, rfl, by omega, by omega, c0.s, by omega, fun r1 H1 a0 a1 a2 a3 => ?_⟩
      have c1 := c0.pick a3 a2
      refine ⟨_, rfl, _, rfl, _, _, rfl, .inl ⟨_, SqL.of c1.l, rfl⟩, p, (ts.length : Nat), n + 1, rfl, by omega, by omega, c1.s, by omega, fun r2 H2 b0 b1 b2 b3 => ?_⟩
      have c2 := c1.pick b3 b2
      clear c0 c1 a2 a3 b2 b3
      refine ⟨_, _, rfl, ?_⟩
      obtain ⟨i, rfl⟩ : ∃ k : Nat, r1 = k := ⟨r1.toNat, by omega⟩
      obtain ⟨j, rfl⟩ : ∃ k : Nat, r2 = k := ⟨r2.toNat, by omega⟩
      have hi : i < ts.length := by omega
      have hj : j < ts.length := by omega
      obtain ⟨t, way, x, m, et, hpi, ht, w0, w1, hx, hm2⟩ := c2.q.get (List.getElem?_eq_getElem hi)
      obtain ⟨t2, way2, x2, m2, et2, hpj, ht2, _, _, hx2, _⟩ := c2.q.get (List.getElem?_eq_getElem hj)
      have ei : ts[i]? = some (.ref t) := by rw [List.getElem?_eq_getElem hi, et]
      have ej : ts[j]? = some (.ref t2) := by rw [List.getElem?_eq_getElem hj, et2]
      refine ⟨_, rfl, _, rfl, ixL c2.l (atI_nat ei) ?_⟩
      refine ⟨t, _, rfl, SqT.of ht, rfl, _, _, rfl, _, _, rfl, _, _, rfl, rfl, ?_⟩
      refine ⟨_, rfl, _, rfl, p, 3, n + 1 + 1, rfl, by decide, by decide, c2.s, by omega, fun r3 H3 d0 d1 d2 d3 => ?_⟩
      have c3 := c2.pick d3 d2
      have ht3 : H3 t2 = some (.tup [.int way2, .str x2, .int (m2 : Nat)]) := by
        refine d3 _ _ ht2 fun z => ?_
        obtain ⟨g, m', c, z2, _⟩ := c2.s
        rw [z, z2] at ht2
        cases ht2
      clear c2 d2 d3
      refine addI ⟨_, _, rfl, rfl, _, _, rfl, _, _, rfl, ?_⟩
      obtain ⟨k, ek, hk⟩ : ∃ k : Nat, (if (if (m : Nat) + r3 - 1 > 0 then (m : Nat) + r3 - 1 else 0) < 60 then (if (m : Nat) + r3 - 1 > 0 then (m : Nat) + r3 - 1 else 0) else (60 : Int)) = (k : Int) ∧ k ≤ 60 := by
        refine ⟨(if (if (m : Nat) + r3 - 1 > 0 then (m : Nat) + r3 - 1 else 0) < 60 then (if (m : Nat) + r3 - 1 > 0 then (m : Nat) + r3 - 1 else 0) else (60 : Int)).toNat, ?_, ?_⟩
        · split <;> split <;> omega
        · split <;> split <;> omega
      rw [ek]
      refine ⟨_, rfl, _, rfl, _, rfl, Nat.le_of_ble_eq_true rfl, fun t1 n1 => ?_⟩
      have u1 := Same.new (o := .tup [.int way, .str x, .int (k : Nat)]) n1
      refine ⟨_, rfl, addI ⟨_, _, rfl, rfl, (by show (0 : Int) < 3; decide), _, rfl, _, rfl, Nat.le_of_ble_eq_true rfl, fun t3 n3 => ?_⟩⟩
      have u3 := Same.new (o := .tup [.int ((way + 1) % 3), .str x, .int (m : Nat)]) n3
      have u13 := u1.trans u3
      have c4 := c3.more u13
      refine ⟨_, rfl, _, rfl, _, rfl, ixL c4.l (atI_nat ej) (ixT (u13 _ _ ht3) (atI_nat (j := 1) rfl) ⟨_, rfl, Nat.le_of_ble_eq_true rfl, fun t4 n4 => ?_⟩)⟩
      have u4 := Same.new (o := .tup [.int way, .str x2, .int (m : Nat)]) n4
      refine ⟨Nat.le_of_ble_eq_true rfl, fun L nL => ?_⟩
      have uL := Same.new (o := .lst [.ref t1, .ref t3, .ref t4]) nL
      have c5 := c4.more (u4.trans uL)
      have Lp : L ≠ p := ((c4.more u4).s).ne nL
      have hL := at_new uL
      have three := fun (r : Nat) (hr : r < 3) => some3 (.cons ((u3.trans (u4.trans uL)) _ _ upd_same) w0 w1 hx hk .nil) (.cons (way := (way + 1) % 3) ((u4.trans uL) _ _ upd_same) (by omega) (by omega) hx hm2 .nil) (.cons (uL _ _ upd_same) w0 w1 hx2 hm2 .nil) hr
      clear c3 c4 ht3 u1 u3 u13 u4 uL n1 n3 n4 nL
      refine ⟨_, rfl, p, 6, n + 1 + 1 + 1, rfl, by decide, by decide, c5.s, by omega, fun r4 H6 e0 e1 e2 e3 => ?_⟩
      have c6 := c5.pick e3 e2
      have hL6 := e3 _ _ hL Lp
      obtain ⟨r, rfl⟩ : ∃ k : Nat, r4 = k := ⟨r4.toNat, by omega⟩
      have sz : ∀ {us : List V}, us.length ≤ 1000 → us.length ≤ sizeLine := fun q => Nat.le_trans q (by decide)
      refine ⟨_, rfl, _, _, rfl, rfl, _, rfl, ite2 (fun c => ?_) (fun c => ?_)⟩
      · have c' := of_decide_eq_true c
        obtain ⟨t5, q5, er, p5⟩ := three r (by omega)
        have p6 := p5.but c5.s e3
        refine ⟨_, rfl, _, rfl, _, rfl, pl, _, rfl, SqL.of c6.l, fun D1 n1 => ?_⟩
        rw [cutV_to]
        have u1 := Same.new (o := .lst (ts.take i)) n1
        refine ⟨_, rfl, _, rfl, ixL (u1 _ _ hL6) (atI_nat er) ⟨Nat.le_of_ble_eq_true rfl, fun D2 n2 => ?_⟩⟩
        have u2 := Same.new (o := .lst [.ref t5]) n2
        refine addL (u2 _ _ upd_same) upd_same (by rw [List.length_take]; exact Nat.le_trans (show _ ≤ 1000 by simp; omega) (by decide)) fun D3 n3 => ?_
        have u3 := Same.new (o := .lst (ts.take i ++ [.ref t5])) n3
        have u123 := u1.trans (u2.trans u3)
        refine ⟨_, rfl, _, rfl, addI ⟨_, rfl, pl, _, rfl, SqL.of (u123 _ _ c6.l), fun D4 n4 => ?_⟩⟩
        rw [show ((i : Nat) : Int) + 1 = ((i + 1 : Nat) : Int) from rfl, cutV_from]
        have u4 := Same.new (o := .lst (ts.drop (i + 1))) n4
        refine addL (u4 _ _ upd_same) upd_same (by rw [List.length_append, List.length_take, List.length_drop]; exact Nat.le_trans (show _ ≤ 1000 by simp; omega) (by decide)) fun D5 n5 => ?_
        have u5 := Same.new (o := .lst (ts.take i ++ [.ref t5] ++ ts.drop (i + 1))) n5
        have c7 := c6.more (u123.trans (u4.trans u5))
        refine h D5 _ _ _ c7.b (c7.s.le (by omega)) ((c6.more (u123.trans u4)).s.ne n5) upd_same (((c7.q.take i).app (p6.same (u123.trans (u4.trans u5)))).app (c7.q.drop (i + 1))) ?_
        rw [List.length_append, List.length_append, List.length_take, List.length_drop]
        simp
        omega
      · refine ⟨_, rfl, _, rfl, _, rfl, pl, _, rfl, SqL.of c6.l, fun D1 n1 => ?_⟩
        rw [cutV_to]
        have u1 := Same.new (o := .lst (ts.take i)) n1
        refine ⟨_, rfl, _, rfl, addI ⟨_, rfl, pl, _, rfl, SqL.of (u1 _ _ c6.l), fun D2 n2 => ?_⟩⟩
        rw [show ((i : Nat) : Int) + 1 = ((i + 1 : Nat) : Int) from rfl, cutV_from]
        have u2 := Same.new (o := .lst (ts.drop (i + 1))) n2
        refine addL (u2 _ _ upd_same) upd_same (by rw [List.length_take, List.length_drop]; exact Nat.le_trans (show _ ≤ 1000 by omega) (by decide)) fun D3 n3 => ?_
        have u3 := Same.new (o := .lst (ts.take i ++ ts.drop (i + 1))) n3
        have c7 := c6.more (u1.trans (u2.trans u3))
        have hR := at_new u3
        have Rp : D3 ≠ p := (c6.more (u1.trans u2)).s.ne n3
        have qR := (c7.q.take i).app (c7.q.drop (i + 1))
        have lR : (ps.take i ++ ps.drop (i + 1)).length < 80 := by
          rw [List.length_append, List.length_take, List.length_drop]
          omega
        have lT : (ts.take i ++ ts.drop (i + 1)).length < 80 := by
          rw [List.length_append, List.length_take, List.length_drop]
          omega
        clear u1 u2 u3 n1 n2 n3 hL6 hL three
        refine ⟨_, rfl, eqS rfl ⟨_, rfl, ite2 (fun _ => ?_) (fun _ => ?_)⟩⟩
        · exact ⟨_, rfl, h D3 _ _ _ c7.b (c7.s.le (by omega)) Rp hR qR (by omega)⟩
        refine ⟨_, rfl, eqS rfl ⟨_, rfl, ite2 (fun _ => ?_) (fun _ => ?_)⟩⟩
        · refine ⟨_, rfl, _, rfl, _, rfl, D3, _, rfl, SqL.of hR, fun E1 m1 => ?_⟩
          rw [cutV_to]
          have v1 := Same.new (o := .lst ((ts.take i ++ ts.drop (i + 1)).take j)) m1
          refine ⟨_, rfl, _, rfl, ixL (v1 _ _ c7.l) (atI_nat ei) ⟨Nat.le_of_ble_eq_true rfl, fun E2 m2 => ?_⟩⟩
          have v2 := Same.new (o := .lst [.ref t]) m2
          refine addL (v2 _ _ upd_same) upd_same (by rw [List.length_take]; exact Nat.le_trans (show _ ≤ 1000 by simp; omega) (by decide)) fun E3 m3 => ?_
          have v3 := Same.new (o := .lst ((ts.take i ++ ts.drop (i + 1)).take j ++ [.ref t])) m3
          have v123 := v1.trans (v2.trans v3)
          refine ⟨_, rfl, _, rfl, _, rfl, D3, _, rfl, SqL.of (v123 _ _ hR), fun E4 m4 => ?_⟩
          rw [cutV_from]
          have v4 := Same.new (o := .lst ((ts.take i ++ ts.drop (i + 1)).drop j)) m4
          refine addL (v4 _ _ upd_same) upd_same (by rw [List.length_append, List.length_take, List.length_drop]; exact Nat.le_trans (show _ ≤ 1000 by simp; omega) (by decide)) fun E5 m5 => ?_
          have v5 := Same.new (o := .lst ((ts.take i ++ ts.drop (i + 1)).take j ++ [.ref t] ++ (ts.take i ++ ts.drop (i + 1)).drop j)) m5
          have v := v123.trans (v4.trans v5)
          have c8 := c7.more v
          have qR8 := qR.same v
          obtain ⟨t', way', x', m', et', _, ht', w0', w1', hx', hm'⟩ := c8.q.get ei
          obtain rfl : t = t' := by injection et'
          refine h E5 _ _ _ c8.b (c8.s.le (by omega)) ((c7.more (v123.trans v4)).s.ne m5) upd_same (((qR8.take j).app (.cons ht' w0' w1' hx' hm' .nil)).app (qR8.drop j)) ?_
          rw [List.length_append, List.length_append, List.length_take, List.length_drop]
          simp only [List.length_singleton]
          omega
        · refine ⟨_, rfl, _, rfl, addI ⟨_, rfl, pl, _, rfl, SqL.of c7.l, fun E1 m1 => ?_⟩⟩
          rw [show ((i : Nat) : Int) + 1 = ((i + 1 : Nat) : Int) from rfl, cutV_to]
          have v1 := Same.new (o := .lst (ts.take (i + 1))) m1
          refine ⟨_, rfl, _, rfl, _, rfl, pl, _, rfl, SqL.of (v1 _ _ c7.l), fun E2 m2 => ?_⟩
          rw [cutV_from]
          have v2 := Same.new (o := .lst (ts.drop i)) m2
          refine addL (v2 _ _ upd_same) upd_same (by rw [List.length_take, List.length_drop]; exact Nat.le_trans (show _ ≤ 1000 by omega) (by decide)) fun E3 m3 => ?_
          have v3 := Same.new (o := .lst (ts.take (i + 1) ++ ts.drop i)) m3
          refine ⟨_, rfl, E3, _, rfl, SqL.of upd_same, fun E4 m4 => ?_⟩
          rw [show (80 : Int) = ((80 : Nat) : Int) from rfl, cutV_to]
          have v4 := Same.new (o := .lst ((ts.take (i + 1) ++ ts.drop i).take 80)) m4
          have c8 := c7.more (v1.trans (v2.trans (v3.trans v4)))
          refine h E4 _ _ _ c8.b (c8.s.le (by omega)) ((c7.more (v1.trans (v2.trans v3))).s.ne m4) upd_same (((c8.q.take (i + 1)).app (c8.q.drop i)).take 80) ?_
          rw [List.length_take]
          omega

end
end Own

set_option Elab.async false
set_option linter.all false
set_option maxRecDepth 100000
set_option maxHeartbeats 4000000
namespace Own
open PySem L2 ClX
local macro_rules | `(tactic| walk_at "v") => `(tactic| refine ⟨_, rfl, ?_⟩)
local macro_rules | `(tactic| walk_at "ii") => `(tactic| refine ⟨_, _, rfl, rfl, ?_⟩)
local macro_rules | `(tactic| walk_at "go") => `(tactic| repeat (first | refine ⟨_, rfl, ?_⟩ | refine ⟨_, _, rfl, rfl, ?_⟩ | refine addI ?_ | refine L2.iteT ?_ | refine L2.iteF ?_))

section
variable {P : Program} {w : World} {K : PySem.W.Frag} {mg : Str → Option Value} {base : Heap} {A : Ad}
/-! ### objects that are no lists of items -/
def rem (p : Addr) (H : Hp) : Hp := fun c => if c = p then none else H c
theorem rem_at {p D : Addr} {H : Hp} {o : HO} (d : D ≠ p) (e : H D = some o) : rem p H D = some o := by
  unfold rem
  rw [if_neg d]
  exact e
theorem rem_of {p D : Addr} {H : Hp} {o : HO} (e : rem p H D = some o) : D ≠ p ∧ H D = some o := by
  unfold rem at e
  by_cases d : D = p
  · rw [if_pos d] at e
    cases e
  · rw [if_neg d] at e
    exact ⟨d, e⟩
theorem rem_same {p : Addr} {H H' : Hp} (s : Same H H') : Same (rem p H) (rem p H') := fun c o e => let ⟨d, e⟩ := rem_of e; rem_at d (s _ _ e)
theorem rem_but {p : Addr} {H H' : Hp} (b : But p H H') : Same (rem p H) H' := fun c o e => let ⟨d, e⟩ := rem_of e; b _ _ e d
theorem rem_rem {p : Addr} {H H' : Hp} (b : But p H H') : Same (rem p H) (rem p H') := fun c o e => let ⟨d, e⟩ := rem_of e; rem_at d (b _ _ e d)
theorem Thing.same {H H' : Hp} {v : V} {b : Bool} (h : Thing K H v b) (s : Same H H') : Thing K H' v b := by
  cases h with
  | no ty k => exact .no (ty.same s) k
  | lst e m z => exact .lst (s _ _ e) m (z.same s)
theorem Thing.bad {H : Hp} {l : Addr} {vs : List V} {os : List (Option Str)} (e : H l = some (.lst vs)) (m : vs.length ≤ 4000) (z : Ents K H vs os) (h : (decide (os.length ≤ 60) && (os.all itemO && decide (os.filterMap id).Nodup)) = false) : Thing K H (.ref l) false := h ▸ .lst e m z
/-- all of them are no lists of items -/
def Bads (K : PySem.W.Frag) (p : Addr) (H : Hp) (vs : List V) : Prop := ∀ v ∈ vs, Thing K (rem p H) v false
theorem Bads.push {p : Addr} {H H' : Hp} {vs : List V} {v : V} (h : Bads K p H vs) (s : Same H H') (t : Thing K (rem p H') v false) : Bads K p H' (vs ++ [v]) := fun u hu => by
  rcases List.mem_append.mp hu with hu | hu
  · exact (h u hu).same (rem_same s)
  · rw [List.mem_singleton.mp hu]
    exact t
theorem Bads.same {p : Addr} {H H' : Hp} {vs : List V} (h : Bads K p H vs) (s : Same H H') : Bads K p H' vs := fun u hu => (h u hu).same (rem_same s)
theorem Bads.app {p : Addr} {H : Hp} {vs ws : List V} (h : Bads K p H vs) (g : Bads K p H ws) : Bads K p H (vs ++ ws) := fun u hu => (List.mem_append.mp hu).elim (h u) (g u)
theorem Same.new2 {H : Hp} {a : Addr} {o o' : HO} (h : H a = none) : Same H (upd (upd H a o) a o') := fun b u e => by
  rw [upd_ne (ne_of_none e h), upd_ne (ne_of_none e h)]
  exact e
theorem bad_tail {xs : List Str} {o : Option Str} (h : itemO o = false) : (decide ((xs.map some ++ [o]).length ≤ 60) && ((xs.map some ++ [o]).all itemO && decide ((xs.map some ++ [o]).filterMap id).Nodup)) = false := by
  simp [h]
theorem bad_head {xs : List Str} {o : Option Str} (h : itemO o = false) : (decide ((o :: xs.map some).length ≤ 60) && ((o :: xs.map some).all itemO && decide ((o :: xs.map some).filterMap id).Nodup)) = false := by
  simp [h]
theorem bad_zz {xs : List Str} {x : Str} : (decide ((xs.map some ++ [some x, some x]).length ≤ 60) && ((xs.map some ++ [some x, some x]).all itemO && decide ((xs.map some ++ [some x, some x]).filterMap id).Nodup)) = false := by
  have z : ¬ ((xs.map some ++ [some x, some x]).filterMap id).Nodup := by
    rw [List.filterMap_append]
    intro h
    have q := (List.nodup_append.mp h).2.1
    have e : ([some x, some x] : List (Option Str)).filterMap id = [x, x] := rfl
    rw [e] at q
    exact (List.nodup_cons.mp q).1 List.mem_cons_self
  rw [decide_eq_false z, Bool.and_false, Bool.and_false]
def spNo (K : PySem.W.Frag) : Sp := fun vs H Q _ => ∃ (p a : Addr) (n : Int) (xs : List Str), vs = [.ref p, .ref a] ∧ SrcAt H p n ∧ n < 2 ^ 48 ∧ a ≠ p ∧ H a = some (.lst (xs.map V.str)) ∧ Items xs ∧ xs.length ≤ 60 ∧
  ∀ (v : V) (H' : Hp), But p H H' → SrcAt H' p (n + 1) → Thing K (rem p H') v false → Q v H'
theorem ok__law_no_shelves (T : Txt K mg A) : Ok1 P w K mg base 5 A.f__law_no_shelves ["source", "shelf"] (spNo K) := by
  refine T.fn__law_no_shelves.ok sc__law_no_shelves (fun _ _ _ _ _ _ us hl => match us, hl with | [_, _], _ => rfl) (fun vs H Q E h => ?_) (fun cdv B up s H vs Q E hr h => ?_)
  · obtain ⟨p, a, n, xs, rfl, _⟩ := h
    rfl
  · obtain ⟨p, a, n, xs, rfl, hs, hn, ap, ha, hi, hm, h⟩ := h
    refine ⟨_, (pss_cons (ps_set (i := 2) sc__law_no_shelves.nd rfl (Or.inr rfl) pe_str)
      (pss_mid (ps_setLcD (i := 3) (own := [("j", 5)]) rfl sc__law_no_shelves.nd rfl rfl (sw_true rfl rfl rfl (by decide +kernel)) (pi_range1 rfl T.no_range (pa_cons pe_int pa_nil)) (blkOk_by (N := N__law_no_shelves) (sc := defScope s__law_no_shelves) (by decide +kernel)) (fun _ _ _ _ _ => pg_name (i := 5) sc__law_no_shelves.nd rfl (Or.inl rfl)) (fun _ _ _ _ _ => pts_nil) (fun _ _ _ _ _ => (pe_op op_addX (pe_ix ix_seq (pv 2) (pe_op op_fdivX (pv 5) pe_int) (fun _ _ => rfl)) (pe_ix ix_seq (pv 2) (pe_op op_mod (pv 5) pe_int) (fun _ _ => rfl)))))
      (pss_mid (ps_set (i := 4) sc__law_no_shelves.nd rfl (Or.inl rfl) (pe_lst (pa_cons pe_non (pa_cons pe_bl (pa_cons pe_int (pa_cons pe_str (pa_cons pe_str (pa_cons (pe_tup pa_nil) (pa_cons (pe_callTy call_tuple_of (by rfl) T.no_tuple (by decide +kernel) (pa_cons (pv 1) pa_nil)) (pa_cons pe_dnewK (pa_cons (pe_lst (pa_cons pe_non pa_nil)) (pa_cons (pe_lst (pa_cons pe_int pa_nil)) (pa_cons (pe_lst (pa_cons pe_bl pa_nil)) (pa_cons (pe_lst (pa_cons pe_str pa_nil)) (pa_cons (pe_lst (pa_cons pe_str pa_nil)) (pa_cons (pe_lst (pa_cons pe_str pa_nil)) (pa_cons (pe_lst (pa_cons pe_str (pa_cons pe_str pa_nil))) pa_nil)))))))))))))))))
      (pss_mid (ps_set (i := 4) sc__law_no_shelves.nd rfl (Or.inl rfl) (pe_op op_addX (pv 4) (pe_lst (pa_cons (pe_lst (pa_cons pe_str pa_nil)) (pa_cons (pe_lst (pa_cons (pe_lst (pa_cons pe_str pa_nil)) pa_nil)) (pa_cons (pe_lst (pa_cons (pe_tup (pa_cons pe_str pa_nil)) pa_nil)) (pa_cons (pe_lst (pa_cons pe_dnewK pa_nil)) (pa_cons (pe_lst (pa_cons (po_make T.mk_Inserted (ok_Record___init__ T) (hr.mono (by decide)) T.mg_Inserted (pa_cons pe_str (pa_cons pe_int pa_nil))) pa_nil)) (pa_cons (pv 3) (pa_cons (pe_disp (pps_cons pe_str pe_int pps_nil) (by rfl) (by rfl) (fun z => by cases z) (by decide)) (pa_cons (pe_op op_addX (pv 1) (pe_lst (pa_cons pe_str pa_nil))) (pa_cons (pe_op op_addX (pe_lst (pa_cons pe_str pa_nil)) (pv 1)) pa_nil))))))))))))
      (pss_mid (ps_set (i := 4) sc__law_no_shelves.nd rfl (Or.inl rfl) (pe_op op_addX (pv 4) (pe_lst (pa_cons (pe_op op_addX (pe_op op_addX (pv 1) (pe_slice sl_list (pv 1) po_none (po_some pe_int))) (pe_lst (pa_cons pe_str pa_nil))) (pa_cons (pe_lst (pa_cons (pv 1) pa_nil)) (pa_cons (pe_lst (pa_cons pe_str pa_nil)) (pa_cons (pe_lst (pa_cons (pe_un un_neg pe_int) pa_nil)) (pa_cons (pe_op op_addX (pv 1) (pe_lst (pa_cons pe_non pa_nil))) (pa_cons (pe_op op_addX (pv 1) (pe_lst (pa_cons pe_str (pa_cons pe_str pa_nil)))) pa_nil)))))))))
      (pss_one (ps_ret (pe_ix ix_seq (pv 4) (po_call (ok__law_pick T) (hr.mono (by decide)) T.mg__law_pick (pa_cons (pv 0) (pa_cons (pe_callB call_len (by rfl) T.no_len (by decide +kernel) (pa_cons (pv 4) pa_nil)) pa_nil))) (fun _ _ => rfl))))))))), ?_⟩
    have ex : ∀ (Hx : Hp), Ents K Hx (xs.map V.str) (xs.map some) := fun Hx => Ents.strs xs fun x hx => Nat.le_trans (hi.len hx) (by decide)
    have lt : ∀ j : Int, 0 ≤ j → j < 26 → atI letters26.cps.toList j = some (97 + j.toNat) := fun j a b => letters_at a b
    refine ⟨fun σ1 H' => ∃ f, σ1 = [some (.ref p), some (.ref a), some (.str letters26), some (.ref f), none, none] ∧ Same H H' ∧ H' f = some (.lst (((List.range 61).map two).map V.str)) ∧ f ≠ p, ?_, ?_⟩
    · refine ⟨_, rfl, by decide, by decide, fun D nD => ?_⟩
      have Dp : D ≠ p := hs.ne nD
      refine lc_range (fun i H' => Same H H' ∧ H' D = some (.lst (((List.range i).map two).map V.str))) ?_ ?_ ?_
      · exact ⟨Same.new nD, upd_same⟩
      · rintro i H1 hi61 ⟨s1, h1⟩
        have hi61 : i < 61 := hi61
        have q26 : CDivW (i : Int) 26 := wide_div (b := 30) (by decide) (by decide) (by decide) (by decide)
        refine (?_ : gName 5 (.int (0 + (i : Int))) _ _ _)
        rw [Int.zero_add]
        refine ⟨rfl, _, rfl, _, rfl, _, _, rfl, rfl, q26, ixS (by decide) (lt _ (by omega) (by omega)) ?_⟩
        refine ⟨_, rfl, _, rfl, _, _, rfl, rfl, (by show (0 : Int) < 26; decide), ixS (by decide) (lt _ (by omega) (by omega)) ?_⟩
        refine addS (Nat.le_of_ble_eq_true rfl) ⟨_, h1, ?_, ?_, ?_⟩
        · rw [List.length_map, List.length_map, List.length_range]
          exact Nat.lt_of_lt_of_le (show i < 1000 by omega) (by decide)
        · intro c o e
          rw [upd_ne (ne_of_none e nD)]
          exact s1 _ _ e
        · have e1 : ((i : Int) / 26).toNat = i / 26 := by omega
          have e2 : ((i : Int) % 26).toNat = i % 26 := by omega
          rw [upd_same, List.range_succ, List.map_append, List.map_append, e1, e2]
          rfl
      · rintro H1 ⟨s1, h1⟩
        exact ⟨D, rfl, s1, h1, Dp⟩
    rintro σ1 H1 ⟨f, rfl, s1, hf, fp⟩
    refine ⟨fun σ1 H' => ∃ f l vs, σ1 = [some (.ref p), some (.ref a), some (.str letters26), some (.ref f), some (.ref l), none] ∧ Same H H' ∧ H' f = some (.lst (((List.range 61).map two).map V.str)) ∧ f ≠ p ∧ H' l = some (.lst vs) ∧ l ≠ p ∧ vs.length = 15 ∧ Bads K p H' vs, ?_, ?_⟩
    · have hs1 : SrcAt _ p n := hs.same s1
      have A0 : Bads K p H1 [] := fun v hv => by cases hv
      have A1 := A0.push done_id (.no (.base .non) (kit_ty (r := false) (by decide +kernel)))
      have A2 := A1.push done_id (.no (.base (.bl true)) (kit_ty (r := false) (by decide +kernel)))
      have A3 := A2.push done_id (.no (.base (.int 0)) (kit_ty (r := false) (by decide +kernel)))
      have A4 := A3.push done_id (.no (.base (.str "")) (kit_ty (r := false) (by decide +kernel)))
      have A5 := A4.push done_id (.no (.base (.str "ab")) (kit_ty (r := false) (by decide +kernel)))
      refine ⟨Nat.zero_le _, fun D1 n1 => ?_⟩
      have d1 : D1 ≠ p := hs1.ne n1
      have u1 := Same.new (o := .tup []) n1
      have S1 := s1.trans u1
      have g1 := hs1.same u1
      have A6 := A5.push u1 (.no (.base (.tup (rem_at d1 upd_same))) (kit_ty (r := false) (by decide +kernel)))
      refine ⟨_, rfl, a, _, rfl, .inl ⟨SqL.of (S1 _ _ ha), fun D2 n2 => ?_⟩⟩
      have d2 : D2 ≠ p := g1.ne n2
      have u2 := Same.new (o := .tup (xs.map V.str)) n2
      have S2 := S1.trans u2
      have g2 := g1.same u2
      have A7 := A6.push u2 (.no (.base (.tup (rem_at d2 upd_same))) (kit_ty (r := false) (by decide +kernel)))
      refine fun D3 n3 => ?_
      have d3 : D3 ≠ p := g2.ne n3
      have u3 := Same.new (o := .dK []) n3
      have S3 := S2.trans u3
      have g3 := g2.same u3
      have A8 := A7.push u3 (.no (.base (.dK (rem_at d3 upd_same))) (kit_ty (r := false) (by decide +kernel)))
      refine ⟨Nat.le_of_ble_eq_true rfl, fun D4 n4 => ?_⟩
      have d4 : D4 ≠ p := g3.ne n4
      have u4 := Same.new (o := .lst [.non]) n4
      have S4 := S3.trans u4
      have g4 := g3.same u4
      have A9 := A8.push u4 (.bad (rem_at d4 upd_same) (Nat.le_of_ble_eq_true rfl) (.cons (.no (.base .non) (kit_ty (r := false) (by decide +kernel))) .nil) (by decide +kernel))
      refine ⟨Nat.le_of_ble_eq_true rfl, fun D5 n5 => ?_⟩
      have d5 : D5 ≠ p := g4.ne n5
      have u5 := Same.new (o := .lst [.int 0]) n5
      have S5 := S4.trans u5
      have g5 := g4.same u5
      have A10 := A9.push u5 (.bad (rem_at d5 upd_same) (Nat.le_of_ble_eq_true rfl) (.cons (.no (.base (.int 0)) (kit_ty (r := false) (by decide +kernel))) .nil) (by decide +kernel))
      refine ⟨Nat.le_of_ble_eq_true rfl, fun D6 n6 => ?_⟩
      have d6 : D6 ≠ p := g5.ne n6
      have u6 := Same.new (o := .lst [.bl true]) n6
      have S6 := S5.trans u6
      have g6 := g5.same u6
      have A11 := A10.push u6 (.bad (rem_at d6 upd_same) (Nat.le_of_ble_eq_true rfl) (.cons (.no (.base (.bl true)) (kit_ty (r := false) (by decide +kernel))) .nil) (by decide +kernel))
      refine ⟨Nat.le_of_ble_eq_true rfl, fun D7 n7 => ?_⟩
      have d7 : D7 ≠ p := g6.ne n7
      have u7 := Same.new (o := .lst [.str ""]) n7
      have S7 := S6.trans u7
      have g7 := g6.same u7
      have A12 := A11.push u7 (.bad (rem_at d7 upd_same) (Nat.le_of_ble_eq_true rfl) (.cons (.str _ (by decide)) .nil) (by decide +kernel))
      refine ⟨Nat.le_of_ble_eq_true rfl, fun D8 n8 => ?_⟩
      have d8 : D8 ≠ p := g7.ne n8
      have u8 := Same.new (o := .lst [.str "A"]) n8
      have S8 := S7.trans u8
      have g8 := g7.same u8
      have A13 := A12.push u8 (.bad (rem_at d8 upd_same) (Nat.le_of_ble_eq_true rfl) (.cons (.str _ (by decide)) .nil) (by decide +kernel))
      refine ⟨Nat.le_of_ble_eq_true rfl, fun D9 n9 => ?_⟩
      have d9 : D9 ≠ p := g8.ne n9
      have u9 := Same.new (o := .lst [.str "abcdefghi"]) n9
      have S9 := S8.trans u9
      have g9 := g8.same u9
      have A14 := A13.push u9 (.bad (rem_at d9 upd_same) (Nat.le_of_ble_eq_true rfl) (.cons (.str _ (by decide)) .nil) (by decide +kernel))
      refine ⟨Nat.le_of_ble_eq_true rfl, fun D10 n10 => ?_⟩
      have d10 : D10 ≠ p := g9.ne n10
      have u10 := Same.new (o := .lst [.str "a", .str "a"]) n10
      have S10 := S9.trans u10
      have g10 := g9.same u10
      have A15 := A14.push u10 (.bad (rem_at d10 upd_same) (Nat.le_of_ble_eq_true rfl) (.cons (.str _ (by decide)) (.cons (.str _ (by decide)) .nil)) (by decide +kernel))
      refine ⟨Nat.le_of_ble_eq_true rfl, fun L nL => ?_⟩
      have uL := Same.new (o := .lst [.non, .bl true, .int 0, .str "", .str "ab", .ref D1, .ref D2, .ref D3, .ref D4, .ref D5, .ref D6, .ref D7, .ref D8, .ref D9, .ref D10]) nL
      refine ⟨f, L, _, rfl, S10.trans uL, uL _ _ ((u1.trans (u2.trans (u3.trans (u4.trans (u5.trans (u6.trans (u7.trans (u8.trans (u9.trans (u10)))))))))) _ _ hf), fp, upd_same, g10.ne nL, rfl, A15.same uL⟩
    rintro σ1 H2 ⟨f, l, vs, rfl, s2, hf, fp, hl, lp, lv, B2⟩
    refine ⟨fun σ1 H' => ∃ f l vs, σ1 = [some (.ref p), some (.ref a), some (.str letters26), some (.ref f), some (.ref l), none] ∧ Same H H' ∧ H' f = some (.lst (((List.range 61).map two).map V.str)) ∧ f ≠ p ∧ H' l = some (.lst vs) ∧ l ≠ p ∧ vs.length = 24 ∧ Bads K p H' vs, ?_, ?_⟩
    · refine ⟨_, rfl, ?_⟩
      have hs1 : SrcAt _ p n := hs.same s2
      have A0 : Bads K p H2 [] := fun v hv => by cases hv
      refine ⟨Nat.le_of_ble_eq_true rfl, fun D1 n1 => ?_⟩
      have d1 : D1 ≠ p := hs1.ne n1
      have u1 := Same.new (o := .lst [.str "a b"]) n1
      have S1 := s2.trans u1
      have W1 := u1
      have g1 := hs1.same u1
      have A1 := A0.push u1 (.bad (rem_at d1 upd_same) (Nat.le_of_ble_eq_true rfl) (.cons (.str _ (by decide)) .nil) (by decide +kernel))
      refine ⟨Nat.le_of_ble_eq_true rfl, fun D2 n2 => ?_⟩
      have d2 : D2 ≠ p := g1.ne n2
      have u2 := Same.new (o := .lst [.str "a"]) n2
      have S2 := S1.trans u2
      have W2 := W1.trans u2
      have g2 := g1.same u2
      refine ⟨Nat.le_of_ble_eq_true rfl, fun D3 n3 => ?_⟩
      have d3 : D3 ≠ p := g2.ne n3
      have u3 := Same.new (o := .lst [.ref D2]) n3
      have S3 := S2.trans u3
      have W3 := W2.trans u3
      have g3 := g2.same u3
      have A2 := A1.push (u2.trans u3) (.bad (rem_at d3 upd_same) (Nat.le_of_ble_eq_true rfl) (.cons (.no (.base (.lst (rem_at d2 (u3 _ _ upd_same)))) (kit_ty (r := false) (by decide +kernel))) .nil) (by decide +kernel))
      refine ⟨Nat.le_of_ble_eq_true rfl, fun D4 n4 => ?_⟩
      have d4 : D4 ≠ p := g3.ne n4
      have u4 := Same.new (o := .tup [.str "a"]) n4
      have S4 := S3.trans u4
      have W4 := W3.trans u4
      have g4 := g3.same u4
      refine ⟨Nat.le_of_ble_eq_true rfl, fun D5 n5 => ?_⟩
      have d5 : D5 ≠ p := g4.ne n5
      have u5 := Same.new (o := .lst [.ref D4]) n5
      have S5 := S4.trans u5
      have W5 := W4.trans u5
      have g5 := g4.same u5
      have A3 := A2.push (u4.trans u5) (.bad (rem_at d5 upd_same) (Nat.le_of_ble_eq_true rfl) (.cons (.no (.base (.tup (rem_at d4 (u5 _ _ upd_same)))) (kit_ty (r := false) (by decide +kernel))) .nil) (by decide +kernel))
      refine fun D6 n6 => ?_
      have d6 : D6 ≠ p := g5.ne n6
      have u6 := Same.new (o := .dK []) n6
      have S6 := S5.trans u6
      have W6 := W5.trans u6
      have g6 := g5.same u6
      refine ⟨Nat.le_of_ble_eq_true rfl, fun D7 n7 => ?_⟩
      have d7 : D7 ≠ p := g6.ne n7
      have u7 := Same.new (o := .lst [.ref D6]) n7
      have S7 := S6.trans u7
      have W7 := W6.trans u7
      have g7 := g6.same u7
      have A4 := A3.push (u6.trans u7) (.bad (rem_at d7 upd_same) (Nat.le_of_ble_eq_true rfl) (.cons (.no (.base (.dK (rem_at d6 (u7 _ _ upd_same)))) (kit_ty (r := false) (by decide +kernel))) .nil) (by decide +kernel))
      refine fun o8 dx8 n8 m8 q8 => ⟨o8, _, dx8, "a", 0, rfl, upd_same, rc_Inserted T, by decide +kernel, by decide, by decide, fun Hm em bm => ⟨rfl, ?_⟩⟩
      have o8p : o8 ≠ p := g7.ne n8
      have u8 := made_same n8 m8 bm
      have S8 := S7.trans u8
      have W8 := W7.trans u8
      have g8 := g7.same u8
      refine ⟨Nat.le_of_ble_eq_true rfl, fun D9 n9 => ?_⟩
      have d9 : D9 ≠ p := g8.ne n9
      have u9 := Same.new (o := .lst [.ref o8]) n9
      have S9 := S8.trans u9
      have W9 := W8.trans u9
      have g9 := g8.same u9
      have A5 := A4.push (u8.trans u9) (.bad (rem_at d9 upd_same) (Nat.le_of_ble_eq_true rfl) (.cons (.no (.base (.ins (rem_at o8p (u9 _ _ em)) T.cl_Inserted T.ty_Inserted.ha T.ty_Inserted.hn T.ty_Inserted.ht T.ty_Inserted.hm)) T.kit_Inserted_type_str) .nil) (by decide +kernel))
      refine ⟨_, rfl, ?_⟩
      have A6 := A5.push done_id (.bad (rem_at fp (W9 _ _ hf)) (by rw [List.length_map, List.length_map, List.length_range]; decide) (Ents.strs _ fun x hx => by obtain ⟨j, _, rfl⟩ := List.mem_map.mp hx; exact Nat.le_of_ble_eq_true rfl) (by rw [List.length_map, List.length_map, List.length_range]; rfl))
      refine fun D10 n10 => ⟨upd_same, [(Sum.inr "a", .int 0)], rfl, by decide, ?_⟩
      have d10 : D10 ≠ p := g9.ne n10
      have u10 := Same.new2 (o := .dK []) (o' := .dK (mergeK [] [(Sum.inr "a", .int 0)])) n10
      have S10 := S9.trans u10
      have W10 := W9.trans u10
      have g10 := g9.same u10
      have A7 := A6.push u10 (.no (.base (.dK (rem_at d10 upd_same))) (kit_ty (r := false) (by decide +kernel)))
      refine ⟨_, rfl, Nat.le_of_ble_eq_true rfl, fun D11 n11 => ?_⟩
      have d11 : D11 ≠ p := g10.ne n11
      have u11 := Same.new (o := .lst [V.str "a1"]) n11
      have S11 := S10.trans u11
      have W11 := W10.trans u11
      have g11 := g10.same u11
      refine addL (S11 _ _ ha) upd_same (by rw [List.length_map]; simp; omega) fun D12 n12 => ?_
      have d12 : D12 ≠ p := g11.ne n12
      have u12 := Same.new (o := .lst (xs.map V.str ++ [V.str "a1"])) n12
      have S12 := S11.trans u12
      have W12 := W11.trans u12
      have g12 := g11.same u12
      have A8 := A7.push (u11.trans u12) (.bad (rem_at d12 upd_same) (by rw [List.length_append, List.length_map]; simp; omega) ((ex _).app (.cons (.str _ (by decide)) .nil)) (bad_tail (by decide +kernel)))
      refine ⟨Nat.le_of_ble_eq_true rfl, fun D13 n13 => ?_⟩
      have d13 : D13 ≠ p := g12.ne n13
      have u13 := Same.new (o := .lst [V.str "a_"]) n13
      have S13 := S12.trans u13
      have W13 := W12.trans u13
      have g13 := g12.same u13
      refine ⟨_, rfl, addL upd_same (S13 _ _ ha) (by rw [List.length_map]; simp; omega) fun D14 n14 => ?_⟩
      have d14 : D14 ≠ p := g13.ne n14
      have u14 := Same.new (o := .lst ([V.str "a_"] ++ xs.map V.str)) n14
      have S14 := S13.trans u14
      have W14 := W13.trans u14
      have g14 := g13.same u14
      have A9 := A8.push (u13.trans u14) (.bad (rem_at d14 upd_same) (by rw [List.length_append, List.length_map]; simp; omega) (Ents.app (.cons (.str _ (by decide)) .nil) (ex _)) (bad_head (by decide +kernel)))
      refine ⟨Nat.le_of_ble_eq_true rfl, fun L nL => ?_⟩
      have uL := Same.new (o := .lst [.ref D1, .ref D3, .ref D5, .ref D7, .ref D9, .ref f, .ref D10, .ref D12, .ref D14]) nL
      have AL := A9.same uL
      refine addL (uL _ _ (W14 _ _ hl)) upd_same (by rw [lv]; exact Nat.le_of_ble_eq_true rfl) fun q nq => ?_
      have uq := Same.new (o := .lst (vs ++ [.ref D1, .ref D3, .ref D5, .ref D7, .ref D9, .ref f, .ref D10, .ref D12, .ref D14])) nq
      refine ⟨f, q, _, rfl, S14.trans (uL.trans uq), uq _ _ (uL _ _ (W14 _ _ hf)), fp, upd_same, (g14.same uL).ne nq, by rw [List.length_append, lv]; rfl, (B2.same (W14.trans (uL.trans uq))).app (AL.same uq)⟩
    rintro σ1 H3 ⟨f, l, vs, rfl, s3, hf, fp, hl, lp, lv, B3⟩
    refine ⟨fun σ1 H' => ∃ f l vs, σ1 = [some (.ref p), some (.ref a), some (.str letters26), some (.ref f), some (.ref l), none] ∧ Same H H' ∧ H' f = some (.lst (((List.range 61).map two).map V.str)) ∧ f ≠ p ∧ H' l = some (.lst vs) ∧ l ≠ p ∧ vs.length = 30 ∧ Bads K p H' vs, ?_, ?_⟩
    · refine ⟨_, rfl, ?_⟩
      have hs1 : SrcAt _ p n := hs.same s3
      have A0 : Bads K p H3 [] := fun v hv => by cases hv
      refine ⟨_, rfl, _, rfl, _, rfl, a, _, rfl, SqL.of (s3 _ _ ha), fun D1 n1 => ?_⟩
      have d1 : D1 ≠ p := hs1.ne n1
      have u1 := Same.new (o := .lst (cutV (xs.map V.str) none (some 1))) n1
      have S1 := s3.trans u1
      have W1 := u1
      have g1 := hs1.same u1
      have cz : cutV (xs.map V.str) none (some (1 : Int)) = (xs.take 1).map V.str := cut_to' xs 1
      refine addL (S1 _ _ ha) upd_same (by rw [cz, List.length_map, List.length_map, List.length_take]; omega) fun D2 n2 => ?_
      have d2 : D2 ≠ p := g1.ne n2
      have u2 := Same.new (o := .lst (xs.map V.str ++ cutV (xs.map V.str) none (some 1))) n2
      have S2 := S1.trans u2
      have W2 := W1.trans u2
      have g2 := g1.same u2
      refine ⟨Nat.le_of_ble_eq_true rfl, fun D3 n3 => ?_⟩
      have d3 : D3 ≠ p := g2.ne n3
      have u3 := Same.new (o := .lst [.str "A"]) n3
      have S3 := S2.trans u3
      have W3 := W2.trans u3
      have g3 := g2.same u3
      refine addL (u3 _ _ upd_same) upd_same (by rw [cz, List.length_append, List.length_map, List.length_map, List.length_take]; simp; omega) fun D4 n4 => ?_
      have d4 : D4 ≠ p := g3.ne n4
      have u4 := Same.new (o := .lst (xs.map V.str ++ cutV (xs.map V.str) none (some 1) ++ [V.str "A"])) n4
      have S4 := S3.trans u4
      have W4 := W3.trans u4
      have g4 := g3.same u4
      have e4 : xs.map V.str ++ cutV (xs.map V.str) none (some 1) ++ [V.str "A"] = (xs ++ xs.take 1).map V.str ++ [V.str "A"] := by rw [cz, List.map_append]
      have A1 := A0.push (u1.trans (u2.trans (u3.trans u4))) (.bad (rem_at d4 upd_same) (by rw [e4, List.length_append, List.length_map, List.length_append, List.length_take]; simp; omega) (e4 ▸ (Ents.strs (xs ++ xs.take 1) (fun x hx => (List.mem_append.mp hx).elim (fun q => Nat.le_trans (hi.len q) (by decide)) (fun q => Nat.le_trans (hi.len (List.mem_of_mem_take q)) (by decide)))).app (.cons (.str _ (by decide)) .nil)) (bad_tail (xs := xs ++ xs.take 1) (by decide +kernel)))
      refine ⟨_, rfl, Nat.le_of_ble_eq_true rfl, fun D5 n5 => ?_⟩
      have d5 : D5 ≠ p := g4.ne n5
      have u5 := Same.new (o := .lst [.ref a]) n5
      have S5 := S4.trans u5
      have W5 := W4.trans u5
      have g5 := g4.same u5
      have A2 := A1.push u5 (.bad (rem_at d5 upd_same) (Nat.le_of_ble_eq_true rfl) (.cons (.no (.base (.lst (rem_at ap (S5 _ _ ha)))) (kit_ty (r := false) (by decide +kernel))) .nil) (by decide +kernel))
      refine ⟨Nat.le_of_ble_eq_true rfl, fun D6 n6 => ?_⟩
      have d6 : D6 ≠ p := g5.ne n6
      have u6 := Same.new (o := .lst [.str "a\n"]) n6
      have S6 := S5.trans u6
      have W6 := W5.trans u6
      have g6 := g5.same u6
      have A3 := A2.push u6 (.bad (rem_at d6 upd_same) (Nat.le_of_ble_eq_true rfl) (.cons (.str _ (by decide)) .nil) (by decide +kernel))
      refine ⟨_, rfl, Nat.le_of_ble_eq_true rfl, fun D7 n7 => ?_⟩
      have d7 : D7 ≠ p := g6.ne n7
      have u7 := Same.new (o := .lst [.int (-1)]) n7
      have S7 := S6.trans u7
      have W7 := W6.trans u7
      have g7 := g6.same u7
      have A4 := A3.push u7 (.bad (rem_at d7 upd_same) (Nat.le_of_ble_eq_true rfl) (.cons (.no (.base (.int (-1))) (kit_ty (r := false) (by decide +kernel))) .nil) (by decide +kernel))
      refine ⟨_, rfl, Nat.le_of_ble_eq_true rfl, fun D8 n8 => ?_⟩
      have d8 : D8 ≠ p := g7.ne n8
      have u8 := Same.new (o := .lst [V.non]) n8
      have S8 := S7.trans u8
      have W8 := W7.trans u8
      have g8 := g7.same u8
      refine addL (S8 _ _ ha) upd_same (by rw [List.length_map]; simp; omega) fun D9 n9 => ?_
      have d9 : D9 ≠ p := g8.ne n9
      have u9 := Same.new (o := .lst (xs.map V.str ++ [V.non])) n9
      have S9 := S8.trans u9
      have W9 := W8.trans u9
      have g9 := g8.same u9
      have A5 := A4.push (u8.trans u9) (.bad (rem_at d9 upd_same) (by rw [List.length_append, List.length_map]; simp; omega) ((ex _).app (.cons (.no (.base .non) (kit_ty (r := false) (by decide +kernel))) .nil)) (bad_tail (by decide +kernel)))
      refine ⟨_, rfl, Nat.le_of_ble_eq_true rfl, fun D10 n10 => ?_⟩
      have d10 : D10 ≠ p := g9.ne n10
      have u10 := Same.new (o := .lst [V.str "zz", V.str "zz"]) n10
      have S10 := S9.trans u10
      have W10 := W9.trans u10
      have g10 := g9.same u10
      refine addL (S10 _ _ ha) upd_same (by rw [List.length_map]; simp; omega) fun D11 n11 => ?_
      have d11 : D11 ≠ p := g10.ne n11
      have u11 := Same.new (o := .lst (xs.map V.str ++ [V.str "zz", V.str "zz"])) n11
      have S11 := S10.trans u11
      have W11 := W10.trans u11
      have g11 := g10.same u11
      have A6 := A5.push (u10.trans u11) (.bad (rem_at d11 upd_same) (by rw [List.length_append, List.length_map]; simp; omega) ((ex _).app (.cons (.str _ (by decide)) (.cons (.str _ (by decide)) .nil))) bad_zz)
      refine ⟨Nat.le_of_ble_eq_true rfl, fun L nL => ?_⟩
      have uL := Same.new (o := .lst [.ref D4, .ref D5, .ref D6, .ref D7, .ref D9, .ref D11]) nL
      have AL := A6.same uL
      refine addL (uL _ _ (W11 _ _ hl)) upd_same (by rw [lv]; exact Nat.le_of_ble_eq_true rfl) fun q nq => ?_
      have uq := Same.new (o := .lst (vs ++ [.ref D4, .ref D5, .ref D6, .ref D7, .ref D9, .ref D11])) nq
      refine ⟨f, q, _, rfl, S11.trans (uL.trans uq), uq _ _ (uL _ _ (W11 _ _ hf)), fp, upd_same, (g11.same uL).ne nq, by rw [List.length_append, lv]; rfl, (B3.same (W11.trans (uL.trans uq))).app (AL.same uq)⟩
    rintro σ1 H4 ⟨f, l, vs, rfl, s4, hf, fp, hl, lp, lv, B4⟩
    refine ⟨_, rfl, _, rfl, _, rfl, _, _, rfl, .inl ⟨_, SqL.of hl, rfl⟩, p, (vs.length : Nat), n, rfl, by omega, by omega, hs.same s4, by omega, fun r H5 g0 g1 g2 g3 => ?_⟩
    obtain ⟨j, rfl⟩ : ∃ j : Nat, r = j := ⟨r.toNat, by omega⟩
    have hj : j < vs.length := by omega
    refine ixL (g3 _ _ hl lp) (atI_nat (List.getElem?_eq_getElem hj)) ?_
    exact h _ _ ((But.same s4).trans g3) g2 ((B4 _ (List.getElem_mem hj)).same (rem_rem g3))

end
end Own

set_option Elab.async false
set_option linter.all false
set_option maxRecDepth 100000
set_option maxHeartbeats 4000000
namespace Own
open PySem L2 ClX
local macro_rules | `(tactic| walk_at "v") => `(tactic| refine ⟨_, rfl, ?_⟩)
local macro_rules | `(tactic| walk_at "ii") => `(tactic| refine ⟨_, _, rfl, rfl, ?_⟩)
local macro_rules | `(tactic| walk_at "go") => `(tactic| repeat (first | refine ⟨_, rfl, ?_⟩ | refine ⟨_, _, rfl, rfl, ?_⟩ | refine addI ?_ | refine L2.iteT ?_ | refine L2.iteF ?_))

section
variable {P : Program} {w : World} {K : PySem.W.Frag} {mg : Str → Option Value} {base : Heap} {A : Ad}
/-! ### objects that are no lists of records -/
theorem Rows.rem {p : Addr} {n : Int} {H : Hp} {vs : List V} {ps : List (Int × Str × Nat)} (s : SrcAt H p n) (h : Rows A H vs ps) : Rows A (rem p H) vs ps := by
  induction h with
  | nil => exact .nil
  | @cons q dx way x m vs ps e h0 h1 hx _ ih =>
    refine .cons (dx := dx) (rem_at (fun z => ?_) e) h0 h1 hx ih
    obtain ⟨g, m', c, z2, _⟩ := s
    rw [z, z2] at e
    cases e
theorem Rows.take {H : Hp} {vs : List V} {ps : List (Int × Str × Nat)} (h : Rows A H vs ps) : ∀ k : Nat, Rows A H (vs.take k) (ps.take k) := by
  induction h with
  | nil => intro k; rw [List.take_nil, List.take_nil]; exact .nil
  | cons e h0 h1 hx _ ih =>
    intro k
    cases k with
    | zero => exact .nil
    | succ k => exact .cons e h0 h1 hx (ih k)
theorem ThingR.bad {H : Hp} {l : Addr} {vs : List V} {bs : List Bool} (e : H l = some (.lst vs)) (m : vs.length ≤ 4000) (z : Rws K A H vs bs) (h : (decide (bs.length ≤ 80) && bs.all id) = false) : ThingR K A H 80 (.ref l) false := h ▸ .lst e m z
theorem Rws.rep {H : Hp} {v : V} {b : Bool} (h : Rw K A H v b) : ∀ n : Nat, Rws K A H (List.replicate n [v]).flatten (List.replicate n b)
  | 0 => .nil
  | n + 1 => by
    rw [List.replicate_succ, List.replicate_succ, List.flatten_cons]
    exact .cons h (Rws.rep h n)
theorem rep_len (v : V) : ∀ n : Nat, (List.replicate n [v]).flatten.length = n
  | 0 => rfl
  | n + 1 => by
    rw [List.replicate_succ, List.flatten_cons, List.length_append, rep_len v n, List.length_singleton]
    omega
/-- all of them are no lists of records -/
def BadR (K : PySem.W.Frag) (A : Ad) (p : Addr) (H : Hp) (vs : List V) : Prop := ∀ v ∈ vs, ThingR K A (rem p H) 80 v false
theorem BadR.push {p : Addr} {H H' : Hp} {vs : List V} {v : V} (h : BadR K A p H vs) (s : Same H H') (t : ThingR K A (rem p H') 80 v false) : BadR K A p H' (vs ++ [v]) := fun u hu => by
  rcases List.mem_append.mp hu with hu | hu
  · exact (h u hu).same (rem_same s)
  · rw [List.mem_singleton.mp hu]
    exact t
theorem BadR.same {p : Addr} {H H' : Hp} {vs : List V} (h : BadR K A p H vs) (s : Same H H') : BadR K A p H' vs := fun u hu => (h u hu).same (rem_same s)
theorem BadR.app {p : Addr} {H : Hp} {vs ws : List V} (h : BadR K A p H vs) (g : BadR K A p H ws) : BadR K A p H (vs ++ ws) := fun u hu => (List.mem_append.mp hu).elim (h u) (g u)
theorem badR_tail {bs : List Bool} : (decide ((bs ++ [false]).length ≤ 80) && (bs ++ [false]).all id) = false := by
  simp
def spNoR (K : PySem.W.Frag) (A : Ad) : Sp := fun vs H Q _ => ∃ (p a : Addr) (n : Int) (rs : List V) (ps : List (Int × Str × Nat)), vs = [.ref p, .ref a] ∧ SrcAt H p n ∧ n < 2 ^ 48 ∧ a ≠ p ∧ H a = some (.lst rs) ∧ Rows A H rs ps ∧ ps.length ≤ 80 ∧
  ∀ (v : V) (H' : Hp), But p H H' → SrcAt H' p (n + 1) → ThingR K A H' 80 v false → Q v H'
theorem ok__law_no_rows (T : Txt K mg A) : Ok1 P w K mg base 5 A.f__law_no_rows ["source", "rows"] (spNoR K A) := by
  refine T.fn__law_no_rows.ok sc__law_no_rows (fun _ _ _ _ _ _ us hl => match us, hl with | [_, _], _ => rfl) (fun vs H Q E h => ?_) (fun cdv B up s H vs Q E hr h => ?_)
  · obtain ⟨p, a, n, rs, ps, rfl, _⟩ := h
    rfl
  · obtain ⟨p, a, n, rs, ps, rfl, hs, hn, ap, ha, hps, hm, h⟩ := h
    refine ⟨_, (pss_mid (ps_set (i := 2) sc__law_no_rows.nd rfl (Or.inl rfl) (pe_lst (pa_cons pe_non (pa_cons pe_bl (pa_cons pe_int (pa_cons pe_str (pa_cons pe_str (pa_cons (pe_tup pa_nil) (pa_cons (pe_callTy call_tuple_of (by rfl) T.no_tuple (by decide +kernel) (pa_cons (pv 1) pa_nil)) (pa_cons pe_dnewK (pa_cons (pe_lst (pa_cons pe_non pa_nil)) (pa_cons (pe_lst (pa_cons pe_str pa_nil)) (pa_cons (pe_lst (pa_cons (po_make T.mk_Record (ok_Record___init__ T) (hr.mono (by decide)) T.mg_Record (pa_cons pe_str (pa_cons pe_int pa_nil))) pa_nil)) (pa_cons (pe_op op_addX (pv 1) (pe_lst (pa_cons (po_make T.mk_Record (ok_Record___init__ T) (hr.mono (by decide)) T.mg_Record (pa_cons pe_str (pa_cons pe_int pa_nil))) pa_nil))) pa_nil))))))))))))))
      (pss_mid (ps_set (i := 2) sc__law_no_rows.nd rfl (Or.inl rfl) (pe_op op_addX (pv 2) (pe_lst (pa_cons (pe_lst (pa_cons (pv 1) pa_nil)) (pa_cons (pe_op op_addX (pv 1) (pe_lst (pa_cons pe_non pa_nil))) (pa_cons (pe_lst (pa_cons (pe_tup (pa_cons pe_str (pa_cons pe_int pa_nil))) pa_nil)) (pa_cons (pe_lst (pa_cons (pe_lst (pa_cons pe_str (pa_cons pe_int pa_nil))) pa_nil)) (pa_cons (pe_op op_addX (pe_slice sl_list (pv 1) po_none (po_some pe_int)) (pe_lst (pa_cons pe_str pa_nil))) (pa_cons (pe_disp (pps_cons pe_str (pv 1) pps_nil) (by rfl) (by rfl) (fun z => by cases z) (by decide)) (pa_cons (pe_lst (pa_cons pe_dnewK pa_nil)) (pa_cons (pe_lst (pa_cons pe_int pa_nil)) (pa_cons (pe_lst (pa_cons pe_bl pa_nil)) pa_nil))))))))))))
      (pss_mid (ps_set (i := 2) sc__law_no_rows.nd rfl (Or.inl rfl) (pe_op op_addX (pv 2) (pe_lst (pa_cons (pe_op op_mulX (pe_lst (pa_cons (po_make T.mk_Inserted (ok_Record___init__ T) (hr.mono (by decide)) T.mg_Inserted (pa_cons pe_str (pa_cons pe_int pa_nil))) pa_nil)) pe_int) (pa_cons (po_make T.mk_Inserted (ok_Record___init__ T) (hr.mono (by decide)) T.mg_Inserted (pa_cons pe_str (pa_cons pe_int pa_nil))) (pa_cons (pe_lst (pa_cons (pe_tup pa_nil) pa_nil)) pa_nil))))))
      (pss_one (ps_ret (pe_ix ix_seq (pv 2) (po_call (ok__law_pick T) (hr.mono (by decide)) T.mg__law_pick (pa_cons (pv 0) (pa_cons (pe_callB call_len (by rfl) T.no_len (by decide +kernel) (pa_cons (pv 2) pa_nil)) pa_nil))) (fun _ _ => rfl))))))), ?_⟩
    have lr := hps.len
    have sl4 : 4000 < sizeLine := by decide
    have ex1 : ∀ {Hx : Hp}, Same H Hx → Rws K A (rem p Hx) (rs.take 1) ((ps.take 1).map fun _ => true) := fun s => (((hps.same s).rem (hs.same s)).take 1).rws
    have ex : ∀ {Hx : Hp}, Same H Hx → Rws K A (rem p Hx) rs (ps.map fun _ => true) := fun s => ((hps.same s).rem (hs.same s)).rws
    have s0 : Same H H := Same.refl _
    refine ⟨fun σ1 H' => ∃ l vs, σ1 = [some (.ref p), some (.ref a), some (.ref l)] ∧ Same H H' ∧ H' l = some (.lst vs) ∧ l ≠ p ∧ vs.length = 12 ∧ BadR K A p H' vs, ?_, ?_⟩
    · have hs1 : SrcAt _ p n := hs.same s0
      have A0 : BadR K A p H [] := fun v hv => by cases hv
      have A1 := A0.push done_id (.no (.base .non) (kit_ty (r := false) (by decide +kernel)))
      have A2 := A1.push done_id (.no (.base (.bl true)) (kit_ty (r := false) (by decide +kernel)))
      have A3 := A2.push done_id (.no (.base (.int 0)) (kit_ty (r := false) (by decide +kernel)))
      have A4 := A3.push done_id (.no (.base (.str "")) (kit_ty (r := false) (by decide +kernel)))
      have A5 := A4.push done_id (.no (.base (.str "+a@0")) (kit_ty (r := false) (by decide +kernel)))
      refine ⟨Nat.zero_le _, fun D1 n1 => ?_⟩
      have d1 : D1 ≠ p := hs1.ne n1
      have u1 := Same.new (o := .tup []) n1
      have S1 := s0.trans u1
      have W1 := u1
      have g1 := hs1.same u1
      have A6 := A5.push u1 (.no (.base (.tup (rem_at d1 upd_same))) (kit_ty (r := false) (by decide +kernel)))
      refine ⟨_, rfl, a, _, rfl, .inl ⟨SqL.of (S1 _ _ ha), fun D2 n2 => ?_⟩⟩
      have d2 : D2 ≠ p := g1.ne n2
      have u2 := Same.new (o := .tup rs) n2
      have S2 := S1.trans u2
      have W2 := W1.trans u2
      have g2 := g1.same u2
      have A7 := A6.push u2 (.no (.base (.tup (rem_at d2 upd_same))) (kit_ty (r := false) (by decide +kernel)))
      refine fun D3 n3 => ?_
      have d3 : D3 ≠ p := g2.ne n3
      have u3 := Same.new (o := .dK []) n3
      have S3 := S2.trans u3
      have W3 := W2.trans u3
      have g3 := g2.same u3
      have A8 := A7.push u3 (.no (.base (.dK (rem_at d3 upd_same))) (kit_ty (r := false) (by decide +kernel)))
      refine ⟨Nat.le_of_ble_eq_true rfl, fun D4 n4 => ?_⟩
      have d4 : D4 ≠ p := g3.ne n4
      have u4 := Same.new (o := .lst [.non]) n4
      have S4 := S3.trans u4
      have W4 := W3.trans u4
      have g4 := g3.same u4
      have A9 := A8.push u4 (.bad (rem_at d4 upd_same) (Nat.le_of_ble_eq_true rfl) (.cons (.no (.base .non) T.kit_type_NoneType_Record) .nil) (by decide +kernel))
      refine ⟨Nat.le_of_ble_eq_true rfl, fun D5 n5 => ?_⟩
      have d5 : D5 ≠ p := g4.ne n5
      have u5 := Same.new (o := .lst [.str "+a@0"]) n5
      have S5 := S4.trans u5
      have W5 := W4.trans u5
      have g5 := g4.same u5
      have A10 := A9.push u5 (.bad (rem_at d5 upd_same) (Nat.le_of_ble_eq_true rfl) (.cons (.no (.base (.str _)) T.kit_type_str_Record) .nil) (by decide +kernel))
      refine fun D6 dx6 n6 m6 q6 => ⟨D6, _, dx6, "a", 0, rfl, upd_same, rc_Record T, by decide +kernel, by decide, by decide, fun Hm6 em6 bm6 => ⟨rfl, ?_⟩⟩
      have d6 : D6 ≠ p := g5.ne n6
      have u6 := made_same n6 m6 bm6
      have S6 := S5.trans u6
      have W6 := W5.trans u6
      have g6 := g5.same u6
      refine ⟨Nat.le_of_ble_eq_true rfl, fun D7 n7 => ?_⟩
      have d7 : D7 ≠ p := g6.ne n7
      have u7 := Same.new (o := .lst [.ref D6]) n7
      have S7 := S6.trans u7
      have W7 := W6.trans u7
      have g7 := g6.same u7
      have A11 := A10.push (u6.trans u7) (.bad (rem_at d7 upd_same) (Nat.le_of_ble_eq_true rfl) (.cons (.row (way := 3) (n := 0) (rem_at d6 (u7 _ _ em6)) (by decide) (by decide)) .nil) (by decide +kernel))
      refine ⟨_, rfl, ?_⟩
      refine fun D8 dx8 n8 m8 q8 => ⟨D8, _, dx8, "a", 0, rfl, upd_same, rc_Record T, by decide +kernel, by decide, by decide, fun Hm8 em8 bm8 => ⟨rfl, ?_⟩⟩
      have d8 : D8 ≠ p := g7.ne n8
      have u8 := made_same n8 m8 bm8
      have S8 := S7.trans u8
      have W8 := W7.trans u8
      have g8 := g7.same u8
      refine ⟨Nat.le_of_ble_eq_true rfl, fun D9 n9 => ?_⟩
      have d9 : D9 ≠ p := g8.ne n9
      have u9 := Same.new (o := .lst [.ref D8]) n9
      have S9 := S8.trans u9
      have W9 := W8.trans u9
      have g9 := g8.same u9
      refine addL (S9 _ _ ha) upd_same (by rw [lr]; simp; omega) fun D10 n10 => ?_
      have d10 : D10 ≠ p := g9.ne n10
      have u10 := Same.new (o := .lst (rs ++ [.ref D8])) n10
      have S10 := S9.trans u10
      have W10 := W9.trans u10
      have g10 := g9.same u10
      have A12 := A11.push (u8.trans (u9.trans u10)) (.bad (rem_at d10 upd_same) (by rw [List.length_append, lr]; simp; omega) ((ex S10).app (.cons (.row (way := 3) (n := 0) (rem_at d8 ((u9.trans u10) _ _ em8)) (by decide) (by decide)) .nil)) badR_tail)
      refine ⟨Nat.le_of_ble_eq_true rfl, fun L nL => ?_⟩
      have uL := Same.new (o := .lst [.non, .bl true, .int 0, .str "", .str "+a@0", .ref D1, .ref D2, .ref D3, .ref D4, .ref D5, .ref D7, .ref D10]) nL
      exact ⟨L, _, rfl, S10.trans uL, upd_same, g10.ne nL, rfl, A12.same uL⟩
    rintro σ1 H1 ⟨l, vs, rfl, s1, hl, lp, lv, B1⟩
    refine ⟨fun σ1 H' => ∃ l vs, σ1 = [some (.ref p), some (.ref a), some (.ref l)] ∧ Same H H' ∧ H' l = some (.lst vs) ∧ l ≠ p ∧ vs.length = 21 ∧ BadR K A p H' vs, ?_, ?_⟩
    · refine ⟨_, rfl, ?_⟩
      have hs1 : SrcAt _ p n := hs.same s1
      have A0 : BadR K A p H1 [] := fun v hv => by cases hv
      refine ⟨_, rfl, Nat.le_of_ble_eq_true rfl, fun D1 n1 => ?_⟩
      have d1 : D1 ≠ p := hs1.ne n1
      have u1 := Same.new (o := .lst [.ref a]) n1
      have S1 := s1.trans u1
      have W1 := u1
      have g1 := hs1.same u1
      have A1 := A0.push u1 (.bad (rem_at d1 upd_same) (Nat.le_of_ble_eq_true rfl) (.cons (.no (.base (.lst (rem_at ap (S1 _ _ ha)))) T.kit_type_list_Record) .nil) (by decide +kernel))
      refine ⟨_, rfl, Nat.le_of_ble_eq_true rfl, fun D2 n2 => ?_⟩
      have d2 : D2 ≠ p := g1.ne n2
      have u2 := Same.new (o := .lst [V.non]) n2
      have S2 := S1.trans u2
      have W2 := W1.trans u2
      have g2 := g1.same u2
      refine addL (S2 _ _ ha) upd_same (by rw [lr]; simp; omega) fun D3 n3 => ?_
      have d3 : D3 ≠ p := g2.ne n3
      have u3 := Same.new (o := .lst (rs ++ [V.non])) n3
      have S3 := S2.trans u3
      have W3 := W2.trans u3
      have g3 := g2.same u3
      have A2 := A1.push (u2.trans u3) (.bad (rem_at d3 upd_same) (by rw [List.length_append, lr]; simp; omega) ((ex S3).app (.cons (.no (.base .non) T.kit_type_NoneType_Record) .nil)) badR_tail)
      refine ⟨Nat.le_of_ble_eq_true rfl, fun D4 n4 => ?_⟩
      have d4 : D4 ≠ p := g3.ne n4
      have u4 := Same.new (o := .tup [.str "a", .int 0]) n4
      have S4 := S3.trans u4
      have W4 := W3.trans u4
      have g4 := g3.same u4
      refine ⟨Nat.le_of_ble_eq_true rfl, fun D5 n5 => ?_⟩
      have d5 : D5 ≠ p := g4.ne n5
      have u5 := Same.new (o := .lst [.ref D4]) n5
      have S5 := S4.trans u5
      have W5 := W4.trans u5
      have g5 := g4.same u5
      have A3 := A2.push (u4.trans u5) (.bad (rem_at d5 upd_same) (Nat.le_of_ble_eq_true rfl) (.cons (.no (.base (.tup (rem_at d4 (u5 _ _ upd_same)))) T.kit_type_tuple_Record) .nil) (by decide +kernel))
      refine ⟨Nat.le_of_ble_eq_true rfl, fun D6 n6 => ?_⟩
      have d6 : D6 ≠ p := g5.ne n6
      have u6 := Same.new (o := .lst [.str "a", .int 0]) n6
      have S6 := S5.trans u6
      have W6 := W5.trans u6
      have g6 := g5.same u6
      refine ⟨Nat.le_of_ble_eq_true rfl, fun D7 n7 => ?_⟩
      have d7 : D7 ≠ p := g6.ne n7
      have u7 := Same.new (o := .lst [.ref D6]) n7
      have S7 := S6.trans u7
      have W7 := W6.trans u7
      have g7 := g6.same u7
      have A4 := A3.push (u6.trans u7) (.bad (rem_at d7 upd_same) (Nat.le_of_ble_eq_true rfl) (.cons (.no (.base (.lst (rem_at d6 (u7 _ _ upd_same)))) T.kit_type_list_Record) .nil) (by decide +kernel))
      refine ⟨_, rfl, _, rfl, a, _, rfl, SqL.of (S7 _ _ ha), fun D8 n8 => ?_⟩
      rw [show cutV rs none (some (1 : Int)) = rs.take 1 from cutV_to rs 1]
      have d8 : D8 ≠ p := g7.ne n8
      have u8 := Same.new (o := .lst (rs.take 1)) n8
      have S8 := S7.trans u8
      have W8 := W7.trans u8
      have g8 := g7.same u8
      refine ⟨Nat.le_of_ble_eq_true rfl, fun D9 n9 => ?_⟩
      have d9 : D9 ≠ p := g8.ne n9
      have u9 := Same.new (o := .lst [V.str "a@0"]) n9
      have S9 := S8.trans u9
      have W9 := W8.trans u9
      have g9 := g8.same u9
      refine addL (u9 _ _ upd_same) upd_same (by rw [List.length_take]; simp; omega) fun D10 n10 => ?_
      have d10 : D10 ≠ p := g9.ne n10
      have u10 := Same.new (o := .lst (rs.take 1 ++ [V.str "a@0"])) n10
      have S10 := S9.trans u10
      have W10 := W9.trans u10
      have g10 := g9.same u10
      have A5 := A4.push (u8.trans (u9.trans u10)) (.bad (rem_at d10 upd_same) (by rw [List.length_append, List.length_take]; simp; omega) ((ex1 S10).app (.cons (.no (.base (.str _)) T.kit_type_str_Record) .nil)) badR_tail)
      refine fun D11 n11 => ⟨_, rfl, upd_same, [(Sum.inr "+", .ref a)], rfl, Nat.le_of_ble_eq_true rfl, ?_⟩
      have d11 : D11 ≠ p := g10.ne n11
      have u11 := Same.new2 (o := .dK []) (o' := .dK (mergeK [] [(Sum.inr "+", .ref a)])) n11
      have S11 := S10.trans u11
      have W11 := W10.trans u11
      have g11 := g10.same u11
      have A6 := A5.push u11 (.no (.base (.dK (rem_at d11 upd_same))) (kit_ty (r := false) (by decide +kernel)))
      refine fun D12 n12 => ?_
      have d12 : D12 ≠ p := g11.ne n12
      have u12 := Same.new (o := .dK []) n12
      have S12 := S11.trans u12
      have W12 := W11.trans u12
      have g12 := g11.same u12
      refine ⟨Nat.le_of_ble_eq_true rfl, fun D13 n13 => ?_⟩
      have d13 : D13 ≠ p := g12.ne n13
      have u13 := Same.new (o := .lst [.ref D12]) n13
      have S13 := S12.trans u13
      have W13 := W12.trans u13
      have g13 := g12.same u13
      have A7 := A6.push (u12.trans u13) (.bad (rem_at d13 upd_same) (Nat.le_of_ble_eq_true rfl) (.cons (.no (.base (.dK (rem_at d12 (u13 _ _ upd_same)))) T.kit_type_dict_Record) .nil) (by decide +kernel))
      refine ⟨Nat.le_of_ble_eq_true rfl, fun D14 n14 => ?_⟩
      have d14 : D14 ≠ p := g13.ne n14
      have u14 := Same.new (o := .lst [.int 0]) n14
      have S14 := S13.trans u14
      have W14 := W13.trans u14
      have g14 := g13.same u14
      have A8 := A7.push u14 (.bad (rem_at d14 upd_same) (Nat.le_of_ble_eq_true rfl) (.cons (.no (.base (.int 0)) T.kit_type_int_Record) .nil) (by decide +kernel))
      refine ⟨Nat.le_of_ble_eq_true rfl, fun D15 n15 => ?_⟩
      have d15 : D15 ≠ p := g14.ne n15
      have u15 := Same.new (o := .lst [.bl true]) n15
      have S15 := S14.trans u15
      have W15 := W14.trans u15
      have g15 := g14.same u15
      have A9 := A8.push u15 (.bad (rem_at d15 upd_same) (Nat.le_of_ble_eq_true rfl) (.cons (.no (.base (.bl true)) T.kit_type_bool_Record) .nil) (by decide +kernel))
      refine ⟨Nat.le_of_ble_eq_true rfl, fun L nL => ?_⟩
      have uL := Same.new (o := .lst [.ref D1, .ref D3, .ref D5, .ref D7, .ref D10, .ref D11, .ref D13, .ref D14, .ref D15]) nL
      have AL := A9.same uL
      refine addL (uL _ _ (W15 _ _ hl)) upd_same (by rw [lv]; exact Nat.le_of_ble_eq_true rfl) fun q nq => ?_
      have uq := Same.new (o := .lst (vs ++ [.ref D1, .ref D3, .ref D5, .ref D7, .ref D10, .ref D11, .ref D13, .ref D14, .ref D15])) nq
      exact ⟨q, _, rfl, S15.trans (uL.trans uq), upd_same, (g15.same uL).ne nq, by rw [List.length_append, lv]; rfl, (B1.same (W15.trans (uL.trans uq))).app (AL.same uq)⟩
    rintro σ1 H2 ⟨l, vs, rfl, s2, hl, lp, lv, B2⟩
    refine ⟨fun σ1 H' => ∃ l vs, σ1 = [some (.ref p), some (.ref a), some (.ref l)] ∧ Same H H' ∧ H' l = some (.lst vs) ∧ l ≠ p ∧ vs.length = 24 ∧ BadR K A p H' vs, ?_, ?_⟩
    · refine ⟨_, rfl, ?_⟩
      have hs1 : SrcAt _ p n := hs.same s2
      have A0 : BadR K A p H2 [] := fun v hv => by cases hv
      refine fun D1 dx1 n1 m1 q1 => ⟨D1, _, dx1, "a", 0, rfl, upd_same, rc_Inserted T, by decide +kernel, by decide, by decide, fun Hm1 em1 bm1 => ⟨rfl, ?_⟩⟩
      have d1 : D1 ≠ p := hs1.ne n1
      have u1 := made_same n1 m1 bm1
      have S1 := s2.trans u1
      have W1 := u1
      have g1 := hs1.same u1
      refine ⟨Nat.le_of_ble_eq_true rfl, fun D2 n2 => ?_⟩
      have d2 : D2 ≠ p := g1.ne n2
      have u2 := Same.new (o := .lst [.ref D1]) n2
      have S2 := S1.trans u2
      have W2 := W1.trans u2
      have g2 := g1.same u2
      refine .inr ⟨D2, 81, _, rfl, rfl, upd_same, by decide, by decide, Nat.le_of_ble_eq_true rfl, fun D3 n3 => ?_⟩
      have d3 : D3 ≠ p := g2.ne n3
      have u3 := Same.new (o := .lst (List.replicate (81 : Int).toNat [V.ref D1]).flatten) n3
      have S3 := S2.trans u3
      have W3 := W2.trans u3
      have g3 := g2.same u3
      have A1 := A0.push (u1.trans (u2.trans u3)) (.bad (bs := List.replicate 81 true) (rem_at d3 upd_same) (Nat.le_trans (Nat.le_of_eq (rep_len _ 81)) (by decide)) (Rws.rep (b := true) (by have r := Rw.row (K := K) (A := A) (way := 0) (x := "a") (n := 0) (rem_at d1 ((u2.trans u3) _ _ em1)) (by decide) (by decide); exact r) 81) (by decide +kernel))
      refine fun D4 dx4 n4 m4 q4 => ⟨D4, _, dx4, "a", 0, rfl, upd_same, rc_Inserted T, by decide +kernel, by decide, by decide, fun Hm4 em4 bm4 => ⟨rfl, ?_⟩⟩
      have d4 : D4 ≠ p := g3.ne n4
      have u4 := made_same n4 m4 bm4
      have S4 := S3.trans u4
      have W4 := W3.trans u4
      have g4 := g3.same u4
      have A2 := A1.push u4 (.no (.base (.ins (rem_at d4 em4) T.cl_Inserted T.ty_Inserted.ha T.ty_Inserted.hn T.ty_Inserted.ht T.ty_Inserted.hm)) T.kit_Inserted_type_list)
      refine ⟨Nat.zero_le _, fun D5 n5 => ?_⟩
      have d5 : D5 ≠ p := g4.ne n5
      have u5 := Same.new (o := .tup []) n5
      have S5 := S4.trans u5
      have W5 := W4.trans u5
      have g5 := g4.same u5
      refine ⟨Nat.le_of_ble_eq_true rfl, fun D6 n6 => ?_⟩
      have d6 : D6 ≠ p := g5.ne n6
      have u6 := Same.new (o := .lst [.ref D5]) n6
      have S6 := S5.trans u6
      have W6 := W5.trans u6
      have g6 := g5.same u6
      have A3 := A2.push (u5.trans u6) (.bad (rem_at d6 upd_same) (Nat.le_of_ble_eq_true rfl) (.cons (.no (.base (.tup (rem_at d5 (u6 _ _ upd_same)))) T.kit_type_tuple_Record) .nil) (by decide +kernel))
      refine ⟨Nat.le_of_ble_eq_true rfl, fun L nL => ?_⟩
      have uL := Same.new (o := .lst [.ref D3, .ref D4, .ref D6]) nL
      have AL := A3.same uL
      refine addL (uL _ _ (W6 _ _ hl)) upd_same (by rw [lv]; exact Nat.le_of_ble_eq_true rfl) fun q nq => ?_
      have uq := Same.new (o := .lst (vs ++ [.ref D3, .ref D4, .ref D6])) nq
      exact ⟨q, _, rfl, S6.trans (uL.trans uq), upd_same, (g6.same uL).ne nq, by rw [List.length_append, lv]; rfl, (B2.same (W6.trans (uL.trans uq))).app (AL.same uq)⟩
    rintro σ1 H4 ⟨l, vs, rfl, s4, hl, lp, lv, B4⟩
    refine ⟨_, rfl, _, rfl, _, rfl, _, _, rfl, .inl ⟨_, SqL.of hl, rfl⟩, p, (vs.length : Nat), n, rfl, by omega, by omega, hs.same s4, by omega, fun r H5 g0 g1 g2 g3 => ?_⟩
    obtain ⟨j, rfl⟩ : ∃ j : Nat, r = j := ⟨r.toNat, by omega⟩
    have hj : j < vs.length := by omega
    refine ixL (g3 _ _ hl lp) (atI_nat (List.getElem?_eq_getElem hj)) ?_
    exact h _ _ ((But.same s4).trans g3) g2 ((B4 _ (List.getElem_mem hj)).same (rem_but g3))

end
end Own

set_option Elab.async false
set_option linter.all false
set_option maxRecDepth 100000
set_option maxHeartbeats 4000000
namespace Own
open PySem L2 ClX
local macro_rules | `(tactic| walk_at "v") => `(tactic| refine ⟨_, rfl, ?_⟩)
local macro_rules | `(tactic| walk_at "ii") => `(tactic| refine ⟨_, _, rfl, rfl, ?_⟩)
local macro_rules | `(tactic| walk_at "go") => `(tactic| repeat (first | refine ⟨_, rfl, ?_⟩ | refine ⟨_, _, rfl, rfl, ?_⟩ | refine addI ?_ | refine L2.iteT ?_ | refine L2.iteF ?_))

section
variable {P : Program} {w : World} {K : PySem.W.Frag} {mg : Str → Option Value} {base : Heap} {A : Ad}
/-! ### a history, drawn -/
theorem pickS {zs : List Str} {r : Int} (C : Str → Prop) (hC : ∀ z ∈ zs, C z) (h0 : 0 ≤ r) (h1 : r < zs.length) : ∃ z, atI (zs.map V.str) r = some (.str z) ∧ C z := by
  obtain ⟨j, rfl⟩ : ∃ j : Nat, r = j := ⟨r.toNat, by omega⟩
  have hj : j < zs.length := by omega
  exact ⟨zs[j], atI_nat (by simp [hj]), hC _ (List.getElem_mem hj)⟩
theorem first_at {x : Str} : ∀ xs : List Str, x ∈ xs → ∃ j, j < xs.length ∧ xs[j]? = some x ∧ ∀ m z, m < j → xs[m]? = some z → z ≠ x
  | y :: ys, h => by
    by_cases e : y = x
    · exact ⟨0, Nat.succ_pos _, congrArg some e, fun m z hm => absurd hm (Nat.not_lt_zero _)⟩
    · have h2 : x ∈ ys := (List.mem_cons.mp h).resolve_left fun z => e z.symm
      obtain ⟨j, h3, h4, h5⟩ := first_at ys h2
      refine ⟨j + 1, Nat.succ_lt_succ h3, h4, fun m z hm hz => ?_⟩
      cases m with
      | zero => exact fun q => e ((Option.some.inj hz).trans q)
      | succ m => exact h5 m z (Nat.lt_of_succ_lt_succ hm) hz
theorem Parts.updL {H : Hp} {vs us : List V} {ps : List (Int × Str × Nat)} {D : Addr} {o : HO} (h : Parts H vs ps) (hD : H D = some (.lst us)) : Parts (upd H D o) vs ps := by
  induction h with
  | nil => exact .nil
  | @cons t way x n vs ps e h0 h1 hx hn _ ih =>
    refine .cons ?_ h0 h1 hx hn ih
    rw [upd_ne (fun z => by rw [z, hD] at e; cases e)]
    exact e
theorem playL_snoc : ∀ {ps : List (Int × Str × Nat)} {k : Nat} {xs cur ys : List Str} {w : Int} {x : Str} {n : Nat}, playL ps k xs = .ok cur → backW w x n cur = some ys → playL (ps ++ [(w, x, n)]) k xs = .ok ys
  | [], k, xs, cur, ys, w, x, n, h, e => by
    cases h
    rw [List.nil_append, playL_cons, e]
    rfl
  | (w', x', n') :: ps, k, xs, cur, ys, w, x, n, h, e => by
    rw [playL_cons] at h
    rw [List.cons_append, playL_cons]
    cases eb : backW w' x' n' xs with
    | none => rw [eb] at h; cases h
    | some zs =>
      rw [eb] at h
      exact playL_snoc h e
theorem back0 {x : Str} {n : Nat} {xs : List Str} (a : x ∉ xs) (b : n ≤ xs.length) (c : xs.length ≤ 59) : backW 0 x n xs = some (inL xs x n) := by
  unfold backW
  rw [if_pos rfl]
  exact if_pos ⟨a, b, by omega⟩
theorem back12 {w : Int} {x : Str} {n : Nat} {xs : List Str} (hw : w = 1 ∨ w = 2) (a : xs[n]? = some x) : ∃ ys, backW w x n xs = some ys := by
  unfold backW
  rcases hw with rfl | rfl
  · rw [if_neg (by decide), if_pos rfl]
    exact ⟨_, if_pos a⟩
  · rw [if_neg (by decide), if_neg (by decide), if_pos rfl]
    exact ⟨_, if_pos a⟩
/-- what stands while a history is drawn -/
structure Pl (H0 H : Hp) (p : Addr) (m : Int) (C F L : Addr) (xs cur : List Str) (ts ls : List V) (ps : List (Int × Str × Nat)) (M : Addr) : Prop where
  b : But p H0 H
  s : SrcAt H p m
  nC : H0 C = none
  nF : H0 F = none
  nL : H0 L = none
  nM : H0 M = none
  pC : C ≠ p
  pF : F ≠ p
  pL : L ≠ p
  pM : M ≠ p
  fC : C ≠ F
  fL : L ≠ F
  fM : M ≠ F
  lC : C ≠ L
  lM : M ≠ L
  hC : H C = some (.lst (cur.map V.str))
  hF : H F = some (.lst ts)
  hL : H L = some (.lst ls)
  hM : H M = some (.lst (cur.map V.str))
  ix : Items cur
  lx : cur.length ≤ 60
  q : Parts H ts ps
  e : playL ps 0 xs = .ok cur
  z : ls.length = ps.length + 1
  g : ls[ps.length]? = some (.ref M)
theorem Pl.more {H0 H H' : Hp} {p : Addr} {m : Int} {C F L : Addr} {xs cur : List Str} {ts ls : List V} {ps : List (Int × Str × Nat)} {M : Addr} (c : Pl H0 H p m C F L xs cur ts ls ps M) (s : Same H H') : Pl H0 H' p m C F L xs cur ts ls ps M :=
  { c with b := c.b.trans (But.same s), s := c.s.same s, hC := s _ _ c.hC, hF := s _ _ c.hF, hL := s _ _ c.hL, hM := s _ _ c.hM, q := c.q.same s }
theorem Pl.pick {H0 H H' : Hp} {p : Addr} {m k : Int} {C F L : Addr} {xs cur : List Str} {ts ls : List V} {ps : List (Int × Str × Nat)} {M : Addr} (c : Pl H0 H p m C F L xs cur ts ls ps M) (b : But p H H') (s : SrcAt H' p k) : Pl H0 H' p k C F L xs cur ts ls ps M :=
  { c with b := c.b.trans b, s := s, hC := b _ _ c.hC c.pC, hF := b _ _ c.hF c.pF, hL := b _ _ c.hL c.pL, hM := b _ _ c.hM c.pM, q := c.q.but c.s b }
theorem Pl.le {H0 H : Hp} {p : Addr} {m k : Int} {C F L : Addr} {xs cur : List Str} {ts ls : List V} {ps : List (Int × Str × Nat)} {M : Addr} (c : Pl H0 H p m C F L xs cur ts ls ps M) (h : m ≤ k) : Pl H0 H p k C F L xs cur ts ls ps M :=
  { c with s := c.s.le h }
def spPlay : Sp := fun vs H Q _ => ∃ (p a b : Addr) (n : Int) (many : Nat) (xs ys : List Str), vs = [.ref p, .ref a, .ref b, .int many] ∧ SrcAt H p n ∧ n < 2 ^ 47 ∧ many ≤ 80 ∧ a ≠ p ∧ b ≠ p ∧ H a = some (.lst (xs.map V.str)) ∧ H b = some (.lst (ys.map V.str)) ∧ Items xs ∧ xs.length ≤ 60 ∧ (∀ y ∈ ys, isItem y = true) ∧ 0 < ys.length ∧ ys.length ≤ 4 ∧
  ∀ (t C F L M : Addr) (cur : List Str) (ts ls : List V) (ps : List (Int × Str × Nat)) (H' : Hp), Pl H H' p (n + 3 * many) C F L xs cur ts ls ps M → ps.length = many → H' t = some (.tup [.ref F, .ref L]) → Q (.ref t) H'
theorem ok__law_play (T : Txt K mg A) : Ok1 P w K mg base 3 A.f__law_play ["source", "shelf", "spare", "many"] spPlay := by
  refine T.fn__law_play.ok sc__law_play (fun _ _ _ _ _ _ us hl => match us, hl with | [_, _, _, _], _ => rfl) (fun vs H Q E h => ?_) (fun cdv B up s H vs Q E hr h => ?_)
  · obtain ⟨p, a, b, n, many, xs, ys, rfl, _⟩ := h
    rfl
  · obtain ⟨p, a, b, n, many, xs, ys, rfl, hs, hn, hmany, ap, bp, ha, hb, hi, hm, hy, y0, y4, h⟩ := h
    refine ⟨_, (pss_cons (ps_asg (pe_tup (pa_cons (pe_callTy call_list_of (by rfl) T.no_list (by decide +kernel) (pa_cons (pv 1) pa_nil)) (pa_cons (pe_lst pa_nil) (pa_cons (pe_lst (pa_cons (pe_callTy call_list_of (by rfl) T.no_list (by decide +kernel) (pa_cons (pv 1) pa_nil)) pa_nil)) pa_nil)))) (pg_tup (by rfl) (pgs_cons (pg_name (i := 4) sc__law_play.nd rfl (Or.inr rfl)) (pgs_cons (pg_name (i := 5) sc__law_play.nd rfl (Or.inl rfl)) (pgs_cons (pg_name (i := 6) sc__law_play.nd rfl (Or.inl rfl)) pgs_nil)))))
      (pss_cons (ps_for PassesOwn.never rfl (pi_range1 rfl T.no_range (pa_cons (pv 3) pa_nil)) (pg_name (i := 7) sc__law_play.nd rfl (Or.inl rfl))
      (pss_cons (ps_set (i := 8) sc__law_play.nd rfl (Or.inl rfl) (po_call (ok__law_pick T) (hr.mono (by decide)) T.mg__law_pick (pa_cons (pv 0) (pa_cons pe_int pa_nil))))
      (pss_cons (ps_setLcD (i := 9) (own := [("name", 10)]) rfl sc__law_play.nd rfl rfl (sw_true rfl rfl rfl (by decide +kernel)) (pi_list (pe_op op_addX (pv 2) (pv 1))) (blkOk_by (N := N__law_play) (sc := defScope s__law_play) (by decide +kernel)) (fun _ _ _ _ _ => pg_name (i := 10) sc__law_play.nd rfl (Or.inl rfl)) (fun _ _ _ _ _ => (pts_one (pt_cmpR op_notIn_seq (pv 10) (pv 4) rfl))) (fun _ _ _ _ _ => (pv 10)))
      (pss_mid (ps_if (PW.pt (pw_or (pt_cmpR (op_eqX hr) (pv 4) (pe_lst pa_nil) (nomark _)) (pw_or1 (PW.pt (pw_and (pt_cmpR (op_eqX hr) (pv 8) pe_int (nomark _)) (pw_and1 (PW.pt (pw_or (pt_cmpR (op_eqX hr) (pv 9) (pe_lst pa_nil) (nomark _)) (pw_or1 (pt_cmpR op_gt (pe_callB call_len (by rfl) T.no_len (by decide +kernel) (pa_cons (pv 4) pa_nil)) pe_int (nomark _))))))))))) (pss_one (ps_set (i := 8) sc__law_play.nd rfl (Or.inl rfl) (pe_ifExp (pt_cmpR (op_eqX hr) (pv 4) (pe_lst pa_nil) (nomark _)) pe_int pe_int))) pss_nil)
      (pss_mid (ps_set (i := 10) sc__law_play.nd rfl (Or.inl rfl) (pe_ifExp (pt_cmpR (op_eqX hr) (pv 8) pe_int (nomark _)) (pe_ix ix_seq (pv 9) (po_call (ok__law_pick T) (hr.mono (by decide)) T.mg__law_pick (pa_cons (pv 0) (pa_cons (pe_callB call_len (by rfl) T.no_len (by decide +kernel) (pa_cons (pv 9) pa_nil)) pa_nil))) (fun _ _ => rfl)) (pe_ix ix_seq (pv 4) (po_call (ok__law_pick T) (hr.mono (by decide)) T.mg__law_pick (pa_cons (pv 0) (pa_cons (pe_callB call_len (by rfl) T.no_len (by decide +kernel) (pa_cons (pv 4) pa_nil)) pa_nil))) (fun _ _ => rfl))))
      (pss_mid (ps_set (i := 11) sc__law_play.nd rfl (Or.inl rfl) (pe_ifExp (pt_cmpR (op_eqX hr) (pv 8) pe_int (nomark _)) (po_call (ok__law_pick T) (hr.mono (by decide)) T.mg__law_pick (pa_cons (pv 0) (pa_cons (pe_op op_addX (pe_callB call_len (by rfl) T.no_len (by decide +kernel) (pa_cons (pv 4) pa_nil)) pe_int) pa_nil))) (pe_bm PySem.F.plainAttrs_list PySem.F.slot_list_index PySem.F.type_list_index mt_index (pv 4) (pa_cons (pv 10) pa_nil))))
      (pss_cons (ps_expr (pe_bm PySem.F.plainAttrs_list PySem.F.slot_list_append PySem.F.type_list_append mt_append (pv 5) (pa_cons (pe_tup (pa_cons (pv 8) (pa_cons (pv 10) (pa_cons (pv 11) pa_nil)))) pa_nil)))
      (pss_cons (ps_set (i := 4) sc__law_play.nd rfl (Or.inr rfl) (po_call (ok__law_done T) (hr.mono (by decide)) T.mg__law_done (pa_cons (pv 8) (pa_cons (pv 10) (pa_cons (pv 11) (pa_cons (pv 4) pa_nil))))))
      (pss_one (ps_expr (pe_bm PySem.F.plainAttrs_list PySem.F.slot_list_append PySem.F.type_list_append mt_append (pv 6) (pa_cons (pe_callTy call_list_of (by rfl) T.no_list (by decide +kernel) (pa_cons (pv 4) pa_nil)) pa_nil))))))))))))
      (pss_one (ps_ret (pe_tup (pa_cons (pv 5) (pa_cons (pv 6) pa_nil))))))), ?_⟩
    refine ⟨_, rfl, a, _, rfl, .inl (SqL.of ha), fun C nC => ?_⟩
    have uC := Same.new (o := .lst (xs.map V.str)) nC
    refine ⟨Nat.zero_le _, fun F nF => ?_⟩
    have uF := Same.new (o := .lst []) nF
    have S1 := uC.trans uF
    refine ⟨_, rfl, a, _, rfl, .inl (SqL.of (S1 _ _ ha)), fun M nM => ?_⟩
    have uM := Same.new (o := .lst (xs.map V.str)) nM
    refine ⟨Nat.le_of_ble_eq_true rfl, fun L nL => ?_⟩
    have uL := Same.new (o := .lst [.ref M]) nL
    refine ⟨Nat.le_of_ble_eq_true rfl, fun q nq => ⟨q, _, rfl, SqT.of upd_same, rfl, _, _, rfl, _, _, rfl, _, _, rfl, rfl, ?_⟩⟩
    have uq := Same.new (o := .tup [.ref C, .ref F, .ref L]) nq
    have pl0 : Pl H _ p (n + 3 * ((0 : Nat) : Int)) C F L xs xs [] [.ref M] [] M :=
      { b := But.same ((S1.trans uM).trans (uL.trans uq)), s := (hs.same ((S1.trans uM).trans (uL.trans uq))).le (by omega)
        nC := nC, nF := none_same uC nF, nL := none_same (S1.trans uM) nL, nM := none_same S1 nM
        pC := hs.ne nC, pF := (hs.same uC).ne nF, pL := (hs.same (S1.trans uM)).ne nL, pM := (hs.same S1).ne nM
        fC := ne_of_none (at_new uC) nF, fL := (ne_of_none (uM _ _ (at_new uF)) nL).symm, fM := (ne_of_none (at_new uF) nM).symm
        lC := ne_of_none ((uF.trans uM) _ _ (at_new uC)) nL, lM := ne_of_none (at_new uM) nL
        hC := (uF.trans (uM.trans (uL.trans uq))) _ _ (at_new uC), hF := (uM.trans (uL.trans uq)) _ _ (at_new uF), hL := uq _ _ (at_new uL), hM := (uL.trans uq) _ _ (at_new uM)
        ix := hi, lx := hm, q := .nil, e := rfl, z := rfl, g := rfl }
    clear uC uF S1 uM uL uq nC nF nM nL nq
    refine ⟨_, rfl, _, rfl, by omega, by omega, ?_⟩
    refine for_range (fun i σ H' => ∃ (C M : Addr) (cur : List Str) (ts ls : List V) (ps : List (Int × Str × Nat)) (a7 a8 a9 a10 a11 : Option V), σ = [some (.ref p), some (.ref a), some (.ref b), some (.int many), some (.ref C), some (.ref F), some (.ref L), a7, a8, a9, a10, a11] ∧ Pl H H' p (n + 3 * ((i : Nat) : Int)) C F L xs cur ts ls ps M ∧ ps.length = i) ?_ ?_ ?_
    · exact ⟨C, M, xs, [], [.ref M], [], _, _, _, _, _, rfl, pl0, rfl⟩
    · clear pl0 C M
      rintro i σ H1 hi8 ⟨C, M, cur, ts, ls, ps, a7, a8, a9, a10, a11, rfl, pl, lps⟩
      rw [Int.toNat_natCast] at hi8
      refine ⟨_, rfl, p, 3, n + 3 * ((i : Nat) : Int), rfl, by decide, by decide, pl.s, by omega, fun r1 H2 a0 a1 a2 a3 => ?_⟩
      have pl2 := pl.pick a3 a2
      clear pl a2 a3
      refine ⟨_, rfl, _, rfl, addL (pl2.b _ _ hb bp) (pl2.b _ _ ha ap) (by rw [List.length_map, List.length_map]; omega) fun c nc => ?_⟩
      have hc := at_new (Same.new (o := .lst (ys.map V.str ++ xs.map V.str)) nc)
      have pl3 := pl2.more (Same.new (o := .lst (ys.map V.str ++ xs.map V.str)) nc)
      rw [← List.map_append] at hc pl3 ⊢
      generalize upd H2 c (.lst ((ys ++ xs).map V.str)) = H3 at hc pl3 ⊢
      clear pl2 nc
      refine ⟨c, rfl, ⟨_, SqL.of hc⟩, fun D nD => ?_⟩
      have pl4 := pl3.more (Same.new (o := .lst []) nD)
      have Dp : D ≠ p := pl3.s.ne nD
      refine lc_list (K := K) (a := c) (xs := (ys ++ xs).map V.str) (fun j H' => Same H3 H' ∧ H' D = some (.lst ((((ys ++ xs).take j).filter fun z => decide (z ∉ cur)).map V.str))) ?_ ?_ ?_ ?_
      · exact ⟨Same.new nD, upd_same⟩
      · rintro j H4 _ ⟨v1, _⟩
        exact SqL.of (v1 _ _ hc)
      · rintro j y H4 hy4 ⟨v1, g1⟩
        rw [List.getElem?_map] at hy4
        cases ez : (ys ++ xs)[j]? with
        | none => rw [ez] at hy4; cases hy4
        | some z =>
          rw [ez] at hy4
          cases hy4
          have e9 : (ys ++ xs).take (j + 1) = (ys ++ xs).take j ++ [z] := by
            rw [List.take_add_one, ez]
            rfl
          have v2 : ∀ o, Same H3 (upd H4 D o) := fun o c u z => by
            rw [upd_ne (ne_of_none z nD)]
            exact v1 _ _ z
          refine ⟨rfl, _, rfl, _, rfl, C, _, rfl, .inl (SqL.of (v1 _ _ pl3.hC)), rfl, flatS cur, _, rfl, ?_⟩
          rw [inS]
          by_cases zc : z ∈ cur
          · rw [decide_eq_true zc]
            refine iteF ⟨v1, ?_⟩
            rw [g1, e9, List.filter_append, List.filter_cons_of_neg (by simp [zc]), List.filter_nil, List.append_nil]
          · rw [decide_eq_false zc]
            refine iteT ⟨_, rfl, _, g1, ?_, v2 _, ?_⟩
            · rw [List.length_map]
              have hj : j < (ys ++ xs).length := (List.getElem?_eq_some_iff.mp ez).1
              rw [List.length_append] at hj
              exact Nat.lt_of_le_of_lt (List.length_filter_le _ _) (Nat.lt_of_le_of_lt (List.length_take_le _ _) (Nat.lt_of_lt_of_le (show j < 1000 by omega) (by decide)))
            · rw [upd_same, e9, List.filter_append, List.filter_cons_of_pos (by simp [zc]), List.filter_nil, List.map_append]
              rfl
      · rintro H4 ⟨v1, g1⟩
        have lm : ((ys ++ xs).map V.str).length = (ys ++ xs).length := List.length_map ..
        rw [lm, List.take_length] at g1
        have pl5 := pl3.more v1
        clear pl4 nD v1 hc pl3
        obtain ⟨fr, hfr⟩ : ∃ fr, fr = (ys ++ xs).filter fun z => decide (z ∉ cur) := ⟨_, rfl⟩
        rw [← hfr] at g1
        have good : ∀ z ∈ fr, isItem z = true ∧ z ∉ cur := fun z hz => by
          rw [hfr, List.mem_filter] at hz
          exact ⟨(List.mem_append.mp hz.1).elim (hy z) (hi.it z), of_decide_eq_true hz.2⟩
        have lfr : fr.length ≤ 64 := by
          rw [hfr]
          refine Nat.le_trans (List.length_filter_le _ _) ?_
          rw [List.length_append]
          omega
        have fr0 : cur = [] → fr ≠ [] := fun e z => by
          rw [hfr, e] at z
          cases ys with
          | nil => cases y0
          | cons y ys => simp at z
        clear hfr
        refine ⟨fun σ1 H' => ∃ way : Int, σ1 = [some (.ref p), some (.ref a), some (.ref b), some (.int many), some (.ref C), some (.ref F), some (.ref L), some (.int (0 + ((i : Nat) : Int))), some (.int way), some (.ref D), a10, a11] ∧ Pl H H' p (n + 3 * ((i : Nat) : Int) + 1) C F L xs cur ts ls ps M ∧ H' D = some (.lst (fr.map V.str)) ∧ ((way = 0 ∧ fr ≠ [] ∧ cur.length ≤ 59) ∨ ((way = 1 ∨ way = 2) ∧ cur ≠ [])), ?_, ?_⟩
        · have emp : ∀ H' : Hp, ∀ o, upd H' o (.lst []) o = some (.lst (([] : List Str).map V.str)) := fun H' o => upd_same
          have sc := shapedS (xs := cur) pl5.ix.it
          have sf := shapedS (xs := fr) fun z hz => (good z hz).1
          have s0 := shapedS (xs := []) fun z hz => by cases hz
          have two : cur ≠ [] → ∀ H', Same H4 H' → ∃ way : Int, [some (.ref p), some (.ref a), some (.ref b), some (.int many), some (.ref C), some (.ref F), some (.ref L), some (.int (0 + ((i : Nat) : Int))), some (.int 2), some (.ref D), a10, a11] = [some (.ref p), some (.ref a), some (.ref b), some (.int many), some (.ref C), some (.ref F), some (.ref L), some (.int (0 + ((i : Nat) : Int))), some (.int way), some (.ref D), a10, a11] ∧ Pl H H' p (n + 3 * ((i : Nat) : Int) + 1) C F L xs cur ts ls ps M ∧ H' D = some (.lst (fr.map V.str)) ∧ ((way = 0 ∧ fr ≠ [] ∧ cur.length ≤ 59) ∨ ((way = 1 ∨ way = 2) ∧ cur ≠ [])) := fun z H' s => ⟨2, rfl, pl5.more s, s _ _ g1, .inr ⟨.inr rfl, z⟩⟩
          refine ⟨_, rfl, Nat.zero_le _, fun o no => .inr ⟨sl cur, sl [], dpS (SqL.of ((Same.new no) _ _ pl5.hC)), dpS (SqL.of (emp _ _)), sc, s0, ?_⟩⟩
          have t1 := Same.new (o := .lst []) no
          rw [eqvS]
          refine ⟨_, rfl, ?_⟩
          by_cases ce : cur = []
          · rw [decide_eq_true ce]
            refine iteT (iteT ⟨_, rfl, Nat.zero_le _, fun o2 no2 => .inr ⟨sl cur, sl [], dpS (SqL.of ((t1.trans (Same.new no2)) _ _ pl5.hC)), dpS (SqL.of (emp _ _)), sc, s0, ?_⟩⟩)
            have t2 := t1.trans (Same.new (o := .lst []) no2)
            rw [eqvS]
            refine ⟨_, rfl, ?_⟩
            rw [decide_eq_true ce]
            exact iteT ⟨0, rfl, pl5.more t2, t2 _ _ g1, .inl ⟨rfl, fr0 ce, by rw [ce]; exact Nat.zero_le _⟩⟩
          · rw [decide_eq_false ce]
            refine iteF ⟨_, rfl, eqS rfl ⟨_, rfl, ite2 (fun c1 => ?_) (fun c1 => ?_)⟩⟩
            · refine ⟨_, rfl, Nat.zero_le _, fun o2 no2 => .inr ⟨sl fr, sl [], dpS (SqL.of ((t1.trans (Same.new no2)) _ _ g1)), dpS (SqL.of (emp _ _)), sf, s0, ?_⟩⟩
              have t2 := t1.trans (Same.new (o := .lst []) no2)
              rw [eqvS]
              refine ⟨_, rfl, ?_⟩
              by_cases fe : fr = []
              · rw [decide_eq_true fe]
                repeat refine iteT ?_
                refine ⟨_, rfl, Nat.zero_le _, fun o3 no3 => .inr ⟨sl cur, sl [], dpS (SqL.of ((t2.trans (Same.new no3)) _ _ pl5.hC)), dpS (SqL.of (emp _ _)), sc, s0, ?_⟩⟩
                have t3 := t2.trans (Same.new (o := .lst []) no3)
                rw [eqvS]
                refine ⟨_, rfl, ?_⟩
                rw [decide_eq_false ce]
                exact iteF (two ce _ t3)
              · rw [decide_eq_false fe]
                refine iteF ⟨_, rfl, _, _, rfl, .inl ⟨_, SqL.of (t2 _ _ pl5.hC), rfl⟩, _, _, rfl, rfl, _, rfl, ?_⟩
                rw [List.length_map]
                by_cases l9 : (59 : Int) < (cur.length : Nat)
                · rw [decide_eq_true l9]
                  repeat refine iteT ?_
                  refine ⟨_, rfl, Nat.zero_le _, fun o3 no3 => .inr ⟨sl cur, sl [], dpS (SqL.of ((t2.trans (Same.new no3)) _ _ pl5.hC)), dpS (SqL.of (emp _ _)), sc, s0, ?_⟩⟩
                  have t3 := t2.trans (Same.new (o := .lst []) no3)
                  rw [eqvS]
                  refine ⟨_, rfl, ?_⟩
                  rw [decide_eq_false ce]
                  exact iteF (two ce _ t3)
                · rw [decide_eq_false l9]
                  repeat refine iteF ?_
                  exact ⟨r1, rfl, pl5.more t2, t2 _ _ g1, .inl ⟨eq_dec c1, fe, by omega⟩⟩
            · have c2 := ne_dec c1
              repeat refine iteF ?_
              exact ⟨r1, rfl, pl5.more t1, t1 _ _ g1, .inr ⟨by omega, ce⟩⟩
        · rintro σ1 H5 ⟨way, rfl, pl6, g6, ww⟩
          clear pl5 g1 fr0 a0 a1
          refine ⟨fun σ1 H' => ∃ x : Str, σ1 = [some (.ref p), some (.ref a), some (.ref b), some (.int many), some (.ref C), some (.ref F), some (.ref L), some (.int (0 + ((i : Nat) : Int))), some (.int way), some (.ref D), some (.str x), a11] ∧ Pl H H' p (n + 3 * ((i : Nat) : Int) + 2) C F L xs cur ts ls ps M ∧ isItem x = true ∧ ((way = 0 ∧ x ∉ cur ∧ cur.length ≤ 59) ∨ ((way = 1 ∨ way = 2) ∧ x ∈ cur)), ?_, ?_⟩
          · refine ⟨_, rfl, eqS rfl ⟨_, rfl, ite2 (fun c1 => ?_) (fun c1 => ?_)⟩⟩
            · have c2 := eq_dec c1
              have ww2 : fr ≠ [] ∧ cur.length ≤ 59 := by
                rcases ww with w | w
                · exact w.2
                · omega
              have frp := List.length_pos_iff.mpr ww2.1
              refine ⟨_, rfl, _, rfl, _, rfl, _, _, rfl, .inl ⟨_, SqL.of g6, rfl⟩, p, _, n + 3 * ((i : Nat) : Int) + 1, rfl, ?_, ?_, pl6.s, by omega, fun r2 H6 b0 b1 b2 b3 => ?_⟩
              · rw [List.length_map]; omega
              · rw [List.length_map]; omega
              rw [List.length_map] at b1
              obtain ⟨z, hz, iz⟩ := pickS (zs := fr) (r := r2) (fun z => isItem z = true ∧ z ∉ cur) good b0 b1
              exact ixL (b3 _ _ g6 Dp) hz ⟨z, rfl, (pl6.pick b3 b2).le (by omega), iz.1, .inl ⟨c2, iz.2, ww2.2⟩⟩
            · have c2 := ne_dec c1
              have ww2 : (way = 1 ∨ way = 2) ∧ cur ≠ [] := by
                rcases ww with w | w
                · exact absurd w.1 c2
                · exact w
              have cup := List.length_pos_iff.mpr ww2.2
              have lc := pl6.lx
              refine ⟨_, rfl, _, rfl, _, rfl, _, _, rfl, .inl ⟨_, SqL.of pl6.hC, rfl⟩, p, _, n + 3 * ((i : Nat) : Int) + 1, rfl, ?_, ?_, pl6.s, by omega, fun r2 H6 b0 b1 b2 b3 => ?_⟩
              · rw [List.length_map]; omega
              · rw [List.length_map]; omega
              rw [List.length_map] at b1
              obtain ⟨z, hz, iz⟩ := pickS (zs := cur) (r := r2) (fun z => z ∈ cur) (fun z hz => hz) b0 b1
              exact ixL (b3 _ _ pl6.hC pl6.pC) hz ⟨z, rfl, (pl6.pick b3 b2).le (by omega), pl6.ix.it z iz, .inr ⟨ww2.1, iz⟩⟩
          rintro σ1 H6 ⟨x, rfl, pl7, hx, ww7⟩
          clear pl6 g6 ww good lfr
          refine ⟨fun σ1 H' => ∃ k : Nat, σ1 = [some (.ref p), some (.ref a), some (.ref b), some (.int many), some (.ref C), some (.ref F), some (.ref L), some (.int (0 + ((i : Nat) : Int))), some (.int way), some (.ref D), some (.str x), some (.int (k : Nat))] ∧ Pl H H' p (n + 3 * ((i : Nat) : Int) + 3) C F L xs cur ts ls ps M ∧ k ≤ 60 ∧ 0 ≤ way ∧ way < 3 ∧ ∃ zs, backW way x k cur = some zs, ?_, ?_⟩
          · have lc := pl7.lx
            refine ⟨_, rfl, eqS rfl ⟨_, rfl, ite2 (fun c1 => ?_) (fun c1 => ?_)⟩⟩
            · have c2 := eq_dec c1
              have ww2 : x ∉ cur ∧ cur.length ≤ 59 := by
                rcases ww7 with w | w
                · exact w.2
                · omega
              refine ⟨_, rfl, _, rfl, _, _, rfl, .inl ⟨_, SqL.of pl7.hC, rfl⟩, addI ⟨p, _, n + 3 * ((i : Nat) : Int) + 2, rfl, ?_, ?_, pl7.s, by omega, fun r2 H7 b0 b1 b2 b3 => ?_⟩⟩
              · rw [List.length_map]; omega
              · rw [List.length_map]; omega
              rw [List.length_map] at b1
              obtain ⟨k, rfl⟩ : ∃ k : Nat, r2 = k := ⟨r2.toNat, by omega⟩
              refine ⟨k, rfl, (pl7.pick b3 b2).le (by omega), by omega, by omega, by omega, ?_⟩
              rw [c2]
              exact ⟨_, back0 ww2.1 (by omega) ww2.2⟩
            · have c2 := ne_dec c1
              have ww2 : (way = 1 ∨ way = 2) ∧ x ∈ cur := by
                rcases ww7 with w | w
                · exact absurd w.1 c2
                · exact w
              obtain ⟨j, hj, ej, fj⟩ := first_at cur ww2.2
              refine ⟨_, rfl, .inl ⟨rfl, _, SqL.of pl7.hC⟩, _, rfl, C, _, _, j, _, rfl, rfl, SqL.of pl7.hC, rfl, flatS cur, ?_, (show eqV (.str x) (.str x) = true from beq_self_eq_true x), ?_, j, rfl, pl7.le (by omega), by omega, by omega, by omega, back12 ww2.1 ej⟩
              · rw [List.getElem?_map, ej]
                rfl
              · intro m z' hm hz
                rw [List.getElem?_map] at hz
                cases q : cur[m]? with
                | none => rw [q] at hz; cases hz
                | some z =>
                  rw [q] at hz
                  cases hz
                  exact beq_false_of_ne (fj m z hm q)
          rintro σ1 H7 ⟨k, rfl, pl8, hk, w0, w3, zs, ez⟩
          clear pl7 ww7
          have lt := pl8.q.len
          have lz := pl8.z
          refine ⟨_, rfl, .inl ⟨rfl, _, SqL.of pl8.hF⟩, _, rfl, _, rfl, _, rfl, Nat.le_of_ble_eq_true rfl, fun t nt => ?_⟩
          have ut := Same.new (o := .tup [.int way, .str x, .int (k : Nat)]) nt
          have pl9 := pl8.more ut
          have ht := at_new ut
          generalize upd H7 t (.tup [.int way, .str x, .int (k : Nat)]) = H8 at pl9 ht ⊢
          clear ut pl8 nt
          refine ⟨F, _, _, rfl, rfl, pl9.hF, Nat.lt_of_lt_of_le (show ts.length < 1000 by omega) (by decide), ?_⟩
          have q10 : Parts (upd H8 F (.lst (ts ++ [.ref t]))) (ts ++ [.ref t]) (ps ++ [(way, x, k)]) := (pl9.q.app (.cons ht w0 w3 hx hk .nil)).updL pl9.hF
          have b10 : But F H8 (upd H8 F (.lst (ts ++ [.ref t]))) := But.upd
          have hF10 : upd H8 F (.lst (ts ++ [.ref t])) F = some (.lst (ts ++ [.ref t])) := upd_same
          generalize upd H8 F (.lst (ts ++ [.ref t])) = H9 at q10 b10 hF10 ⊢
          have bb : But p H H9 := fun c o e ne => by
            refine b10 _ _ (pl9.b _ _ e ne) fun z => ?_
            rw [z, pl9.nF] at e
            cases e
          have s9 : SrcAt H9 p (n + 3 * ((i : Nat) : Int) + 3) := pl9.s.but b10 pl9.pF.symm
          refine ⟨_, rfl, _, rfl, _, rfl, _, rfl, way, x, k, C, cur, rfl, w0, by omega, hx, b10 _ _ pl9.hC pl9.fC, pl9.ix, pl9.lx, fun zs2 ez2 C2 H10 s10 nC2 hC2 => ?_, fun z => by rw [ez] at z; cases z⟩
          obtain ⟨i2, m2⟩ := done_ok pl9.ix pl9.lx hx ez2
          refine ⟨_, rfl, .inl ⟨rfl, _, SqL.of (s10 _ _ (b10 _ _ pl9.hL pl9.fL))⟩, _, rfl, C2, _, rfl, .inl (SqL.of hC2), fun M2 nM2 => ?_⟩
          have u11 := Same.new (o := .lst (zs2.map V.str)) nM2
          have s11 := s10.trans u11
          have hL11 := s11 _ _ (b10 _ _ pl9.hL pl9.fL)
          refine ⟨L, _, _, rfl, rfl, hL11, Nat.lt_of_lt_of_le (show ls.length < 1000 by omega) (by decide), ?_⟩
          have nL2 : M2 ≠ L := (ne_of_none (s10 _ _ (b10 _ _ pl9.hL pl9.fL)) nM2).symm
          have none9 : ∀ {c : Addr}, H9 c = none → c ≠ p → H c = none := fun {c} e ne => by
            cases eH : H c with
            | none => rfl
            | some o => rw [bb _ _ eH ne] at e; cases e
          have pC2 : C2 ≠ p := s9.ne nC2
          have pM2 : M2 ≠ p := (s9.same s10).ne nM2
          have nM9 : H9 M2 = none := none_same s10 nM2
          refine ⟨C2, M2, zs2, ts ++ [.ref t], ls ++ [.ref M2], ps ++ [(way, x, k)], _, _, _, _, _, rfl, ?_, by rw [List.length_append, lps]; rfl⟩
          have b12 : But L _ (upd _ L (.lst (ls ++ [.ref M2]))) := But.upd (H := upd H10 M2 (.lst (zs2.map V.str)))
          exact
            { b := fun c o e ne => b12 _ _ (s11 _ _ (bb _ _ e ne)) fun z => by rw [z, pl9.nL] at e; cases e
              s := (((s9.same s11).but b12 pl9.pL.symm).le (by omega))
              nC := none9 nC2 pC2, nF := pl9.nF, nL := pl9.nL, nM := none9 nM9 pM2
              pC := pC2, pF := pl9.pF, pL := pl9.pL, pM := pM2
              fC := (ne_of_none hF10 nC2).symm, fL := pl9.fL, fM := (ne_of_none hF10 nM9).symm
              lC := (ne_of_none (b10 _ _ pl9.hL pl9.fL) nC2).symm, lM := nL2
              hC := b12 _ _ (u11 _ _ hC2) ((ne_of_none (b10 _ _ pl9.hL pl9.fL) nC2).symm), hF := b12 _ _ (s11 _ _ hF10) pl9.fL.symm, hL := upd_same, hM := b12 _ _ (at_new u11) nL2
              ix := i2, lx := m2
              q := (q10.same s11).updL hL11
              e := playL_snoc pl9.e ez2
              z := by rw [List.length_append, List.length_append, lz]; rfl
              g := by
                rw [List.length_append, List.length_singleton, ← lz, List.getElem?_append_right (Nat.le_refl _), Nat.sub_self]
                rfl }
    · rintro σ H1 ⟨C, M, cur, ts, ls, ps, a7, a8, a9, a10, a11, rfl, pl, lps⟩
      rw [Int.toNat_natCast] at pl lps
      refine ⟨_, rfl, _, rfl, Nat.le_of_ble_eq_true rfl, fun t nt => ?_⟩
      exact h t C F L M cur ts ls ps _ (pl.more (Same.new nt)) lps upd_same

end
end Own

set_option Elab.async false
set_option linter.all false
set_option maxRecDepth 100000
set_option maxHeartbeats 4000000
namespace Own
open PySem L2 ClX
local macro_rules | `(tactic| walk_at "v") => `(tactic| refine ⟨_, rfl, ?_⟩)
local macro_rules | `(tactic| walk_at "ii") => `(tactic| refine ⟨_, _, rfl, rfl, ?_⟩)
local macro_rules | `(tactic| walk_at "go") => `(tactic| repeat (first | refine ⟨_, rfl, ?_⟩ | refine ⟨_, _, rfl, rfl, ?_⟩ | refine addI ?_ | refine L2.iteT ?_ | refine L2.iteF ?_))

section
variable {P : Program} {w : World} {K : PySem.W.Frag} {mg : Str → Option Value} {base : Heap} {A : Ad}
/-! ### the law -/
structure S9 (H0 H : Hp) (p a : Addr) (n : Int) (xs : List Str) : Prop where
  sd : Sd H0 p n H
  ap : a ≠ p
  ha : H a = some (.lst (xs.map V.str))
  ix : Items xs
  lx : xs.length ≤ 60
theorem S9.more {H0 H H' : Hp} {p a : Addr} {n : Int} {xs : List Str} (s : S9 H0 H p a n xs) (e : Same H H') : S9 H0 H' p a n xs :=
  { s with sd := s.sd.more e, ha := e _ _ s.ha }
theorem S9.pick {H0 H H' : Hp} {p a : Addr} {n m : Int} {xs : List Str} (s : S9 H0 H p a n xs) (e : But p H H') (r : SrcAt H' p m) : S9 H0 H' p a m xs :=
  { s with sd := ⟨s.sd.same.but s.sd.fr e, r, s.sd.fr⟩, ha := e _ _ s.ha s.ap }
theorem S9.le {H0 H : Hp} {p a : Addr} {n m : Int} {xs : List Str} (s : S9 H0 H p a n xs) (l : n ≤ m) : S9 H0 H p a m xs := { s with sd := s.sd.le l }
structure P9 (H : Hp) (p pl : Addr) (ts : List V) (ps : List (Int × Str × Nat)) : Prop where
  ne : pl ≠ p
  l : H pl = some (.lst ts)
  q : Parts H ts ps
  m : ps.length ≤ 80
theorem P9.more {H H' : Hp} {p pl : Addr} {ts : List V} {ps : List (Int × Str × Nat)} (c : P9 H p pl ts ps) (s : Same H H') : P9 H' p pl ts ps := ⟨c.ne, s _ _ c.l, c.q.same s, c.m⟩
theorem back_front {x : Str} {xs : List Str} (h : xs[0]? = some x) : backW 2 x 0 xs = some xs := by
  unfold backW
  rw [if_neg (by decide), if_neg (by decide), if_pos rfl]
  unfold dnF
  rw [if_pos h, (outL_in h).1]
theorem rep_ok {x : Str} {xs : List Str} (h : xs[0]? = some x) : ∀ n k : Nat, playL (List.replicate n ((2 : Int), x, 0)) k xs = .ok xs
  | 0, k => rfl
  | n + 1, k => by
    rw [List.replicate_succ, playL_cons, back_front h]
    exact rep_ok h n (k + 1)
theorem rep_err {x : Str} (n k : Nat) : playL (List.replicate (n + 1) ((2 : Int), x, 0)) k [] = .error k := by
  rw [List.replicate_succ, playL_cons]
  rfl
theorem Rows.rep {H : Hp} {p dx : Addr} {way : Int} {x : Str} {n : Nat} (e : H p = some (.ins (cw A way) dx (rfs x n))) (h0 : 0 ≤ way) (h1 : way < 3) (hx : isItem x = true) : ∀ m : Nat, Rows A H (List.replicate m [V.ref p]).flatten (List.replicate m (way, x, n))
  | 0 => .nil
  | m + 1 => by
    rw [List.replicate_succ, List.replicate_succ, List.flatten_cons]
    exact .cons e h0 h1 hx (Rows.rep e h0 h1 hx m)
theorem Rows.butS {H H' : Hp} {p : Addr} {n : Int} {vs : List V} {ps : List (Int × Str × Nat)} (h : Rows A H vs ps) (s : SrcAt H p n) (b : But p H H') : Rows A H' vs ps := by
  induction h with
  | nil => exact .nil
  | @cons q dx way x m vs ps e h0 h1 hx _ ih =>
    refine .cons (dx := dx) (b _ _ e fun z => ?_) h0 h1 hx ih
    obtain ⟨g, m', c, z2, _⟩ := s
    rw [z, z2] at e
    cases e
theorem play3 : playL [(0, "b", 0), (2, "a", 1), (1, "b", 1)] 0 ["a"] = .ok (["a"] : List Str) := by
  have z : (match playL [(0, "b", 0), (2, "a", 1), (1, "b", 1)] 0 ["a"] with | .ok ys => decide (ys = (["a"] : List Str)) | .error _ => false) = true := by decide +kernel
  generalize playL [(0, "b", 0), (2, "a", 1), (1, "b", 1)] 0 ["a"] = r at z ⊢
  cases r with
  | ok ys => exact congrArg _ (of_decide_eq_true z)
  | error k => cases z
def spLaw (K : PySem.W.Frag) : Sp := fun vs H Q _ => ∃ (a : Addr) (ns : List Int), vs = [.ref a] ∧ SqL K H a (ns.map V.int) ∧ ns.length ≤ 63 ∧ ∀ H', Q (.bl true) H'
theorem ok_law (T : Txt K mg A) : OkG P w K mg base 11 A.f_law ["script"] (spLaw K) := by
  refine T.fn_law.okG sc_law (fun _ _ _ _ _ _ us hl => match us, hl with | [_], _ => rfl) (fun vs H Q E h => ?_) (fun cdv B up s H0 vs Q hr gd h => ?_)
  · obtain ⟨a, ns, rfl, _⟩ := h
    rfl
  · obtain ⟨a0, ns, rfl, hS, hl, h⟩ := h
    refine ⟨_, (pss_cons (ps_for PassesOwn.never rfl (pi_range1 rfl T.no_range (pa_cons (pe_callB (call_max2 rfl) (by rfl) T.no_max (by decide +kernel) (pa_cons pe_int (pa_cons (pe_callB (call_min2 rfl) (by rfl) T.no_min (by decide +kernel) (pa_cons pe_int (pa_cons (pe_callB call_len (by rfl) T.no_len (by decide +kernel) (pa_cons (pv 0) pa_nil)) pa_nil))) pa_nil))) pa_nil)) (pg_name (i := 1) sc_law.nd rfl (Or.inl rfl))
      (pss_cons (ps_set (i := 2) sc_law.nd rfl (Or.inl rfl) (po_call (ok__law_source T) (hr.mono (by decide)) T.mg__law_source (pa_cons (pv 0) (pa_cons (pv 1) pa_nil))))
      (pss_one (ps_for PassesOwn.never rfl (pi_range1 rfl T.no_range (pa_cons pe_int pa_nil)) (pg_name (i := 3) sc_law.nd rfl (Or.inl rfl))
      (pss_mid (ps_asg (po_call (ok__law_shelf T) (hr.mono (by decide)) T.mg__law_shelf (pa_cons (pv 2) (pa_cons (pe_ifExp (pt_cmpR (op_eqX hr) (pv 3) pe_int (nomark _)) (pe_ix ix_seq (pe_lst (pa_cons pe_int (pa_cons pe_int (pa_cons pe_int pa_nil)))) (po_call (ok__law_pick T) (hr.mono (by decide)) T.mg__law_pick (pa_cons (pv 2) (pa_cons pe_int pa_nil))) (fun _ _ => rfl)) pe_int) pa_nil))) (pg_tup (by rfl) (pgs_cons (pg_name (i := 4) sc_law.nd rfl (Or.inl rfl)) (pgs_cons (pg_name (i := 5) sc_law.nd rfl (Or.inl rfl)) pgs_nil))))
      (pss_cons (ps_set (i := 6) sc_law.nd rfl (Or.inl rfl) (pe_ix ix_seq (pe_lst (pa_cons (po_call (ok__law_pick T) (hr.mono (by decide)) T.mg__law_pick (pa_cons (pv 2) (pa_cons pe_int pa_nil))) (pa_cons (po_call (ok__law_pick T) (hr.mono (by decide)) T.mg__law_pick (pa_cons (pv 2) (pa_cons pe_int pa_nil))) (pa_cons pe_int pa_nil)))) (po_call (ok__law_pick T) (hr.mono (by decide)) T.mg__law_pick (pa_cons (pv 2) (pa_cons pe_int pa_nil))) (fun _ _ => rfl)))
      (pss_mid (ps_set (i := 6) sc_law.nd rfl (Or.inl rfl) (pe_ifExp (pt_cmpR (op_eqX hr) (pv 3) pe_int (nomark _)) (pv 6) (pe_callB (call_min2 rfl) (by rfl) T.no_min (by decide +kernel) (pa_cons (pv 6) (pa_cons pe_int pa_nil)))))
      (pss_cons (ps_asg (po_call (ok__law_play T) (hr.mono (by decide)) T.mg__law_play (pa_cons (pv 2) (pa_cons (pv 4) (pa_cons (pv 5) (pa_cons (pv 6) pa_nil))))) (pg_tup (by rfl) (pgs_cons (pg_name (i := 7) sc_law.nd rfl (Or.inl rfl)) (pgs_cons (pg_name (i := 8) sc_law.nd rfl (Or.inl rfl)) pgs_nil))))
      (pss_cons (ps_if (PW.pt (pw_or (pt_cmpR (op_neX hr) (po_call (ok__law_due T) (hr.mono (by decide)) T.mg__law_due (pa_cons (pv 4) (pa_cons (pv 7) pa_nil))) (pe_ix ix_seq (pv 8) (pe_un un_neg pe_int) (fun _ _ => rfl)) (nomark _)) (pw_or1 (pt_not (pt_val (pg_call (ok__law_right T) (hr.mono (by decide)) gd T.mg__law_right (pa_cons (pv 4) (pa_cons (pv 7) pa_nil)))))))) (pss_one (ps_ret pe_bl)) pss_nil)
      (pss_cons (ps_if (pt_not (pt_val (pg_call (ok__law_by_turns T) (hr.mono (by decide)) gd T.mg__law_by_turns (pa_cons (pv 4) (pa_cons (pv 7) pa_nil))))) (pss_one (ps_ret pe_bl)) pss_nil)
      (pss_cons (ps_for PassesOwn.never rfl (pi_range1 rfl T.no_range (pa_cons pe_int pa_nil)) (pg_name (i := 9) sc_law.nd rfl (Or.inl rfl))
      (pss_cons (ps_set (i := 7) sc_law.nd rfl (Or.inl rfl) (po_call (ok__law_changed T) (hr.mono (by decide)) T.mg__law_changed (pa_cons (pv 2) (pa_cons (pv 7) pa_nil))))
      (pss_one (ps_if (pt_not (pt_val (pg_call (ok__law_right T) (hr.mono (by decide)) gd T.mg__law_right (pa_cons (pv 4) (pa_cons (pv 7) pa_nil))))) (pss_one (ps_ret pe_bl)) pss_nil))))
      (pss_mid (ps_set (i := 10) sc_law.nd rfl (Or.inl rfl) (po_call (ok__law_make T) (hr.mono (by decide)) T.mg__law_make (pa_cons pe_int (pa_cons (pe_ifExp (pt_cmpR (op_neX hr) (pv 4) (pe_lst pa_nil) (nomark _)) (pe_ix ix_seq (pv 4) pe_int (fun _ _ => rfl)) pe_str) (pa_cons pe_int pa_nil)))))
      (pss_mid (ps_if (pt_cmpR (op_neX hr) (po_call (ok__law_told T) (hr.mono (by decide)) T.mg__law_told (pa_cons (pv 4) (pa_cons (pe_op op_mulX (pe_lst (pa_cons (pv 10) pa_nil)) pe_int) (pa_cons pe_bl pa_nil)))) (pe_ifExp (pt_cmpR (op_eqX hr) (pv 4) (pe_lst pa_nil) (nomark _)) (pe_tup (pa_cons pe_str (pa_cons pe_int pa_nil))) (pv 4)) (nomark _)) (pss_one (ps_ret pe_bl)) pss_nil)
      (pss_cons (ps_set (i := 11) sc_law.nd rfl (Or.inl rfl) (po_call (ok__law_rows T) (hr.mono (by decide)) T.mg__law_rows (pa_cons (pe_slice sl_list (pv 7) po_none (po_some pe_int)) pa_nil)))
      (pss_cons (ps_par (i := 12) (j := 13) (by rfl) sc_law.nd rfl rfl (by decide) rfl rfl (pa_cons (po_call (ok__law_no_shelves T) (hr.mono (by decide)) T.mg__law_no_shelves (pa_cons (pv 2) (pa_cons (pv 4) pa_nil))) (pa_cons (po_call (ok__law_no_rows T) (hr.mono (by decide)) T.mg__law_no_rows (pa_cons (pv 2) (pa_cons (pv 11) pa_nil))) pa_nil)) (by rfl))
      (pss_cons (ps_set (i := 14) sc_law.nd rfl (Or.inl rfl) (pe_lst (pa_cons (po_call (ok__law_told T) (hr.mono (by decide)) T.mg__law_told (pa_cons (pv 12) (pa_cons (pv 11) (pa_cons pe_bl pa_nil)))) (pa_cons (po_call (ok__law_told T) (hr.mono (by decide)) T.mg__law_told (pa_cons (pv 12) (pa_cons (pv 13) (pa_cons pe_bl pa_nil)))) (pa_cons (po_call (ok__law_told T) (hr.mono (by decide)) T.mg__law_told (pa_cons (pv 4) (pa_cons (pv 13) (pa_cons pe_bl pa_nil)))) pa_nil)))))
      (pss_one (ps_if (pt_cmpR (op_neX hr) (pv 14) (pe_lst (pa_cons pe_str (pa_cons pe_str (pa_cons pe_str pa_nil)))) (nomark _)) (pss_one (ps_ret pe_bl)) pss_nil))))))))))))))))))
      (pss_cons (ps_set (i := 11) sc_law.nd rfl (Or.inl rfl) (pe_lst (pa_cons (po_make T.mk_Inserted (ok_Record___init__ T) (hr.mono (by decide)) T.mg_Inserted (pa_cons pe_str (pa_cons pe_int pa_nil))) (pa_cons (po_make T.mk_Fronted (ok_Record___init__ T) (hr.mono (by decide)) T.mg_Fronted (pa_cons pe_str (pa_cons pe_int pa_nil))) (pa_cons (po_make T.mk_Removed (ok_Record___init__ T) (hr.mono (by decide)) T.mg_Removed (pa_cons pe_str (pa_cons pe_int pa_nil))) pa_nil)))))
      (pss_one (ps_ret (pe_and (pe_cmpR (op_eqX hr) (px_call (ok_replay T) (fun _ => atL) (hr.mono (by decide)) T.mg_replay (pa_cons (pe_lst (pa_cons pe_str pa_nil)) (pa_cons (pv 11) pa_nil))) (pe_lst (pa_cons pe_str pa_nil)) (nomark _)) (pe_one (pe_cmpR (op_eqX hr) (px_call (ok_replay T) (fun _ => atL) (hr.mono (by decide)) T.mg_replay (pa_cons (pe_lst pa_nil) (pa_cons (pe_lst pa_nil) pa_nil))) (pe_lst pa_nil) (nomark _)))))))), ?_⟩
    refine ⟨_, rfl, _, _, rfl, .inl ⟨_, hS, rfl⟩, _, _, rfl, _, _, rfl, ?_⟩
    have hJ : ∀ L : Int, 0 ≤ (if (if L < 2 then L else 2) > 1 then (if L < 2 then L else 2) else 1) ∧ (if (if L < 2 then L else 2) > 1 then (if L < 2 then L else 2) else 1) ≤ 2 := fun L => by
      constructor <;> (repeat' split) <;> omega
    obtain ⟨j0, j1⟩ := hJ ((List.map V.int ns).length : Int)
    refine ⟨_, rfl, by omega, by omega, for_range (lo := 0) (n := Int.toNat _) (fun i σ H => (∃ v1 v2 v3 v4 v5 v6 v7 v8 v9 v10 v11 v12 v13 v14 : Option V, σ = [some (.ref a0), v1, v2, v3, v4, v5, v6, v7, v8, v9, v10, v11, v12, v13, v14]) ∧ Same H0 H)
      ⟨⟨_, _, _, _, _, _, _, _, _, _, _, _, _, _, rfl⟩, Same.refl _⟩ ?_ ?_⟩
    · rintro i σ H hi ⟨⟨v1, v2, v3, v4, v5, v6, v7, v8, v9, v10, v11, v12, v13, v14, rfl⟩, sm⟩
      have hi6 : i < 64 := by omega
      refine ⟨_, rfl, _, rfl, a0, ns, i, by rw [Int.zero_add]; rfl, sm.seq hS, hi6, fun p H1 s1 np src0 => ?_⟩
      have f0 : H0 p = none := sm.free np
      refine ⟨_, rfl, by decide, by decide, for_range (lo := 0) (n := 3) (fun t σ H => (∃ v3 v4 v5 v6 v7 v8 v9 v10 v11 v12 v13 v14 : Option V, σ = [some (.ref a0), some (.int (0 + i)), some (.ref p), v3, v4, v5, v6, v7, v8, v9, v10, v11, v12, v13, v14]) ∧ Sd H0 p (400 * t) H)
        ⟨⟨_, _, _, _, _, _, _, _, _, _, _, _, rfl⟩, sm.trans s1, (by rw [show (400 : Int) * ((0 : Nat) : Int) = 0 from rfl]; exact src0), f0⟩ ?_ ?_⟩
      · rintro t σ H2 ht ⟨⟨v3, v4, v5, v6, v7, v8, v9, v10, v11, v12, v13, v14, rfl⟩, d⟩
        generalize hN : 400 * (t : Int) = N at d
        have hN0 : 0 ≤ N := by omega
        have hN2 : N < 2 ^ 30 := by omega
        -- the shelf
        refine ⟨fun σ1 H => ∃ (a b : Addr) (xs ys : List Str), σ1 = [some (.ref a0), some (.int (0 + i)), some (.ref p), some (.int (0 + t)), some (.ref a), some (.ref b), v6, v7, v8, v9, v10, v11, v12, v13, v14] ∧ S9 H0 H p a (N + 111) xs ∧ b ≠ p ∧ H b = some (.lst (ys.map V.str)) ∧ (∀ y ∈ ys, isItem y = true) ∧ ys.length = 4, ?_, ?_⟩
        · have fin : ∀ (tp a b : Addr) (xs ys : List Str) (H H' : Hp) (m : Int), Sd H0 p m H → m ≤ N + 1 → Items (xs ++ ys) → xs.length ≤ 60 → ys.length = 4 → But p H H' → SrcAt H' p (m + 110) → H a = none → H b = none → H' a = some (.lst (xs.map V.str)) → H' b = some (.lst (ys.map V.str)) → S9 H0 H' p a (N + 111) xs ∧ b ≠ p ∧ H' b = some (.lst (ys.map V.str)) ∧ (∀ y ∈ ys, isItem y = true) ∧ ys.length = 4 :=
            fun tp a b xs ys H H' m d lm ixy lx ly b3 c3 na nb ha hb =>
              ⟨{ sd := ⟨d.same.but d.fr b3, c3.le (by omega), d.fr⟩, ap := d.src.ne na, ha := ha, ix := ⟨fun x hx => ixy.it x (List.mem_append_left _ hx), (List.nodup_append.mp ixy.nd).1⟩, lx := lx }, d.src.ne nb, hb, fun y hy => ixy.it y (List.mem_append_right _ hy), ly⟩
          refine ⟨_, rfl, _, rfl, eqS rfl ⟨_, rfl, ite2 (fun _ => ?_) (fun _ => ?_)⟩⟩
          · refine ⟨Nat.le_of_ble_eq_true rfl, fun q nq => ?_⟩
            have dq := d.more (Same.new (o := .lst [.int 6, .int 56, .int 60]) nq)
            refine ⟨_, rfl, p, 3, N, rfl, by decide, by decide, dq.src, by omega, fun r H3 g0 g1 g2 g3 => ?_⟩
            obtain ⟨z, hz, z0, z1⟩ := pickI (zs := [6, 56, 60]) (fun z => 0 ≤ z ∧ z ≤ 60) (by intro z hz; simp at hz; omega) g0 g1
            refine ixL (g3 _ _ upd_same (d.ne nq)) hz ?_
            refine ⟨p, N + 1, z, rfl, g2, z0, z1, by omega, fun tp a b xs ys H4 ixy lx ly b3 c3 na nb ab ha hb htp => ?_⟩
            refine ⟨tp, _, rfl, SqT.of htp, rfl, _, _, rfl, _, _, rfl, rfl, ?_⟩
            exact ⟨a, b, xs, ys, rfl, fin tp a b xs ys _ _ _ (dq.pick g3 g2) (by omega) ixy lx ly b3 c3 na nb ha hb⟩
          · refine ⟨p, N, 6, rfl, d.src, by decide, by decide, by omega, fun tp a b xs ys H4 ixy lx ly b3 c3 na nb ab ha hb htp => ?_⟩
            refine ⟨tp, _, rfl, SqT.of htp, rfl, _, _, rfl, _, _, rfl, rfl, ?_⟩
            exact ⟨a, b, xs, ys, rfl, fin tp a b xs ys _ _ _ d (by omega) ixy lx ly b3 c3 na nb ha hb⟩
        rintro σ1 H3 ⟨a, b, xs, ys, rfl, c3, bp, hb, iy, ly⟩
        clear d
        refine ⟨_, rfl, p, 6, N + 111, rfl, by decide, by decide, c3.sd.src, by omega, fun r1 H4 a0' a1 a2 a3 => ?_⟩
        have c4 := c3.pick a3 a2
        have hb4 := a3 _ _ hb bp
        refine ⟨_, rfl, p, 81, N + 111 + 1, rfl, by decide, by decide, a2, by omega, fun r2 H5 b0 b1 b2 b3 => ?_⟩
        have c5 := c4.pick b3 b2
        have hb5 := b3 _ _ hb4 bp
        refine ⟨Nat.le_of_ble_eq_true rfl, fun q nq => ?_⟩
        have uq := Same.new (o := .lst [.int r1, .int r2, .int 80]) nq
        have c6 := c5.more uq
        refine ⟨_, rfl, p, 3, N + 111 + 1 + 1, rfl, by decide, by decide, c6.sd.src, by omega, fun r3 H6 e0 e1 e2 e3 => ?_⟩
        obtain ⟨z, hz, z0, z1⟩ := pickI (zs := [r1, r2, 80]) (fun z => 0 ≤ z ∧ z ≤ 80) (by intro z hz; simp at hz; omega) e0 e1
        have c7 := (c6.pick e3 e2).le (m := N + 114) (by omega)
        have hb7 := e3 _ _ (uq _ _ hb5) bp
        refine ixL (e3 _ _ upd_same (c5.sd.ne nq)) hz ?_
        clear c3 c4 c5 c6 uq nq a2 a3 b2 b3 e2 e3 hb hb4 hb5 hz
        refine ⟨fun σ1 H => ∃ k : Nat, k ≤ 80 ∧ σ1 = [some (.ref a0), some (.int (0 + i)), some (.ref p), some (.int (0 + t)), some (.ref a), some (.ref b), some (.int (k : Nat)), v7, v8, v9, v10, v11, v12, v13, v14] ∧ H = H6, ?_, ?_⟩
        · refine ⟨_, rfl, eqS rfl ⟨_, rfl, ite2 (fun _ => ?_) (fun _ => ?_)⟩⟩
          · exact ⟨_, rfl, z.toNat, by omega, by rw [Int.toNat_of_nonneg z0]; rfl, rfl⟩
          · refine ⟨_, rfl, _, _, rfl, ?_⟩
            have e : (if (8 : Int) < z then (8 : Int) else z) = (((if (8 : Int) < z then (8 : Int) else z).toNat : Nat) : Int) := by
              split <;> omega
            exact ⟨(if (8 : Int) < z then (8 : Int) else z).toNat, by split <;> omega, by rw [← e]; rfl, rfl⟩
        rintro σ1 H7 ⟨many, hmany, rfl, rfl⟩
        refine ⟨_, rfl, _, rfl, _, rfl, _, rfl, p, a, b, N + 114, many, xs, ys, rfl, c7.sd.src, by omega, hmany, c7.ap, bp, c7.ha, hb7, c7.ix, c7.lx, iy, by omega, by omega, fun tp C pl L M cur ts ls ps H8 plc lps htp => ?_⟩
        refine ⟨tp, _, rfl, SqT.of htp, rfl, _, _, rfl, _, _, rfl, rfl, ?_⟩
        have c8 := (c7.pick plc.b plc.s).le (m := N + 354) (by omega)
        have p8 : P9 H8 p pl ts ps := ⟨plc.pF, plc.hF, plc.q, by omega⟩
        have hL := plc.hL
        have hM := plc.hM
        have e8 := plc.e
        have i8 := plc.ix
        have lastL : atI ls (-1) = some (.ref M) := by
          have z := plc.z
          have g := plc.g
          unfold atI ixN
          rw [if_neg (by decide), if_pos (by omega)]
          show ls[((-1 : Int) + (ls.length : Int)).toNat]? = _
          rw [show ((-1 : Int) + (ls.length : Int)).toNat = ps.length by omega]
          exact g
        clear plc htp c7 hb7 bp
        -- the list after the records
        refine ⟨_, rfl, _, rfl, a, pl, xs, ts, ps, rfl, c8.ha, c8.ix, c8.lx, p8.l, p8.q, fun us eu D H9 s9 nD hD => ?_, fun k ek => by rw [e8] at ek; cases ek⟩
        obtain rfl : cur = us := by rw [e8] at eu; cases eu; rfl
        have c9 := c8.more s9
        have p9 := p8.more s9
        have hM9 := s9 _ _ hM
        refine ⟨_, rfl, _, rfl, ixL (s9 _ _ hL) lastL (.inr ⟨sl cur, sl cur, dpS (SqL.of hD), dpS (SqL.of hM9), shapedS i8.it, shapedS i8.it, ?_⟩)⟩
        rw [eqvS, decide_eq_true rfl]
        refine ⟨_, rfl, iteF ?_⟩
        refine ⟨_, rfl, _, rfl, a, pl, xs, ts, ps, rfl, c9.ha, c9.ix, c9.lx, p9.l, p9.q, p9.m, fun H10 s10 => ⟨_, rfl, ?_⟩⟩
        repeat refine iteF ?_
        have c10 := c9.more s10
        have p10 := p9.more s10
        refine ⟨_, rfl, _, rfl, a, pl, xs, ts, ps, rfl, c10.ha, c10.ix, c10.lx, p10.l, p10.q, p10.m, fun H11 s11 => ⟨_, rfl, ?_⟩⟩
        repeat refine iteF ?_
        have c11 := c10.more s11
        have p11 := p10.more s11
        clear c8 c9 c10 p8 p9 p10 hL hM hM9 s9 s10 s11 hD nD e8 eu lastL lps
        -- changed twice
        refine ⟨_, rfl, by decide, by decide, for_range (lo := 0) (n := 2) (fun s σ H => (∃ v8 v9 v10 v11 v12 v13 v14 : Option V, ∃ (pl : Addr) (ts : List V) (ps : List (Int × Str × Nat)), σ = [some (.ref a0), some (.int (0 + i)), some (.ref p), some (.int (0 + t)), some (.ref a), some (.ref b), some (.int (many : Nat)), some (.ref pl), v8, v9, v10, v11, v12, v13, v14] ∧ P9 H p pl ts ps ∧ S9 H0 H p a (N + 354 + 4 * s) xs))
          ⟨_, _, _, _, _, _, _, pl, ts, ps, rfl, p11, c11.le (by omega)⟩ ?_ ?_⟩
        · clear p11 c11 i8
          rintro st σ H12 hst ⟨v8, v9, v10, v11, v12, v13, v14, pl, ts, ps, rfl, p12, c12⟩
          refine ⟨_, rfl, _, rfl, p, pl, N + 354 + 4 * (st : Int), ts, ps, rfl, c12.sd.src, by omega, p12.ne, p12.l, p12.q, p12.m, fun D ts' ps' H13 b13 s13 ne13 hD q13 m13 => ?_⟩
          have c13 := c12.pick b13 s13
          refine ⟨_, rfl, _, rfl, a, D, xs, ts', ps', rfl, c13.ha, c13.ix, c13.lx, hD, q13, m13, fun H14 s14 => ⟨_, rfl, ?_⟩⟩
          repeat refine iteF ?_
          exact ⟨_, _, _, _, _, _, _, D, ts', ps', rfl, ⟨ne13, s14 _ _ hD, q13.same s14, m13⟩, (c13.more s14).le (by omega)⟩
        · clear p11 c11 i8 cur M L pl ts ps D
          rintro σ H12 ⟨v8, v9, v10, v11, v12, v13, v14, pl, ts, ps, rfl, p12, c12⟩
          have zz : isItem "zzz" = true := by decide +kernel
          have s0 := shapedS (xs := []) fun z hz => by cases hz
          have sx := shapedS (xs := xs) c12.ix.it
          have emp : ∀ H' : Hp, ∀ o, upd H' o (.lst []) o = some (.lst (([] : List Str).map V.str)) := fun H' o => upd_same
          -- a record that is moved to the front
          refine ⟨fun σ1 H => ∃ (row dx : Addr) (x : Str), σ1 = [some (.ref a0), some (.int (0 + i)), some (.ref p), some (.int (0 + t)), some (.ref a), some (.ref b), some (.int (many : Nat)), some (.ref pl), v8, v9, some (.ref row), v11, v12, v13, v14] ∧ P9 H p pl ts ps ∧ S9 H0 H p a (N + 354 + 4 * ((2 : Nat) : Int)) xs ∧ H row = some (.ins (cw A 2) dx (rfs x 0)) ∧ isItem x = true ∧ (xs ≠ [] → xs[0]? = some x), ?_, ?_⟩
          · refine ⟨_, rfl, Nat.zero_le _, fun o no => .inr ⟨sl xs, sl [], dpS (SqL.of ((Same.new no) _ _ c12.ha)), dpS (SqL.of (emp _ _)), sx, s0, ?_⟩⟩
            have uo := Same.new (o := .lst []) no
            rw [eqvS]
            refine ⟨_, rfl, ?_⟩
            by_cases xe : xs = []
            · rw [decide_eq_true xe]
              exact iteF ⟨2, 0, "zzz", rfl, by decide, by decide, zz, by decide, by decide, fun row dx H13 s13 nrow hrow => ⟨row, dx, "zzz", rfl, (p12.more uo).more s13, (c12.more uo).more s13, hrow, zz, fun z => absurd xe z⟩⟩
            · rw [decide_eq_false xe]
              cases xs with
              | nil => exact absurd rfl xe
              | cons x xs =>
                exact iteT ⟨_, rfl, ixL (uo _ _ c12.ha) (atI0 _ _) ⟨2, 0, x, rfl, by decide, by decide, c12.ix.it x List.mem_cons_self, by decide, by decide, fun row dx H13 s13 nrow hrow => ⟨row, dx, x, rfl, (p12.more uo).more s13, (c12.more uo).more s13, hrow, c12.ix.it x List.mem_cons_self, fun _ => rfl⟩⟩⟩
          rintro σ1 H13 ⟨row, dx, x, rfl, p13, c13, hrow, hx, hx0⟩
          clear p12 c12
          refine ⟨fun σ1 H => σ1 = [some (.ref a0), some (.int (0 + i)), some (.ref p), some (.int (0 + t)), some (.ref a), some (.ref b), some (.int (many : Nat)), some (.ref pl), v8, v9, some (.ref row), v11, v12, v13, v14] ∧ P9 H p pl ts ps ∧ S9 H0 H p a (N + 354 + 4 * ((2 : Nat) : Int)) xs, ?_, ?_⟩
          · refine ⟨_, rfl, _, rfl, Nat.le_of_ble_eq_true rfl, fun R1 n1 => .inr ⟨R1, 80, _, rfl, rfl, upd_same, by decide, by decide, Nat.le_of_ble_eq_true rfl, fun R nR => ?_⟩⟩
            have u1 := Same.new (o := .lst [.ref row]) n1
            have u2 := Same.new (o := .lst (List.replicate (80 : Int).toNat [V.ref row]).flatten) nR
            have u := u1.trans u2
            have c14 := c13.more u
            refine ⟨.ref a, .ref R, false, rfl, .inr ⟨a, xs, rfl, c14.ha, c14.ix, c14.lx, .inr ⟨R, _, List.replicate 80 (2, x, 0), rfl, at_new u2, Rows.rep (n := 0) (u _ _ hrow) (by decide) (by decide) hx 80, by rw [List.length_replicate]; exact Nat.le_refl _, fun us eu D H15 s15 nD hD => ?_, fun k ek tt H15 s15 nt htt => ?_⟩⟩⟩
            · have xe : xs ≠ [] := fun z => by
                rw [z, rep_err 79 0] at eu
                cases eu
              obtain rfl : xs = us := by
                rw [rep_ok (hx0 xe)] at eu
                cases eu
                rfl
              have c15 := c14.more s15
              refine ⟨_, rfl, Nat.zero_le _, fun o no => .inr ⟨sl xs, sl [], dpS (SqL.of ((Same.new no) _ _ c15.ha)), dpS (SqL.of (emp _ _)), sx, s0, ?_⟩⟩
              have uo := Same.new (o := .lst []) no
              rw [eqvS]
              refine ⟨_, rfl, ?_⟩
              rw [decide_eq_false xe]
              refine iteF ⟨_, rfl, .inr ⟨sl xs, sl xs, dpS (SqL.of (uo _ _ hD)), dpS (SqL.of (uo _ _ c15.ha)), sx, sx, ?_⟩⟩
              rw [eqvS, decide_eq_true rfl]
              exact ⟨_, rfl, iteF ⟨rfl, p13.more (u.trans (s15.trans uo)), c15.more uo⟩⟩
            · have xe : xs = [] := Classical.byContradiction fun z => by
                rw [rep_ok (hx0 z)] at ek
                cases ek
              obtain rfl : k = 0 := by
                rw [xe, rep_err 79 0] at ek
                cases ek
                rfl
              have c15 := c14.more s15
              refine ⟨_, rfl, Nat.zero_le _, fun o no => .inr ⟨sl xs, sl [], dpS (SqL.of ((Same.new no) _ _ c15.ha)), dpS (SqL.of (emp _ _)), sx, s0, ?_⟩⟩
              have uo := Same.new (o := .lst []) no
              rw [eqvS]
              refine ⟨_, rfl, ?_⟩
              rw [decide_eq_true xe]
              refine iteT ⟨Nat.le_of_ble_eq_true rfl, fun t2 n2 => .inr ⟨.tuple [.str "impossible", .int 0], .tuple [.str "impossible", .int 0], .tup (SqT.of ((uo.trans (Same.new n2)) _ _ htt)) (.cons (.str _) (.cons (.int _) .nil)), .tup (SqT.of upd_same) (.cons (.str _) (.cons (.int _) .nil)), by decide +kernel, by decide +kernel, ?_⟩⟩
              have uu := uo.trans (Same.new (o := .tup [.str "impossible", .int 0]) n2)
              rw [show PyData.eqv (.tuple [.str "impossible", .int 0]) (.tuple [.str "impossible", .int 0]) = true from by decide +kernel]
              exact ⟨_, rfl, iteF ⟨rfl, p13.more (u.trans (s15.trans uu)), c15.more uu⟩⟩
          rintro σ1 H14 ⟨rfl, p14, c14⟩
          clear p13 c13 hrow hx hx0
          -- objects that are no lists
          refine ⟨_, rfl, _, rfl, pl, _, rfl, SqL.of p14.l, fun Q9 n9 => ?_⟩
          rw [show (9 : Int) = ((9 : Nat) : Int) from rfl, cutV_to]
          have u9 := Same.new (o := .lst (ts.take 9)) n9
          have c15 := c14.more u9
          refine ⟨Q9, ts.take 9, ps.take 9, rfl, at_new u9, (p14.q.same u9).take 9, by rw [List.length_take]; omega, fun R rs H16 s16 nR hR rowsR => ?_⟩
          have c16 := c15.more s16
          have p16 := (p14.more u9).more s16
          have Rp : R ≠ p := c15.sd.ne nR
          refine ⟨_, rfl, _, rfl, p, a, N + 354 + 4 * ((2 : Nat) : Int), xs, rfl, c16.sd.src, by omega, c16.ap, c16.ha, c16.ix, c16.lx, fun v H17 b17 s17 tv => ?_⟩
          have c17 := c16.pick b17 s17
          refine ⟨_, rfl, _, rfl, p, R, N + 354 + 4 * ((2 : Nat) : Int) + 1, rs, ps.take 9, rfl, c17.sd.src, by omega, Rp, b17 _ _ hR Rp, rowsR.butS c16.sd.src b17, by rw [List.length_take]; omega, fun v2 H18 b18 s18 tv2 => ?_⟩
          have c18 := c17.pick b18 s18
          refine ⟨_, _, rfl, ?_⟩
          have tv8 := tv.same (rem_but b18)
          refine ⟨_, rfl, _, rfl, v, .ref R, false, rfl, .inl ⟨tv8, fun H19 s19 => ?_⟩⟩
          refine ⟨_, rfl, _, rfl, v, v2, true, rfl, .inl ⟨tv8.same s19, fun H20 s20 => ?_⟩⟩
          have c20 := (c18.more s19).more s20
          refine ⟨_, rfl, _, rfl, .ref a, v2, false, rfl, .inr ⟨a, xs, rfl, c20.ha, c20.ix, c20.lx, .inl ⟨(tv2.same s19).same s20, fun H21 s21 => ?_⟩⟩⟩
          refine ⟨Nat.le_of_ble_eq_true rfl, fun L1 m1 => ?_⟩
          have w1 := Same.new (o := .lst [.str "list", .str "list", .str "log"]) m1
          have its : ∀ y ∈ (["list", "list", "log"] : List Str), isItem y = true := by decide +kernel
          refine ⟨_, rfl, Nat.le_of_ble_eq_true rfl, fun L2 m2 => .inr ⟨sl ["list", "list", "log"], sl ["list", "list", "log"], dpS (xs := ["list", "list", "log"]) (SqL.of ((Same.new m2) _ _ (at_new w1))), dpS (xs := ["list", "list", "log"]) (SqL.of upd_same), shapedS its, shapedS its, ?_⟩⟩
          have w2 := Same.new (o := .lst [.str "list", .str "list", .str "log"]) m2
          rw [eqvS, decide_eq_true rfl]
          refine ⟨_, rfl, iteF ⟨⟨_, _, _, _, _, _, _, _, _, _, _, _, rfl⟩, ?_⟩⟩
          exact ((((c20.more s21).more w1).more w2).sd).le (by omega)
      · rintro σ H2 ⟨⟨v3, v4, v5, v6, v7, v8, v9, v10, v11, v12, v13, v14, rfl⟩, d⟩
        exact ⟨⟨_, _, _, _, _, _, _, _, _, _, _, _, _, _, rfl⟩, d.same⟩
    · rintro σ H ⟨⟨v1, v2, v3, v4, v5, v6, v7, v8, v9, v10, v11, v12, v13, v14, rfl⟩, sm⟩
      have ib : isItem "b" = true := by decide +kernel
      have ia : isItem "a" = true := by decide +kernel
      have ita : ∀ y ∈ (["a"] : List Str), isItem y = true := by decide +kernel
      intro p1 dx1 np1 nd1 ne1
      refine ⟨p1, _, dx1, "b", 0, rfl, upd_same, rc_Inserted T, ib, by decide, by decide, fun H1 e1 b1 => ⟨rfl, ?_⟩⟩
      intro p2 dx2 np2 nd2 ne2
      refine ⟨p2, _, dx2, "a", 1, rfl, upd_same, rc_Fronted T, ia, by decide, by decide, fun H2 e2 b2 => ⟨rfl, ?_⟩⟩
      intro p3 dx3 np3 nd3 ne3
      refine ⟨p3, _, dx3, "b", 1, rfl, upd_same, rc_Removed T, ib, by decide, by decide, fun H3 e3 b3 => ⟨rfl, ?_⟩⟩
      have m2 := made_same np2 nd2 b2
      have m3 := made_same np3 nd3 b3
      refine ⟨Nat.le_of_ble_eq_true rfl, fun L nL => ?_⟩
      have uL := Same.new (o := .lst [.ref p1, .ref p2, .ref p3]) nL
      refine ⟨Nat.le_of_ble_eq_true rfl, fun q nq => ?_⟩
      have uq := Same.new (o := .lst [V.str "a"]) nq
      have rows : Rows A _ [V.ref p1, .ref p2, .ref p3] [(0, "b", 0), (2, "a", 1), (1, "b", 1)] :=
        .cons (way := 0) (n := 0) ((m2.trans (m3.trans (uL.trans uq))) _ _ e1) (by decide) (by decide) ib (.cons (way := 2) (n := 1) ((m3.trans (uL.trans uq)) _ _ e2) (by decide) (by decide) ia (.cons (way := 1) (n := 1) ((uL.trans uq) _ _ e3) (by decide) (by decide) ib .nil))
      refine ⟨_, rfl, .ref q, .ref L, rfl, .inr ⟨q, ["a"], rfl, at_new uq, ⟨ita, by decide +kernel⟩, by decide, .inr ⟨L, _, _, rfl, uq _ _ (at_new uL), rows, by decide, fun us eu D H4 s4 nD hD => ?_, fun k ek => by rw [play3] at ek; cases ek⟩⟩⟩
      rw [play3] at eu
      cases eu
      refine ⟨Nat.le_of_ble_eq_true rfl, fun r nr => .inr ⟨sl ["a"], sl ["a"], dpS (SqL.of ((Same.new nr) _ _ hD)), dpS (xs := ["a"]) (SqL.of upd_same), shapedS ita, shapedS ita, ?_⟩⟩
      rw [eqvS, decide_eq_true rfl]
      refine ⟨_, rfl, iteT ?_⟩
      refine ⟨Nat.zero_le _, fun q2 nq2 => ⟨Nat.zero_le _, fun r2 nr2 => ?_⟩⟩
      have uq2 := Same.new (o := .lst []) nq2
      have ur2 := Same.new (o := .lst []) nr2
      refine ⟨.ref q2, .ref r2, rfl, .inr ⟨q2, [], rfl, ur2 _ _ (at_new uq2), ⟨fun y hy => (by cases hy), List.nodup_nil⟩, Nat.zero_le _, .inr ⟨r2, [], [], rfl, at_new ur2, .nil, Nat.zero_le _, fun us eu D2 H5 s5 nD2 hD2 => ?_, fun k ek => by cases ek⟩⟩⟩
      cases eu
      have s0 := shapedS (xs := []) fun z hz => by cases hz
      refine ⟨Nat.zero_le _, fun r3 nr3 => .inr ⟨sl [], sl [], dpS (SqL.of ((Same.new nr3) _ _ hD2)), dpS (xs := []) (SqL.of upd_same), s0, s0, ?_⟩⟩
      rw [eqvS, decide_eq_true rfl]
      exact h _
theorem done {fa : Addr} (T : Txt K mg A) (hm : mg "law" = some (.ref fa)) : ∀ base : Heap, K.In base → base.Ns mainGlobals mg → OkG P w K mg base 11 fa ["script"] (spLaw K) := by
  have e := T.mg_law.symm.trans hm
  obtain rfl : A.f_law = fa := by
    injection e with e
    injection e
  exact fun base _ _ => ok_law T

end
end Own

set_option Elab.async false
set_option linter.all false
set_option maxRecDepth 100000
set_option maxHeartbeats 4000000
namespace Own
open PySem L2 ClX
local macro_rules | `(tactic| walk_at "v") => `(tactic| refine ⟨_, rfl, ?_⟩)
local macro_rules | `(tactic| walk_at "ii") => `(tactic| refine ⟨_, _, rfl, rfl, ?_⟩)
local macro_rules | `(tactic| walk_at "go") => `(tactic| repeat (first | refine ⟨_, rfl, ?_⟩ | refine ⟨_, _, rfl, rfl, ?_⟩ | refine addI ?_ | refine L2.iteT ?_ | refine L2.iteF ?_))

theorem low_mk {K : PySem.W.Frag} {C : Addr} {o : Obj} (l : K.lookup C = some o) (r : ∃ nm q N bs bm sn sub ab col dd k0 k1 k2 k3 k5, o = excClassObj nm q C N bs bm true sn sub ab col dd k0 k1 k2 k3 k5 "ValueError.__new__" ∧ PySem.HandSPX.refsVE bm = true) :
    ∃ nm q N bs bm sn sub ab col dd k0 k1 k2 k3 k5, K.lookup C = some (excClassObj nm q C N bs bm true sn sub ab col dd k0 k1 k2 k3 k5 "ValueError.__new__") ∧ PySem.HandSPX.refsVE bm = true := by
  obtain ⟨nm, q, N, bs, bm, sn, sub, ab, col, dd, k0, k1, k2, k3, k5, rfl, e⟩ := r
  exact ⟨nm, q, N, bs, bm, sn, sub, ab, col, dd, k0, k1, k2, k3, k5, l, e⟩
theorem lowfn_mk {K : PySem.W.Frag} {f : Addr} {oc : Value} {od : Option Addr} {doc pm : Value} {an : Option Addr} {cdv ct : Value} {osl : Array (Option Value)} {p1 p2 q1 q2 q3 q4 : Pos}
    (l : K.lookup f = some ⟨oc, od, .func (PySem.W.fnOf "__init__" "Impossible.__init__" (PySem.ImpX.iA p1 p2) (PySem.ImpX.iB q1 q2 q3 q4) PySem.ImpX.iS .none .none doc pm an cdv ct), osl⟩) (c : PySem.W.codeIn K cdv "Impossible.__init__" = true) :
    ∃ (oc : Value) (od : Option Addr) (doc pm : Value) (an : Option Addr) (cdv ct : Value) (osl : Array (Option Value)) (p1 p2 q1 q2 q3 q4 : Pos), K.lookup f = some ⟨oc, od, .func (PySem.W.fnOf "__init__" "Impossible.__init__" (PySem.ImpX.iA p1 p2) (PySem.ImpX.iB q1 q2 q3 q4) PySem.ImpX.iS .none .none doc pm an cdv ct), osl⟩ ∧ PySem.W.codeIn K cdv "Impossible.__init__" = true :=
  ⟨_, _, _, _, _, _, _, _, _, _, _, _, _, _, l, c⟩

theorem txt_mk {K : PySem.W.Frag} {h : Heap} {mg : Str → Option Value} {f_is_integer f_is_item f_is_items f_check_items f_check_index f_stands_at f_has_place f_put_in f_taken_out f_has_kind f_are_records f_check_records f_list_after f_replay f__law_source f__law_pick f__law_shuffled f__law_names f__law_make f__law_rows f__law_class f__law_done f__law_shelf f__law_play f__law_no_shelves f__law_no_rows f__law_told f__law_due f__law_right f__law_by_turns f__law_changed f_law c_Record c_Inserted c_Removed c_Fronted c_NoItem c_NoIndex c_NoList c_NoLog c_Impossible c_NoText c_NoClients c_NoNumber c_NoPosition c_NoSeen c_Nothing c_TooMany c_LogError m_Record___init__ m_Record_applies m_Record_applied m_Inserted_applies m_Inserted_applied m_Removed_applies m_Removed_applied m_Fronted_applies m_Fronted_applied m_Impossible___init__ m_Record_text p_Record_text : Addr} (X : K.In h) (G : h.Ns mainGlobals mg)
    (a_is_integer : PySem.W.nsIn K mainGlobals "is_integer" = some (some (.ref f_is_integer)))
    (g_is_integer : FnT K "is_integer" "is_integer" s_is_integer f_is_integer)
    (a_is_item : PySem.W.nsIn K mainGlobals "is_item" = some (some (.ref f_is_item)))
    (g_is_item : FnT K "is_item" "is_item" s_is_item f_is_item)
    (a_is_items : PySem.W.nsIn K mainGlobals "is_items" = some (some (.ref f_is_items)))
    (g_is_items : FnT K "is_items" "is_items" s_is_items f_is_items)
    (a_check_items : PySem.W.nsIn K mainGlobals "check_items" = some (some (.ref f_check_items)))
    (g_check_items : FnT K "check_items" "check_items" s_check_items f_check_items)
    (a_check_index : PySem.W.nsIn K mainGlobals "check_index" = some (some (.ref f_check_index)))
    (g_check_index : FnT K "check_index" "check_index" s_check_index f_check_index)
    (a_stands_at : PySem.W.nsIn K mainGlobals "stands_at" = some (some (.ref f_stands_at)))
    (g_stands_at : FnT K "stands_at" "stands_at" s_stands_at f_stands_at)
    (a_has_place : PySem.W.nsIn K mainGlobals "has_place" = some (some (.ref f_has_place)))
    (g_has_place : FnT K "has_place" "has_place" s_has_place f_has_place)
    (a_put_in : PySem.W.nsIn K mainGlobals "put_in" = some (some (.ref f_put_in)))
    (g_put_in : FnT K "put_in" "put_in" s_put_in f_put_in)
    (a_taken_out : PySem.W.nsIn K mainGlobals "taken_out" = some (some (.ref f_taken_out)))
    (g_taken_out : FnT K "taken_out" "taken_out" s_taken_out f_taken_out)
    (a_has_kind : PySem.W.nsIn K mainGlobals "has_kind" = some (some (.ref f_has_kind)))
    (g_has_kind : FnT K "has_kind" "has_kind" s_has_kind f_has_kind)
    (a_are_records : PySem.W.nsIn K mainGlobals "are_records" = some (some (.ref f_are_records)))
    (g_are_records : FnT K "are_records" "are_records" s_are_records f_are_records)
    (a_check_records : PySem.W.nsIn K mainGlobals "check_records" = some (some (.ref f_check_records)))
    (g_check_records : FnT K "check_records" "check_records" s_check_records f_check_records)
    (a_list_after : PySem.W.nsIn K mainGlobals "list_after" = some (some (.ref f_list_after)))
    (g_list_after : FnT K "list_after" "list_after" s_list_after f_list_after)
    (a_replay : PySem.W.nsIn K mainGlobals "replay" = some (some (.ref f_replay)))
    (g_replay : FnT K "replay" "replay" s_replay f_replay)
    (a__law_source : PySem.W.nsIn K mainGlobals "_law_source" = some (some (.ref f__law_source)))
    (g__law_source : FnT K "_law_source" "_law_source" s__law_source f__law_source)
    (a__law_pick : PySem.W.nsIn K mainGlobals "_law_pick" = some (some (.ref f__law_pick)))
    (g__law_pick : FnT K "_law_pick" "_law_pick" s__law_pick f__law_pick)
    (a__law_shuffled : PySem.W.nsIn K mainGlobals "_law_shuffled" = some (some (.ref f__law_shuffled)))
    (g__law_shuffled : FnT K "_law_shuffled" "_law_shuffled" s__law_shuffled f__law_shuffled)
    (a__law_names : PySem.W.nsIn K mainGlobals "_law_names" = some (some (.ref f__law_names)))
    (g__law_names : FnT K "_law_names" "_law_names" s__law_names f__law_names)
    (a__law_make : PySem.W.nsIn K mainGlobals "_law_make" = some (some (.ref f__law_make)))
    (g__law_make : FnT K "_law_make" "_law_make" s__law_make f__law_make)
    (a__law_rows : PySem.W.nsIn K mainGlobals "_law_rows" = some (some (.ref f__law_rows)))
    (g__law_rows : FnT K "_law_rows" "_law_rows" s__law_rows f__law_rows)
    (a__law_class : PySem.W.nsIn K mainGlobals "_law_class" = some (some (.ref f__law_class)))
    (g__law_class : FnT K "_law_class" "_law_class" s__law_class f__law_class)
    (a__law_done : PySem.W.nsIn K mainGlobals "_law_done" = some (some (.ref f__law_done)))
    (g__law_done : FnT K "_law_done" "_law_done" s__law_done f__law_done)
    (a__law_shelf : PySem.W.nsIn K mainGlobals "_law_shelf" = some (some (.ref f__law_shelf)))
    (g__law_shelf : FnT K "_law_shelf" "_law_shelf" s__law_shelf f__law_shelf)
    (a__law_play : PySem.W.nsIn K mainGlobals "_law_play" = some (some (.ref f__law_play)))
    (g__law_play : FnT K "_law_play" "_law_play" s__law_play f__law_play)
    (a__law_no_shelves : PySem.W.nsIn K mainGlobals "_law_no_shelves" = some (some (.ref f__law_no_shelves)))
    (g__law_no_shelves : FnT K "_law_no_shelves" "_law_no_shelves" s__law_no_shelves f__law_no_shelves)
    (a__law_no_rows : PySem.W.nsIn K mainGlobals "_law_no_rows" = some (some (.ref f__law_no_rows)))
    (g__law_no_rows : FnT K "_law_no_rows" "_law_no_rows" s__law_no_rows f__law_no_rows)
    (a__law_told : PySem.W.nsIn K mainGlobals "_law_told" = some (some (.ref f__law_told)))
    (g__law_told : FnT K "_law_told" "_law_told" s__law_told f__law_told)
    (a__law_due : PySem.W.nsIn K mainGlobals "_law_due" = some (some (.ref f__law_due)))
    (g__law_due : FnT K "_law_due" "_law_due" s__law_due f__law_due)
    (a__law_right : PySem.W.nsIn K mainGlobals "_law_right" = some (some (.ref f__law_right)))
    (g__law_right : FnT K "_law_right" "_law_right" s__law_right f__law_right)
    (a__law_by_turns : PySem.W.nsIn K mainGlobals "_law_by_turns" = some (some (.ref f__law_by_turns)))
    (g__law_by_turns : FnT K "_law_by_turns" "_law_by_turns" s__law_by_turns f__law_by_turns)
    (a__law_changed : PySem.W.nsIn K mainGlobals "_law_changed" = some (some (.ref f__law_changed)))
    (g__law_changed : FnT K "_law_changed" "_law_changed" s__law_changed f__law_changed)
    (a_law : PySem.W.nsIn K mainGlobals "law" = some (some (.ref f_law)))
    (g_law : FnT K "law" "law" s_law f_law)
    (a_Record : PySem.W.nsIn K mainGlobals "Record" = some (some (.ref c_Record)))
    (a_Inserted : PySem.W.nsIn K mainGlobals "Inserted" = some (some (.ref c_Inserted)))
    (a_Removed : PySem.W.nsIn K mainGlobals "Removed" = some (some (.ref c_Removed)))
    (a_Fronted : PySem.W.nsIn K mainGlobals "Fronted" = some (some (.ref c_Fronted)))
    (a_NoItem : PySem.W.nsIn K mainGlobals "NoItem" = some (some (.ref c_NoItem)))
    (a_NoIndex : PySem.W.nsIn K mainGlobals "NoIndex" = some (some (.ref c_NoIndex)))
    (a_NoList : PySem.W.nsIn K mainGlobals "NoList" = some (some (.ref c_NoList)))
    (a_NoLog : PySem.W.nsIn K mainGlobals "NoLog" = some (some (.ref c_NoLog)))
    (a_Impossible : PySem.W.nsIn K mainGlobals "Impossible" = some (some (.ref c_Impossible)))
    (a_NoText : PySem.W.nsIn K mainGlobals "NoText" = some (some (.ref c_NoText)))
    (a_NoClients : PySem.W.nsIn K mainGlobals "NoClients" = some (some (.ref c_NoClients)))
    (a_NoNumber : PySem.W.nsIn K mainGlobals "NoNumber" = some (some (.ref c_NoNumber)))
    (a_NoPosition : PySem.W.nsIn K mainGlobals "NoPosition" = some (some (.ref c_NoPosition)))
    (a_NoSeen : PySem.W.nsIn K mainGlobals "NoSeen" = some (some (.ref c_NoSeen)))
    (a_Nothing : PySem.W.nsIn K mainGlobals "Nothing" = some (some (.ref c_Nothing)))
    (a_TooMany : PySem.W.nsIn K mainGlobals "TooMany" = some (some (.ref c_TooMany)))
    (a_LogError : PySem.W.nsIn K mainGlobals "LogError" = some (some (.ref c_LogError)))
    (mk_Record : PySem.W.makesIn K c_Record = true)
    (in_Record : PySem.W.findIn K (.ref c_Record) "__init__" = some (some (.ref m_Record___init__)))
    (fi_Record : PySem.W.isFn K (.ref m_Record___init__) = true)
    (kc_Record : PySem.W.keepIn K (.ref c_Record) = true)
    (g_Record___init__ : FnT K "__init__" "Record.__init__" s_Record___init__ m_Record___init__)
    (pg_Record : PySem.W.plainGet K c_Record Str.empty = true)
    (hd_Record : PySem.W.hasDictIn K c_Record = true)
    (po_Record : PySem.W.plainOver K c_Record = true)
    (sa_Record : PySem.W.findIn K (.ref c_Record) "__setattr__" = some (some (.builtin "object.__setattr__")))
    (na_Record_item : PySem.W.findIn K (.ref c_Record) "_item" = some none)
    (na_Record_slot : PySem.W.findIn K (.ref c_Record) "_slot" = some none)
    (mk_Inserted : PySem.W.makesIn K c_Inserted = true)
    (in_Inserted : PySem.W.findIn K (.ref c_Inserted) "__init__" = some (some (.ref m_Record___init__)))
    (fi_Inserted : PySem.W.isFn K (.ref m_Record___init__) = true)
    (kc_Inserted : PySem.W.keepIn K (.ref c_Inserted) = true)
    (pg_Inserted : PySem.W.plainGet K c_Inserted Str.empty = true)
    (hd_Inserted : PySem.W.hasDictIn K c_Inserted = true)
    (po_Inserted : PySem.W.plainOver K c_Inserted = true)
    (sa_Inserted : PySem.W.findIn K (.ref c_Inserted) "__setattr__" = some (some (.builtin "object.__setattr__")))
    (na_Inserted_item : PySem.W.findIn K (.ref c_Inserted) "_item" = some none)
    (na_Inserted_slot : PySem.W.findIn K (.ref c_Inserted) "_slot" = some none)
    (mk_Removed : PySem.W.makesIn K c_Removed = true)
    (in_Removed : PySem.W.findIn K (.ref c_Removed) "__init__" = some (some (.ref m_Record___init__)))
    (fi_Removed : PySem.W.isFn K (.ref m_Record___init__) = true)
    (kc_Removed : PySem.W.keepIn K (.ref c_Removed) = true)
    (pg_Removed : PySem.W.plainGet K c_Removed Str.empty = true)
    (hd_Removed : PySem.W.hasDictIn K c_Removed = true)
    (po_Removed : PySem.W.plainOver K c_Removed = true)
    (sa_Removed : PySem.W.findIn K (.ref c_Removed) "__setattr__" = some (some (.builtin "object.__setattr__")))
    (na_Removed_item : PySem.W.findIn K (.ref c_Removed) "_item" = some none)
    (na_Removed_slot : PySem.W.findIn K (.ref c_Removed) "_slot" = some none)
    (mk_Fronted : PySem.W.makesIn K c_Fronted = true)
    (in_Fronted : PySem.W.findIn K (.ref c_Fronted) "__init__" = some (some (.ref m_Record___init__)))
    (fi_Fronted : PySem.W.isFn K (.ref m_Record___init__) = true)
    (kc_Fronted : PySem.W.keepIn K (.ref c_Fronted) = true)
    (pg_Fronted : PySem.W.plainGet K c_Fronted Str.empty = true)
    (hd_Fronted : PySem.W.hasDictIn K c_Fronted = true)
    (po_Fronted : PySem.W.plainOver K c_Fronted = true)
    (sa_Fronted : PySem.W.findIn K (.ref c_Fronted) "__setattr__" = some (some (.builtin "object.__setattr__")))
    (na_Fronted_item : PySem.W.findIn K (.ref c_Fronted) "_item" = some none)
    (na_Fronted_slot : PySem.W.findIn K (.ref c_Fronted) "_slot" = some none)
    (me_Record_applies : PySem.W.findIn K (.ref c_Record) "applies" = some (some (.ref m_Record_applies)))
    (mf_Record_applies : PySem.W.isFn K (.ref m_Record_applies) = true)
    (mq_Record_applies : PySem.W.keepIn K (.ref m_Record_applies) = true)
    (g_Record_applies : FnT K "applies" "Record.applies" s_Record_applies m_Record_applies)
    (me_Record_applied : PySem.W.findIn K (.ref c_Record) "applied" = some (some (.ref m_Record_applied)))
    (mf_Record_applied : PySem.W.isFn K (.ref m_Record_applied) = true)
    (mq_Record_applied : PySem.W.keepIn K (.ref m_Record_applied) = true)
    (g_Record_applied : FnT K "applied" "Record.applied" s_Record_applied m_Record_applied)
    (me_Inserted_applies : PySem.W.findIn K (.ref c_Inserted) "applies" = some (some (.ref m_Inserted_applies)))
    (mf_Inserted_applies : PySem.W.isFn K (.ref m_Inserted_applies) = true)
    (mq_Inserted_applies : PySem.W.keepIn K (.ref m_Inserted_applies) = true)
    (g_Inserted_applies : FnT K "applies" "Inserted.applies" s_Inserted_applies m_Inserted_applies)
    (me_Inserted_applied : PySem.W.findIn K (.ref c_Inserted) "applied" = some (some (.ref m_Inserted_applied)))
    (mf_Inserted_applied : PySem.W.isFn K (.ref m_Inserted_applied) = true)
    (mq_Inserted_applied : PySem.W.keepIn K (.ref m_Inserted_applied) = true)
    (g_Inserted_applied : FnT K "applied" "Inserted.applied" s_Inserted_applied m_Inserted_applied)
    (me_Removed_applies : PySem.W.findIn K (.ref c_Removed) "applies" = some (some (.ref m_Removed_applies)))
    (mf_Removed_applies : PySem.W.isFn K (.ref m_Removed_applies) = true)
    (mq_Removed_applies : PySem.W.keepIn K (.ref m_Removed_applies) = true)
    (g_Removed_applies : FnT K "applies" "Removed.applies" s_Removed_applies m_Removed_applies)
    (me_Removed_applied : PySem.W.findIn K (.ref c_Removed) "applied" = some (some (.ref m_Removed_applied)))
    (mf_Removed_applied : PySem.W.isFn K (.ref m_Removed_applied) = true)
    (mq_Removed_applied : PySem.W.keepIn K (.ref m_Removed_applied) = true)
    (g_Removed_applied : FnT K "applied" "Removed.applied" s_Removed_applied m_Removed_applied)
    (me_Fronted_applies : PySem.W.findIn K (.ref c_Fronted) "applies" = some (some (.ref m_Fronted_applies)))
    (mf_Fronted_applies : PySem.W.isFn K (.ref m_Fronted_applies) = true)
    (mq_Fronted_applies : PySem.W.keepIn K (.ref m_Fronted_applies) = true)
    (g_Fronted_applies : FnT K "applies" "Fronted.applies" s_Fronted_applies m_Fronted_applies)
    (me_Fronted_applied : PySem.W.findIn K (.ref c_Fronted) "applied" = some (some (.ref m_Fronted_applied)))
    (mf_Fronted_applied : PySem.W.isFn K (.ref m_Fronted_applied) = true)
    (mq_Fronted_applied : PySem.W.keepIn K (.ref m_Fronted_applied) = true)
    (g_Fronted_applied : FnT K "applied" "Fronted.applied" s_Fronted_applied m_Fronted_applied)
    (rd_Record : ∃ mc, ClX.CRead K c_Record mc)
    (cv_Record_MOST : ∃ mc u, ClX.CRead K c_Record mc ∧ ClX.CVal K c_Record mc "MOST" (.int 60) u)
    (cv_Record_SIGN : ∃ mc u, ClX.CRead K c_Record mc ∧ ClX.CVal K c_Record mc "SIGN" (.str "") u)
    (iv_Record_SIGN : ∃ u, Con K c_Record "SIGN" (.str "") u)
    (iv_Inserted_SIGN : ∃ u, Con K c_Inserted "SIGN" (.str "+") u)
    (iv_Removed_SIGN : ∃ u, Con K c_Removed "SIGN" (.str "-") u)
    (iv_Fronted_SIGN : ∃ u, Con K c_Fronted "SIGN" (.str "^") u)
    (mc_MOST_LETTERS : ∃ t, PySem.W.nsIn K mainGlobals "MOST_LETTERS" = some (some (.int 8 t)))
    (mc_MOST_ITEMS : ∃ t, PySem.W.nsIn K mainGlobals "MOST_ITEMS" = some (some (.int 60 t)))
    (mc_MOST_REPLAYED : ∃ t, PySem.W.nsIn K mainGlobals "MOST_REPLAYED" = some (some (.int 80 t)))
    (er_NoList : ErrT K c_NoList)
    (er_NoLog : ErrT K c_NoLog)
    (ec_NoList : ExcC K c_NoList)
    (exm_NoList : PySem.W.exmOne K (.ref c_NoList) (.ref c_LogError) = some true)
    (ec_NoLog : ExcC K c_NoLog)
    (exm_NoLog : PySem.W.exmOne K (.ref c_NoLog) (.ref c_LogError) = some true)
    (ec_Impossible : ExcC K c_Impossible)
    (exm_Impossible : PySem.W.exmOne K (.ref c_Impossible) (.ref c_LogError) = some true)
    (kit_NoList_NoItem : PySem.W.kitOne K (.ref c_NoList) (.ref c_NoItem) = some false)
    (kit_NoList_NoIndex : PySem.W.kitOne K (.ref c_NoList) (.ref c_NoIndex) = some false)
    (kit_NoList_NoList : PySem.W.kitOne K (.ref c_NoList) (.ref c_NoList) = some true)
    (kit_NoList_NoLog : PySem.W.kitOne K (.ref c_NoList) (.ref c_NoLog) = some false)
    (kit_NoList_Impossible : PySem.W.kitOne K (.ref c_NoList) (.ref c_Impossible) = some false)
    (kit_NoList_NoText : PySem.W.kitOne K (.ref c_NoList) (.ref c_NoText) = some false)
    (kit_NoList_NoClients : PySem.W.kitOne K (.ref c_NoList) (.ref c_NoClients) = some false)
    (kit_NoList_NoNumber : PySem.W.kitOne K (.ref c_NoList) (.ref c_NoNumber) = some false)
    (kit_NoList_NoPosition : PySem.W.kitOne K (.ref c_NoList) (.ref c_NoPosition) = some false)
    (kit_NoList_NoSeen : PySem.W.kitOne K (.ref c_NoList) (.ref c_NoSeen) = some false)
    (kit_NoList_Nothing : PySem.W.kitOne K (.ref c_NoList) (.ref c_Nothing) = some false)
    (kit_NoList_TooMany : PySem.W.kitOne K (.ref c_NoList) (.ref c_TooMany) = some false)
    (kit_NoLog_NoItem : PySem.W.kitOne K (.ref c_NoLog) (.ref c_NoItem) = some false)
    (kit_NoLog_NoIndex : PySem.W.kitOne K (.ref c_NoLog) (.ref c_NoIndex) = some false)
    (kit_NoLog_NoList : PySem.W.kitOne K (.ref c_NoLog) (.ref c_NoList) = some false)
    (kit_NoLog_NoLog : PySem.W.kitOne K (.ref c_NoLog) (.ref c_NoLog) = some true)
    (kit_NoLog_Impossible : PySem.W.kitOne K (.ref c_NoLog) (.ref c_Impossible) = some false)
    (kit_NoLog_NoText : PySem.W.kitOne K (.ref c_NoLog) (.ref c_NoText) = some false)
    (kit_NoLog_NoClients : PySem.W.kitOne K (.ref c_NoLog) (.ref c_NoClients) = some false)
    (kit_NoLog_NoNumber : PySem.W.kitOne K (.ref c_NoLog) (.ref c_NoNumber) = some false)
    (kit_NoLog_NoPosition : PySem.W.kitOne K (.ref c_NoLog) (.ref c_NoPosition) = some false)
    (kit_NoLog_NoSeen : PySem.W.kitOne K (.ref c_NoLog) (.ref c_NoSeen) = some false)
    (kit_NoLog_Nothing : PySem.W.kitOne K (.ref c_NoLog) (.ref c_Nothing) = some false)
    (kit_NoLog_TooMany : PySem.W.kitOne K (.ref c_NoLog) (.ref c_TooMany) = some false)
    (kit_Impossible_NoItem : PySem.W.kitOne K (.ref c_Impossible) (.ref c_NoItem) = some false)
    (kit_Impossible_NoIndex : PySem.W.kitOne K (.ref c_Impossible) (.ref c_NoIndex) = some false)
    (kit_Impossible_NoList : PySem.W.kitOne K (.ref c_Impossible) (.ref c_NoList) = some false)
    (kit_Impossible_NoLog : PySem.W.kitOne K (.ref c_Impossible) (.ref c_NoLog) = some false)
    (kit_Impossible_Impossible : PySem.W.kitOne K (.ref c_Impossible) (.ref c_Impossible) = some true)
    (kit_Impossible_NoText : PySem.W.kitOne K (.ref c_Impossible) (.ref c_NoText) = some false)
    (kit_Impossible_NoClients : PySem.W.kitOne K (.ref c_Impossible) (.ref c_NoClients) = some false)
    (kit_Impossible_NoNumber : PySem.W.kitOne K (.ref c_Impossible) (.ref c_NoNumber) = some false)
    (kit_Impossible_NoPosition : PySem.W.kitOne K (.ref c_Impossible) (.ref c_NoPosition) = some false)
    (kit_Impossible_NoSeen : PySem.W.kitOne K (.ref c_Impossible) (.ref c_NoSeen) = some false)
    (kit_Impossible_Nothing : PySem.W.kitOne K (.ref c_Impossible) (.ref c_Nothing) = some false)
    (kit_Impossible_TooMany : PySem.W.kitOne K (.ref c_Impossible) (.ref c_TooMany) = some false)
    (kit_NoList_type_ValueError : PySem.W.kitOne K (.ref c_NoList) (.type "ValueError") = some true)
    (kit_NoLog_type_ValueError : PySem.W.kitOne K (.ref c_NoLog) (.type "ValueError") = some true)
    (kit_Impossible_type_ValueError : PySem.W.kitOne K (.ref c_Impossible) (.type "ValueError") = some true)
    (kit_Record_Record : PySem.W.kitOne K (.ref c_Record) (.ref c_Record) = some true)
    (kit_Inserted_Record : PySem.W.kitOne K (.ref c_Inserted) (.ref c_Record) = some true)
    (kit_Removed_Record : PySem.W.kitOne K (.ref c_Removed) (.ref c_Record) = some true)
    (kit_Fronted_Record : PySem.W.kitOne K (.ref c_Fronted) (.ref c_Record) = some true)
    (kit_type_NoneType_Record : PySem.W.kitOne K (.type "NoneType") (.ref c_Record) = some false)
    (kit_type_bool_Record : PySem.W.kitOne K (.type "bool") (.ref c_Record) = some false)
    (kit_type_int_Record : PySem.W.kitOne K (.type "int") (.ref c_Record) = some false)
    (kit_type_str_Record : PySem.W.kitOne K (.type "str") (.ref c_Record) = some false)
    (kit_type_list_Record : PySem.W.kitOne K (.type "list") (.ref c_Record) = some false)
    (kit_type_tuple_Record : PySem.W.kitOne K (.type "tuple") (.ref c_Record) = some false)
    (kit_type_dict_Record : PySem.W.kitOne K (.type "dict") (.ref c_Record) = some false)
    (kit_Inserted_type_str : PySem.W.kitOne K (.ref c_Inserted) (.type "str") = some false)
    (kit_Inserted_type_list : PySem.W.kitOne K (.ref c_Inserted) (.type "list") = some false)
    (li_Impossible : ∃ nm q N bs bm sn sub ab col dd k0 k1 k2 k3 k5, K.lookup c_Impossible = some (excClassObj nm q c_Impossible N bs bm true sn sub ab col dd k0 k1 k2 k3 k5 "ValueError.__new__") ∧ PySem.HandSPX.refsVE bm = true)
    (lj_Impossible : PySem.W.findIn K (.ref c_Impossible) "__setattr__" = some (some (.builtin "object.__setattr__")))
    (lk_Impossible : PySem.W.findIn K (.ref c_Impossible) "__getattribute__" = some (some (.builtin "BaseException.__getattribute__")))
    (ll_Impossible : PySem.W.findIn K (.ref c_Impossible) "__getattr__" = some none)
    (lm_Impossible : PySem.W.findIn K (.ref c_Impossible) "reason" = some none)
    (ln_Impossible : PySem.W.findIn K (.ref c_Impossible) "__init__" = some (some (.ref m_Impossible___init__)))
    (lo_Impossible : PySem.W.typeIn K (.ref m_Impossible___init__) = some (.type "function"))
    (lp_Impossible : PySem.W.keepIn K (.ref c_Impossible) = true)
    (lq_Impossible : PySem.W.subIn K (.ref c_Impossible) (.type "BaseException") = some true)
    (lr_Impossible : PySem.W.typeIn K (.ref c_Impossible) = some (.type "type"))
    (ls_Impossible : PySem.W.hasDictIn K c_Impossible = true)
    (lt_Impossible : PySem.W.exmOne K (.ref c_Impossible) (.ref c_Impossible) = some true)
    (lu_Impossible : ∃ (oc : Value) (od : Option Addr) (doc pm : Value) (an : Option Addr) (cdv ct : Value) (osl : Array (Option Value)) (p1 p2 q1 q2 q3 q4 : Pos), K.lookup m_Impossible___init__ = some ⟨oc, od, .func (PySem.W.fnOf "__init__" "Impossible.__init__" (PySem.ImpX.iA p1 p2) (PySem.ImpX.iB q1 q2 q3 q4) PySem.ImpX.iS .none .none doc pm an cdv ct), osl⟩ ∧ PySem.W.codeIn K cdv "Impossible.__init__" = true)
    (pr_Record_text : PropOf K c_Record "text" p_Record_text m_Record_text)
    (g_Record_text : FnT K "text" "Record.text" s_Record_text m_Record_text)
    (pr_Inserted_text : PropOf K c_Inserted "text" p_Record_text m_Record_text)
    (pr_Removed_text : PropOf K c_Removed "text" p_Record_text m_Record_text)
    (pr_Fronted_text : PropOf K c_Fronted "text" p_Record_text m_Record_text)
    (ty_Record : InsT K c_Record)
    (ty_Inserted : InsT K c_Inserted)
    (ty_Removed : InsT K c_Removed)
    (ty_Fronted : InsT K c_Fronted)
    (no_ValueError : PySem.W.nsIn K mainGlobals "ValueError" = some none)
    (no_abs : PySem.W.nsIn K mainGlobals "abs" = some none)
    (no_all : PySem.W.nsIn K mainGlobals "all" = some none)
    (no_bool : PySem.W.nsIn K mainGlobals "bool" = some none)
    (no_enumerate : PySem.W.nsIn K mainGlobals "enumerate" = some none)
    (no_int : PySem.W.nsIn K mainGlobals "int" = some none)
    (no_isinstance : PySem.W.nsIn K mainGlobals "isinstance" = some none)
    (no_len : PySem.W.nsIn K mainGlobals "len" = some none)
    (no_list : PySem.W.nsIn K mainGlobals "list" = some none)
    (no_max : PySem.W.nsIn K mainGlobals "max" = some none)
    (no_min : PySem.W.nsIn K mainGlobals "min" = some none)
    (no_property : PySem.W.nsIn K mainGlobals "property" = some none)
    (no_range : PySem.W.nsIn K mainGlobals "range" = some none)
    (no_repr : PySem.W.nsIn K mainGlobals "repr" = some none)
    (no_set : PySem.W.nsIn K mainGlobals "set" = some none)
    (no_str : PySem.W.nsIn K mainGlobals "str" = some none)
    (no_tuple : PySem.W.nsIn K mainGlobals "tuple" = some none)
    : Txt K mg ⟨f_is_integer, f_is_item, f_is_items, f_check_items, f_check_index, f_stands_at, f_has_place, f_put_in, f_taken_out, f_has_kind, f_are_records, f_check_records, f_list_after, f_replay, f__law_source, f__law_pick, f__law_shuffled, f__law_names, f__law_make, f__law_rows, f__law_class, f__law_done, f__law_shelf, f__law_play, f__law_no_shelves, f__law_no_rows, f__law_told, f__law_due, f__law_right, f__law_by_turns, f__law_changed, f_law, c_Record, c_Inserted, c_Removed, c_Fronted, c_NoItem, c_NoIndex, c_NoList, c_NoLog, c_Impossible, c_NoText, c_NoClients, c_NoNumber, c_NoPosition, c_NoSeen, c_Nothing, c_TooMany, c_LogError, m_Record___init__, m_Record_applies, m_Record_applied, m_Inserted_applies, m_Inserted_applied, m_Removed_applies, m_Removed_applied, m_Fronted_applies, m_Fronted_applied, m_Impossible___init__, m_Record_text, p_Record_text⟩ :=
  {
    mg_is_integer := PySem.W.mg_of X G a_is_integer
    fn_is_integer := g_is_integer
    mg_is_item := PySem.W.mg_of X G a_is_item
    fn_is_item := g_is_item
    mg_is_items := PySem.W.mg_of X G a_is_items
    fn_is_items := g_is_items
    mg_check_items := PySem.W.mg_of X G a_check_items
    fn_check_items := g_check_items
    mg_check_index := PySem.W.mg_of X G a_check_index
    fn_check_index := g_check_index
    mg_stands_at := PySem.W.mg_of X G a_stands_at
    fn_stands_at := g_stands_at
    mg_has_place := PySem.W.mg_of X G a_has_place
    fn_has_place := g_has_place
    mg_put_in := PySem.W.mg_of X G a_put_in
    fn_put_in := g_put_in
    mg_taken_out := PySem.W.mg_of X G a_taken_out
    fn_taken_out := g_taken_out
    mg_has_kind := PySem.W.mg_of X G a_has_kind
    fn_has_kind := g_has_kind
    mg_are_records := PySem.W.mg_of X G a_are_records
    fn_are_records := g_are_records
    mg_check_records := PySem.W.mg_of X G a_check_records
    fn_check_records := g_check_records
    mg_list_after := PySem.W.mg_of X G a_list_after
    fn_list_after := g_list_after
    mg_replay := PySem.W.mg_of X G a_replay
    fn_replay := g_replay
    mg__law_source := PySem.W.mg_of X G a__law_source
    fn__law_source := g__law_source
    mg__law_pick := PySem.W.mg_of X G a__law_pick
    fn__law_pick := g__law_pick
    mg__law_shuffled := PySem.W.mg_of X G a__law_shuffled
    fn__law_shuffled := g__law_shuffled
    mg__law_names := PySem.W.mg_of X G a__law_names
    fn__law_names := g__law_names
    mg__law_make := PySem.W.mg_of X G a__law_make
    fn__law_make := g__law_make
    mg__law_rows := PySem.W.mg_of X G a__law_rows
    fn__law_rows := g__law_rows
    mg__law_class := PySem.W.mg_of X G a__law_class
    fn__law_class := g__law_class
    mg__law_done := PySem.W.mg_of X G a__law_done
    fn__law_done := g__law_done
    mg__law_shelf := PySem.W.mg_of X G a__law_shelf
    fn__law_shelf := g__law_shelf
    mg__law_play := PySem.W.mg_of X G a__law_play
    fn__law_play := g__law_play
    mg__law_no_shelves := PySem.W.mg_of X G a__law_no_shelves
    fn__law_no_shelves := g__law_no_shelves
    mg__law_no_rows := PySem.W.mg_of X G a__law_no_rows
    fn__law_no_rows := g__law_no_rows
    mg__law_told := PySem.W.mg_of X G a__law_told
    fn__law_told := g__law_told
    mg__law_due := PySem.W.mg_of X G a__law_due
    fn__law_due := g__law_due
    mg__law_right := PySem.W.mg_of X G a__law_right
    fn__law_right := g__law_right
    mg__law_by_turns := PySem.W.mg_of X G a__law_by_turns
    fn__law_by_turns := g__law_by_turns
    mg__law_changed := PySem.W.mg_of X G a__law_changed
    fn__law_changed := g__law_changed
    mg_law := PySem.W.mg_of X G a_law
    fn_law := g_law
    mg_Record := PySem.W.mg_of X G a_Record
    mg_Inserted := PySem.W.mg_of X G a_Inserted
    mg_Removed := PySem.W.mg_of X G a_Removed
    mg_Fronted := PySem.W.mg_of X G a_Fronted
    mg_NoItem := PySem.W.mg_of X G a_NoItem
    mg_NoIndex := PySem.W.mg_of X G a_NoIndex
    mg_NoList := PySem.W.mg_of X G a_NoList
    mg_NoLog := PySem.W.mg_of X G a_NoLog
    mg_Impossible := PySem.W.mg_of X G a_Impossible
    mg_NoText := PySem.W.mg_of X G a_NoText
    mg_NoClients := PySem.W.mg_of X G a_NoClients
    mg_NoNumber := PySem.W.mg_of X G a_NoNumber
    mg_NoPosition := PySem.W.mg_of X G a_NoPosition
    mg_NoSeen := PySem.W.mg_of X G a_NoSeen
    mg_Nothing := PySem.W.mg_of X G a_Nothing
    mg_TooMany := PySem.W.mg_of X G a_TooMany
    mg_LogError := PySem.W.mg_of X G a_LogError
    mk_Record := ⟨mk_Record, in_Record, fi_Record, kc_Record⟩
    fn_Record___init__ := g_Record___init__
    cl_Record := ⟨pg_Record, hd_Record, po_Record, sa_Record⟩
    na_Record_item := na_Record_item
    na_Record_slot := na_Record_slot
    mk_Inserted := ⟨mk_Inserted, in_Inserted, fi_Inserted, kc_Inserted⟩
    cl_Inserted := ⟨pg_Inserted, hd_Inserted, po_Inserted, sa_Inserted⟩
    na_Inserted_item := na_Inserted_item
    na_Inserted_slot := na_Inserted_slot
    mk_Removed := ⟨mk_Removed, in_Removed, fi_Removed, kc_Removed⟩
    cl_Removed := ⟨pg_Removed, hd_Removed, po_Removed, sa_Removed⟩
    na_Removed_item := na_Removed_item
    na_Removed_slot := na_Removed_slot
    mk_Fronted := ⟨mk_Fronted, in_Fronted, fi_Fronted, kc_Fronted⟩
    cl_Fronted := ⟨pg_Fronted, hd_Fronted, po_Fronted, sa_Fronted⟩
    na_Fronted_item := na_Fronted_item
    na_Fronted_slot := na_Fronted_slot
    me_Record_applies := ⟨me_Record_applies, mf_Record_applies, mq_Record_applies⟩
    fn_Record_applies := g_Record_applies
    me_Record_applied := ⟨me_Record_applied, mf_Record_applied, mq_Record_applied⟩
    fn_Record_applied := g_Record_applied
    me_Inserted_applies := ⟨me_Inserted_applies, mf_Inserted_applies, mq_Inserted_applies⟩
    fn_Inserted_applies := g_Inserted_applies
    me_Inserted_applied := ⟨me_Inserted_applied, mf_Inserted_applied, mq_Inserted_applied⟩
    fn_Inserted_applied := g_Inserted_applied
    me_Removed_applies := ⟨me_Removed_applies, mf_Removed_applies, mq_Removed_applies⟩
    fn_Removed_applies := g_Removed_applies
    me_Removed_applied := ⟨me_Removed_applied, mf_Removed_applied, mq_Removed_applied⟩
    fn_Removed_applied := g_Removed_applied
    me_Fronted_applies := ⟨me_Fronted_applies, mf_Fronted_applies, mq_Fronted_applies⟩
    fn_Fronted_applies := g_Fronted_applies
    me_Fronted_applied := ⟨me_Fronted_applied, mf_Fronted_applied, mq_Fronted_applied⟩
    fn_Fronted_applied := g_Fronted_applied
    cv_Record_MOST := cv_Record_MOST
    cv_Record_SIGN := cv_Record_SIGN
    iv_Record_SIGN := iv_Record_SIGN
    iv_Inserted_SIGN := iv_Inserted_SIGN
    iv_Removed_SIGN := iv_Removed_SIGN
    iv_Fronted_SIGN := iv_Fronted_SIGN
    mg_MOST_LETTERS := let ⟨t, h⟩ := mc_MOST_LETTERS; ⟨t, PySem.W.mg_of X G h⟩
    mg_MOST_ITEMS := let ⟨t, h⟩ := mc_MOST_ITEMS; ⟨t, PySem.W.mg_of X G h⟩
    mg_MOST_REPLAYED := let ⟨t, h⟩ := mc_MOST_REPLAYED; ⟨t, PySem.W.mg_of X G h⟩
    er_NoList := er_NoList
    er_NoLog := er_NoLog
    ec_NoList := ec_NoList
    exm_NoList := exm_NoList
    ec_NoLog := ec_NoLog
    exm_NoLog := exm_NoLog
    ec_Impossible := ec_Impossible
    exm_Impossible := exm_Impossible
    kit_NoList_NoItem := kit_NoList_NoItem
    kit_NoList_NoIndex := kit_NoList_NoIndex
    kit_NoList_NoList := kit_NoList_NoList
    kit_NoList_NoLog := kit_NoList_NoLog
    kit_NoList_Impossible := kit_NoList_Impossible
    kit_NoList_NoText := kit_NoList_NoText
    kit_NoList_NoClients := kit_NoList_NoClients
    kit_NoList_NoNumber := kit_NoList_NoNumber
    kit_NoList_NoPosition := kit_NoList_NoPosition
    kit_NoList_NoSeen := kit_NoList_NoSeen
    kit_NoList_Nothing := kit_NoList_Nothing
    kit_NoList_TooMany := kit_NoList_TooMany
    kit_NoLog_NoItem := kit_NoLog_NoItem
    kit_NoLog_NoIndex := kit_NoLog_NoIndex
    kit_NoLog_NoList := kit_NoLog_NoList
    kit_NoLog_NoLog := kit_NoLog_NoLog
    kit_NoLog_Impossible := kit_NoLog_Impossible
    kit_NoLog_NoText := kit_NoLog_NoText
    kit_NoLog_NoClients := kit_NoLog_NoClients
    kit_NoLog_NoNumber := kit_NoLog_NoNumber
    kit_NoLog_NoPosition := kit_NoLog_NoPosition
    kit_NoLog_NoSeen := kit_NoLog_NoSeen
    kit_NoLog_Nothing := kit_NoLog_Nothing
    kit_NoLog_TooMany := kit_NoLog_TooMany
    kit_Impossible_NoItem := kit_Impossible_NoItem
    kit_Impossible_NoIndex := kit_Impossible_NoIndex
    kit_Impossible_NoList := kit_Impossible_NoList
    kit_Impossible_NoLog := kit_Impossible_NoLog
    kit_Impossible_Impossible := kit_Impossible_Impossible
    kit_Impossible_NoText := kit_Impossible_NoText
    kit_Impossible_NoClients := kit_Impossible_NoClients
    kit_Impossible_NoNumber := kit_Impossible_NoNumber
    kit_Impossible_NoPosition := kit_Impossible_NoPosition
    kit_Impossible_NoSeen := kit_Impossible_NoSeen
    kit_Impossible_Nothing := kit_Impossible_Nothing
    kit_Impossible_TooMany := kit_Impossible_TooMany
    kit_NoList_type_ValueError := kit_NoList_type_ValueError
    kit_NoLog_type_ValueError := kit_NoLog_type_ValueError
    kit_Impossible_type_ValueError := kit_Impossible_type_ValueError
    kit_Record_Record := kit_Record_Record
    kit_Inserted_Record := kit_Inserted_Record
    kit_Removed_Record := kit_Removed_Record
    kit_Fronted_Record := kit_Fronted_Record
    kit_type_NoneType_Record := kit_type_NoneType_Record
    kit_type_bool_Record := kit_type_bool_Record
    kit_type_int_Record := kit_type_int_Record
    kit_type_str_Record := kit_type_str_Record
    kit_type_list_Record := kit_type_list_Record
    kit_type_tuple_Record := kit_type_tuple_Record
    kit_type_dict_Record := kit_type_dict_Record
    kit_Inserted_type_str := kit_Inserted_type_str
    kit_Inserted_type_list := kit_Inserted_type_list
    low_Impossible := { gC := PySem.W.mg_of X G a_Impossible, cls := li_Impossible, sa := lj_Impossible, ga := lk_Impossible, gg := ll_Impossible, noN := lm_Impossible, iC := ln_Impossible, tC := lo_Impossible, kC := lp_Impossible, exC := lq_Impossible, tyC := lr_Impossible, hdC := ls_Impossible, te := lt_Impossible, fn := lu_Impossible }
    xf_Impossible := ⟨lk_Impossible, ll_Impossible, lq_Impossible, ls_Impossible⟩
    nf_Impossible := lm_Impossible
    pr_Record_text := pr_Record_text
    fn_Record_text := g_Record_text
    pr_Inserted_text := pr_Inserted_text
    pr_Removed_text := pr_Removed_text
    pr_Fronted_text := pr_Fronted_text
    ty_Record := ty_Record
    ty_Inserted := ty_Inserted
    ty_Removed := ty_Removed
    ty_Fronted := ty_Fronted
    no_ValueError := PySem.W.mg_none_of X G no_ValueError
    no_abs := PySem.W.mg_none_of X G no_abs
    no_all := PySem.W.mg_none_of X G no_all
    no_bool := PySem.W.mg_none_of X G no_bool
    no_enumerate := PySem.W.mg_none_of X G no_enumerate
    no_int := PySem.W.mg_none_of X G no_int
    no_isinstance := PySem.W.mg_none_of X G no_isinstance
    no_len := PySem.W.mg_none_of X G no_len
    no_list := PySem.W.mg_none_of X G no_list
    no_max := PySem.W.mg_none_of X G no_max
    no_min := PySem.W.mg_none_of X G no_min
    no_property := PySem.W.mg_none_of X G no_property
    no_range := PySem.W.mg_none_of X G no_range
    no_repr := PySem.W.mg_none_of X G no_repr
    no_set := PySem.W.mg_none_of X G no_set
    no_str := PySem.W.mg_none_of X G no_str
    no_tuple := PySem.W.mg_none_of X G no_tuple }

end Own

open PySem PySem.W PyProof.Rows in
set_option maxRecDepth 100000 in
set_option maxHeartbeats 0 in
theorem PySem.Challenge.cw_indexlogs_k09_records_replayed_holds : PySem.Challenge.rw_indexlogs_k09_records_replayed.Holds := by
  w_on; o_law; k_head; (case hw => w_witness2)
  k_fill
  refine L2.walkG (l := PySem.Challenge.rw_indexlogs_k09_records_replayed) (n := 63) (k := 11) (sp := Own.spLaw) rfl (by decide) rfl ⟨rfl, by decide, by decide⟩ (fun w h Y => PySem.W.kIn_of Y) ?F fun K H a ns hl hS => ⟨a, ns, rfl, hS, hl, fun _ => rfl⟩
  case F =>
    intro w mg fa h KX G hmg
    refine' Own.done (Own.txt_mk KX G ?a_is_integer ?g_is_integer ?a_is_item ?g_is_item ?a_is_items ?g_is_items ?a_check_items ?g_check_items ?a_check_index ?g_check_index ?a_stands_at ?g_stands_at ?a_has_place ?g_has_place ?a_put_in ?g_put_in ?a_taken_out ?g_taken_out ?a_has_kind ?g_has_kind ?a_are_records ?g_are_records ?a_check_records ?g_check_records ?a_list_after ?g_list_after ?a_replay ?g_replay ?a__law_source ?g__law_source ?a__law_pick ?g__law_pick ?a__law_shuffled ?g__law_shuffled ?a__law_names ?g__law_names ?a__law_make ?g__law_make ?a__law_rows ?g__law_rows ?a__law_class ?g__law_class ?a__law_done ?g__law_done ?a__law_shelf ?g__law_shelf ?a__law_play ?g__law_play ?a__law_no_shelves ?g__law_no_shelves ?a__law_no_rows ?g__law_no_rows ?a__law_told ?g__law_told ?a__law_due ?g__law_due ?a__law_right ?g__law_right ?a__law_by_turns ?g__law_by_turns ?a__law_changed ?g__law_changed ?a_law ?g_law ?a_Record ?a_Inserted ?a_Removed ?a_Fronted ?a_NoItem ?a_NoIndex ?a_NoList ?a_NoLog ?a_Impossible ?a_NoText ?a_NoClients ?a_NoNumber ?a_NoPosition ?a_NoSeen ?a_Nothing ?a_TooMany ?a_LogError ?mk_Record ?in_Record ?fi_Record ?kc_Record ?g_Record___init__ ?pg_Record ?hd_Record ?po_Record ?sa_Record ?na_Record_item ?na_Record_slot ?mk_Inserted ?in_Inserted ?fi_Inserted ?kc_Inserted ?pg_Inserted ?hd_Inserted ?po_Inserted ?sa_Inserted ?na_Inserted_item ?na_Inserted_slot ?mk_Removed ?in_Removed ?fi_Removed ?kc_Removed ?pg_Removed ?hd_Removed ?po_Removed ?sa_Removed ?na_Removed_item ?na_Removed_slot ?mk_Fronted ?in_Fronted ?fi_Fronted ?kc_Fronted ?pg_Fronted ?hd_Fronted ?po_Fronted ?sa_Fronted ?na_Fronted_item ?na_Fronted_slot ?me_Record_applies ?mf_Record_applies ?mq_Record_applies ?g_Record_applies ?me_Record_applied ?mf_Record_applied ?mq_Record_applied ?g_Record_applied ?me_Inserted_applies ?mf_Inserted_applies ?mq_Inserted_applies ?g_Inserted_applies ?me_Inserted_applied ?mf_Inserted_applied ?mq_Inserted_applied ?g_Inserted_applied ?me_Removed_applies ?mf_Removed_applies ?mq_Removed_applies ?g_Removed_applies ?me_Removed_applied ?mf_Removed_applied ?mq_Removed_applied ?g_Removed_applied ?me_Fronted_applies ?mf_Fronted_applies ?mq_Fronted_applies ?g_Fronted_applies ?me_Fronted_applied ?mf_Fronted_applied ?mq_Fronted_applied ?g_Fronted_applied ?rd_Record ?cv_Record_MOST ?cv_Record_SIGN ?iv_Record_SIGN ?iv_Inserted_SIGN ?iv_Removed_SIGN ?iv_Fronted_SIGN ?mc_MOST_LETTERS ?mc_MOST_ITEMS ?mc_MOST_REPLAYED ?er_NoList ?er_NoLog ?ec_NoList ?exm_NoList ?ec_NoLog ?exm_NoLog ?ec_Impossible ?exm_Impossible ?kit_NoList_NoItem ?kit_NoList_NoIndex ?kit_NoList_NoList ?kit_NoList_NoLog ?kit_NoList_Impossible ?kit_NoList_NoText ?kit_NoList_NoClients ?kit_NoList_NoNumber ?kit_NoList_NoPosition ?kit_NoList_NoSeen ?kit_NoList_Nothing ?kit_NoList_TooMany ?kit_NoLog_NoItem ?kit_NoLog_NoIndex ?kit_NoLog_NoList ?kit_NoLog_NoLog ?kit_NoLog_Impossible ?kit_NoLog_NoText ?kit_NoLog_NoClients ?kit_NoLog_NoNumber ?kit_NoLog_NoPosition ?kit_NoLog_NoSeen ?kit_NoLog_Nothing ?kit_NoLog_TooMany ?kit_Impossible_NoItem ?kit_Impossible_NoIndex ?kit_Impossible_NoList ?kit_Impossible_NoLog ?kit_Impossible_Impossible ?kit_Impossible_NoText ?kit_Impossible_NoClients ?kit_Impossible_NoNumber ?kit_Impossible_NoPosition ?kit_Impossible_NoSeen ?kit_Impossible_Nothing ?kit_Impossible_TooMany ?kit_NoList_type_ValueError ?kit_NoLog_type_ValueError ?kit_Impossible_type_ValueError ?kit_Record_Record ?kit_Inserted_Record ?kit_Removed_Record ?kit_Fronted_Record ?kit_type_NoneType_Record ?kit_type_bool_Record ?kit_type_int_Record ?kit_type_str_Record ?kit_type_list_Record ?kit_type_tuple_Record ?kit_type_dict_Record ?kit_Inserted_type_str ?kit_Inserted_type_list ?li_Impossible ?lj_Impossible ?lk_Impossible ?ll_Impossible ?lm_Impossible ?ln_Impossible ?lo_Impossible ?lp_Impossible ?lq_Impossible ?lr_Impossible ?ls_Impossible ?lt_Impossible ?lu_Impossible ?pr_Record_text ?g_Record_text ?pr_Inserted_text ?pr_Removed_text ?pr_Fronted_text ?ty_Record ?ty_Inserted ?ty_Removed ?ty_Fronted ?no_ValueError ?no_abs ?no_all ?no_bool ?no_enumerate ?no_int ?no_isinstance ?no_len ?no_list ?no_max ?no_min ?no_property ?no_range ?no_repr ?no_set ?no_str ?no_tuple) hmg
    (case a_is_integer => k_is)
    (case g_is_integer => (refine' L2.fnT_mk ?l ?c ?k; (case l => k_is); (case c => k_is); (case k => k_is)))
    (case a_is_item => k_is)
    (case g_is_item => (refine' L2.fnT_mk ?l ?c ?k; (case l => k_is); (case c => k_is); (case k => k_is)))
    (case a_is_items => k_is)
    (case g_is_items => (refine' L2.fnT_mk ?l ?c ?k; (case l => k_is); (case c => k_is); (case k => k_is)))
    (case a_check_items => k_is)
    (case g_check_items => (refine' L2.fnT_mk ?l ?c ?k; (case l => k_is); (case c => k_is); (case k => k_is)))
    (case a_check_index => k_is)
    (case g_check_index => (refine' L2.fnT_mk ?l ?c ?k; (case l => k_is); (case c => k_is); (case k => k_is)))
    (case a_stands_at => k_is)
    (case g_stands_at => (refine' L2.fnT_mk ?l ?c ?k; (case l => k_is); (case c => k_is); (case k => k_is)))
    (case a_has_place => k_is)
    (case g_has_place => (refine' L2.fnT_mk ?l ?c ?k; (case l => k_is); (case c => k_is); (case k => k_is)))
    (case a_put_in => k_is)
    (case g_put_in => (refine' L2.fnT_mk ?l ?c ?k; (case l => k_is); (case c => k_is); (case k => k_is)))
    (case a_taken_out => k_is)
    (case g_taken_out => (refine' L2.fnT_mk ?l ?c ?k; (case l => k_is); (case c => k_is); (case k => k_is)))
    (case a_has_kind => k_is)
    (case g_has_kind => (refine' L2.fnT_mk ?l ?c ?k; (case l => k_is); (case c => k_is); (case k => k_is)))
    (case a_are_records => k_is)
    (case g_are_records => (refine' L2.fnT_mk ?l ?c ?k; (case l => k_is); (case c => k_is); (case k => k_is)))
    (case a_check_records => k_is)
    (case g_check_records => (refine' L2.fnT_mk ?l ?c ?k; (case l => k_is); (case c => k_is); (case k => k_is)))
    (case a_list_after => k_is)
    (case g_list_after => (refine' L2.fnT_mk ?l ?c ?k; (case l => k_is); (case c => k_is); (case k => k_is)))
    (case a_replay => k_is)
    (case g_replay => (refine' L2.fnT_mk ?l ?c ?k; (case l => k_is); (case c => k_is); (case k => k_is)))
    (case a__law_source => k_is)
    (case g__law_source => (refine' L2.fnT_mk ?l ?c ?k; (case l => k_is); (case c => k_is); (case k => k_is)))
    (case a__law_pick => k_is)
    (case g__law_pick => (refine' L2.fnT_mk ?l ?c ?k; (case l => k_is); (case c => k_is); (case k => k_is)))
    (case a__law_shuffled => k_is)
    (case g__law_shuffled => (refine' L2.fnT_mk ?l ?c ?k; (case l => k_is); (case c => k_is); (case k => k_is)))
    (case a__law_names => k_is)
    (case g__law_names => (refine' L2.fnT_mk ?l ?c ?k; (case l => k_is); (case c => k_is); (case k => k_is)))
    (case a__law_make => k_is)
    (case g__law_make => (refine' L2.fnT_mk ?l ?c ?k; (case l => k_is); (case c => k_is); (case k => k_is)))
    (case a__law_rows => k_is)
    (case g__law_rows => (refine' L2.fnT_mk ?l ?c ?k; (case l => k_is); (case c => k_is); (case k => k_is)))
    (case a__law_class => k_is)
    (case g__law_class => (refine' L2.fnT_mk ?l ?c ?k; (case l => k_is); (case c => k_is); (case k => k_is)))
    (case a__law_done => k_is)
    (case g__law_done => (refine' L2.fnT_mk ?l ?c ?k; (case l => k_is); (case c => k_is); (case k => k_is)))
    (case a__law_shelf => k_is)
    (case g__law_shelf => (refine' L2.fnT_mk ?l ?c ?k; (case l => k_is); (case c => k_is); (case k => k_is)))
    (case a__law_play => k_is)
    (case g__law_play => (refine' L2.fnT_mk ?l ?c ?k; (case l => k_is); (case c => k_is); (case k => k_is)))
    (case a__law_no_shelves => k_is)
    (case g__law_no_shelves => (refine' L2.fnT_mk ?l ?c ?k; (case l => k_is); (case c => k_is); (case k => k_is)))
    (case a__law_no_rows => k_is)
    (case g__law_no_rows => (refine' L2.fnT_mk ?l ?c ?k; (case l => k_is); (case c => k_is); (case k => k_is)))
    (case a__law_told => k_is)
    (case g__law_told => (refine' L2.fnT_mk ?l ?c ?k; (case l => k_is); (case c => k_is); (case k => k_is)))
    (case a__law_due => k_is)
    (case g__law_due => (refine' L2.fnT_mk ?l ?c ?k; (case l => k_is); (case c => k_is); (case k => k_is)))
    (case a__law_right => k_is)
    (case g__law_right => (refine' L2.fnT_mk ?l ?c ?k; (case l => k_is); (case c => k_is); (case k => k_is)))
    (case a__law_by_turns => k_is)
    (case g__law_by_turns => (refine' L2.fnT_mk ?l ?c ?k; (case l => k_is); (case c => k_is); (case k => k_is)))
    (case a__law_changed => k_is)
    (case g__law_changed => (refine' L2.fnT_mk ?l ?c ?k; (case l => k_is); (case c => k_is); (case k => k_is)))
    (case a_law => k_is)
    (case g_law => (refine' L2.fnT_mk ?l ?c ?k; (case l => k_is); (case c => k_is); (case k => k_is)))
    (case a_Record => k_is)
    (case a_Inserted => k_is)
    (case a_Removed => k_is)
    (case a_Fronted => k_is)
    (case a_NoItem => k_is)
    (case a_NoIndex => k_is)
    (case a_NoList => k_is)
    (case a_NoLog => k_is)
    (case a_Impossible => k_is)
    (case a_NoText => k_is)
    (case a_NoClients => k_is)
    (case a_NoNumber => k_is)
    (case a_NoPosition => k_is)
    (case a_NoSeen => k_is)
    (case a_Nothing => k_is)
    (case a_TooMany => k_is)
    (case a_LogError => k_is)
    (case mk_Record => k_is)
    (case in_Record => k_is)
    (case fi_Record => k_is)
    (case kc_Record => k_is)
    (case g_Record___init__ => (refine' L2.fnT_mk ?l ?c ?k; (case l => k_is); (case c => k_is); (case k => k_is)))
    (case pg_Record => k_is)
    (case hd_Record => k_is)
    (case po_Record => k_is)
    (case sa_Record => k_is)
    (case na_Record_item => k_is)
    (case na_Record_slot => k_is)
    (case mk_Inserted => k_is)
    (case in_Inserted => k_is)
    (case fi_Inserted => k_is)
    (case kc_Inserted => k_is)
    (case pg_Inserted => k_is)
    (case hd_Inserted => k_is)
    (case po_Inserted => k_is)
    (case sa_Inserted => k_is)
    (case na_Inserted_item => k_is)
    (case na_Inserted_slot => k_is)
    (case mk_Removed => k_is)
    (case in_Removed => k_is)
    (case fi_Removed => k_is)
    (case kc_Removed => k_is)
    (case pg_Removed => k_is)
    (case hd_Removed => k_is)
    (case po_Removed => k_is)
    (case sa_Removed => k_is)
    (case na_Removed_item => k_is)
    (case na_Removed_slot => k_is)
    (case mk_Fronted => k_is)
    (case in_Fronted => k_is)
    (case fi_Fronted => k_is)
    (case kc_Fronted => k_is)
    (case pg_Fronted => k_is)
    (case hd_Fronted => k_is)
    (case po_Fronted => k_is)
    (case sa_Fronted => k_is)
    (case na_Fronted_item => k_is)
    (case na_Fronted_slot => k_is)
    (case me_Record_applies => k_is)
    (case mf_Record_applies => k_is)
    (case mq_Record_applies => k_is)
    (case g_Record_applies => (refine' L2.fnT_mk ?l ?c ?k; (case l => k_is); (case c => k_is); (case k => k_is)))
    (case me_Record_applied => k_is)
    (case mf_Record_applied => k_is)
    (case mq_Record_applied => k_is)
    (case g_Record_applied => (refine' L2.fnT_mk ?l ?c ?k; (case l => k_is); (case c => k_is); (case k => k_is)))
    (case me_Inserted_applies => k_is)
    (case mf_Inserted_applies => k_is)
    (case mq_Inserted_applies => k_is)
    (case g_Inserted_applies => (refine' L2.fnT_mk ?l ?c ?k; (case l => k_is); (case c => k_is); (case k => k_is)))
    (case me_Inserted_applied => k_is)
    (case mf_Inserted_applied => k_is)
    (case mq_Inserted_applied => k_is)
    (case g_Inserted_applied => (refine' L2.fnT_mk ?l ?c ?k; (case l => k_is); (case c => k_is); (case k => k_is)))
    (case me_Removed_applies => k_is)
    (case mf_Removed_applies => k_is)
    (case mq_Removed_applies => k_is)
    (case g_Removed_applies => (refine' L2.fnT_mk ?l ?c ?k; (case l => k_is); (case c => k_is); (case k => k_is)))
    (case me_Removed_applied => k_is)
    (case mf_Removed_applied => k_is)
    (case mq_Removed_applied => k_is)
    (case g_Removed_applied => (refine' L2.fnT_mk ?l ?c ?k; (case l => k_is); (case c => k_is); (case k => k_is)))
    (case me_Fronted_applies => k_is)
    (case mf_Fronted_applies => k_is)
    (case mq_Fronted_applies => k_is)
    (case g_Fronted_applies => (refine' L2.fnT_mk ?l ?c ?k; (case l => k_is); (case c => k_is); (case k => k_is)))
    (case me_Fronted_applied => k_is)
    (case mf_Fronted_applied => k_is)
    (case mq_Fronted_applied => k_is)
    (case g_Fronted_applied => (refine' L2.fnT_mk ?l ?c ?k; (case l => k_is); (case c => k_is); (case k => k_is)))
    (case rd_Record => (refine' ⟨.type "type", ⟨?r, ?s⟩⟩; (case r => k_is); (case s => k_is)))
    (case cv_Record_MOST => (refine' ⟨.type "type", _, ⟨?r, ?s⟩, ⟨?t, ?v⟩⟩; (case r => k_is); (case s => k_is); (case t => k_is); (case v => first | rfl | exact ⟨_, rfl⟩)))
    (case cv_Record_SIGN => (refine' ⟨.type "type", _, ⟨?r, ?s⟩, ⟨?t, ?v⟩⟩; (case r => k_is); (case s => k_is); (case t => k_is); (case v => first | rfl | exact ⟨_, rfl⟩)))
    (case iv_Record_SIGN => (refine' ⟨_, ⟨?t, ?v, ?g, ?w⟩⟩; (case t => k_is); (case v => first | rfl | exact ⟨_, rfl⟩); (case g => first | k_is | rfl | decide +kernel); (case w => first | rfl | decide +kernel)))
    (case iv_Inserted_SIGN => (refine' ⟨_, ⟨?t, ?v, ?g, ?w⟩⟩; (case t => k_is); (case v => first | rfl | exact ⟨_, rfl⟩); (case g => first | k_is | rfl | decide +kernel); (case w => first | rfl | decide +kernel)))
    (case iv_Removed_SIGN => (refine' ⟨_, ⟨?t, ?v, ?g, ?w⟩⟩; (case t => k_is); (case v => first | rfl | exact ⟨_, rfl⟩); (case g => first | k_is | rfl | decide +kernel); (case w => first | rfl | decide +kernel)))
    (case iv_Fronted_SIGN => (refine' ⟨_, ⟨?t, ?v, ?g, ?w⟩⟩; (case t => k_is); (case v => first | rfl | exact ⟨_, rfl⟩); (case g => first | k_is | rfl | decide +kernel); (case w => first | rfl | decide +kernel)))
    (case mc_MOST_LETTERS => (refine' L2.gconst_mk ?t ?r; (case t => k_is); (case r => exact ⟨_, rfl⟩)))
    (case mc_MOST_ITEMS => (refine' L2.gconst_mk ?t ?r; (case t => k_is); (case r => exact ⟨_, rfl⟩)))
    (case mc_MOST_REPLAYED => (refine' L2.gconst_mk ?t ?r; (case t => k_is); (case r => exact ⟨_, rfl⟩)))
    (case er_NoList => (refine' ⟨?a, ?b, ?c, ?d⟩; (case a => first | k_exc | k_is | decide +kernel | kernel_rfl); (case b => k_is); (case c => k_is); (case d => k_is)))
    (case er_NoLog => (refine' ⟨?a, ?b, ?c, ?d⟩; (case a => first | k_exc | k_is | decide +kernel | kernel_rfl); (case b => k_is); (case c => k_is); (case d => k_is)))
    (case ec_NoList => (refine' ⟨?a, ?b, ?c, ?d, ?e, ?f, ?g, ?h⟩; (case a => k_is); (case b => k_is); (case c => k_is); (case d => k_is); (case e => k_is); (case f => k_is); (case g => k_is); (case h => k_is)))
    (case exm_NoList => (refine' PySem.W.exm_ref ?a ?b ?c ?d; (case a => k_is); (case b => k_is); (case c => k_is); (case d => k_is)))
    (case ec_NoLog => (refine' ⟨?a, ?b, ?c, ?d, ?e, ?f, ?g, ?h⟩; (case a => k_is); (case b => k_is); (case c => k_is); (case d => k_is); (case e => k_is); (case f => k_is); (case g => k_is); (case h => k_is)))
    (case exm_NoLog => (refine' PySem.W.exm_ref ?a ?b ?c ?d; (case a => k_is); (case b => k_is); (case c => k_is); (case d => k_is)))
    (case ec_Impossible => (refine' ⟨?a, ?b, ?c, ?d, ?e, ?f, ?g, ?h⟩; (case a => k_is); (case b => k_is); (case c => k_is); (case d => k_is); (case e => k_is); (case f => k_is); (case g => k_is); (case h => k_is)))
    (case exm_Impossible => (refine' PySem.W.exm_ref ?a ?b ?c ?d; (case a => k_is); (case b => k_is); (case c => k_is); (case d => k_is)))
    (case kit_NoList_NoItem => (refine' L2.kit_ref ?a ?b ?c ?d; (case a => k_is); (case b => k_is); (case c => k_is); (case d => first | exact fun _ => rfl | exact fun z => absurd (Value.ref.inj z) (by decide) | exact fun z => by cases z)))
    (case kit_NoList_NoIndex => (refine' L2.kit_ref ?a ?b ?c ?d; (case a => k_is); (case b => k_is); (case c => k_is); (case d => first | exact fun _ => rfl | exact fun z => absurd (Value.ref.inj z) (by decide) | exact fun z => by cases z)))
    (case kit_NoList_NoList => (refine' L2.kit_ref ?a ?b ?c ?d; (case a => k_is); (case b => k_is); (case c => k_is); (case d => first | exact fun _ => rfl | exact fun z => absurd (Value.ref.inj z) (by decide) | exact fun z => by cases z)))
    (case kit_NoList_NoLog => (refine' L2.kit_ref ?a ?b ?c ?d; (case a => k_is); (case b => k_is); (case c => k_is); (case d => first | exact fun _ => rfl | exact fun z => absurd (Value.ref.inj z) (by decide) | exact fun z => by cases z)))
    (case kit_NoList_Impossible => (refine' L2.kit_ref ?a ?b ?c ?d; (case a => k_is); (case b => k_is); (case c => k_is); (case d => first | exact fun _ => rfl | exact fun z => absurd (Value.ref.inj z) (by decide) | exact fun z => by cases z)))
    (case kit_NoList_NoText => (refine' L2.kit_ref ?a ?b ?c ?d; (case a => k_is); (case b => k_is); (case c => k_is); (case d => first | exact fun _ => rfl | exact fun z => absurd (Value.ref.inj z) (by decide) | exact fun z => by cases z)))
    (case kit_NoList_NoClients => (refine' L2.kit_ref ?a ?b ?c ?d; (case a => k_is); (case b => k_is); (case c => k_is); (case d => first | exact fun _ => rfl | exact fun z => absurd (Value.ref.inj z) (by decide) | exact fun z => by cases z)))
    (case kit_NoList_NoNumber => (refine' L2.kit_ref ?a ?b ?c ?d; (case a => k_is); (case b => k_is); (case c => k_is); (case d => first | exact fun _ => rfl | exact fun z => absurd (Value.ref.inj z) (by decide) | exact fun z => by cases z)))
    (case kit_NoList_NoPosition => (refine' L2.kit_ref ?a ?b ?c ?d; (case a => k_is); (case b => k_is); (case c => k_is); (case d => first | exact fun _ => rfl | exact fun z => absurd (Value.ref.inj z) (by decide) | exact fun z => by cases z)))
    (case kit_NoList_NoSeen => (refine' L2.kit_ref ?a ?b ?c ?d; (case a => k_is); (case b => k_is); (case c => k_is); (case d => first | exact fun _ => rfl | exact fun z => absurd (Value.ref.inj z) (by decide) | exact fun z => by cases z)))
    (case kit_NoList_Nothing => (refine' L2.kit_ref ?a ?b ?c ?d; (case a => k_is); (case b => k_is); (case c => k_is); (case d => first | exact fun _ => rfl | exact fun z => absurd (Value.ref.inj z) (by decide) | exact fun z => by cases z)))
    (case kit_NoList_TooMany => (refine' L2.kit_ref ?a ?b ?c ?d; (case a => k_is); (case b => k_is); (case c => k_is); (case d => first | exact fun _ => rfl | exact fun z => absurd (Value.ref.inj z) (by decide) | exact fun z => by cases z)))
    (case kit_NoLog_NoItem => (refine' L2.kit_ref ?a ?b ?c ?d; (case a => k_is); (case b => k_is); (case c => k_is); (case d => first | exact fun _ => rfl | exact fun z => absurd (Value.ref.inj z) (by decide) | exact fun z => by cases z)))
    (case kit_NoLog_NoIndex => (refine' L2.kit_ref ?a ?b ?c ?d; (case a => k_is); (case b => k_is); (case c => k_is); (case d => first | exact fun _ => rfl | exact fun z => absurd (Value.ref.inj z) (by decide) | exact fun z => by cases z)))
    (case kit_NoLog_NoList => (refine' L2.kit_ref ?a ?b ?c ?d; (case a => k_is); (case b => k_is); (case c => k_is); (case d => first | exact fun _ => rfl | exact fun z => absurd (Value.ref.inj z) (by decide) | exact fun z => by cases z)))
    (case kit_NoLog_NoLog => (refine' L2.kit_ref ?a ?b ?c ?d; (case a => k_is); (case b => k_is); (case c => k_is); (case d => first | exact fun _ => rfl | exact fun z => absurd (Value.ref.inj z) (by decide) | exact fun z => by cases z)))
    (case kit_NoLog_Impossible => (refine' L2.kit_ref ?a ?b ?c ?d; (case a => k_is); (case b => k_is); (case c => k_is); (case d => first | exact fun _ => rfl | exact fun z => absurd (Value.ref.inj z) (by decide) | exact fun z => by cases z)))
    (case kit_NoLog_NoText => (refine' L2.kit_ref ?a ?b ?c ?d; (case a => k_is); (case b => k_is); (case c => k_is); (case d => first | exact fun _ => rfl | exact fun z => absurd (Value.ref.inj z) (by decide) | exact fun z => by cases z)))
    (case kit_NoLog_NoClients => (refine' L2.kit_ref ?a ?b ?c ?d; (case a => k_is); (case b => k_is); (case c => k_is); (case d => first | exact fun _ => rfl | exact fun z => absurd (Value.ref.inj z) (by decide) | exact fun z => by cases z)))
    (case kit_NoLog_NoNumber => (refine' L2.kit_ref ?a ?b ?c ?d; (case a => k_is); (case b => k_is); (case c => k_is); (case d => first | exact fun _ => rfl | exact fun z => absurd (Value.ref.inj z) (by decide) | exact fun z => by cases z)))
    (case kit_NoLog_NoPosition => (refine' L2.kit_ref ?a ?b ?c ?d; (case a => k_is); (case b => k_is); (case c => k_is); (case d => first | exact fun _ => rfl | exact fun z => absurd (Value.ref.inj z) (by decide) | exact fun z => by cases z)))
    (case kit_NoLog_NoSeen => (refine' L2.kit_ref ?a ?b ?c ?d; (case a => k_is); (case b => k_is); (case c => k_is); (case d => first | exact fun _ => rfl | exact fun z => absurd (Value.ref.inj z) (by decide) | exact fun z => by cases z)))
    (case kit_NoLog_Nothing => (refine' L2.kit_ref ?a ?b ?c ?d; (case a => k_is); (case b => k_is); (case c => k_is); (case d => first | exact fun _ => rfl | exact fun z => absurd (Value.ref.inj z) (by decide) | exact fun z => by cases z)))
    (case kit_NoLog_TooMany => (refine' L2.kit_ref ?a ?b ?c ?d; (case a => k_is); (case b => k_is); (case c => k_is); (case d => first | exact fun _ => rfl | exact fun z => absurd (Value.ref.inj z) (by decide) | exact fun z => by cases z)))
    (case kit_Impossible_NoItem => (refine' L2.kit_ref ?a ?b ?c ?d; (case a => k_is); (case b => k_is); (case c => k_is); (case d => first | exact fun _ => rfl | exact fun z => absurd (Value.ref.inj z) (by decide) | exact fun z => by cases z)))
    (case kit_Impossible_NoIndex => (refine' L2.kit_ref ?a ?b ?c ?d; (case a => k_is); (case b => k_is); (case c => k_is); (case d => first | exact fun _ => rfl | exact fun z => absurd (Value.ref.inj z) (by decide) | exact fun z => by cases z)))
    (case kit_Impossible_NoList => (refine' L2.kit_ref ?a ?b ?c ?d; (case a => k_is); (case b => k_is); (case c => k_is); (case d => first | exact fun _ => rfl | exact fun z => absurd (Value.ref.inj z) (by decide) | exact fun z => by cases z)))
    (case kit_Impossible_NoLog => (refine' L2.kit_ref ?a ?b ?c ?d; (case a => k_is); (case b => k_is); (case c => k_is); (case d => first | exact fun _ => rfl | exact fun z => absurd (Value.ref.inj z) (by decide) | exact fun z => by cases z)))
    (case kit_Impossible_Impossible => (refine' L2.kit_ref ?a ?b ?c ?d; (case a => k_is); (case b => k_is); (case c => k_is); (case d => first | exact fun _ => rfl | exact fun z => absurd (Value.ref.inj z) (by decide) | exact fun z => by cases z)))
    (case kit_Impossible_NoText => (refine' L2.kit_ref ?a ?b ?c ?d; (case a => k_is); (case b => k_is); (case c => k_is); (case d => first | exact fun _ => rfl | exact fun z => absurd (Value.ref.inj z) (by decide) | exact fun z => by cases z)))
    (case kit_Impossible_NoClients => (refine' L2.kit_ref ?a ?b ?c ?d; (case a => k_is); (case b => k_is); (case c => k_is); (case d => first | exact fun _ => rfl | exact fun z => absurd (Value.ref.inj z) (by decide) | exact fun z => by cases z)))
    (case kit_Impossible_NoNumber => (refine' L2.kit_ref ?a ?b ?c ?d; (case a => k_is); (case b => k_is); (case c => k_is); (case d => first | exact fun _ => rfl | exact fun z => absurd (Value.ref.inj z) (by decide) | exact fun z => by cases z)))
    (case kit_Impossible_NoPosition => (refine' L2.kit_ref ?a ?b ?c ?d; (case a => k_is); (case b => k_is); (case c => k_is); (case d => first | exact fun _ => rfl | exact fun z => absurd (Value.ref.inj z) (by decide) | exact fun z => by cases z)))
    (case kit_Impossible_NoSeen => (refine' L2.kit_ref ?a ?b ?c ?d; (case a => k_is); (case b => k_is); (case c => k_is); (case d => first | exact fun _ => rfl | exact fun z => absurd (Value.ref.inj z) (by decide) | exact fun z => by cases z)))
    (case kit_Impossible_Nothing => (refine' L2.kit_ref ?a ?b ?c ?d; (case a => k_is); (case b => k_is); (case c => k_is); (case d => first | exact fun _ => rfl | exact fun z => absurd (Value.ref.inj z) (by decide) | exact fun z => by cases z)))
    (case kit_Impossible_TooMany => (refine' L2.kit_ref ?a ?b ?c ?d; (case a => k_is); (case b => k_is); (case c => k_is); (case d => first | exact fun _ => rfl | exact fun z => absurd (Value.ref.inj z) (by decide) | exact fun z => by cases z)))
    (case kit_NoList_type_ValueError => (refine' L2.kit_bty (by decide +kernel) ?c; (case c => k_is)))
    (case kit_NoLog_type_ValueError => (refine' L2.kit_bty (by decide +kernel) ?c; (case c => k_is)))
    (case kit_Impossible_type_ValueError => (refine' L2.kit_bty (by decide +kernel) ?c; (case c => k_is)))
    (case kit_Record_Record => (refine' L2.kit_ref ?a ?b ?c ?d; (case a => k_is); (case b => k_is); (case c => k_is); (case d => first | exact fun _ => rfl | exact fun z => absurd (Value.ref.inj z) (by decide) | exact fun z => by cases z)))
    (case kit_Inserted_Record => (refine' L2.kit_ref ?a ?b ?c ?d; (case a => k_is); (case b => k_is); (case c => k_is); (case d => first | exact fun _ => rfl | exact fun z => absurd (Value.ref.inj z) (by decide) | exact fun z => by cases z)))
    (case kit_Removed_Record => (refine' L2.kit_ref ?a ?b ?c ?d; (case a => k_is); (case b => k_is); (case c => k_is); (case d => first | exact fun _ => rfl | exact fun z => absurd (Value.ref.inj z) (by decide) | exact fun z => by cases z)))
    (case kit_Fronted_Record => (refine' L2.kit_ref ?a ?b ?c ?d; (case a => k_is); (case b => k_is); (case c => k_is); (case d => first | exact fun _ => rfl | exact fun z => absurd (Value.ref.inj z) (by decide) | exact fun z => by cases z)))
    (case kit_type_NoneType_Record => (refine' L2.kit_ref ?a ?b ?c ?d; (case a => k_is); (case b => k_is); (case c => k_is); (case d => first | exact fun _ => rfl | exact fun z => absurd (Value.ref.inj z) (by decide) | exact fun z => by cases z)))
    (case kit_type_bool_Record => (refine' L2.kit_ref ?a ?b ?c ?d; (case a => k_is); (case b => k_is); (case c => k_is); (case d => first | exact fun _ => rfl | exact fun z => absurd (Value.ref.inj z) (by decide) | exact fun z => by cases z)))
    (case kit_type_int_Record => (refine' L2.kit_ref ?a ?b ?c ?d; (case a => k_is); (case b => k_is); (case c => k_is); (case d => first | exact fun _ => rfl | exact fun z => absurd (Value.ref.inj z) (by decide) | exact fun z => by cases z)))
    (case kit_type_str_Record => (refine' L2.kit_ref ?a ?b ?c ?d; (case a => k_is); (case b => k_is); (case c => k_is); (case d => first | exact fun _ => rfl | exact fun z => absurd (Value.ref.inj z) (by decide) | exact fun z => by cases z)))
    (case kit_type_list_Record => (refine' L2.kit_ref ?a ?b ?c ?d; (case a => k_is); (case b => k_is); (case c => k_is); (case d => first | exact fun _ => rfl | exact fun z => absurd (Value.ref.inj z) (by decide) | exact fun z => by cases z)))
    (case kit_type_tuple_Record => (refine' L2.kit_ref ?a ?b ?c ?d; (case a => k_is); (case b => k_is); (case c => k_is); (case d => first | exact fun _ => rfl | exact fun z => absurd (Value.ref.inj z) (by decide) | exact fun z => by cases z)))
    (case kit_type_dict_Record => (refine' L2.kit_ref ?a ?b ?c ?d; (case a => k_is); (case b => k_is); (case c => k_is); (case d => first | exact fun _ => rfl | exact fun z => absurd (Value.ref.inj z) (by decide) | exact fun z => by cases z)))
    (case kit_Inserted_type_str => (refine' L2.kit_bty (by decide +kernel) ?c; (case c => k_is)))
    (case kit_Inserted_type_list => (refine' L2.kit_bty (by decide +kernel) ?c; (case c => k_is)))
    (case li_Impossible => (refine' Own.low_mk ?lo1 ?lo2; (case lo1 => k_is); (case lo2 => first | exact ⟨_, _, _, _, _, _, _, _, _, _, _, _, _, _, _, rfl, rfl⟩ | exact ⟨_, _, _, _, _, _, _, _, _, _, _, _, _, _, _, rfl, by decide +kernel⟩)))
    (case lj_Impossible => k_is)
    (case lk_Impossible => k_is)
    (case ll_Impossible => k_is)
    (case lm_Impossible => k_is)
    (case ln_Impossible => k_is)
    (case lo_Impossible => k_is)
    (case lp_Impossible => k_is)
    (case lq_Impossible => k_is)
    (case lr_Impossible => k_is)
    (case ls_Impossible => k_is)
    (case lt_Impossible => (refine' PySem.W.exm_ref ?a ?b ?c ?d; (case a => k_is); (case b => k_is); (case c => k_is); (case d => k_is)))
    (case lu_Impossible => (refine' Own.lowfn_mk ?lf1 ?lf2; (case lf1 => k_is); (case lf2 => k_is)))
    (case pr_Record_text => (refine' L2.propOf_mk ?pa ?pb ?pc ?pd; (case pa => k_is); (case pb => k_is); (case pc => k_is); (case pd => k_is)))
    (case g_Record_text => (refine' L2.fnT_mk ?l ?c ?k; (case l => k_is); (case c => k_is); (case k => k_is)))
    (case pr_Inserted_text => (refine' L2.propOf_mk ?pa ?pb ?pc ?pd; (case pa => k_is); (case pb => k_is); (case pc => k_is); (case pd => k_is)))
    (case pr_Removed_text => (refine' L2.propOf_mk ?pa ?pb ?pc ?pd; (case pa => k_is); (case pb => k_is); (case pc => k_is); (case pd => k_is)))
    (case pr_Fronted_text => (refine' L2.propOf_mk ?pa ?pb ?pc ?pd; (case pa => k_is); (case pb => k_is); (case pc => k_is); (case pd => k_is)))
    (case ty_Record => (refine' ⟨?a, ?b, ?c, ?d⟩; (case a => k_is); (case b => k_is); (case c => k_is); (case d => k_is)))
    (case ty_Inserted => (refine' ⟨?a, ?b, ?c, ?d⟩; (case a => k_is); (case b => k_is); (case c => k_is); (case d => k_is)))
    (case ty_Removed => (refine' ⟨?a, ?b, ?c, ?d⟩; (case a => k_is); (case b => k_is); (case c => k_is); (case d => k_is)))
    (case ty_Fronted => (refine' ⟨?a, ?b, ?c, ?d⟩; (case a => k_is); (case b => k_is); (case c => k_is); (case d => k_is)))
    (case no_ValueError => k_is)
    (case no_abs => k_is)
    (case no_all => k_is)
    (case no_bool => k_is)
    (case no_enumerate => k_is)
    (case no_int => k_is)
    (case no_isinstance => k_is)
    (case no_len => k_is)
    (case no_list => k_is)
    (case no_max => k_is)
    (case no_min => k_is)
    (case no_property => k_is)
    (case no_range => k_is)
    (case no_repr => k_is)
    (case no_set => k_is)
    (case no_str => k_is)
    (case no_tuple => k_is)
