import PyProof.Rows.All
import Wide.All
import OpenK.AllK
import Wide.FinOn
import HandS.ForMost
import HandS.Wide
import HandS.IsInst
import HandS.ClsMeth
import HandS.Property
import HandS.FStr
import HandS.Defaults
import HandS.MakeKw
import HandS.MakeKwOnly
import HandS.Style
import HandS.StrMore
import PyProof.ReprRoads
import HandS.ForExc
import HandS.ExcIs
import HandS.ExcField
import HandS.ExcInit
import HandS.ExcValue
import HandS.Set
import HandS.Strs
import HandS.Zip
import HandS.SetBool
import HandS.DictComp
import HandS.Walk
import HandS.Dict
import KE.DataMinMax
import HandS.SortKw
import HandS.Deep
import KE.DataEq
import PySem.Challenge.RW_indexlogs_k47_usable_records_by_all_sets
set_option Elab.async false
set_option linter.all false
set_option maxRecDepth 100000
set_option maxHeartbeats 4000000
/-! Own layer: more rules over the hand layer. -/
namespace L2
open ClX
open PySem PySem.Spec PyProof.Rows

/-! ### operators of more than one kind -/
section
variable {X : Cx}
def rAddX : R2 := fun x y H Q => rI0 (fun i j => .int (i + j)) x y H Q ∨ (∃ i j, x = .str i ∧ y = .str j ∧ i.length + j.length ≤ sizeLine ∧ Q (.str (i ++ j)) H) ∨ rCat x y H Q
theorem op_addX : OpR X (binaryOp .Add) rAddX := op_add.or (op_add_str.or op_cat)
def rMulX : R2 := fun x y H Q => rI CMulW (fun i j => .int (i * j)) x y H Q ∨ rRep x y H Q
theorem op_mulX : OpR X (binaryOp .Mult) rMulX := op_mulW.or op_rep
def CPowW (i j : Int) : Prop := 0 ≤ j ∧ j ≤ 1000 ∧ i.natAbs.log2 < 2000
theorem op_powX : OpR X (binaryOp .Pow) (rI CPowW fun i j => .int (i ^ j.toNat)) := opI fun i j _ _ _ _ _ hc q => by
  obtain ⟨h0, h1, h2⟩ := hc
  have b : Builtin.Int.intBits i ≤ 2000 := by
    unfold Builtin.Int.intBits
    split <;> omega
  refine pow_int h0 ?_ q
  have hh : Builtin.Int.intBits i * j.toNat ≤ 2000 * 1000 := Nat.mul_le_mul b (by omega)
  have : ((Builtin.Int.intBits i : Nat) : Int) * j = ((Builtin.Int.intBits i * j.toNat : Nat) : Int) := by
    rw [Int.natCast_mul, Int.toNat_of_nonneg h0]
  rw [this]
  omega
theorem cpow {i j : Int} {b : Nat} (h0 : 0 ≤ j) (h1 : j ≤ 1000) (hb : i.natAbs < 2 ^ b) (hp : 0 < b) (h : b ≤ 2000) : CPowW i j :=
  ⟨h0, h1, Nat.lt_of_lt_of_le (PySem.Flt.log2_lt_of hp hb) h⟩
def rFdivX : R2 := rI CDivW fun i j => .int (i / j)
theorem op_fdivX : OpR X (binaryOp .FloorDiv) rFdivX := op_fdivW
/-- scalars, or data of any depth -/
def rEqX (K : PySem.W.Frag) : R2 := fun x y H Q => rEq x y H Q ∨ rEqD K x y H Q
def rNeX (K : PySem.W.Frag) : R2 := fun x y H Q => rNe x y H Q ∨ rNeD K x y H Q
theorem op_eqX {k : Nat} (hr : Room k X.A) : OpR X (compareOp .Eq) (rEqX X.K) := op_eq.or (op_eqD hr.units)
theorem op_neX {k : Nat} (hr : Room k X.A) : OpR X (compareOp .NotEq) (rNeX X.K) := op_ne.or (op_neD hr.units)
end
section
variable {σ : St} {H : Hp} {Q : VK} {i j : Int} {x y : Str}
theorem addI (h : Q (.int (i + j)) H) : rAddX (.int i) (.int j) H Q := .inl ⟨i, j, rfl, rfl, h⟩
theorem addS (h0 : x.length + y.length ≤ sizeLine) (h : Q (.str (x ++ y)) H) : rAddX (.str x) (.str y) H Q := .inr (.inl ⟨x, y, rfl, rfl, h0, h⟩)
theorem mulI (h0 : CMulW i j) (h : Q (.int (i * j)) H) : rMulX (.int i) (.int j) H Q := .inl ⟨i, j, rfl, rfl, h0, h⟩
theorem eqS {K : PySem.W.Frag} {a b : V} (h0 : scal a b = true) (h : Q (.bl (decide (a = b))) H) : rEqX K a b H Q := .inl ⟨h0, h⟩
theorem neS {K : PySem.W.Frag} {a b : V} (h0 : scal a b = true) (h : Q (.bl (!decide (a = b))) H) : rNeX K a b H Q := .inl ⟨h0, h⟩
end

/-! ### names of the module, constants of a class -/
section
variable {X : Cx} {x f : Str} {pos : Pos} {i : Int} {t : Tok}
theorem pe_globC (hm : ∃ t, X.mg x = some (.int i t)) (hg : Gl X x := by rfl) (hd : (x == ("__debug__" : Str)) = false := by decide) : PE X (.Name x pos) (tC (.int i)) := by
  obtain ⟨t, hm⟩ := hm
  exact pe_glob hg hm ⟨_, rfl⟩ hd
/-- C.f, the class by its name, a constant of the class -/
theorem pe_clsv {C : Addr} {v : V} {e : Expr} (c : ∃ mc u, CRead X.K C mc ∧ CVal X.K C mc f v u) (he : PE X e (tC (.ref C))) (hab : attributeBase e f X.env (eval e X.env) = eval e X.env := by rfl) :
    PE X (.Attribute e f pos) (tC v) := by
  refine ⟨fun pins s σ H Q I h => (pe_cval (pos := pos) he hab).run pins s σ H Q I ?_⟩
  obtain ⟨mc, u, c1, c2⟩ := c
  exact ⟨C, mc, v, u, rfl, c1, c2, h⟩
end

/-! ### o.m(.., k = v) -/
def tMethK (C : Addr) (m : Str) (sp : Sp) (gV : List V → List V → List V) (E : XK) (ta : TE) (t tk : TA) : TE := fun σ H Q => ta σ H fun x H1 => ∃ a dx fs, x = .ref a ∧ H1 a = some (.ins C dx fs) ∧ fs.lookup m = none ∧
  t σ H1 fun vs H2 => tk σ H2 fun zs H3 => sp (gV (x :: vs) zs) H3 Q E
section
variable {X : Cx} {CX : CXT} {k : Nat} {f C : Addr} {fd : FuncData} {ps ks : List Str} {sp : Sp} {E : XK} {m : Str} {pos apos : Pos} {o : Expr} {kws : List Keyword} {ta : TE} {t tk : TA} {g : List Value → List Value → List Value} {gV : List V → List V → List V}
theorem pe_methK0 {pl : Sem Bool} (he : PE X o ta) (c : Cls X.K C) (hm : Meth X.K C m f) (F : FnOk X.prog X.w X.K X.mg X.base CX k f fd ps sp) (hr : Room k X.A) (hb : KBinds X.K fd ps ks g gV) (hx : Passes CX X E)
    (hkw : PK X kws tk) (hall : (backToKw pos (keywordEach kws X.env)).all (·.1.isSome) = true := by rfl) (hks : (backToKw pos (keywordEach kws X.env)).filterMap (·.1) = ks := by rfl)
    (hpl : ((backTo pos (starEach [] X.env)).any (·.1) || (backToKw pos (keywordEach kws X.env)).any (·.1.isNone)) = false := by rfl)
    (ht : eval (.Call (.Attribute o m apos) [] kws pos) X.env = (do
      let ov ← eval o X.env
      standAt apos.atName
      let (f, first) ← holding [ov] (getMethod ov m pl)
      callWith pos f first (backTo pos (starEach [] X.env)) (backToKw pos (keywordEach kws X.env))) := by rfl) :
    PE X (.Call (.Attribute o m apos) [] kws pos) (tMethK C m sp gV E ta tNil tk) := by
  refine ⟨fun pins s σ H Q I h => ?_⟩
  refine PySem.W.methodCall_KW (pl := pl) (thn (he.run pins s σ H _ I h) fun u s1 ⟨x, H1, I1, rx, a, dx, fs, ex, ea, l, q⟩ => ?_) ht
  subst ex
  obtain rfl : u = Value.ref a := rx
  refine getmeth_ok I1 ea c hm l ?_
  refine PySem.W.callWith_KW0 (first := [.ref a]) (h₀ := X.base) I.ok.mod.kin hm.kp hall ?_ hpl
  refine thn (hkw.run pos pins s1 σ H1 _ I1 q) fun ws s2 ⟨zs, H2, I2, rz, q2⟩ => ⟨I2.kIn, ?_⟩
  rw [hks]
  exact run_fnk (us := [.ref a]) (vs := [.ref a]) F hr hb hx I2 (.cons rfl .nil) rz q2
end
section
variable {K : PySem.W.Frag}
/-- how a call by keywords binds (no defaults) -/
theorem Fun.kbinds {x qual : Str} {st : Stmt} {f : Addr} {fd : FuncData} {ps : List Str} (F : Fun K x qual st f fd) (n : Nat) (ks : List Str) (g : {α : Type} → List α → List α → List α) (hlen : ∀ {α : Type} (us ws : List α), (g us ws).length = ps.length → us.length = n ∧ ws.length = ks.length)
    (hrel : ∀ {vs : List V} {us : List Value} {zs : List V} {ws : List Value}, Vals vs us → Vals zs ws → Vals (g vs zs) (g us ws))
    (h : ∀ (kV doc pm : Value) (an : Option Addr) (cdv ct : Value) (us ws : List Value), us.length = n → ws.length = ks.length → bindArgs (PySem.W.fnOf x qual (defArgs st) (defBody st) (defScope st) .none kV doc pm an cdv ct) ⟨us, ks.zip ws⟩ = pure (ps.zip (g us ws))) :
    KBinds K fd ps ks (fun us ws => g us ws) (fun vs zs => g vs zs) := by
  obtain ⟨oc, od, kV, doc, pm, an, cdv, ct, osl, rfl, lk, hcd⟩ := F.ex
  refine ⟨fun s us ws _ hl => .of_eq ?_, hrel⟩
  obtain ⟨h1, h2⟩ := hlen us ws hl
  exact h kV doc pm an cdv ct us ws h1 h2
end
end L2

namespace L2
open ClX
open PySem PySem.Spec PyProof.Rows

/-! ### a def of the text behind the top; its promise, without naming its record -/
structure FnT (K : PySem.W.Frag) (x qual : Str) (st : Stmt) (f : Addr) : Prop where
  ex : ∃ fd, Fun K x qual st f fd
theorem FnT.kp {K : PySem.W.Frag} {x qual : Str} {st : Stmt} {f : Addr} (h : FnT K x qual st f) : PySem.W.keepIn K (.ref f) = true := h.ex.elim fun _ F => F.kp
theorem fnT_mk {K : PySem.W.Frag} {x qual : Str} {st : Stmt} {f : Addr} {oc : Value} {od an : Option Addr} {osl : Array (Option Value)} {kV doc pm cdv ct : Value}
    (l : K.lookup f = some ⟨oc, od, .func (PySem.W.fnOf x qual (defArgs st) (defBody st) (defScope st) .none kV doc pm an cdv ct), osl⟩)
    (c : PySem.W.codeIn K cdv qual = true) (k : PySem.W.keepIn K (.ref f) = true) : FnT K x qual st f := ⟨_, fun_mk l c k⟩
theorem gconst_mk {K : PySem.W.Frag} {x : Str} {u : Value} {n : Int} (h : PySem.W.nsIn K mainGlobals x = some (some u)) (e : ∃ t, u = .int n t) : ∃ t, PySem.W.nsIn K mainGlobals x = some (some (.int n t)) := by
  obtain ⟨t, rfl⟩ := e
  exact ⟨t, h⟩
/-- called by positions -/
structure Ok1 (P : Program) (w : World) (K : PySem.W.Frag) (mg : Str → Option Value) (base : Heap) (k : Nat) (f : Addr) (ps : List Str) (sp : Sp) : Prop where
  ex : ∃ fd, FnOk P w K mg base CX0 k f fd ps sp ∧ Binds K fd ps []
  kp : PySem.W.keepIn K (.ref f) = true
section
variable {P : Program} {w : World} {K : PySem.W.Frag} {mg : Str → Option Value} {base : Heap}
/-- how no defaults bind: for a def of at most six parameters -/
def BindsAll (st : Stmt) (x qual : Str) (ps : List Str) : Prop :=
  ∀ (kV doc pm : Value) (an : Option Addr) (cdv ct : Value) (us : List Value), us.length = ps.length → bindArgs (PySem.W.fnOf x qual (defArgs st) (defBody st) (defScope st) .none kV doc pm an cdv ct) ⟨us, []⟩ = pure (ps.zip us)
theorem FnT.ok {x qual : Str} {st : Stmt} {f : Addr} {N ps : List Str} {k : Nat} {sp : Sp} (h : FnT K x qual st f) (S : FnScope N ps (defScope st)) (hb : BindsAll st x qual ps)
    (len : ∀ vs H Q E, sp vs H Q E → vs.length = ps.length)
    (body : ∀ (cdv : Value) (A : Around) (outer : List Env) (s : Shared) (H : Hp) (vs : List V) (Q : VK) (E : XK), Room k (A.deeper (envOfC qual (defScope st) s.heap.objs.size f cdv)) → sp vs H Q E →
      ∃ t, PSs (cxOf CX0 P w K mg base N qual (defScope st) f cdv A outer s H E).nox (defBody st) t ∧ t { nx := fun _ H' => Q .non H', rt := Q } (start N vs) H) :
    Ok1 P w K mg base (k + 1) f ps sp := by
  obtain ⟨fd, F⟩ := h.ex
  exact ⟨⟨fd, F.ok S len body, F.binds hb⟩, F.kp⟩
theorem Ok1.mono {j k : Nat} {f : Addr} {ps : List Str} {sp : Sp} (h : Ok1 P w K mg base j f ps sp) (le : j ≤ k) : Ok1 P w K mg base k f ps sp := by
  obtain ⟨⟨fd, F, b⟩, kp⟩ := h
  exact ⟨⟨fd, F.mono le, b⟩, kp⟩
theorem Ok1.imp {k : Nat} {f : Addr} {ps : List Str} {sp sp' : Sp} (h : Ok1 P w K mg base k f ps sp) (i : ∀ vs H Q E, sp' vs H Q E → sp vs H Q E) : Ok1 P w K mg base k f ps sp' := by
  obtain ⟨⟨fd, F, b⟩, kp⟩ := h
  exact ⟨⟨fd, F.imp i, b⟩, kp⟩
end
section
variable {X : Cx} {k : Nat} {f C : Addr} {ps : List Str} {sp : Sp} {x m : Str} {p pos apos : Pos} {e o : Expr} {es : List Expr} {ta : TE} {t : TA}
theorem po_call (G : Ok1 X.prog X.w X.K X.mg X.base k f ps sp) (hr : Room k X.A) (hm : X.mg x = some (.ref f)) (ha : PA X (e :: es) t) (hg : Gl X x := by rfl)
    (hdb : (x == ("__debug__" : Str)) = false := by decide) (he : starEach (e :: es) X.env = (false, eval e X.env) :: starEach es X.env := by rfl) (hpl : (backTo pos (starEach es X.env)).any (·.1) = false := by rfl) :
    PE X (.Call (.Name x p) (e :: es) [] pos) (tCall sp [] E0 t) := by
  obtain ⟨⟨fd, F, b⟩, kp⟩ := G
  exact pe_call F hr hg hm kp b .nil pass0 ha hdb he hpl
theorem po_call0 (G : Ok1 X.prog X.w X.K X.mg X.base k f ps sp) (hr : Room k X.A) (hm : X.mg x = some (.ref f)) (hg : Gl X x := by rfl)
    (hdb : (x == ("__debug__" : Str)) = false := by decide) : PE X (.Call (.Name x p) [] [] pos) (tCall sp [] E0 tNil) := by
  obtain ⟨⟨fd, F, b⟩, kp⟩ := G
  exact pe_call0 F hr hg hm kp b .nil pass0 hdb
theorem po_make (M : Mk X.K C f) (G : Ok1 X.prog X.w X.K X.mg X.base k f ps sp) (hr : Room (k + 1) X.A) (hm : X.mg x = some (.ref C)) (ha : PA X (e :: es) t) (hg : Gl X x := by rfl)
    (hdb : (x == ("__debug__" : Str)) = false := by decide) (he : starEach (e :: es) X.env = (false, eval e X.env) :: starEach es X.env := by rfl) (hpl : (backTo pos (starEach es X.env)).any (·.1) = false := by rfl) :
    PE X (.Call (.Name x p) (e :: es) [] pos) (tMake C sp [] E0 t) := by
  obtain ⟨⟨fd, F, b⟩, kp⟩ := G
  exact pe_make M F hr hg hm b .nil pass0 ha hdb he hpl
theorem po_meth {pl : Sem Bool} (c : Cls X.K C) (hm : Meth X.K C m f) (G : Ok1 X.prog X.w X.K X.mg X.base k f ps sp) (hr : Room k X.A) (he : PE X o ta) (ha : PA X (e :: es) t)
    (hst : starEach (e :: es) X.env = (false, eval e X.env) :: starEach es X.env := by rfl) (hpl : (backTo pos (starEach es X.env)).any (·.1) = false := by rfl)
    (ht : eval (.Call (.Attribute o m apos) (e :: es) [] pos) X.env = (do
      let ov ← eval o X.env
      standAt apos.atName
      let (f, first) ← holding [ov] (getMethod ov m pl)
      callWith pos f first (backTo pos (starEach (e :: es) X.env)) (backToKw pos (keywordEach [] X.env))) := by rfl) :
    PE X (.Call (.Attribute o m apos) (e :: es) [] pos) (tMeth C m sp [] E0 ta t) := by
  obtain ⟨⟨fd, F, b⟩, kp⟩ := G
  exact pe_meth he c hm F hr b .nil pass0 ha hst hpl ht
end

/-! ### promises of defs that show data (repr): nothing is being shown around them -/
structure OkG (P : Program) (w : World) (K : PySem.W.Frag) (mg : Str → Option Value) (base : Heap) (k : Nat) (f : Addr) (ps : List Str) (sp : Sp) : Prop where
  kp : PySem.W.keepIn K (.ref f) = true
  go : ∀ (B : Around) (up : List Env) (s : Shared) (H : Hp) (us : List Value) (vs : List V) (Q : VK), Room k B → B.guards = some [] → Env0 P w K mg base B up s H → Vals vs us → sp vs H Q E0 →
    codeAny (model P w) B (.call (.ref f) ⟨us, []⟩) (CR CX0 up P w H s Q E0) s
section
variable {P : Program} {w : World} {K : PySem.W.Frag} {mg : Str → Option Value} {base : Heap}
theorem Ok1.toG {k : Nat} {f : Addr} {ps : List Str} {sp : Sp} (h : Ok1 P w K mg base k f ps sp) : OkG P w K mg base k f ps sp := by
  obtain ⟨⟨fd, F, b⟩, kp⟩ := h
  refine ⟨kp, fun B up s H us vs Q room _ e0 rv q => ?_⟩
  have n : (us ++ []).length = ps.length := by
    rw [List.append_nil, ← rv.length]
    exact F.len _ _ _ _ q
  have bt := b s us (e0.mod.kin.keeps fun c o z => (e0.bs c o z).1) n
  rw [List.append_nil] at bt
  exact F.run B up s H ⟨us, []⟩ us vs Q E0 room e0 bt rv q
theorem FnT.okG {x qual : Str} {st : Stmt} {f : Addr} {N ps : List Str} {k : Nat} {sp : Sp} (h : FnT K x qual st f) (S : FnScope N ps (defScope st)) (hb : BindsAll st x qual ps)
    (len : ∀ vs H Q E, sp vs H Q E → vs.length = ps.length)
    (body : ∀ (cdv : Value) (A : Around) (outer : List Env) (s : Shared) (H : Hp) (vs : List V) (Q : VK), Room k (A.deeper (envOfC qual (defScope st) s.heap.objs.size f cdv)) → A.guards = some [] → sp vs H Q E0 →
      ∃ t, PSs (cxOf CX0 P w K mg base N qual (defScope st) f cdv A outer s H E0).nox (defBody st) t ∧ t { nx := fun _ H' => Q .non H', rt := Q } (start N vs) H) :
    OkG P w K mg base (k + 1) f ps sp := by
  obtain ⟨fd, F⟩ := h.ex
  have kp := F.kp
  have bd := F.binds hb
  obtain ⟨oc, od, kV, dc, pm, an, cv, ct, sl, rfl, lk, cd⟩ := F.ex
  refine ⟨kp, fun B up s H us vs Q room gd e0 rv q => ?_⟩
  have n := len _ _ _ _ q
  have KH : K.In s.heap := e0.mod.kin.keeps fun c o z => (e0.bs c o z).1
  have noLim : s.heap.NoLimit := e0.mod.nolimit.keeps fun c o z => (e0.bs c o z).1
  have bt := bd s us KH (by rw [List.append_nil, ← rv.length]; exact n)
  rw [List.append_nil] at bt
  refine codeAny_call_function room.depth (KH _ _ lk) rfl S.co S.gen rfl (PySem.W.codeRec_of KH cd) (bt _ _ _ _ ?_)
  refine wpAny_newFunctionEnv_cells S.kind (fun ⟨y, v⟩ hy => ?_) fun en eq s1 ic => ?_
  · exact (S.par y (List.of_mem_zip hy).1).imp id fun z => ⟨z, PySem.W.cellsFrom_some _ _ _ (.inl z)⟩
  · subst eq
    obtain ⟨t, d, r⟩ := body cv B up s H vs Q (room.deeper _) gd q
    have I0 := inv_start (CX := CX0) (P := P) (w := w) (K := K) (mg := mg) (base := base) (E := E0) (cd := cv) (f := f) (qual := qual) S room.hd e0 n rv ic
    refine ⟨noLim.keeps ic.toInCall.keep, codeAny_func (wpAny_mono (d.nox.run [] s1 (start N vs) H _ I0 r) (fun fl s2 z => ?_) fun _ _ z => z)⟩
    cases fl with
    | ret u => obtain ⟨v, σ2, H2, J, rel, fin⟩ := z; exact ⟨v, H2, J.os, J.bare, J.base, J.hok, rel, fin⟩
    | next => obtain ⟨σ2, H2, J, fin⟩ := z; exact ⟨.non, H2, J.os, J.bare, J.base, J.hok, rfl, fin⟩
    | brk => obtain ⟨σ2, H2, J, fin⟩ := z; exact fin.elim
    | cont => obtain ⟨σ2, H2, J, fin⟩ := z; exact fin.elim
end
section
variable {X : Cx} {k : Nat} {f C : Addr} {ps : List Str} {sp : Sp} {x m : Str} {p pos apos : Pos} {e o : Expr} {es : List Expr} {ta : TE} {t : TA}
theorem pg_call (G : OkG X.prog X.w X.K X.mg X.base k f ps sp) (hr : Room k X.A) (gd : X.A.guards = some []) (hm : X.mg x = some (.ref f)) (ha : PA X (e :: es) t) (hg : Gl X x := by rfl)
    (hdb : (x == ("__debug__" : Str)) = false := by decide) (he : starEach (e :: es) X.env = (false, eval e X.env) :: starEach es X.env := by rfl) (hpl : (backTo pos (starEach es X.env)).any (·.1) = false := by rfl) :
    PE X (.Call (.Name x p) (e :: es) [] pos) (tCall sp [] E0 t) := by
  refine ⟨fun pn s σ H Q I h => wpAny_Call_Name_kw (ld_glob I hg hm ?_ hdb)⟩
  refine PySem.W.callWith_K (h₀ := X.base) I.ok.mod.kin G.kp (thn (ha.run pos pn s σ H _ I h) fun us s1 ⟨vs, H1, I1, r, q⟩ => ⟨I1.kIn, ?_⟩) he hpl
  have q1 : sp (vs ++ []) H1 Q E0 := q
  rw [List.append_nil] at q1
  refine wpAny_call (codeAny_mono (G.go X.A X.stack s1 H1 us vs Q hr gd I1.env0 r q1) fun res s2 z => ?_)
  match res, z with
  | .error _, z => exact z.elim
  | .ok (.ret u), z => exact I1.after z
  | .ok .next, z => exact z.elim
  | .ok .brk, z => exact z.elim
  | .ok .cont, z => exact z.elim
end
end L2

namespace L2
open ClX
open PySem PySem.Spec PyProof.Rows

/-! ### repr of data -/
structure Shows (d : PyData) : Prop where
  sh : d.showable = true
  nd : d.hasDict = false
  dp : d.depth ≤ 40
  sz : d.shown.length ≤ sizeLine
def rRepr (K : PySem.W.Frag) : List V → Hp → VK → Prop := fun xs H Q => ∃ x d, xs = [x] ∧ Dp K H x d ∧ Shows d ∧ Q (.str d.shown) H
theorem call_reprD {X : Cx} {k : Nat} (hr : Room k X.A) (gd : X.A.guards = some []) : CallR X (.builtin "repr") (rRepr X.K) := by
  intro pins s σ H xs us Q I r h
  obtain ⟨x, d, rfl, rd, S, q⟩ := h
  obtain ⟨u, rfl, ru⟩ := vals1 r
  have fin : ∀ h' t, (∀ b o, s.heap.get? b = some o → h'.get? b = some o) → ∀ tk, EP X pins σ Q (.str d.shown tk) { s with heap := h', toks := t } := fun h' t keep tk => ⟨.str d.shown, H, I.kept keep, ⟨tk, rfl⟩, q⟩
  have un : X.A.units + (d.depth + 1) < cLine := by
    have := hr.units
    have := S.dp
    omega
  have rds := Dp.reads I d x u rd ru
  cases rd with
  | non => cases ru; exact PySem.P.repr_of_none (fin s.heap _ (fun _ _ z => z) _)
  | bl b => cases ru; exact PySem.P.repr_of_bool (fin s.heap _ (fun _ _ z => z) _)
  | int i =>
    obtain ⟨t, rfl⟩ := ru
    have z := S.sh
    simp only [PyData.showable, decide_eq_true_eq] at z
    exact PySem.P.repr_of_int z (fin s.heap _ (fun _ _ z => z) _)
  | str y =>
    obtain ⟨t, rfl⟩ := ru
    have z := S.sz
    simp only [PyData.shown] at z
    exact PySem.P.repr_of_str (fin s.heap _ (fun _ _ z => z) _) z
  | lst h1 h2 =>
    cases ru
    obtain ⟨as, rd⟩ := rds
    exact repr_of_reads' rd S.sh (PyData.noDict_hsm S.nd) gd un (fun _ _ z => z) (fun h' t tk keep => fin h' tk keep t) S.sz
  | tup h1 h2 =>
    cases ru
    obtain ⟨as, rd⟩ := rds
    exact repr_of_reads' rd S.sh (PyData.noDict_hsm S.nd) gd un (fun _ _ z => z) (fun h' t tk keep => fin h' tk keep t) S.sz
end L2

namespace L2
open ClX
open PySem PySem.Spec PyProof.Rows
/-! ### called with one keyword -/
def glue1 {α : Type} (us ws : List α) : List α := if us.length = 1 ∧ ws.length = 1 then us ++ ws else []
structure OkK (P : Program) (w : World) (K : PySem.W.Frag) (mg : Str → Option Value) (base : Heap) (k : Nat) (f : Addr) (ps : List Str) (kw : Str) (sp : Sp) : Prop where
  ex : ∃ fd, FnOk P w K mg base CX0 k f fd ps sp ∧ KBinds K fd ps [kw] (fun us ws => glue1 us ws) (fun vs zs => glue1 vs zs)
section
variable {P : Program} {w : World} {K : PySem.W.Frag} {mg : Str → Option Value} {base : Heap}
theorem FnT.okK {x qual kw p0 : Str} {st : Stmt} {f : Addr} {N : List Str} {k : Nat} {sp : Sp} (h : FnT K x qual st f) (S : FnScope N [p0, kw] (defScope st))
    (hb : ∀ (kV doc pm : Value) (an : Option Addr) (cdv ct u v : Value), bindArgs (PySem.W.fnOf x qual (defArgs st) (defBody st) (defScope st) .none kV doc pm an cdv ct) ⟨[u], [(kw, v)]⟩ = pure [(p0, u), (kw, v)])
    (len : ∀ vs H Q E, sp vs H Q E → vs.length = 2)
    (body : ∀ (cdv : Value) (A : Around) (outer : List Env) (s : Shared) (H : Hp) (vs : List V) (Q : VK) (E : XK), Room k (A.deeper (envOfC qual (defScope st) s.heap.objs.size f cdv)) → sp vs H Q E →
      ∃ t, PSs (cxOf CX0 P w K mg base N qual (defScope st) f cdv A outer s H E).nox (defBody st) t ∧ t { nx := fun _ H' => Q .non H', rt := Q } (start N vs) H) :
    OkK P w K mg base (k + 1) f [p0, kw] kw sp := by
  obtain ⟨fd, F⟩ := h.ex
  refine ⟨fd, F.ok S len body, F.kbinds 1 [kw] glue1 (fun us ws hl => ?_) (fun r q => ?_) fun kV doc pm an cdv ct us ws h1 h2 => ?_⟩
  · unfold glue1 at hl
    split at hl
    · assumption
    · cases hl
  · unfold glue1
    rw [r.length, q.length]
    split
    · exact r.append q
    · exact .nil
  · match us, h1, ws, h2 with
    | [u], _, [v], _ => exact hb kV doc pm an cdv ct u v
end
section
variable {X : Cx} {k : Nat} {f C : Addr} {ps : List Str} {kw : Str} {sp : Sp} {m : Str} {pos apos : Pos} {o : Expr} {kws : List Keyword} {ta : TE} {tk : TA}
theorem po_methK {pl : Sem Bool} (c : Cls X.K C) (hm : Meth X.K C m f) (G : OkK X.prog X.w X.K X.mg X.base k f ps kw sp) (hr : Room k X.A) (he : PE X o ta)
    (hkw : PK X kws tk) (hall : (backToKw pos (keywordEach kws X.env)).all (·.1.isSome) = true := by rfl) (hks : (backToKw pos (keywordEach kws X.env)).filterMap (·.1) = [kw] := by rfl)
    (hpl : ((backTo pos (starEach [] X.env)).any (·.1) || (backToKw pos (keywordEach kws X.env)).any (·.1.isNone)) = false := by rfl)
    (ht : eval (.Call (.Attribute o m apos) [] kws pos) X.env = (do
      let ov ← eval o X.env
      standAt apos.atName
      let (f, first) ← holding [ov] (getMethod ov m pl)
      callWith pos f first (backTo pos (starEach [] X.env)) (backToKw pos (keywordEach kws X.env))) := by rfl) :
    PE X (.Call (.Attribute o m apos) [] kws pos) (tMethK C m sp (fun vs zs => glue1 vs zs) E0 ta tNil tk) := by
  obtain ⟨fd, F, b⟩ := G.ex
  exact pe_methK0 he c hm F hr b pass0 hkw hall hks hpl ht
end

/-- a statement, then the rest, with a word of one's own between them -/
def tMid (t u : TS) : TS := fun D σ H => ∃ M : St → Hp → Prop, t { D with nx := M } σ H ∧ ∀ σ1 H1, M σ1 H1 → u D σ1 H1
theorem pss_mid {X : Cx} {st : Stmt} {more : List Stmt} {t u : TS} (a : PS X st t) (b : PSs X more u) : PSs X (st :: more) (tMid t u) := by
  refine ⟨fun pn s σ H D I ⟨M, h, g⟩ => wpAny_execs_cons (thn (a.run pn s σ H { D with nx := M } I h) fun fl s1 z => ?_)⟩
  match fl, z with
  | .next, ⟨σ1, H1, I1, z⟩ => exact b.run pn s1 σ1 H1 D I1 (g σ1 H1 z)
  | .ret _, z => exact z
  | .brk, z => exact z
  | .cont, z => exact z
/-! ### small steps of readings -/
section
variable {K : PySem.W.Frag} {H : Hp} {Q : VK} {p : Addr} {xs : List V} {i : Int} {v : V} {z : Str} {c : Nat}
theorem ixL (h : H p = some (.lst xs)) (ha : atI xs i = some v) (q : Q v H) : rIx K (.ref p) (.int i) H Q := .inl ⟨p, xs, i, v, rfl, rfl, SqL.of h, ha, q⟩
theorem ixSq (h : SqL K H p xs) (ha : atI xs i = some v) (q : Q v H) : rIx K (.ref p) (.int i) H Q := .inl ⟨p, xs, i, v, rfl, rfl, h, ha, q⟩
theorem ixT (h : H p = some (.tup xs)) (ha : atI xs i = some v) (q : Q v H) : rIx K (.ref p) (.int i) H Q := .inr (.inl ⟨p, xs, i, v, rfl, rfl, SqT.of h, ha, q⟩)
theorem ixS (hz : z.length ≤ sizeLine) (ha : atI z.cps.toList i = some c) (q : Q (.str ⟨#[c]⟩) H) : rIx K (.str z) (.int i) H Q := .inr (.inr ⟨z, i, c, rfl, rfl, hz, ha, q⟩)
theorem setL {Qs : Hp → Prop} {j : Nat} (h : H p = some (.lst xs)) (hj : ixN xs.length i = some j) (q : Qs (upd H p (.lst (xs.set j v)))) : rSetL (.ref p) (.int i) v H Qs := ⟨p, xs, i, j, rfl, rfl, h, hj, q⟩
theorem szS {n : Nat} (h : n ≤ 1000000) : n ≤ sizeLine := Nat.le_trans h (by decide)
theorem isI {c : V} {t u : Value} {b : Bool} {x : V} (hc : ClsV c u) (ht : TyX K H x t) (hk : PySem.W.kitOne K t u = some b) (q : Q (.bl b) H) : rIsi K [x, c] H Q := ⟨x, c, t, u, b, rfl, hc, ht, hk, q⟩
end
/-- all that was tracked is as it was, but at a -/
def But (a : Addr) (H H' : Hp) : Prop := ∀ b o, H b = some o → b ≠ a → H' b = some o
theorem But.refl {a : Addr} {H : Hp} : But a H H := fun _ _ h _ => h
theorem But.trans {a : Addr} {H H1 H2 : Hp} (x : But a H H1) (y : But a H1 H2) : But a H H2 := fun b o h n => y b o (x b o h n) n
theorem But.same {a : Addr} {H H1 : Hp} (x : Same H H1) : But a H H1 := fun b o h _ => x b o h
theorem But.upd {a : Addr} {H : Hp} {o : HO} : But a H (L2.upd H a o) := fun b u h n => by
  rw [upd_ne n]
  exact h
theorem Same.new {H : Hp} {a : Addr} {o : HO} (h : H a = none) : Same H (L2.upd H a o) := fun b u e => by
  rw [upd_ne (ne_of_none e h)]
  exact e
/-- what is new since H0 may change -/
theorem Same.but {H0 H H1 : Hp} {a : Addr} (s : Same H0 H) (h : H0 a = none) (b : But a H H1) : Same H0 H1 := fun c o e => b c o (s c o e) (ne_of_none e h)
end L2

namespace L2
open ClX
open PySem PySem.Spec PyProof.Rows
/-! ### the end, for a law whose defs show data -/
section
variable {P : Program} {w : World} {K : PySem.W.Frag} {mg mb : Str → Option Value} {s1 : Shared} {vs : List Value} {ns : List Int} {a : Addr}
/-- nothing is tracked but the script, unless it is an object of the module -/
def onlyS (K : PySem.W.Frag) (a : Addr) (vs : List Value) (ns : List Int) : Hp := fun b => if b = a ∧ K.lookup a = none then some (.frz { cls := .type "list", data := .seq vs.toArray } (.lst (ns.map V.int))) else none
theorem onlyS_some {b : Addr} {o : HO} (h : onlyS K a vs ns b = some o) : b = a ∧ K.lookup a = none ∧ o = .frz { cls := .type "list", data := .seq vs.toArray } (.lst (ns.map V.int)) := by
  unfold onlyS at h
  split at h
  · rename_i c
    exact ⟨c.1, c.2, (Option.some.inj h).symm⟩
  · cases h
theorem lawG {k : Nat} {fa : Addr} {sp : Sp} (KX : K.In s1.heap) (hg : s1.heap.Ns mainGlobals mg) (hb : s1.heap.Ns builtinsNs mb) (hbb : ∀ x : Str, x ≠ "__name__" → mb x = bootBuiltins x) (hl : s1.heap.NoLimit) (gn : s1.gens = #[])
    (ha : s1.heap.get? a = some { cls := .type "list", data := .seq vs.toArray }) (hi : IntsAre vs ns) (hz : ns.length ≤ sizeLine) (room : Room k callerA)
    (F : ∀ base : Heap, K.In base → base.Ns mainGlobals mg → OkG P w K mg base k fa ["script"] sp) (hsp : ∀ H : Hp, SqL K H a (ns.map V.int) → sp [.ref a] H (fun v _ => v = .bl true) E0) :
    codeAny (model P w) callerA (.call (.ref fa) ⟨[.ref a], []⟩) (fun r s' => r = .ok (.ret (.bool true)) ∧ OldK s1.heap s'.heap ∧ s'.os = s1.os ∧ AllBare s'.gens) s1 := by
  have rel := vals_ints hi
  have len := hi.length
  have H := onlyS K a vs ns
  have hidden : ∀ {b : Addr} {o : Obj}, s1.heap.get? b = some o → onlyS K a vs ns b = none → (hidT s1.heap (onlyS K a vs ns)).get? b = some o := fun z n => hidT_get z n
  have free : ∀ {b : Addr} {o : Obj} {es : Array DictEntry} {n : Nat}, s1.heap.get? b = some o → o.data = .dict es n → onlyS K a vs ns b = none := fun {b o es n} z d => by
    cases q : onlyS K a vs ns b with
    | none => rfl
    | some u =>
      have e := (onlyS_some q).1
      rw [e, ha] at z
      cases z
      cases d
  have names : ∀ {b : Addr} {m : Str → Option Value}, s1.heap.Ns b m → (hidT s1.heap (onlyS K a vs ns)).Ns b m := fun ⟨o, es, n, z, d, r⟩ => ⟨o, es, n, hidden z (free z d), d, r⟩
  have KB : K.In (hidT s1.heap (onlyS K a vs ns)) := fun b o z => hidden (KX b o z) (by
    cases q : onlyS K a vs ns b with
    | none => rfl
    | some u =>
      obtain ⟨e, n, _⟩ := onlyS_some q
      rw [e, n] at z
      cases z)
  have lim : (hidT s1.heap (onlyS K a vs ns)).NoLimit := by
    obtain ⟨m, h1, h2⟩ := hl
    exact ⟨m, names h1, h2⟩
  have hok : HOk P w (onlyS K a vs ns) s1.heap := fun b u q => by
    obtain ⟨e, _, rfl⟩ := onlyS_some q
    subst e
    exact ⟨ha, by rw [List.length_map]; exact hz, vs, _, rel, ha⟩
  have sq : SqL K (onlyS K a vs ns) a (ns.map V.int) := by
    cases q : K.lookup a with
    | none => exact .inl (.inr ⟨_, if_pos ⟨rfl, q⟩⟩)
    | some o =>
      have z := KX a o q
      rw [ha] at z
      cases z
      exact .inr ⟨_, vs.toArray, _, q, rfl, rfl, rfl, by rw [List.size_toArray, len]; exact hz, by simpa using rel⟩
  have none_mem : ∀ b : Addr, b ∉ frs [] := fun b z => by cases z
  have e0 : Env0 P w K mg (hidT s1.heap (onlyS K a vs ns)) callerA [] s1 (onlyS K a vs ns) :=
    { frames := rfl, mod := ⟨KB, names hg, ⟨mb, names hb, hbb⟩, lim⟩, bs := fun b o z => of_hidT z, bsz := Nat.le_of_eq (hidT_size _ _), funs := trivial, frf := fun b z => (none_mem b z).elim, hok := hok, bare := .of_eq gn }
  refine codeAny_mono ((F _ KB (names hg)).go callerA [] s1 (onlyS K a vs ns) [.ref a] [.ref a] _ room rfl e0 (.cons rfl .nil) (hsp _ sq)) fun r s2 z => ?_
  match r, z with
  | .error _, z => exact z.elim
  | .ok .next, z => exact z.elim
  | .ok .brk, z => exact z.elim
  | .ok .cont, z => exact z.elim
  | .ok (.ret u), ⟨v, H2, os, bare, un, hok2, ru, q⟩ =>
    obtain rfl : v = .bl true := q
    obtain rfl : u = Value.bool true := ru
    refine ⟨rfl, OldK.of_keep fun b o z => ?_, os, bare⟩
    cases q : onlyS K a vs ns b with
    | none => exact un.keep b o z q (none_mem b) (none_mem b)
    | some u =>
      obtain ⟨e, _, rfl⟩ := onlyS_some q
      have z2 := (hok2 b _ (un.frzs b _ _ q)).1
      rw [e, ha] at z
      cases z
      exact z2
end
theorem walkG {l : PySem.W.OpenLaw} {n k : Nat} {q : Program} {loose : List Str} {XP : (Str → Option Value) → Heap → Prop} {YP : World → Heap → Prop} {d : DefRec} {K : Params → PySem.W.Frag} {sp : PySem.W.Frag → Sp}
    (hn : l.most = some n) (hn2 : n ≤ sizeLine) (hdf : d.params.defaults = []) (room : Room k callerA) (hY : ∀ (w : World) (h : Heap), YP w h → (K w.params).In h)
    (F : ∀ (w : World) (mg : Str → Option Value) (fa : Addr) (h : Heap), (K w.params).In h → h.Ns mainGlobals mg → mg d.name = some (.ref fa) → ∀ base : Heap, (K w.params).In base → base.Ns mainGlobals mg → OkG l.prog w (K w.params) mg base k fa ["script"] (sp (K w.params)))
    (hsp : ∀ (K : PySem.W.Frag) (H : Hp) (a : Addr) (ns : List Int), ns.length ≤ n → SqL K H a (ns.map V.int) → sp K [.ref a] H (fun v _ => v = .bl true) E0) :
    PySem.W.WalkO q loose XP YP l.row.toRowW d [] (fun f vs => PySem.call f vs) := by
  refine Att.attach_call hn hdf fun w s0 s1 mg mb fa o pm cd doc a vs ns G Y _ _ _ hm ho hi hl hg => ?_
  have KX := hY w _ Y
  exact lawG KX G.T.g G.T.b G.T.builtins G.T.nolimit hg ho hi (Nat.le_trans hl hn2) room (F w mg fa _ KX G.T.g hm) fun H hS => hsp _ H a ns hl hS
end L2

set_option Elab.async false
set_option linter.all false
set_option maxRecDepth 100000
set_option maxHeartbeats 4000000
/-! Own layer: a caught error that is kept behind its except suite. -/
namespace L2
open ClX
open PySem PySem.Spec PyProof.Rows

/-- an error of the class cls, with the dict d, at a -/
def errO (cls : Value) (d : Option Addr) (a : Addr) : HO := .ext fun h => ∃ (oe : Obj) (vs : Array Value), h.get? a = some oe ∧ Zc cls d oe ∧ oe.data = .fields vs
theorem errO_ok {P : Program} {w : World} {H : Hp} {h : Heap} {a : Addr} {cls : Value} {d : Option Addr} {oe : Obj} {vs : Array Value} (e : h.get? a = some oe) (z : Zc cls d oe) (f : oe.data = .fields vs) : ObjOk P w H h a (errO cls d a) :=
  ⟨⟨oe, vs, e, z, f⟩, ⟨oe, e⟩, fun _ _ ⟨o, u, q, r⟩ k => ⟨o, u, k o q, r⟩⟩
/-- the context of an except suite, the error being tracked -/
abbrev Cx.held (X : Cx) (a : Addr) (pn : List (Addr × Obj)) : Cx := { X with A := X.A.mark (some (.ref a)), calm := false, pn := pn, xe := fun _ _ => False }
section
variable {X : Cx} {pins : List (Addr × Obj)} {σ : St} {H : Hp} {sI s' s : Shared} {B : Heap}
theorem Cx.Ok.held (ok : X.Ok) (a : Addr) (pn : List (Addr × Obj)) : (X.held a pn).Ok :=
  { mod := ok.mod, kind := ok.kind, glob := ok.glob, blt := ok.blt, above := ok.above, inj := ok.inj, has := ok.has, cab := ok.cab, hd := fun z => (by cases z), frames := ok.frames, stk := ok.stk, exf := ok.exf, bs := ok.bs, bsz := ok.bsz, noex := ok.noex, exfs := ok.exfs, funs := ok.funs, frf := ok.frf }
theorem Inv.held (I : Inv X pins σ H s) (a : Addr) : Inv (X.held a (X.pn ++ pins)) [] σ H s :=
  { ok := I.ok.held _ _, os := I.os, bare := I.bare, base := I.base, loc := I.loc, cell := I.cell, free := I.free, freeC := I.freeC, hok := I.hok, len := I.len,
    pin := fun p hp => I.pin p (by rw [List.append_nil] at hp; exact hp) }
theorem Inv.unheld {a : Addr} {pn : List (Addr × Obj)} (I : Inv (X.held a (X.pn ++ pins)) pn σ H s) (ok : X.Ok) : Inv X pins σ H s :=
  { ok := ok, os := I.os, bare := I.bare, base := I.base, loc := I.loc, cell := I.cell, free := I.free, freeC := I.freeC, hok := I.hok, len := I.len,
    pin := fun p hp => I.pin p (List.mem_append_left _ hp) }
/-- the state that an error leaves on the ground, the error tracked -/
theorem Inv.landedE {a : Addr} {cls : Value} {d : Option Addr} {oe : Obj} {vs : Array Value} (I : Inv X pins σ H sI) (nb : ∀ b o, sI.heap.get? b = some o → b ∉ frs X.stack → B.get? b = some o) (st : B.StaysIn s'.heap)
    (up : sI.heap.UpToSlots s'.heap) (os : s'.os = sI.os) (ag : AllBare s'.gens) (na : H a = none) (nB : B.get? a = none) (nF : a ∉ frs X.stack) (he : s'.heap.get? a = some oe) (hz : Zc cls d oe) (hf : oe.data = .fields vs) :
    Inv X pins σ (upd H a (errO cls d a)) s' := by
  have nI : sI.heap.get? a = none := by
    cases q : sI.heap.get? a with
    | none => rfl
    | some o =>
      have z := nb a o q nF
      rw [nB] at z
      cases z
  have ne : ∀ b o, sI.heap.get? b = some o → b ≠ a := fun b o q z => by
    rw [z, nI] at q
    cases q
  have hok0 : HOk X.prog X.w H s'.heap := HOk.kept (I.inGround nb) st
  have hok : HOk X.prog X.w (upd H a (errO cls d a)) s'.heap := HOk.laidN hok0 (fun _ _ z => z) na (errO_ok he hz hf)
  have keepS : ∀ b o, sI.heap.get? b = some o → b ∉ frs X.stack → s'.heap.get? b = some o := fun b o q n => st b o (nb b o q n)
  have J := I.call (H' := upd H a (errO cls d a)) (h' := s'.heap) (g' := s'.gens) (t' := s'.toks) (d' := s'.drawn) (ch := [])
    { keep := fun b o q _ n _ => keepS b o q n
      slot := fun b o q _ n _ => by
        obtain ⟨_, o1, e1, hnf⟩ := I.stack.mem n
        rw [q] at e1
        cases e1
        exact up b o q hnf
      free := fun b o q n _ => by
        rw [upd_ne (ne b o q)]
        exact n
      there := fun b o q _ => by
        by_cases n : b ∈ frs X.stack
        · obtain ⟨_, o1, e1, hnf⟩ := I.stack.mem n
          rw [q] at e1
          cases e1
          obtain ⟨sl, z⟩ := up b o q hnf
          exact ⟨_, z⟩
        · exact ⟨o, keepS b o q n⟩
      tups := fun b xs q => by
        rw [upd_ne (ne_of_none q na)]
        exact q
      frzs := fun b o u q => by
        rw [upd_ne (ne_of_none q na)]
        exact q
      tbls := fun b ps q => ⟨#[], by rw [upd_ne (ne_of_none q na), q]; simp⟩ } hok ag (fun _ z => nomatch z)
  obtain ⟨a1, a2, a3, a4, a5⟩ := s'
  have e5 : a5 = sI.os := os
  subst e5
  exact J

/-- what the clause wishes of an error of the body: it takes it, and the suite goes on with the error tracked; slot i is the clause's name -/
def wKept (K : PySem.W.Frag) (c : Value) (i : Nat) (ts : TS) (D : Ends) : WX := fun cls d σ H => PySem.W.exmOne K cls c = some true ∧ ∀ a, H a = none →
  ts ⟨fun σ1 H1 => D.nx (σ1.set i none) H1, D.rt, fun σ1 H1 => D.bk (σ1.set i none) H1, fun σ1 H1 => D.ct (σ1.set i none) H1⟩ (σ.set i (some (.ref a))) (upd H a (errO cls d a))
theorem ps_try_kept {x n : Str} {c : Value} {i : Nat} {body suite : List Stmt} {b0 : Stmt} {np pos pos' : Pos} {tb : WX → TS} {ts : TS}
    (stk : X.stack = X.env :: X.outer) (frm : X.env.frame = some X.env.locals) (hN : X.N.Nodup) (hi : X.N[i]? = some n) (hl : X.env.kindOf n = some .local) (hc : Names X x c)
    (hb : ∀ (W : WX) (pn : List (Addr × Obj)) (xe : Value → Shared → Prop), Takes (X.tr pn xe) W → PassesOwn (model X.prog X.w) X.A X.env xe → PSs (X.tr pn xe) body (tb W))
    (hsu : ∀ (a : Addr) (pn : List (Addr × Obj)), PSs (X.held a pn) (b0 :: suite) ts) :
    PS X (.Try body [.ExceptHandler (some (.Name x np)) (some n) (b0 :: suite) pos'] [] [] pos) (fun D σ H => tb (wKept X.K c i ts D) D σ H) := by
  refine ⟨fun pn s σ H D I h => ?_⟩
  have ok := I.ok
  have fr2 : X.A.frames = some (X.env :: X.outer) := by rw [ok.frames, stk]
  let seen : Value → Shared → Prop := fun e s₁ => wpAny (model X.prog X.w) X.A (noteFrame e X.env) (fun _ s₂ => wpAny (model X.prog X.w) X.A (setFlight e none) (fun _ s₃ =>
    wpAny (model X.prog X.w) X.A (handleBy e X.env [.ExceptHandler (some (.Name x np)) (some n) (b0 :: suite) pos']) (SP X pn D) X.xe s₃) X.xe s₂) X.xe s₁
  have caught : ∀ u s1, XE (X.tr (X.pn ++ pn) seen) (wKept X.K c i ts D) u s1 → seen u s1 := fun u s1 xx => by
    obtain ⟨a, B, sI, pn2, σ1, H1, cls, d, rfl, J0, nb, up, sky, na, os, ag, yes, go⟩ := xx
    have J : Inv X pn σ1 H1 sI := J0.ofTry ok
    have sky1 : Sky B (X.env :: X.outer) a (Zc cls d) X.env.locals s1.heap := by
      rw [← stk]
      exact sky
    show wpAny (model X.prog X.w) X.A (noteFrame (.ref a) X.env) _ _ _
    refine Sky.land Zc.steady fr2 frm sky1 fun h3 fl3 up3 => ?_
    have offF : ∀ {h : Heap} {o : Obj} {vs : Array Value}, h.FunFrames B (X.env :: X.outer) → h.get? a = some o → o.data = .fields vs → a ∉ frs X.stack := fun {h o vs} ff e dd hm => by
      rw [stk] at hm
      obtain ⟨_, o2, e2, hnf⟩ := ff.mem hm
      rw [e] at e2
      cases e2
      exact hnf _ dd
    obtain ⟨oe3, vs3, he3, hz3, hd3⟩ := fl3.there
    have T3 := (J.landedE (s' := { s1 with heap := h3 }) nb fl3.1 (up.trans up3) os ag na fl3.2.1 (offF fl3.2.2.1 he3 hd3) he3 hz3 hd3).held a
    refine wpAny_handleBy_cons (codeAny_handlers_test ?_) (fun z => by cases z)
    have LT : PySem.W.Looks (model X.prog X.w) h3 (typeOf (.ref a)) cls := fun A2 Q2 E2 s2 k2 q2 => wpAny_typeOf_ref (k2 _ _ he3) (by rw [hz3.1]; exact q2)
    have LM := PySem.W.exm_one (M := model X.prog X.w) T3.kIn LT yes
    have look : ∀ {Q2 : Value → Shared → Prop} {E2 : Value → Shared → Prop}, Q2 c { s1 with heap := h3 } → wpAny (model X.prog X.w) (X.A.mark (some (.ref a))) (eval (.Name x np) X.env) Q2 E2 { s1 with heap := h3 } := fun {Q2 E2} q2 => by
      obtain ⟨g1, g2, g3 | ⟨g3, g4, g5⟩⟩ := hc
      · exact ld_glob (X := X.held a (X.pn ++ pn)) T3 g1 g3 q2 g2
      · exact ld_blt (X := X.held a (X.pn ++ pn)) T3 g1 g3 g4 q2 g5 g2
    refine look (LM.here (codeAny_handlers_suite_as ?_))
    refine HandSPX.lands_againZ fl3 fun h4 fl4 up4 => ?_
    obtain ⟨oe4, vs4, he4, hz4, hd4⟩ := fl4.there
    have T4 := (J.landedE (s' := { s1 with heap := h4 }) nb fl4.1 ((up.trans up3).trans up4) os ag na fl4.2.1 (offF fl4.2.2.1 he4 hd4) he4 hz4 hd4).held a
    refine store_ok (X := X.held a (X.pn ++ pn)) (v := .ref a) T4 hN hi (.inl hl) rfl (fun s5 T5 => ?_) (.inr hl)
    refine wpAny_mono ((hsu a (X.pn ++ pn)).run [] s5 _ _ _ T5 (go a na)) (fun fl s6 z => ?_) fun _ _ z => False.elim z
    have fin : ∀ {σ6 : St} {H6 : Hp} {Q6 : Shared → Prop}, Inv (X.held a (X.pn ++ pn)) [] σ6 H6 s6 → (∀ s7, Inv X pn (σ6.set i none) H6 s7 → Q6 s7) →
        wpAny (model X.prog X.w) X.A (do bindName X.env n .none; unbindBehindTheSuite X.env n pos') (fun _ s7 => Q6 s7) X.xe s6 := fun {σ6 H6 Q6} T6 q => gone_ok (T6.unheld ok) hN hi hl q
    match fl, z with
    | .next, ⟨σ6, H6, T6, q⟩ => exact fin T6 fun s7 J7 => ⟨_, _, J7, q⟩
    | .brk, ⟨σ6, H6, T6, q⟩ => exact fin T6 fun s7 J7 => ⟨_, _, J7, q⟩
    | .cont, ⟨σ6, H6, T6, q⟩ => exact fin T6 fun s7 J7 => ⟨_, _, J7, q⟩
    | .ret u, ⟨v, σ6, H6, T6, r6, q⟩ => exact fin T6 fun s7 J7 => ⟨_, _, _, J7, r6, q⟩
  refine wpAny_Try_except (wpAny_mono ((hb (wKept X.K c i ts D) (X.pn ++ pn) seen caught PassesOwn.looking).run [] s σ H D (I.toTry _) h) (fun fl s1 z => ?_) fun _ _ z => z)
  match fl, z with
  | .next, ⟨σ1, H1, J, q⟩ => exact wpAny_execs_nil ⟨σ1, H1, J.ofTry ok, q⟩
  | .brk, ⟨σ1, H1, J, q⟩ => exact ⟨σ1, H1, J.ofTry ok, q⟩
  | .cont, ⟨σ1, H1, J, q⟩ => exact ⟨σ1, H1, J.ofTry ok, q⟩
  | .ret u, ⟨v, σ1, H1, J, r, q⟩ => exact ⟨v, σ1, H1, J.ofTry ok, r, q⟩
end
end L2

set_option Elab.async false
set_option linter.all false
set_option maxRecDepth 100000
set_option maxHeartbeats 4000000
/-! Own layer: a kept error's class and its field. -/
namespace PySem.W
open PySem PySem.Spec PySem.Calls PyProof.Rows
section
variable {prog : Program} {w : World} {A : Around} {E : Value → Shared → Prop} {s : Shared} {K : Frag} {x D : Addr} {ox : Obj} {od : Option Obj}
/-- an error's own __class__, whatever its dict holds -/
theorem err_class {Q : Option Value → Shared → Prop} (fnd : findObj K D od "__class__" = some (.bind (.builtin "getset_descriptor.__get__") (.builtin "object.__class__")))
    (c1 : findIn K (.ref D) "__getattribute__" = some (some (.builtin "BaseException.__getattribute__"))) (c2 : findIn K (.ref D) "__getattr__" = some none) (c3 : subIn K (.ref D) (.type "BaseException") = some true)
    (c4 : mroIn K D (.type "object") = some true) (KX : K.In s.heap) (J : InstAt s.heap x ox D od) (fin : Q (some (.ref D)) { s with toks := s.toks + 1 }) : wpAny (model prog w) A (getAttr? (.ref x) "__class__") Q E s := by
  obtain ⟨hp, gn, dr, tk, os⟩ := s
  have l0 := J.type (M := model prog w)
  have l1 := looks_findIn (M := model prog w) KX c1
  have l2 := looks_findIn (M := model prog w) KX c2
  have l3 := looks_find (M := model prog w) KX J fnd
  have isExc : Looks (model prog w) hp (isInstance (.ref x) (.type "BaseException")) true := l0.andThen (looks_subIn KX c3)
  have b0 : (false && onTheHeap (Value.builtin "BaseException.__getattribute__")) = false := rfl
  have b1 : (Value.builtin "BaseException.__getattribute__" == Value.builtin "object.__getattribute__") = false := by decide +kernel
  have b2 : (onTheHeap (Value.ref D) && Value.builtin "BaseException.__getattribute__" == Value.builtin "object.__getattribute__") = false := by
    rw [b1]
    rfl
  unfold getAttr? getAttrBy? getAttrBy
  refine wpAny_bind (wpAny_mkText (wpAny_bind (wpAny_attempt (wpAny_holding (wpAny_bind (l0.at (wpAny_bind (l1.at ?_))))))))
  show wpAny _ _ (if (onTheHeap (Value.ref D) && Value.builtin "BaseException.__getattribute__" == Value.builtin "object.__getattribute__") = true then _ else _) _ _ _
  rw [b2, if_neg Bool.false_ne_true]
  unfold getAttrByItsOwn hookBefore
  refine wpAny_bind ?_
  rw [if_pos (show onTheHeap (Value.ref D) = true from rfl)]
  refine l2.at (wpAny_bind (wpAny_attempt (wpAny_holding ?_)))
  unfold callGetattribute
  rw [b0, if_neg Bool.false_ne_true]
  unfold boundAndCalled
  rw [PySem.F.excAttr_ValueError.ga.bind (.ref x)]
  refine wpAny_bind (wpAny_pure ?_)
  show wpAny _ _ (call (.builtin "BaseException.__getattribute__") [.ref x, .str "__class__" tk]) _ _ _
  refine wpAny_call (codeAny_call_builtin PySem.F.excAttr_ValueError.ga.plain PySem.F.entry_bexc_ga ?_)
  refine @check_slot (model prog w) _ _ ⟨hp, gn, dr, tk + 1, os⟩ "BaseException.__getattribute__" "BaseException" "__getattribute__" (.ref x) [.str "__class__" tk] [] _ (by decide +kernel) (by decide +kernel) isExc (PySem.F.args_bexc_ga (.ref x) (.str "__class__" tk)) ?_
  unfold Builtin.«object.__getattribute__»
  refine wpAny_bind (wpAny_of_eq (a := ((Value.ref x : Value), [Value.str "__class__" tk])) (by first | rfl | (simp only [slotArgs]; rfl)) ?_)
  refine wpAny_bind (wpAny_pure (wpAny_bind (l0.at (wpAny_bind (l3.at ?_)))))
  show wpAny _ _ (holding [Value.builtin "object.__class__"] (call (.builtin "getset_descriptor.__get__") [.builtin "object.__class__", .ref x, .ref D]) >>= ret) _ _ _
  refine wpAny_bind (wpAny_holding (wpAny_call (class_get (s := ⟨hp, gn, dr, tk + 1, os⟩) (ox := ox) (od := od) KX J c4 ?_)))
  refine wpAny_pure ?_
  show wpAny _ _ (handedOut (.ref D)) _ _ _
  rw [handedOut_of (v := .ref D) rfl]
  first
    | exact wpAny_pure (wpAny_pure fin)
    | exact wpAny_pure fin
    | exact wpAny_pure (wpAny_bind (wpAny_pure (wpAny_pure fin)))
end
end PySem.W
namespace L2
open ClX
open PySem PySem.Spec PyProof.Rows
section
variable {X : Cx} {pins : List (Addr × Obj)} {σ : St} {H : Hp} {s : Shared}
theorem err_find {K : PySem.W.Frag} {D : Addr} (T : ExcC K D) (od : Option Obj) : PySem.W.findObj K D od "__class__" = some (.bind (.builtin "getset_descriptor.__get__") (.builtin "object.__class__")) := by
  have hc : (PySem.W.clsIn K D).isSome = true := by
    obtain ⟨cd, h, _⟩ := PySem.W.any_some T.hd
    rw [h]
    rfl
  cases od with
  | none => exact PySem.W.findObj_dataN hc T.ha T.hn T.ht
  | some o => exact PySem.W.findObj_data hc T.ha T.hn T.ht
/-- what an error's object is -/
theorem err_inst (I : Inv X pins σ H s) {D a : Addr} {d : Option Addr} (h : H a = some (errO (.ref D) d a)) (hd : ∀ dd, d = some dd → ∃ fs, H dd = some (.xd fs)) : ∃ (ox : Obj) (od : Option Obj), PySem.W.InstAt s.heap a ox D od ∧
    ∀ dd fs, d = some dd → H dd = some (.xd fs) → ∀ f v, fs.lookup f = some v → ∃ o u, od = some o ∧ RelV v u ∧ PySem.W.lookIn f o = some (some u) := by
  obtain ⟨⟨oe, vs, e, z, f⟩, _⟩ := I.hok a _ h
  obtain ⟨oc, dd, da, sl⟩ := oe
  obtain ⟨z1, z2⟩ := z
  dsimp only at z1 z2 f
  subst z1 z2 f
  cases dd with
  | none => exact ⟨_, none, ⟨e, rfl, rfl, trivial⟩, fun _ _ q => by cases q⟩
  | some p =>
    obtain ⟨fs0, hp⟩ := hd p rfl
    obtain ⟨mA, hns, hr⟩ := (show ObjOk X.prog X.w H s.heap p (.xd fs0) from I.hok p _ hp)
    obtain ⟨od, ho, hl⟩ := lookIn_ns hns
    refine ⟨_, some od, ⟨e, rfl, rfl, ho⟩, fun q fs1 e1 e2 g v l => ?_⟩
    cases e1
    rw [hp] at e2
    cases e2
    obtain ⟨u, hu, ru⟩ := RelO.some_of (v := v) (o := mA g) (by rw [← l]; exact hr g)
    exact ⟨od, u, rfl, ru, by rw [hl, hu]⟩
/-- isinstance(e, C), isinstance(e, (C, ..)), e a kept error -/
def rIsErr (K : PySem.W.Frag) : List V → Hp → VK → Prop := fun xs H Q => ∃ (a D : Addr) (d : Option Addr) (c : V) (cv : Value) (b : Bool), xs = [.ref a, c] ∧ H a = some (errO (.ref D) d a) ∧ (∀ dd, d = some dd → ∃ fs, H dd = some (.xd fs)) ∧ ExcC K D ∧
  ClsV c cv ∧ PySem.W.kitOne K (.ref D) cv = some b ∧ Q (.bl b) H
def rIsErrT (K : PySem.W.Frag) : List V → Hp → VK → Prop := fun xs H Q => ∃ (a D tp : Addr) (d : Option Addr) (cs : List V) (us : List Value) (b : Bool), xs = [.ref a, .ref tp] ∧ H a = some (errO (.ref D) d a) ∧ (∀ dd, d = some dd → ∃ fs, H dd = some (.xd fs)) ∧ ExcC K D ∧
  H tp = some (.tup cs) ∧ Paired ClsV cs us ∧ PySem.W.kitAny K (.ref D) us = some b ∧ Q (.bl b) H
theorem err_kit {K : PySem.W.Frag} {a D : Addr} {ox : Obj} {od : Option Obj} (T : ExcC K D) : PySem.W.KitX K (.ref a) (.ref D) (fun h => PySem.W.InstAt h a ox D od) where
  ty := fun _ _ _ J => J.type
  it := fun _ _ KX _ => by
    obtain ⟨cd, hc, _⟩ := PySem.W.any_some T.hd
    unfold PySem.W.clsIn at hc
    split at hc
    · rename_i c2 d2 cd2 sl2 ho
      intro A2 Q2 E2 s2 k2 q2
      unfold isType loadHead
      exact wpAny_bind (wpAny_loadPart (k2 _ _ (KX _ _ ho)) (wpAny_pure q2))
    · cases hc
  ne := fun h tp dd its n sl KX htp => by
    obtain ⟨cd, hc, _⟩ := PySem.W.any_some T.hd
    refine Bool.eq_false_iff.mpr fun q => ?_
    obtain rfl : D = tp := Value.ref.inj (beq_iff_eq.mp q)
    unfold PySem.W.clsIn at hc
    split at hc
    · rename_i c2 d2 cd2 sl2 ho
      have z := (KX _ _ ho).symm.trans htp
      cases z
    · cases hc
  ca := fun KX J k => PySem.W.err_class (err_find T od) T.hg T.hk T.hs T.hm KX J k
theorem call_isErr : CallR X (.builtin "isinstance") (rIsErr X.K) := by
  intro pn s σ H xs us Q I r h
  obtain ⟨a, D, d, c, cv, b, rfl, ha, hd, T, hc, e, q⟩ := h
  obtain ⟨u1, u2, rfl, r1, r2⟩ := vals2 r
  cases r1
  have ec := hc.eq r2
  subst ec
  obtain ⟨ox, od, J, _⟩ := err_inst I ha hd
  exact PySem.W.kia_one (err_kit T) I.kIn J e (fun z => nomatch z) fun tk => ⟨.bl b, H, I.kept (t' := tk) fun _ _ z => z, rfl, q⟩
theorem call_isErrT : CallR X (.builtin "isinstance") (rIsErrT X.K) := by
  intro pn s σ H xs us Q I r h
  obtain ⟨a, D, tp, d, cs, ws, b, rfl, ha, hd, T, ht, hc, e, q⟩ := h
  obtain ⟨u1, u2, rfl, r1, r2⟩ := vals2 r
  cases r1
  cases r2
  obtain ⟨ox, od, J, _⟩ := err_inst I ha hd
  obtain ⟨_, its, r3, o, e1, e2, n, e3⟩ := (show ObjOk X.prog X.w H s.heap tp (.tup cs) from I.hok tp _ ht)
  have ew := ClsV.all hc r3
  subst ew
  obtain ⟨o1, o2, o3, o4⟩ := o
  dsimp only at e2 e3
  subst e2 e3
  exact PySem.W.kia_tup (err_kit T) I.kIn J e1 e (fun z => nomatch z) fun tk => ⟨.bl b, H, I.kept (t' := tk) fun _ _ z => z, rfl, q⟩
/-- e.f, e a kept error with a field -/
def tErrF (K : PySem.W.Frag) (f : Str) (te : TE) : TE := fun σ H Q => te σ H fun x H1 => ∃ (a D dd : Addr) (fs : List (Str × V)) (v : V), x = .ref a ∧ H1 a = some (errO (.ref D) (some dd) a) ∧ H1 dd = some (.xd fs) ∧ XfC K D ∧ PySem.W.findIn K (.ref D) f = some none ∧
  fs.lookup f = some v ∧ Q v H1
theorem pe_errF {e : Expr} {te : TE} {f : Str} {pos : Pos} (he : PE X e te) (hb : attributeBase e f X.env (eval e X.env) = eval e X.env := by rfl) : PE X (.Attribute e f pos) (tErrF X.K f te) := by
  refine ⟨fun pn s σ H Q I h => attr_of hb (thn (he.run pn s σ H _ I h) fun u s1 ⟨x, H1, I1, rx, a, D, dd, fs, v, ex, ha, hf, T, no, l, q⟩ => ?_)⟩
  subst ex
  cases rx
  obtain ⟨ox, od, J, g⟩ := err_inst I1 ha (fun d2 z => by cases z; exact ⟨fs, hf⟩)
  obtain ⟨o, u, rfl, ru, lk⟩ := g dd fs rfl hf f v l
  exact HandSPX.exc_get I1.kIn J T.ga T.gg T.exC (PySem.W.findObj_own T.hdC no rfl lk) (handed_of ru) ⟨v, H1, I1.tok _, ru, q⟩
end
end L2

set_option Elab.async false
set_option linter.all false
set_option maxRecDepth 100000
set_option maxHeartbeats 4000000
/-! Own layer: the set of a list of texts, its size. -/
namespace OwnSet
open PySem PySem.Spec PyProof.Rows
/-- the different ones among the first i, in the order in which they are met -/
def met (xs : List Str) : Nat → List Str
  | 0 => []
  | i + 1 => if (met xs i).any (· == xs.getD i Str.empty) then met xs i else met xs i ++ [xs.getD i Str.empty]
theorem met_le (xs : List Str) : ∀ i, (met xs i).length ≤ i
  | 0 => Nat.le_refl _
  | i + 1 => by
    have := met_le xs i
    show (if _ then _ else _ : List Str).length ≤ _
    split
    · omega
    · rw [List.length_append]
      simp
      omega
theorem met_any (xs : List Str) (i : Nat) (k : Str) : (met xs (i + 1)).any (· == k) = ((met xs i).any (· == k) || decide (k = xs.getD i Str.empty)) := by
  show (if _ then _ else _ : List Str).any _ = _
  split
  · rename_i c
    by_cases e : k = xs.getD i Str.empty
    · subst e
      rw [c]
      rfl
    · rw [decide_eq_false e, Bool.or_false]
  · rw [List.any_append]
    congr 1
    simp only [List.any_cons, List.any_nil, Bool.or_false]
    by_cases e : k = xs.getD i Str.empty
    · subst e
      simp
    · rw [decide_eq_false e]
      exact beq_eq_false_iff_ne.mpr fun q => e q.symm
theorem met_len (xs : List Str) (i : Nat) : (met xs (i + 1)).length = if (met xs i).any (· == xs.getD i Str.empty) = true then (met xs i).length else (met xs i).length + 1 := by
  show (if _ then _ else _ : List Str).length = _
  split <;> simp_all
theorem met_mem (xs : List Str) : ∀ i, i ≤ xs.length → ∀ y, y ∈ met xs i ↔ y ∈ xs.take i
  | 0, _, y => by simp [met]
  | i + 1, h, y => by
    have ih := met_mem xs i (by omega) y
    have hx : xs.getD i Str.empty = xs[i] := by simp [List.getD, List.getElem?_eq_getElem (show i < xs.length by omega)]
    have e2 : xs.take (i + 1) = xs.take i ++ [xs[i]] := by
      rw [List.take_add_one, List.getElem?_eq_getElem (show i < xs.length by omega)]
      rfl
    rw [e2, List.mem_append, ← ih]
    show y ∈ (if _ then _ else _ : List Str) ↔ _
    rw [hx]
    split
    · rename_i c
      obtain ⟨z, hz, ez⟩ := List.any_eq_true.mp c
      have ez : z = xs[i] := eq_of_beq ez
      constructor
      · exact .inl
      · rintro (q | q)
        · exact q
        · rw [List.mem_singleton.mp q, ← ez]
          exact hz
    · rw [List.mem_append]
theorem met_full (xs : List Str) : ∀ i, i ≤ xs.length → ((met xs i).length = i ↔ (xs.take i).Nodup)
  | 0, _ => by simp [met]
  | i + 1, h => by
    have ih := met_full xs i (by omega)
    have hm := met_mem xs i (by omega)
    have le := met_le xs i
    have hx : xs.getD i Str.empty = xs[i] := by simp [List.getD, List.getElem?_eq_getElem (show i < xs.length by omega)]
    have e2 : xs.take (i + 1) = xs.take i ++ [xs[i]] := by
      rw [List.take_add_one, List.getElem?_eq_getElem (show i < xs.length by omega)]
      rfl
    rw [e2, met_len, hx]
    have ea : (met xs i).any (· == xs[i]) = true ↔ xs[i] ∈ xs.take i := by
      rw [← hm]
      constructor
      · intro c
        obtain ⟨z, hz, ez⟩ := List.any_eq_true.mp c
        have ez : z = xs[i] := eq_of_beq ez
        rw [← ez]
        exact hz
      · intro c
        exact List.any_eq_true.mpr ⟨_, c, beq_self_eq_true _⟩
    rw [List.nodup_append]
    by_cases c : xs[i] ∈ xs.take i
    · rw [if_pos (ea.mpr c)]
      constructor
      · intro z
        omega
      · intro z
        exact absurd rfl (z.2.2 _ c _ (List.mem_singleton.mpr rfl))
    · rw [if_neg (fun z => c (ea.mp z))]
      constructor
      · intro z
        refine ⟨ih.mp (by omega), by simp, fun y hy z hz q => c ?_⟩
        rw [List.mem_singleton.mp hz] at q
        rw [← q]
        exact hy
      · intro z
        rw [ih.mpr z.1]
theorem met_all (xs : List Str) : decide ((met xs xs.length).length = xs.length) = decide xs.Nodup := by
  have h := met_full xs xs.length (Nat.le_refl _)
  rw [List.take_length] at h
  exact decide_eq_decide.mpr h
section
variable {prog : Program} {w : World} {A : Around} {R : Result → Shared → Prop} {It : Addr} {own wrt : List Addr} {G : Array GenState → Array GenState → Prop} {n : Nat} {P : Nat → Value → Prop} {St : Nat → Shared → Prop}
/-- the loop that fills a set with texts -/
theorem fill (W : WalksS prog w A.in1 It own wrt G n P St) (S : Addr) (free : S ∉ own) (xs : List Str) (each : ∀ i v, P i v → ∃ t, v = .str (xs.getD i Str.empty) t) (small : n + 1 < scanBound) :
    ∀ (k i : Nat) (s : Shared), n - i = k → i ≤ n → St i s → s.heap.SetOf (PySem.strKind prog w) S (fun y => (met xs i).any (· == y)) (met xs i).length →
      (∀ s2, Moved (S :: wrt) G s s2 → s2.heap.SetOf (PySem.strKind prog w) S (fun y => (met xs n).any (· == y)) (met xs n).length → R (.ok (.ret .none)) s2) →
      codeAny (model prog w) A (.builtin "set.update.loop" ⟨[.ref S, .ref It], []⟩) R s := by
  have freeW : S ∉ wrt := fun z => free (W.sub _ z)
  have more : ∀ b ∈ wrt, b ∈ S :: wrt := fun b z => List.mem_cons_of_mem _ z
  have kept : ∀ {s s2 : Shared} {i : Nat}, Moved wrt G s s2 → s.heap.SetOf (PySem.strKind prog w) S (fun y => (met xs i).any (· == y)) (met xs i).length →
      s2.heap.SetOf (PySem.strKind prog w) S (fun y => (met xs i).any (· == y)) (met xs i).length := fun mv ⟨o, es, ep, tb, ho, r⟩ => ⟨o, es, ep, tb, mv.heap S _ freeW ho, r⟩
  intro k
  induction k with
  | zero =>
    intro i s hk hi st hs fin
    obtain rfl : i = n := by omega
    refine codeAny_builtin PyProof.Rows.F.entry_set_update_loop ?_
    rw [Around.under_plainId PyProof.Rows.F.plain_set_update_loop _]
    show wpAny _ A.in1 (pyNext (.ref It) >>= _) _ _ s
    refine wpAny_bind (W.done s _ _ st fun s2 mv => ?_)
    show wpAny _ A.in1 (ret Value.none) _ _ s2
    exact wpAny_pure (fin s2 (mv.mono more) (kept mv hs))
  | succ k ih =>
    intro i s hk hi st hs fin
    have lt : i < n := by omega
    have le := met_le xs i
    refine codeAny_builtin PyProof.Rows.F.entry_set_update_loop ?_
    rw [Around.under_plainId PyProof.Rows.F.plain_set_update_loop _]
    show wpAny _ A.in1 (pyNext (.ref It) >>= _) _ _ s
    refine wpAny_bind (W.item i s _ _ lt st fun v s2 hv st2 mv => ?_)
    obtain ⟨t, rfl⟩ := each i v hv
    show wpAny _ A.in1 (holding [Value.str (xs.getD i Str.empty) t] (setAdd S (.str (xs.getD i Str.empty) t)) >>= _) _ _ s2
    refine wpAny_bind (wpAny_holding ?_)
    unfold setAdd
    refine wpAny_holding (wpAny_bind ((PySem.strKind prog w).pyHash (k := xs.getD i Str.empty) (strKind_is _ _ _ _) ?_))
    have hk2 := kept mv hs
    refine wpAny_setAddHashed_of (knd := PySem.strKind prog w) (s := { s2 with toks := s2.toks + 1 }) (strKind_is _ _ _ _) rfl hk2 (by omega) fun h2 sb hs2 => ?_
    have hs3 : h2.SetOf (PySem.strKind prog w) S (fun y => (met xs (i + 1)).any (· == y)) (met xs (i + 1)).length := SetOf_congr hs2 (fun y => (met_any xs i y).symm) (met_len xs i).symm
    have off : ∀ b, b ≠ S → h2.get? b = s2.heap.get? b := fun b z => sb.2 b z
    refine wpAny_pure ⟨plainId_quiet PyProof.Rows.F.plain_set_update_loop _, ih (i + 1) _ (by omega) lt (W.frame _ s2 _ _ st2 (Nat.le_succ _) fun b z o e => (off b fun q => free (q ▸ z)).trans e) hs3 fun s3 mv3 hs4 => ?_⟩
    exact fin s3 (Moved.trans W.gtrans ((mv.mono more).then_heap (Nat.le_succ _) fun b o z e => (off b fun q => z (q ▸ List.mem_cons_self)).trans e) mv3) hs4
end
section
variable {prog : Program} {w : World} {A : Around} {E : Value → Shared → Prop} {s : Shared}
abbrev newSet (led : Bool) : Obj := { cls := .type "set", dict := none, data := .set #[] 0 (.fresh 0 0 led) }
/-- set(xs), xs a list of texts -/
theorem set_of {l : Addr} {items : Array Value} {xs : List Str} {Q : Value → Shared → Prop} (calm : A.handled = none) (hl : s.heap.IsList l items) (hi : StrsAre items.toList xs) (small : items.size + 1 < scanBound)
    (fin : ∀ (h2 : Heap) (tk : Nat), h2.SetOf (PySem.strKind prog w) s.heap.objs.size (fun y => (met xs items.size).any (· == y)) (met xs items.size).length →
      (∀ b o, b < s.heap.objs.size → s.heap.get? b = some o → h2.get? b = some o) → Q (.ref s.heap.objs.size) { s with heap := h2, toks := tk }) :
    wpAny (model prog w) A (call (.type "set") [.ref l]) Q E s := by
  obtain ⟨c0, tl0, mro0⟩ := PySem.F.called_set.mro
  have made0 := PySem.F.called_set.made
  have sub0 := PySem.F.called_set.sub
  refine wpAny_call (codeAny_of_tree ?_)
  show wpAny _ _ (callAny (.type "set") _) _ _ _
  refine wpAny_pure ⟨Code.quiet_builtin _ (by decide +kernel), codeAny_builtin PySem.F.entry_type_call ?_⟩
  rw [Around.under_plain (weight_type_call_type "set" [.ref l] []) rfl]
  have notT := PySem.F.called_set.notType
  have canC := PySem.F.called_set.canCreate
  have chk := PySem.F.typeCall_set_1 (.ref l)
  repeat (any_goals (first | assumption | wp_step))
  refine codeAny_mono (code_set_new_1 (.ref l) (E := E) (Q₁ := fun ob s1 => ∃ led : Bool, ob = .ref s.heap.objs.size ∧ s1 = { s with heap := s.heap.push (newSet led) }) fun led => ⟨led, rfl, rfl⟩) fun r s1 z => ?_
  match r, z with
  | .error _, z => exact z
  | .ok .next, z => exact z.elim
  | .ok .brk, z => exact z.elim
  | .ok .cont, z => exact z.elim
  | .ok (.ret _), ⟨led, e1, e2⟩ =>
    subst e1 e2
    have at0 : (s.heap.push (newSet led)).get? s.heap.objs.size = some (newSet led) := Heap.get?_push_size _ rfl
    have ty0 : Shared.TypeIs { s with heap := s.heap.push (newSet led) } (.ref s.heap.objs.size) "set" := ⟨_, at0, rfl⟩
    have lk0 := PySem.F.called_set.init.lookup
    have bd0 := PySem.F.called_set.init.bind (.ref s.heap.objs.size)
    repeat (any_goals (first | assumption | wp_step))
    refine codeAny_mono (codeAny_call_builtin (R := wants (fun r s2 => r = .none ∧ ∃ h2 tk, s2 = { s with heap := h2, toks := tk } ∧ h2.SetOf (PySem.strKind prog w) s.heap.objs.size (fun y => (met xs items.size).any (· == y)) (met xs items.size).length ∧
      (∀ b o, b < s.heap.objs.size → s.heap.get? b = some o → h2.get? b = some o)) E) PySem.F.called_set.init.plain PySem.F.entry_set_init (check_set_init_1 ty0 ?_)) fun r2 s2 z2 => ?_
    · obtain ⟨ol, lol, lcl, nl, ldl⟩ := hl
      obtain ⟨oc, od, oda, osl⟩ := ol
      simp only at lcl ldl
      subst lcl
      subst ldl
      have at1 : (s.heap.push (newSet led)).get? l = some { cls := .type "list", dict := od, data := .seq items nl, slots := osl } := Heap.get?_push_of_some _ lol
      have q1 := PySem.F.sub_list_set
      have q2 := PySem.F.sub_list_frozenset
      have q3 : (Value.type "list" == Value.type "dict") = false := by decide
      have isl : (s.heap.push (newSet led)).IsList l items := ⟨_, at1, rfl, nl, rfl⟩
      unfold Builtin.«set.__init__» noKeywords Builtin.Frozenset.updateFrom
      generalize gpi : pyIter = PI
      wp_walk
      subst gpi
      refine wpAny_pyIter_list isl (wpAny_bind (wpAny_runValue ?_))
      have lltS : l < s.heap.objs.size := Heap.lt_size lol
      have calm3 : A.in1.in1.in1.handled = none := by simp [calm]
      have sz1 : (s.heap.push (newSet led)).objs.size = s.heap.objs.size + 1 := Heap.size_push _ _
      have lne : l ≠ (s.heap.push (newSet led)).objs.size := by
        rw [sz1]
        exact Nat.ne_of_lt (Nat.lt_succ_of_lt lltS)
      have frS : s.heap.objs.size ∉ [(s.heap.push (newSet led)).objs.size, l] := by
        rw [sz1]
        simp only [List.mem_cons, List.not_mem_nil, or_false, not_or]
        exact ⟨Nat.ne_of_lt (Nat.lt_succ_self _), Nat.ne_of_gt lltS⟩
      refine fill ((Walks.list calm3 _ l lne items).toS) s.heap.objs.size frS xs (fun i v hv => SS.strs_at hi i v (by rw [Array.getElem?_toList]; exact hv)) small (items.size - 0) 0 _ (by omega) (Nat.zero_le _)
        ⟨⟨_, Heap.get?_push_size _ rfl, rfl, rfl⟩, isl.push _⟩ ?_ ?_
      · have at2 : ((s.heap.push (newSet led)).push { cls := .type "list_iterator", data := .fields #[.ref l, .int 0 0] }).get? s.heap.objs.size = some (newSet led) := Heap.get?_push_of_some _ at0
        exact SetOf_congr ((setObjOf_fresh (knd := PySem.strKind prog w) led).setOf at2 (by unfold scanBound; omega)) (fun _ => rfl) rfl
      · intro s3 mv hs3
        obtain ⟨h3, g3, d3, t3, o3⟩ := s3
        have eg : g3 = s.gens := mv.gens
        have ed : d3 = s.drawn := mv.drawn
        have eo : o3 = s.os := mv.os
        subst eg
        subst ed
        subst eo
        show wpAny _ _ _ _ _ _
        refine wpAny_pure ?_
        show wpAny _ _ (ret Value.none) _ _ _
        refine wpAny_pure ⟨rfl, h3, t3, rfl, hs3, fun b o hb e => mv.heap b o ?_ (Heap.get?_push_of_some _ (Heap.get?_push_of_some _ e))⟩
        rw [sz1]
        simp only [List.mem_cons, List.not_mem_nil, or_false, not_or]
        exact ⟨Nat.ne_of_lt hb, Nat.ne_of_lt (Nat.lt_succ_of_lt hb)⟩
    · match r2, z2 with
      | .error _, z2 => exact z2
      | .ok .next, z2 => exact z2.elim
      | .ok .brk, z2 => exact z2.elim
      | .ok .cont, z2 => exact z2.elim
      | .ok (.ret _), ⟨e1, h2, tk, e2, a1, a2⟩ =>
        subst e1 e2
        repeat (any_goals (first | assumption | wp_step))
        exact fin _ _ a1 a2
end
end OwnSet
namespace L2
open PySem PySem.Spec PyProof.Rows
/-- len(set(xs)), xs a list of texts -/
def tLenSetS (K : PySem.W.Frag) (ta : TE) : TE := fun σ H Q => ta σ H fun x H1 => ∃ (l : Addr) (xs : List Str), x = .ref l ∧ SqL K H1 l (xs.map V.str) ∧ xs.length ≤ 4000 ∧ Q (.int ((OwnSet.met xs xs.length).length : Nat)) H1
theorem pe_lenSetS {X : Cx} {a : Expr} {ta : TE} {p p2 q pos : Pos} (hm : X.mg "len" = none) (hm2 : X.mg "set" = none) (ha : PE X a ta) (hc : X.calm = true := by rfl) (hg : Gl X "len" := by rfl) (hg2 : Gl X "set" := by rfl)
    (na : starEach [a] X.env = (false, eval a X.env) :: starEach [] X.env := by rfl) : PE X (.Call (.Name "len" p) [.Call (.Name "set" p2) [a] [] q] [] pos) (tLenSetS X.K ta) := by
  refine ⟨fun pn s σ H Q I h => Call_ (ld_blt I hg hm boot_len ?_)⟩
  refine callWith_builtin1 (args_cons (Call_ (ld_blt I hg2 hm2 boot_set ?_)) rfl) rfl rfl
  refine callWith_type1 (args_cons (thn (ha.run pn s σ H _ I h) fun v s1 ⟨x, H1, I1, r1, l, xs, ex, hq, hl, q1⟩ => args_nil ?_) na) na rfl
  subst ex
  cases r1
  obtain ⟨its, r, pl, hz⟩ := I1.list hq
  have sz : its.toArray.size = xs.length := by rw [List.size_toArray, ← r.length, List.length_map]
  refine OwnSet.set_of (xs := xs) (I1.ok.hd hc) pl.isList (by simpa using strsAre_of r) (by rw [sz]; unfold scanBound; omega) fun h2 tk hs keep => args_nil ?_
  rw [sz] at hs
  have le := OwnSet.met_le xs xs.length
  obtain ⟨o, es, ep, t, ho, hex, hd, _, _, _, hf, hn⟩ := hs
  have I2 : Inv X pn σ H1 { s1 with heap := h2, toks := tk } := I1.kept fun b o e => keep b o (Heap.lt_size e) e
  exact call_len_set ho hex hd hf (by rw [hn]; omega) ⟨.int _, H1, I2.tok _, ⟨_, by rw [hn]⟩, q1⟩
end L2

set_option Elab.async false
set_option linter.all false
set_option maxRecDepth 100000
set_option maxHeartbeats 4000000
/-! Own errors with one field (after the guide's own page on them). -/
namespace PySem
namespace ImpX
open PySem.W PySem.Calls PyProof.Rows PySem.HandSPX
/-! ### the text of __init__ -/
def iA (p1 p2 : Pos) : Arguments := { posonlyargs := [], args := [{ arg := "self", annotation := none, pos := p1 }, { arg := "reason", annotation := none, pos := p2 }], vararg := none, kwonlyargs := [], kw_defaults := [], kwarg := none, defaults := [] }
def iB (q1 q2 q3 q4 : Pos) : List Stmt := [.Assign [.Attribute (.Name "self" q1) "reason" q2] (.Name "reason" q3) q4]
def iS : Scope := { kind := .function, names := [(PySem.Str.ofString "self", .local), (PySem.Str.ofString "reason", .local)], isGenerator := false, isCoroutine := false, more := [] }
/-- what the written part says of Low, at C, and of its __init__, at fI -/
structure ImpTxt (K : Frag) (mg : Str → Option Value) (C fI : Addr) : Prop where
  gC : mg "Impossible" = some (.ref C)
  cls : ∃ nm q N bs bm sn sub ab col dd k0 k1 k2 k3 k5, K.lookup C = some (excClassObj nm q C N bs bm true sn sub ab col dd k0 k1 k2 k3 k5 "ValueError.__new__") ∧ refsVE bm = true
  sa : findIn K (.ref C) "__setattr__" = some (some (.builtin "object.__setattr__"))
  ga : findIn K (.ref C) "__getattribute__" = some (some (.builtin "BaseException.__getattribute__"))
  gg : findIn K (.ref C) "__getattr__" = some none
  noN : findIn K (.ref C) "reason" = some none
  iC : findIn K (.ref C) "__init__" = some (some (.ref fI))
  tC : typeIn K (.ref fI) = some (.type "function")
  kC : keepIn K (.ref C) = true
  exC : subIn K (.ref C) (.type "BaseException") = some true
  tyC : typeIn K (.ref C) = some (.type "type")
  hdC : hasDictIn K C = true
  te : exmOne K (.ref C) (.ref C) = some true
  fn : ∃ (oc : Value) (od : Option Addr) (doc pm : Value) (an : Option Addr) (cdv ct : Value) (osl : Array (Option Value)) (p1 p2 q1 q2 q3 q4 : Pos),
    K.lookup fI = some ⟨oc, od, .func (fnOf "__init__" "Impossible.__init__" (iA p1 p2) (iB q1 q2 q3 q4) iS .none .none doc pm an cdv ct), osl⟩ ∧ codeIn K cdv "Impossible.__init__" = true
theorem one_size (v : Value) : [v].length ≤ sizeLine := by
  rw [sizeLine_eq]
  exact (by decide : 1 ≤ 16777216)
theorem kept_but {K : Frag} {h h' : Heap} {x : Addr} (X : K.In h) (hx : K.lookup x = none) (k : ∀ b o, b ≠ x → h.get? b = some o → h'.get? b = some o) : K.In h' := fun a o e =>
  k a o (fun z => by rw [z, hx] at e; cases e) (X a o e)
theorem ldC {M : Model} {s : Shared} {name : Str} {scope : Scope} {L a : Addr} {cd : Value} {m : Str → Option Value} {x : Str} {pos : Pos} {v : Value} {Q : Value → Shared → Prop} {A : Around} {E : Value → Shared → Prop} (hn : s.heap.Ns L m) (hv : m x = some v) (h : Q v s)
    (hk : scope.kind = .function := by rfl) (hl : (envOfC name scope L a cd).kindOf x = some .local := by rfl) (hd : (x == ("__debug__" : Str)) = false := by decide) :
    wpAny M A (eval (.Name x pos) (envOfC name scope L a cd)) Q E s := wpAny_Name (wpAny_loadName_local hk hl hn hv h) hd
/-- what __init__ leaves of a fresh exception at x -/
structure InitEnd (h h' : Heap) (x C dx t1 : Addr) (v : Value) : Prop where
  keep : ∀ b o, b ≠ x → h.get? b = some o → h'.get? b = some o
  obj : h'.get? x = some { cls := .ref C, dict := some dx, data := .fields #[.ref t1, .none, .none, .none, .bool false, .none] }
  dbig : h.objs.size ≤ dx
  dne : dx ≠ x
  ns : h'.Ns1 dx (fun y => if y = "reason" then some v else none)
/-- a made Low -/
structure OwnMade (h h' : Heap) (e C d : Addr) (v : Value) : Prop where
  keep : ∀ b o, h.get? b = some o → h'.get? b = some o
  new : h.objs.size ≤ e
  obj : ∃ oe vs, h'.get? e = some oe ∧ oe.cls = .ref C ∧ oe.dict = some d ∧ oe.data = .fields vs ∧ vs[1]? = some .none
  dbig : h.objs.size ≤ d
  dne : d ≠ e
  ns : h'.Ns1 d (fun y => if y = "reason" then some v else none)
section
variable {prog : Program} {w : World} {A : Around} {E : Value → Shared → Prop} {R : Result → Shared → Prop} {s : Shared} {K : Frag} {mg : Str → Option Value} {C fI : Addr}
theorem imp_init (T : ImpTxt K mg C fI) {x t0 : Addr} {v : Value} (X : K.In s.heap) (hlim : s.heap.NoLimit) (hx : s.heap.get? x = some (excO C t0)) (hnx : K.lookup x = none) (hroom : A.depth < recursionLimit)
    (hq : ∀ h' tk dx, InitEnd s.heap h' x C dx t0 v → R (.ok (.ret .none)) { s with heap := h', toks := tk }) :
    codeAny (model prog w) A (.call (.ref fI) ⟨[.ref x, v], []⟩) R s := by
  obtain ⟨oc, od, doc, pm, an, cdv, ct, osl, p1, p2, q1, q2, q3, q4, ho, hcd⟩ := T.fn
  obtain ⟨nm, q, N, bs, bm, sn, sub, ab, col, dd, k0, k1, k2, k3, k5, hC, hbm⟩ := T.cls
  have hcl : clsIn K C = some { name := nm, bases := bs, mro := .ref C :: bm, ns := N, qualname := q, hasDict := true, slotNames := sn, subclasses := sub, abstract := ab, collection := col, hasDel := false } := by unfold clsIn; rw [hC] <;> rfl
  refine Att.call_fn (binds := [("self", .ref x), ("reason", v)]) X hlim ho hcd hroom (BindsTo.of_eq (by first | rfl | with_unfolding_all rfl)) (by first | rfl | decide | with_unfolding_all rfl) (fun s₁ IC => ?_) rfl rfl rfl
  obtain ⟨h₁, tk₁, rfl⟩ := IC.toInCall.same
  have k : ∀ b o, s.heap.get? b = some o → h₁.get? b = some o := IC.toInCall.keep
  have hn := IC.toInCall.ns
  have hxL : s.heap.objs.size ≠ x := Nat.ne_of_gt (Heap.lt_size hx)
  have X₁ : K.In h₁ := X.keeps k
  have hx₁ := k _ _ hx
  -- self.by = by
  show wpAny _ _ (execs _ _) _ _ _
  refine wpAny_execs_cons (plainObj_wpAny_Assign_Attribute ?_)
  refine ldC (v := v) hn (by first | rfl | with_unfolding_all rfl | kernel_rfl) (ldC (v := .ref x) hn (by first | rfl | with_unfolding_all rfl | kernel_rfl) ?_)
  refine set_plain X₁ (ox := excO C t0) (od := none) ⟨hx₁, rfl, rfl, trivial⟩ T.sa ?_
  refine exc_osa X₁ hx₁ hcl (show refsVE (.ref C :: bm) = true from hbm) rfl T.noN (fun h₃ tk₃ dx k₃ dn dne hx₃ hn₃ => ?_)
  show wpAny _ _ (execs _ _) _ _ _
  have z : s.heap.objs.size < h₁.objs.size := hn.lt
  exact wpAny_execs_nil (hq h₃ tk₃ dx ⟨fun b o hb e => k₃ b o hb (k b o e), hx₃, Nat.le_of_lt (Nat.lt_of_lt_of_le z dn), dne, hn₃⟩)
theorem imp_made (T : ImpTxt K mg C fI) {v : Value} (X : K.In s.heap) (hlim : s.heap.NoLimit) (hroom : A.depth + 1 < recursionLimit)
    (hq : ∀ h' tk e d, OwnMade s.heap h' e C d v → R (.ok (.ret (.ref e))) { s with heap := h', toks := tk }) :
    codeAny (model prog w) A (.call (.ref C) ⟨[v], []⟩) R s := by
  obtain ⟨nm, q, N, bs, bm, sn, sub, ab, col, dd, k0, k1, k2, k3, k5, hC, hbm⟩ := T.cls
  obtain ⟨hp, g, dr, tk, os⟩ := s
  have k : ∀ b o, hp.get? b = some o → ((hp.push (kdv_tup [v])).push (excO C hp.objs.size)).get? b = some o := fun b o e => Heap.get?_push_of_some _ (Heap.get?_push_of_some _ e)
  have hget : ((hp.push (kdv_tup [v])).push (excO C hp.objs.size)).get? (hp.objs.size + 1) = some (excO C hp.objs.size) := by heap_get
  have hnx : K.lookup (hp.objs.size + 1) = none := by
    cases e : K.lookup (hp.objs.size + 1) with
    | none => rfl
    | some o =>
      have z : hp.get? (hp.objs.size + 1) = some o := X _ _ e
      exact absurd (Nat.lt_of_succ_lt (Heap.lt_size z)) (Nat.lt_irrefl _)
  refine call_own F.excBase_ValueError (fun X => refsVE_contains X bm hbm) (X _ _ hC) (looks_findIn X T.iC) (fun self => bind_fn X self T.tC) (one_size v) ?_
  refine imp_init (s := ⟨(hp.push (kdv_tup [v])).push (excO C hp.objs.size), g, dr, tk, os⟩) T (X.keeps k) (hlim.keeps k) hget hnx ?_ fun h' tk' dx ⟨k', hx, dn, dne, hns⟩ => ?_
  · show A.depth + 1 < recursionLimit
    exact hroom
  · have old : ∀ b o, hp.get? b = some o → h'.get? b = some o := fun b o e => k' b o (Nat.ne_of_lt (Nat.lt_succ_of_lt (Heap.lt_size e))) (k b o e)
    have z : hp.objs.size + 1 + 1 ≤ dx := by
      first
        | (simpa only [Heap.size_push] using dn)
        | exact dn
        | (have q := dn; rw [Heap.size_push, Heap.size_push] at q; exact q)
    exact ⟨rfl, hq h' tk' (hp.objs.size + 1) dx ⟨old, Nat.le_succ _, ⟨_, _, hx, rfl, rfl, rfl, rfl⟩, Nat.le_trans (Nat.le_trans (Nat.le_succ _) (Nat.le_succ _)) z, dne, hns⟩⟩
end
end ImpX
end PySem
namespace L2
open PySem PySem.Spec PyProof.Rows
theorem relO_imp {v : V} {v' : Value} (r : RelV v v') (f : Str) : RelO (List.lookup f [(("reason" : Str), v)]) (if f = "reason" then some v' else none) := by
  by_cases hw : f = "reason"
  · subst hw
    rw [if_pos rfl]
    have q : List.lookup ("reason" : Str) [(("reason" : Str), v)] = some v := by simp [List.lookup]
    rw [q]
    exact r
  · rw [if_neg hw]
    have qw : (f == ("reason" : Str)) = false := by simpa using hw
    have q2 : List.lookup f [(("reason" : Str), v)] = none := by simp [List.lookup, qw]
    rw [q2]
    trivial
section
variable {X : Cx} {C fI : Addr}
/-- Low(e) -/
def tMkImp (C : Addr) (ta : TA) : St → Hp → XK → Prop := fun σ H Q => ta σ H fun vs H1 => ∃ v, vs = [v] ∧ ∀ d, H1 d = none → Q (.ref C) (some d) (upd H1 d (.xd [(("reason" : Str), v)]))
theorem pmk_imp {a : Expr} {ta : TA} {p pos : Pos} {k : Nat} (T : PySem.ImpX.ImpTxt X.K X.mg C fI) (hr : Room k X.A) (ha : PA X [a] ta) (hg : Gl X "Impossible" := by rfl)
    (he : starEach (a :: []) X.env = (false, eval a X.env) :: starEach [] X.env := by rfl) (hpl : (backTo pos (starEach [] X.env)).any (·.1) = false := by rfl) :
    PMk X (.Call (.Name "Impossible" p) [a] [] pos) (tMkImp C ta) := by
  intro pins s σ H Q I h
  refine wpAny_Call_Name_kw (ld_glob I hg T.gC ?_)
  refine PySem.W.callWith_K (h₀ := X.base) I.ok.mod.kin T.kC (thn (ha.run pos pins s σ H _ I h) fun us s1 hh => ?_) he hpl
  obtain ⟨vs, H1, I1, r1, v, ev, q1⟩ := hh
  subst ev
  refine ⟨I1.kIn, ?_⟩
  cases r1 with
  | cons rv rn =>
    rename_i v' us'
    cases rn
    show wpAny _ _ (call (.ref C) [v']) _ _ _
    have hlim := I1.nolimit
    obtain ⟨hp, g, dr, tk, os⟩ := s1
    refine wpAny_call (PySem.ImpX.imp_made T I1.kIn hlim (by have := hr.dp; omega) fun h' tk' e d M => ?_)
    show MkP X pins σ Q (.ref e) ⟨h', g, dr, tk', os⟩
    obtain ⟨oe, fv, hoe, hc, hd, hdat, h1⟩ := M.obj
    have hns := M.ns
    obtain ⟨G', g1, g2⟩ := restrict h' fun b => decide (b ≠ e)
    have gk : ∀ b, b ≠ e → G'.get? b = h'.get? b := fun b hb => g1 b (decide_eq_true hb)
    have ge : G'.get? e = none := g2 e (by simp)
    have old : ∀ b o, hp.get? b = some o → G'.get? b = some o := fun b o q => (gk b (Nat.ne_of_lt (Nat.lt_of_lt_of_le (Heap.lt_size q) M.new))).trans (M.keep b o q)
    have ob : ObjOk X.prog X.w (upd H1 d (.xd [(("reason" : Str), v)])) G' d (.xd [(("reason" : Str), v)]) :=
      ⟨_, hns.at (fun o q => (gk d M.dne).trans q), fun f => relO_imp rv f⟩
    have J : Inv X pins σ (upd H1 d (.xd [(("reason" : Str), v)])) ⟨G', g, dr, tk', os⟩ := I1.laid (t' := tk') old M.dbig ob
    refine ⟨e, oe, fv, ⟨G', g, dr, tk', os⟩, _, .ref C, some d, rfl, J, fun b o q => ?_, ge, hoe, ⟨hc, hd⟩, hdat, h1, ?_, rfl, I1.bare, raises_own T.exC T.tyC, q1 d (I1.hok.fresh M.dbig)⟩
    · by_cases hb : b = e
      · have q' : G'.get? b = some o := q
        rw [hb, ge] at q'; cases q'
      · exact (gk b hb).symm.trans q
    · rw [upd_ne (Ne.symm M.dne)]
      exact I1.hok.fresh M.new
/-- raise Low(e) -/
def tRaiseImp (C : Addr) (W : WX) (ta : TA) : TS := fun _ σ H => tMkImp C ta σ H fun cls d H' => W cls d σ H'
theorem ps_raiseImp {a : Expr} {ta : TA} {W : WX} {p pos pos2 : Pos} {k : Nat} (hc : X.calm = true) (T : PySem.ImpX.ImpTxt X.K X.mg C fI) (hr : Room k X.A) (tk : Takes X W) (ha : PA X [a] ta) (hg : Gl X "Impossible" := by rfl)
    (he : starEach (a :: []) X.env = (false, eval a X.env) :: starEach [] X.env := by rfl) (hpl : (backTo pos (starEach [] X.env)).any (·.1) = false := by rfl) :
    PS X (.Raise (some (.Call (.Name "Impossible" p) [a] [] pos)) none pos2) (tRaiseImp C W ta) := ps_raise hc tk (pmk_imp T hr ha hg he hpl)
end
end L2

set_option Elab.async false
set_option linter.all false
set_option maxRecDepth 100000
set_option maxHeartbeats 4000000
/-! Own errors with one field (after the guide's own page on them). -/
namespace PySem
namespace TxtX
open PySem.W PySem.Calls PyProof.Rows PySem.HandSPX
/-! ### the text of __init__ -/
def iA (p1 p2 : Pos) : Arguments := { posonlyargs := [], args := [{ arg := "self", annotation := none, pos := p1 }, { arg := "at", annotation := none, pos := p2 }], vararg := none, kwonlyargs := [], kw_defaults := [], kwarg := none, defaults := [] }
def iB (q1 q2 q3 q4 : Pos) : List Stmt := [.Assign [.Attribute (.Name "self" q1) "at" q2] (.Name "at" q3) q4]
def iS : Scope := { kind := .function, names := [(PySem.Str.ofString "self", .local), (PySem.Str.ofString "at", .local)], isGenerator := false, isCoroutine := false, more := [] }
/-- what the written part says of Low, at C, and of its __init__, at fI -/
structure TxtTxt (K : Frag) (mg : Str → Option Value) (C fI : Addr) : Prop where
  gC : mg "NoText" = some (.ref C)
  cls : ∃ nm q N bs bm sn sub ab col dd k0 k1 k2 k3 k5, K.lookup C = some (excClassObj nm q C N bs bm true sn sub ab col dd k0 k1 k2 k3 k5 "ValueError.__new__") ∧ refsVE bm = true
  sa : findIn K (.ref C) "__setattr__" = some (some (.builtin "object.__setattr__"))
  ga : findIn K (.ref C) "__getattribute__" = some (some (.builtin "BaseException.__getattribute__"))
  gg : findIn K (.ref C) "__getattr__" = some none
  noN : findIn K (.ref C) "at" = some none
  iC : findIn K (.ref C) "__init__" = some (some (.ref fI))
  tC : typeIn K (.ref fI) = some (.type "function")
  kC : keepIn K (.ref C) = true
  exC : subIn K (.ref C) (.type "BaseException") = some true
  tyC : typeIn K (.ref C) = some (.type "type")
  hdC : hasDictIn K C = true
  te : exmOne K (.ref C) (.ref C) = some true
  fn : ∃ (oc : Value) (od : Option Addr) (doc pm : Value) (an : Option Addr) (cdv ct : Value) (osl : Array (Option Value)) (p1 p2 q1 q2 q3 q4 : Pos),
    K.lookup fI = some ⟨oc, od, .func (fnOf "__init__" "NoText.__init__" (iA p1 p2) (iB q1 q2 q3 q4) iS .none .none doc pm an cdv ct), osl⟩ ∧ codeIn K cdv "NoText.__init__" = true
theorem one_size (v : Value) : [v].length ≤ sizeLine := by
  rw [sizeLine_eq]
  exact (by decide : 1 ≤ 16777216)
theorem kept_but {K : Frag} {h h' : Heap} {x : Addr} (X : K.In h) (hx : K.lookup x = none) (k : ∀ b o, b ≠ x → h.get? b = some o → h'.get? b = some o) : K.In h' := fun a o e =>
  k a o (fun z => by rw [z, hx] at e; cases e) (X a o e)
theorem ldC {M : Model} {s : Shared} {name : Str} {scope : Scope} {L a : Addr} {cd : Value} {m : Str → Option Value} {x : Str} {pos : Pos} {v : Value} {Q : Value → Shared → Prop} {A : Around} {E : Value → Shared → Prop} (hn : s.heap.Ns L m) (hv : m x = some v) (h : Q v s)
    (hk : scope.kind = .function := by rfl) (hl : (envOfC name scope L a cd).kindOf x = some .local := by rfl) (hd : (x == ("__debug__" : Str)) = false := by decide) :
    wpAny M A (eval (.Name x pos) (envOfC name scope L a cd)) Q E s := wpAny_Name (wpAny_loadName_local hk hl hn hv h) hd
/-- what __init__ leaves of a fresh exception at x -/
structure InitEnd (h h' : Heap) (x C dx t1 : Addr) (v : Value) : Prop where
  keep : ∀ b o, b ≠ x → h.get? b = some o → h'.get? b = some o
  obj : h'.get? x = some { cls := .ref C, dict := some dx, data := .fields #[.ref t1, .none, .none, .none, .bool false, .none] }
  dbig : h.objs.size ≤ dx
  dne : dx ≠ x
  ns : h'.Ns1 dx (fun y => if y = "at" then some v else none)
/-- a made Low -/
structure OwnMade (h h' : Heap) (e C d : Addr) (v : Value) : Prop where
  keep : ∀ b o, h.get? b = some o → h'.get? b = some o
  new : h.objs.size ≤ e
  obj : ∃ oe vs, h'.get? e = some oe ∧ oe.cls = .ref C ∧ oe.dict = some d ∧ oe.data = .fields vs ∧ vs[1]? = some .none
  dbig : h.objs.size ≤ d
  dne : d ≠ e
  ns : h'.Ns1 d (fun y => if y = "at" then some v else none)
section
variable {prog : Program} {w : World} {A : Around} {E : Value → Shared → Prop} {R : Result → Shared → Prop} {s : Shared} {K : Frag} {mg : Str → Option Value} {C fI : Addr}
theorem txt_init (T : TxtTxt K mg C fI) {x t0 : Addr} {v : Value} (X : K.In s.heap) (hlim : s.heap.NoLimit) (hx : s.heap.get? x = some (excO C t0)) (hnx : K.lookup x = none) (hroom : A.depth < recursionLimit)
    (hq : ∀ h' tk dx, InitEnd s.heap h' x C dx t0 v → R (.ok (.ret .none)) { s with heap := h', toks := tk }) :
    codeAny (model prog w) A (.call (.ref fI) ⟨[.ref x, v], []⟩) R s := by
  obtain ⟨oc, od, doc, pm, an, cdv, ct, osl, p1, p2, q1, q2, q3, q4, ho, hcd⟩ := T.fn
  obtain ⟨nm, q, N, bs, bm, sn, sub, ab, col, dd, k0, k1, k2, k3, k5, hC, hbm⟩ := T.cls
  have hcl : clsIn K C = some { name := nm, bases := bs, mro := .ref C :: bm, ns := N, qualname := q, hasDict := true, slotNames := sn, subclasses := sub, abstract := ab, collection := col, hasDel := false } := by unfold clsIn; rw [hC] <;> rfl
  refine Att.call_fn (binds := [("self", .ref x), ("at", v)]) X hlim ho hcd hroom (BindsTo.of_eq (by first | rfl | with_unfolding_all rfl)) (by first | rfl | decide | with_unfolding_all rfl) (fun s₁ IC => ?_) rfl rfl rfl
  obtain ⟨h₁, tk₁, rfl⟩ := IC.toInCall.same
  have k : ∀ b o, s.heap.get? b = some o → h₁.get? b = some o := IC.toInCall.keep
  have hn := IC.toInCall.ns
  have hxL : s.heap.objs.size ≠ x := Nat.ne_of_gt (Heap.lt_size hx)
  have X₁ : K.In h₁ := X.keeps k
  have hx₁ := k _ _ hx
  -- self.by = by
  show wpAny _ _ (execs _ _) _ _ _
  refine wpAny_execs_cons (plainObj_wpAny_Assign_Attribute ?_)
  refine ldC (v := v) hn (by first | rfl | with_unfolding_all rfl | kernel_rfl) (ldC (v := .ref x) hn (by first | rfl | with_unfolding_all rfl | kernel_rfl) ?_)
  refine set_plain X₁ (ox := excO C t0) (od := none) ⟨hx₁, rfl, rfl, trivial⟩ T.sa ?_
  refine exc_osa X₁ hx₁ hcl (show refsVE (.ref C :: bm) = true from hbm) rfl T.noN (fun h₃ tk₃ dx k₃ dn dne hx₃ hn₃ => ?_)
  show wpAny _ _ (execs _ _) _ _ _
  have z : s.heap.objs.size < h₁.objs.size := hn.lt
  exact wpAny_execs_nil (hq h₃ tk₃ dx ⟨fun b o hb e => k₃ b o hb (k b o e), hx₃, Nat.le_of_lt (Nat.lt_of_lt_of_le z dn), dne, hn₃⟩)
theorem txt_made (T : TxtTxt K mg C fI) {v : Value} (X : K.In s.heap) (hlim : s.heap.NoLimit) (hroom : A.depth + 1 < recursionLimit)
    (hq : ∀ h' tk e d, OwnMade s.heap h' e C d v → R (.ok (.ret (.ref e))) { s with heap := h', toks := tk }) :
    codeAny (model prog w) A (.call (.ref C) ⟨[v], []⟩) R s := by
  obtain ⟨nm, q, N, bs, bm, sn, sub, ab, col, dd, k0, k1, k2, k3, k5, hC, hbm⟩ := T.cls
  obtain ⟨hp, g, dr, tk, os⟩ := s
  have k : ∀ b o, hp.get? b = some o → ((hp.push (kdv_tup [v])).push (excO C hp.objs.size)).get? b = some o := fun b o e => Heap.get?_push_of_some _ (Heap.get?_push_of_some _ e)
  have hget : ((hp.push (kdv_tup [v])).push (excO C hp.objs.size)).get? (hp.objs.size + 1) = some (excO C hp.objs.size) := by heap_get
  have hnx : K.lookup (hp.objs.size + 1) = none := by
    cases e : K.lookup (hp.objs.size + 1) with
    | none => rfl
    | some o =>
      have z : hp.get? (hp.objs.size + 1) = some o := X _ _ e
      exact absurd (Nat.lt_of_succ_lt (Heap.lt_size z)) (Nat.lt_irrefl _)
  refine call_own F.excBase_ValueError (fun X => refsVE_contains X bm hbm) (X _ _ hC) (looks_findIn X T.iC) (fun self => bind_fn X self T.tC) (one_size v) ?_
  refine txt_init (s := ⟨(hp.push (kdv_tup [v])).push (excO C hp.objs.size), g, dr, tk, os⟩) T (X.keeps k) (hlim.keeps k) hget hnx ?_ fun h' tk' dx ⟨k', hx, dn, dne, hns⟩ => ?_
  · show A.depth + 1 < recursionLimit
    exact hroom
  · have old : ∀ b o, hp.get? b = some o → h'.get? b = some o := fun b o e => k' b o (Nat.ne_of_lt (Nat.lt_succ_of_lt (Heap.lt_size e))) (k b o e)
    have z : hp.objs.size + 1 + 1 ≤ dx := by
      first
        | (simpa only [Heap.size_push] using dn)
        | exact dn
        | (have q := dn; rw [Heap.size_push, Heap.size_push] at q; exact q)
    exact ⟨rfl, hq h' tk' (hp.objs.size + 1) dx ⟨old, Nat.le_succ _, ⟨_, _, hx, rfl, rfl, rfl, rfl⟩, Nat.le_trans (Nat.le_trans (Nat.le_succ _) (Nat.le_succ _)) z, dne, hns⟩⟩
end
end TxtX
end PySem
namespace L2
open PySem PySem.Spec PyProof.Rows
theorem relO_txt {v : V} {v' : Value} (r : RelV v v') (f : Str) : RelO (List.lookup f [(("at" : Str), v)]) (if f = "at" then some v' else none) := by
  by_cases hw : f = "at"
  · subst hw
    rw [if_pos rfl]
    have q : List.lookup ("at" : Str) [(("at" : Str), v)] = some v := by simp [List.lookup]
    rw [q]
    exact r
  · rw [if_neg hw]
    have qw : (f == ("at" : Str)) = false := by simpa using hw
    have q2 : List.lookup f [(("at" : Str), v)] = none := by simp [List.lookup, qw]
    rw [q2]
    trivial
section
variable {X : Cx} {C fI : Addr}
/-- Low(e) -/
def tMkTxt (C : Addr) (ta : TA) : St → Hp → XK → Prop := fun σ H Q => ta σ H fun vs H1 => ∃ v, vs = [v] ∧ ∀ d, H1 d = none → Q (.ref C) (some d) (upd H1 d (.xd [(("at" : Str), v)]))
theorem pmk_txt {a : Expr} {ta : TA} {p pos : Pos} {k : Nat} (T : PySem.TxtX.TxtTxt X.K X.mg C fI) (hr : Room k X.A) (ha : PA X [a] ta) (hg : Gl X "NoText" := by rfl)
    (he : starEach (a :: []) X.env = (false, eval a X.env) :: starEach [] X.env := by rfl) (hpl : (backTo pos (starEach [] X.env)).any (·.1) = false := by rfl) :
    PMk X (.Call (.Name "NoText" p) [a] [] pos) (tMkTxt C ta) := by
  intro pins s σ H Q I h
  refine wpAny_Call_Name_kw (ld_glob I hg T.gC ?_)
  refine PySem.W.callWith_K (h₀ := X.base) I.ok.mod.kin T.kC (thn (ha.run pos pins s σ H _ I h) fun us s1 hh => ?_) he hpl
  obtain ⟨vs, H1, I1, r1, v, ev, q1⟩ := hh
  subst ev
  refine ⟨I1.kIn, ?_⟩
  cases r1 with
  | cons rv rn =>
    rename_i v' us'
    cases rn
    show wpAny _ _ (call (.ref C) [v']) _ _ _
    have hlim := I1.nolimit
    obtain ⟨hp, g, dr, tk, os⟩ := s1
    refine wpAny_call (PySem.TxtX.txt_made T I1.kIn hlim (by have := hr.dp; omega) fun h' tk' e d M => ?_)
    show MkP X pins σ Q (.ref e) ⟨h', g, dr, tk', os⟩
    obtain ⟨oe, fv, hoe, hc, hd, hdat, h1⟩ := M.obj
    have hns := M.ns
    obtain ⟨G', g1, g2⟩ := restrict h' fun b => decide (b ≠ e)
    have gk : ∀ b, b ≠ e → G'.get? b = h'.get? b := fun b hb => g1 b (decide_eq_true hb)
    have ge : G'.get? e = none := g2 e (by simp)
    have old : ∀ b o, hp.get? b = some o → G'.get? b = some o := fun b o q => (gk b (Nat.ne_of_lt (Nat.lt_of_lt_of_le (Heap.lt_size q) M.new))).trans (M.keep b o q)
    have ob : ObjOk X.prog X.w (upd H1 d (.xd [(("at" : Str), v)])) G' d (.xd [(("at" : Str), v)]) :=
      ⟨_, hns.at (fun o q => (gk d M.dne).trans q), fun f => relO_txt rv f⟩
    have J : Inv X pins σ (upd H1 d (.xd [(("at" : Str), v)])) ⟨G', g, dr, tk', os⟩ := I1.laid (t' := tk') old M.dbig ob
    refine ⟨e, oe, fv, ⟨G', g, dr, tk', os⟩, _, .ref C, some d, rfl, J, fun b o q => ?_, ge, hoe, ⟨hc, hd⟩, hdat, h1, ?_, rfl, I1.bare, raises_own T.exC T.tyC, q1 d (I1.hok.fresh M.dbig)⟩
    · by_cases hb : b = e
      · have q' : G'.get? b = some o := q
        rw [hb, ge] at q'; cases q'
      · exact (gk b hb).symm.trans q
    · rw [upd_ne (Ne.symm M.dne)]
      exact I1.hok.fresh M.new
/-- raise Low(e) -/
def tRaiseTxt (C : Addr) (W : WX) (ta : TA) : TS := fun _ σ H => tMkTxt C ta σ H fun cls d H' => W cls d σ H'
theorem ps_raiseTxt {a : Expr} {ta : TA} {W : WX} {p pos pos2 : Pos} {k : Nat} (hc : X.calm = true) (T : PySem.TxtX.TxtTxt X.K X.mg C fI) (hr : Room k X.A) (tk : Takes X W) (ha : PA X [a] ta) (hg : Gl X "NoText" := by rfl)
    (he : starEach (a :: []) X.env = (false, eval a X.env) :: starEach [] X.env := by rfl) (hpl : (backTo pos (starEach [] X.env)).any (·.1) = false := by rfl) :
    PS X (.Raise (some (.Call (.Name "NoText" p) [a] [] pos)) none pos2) (tRaiseTxt C W ta) := ps_raise hc tk (pmk_txt T hr ha hg he hpl)
end
end L2

set_option Elab.async false
set_option linter.all false
set_option maxRecDepth 100000
set_option maxHeartbeats 4000000
/-! Own layer: defs that may raise, and their calls. -/
namespace L2
open ClX
open PySem PySem.Spec PyProof.Rows
structure OkX (P : Program) (w : World) (K : PySem.W.Frag) (mg : Str → Option Value) (base : Heap) (k : Nat) (f : Addr) (ps : List Str) (sp : Sp) : Prop where
  ex : ∃ fd, FnOk P w K mg base (L2.CX P w) k f fd ps sp ∧ Binds K fd ps []
  kp : PySem.W.keepIn K (.ref f) = true
/-- the same by one keyword (its last parameter) -/
structure OkXK (P : Program) (w : World) (K : PySem.W.Frag) (mg : Str → Option Value) (base : Heap) (k : Nat) (f : Addr) (ps : List Str) (kw : Str) (sp : Sp) : Prop where
  ex : ∃ fd, FnOk P w K mg base (L2.CX P w) k f fd ps sp ∧ KBinds K fd ps [kw] (fun us ws => glue1 us ws) (fun vs zs => glue1 vs zs)
section
variable {P : Program} {w : World} {K : PySem.W.Frag} {mg : Str → Option Value} {base : Heap}
theorem FnT.okX {x qual : Str} {st : Stmt} {f : Addr} {N ps : List Str} {k : Nat} {sp : Sp} (h : FnT K x qual st f) (S : FnScope N ps (defScope st)) (hb : BindsAll st x qual ps)
    (len : ∀ vs H Q E, sp vs H Q E → vs.length = ps.length)
    (body : ∀ (cdv : Value) (A : Around) (outer : List Env) (s : Shared) (H : Hp) (vs : List V) (Q : VK) (E : XK), Room k (A.deeper (envOfC qual (defScope st) s.heap.objs.size f cdv)) → sp vs H Q E →
      ∃ t, PSs (cxOf (L2.CX P w) P w K mg base N qual (defScope st) f cdv A outer s H E) (defBody st) t ∧ t { nx := fun _ H' => Q .non H', rt := Q } (start N vs) H) :
    OkX P w K mg base (k + 1) f ps sp := by
  obtain ⟨fd, F⟩ := h.ex
  exact ⟨⟨fd, F.okX S len body, F.binds hb⟩, F.kp⟩
theorem FnT.okXK {x qual kw p0 : Str} {st : Stmt} {f : Addr} {N : List Str} {k : Nat} {sp : Sp} (h : FnT K x qual st f) (S : FnScope N [p0, kw] (defScope st))
    (hb : ∀ (kV doc pm : Value) (an : Option Addr) (cdv ct u v : Value), bindArgs (PySem.W.fnOf x qual (defArgs st) (defBody st) (defScope st) .none kV doc pm an cdv ct) ⟨[u], [(kw, v)]⟩ = pure [(p0, u), (kw, v)])
    (len : ∀ vs H Q E, sp vs H Q E → vs.length = 2)
    (body : ∀ (cdv : Value) (A : Around) (outer : List Env) (s : Shared) (H : Hp) (vs : List V) (Q : VK) (E : XK), Room k (A.deeper (envOfC qual (defScope st) s.heap.objs.size f cdv)) → sp vs H Q E →
      ∃ t, PSs (cxOf (L2.CX P w) P w K mg base N qual (defScope st) f cdv A outer s H E) (defBody st) t ∧ t { nx := fun _ H' => Q .non H', rt := Q } (start N vs) H) :
    OkXK P w K mg base (k + 1) f [p0, kw] kw sp := by
  obtain ⟨fd, F⟩ := h.ex
  refine ⟨fd, F.okX S len body, F.kbinds 1 [kw] glue1 (fun us ws hl => ?_) (fun r q => ?_) fun kV doc pm an cdv ct us ws h1 h2 => ?_⟩
  · unfold glue1 at hl
    split at hl
    · assumption
    · cases hl
  · unfold glue1
    rw [r.length, q.length]
    split
    · exact r.append q
    · exact .nil
  · match us, h1, ws, h2 with
    | [u], _, [v], _ => exact hb kV doc pm an cdv ct u v
end
/-! ### who takes what is raised: nobody (it is not raised), the def's own callers, a try around -/
section
variable {X : Cx}
theorem atL {σ : St} : PassesAt (L2.CX X.prog X.w) X σ E0 := fun pins H s e s' I c => passL pins σ H s e s' I c
theorem atE {E : XK} (tk : Takes X (fun cls d _ H => E cls d H)) {σ : St} : PassesAt (L2.CX X.prog X.w) X σ E := fun _ _ _ e s' I c => tk e s' (XE.of_call I (fun _ _ _ h => h) c)
end
section
variable {X : Cx} {CX : CXT} {k : Nat} {f C : Addr} {fd : FuncData} {ps : List Str} {kw : Str} {sp : Sp} {E : St → XK} {x m : Str} {p pos apos : Pos} {e o : Expr} {es : List Expr} {kws : List Keyword} {ta : TE} {t tk : TA}
theorem px_call (G : OkX X.prog X.w X.K X.mg X.base k f ps sp) (hx : ∀ σ, PassesAt (L2.CX X.prog X.w) X σ (E σ)) (hr : Room k X.A) (hm : X.mg x = some (.ref f)) (ha : PA X (e :: es) t) (hg : Gl X x := by rfl)
    (hdb : (x == ("__debug__" : Str)) = false := by decide) (he : starEach (e :: es) X.env = (false, eval e X.env) :: starEach es X.env := by rfl) (hpl : (backTo pos (starEach es X.env)).any (·.1) = false := by rfl) :
    PE X (.Call (.Name x p) (e :: es) [] pos) (tCallS sp E t) := by
  obtain ⟨⟨fd, F, b⟩, kp⟩ := G
  exact pe_callS F hr hg hm kp b hx ha hdb he hpl
/-- a method's call by positions; what it raises is wished for at the slots -/
def oMeth (C : Addr) (m : Str) (sp : Sp) (E : St → XK) (ta : TE) (t : TA) : TE := fun σ H Q => ta σ H fun x H1 => ∃ a dx fs, x = .ref a ∧ H1 a = some (.ins C dx fs) ∧ fs.lookup m = none ∧ t σ H1 fun vs H2 => sp (x :: vs) H2 Q (E σ)
def oMethK (C : Addr) (m : Str) (sp : Sp) (E : St → XK) (ta : TE) (tk : TA) : TE := fun σ H Q => ta σ H fun x H1 => ∃ a dx fs, x = .ref a ∧ H1 a = some (.ins C dx fs) ∧ fs.lookup m = none ∧ tk σ H1 fun zs H2 => sp (glue1 [x] zs) H2 Q (E σ)
theorem px_meth {pl : Sem Bool} (c : Cls X.K C) (hm : Meth X.K C m f) (G : OkX X.prog X.w X.K X.mg X.base k f ps sp) (hx : ∀ σ, PassesAt (L2.CX X.prog X.w) X σ (E σ)) (hr : Room k X.A) (he : PE X o ta) (ha : PA X (e :: es) t)
    (hst : starEach (e :: es) X.env = (false, eval e X.env) :: starEach es X.env := by rfl) (hpl : (backTo pos (starEach es X.env)).any (·.1) = false := by rfl)
    (ht : eval (.Call (.Attribute o m apos) (e :: es) [] pos) X.env = (do
      let ov ← eval o X.env
      standAt apos.atName
      let (f, first) ← holding [ov] (getMethod ov m pl)
      callWith pos f first (backTo pos (starEach (e :: es) X.env)) (backToKw pos (keywordEach [] X.env))) := by rfl) :
    PE X (.Call (.Attribute o m apos) (e :: es) [] pos) (oMeth C m sp E ta t) := by
  obtain ⟨⟨fd, F, b⟩, kp⟩ := G
  refine ⟨fun pn s σ H Q I h => PySem.W.methodCall_KW (pl := pl) (thn (he.run pn s σ H _ I h) fun u s1 ⟨x, H1, I1, rx, a, dx, fs, ex, ea, l, q⟩ => ?_) ht⟩
  subst ex
  cases rx
  refine getmeth_ok I1 ea c hm l (PySem.W.callWith_K (first := [.ref a]) (h₀ := X.base) I.ok.mod.kin hm.kp (thn (ha.run pos pn s1 σ H1 _ I1 q) fun us s2 ⟨vs, H2, I2, r, q2⟩ => ⟨I2.kIn, ?_⟩) hst hpl)
  exact run_fnS (us := .ref a :: us) (vs := .ref a :: vs) F hr b (hx σ) I2 (.cons rfl r) q2
theorem px_methK {pl : Sem Bool} (c : Cls X.K C) (hm : Meth X.K C m f) (G : OkXK X.prog X.w X.K X.mg X.base k f ps kw sp) (hx : ∀ σ, PassesAt (L2.CX X.prog X.w) X σ (E σ)) (hr : Room k X.A) (he : PE X o ta)
    (hkw : PK X kws tk) (hall : (backToKw pos (keywordEach kws X.env)).all (·.1.isSome) = true := by rfl) (hks : (backToKw pos (keywordEach kws X.env)).filterMap (·.1) = [kw] := by rfl)
    (hpl : ((backTo pos (starEach [] X.env)).any (·.1) || (backToKw pos (keywordEach kws X.env)).any (·.1.isNone)) = false := by rfl)
    (ht : eval (.Call (.Attribute o m apos) [] kws pos) X.env = (do
      let ov ← eval o X.env
      standAt apos.atName
      let (f, first) ← holding [ov] (getMethod ov m pl)
      callWith pos f first (backTo pos (starEach [] X.env)) (backToKw pos (keywordEach kws X.env))) := by rfl) :
    PE X (.Call (.Attribute o m apos) [] kws pos) (oMethK C m sp E ta tk) := by
  obtain ⟨fd, F, b⟩ := G.ex
  refine ⟨fun pn s σ H Q I h => PySem.W.methodCall_KW (pl := pl) (thn (he.run pn s σ H _ I h) fun u s1 ⟨x, H1, I1, rx, a, dx, fs, ex, ea, l, q⟩ => ?_) ht⟩
  subst ex
  cases rx
  refine getmeth_ok I1 ea c hm l (PySem.W.callWith_KW0 (first := [.ref a]) (h₀ := X.base) I.ok.mod.kin hm.kp hall ?_ hpl)
  refine thn (hkw.run pos pn s1 σ H1 _ I1 q) fun ws s2 ⟨zs, H2, I2, rz, q2⟩ => ⟨I2.kIn, ?_⟩
  rw [hks]
  have rv : Vals (glue1 [V.ref a] zs) (glue1 [Value.ref a] ws) := b.rel (.cons rfl .nil) rz
  have hl : (glue1 [Value.ref a] ws).length = ps.length := by
    rw [← rv.length]
    exact F.len _ _ _ _ q2
  refine wpAny_call (codeAny_mono (F.run X.A X.stack s2 H2 ⟨[.ref a], [kw].zip ws⟩ (glue1 [Value.ref a] ws) (glue1 [V.ref a] zs) Q (E σ) hr I2.env0 (b.to s2 [.ref a] ws I2.kIn hl) rv q2) fun r s3 z => ?_)
  match r, z with
  | .error e2, z => exact hx σ pn H2 s2 e2 s3 I2 z
  | .ok (.ret u2), z => exact I2.after z
  | .ok .next, z => exact z.elim
  | .ok .brk, z => exact z.elim
  | .ok .cont, z => exact z.elim
end
/-! ### the classes of errors -/
structure ErrT (K : PySem.W.Frag) (C : Addr) : Prop where
  xP : PySem.W.excIn K C [.type "ValueError", .type "Exception", .type "BaseException", .type "object"] "ValueError.__new__" = true
  kp : PySem.W.keepIn K (.ref C) = true
  bP : PySem.W.subIn K (.ref C) (.type "BaseException") = some true
  tP : PySem.W.typeIn K (.ref C) = some (.type "type")
/-- isinstance's answer from a subclass's -/
theorem kit_ref {K : PySem.W.Frag} {t : Value} {C : Addr} {b : Bool} (hi : PySem.W.isClsIn K C = true) (ht : PySem.W.typeIn K (.ref C) = some (.type "type")) (hs : PySem.W.subIn K t (.ref C) = some b) (hn : t = .ref C → b = true) : PySem.W.kitOne K t (.ref C) = some b := by
  unfold PySem.W.kitOne
  by_cases e : t = .ref C
  · rw [if_pos (by rw [e]; exact beq_self_eq_true _), hn e]
  · rw [if_neg (fun z => e (eq_of_beq z))]
    have z : ((PySem.W.clsIn K C).isSome && PySem.W.typeIn K (.ref C) == some (.type "type")) = true := by
      have h2 : (PySem.W.clsIn K C).isSome = true := hi
      rw [h2, ht]
      rfl
    show (if ((PySem.W.clsIn K C).isSome && PySem.W.typeIn K (.ref C) == some (.type "type")) = true then PySem.W.subIn K t (.ref C) else none) = some b
    rw [if_pos z]
    exact hs
theorem kit_bty {K : PySem.W.Frag} {D : Addr} {T : String} {b : Bool} (hm : PySem.W.kitMeta T = true) (hs : PySem.W.subIn K (.ref D) (.type T) = some b) : PySem.W.kitOne K (.ref D) (.type T) = some b := by
  unfold PySem.W.kitOne
  rw [if_neg (fun z => by cases (eq_of_beq z))]
  show (if PySem.W.kitMeta T = true then PySem.W.subIn K (.ref D) (.type T) else none) = some b
  rw [if_pos hm]
  exact hs
end L2

/-! Own layer: comprehensions whose inner words are found by the terms. -/
namespace L2
open ClX
open PySem PySem.Spec PyProof.Rows
section
variable {X : Cx}
theorem pe_lcD {elt tg iter : Expr} {ifs : List Expr} {scope : Scope} {own : List (Str × Nat)} {pos : Pos} {wi : TI} {g' : Shared → Hp → Addr → List (Str × Addr) → List Addr → TG} {tt' : Shared → Hp → Addr → List (Str × Addr) → List Addr → TT}
    {te' : Shared → Hp → Addr → List (Str × Addr) → List Addr → TE} (hc : X.calm = true) (hN : X.N.Nodup) (hi : PI X tg iter wi) (ok : BlkOk X.N X.env.scope scope own)
    (hg : ∀ (s : Shared) (H : Hp) (C : Addr) (cl : List (Str × Addr)) (fp : List Addr), PG (X.blk s H scope (compEnvC scope cl C X.env) fp) tg (g' s H C cl fp))
    (ht : ∀ (s : Shared) (H : Hp) (C : Addr) (cl : List (Str × Addr)) (fp : List Addr), PTs (X.blk s H scope (compEnvC scope cl C X.env) fp) ifs (tt' s H C cl fp))
    (he : ∀ (s : Shared) (H : Hp) (C : Addr) (cl : List (Str × Addr)) (fp : List Addr), PE (X.blk s H scope (compEnvC scope cl C X.env) fp) elt (te' s H C cl fp))
    (eg : ∀ s H C cl fp, g' s H C cl fp = g' X.s_0 X.H_0 0 [] [] := by intro _ _ _ _ _; rfl) (et : ∀ s H C cl fp, tt' s H C cl fp = tt' X.s_0 X.H_0 0 [] [] := by intro _ _ _ _ _; rfl)
    (ee : ∀ s H C cl fp, te' s H C cl fp = te' X.s_0 X.H_0 0 [] [] := by intro _ _ _ _ _; rfl) (hs : ∀ x, foldedSetIterable iter X.env x = pure x := by intro _; rfl) :
    PE X (.ListComp elt [⟨tg, iter, ifs, 0⟩] scope pos) (tLc wi (g' X.s_0 X.H_0 0 [] []) (tt' X.s_0 X.H_0 0 [] []) (te' X.s_0 X.H_0 0 [] []) (own.map (·.2))) :=
  pe_lc hc hN hi ok (fun s H C cl fp => eg s H C cl fp ▸ hg s H C cl fp) (fun s H C cl fp => et s H C cl fp ▸ ht s H C cl fp) (fun s H C cl fp => ee s H C cl fp ▸ he s H C cl fp) hs
theorem ps_setLcD {i : Nat} {y : Str} {py : Pos} {elt tg iter : Expr} {ifs : List Expr} {scope : Scope} {own : List (Str × Nat)} {pos spos : Pos} {wi : TI} {g' : Shared → Hp → Addr → List (Str × Addr) → List Addr → TG} {tt' : Shared → Hp → Addr → List (Str × Addr) → List Addr → TT}
    {te' : Shared → Hp → Addr → List (Str × Addr) → List Addr → TE} (hc : X.calm = true) (hN : X.N.Nodup) (hy : X.N[i]? = some y) (hyl : X.env.scope.names.lookup y = some .local)
    (hsw : swapsWith (.ListComp elt [⟨tg, iter, ifs, 0⟩] scope pos) (some (.Name y py)) spos.line X.env = pure true) (hi : PI X tg iter wi) (ok : BlkOk X.N X.env.scope scope own)
    (hg : ∀ (s : Shared) (H : Hp) (C : Addr) (cl : List (Str × Addr)) (fp : List Addr), PG (X.blk s H scope (compEnvC scope cl C X.env) fp) tg (g' s H C cl fp))
    (ht : ∀ (s : Shared) (H : Hp) (C : Addr) (cl : List (Str × Addr)) (fp : List Addr), PTs (X.blk s H scope (compEnvC scope cl C X.env) fp) ifs (tt' s H C cl fp))
    (he : ∀ (s : Shared) (H : Hp) (C : Addr) (cl : List (Str × Addr)) (fp : List Addr), PE (X.blk s H scope (compEnvC scope cl C X.env) fp) elt (te' s H C cl fp))
    (eg : ∀ s H C cl fp, g' s H C cl fp = g' X.s_0 X.H_0 0 [] [] := by intro _ _ _ _ _; rfl) (et : ∀ s H C cl fp, tt' s H C cl fp = tt' X.s_0 X.H_0 0 [] [] := by intro _ _ _ _ _; rfl)
    (ee : ∀ s H C cl fp, te' s H C cl fp = te' X.s_0 X.H_0 0 [] [] := by intro _ _ _ _ _; rfl) (hs : ∀ x, foldedSetIterable iter X.env x = pure x := by intro _; rfl) :
    PS X (.Assign [.Name y py] (.ListComp elt [⟨tg, iter, ifs, 0⟩] scope pos) spos) (tAsg (tLc wi (g' X.s_0 X.H_0 0 [] []) (tt' X.s_0 X.H_0 0 [] []) (te' X.s_0 X.H_0 0 [] []) (own.map (·.2))) (gName i)) :=
  ps_setLc hc hN hy hyl hsw hi ok (fun s H C cl fp => eg s H C cl fp ▸ hg s H C cl fp) (fun s H C cl fp => et s H C cl fp ▸ ht s H C cl fp) (fun s H C cl fp => ee s H C cl fp ▸ he s H C cl fp) hs
end
/-- a def's body keeps its promise -/
def BodyX (P : Program) (w : World) (K : PySem.W.Frag) (mg : Str → Option Value) (base : Heap) (N : List Str) (qual : Str) (st : Stmt) (f : Addr) (k : Nat) (sp : Sp) : Prop :=
  ∀ (cdv : Value) (A : Around) (outer : List Env) (s : Shared) (H : Hp) (vs : List V) (Q : VK) (E : XK), Room k (A.deeper (PyProof.Rows.envOfC qual (defScope st) s.heap.objs.size f cdv)) → sp vs H Q E →
      ∃ t, PSs (cxOf (L2.CX P w) P w K mg base N qual (defScope st) f cdv A outer s H E) (defBody st) t ∧ t { nx := fun _ H' => Q .non H', rt := Q } (start N vs) H
/-! ### what isinstance asks of an instance; entries of any kind -/
structure InsT (K : PySem.W.Frag) (C : Addr) : Prop where
  ha : PySem.W.findIn K (.ref C) "__class__" = some (some (.builtin "object.__class__"))
  hn : PySem.W.specialIn K (.builtin "object.__class__") "__get__" = some (some (.builtin "getset_descriptor.__get__"))
  ht : PySem.W.takesIn K (.builtin "object.__class__") = some true
  hm : PySem.W.mroIn K C (.type "object") = some true
theorem TyOf.same {K : PySem.W.Frag} {H H' : Hp} {v : V} {t : Value} (h : TyOf K H v t) (s : Same H H') : TyOf K H' v t := by
  cases h with
  | non => exact .non
  | bl x => exact .bl x
  | int x => exact .int x
  | str x => exact .str x
  | flt x => exact .flt x
  | lst e => exact .lst (s _ _ e)
  | frz e => exact .frz (s _ _ e)
  | tup e => exact .tup (s _ _ e)
  | dK e => exact .dK (s _ _ e)
  | dT e => exact .dT (s _ _ e)
  | ins e c a b d m => exact .ins (s _ _ e) c a b d m
theorem TyX.same {K : PySem.W.Frag} {H H' : Hp} {v : V} {t : Value} (h : TyX K H v t) (s : Same H H') : TyX K H' v t := by
  cases h with
  | base b => exact .base (b.same s)
  | byt b => exact .byt b
  | set e => exact .set (s _ _ e)
  | kList e c => exact .kList e c
  | kTuple e c => exact .kTuple e c
  | kDict e c => exact .kDict e c
  | fTuple e => exact .fTuple (s _ _ e)
  | fDict e => exact .fDict (s _ _ e)
/-- an entry: a text, or something that is none -/
inductive Ent (K : PySem.W.Frag) (H : Hp) : V → Option Str → Prop where
  | str (x : Str) (h : x.length ≤ 1000) : Ent K H (.str x) (some x)
  | no {v : V} {t : Value} (ty : TyX K H v t) (h : PySem.W.kitOne K t (.type "str") = some false) : Ent K H v none
inductive Ents (K : PySem.W.Frag) (H : Hp) : List V → List (Option Str) → Prop where
  | nil : Ents K H [] []
  | cons {v : V} {o : Option Str} {vs : List V} {os : List (Option Str)} (h : Ent K H v o) (t : Ents K H vs os) : Ents K H (v :: vs) (o :: os)
theorem Ent.same {K : PySem.W.Frag} {H H' : Hp} {v : V} {o : Option Str} (h : Ent K H v o) (s : Same H H') : Ent K H' v o := by
  cases h with
  | str x h => exact .str x h
  | no ty h => exact .no (ty.same s) h
theorem Ents.same {K : PySem.W.Frag} {H H' : Hp} {vs : List V} {os : List (Option Str)} (h : Ents K H vs os) (s : Same H H') : Ents K H' vs os := by
  induction h with
  | nil => exact .nil
  | cons a _ ih => exact .cons (a.same s) ih
theorem Ents.len {K : PySem.W.Frag} {H : Hp} {vs : List V} {os : List (Option Str)} (h : Ents K H vs os) : vs.length = os.length := by
  induction h with
  | nil => rfl
  | cons _ _ ih => rw [List.length_cons, List.length_cons, ih]
theorem Ents.get {K : PySem.W.Frag} {H : Hp} {vs : List V} {os : List (Option Str)} (h : Ents K H vs os) : ∀ {i : Nat} {v : V}, vs[i]? = some v → ∃ o, os[i]? = some o ∧ Ent K H v o := by
  induction h with
  | nil => intro i v e; cases e
  | cons a _ ih =>
    intro i v e
    cases i with
    | zero => cases e; exact ⟨_, rfl, a⟩
    | succ i => exact ih e
theorem Ents.app {K : PySem.W.Frag} {H : Hp} {vs ws : List V} {os us : List (Option Str)} (h : Ents K H vs os) (g : Ents K H ws us) : Ents K H (vs ++ ws) (os ++ us) := by
  induction h with
  | nil => exact g
  | cons a _ ih => exact .cons a ih
theorem Ents.strs {K : PySem.W.Frag} {H : Hp} : ∀ (xs : List Str), (∀ x ∈ xs, x.length ≤ 1000) → Ents K H (xs.map V.str) (xs.map some)
  | [], _ => .nil
  | x :: xs, h => .cons (.str x (h x List.mem_cons_self)) (Ents.strs xs fun y hy => h y (List.mem_cons_of_mem _ hy))
/-- all entries are texts -/
theorem Ents.all {K : PySem.W.Frag} {H : Hp} {vs : List V} {os : List (Option Str)} (h : Ents K H vs os) (p : Option Str → Bool) (hp : p none = false) (a : os.all p = true) : vs = (os.filterMap id).map V.str ∧ os = (os.filterMap id).map some ∧ ∀ x ∈ os.filterMap id, x.length ≤ 1000 := by
  induction h with
  | nil => exact ⟨rfl, rfl, fun x hx => by cases hx⟩
  | cons e _ ih =>
    rw [List.all_cons, Bool.and_eq_true] at a
    obtain ⟨i1, i2, i3⟩ := ih a.2
    cases e with
    | str x hx =>
      refine ⟨congrArg (V.str x :: ·) i1, congrArg (some x :: ·) i2, fun y hy => ?_⟩
      rcases List.mem_cons.mp hy with rfl | hy
      · exact hx
      · exact i3 y hy
    | no ty h => rw [hp] at a; exact absurd a.1 (by decide)
end L2

/-! Own layer: a def that may raise, called by two keywords in the other order. -/
namespace L2
open ClX
open PySem PySem.Spec PyProof.Rows
def swap2 {α : Type} : List α → List α → List α
  | [], [a, b] => [b, a]
  | _, _ => []
structure OkXS (P : Program) (w : World) (K : PySem.W.Frag) (mg : Str → Option Value) (base : Heap) (k : Nat) (f : Addr) (ps ks : List Str) (sp : Sp) : Prop where
  ex : ∃ fd, FnOk P w K mg base (L2.CX P w) k f fd ps sp ∧ KBinds K fd ps ks (fun us ws => swap2 us ws) (fun vs zs => swap2 vs zs)
  kp : PySem.W.keepIn K (.ref f) = true
section
variable {P : Program} {w : World} {K : PySem.W.Frag} {mg : Str → Option Value} {base : Heap}
theorem FnT.okXS {x qual p0 p1 : Str} {st : Stmt} {f : Addr} {N : List Str} {k : Nat} {sp : Sp} (h : FnT K x qual st f) (S : FnScope N [p0, p1] (defScope st))
    (hb : ∀ (kV doc pm : Value) (an : Option Addr) (cdv ct u v : Value), bindArgs (PySem.W.fnOf x qual (defArgs st) (defBody st) (defScope st) .none kV doc pm an cdv ct) ⟨[], [(p1, u), (p0, v)]⟩ = pure [(p0, v), (p1, u)])
    (len : ∀ vs H Q E, sp vs H Q E → vs.length = 2) (body : BodyX P w K mg base N qual st f k sp) : OkXS P w K mg base (k + 1) f [p0, p1] [p1, p0] sp := by
  obtain ⟨fd, F⟩ := h.ex
  refine ⟨⟨fd, F.okX S len body, F.kbinds 0 [p1, p0] swap2 (fun us ws hl => ?_) (fun r q => ?_) fun kV doc pm an cdv ct us ws h1 h2 => ?_⟩, F.kp⟩
  · match us, ws, hl with
    | [], [_, _], _ => exact ⟨rfl, rfl⟩
    | [], [], hl => cases hl
    | [], [_], hl => cases hl
    | [], _ :: _ :: _ :: _, hl => cases hl
    | _ :: _, _, hl => cases hl
  · cases r with
    | nil =>
      cases q with
      | nil => exact .nil
      | cons a q =>
        cases q with
        | nil => exact .nil
        | cons b q =>
          cases q with
          | nil => exact .cons b (.cons a .nil)
          | cons _ _ => exact .nil
    | cons _ _ => exact .nil
  · match us, h1, ws, h2 with
    | [], _, [u, v], _ => exact hb kV doc pm an cdv ct u v
end
def oCallS (sp : Sp) (E : St → XK) (tk : TA) : TE := fun σ H Q => tk σ H fun zs H1 => sp (swap2 [] zs) H1 Q (E σ)
theorem px_callS {X : Cx} {k : Nat} {f : Addr} {ps ks : List Str} {sp : Sp} {E : St → XK} {x : Str} {p pos : Pos} {kws : List Keyword} {tk : TA} (G : OkXS X.prog X.w X.K X.mg X.base k f ps ks sp) (hx : ∀ σ, PassesAt (L2.CX X.prog X.w) X σ (E σ)) (hr : Room k X.A)
    (hm : X.mg x = some (.ref f)) (hkw : PK X kws tk) (hg : Gl X x := by rfl) (hall : (backToKw pos (keywordEach kws X.env)).all (·.1.isSome) = true := by rfl) (hks : (backToKw pos (keywordEach kws X.env)).filterMap (·.1) = ks := by rfl)
    (hdb : (x == ("__debug__" : Str)) = false := by decide) (hpl : ((backTo pos (starEach [] X.env)).any (·.1) || (backToKw pos (keywordEach kws X.env)).any (·.1.isNone)) = false := by rfl) :
    PE X (.Call (.Name x p) [] kws pos) (oCallS sp E tk) := by
  obtain ⟨⟨fd, F, b⟩, kp⟩ := G
  refine ⟨fun pn s σ H Q I h => ?_⟩
  refine wpAny_Call_Name_kw (ld_glob I hg hm ?_ hdb)
  refine PySem.W.callWith_KW0 (first := []) (h₀ := X.base) I.ok.mod.kin kp hall ?_ hpl
  refine thn (hkw.run pos pn s σ H _ I h) fun ws s2 ⟨zs, H2, I2, rz, q2⟩ => ⟨I2.kIn, ?_⟩
  rw [hks]
  have rv : Vals (swap2 [] zs) (swap2 [] ws) := b.rel .nil rz
  have hl : (swap2 [] ws).length = ps.length := by
    rw [← rv.length]
    exact F.len _ _ _ _ q2
  refine wpAny_call (codeAny_mono (F.run X.A X.stack s2 H2 ⟨[], ks.zip ws⟩ (swap2 [] ws) (swap2 [] zs) Q (E σ) hr I2.env0 (b.to s2 [] ws I2.kIn hl) rv q2) fun r s3 z => ?_)
  match r, z with
  | .error e2, z => exact hx σ pn H2 s2 e2 s3 I2 z
  | .ok (.ret u2), z => exact I2.after z
  | .ok .next, z => exact z.elim
  | .ok .brk, z => exact z.elim
  | .ok .cont, z => exact z.elim
end L2

/-! Own layer: a property read off an instance whose class is found at run time; f-strings. -/
namespace L2
open ClX
open PySem PySem.Spec PyProof.Rows
theorem propOf_mk {K : PySem.W.Frag} {C p g : Addr} {f : Str} {rest : List Value} (a : PySem.W.findIn K (.ref C) f = some (some (.ref p))) (b : PySem.W.specialIn K (.ref p) "__get__" = some (some (.builtin "property.__get__"))) (c : PySem.W.takesIn K (.ref p) = some true) (d : PySem.W.recIn K p "property" = some (.ref g :: rest)) : PropOf K C f p g := ⟨a, b, c, rest, d⟩
def tPropD (K : PySem.W.Frag) (f : Str) (p g : Addr) (sp : Sp) (ta : TE) : TE := fun σ H Q => ta σ H fun x H1 => ∃ a C dx fs, x = .ref a ∧ H1 a = some (.ins C dx fs) ∧ Cls K C ∧ PropOf K C f p g ∧ sp [.ref a] H1 Q E0
theorem po_propD {X : Cx} {k : Nat} {p g : Addr} {ps : List Str} {sp : Sp} {e : Expr} {f : Str} {pos : Pos} {ta : TE} (G : Ok1 X.prog X.w X.K X.mg X.base k g ps sp) (hr : Room (k + 1) X.A) (he : PE X e ta) (hab : attributeBase e f X.env (eval e X.env) = eval e X.env := by rfl) :
    PE X (.Attribute e f pos) (tPropD X.K f p g sp ta) := by
  obtain ⟨⟨fd, F, b⟩, kp⟩ := G
  refine ⟨fun pins s σ H Q I h => ?_⟩
  refine attr_of hab (thn (he.run pins s σ H _ I h) fun u s1 ⟨x, H1, I1, rx, a, C, dx, fs, ex, ea, c, hp, q⟩ => ?_)
  subst ex
  obtain rfl : u = Value.ref a := rx
  exact getprop_ok I1 ea c hp F hr b .nil pass0 q
end L2

/-! Own layer: the set that a comprehension makes of texts, and its size. -/
set_option Elab.async false
set_option linter.all false
set_option maxRecDepth 100000
set_option maxHeartbeats 4000000
namespace OwnSet
open PySem PySem.Spec PyProof.Rows L2 PpSet
/-- one more member -/
def putM (ms : List Str) (y : Str) : List Str := if ms.any (· == y) then ms else ms ++ [y]
theorem putM_any (ms : List Str) (y k : Str) : (putM ms y).any (· == k) = (ms.any (· == k) || decide (k = y)) := by
  unfold putM
  split
  · rename_i c
    by_cases e : k = y
    · subst e
      rw [c]
      rfl
    · rw [decide_eq_false e, Bool.or_false]
  · rw [List.any_append]
    congr 1
    simp only [List.any_cons, List.any_nil, Bool.or_false]
    by_cases e : k = y
    · subst e
      simp
    · rw [decide_eq_false e]
      exact beq_eq_false_iff_ne.mpr fun q => e q.symm
theorem putM_len (ms : List Str) (y : Str) : (putM ms y).length = if (ms.any (· == y)) = true then ms.length else ms.length + 1 := by
  unfold putM
  split <;> simp_all
/-- a set of texts at a place -/
def TxS (P : Program) (w : World) (a : Addr) (ms : List Str) : HO := .ext fun h => h.SetOf (PySem.strKind P w) a (fun y => ms.any (· == y)) ms.length
theorem txs_ok {P : Program} {w : World} {H : Hp} {h : Heap} {a : Addr} {ms : List Str} (R : h.SetOf (PySem.strKind P w) a (fun y => ms.any (· == y)) ms.length) : ObjOk P w H h a (TxS P w a ms) := by
  have R' := R
  obtain ⟨o, es, ep, t, ho, r⟩ := R'
  refine ⟨R, ⟨o, ho⟩, fun h1 h2 z k => ?_⟩
  obtain ⟨o', es', ep', t', ho', r'⟩ := z
  exact ⟨o', es', ep', t', k o' ho', r'⟩
section
variable {X : Cx}
theorem txs_get {pins : List (Addr × Obj)} {σ : L2.St} {H : Hp} {s : Shared} {a : Addr} {ms : List Str} (I : Inv X pins σ H s) (ha : H a = some (TxS X.prog X.w a ms)) : s.heap.SetOf (PySem.strKind X.prog X.w) a (fun y => ms.any (· == y)) ms.length := (I.hok a _ ha).1
theorem txs_add {pins : List (Addr × Obj)} {σ : L2.St} {H : Hp} {s : Shared} {E : Value → Shared → Prop} {D : Addr} {ms : List Str} {y : Str} {tk : Tok} {Q : Value → Shared → Prop} (I : Inv X pins σ H s) (hD : H D = some (TxS X.prog X.w D ms)) (room : ms.length + 1 < scanBound)
    (h : ∀ s', Inv X pins σ (upd H D (TxS X.prog X.w D (putM ms y))) s' → Q .none s') : wpAny (model X.prog X.w) X.A (call (.builtin "set.add") [.ref D, .str y tk]) Q E s := by
  refine call_set_add (knd := PySem.strKind X.prog X.w) (strKind_is _ _ y tk) rfl (txs_get I hD) room fun h' sb new => ?_
  have new2 : h'.SetOf (PySem.strKind X.prog X.w) D (fun k => (putM ms y).any (· == k)) (putM ms y).length := SetOf_congr new (fun k => (putM_any ms y k).symm) (putM_len ms y).symm
  have has : ∃ u, h'.get? D = some u := by
    obtain ⟨o, _, _, _, ho, _⟩ := new
    exact ⟨o, ho⟩
  exact h _ (I.write (e := D) (t' := s.toks + 1) (by rw [hD]; trivial) (.inl rfl) (fun b u hb hu => (sb.2 b hb).trans hu) has (txs_ok new2))

/-- {elt for target in iter if ..}, elt a text: D is the set -/
def tSx (P : Program) (w : World) (wi : TI) (g : TG) (tt : TT) (te : TE) (own : List Nat) : TE := fun σ H Q => wi σ H fun J H1 => ∀ D, H1 D = none → ∃ W : Nat → Nat → Hp → Prop, (∃ m, W 0 m (upd H1 D (TxS P w D []))) ∧
  ∀ i m H, W i m H → (J.stop i H ∧ Q (.ref D) H) ∨ (J.go i H ∧ ∃ Nx : Hp → Prop, (∀ H', Nx H' → ∃ m', m' < m ∧ W (i + 1) m' H') ∧ ∀ x H', J.yld i H x H' → g x (wipe σ own) H' fun σ2 H2 => wipe σ2 own = wipe σ own ∧
    tt σ2 H2 fun b H3 => if b = true then te σ2 H3 fun y H4 => ∃ (z : Str) (ms : List Str), y = .str z ∧ H4 D = some (TxS P w D ms) ∧ ms.length + 1 < scanBound ∧ Nx (upd H4 D (TxS P w D (putM ms z))) else Nx H3)
theorem sx_core {pins : List (Addr × Obj)} {s : Shared} {σ : L2.St} {H : Hp} {Q : VK} {elt tg iter : Expr} {ifs : List Expr} {sc : Scope} {own : List (PySem.Str × Nat)} {pos pos' : Pos} {wi : TI} {g : TG} {tt : TT} {te : TE} {Qf : Value → Shared → Prop} {use : Option (Value → Sem Unit)}
    (calm : X.calm = true) (nd : X.N.Nodup) (I : Inv X pins σ H s) (ri : PI X tg iter wi) (blk : BlkOk X.N X.env.scope sc own)
    (rg : ∀ (s : Shared) (H : Hp) (C : Addr) (cl : List (PySem.Str × Addr)) (ex : List Addr), PG (X.blk s H sc (compEnvC sc cl C X.env) ex) tg g)
    (rt : ∀ (s : Shared) (H : Hp) (C : Addr) (cl : List (PySem.Str × Addr)) (ex : List Addr), PTs (X.blk s H sc (compEnvC sc cl C X.env) ex) ifs tt)
    (re : ∀ (s : Shared) (H : Hp) (C : Addr) (cl : List (PySem.Str × Addr)) (ex : List Addr), PE (X.blk s H sc (compEnvC sc cl C X.env) ex) elt te)
    (fold : ∀ x, foldedSetIterable iter X.env x = pure x) (h : tSx X.prog X.w wi g tt te (own.map (·.2)) σ H Q)
    (out : ∀ D C s' m H', Inv X pins σ H' s' → Q (.ref D) H' → s'.heap.Ns C m → FpOk X pins H' C → compPost (model X.prog X.w) X.A X.xe use Qf (.ref D) C (.ok .next) s') :
    wpAny (model X.prog X.w) X.A (comprehension (.SetComp elt [⟨tg, iter, ifs, 0⟩] sc pos) sc X.env pos' (PySem.newSet (.type "set")) false (eval iter X.env) use) Qf X.xe s := by
  have frees : ∀ y ∈ sc.names, y.2 = .free → ∃ c, X.env.cells.lookup y.1 = some c := fun y my e => (blk.free y my e).elim (fun k => I.ok.has _ (.inl k)) (fun k => I.ok.has _ (.inr k))
  refine wpAny_comprehension_free (use := use) rfl fold (closure_ok frees) blk.kind (fun y my e => by rw [blk.uniq y my, e]) (thn (ri.run pins s σ H _ I h) fun xv s1 q1 => thn q1 fun itv s2 q2 => ?_)
  obtain ⟨it, ex, tn, J, H2, rfl, I2, T, st2, f2, q⟩ := q2
  refine wpAny_newSet_of (knd := PySem.strKind X.prog X.w) (fun led fresh => newEnv_comp ?_)
  generalize eD : s2.heap.objs.size = D at fresh
  have freeD : H2 D = none := I2.hok.fresh (Nat.le_of_eq eD)
  obtain ⟨W, ⟨m0, w0⟩, turn⟩ := q D freeD
  generalize e3 : ({ s2 with heap := s2.heap.push { cls := .type "set", dict := none, data := .set #[] 0 (.fresh 0 0 led) } } : Shared) = s3
  have p3 : s3.heap = s2.heap.push { cls := .type "set", dict := none, data := .set #[] 0 (.fresh 0 0 led) } := by rw [← e3]
  have more3 : ∀ b o, s2.heap.get? b = some o → s3.heap.get? b = some o := fun b o z => by rw [p3]; exact Heap.get?_push_of_some _ z
  have new3 : s3.heap.SetOf (PySem.strKind X.prog X.w) D (fun y => ([] : List Str).any (· == y)) ([] : List Str).length := by
    rw [p3]
    exact SetOf_congr fresh (fun _ => rfl) rfl
  have I3 : Inv X pins σ (upd H2 D (TxS X.prog X.w D [])) s3 := by
    have z := I2.laid (h' := s3.heap) (t' := s2.toks) (a := D) more3 (Nat.le_of_eq eD) (txs_ok new3)
    rw [← e3] at z ⊢
    exact z
  have lt2 : ∀ b ∈ ex, b < s2.heap.objs.size := fun b mb => let ⟨_, z, _⟩ := T.obj _ _ st2 b mb; Heap.lt_size z
  have f3 : ∀ b ∈ ex, FpOk X pins (upd H2 D (TxS X.prog X.w D [])) b ∧ b < s3.heap.objs.size := fun b mb => by
    refine ⟨⟨?_, (f2 b mb).2⟩, by rw [p3, Heap.size_push]; exact Nat.lt_succ_of_lt (lt2 b mb)⟩
    have ne : b ≠ D := by rw [← eD]; exact Nat.ne_of_lt (lt2 b mb)
    rw [upd_ne ne]
    exact (f2 b mb).1
  have st3 : tn 0 s3.heap := T.keep _ _ _ st2 fun b _ o z => more3 b o z
  have I4 := block_start I3 blk nd f3
  generalize eH : upd H2 D (TxS X.prog X.w D []) = H3 at w0 I3 f3 I4
  have gg := rg s3 H3 s3.heap.objs.size (cellsFrom (s3.heap.objs.size + 1) sc.names (cloFrom X.env.cells sc.names [])) ex
  have gt := rt s3 H3 s3.heap.objs.size (cellsFrom (s3.heap.objs.size + 1) sc.names (cloFrom X.env.cells sc.names [])) ex
  have ge := re s3 H3 s3.heap.objs.size (cellsFrom (s3.heap.objs.size + 1) sc.names (cloFrom X.env.cells sc.names [])) ex
  have n3 : ∀ b ∈ ex, H3 b = none := fun b mb => (f3 b mb).1.1
  generalize ec : compEnvC sc (cellsFrom (s3.heap.objs.size + 1) sc.names (cloFrom X.env.cells sc.names [])) s3.heap.objs.size X.env = ce at I4 gg gt ge
  have lc : ce.locals = s3.heap.objs.size := by rw [← ec]; rfl
  show codeAny _ _ (.compStart (.SetComp elt [⟨tg, iter, ifs, 0⟩] sc pos) 0 (.ref it) (.ref D) (compEnvC sc (cellsFrom (s3.heap.objs.size + 1) sc.names (cloFrom X.env.cells sc.names [])) s3.heap.objs.size X.env)) (compPost (model X.prog X.w) X.A X.xe use Qf (.ref D) s3.heap.objs.size)
    { s3 with heap := pushCells (s3.heap.push { cls := .type "dict", data := .dict #[] }) sc.names }
  rw [ec]
  generalize e4 : ({ s3 with heap := pushCells (s3.heap.push { cls := .type "dict", data := .dict #[] }) sc.names } : Shared) = s4 at I4 ⊢
  have st4 : tn 0 s4.heap := T.keep _ _ _ st3 fun b _ o z => by
    rw [← e4]
    exact pushCells_keeps _ _ _ _ (Heap.get?_push_of_some _ z)
  have calmFp : ∀ {σ' : L2.St} {H' : Hp} {s' : Shared}, Inv (X.blk s3 H3 sc ce ex) [] σ' H' s' → (∀ b ∈ ex, H' b = none) → ∀ b ∈ ex, FpOk (X.blk s3 H3 sc ce ex) [] H' b := fun {σ' H' s'} J nn b mb =>
    ⟨nn b mb, (J.ok.exf b mb).1, J.ok.exfs b mb, .inl mb, (J.ok.exf b mb).2, fun p mp => absurd (show p ∈ ([] : List (Addr × Obj)) ++ [] from mp) (by simp)⟩
  let Pn : Nat → Shared → Prop := fun n s' => ∃ i H', Inv (X.blk s3 H3 sc ce ex) [] (wipe σ (own.map (·.2))) H' s' ∧ tn i s'.heap ∧ (∀ b ∈ ex, H' b = none) ∧ W i n H'
  have loop : codeAny (model X.prog X.w) X.A (.compLoop (.SetComp elt [⟨tg, iter, ifs, 0⟩] sc pos) 0 (.ref it) (.ref D) ce) (compPost (model X.prog X.w) X.A X.xe use Qf (.ref D) s3.heap.objs.size) s4 := by
    refine compLoopS_any Pn ?_ m0 ⟨0, H3, I4, st4, n3, w0⟩
    rintro n s5 ⟨i, H5, I5, st5, n5, w5⟩
    rcases turn i n H5 w5 with ⟨stop, fin⟩ | ⟨go, Nx, nxt, step⟩
    · refine thnF (T.done (X.blk s3 H3 sc ce ex) rfl rfl rfl calm i [] s5 _ H5 (fun _ _ => False) I5 (calmFp I5 n5) st5 stop) fun r s6 ⟨er, I6⟩ => ?_
      subst er
      have nC : H5 s3.heap.objs.size = none := lc ▸ (show H5 ce.locals = none from I6.free)
      obtain ⟨m, nm, _⟩ := I6.loc
      have nm : s6.heap.Ns s3.heap.objs.size m := lc ▸ (show s6.heap.Ns ce.locals m from nm)
      refine out D s3.heap.objs.size s6 m H5 (I3.call' (ch := ex) I6.os I6.base I6.hok I6.bare fun b mb => ?_) fin nm (I3.fpOk (Nat.le_refl _) nC)
      have z := (f3 b mb).1.2
      exact ⟨z.2.2.1, z.1, z.2.2.2.1, z.2.2.2.2⟩
    · refine thnF (T.item (X.blk s3 H3 sc ce ex) rfl rfl rfl calm i [] s5 _ H5 (fun _ _ => False) I5 (calmFp I5 n5) st5 go) fun r s6 ⟨u, er, q6⟩ => ?_
      subst er
      refine thnF q6 fun _ s7 ⟨x, H7, I7, r7, y7, st7, n7⟩ => ?_
      refine thnF (gg.run _ s7 _ H7 x u _ (I7.pinned (calmFp I7 n7) (T.obj _ _ st7)) r7 (step x H7 y7)) fun _ s8 ⟨σ8, H8, I8, ew, q8⟩ => ?_
      refine thnF (gt.run _ s8 σ8 H8 _ I8 q8) fun b s9 ⟨H9, I9, q9⟩ => ?_
      have again : ∀ {s' : Shared} {H' : Hp}, Inv (X.blk s3 H3 sc ce ex) ([] ++ pinsAt ex s7.heap) σ8 H' s' → Nx H' → ∃ m, m < n ∧ Pn m s' := fun {s' H'} J nx => by
        obtain ⟨m', lm, w'⟩ := nxt H' nx
        have stay : ∀ c ∈ ex, ∀ o, s7.heap.get? c = some o → s'.heap.get? c = some o ∧ H' c = none := fun c mc o z => by
          have y := J.pin (c, o) (List.mem_append_right _ (List.mem_append_right _ (mem_pinsAt mc z)))
          exact ⟨y.1, y.2.1⟩
        refine ⟨m', lm, i + 1, H', (J.unpinned (pins := [])).weak (by rw [← ew, wipe_length]) (fun j v z => ?_), T.keep _ _ _ st7 fun c mc o z => (stay c mc o z).1, fun c mc => ?_, w'⟩
        · rw [← ew] at z
          exact (wipe_some z).1
        · obtain ⟨o, z, _⟩ := T.obj _ _ st7 c mc
          exact (stay c mc o z).2
      have q9 : if b = true then te σ8 H9 (fun y H4 => ∃ (z : Str) (ms : List Str), y = .str z ∧ H4 D = some (TxS X.prog X.w D ms) ∧ ms.length + 1 < scanBound ∧ Nx (upd H4 D (TxS X.prog X.w D (putM ms z)))) else Nx H9 := q9
      by_cases hb : b = true
      · subst hb
        rw [if_pos rfl] at q9 ⊢
        refine thnF (ge.run _ s9 σ8 H9 _ I9 q9) fun z s10 ⟨yv, H10, I10, r10, zt, ms, ey, hD, small, nx⟩ => ?_
        subst ey
        obtain ⟨tk, ez⟩ := r10
        subst ez
        exact txs_add (X := X.blk s3 H3 sc ce ex) I10 hD small fun s11 I11 => again I11 nx
      · rw [if_neg hb] at q9 ⊢
        exact again I9 q9
  exact codeAny_compStart_set loop (T.self X.A 0 _ _ _ st4 loop)
/-- as a value; the inner words are found by the terms -/
theorem pe_sxD {elt tg iter : Expr} {ifs : List Expr} {scope : Scope} {own : List (Str × Nat)} {pos : Pos} {wi : TI} {g' : Shared → Hp → Addr → List (Str × Addr) → List Addr → TG} {tt' : Shared → Hp → Addr → List (Str × Addr) → List Addr → TT}
    {te' : Shared → Hp → Addr → List (Str × Addr) → List Addr → TE} (hc : X.calm = true) (hN : X.N.Nodup) (hi : PI X tg iter wi) (ok : BlkOk X.N X.env.scope scope own)
    (hg : ∀ (s : Shared) (H : Hp) (C : Addr) (cl : List (Str × Addr)) (fp : List Addr), PG (X.blk s H scope (compEnvC scope cl C X.env) fp) tg (g' s H C cl fp))
    (ht : ∀ (s : Shared) (H : Hp) (C : Addr) (cl : List (Str × Addr)) (fp : List Addr), PTs (X.blk s H scope (compEnvC scope cl C X.env) fp) ifs (tt' s H C cl fp))
    (he : ∀ (s : Shared) (H : Hp) (C : Addr) (cl : List (Str × Addr)) (fp : List Addr), PE (X.blk s H scope (compEnvC scope cl C X.env) fp) elt (te' s H C cl fp))
    (eg : ∀ s H C cl fp, g' s H C cl fp = g' X.s_0 X.H_0 0 [] [] := by intro _ _ _ _ _; rfl) (et : ∀ s H C cl fp, tt' s H C cl fp = tt' X.s_0 X.H_0 0 [] [] := by intro _ _ _ _ _; rfl)
    (ee : ∀ s H C cl fp, te' s H C cl fp = te' X.s_0 X.H_0 0 [] [] := by intro _ _ _ _ _; rfl) (hs : ∀ x, foldedSetIterable iter X.env x = pure x := by intro _; rfl) :
    PE X (.SetComp elt [⟨tg, iter, ifs, 0⟩] scope pos) (tSx X.prog X.w wi (g' X.s_0 X.H_0 0 [] []) (tt' X.s_0 X.H_0 0 [] []) (te' X.s_0 X.H_0 0 [] []) (own.map (·.2))) := by
  refine ⟨fun pins s σ H Q I h => ?_⟩
  rw [eval_SetComp]
  refine sx_core hc hN I hi ok (fun s H C cl fp => eg s H C cl fp ▸ hg s H C cl fp) (fun s H C cl fp => et s H C cl fp ▸ ht s H C cl fp) (fun s H C cl fp => ee s H C cl fp ▸ he s H C cl fp) hs h fun D C s' m H' J q nm f => ⟨m, nm, fun h2 sb => ?_⟩
  obtain ⟨a0, a1, _, a3, a4, a5⟩ := f
  exact ⟨.ref D, H', J.turned (t' := s'.toks) (fun b o ne e => (sb.2 b ne).trans e) a0 a1 a3 a4 a5, rfl, q⟩
/-- len of a set of texts -/
def rLenTx (P : Program) (w : World) : List V → Hp → VK → Prop := fun xs H Q => ∃ (a : Addr) (ms : List Str), xs = [V.ref a] ∧ H a = some (TxS P w a ms) ∧ ms.length < scanBound ∧ Q (.int (ms.length : Nat)) H
theorem call_lenTx : CallR X (.builtin "len") (rLenTx X.prog X.w) := by
  intro pins s σ H xs us Q I r h
  obtain ⟨a, ms, rfl, ha, small, q⟩ := h
  cases r with
  | cons ra rt =>
    cases rt
    cases ra
    obtain ⟨o, es, ep, t, ho, hex, hd, _, _, _, hf, hn⟩ := txs_get I ha
    exact call_len_set ho hex hd hf (by rw [hn]; unfold scanBound at small; omega) ⟨.int _, H, I.tok _, ⟨_, by rw [hn]⟩, q⟩
/-- over a list that the block leaves as it is -/
theorem sx_list {P : Program} {w : World} {K : PySem.W.Frag} {a : Addr} {xs : List V} {g : TG} {tt : TT} {te : TE} {vs : List Nat} {σ : L2.St} {H1 : Hp} {D : Addr} {Qd : Hp → Prop} (Pv : Nat → Hp → Prop) (h0 : Pv 0 (upd H1 D (TxS P w D []))) (hl : ∀ i H, i ≤ xs.length → Pv i H → SqL K H a xs)
    (hs : ∀ i x H, xs[i]? = some x → Pv i H → g x (wipe σ vs) H fun σ2 H2 => wipe σ2 vs = wipe σ vs ∧ tt σ2 H2 fun b H3 =>
      if b = true then te σ2 H3 fun y H4 => ∃ (z : Str) (ms : List Str), y = .str z ∧ H4 D = some (TxS P w D ms) ∧ ms.length + 1 < scanBound ∧ Pv (i + 1) (upd H4 D (TxS P w D (putM ms z))) else Pv (i + 1) H3) (hd : ∀ H, Pv xs.length H → Qd H) :
    ∃ W : Nat → Nat → Hp → Prop, (∃ m, W 0 m (upd H1 D (TxS P w D []))) ∧ ∀ i m H, W i m H → ((Itl K a).stop i H ∧ Qd H) ∨ ((Itl K a).go i H ∧ ∃ Nx : Hp → Prop, (∀ H', Nx H' → ∃ m', m' < m ∧ W (i + 1) m' H') ∧
      ∀ x H', (Itl K a).yld i H x H' → g x (wipe σ vs) H' fun σ2 H2 => wipe σ2 vs = wipe σ vs ∧ tt σ2 H2 fun b H3 =>
        if b = true then te σ2 H3 fun y H4 => ∃ (z : Str) (ms : List Str), y = .str z ∧ H4 D = some (TxS P w D ms) ∧ ms.length + 1 < scanBound ∧ Nx (upd H4 D (TxS P w D (putM ms z))) else Nx H3) := by
  refine ⟨fun i m H => i ≤ xs.length ∧ m + i = xs.length ∧ Pv i H, ⟨xs.length, Nat.zero_le _, rfl, h0⟩, ?_⟩
  rintro i m H ⟨le, sum, p⟩
  have sq := hl i H le p
  rcases Nat.lt_or_eq_of_le le with lt | rfl
  · refine .inr ⟨⟨xs, xs[i], sq, List.getElem?_eq_getElem lt⟩, Pv (i + 1), fun H' p' => ⟨m - 1, by omega, lt, by omega, p'⟩, ?_⟩
    rintro x H' ⟨rfl, y⟩
    exact hs i x _ (y xs sq) p
  · exact .inl ⟨⟨xs, sq, Nat.le_refl _⟩, hd H p⟩
/-- a list beside the empty one, whatever its entries are -/
def rNil (K : PySem.W.Frag) (f : Bool → Bool) : R2 := fun x y H Q => ∃ (a b : Addr) (xs : List V), x = .ref a ∧ y = .ref b ∧ SqL K H a xs ∧ SqL K H b [] ∧ Q (.bl (f (decide (xs = [])))) H
theorem op_eqNil (hu : X.A.units + 64 < cLine) : OpR X (compareOp .Eq) (rNil X.K id) := by
  intro pins s σ H x y v u Q I rx ry h
  obtain ⟨a, b, xs, rfl, rfl, ha, hb, q⟩ := h
  cases rx
  cases ry
  obtain ⟨is, r1, l1, _⟩ := I.list ha
  obtain ⟨js, r2, l2, _⟩ := I.list hb
  cases r2
  cases xs with
  | nil =>
    cases r1
    exact SeqAt.eq_listAt (e := fun _ => true) l1.isList l2.isList rfl (by omega) (fun j h1 _ => absurd h1 (Nat.not_lt_zero _)) ⟨.bl _, H, I, rfl, q⟩
  | cons z zs =>
    cases r1
    exact SeqAt.eq_list_lengthsAt l1.isList l2.isList rfl (by omega) ⟨.bl _, H, I, rfl, q⟩
theorem op_neNil (hu : X.A.units + 64 < cLine) : OpR X (compareOp .NotEq) (rNil X.K fun b => !b) := by
  intro pins s σ H x y v u Q I rx ry h
  obtain ⟨a, b, xs, rfl, rfl, ha, hb, q⟩ := h
  cases rx
  cases ry
  obtain ⟨is, r1, l1, _⟩ := I.list ha
  obtain ⟨js, r2, l2, _⟩ := I.list hb
  cases r2
  cases xs with
  | nil =>
    cases r1
    exact SeqAt.RcNeAt.lists (e := fun _ => true) l1.isList l2.isList rfl (by omega) (fun j h1 _ => absurd h1 (Nat.not_lt_zero _)) _ _ _ _ ⟨.bl _, H, I, rfl, q⟩
  | cons z zs =>
    cases r1
    exact SeqAt.RcNeAt.lists_lengths l1.isList l2.isList rfl (by omega) _ _ _ _ ⟨.bl _, H, I, rfl, q⟩
end
end OwnSet
namespace L2
open ClX
open PySem PySem.Spec PyProof.Rows
def only1 {α : Type} : List α → List α → List α
  | [], [a] => [a]
  | _, _ => []
/-- a def of one parameter, called by its name -/
structure OkX1 (P : Program) (w : World) (K : PySem.W.Frag) (mg : Str → Option Value) (base : Heap) (k : Nat) (f : Addr) (ps : List Str) (sp : Sp) : Prop where
  ex : ∃ fd, FnOk P w K mg base (L2.CX P w) k f fd ps sp ∧ KBinds K fd ps ps (fun us ws => only1 us ws) (fun vs zs => only1 vs zs)
  kp : PySem.W.keepIn K (.ref f) = true
section
variable {P : Program} {w : World} {K : PySem.W.Frag} {mg : Str → Option Value} {base : Heap}
theorem FnT.okX1 {x qual p0 : Str} {st : Stmt} {f : Addr} {N : List Str} {k : Nat} {sp : Sp} (h : FnT K x qual st f) (S : FnScope N [p0] (defScope st))
    (hb : ∀ (kV doc pm : Value) (an : Option Addr) (cdv ct u : Value), bindArgs (PySem.W.fnOf x qual (defArgs st) (defBody st) (defScope st) .none kV doc pm an cdv ct) ⟨[], [(p0, u)]⟩ = pure [(p0, u)])
    (len : ∀ vs H Q E, sp vs H Q E → vs.length = 1) (body : BodyX P w K mg base N qual st f k sp) : OkX1 P w K mg base (k + 1) f [p0] sp := by
  obtain ⟨fd, F⟩ := h.ex
  refine ⟨⟨fd, F.okX S len body, F.kbinds 0 [p0] only1 (fun us ws hl => ?_) (fun r q => ?_) fun kV doc pm an cdv ct us ws h1 h2 => ?_⟩, F.kp⟩
  · match us, ws, hl with
    | [], [_], _ => exact ⟨rfl, rfl⟩
    | [], [], hl => cases hl
    | [], _ :: _ :: _, hl => cases hl
    | _ :: _, _, hl => cases hl
  · cases r with
    | nil =>
      cases q with
      | nil => exact .nil
      | cons a q =>
        cases q with
        | nil => exact .cons a .nil
        | cons _ _ => exact .nil
    | cons _ _ => exact .nil
  · match us, h1, ws, h2 with
    | [], _, [u], _ => exact hb kV doc pm an cdv ct u
end
def oCall1 (sp : Sp) (E : St → XK) (tk : TA) : TE := fun σ H Q => tk σ H fun zs H1 => sp (only1 [] zs) H1 Q (E σ)
theorem px_call1 {X : Cx} {k : Nat} {f : Addr} {ps : List Str} {sp : Sp} {E : St → XK} {x : Str} {p pos : Pos} {kws : List Keyword} {tk : TA} (G : OkX1 X.prog X.w X.K X.mg X.base k f ps sp) (hx : ∀ σ, PassesAt (L2.CX X.prog X.w) X σ (E σ)) (hr : Room k X.A)
    (hm : X.mg x = some (.ref f)) (hkw : PK X kws tk) (hg : Gl X x := by rfl) (hall : (backToKw pos (keywordEach kws X.env)).all (·.1.isSome) = true := by rfl) (hks : (backToKw pos (keywordEach kws X.env)).filterMap (·.1) = ps := by rfl)
    (hdb : (x == ("__debug__" : Str)) = false := by decide) (hpl : ((backTo pos (starEach [] X.env)).any (·.1) || (backToKw pos (keywordEach kws X.env)).any (·.1.isNone)) = false := by rfl) :
    PE X (.Call (.Name x p) [] kws pos) (oCall1 sp E tk) := by
  obtain ⟨⟨fd, F, b⟩, kp⟩ := G
  refine ⟨fun pn s σ H Q I h => wpAny_Call_Name_kw (ld_glob I hg hm ?_ hdb)⟩
  refine PySem.W.callWith_KW0 (first := []) (h₀ := X.base) I.ok.mod.kin kp hall ?_ hpl
  refine thn (hkw.run pos pn s σ H _ I h) fun ws s2 ⟨zs, H2, I2, rz, q2⟩ => ⟨I2.kIn, ?_⟩
  rw [hks]
  have rv : Vals (only1 [] zs) (only1 [] ws) := b.rel .nil rz
  have hl : (only1 [] ws).length = ps.length := by
    rw [← rv.length]
    exact F.len _ _ _ _ q2
  refine wpAny_call (codeAny_mono (F.run X.A X.stack s2 H2 ⟨[], ps.zip ws⟩ (only1 [] ws) (only1 [] zs) Q (E σ) hr I2.env0 (b.to s2 [] ws I2.kIn hl) rv q2) fun r s3 z => ?_)
  match r, z with
  | .error e2, z => exact hx σ pn H2 s2 e2 s3 I2 z
  | .ok (.ret u2), z => exact I2.after z
  | .ok .next, z => exact z.elim
  | .ok .brk, z => exact z.elim
  | .ok .cont, z => exact z.elim
end L2

/-! Own layer: a new dict that a loop goes over at once; dict comprehensions over any walk. -/
set_option Elab.async false
set_option linter.all false
set_option maxRecDepth 100000
set_option maxHeartbeats 4000000
namespace L2
open ClX
open PySem PySem.Spec PyProof.Rows
section
variable {X : Cx}
/-- a thing that is made here and left as it is from here on -/
def tFreeze (td : TE) : TE := fun σ H Q => td σ H fun x H1 => ∃ d u, x = .ref d ∧ H1 d = some u ∧ Mut (some u) ∧ ∀ od, Q x (upd H1 d (.frz od u))
theorem pe_freeze {e : Expr} {td : TE} (he : PE X e td) : PE X e (tFreeze td) := by
  refine ⟨fun pins s σ H Q I h => thn (he.run pins s σ H _ I h) fun v s1 ⟨x, H1, I1, r1, d, u, ex, hd, mu, q⟩ => ?_⟩
  obtain ⟨od, I2⟩ := I1.lock hd mu
  exact ⟨x, _, I2, r1, q od⟩
theorem pe_dcD {kx vx tg iter : Expr} {ifs : List Expr} {scope : Scope} {own : List (Str × Nat)} {pos : Pos} {wi : TI} {g' : Shared → Hp → Addr → List (Str × Addr) → List Addr → TG} {tt' : Shared → Hp → Addr → List (Str × Addr) → List Addr → TT}
    {tk' tv' : Shared → Hp → Addr → List (Str × Addr) → List Addr → TE} (hc : X.calm = true) (hN : X.N.Nodup) (hi : PI X tg iter wi) (ok : BlkOk X.N X.env.scope scope own)
    (hg : ∀ (s : Shared) (H : Hp) (C : Addr) (cl : List (Str × Addr)) (fp : List Addr), PG (X.blk s H scope (compEnvC scope cl C X.env) fp) tg (g' s H C cl fp))
    (ht : ∀ (s : Shared) (H : Hp) (C : Addr) (cl : List (Str × Addr)) (fp : List Addr), PTs (X.blk s H scope (compEnvC scope cl C X.env) fp) ifs (tt' s H C cl fp))
    (hk : ∀ (s : Shared) (H : Hp) (C : Addr) (cl : List (Str × Addr)) (fp : List Addr), PE (X.blk s H scope (compEnvC scope cl C X.env) fp) kx (tk' s H C cl fp))
    (he : ∀ (s : Shared) (H : Hp) (C : Addr) (cl : List (Str × Addr)) (fp : List Addr), PE (X.blk s H scope (compEnvC scope cl C X.env) fp) vx (tv' s H C cl fp))
    (eg : ∀ s H C cl fp, g' s H C cl fp = g' X.s_0 X.H_0 0 [] [] := by intro _ _ _ _ _; rfl) (et : ∀ s H C cl fp, tt' s H C cl fp = tt' X.s_0 X.H_0 0 [] [] := by intro _ _ _ _ _; rfl)
    (ek : ∀ s H C cl fp, tk' s H C cl fp = tk' X.s_0 X.H_0 0 [] [] := by intro _ _ _ _ _; rfl) (ee : ∀ s H C cl fp, tv' s H C cl fp = tv' X.s_0 X.H_0 0 [] [] := by intro _ _ _ _ _; rfl)
    (hs : ∀ x, foldedSetIterable iter X.env x = pure x := by intro _; rfl) :
    PE X (.DictComp kx vx [⟨tg, iter, ifs, 0⟩] scope pos) (tDc wi (g' X.s_0 X.H_0 0 [] []) (tt' X.s_0 X.H_0 0 [] []) (tk' X.s_0 X.H_0 0 [] []) (tv' X.s_0 X.H_0 0 [] []) (own.map (·.2))) :=
  pe_dc hc hN hi ok (fun s H C cl fp => eg s H C cl fp ▸ hg s H C cl fp) (fun s H C cl fp => et s H C cl fp ▸ ht s H C cl fp) (fun s H C cl fp => ek s H C cl fp ▸ hk s H C cl fp) (fun s H C cl fp => ee s H C cl fp ▸ he s H C cl fp) hs
/-- a dict comprehension over any walk -/
theorem dc_it {J : It} {n : Nat} {G : Hp → Prop} {Y : Nat → Hp → V → Hp → Prop} (w : Walk J n G Y) {g : TG} {tt : TT} {tk tv : TE} {vs : List Nat} {σ : St} {H1 : Hp} {D : Addr} {Qd : Hp → Prop} (Pv : Nat → Hp → Prop) (h0 : Pv 0 (upd H1 D (.dK []))) (hG : ∀ i H, i ≤ n → Pv i H → G H)
    (hs : ∀ i x H H', i < n → Pv i H → Y i H x H' → g x (wipe σ vs) H' fun σ2 H2 => wipe σ2 vs = wipe σ vs ∧ tt σ2 H2 fun b H3 =>
      if b = true then tk σ2 H3 fun y H4 => tv σ2 H4 fun z H5 => ∃ kvs k, y = kV k ∧ H5 D = some (.dK kvs) ∧ kvs.length < sizeLine ∧ Pv (i + 1) (upd H5 D (.dK (putK kvs k z))) else Pv (i + 1) H3) (hd : ∀ H, Pv n H → Qd H) :
    ∃ W : Nat → Nat → Hp → Prop, (∃ m, W 0 m (upd H1 D (.dK []))) ∧ ∀ i m H, W i m H → (J.stop i H ∧ Qd H) ∨ (J.go i H ∧ ∃ Nx : Hp → Prop, (∀ H', Nx H' → ∃ m', m' < m ∧ W (i + 1) m' H') ∧
      ∀ x H', J.yld i H x H' → g x (wipe σ vs) H' fun σ2 H2 => wipe σ2 vs = wipe σ vs ∧ tt σ2 H2 fun b H3 =>
        if b = true then tk σ2 H3 fun y H4 => tv σ2 H4 fun z H5 => ∃ kvs k, y = kV k ∧ H5 D = some (.dK kvs) ∧ kvs.length < sizeLine ∧ Nx (upd H5 D (.dK (putK kvs k z))) else Nx H3) := by
  refine ⟨fun i m H => i ≤ n ∧ m + i = n ∧ Pv i H, ⟨n, Nat.zero_le _, rfl, h0⟩, ?_⟩
  rintro i m H ⟨le, sum, p⟩
  have ok := hG i H le p
  rcases Nat.lt_or_eq_of_le le with lt | rfl
  · exact .inr ⟨w.goes i H lt ok, Pv (i + 1), fun H' p' => ⟨m - 1, by omega, lt, by omega, p'⟩, fun x H' y => hs i x H H' lt p (w.yields i H x H' lt ok y)⟩
  · exact .inl ⟨w.stops H ok, hd H p⟩
end
end L2

/-! Own layer: a def that may raise, called by three keywords in the opposite order. -/
namespace L2
open ClX
open PySem PySem.Spec PyProof.Rows
def swap3 {α : Type} : List α → List α → List α
  | [], [a, b, c] => [c, b, a]
  | _, _ => []
structure OkX3 (P : Program) (w : World) (K : PySem.W.Frag) (mg : Str → Option Value) (base : Heap) (k : Nat) (f : Addr) (ps ks : List Str) (sp : Sp) : Prop where
  ex : ∃ fd, FnOk P w K mg base (L2.CX P w) k f fd ps sp ∧ KBinds K fd ps ks (fun us ws => swap3 us ws) (fun vs zs => swap3 vs zs)
  kp : PySem.W.keepIn K (.ref f) = true
section
variable {P : Program} {w : World} {K : PySem.W.Frag} {mg : Str → Option Value} {base : Heap}
theorem FnT.okX3 {x qual p0 p1 p2 : Str} {st : Stmt} {f : Addr} {N : List Str} {k : Nat} {sp : Sp} (h : FnT K x qual st f) (S : FnScope N [p0, p1, p2] (defScope st))
    (hb : ∀ (kV doc pm : Value) (an : Option Addr) (cdv ct u v y : Value), bindArgs (PySem.W.fnOf x qual (defArgs st) (defBody st) (defScope st) .none kV doc pm an cdv ct) ⟨[], [(p2, u), (p1, v), (p0, y)]⟩ = pure [(p0, y), (p1, v), (p2, u)])
    (len : ∀ vs H Q E, sp vs H Q E → vs.length = 3) (body : BodyX P w K mg base N qual st f k sp) : OkX3 P w K mg base (k + 1) f [p0, p1, p2] [p2, p1, p0] sp := by
  obtain ⟨fd, F⟩ := h.ex
  refine ⟨⟨fd, F.okX S len body, F.kbinds 0 [p2, p1, p0] swap3 (fun us ws hl => ?_) (fun r q => ?_) fun kV doc pm an cdv ct us ws h1 h2 => ?_⟩, F.kp⟩
  · match us, ws, hl with
    | [], [_, _, _], _ => exact ⟨rfl, rfl⟩
    | [], [], hl => cases hl
    | [], [_], hl => cases hl
    | [], [_, _], hl => cases hl
    | [], _ :: _ :: _ :: _ :: _, hl => cases hl
    | _ :: _, _, hl => cases hl
  · cases r with
    | nil =>
      cases q with
      | nil => exact .nil
      | cons a q =>
        cases q with
        | nil => exact .nil
        | cons b q =>
          cases q with
          | nil => exact .nil
          | cons c q =>
            cases q with
            | nil => exact .cons c (.cons b (.cons a .nil))
            | cons _ _ => exact .nil
    | cons _ _ => exact .nil
  · match us, h1, ws, h2 with
    | [], _, [u, v, y], _ => exact hb kV doc pm an cdv ct u v y
end
def oCall3 (sp : Sp) (E : St → XK) (tk : TA) : TE := fun σ H Q => tk σ H fun zs H1 => sp (swap3 [] zs) H1 Q (E σ)
theorem px_call3 {X : Cx} {k : Nat} {f : Addr} {ps ks : List Str} {sp : Sp} {E : St → XK} {x : Str} {p pos : Pos} {kws : List Keyword} {tk : TA} (G : OkX3 X.prog X.w X.K X.mg X.base k f ps ks sp) (hx : ∀ σ, PassesAt (L2.CX X.prog X.w) X σ (E σ)) (hr : Room k X.A)
    (hm : X.mg x = some (.ref f)) (hkw : PK X kws tk) (hg : Gl X x := by rfl) (hall : (backToKw pos (keywordEach kws X.env)).all (·.1.isSome) = true := by rfl) (hks : (backToKw pos (keywordEach kws X.env)).filterMap (·.1) = ks := by rfl)
    (hdb : (x == ("__debug__" : Str)) = false := by decide) (hpl : ((backTo pos (starEach [] X.env)).any (·.1) || (backToKw pos (keywordEach kws X.env)).any (·.1.isNone)) = false := by rfl) :
    PE X (.Call (.Name x p) [] kws pos) (oCall3 sp E tk) := by
  obtain ⟨⟨fd, F, b⟩, kp⟩ := G
  refine ⟨fun pn s σ H Q I h => ?_⟩
  refine wpAny_Call_Name_kw (ld_glob I hg hm ?_ hdb)
  refine PySem.W.callWith_KW0 (first := []) (h₀ := X.base) I.ok.mod.kin kp hall ?_ hpl
  refine thn (hkw.run pos pn s σ H _ I h) fun ws s2 ⟨zs, H2, I2, rz, q2⟩ => ⟨I2.kIn, ?_⟩
  rw [hks]
  have rv : Vals (swap3 [] zs) (swap3 [] ws) := b.rel .nil rz
  have hl : (swap3 [] ws).length = ps.length := by
    rw [← rv.length]
    exact F.len _ _ _ _ q2
  refine wpAny_call (codeAny_mono (F.run X.A X.stack s2 H2 ⟨[], ks.zip ws⟩ (swap3 [] ws) (swap3 [] zs) Q (E σ) hr I2.env0 (b.to s2 [] ws I2.kIn hl) rv q2) fun r s3 z => ?_)
  match r, z with
  | .error e2, z => exact hx σ pn H2 s2 e2 s3 I2 z
  | .ok (.ret u2), z => exact I2.after z
  | .ok .next, z => exact z.elim
  | .ok .brk, z => exact z.elim
  | .ok .cont, z => exact z.elim
end L2

/-! Own layer: max of a list of whole numbers, with default=. -/
set_option Elab.async false
set_option linter.all false
set_option maxRecDepth 100000
set_option maxHeartbeats 4000000
namespace L2
open ClX
open PySem PySem.Spec PyProof.Rows
theorem fold_max : ∀ (ns : List Int) (n : Int), (ns.foldl max n ∈ n :: ns) ∧ ∀ y ∈ n :: ns, y ≤ ns.foldl max n
  | [], n => ⟨List.mem_cons_self, fun y hy => by rw [List.mem_singleton.mp hy]; exact Int.le_refl _⟩
  | k :: ns, n => by
    obtain ⟨a, b⟩ := fold_max ns (max n k)
    have hm : max n k = n ∨ max n k = k := by omega
    have h1 : n ≤ max n k := by omega
    have h2 : k ≤ max n k := by omega
    have top := b _ List.mem_cons_self
    refine ⟨?_, fun y hy => ?_⟩
    · show ns.foldl max (max n k) ∈ n :: k :: ns
      rcases List.mem_cons.mp a with e | e
      · rw [e]
        rcases hm with z | z
        · rw [z]; exact List.mem_cons_self
        · rw [z]; exact List.mem_cons_of_mem _ List.mem_cons_self
      · exact List.mem_cons_of_mem _ (List.mem_cons_of_mem _ e)
    · show y ≤ ns.foldl max (max n k)
      rcases List.mem_cons.mp hy with e | hy
      · rw [e]; exact Int.le_trans h1 top
      · rcases List.mem_cons.mp hy with e | hy
        · rw [e]; exact Int.le_trans h2 top
        · exact b y (List.mem_cons_of_mem _ hy)
def rMaxDef (K : PySem.W.Frag) : List V → List V → Hp → VK → Prop := fun xs zs H Q => ∃ (a : Addr) (ns : List Int) (d : Int), xs = [.ref a] ∧ zs = [.int d] ∧ SqL K H a (ns.map V.int) ∧ (ns = [] → Q (.int d) H) ∧ ∀ m, m ∈ ns → (∀ y ∈ ns, y ≤ m) → Q (.int m) H
theorem dpInts {K : PySem.W.Frag} {H : Hp} : ∀ ns : List Int, DpAll K H (ns.map V.int) (ns.map PyData.int)
  | [] => .nil
  | n :: ns => .cons (.int n) (dpInts ns)
theorem depth_ints : ∀ ns : List Int, PyData.depthAll (ns.map PyData.int) = 0
  | [] => by simp [PyData.depthAll]
  | n :: ns => by simp [PyData.depthAll, PyData.depth, depth_ints ns]
theorem call_maxDef {X : Cx} (hc : X.calm = true) (hu : X.A.units + 64 < cLine) : CallRK X (.builtin "max") [Str.ofString "default"] (rMaxDef X.K) := by
  intro pins s σ H vs zs us ws Q I r rz h
  obtain ⟨a, ns, d, rfl, rfl, hs, q0, q1⟩ := h
  obtain rfl := Vals.ref1 r
  obtain ⟨w1, rfl, e1⟩ := vals1 rz
  obtain ⟨t, rfl⟩ := e1
  obtain ⟨its, rv, hl, hz⟩ := I.list hs
  obtain ⟨as, ra⟩ := Dp.readsAll I _ _ _ (dpInts ns) rv
  refine PySem.W.max_list_default (I.ok.hd hc) hl.isList ra ⟨fun x hx y hy => ?_, fun x hx => ?_⟩ ?_ (fun e h' tk hk => ⟨.int d, H, I.kept hk, ⟨t, rfl⟩, q0 (List.map_eq_nil_iff.mp e)⟩) (fun y ys i v h' tk bs e hv hr hk => ?_)
  · obtain ⟨i, _, rfl⟩ := List.mem_map.mp hx
    obtain ⟨j, _, rfl⟩ := List.mem_map.mp hy
    rfl
  · obtain ⟨i, _, rfl⟩ := List.mem_map.mp hx
    exact fun z => by cases z
  · rw [depth_ints]
    omega
  · cases ns with
    | nil => cases e
    | cons n ns =>
      obtain ⟨e1, e2⟩ := List.cons.inj e
      subst e1 e2
      rw [PySem.W.maxD_ints] at hr
      cases hr
      obtain ⟨m1, m2⟩ := fold_max ns n
      exact ⟨.int (ns.foldl max n), H, I.kept hk, ⟨_, rfl⟩, q1 _ m1 m2⟩
end L2

/-! Own layer: a method of an object whose class is found at run time. -/
set_option Elab.async false
set_option linter.all false
set_option maxRecDepth 100000
set_option maxHeartbeats 4000000
namespace L2
open ClX
open PySem PySem.Spec PyProof.Rows
theorem Room.units65 {k : Nat} {A : Around} (r : Room k A) : A.units + 65 < cLine := by have := r.un; omega
def tMethD (K : PySem.W.Frag) (m : Str) (f : Addr) (sp : Sp) (ta : TE) (t : TA) : TE := fun σ H Q => ta σ H fun x H1 => ∃ a C dx fs, x = .ref a ∧ H1 a = some (.ins C dx fs) ∧ fs.lookup m = none ∧ Cls K C ∧ Meth K C m f ∧ t σ H1 fun vs H2 => sp (x :: vs) H2 Q E0
theorem po_methD {X : Cx} {k : Nat} {f : Addr} {ps : List Str} {sp : Sp} {m : Str} {pos apos : Pos} {e o : Expr} {es : List Expr} {ta : TE} {t : TA} {pl : Sem Bool} (G : Ok1 X.prog X.w X.K X.mg X.base k f ps sp) (hr : Room k X.A) (he : PE X o ta) (ha : PA X (e :: es) t)
    (hst : starEach (e :: es) X.env = (false, eval e X.env) :: starEach es X.env := by rfl) (hpl : (backTo pos (starEach es X.env)).any (·.1) = false := by rfl)
    (ht : eval (.Call (.Attribute o m apos) (e :: es) [] pos) X.env = (do
      let ov ← eval o X.env
      standAt apos.atName
      let (f, first) ← holding [ov] (getMethod ov m pl)
      callWith pos f first (backTo pos (starEach (e :: es) X.env)) (backToKw pos (keywordEach [] X.env))) := by rfl) :
    PE X (.Call (.Attribute o m apos) (e :: es) [] pos) (tMethD X.K m f sp ta t) := by
  obtain ⟨⟨fd, F, b⟩, kp⟩ := G
  refine ⟨fun pins s σ H Q I h => ?_⟩
  refine PySem.W.methodCall_KW (pl := pl) (thn (he.run pins s σ H _ I h) fun u s1 ⟨x, H1, I1, rx, a, C, dx, fs, ex, ea, l, c, hm, q⟩ => ?_) ht
  subst ex
  obtain rfl : u = Value.ref a := rx
  refine getmeth_ok I1 ea c hm l ?_
  refine PySem.W.callWith_K (first := [.ref a]) (h₀ := X.base) I.ok.mod.kin hm.kp (thn (ha.run pos pins s1 σ H1 _ I1 q) fun us s2 ⟨vs, H2, I2, r, q2⟩ => ⟨I2.kIn, ?_⟩) hst hpl
  have q3 : sp (.ref a :: (vs ++ [])) H2 Q E0 := by rw [List.append_nil]; exact q2
  exact run_fn (us := .ref a :: us) (vs := .ref a :: vs) F hr b .nil pass0 I2 (.cons rfl r) q3
end L2

set_option Elab.async false
set_option linter.all false
set_option maxRecDepth 100000
set_option maxHeartbeats 4000000
namespace Own
open PySem L2 ClX
local macro_rules | `(tactic| walk_at "v") => `(tactic| refine ⟨_, rfl, ?_⟩)
local macro_rules | `(tactic| walk_at "ii") => `(tactic| refine ⟨_, _, rfl, rfl, ?_⟩)
local macro_rules | `(tactic| walk_at "go") => `(tactic| repeat (first | refine ⟨_, rfl, ?_⟩ | refine ⟨_, _, rfl, rfl, ?_⟩ | refine addI ?_ | refine L2.iteT ?_ | refine L2.iteF ?_))

def top (i : Nat) : Stmt := PySem.Challenge.pw_indexlogs_k47_usable_records_by_all_sets.main.body.getD i (.Pass ⟨0, 0, 0, 0⟩)
abbrev s_is_integer : Stmt := top 9
abbrev N_is_integer : List Str := ["thing"]
theorem sc_is_integer : FnScope N_is_integer ["thing"] (defScope s_is_integer) := ⟨rfl, rfl, rfl, by decide +kernel, rfl, by decide +kernel, by decide +kernel⟩
abbrev s_is_item : Stmt := top 10
abbrev N_is_item : List Str := ["thing"]
theorem sc_is_item : FnScope N_is_item ["thing"] (defScope s_is_item) := ⟨rfl, rfl, rfl, by decide +kernel, rfl, by decide +kernel, by decide +kernel⟩
abbrev s_check_index : Stmt := top 12
abbrev N_check_index : List Str := ["slot"]
theorem sc_check_index : FnScope N_check_index ["slot"] (defScope s_check_index) := ⟨rfl, rfl, rfl, by decide +kernel, rfl, by decide +kernel, by decide +kernel⟩
abbrev s_Record___init__ : Stmt := inClass (top 14) 2
abbrev N_Record___init__ : List Str := ["self", "item", "slot"]
theorem sc_Record___init__ : FnScope N_Record___init__ ["self", "item", "slot"] (defScope s_Record___init__) := ⟨rfl, rfl, rfl, by decide +kernel, rfl, by decide +kernel, by decide +kernel⟩
abbrev s_Record_item : Stmt := inClass (top 14) 4
abbrev N_Record_item : List Str := ["self"]
theorem sc_Record_item : FnScope N_Record_item ["self"] (defScope s_Record_item) := ⟨rfl, rfl, rfl, by decide +kernel, rfl, by decide +kernel, by decide +kernel⟩
abbrev s_Record_slot : Stmt := inClass (top 14) 5
abbrev N_Record_slot : List Str := ["self"]
theorem sc_Record_slot : FnScope N_Record_slot ["self"] (defScope s_Record_slot) := ⟨rfl, rfl, rfl, by decide +kernel, rfl, by decide +kernel, by decide +kernel⟩
abbrev s_Record_move_to : Stmt := inClass (top 14) 7
abbrev N_Record_move_to : List Str := ["self", "slot"]
theorem sc_Record_move_to : FnScope N_Record_move_to ["self", "slot"] (defScope s_Record_move_to) := ⟨rfl, rfl, rfl, by decide +kernel, rfl, by decide +kernel, by decide +kernel⟩
abbrev s_record_of : Stmt := top 18
abbrev N_record_of : List Str := ["sign", "item", "slot"]
theorem sc_record_of : FnScope N_record_of ["sign", "item", "slot"] (defScope s_record_of) := ⟨rfl, rfl, rfl, by decide +kernel, rfl, by decide +kernel, by decide +kernel⟩
abbrev s_has_kind : Stmt := top 21
abbrev N_has_kind : List Str := ["thing"]
theorem sc_has_kind : FnScope N_has_kind ["thing"] (defScope s_has_kind) := ⟨rfl, rfl, rfl, by decide +kernel, rfl, by decide +kernel, by decide +kernel⟩
abbrev s_are_records : Stmt := top 22
abbrev N_are_records : List Str := ["thing", "most", "entry"]
theorem sc_are_records : FnScope N_are_records ["thing", "most"] (defScope s_are_records) := ⟨rfl, rfl, rfl, by decide +kernel, rfl, by decide +kernel, by decide +kernel⟩
abbrev s_is_log : Stmt := top 23
abbrev N_is_log : List Str := ["thing", "record"]
theorem sc_is_log : FnScope N_is_log ["thing"] (defScope s_is_log) := ⟨rfl, rfl, rfl, by decide +kernel, rfl, by decide +kernel, by decide +kernel⟩
abbrev s_check_log : Stmt := top 24
abbrev N_check_log : List Str := ["log"]
theorem sc_check_log : FnScope N_check_log ["log"] (defScope s_check_log) := ⟨rfl, rfl, rfl, by decide +kernel, rfl, by decide +kernel, by decide +kernel⟩
abbrev s_sign_of : Stmt := top 25
abbrev N_sign_of : List Str := ["log"]
theorem sc_sign_of : FnScope N_sign_of ["log"] (defScope s_sign_of) := ⟨rfl, rfl, rfl, by decide +kernel, rfl, by decide +kernel, by decide +kernel⟩
abbrev s_is_fronted : Stmt := top 26
abbrev N_is_fronted : List Str := ["log"]
theorem sc_is_fronted : FnScope N_is_fronted ["log"] (defScope s_is_fronted) := ⟨rfl, rfl, rfl, by decide +kernel, rfl, by decide +kernel, by decide +kernel⟩
abbrev s_check_grown : Stmt := top 28
abbrev N_check_grown : List Str := ["log"]
theorem sc_check_grown : FnScope N_check_grown ["log"] (defScope s_check_grown) := ⟨rfl, rfl, rfl, by decide +kernel, rfl, by decide +kernel, by decide +kernel⟩
abbrev s_usable : Stmt := top 29
abbrev N_usable : List Str := ["log", "many", "slot", "record"]
theorem sc_usable : FnScope N_usable ["log"] (defScope s_usable) := ⟨rfl, rfl, rfl, by decide +kernel, rfl, by decide +kernel, by decide +kernel⟩
abbrev s__law_tape : Stmt := top 31
abbrev N__law_tape : List Str := ["script", "k", "cell"]
theorem sc__law_tape : FnScope N__law_tape ["script", "k"] (defScope s__law_tape) := ⟨rfl, rfl, rfl, by decide +kernel, rfl, by decide +kernel, by decide +kernel⟩
abbrev s__law_next : Stmt := top 32
abbrev N__law_next : List Str := ["tape", "size", "digit", "mixed"]
theorem sc__law_next : FnScope N__law_next ["tape", "size"] (defScope s__law_next) := ⟨rfl, rfl, rfl, by decide +kernel, rfl, by decide +kernel, by decide +kernel⟩
abbrev s__law_items : Stmt := top 33
abbrev N__law_items : List Str := ["tape", "many", "signs", "pool", "sign", "k"]
theorem sc__law_items : FnScope N__law_items ["tape", "many"] (defScope s__law_items) := ⟨rfl, rfl, rfl, by decide +kernel, rfl, by decide +kernel, by decide +kernel⟩
abbrev s__law_made : Stmt := top 34
abbrev N__law_made : List Str := ["kind", "item", "slot"]
theorem sc__law_made : FnScope N__law_made ["kind", "item", "slot"] (defScope s__law_made) := ⟨rfl, rfl, rfl, by decide +kernel, rfl, by decide +kernel, by decide +kernel⟩
abbrev s__law_facts : Stmt := top 35
abbrev N__law_facts : List Str := ["book", "found", "record", "kinds"]
theorem sc__law_facts : FnScope N__law_facts ["book"] (defScope s__law_facts) := ⟨rfl, rfl, rfl, by decide +kernel, rfl, by decide +kernel, by decide +kernel⟩
abbrev s__law_is_closed : Stmt := top 36
abbrev N__law_is_closed : List Str := ["slots", "rests", "place", "later", "rest", "at", "shorter"]
theorem sc__law_is_closed : FnScope N__law_is_closed ["slots"] (defScope s__law_is_closed) := ⟨rfl, rfl, rfl, by decide +kernel, rfl, by decide +kernel, by decide +kernel⟩
abbrev s__law_sets : Stmt := top 37
abbrev N__law_sets : List Str := ["many", "found", "k", "one"]
theorem sc__law_sets : FnScope N__law_sets ["many"] (defScope s__law_sets) := ⟨rfl, rfl, rfl, by decide +kernel, rfl, by decide +kernel, by decide +kernel⟩
abbrev s__law_right : Stmt := top 38
abbrev N__law_right : List Str := ["book", "own", "best", "met", "some", "at", "due", "again", "found", "record"]
theorem sc__law_right : FnScope N__law_right ["book"] (defScope s__law_right) := ⟨rfl, rfl, rfl, by decide +kernel, rfl, by decide +kernel, by decide +kernel⟩
abbrev s_law : Stmt := top 39
abbrev N_law : List Str := ["script", "k", "tape", "turn", "many", "kind", "items", "wide", "book", "record", "at"]
theorem sc_law : FnScope N_law ["script"] (defScope s_law) := ⟨rfl, rfl, rfl, by decide +kernel, rfl, by decide +kernel, by decide +kernel⟩

structure Ad where
  f_is_integer : Addr
  f_is_item : Addr
  f_check_index : Addr
  f_record_of : Addr
  f_has_kind : Addr
  f_are_records : Addr
  f_is_log : Addr
  f_check_log : Addr
  f_sign_of : Addr
  f_is_fronted : Addr
  f_check_grown : Addr
  f_usable : Addr
  f__law_tape : Addr
  f__law_next : Addr
  f__law_items : Addr
  f__law_made : Addr
  f__law_facts : Addr
  f__law_is_closed : Addr
  f__law_sets : Addr
  f__law_right : Addr
  f_law : Addr
  c_Record : Addr
  c_Inserted : Addr
  c_Removed : Addr
  c_Fronted : Addr
  c_LogError : Addr
  m_Record___init__ : Addr
  m_Record_move_to : Addr
  m_Record_item : Addr
  p_Record_item : Addr
  m_Record_slot : Addr
  p_Record_slot : Addr
structure Txt (K : PySem.W.Frag) (mg : Str → Option Value) (A : Ad) : Prop where
  mg_is_integer : mg "is_integer" = some (.ref A.f_is_integer)
  fn_is_integer : FnT K "is_integer" "is_integer" s_is_integer A.f_is_integer
  mg_is_item : mg "is_item" = some (.ref A.f_is_item)
  fn_is_item : FnT K "is_item" "is_item" s_is_item A.f_is_item
  mg_check_index : mg "check_index" = some (.ref A.f_check_index)
  fn_check_index : FnT K "check_index" "check_index" s_check_index A.f_check_index
  mg_record_of : mg "record_of" = some (.ref A.f_record_of)
  fn_record_of : FnT K "record_of" "record_of" s_record_of A.f_record_of
  mg_has_kind : mg "has_kind" = some (.ref A.f_has_kind)
  fn_has_kind : FnT K "has_kind" "has_kind" s_has_kind A.f_has_kind
  mg_are_records : mg "are_records" = some (.ref A.f_are_records)
  fn_are_records : FnT K "are_records" "are_records" s_are_records A.f_are_records
  mg_is_log : mg "is_log" = some (.ref A.f_is_log)
  fn_is_log : FnT K "is_log" "is_log" s_is_log A.f_is_log
  mg_check_log : mg "check_log" = some (.ref A.f_check_log)
  fn_check_log : FnT K "check_log" "check_log" s_check_log A.f_check_log
  mg_sign_of : mg "sign_of" = some (.ref A.f_sign_of)
  fn_sign_of : FnT K "sign_of" "sign_of" s_sign_of A.f_sign_of
  mg_is_fronted : mg "is_fronted" = some (.ref A.f_is_fronted)
  fn_is_fronted : FnT K "is_fronted" "is_fronted" s_is_fronted A.f_is_fronted
  mg_check_grown : mg "check_grown" = some (.ref A.f_check_grown)
  fn_check_grown : FnT K "check_grown" "check_grown" s_check_grown A.f_check_grown
  mg_usable : mg "usable" = some (.ref A.f_usable)
  fn_usable : FnT K "usable" "usable" s_usable A.f_usable
  mg__law_tape : mg "_law_tape" = some (.ref A.f__law_tape)
  fn__law_tape : FnT K "_law_tape" "_law_tape" s__law_tape A.f__law_tape
  mg__law_next : mg "_law_next" = some (.ref A.f__law_next)
  fn__law_next : FnT K "_law_next" "_law_next" s__law_next A.f__law_next
  mg__law_items : mg "_law_items" = some (.ref A.f__law_items)
  fn__law_items : FnT K "_law_items" "_law_items" s__law_items A.f__law_items
  mg__law_made : mg "_law_made" = some (.ref A.f__law_made)
  fn__law_made : FnT K "_law_made" "_law_made" s__law_made A.f__law_made
  mg__law_facts : mg "_law_facts" = some (.ref A.f__law_facts)
  fn__law_facts : FnT K "_law_facts" "_law_facts" s__law_facts A.f__law_facts
  mg__law_is_closed : mg "_law_is_closed" = some (.ref A.f__law_is_closed)
  fn__law_is_closed : FnT K "_law_is_closed" "_law_is_closed" s__law_is_closed A.f__law_is_closed
  mg__law_sets : mg "_law_sets" = some (.ref A.f__law_sets)
  fn__law_sets : FnT K "_law_sets" "_law_sets" s__law_sets A.f__law_sets
  mg__law_right : mg "_law_right" = some (.ref A.f__law_right)
  fn__law_right : FnT K "_law_right" "_law_right" s__law_right A.f__law_right
  mg_law : mg "law" = some (.ref A.f_law)
  fn_law : FnT K "law" "law" s_law A.f_law
  mg_Record : mg "Record" = some (.ref A.c_Record)
  mg_Inserted : mg "Inserted" = some (.ref A.c_Inserted)
  mg_Removed : mg "Removed" = some (.ref A.c_Removed)
  mg_Fronted : mg "Fronted" = some (.ref A.c_Fronted)
  mg_LogError : mg "LogError" = some (.ref A.c_LogError)
  mk_Record : Mk K A.c_Record A.m_Record___init__
  fn_Record___init__ : FnT K "__init__" "Record.__init__" s_Record___init__ A.m_Record___init__
  cl_Record : Cls K A.c_Record
  na_Record_item : NoAttr K A.c_Record "_item"
  na_Record_slot : NoAttr K A.c_Record "_slot"
  mk_Inserted : Mk K A.c_Inserted A.m_Record___init__
  cl_Inserted : Cls K A.c_Inserted
  na_Inserted_item : NoAttr K A.c_Inserted "_item"
  na_Inserted_slot : NoAttr K A.c_Inserted "_slot"
  mk_Removed : Mk K A.c_Removed A.m_Record___init__
  cl_Removed : Cls K A.c_Removed
  na_Removed_item : NoAttr K A.c_Removed "_item"
  na_Removed_slot : NoAttr K A.c_Removed "_slot"
  mk_Fronted : Mk K A.c_Fronted A.m_Record___init__
  cl_Fronted : Cls K A.c_Fronted
  na_Fronted_item : NoAttr K A.c_Fronted "_item"
  na_Fronted_slot : NoAttr K A.c_Fronted "_slot"
  me_Record_move_to : Meth K A.c_Record "move_to" A.m_Record_move_to
  fn_Record_move_to : FnT K "move_to" "Record.move_to" s_Record_move_to A.m_Record_move_to
  me_Inserted_move_to : Meth K A.c_Inserted "move_to" A.m_Record_move_to
  me_Removed_move_to : Meth K A.c_Removed "move_to" A.m_Record_move_to
  me_Fronted_move_to : Meth K A.c_Fronted "move_to" A.m_Record_move_to
  cv_Record_MOST : ∃ mc u, ClX.CRead K A.c_Record mc ∧ ClX.CVal K A.c_Record mc "MOST" (.int 60) u
  cv_Record_SIGN : ∃ mc u, ClX.CRead K A.c_Record mc ∧ ClX.CVal K A.c_Record mc "SIGN" (.str "") u
  cv_Inserted_SIGN : ∃ mc u, ClX.CRead K A.c_Inserted mc ∧ ClX.CVal K A.c_Inserted mc "SIGN" (.str "+") u
  cv_Removed_SIGN : ∃ mc u, ClX.CRead K A.c_Removed mc ∧ ClX.CVal K A.c_Removed mc "SIGN" (.str "-") u
  cv_Fronted_SIGN : ∃ mc u, ClX.CRead K A.c_Fronted mc ∧ ClX.CVal K A.c_Fronted mc "SIGN" (.str "^") u
  iv_Record_SIGN : ∃ u, Con K A.c_Record "SIGN" (.str "") u
  iv_Inserted_SIGN : ∃ u, Con K A.c_Inserted "SIGN" (.str "+") u
  iv_Removed_SIGN : ∃ u, Con K A.c_Removed "SIGN" (.str "-") u
  iv_Fronted_SIGN : ∃ u, Con K A.c_Fronted "SIGN" (.str "^") u
  mg_MOST_LETTERS : ∃ t, mg "MOST_LETTERS" = some (.int 8 t)
  mg_MOST_IN_LOG : ∃ t, mg "MOST_IN_LOG" = some (.int 40 t)
  kit_Record_Record : PySem.W.kitOne K (.ref A.c_Record) (.ref A.c_Record) = some true
  kit_Inserted_Record : PySem.W.kitOne K (.ref A.c_Inserted) (.ref A.c_Record) = some true
  kit_Removed_Record : PySem.W.kitOne K (.ref A.c_Removed) (.ref A.c_Record) = some true
  kit_Fronted_Record : PySem.W.kitOne K (.ref A.c_Fronted) (.ref A.c_Record) = some true
  kit_Inserted_Inserted : PySem.W.kitOne K (.ref A.c_Inserted) (.ref A.c_Inserted) = some true
  kit_Inserted_Removed : PySem.W.kitOne K (.ref A.c_Inserted) (.ref A.c_Removed) = some false
  kit_Inserted_Fronted : PySem.W.kitOne K (.ref A.c_Inserted) (.ref A.c_Fronted) = some false
  kit_Removed_Inserted : PySem.W.kitOne K (.ref A.c_Removed) (.ref A.c_Inserted) = some false
  kit_Removed_Removed : PySem.W.kitOne K (.ref A.c_Removed) (.ref A.c_Removed) = some true
  kit_Removed_Fronted : PySem.W.kitOne K (.ref A.c_Removed) (.ref A.c_Fronted) = some false
  kit_Fronted_Inserted : PySem.W.kitOne K (.ref A.c_Fronted) (.ref A.c_Inserted) = some false
  kit_Fronted_Removed : PySem.W.kitOne K (.ref A.c_Fronted) (.ref A.c_Removed) = some false
  kit_Fronted_Fronted : PySem.W.kitOne K (.ref A.c_Fronted) (.ref A.c_Fronted) = some true
  pr_Record_item : PropOf K A.c_Record "item" A.p_Record_item A.m_Record_item
  fn_Record_item : FnT K "item" "Record.item" s_Record_item A.m_Record_item
  pr_Record_slot : PropOf K A.c_Record "slot" A.p_Record_slot A.m_Record_slot
  fn_Record_slot : FnT K "slot" "Record.slot" s_Record_slot A.m_Record_slot
  pr_Inserted_item : PropOf K A.c_Inserted "item" A.p_Record_item A.m_Record_item
  pr_Inserted_slot : PropOf K A.c_Inserted "slot" A.p_Record_slot A.m_Record_slot
  pr_Removed_item : PropOf K A.c_Removed "item" A.p_Record_item A.m_Record_item
  pr_Removed_slot : PropOf K A.c_Removed "slot" A.p_Record_slot A.m_Record_slot
  pr_Fronted_item : PropOf K A.c_Fronted "item" A.p_Record_item A.m_Record_item
  pr_Fronted_slot : PropOf K A.c_Fronted "slot" A.p_Record_slot A.m_Record_slot
  ty_Record : InsT K A.c_Record
  ty_Inserted : InsT K A.c_Inserted
  ty_Removed : InsT K A.c_Removed
  ty_Fronted : InsT K A.c_Fronted
  no_abs : mg "abs" = none
  no_all : mg "all" = none
  no_bool : mg "bool" = none
  no_int : mg "int" = none
  no_isinstance : mg "isinstance" = none
  no_len : mg "len" = none
  no_list : mg "list" = none
  no_max : mg "max" = none
  no_min : mg "min" = none
  no_property : mg "property" = none
  no_range : mg "range" = none
  no_sorted : mg "sorted" = none
  no_str : mg "str" = none

/-! ### what is told of records -/
theorem ks : ¬ (("_item" : Str) = "_slot") := by decide +kernel
/-- the attributes of a record, in the order in which they are stored -/
def rfs (x : Str) (n : Int) : List (Str × V) := putF "_slot" (.int n) (putF "_item" (.str x) [])
theorem rfs_item (x : Str) (n : Int) : (rfs x n).lookup ("_item" : Str) = some (.str x) := by
  unfold rfs
  rw [lookup_putF, if_neg ks, lookup_putF, if_pos rfl]
theorem rfs_slot (x : Str) (n : Int) : (rfs x n).lookup ("_slot" : Str) = some (.int n) := by
  unfold rfs
  rw [lookup_putF, if_pos rfl]
theorem rfs_no (x : Str) (n : Int) {m : Str} (h1 : ¬ m = "_slot") (h2 : ¬ m = "_item") : (rfs x n).lookup m = none := by
  unfold rfs
  rw [lookup_putF, if_neg h1, lookup_putF, if_neg h2]
  all_goals rfl
theorem rfs_eq (x : Str) (n : Int) : rfs x n = ([("_item", V.str x), ("_slot", V.int n)] : List (Str × V)) := by
  show (if ("_item" : Str) = "_slot" then [(("_item" : Str), V.int n)] else (("_item" : Str), V.str x) :: putF "_slot" (V.int n) []) = _
  rw [if_neg ks]
  all_goals rfl
theorem rfs_put (x : Str) (n m : Int) : putF "_slot" (.int m) (rfs x n) = rfs x m := by
  rw [rfs_eq, rfs_eq]
  show (if ("_item" : Str) = "_slot" then _ else (("_item" : Str), V.str x) :: (if ("_slot" : Str) = "_slot" then [(("_slot" : Str), V.int m)] else _)) = _
  rw [if_neg ks, if_pos rfl]
theorem rfs_len (x : Str) (n : Int) : (rfs x n).length < 1000 := by
  rw [rfs_eq]
  exact Nat.lt_of_lt_of_le (Nat.lt_succ_self 2) (by decide)
theorem made_same {H H' : Hp} {p dx C : Addr} (np : H p = none) (nd : H dx = none) (b : But p (upd (upd H dx (.own p)) p (.ins C dx [])) H') : Same H H' := fun c o e =>
  b c o (by rw [upd_ne (ne_of_none e np), upd_ne (ne_of_none e nd)]; exact e) (ne_of_none e np)
structure RC (K : PySem.W.Frag) (C : Addr) : Prop where
  cl : Cls K C
  nI : NoAttr K C "_item"
  nS : NoAttr K C "_slot"
/-- the texts that are items -/
def isItem (x : Str) : Bool := decide (x.length ≤ 8) && (Txt.isascii x && (Txt.isalpha x && Txt.islower x))
/-- the class of a way -/
def cw (A : Ad) (way : Int) : Addr := if way = 0 then A.c_Inserted else if way = 1 then A.c_Removed else if way = 2 then A.c_Fronted else A.c_Record
theorem way4 {way : Int} (h0 : 0 ≤ way) (h1 : way ≤ 3) : way = 0 ∨ way = 1 ∨ way = 2 ∨ way = 3 := by omega
/-! ### the drawn numbers -/
/-- at p stands a source, from which at most n numbers were drawn -/
def SrcAt (H : Hp) (p : Addr) (n : Int) : Prop := ∃ g m c : Int, H p = some (.lst [.int g, .int m, .int c]) ∧ 0 ≤ m ∧ m < 2 ^ 140 ∧ 0 ≤ c ∧ c ≤ n
theorem SrcAt.but {H H' : Hp} {p a : Addr} {n : Int} (h : SrcAt H p n) (b : But a H H') (ne : p ≠ a) : SrcAt H' p n := by
  obtain ⟨g, m, c, e, r⟩ := h
  exact ⟨g, m, c, b _ _ e ne, r⟩
theorem SrcAt.same {H H' : Hp} {p : Addr} {n : Int} (h : SrcAt H p n) (b : Same H H') : SrcAt H' p n := by
  obtain ⟨g, m, c, e, r⟩ := h
  exact ⟨g, m, c, b _ _ e, r⟩

section
variable {P : Program} {w : World} {K : PySem.W.Frag} {mg : Str → Option Value} {base : Heap} {A : Ad}
/-! ### whole numbers, items, indices -/
def spYesInt : Sp := fun vs H Q _ => ∃ n : Int, vs = [.int n] ∧ Q (.bl true) H
theorem ok_is_integer (T : Txt K mg A) : Ok1 P w K mg base 1 A.f_is_integer ["thing"] spYesInt := by
  refine T.fn_is_integer.ok sc_is_integer (fun _ _ _ _ _ _ us hl => match us, hl with | [_], _ => rfl) (fun vs H Q E h => ?_) (fun cdv B up s H vs Q E hr h => ?_)
  · obtain ⟨n, rfl, _⟩ := h
    rfl
  · obtain ⟨n, rfl, h⟩ := h
    refine ⟨_, (pss_one (ps_ret (pe_and (pe_callB call_isi (by rfl) T.no_isinstance (by decide +kernel) (pa_cons (pv 0) (pa_cons (pe_bltn (v := .ty "int") (by rfl) T.no_int (by decide +kernel) rfl) pa_nil))) (pe_one (pe_not (pe_callB call_isi (by rfl) T.no_isinstance (by decide +kernel) (pa_cons (pv 0) (pa_cons (pe_bltn (v := .ty "bool") (by rfl) T.no_bool (by decide +kernel) rfl) pa_nil)))))))), ?_⟩
    refine ⟨_, rfl, _, _, _, _, _, rfl, .ty _, .base (.int _), kit_ty (r := true) (by decide +kernel), _, rfl, iteT ?_⟩
    exact ⟨_, rfl, _, _, _, _, _, rfl, .ty _, .base (.int _), kit_ty (r := false) (by decide +kernel), _, rfl, h⟩

def spIsItem : Sp := fun vs H Q _ => ∃ x : Str, vs = [.str x] ∧ x.length ≤ 1000000 ∧ Q (.bl (isItem x)) H
theorem ok_is_item (T : Txt K mg A) : Ok1 P w K mg base 1 A.f_is_item ["thing"] spIsItem := by
  refine T.fn_is_item.ok sc_is_item (fun _ _ _ _ _ _ us hl => match us, hl with | [_], _ => rfl) (fun vs H Q E h => ?_) (fun cdv B up s H vs Q E hr h => ?_)
  · obtain ⟨n, rfl, _⟩ := h
    rfl
  · obtain ⟨x, rfl, hx, h⟩ := h
    refine ⟨_, (pss_cons (ps_if (PW.pt (pw_or (pt_not (pt_val (pe_callB call_isi (by rfl) T.no_isinstance (by decide +kernel) (pa_cons (pv 0) (pa_cons (pe_bltn (v := .ty "str") (by rfl) T.no_str (by decide +kernel) rfl) pa_nil))))) (pw_or1 (pt_cmpR op_gt (pe_callB call_len (by rfl) T.no_len (by decide +kernel) (pa_cons (pv 0) pa_nil)) (pe_globC T.mg_MOST_LETTERS) (nomark _))))) (pss_one (ps_ret pe_bl)) pss_nil)
      (pss_one (ps_ret (pe_and (pe_bm0 PySem.F.plainAttrs_str PySem.F.slot_str_isascii PySem.F.type_str_isascii mt_isascii (pv 0)) (pe_and (pe_bm0 PySem.F.plainAttrs_str PySem.F.slot_str_isalpha PySem.F.type_str_isalpha mt_isalpha (pv 0)) (pe_one (pe_bm0 PySem.F.plainAttrs_str PySem.F.slot_str_islower PySem.F.type_str_islower mt_islower (pv 0)))))))), ?_⟩
    refine ⟨_, rfl, _, _, _, _, _, rfl, .ty _, .base (.str _), kit_ty (r := true) (by decide +kernel), ?_⟩
    refine ⟨_, rfl, ?_⟩
    refine iteF ?_
    refine ⟨_, rfl, _, _, rfl, ⟨szS hx, rfl⟩, _, _, rfl, rfl, _, rfl, ?_⟩
    unfold isItem at h
    refine ite2 (fun c => ?_) (fun c => ?_)
    · have e : decide (x.length ≤ 8) = false := decide_eq_false (by have := of_decide_eq_true c; omega)
      rw [e] at h
      exact h
    · have e : decide (x.length ≤ 8) = true := decide_eq_true (by have := of_decide_eq_false (Bool.eq_false_iff.mpr c); omega)
      rw [e, Bool.true_and] at h
      refine ⟨_, rfl, rfl, _, rfl, rfl, trivial, _, rfl, ?_⟩
      refine ite2 (fun c1 => ?_) (fun c1 => ?_)
      · rw [c1, Bool.true_and] at h
        refine ⟨_, rfl, rfl, _, rfl, rfl, trivial, _, rfl, ?_⟩
        refine ite2 (fun c2 => ?_) (fun c2 => ?_)
        · rw [c2, Bool.true_and] at h
          exact ⟨_, rfl, rfl, _, rfl, rfl, trivial, h⟩
        · rw [Bool.eq_false_iff.mpr c2] at h
          exact h
      · rw [Bool.eq_false_iff.mpr c1] at h
        exact h
def spIndex : Sp := fun vs H Q _ => ∃ n : Int, vs = [.int n] ∧ 0 ≤ n ∧ n ≤ 60 ∧ Q .non H
theorem ok_check_index (T : Txt K mg A) : Ok1 P w K mg base 2 A.f_check_index ["slot"] spIndex := by
  refine T.fn_check_index.ok sc_check_index (fun _ _ _ _ _ _ us hl => match us, hl with | [_], _ => rfl) (fun vs H Q E h => ?_) (fun cdv B up s H vs Q E hr h => ?_)
  · obtain ⟨n, rfl, _⟩ := h
    rfl
  · obtain ⟨n, rfl, h0, h1, h⟩ := h
    refine ⟨_, (pss_one (ps_if (PW.pt (pw_or (pt_not (pt_val (po_call (ok_is_integer T) (hr.mono (by decide)) T.mg_is_integer (pa_cons (pv 0) pa_nil)))) (pw_or1 (pt_not (pt_chain op_le op_le pe_int (pv 0) (pe_clsv T.cv_Record_MOST (pe_glob (v := .ref A.c_Record) rfl T.mg_Record rfl))))))) (pss_one ps_never) pss_nil)), ?_⟩
    refine ⟨_, rfl, _, rfl, _, rfl, ?_⟩
    refine iteF ?_
    refine ⟨_, rfl, _, _, rfl, rfl, _, rfl, ?_⟩
    rw [decide_eq_true h0]
    refine iteT ?_
    refine ⟨_, _, rfl, rfl, _, rfl, ?_⟩
    rw [decide_eq_true h1]
    exact iteF h

/-! ### the records' own defs -/
theorem rc_Record (T : Txt K mg A) : RC K A.c_Record := ⟨T.cl_Record, T.na_Record_item, T.na_Record_slot⟩
theorem rc_Inserted (T : Txt K mg A) : RC K A.c_Inserted := ⟨T.cl_Inserted, T.na_Inserted_item, T.na_Inserted_slot⟩
theorem rc_Removed (T : Txt K mg A) : RC K A.c_Removed := ⟨T.cl_Removed, T.na_Removed_item, T.na_Removed_slot⟩
theorem rc_Fronted (T : Txt K mg A) : RC K A.c_Fronted := ⟨T.cl_Fronted, T.na_Fronted_item, T.na_Fronted_slot⟩
def spInit (K : PySem.W.Frag) : Sp := fun vs H Q _ => ∃ (p C dx : Addr) (x : Str) (n : Int), vs = [.ref p, .str x, .int n] ∧ H p = some (.ins C dx []) ∧ RC K C ∧ isItem x = true ∧ 0 ≤ n ∧ n ≤ 60 ∧
  ∀ H' : Hp, H' p = some (.ins C dx (rfs x n)) → But p H H' → Q .non H'
theorem item_len {x : Str} (h : isItem x = true) : x.length ≤ 8 := by
  unfold isItem at h
  rw [Bool.and_eq_true] at h
  exact of_decide_eq_true h.1
theorem ok_Record___init__ (T : Txt K mg A) : Ok1 P w K mg base 3 A.m_Record___init__ ["self", "item", "slot"] (spInit K) := by
  refine T.fn_Record___init__.ok sc_Record___init__ (fun _ _ _ _ _ _ us hl => match us, hl with | [_, _, _], _ => rfl) (fun vs H Q E h => ?_) (fun cdv B up s H vs Q E hr h => ?_)
  · obtain ⟨p, C, dx, x, n, rfl, _⟩ := h
    rfl
  · obtain ⟨p, C, dx, x, n, rfl, hp, R, hi, h0, h1, h⟩ := h
    refine ⟨_, (pss_cons (ps_if (pt_not (pt_val (po_call (ok_is_item T) (hr.mono (by decide)) T.mg_is_item (pa_cons (pv 1) pa_nil)))) (pss_one ps_never) pss_nil)
      (pss_cons (ps_expr (po_call (ok_check_index T) (hr.mono (by decide)) T.mg_check_index (pa_cons (pv 2) pa_nil)))
      (pss_cons (ps_fld (pv 0) (pv 1) rfl)
      (pss_one (ps_fld (pv 0) (pv 2) rfl))))), ?_⟩
    refine ⟨_, rfl, _, rfl, Nat.le_trans (item_len hi) (by decide), _, rfl, ?_⟩
    rw [hi]
    refine iteF ?_
    refine ⟨_, rfl, _, rfl, h0, h1, ?_⟩
    refine ⟨_, rfl, _, rfl, p, C, dx, _, rfl, hp, R.cl, R.nI, (by decide), ?_⟩
    refine ⟨_, rfl, _, rfl, p, C, dx, _, rfl, upd_same, R.cl, R.nS, (by show 1 < 1000; decide), ?_⟩
    exact h _ upd_same (But.upd.trans But.upd)

/-! ### the law's own defs -/
theorem big39 : ((10 : Int) ^ (39 : Int).toNat + 3) = 1000000000000000000000000000000000000003 := by decide +kernel
theorem big41 : ((10 : Int) ^ (41 : Int).toNat + 37) = 100000000000000000000000000000000000000037 := by decide +kernel
theorem big38 : ((10 : Int) ^ (38 : Int).toNat + 133) = 100000000000000000000000000000000000133 := by decide +kernel
theorem atI0 {α : Type} (a : α) (l : List α) : atI (a :: l) 0 = some a := atI_nat (j := 0) rfl
def spSource (K : PySem.W.Frag) : Sp := fun vs H Q _ => ∃ (a : Addr) (ns : List Int) (k : Nat), vs = [.ref a, .int k] ∧ SqL K H a (ns.map V.int) ∧ k < 64 ∧
  ∀ (p : Addr) (H' : Hp), Same H H' → H p = none → SrcAt H' p 0 → Q (.ref p) H'
theorem ok__law_tape (T : Txt K mg A) : Ok1 P w K mg base 1 A.f__law_tape ["script", "k"] (spSource K) := by
  refine T.fn__law_tape.ok sc__law_tape (fun _ _ _ _ _ _ us hl => match us, hl with | [_, _], _ => rfl) (fun vs H Q E h => ?_) (fun cdv B up s H vs Q E hr h => ?_)
  · obtain ⟨a, ns, k, rfl, _⟩ := h
    rfl
  · obtain ⟨a, ns, k, rfl, hS, hk, h⟩ := h
    refine ⟨_, (pss_mid (ps_set (i := 2) sc__law_tape.nd rfl (Or.inl rfl) (pe_ifExp (pt_cmpR op_lt (pv 1) (pe_callB call_len (by rfl) T.no_len (by decide +kernel) (pa_cons (pv 0) pa_nil)) (nomark _)) (pe_callB call_abs (by rfl) T.no_abs (by decide +kernel) (pa_cons (pe_ix ix_seq (pv 0) (pv 1) (fun _ _ => rfl)) pa_nil)) pe_int))
      (pss_one (ps_ret (pe_lst (pa_cons (pe_callB (call_max2 rfl) (by rfl) T.no_max (by decide +kernel) (pa_cons pe_int (pa_cons (pe_op op_sub (pv 2) (pe_op op_powX pe_int pe_int)) pa_nil))) (pa_cons (pe_op op_addX (pe_op op_mulX (pe_op op_mod (pv 2) (pe_op op_addX (pe_op op_powX pe_int pe_int) pe_int)) pe_int) (pv 1)) (pa_cons pe_int pa_nil))))))), ?_⟩
    refine ⟨fun σ1 H1 => H1 = H ∧ ∃ c : Int, σ1 = [some (.ref a), some (.int k), some (.int c)], ?_, ?_⟩
    · refine ⟨_, rfl, _, rfl, _, _, rfl, .inl ⟨_, hS, rfl⟩, _, _, rfl, rfl, _, rfl, ?_⟩
      refine ite2 (fun c => ?_) (fun _ => ⟨rfl, 0, rfl⟩)
      have hkn : k < ns.length := by
        have := of_decide_eq_true c
        rw [List.length_map] at this
        omega
      refine ⟨_, rfl, _, rfl, .inl ⟨_, _, _, .int ns[k], rfl, rfl, hS, atI_nat (by simp [hkn]), ?_⟩⟩
      exact ⟨_, rfl, rfl, _, rfl⟩
    · rintro σ1 H1 ⟨rfl, c, rfl⟩
      refine ⟨_, rfl, _, _, rfl, rfl, ⟨by decide, by decide, by decide +kernel⟩, _, _, rfl, rfl, _, _, rfl, ?_⟩
      refine ⟨_, rfl, _, _, rfl, rfl, ⟨by decide, by decide, by decide +kernel⟩, .inl ⟨_, _, rfl, rfl, ?_⟩⟩
      dsimp only
      rw [big39]
      have e0 := Int.emod_nonneg c (show (1000000000000000000000000000000000000003 : Int) ≠ 0 by decide)
      have e1 := Int.emod_lt_of_pos c (show (0 : Int) < 1000000000000000000000000000000000000003 by decide)
      refine ⟨_, _, rfl, rfl, (by show (0 : Int) < _; decide), .inl ⟨_, _, rfl, rfl, wide_mul (a := 140) (b := 7) ?_ (by decide) (by decide) (by decide) (by decide), ?_⟩⟩
      · omega
      refine ⟨_, rfl, .inl ⟨_, _, rfl, rfl, ?_⟩⟩
      refine ⟨Nat.le_of_ble_eq_true rfl, fun p hp => ?_⟩
      refine h p _ (Same.new hp) hp ⟨_, _, 0, upd_same, ?_⟩
      omega
def spPick : Sp := fun vs H Q _ => ∃ (a : Addr) (size n : Int), vs = [.ref a, .int size] ∧ 0 < size ∧ size < 2 ^ 200 ∧ SrcAt H a n ∧ n < 2 ^ 60 ∧
  ∀ (r : Int) (H' : Hp), 0 ≤ r → r < size → SrcAt H' a (n + 1) → But a H H' → Q (.int r) H'
theorem ok__law_next (T : Txt K mg A) : Ok1 P w K mg base 1 A.f__law_next ["tape", "size"] spPick := by
  refine T.fn__law_next.ok sc__law_next (fun _ _ _ _ _ _ us hl => match us, hl with | [_, _], _ => rfl) (fun vs H Q E h => ?_) (fun cdv B up s H vs Q E hr h => ?_)
  · obtain ⟨a, size, n, rfl, _⟩ := h
    rfl
  · obtain ⟨a, size, n, rfl, hs, hs2, ⟨g, m, c, ha, hm0, hm1, hc0, hc1⟩, hn, h⟩ := h
    have hz : CDivW g size := wide_div (b := 200) hs (by omega) (by decide) (by decide)
    refine ⟨_, (pss_cons (ps_if (pt_cmpR op_gt (pe_ix ix_seq (pv 0) pe_int (fun _ _ => rfl)) pe_int (nomark _)) (pss_cons (ps_set (i := 2) sc__law_next.nd rfl (Or.inl rfl) (pe_op op_mod (pe_ix ix_seq (pv 0) pe_int (fun _ _ => rfl)) (pv 1)))
      (pss_cons (ps_asg (pe_op op_fdivX (pe_ix ix_seq (pv 0) pe_int (fun _ _ => rfl)) (pv 1)) (pg_sub (pv 0) pe_int set_list))
      (pss_one (ps_ret (pv 2))))) pss_nil)
      (pss_cons (ps_asg (pe_op op_addX (pe_ix ix_seq (pv 0) pe_int (fun _ _ => rfl)) pe_int) (pg_sub (pv 0) pe_int set_list))
      (pss_cons (ps_set (i := 3) sc__law_next.nd rfl (Or.inl rfl) (pe_op op_mod (pe_op op_powX (pe_op op_addX (pe_ix ix_seq (pv 0) pe_int (fun _ _ => rfl)) (pe_op op_mulX pe_int (pe_ix ix_seq (pv 0) pe_int (fun _ _ => rfl)))) pe_int) (pe_op op_addX (pe_op op_powX pe_int pe_int) pe_int)))
      (pss_cons (ps_set (i := 3) sc__law_next.nd rfl (Or.inl rfl) (pe_op op_mod (pe_op op_powX (pe_op op_addX (pv 3) (pe_op op_mulX pe_int (pe_ix ix_seq (pv 0) pe_int (fun _ _ => rfl)))) pe_int) (pe_op op_addX (pe_op op_powX pe_int pe_int) pe_int)))
      (pss_one (ps_ret (pe_op op_mod (pe_op op_fdivX (pv 3) pe_int) (pv 1)))))))), ?_⟩
    refine ⟨_, rfl, .inl ⟨_, _, _, _, rfl, rfl, SqL.of ha, rfl, _, _, rfl, rfl, _, rfl, ?_⟩⟩
    refine ite2 (fun _ => ?_) (fun _ => ?_)
    · -- the digits of a large cell
      refine ⟨_, rfl, .inl ⟨_, _, _, _, rfl, rfl, SqL.of ha, rfl, _, rfl, _, _, rfl, rfl, hs, ?_⟩⟩
      refine ⟨_, rfl, .inl ⟨_, _, _, _, rfl, rfl, SqL.of ha, rfl, _, rfl, _, _, rfl, rfl, hz, ?_⟩⟩
      refine ⟨_, rfl, _, _, _, _, rfl, rfl, ha, rfl, ?_⟩
      refine ⟨_, rfl, h _ _ (Int.emod_nonneg _ (by omega)) (Int.emod_lt_of_pos _ hs) ⟨_, m, c, upd_same, hm0, hm1, hc0, by omega⟩ But.upd⟩
    · -- source[2] = source[2] + 1
      refine ⟨_, rfl, .inl ⟨_, _, _, _, rfl, rfl, SqL.of ha, rfl, .inl ⟨_, _, rfl, rfl, ?_⟩⟩⟩
      refine ⟨_, rfl, _, _, _, _, rfl, rfl, ha, rfl, ?_⟩
      -- mixed
      refine ⟨_, rfl, .inl ⟨_, _, _, _, rfl, rfl, SqL.of upd_same, rfl, ?_⟩⟩
      refine ⟨_, rfl, .inl ⟨_, _, _, _, rfl, rfl, SqL.of upd_same, rfl, ?_⟩⟩
      refine .inl ⟨_, _, rfl, rfl, wide_mul (a := 30) (b := 62) (by decide) (by omega) (by decide) (by decide) (by decide), .inl ⟨_, _, rfl, rfl, ?_⟩⟩
      have b1 : (m + 10000019 * (c + 1)).natAbs < 2 ^ 150 := by omega
      refine ⟨_, _, rfl, rfl, cpow (by decide) (by decide) b1 (by decide) (by decide), _, _, rfl, rfl, ⟨by decide, by decide, by decide +kernel⟩, .inl ⟨_, _, rfl, rfl, ?_⟩⟩
      dsimp only
      rw [big41]
      refine ⟨_, _, rfl, rfl, (by show (0 : Int) < _; decide), ?_⟩
      dsimp only
      generalize (m + 10000019 * (c + 1)) ^ (3 : Int).toNat = z1
      have e0 := Int.emod_nonneg z1 (show (100000000000000000000000000000000000000037 : Int) ≠ 0 by decide)
      have e1 := Int.emod_lt_of_pos z1 (show (0 : Int) < 100000000000000000000000000000000000000037 by decide)
      generalize z1 % 100000000000000000000000000000000000000037 = y1 at e0 e1 ⊢
      refine ⟨_, rfl, _, rfl, .inl ⟨_, _, _, _, rfl, rfl, SqL.of upd_same, rfl, ?_⟩⟩
      refine .inl ⟨_, _, rfl, rfl, wide_mul (a := 40) (b := 62) (by decide) (by omega) (by decide) (by decide) (by decide), .inl ⟨_, _, rfl, rfl, ?_⟩⟩
      have b2 : (y1 + 32452843 * (c + 1)).natAbs < 2 ^ 150 := by omega
      refine ⟨_, _, rfl, rfl, cpow (by decide) (by decide) b2 (by decide) (by decide), _, _, rfl, rfl, ⟨by decide, by decide, by decide +kernel⟩, .inl ⟨_, _, rfl, rfl, ?_⟩⟩
      dsimp only
      rw [big38]
      refine ⟨_, _, rfl, rfl, (by show (0 : Int) < _; decide), ?_⟩
      dsimp only
      generalize (y1 + 32452843 * (c + 1)) ^ (3 : Int).toNat = z2
      generalize z2 % 100000000000000000000000000000000000133 = y2
      refine ⟨_, rfl, _, _, rfl, rfl, wide_div (b := 30) (by decide) (by decide) (by decide) (by decide), _, rfl, _, _, rfl, rfl, hs, ?_⟩
      exact h _ _ (Int.emod_nonneg _ (by omega)) (Int.emod_lt_of_pos _ hs) ⟨_, m, c + 1, upd_same, hm0, hm1, by omega, by omega⟩ But.upd
theorem eq_dec {a b : Int} (h : decide (V.int a = V.int b) = true) : a = b := V.int.inj (of_decide_eq_true h)
theorem ne_dec {a b : Int} (h : ¬ decide (V.int a = V.int b) = true) : a ≠ b := fun e => h (decide_eq_true (by rw [e]))
def spMade (A : Ad) : Sp := fun vs H Q _ => ∃ (way n : Int) (x : Str), vs = [.int way, .str x, .int n] ∧ 0 ≤ way ∧ way ≤ 2 ∧ isItem x = true ∧ 0 ≤ n ∧ n ≤ 60 ∧
  ∀ (p dx : Addr) (H' : Hp), Same H H' → H p = none → H' p = some (.ins (cw A way) dx (rfs x n)) → Q (.ref p) H'
theorem ok__law_made (T : Txt K mg A) : Ok1 P w K mg base 5 A.f__law_made ["kind", "item", "slot"] (spMade A) := by
  refine T.fn__law_made.ok sc__law_made (fun _ _ _ _ _ _ us hl => match us, hl with | [_, _, _], _ => rfl) (fun vs H Q E h => ?_) (fun cdv B up s H vs Q E hr h => ?_)
  · obtain ⟨way, n, x, rfl, _⟩ := h
    rfl
  · obtain ⟨way, n, x, rfl, w0, w1, hi, h0, h1, h⟩ := h
    refine ⟨_, (pss_cons (ps_if (pt_cmpR (op_eqX hr) (pv 0) pe_int (nomark _)) (pss_one (ps_ret (po_make T.mk_Inserted (ok_Record___init__ T) (hr.mono (by decide)) T.mg_Inserted (pa_cons (pv 1) (pa_cons (pv 2) pa_nil))))) pss_nil)
      (pss_one (ps_ret (pe_ifExp (pt_cmpR (op_eqX hr) (pv 0) pe_int (nomark _)) (po_make T.mk_Removed (ok_Record___init__ T) (hr.mono (by decide)) T.mg_Removed (pa_cons (pv 1) (pa_cons (pv 2) pa_nil))) (po_make T.mk_Fronted (ok_Record___init__ T) (hr.mono (by decide)) T.mg_Fronted (pa_cons (pv 1) (pa_cons (pv 2) pa_nil))))))), ?_⟩
    refine ⟨_, rfl, .inl ⟨rfl, _, rfl, ?_⟩⟩
    refine ite2 (fun c => ?_) (fun c => ?_)
    · obtain rfl := eq_dec c
      exact ⟨_, rfl, _, rfl, fun p dx np nd ne => ⟨p, _, dx, x, n, rfl, upd_same, rc_Inserted T, hi, h0, h1, fun H' e b => ⟨rfl, h p dx H' (made_same np nd b) np e⟩⟩⟩
    have c0 := ne_dec c
    refine ⟨_, rfl, .inl ⟨rfl, _, rfl, ?_⟩⟩
    refine ite2 (fun c => ?_) (fun c => ?_)
    · obtain rfl := eq_dec c
      exact ⟨_, rfl, _, rfl, fun p dx np nd ne => ⟨p, _, dx, x, n, rfl, upd_same, rc_Removed T, hi, h0, h1, fun H' e b => ⟨rfl, h p dx H' (made_same np nd b) np e⟩⟩⟩
    have c1 := ne_dec c
    obtain rfl : way = 2 := by omega
    exact ⟨_, rfl, _, rfl, fun p dx np nd ne => ⟨p, _, dx, x, n, rfl, upd_same, rc_Fronted T, hi, h0, h1, fun H' e b => ⟨rfl, h p dx H' (made_same np nd b) np e⟩⟩⟩

/-- the law's own state: what stood at first stands, and p is the source -/
structure Sd (H0 : Hp) (p : Addr) (n : Int) (H : Hp) : Prop where
  same : Same H0 H
  src : SrcAt H p n
  fr : H0 p = none
theorem Sd.pick {H0 H H' : Hp} {p : Addr} {n : Int} (s : Sd H0 p n H) (b : But p H H') (r : SrcAt H' p (n + 1)) : Sd H0 p (n + 1) H' := ⟨s.same.but s.fr b, r, s.fr⟩
theorem Sd.more {H0 H H' : Hp} {p : Addr} {n : Int} (s : Sd H0 p n H) (e : Same H H') : Sd H0 p n H' := ⟨s.same.trans e, s.src.same e, s.fr⟩
theorem Sd.le {H0 H : Hp} {p : Addr} {n m : Int} (s : Sd H0 p n H) (h : n ≤ m) : Sd H0 p m H := by
  obtain ⟨a, ⟨g, m', c, e, h0, h1, h2, h3⟩, f⟩ := s
  exact ⟨a, ⟨g, m', c, e, h0, h1, h2, by omega⟩, f⟩
theorem Sd.ne {H0 H : Hp} {p q : Addr} {n : Int} (s : Sd H0 p n H) (h : H q = none) : q ≠ p := fun e => by
  obtain ⟨g, m', c, z, _⟩ := s.src
  rw [e, z] at h
  cases h
theorem pickI {zs : List Int} {r : Int} (C : Int → Prop) (hC : ∀ z ∈ zs, C z) (h0 : 0 ≤ r) (h1 : r < zs.length) : ∃ z, atI (zs.map V.int) r = some (.int z) ∧ C z := by
  obtain ⟨j, rfl⟩ : ∃ j : Nat, r = j := ⟨r.toNat, by omega⟩
  have hj : j < zs.length := by omega
  exact ⟨zs[j], atI_nat (by simp [hj]), hC _ (List.getElem_mem hj)⟩
theorem at_map {zs : List Int} {i : Nat} {y : V} (h : (zs.map V.int)[i]? = some y) : ∃ z ∈ zs, y = .int z := by
  rw [List.getElem?_map] at h
  cases e : zs[i]? with
  | none => rw [e] at h; cases h
  | some z => rw [e] at h; exact ⟨z, List.mem_of_getElem? e, (Option.some.inj h).symm⟩
/-! ### slices of lists of texts -/
theorem cut_to (xs : List Str) (k : Nat) (h : k ≤ xs.length) : cutV (xs.map V.str) none (some (k : Int)) = (xs.take k).map V.str := by
  unfold cutV
  rw [HT.sIx_none, HT.sIx_nat, List.length_map, Nat.min_eq_left h, List.drop_zero, Nat.sub_zero, List.map_take]
theorem cut_from (xs : List Str) (k : Nat) (h : k ≤ xs.length) : cutV (xs.map V.str) (some (k : Int)) none = (xs.drop k).map V.str := by
  unfold cutV
  rw [HT.sIx_none, HT.sIx_nat, List.length_map, Nat.min_eq_left h, ← List.map_drop, ← List.map_take]
  rw [List.take_of_length_le (by rw [List.length_drop]; exact Nat.le_refl _)]
theorem cut_to' (xs : List Str) (k : Nat) : cutV (xs.map V.str) none (some (k : Int)) = (xs.take k).map V.str := by
  rcases Nat.lt_or_ge xs.length k with h | h
  · unfold cutV
    rw [HT.sIx_none, HT.sIx_nat, List.length_map, Nat.min_eq_right (Nat.le_of_lt h), List.drop_zero, Nat.sub_zero, List.map_take, List.take_of_length_le (by simp), List.take_of_length_le (by simp; omega)]
  · exact cut_to xs k h
theorem cut_from' (xs : List Str) (k : Nat) : cutV (xs.map V.str) (some (k : Int)) none = (xs.drop k).map V.str := by
  rcases Nat.lt_or_ge xs.length k with h | h
  · unfold cutV
    rw [HT.sIx_none, HT.sIx_nat, List.length_map, Nat.min_eq_right (Nat.le_of_lt h), List.drop_of_length_le (show xs.length ≤ k by omega), Nat.sub_self, List.take_zero]
    rfl
  · exact cut_from xs k h
theorem cut_both (xs : List Str) (j k : Nat) : cutV (xs.map V.str) (some (j : Int)) (some (k : Int)) = ((xs.take k).drop j).map V.str := by
  unfold cutV
  rw [HT.sIx_nat, HT.sIx_nat, List.length_map, List.drop_take, List.map_take, List.map_drop]
  rcases Nat.lt_or_ge xs.length j with h | h
  · rw [Nat.min_eq_right (Nat.le_of_lt h), List.drop_of_length_le (by simp), List.drop_of_length_le (by simp; omega)]
    simp
  · rw [Nat.min_eq_left h]
    rcases Nat.lt_or_ge xs.length k with h2 | h2
    · rw [Nat.min_eq_right (Nat.le_of_lt h2), List.take_of_length_le (by simp), List.take_of_length_le (by simp; omega)]
    · rw [Nat.min_eq_left h2]

end
end Own

set_option Elab.async false
set_option linter.all false
set_option maxRecDepth 100000
set_option maxHeartbeats 4000000
namespace Own
open PySem L2 ClX
local macro_rules | `(tactic| walk_at "v") => `(tactic| refine ⟨_, rfl, ?_⟩)
local macro_rules | `(tactic| walk_at "ii") => `(tactic| refine ⟨_, _, rfl, rfl, ?_⟩)
local macro_rules | `(tactic| walk_at "go") => `(tactic| repeat (first | refine ⟨_, rfl, ?_⟩ | refine ⟨_, _, rfl, rfl, ?_⟩ | refine addI ?_ | refine L2.iteT ?_ | refine L2.iteF ?_))

section
variable {P : Program} {w : World} {K : PySem.W.Frag} {mg : Str → Option Value} {base : Heap} {A : Ad}
/-! ### shuffled -/
theorem seqIx {r : Int} {n : Nat} (h0 : 0 ≤ r) (h1 : r < n) : seqIndex? r n = some r.toNat := by
  have h2 : ¬ r < 0 := by omega
  simp [seqIndex?, h2, h0, h1]
theorem erase_perm {α : Type} : ∀ (l : List α) (k : Nat) (h : k < l.length), (l[k] :: l.eraseIdx k).Perm l
  | _ :: _, 0, _ => List.Perm.refl _
  | x :: l, k + 1, h => (List.Perm.swap x _ (l.eraseIdx k)).trans ((erase_perm l k (Nat.lt_of_succ_lt_succ h)).cons x)
theorem perm_out {α : Type} (done rest : List α) (k : Nat) (h : k < rest.length) : ((done ++ [rest[k]]) ++ rest.eraseIdx k).Perm (done ++ rest) := by
  rw [List.append_assoc]
  exact List.Perm.append_left _ (erase_perm rest k h)
theorem map_eraseIdx {α β : Type} (f : α → β) : ∀ (l : List α) (k : Nat), (l.map f).eraseIdx k = (l.eraseIdx k).map f
  | [], _ => rfl
  | _ :: _, 0 => rfl
  | x :: l, k + 1 => congrArg (f x :: ·) (map_eraseIdx f l k)

/-! ### items -/
/-- different items -/
structure Items (xs : List Str) : Prop where
  it : ∀ x ∈ xs, isItem x = true
  nd : xs.Nodup
theorem Items.perm {xs ys : List Str} (h : Items xs) (p : ys.Perm xs) : Items ys := ⟨fun x hx => h.it x (p.mem_iff.mp hx), p.nodup_iff.mpr h.nd⟩
theorem Items.len {xs : List Str} (h : Items xs) {x : Str} (hx : x ∈ xs) : x.length ≤ 8 := item_len (h.it x hx)

/-! ### small facts -/
theorem inS (x : Str) : ∀ xs : List Str, inV (.str x) (xs.map V.str) = decide (x ∈ xs)
  | [] => rfl
  | y :: ys => by
    have ih := inS x ys
    unfold inV at ih ⊢
    rw [List.map_cons, List.any_cons, ih]
    show ((y == x) || decide (x ∈ ys)) = decide (x ∈ y :: ys)
    by_cases e : x = y
    · subst e
      simp
    · have e2 : (y == x) = false := beq_false_of_ne fun z => e z.symm
      rw [e2]
      simp [e]
theorem flatS (xs : List Str) : (xs.map V.str).all flatV = true := by
  rw [List.all_map, List.all_eq_true]
  intro x _
  rfl
theorem addL {H : Hp} {Q : VK} {l b : Addr} {xs zs : List V} (h1 : H l = some (.lst xs)) (h2 : H b = some (.lst zs)) (h3 : xs.length + zs.length ≤ 1000000) (q : ∀ p, H p = none → Q (.ref p) (upd H p (.lst (xs ++ zs)))) : rAddX (.ref l) (.ref b) H Q :=
  .inr (.inr ⟨l, b, xs, zs, rfl, rfl, h1, h2, Nat.le_trans h3 (by decide), q⟩)
theorem none_same {H H' : Hp} {D : Addr} (s : Same H H') (nD : H' D = none) : H D = none := by
  cases e : H D with
  | none => rfl
  | some o =>
    rw [s _ _ e] at nD
    cases nD
theorem strT (z : Str) : decide (V.str z = V.str z) = true := decide_eq_true rfl
theorem strF (z : Str) : (!decide (V.str z = V.str z)) = false := by rw [strT]; rfl

/-! ### lists of items as data -/
theorem item_chars {x : Str} (h : isItem x = true) : ∀ c ∈ x.cps.toList, c < 128 := by
  unfold isItem at h
  rw [Bool.and_eq_true, Bool.and_eq_true] at h
  have z := h.2.1
  unfold Txt.isascii at z
  intro c hc
  rw [Array.all_eq_true'] at z
  exact of_decide_eq_true (z c (Array.mem_toList_iff.mp hc))
def sl (xs : List Str) : PyData := .list (xs.map .str)
theorem dpAllS (xs : List Str) (H : Hp) : DpAll K H (xs.map V.str) (xs.map PyData.str) := by
  induction xs with
  | nil => exact .nil
  | cons x xs ih => exact .cons (.str x) ih
theorem dpS {H : Hp} {a : Addr} {xs : List Str} (h : SqL K H a (xs.map V.str)) : Dp K H (.ref a) (sl xs) := .lst h (dpAllS xs H)
theorem eqvAllS : ∀ xs ys : List Str, PyData.eqvAll (xs.map .str) (ys.map .str) = decide (xs = ys)
  | [], [] => by simp [PyData.eqvAll]
  | [], _ :: _ => by simp [PyData.eqvAll]
  | _ :: _, [] => by simp [PyData.eqvAll]
  | x :: xs, y :: ys => by
    have ih := eqvAllS xs ys
    simp only [List.map_cons, PyData.eqvAll, PyData.eqv, ih]
    by_cases e : x = y
    · subst e
      simp
    · have e2 : (x == y) = false := beq_false_of_ne e
      rw [e2]
      simp [e]
theorem eqvS (xs ys : List Str) : PyData.eqv (sl xs) (sl ys) = decide (xs = ys) := by
  unfold sl
  simp only [PyData.eqv]
  exact eqvAllS xs ys
theorem layS : ∀ xs : List Str, (∀ x ∈ xs, isItem x = true) → PyData.canLayAll0 (xs.map .str) = true
  | [], _ => by simp [PyData.canLayAll0]
  | x :: xs, h => by
    have ih := layS xs fun y hy => h y (List.mem_cons_of_mem _ hy)
    have hx : PyData.strOk x = true := by
      unfold PyData.strOk
      rw [Array.all_eq_true']
      intro c hc
      have := item_chars (h x List.mem_cons_self) c (Array.mem_toList_iff.mpr hc)
      exact decide_eq_true (by omega)
    simp only [List.map_cons, PyData.canLayAll0, PyData.canLay0, ih, hx, Bool.and_self]
theorem depthS : ∀ xs : List Str, PyData.depthAll (xs.map .str) = 0
  | [] => by simp [PyData.depthAll]
  | x :: xs => by simp [PyData.depthAll, PyData.depth, depthS xs]
theorem shapedS {xs : List Str} (h : ∀ x ∈ xs, isItem x = true) : SeqAt.shaped (sl xs) = true := by
  unfold SeqAt.shaped sl
  simp [PyData.canLay0, layS xs h, PyData.depth, depthS xs]
theorem showableS : ∀ xs : List Str, PyData.showableAll (xs.map .str) = true
  | [] => by simp [PyData.showableAll]
  | x :: xs => by simp [PyData.showableAll, PyData.showable, showableS xs]
theorem noDictS : ∀ xs : List Str, PyData.hasDictAll (xs.map .str) = false
  | [] => by simp [PyData.hasDictAll]
  | x :: xs => by simp [PyData.hasDictAll, PyData.hasDict, noDictS xs]
theorem shownS : ∀ xs : List Str, PyData.shownAll (xs.map .str) = xs.map reprText
  | [] => by simp [PyData.shownAll]
  | x :: xs => by simp [PyData.shownAll, PyData.shown, shownS xs]
theorem sumS : ∀ xs : List Str, (∀ x ∈ xs, isItem x = true) → ((xs.map reprText).map (·.length)).sum ≤ 82 * xs.length
  | [], _ => by simp
  | x :: xs, h => by
    have ih := sumS xs fun y hy => h y (List.mem_cons_of_mem _ hy)
    have hx := h x List.mem_cons_self
    have l := item_len hx
    have z := StrLaws.reprText_len x fun c hc => Nat.lt_of_lt_of_le (item_chars hx c hc) (by decide)
    simp only [List.map_cons, List.sum_cons, List.length_cons]
    omega
theorem shownS_len {xs : List Str} (h : ∀ x ∈ xs, isItem x = true) (m : xs.length ≤ 70) : (sl xs).shown.length ≤ 6000 := by
  have z := listText_len_le (xs.map reprText)
  have q := sumS xs h
  rw [List.length_map] at z
  unfold sl
  simp only [PyData.shown, shownS]
  omega
theorem showsS {xs : List Str} (h : ∀ x ∈ xs, isItem x = true) (m : xs.length ≤ 70) : Shows (sl xs) := by
  refine ⟨?_, ?_, ?_, Nat.le_trans (shownS_len h m) (by decide)⟩
  · simp [sl, PyData.showable, showableS]
  · simp [sl, PyData.hasDict, noDictS]
  · simp [sl, PyData.depth, depthS]
/-- what is told of a list, or of none -/
def tl (o : Option (List Str)) (x : Str) : PyData := match o with
  | some ys => sl ys
  | none => .tuple [.str "impossible", .str x]
theorem tl_len {o : Option (List Str)} {x : Str} (h : ∀ ys, o = some ys → (∀ y ∈ ys, isItem y = true) ∧ ys.length ≤ 70) (hx : isItem x = true) : (tl o x).shown.length ≤ 6000 := by
  cases o with
  | some ys => exact shownS_len (h ys rfl).1 (h ys rfl).2
  | none =>
    have z := tupleText_len_le [reprText "impossible", reprText x]
    have l := item_len hx
    have q := StrLaws.reprText_len x fun c hc => Nat.lt_of_lt_of_le (item_chars hx c hc) (by decide)
    have q2 : (reprText "impossible").length ≤ 100 := by decide +kernel
    unfold tl
    simp only [PyData.shown, PyData.shownAll]
    simp only [List.map_cons, List.map_nil, List.sum_cons, List.sum_nil, List.length_cons, List.length_nil] at z
    omega
theorem tl_shape {o : Option (List Str)} {x : Str} (h : ∀ ys, o = some ys → (∀ y ∈ ys, isItem y = true) ∧ ys.length ≤ 70) (hx : isItem x = true) : (tl o x).showable = true ∧ (tl o x).hasDict = false ∧ (tl o x).depth ≤ 3 := by
  cases o with
  | some ys =>
    refine ⟨?_, ?_, ?_⟩
    · simp [tl, sl, PyData.showable, showableS]
    · simp [tl, sl, PyData.hasDict, noDictS]
    · simp [tl, sl, PyData.depth, depthS]
  | none =>
    refine ⟨?_, ?_, ?_⟩
    · simp [tl, PyData.showable, PyData.showableAll]
    · simp [tl, PyData.hasDict, PyData.hasDictAll]
    · simp [tl, PyData.depth, PyData.depthAll]
theorem shows_tl2 {o : Option (List Str)} {x : Str} (h : ∀ ys, o = some ys → (∀ y ∈ ys, isItem y = true) ∧ ys.length ≤ 70) (hx : isItem x = true) : Shows (.list [tl o x, tl o x]) := by
  obtain ⟨a, b, c⟩ := tl_shape h hx
  have l := tl_len h hx
  refine ⟨?_, ?_, ?_, ?_⟩
  · simp [PyData.showable, PyData.showableAll, a]
  · simp [PyData.hasDict, PyData.hasDictAll, b]
  · simp only [PyData.depth, PyData.depthAll]
    omega
  · have z := listText_len_le [(tl o x).shown, (tl o x).shown]
    simp only [PyData.shown, PyData.shownAll]
    simp only [List.map_cons, List.map_nil, List.sum_cons, List.sum_nil, List.length_cons, List.length_nil] at z
    exact Nat.le_trans (show _ ≤ 13000 by omega) (by decide)

end
end Own

set_option Elab.async false
set_option linter.all false
set_option maxRecDepth 100000
set_option maxHeartbeats 4000000
namespace Own
open PySem L2 ClX
local macro_rules | `(tactic| walk_at "v") => `(tactic| refine ⟨_, rfl, ?_⟩)
local macro_rules | `(tactic| walk_at "ii") => `(tactic| refine ⟨_, _, rfl, rfl, ?_⟩)
local macro_rules | `(tactic| walk_at "go") => `(tactic| repeat (first | refine ⟨_, rfl, ?_⟩ | refine ⟨_, _, rfl, rfl, ?_⟩ | refine addI ?_ | refine L2.iteT ?_ | refine L2.iteF ?_))

section
variable {P : Program} {w : World} {K : PySem.W.Frag} {mg : Str → Option Value} {base : Heap} {A : Ad}
/-! ### records, or any object; one after another -/
def signW (way : Int) : Str := if way = 0 then "+" else if way = 1 then "-" else if way = 2 then "^" else ""
structure Kd (K : PySem.W.Frag) (A : Ad) (way : Int) : Prop where
  rc : RC K (cw A way)
  ty : InsT K (cw A way)
  kr : PySem.W.kitOne K (.ref (cw A way)) (.ref A.c_Record) = some true
  sg : ∃ u, Con K (cw A way) "SIGN" (.str (signW way)) u
theorem kd_of (T : Txt K mg A) {way : Int} (h0 : 0 ≤ way) (h1 : way ≤ 3) : Kd K A way := by
  rcases way4 h0 h1 with rfl | rfl | rfl | rfl
  · exact ⟨rc_Inserted T, T.ty_Inserted, T.kit_Inserted_Record, T.iv_Inserted_SIGN⟩
  · exact ⟨rc_Removed T, T.ty_Removed, T.kit_Removed_Record, T.iv_Removed_SIGN⟩
  · exact ⟨rc_Fronted T, T.ty_Fronted, T.kit_Fronted_Record, T.iv_Fronted_SIGN⟩
  · exact ⟨rc_Record T, T.ty_Record, T.kit_Record_Record, T.iv_Record_SIGN⟩
/-- an object, and whether it is a record of a kind -/
inductive Rw (K : PySem.W.Frag) (A : Ad) (H : Hp) : V → Bool → Prop where
  | row {p dx : Addr} {way : Int} {x : Str} {n : Nat} (e : H p = some (.ins (cw A way) dx (rfs x n))) (h0 : 0 ≤ way) (h1 : way ≤ 3) : Rw K A H (.ref p) (decide (way < 3))
  | no {v : V} {t : Value} (ty : TyX K H v t) (h : PySem.W.kitOne K t (.ref A.c_Record) = some false) : Rw K A H v false
theorem Rw.same {H H' : Hp} {v : V} {b : Bool} (h : Rw K A H v b) (s : Same H H') : Rw K A H' v b := by
  cases h with
  | row e h0 h1 => exact .row (s _ _ e) h0 h1
  | no ty h => exact .no (ty.same s) h
def spKind (K : PySem.W.Frag) (A : Ad) : Sp := fun vs H Q _ => ∃ (v : V) (b : Bool), vs = [v] ∧ Rw K A H v b ∧ Q (.bl b) H
theorem no_sign (x : Str) (n : Int) : (rfs x n).lookup ("SIGN" : Str) = none := rfs_no _ _ (by decide +kernel) (by decide +kernel)
theorem ok_has_kind (T : Txt K mg A) : Ok1 P w K mg base 1 A.f_has_kind ["thing"] (spKind K A) := by
  refine T.fn_has_kind.ok sc_has_kind (fun _ _ _ _ _ _ us hl => match us, hl with | [_], _ => rfl) (fun vs H Q E h => ?_) (fun cdv B up s H vs Q E hr h => ?_)
  · obtain ⟨v, b, rfl, _⟩ := h
    rfl
  · obtain ⟨v, b, rfl, hv, h⟩ := h
    refine ⟨_, (pss_one (ps_ret (pe_and (pe_callB call_isi (by rfl) T.no_isinstance (by decide +kernel) (pa_cons (pv 0) (pa_cons (pe_glob (v := .ref A.c_Record) rfl T.mg_Record rfl) pa_nil))) (pe_one (pe_cmpR (op_neX hr) (pe_con (pv 0) rfl) (pe_clsv T.cv_Record_SIGN (pe_glob (v := .ref A.c_Record) rfl T.mg_Record rfl)) (nomark _)))))), ?_⟩
    cases hv with
    | no ty hk => exact ⟨_, rfl, _, _, _, _, _, rfl, .own _, ty, hk, _, rfl, iteF h⟩
    | @row p dx way x n e h0 h1 =>
      have k := kd_of T h0 h1
      obtain ⟨u, cn⟩ := k.sg
      refine ⟨_, rfl, _, _, _, _, _, rfl, .own _, .base (.ins e k.rc.cl k.ty.ha k.ty.hn k.ty.ht k.ty.hm), k.kr, _, rfl, iteT ?_⟩
      refine ⟨_, rfl, p, _, dx, _, _, _, rfl, e, k.rc.cl, cn, no_sign _ _, neS rfl ?_⟩
      have z : (!decide (V.str (signW way) = V.str "")) = decide (way < 3) := by
        rcases way4 h0 h1 with rfl | rfl | rfl | rfl
        · decide +kernel
        · decide +kernel
        · decide +kernel
        · decide +kernel
      rw [z]
      exact h

inductive Rws (K : PySem.W.Frag) (A : Ad) (H : Hp) : List V → List Bool → Prop where
  | nil : Rws K A H [] []
  | cons {v : V} {b : Bool} {vs : List V} {bs : List Bool} (h : Rw K A H v b) (t : Rws K A H vs bs) : Rws K A H (v :: vs) (b :: bs)
theorem Rws.same {H H' : Hp} {vs : List V} {bs : List Bool} (h : Rws K A H vs bs) (s : Same H H') : Rws K A H' vs bs := by
  induction h with
  | nil => exact .nil
  | cons a _ ih => exact .cons (a.same s) ih
theorem Rws.len {H : Hp} {vs : List V} {bs : List Bool} (h : Rws K A H vs bs) : vs.length = bs.length := by
  induction h with
  | nil => rfl
  | cons _ _ ih => rw [List.length_cons, List.length_cons, ih]
theorem Rws.get {H : Hp} {vs : List V} {bs : List Bool} (h : Rws K A H vs bs) : ∀ {i : Nat} {v : V}, vs[i]? = some v → ∃ b, bs[i]? = some b ∧ Rw K A H v b := by
  induction h with
  | nil => intro i v e; cases e
  | cons a _ ih =>
    intro i v e
    cases i with
    | zero => cases e; exact ⟨_, rfl, a⟩
    | succ i => exact ih e
theorem Rws.app {H : Hp} {vs ws : List V} {bs cs : List Bool} (h : Rws K A H vs bs) (g : Rws K A H ws cs) : Rws K A H (vs ++ ws) (bs ++ cs) := by
  induction h with
  | nil => exact g
  | cons a _ ih => exact .cons a ih
/-- any object, and whether it is a list of at most so many records of the kinds -/
inductive ThingR (K : PySem.W.Frag) (A : Ad) (H : Hp) (most : Nat) : V → Bool → Prop where
  | no {v : V} {t : Value} (ty : TyX K H v t) (h : PySem.W.kitOne K t (.type "list") = some false) : ThingR K A H most v false
  | lst {l : Addr} {vs : List V} {bs : List Bool} (e : H l = some (.lst vs)) (m : vs.length ≤ 4000) (z : Rws K A H vs bs) : ThingR K A H most (.ref l) (decide (bs.length ≤ most) && bs.all id)
def spAreRec (K : PySem.W.Frag) (A : Ad) : Sp := fun vs H Q _ => ∃ (v : V) (most : Nat) (b : Bool), vs = [v, .int most] ∧ ThingR K A H most v b ∧ ∀ H', Same H H' → Q (.bl b) H'
theorem ok_are_records (T : Txt K mg A) : Ok1 P w K mg base 2 A.f_are_records ["thing", "most"] (spAreRec K A) := by
  refine T.fn_are_records.ok sc_are_records (fun _ _ _ _ _ _ us hl => match us, hl with | [_, _], _ => rfl) (fun vs H Q E h => ?_) (fun cdv B up s H vs Q E hr h => ?_)
  · obtain ⟨v, most, b, rfl, _⟩ := h
    rfl
  · obtain ⟨v, most, b, rfl, he, h⟩ := h
    refine ⟨_, (pss_cons (ps_if (PW.pt (pw_or (pt_not (pt_val (pe_callB call_isi (by rfl) T.no_isinstance (by decide +kernel) (pa_cons (pv 0) (pa_cons (pe_bltn (v := .ty "list") (by rfl) T.no_list (by decide +kernel) rfl) pa_nil))))) (pw_or1 (pt_cmpR op_gt (pe_callB call_len (by rfl) T.no_len (by decide +kernel) (pa_cons (pv 0) pa_nil)) (pv 1) (nomark _))))) (pss_one (ps_ret pe_bl)) pss_nil)
      (pss_one (ps_ret (pe_callB (cr_all rfl) (by rfl) T.no_all (by decide +kernel) (pa_cons (pe_lcD (own := [("entry", 2)]) rfl sc_are_records.nd (pi_list (pv 0)) (blkOk_by (N := N_are_records) (sc := defScope s_are_records) (by decide +kernel)) (fun _ _ _ _ _ => pg_name (i := 2) sc_are_records.nd rfl (Or.inl rfl)) (fun _ _ _ _ _ => pts_nil) (fun _ _ _ _ _ => (po_call (ok_has_kind T) (hr.mono (by decide)) T.mg_has_kind (pa_cons (pv 2) pa_nil)))) pa_nil))))), ?_⟩
    cases he with
    | no ty hk => exact ⟨_, rfl, _, _, _, _, _, rfl, .ty _, ty, hk, _, rfl, iteT (h H (fun _ _ e => e))⟩
    | @lst l vs bs e m z =>
      have ll := z.len
      refine ⟨_, rfl, _, _, _, _, _, rfl, .ty _, .base (.lst e), kit_ty (r := true) (by decide +kernel), ?_⟩
      refine ⟨_, rfl, ?_⟩
      refine iteF ?_
      refine ⟨_, rfl, _, _, rfl, .inl ⟨_, SqL.of e, rfl⟩, _, rfl, _, _, rfl, rfl, _, rfl, ?_⟩
      refine ite2 (fun c => ?_) (fun c => ?_)
      · have c' := of_decide_eq_true c
        rw [decide_eq_false (show ¬ bs.length ≤ most by omega)] at h
        exact h H (fun _ _ e => e)
      · have c' := of_decide_eq_false (Bool.eq_false_iff.mpr c)
        rw [decide_eq_true (show bs.length ≤ most by omega), Bool.true_and] at h
        refine ⟨_, rfl, l, rfl, ⟨_, SqL.of e⟩, fun D nD => ?_⟩
        refine lc_list (K := K) (a := l) (xs := vs) (fun i H' => Same H H' ∧ H' D = some (.lst ((bs.take i).map V.bl))) ?_ ?_ ?_ ?_
        · exact ⟨Same.new nD, upd_same⟩
        · rintro i H1 _ ⟨s1, _⟩
          exact SqL.of (s1 _ _ e)
        · rintro i x H1 hx ⟨s1, h1⟩
          obtain ⟨b, hb, en⟩ := z.get hx
          refine ⟨rfl, _, rfl, _, b, rfl, en.same s1, _, h1, ?_, ?_, ?_⟩
          · rw [List.length_map, List.length_take]
            exact Nat.lt_of_le_of_lt (Nat.min_le_left _ _) (Nat.lt_of_lt_of_le (show i < 4001 by have := (List.getElem?_eq_some_iff.mp hb).1; omega) (by decide))
          · intro c o ho
            rw [upd_ne (ne_of_none ho nD)]
            exact s1 _ _ ho
          · have e9 : bs.take (i + 1) = bs.take i ++ [b] := by
              rw [List.take_add_one, hb]
              rfl
            rw [upd_same, e9, List.map_append]
            rfl
        · rintro H1 ⟨s1, h1⟩
          rw [ll, List.take_length] at h1
          exact ⟨D, bs, rfl, SqL.of h1, h H1 s1⟩

/-- the records of the parts -/
inductive Rows (A : Ad) (H : Hp) : List V → List (Int × Str × Nat) → Prop where
  | nil : Rows A H [] []
  | cons {p dx : Addr} {way : Int} {x : Str} {n : Nat} {vs : List V} {ps : List (Int × Str × Nat)} (e : H p = some (.ins (cw A way) dx (rfs x n))) (h0 : 0 ≤ way) (h1 : way < 3) (hx : isItem x = true) (t : Rows A H vs ps) : Rows A H (.ref p :: vs) ((way, x, n) :: ps)
theorem Rows.same {H H' : Hp} {vs : List V} {ps : List (Int × Str × Nat)} (h : Rows A H vs ps) (s : Same H H') : Rows A H' vs ps := by
  induction h with
  | nil => exact .nil
  | cons e h0 h1 hx _ ih => exact .cons (s _ _ e) h0 h1 hx ih
theorem Rows.len {H : Hp} {vs : List V} {ps : List (Int × Str × Nat)} (h : Rows A H vs ps) : vs.length = ps.length := by
  induction h with
  | nil => rfl
  | cons _ _ _ _ _ ih => rw [List.length_cons, List.length_cons, ih]
theorem Rows.get {H : Hp} {vs : List V} {ps : List (Int × Str × Nat)} (h : Rows A H vs ps) : ∀ {i : Nat} {v : V}, vs[i]? = some v → ∃ p dx way x n, v = .ref p ∧ ps[i]? = some (way, x, n) ∧ H p = some (.ins (cw A way) dx (rfs x n)) ∧ 0 ≤ way ∧ way < 3 ∧ isItem x = true := by
  induction h with
  | nil => intro i v e; cases e
  | cons e h0 h1 hx _ ih =>
    intro i v ev
    cases i with
    | zero => cases ev; exact ⟨_, _, _, _, _, rfl, rfl, e, h0, h1, hx⟩
    | succ i => exact ih ev
theorem Rows.rws {H : Hp} {vs : List V} {ps : List (Int × Str × Nat)} (h : Rows A H vs ps) : Rws K A H vs (ps.map fun _ => true) := by
  induction h with
  | nil => exact .nil
  | cons e h0 h1 hx _ ih =>
    have r := Rw.row (K := K) e h0 (by omega)
    rw [decide_eq_true h1] at r
    exact .cons r ih
theorem Rows.thing {H : Hp} {l : Addr} {vs : List V} {ps : List (Int × Str × Nat)} (e : H l = some (.lst vs)) (h : Rows A H vs ps) (m : ps.length ≤ 80) : ThingR K A H 80 (.ref l) true := by
  have q := ThingR.lst (most := 80) e (by rw [h.len]; omega) (h.rws (K := K))
  have a : (ps.map fun _ => true).all id = true := by simp
  rw [a, List.length_map, decide_eq_true m] at q
  exact q

/-! ### logs, or any object -/
theorem met_nodup (xs : List Str) : ∀ i, (OwnSet.met xs i).Nodup
  | 0 => List.nodup_nil
  | i + 1 => by
    have ih := met_nodup xs i
    show (OwnSet.putM (OwnSet.met xs i) (xs.getD i Str.empty)).Nodup
    unfold OwnSet.putM
    split
    · exact ih
    · rename_i c
      refine List.nodup_append.mpr ⟨ih, by simp, fun a ha b hb e => c ?_⟩
      rw [List.mem_singleton] at hb
      exact List.any_eq_true.mpr ⟨a, ha, by rw [e, hb]; exact beq_self_eq_true _⟩
theorem met_one (xs : List Str) : (OwnSet.met xs xs.length).length ≤ 1 ↔ ∀ a ∈ xs, ∀ b ∈ xs, a = b := by
  have mem : ∀ y, y ∈ OwnSet.met xs xs.length ↔ y ∈ xs := fun y => by
    rw [OwnSet.met_mem xs xs.length (Nat.le_refl _) y, List.take_length]
  have nd := met_nodup xs xs.length
  generalize OwnSet.met xs xs.length = ms at mem nd
  constructor
  · intro l a ha b hb
    have ha := (mem a).mpr ha
    have hb := (mem b).mpr hb
    match ms, l, ha, hb with
    | [], _, ha, _ => cases ha
    | [m], _, ha, hb =>
      rw [List.mem_singleton] at ha hb
      rw [ha, hb]
    | _ :: _ :: _, l, _, _ => simp at l
  · intro h
    match ms, nd, mem with
    | [], _, _ => exact Nat.zero_le _
    | [_], _, _ => exact Nat.le_refl _
    | m :: m2 :: ms, nd, mem =>
      have e := h m ((mem m).mp (by simp)) m2 ((mem m2).mp (by simp))
      rw [e] at nd
      exact absurd List.mem_cons_self (List.nodup_cons.mp nd).1
def spItem (A : Ad) : Sp := fun vs H Q _ => ∃ (p dx : Addr) (way : Int) (x : Str) (n : Int), vs = [.ref p] ∧ H p = some (.ins (cw A way) dx (rfs x n)) ∧ 0 ≤ way ∧ way ≤ 3 ∧ Q (.str x) H
theorem ok_Record_item (T : Txt K mg A) : Ok1 P w K mg base 1 A.m_Record_item ["self"] (spItem A) := by
  refine T.fn_Record_item.ok sc_Record_item (fun _ _ _ _ _ _ us hl => match us, hl with | [_], _ => rfl) (fun vs H Q E h => ?_) (fun cdv B up s H vs Q E hr h => ?_)
  · obtain ⟨p, dx, way, x, n, rfl, _⟩ := h
    rfl
  · obtain ⟨p, dx, way, x, n, rfl, hp, w0, w1, h⟩ := h
    have k := kd_of T w0 w1
    refine ⟨_, (pss_one (ps_ret (pe_fld (pv 0) rfl))), ?_⟩
    exact ⟨_, rfl, p, _, dx, _, _, rfl, hp, k.rc.cl, k.rc.nI, rfs_item _ _, h⟩
/-- an entry: a record, or something else -/
inductive Ety (K : PySem.W.Frag) (A : Ad) (H : Hp) : V → Option (Int × Str × Nat) → Prop where
  | row {p dx : Addr} {way : Int} {x : Str} {n : Nat} (e : H p = some (.ins (cw A way) dx (rfs x n))) (h0 : 0 ≤ way) (h1 : way ≤ 3) (hx : isItem x = true) (hn : n ≤ 60) : Ety K A H (.ref p) (some (way, x, n))
  | no {v : V} {t : Value} (ty : TyX K H v t) (hR : PySem.W.kitOne K t (.ref A.c_Record) = some false) (h1 : PySem.W.kitOne K t (.ref A.c_Inserted) = some false) (h2 : PySem.W.kitOne K t (.ref A.c_Removed) = some false) (h3 : PySem.W.kitOne K t (.ref A.c_Fronted) = some false) : Ety K A H v none
inductive Etys (K : PySem.W.Frag) (A : Ad) (H : Hp) : List V → List (Option (Int × Str × Nat)) → Prop where
  | nil : Etys K A H [] []
  | cons {v : V} {o : Option (Int × Str × Nat)} {vs : List V} {os : List (Option (Int × Str × Nat))} (h : Ety K A H v o) (t : Etys K A H vs os) : Etys K A H (v :: vs) (o :: os)
theorem Ety.same {H H' : Hp} {v : V} {o : Option (Int × Str × Nat)} (h : Ety K A H v o) (s : Same H H') : Ety K A H' v o := by
  cases h with
  | row e h0 h1 hx hn => exact .row (s _ _ e) h0 h1 hx hn
  | no ty a b c d => exact .no (ty.same s) a b c d
theorem Etys.same {H H' : Hp} {vs : List V} {os : List (Option (Int × Str × Nat))} (h : Etys K A H vs os) (s : Same H H') : Etys K A H' vs os := by
  induction h with
  | nil => exact .nil
  | cons a _ ih => exact .cons (a.same s) ih
theorem Etys.len {H : Hp} {vs : List V} {os : List (Option (Int × Str × Nat))} (h : Etys K A H vs os) : vs.length = os.length := by
  induction h with
  | nil => rfl
  | cons _ _ ih => rw [List.length_cons, List.length_cons, ih]
theorem Etys.get {H : Hp} {vs : List V} {os : List (Option (Int × Str × Nat))} (h : Etys K A H vs os) : ∀ {i : Nat} {v : V}, vs[i]? = some v → ∃ o, os[i]? = some o ∧ Ety K A H v o := by
  induction h with
  | nil => intro i v e; cases e
  | cons a _ ih =>
    intro i v e
    cases i with
    | zero => cases e; exact ⟨_, rfl, a⟩
    | succ i => exact ih e
theorem Etys.app {H : Hp} {vs ws : List V} {os us : List (Option (Int × Str × Nat))} (h : Etys K A H vs os) (g : Etys K A H ws us) : Etys K A H (vs ++ ws) (os ++ us) := by
  induction h with
  | nil => exact g
  | cons a _ ih => exact .cons a ih
def kindO : Option (Int × Str × Nat) → Bool
  | some q => decide (q.1 < 3)
  | none => false
theorem Etys.rws {H : Hp} {vs : List V} {os : List (Option (Int × Str × Nat))} (h : Etys K A H vs os) : Rws K A H vs (os.map kindO) := by
  induction h with
  | nil => exact .nil
  | cons a _ ih =>
    cases a with
    | row e h0 h1 hx hn => exact .cons (.row e h0 h1) ih
    | no ty hR _ _ _ => exact .cons (.no ty hR) ih
theorem Etys.rows {H : Hp} {vs : List V} {os : List (Option (Int × Str × Nat))} (h : Etys K A H vs os) (a : os.all kindO = true) : Rows A H vs (os.filterMap id) ∧ os.length = (os.filterMap id).length ∧ ∀ q ∈ os.filterMap id, q.2.2 ≤ 60 := by
  induction h with
  | nil => exact ⟨.nil, rfl, fun q hq => by cases hq⟩
  | cons e _ ih =>
    rw [List.all_cons, Bool.and_eq_true] at a
    obtain ⟨i1, i2, i3⟩ := ih a.2
    cases e with
    | row e h0 h1 hx hn =>
      refine ⟨.cons e h0 (of_decide_eq_true a.1) hx i1, congrArg (· + 1) i2, fun q hq => ?_⟩
      rcases List.mem_cons.mp hq with rfl | hq
      · exact hn
      · exact i3 q hq
    | no _ _ _ _ _ => exact absurd a.1 (by decide)
def signs (qs : List (Int × Str × Nat)) : List Str := qs.map fun q => signW q.1
def names (qs : List (Int × Str × Nat)) : List Str := qs.map fun q => q.2.1
/-- whether these entries are a log -/
def isLogB (os : List (Option (Int × Str × Nat))) : Bool := decide (os.length ≤ 40) && (os.all kindO && (decide (∀ a ∈ signs (os.filterMap id), ∀ b ∈ signs (os.filterMap id), a = b) && decide (names (os.filterMap id)).Nodup))
/-- any object, and its entries, if it is a list -/
inductive Case (K : PySem.W.Frag) (A : Ad) (H : Hp) : V → Option (List (Option (Int × Str × Nat))) → Prop where
  | no {v : V} {t : Value} (ty : TyX K H v t) (h : PySem.W.kitOne K t (.type "list") = some false) : Case K A H v none
  | lst {l : Addr} {vs : List V} {os : List (Option (Int × Str × Nat))} (e : H l = some (.lst vs)) (m : vs.length ≤ 4000) (z : Etys K A H vs os) : Case K A H (.ref l) (some os)
theorem Case.same {H H' : Hp} {v : V} {c : Option (List (Option (Int × Str × Nat)))} (h : Case K A H v c) (s : Same H H') : Case K A H' v c := by
  cases h with
  | no ty h => exact .no (ty.same s) h
  | lst e m z => exact .lst (s _ _ e) m (z.same s)
def logB : Option (List (Option (Int × Str × Nat))) → Bool
  | some os => isLogB os
  | none => false
theorem signs_at {qs : List (Int × Str × Nat)} {i : Nat} {q : Int × Str × Nat} (h : qs[i]? = some q) : (signs qs).getD i Str.empty = signW q.1 := by
  unfold signs
  rw [List.getD_eq_getElem?_getD, List.getElem?_map, h]
  rfl
theorem names_at {qs : List (Int × Str × Nat)} {i : Nat} {q : Int × Str × Nat} (h : qs[i]? = some q) : (names qs).getD i Str.empty = q.2.1 := by
  unfold names
  rw [List.getD_eq_getElem?_getD, List.getElem?_map, h]
  rfl
def spLog (K : PySem.W.Frag) (A : Ad) : Sp := fun vs H Q _ => ∃ (v : V) (c : Option (List (Option (Int × Str × Nat)))), vs = [v] ∧ Case K A H v c ∧ ∀ H', Same H H' → Q (.bl (logB c)) H'
theorem len_is_log : ∀ vs H Q E, spLog K A vs H Q E → vs.length = 1 := fun vs H Q E h => by
  obtain ⟨v, c, rfl, _⟩ := h
  rfl
theorem prop_item (T : Txt K mg A) {way : Int} (h0 : 0 ≤ way) (h1 : way ≤ 3) : PropOf K (cw A way) "item" A.p_Record_item A.m_Record_item := by
  rcases way4 h0 h1 with rfl | rfl | rfl | rfl
  · exact T.pr_Inserted_item
  · exact T.pr_Removed_item
  · exact T.pr_Fronted_item
  · exact T.pr_Record_item
theorem body_is_log (T : Txt K mg A) : BodyX P w K mg base N_is_log "is_log" s_is_log A.f_is_log 3 (spLog K A) := by
  intro cdv B up s H vs Q E hr h
  obtain ⟨v, c, rfl, hc, h⟩ := h
  refine ⟨_, (pss_cons (ps_if (pt_not (pt_val (po_call (ok_are_records T) (hr.mono (by decide)) T.mg_are_records (pa_cons (pv 0) (pa_cons (pe_globC T.mg_MOST_IN_LOG) pa_nil))))) (pss_one (ps_ret pe_bl)) pss_nil)
      (pss_cons (ps_if (pt_cmpR op_gt (pe_callB OwnSet.call_lenTx (by rfl) T.no_len (by decide +kernel) (pa_cons (OwnSet.pe_sxD (own := [("record", 1)]) rfl sc_is_log.nd (pi_list (pv 0)) (blkOk_by (N := N_is_log) (sc := defScope s_is_log) (by decide +kernel)) (fun _ _ _ _ _ => pg_name (i := 1) sc_is_log.nd rfl (Or.inl rfl)) (fun _ _ _ _ _ => pts_nil) (fun _ _ _ _ _ => (pe_con (pv 1) rfl))) pa_nil)) pe_int (nomark _)) (pss_one (ps_ret pe_bl)) pss_nil)
      (pss_one (ps_ret (pe_cmpR (op_eqX hr) (pe_callB OwnSet.call_lenTx (by rfl) T.no_len (by decide +kernel) (pa_cons (OwnSet.pe_sxD (own := [("record", 1)]) rfl sc_is_log.nd (pi_list (pv 0)) (blkOk_by (N := N_is_log) (sc := defScope s_is_log) (by decide +kernel)) (fun _ _ _ _ _ => pg_name (i := 1) sc_is_log.nd rfl (Or.inl rfl)) (fun _ _ _ _ _ => pts_nil) (fun _ _ _ _ _ => (po_propD (p := A.p_Record_item) (ok_Record_item T) (hr.mono (by decide)) (pv 1)))) pa_nil)) (pe_callB call_len (by rfl) T.no_len (by decide +kernel) (pa_cons (pv 0) pa_nil)) (nomark _)))))), ?_⟩
  cases hc with
  | no ty hk => exact ⟨_, rfl, v, 40, false, rfl, .no ty hk, fun H' s' => ⟨_, rfl, iteT (h H' s')⟩⟩
  | @lst l vs os e m z =>
    have lz := z.len
    refine ⟨_, rfl, .ref l, 40, _, rfl, .lst e m z.rws, fun H1 s1 => ⟨_, rfl, ?_⟩⟩
    rw [List.length_map, List.all_map]
    have e1 : (os.all (id ∘ kindO)) = os.all kindO := rfl
    rw [e1]
    by_cases a : (decide (os.length ≤ 40) && os.all kindO) = true
    · rw [a]
      rw [Bool.and_eq_true] at a
      have l40 := of_decide_eq_true a.1
      obtain ⟨rows, lr, bound⟩ := z.rows a.2
      have h : ∀ H', Same H H' → Q (.bl (decide (∀ a ∈ signs (os.filterMap id), ∀ b ∈ signs (os.filterMap id), a = b) && decide (names (os.filterMap id)).Nodup)) H' := fun H' s' => by
        have z := h H' s'
        unfold logB isLogB at z
        dsimp only at z
        rw [a.1, a.2, Bool.true_and, Bool.true_and] at z
        exact z
      generalize os.filterMap id = qs at rows lr bound h
      have lq := rows.len
      refine iteF ⟨_, rfl, l, rfl, ⟨_, SqL.of (s1 _ _ e)⟩, fun D nD => ?_⟩
      refine OwnSet.sx_list (K := K) (P := P) (w := w) (a := l) (xs := vs) (fun i H' => Same H1 H' ∧ H' D = some (OwnSet.TxS P w D (OwnSet.met (signs qs) i))) ?_ ?_ ?_ ?_
      · exact ⟨Same.new nD, upd_same⟩
      · rintro i H2 _ ⟨s2, _⟩
        exact SqL.of (s2 _ _ (s1 _ _ e))
      · rintro i y H2 hy ⟨s2, h2⟩
        obtain ⟨p, dx, way, x, n, rfl, hq, he, w0, w1, hx⟩ := rows.get hy
        have k := kd_of T w0 (by omega)
        obtain ⟨u, cn⟩ := k.sg
        have le := OwnSet.met_le (signs qs) i
        have hi := (List.getElem?_eq_some_iff.mp hq).1
        refine ⟨rfl, _, rfl, p, _, dx, _, _, _, rfl, s2 _ _ (s1 _ _ he), k.rc.cl, cn, no_sign _ _, _, _, rfl, h2, Nat.lt_of_le_of_lt (Nat.add_le_add_right le 1) (Nat.lt_of_lt_of_le (show i + 1 < 100 by omega) (by decide)), ?_, ?_⟩
        · intro c o eo
          rw [upd_ne (ne_of_none eo nD)]
          exact s2 _ _ eo
        · rw [upd_same]
          show _ = some (OwnSet.TxS P w D (OwnSet.putM (OwnSet.met (signs qs) i) ((signs qs).getD i Str.empty)))
          rw [signs_at hq]
      · rintro H2 ⟨s2, h2⟩
        have ls : vs.length = (signs qs).length := by
          unfold signs
          rw [List.length_map, lq]
        rw [ls] at h2
        have le := OwnSet.met_le (signs qs) (signs qs).length
        have sm : (OwnSet.met (signs qs) (signs qs).length).length < scanBound := Nat.lt_of_le_of_lt le (Nat.lt_of_lt_of_le (show _ < 100 by omega) (by decide))
        have one := met_one (signs qs)
        refine ⟨D, _, rfl, h2, sm, _, _, rfl, rfl, _, rfl, ite2 (fun c => ?_) (fun c => ?_)⟩
        · have c' := of_decide_eq_true c
          have no : ¬ ∀ a ∈ signs qs, ∀ b ∈ signs qs, a = b := fun z => by
            have := one.mpr z
            omega
          rw [decide_eq_false no, Bool.false_and] at h
          exact h H2 (s1.trans s2)
        · have c' := of_decide_eq_false (Bool.eq_false_iff.mpr c)
          have yes : ∀ a ∈ signs qs, ∀ b ∈ signs qs, a = b := one.mp (by omega)
          rw [decide_eq_true yes, Bool.true_and] at h
          have s12 := s1.trans s2
          refine ⟨_, rfl, l, rfl, ⟨_, SqL.of (s12 _ _ e)⟩, fun D2 nD2 => ?_⟩
          refine OwnSet.sx_list (K := K) (P := P) (w := w) (a := l) (xs := vs) (fun i H' => Same H2 H' ∧ H' D2 = some (OwnSet.TxS P w D2 (OwnSet.met (names qs) i))) ?_ ?_ ?_ ?_
          · exact ⟨Same.new nD2, upd_same⟩
          · rintro i H3 _ ⟨s3, _⟩
            exact SqL.of (s3 _ _ (s12 _ _ e))
          · rintro i y H3 hy ⟨s3, h3⟩
            obtain ⟨p, dx, way, x, n, rfl, hq, he, w0, w1, hx⟩ := rows.get hy
            have le2 := OwnSet.met_le (names qs) i
            have hi := (List.getElem?_eq_some_iff.mp hq).1
            have he3 := s3 _ _ (s12 _ _ he)
            refine ⟨rfl, _, rfl, p, _, dx, _, rfl, he3, (kd_of T w0 (by omega)).rc.cl, prop_item T w0 (by omega), p, dx, way, x, n, rfl, he3, w0, by omega, _, _, rfl, h3, Nat.lt_of_le_of_lt (Nat.add_le_add_right le2 1) (Nat.lt_of_lt_of_le (show i + 1 < 100 by omega) (by decide)), ?_, ?_⟩
            · intro c o eo
              rw [upd_ne (ne_of_none eo nD2)]
              exact s3 _ _ eo
            · rw [upd_same]
              show _ = some (OwnSet.TxS P w D2 (OwnSet.putM (OwnSet.met (names qs) i) ((names qs).getD i Str.empty)))
              rw [names_at hq]
          · rintro H3 ⟨s3, h3⟩
            have ln : vs.length = (names qs).length := by
              unfold names
              rw [List.length_map, lq]
            have all := OwnSet.met_all (names qs)
            have le2 := OwnSet.met_le (names qs) (names qs).length
            rw [ln] at h3
            have sm2 : (OwnSet.met (names qs) (names qs).length).length < scanBound := Nat.lt_of_le_of_lt le2 (Nat.lt_of_lt_of_le (show _ < 100 by omega) (by decide))
            refine ⟨D2, _, rfl, h3, sm2, _, rfl, _, _, rfl, .inl ⟨_, SqL.of (s3 _ _ (s12 _ _ e)), rfl⟩, eqS rfl ?_⟩
            have z : decide (V.int (((OwnSet.met (names qs) (names qs).length).length : Nat) : Int) = V.int ((vs.length : Nat) : Int)) = decide (names qs).Nodup := by
              rw [← all, ln]
              exact decide_eq_decide.mpr ⟨fun z => by have := V.int.inj z; omega, fun z => by rw [z]⟩
            rw [z]
            exact h H3 (s12.trans s3)
    · have a' := Bool.eq_false_iff.mpr a
      rw [a']
      refine iteT ?_
      have z : logB (some os) = false := by
        show isLogB os = false
        unfold isLogB
        rw [← Bool.and_assoc, a', Bool.false_and]
      rw [z] at h
      exact h H1 s1
theorem ok_is_log (T : Txt K mg A) : OkX P w K mg base 4 A.f_is_log ["thing"] (spLog K A) := T.fn_is_log.okX sc_is_log (fun _ _ _ _ _ _ us hl => match us, hl with | [_], _ => rfl) len_is_log (body_is_log T)
theorem okK_is_log (T : Txt K mg A) : OkX1 P w K mg base 4 A.f_is_log ["thing"] (spLog K A) := T.fn_is_log.okX1 sc_is_log (fun _ _ _ _ _ _ _ => rfl) len_is_log (body_is_log T)

end
end Own

set_option Elab.async false
set_option linter.all false
set_option maxRecDepth 100000
set_option maxHeartbeats 4000000
namespace Own
open PySem L2 ClX
local macro_rules | `(tactic| walk_at "v") => `(tactic| refine ⟨_, rfl, ?_⟩)
local macro_rules | `(tactic| walk_at "ii") => `(tactic| refine ⟨_, _, rfl, rfl, ?_⟩)
local macro_rules | `(tactic| walk_at "go") => `(tactic| repeat (first | refine ⟨_, rfl, ?_⟩ | refine ⟨_, _, rfl, rfl, ?_⟩ | refine addI ?_ | refine L2.iteT ?_ | refine L2.iteF ?_))

section
variable {P : Program} {w : World} {K : PySem.W.Frag} {mg : Str → Option Value} {base : Heap} {A : Ad}
/-! ### logs and known lists -/
theorem Rows.etys {H : Hp} {vs : List V} {ps : List (Int × Str × Nat)} (h : Rows A H vs ps) (b : ∀ q ∈ ps, q.2.2 ≤ 60) : Etys K A H vs (ps.map some) := by
  induction h with
  | nil => exact .nil
  | cons e h0 h1 hx _ ih => exact .cons (.row e h0 (by omega) hx (b _ List.mem_cons_self)) (ih fun q hq => b q (List.mem_cons_of_mem _ hq))
structure LogQ (way : Int) (qs : List (Int × Str × Nat)) : Prop where
  bd : ∀ q ∈ qs, q.2.2 ≤ 60
  wy : ∀ q ∈ qs, q.1 = way
  w0 : 0 ≤ way
  w1 : way ≤ 2
  nd : (names qs).Nodup
  len : qs.length ≤ 40
theorem logB_ok {way : Int} {qs : List (Int × Str × Nat)} (L : LogQ way qs) : logB (some (qs.map some)) = true := by
  show isLogB (qs.map some) = true
  have fm : (qs.map some).filterMap id = qs := by
    rw [List.filterMap_map]
    exact List.filterMap_some
  have all : (qs.map some).all kindO = true := by
    rw [List.all_eq_true]
    intro o ho
    obtain ⟨q, hq, rfl⟩ := List.mem_map.mp ho
    have := L.wy q hq
    have := L.w1
    exact decide_eq_true (by omega)
  have sg : ∀ a ∈ signs qs, ∀ b ∈ signs qs, a = b := fun a ha b hb => by
    obtain ⟨q, hq, rfl⟩ := List.mem_map.mp ha
    obtain ⟨r, hr, rfl⟩ := List.mem_map.mp hb
    show signW q.1 = signW r.1
    rw [L.wy q hq, L.wy r hr]
  unfold isLogB
  rw [fm, all, List.length_map, decide_eq_true L.len, decide_eq_true sg, decide_eq_true L.nd]
  rfl
theorem prop_slot (T : Txt K mg A) {way : Int} (h0 : 0 ≤ way) (h1 : way ≤ 3) : PropOf K (cw A way) "slot" A.p_Record_slot A.m_Record_slot := by
  rcases way4 h0 h1 with rfl | rfl | rfl | rfl
  · exact T.pr_Inserted_slot
  · exact T.pr_Removed_slot
  · exact T.pr_Fronted_slot
  · exact T.pr_Record_slot
def spSlotP (A : Ad) : Sp := fun vs H Q _ => ∃ (p dx : Addr) (way : Int) (x : Str) (n : Int), vs = [.ref p] ∧ H p = some (.ins (cw A way) dx (rfs x n)) ∧ 0 ≤ way ∧ way ≤ 3 ∧ Q (.int n) H
theorem ok_Record_slot (T : Txt K mg A) : Ok1 P w K mg base 1 A.m_Record_slot ["self"] (spSlotP A) := by
  refine T.fn_Record_slot.ok sc_Record_slot (fun _ _ _ _ _ _ us hl => match us, hl with | [_], _ => rfl) (fun vs H Q E h => ?_) (fun cdv B up s H vs Q E hr h => ?_)
  · obtain ⟨p, dx, way, x, n, rfl, _⟩ := h
    rfl
  · obtain ⟨p, dx, way, x, n, rfl, hp, w0, w1, h⟩ := h
    have k := kd_of T w0 w1
    refine ⟨_, (pss_one (ps_ret (pe_fld (pv 0) rfl))), ?_⟩
    exact ⟨_, rfl, p, _, dx, _, _, rfl, hp, k.rc.cl, k.rc.nS, rfs_slot _ _, h⟩
def spCheckL (A : Ad) : Sp := fun vs H Q _ => ∃ (l : Addr) (rs : List V) (way : Int) (qs : List (Int × Str × Nat)), vs = [.ref l] ∧ H l = some (.lst rs) ∧ Rows A H rs qs ∧ LogQ way qs ∧ ∀ H', Same H H' → Q .non H'
theorem ok_check_log (T : Txt K mg A) : Ok1 P w K mg base 5 A.f_check_log ["log"] (spCheckL A) := by
  refine T.fn_check_log.ok sc_check_log (fun _ _ _ _ _ _ us hl => match us, hl with | [_], _ => rfl) (fun vs H Q E h => ?_) (fun cdv B up s H vs Q E hr h => ?_)
  · obtain ⟨l, rs, way, qs, rfl, _⟩ := h
    rfl
  · obtain ⟨l, rs, way, qs, rfl, hl, rows, L, h⟩ := h
    refine ⟨_, (pss_one (ps_if (pt_not (pt_val (px_call (ok_is_log T) (fun _ => atL) (hr.mono (by decide)) T.mg_is_log (pa_cons (pv 0) pa_nil)))) (pss_one ps_never) pss_nil)), ?_⟩
    have lr := rows.len
    have ll := L.len
    refine ⟨_, rfl, .ref l, some (qs.map some), rfl, .lst hl (by omega) (rows.etys L.bd), fun H1 s1 => ⟨_, rfl, ?_⟩⟩
    rw [logB_ok L]
    exact iteF (h H1 s1)
/-- the sign of a log -/
def signQ (way : Int) (qs : List (Int × Str × Nat)) : Str := if qs = [] then "" else signW way
def spSign (A : Ad) : Sp := fun vs H Q _ => ∃ (l : Addr) (rs : List V) (way : Int) (qs : List (Int × Str × Nat)), vs = [.ref l] ∧ H l = some (.lst rs) ∧ Rows A H rs qs ∧ LogQ way qs ∧ Q (.str (signQ way qs)) H
theorem ok_sign_of (T : Txt K mg A) : Ok1 P w K mg base 1 A.f_sign_of ["log"] (spSign A) := by
  refine T.fn_sign_of.ok sc_sign_of (fun _ _ _ _ _ _ us hl => match us, hl with | [_], _ => rfl) (fun vs H Q E h => ?_) (fun cdv B up s H vs Q E hr h => ?_)
  · obtain ⟨l, rs, way, qs, rfl, _⟩ := h
    rfl
  · obtain ⟨l, rs, way, qs, rfl, hl, rows, L, h⟩ := h
    refine ⟨_, (pss_one (ps_ret (pe_ifExp (pt_cmpR op_gt (pe_callB call_len (by rfl) T.no_len (by decide +kernel) (pa_cons (pv 0) pa_nil)) pe_int (nomark _)) (pe_con (pe_ix ix_seq (pv 0) pe_int (fun _ _ => rfl)) rfl) (pe_clsv T.cv_Record_SIGN (pe_glob (v := .ref A.c_Record) rfl T.mg_Record rfl))))), ?_⟩
    refine ⟨_, rfl, _, _, rfl, .inl ⟨_, SqL.of hl, rfl⟩, _, _, rfl, rfl, _, rfl, ?_⟩
    cases rows with
    | nil =>
      rw [decide_eq_false (show ¬ (0 : Int) < (([] : List V).length : Nat) by decide)]
      exact iteF h
    | @cons p dx w x n vs ps e h0 h1 hx t =>
      rw [decide_eq_true (show (0 : Int) < (((.ref p :: vs) : List V).length : Nat) by rw [List.length_cons]; omega)]
      have k := kd_of T h0 (by omega)
      obtain ⟨u, cn⟩ := k.sg
      have ew : w = way := L.wy _ List.mem_cons_self
      subst ew
      refine iteT ⟨_, rfl, ixL hl (atI0 _ _) ?_⟩
      exact ⟨p, _, dx, _, _, _, rfl, e, k.rc.cl, cn, no_sign _ _, h⟩
def frontB (way : Int) (qs : List (Int × Str × Nat)) : Bool := decide (qs ≠ [] ∧ way = 2)
theorem sign_front {way : Int} {qs : List (Int × Str × Nat)} (L : LogQ way qs) : decide (V.str (signQ way qs) = V.str "^") = frontB way qs := by
  unfold signQ frontB
  by_cases e : qs = []
  · rw [if_pos e]
    have : ¬ (qs ≠ [] ∧ way = 2) := fun z => z.1 e
    rw [decide_eq_false this]
    decide +kernel
  · rw [if_neg e]
    have w0 := L.w0
    have w1 := L.w1
    rcases (show way = 0 ∨ way = 1 ∨ way = 2 by omega) with rfl | rfl | rfl
    · rw [decide_eq_false (fun z : qs ≠ [] ∧ (0 : Int) = 2 => absurd z.2 (by decide))]
      decide +kernel
    · rw [decide_eq_false (fun z : qs ≠ [] ∧ (1 : Int) = 2 => absurd z.2 (by decide))]
      decide +kernel
    · rw [decide_eq_true (show qs ≠ [] ∧ (2 : Int) = 2 from ⟨e, rfl⟩)]
      decide +kernel
def spFront (A : Ad) : Sp := fun vs H Q _ => ∃ (l : Addr) (rs : List V) (way : Int) (qs : List (Int × Str × Nat)), vs = [.ref l] ∧ H l = some (.lst rs) ∧ Rows A H rs qs ∧ LogQ way qs ∧ Q (.bl (frontB way qs)) H
theorem ok_is_fronted (T : Txt K mg A) : Ok1 P w K mg base 2 A.f_is_fronted ["log"] (spFront A) := by
  refine T.fn_is_fronted.ok sc_is_fronted (fun _ _ _ _ _ _ us hl => match us, hl with | [_], _ => rfl) (fun vs H Q E h => ?_) (fun cdv B up s H vs Q E hr h => ?_)
  · obtain ⟨l, rs, way, qs, rfl, _⟩ := h
    rfl
  · obtain ⟨l, rs, way, qs, rfl, hl, rows, L, h⟩ := h
    refine ⟨_, (pss_one (ps_ret (pe_cmpR (op_eqX hr) (po_call (ok_sign_of T) (hr.mono (by decide)) T.mg_sign_of (pa_cons (pv 0) pa_nil)) (pe_clsv T.cv_Fronted_SIGN (pe_glob (v := .ref A.c_Fronted) rfl T.mg_Fronted rfl)) (nomark _)))), ?_⟩
    refine ⟨_, rfl, l, rs, way, qs, rfl, hl, rows, L, eqS rfl ?_⟩
    rw [sign_front L]
    exact h

end
end Own

set_option Elab.async false
set_option linter.all false
set_option maxRecDepth 100000
set_option maxHeartbeats 4000000
namespace Own
open PySem L2 ClX
local macro_rules | `(tactic| walk_at "v") => `(tactic| refine ⟨_, rfl, ?_⟩)
local macro_rules | `(tactic| walk_at "ii") => `(tactic| refine ⟨_, _, rfl, rfl, ?_⟩)
local macro_rules | `(tactic| walk_at "go") => `(tactic| repeat (first | refine ⟨_, rfl, ?_⟩ | refine ⟨_, _, rfl, rfl, ?_⟩ | refine addI ?_ | refine L2.iteT ?_ | refine L2.iteF ?_))

section
variable {P : Program} {w : World} {K : PySem.W.Frag} {mg : Str → Option Value} {base : Heap} {A : Ad}
theorem Rows.snoc {H : Hp} {vs : List V} {ps : List (Int × Str × Nat)} {p dx : Addr} {way : Int} {x : Str} {n : Nat} (h : Rows A H vs ps) (e : H p = some (.ins (cw A way) dx (rfs x n))) (h0 : 0 ≤ way) (h1 : way < 3) (hx : isItem x = true) : Rows A H (vs ++ [.ref p]) (ps ++ [(way, x, n)]) := by
  induction h with
  | nil => exact .cons e h0 h1 hx .nil
  | cons e' a b c _ ih => exact .cons e' a b c ih
theorem Rows.updL {H : Hp} {vs us : List V} {ps : List (Int × Str × Nat)} {D : Addr} {o : HO} (h : Rows A H vs ps) (hD : H D = some (.lst us)) : Rows A (upd H D o) vs ps := by
  induction h with
  | nil => exact .nil
  | @cons p dx way x n vs ps e a b c _ ih =>
    refine .cons (dx := dx) ?_ a b c ih
    rw [upd_ne (fun z => by rw [z, hD] at e; cases e)]
    exact e

def spRecOf (A : Ad) : Sp := fun vs H Q _ => ∃ (way n : Int) (x : Str), vs = [.str (signW way), .str x, .int n] ∧ 0 ≤ way ∧ way ≤ 2 ∧ isItem x = true ∧ 0 ≤ n ∧ n ≤ 60 ∧
  ∀ (p dx : Addr) (H' : Hp), Same H H' → H p = none → H' p = some (.ins (cw A way) dx (rfs x n)) → Q (.ref p) H'
theorem ok_record_of (T : Txt K mg A) : Ok1 P w K mg base 5 A.f_record_of ["sign", "item", "slot"] (spRecOf A) := by
  refine T.fn_record_of.ok sc_record_of (fun _ _ _ _ _ _ us hl => match us, hl with | [_, _, _], _ => rfl) (fun vs H Q E h => ?_) (fun cdv B up s H vs Q E hr h => ?_)
  · obtain ⟨way, n, x, rfl, _⟩ := h
    rfl
  · obtain ⟨way, n, x, rfl, w0, w1, hi, h0, h1, h⟩ := h
    refine ⟨_, (pss_cons (ps_if (pt_cmpR (op_eqX hr) (pv 0) (pe_clsv T.cv_Inserted_SIGN (pe_glob (v := .ref A.c_Inserted) rfl T.mg_Inserted rfl)) (nomark _)) (pss_one (ps_ret (po_make T.mk_Inserted (ok_Record___init__ T) (hr.mono (by decide)) T.mg_Inserted (pa_cons (pv 1) (pa_cons (pv 2) pa_nil))))) pss_nil)
      (pss_cons (ps_if (pt_cmpR (op_eqX hr) (pv 0) (pe_clsv T.cv_Removed_SIGN (pe_glob (v := .ref A.c_Removed) rfl T.mg_Removed rfl)) (nomark _)) (pss_one (ps_ret (po_make T.mk_Removed (ok_Record___init__ T) (hr.mono (by decide)) T.mg_Removed (pa_cons (pv 1) (pa_cons (pv 2) pa_nil))))) pss_nil)
      (pss_one (ps_ret (po_make T.mk_Fronted (ok_Record___init__ T) (hr.mono (by decide)) T.mg_Fronted (pa_cons (pv 1) (pa_cons (pv 2) pa_nil))))))), ?_⟩
    rcases (show way = 0 ∨ way = 1 ∨ way = 2 by omega) with rfl | rfl | rfl
    · refine ⟨_, rfl, eqS rfl ⟨_, rfl, ?_⟩⟩
      rw [show decide (V.str (signW 0) = V.str "+") = true by decide +kernel]
      exact iteT ⟨_, rfl, _, rfl, fun p dx np nd ne => ⟨p, _, dx, x, n, rfl, upd_same, rc_Inserted T, hi, h0, h1, fun H' e b => ⟨rfl, h p dx H' (made_same np nd b) np e⟩⟩⟩
    · refine ⟨_, rfl, eqS rfl ⟨_, rfl, ?_⟩⟩
      rw [show decide (V.str (signW 1) = V.str "+") = false by decide +kernel]
      refine iteF ⟨_, rfl, eqS rfl ⟨_, rfl, ?_⟩⟩
      rw [show decide (V.str (signW 1) = V.str "-") = true by decide +kernel]
      exact iteT ⟨_, rfl, _, rfl, fun p dx np nd ne => ⟨p, _, dx, x, n, rfl, upd_same, rc_Removed T, hi, h0, h1, fun H' e b => ⟨rfl, h p dx H' (made_same np nd b) np e⟩⟩⟩
    · refine ⟨_, rfl, eqS rfl ⟨_, rfl, ?_⟩⟩
      rw [show decide (V.str (signW 2) = V.str "+") = false by decide +kernel]
      refine iteF ⟨_, rfl, eqS rfl ⟨_, rfl, ?_⟩⟩
      rw [show decide (V.str (signW 2) = V.str "-") = false by decide +kernel]
      exact iteF ⟨_, rfl, _, rfl, fun p dx np nd ne => ⟨p, _, dx, x, n, rfl, upd_same, rc_Fronted T, hi, h0, h1, fun H' e b => ⟨rfl, h p dx H' (made_same np nd b) np e⟩⟩⟩

/-! ### what is told of records -/
theorem kit_I (T : Txt K mg A) {way : Int} (h0 : 0 ≤ way) (h1 : way < 3) : PySem.W.kitOne K (.ref (cw A way)) (.ref A.c_Inserted) = some (decide (way = 0)) := by
  rcases (show way = 0 ∨ way = 1 ∨ way = 2 by omega) with rfl | rfl | rfl
  · exact T.kit_Inserted_Inserted
  · exact T.kit_Removed_Inserted
  · exact T.kit_Fronted_Inserted
theorem kit_R (T : Txt K mg A) {way : Int} (h0 : 0 ≤ way) (h1 : way < 3) : PySem.W.kitOne K (.ref (cw A way)) (.ref A.c_Removed) = some (decide (way = 1)) := by
  rcases (show way = 0 ∨ way = 1 ∨ way = 2 by omega) with rfl | rfl | rfl
  · exact T.kit_Inserted_Removed
  · exact T.kit_Removed_Removed
  · exact T.kit_Fronted_Removed
theorem kit_F (T : Txt K mg A) {way : Int} (h0 : 0 ≤ way) (h1 : way < 3) : PySem.W.kitOne K (.ref (cw A way)) (.ref A.c_Fronted) = some (decide (way = 2)) := by
  rcases (show way = 0 ∨ way = 1 ∨ way = 2 by omega) with rfl | rfl | rfl
  · exact T.kit_Inserted_Fronted
  · exact T.kit_Removed_Fronted
  · exact T.kit_Fronted_Fronted
def kindsV (way : Int) : List V := [.bl (decide (way = 0)), .bl (decide (way = 1)), .bl (decide (way = 2))]
inductive Fcts (H : Hp) : List V → List (Int × Str × Nat) → Prop where
  | nil : Fcts H [] []
  | cons {t b : Addr} {way : Int} {x : Str} {n : Nat} {vs : List V} {qs : List (Int × Str × Nat)} (e : H t = some (.tup [.ref b, .str x, .int (n : Nat)])) (f : H b = some (.lst (kindsV way))) (r : Fcts H vs qs) : Fcts H (.ref t :: vs) ((way, x, n) :: qs)
theorem Fcts.same {H H' : Hp} {vs : List V} {qs : List (Int × Str × Nat)} (h : Fcts H vs qs) (s : Same H H') : Fcts H' vs qs := by
  induction h with
  | nil => exact .nil
  | cons e f _ ih => exact .cons (s _ _ e) (s _ _ f) ih
theorem Fcts.len {H : Hp} {vs : List V} {qs : List (Int × Str × Nat)} (h : Fcts H vs qs) : vs.length = qs.length := by
  induction h with
  | nil => rfl
  | cons _ _ _ ih => rw [List.length_cons, List.length_cons, ih]
theorem Fcts.snoc {H : Hp} {vs : List V} {qs : List (Int × Str × Nat)} {t b : Addr} {way : Int} {x : Str} {n : Nat} (h : Fcts H vs qs) (e : H t = some (.tup [.ref b, .str x, .int (n : Nat)])) (f : H b = some (.lst (kindsV way))) : Fcts H (vs ++ [.ref t]) (qs ++ [(way, x, n)]) := by
  induction h with
  | nil => exact .cons e f .nil
  | cons e' f' _ ih => exact .cons e' f' ih
/-- what it was at D is neither a tuple nor such a list -/
theorem Fcts.updN {H : Hp} {vs : List V} {qs : List (Int × Str × Nat)} {D : Addr} {u o : HO} (h : Fcts H vs qs) (hD : H D = some u) (n1 : ∀ xs, u ≠ .tup xs) (n2 : ∀ way, u ≠ .lst (kindsV way)) : Fcts (upd H D o) vs qs := by
  induction h with
  | nil => exact .nil
  | @cons t b way x n vs qs e f _ ih =>
    refine .cons (b := b) ?_ ?_ ih
    · rw [upd_ne (fun z => by rw [z, hD] at e; exact n1 _ (Option.some.inj e))]
      exact e
    · rw [upd_ne (fun z => by rw [z, hD] at f; exact n2 _ (Option.some.inj f))]
      exact f
def fctD (q : Int × Str × Nat) : PyData := .tuple [.list [.bool (decide (q.1 = 0)), .bool (decide (q.1 = 1)), .bool (decide (q.1 = 2))], .str q.2.1, .int (q.2.2 : Nat)]
def factsD (qs : List (Int × Str × Nat)) : PyData := .list (qs.map fctD)
theorem Fcts.dp {H : Hp} {vs : List V} {qs : List (Int × Str × Nat)} (h : Fcts H vs qs) : DpAll K H vs (qs.map fctD) := by
  induction h with
  | nil => exact .nil
  | cons e f _ ih => exact .cons (.tup (SqT.of e) (.cons (.lst (SqL.of f) (.cons (.bl _) (.cons (.bl _) (.cons (.bl _) .nil)))) (.cons (.str _) (.cons (.int _) .nil)))) ih
theorem facts_plain : ∀ qs : List (Int × Str × Nat), PyData.plainAll (qs.map fctD) = true
  | [] => by simp [PyData.plainAll]
  | q :: qs => by simp [PyData.plainAll, PyData.plain, fctD, facts_plain qs]
theorem facts_eqv (qs : List (Int × Str × Nat)) : PyData.eqv (factsD qs) (factsD qs) = true := PySem.SeqAt.eqv_refl_plain _ (by
  unfold factsD
  simp [PyData.plain, facts_plain])
theorem item_ok {x : Str} (h : isItem x = true) : PyData.strOk x = true := by
  unfold PyData.strOk
  rw [Array.all_eq_true']
  intro c hc
  have := item_chars h c (Array.mem_toList_iff.mpr hc)
  exact decide_eq_true (by omega)
theorem facts_lay : ∀ qs : List (Int × Str × Nat), (∀ q ∈ qs, isItem q.2.1 = true) → PyData.canLayAll0 (qs.map fctD) = true
  | [], _ => by simp [PyData.canLayAll0]
  | q :: qs, h => by
    have a := item_ok (h q List.mem_cons_self)
    simp [PyData.canLayAll0, PyData.canLay0, fctD, a, facts_lay qs fun r hr => h r (List.mem_cons_of_mem _ hr)]
theorem facts_depth : ∀ qs : List (Int × Str × Nat), PyData.depthAll (qs.map fctD) ≤ 2
  | [] => by simp [PyData.depthAll]
  | q :: qs => by
    have := facts_depth qs
    simp only [List.map_cons, PyData.depthAll, PyData.depth, fctD]
    omega
theorem facts_shaped {qs : List (Int × Str × Nat)} (hq : ∀ q ∈ qs, isItem q.2.1 = true) : SeqAt.shaped (factsD qs) = true := by
  have a := facts_lay qs hq
  have b := facts_depth qs
  unfold SeqAt.shaped factsD
  refine Bool.and_eq_true_iff.mpr ⟨?_, decide_eq_true ?_⟩
  · rw [PyData.canLay0]
    exact a
  · simp only [PyData.depth]
    omega
def spFacts (A : Ad) : Sp := fun vs H Q _ => ∃ (l : Addr) (rs : List V) (qs : List (Int × Str × Nat)), vs = [.ref l] ∧ H l = some (.lst rs) ∧ Rows A H rs qs ∧ qs.length ≤ 40 ∧
  ∀ (D : Addr) (us : List V) (H' : Hp), Same H H' → H D = none → H' D = some (.lst us) → Fcts H' us qs → Q (.ref D) H'
theorem notKinds (us : List V) (h : ∀ v ∈ us, ∃ a, v = .ref a) : ∀ way, HO.lst us ≠ .lst (kindsV way) := fun way e => by
  cases e
  obtain ⟨a, z⟩ := h _ List.mem_cons_self
  cases z
theorem Fcts.refs {H : Hp} {vs : List V} {qs : List (Int × Str × Nat)} (h : Fcts H vs qs) : ∀ v ∈ vs, ∃ a, v = .ref a := by
  induction h with
  | nil => intro v hv; cases hv
  | cons _ _ _ ih =>
    intro v hv
    rcases List.mem_cons.mp hv with rfl | hv
    · exact ⟨_, rfl⟩
    · exact ih v hv
theorem ok__law_facts (T : Txt K mg A) : Ok1 P w K mg base 3 A.f__law_facts ["book"] (spFacts A) := by
  refine T.fn__law_facts.ok sc__law_facts (fun _ _ _ _ _ _ us hl => match us, hl with | [_], _ => rfl) (fun vs H Q E h => ?_) (fun cdv B up s H vs Q E hr h => ?_)
  · obtain ⟨l, rs, qs, rfl, _⟩ := h
    rfl
  · obtain ⟨l, rs, qs, rfl, hl, rows, lq, h⟩ := h
    refine ⟨_, (pss_cons (ps_set (i := 1) sc__law_facts.nd rfl (Or.inl rfl) (pe_lst pa_nil))
      (pss_cons (ps_for PassesOwn.never rfl (pi_list (pv 0)) (pg_name (i := 2) sc__law_facts.nd rfl (Or.inl rfl))
      (pss_cons (ps_set (i := 3) sc__law_facts.nd rfl (Or.inl rfl) (pe_lst (pa_cons (pe_callB call_isi (by rfl) T.no_isinstance (by decide +kernel) (pa_cons (pv 2) (pa_cons (pe_glob (v := .ref A.c_Inserted) rfl T.mg_Inserted rfl) pa_nil))) (pa_cons (pe_callB call_isi (by rfl) T.no_isinstance (by decide +kernel) (pa_cons (pv 2) (pa_cons (pe_glob (v := .ref A.c_Removed) rfl T.mg_Removed rfl) pa_nil))) (pa_cons (pe_callB call_isi (by rfl) T.no_isinstance (by decide +kernel) (pa_cons (pv 2) (pa_cons (pe_glob (v := .ref A.c_Fronted) rfl T.mg_Fronted rfl) pa_nil))) pa_nil)))))
      (pss_one (ps_expr (pe_bm PySem.F.plainAttrs_list PySem.F.slot_list_append PySem.F.type_list_append mt_append (pv 1) (pa_cons (pe_tup (pa_cons (pv 3) (pa_cons (po_propD (p := A.p_Record_item) (ok_Record_item T) (hr.mono (by decide)) (pv 2)) (pa_cons (po_propD (p := A.p_Record_slot) (ok_Record_slot T) (hr.mono (by decide)) (pv 2)) pa_nil)))) pa_nil))))))
      (pss_one (ps_ret (pv 1))))), ?_⟩
    have lr := rows.len
    refine ⟨Nat.zero_le _, fun F nF => ?_⟩
    refine ⟨_, rfl, l, rfl, ⟨_, SqL.of ((Same.new nF) _ _ hl)⟩, for_list (K := K) (a := l) (xs := rs) (fun i σ H' => (∃ a2 a3 : Option V, σ = [some (.ref l), some (.ref F), a2, a3]) ∧ Same H H' ∧ ∃ us, H' F = some (.lst us) ∧ Fcts H' us (qs.take i))
      ⟨⟨_, _, rfl⟩, Same.new nF, [], upd_same, .nil⟩ ?_ ?_ ?_⟩
    · rintro i σ H1 _ ⟨_, s1, _⟩
      exact SqL.of (s1 _ _ hl)
    · rintro i y σ H1 hy ⟨⟨a2, a3, rfl⟩, s1, us, h1, f1⟩
      obtain ⟨p, dx, way, x, n, rfl, hq, he, w0, w1, hx⟩ := rows.get hy
      have hi := (List.getElem?_eq_some_iff.mp hq).1
      have he1 := s1 _ _ he
      have k := kd_of T w0 (by omega : way ≤ 3)
      have ty : TyX K H1 (.ref p) (.ref (cw A way)) := .base (.ins he1 k.rc.cl k.ty.ha k.ty.hn k.ty.ht k.ty.hm)
      have lu := f1.len
      rw [List.length_take] at lu
      refine ⟨_, rfl, _, _, _, _, _, rfl, .own _, ty, kit_I T w0 w1, ?_⟩
      refine ⟨_, rfl, _, _, _, _, _, rfl, .own _, ty, kit_R T w0 w1, ?_⟩
      refine ⟨_, rfl, _, _, _, _, _, rfl, .own _, ty, kit_F T w0 w1, Nat.le_of_ble_eq_true rfl, fun b nb => ?_⟩
      have ub := Same.new (o := .lst (kindsV way)) nb
      have hb : upd H1 b (.lst [.bl (decide (way = 0)), .bl (decide (way = 1)), .bl (decide (way = 2))]) b = some (.lst (kindsV way)) := upd_same
      have e1 := ub _ _ he1
      have h2 := ub _ _ h1
      have f2 := f1.same ub
      have S2 := s1.trans ub
      have e1 : upd H1 b (.lst [.bl (decide (way = 0)), .bl (decide (way = 1)), .bl (decide (way = 2))]) p = _ := e1
      have h2 : upd H1 b (.lst [.bl (decide (way = 0)), .bl (decide (way = 1)), .bl (decide (way = 2))]) F = _ := h2
      have f2 : Fcts (upd H1 b (.lst [.bl (decide (way = 0)), .bl (decide (way = 1)), .bl (decide (way = 2))])) us (qs.take i) := f2
      have S2 : Same H (upd H1 b (.lst [.bl (decide (way = 0)), .bl (decide (way = 1)), .bl (decide (way = 2))])) := S2
      generalize upd H1 b (.lst [.bl (decide (way = 0)), .bl (decide (way = 1)), .bl (decide (way = 2))]) = H2 at hb e1 h2 f2 S2 ⊢
      refine ⟨_, rfl, .inl ⟨rfl, _, SqL.of h2⟩, _, rfl, _, rfl, p, _, dx, _, rfl, e1, k.rc.cl, prop_item T w0 (by omega), p, dx, way, x, n, rfl, e1, w0, by omega, _, rfl, p, _, dx, _, rfl, e1, k.rc.cl, prop_slot T w0 (by omega), p, dx, way, x, n, rfl, e1, w0, by omega, Nat.le_of_ble_eq_true rfl, fun tp ntp => ⟨F, _, _, rfl, rfl, (Same.new ntp) _ _ h2, Nat.lt_of_lt_of_le (show us.length < 1000 by omega) (by decide), ?_⟩⟩
      have ut := Same.new (o := .tup [.ref b, .str x, .int (n : Nat)]) ntp
      refine ⟨⟨_, _, rfl⟩, fun c o eo => ?_, us ++ [.ref tp], upd_same, ?_⟩
      · rw [upd_ne (ne_of_none eo nF)]
        exact ut _ _ (S2 _ _ eo)
      · have e2 : qs.take (i + 1) = qs.take i ++ [(way, x, n)] := by
          rw [List.take_add_one, hq]
          rfl
        rw [e2]
        exact ((f2.same ut).snoc upd_same (ut _ _ hb)).updN (ut _ _ h2) (fun xs e => by cases e) (notKinds _ f2.refs)
    · rintro σ H1 ⟨⟨a2, a3, rfl⟩, s1, us, h1, f1⟩
      rw [lr, List.take_length] at f1
      exact ⟨_, rfl, h F us H1 s1 nF h1 f1⟩

/-! ### move_to -/
def spMove (K : PySem.W.Frag) : Sp := fun vs H Q _ => ∃ (p C dx : Addr) (x : Str) (m n : Int), vs = [.ref p, .int n] ∧ H p = some (.ins C dx (rfs x m)) ∧ RC K C ∧ 0 ≤ n ∧ n ≤ 60 ∧ Q .non (upd H p (.ins C dx (rfs x n)))
theorem ok_Record_move_to (T : Txt K mg A) : Ok1 P w K mg base 3 A.m_Record_move_to ["self", "slot"] (spMove K) := by
  refine T.fn_Record_move_to.ok sc_Record_move_to (fun _ _ _ _ _ _ us hl => match us, hl with | [_, _], _ => rfl) (fun vs H Q E h => ?_) (fun cdv B up s H vs Q E hr h => ?_)
  · obtain ⟨p, C, dx, x, m, n, rfl, _⟩ := h
    rfl
  · obtain ⟨p, C, dx, x, m, n, rfl, hp, R, h0, h1, h⟩ := h
    refine ⟨_, (pss_cons (ps_expr (po_call (ok_check_index T) (hr.mono (by decide)) T.mg_check_index (pa_cons (pv 1) pa_nil)))
      (pss_one (ps_fld (pv 0) (pv 1) rfl))), ?_⟩
    refine ⟨_, rfl, _, rfl, h0, h1, ?_⟩
    refine ⟨_, rfl, _, rfl, p, C, dx, _, rfl, hp, R.cl, R.nS, rfs_len _ _, ?_⟩
    rw [rfs_put]
    exact h
theorem meths_move (T : Txt K mg A) {way : Int} (h0 : 0 ≤ way) (h1 : way ≤ 3) : RC K (cw A way) ∧ ∃ f, Meth K (cw A way) "move_to" f ∧ Ok1 P w K mg base 3 f ["self", "slot"] (spMove K) := by
  rcases way4 h0 h1 with rfl | rfl | rfl | rfl
  · exact ⟨rc_Inserted T, _, T.me_Inserted_move_to, ok_Record_move_to T⟩
  · exact ⟨rc_Removed T, _, T.me_Removed_move_to, ok_Record_move_to T⟩
  · exact ⟨rc_Fronted T, _, T.me_Fronted_move_to, ok_Record_move_to T⟩
  · exact ⟨rc_Record T, _, T.me_Record_move_to, ok_Record_move_to T⟩

end
end Own

set_option Elab.async false
set_option linter.all false
set_option maxRecDepth 100000
set_option maxHeartbeats 4000000
namespace Own
open PySem L2 ClX
local macro_rules | `(tactic| walk_at "v") => `(tactic| refine ⟨_, rfl, ?_⟩)
local macro_rules | `(tactic| walk_at "ii") => `(tactic| refine ⟨_, _, rfl, rfl, ?_⟩)
local macro_rules | `(tactic| walk_at "go") => `(tactic| repeat (first | refine ⟨_, rfl, ?_⟩ | refine ⟨_, _, rfl, rfl, ?_⟩ | refine addI ?_ | refine L2.iteT ?_ | refine L2.iteF ?_))

section
variable {P : Program} {w : World} {K : PySem.W.Frag} {mg : Str → Option Value} {base : Heap} {A : Ad}
/-! ### the law's items -/
theorem SrcAt.ne {H : Hp} {p q : Addr} {n : Int} (s : SrcAt H p n) (h : H q = none) : q ≠ p := fun e => by
  obtain ⟨g, m', c, z, _⟩ := s
  rw [e, z] at h
  cases h
theorem SrcAt.le {H : Hp} {p : Addr} {n m : Int} (s : SrcAt H p n) (h : n ≤ m) : SrcAt H p m := by
  obtain ⟨g, m', c, e, h0, h1, h2, h3⟩ := s
  exact ⟨g, m', c, e, h0, h1, h2, by omega⟩
def abc : Str := "abcdefghijklmnopqrstuvwxyz"
def sgAt (i : Nat) : List Str := (List.range i).map fun j => (⟨#[abc.cps.getD j 0]⟩ : Str)
def pfAt (p : Str) (i : Nat) : List Str := (List.range i).map fun j => p ++ (⟨#[abc.cps.getD j 0]⟩ : Str)
theorem sgAt_succ (i : Nat) : sgAt (i + 1) = sgAt i ++ [(⟨#[abc.cps.getD i 0]⟩ : Str)] := by
  unfold sgAt
  rw [List.range_succ, List.map_append]
  rfl
theorem pfAt_succ (p : Str) (i : Nat) : pfAt p (i + 1) = pfAt p i ++ [p ++ (⟨#[abc.cps.getD i 0]⟩ : Str)] := by
  unfold pfAt
  rw [List.range_succ, List.map_append]
  rfl
theorem sgAt_len (i : Nat) : (sgAt i).length = i := by unfold sgAt; rw [List.length_map, List.length_range]
theorem pfAt_len (p : Str) (i : Nat) : (pfAt p i).length = i := by unfold pfAt; rw [List.length_map, List.length_range]
def pool78 : List Str := sgAt 26 ++ pfAt "z" 26 ++ pfAt "abcdefg" 26
theorem pool_items : Items pool78 := ⟨List.all_eq_true.mp (by decide +kernel : pool78.all isItem = true), by decide +kernel⟩
theorem pool_len : pool78.length = 78 := by decide +kernel
def spItems : Sp := fun vs H Q _ => ∃ (p : Addr) (n : Int) (size : Nat), vs = [.ref p, .int size] ∧ SrcAt H p n ∧ n < 2 ^ 50 ∧ size ≤ 60 ∧
  ∀ (D : Addr) (ys : List Str) (H' : Hp), Items ys → (∀ y ∈ ys, y ∈ pool78) → ys.length = size → But p H H' → SrcAt H' p (n + size) → H D = none → H' D = some (.lst (ys.map V.str)) → Q (.ref D) H'
theorem ok__law_items (T : Txt K mg A) : Ok1 P w K mg base 2 A.f__law_items ["tape", "many"] spItems := by
  refine T.fn__law_items.ok sc__law_items (fun _ _ _ _ _ _ us hl => match us, hl with | [_, _], _ => rfl) (fun vs H Q E h => ?_) (fun cdv B up s H vs Q E hr h => ?_)
  · obtain ⟨p, n, size, rfl, _⟩ := h
    rfl
  · obtain ⟨p, n, size, rfl, hs, hn, hz, h⟩ := h
    refine ⟨_, (pss_cons (ps_set (i := 2) sc__law_items.nd rfl (Or.inl rfl) pe_str)
      (pss_cons (ps_set (i := 3) sc__law_items.nd rfl (Or.inr rfl) (pe_op op_addX (pe_op op_addX (pe_lcD (own := [("sign", 4)]) rfl sc__law_items.nd (pi_str (pv 2)) (blkOk_by (N := N__law_items) (sc := defScope s__law_items) (by decide +kernel)) (fun _ _ _ _ _ => pg_name (i := 4) sc__law_items.nd rfl (Or.inl rfl)) (fun _ _ _ _ _ => pts_nil) (fun _ _ _ _ _ => (pv 4))) (pe_lcD (own := [("sign", 4)]) rfl sc__law_items.nd (pi_str (pv 2)) (blkOk_by (N := N__law_items) (sc := defScope s__law_items) (by decide +kernel)) (fun _ _ _ _ _ => pg_name (i := 4) sc__law_items.nd rfl (Or.inl rfl)) (fun _ _ _ _ _ => pts_nil) (fun _ _ _ _ _ => (pe_op op_addX pe_str (pv 4))))) (pe_lcD (own := [("sign", 4)]) rfl sc__law_items.nd (pi_str (pv 2)) (blkOk_by (N := N__law_items) (sc := defScope s__law_items) (by decide +kernel)) (fun _ _ _ _ _ => pg_name (i := 4) sc__law_items.nd rfl (Or.inl rfl)) (fun _ _ _ _ _ => pts_nil) (fun _ _ _ _ _ => (pe_op op_addX pe_str (pv 4))))))
      (pss_one (ps_ret (pe_lcD (own := [("k", 5)]) rfl sc__law_items.nd (pi_range1 rfl T.no_range (pa_cons (pv 1) pa_nil)) (blkOk_by (N := N__law_items) (sc := defScope s__law_items) (by decide +kernel)) (fun _ _ _ _ _ => pg_name (i := 5) sc__law_items.nd rfl (Or.inl rfl)) (fun _ _ _ _ _ => pts_nil) (fun _ _ _ _ _ => (pe_bm PySem.F.plainAttrs_list PySem.F.slot_list_pop PySem.F.type_list_pop mt_popAt (pv 3) (pa_cons (po_call (ok__law_next T) (hr.mono (by decide)) T.mg__law_next (pa_cons (pv 0) (pa_cons (pe_callB call_len (by rfl) T.no_len (by decide +kernel) (pa_cons (pv 3) pa_nil)) pa_nil))) pa_nil)))))))), ?_⟩
    refine ⟨_, rfl, abc, rfl, fun D1 n1 => ?_⟩
    refine lc_it (walk_str (z := abc)) (fun i H' => Same H H' ∧ H' D1 = some (.lst ((sgAt i).map V.str))) ⟨Same.new n1, upd_same⟩ (fun _ _ _ _ => trivial) ?_ ?_
    · rintro i y H1 H2 hi ⟨s1, h1⟩ ⟨rfl, c, ec, rfl⟩
      have ec2 : abc.cps.getD i 0 = c := by
        rw [Array.getD_eq_getD_getElem?, ec]
        rfl
      have hi : i < 26 := hi
      refine ⟨rfl, _, rfl, _, h1, ?_, fun c o eo => ?_, ?_⟩
      · rw [List.length_map, sgAt_len]
        exact Nat.lt_of_lt_of_le (show i < 1000 by omega) (by decide)
      · rw [upd_ne (ne_of_none eo n1)]
        exact s1 _ _ eo
      · rw [upd_same, sgAt_succ, ec2, List.map_append]
        rfl
    rintro H1 ⟨s1, h1⟩
    have h1 : H1 D1 = some (.lst ((sgAt 26).map V.str)) := h1
    refine ⟨_, rfl, abc, rfl, fun D2 n2 => ?_⟩
    refine lc_it (walk_str (z := abc)) (fun i H' => Same H1 H' ∧ H' D2 = some (.lst ((pfAt "z" i).map V.str))) ⟨Same.new n2, upd_same⟩ (fun _ _ _ _ => trivial) ?_ ?_
    · rintro i y H3 H4 hi ⟨s3, h3⟩ ⟨rfl, c, ec, rfl⟩
      have ec2 : abc.cps.getD i 0 = c := by
        rw [Array.getD_eq_getD_getElem?, ec]
        rfl
      have hi : i < 26 := hi
      refine ⟨rfl, _, rfl, addS (Nat.le_of_ble_eq_true rfl) ⟨_, h3, ?_, fun c o eo => ?_, ?_⟩⟩
      · rw [List.length_map, pfAt_len]
        exact Nat.lt_of_lt_of_le (show i < 1000 by omega) (by decide)
      · rw [upd_ne (ne_of_none eo n2)]
        exact s3 _ _ eo
      · rw [upd_same, pfAt_succ, ec2, List.map_append]
        rfl
    rintro H2 ⟨s2, h2⟩
    have h2 : H2 D2 = some (.lst ((pfAt "z" 26).map V.str)) := h2
    refine addL (s2 _ _ h1) h2 (by rw [List.length_map, List.length_map, sgAt_len, pfAt_len]; decide) fun l0 n0 => ?_
    have u0 := Same.new (o := .lst ((sgAt 26).map V.str ++ (pfAt "z" 26).map V.str)) n0
    have hl0 : upd H2 l0 (.lst ((sgAt 26).map V.str ++ (pfAt "z" 26).map V.str)) l0 = some (.lst ((sgAt 26).map V.str ++ (pfAt "z" 26).map V.str)) := upd_same
    have S2 := (s1.trans s2).trans u0
    generalize upd H2 l0 (.lst ((sgAt 26).map V.str ++ (pfAt "z" 26).map V.str)) = H3 at hl0 S2 ⊢
    clear s1 s2 u0 h1 h2 n1 n2 n0
    refine ⟨_, rfl, abc, rfl, fun D3 n3 => ?_⟩
    refine lc_it (walk_str (z := abc)) (fun i H' => Same H3 H' ∧ H' D3 = some (.lst ((pfAt "abcdefg" i).map V.str))) ⟨Same.new n3, upd_same⟩ (fun _ _ _ _ => trivial) ?_ ?_
    · rintro i y H4 H5 hi ⟨s3, h3⟩ ⟨rfl, c, ec, rfl⟩
      have ec2 : abc.cps.getD i 0 = c := by
        rw [Array.getD_eq_getD_getElem?, ec]
        rfl
      have hi : i < 26 := hi
      refine ⟨rfl, _, rfl, addS (Nat.le_of_ble_eq_true rfl) ⟨_, h3, ?_, fun c o eo => ?_, ?_⟩⟩
      · rw [List.length_map, pfAt_len]
        exact Nat.lt_of_lt_of_le (show i < 1000 by omega) (by decide)
      · rw [upd_ne (ne_of_none eo n3)]
        exact s3 _ _ eo
      · rw [upd_same, pfAt_succ, ec2, List.map_append]
        rfl
    rintro H4 ⟨s4, h4⟩
    have h4 : H4 D3 = some (.lst ((pfAt "abcdefg" 26).map V.str)) := h4
    refine addL (s4 _ _ hl0) h4 (by rw [List.length_append, List.length_map, List.length_map, List.length_map, sgAt_len, pfAt_len, pfAt_len]; decide) fun l nl => ?_
    have u0 := Same.new (o := .lst ((sgAt 26).map V.str ++ (pfAt "z" 26).map V.str ++ (pfAt "abcdefg" 26).map V.str)) nl
    have hl : upd H4 l (.lst ((sgAt 26).map V.str ++ (pfAt "z" 26).map V.str ++ (pfAt "abcdefg" 26).map V.str)) l = some (.lst (pool78.map V.str)) := by
      rw [upd_same]
      unfold pool78
      rw [List.map_append, List.map_append]
    have S4 := (S2.trans s4).trans u0
    have nl0 : H l = none := none_same (S2.trans s4) nl
    generalize upd H4 l (.lst ((sgAt 26).map V.str ++ (pfAt "z" 26).map V.str ++ (pfAt "abcdefg" 26).map V.str)) = H1 at hl S4 ⊢
    clear s4 S2 u0 h4 n3 hl0 nl
    have wi := pool_items
    have wl := pool_len
    generalize pool78 = xs at hl wi wl h
    have lp : l ≠ p := SrcAt.ne hs nl0
    refine ⟨_, rfl, _, rfl, by omega, by omega, fun D nD => ?_⟩
    have Dl : D ≠ l := fun e => by
      rw [e, hl] at nD
      cases nD
    have nD0 : H D = none := none_same S4 nD
    have Dp : D ≠ p := SrcAt.ne hs nD0
    have hs1 := SrcAt.same hs S4
    refine lc_range (fun i H' => ∃ done rest : List Str, (done ++ rest).Perm xs ∧ done.length = i ∧ H' l = some (.lst (rest.map V.str)) ∧ H' D = some (.lst (done.map V.str)) ∧ SrcAt H' p (n + i) ∧ But p H H') ?_ ?_ ?_
    · refine ⟨[], xs, List.Perm.refl _, rfl, ?_, upd_same, ?_, ?_⟩
      · rw [upd_ne (fun e => Dl e.symm), hl]
      · have z := hs1.same (Same.new (o := .lst []) nD)
        have e : n + ((0 : Nat) : Int) = n := by omega
        rw [e]
        exact z
      · exact But.same (S4.trans (Same.new nD))
    · rintro i H1 hi ⟨done, rest, pm, dl, h1, h2, h3, h4⟩
      have hlen : rest.length = 78 - i := by
        have := pm.length_eq
        rw [List.length_append] at this
        omega
      refine ⟨rfl, _, rfl, .inl ⟨rfl, _, SqL.of h1⟩, _, rfl, _, rfl, _, _, rfl, .inl ⟨_, SqL.of h1, rfl⟩, p, _, n + i, rfl, ?_, ?_, h3, by omega, fun r0 H3 g0 g1 g2 g3 => ?_⟩
      · rw [List.length_map]
        omega
      · rw [List.length_map]
        omega
      rw [List.length_map] at g1
      have k1 : r0.toNat < rest.length := by omega
      refine ⟨l, _, r0, r0.toNat, .str (rest[r0.toNat]), rfl, rfl, g3 _ _ h1 lp, by omega, by omega, ?_, ?_, done.map V.str, ?_, ?_, done ++ [rest[r0.toNat]], rest.eraseIdx r0.toNat, (perm_out done rest _ k1).trans pm, ?_, ?_, ?_, ?_, ?_⟩
      · rw [List.length_map]
        exact seqIx g0 g1
      · rw [List.getElem?_map, List.getElem?_eq_getElem k1]
        rfl
      · rw [upd_ne Dl]
        exact g3 _ _ h2 Dp
      · rw [List.length_map, dl]
        exact Nat.lt_of_lt_of_le (show i < 1000 by omega) (by decide)
      · rw [List.length_append, dl]
        rfl
      · rw [upd_ne (fun e => Dl e.symm), upd_same, map_eraseIdx]
      · rw [upd_same, List.map_append]
        rfl
      · have z : n + ((i + 1 : Nat) : Int) = n + i + 1 := by omega
        rw [z]
        obtain ⟨g, m, c, e, r⟩ := g2
        exact ⟨g, m, c, by rw [upd_ne (fun e => Dp e.symm), upd_ne (fun e => lp e.symm)]; exact e, r⟩
      · intro b o hb nb
        rw [upd_ne (ne_of_none hb nD0), upd_ne (ne_of_none hb nl0)]
        exact g3 _ _ (h4 b o hb nb) nb
    · rintro H2 ⟨done, rest, pm, dl, h1, h2, h3, h4⟩
      rw [Int.toNat_natCast] at dl h3
      refine h D done H2 ?_ (fun y hy => pm.mem_iff.mp (List.mem_append_left _ hy)) dl h4 h3 nD0 h2
      have wp := wi.perm pm
      exact ⟨fun x hx => wp.it x (List.mem_append_left _ hx), (List.nodup_append.mp wp.nd).1⟩

end
end Own

set_option Elab.async false
set_option linter.all false
set_option maxRecDepth 100000
set_option maxHeartbeats 4000000
namespace Own
open PySem L2 ClX
local macro_rules | `(tactic| walk_at "v") => `(tactic| refine ⟨_, rfl, ?_⟩)
local macro_rules | `(tactic| walk_at "ii") => `(tactic| refine ⟨_, _, rfl, rfl, ?_⟩)
local macro_rules | `(tactic| walk_at "go") => `(tactic| repeat (first | refine ⟨_, rfl, ?_⟩ | refine ⟨_, _, rfl, rfl, ?_⟩ | refine addI ?_ | refine L2.iteT ?_ | refine L2.iteF ?_))

section
variable {P : Program} {w : World} {K : PySem.W.Frag} {mg : Str → Option Value} {base : Heap} {A : Ad}
/-! ### how many are at most a number -/
def cle (l : List Nat) (j : Nat) : Nat := (l.filter fun a => decide (a ≤ j)).length
theorem cle_perm {l m : List Nat} (h : l.Perm m) (j : Nat) : cle l j = cle m j := (h.filter _).length_eq
theorem cle_len (l : List Nat) (j : Nat) : cle l j ≤ l.length := List.length_filter_le _ _
theorem cle_cons (a : Nat) (l : List Nat) (j : Nat) : cle (a :: l) j = (if a ≤ j then 1 else 0) + cle l j := by
  unfold cle
  by_cases h : a ≤ j
  · rw [List.filter_cons_of_pos (p := fun a => decide (a ≤ j)) (decide_eq_true h), if_pos h, List.length_cons]
    omega
  · rw [List.filter_cons_of_neg (p := fun a => decide (a ≤ j)) (by rw [decide_eq_false h]; decide), if_neg h]
    omega
theorem cle_app (l m : List Nat) (j : Nat) : cle (l ++ m) j = cle l j + cle m j := by
  unfold cle
  rw [List.filter_append, List.length_append]
theorem cle_mono (l : List Nat) {i j : Nat} (h : i ≤ j) : cle l i ≤ cle l j := by
  induction l with
  | nil => exact Nat.le_refl _
  | cons a l ih =>
    rw [cle_cons, cle_cons]
    by_cases c : a ≤ i
    · rw [if_pos c, if_pos (Nat.le_trans c h)]
      omega
    · rw [if_neg c]
      omega
theorem cle_all {l : List Nat} {j : Nat} (h : ∀ a ∈ l, a ≤ j) : cle l j = l.length := by
  unfold cle
  rw [List.filter_eq_self.mpr fun a ha => decide_eq_true (h a ha)]
theorem cle_none {l : List Nat} {j : Nat} (h : ∀ a ∈ l, j < a) : cle l j = 0 := by
  unfold cle
  rw [List.filter_eq_nil_iff.mpr fun a ha => by have := h a ha; rw [decide_eq_false (by omega)]; decide]
  rfl
/-- a sorted list: the count, by place -/
theorem cle_sorted : ∀ {s : List Nat}, s.Pairwise (· ≤ ·) → ∀ {i j : Nat} (h : i < s.length), i + 1 ≤ cle s j ↔ s[i] ≤ j
  | [], _, i, j, h => by cases h
  | a :: s, p, i, j, h => by
    obtain ⟨p1, p2⟩ := List.pairwise_cons.mp p
    rw [cle_cons]
    by_cases c : a ≤ j
    · rw [if_pos c]
      cases i with
      | zero => exact ⟨fun _ => c, fun _ => by omega⟩
      | succ i =>
        have ih := cle_sorted p2 (i := i) (j := j) (by rw [List.length_cons] at h; omega)
        rw [List.getElem_cons_succ, ← ih]
        constructor <;> intro z <;> omega
    · rw [if_neg c, cle_none fun b hb => by have := p1 b hb; omega]
      constructor
      · intro z; omega
      · intro z
        cases i with
        | zero => exact absurd z c
        | succ i =>
          rw [List.getElem_cons_succ] at z
          have := p1 _ (List.getElem_mem (show i < s.length by rw [List.length_cons] at h; omega))
          omega
/-- the first number with no more entries up to it than itself -/
structure IsCut (l : List Nat) (m : Nat) : Prop where
  lo : ∀ i, i < m → i + 1 ≤ cle l i
  hi : cle l m ≤ m
theorem IsCut.unique {l : List Nat} {m m' : Nat} (a : IsCut l m) (b : IsCut l m') : m = m' := by
  rcases Nat.lt_trichotomy m m' with h | h | h
  · have := b.lo m h
    have := a.hi
    omega
  · exact h
  · have := a.lo m' h
    have := b.hi
    omega
theorem IsCut.perm {l k : List Nat} {m : Nat} (a : IsCut l m) (h : l.Perm k) : IsCut k m := ⟨fun i hi => by rw [← cle_perm h]; exact a.lo i hi, by rw [← cle_perm h]; exact a.hi⟩
/-- the least number with which each place is reached -/
structure IsMiss (l : List Nat) (m : Nat) : Prop where
  ok : ∀ i, i < l.length → i + 1 ≤ cle l (i + m)
  le : ∀ m', (∀ i, i < l.length → i + 1 ≤ cle l (i + m')) → m ≤ m'
theorem IsMiss.unique {l : List Nat} {m m' : Nat} (a : IsMiss l m) (b : IsMiss l m') : m = m' := by
  have := a.le _ b.ok
  have := b.le _ a.ok
  omega
theorem IsMiss.perm {l k : List Nat} {m : Nat} (a : IsMiss l m) (h : l.Perm k) : IsMiss k m := ⟨fun i hi => by rw [← cle_perm h]; exact a.ok i (by rw [h.length_eq]; exact hi), fun m' g => a.le m' fun i hi => by rw [cle_perm h]; exact g i (by rw [← h.length_eq]; exact hi)⟩
/-! ### found in a sorted list -/
def cutTo (s : List Nat) : Nat → Nat
  | 0 => 0
  | i + 1 => if s.getD i 0 ≤ cutTo s i then cutTo s i + 1 else cutTo s i
theorem getD_get {s : List Nat} {i : Nat} (h : i < s.length) : s.getD i 0 = s[i] := by
  rw [List.getD_eq_getElem?_getD, List.getElem?_eq_getElem h]
  rfl
theorem cutTo_succ (s : List Nat) (i : Nat) : cutTo s (i + 1) = if s.getD i 0 ≤ cutTo s i then cutTo s i + 1 else cutTo s i := rfl
theorem cutTo_inv {s : List Nat} (p : s.Pairwise (· ≤ ·)) (i : Nat) (hi : i ≤ s.length) : cutTo s i ≤ i ∧ (∀ t, t < cutTo s i → s.getD t 0 ≤ t) ∧ (cutTo s i = i ∨ (cutTo s i < i ∧ cutTo s i < s.getD (cutTo s i) 0)) := by
  induction i with
  | zero => exact ⟨Nat.le_refl _, (fun t h => by cases h), .inl rfl⟩
  | succ i ih =>
    obtain ⟨a, b, c⟩ := ih (by omega)
    have e := cutTo_succ s i
    have hl : i < s.length := by omega
    rcases c with c | ⟨c1, c2⟩
    · by_cases d : s.getD i 0 ≤ cutTo s i
      · rw [if_pos d] at e
        rw [e]
        refine ⟨by omega, fun t lt => ?_, .inl (by omega)⟩
        by_cases q : t < cutTo s i
        · exact b t q
        · obtain rfl : t = i := by omega
          omega
      · rw [if_neg d] at e
        rw [e]
        refine ⟨by omega, b, .inr ⟨by omega, ?_⟩⟩
        have z : s.getD (cutTo s i) 0 = s.getD i 0 := by rw [c]
        omega
    · have d : ¬ s.getD i 0 ≤ cutTo s i := by
        have q := List.pairwise_iff_getElem.mp p (cutTo s i) i (by omega) hl c1
        rw [getD_get hl]
        rw [getD_get (show cutTo s i < s.length by omega)] at c2
        omega
      rw [if_neg d] at e
      rw [e]
      exact ⟨by omega, b, .inr ⟨by omega, c2⟩⟩
theorem cut_of {s : List Nat} (p : s.Pairwise (· ≤ ·)) : IsCut s (cutTo s s.length) := by
  obtain ⟨a, b, c⟩ := cutTo_inv p s.length (Nat.le_refl _)
  refine ⟨fun i hi => (cle_sorted p (show i < s.length by omega)).mpr (by have := b i hi; rw [getD_get (show i < s.length by omega)] at this; exact this), ?_⟩
  rcases c with c | ⟨c1, c2⟩
  · rw [c]
    exact cle_len _ _
  · rw [getD_get c1] at c2
    refine Nat.le_of_not_lt fun z => ?_
    have := (cle_sorted p c1).mp z
    omega
theorem miss_of {s : List Nat} (p : s.Pairwise (· ≤ ·)) {m : Nat} (a : ∀ i (h : i < s.length), s[i] ≤ i + m) (b : m = 0 ∨ ∃ i, ∃ h : i < s.length, s[i] = i + m) : IsMiss s m := by
  refine ⟨fun i hi => (cle_sorted p hi).mpr (a i hi), fun m' g => ?_⟩
  rcases b with rfl | ⟨i, hi, e⟩
  · exact Nat.zero_le _
  · have := (cle_sorted p hi).mp (g i hi)
    omega

end
end Own

set_option Elab.async false
set_option linter.all false
set_option maxRecDepth 100000
set_option maxHeartbeats 4000000
namespace Own
open PySem L2 ClX
local macro_rules | `(tactic| walk_at "v") => `(tactic| refine ⟨_, rfl, ?_⟩)
local macro_rules | `(tactic| walk_at "ii") => `(tactic| refine ⟨_, _, rfl, rfl, ?_⟩)
local macro_rules | `(tactic| walk_at "go") => `(tactic| repeat (first | refine ⟨_, rfl, ?_⟩ | refine ⟨_, _, rfl, rfl, ?_⟩ | refine addI ?_ | refine L2.iteT ?_ | refine L2.iteF ?_))

section
variable {P : Program} {w : World} {K : PySem.W.Frag} {mg : Str → Option Value} {base : Heap} {A : Ad}
/-! ### the program: what is missing, what is usable -/
theorem nats_of {ns : List Int} {l : List Nat} (h : ns.Perm (l.map fun n : Nat => (n : Int))) (p : ns.Pairwise (· ≤ ·)) : ∃ s : List Nat, ns = s.map (fun n : Nat => (n : Int)) ∧ s.Perm l ∧ s.Pairwise (· ≤ ·) := by
  have pos : ∀ z ∈ ns, 0 ≤ z := fun z hz => by
    obtain ⟨n, _, rfl⟩ := List.mem_map.mp (h.mem_iff.mp hz)
    omega
  have e : ns = (ns.map Int.toNat).map (fun n : Nat => (n : Int)) := by
    rw [List.map_map]
    have z : ns.map ((fun n : Nat => (n : Int)) ∘ Int.toNat) = ns.map id := List.map_congr_left fun z hz => by
      have := pos z hz
      show ((z.toNat : Nat) : Int) = z
      omega
    rw [z, List.map_id]
  refine ⟨ns.map Int.toNat, e, ?_, ?_⟩
  · have q := h.map Int.toNat
    rw [List.map_map] at q
    have z : l.map (Int.toNat ∘ fun n : Nat => (n : Int)) = l := by
      have z2 : l.map (Int.toNat ∘ fun n : Nat => (n : Int)) = l.map id := List.map_congr_left fun n _ => by
        show ((n : Int)).toNat = n
        omega
      rw [z2, List.map_id]
    rw [z] at q
    exact q
  · rw [List.pairwise_map]
    exact List.Pairwise.imp_of_mem (fun {a b} ha hb q => by
      have := pos a ha
      have := pos b hb
      omega) p
def slotsN (qs : List (Int × Str × Nat)) : List Nat := qs.map fun q => q.2.2
def spGrown (A : Ad) : Sp := fun vs H Q _ => ∃ (l : Addr) (rs : List V) (way : Int) (qs : List (Int × Str × Nat)), vs = [.ref l] ∧ H l = some (.lst rs) ∧ Rows A H rs qs ∧ LogQ way qs ∧ way ≤ 1 ∧ ∀ H', Same H H' → Q .non H'
theorem ok_check_grown (T : Txt K mg A) : Ok1 P w K mg base 6 A.f_check_grown ["log"] (spGrown A) := by
  refine T.fn_check_grown.ok sc_check_grown (fun _ _ _ _ _ _ us hl => match us, hl with | [_], _ => rfl) (fun vs H Q E h => ?_) (fun cdv B up s H vs Q E hr h => ?_)
  · obtain ⟨l, rs, way, qs, rfl, _⟩ := h
    rfl
  · obtain ⟨l, rs, way, qs, rfl, hl, rows, L, w1, h⟩ := h
    refine ⟨_, (pss_cons (ps_expr (po_call (ok_check_log T) (hr.mono (by decide)) T.mg_check_log (pa_cons (pv 0) pa_nil)))
      (pss_one (ps_if (pt_val (po_call (ok_is_fronted T) (hr.mono (by decide)) T.mg_is_fronted (pa_cons (pv 0) pa_nil))) (pss_one ps_never) pss_nil))), ?_⟩
    refine ⟨_, rfl, l, rs, way, qs, rfl, hl, rows, L, fun H1 s1 => ?_⟩
    refine ⟨_, rfl, l, rs, way, qs, rfl, s1 _ _ hl, rows.same s1, L, _, rfl, ?_⟩
    have e : frontB way qs = false := by
      unfold frontB
      exact decide_eq_false fun z => by have := z.2; omega
    rw [e]
    exact iteF (h H1 s1)

def spUsable (A : Ad) : Sp := fun vs H Q _ => ∃ (l : Addr) (rs : List V) (way : Int) (qs : List (Int × Str × Nat)), vs = [.ref l] ∧ H l = some (.lst rs) ∧ Rows A H rs qs ∧ LogQ way qs ∧ way ≤ 1 ∧
  ∀ (m : Nat) (D : Addr) (us : List V) (H' : Hp), Same H H' → IsCut (slotsN qs) m → H D = none → H' D = some (.lst us) → Rows A H' us (qs.filter fun q => decide (q.2.2 < m)) → (∀ v ∈ us, ∃ a, v = .ref a ∧ H a = none) → Q (.ref D) H'
theorem len_usable : ∀ vs H Q E, spUsable A vs H Q E → vs.length = 1 := fun vs H Q E h => by
  obtain ⟨l, rs, way, qs, rfl, _⟩ := h
  rfl
theorem body_usable (T : Txt K mg A) : BodyX P w K mg base N_usable "usable" s_usable A.f_usable 6 (spUsable A) := by
  intro cdv B up s H vs Q E hr h
  obtain ⟨l, rs, way, qs, rfl, hl, rows, L, w1, h⟩ := h
  refine ⟨_, (pss_cons (ps_expr (po_call (ok_check_grown T) (hr.mono (by decide)) T.mg_check_grown (pa_cons (pv 0) pa_nil)))
      (pss_cons (ps_set (i := 1) sc_usable.nd rfl (Or.inr rfl) pe_int)
      (pss_cons (ps_for (passes_of rfl) rfl (pi_list (pe_callB cr_sorted (by rfl) T.no_sorted (by decide +kernel) (pa_cons (pe_lcD (own := [("record", 3)]) rfl sc_usable.nd (pi_list (pv 0)) (blkOk_by (N := N_usable) (sc := defScope s_usable) (by decide +kernel)) (fun _ _ _ _ _ => pg_name (i := 3) sc_usable.nd rfl (Or.inl rfl)) (fun _ _ _ _ _ => pts_nil) (fun _ _ _ _ _ => (po_propD (p := A.p_Record_slot) (ok_Record_slot T) (hr.mono (by decide)) (pv 3)))) pa_nil))) (pg_name (i := 2) sc_usable.nd rfl (Or.inl rfl))
      (pss_one (ps_if (pt_cmpR op_le (pv 2) (pv 1) (nomark _)) (pss_one (ps_aug (i := 1) sc_usable.nd rfl (Or.inr rfl) pe_int ip_add)) pss_nil)))
      (pss_one (ps_ret (pe_lcD (own := [("record", 3)]) rfl sc_usable.nd (pi_list (pv 0)) (blkOk_by (N := N_usable) (sc := defScope s_usable) (by decide +kernel)) (fun _ _ _ _ _ => pg_name (i := 3) sc_usable.nd rfl (Or.inl rfl)) (fun _ _ _ _ _ => (pts_one (pt_cmpR op_lt (po_propD (p := A.p_Record_slot) (ok_Record_slot T) (hr.mono (by decide)) (pv 3)) (pv 1) (nomark _)))) (fun _ _ _ _ _ => (po_call (ok_record_of T) (hr.mono (by decide)) T.mg_record_of (pa_cons (pe_con (pv 3) rfl) (pa_cons (po_propD (p := A.p_Record_item) (ok_Record_item T) (hr.mono (by decide)) (pv 3)) (pa_cons (po_propD (p := A.p_Record_slot) (ok_Record_slot T) (hr.mono (by decide)) (pv 3)) pa_nil))))))))))), ?_⟩
  have lr := rows.len
  have ll := L.len
  refine ⟨_, rfl, l, rs, way, qs, rfl, hl, rows, L, w1, fun H1 s1 => ?_⟩
  have hl1 := s1 _ _ hl
  have rows1 := rows.same s1
  refine ⟨_, rfl, l, rfl, ⟨_, SqL.of hl1⟩, fun D nD => ?_⟩
  refine lc_list (K := K) (a := l) (xs := rs) (fun i H' => Same H1 H' ∧ H' D = some (.lst ((((slotsN qs).take i).map fun n : Nat => (n : Int)).map V.int))) ?_ ?_ ?_ ?_
  · exact ⟨Same.new nD, upd_same⟩
  · rintro i H2 _ ⟨s2, _⟩
    exact SqL.of (s2 _ _ hl1)
  · rintro i y H2 hy ⟨s2, h2⟩
    obtain ⟨p, dx, w', x, n, rfl, hq, he, w0, w3, hx⟩ := rows1.get hy
    have hi := (List.getElem?_eq_some_iff.mp hq).1
    have he2 := s2 _ _ he
    have cl := (kd_of T w0 (by omega : w' ≤ 3)).rc.cl
    refine ⟨rfl, _, rfl, p, _, dx, _, rfl, he2, cl, prop_slot T w0 (by omega), p, dx, w', x, n, rfl, he2, w0, by omega, _, h2, ?_, fun c o eo => ?_, ?_⟩
    · rw [List.length_map, List.length_map, List.length_take]
      exact Nat.lt_of_le_of_lt (Nat.min_le_left _ _) (Nat.lt_of_lt_of_le (show i < 1000 by omega) (by decide))
    · rw [upd_ne (ne_of_none eo nD)]
      exact s2 _ _ eo
    · have e : (slotsN qs).take (i + 1) = (slotsN qs).take i ++ [n] := by
        rw [List.take_add_one]
        unfold slotsN
        rw [List.getElem?_map, hq]
        rfl
      rw [upd_same, e, List.map_append, List.map_append]
      rfl
  rintro H2 ⟨s2, h2⟩
  have et : (slotsN qs).take rs.length = slotsN qs := List.take_of_length_le (by unfold slotsN; rw [List.length_map]; omega)
  rw [et] at h2
  have lsn : (slotsN qs).length ≤ 40 := by unfold slotsN; rw [List.length_map]; omega
  refine ⟨D, _, rfl, SqL.of h2, by rw [List.length_map]; omega, fun ns' a pm pw na => ?_⟩
  obtain ⟨ss, rfl, pss, sw⟩ := nats_of pm pw
  have ua := Same.new (o := .lst ((ss.map fun n : Nat => (n : Int)).map V.int)) na
  have ha : upd H2 a (.lst ((ss.map fun n : Nat => (n : Int)).map V.int)) a = some (.lst ((ss.map fun n : Nat => (n : Int)).map V.int)) := upd_same
  have S2 := (s1.trans s2).trans ua
  generalize upd H2 a (.lst ((ss.map fun n : Nat => (n : Int)).map V.int)) = H3 at ha S2 ⊢
  clear s1 s2 ua h2 nD na pm
  refine ⟨a, rfl, ⟨_, SqL.of ha⟩, for_list (K := K) (a := a) (xs := (ss.map fun n : Nat => (n : Int)).map V.int) (fun i σ H' => (∃ a2 : Option V, σ = [some (.ref l), some (.int (cutTo ss i : Nat)), a2, none]) ∧ Same H3 H')
    ⟨⟨_, rfl⟩, Same.refl _⟩ ?_ ?_ ?_⟩
  · rintro i σ H4 _ ⟨_, s4⟩
    exact SqL.of (s4 _ _ ha)
  · rintro i y σ H4 hy ⟨⟨a2, rfl⟩, s4⟩
    have hi := (List.getElem?_eq_some_iff.mp hy).1
    rw [List.length_map, List.length_map] at hi
    rw [List.getElem?_map, List.getElem?_map, List.getElem?_eq_getElem hi] at hy
    obtain rfl := Option.some.inj hy
    have e := cutTo_succ ss i
    rw [getD_get hi] at e
    refine ⟨_, rfl, _, rfl, _, _, rfl, rfl, _, rfl, ?_⟩
    by_cases d : ss[i] ≤ cutTo ss i
    · rw [decide_eq_true (show ((ss[i] : Nat) : Int) ≤ (cutTo ss i : Nat) by omega)]
      rw [if_pos d] at e
      refine iteT ⟨_, rfl, _, _, rfl, rfl, ⟨some (.int (ss[i] : Nat)), ?_⟩, s4⟩
      rw [e]
      rfl
    · rw [decide_eq_false (show ¬ ((ss[i] : Nat) : Int) ≤ (cutTo ss i : Nat) by omega)]
      rw [if_neg d] at e
      refine iteF ⟨⟨some (.int (ss[i] : Nat)), ?_⟩, s4⟩
      rw [e]
      rfl
  · rintro σ H4 ⟨⟨a2, rfl⟩, s4⟩
    rw [List.length_map, List.length_map]
    have cut : IsCut (slotsN qs) (cutTo ss ss.length) := (cut_of sw).perm pss
    generalize cutTo ss ss.length = m at cut
    have S4 := S2.trans s4
    have hl4 := S4 _ _ hl
    have rows4 := rows.same S4
    refine ⟨_, rfl, l, rfl, ⟨_, SqL.of hl4⟩, fun G nG => ?_⟩
    refine lc_list (K := K) (a := l) (xs := rs) (fun i H' => Same H4 H' ∧ ∃ us, H' G = some (.lst us) ∧ Rows A H' us ((qs.take i).filter fun q => decide (q.2.2 < m)) ∧ us.length ≤ i ∧ ∀ v ∈ us, ∃ a, v = .ref a ∧ H a = none) ?_ ?_ ?_ ?_
    · exact ⟨Same.new nG, [], upd_same, .nil, Nat.zero_le _, fun v hv => by cases hv⟩
    · rintro i H5 _ ⟨s5, _⟩
      exact SqL.of (s5 _ _ hl4)
    · rintro i y H5 hy ⟨s5, us, h5, r5, l5, f5⟩
      obtain ⟨p, dx, w', x, n, rfl, hq, he, w0, w3, hx⟩ := rows4.get hy
      have hi := (List.getElem?_eq_some_iff.mp hq).1
      have he5 := s5 _ _ he
      have k := kd_of T w0 (by omega : w' ≤ 3)
      obtain ⟨u, cn⟩ := k.sg
      have n60 := L.bd _ (List.mem_of_getElem? hq)
      have n60 : n ≤ 60 := n60
      have tk : qs.take (i + 1) = qs.take i ++ [(w', x, n)] := by
        rw [List.take_add_one, hq]
        rfl
      refine ⟨rfl, _, rfl, p, _, dx, _, rfl, he5, k.rc.cl, prop_slot T w0 (by omega), p, dx, w', x, n, rfl, he5, w0, by omega, _, rfl, _, _, rfl, rfl, _, rfl, ?_⟩
      by_cases d : n < m
      · rw [decide_eq_true (show ((n : Nat) : Int) < (m : Nat) by omega)]
        refine iteT ⟨_, rfl, p, _, dx, _, _, _, rfl, he5, k.rc.cl, cn, no_sign _ _, ?_⟩
        refine ⟨_, rfl, p, _, dx, _, rfl, he5, k.rc.cl, prop_item T w0 (by omega), p, dx, w', x, n, rfl, he5, w0, by omega, ?_⟩
        refine ⟨_, rfl, p, _, dx, _, rfl, he5, k.rc.cl, prop_slot T w0 (by omega), p, dx, w', x, n, rfl, he5, w0, by omega, ?_⟩
        refine ⟨w', _, x, rfl, w0, by omega, hx, by omega, by omega, fun r' dx' H6 s6 nr er => ?_⟩
        have h6 := s6 _ _ h5
        refine ⟨us, h6, Nat.lt_of_lt_of_le (show us.length < 1000 by omega) (by decide), fun c o eo => ?_, _, upd_same, ?_, ?_, ?_⟩
        · rw [upd_ne (ne_of_none eo nG)]
          exact s6 _ _ (s5 _ _ eo)
        · rw [tk, List.filter_append, List.filter_cons_of_pos (p := fun q : Int × Str × Nat => decide (q.2.2 < m)) (decide_eq_true d), List.filter_nil]
          exact ((r5.same s6).snoc er w0 w3 hx).updL h6
        · rw [List.length_append]
          show us.length + 1 ≤ i + 1
          omega
        · intro v hv
          rcases List.mem_append.mp hv with hv | hv
          · exact f5 v hv
          · rw [List.mem_singleton.mp hv]
            exact ⟨r', rfl, none_same S4 (none_same s5 nr)⟩
      · rw [decide_eq_false (show ¬ ((n : Nat) : Int) < (m : Nat) by omega)]
        refine iteF ⟨s5, us, h5, ?_, by omega, f5⟩
        rw [tk, List.filter_append, List.filter_cons_of_neg (p := fun q : Int × Str × Nat => decide (q.2.2 < m)) (by show ¬ decide (n < m) = true; rw [decide_eq_false d]; decide), List.filter_nil, List.append_nil]
        exact r5
    · rintro H5 ⟨s5, us, h5, r5, _, f5⟩
      rw [lr, List.take_length] at r5
      exact h m G us H5 (S4.trans s5) cut (none_same S4 nG) h5 r5 f5
theorem ok_usable (T : Txt K mg A) : OkX P w K mg base 7 A.f_usable ["log"] (spUsable A) := T.fn_usable.okX sc_usable (fun _ _ _ _ _ _ us hl => match us, hl with | [_], _ => rfl) len_usable (body_usable T)
theorem okK_usable (T : Txt K mg A) : OkX1 P w K mg base 7 A.f_usable ["log"] (spUsable A) := T.fn_usable.okX1 sc_usable (fun _ _ _ _ _ _ _ => rfl) len_usable (body_usable T)

end
end Own

set_option Elab.async false
set_option linter.all false
set_option maxRecDepth 100000
set_option maxHeartbeats 4000000
namespace Own
open PySem L2 ClX
local macro_rules | `(tactic| walk_at "v") => `(tactic| refine ⟨_, rfl, ?_⟩)
local macro_rules | `(tactic| walk_at "ii") => `(tactic| refine ⟨_, _, rfl, rfl, ?_⟩)
local macro_rules | `(tactic| walk_at "go") => `(tactic| repeat (first | refine ⟨_, rfl, ?_⟩ | refine ⟨_, _, rfl, rfl, ?_⟩ | refine addI ?_ | refine L2.iteT ?_ | refine L2.iteF ?_))

section
variable {P : Program} {w : World} {K : PySem.W.Frag} {mg : Str → Option Value} {base : Heap} {A : Ad}
/-! ### closed, by trying -/
def vN (l : List Nat) : List V := l.map fun i => V.int (i : Nat)
theorem vN_len (l : List Nat) : (vN l).length = l.length := List.length_map ..
def numsD (l : List Nat) : PyData := .list (l.map fun i => PyData.int (i : Nat))
theorem nums_dp {K : PySem.W.Frag} (l : List Nat) {H : Hp} : DpAll K H (vN l) (l.map fun i => PyData.int (i : Nat)) := by
  unfold vN
  induction l with
  | nil => exact .nil
  | cons i l ih => exact .cons (.int _) ih
theorem nums_lay : ∀ l : List Nat, PyData.canLayAll0 (l.map fun i => PyData.int (i : Nat)) = true
  | [] => by simp [PyData.canLayAll0]
  | i :: l => by simp [PyData.canLayAll0, PyData.canLay0, nums_lay l]
theorem nums_depth : ∀ l : List Nat, PyData.depthAll (l.map fun i => PyData.int (i : Nat)) = 0
  | [] => by simp [PyData.depthAll]
  | i :: l => by simp [PyData.depthAll, PyData.depth, nums_depth l]
theorem numsD_shaped (l : List Nat) : SeqAt.shaped (numsD l) = true := by
  unfold SeqAt.shaped numsD
  refine Bool.and_eq_true_iff.mpr ⟨?_, decide_eq_true ?_⟩
  · rw [PyData.canLay0]
    exact nums_lay l
  · simp only [PyData.depth, nums_depth]
    omega
theorem rests_lay : ∀ rs : List (List Nat), PyData.canLayAll0 (rs.map numsD) = true
  | [] => by simp [PyData.canLayAll0]
  | r :: rs => by
    have a : (numsD r).canLay0 = true := by
      unfold numsD
      rw [PyData.canLay0]
      exact nums_lay r
    simp [PyData.canLayAll0, a, rests_lay rs]
theorem rests_depth : ∀ rs : List (List Nat), PyData.depthAll (rs.map numsD) ≤ 1
  | [] => by simp [PyData.depthAll]
  | r :: rs => by
    have := rests_depth rs
    have a : (numsD r).depth = 1 := by
      unfold numsD
      simp [PyData.depth, nums_depth r]
    simp only [List.map_cons, PyData.depthAll, a]
    omega
theorem rests_shaped (rs : List (List Nat)) : SeqAt.shaped (.list (rs.map numsD)) = true := by
  have b := rests_depth rs
  unfold SeqAt.shaped
  refine Bool.and_eq_true_iff.mpr ⟨?_, decide_eq_true ?_⟩
  · rw [PyData.canLay0]
    exact rests_lay rs
  · simp only [PyData.depth]
    omega
theorem eqv_ints : ∀ a b : List Nat, PyData.eqvAll (a.map fun i => PyData.int (i : Nat)) (b.map fun i => PyData.int (i : Nat)) = true → a = b
  | [], [], _ => rfl
  | [], y :: ys, h => by simp [PyData.eqvAll] at h
  | x :: xs, [], h => by simp [PyData.eqvAll] at h
  | x :: xs, y :: ys, h => by
    simp only [List.map_cons, PyData.eqvAll, PyData.eqv, Bool.and_eq_true] at h
    obtain ⟨h1, h2⟩ := h
    rw [eqv_ints xs ys h2]
    congr 1
    have h1 : ((x : Nat) : Int) = ((y : Nat) : Int) := of_decide_eq_true h1
    omega
theorem cutV_to (vs : List V) (k : Nat) : cutV vs none (some (k : Int)) = vs.take k := by
  unfold cutV
  rw [HT.sIx_none, HT.sIx_nat, List.drop_zero, Nat.sub_zero]
  rcases Nat.lt_or_ge vs.length k with h | h
  · rw [Nat.min_eq_right (Nat.le_of_lt h), List.take_of_length_le (Nat.le_refl _), List.take_of_length_le (Nat.le_of_lt h)]
  · rw [Nat.min_eq_left h]
theorem cutV_from (vs : List V) (k : Nat) : cutV vs (some (k : Int)) none = vs.drop k := by
  unfold cutV
  rw [HT.sIx_none, HT.sIx_nat]
  rcases Nat.lt_or_ge vs.length k with h | h
  · rw [Nat.min_eq_right (Nat.le_of_lt h), List.drop_of_length_le (Nat.le_refl _), List.drop_of_length_le (Nat.le_of_lt h), List.take_nil]
  · rw [Nat.min_eq_left h, List.take_of_length_le (by rw [List.length_drop]; exact Nat.le_refl _)]
/-- lists of lists of whole numbers -/
inductive Rl (H : Hp) : List V → List (List Nat) → Prop where
  | nil : Rl H [] []
  | cons {a : Addr} {r : List Nat} {vs : List V} {rs : List (List Nat)} (e : H a = some (.lst (vN r))) (t : Rl H vs rs) : Rl H (.ref a :: vs) (r :: rs)
theorem Rl.same {H H' : Hp} {vs : List V} {rs : List (List Nat)} (h : Rl H vs rs) (s : Same H H') : Rl H' vs rs := by
  induction h with
  | nil => exact .nil
  | cons e _ ih => exact .cons (s _ _ e) ih
theorem Rl.len {H : Hp} {vs : List V} {rs : List (List Nat)} (h : Rl H vs rs) : vs.length = rs.length := by
  induction h with
  | nil => rfl
  | cons _ _ ih => rw [List.length_cons, List.length_cons, ih]
theorem Rl.snoc {H : Hp} {vs : List V} {rs : List (List Nat)} {a : Addr} {r : List Nat} (h : Rl H vs rs) (e : H a = some (.lst (vN r))) : Rl H (vs ++ [.ref a]) (rs ++ [r]) := by
  induction h with
  | nil => exact .cons e .nil
  | cons e' _ ih => exact .cons e' ih
theorem Rl.app {H : Hp} {vs ws : List V} {rs qs : List (List Nat)} (h : Rl H vs rs) (g : Rl H ws qs) : Rl H (vs ++ ws) (rs ++ qs) := by
  induction h with
  | nil => exact g
  | cons e' _ ih => exact .cons e' ih
theorem Rl.upd {H : Hp} {vs : List V} {rs : List (List Nat)} {L : Addr} {o : HO} (h : Rl H vs rs) (n : ∀ v ∈ vs, v ≠ .ref L) : Rl (upd H L o) vs rs := by
  induction h with
  | nil => exact .nil
  | cons e _ ih =>
    refine .cons ?_ (ih fun v hv => n v (List.mem_cons_of_mem _ hv))
    rw [upd_ne (fun z => n _ List.mem_cons_self (by rw [z]))]
    exact e
theorem Rl.get {H : Hp} {vs : List V} {rs : List (List Nat)} (h : Rl H vs rs) : ∀ {i : Nat} {v : V}, vs[i]? = some v → ∃ a r, v = .ref a ∧ rs[i]? = some r ∧ H a = some (.lst (vN r)) := by
  induction h with
  | nil => intro i v e; cases e
  | cons e _ ih =>
    intro i v ev
    cases i with
    | zero => cases ev; exact ⟨_, _, rfl, rfl, e⟩
    | succ i => exact ih ev
theorem Rl.dp {K : PySem.W.Frag} {H : Hp} {vs : List V} {rs : List (List Nat)} (h : Rl H vs rs) : DpAll K H vs (rs.map numsD) := by
  induction h with
  | nil => exact .nil
  | cons e _ ih => exact .cons (.lst (SqL.of e) (nums_dp _)) ih
/-- each place has an entry that is at most it -/
def Closed (l : List Nat) : Prop := ∀ i, i < l.length → i + 1 ≤ cle l i
/-- what is left after p entries were set out -/
def Left (s : List Nat) (p : Nat) (r : List Nat) : Prop := ∃ d : List Nat, (d ++ r).Perm s ∧ d.length = p ∧ ∀ j, j < p → d.getD j 0 ≤ j
theorem Left.start (s : List Nat) : Left s 0 s := ⟨[], List.Perm.refl _, rfl, fun j h => by cases h⟩
theorem Left.len {s r : List Nat} {p : Nat} (h : Left s p r) : r.length = s.length - p := by
  obtain ⟨d, a, b, _⟩ := h
  have := a.length_eq
  rw [List.length_append] at this
  omega
theorem Left.step {s r : List Nat} {p k : Nat} (h : Left s p r) (hk : k < r.length) (le : r[k] ≤ p) : Left s (p + 1) (r.eraseIdx k) := by
  obtain ⟨d, a, b, c⟩ := h
  refine ⟨d ++ [r[k]], (perm_out d r k hk).trans a, by rw [List.length_append, b]; rfl, fun j hj => ?_⟩
  by_cases e : j < p
  · rw [List.getD_eq_getElem?_getD, List.getElem?_append_left (by omega), ← List.getD_eq_getElem?_getD]
    exact c j e
  · obtain rfl : j = p := by omega
    rw [List.getD_eq_getElem?_getD, List.getElem?_append_right (by omega), b, Nat.sub_self]
    exact le
theorem Left.closed {s : List Nat} (h : Left s s.length []) : Closed s := by
  obtain ⟨d, a, b, c⟩ := h
  rw [List.append_nil] at a
  intro i hi
  rw [← cle_perm a i, ← List.take_append_drop (i + 1) d, cle_app, cle_all (l := d.take (i + 1)) fun x hx => ?_, List.length_take]
  · omega
  · obtain ⟨j, hj, rfl⟩ := List.getElem_of_mem hx
    rw [List.length_take] at hj
    have z := c j (by omega)
    rw [getD_get (show j < d.length by omega)] at z
    rw [List.getElem_take]
    omega
theorem closed_sorted {s : List Nat} (p : s.Pairwise (· ≤ ·)) (c : Closed s) : ∀ i, i < s.length → s.getD i 0 ≤ i := fun i hi => by
  rw [getD_get hi]
  exact (cle_sorted p hi).mp (c i hi)
theorem Closed.perm {s l : List Nat} (c : Closed s) (h : s.Perm l) : Closed l := fun i hi => by
  rw [← cle_perm h]
  exact c i (by rw [h.length_eq]; exact hi)
def ub (p : Nat) : Nat := ([1, 10, 90, 720, 5040, 30240, 151200, 604800, 1814400, 3628800, 3628800] : List Nat).getD p 0
theorem ub_step : ∀ p : Fin 10, ub (p : Nat) * (10 - (p : Nat)) ≤ ub ((p : Nat) + 1) ∧ ub ((p : Nat) + 1) ≤ 3628800 := by decide +kernel
theorem drop_erase {s : List Nat} {p : Nat} (hp : p < s.length) : (s.drop p).eraseIdx 0 = s.drop (p + 1) := by
  rw [List.drop_eq_getElem_cons hp]
  rfl
def spClosed : Sp := fun vs H Q _ => ∃ (a : Addr) (l : List Nat), vs = [.ref a] ∧ H a = some (.lst (vN l)) ∧ l.length ≤ 10 ∧ (∀ H', Same H H' → Closed l → Q (.bl true) H') ∧ (∀ H', Same H H' → ¬ Closed l → Q (.bl false) H')
theorem vN_cast (l : List Nat) : vN l = (l.map fun n : Nat => (n : Int)).map V.int := by
  unfold vN
  rw [List.map_map]
  rfl
theorem ok__law_is_closed (T : Txt K mg A) : Ok1 P w K mg base 2 A.f__law_is_closed ["slots"] spClosed := by
  refine T.fn__law_is_closed.ok sc__law_is_closed (fun _ _ _ _ _ _ us hl => match us, hl with | [_], _ => rfl) (fun vs H Q E h => ?_) (fun cdv B up s H vs Q E hr h => ?_)
  · obtain ⟨a, l, rfl, _⟩ := h
    rfl
  · obtain ⟨a0, l, rfl, h0, l10, hyes, hno⟩ := h
    refine ⟨_, (pss_cons (ps_set (i := 1) sc__law_is_closed.nd rfl (Or.inl rfl) (pe_lst (pa_cons (pe_callB cr_sorted (by rfl) T.no_sorted (by decide +kernel) (pa_cons (pv 0) pa_nil)) pa_nil)))
      (pss_cons (ps_for PassesOwn.never rfl (pi_range1 rfl T.no_range (pa_cons (pe_callB call_len (by rfl) T.no_len (by decide +kernel) (pa_cons (pv 0) pa_nil)) pa_nil)) (pg_name (i := 2) sc__law_is_closed.nd rfl (Or.inl rfl))
      (pss_cons (ps_set (i := 3) sc__law_is_closed.nd rfl (Or.inl rfl) (pe_lst pa_nil))
      (pss_cons (ps_for PassesOwn.never rfl (pi_list (pv 1)) (pg_name (i := 4) sc__law_is_closed.nd rfl (Or.inl rfl))
      (pss_one (ps_for PassesOwn.never rfl (pi_range1 rfl T.no_range (pa_cons (pe_callB call_len (by rfl) T.no_len (by decide +kernel) (pa_cons (pv 4) pa_nil)) pa_nil)) (pg_name (i := 5) sc__law_is_closed.nd rfl (Or.inl rfl))
      (pss_cons (ps_set (i := 6) sc__law_is_closed.nd rfl (Or.inl rfl) (pe_op op_addX (pe_slice sl_list (pv 4) po_none (po_some (pv 5))) (pe_slice sl_list (pv 4) (po_some (pe_op op_addX (pv 5) pe_int)) po_none)))
      (pss_one (ps_if (PW.pt (pw_and (pt_cmpR op_le (pe_ix ix_seq (pv 4) (pv 5) (fun _ _ => rfl)) (pv 2) (nomark _)) (pw_and1 (pt_cmpR (op_notInD hr.units65) (pv 6) (pv 3) rfl)))) (pss_one (ps_expr (pe_bm PySem.F.plainAttrs_list PySem.F.slot_list_append PySem.F.type_list_append mt_append (pv 3) (pa_cons (pv 6) pa_nil)))) pss_nil))))))
      (pss_one (ps_set (i := 1) sc__law_is_closed.nd rfl (Or.inl rfl) (pv 3))))))
      (pss_one (ps_ret (pe_cmpR (OwnSet.op_neNil hr.units) (pv 1) (pe_lst pa_nil) (nomark _)))))), ?_⟩
    refine ⟨_, rfl, a0, _, rfl, SqL.of (by rw [h0, vN_cast]), by rw [List.length_map]; omega, fun ns' a pm pw na => ?_⟩
    obtain ⟨ss, rfl, pss, sw⟩ := nats_of pm pw
    have ls : ss.length = l.length := pss.length_eq
    rw [← vN_cast]
    have ua := Same.new (o := .lst (vN ss)) na
    refine ⟨Nat.le_of_ble_eq_true rfl, fun R nR => ?_⟩
    have uR := Same.new (o := .lst [.ref a]) nR
    have S0 := ua.trans uR
    have ha := uR _ _ (show upd H a (.lst (vN ss)) a = some (.lst (vN ss)) from upd_same)
    have hR : upd (upd H a (.lst (vN ss))) R (.lst [.ref a]) R = some (.lst [.ref a]) := upd_same
    generalize upd (upd H a (.lst (vN ss))) R (.lst [.ref a]) = H1 at ha hR S0 ⊢
    clear ua uR na nR pm
    refine ⟨_, rfl, _, _, rfl, .inl ⟨_, SqL.of (S0 _ _ h0), rfl⟩, ?_⟩
    refine ⟨_, rfl, by omega, by rw [vN_len]; omega, for_range (lo := 0) (n := Int.toNat _) (fun p σ H' => (∃ (R : Addr) (a2 a3 a4 a5 a6 : Option V), σ = [some (.ref a0), some (.ref R), a2, a3, a4, a5, a6] ∧ ∃ vs rs, H' R = some (.lst vs) ∧ Rl H' vs rs ∧ rs.length ≤ ub p ∧ (∀ r ∈ rs, Left ss p r) ∧ ((∀ i, i < p → ss.getD i 0 ≤ i) → ss.drop p ∈ rs)) ∧ Same H H')
      ⟨⟨R, _, _, _, _, _, rfl, _, [ss], hR, .cons ha .nil, Nat.le_refl _, fun r hr => by rw [List.mem_singleton.mp hr]; exact Left.start ss, fun _ => List.mem_singleton.mpr rfl⟩, S0⟩ ?_ ?_⟩
    · rintro p σ H2 hp ⟨⟨R, a2, a3, a4, a5, a6, rfl, vs, rs, hR2, q2, l2, f2, t2⟩, s2⟩
      rw [vN_len, Int.toNat_natCast] at hp
      obtain ⟨u1, u2⟩ := ub_step ⟨p, by omega⟩
      have u1 : ub p * (10 - p) ≤ ub (p + 1) := u1
      have u2 : ub (p + 1) ≤ 3628800 := u2
      have lv := q2.len
      refine ⟨Nat.zero_le _, fun L nL => ?_⟩
      have uL := Same.new (o := .lst []) nL
      refine ⟨_, rfl, R, rfl, ⟨_, SqL.of (uL _ _ hR2)⟩, for_list (K := K) (a := R) (xs := vs) (fun i σ H' => (∃ a4 a5 a6 : Option V, σ = [some (.ref a0), some (.ref R), some (.int (0 + (p : Int))), some (.ref L), a4, a5, a6]) ∧ Same H2 H' ∧ ∃ ws ls, H' L = some (.lst ws) ∧ Rl H' ws ls ∧ (∀ v ∈ ws, v ≠ .ref L) ∧ ls.length ≤ i * (10 - p) ∧ (∀ r ∈ ls, Left ss (p + 1) r) ∧ (ss.getD p 0 ≤ p → ss.drop p ∈ rs.take i → ss.drop (p + 1) ∈ ls))
        ⟨⟨_, _, _, rfl⟩, uL, [], [], upd_same, .nil, (fun v hv => by cases hv), Nat.zero_le _, (fun r hr => by cases hr), fun _ z => by cases z⟩ ?_ ?_ ?_⟩
      · rintro i σ H3 _ ⟨_, s3, _⟩
        exact SqL.of (s3 _ _ hR2)
      · rintro i y σ H3 hy ⟨⟨a4, a5, a6, rfl⟩, s3, ws, ls, hL3, q3, n3, l3, f3, t3⟩
        obtain ⟨b, r, rfl, hq, hb⟩ := q2.get hy
        have hi := (List.getElem?_eq_some_iff.mp hq).1
        have mr := List.mem_of_getElem? hq
        have lr := (f2 r mr).len
        have hb3 := s3 _ _ hb
        have step : (i + 1) * (10 - p) = i * (10 - p) + (10 - p) := by rw [Nat.add_mul, Nat.one_mul]
        have top : (i + 1) * (10 - p) ≤ ub p * (10 - p) := Nat.mul_le_mul_right _ (by omega)
        refine ⟨_, rfl, _, _, rfl, .inl ⟨_, SqL.of hb3, rfl⟩, ?_⟩
        have lr10 : r.length ≤ 10 - p := by omega
        refine ⟨_, rfl, by omega, by rw [vN_len]; omega, for_range (lo := 0) (n := Int.toNat _) (fun j σ H' => (∃ a5 a6 : Option V, σ = [some (.ref a0), some (.ref R), some (.int (0 + (p : Int))), some (.ref L), some (.ref b), a5, a6]) ∧ Same H2 H' ∧ ∃ ws ls, H' L = some (.lst ws) ∧ Rl H' ws ls ∧ (∀ v ∈ ws, v ≠ .ref L) ∧ ls.length ≤ i * (10 - p) + j ∧ (∀ r ∈ ls, Left ss (p + 1) r) ∧ (ss.getD p 0 ≤ p → ss.drop p ∈ rs.take i → ss.drop (p + 1) ∈ ls) ∧ (0 < j → ss.getD p 0 ≤ p → r = ss.drop p → ss.drop (p + 1) ∈ ls))
          ⟨⟨_, _, rfl⟩, s3, ws, ls, hL3, q3, n3, by omega, f3, t3, fun z => by cases z⟩ ?_ ?_⟩
        · rintro j σ H4 hj ⟨⟨a5, a6, rfl⟩, s4, ws, ls, hL4, q4, n4, l4, f4, t4, g4⟩
          rw [vN_len, Int.toNat_natCast] at hj
          have hb4 := s4 _ _ hb
          rw [Int.zero_add]
          refine ⟨_, rfl, _, rfl, _, rfl, b, _, rfl, SqL.of hb4, fun x1 nx1 => ?_⟩
          rw [cutV_to]
          have v1 := Same.new (o := .lst ((vN r).take j)) nx1
          refine ⟨_, rfl, _, rfl, addI ⟨_, rfl, b, _, rfl, SqL.of (v1 _ _ hb4), fun x2 nx2 => ?_⟩⟩
          rw [show ((j : Int) + 1) = ((j + 1 : Nat) : Int) by omega, cutV_from]
          have v2 := Same.new (o := .lst ((vN r).drop (j + 1))) nx2
          refine addL (v2 _ _ upd_same) upd_same (by rw [List.length_take, List.length_drop, vN_len]; omega) fun x3 nx3 => ?_
          have v3 := Same.new (o := .lst ((vN r).take j ++ (vN r).drop (j + 1))) nx3
          have VV := v1.trans (v2.trans v3)
          have hx : upd (upd (upd H4 x1 (.lst ((vN r).take j))) x2 (.lst ((vN r).drop (j + 1)))) x3 (.lst ((vN r).take j ++ (vN r).drop (j + 1))) x3 = some (.lst (vN (r.eraseIdx j))) := by
            rw [upd_same, List.eraseIdx_eq_take_drop_succ]
            unfold vN
            rw [List.map_append, List.map_take, List.map_drop]
          have x3L : x3 ≠ L := (ne_of_none ((v1.trans v2) _ _ hL4) nx3).symm
          generalize upd (upd (upd H4 x1 (.lst ((vN r).take j))) x2 (.lst ((vN r).drop (j + 1)))) x3 (.lst ((vN r).take j ++ (vN r).drop (j + 1))) = H5 at VV hx ⊢
          clear v1 v2 v3 nx1 nx2 nx3
          have hL5 := VV _ _ hL4
          have q5 := q4.same VV
          have s5 := s4.trans VV
          have hb5 := VV _ _ hb4
          refine ⟨_, rfl, _, rfl, ixL hb5 (v := .int ((r[j] : Nat) : Int)) (atI_nat (by unfold vN; rw [List.getElem?_map, List.getElem?_eq_getElem hj]; rfl)) ⟨_, rfl, _, _, rfl, rfl, _, rfl, ?_⟩⟩
          have first : j = 0 → ss.getD p 0 ≤ p → r = ss.drop p → r[j] ≤ p ∧ r.eraseIdx j = ss.drop (p + 1) := fun e le er => by
            subst e er
            have hp' : p < ss.length := by omega
            refine ⟨?_, drop_erase hp'⟩
            rw [List.getElem_drop]
            rw [getD_get hp'] at le
            exact le
          by_cases c : r[j] ≤ p
          · rw [decide_eq_true (show ((r[j] : Nat) : Int) ≤ 0 + (p : Int) by omega)]
            refine iteT ⟨_, rfl, _, rfl, numsD (r.eraseIdx j), ls.map numsD, .lst (SqL.of hx) (nums_dp _), .lst (SqL.of hL5) q5.dp, numsD_shaped _, rests_shaped _, _, rfl, ?_⟩
            by_cases d : ((ls.map numsD).any fun z => PyData.eqv z (numsD (r.eraseIdx j))) = true
            · rw [d]
              have mem : r.eraseIdx j ∈ ls := by
                obtain ⟨z, hz, ez⟩ := List.any_eq_true.mp d
                obtain ⟨q, hq, rfl⟩ := List.mem_map.mp hz
                have e : PyData.eqvAll (q.map fun i => PyData.int (i : Nat)) ((r.eraseIdx j).map fun i => PyData.int (i : Nat)) = true := ez
                rw [← eqv_ints _ _ e]
                exact hq
              refine iteF ⟨⟨_, _, rfl⟩, s5, ws, ls, hL5, q5, n4, by omega, f4, t4, fun _ le er => ?_⟩
              by_cases z : j = 0
              · rw [← (first z le er).2]
                exact mem
              · exact g4 (by omega) le er
            · rw [Bool.eq_false_iff.mpr d]
              have lw := q5.len
              refine iteT ⟨_, rfl, .inl ⟨rfl, _, SqL.of hL5⟩, _, rfl, L, _, _, rfl, rfl, hL5, ?_, ⟨_, _, rfl⟩, fun c o eo => ?_, ws ++ [.ref x3], ls ++ [r.eraseIdx j], upd_same, (q5.snoc hx).upd ?_, ?_, ?_, ?_, ?_, ?_⟩
              · exact Nat.lt_of_lt_of_le (show ws.length < 4000000 by omega) (by decide)
              · rw [upd_ne (ne_of_none eo nL)]
                exact s5 _ _ eo
              · intro v hv
                rcases List.mem_append.mp hv with hv | hv
                · exact n4 v hv
                · rw [List.mem_singleton.mp hv]
                  exact fun z => x3L (V.ref.inj z)
              · intro v hv
                rcases List.mem_append.mp hv with hv | hv
                · exact n4 v hv
                · rw [List.mem_singleton.mp hv]
                  exact fun z => x3L (V.ref.inj z)
              · rw [List.length_append]
                show ls.length + 1 ≤ _
                omega
              · intro q hq
                rcases List.mem_append.mp hq with hq | hq
                · exact f4 q hq
                · rw [List.mem_singleton.mp hq]
                  exact (f2 r mr).step hj c
              · exact fun le m => List.mem_append_left _ (t4 le m)
              · intro _ le er
                by_cases z : j = 0
                · rw [← (first z le er).2]
                  exact List.mem_append_right _ (List.mem_singleton.mpr rfl)
                · exact List.mem_append_left _ (g4 (by omega) le er)
          · rw [decide_eq_false (show ¬ ((r[j] : Nat) : Int) ≤ 0 + (p : Int) by omega)]
            refine iteF (iteF ⟨⟨_, _, rfl⟩, s5, ws, ls, hL5, q5, n4, by omega, f4, t4, fun _ le er => ?_⟩)
            by_cases z : j = 0
            · exact absurd (first z le er).1 c
            · exact g4 (by omega) le er
        · rintro σ H4 ⟨⟨a5, a6, rfl⟩, s4, ws, ls, hL4, q4, n4, l4, f4, t4, g4⟩
          rw [vN_len, Int.toNat_natCast] at l4 g4
          refine ⟨⟨_, _, _, rfl⟩, s4, ws, ls, hL4, q4, n4, by omega, f4, fun le m => ?_⟩
          rw [List.take_add_one, hq] at m
          rcases List.mem_append.mp m with m | m
          · exact t4 le m
          · have er : ss.drop p = r := by
              have m : ss.drop p ∈ [r] := m
              exact List.mem_singleton.mp m
            exact g4 (by omega) le er.symm
      · rintro σ H3 ⟨⟨a4, a5, a6, rfl⟩, s3, ws, ls, hL3, q3, n3, l3, f3, t3⟩
        rw [lv] at l3 t3
        rw [List.take_length] at t3
        refine ⟨_, rfl, ⟨L, _, _, _, _, _, rfl, ws, ls, hL3, q3, ?_, f3, fun z => t3 (z p (by omega)) (t2 fun i hi => z i (by omega))⟩, s2.trans s3⟩
        exact Nat.le_trans l3 (Nat.le_trans (Nat.mul_le_mul_right _ l2) u1)
    · rintro σ H2 ⟨⟨R, a2, a3, a4, a5, a6, rfl, vs, rs, hR2, q2, l2, f2, t2⟩, s2⟩
      rw [vN_len, Int.toNat_natCast] at f2 t2
      have lv := q2.len
      refine ⟨_, rfl, Nat.zero_le _, fun b nb => ⟨R, b, _, rfl, rfl, SqL.of ((Same.new nb) _ _ hR2), SqL.of upd_same, ?_⟩⟩
      have s3 := s2.trans (Same.new (o := .lst []) nb)
      by_cases c : Closed l
      · have z := t2 fun i hi => closed_sorted sw (c.perm pss.symm) i (by omega)
        have ne : vs ≠ [] := fun e => by
          rw [e] at lv
          have e2 : rs = [] := List.eq_nil_of_length_eq_zero lv.symm
          rw [e2] at z
          cases z
        have e : (!decide (vs = [])) = true := by rw [decide_eq_false ne]; rfl
        have goal := hyes _ s3 c
        rw [← e] at goal
        exact goal
      · have ne : vs = [] := by
          cases rs with
          | nil => exact List.eq_nil_of_length_eq_zero lv
          | cons r rs =>
            have z := f2 r List.mem_cons_self
            have len := z.len
            have er : r = [] := List.eq_nil_of_length_eq_zero (by omega)
            rw [er, ← ls] at z
            exact absurd (z.closed.perm pss) c
        have e : (!decide (vs = [])) = false := by rw [decide_eq_true ne]; rfl
        have goal := hno _ s3 c
        rw [← e] at goal
        exact goal

end
end Own

set_option Elab.async false
set_option linter.all false
set_option maxRecDepth 100000
set_option maxHeartbeats 4000000
namespace Own
open PySem L2 ClX
local macro_rules | `(tactic| walk_at "v") => `(tactic| refine ⟨_, rfl, ?_⟩)
local macro_rules | `(tactic| walk_at "ii") => `(tactic| refine ⟨_, _, rfl, rfl, ?_⟩)
local macro_rules | `(tactic| walk_at "go") => `(tactic| repeat (first | refine ⟨_, rfl, ?_⟩ | refine ⟨_, _, rfl, rfl, ?_⟩ | refine addI ?_ | refine L2.iteT ?_ | refine L2.iteF ?_))

section
variable {P : Program} {w : World} {K : PySem.W.Frag} {mg : Str → Option Value} {base : Heap} {A : Ad}
/-! ### all ascending lists of numbers below a number -/
def subs : Nat → List (List Nat)
  | 0 => [[]]
  | k + 1 => subs k ++ (subs k).map fun c => c ++ [k]
theorem subs_len : ∀ k, (subs k).length = 2 ^ k
  | 0 => rfl
  | k + 1 => by
    show (subs k ++ (subs k).map fun c => c ++ [k]).length = 2 ^ (k + 1)
    rw [List.length_append, List.length_map, subs_len k, Nat.pow_succ]
    omega
theorem subs_sub : ∀ {k : Nat} {c : List Nat}, c ∈ subs k → c.Sublist (List.range k)
  | 0, c, h => by
    obtain rfl := List.mem_singleton.mp h
    exact List.Sublist.refl _
  | k + 1, c, h => by
    rw [List.range_succ]
    rcases List.mem_append.mp h with h | h
    · exact (subs_sub h).trans (List.sublist_append_left _ _)
    · obtain ⟨d, hd, rfl⟩ := List.mem_map.mp h
      exact (subs_sub hd).append (List.Sublist.refl _)
theorem subs_all (p : Nat → Bool) : ∀ k, (List.range k).filter p ∈ subs k
  | 0 => List.mem_singleton.mpr rfl
  | k + 1 => by
    rw [List.range_succ, List.filter_append]
    by_cases c : p k = true
    · rw [List.filter_cons_of_pos c, List.filter_nil]
      exact List.mem_append_right _ (List.mem_map.mpr ⟨_, subs_all p k, rfl⟩)
    · rw [List.filter_cons_of_neg c, List.filter_nil, List.append_nil]
      exact List.mem_append_left _ (subs_all p k)
theorem subs_snoc {k i : Nat} {c : List Nat} (h : (subs k)[i]? = some c) : (((subs k).take (i + 1)).map fun c => c ++ [k]) = (((subs k).take i).map fun c => c ++ [k]) ++ [c ++ [k]] := by
  rw [List.take_add_one, h, List.map_append]
  rfl
/-! ### the greatest closed set -/
def slotsAt (l : List Nat) (c : List Nat) : List Nat := c.map fun i => l.getD i 0
theorem range_getD (l : List Nat) : slotsAt l (List.range l.length) = l := by
  unfold slotsAt
  refine List.ext_getElem (by rw [List.length_map, List.length_range]) fun i h1 h2 => ?_
  rw [List.getElem_map, List.getElem_range]
  exact getD_get h2
theorem cle_sub {t l : List Nat} (h : t.Sublist l) (j : Nat) : cle t j ≤ cle l j := (h.filter _).length_le
def below (l : List Nat) (m : Nat) : List Nat := (List.range l.length).filter fun i => decide (l.getD i 0 < m)
theorem below_mem {l : List Nat} {m i : Nat} : i ∈ below l m ↔ i < l.length ∧ l.getD i 0 < m := by
  unfold below
  rw [List.mem_filter, List.mem_range, decide_eq_true_iff]
theorem below_slots (l : List Nat) (m : Nat) : slotsAt l (below l m) = l.filter fun n => decide (n < m) := by
  have e := range_getD l
  have z := List.filter_map (f := fun i => l.getD i 0) (p := fun n => decide (n < m)) (l := List.range l.length)
  unfold slotsAt at e
  rw [e] at z
  exact z.symm
theorem below_closed {l : List Nat} {m : Nat} (ic : IsCut l m) : Closed (slotsAt l (below l m)) := by
  rw [below_slots]
  intro i hi
  have a : (l.filter fun n => decide (n < m)).length ≤ cle l m := by
    unfold cle
    have : ((l.filter fun n => decide (n < m))) = (l.filter fun a => decide (a ≤ m)).filter fun n => decide (n < m) := by
      rw [List.filter_filter]
      refine List.filter_congr fun n _ => ?_
      by_cases c : n < m
      · rw [decide_eq_true c, decide_eq_true (show n ≤ m by omega)]
        rfl
      · rw [decide_eq_false c]
        rfl
    rw [this]
    exact List.length_filter_le _ _
  have := ic.hi
  have e : cle (l.filter fun n => decide (n < m)) i = cle l i := by
    unfold cle
    rw [List.filter_filter]
    refine congrArg _ (List.filter_congr fun n _ => ?_)
    by_cases c : n ≤ i
    · rw [decide_eq_true c, decide_eq_true (show n < m by omega)]
      rfl
    · rw [decide_eq_false c]
      rfl
  rw [e]
  exact ic.lo i (by omega)
theorem closed_below {l : List Nat} {m : Nat} (ic : IsCut l m) {c : List Nat} (hc : c.Sublist (List.range l.length)) (cl : Closed (slotsAt l c)) : c.Sublist (below l m) := by
  have st : (slotsAt l c).Sublist l := by
    have := hc.map fun i => l.getD i 0
    have e := range_getD l
    unfold slotsAt at e
    rw [e] at this
    exact this
  have lm : (slotsAt l c).length ≤ m := by
    refine Nat.le_of_not_lt fun h => ?_
    have := cl m h
    have := cle_sub st m
    have := ic.hi
    omega
  have all : ∀ n ∈ slotsAt l c, n < m := fun n hn => by
    have l0 : 0 < (slotsAt l c).length := List.length_pos_of_mem hn
    have z := cl ((slotsAt l c).length - 1) (by omega)
    refine Nat.lt_of_not_le fun h => ?_
    have lt : cle (slotsAt l c) ((slotsAt l c).length - 1) < (slotsAt l c).length := by
      unfold cle
      refine Nat.lt_of_le_of_ne (List.length_filter_le _ _) fun e => ?_
      have := (List.filter_eq_self.mp (List.filter_sublist.eq_of_length e)) n hn
      have := of_decide_eq_true this
      omega
    omega
  have f := hc.filter fun i => decide (l.getD i 0 < m)
  rw [List.filter_eq_self.mpr fun i hi => decide_eq_true (all _ (List.mem_map.mpr ⟨i, hi, rfl⟩))] at f
  exact f
theorem vN_app (l m : List Nat) : vN (l ++ m) = vN l ++ vN m := by
  unfold vN
  rw [List.map_append]
def spSets : Sp := fun vs H Q _ => ∃ n : Nat, vs = [.int n] ∧ n ≤ 7 ∧ ∀ (D : Addr) (ws : List V) (H' : Hp), Same H H' → H D = none → H' D = some (.lst ws) → Rl H' ws (subs n) → Q (.ref D) H'
theorem ok__law_sets (T : Txt K mg A) : Ok1 P w K mg base 2 A.f__law_sets ["many"] spSets := by
  refine T.fn__law_sets.ok sc__law_sets (fun _ _ _ _ _ _ us hl => match us, hl with | [_], _ => rfl) (fun vs H Q E h => ?_) (fun cdv B up s H vs Q E hr h => ?_)
  · obtain ⟨n, rfl, _⟩ := h
    rfl
  · obtain ⟨n, rfl, n7, h⟩ := h
    refine ⟨_, (pss_cons (ps_set (i := 1) sc__law_sets.nd rfl (Or.inl rfl) (pe_lst (pa_cons (pe_lst pa_nil) pa_nil)))
      (pss_cons (ps_for PassesOwn.never rfl (pi_range1 rfl T.no_range (pa_cons (pv 0) pa_nil)) (pg_name (i := 2) sc__law_sets.nd rfl (Or.inr rfl))
      (pss_one (ps_set (i := 1) sc__law_sets.nd rfl (Or.inl rfl) (pe_op op_addX (pv 1) (pe_lcD (own := [("one", 3)]) rfl sc__law_sets.nd (pi_list (pv 1)) (blkOk_by (N := N__law_sets) (sc := defScope s__law_sets) (by decide +kernel)) (fun _ _ _ _ _ => pg_name (i := 3) sc__law_sets.nd rfl (Or.inl rfl)) (fun _ _ _ _ _ => pts_nil) (fun _ _ _ _ _ => (pe_op op_addX (pv 3) (pe_lst (pa_cons (pv 2) pa_nil)))))))))
      (pss_one (ps_ret (pv 1))))), ?_⟩
    refine ⟨Nat.zero_le _, fun e0 ne0 => ⟨Nat.le_of_ble_eq_true rfl, fun F nF => ?_⟩⟩
    have u1 := Same.new (o := .lst []) ne0
    have u2 := Same.new (o := .lst [.ref e0]) nF
    have he0 := u2 _ _ (show upd H e0 (.lst []) e0 = some (.lst (vN [])) from upd_same)
    have hF : upd (upd H e0 (.lst [])) F (.lst [.ref e0]) F = some (.lst [.ref e0]) := upd_same
    have S0 := u1.trans u2
    have nF0 := none_same u1 nF
    generalize upd (upd H e0 (.lst [])) F (.lst [.ref e0]) = H1 at he0 hF S0 ⊢
    clear u1 u2 ne0 nF
    refine ⟨_, rfl, _, rfl, by omega, by omega, for_range (lo := 0) (n := Int.toNat _) (fun i σ H' => (∃ (F : Addr) (a2 a3 : Option V), σ = [some (.int n), some (.ref F), a2, a3] ∧ H F = none ∧ ∃ ws, H' F = some (.lst ws) ∧ Rl H' ws (subs i)) ∧ Same H H')
      ⟨⟨F, _, _, rfl, nF0, _, hF, .cons he0 .nil⟩, S0⟩ ?_ ?_⟩
    · rintro i σ H2 hi ⟨⟨F, a2, a3, rfl, nF, ws, hF2, q2⟩, s2⟩
      have hi : i < n := by omega
      have lw := q2.len
      have l2 := subs_len i
      have p2 : 2 ^ i ≤ 128 := by
        have : 2 ^ i ≤ 2 ^ 7 := Nat.pow_le_pow_right (by decide) (by omega)
        omega
      refine ⟨_, rfl, _, rfl, F, rfl, ⟨_, SqL.of hF2⟩, fun D nD => ?_⟩
      refine lc_list (K := K) (a := F) (xs := ws) (fun t H' => Same H2 H' ∧ ∃ ds, H' D = some (.lst ds) ∧ Rl H' ds (((subs i).take t).map fun c => c ++ [i]) ∧ (∀ v ∈ ds, v ≠ .ref D)) ?_ ?_ ?_ ?_
      · exact ⟨Same.new nD, [], upd_same, .nil, (fun v hv => by cases hv)⟩
      · rintro t H4 _ ⟨s4, _⟩
        exact SqL.of (s4 _ _ hF2)
      · rintro t y H4 hy ⟨s4, ds, hD4, q4, n4⟩
        obtain ⟨b, c, rfl, hq, hb⟩ := q2.get hy
        have ht := (List.getElem?_eq_some_iff.mp hq).1
        have lc := (subs_sub (List.mem_of_getElem? hq)).length_le
        rw [List.length_range] at lc
        have ld := q4.len
        rw [List.length_map, List.length_take] at ld
        refine ⟨rfl, _, rfl, _, rfl, Nat.le_of_ble_eq_true rfl, fun b2 nb2 => ?_⟩
        have hb4 := s4 _ _ hb
        have w1 := Same.new (o := .lst [.int (0 + (i : Int))]) nb2
        refine addL (w1 _ _ hb4) upd_same (by rw [vN_len]; show c.length + 1 ≤ 1000000; omega) fun r nr => ?_
        have w2 := Same.new (o := .lst (vN c ++ [.int (0 + (i : Int))])) nr
        have S5 := w1.trans w2
        have rD : r ≠ D := (ne_of_none (w1 _ _ hD4) nr).symm
        refine ⟨ds, S5 _ _ hD4, Nat.lt_of_lt_of_le (show ds.length < 1000 by omega) (by decide), fun o u eo => ?_, ds ++ [.ref r], upd_same, ?_, ?_⟩
        · rw [upd_ne (ne_of_none eo nD)]
          exact S5 _ _ (s4 _ _ eo)
        · rw [subs_snoc hq]
          refine ((q4.same S5).snoc ?_).upd ?_
          · rw [upd_same, vN_app, Int.zero_add]
            rfl
          · intro v hv
            rcases List.mem_append.mp hv with hv | hv
            · exact n4 v hv
            · rw [List.mem_singleton.mp hv]
              exact fun q => rD (V.ref.inj q)
        · intro v hv
          rcases List.mem_append.mp hv with hv | hv
          · exact n4 v hv
          · rw [List.mem_singleton.mp hv]
            exact fun q => rD (V.ref.inj q)
      · rintro H4 ⟨s4, ds, hD4, q4, n4⟩
        rw [List.take_of_length_le (by omega)] at q4
        have ld := q4.len
        rw [List.length_map] at ld
        refine addL (s4 _ _ hF2) hD4 (by omega) fun r nr => ⟨⟨r, _, _, rfl, ?_, _, upd_same, ((q2.same s4).app q4).same (Same.new nr)⟩, s2.trans (s4.trans (Same.new nr))⟩
        exact none_same (s2.trans s4) nr
    · rintro σ H2 ⟨⟨F, a2, a3, rfl, nF, ws, hF2, q2⟩, s2⟩
      exact ⟨_, rfl, h F ws H2 s2 nF hF2 q2⟩

end
end Own

set_option Elab.async false
set_option linter.all false
set_option maxRecDepth 100000
set_option maxHeartbeats 4000000
namespace Own
open PySem L2 ClX
local macro_rules | `(tactic| walk_at "v") => `(tactic| refine ⟨_, rfl, ?_⟩)
local macro_rules | `(tactic| walk_at "ii") => `(tactic| refine ⟨_, _, rfl, rfl, ?_⟩)
local macro_rules | `(tactic| walk_at "go") => `(tactic| repeat (first | refine ⟨_, rfl, ?_⟩ | refine ⟨_, _, rfl, rfl, ?_⟩ | refine addI ?_ | refine L2.iteT ?_ | refine L2.iteF ?_))

section
variable {P : Program} {w : World} {K : PySem.W.Frag} {mg : Str → Option Value} {base : Heap} {A : Ad}
theorem Rows.but {H H' : Hp} {p : Addr} {n : Int} {vs : List V} {ps : List (Int × Str × Nat)} (h : Rows A H vs ps) (s : SrcAt H p n) (b : But p H H') : Rows A H' vs ps := by
  induction h with
  | nil => exact .nil
  | @cons q dx way x m vs ps e h0 h1 hx _ ih =>
    refine .cons (dx := dx) (b _ _ e fun z => ?_) h0 h1 hx ih
    obtain ⟨g, m', c, z2, _⟩ := s
    rw [z, z2] at e
    cases e

theorem rfs_inj {H : Hp} {b C C' dx dx' : Addr} {x y : Str} {n m : Int} (e : H b = some (.ins C dx (rfs x n))) (e' : H b = some (.ins C' dx' (rfs y m))) : x = y := by
  rw [e] at e'
  have z := (HO.ins.inj (Option.some.inj e')).2.2
  have a := rfs_item x n
  rw [z, rfs_item] at a
  exact (V.str.inj (Option.some.inj a)).symm
theorem Rows.updR {H : Hp} {vs : List V} {ps : List (Int × Str × Nat)} {a C dx : Addr} {x : Str} {n : Int} {o : HO} (h : Rows A H vs ps) (e : H a = some (.ins C dx (rfs x n))) (nx : x ∉ names ps) : Rows A (upd H a o) vs ps := by
  induction h with
  | nil => exact .nil
  | @cons q dx' way y m vs ps e' h0 h1 hx _ ih =>
    refine .cons (dx := dx') ?_ h0 h1 hx (ih fun z => nx (List.mem_cons_of_mem _ z))
    rw [upd_ne (fun z => nx (by rw [z] at e'; rw [rfs_inj e e']; exact List.mem_cons_self))]
    exact e'
theorem Rows.moveAt {H : Hp} {vs : List V} {ps : List (Int × Str × Nat)} {a dx : Addr} {way : Int} {x : Str} {n n' : Nat} (h : Rows A H vs ps) (nd : (names ps).Nodup) (e : H a = some (.ins (cw A way) dx (rfs x n))) : ∀ {i : Nat}, vs[i]? = some (.ref a) → ps[i]? = some (way, x, n) → Rows A (upd H a (.ins (cw A way) dx (rfs x n'))) vs (ps.set i (way, x, n')) := by
  induction h with
  | nil => intro i hv; cases hv
  | @cons q dx' way' y m vs ps e' h0 h1 hx r ih =>
    intro i hv hp
    obtain ⟨n1, n2⟩ := List.nodup_cons.mp nd
    cases i with
    | zero =>
      cases hv
      cases hp
      exact .cons (dx := dx) upd_same h0 h1 hx (r.updR e n1)
    | succ i =>
      have hp : ps[i]? = some (way, x, n) := hp
      have mem : x ∈ names ps := List.mem_map.mpr ⟨_, List.mem_of_getElem? hp, rfl⟩
      refine .cons (dx := dx') ?_ h0 h1 hx (ih n2 hv hp)
      rw [upd_ne (fun z => n1 (by
        rw [z] at e'
        have : y = x := rfs_inj e' e
        show y ∈ names ps
        rw [this]
        exact mem))]
      exact e'
theorem names_set {w w' : Int} {x : Str} {n n' : Nat} : ∀ {qs : List (Int × Str × Nat)} {i : Nat}, qs[i]? = some (w, x, n) → names (qs.set i (w', x, n')) = names qs
  | [], _, h => by cases h
  | q :: qs, 0, h => by
    cases h
    rfl
  | q :: qs, i + 1, h => congrArg (q.2.1 :: ·) (names_set (qs := qs) (i := i) h)
theorem LogQ.set {way w : Int} {x : Str} {n n' i : Nat} {qs : List (Int × Str × Nat)} (L : LogQ way qs) (h : qs[i]? = some (w, x, n)) (hn : n' ≤ 60) : LogQ way (qs.set i (way, x, n')) := by
  refine ⟨fun q hq => ?_, fun q hq => ?_, L.w0, L.w1, ?_, ?_⟩
  · rcases List.mem_or_eq_of_mem_set hq with m | rfl
    · exact L.bd q m
    · exact hn
  · rcases List.mem_or_eq_of_mem_set hq with m | rfl
    · exact L.wy q m
    · rfl
  · rw [names_set h]
    exact L.nd
  · rw [List.length_set]
    exact L.len

/-! ### one question -/
theorem Rows.its {H : Hp} {vs : List V} {ps : List (Int × Str × Nat)} (h : Rows A H vs ps) : ∀ q ∈ ps, isItem q.2.1 = true := by
  induction h with
  | nil => intro q hq; cases hq
  | cons e h0 h1 hx _ ih =>
    intro q hq
    rcases List.mem_cons.mp hq with rfl | hq
    · exact hx
    · exact ih q hq
theorem Fcts.get {H : Hp} {vs : List V} {qs : List (Int × Str × Nat)} (h : Fcts H vs qs) : ∀ {i : Nat} {v : V}, vs[i]? = some v → ∃ t b way x n, v = .ref t ∧ qs[i]? = some (way, x, n) ∧ H t = some (.tup [.ref b, .str x, .int (n : Nat)]) ∧ H b = some (.lst (kindsV way)) := by
  induction h with
  | nil => intro i v e; cases e
  | cons e f _ ih =>
    intro i v ev
    cases i with
    | zero => cases ev; exact ⟨_, _, _, _, _, rfl, rfl, e, f⟩
    | succ i => exact ih ev
/-- the numbers met, as a dict's keys -/
structure Keys (kvs : List (Key × V)) (js : List Nat) : Prop where
  keys : kvs.map (·.1) = js.map fun j : Nat => (Sum.inl (j : Int) : Key)
  nd : js.Nodup
theorem Keys.put {kvs : List (Key × V)} {js : List Nat} (h : Keys kvs js) (j : Nat) (v : V) : ∃ js', Keys (putK kvs (Sum.inl (j : Int)) v) js' ∧ ∀ i, i ∈ js' ↔ i ∈ js ∨ i = j := by
  by_cases c : j ∈ js
  · refine ⟨js, ⟨?_, h.nd⟩, fun i => ⟨.inl, fun z => z.elim id fun e => e ▸ c⟩⟩
    rw [← h.keys]
    unfold putK
    split
    · rw [List.map_map]
      refine List.map_congr_left fun kv _ => ?_
      show (if kv.1 = _ then (kv.1, v) else kv).1 = kv.1
      split <;> rfl
    · rename_i n
      refine absurd ?_ n
      have m : (Sum.inl (j : Int) : Key) ∈ kvs.map (·.1) := by
        rw [h.keys]
        exact List.mem_map.mpr ⟨j, c, rfl⟩
      obtain ⟨kv, hkv, e⟩ := List.mem_map.mp m
      exact List.any_eq_true.mpr ⟨kv, hkv, decide_eq_true e⟩
  · refine ⟨js ++ [j], ⟨?_, ?_⟩, fun i => ?_⟩
    · have nn : ¬ (kvs.any fun kv => decide (kv.1 = (Sum.inl (j : Int) : Key))) = true := fun z => by
        obtain ⟨kv, hkv, e⟩ := List.any_eq_true.mp z
        have m : (Sum.inl (j : Int) : Key) ∈ kvs.map (·.1) := List.mem_map.mpr ⟨kv, hkv, of_decide_eq_true e⟩
        rw [h.keys] at m
        obtain ⟨i, hi, e⟩ := List.mem_map.mp m
        have : ((i : Nat) : Int) = (j : Nat) := Sum.inl.inj e
        rw [show i = j by omega] at hi
        exact c hi
      unfold putK
      rw [if_neg nn, List.map_append, List.map_append, h.keys]
      rfl
    · refine List.nodup_append.mpr ⟨h.nd, by simp, fun y hy z hz e => c ?_⟩
      rw [List.mem_singleton] at hz
      rw [← hz, ← e]
      exact hy
    · rw [List.mem_append, List.mem_singleton]
structure Met (l : List Nat) (i : Nat) (kvs : List (Key × V)) (js : List Nat) : Prop where
  keys : Keys kvs js
  len : kvs.length ≤ 10 * i
  mem : ∀ j, j ∈ js ↔ ∃ c ∈ (subs l.length).take i, Closed (slotsAt l c) ∧ j ∈ c
theorem take_mem {α : Type} {xs : List α} {i : Nat} {x y : α} (h : xs[i]? = some x) : y ∈ xs.take (i + 1) ↔ y ∈ xs.take i ∨ y = x := by
  rw [List.take_add_one, h, List.mem_append]
  exact or_congr_right List.mem_singleton
theorem Met.skip {l : List Nat} {i : Nat} {kvs : List (Key × V)} {js c : List Nat} (h : Met l i kvs js) (hc : (subs l.length)[i]? = some c) (n : ¬ Closed (slotsAt l c)) : Met l (i + 1) kvs js := by
  refine ⟨h.keys, Nat.le_trans h.len (by omega), fun j => ?_⟩
  rw [h.mem]
  constructor
  · rintro ⟨d, hd, cl, m⟩
    exact ⟨d, (take_mem hc).mpr (.inl hd), cl, m⟩
  · rintro ⟨d, hd, cl, m⟩
    rcases (take_mem hc).mp hd with hd | rfl
    · exact ⟨d, hd, cl, m⟩
    · exact absurd cl n
theorem Met.add {l : List Nat} {i : Nat} {kvs kvs' : List (Key × V)} {js js' c : List Nat} (h : Met l i kvs js) (hc : (subs l.length)[i]? = some c) (y : Closed (slotsAt l c)) (k : Keys kvs' js') (hl : kvs'.length ≤ 10 * (i + 1)) (hm : ∀ j, j ∈ js' ↔ j ∈ js ∨ j ∈ c) : Met l (i + 1) kvs' js' := by
  refine ⟨k, hl, fun j => ?_⟩
  rw [hm, h.mem]
  constructor
  · rintro (⟨d, hd, cl, m⟩ | m)
    · exact ⟨d, (take_mem hc).mpr (.inl hd), cl, m⟩
    · exact ⟨c, (take_mem hc).mpr (.inr rfl), y, m⟩
  · rintro ⟨d, hd, cl, m⟩
    rcases (take_mem hc).mp hd with hd | rfl
    · exact .inl ⟨d, hd, cl, m⟩
    · exact .inr m
/-- the longest closed set so far -/
structure Best (l : List Nat) (i : Nat) (b : List Nat) : Prop where
  sub : b.Sublist (List.range l.length)
  cl : Closed (slotsAt l b)
  max : ∀ c ∈ (subs l.length).take i, Closed (slotsAt l c) → c.length ≤ b.length
theorem Met.start (l : List Nat) : Met l 0 [] [] := ⟨⟨rfl, .nil⟩, Nat.zero_le _, fun j => ⟨(fun h => by cases h), fun ⟨c, h, _⟩ => by cases h⟩⟩
theorem Best.start (l : List Nat) : Best l 0 [] := ⟨List.nil_sublist _, (fun i h => by cases h), fun c h => by cases h⟩
theorem Best.skip {l b c : List Nat} {i : Nat} (h : Best l i b) (hc : (subs l.length)[i]? = some c) (n : ¬ Closed (slotsAt l c)) : Best l (i + 1) b := by
  refine ⟨h.sub, h.cl, fun d hd cl => ?_⟩
  rcases (take_mem hc).mp hd with hd | rfl
  · exact h.max d hd cl
  · exact absurd cl n
theorem Best.stay {l b c : List Nat} {i : Nat} (h : Best l i b) (hc : (subs l.length)[i]? = some c) (n : c.length ≤ b.length) : Best l (i + 1) b := by
  refine ⟨h.sub, h.cl, fun d hd cl => ?_⟩
  rcases (take_mem hc).mp hd with hd | rfl
  · exact h.max d hd cl
  · exact n
theorem Best.new {l b c : List Nat} {i : Nat} (h : Best l i b) (hc : (subs l.length)[i]? = some c) (y : Closed (slotsAt l c)) (n : b.length < c.length) : Best l (i + 1) c := by
  refine ⟨subs_sub (List.mem_of_getElem? hc), y, fun d hd cl => ?_⟩
  rcases (take_mem hc).mp hd with hd | rfl
  · have := h.max d hd cl
    omega
  · exact Nat.le_refl _
theorem Best.below {l b : List Nat} {m : Nat} (h : Best l (subs l.length).length b) (ic : IsCut l m) : b = below l m := by
  refine (closed_below ic h.sub h.cl).eq_of_length_le (h.max _ ?_ (below_closed ic))
  rw [List.take_length]
  exact subs_all _ _
theorem Met.below {l js : List Nat} {m : Nat} {kvs : List (Key × V)} (h : Met l (subs l.length).length kvs js) (ic : IsCut l m) (j : Nat) : j ∈ js ↔ j ∈ below l m := by
  rw [h.mem, List.take_length]
  constructor
  · rintro ⟨c, hc, cl, jc⟩
    exact (closed_below ic (subs_sub hc) cl).subset jc
  · exact fun hj => ⟨_, subs_all _ _, below_closed ic, hj⟩
theorem below_sorted (l : List Nat) (m : Nat) : (below l m).Pairwise (· < ·) := List.pairwise_lt_range.filter _
theorem cut_ex (l : List Nat) : ∃ m, IsCut l m := by
  refine ⟨_, (cut_of (s := l.mergeSort fun a b => decide (a ≤ b)) ?_).perm (List.mergeSort_perm ..)⟩
  refine (List.pairwise_mergeSort (fun a b c x y => ?_) (fun a b => ?_) l).imp fun x => of_decide_eq_true x
  · have := of_decide_eq_true x
    have := of_decide_eq_true y
    exact decide_eq_true (by omega)
  · rcases Nat.le_total a b with x | x
    · rw [decide_eq_true x]
      rfl
    · rw [decide_eq_true x, Bool.or_true]
theorem nums_plain : ∀ l : List Nat, PyData.plainAll (l.map fun i => PyData.int (i : Nat)) = true
  | [] => by simp [PyData.plainAll]
  | q :: qs => by simp [PyData.plainAll, PyData.plain, nums_plain qs]
theorem nums_eqv (l : List Nat) : PyData.eqv (numsD l) (numsD l) = true := PySem.SeqAt.eqv_refl_plain _ (by
  unfold numsD
  simp [PyData.plain, nums_plain])
def atQ (qs : List (Int × Str × Nat)) (c : List Nat) : List (Int × Str × Nat) := c.map fun i => qs.getD i (0, Str.empty, 0)
theorem slots_getD (qs : List (Int × Str × Nat)) (i : Nat) : (slotsN qs).getD i 0 = (qs.getD i (0, Str.empty, 0)).2.2 := by
  unfold slotsN
  rw [List.getD_eq_getElem?_getD, List.getElem?_map, List.getD_eq_getElem?_getD]
  cases qs[i]? <;> rfl
theorem range_getQ (qs : List (Int × Str × Nat)) : atQ qs (List.range qs.length) = qs := by
  unfold atQ
  refine List.ext_getElem (by rw [List.length_map, List.length_range]) fun i h1 h2 => ?_
  rw [List.getElem_map, List.getElem_range, List.getD_eq_getElem?_getD, List.getElem?_eq_getElem h2]
  rfl
theorem atQ_below (qs : List (Int × Str × Nat)) (m : Nat) : atQ qs (below (slotsN qs) m) = qs.filter fun q => decide (q.2.2 < m) := by
  have e := range_getQ qs
  have z := List.filter_map (f := fun i => qs.getD i (0, Str.empty, 0)) (p := fun q => decide (q.2.2 < m)) (l := List.range qs.length)
  unfold atQ at e
  rw [e] at z
  rw [z]
  unfold atQ below
  rw [show (slotsN qs).length = qs.length from List.length_map ..]
  refine congrArg _ (List.filter_congr fun i _ => ?_)
  rw [slots_getD]
  rfl
theorem meth_move (T : Txt K mg A) {way : Int} (h0 : 0 ≤ way) (h1 : way ≤ 3) : Meth K (cw A way) "move_to" A.m_Record_move_to := by
  rcases way4 h0 h1 with rfl | rfl | rfl | rfl
  · exact T.me_Inserted_move_to
  · exact T.me_Removed_move_to
  · exact T.me_Fronted_move_to
  · exact T.me_Record_move_to
def spRight (A : Ad) : Sp := fun vs H Q _ => ∃ (l : Addr) (rs : List V) (way : Int) (qs : List (Int × Str × Nat)), vs = [.ref l] ∧ H l = some (.lst rs) ∧ Rows A H rs qs ∧ LogQ way qs ∧ way ≤ 1 ∧ qs.length ≤ 7 ∧ ∀ H', Same H H' → Q (.bl true) H'
theorem ok__law_right (T : Txt K mg A) : Ok1 P w K mg base 9 A.f__law_right ["book"] (spRight A) := by
  refine T.fn__law_right.ok sc__law_right (fun _ _ _ _ _ _ us hl => match us, hl with | [_], _ => rfl) (fun vs H Q E h => ?_) (fun cdv B up s H vs Q E hr h => ?_)
  · obtain ⟨l, rs, way, qs, rfl, _⟩ := h
    rfl
  · obtain ⟨l, rs, way, qs, rfl, hl, rows, L, w1, l7, h⟩ := h
    refine ⟨_, (pss_cons (ps_asg (pe_tup (pa_cons (po_call (ok__law_facts T) (hr.mono (by decide)) T.mg__law_facts (pa_cons (pv 0) pa_nil)) (pa_cons (pe_lst pa_nil) (pa_cons pe_dnewK pa_nil)))) (pg_tup (by rfl) (pgs_cons (pg_name (i := 1) sc__law_right.nd rfl (Or.inr rfl)) (pgs_cons (pg_name (i := 2) sc__law_right.nd rfl (Or.inl rfl)) (pgs_cons (pg_name (i := 3) sc__law_right.nd rfl (Or.inl rfl)) pgs_nil)))))
      (pss_mid (ps_for PassesOwn.never rfl (pi_list (po_call (ok__law_sets T) (hr.mono (by decide)) T.mg__law_sets (pa_cons (pe_callB call_len (by rfl) T.no_len (by decide +kernel) (pa_cons (pv 0) pa_nil)) pa_nil))) (pg_name (i := 4) sc__law_right.nd rfl (Or.inl rfl))
      (pss_one (ps_if (pt_val (po_call (ok__law_is_closed T) (hr.mono (by decide)) T.mg__law_is_closed (pa_cons (pe_lcD (own := [("at", 5)]) rfl sc__law_right.nd (pi_list (pv 4)) (blkOk_by (N := N__law_right) (sc := defScope s__law_right) (by decide +kernel)) (fun _ _ _ _ _ => pg_name (i := 5) sc__law_right.nd rfl (Or.inl rfl)) (fun _ _ _ _ _ => pts_nil) (fun _ _ _ _ _ => (po_propD (p := A.p_Record_slot) (ok_Record_slot T) (hr.mono (by decide)) (pe_ix ix_seq (pv 0) (pv 5) (fun _ _ => rfl))))) pa_nil))) (pss_mid (ps_set (i := 2) sc__law_right.nd rfl (Or.inl rfl) (pe_ifExp (pt_cmpR op_gt (pe_callB call_len (by rfl) T.no_len (by decide +kernel) (pa_cons (pv 4) pa_nil)) (pe_callB call_len (by rfl) T.no_len (by decide +kernel) (pa_cons (pv 2) pa_nil)) (nomark _)) (pv 4) (pv 2)))
      (pss_one (ps_for PassesOwn.never rfl (pi_list (pv 4)) (pg_name (i := 5) sc__law_right.nd rfl (Or.inl rfl))
      (pss_one (ps_dput (Nat.lt_of_le_of_lt (Nat.add_le_add_left (show 1 ≤ 64 by decide) _) hr.units) (pv 3) (pv 5) pe_bl rfl))))) pss_nil)))
      (pss_cons (ps_if (pt_cmpR (op_neX hr) (pe_callB (call_sortedDI rfl) (by rfl) T.no_sorted (by decide +kernel) (pa_cons (pv 3) pa_nil)) (pv 2) (nomark _)) (pss_one (ps_ret pe_bl)) pss_nil)
      (pss_cons (ps_setLcD (i := 6) (own := [("at", 5)]) rfl sc__law_right.nd rfl rfl (sw_true rfl rfl rfl (by decide +kernel)) (pi_list (pv 2)) (blkOk_by (N := N__law_right) (sc := defScope s__law_right) (by decide +kernel)) (fun _ _ _ _ _ => pg_name (i := 5) sc__law_right.nd rfl (Or.inl rfl)) (fun _ _ _ _ _ => pts_nil) (fun _ _ _ _ _ => (pe_ix ix_seq (pv 1) (pv 5) (fun _ _ => rfl))))
      (pss_mid (ps_for PassesOwn.never rfl (pi_range1 rfl T.no_range (pa_cons pe_int pa_nil)) (pg_name (i := 7) sc__law_right.nd rfl (Or.inl rfl))
      (pss_mid (ps_set (i := 8) sc__law_right.nd rfl (Or.inl rfl) (pe_ifExp (pt_cmpR (op_eqX hr) (pv 7) pe_int (nomark _)) (px_call (ok_usable T) (fun _ => atL) (hr.mono (by decide)) T.mg_usable (pa_cons (pv 0) pa_nil)) (px_call1 (okK_usable T) (fun _ => atL) (hr.mono (by decide)) T.mg_usable (pk_cons (pv 0) pk_nil))))
      (pss_cons (ps_if (PW.pt (pw_or (pt_not (pt_val (pe_callB call_isi (by rfl) T.no_isinstance (by decide +kernel) (pa_cons (pv 8) (pa_cons (pe_bltn (v := .ty "list") (by rfl) T.no_list (by decide +kernel) rfl) pa_nil))))) (pw_or1 (pt_cmpR (op_neX hr) (po_call (ok__law_facts T) (hr.mono (by decide)) T.mg__law_facts (pa_cons (pv 8) pa_nil)) (pv 6) (nomark _))))) (pss_one (ps_ret pe_bl)) pss_nil)
      (pss_cons (ps_for PassesOwn.never rfl (pi_list (pv 8)) (pg_name (i := 9) sc__law_right.nd rfl (Or.inl rfl))
      (pss_one (ps_expr (po_methD (ok_Record_move_to T) (hr.mono (by decide)) (pv 9) (pa_cons pe_int pa_nil)))))
      (pss_cons (ps_expr (pe_bm PySem.F.plainAttrs_list PySem.F.slot_list_append PySem.F.type_list_append mt_append (pv 8) (pa_cons pe_non pa_nil)))
      (pss_one (ps_if (pt_cmpR (op_neX hr) (po_call (ok__law_facts T) (hr.mono (by decide)) T.mg__law_facts (pa_cons (pv 0) pa_nil)) (pv 1) (nomark _)) (pss_one (ps_ret pe_bl)) pss_nil)))))))
      (pss_one (ps_ret pe_bl))))))), ?_⟩
    have lr := rows.len
    have lsn : (slotsN qs).length = qs.length := by unfold slotsN; rw [List.length_map]
    have its := rows.its
    refine ⟨_, rfl, l, rs, qs, rfl, hl, rows, L.len, fun O us H1 s1 nO hO c1 => ?_⟩
    refine ⟨Nat.zero_le _, fun e0 ne0 => fun M nM => ⟨Nat.le_of_ble_eq_true rfl, fun tt ntt => ⟨tt, _, rfl, SqT.of upd_same, rfl, _, _, rfl, _, _, rfl, _, _, rfl, rfl, ?_⟩⟩⟩
    have ue := Same.new (o := .lst []) ne0
    have uM := Same.new (o := .dK []) nM
    have ut := Same.new (o := .tup [.ref O, .ref e0, .ref M]) ntt
    have U := ue.trans (uM.trans ut)
    have he := ut _ _ (uM _ _ (show upd H1 e0 (.lst []) e0 = some (.lst (vN [])) from upd_same))
    have hM := ut _ _ (show upd (upd H1 e0 (.lst [])) M (.dK []) M = some (.dK []) from upd_same)
    have M1 : H1 M = none := none_same ue nM
    generalize upd (upd (upd H1 e0 (.lst [])) M (.dK [])) tt (.tup [.ref O, .ref e0, .ref M]) = H2 at he hM U ⊢
    clear ue uM ut ne0 nM ntt
    have S2 := s1.trans U
    have hO2 := U _ _ hO
    have c2 := c1.same U
    have M0 := none_same s1 M1
    have E0 := Met.start (slotsN qs)
    have B0 := Best.start (slotsN qs)
    refine ⟨fun σ H' => ∃ (B : Addr) (a4 a5 : Option V) (kvs : List (Key × V)) (js b : List Nat), σ = [some (.ref l), some (.ref O), some (.ref B), some (.ref M), a4, a5, none, none, none, none] ∧ H' M = some (.dK kvs) ∧ H' B = some (.lst (vN b)) ∧ Met (slotsN qs) (subs (slotsN qs).length).length kvs js ∧ Best (slotsN qs) (subs (slotsN qs).length).length b ∧ But M H2 H', ?_, ?_⟩
    · refine ⟨_, rfl, _, _, rfl, .inl ⟨_, SqL.of (S2 _ _ hl), rfl⟩, rs.length, rfl, by omega, fun D ws H3 s3 nD hD q3 => ?_⟩
      have MD : D ≠ M := (ne_of_none hM nD).symm
      rw [lr, ← lsn] at q3
      have lw := q3.len
      refine ⟨D, rfl, ⟨_, SqL.of hD⟩, for_list (K := K) (a := D) (xs := ws) (fun i σ H' => (∃ (B : Addr) (a4 a5 : Option V) (kvs : List (Key × V)) (js b : List Nat), σ = [some (.ref l), some (.ref O), some (.ref B), some (.ref M), a4, a5, none, none, none, none] ∧ H' M = some (.dK kvs) ∧ H' B = some (.lst (vN b)) ∧ Met (slotsN qs) i kvs js ∧ Best (slotsN qs) i b) ∧ But M H3 H')
        ⟨⟨e0, _, _, [], [], [], rfl, s3 _ _ hM, s3 _ _ he, E0, B0⟩, But.refl⟩ ?_ ?_ ?_⟩
      · rintro i σ H4 _ ⟨_, b4⟩
        exact SqL.of (b4 _ _ hD MD)
      · rintro i y σ H4 hy ⟨⟨B, a4, a5, kvs, js, b, rfl, hM4, hB4, mt, bs⟩, b4⟩
        obtain ⟨a, c, rfl, hq, ha⟩ := q3.get hy
        have hi := (List.getElem?_eq_some_iff.mp hq).1
        rw [subs_len] at hi
        have p2 : 2 ^ (slotsN qs).length ≤ 128 := by
          have : 2 ^ (slotsN qs).length ≤ 2 ^ 7 := Nat.pow_le_pow_right (by decide) (by omega)
          omega
        have sc := subs_sub (List.mem_of_getElem? hq)
        have lc := sc.length_le
        rw [List.length_range] at lc
        have S4 := (S2.trans s3).but M0 b4
        have ha4 := b4 _ _ ha fun z => by
          have := s3 _ _ hM
          rw [← z, ha] at this
          cases this
        have rows4 := rows.same S4
        have hl4 := S4 _ _ hl
        refine ⟨_, rfl, a, rfl, ⟨_, SqL.of ha4⟩, fun Z nZ => ?_⟩
        refine lc_list (K := K) (a := a) (xs := vN c) (fun t H' => Same H4 H' ∧ H' Z = some (.lst (vN ((slotsAt (slotsN qs) c).take t)))) ?_ ?_ ?_ ?_
        · exact ⟨Same.new nZ, upd_same⟩
        · rintro t H5 _ ⟨s5, _⟩
          exact SqL.of (s5 _ _ ha4)
        · rintro t y H5 hy ⟨s5, h5⟩
          have ht := (List.getElem?_eq_some_iff.mp hy).1
          rw [vN_len] at ht
          unfold vN at hy
          rw [List.getElem?_map, List.getElem?_eq_getElem ht] at hy
          obtain rfl := Option.some.inj hy
          have jl := List.mem_range.mp (sc.subset (List.getElem_mem ht))
          have tk : (slotsAt (slotsN qs) c).take (t + 1) = (slotsAt (slotsN qs) c).take t ++ [(slotsN qs).getD c[t] 0] := by
            unfold slotsAt
            rw [List.take_add_one, List.getElem?_map, List.getElem?_eq_getElem ht]
            rfl
          have lt := List.length_take_le t (slotsAt (slotsN qs) c)
          generalize c[t] = j at jl tk
          have jq : j < qs.length := by omega
          have gj : rs[j]? = some (rs[j]'(by omega)) := List.getElem?_eq_getElem _
          obtain ⟨p, dx, w', x, n, ep, hqj, he, w0, w3, hx⟩ := rows4.get gj
          have he5 := s5 _ _ he
          have cl := (kd_of T w0 (by omega : w' ≤ 3)).rc.cl
          have en : (slotsN qs).getD j 0 = n := by
            unfold slotsN
            rw [List.getD_eq_getElem?_getD, List.getElem?_map, hqj]
            rfl
          refine ⟨rfl, _, rfl, _, rfl, ixL (s5 _ _ hl4) (v := .ref p) (atI_nat (by rw [gj, ep])) ⟨p, _, dx, _, rfl, he5, cl, prop_slot T w0 (by omega), p, dx, w', x, n, rfl, he5, w0, by omega, _, h5, ?_, fun c o eo => ?_, ?_⟩⟩
          · rw [vN_len]
            exact Nat.lt_of_le_of_lt lt (Nat.lt_of_lt_of_le (show t < 1000 by omega) (by decide))
          · rw [upd_ne (ne_of_none eo nZ)]
            exact s5 _ _ eo
          · rw [upd_same, tk, vN_app, en]
            rfl
        · rintro H5 ⟨s5, h5⟩
          rw [vN_len] at h5
          have la : (slotsAt (slotsN qs) c).length = c.length := List.length_map ..
          rw [List.take_of_length_le (by omega)] at h5
          refine ⟨Z, _, rfl, h5, by omega, fun H6 s6 yes => ⟨_, rfl, iteT ?_⟩, fun H6 s6 no => ⟨_, rfl, iteF ⟨⟨B, _, _, kvs, js, b, rfl, s6 _ _ (s5 _ _ hM4), s6 _ _ (s5 _ _ hB4), mt.skip hq no, bs.skip hq no⟩, fun o u eo ne => s6 _ _ (s5 _ _ (b4 _ _ eo ne))⟩⟩⟩
          have hl6 : H6 a = some (.lst (vN c)) := s6 _ _ (s5 _ _ ha4)
          have hB6 := s6 _ _ (s5 _ _ hB4)
          have hM6 := s6 _ _ (s5 _ _ hM4)
          have b6 : But M H3 H6 := fun o u eo ne => s6 _ _ (s5 _ _ (b4 _ _ eo ne))
          refine ⟨fun σ H' => ∃ (B : Addr) (b : List Nat), σ = [some (.ref l), some (.ref O), some (.ref B), some (.ref M), some (.ref a), a5, none, none, none, none] ∧ H6 = H' ∧ H6 B = some (.lst (vN b)) ∧ Best (slotsN qs) (i + 1) b, ?_, ?_⟩
          · refine ⟨_, rfl, _, _, rfl, .inl ⟨_, SqL.of hl6, rfl⟩, _, rfl, _, _, rfl, .inl ⟨_, SqL.of hB6, rfl⟩, _, _, rfl, rfl, _, rfl, ite2 (fun d => ?_) (fun d => ?_)⟩
            · rw [vN_len, vN_len] at d
              have d := of_decide_eq_true d
              exact ⟨_, rfl, a, c, rfl, rfl, hl6, bs.new hq yes (by omega)⟩
            · rw [vN_len, vN_len] at d
              have d : ¬ ((b.length : Int) < c.length) := fun z => d (decide_eq_true z)
              exact ⟨_, rfl, B, b, rfl, rfl, hB6, bs.stay hq (by omega)⟩
          · rintro σ H7 ⟨B, b, rfl, rfl, hB7, bs⟩
            have BM : B ≠ M := fun z => by rw [z, hM6] at hB7; cases hB7
            have aM : a ≠ M := fun z => by rw [z, hM6] at hl6; cases hl6
            have kl := mt.len
            refine ⟨_, rfl, a, rfl, ⟨_, SqL.of hl6⟩, for_list (K := K) (a := a) (xs := vN c) (fun t σ H' => (∃ (a5 : Option V) (kvs' : List (Key × V)) (js' : List Nat), σ = [some (.ref l), some (.ref O), some (.ref B), some (.ref M), some (.ref a), a5, none, none, none, none] ∧ H' M = some (.dK kvs') ∧ Keys kvs' js' ∧ kvs'.length ≤ 10 * i + t ∧ ∀ j, j ∈ js' ↔ j ∈ js ∨ j ∈ c.take t) ∧ But M H6 H')
              ⟨⟨_, kvs, js, rfl, hM6, mt.keys, by omega, fun j => ⟨.inl, fun z => z.elim id fun z => by cases z⟩⟩, But.refl⟩ ?_ ?_ ?_⟩
            · rintro t σ H7 _ ⟨_, b7⟩
              exact SqL.of (b7 _ _ hl6 aM)
            · rintro t y σ H7 hy ⟨⟨a5, kvs', js', rfl, hM7, k7, l7', m7⟩, b7⟩
              have ht := (List.getElem?_eq_some_iff.mp hy).1
              rw [vN_len] at ht
              unfold vN at hy
              rw [List.getElem?_map, List.getElem?_eq_getElem ht] at hy
              obtain rfl := Option.some.inj hy
              obtain ⟨js2, k8, m8⟩ := k7.put c[t] (.bl true)
              refine ⟨_, rfl, _, rfl, M, _, rfl, DPut.k (k := Sum.inl ((c[t] : Nat) : Int)) hM7 (Nat.lt_of_lt_of_le (show kvs'.length < 10000 by omega) (by decide)), ?_⟩
              refine ⟨⟨_, _, js2, rfl, upd_same, k8, Nat.le_trans (length_putK _ _ _) (by omega), fun j => ?_⟩, fun o u eo ne => ?_⟩
              · rw [m8, m7, List.take_add_one, List.getElem?_eq_getElem ht, List.mem_append, or_assoc]
                exact or_congr_right (or_congr_right (List.mem_singleton.symm))
              · rw [upd_ne ne]
                exact b7 _ _ eo ne
            · rintro σ H7 ⟨⟨a5, kvs', js', rfl, hM7, k7, l7', m7⟩, b7⟩
              rw [vN_len] at l7' m7
              rw [List.take_length] at m7
              exact ⟨⟨B, _, _, kvs', js', b, rfl, hM7, b7 _ _ hB7 BM, mt.add hq yes k7 (by omega) m7, bs⟩, fun o u eo ne => b7 _ _ (b6 _ _ eo ne) ne⟩
      · rintro σ H4 ⟨⟨B, a4, a5, kvs, js, b, rfl, hM4, hB4, mt, bs⟩, b4⟩
        exact ⟨B, a4, a5, kvs, js, b, rfl, hM4, hB4, by rw [← lw]; exact mt, by rw [← lw]; exact bs, fun c o eo ne => b4 _ _ (s3 _ _ eo) ne⟩
    · rintro σ H3 ⟨B, a4, a5, kvs, js, b, rfl, hM3, hB3, mt, bs, b3⟩
      have S3 := S2.but M0 b3
      have OM : O ≠ M := fun z => by rw [z, hM] at hO2; cases hO2
      have hO3 := b3 _ _ hO2 OM
      have c3 : Fcts H3 us qs := c1.same (fun o u eo => b3 _ _ (U _ _ eo) (ne_of_none eo M1))
      obtain ⟨m, ic⟩ := cut_ex (slotsN qs)
      have bm := bs.below ic
      have pj : js.Perm (below (slotsN qs) m) := (List.perm_ext_iff_of_nodup mt.keys.nd ((below_sorted _ _).imp fun z => Nat.ne_of_lt z)).mpr (mt.below ic)
      have lb : (below (slotsN qs) m).length ≤ 7 := by
        have := (List.filter_sublist (p := fun i => decide ((slotsN qs).getD i 0 < m)) (l := List.range (slotsN qs).length)).length_le
        rw [List.length_range] at this
        unfold below
        omega
      have ljs : js.length < 64 := by rw [pj.length_eq]; omega
      refine ⟨_, rfl, M, kvs, js.map fun j : Nat => (j : Int), rfl, .inl hM3, ?_, by rw [List.length_map]; exact ljs, fun ys p pm pw np => ?_⟩
      · rw [mt.keys.keys, List.map_map]
        rfl
      obtain ⟨ss, rfl, pss, sw⟩ := nats_of pm pw
      have se : ss = below (slotsN qs) m := (pss.trans pj).eq_of_pairwise (fun a b _ _ x y => Nat.le_antisymm x y) sw ((below_sorted _ _).imp fun z => Nat.le_of_lt z)
      have aq := atQ_below qs m
      have um : ∀ i ∈ below (slotsN qs) m, i < qs.length := fun i hi => by
        have := (below_mem.mp hi).1
        omega
      subst bm
      subst se
      clear pj pss sw mt bs
      generalize below (slotsN qs) m = u at *
      have up := Same.new (o := .lst ((u.map fun n : Nat => (n : Int)).map V.int)) np
      have hp : upd H3 p (.lst ((u.map fun n : Nat => (n : Int)).map V.int)) p = some (.lst (vN u)) := by rw [upd_same, vN_cast]
      have S4 := S3.trans up
      have hB4 := up _ _ hB3
      have hO4 := up _ _ hO3
      have c4 := c3.same up
      generalize upd H3 p (.lst ((u.map fun n : Nat => (n : Int)).map V.int)) = H4 at hp up S4 hB4 hO4 c4 ⊢
      refine ⟨_, rfl, .inr ⟨numsD u, numsD u, .lst (SqL.of hp) (nums_dp _), .lst (SqL.of hB4) (nums_dp _), numsD_shaped _, numsD_shaped _, _, rfl, ?_⟩⟩
      rw [nums_eqv]
      refine iteF ?_
      refine ⟨_, rfl, B, rfl, ⟨_, SqL.of hB4⟩, fun D nD => ?_⟩
      have lus := c4.len
      refine lc_list (K := K) (a := B) (xs := vN u) (fun t H' => Same H4 H' ∧ ∃ ds, H' D = some (.lst ds) ∧ Fcts H' ds (atQ qs (u.take t)) ∧ (∀ v ∈ ds, v ∈ us)) ?_ ?_ ?_ ?_
      · exact ⟨Same.new nD, [], upd_same, .nil, (fun v hv => by cases hv)⟩
      · rintro t H5 _ ⟨s5, _⟩
        exact SqL.of (s5 _ _ hB4)
      · rintro t y H5 hy ⟨s5, ds, h5, q5, n5⟩
        have ht := (List.getElem?_eq_some_iff.mp hy).1
        rw [vN_len] at ht
        unfold vN at hy
        rw [List.getElem?_map, List.getElem?_eq_getElem ht] at hy
        obtain rfl := Option.some.inj hy
        have jl := um _ (List.getElem_mem ht)
        have tk : atQ qs (u.take (t + 1)) = atQ qs (u.take t) ++ [qs.getD u[t] (0, Str.empty, 0)] := by
          unfold atQ
          rw [List.take_add_one, List.getElem?_eq_getElem ht, List.map_append]
          rfl
        generalize u[t] = j at jl tk
        have gj : us[j]? = some (us[j]'(by omega)) := List.getElem?_eq_getElem _
        obtain ⟨tp, b2, w', x, n, ep, hqj, e1, e2⟩ := c4.get gj
        rw [List.getD_eq_getElem?_getD, hqj] at tk
        have ld := q5.len
        have la : (atQ qs (u.take t)).length ≤ t := by
          unfold atQ
          rw [List.length_map]
          exact List.length_take_le _ _
        refine ⟨rfl, _, rfl, _, rfl, ixL (s5 _ _ hO4) (v := .ref tp) (atI_nat (by rw [gj, ep])) ⟨ds, h5, Nat.lt_of_lt_of_le (show ds.length < 1000 by omega) (by decide), fun o u eo => ?_, ds ++ [.ref tp], upd_same, ?_, ?_⟩⟩
        · rw [upd_ne (ne_of_none eo nD)]
          exact s5 _ _ eo
        · rw [tk]
          exact (q5.snoc (s5 _ _ e1) (s5 _ _ e2)).updN h5 (fun _ z => by cases z) (fun way => notKinds _ (fun v hv => c4.refs v (n5 v hv)) way)
        · intro v hv
          rcases List.mem_append.mp hv with hv | hv
          · exact n5 v hv
          · rw [List.mem_singleton.mp hv, ← ep]
            exact List.getElem_mem _
      rintro H5 ⟨s5, ds, hD5, q5, _⟩
      rw [vN_len, List.take_length, aq] at q5
      have S5 := S4.trans s5
      have hO5 := s5 _ _ hO4
      have c5 := c4.same s5
      clear s5 aq um S4 hp hB4 hO4 c4 hM3 hB3 hO3 c3 S3 hM he U b3 M0 M1 E0 B0 S2 hO2 c2
      refine ⟨fun σ H' => (∃ a5 a7 a8 a9 : Option V, σ = [some (.ref l), some (.ref O), some (.ref B), some (.ref M), a4, a5, some (.ref D), a7, a8, a9]) ∧ Same H5 H', ?_, ?_⟩
      · refine ⟨_, rfl, by decide, by decide, for_range (lo := 0) (n := 2) (fun i σ H' => (∃ a5 a7 a8 a9 : Option V, σ = [some (.ref l), some (.ref O), some (.ref B), some (.ref M), a4, a5, some (.ref D), a7, a8, a9]) ∧ Same H5 H')
          ⟨⟨_, _, _, _, rfl⟩, Same.refl _⟩ ?_ ?_⟩
        · rintro i σ H6 hi ⟨⟨a5, a7, a8, a9, rfl⟩, s6⟩
          have S6 := S5.trans s6
          refine ⟨fun σ H' => ∃ (N : Addr) (vs : List V), σ = [some (.ref l), some (.ref O), some (.ref B), some (.ref M), a4, a5, some (.ref D), some (.int (0 + (i : Int))), some (.ref N), a9] ∧ Same H6 H' ∧ H6 N = none ∧ H' N = some (.lst vs) ∧ Rows A H' vs (qs.filter fun q => decide (q.2.2 < m)) ∧ ∀ v ∈ vs, ∃ a, v = .ref a ∧ H6 a = none, ?_, ?_⟩
          · refine ⟨_, rfl, eqS rfl ⟨_, rfl, ite2 (fun _ => ?_) (fun _ => ?_)⟩⟩
            · refine ⟨_, rfl, l, rs, way, qs, rfl, S6 _ _ hl, rows.same S6, L, w1, fun m' N vs H7 s7 ic' nN hN rN fN => ?_⟩
              obtain rfl := ic'.unique ic
              exact ⟨N, vs, rfl, s7, nN, hN, rN, fN⟩
            · refine ⟨_, rfl, l, rs, way, qs, rfl, S6 _ _ hl, rows.same S6, L, w1, fun m' N vs H7 s7 ic' nN hN rN fN => ?_⟩
              obtain rfl := ic'.unique ic
              exact ⟨N, vs, rfl, s7, nN, hN, rN, fN⟩
          · rintro σ H7 ⟨N, vs, rfl, s7, nN, hN, rN, fN⟩
            have lf : (qs.filter fun q => decide (q.2.2 < m)).length ≤ 7 := by
              have := List.length_filter_le (fun q : Int × Str × Nat => decide (q.2.2 < m)) qs
              omega
            have itf : ∀ q ∈ qs.filter fun q => decide (q.2.2 < m), isItem q.2.1 = true := fun q hq => its q (List.mem_filter.mp hq).1
            have ndf : (names (qs.filter fun q => decide (q.2.2 < m))).Nodup := (List.filter_sublist.map _).nodup L.nd
            have SS := s6.trans s7
            refine ⟨_, rfl, _, _, _, _, _, rfl, .ty _, .base (.lst hN), kit_ty (r := true) (by decide +kernel), _, rfl, iteF ?_⟩
            refine ⟨_, rfl, N, vs, _, rfl, hN, rN, by omega, fun X xs H8 s8 nX hX cX => ⟨_, rfl, .inr ⟨factsD _, factsD _, .lst (SqL.of hX) cX.dp, .lst (SqL.of ((SS.trans s8) _ _ hD5)) (q5.same (SS.trans s8)).dp, facts_shaped itf, facts_shaped itf, _, rfl, ?_⟩⟩⟩
            rw [facts_eqv]
            refine iteF ?_
            have rN8 := rN.same s8
            have hN8 := s8 _ _ hN
            generalize (qs.filter fun q => decide (q.2.2 < m)) = qf at *
            have lv := rN8.len
            refine ⟨_, rfl, N, rfl, ⟨_, SqL.of hN8⟩, for_list (K := K) (a := N) (xs := vs) (fun t σ H' => (∃ a9 : Option V, σ = [some (.ref l), some (.ref O), some (.ref B), some (.ref M), a4, a5, some (.ref D), some (.int (0 + (i : Int))), some (.ref N), a9]) ∧ Same H6 H' ∧ H' N = some (.lst vs) ∧ ∃ us, Rows A H' vs us ∧ names us = names qf)
              ⟨⟨_, rfl⟩, s7.trans s8, hN8, qf, rN8, rfl⟩ ?_ ?_ ?_⟩
            · rintro t σ H9 _ ⟨_, _, h9, _⟩
              exact SqL.of h9
            · rintro t y σ H9 hy ⟨⟨a9, rfl⟩, s9, h9, us9, r9, n9⟩
              obtain ⟨p, dx, w', x, n, rfl, hq, he, w0, w3, hx⟩ := r9.get hy
              obtain ⟨p', ep, np⟩ := fN _ (List.mem_of_getElem? hy)
              cases ep
              have pN : N ≠ p := fun z => by rw [← z, h9] at he; cases he
              refine ⟨_, rfl, p, _, dx, _, rfl, he, rfs_no _ _ (by decide +kernel) (by decide +kernel), (kd_of T w0 (by omega : w' ≤ 3)).rc.cl, meth_move T w0 (by omega), ?_⟩
              refine ⟨p, _, dx, x, n, 60, rfl, he, (kd_of T w0 (by omega : w' ≤ 3)).rc, by omega, by omega, ?_⟩
              refine ⟨⟨_, rfl⟩, fun o u eo => ?_, ?_, us9.set t (w', x, 60), r9.moveAt (by rw [n9]; exact ndf) he hy hq, by rw [names_set hq]; exact n9⟩
              · rw [upd_ne (ne_of_none eo np)]
                exact s9 _ _ eo
              · rw [upd_ne pN]
                exact h9
            · rintro σ H9 ⟨⟨a9, rfl⟩, s9, h9, us9, r9, n9⟩
              refine ⟨_, rfl, .inl ⟨rfl, _, SqL.of h9⟩, N, vs, _, rfl, rfl, h9, Nat.lt_of_lt_of_le (show vs.length < 1000 by omega) (by decide), ?_⟩
              have s10 : Same H6 (upd H9 N (.lst (vs ++ [.non]))) := fun o u eo => by
                rw [upd_ne (ne_of_none eo nN)]
                exact s9 _ _ eo
              generalize upd H9 N (.lst (vs ++ [.non])) = H10 at s10 ⊢
              have S10 := S6.trans s10
              refine ⟨_, rfl, l, rs, qs, rfl, S10 _ _ hl, rows.same S10, L.len, fun Y us2 H11 s11 nY hY cY => ⟨_, rfl, .inr ⟨factsD qs, factsD qs, .lst (SqL.of hY) cY.dp, .lst (SqL.of ((s6.trans (s10.trans s11)) _ _ hO5)) (c5.same (s6.trans (s10.trans s11))).dp, facts_shaped its, facts_shaped its, _, rfl, ?_⟩⟩⟩
              rw [facts_eqv]
              exact iteF ⟨⟨_, _, _, _, rfl⟩, s6.trans (s10.trans s11)⟩
        · rintro σ H6 h6
          exact h6
      · rintro σ H6 ⟨⟨a5, a7, a8, a9, rfl⟩, s6⟩
        exact h H6 (S5.trans s6)

end
end Own

set_option Elab.async false
set_option linter.all false
set_option maxRecDepth 100000
set_option maxHeartbeats 4000000
namespace Own
open PySem L2 ClX
local macro_rules | `(tactic| walk_at "v") => `(tactic| refine ⟨_, rfl, ?_⟩)
local macro_rules | `(tactic| walk_at "ii") => `(tactic| refine ⟨_, _, rfl, rfl, ?_⟩)
local macro_rules | `(tactic| walk_at "go") => `(tactic| repeat (first | refine ⟨_, rfl, ?_⟩ | refine ⟨_, _, rfl, rfl, ?_⟩ | refine addI ?_ | refine L2.iteT ?_ | refine L2.iteF ?_))

section
variable {P : Program} {w : World} {K : PySem.W.Frag} {mg : Str → Option Value} {base : Heap} {A : Ad}
/-! ### the law -/
theorem Sd.upd {H0 H : Hp} {p a : Addr} {n : Int} {o : HO} (s : Sd H0 p n H) (ha : H0 a = none) (ap : a ≠ p) : Sd H0 p n (L2.upd H a o) := by
  obtain ⟨sm, ⟨g, m, c, e, r⟩, f⟩ := s
  refine ⟨fun c' o' e' => ?_, ⟨g, m, c, by rw [upd_ne ap.symm]; exact e, r⟩, f⟩
  rw [upd_ne (ne_of_none e' ha)]
  exact sm _ _ e'
theorem a_item : isItem "a" = true := by decide +kernel
theorem b_item : isItem "b" = true := by decide +kernel
def spLaw (K : PySem.W.Frag) : Sp := fun vs H Q _ => ∃ (a : Addr) (ns : List Int), vs = [.ref a] ∧ SqL K H a (ns.map V.int) ∧ ns.length ≤ 63 ∧ ∀ H', Q (.bl true) H'
theorem ok_law (T : Txt K mg A) : OkG P w K mg base 10 A.f_law ["script"] (spLaw K) := by
  refine T.fn_law.okG sc_law (fun _ _ _ _ _ _ us hl => match us, hl with | [_], _ => rfl) (fun vs H Q E h => ?_) (fun cdv B up s H0 vs Q hr gd h => ?_)
  · obtain ⟨a, ns, rfl, _⟩ := h
    rfl
  · obtain ⟨a0, ns, rfl, hS, hl, h⟩ := h
    refine ⟨_, (pss_cons (ps_for PassesOwn.never rfl (pi_range1 rfl T.no_range (pa_cons (pe_callB (call_max2 rfl) (by rfl) T.no_max (by decide +kernel) (pa_cons pe_int (pa_cons (pe_callB (call_min2 rfl) (by rfl) T.no_min (by decide +kernel) (pa_cons pe_int (pa_cons (pe_callB call_len (by rfl) T.no_len (by decide +kernel) (pa_cons (pv 0) pa_nil)) pa_nil))) pa_nil))) pa_nil)) (pg_name (i := 1) sc_law.nd rfl (Or.inl rfl))
      (pss_cons (ps_set (i := 2) sc_law.nd rfl (Or.inr rfl) (po_call (ok__law_tape T) (hr.mono (by decide)) T.mg__law_tape (pa_cons (pv 0) (pa_cons (pv 1) pa_nil))))
      (pss_one (ps_for PassesOwn.never rfl (pi_range1 rfl T.no_range (pa_cons pe_int pa_nil)) (pg_name (i := 3) sc_law.nd rfl (Or.inl rfl))
      (pss_cons (ps_asg (pe_tup (pa_cons (po_call (ok__law_next T) (hr.mono (by decide)) T.mg__law_next (pa_cons (pv 2) (pa_cons pe_int pa_nil))) (pa_cons (po_call (ok__law_next T) (hr.mono (by decide)) T.mg__law_next (pa_cons (pv 2) (pa_cons pe_int pa_nil))) pa_nil))) (pg_tup (by rfl) (pgs_cons (pg_name (i := 4) sc_law.nd rfl (Or.inl rfl)) (pgs_cons (pg_name (i := 5) sc_law.nd rfl (Or.inr rfl)) pgs_nil))))
      (pss_cons (ps_asg (pe_tup (pa_cons (po_call (ok__law_items T) (hr.mono (by decide)) T.mg__law_items (pa_cons (pv 2) (pa_cons (pv 4) pa_nil))) (pa_cons (pe_ix ix_seq (pe_lst (pa_cons pe_int (pa_cons pe_int (pa_cons pe_int pa_nil)))) (po_call (ok__law_next T) (hr.mono (by decide)) T.mg__law_next (pa_cons (pv 2) (pa_cons pe_int pa_nil))) (fun _ _ => rfl)) pa_nil))) (pg_tup (by rfl) (pgs_cons (pg_name (i := 6) sc_law.nd rfl (Or.inr rfl)) (pgs_cons (pg_name (i := 7) sc_law.nd rfl (Or.inr rfl)) pgs_nil))))
      (pss_cons (ps_setLcD (i := 8) (own := [("at", 10)]) rfl sc_law.nd rfl rfl (sw_true rfl rfl rfl (by decide +kernel)) (pi_range1 rfl T.no_range (pa_cons (pv 4) pa_nil)) (blkOk_by (N := N_law) (sc := defScope s_law) (by decide +kernel)) (fun _ _ _ _ _ => pg_name (i := 10) sc_law.nd rfl (Or.inl rfl)) (fun _ _ _ _ _ => pts_nil) (fun _ _ _ _ _ => (po_call (ok__law_made T) (hr.mono (by decide)) T.mg__law_made (pa_cons (pv 5) (pa_cons (pe_ix ix_seq (pv 6) (pv 10) (fun _ _ => rfl)) (pa_cons (po_call (ok__law_next T) (hr.mono (by decide)) T.mg__law_next (pa_cons (pv 2) (pa_cons (pv 7) pa_nil))) pa_nil))))))
      (pss_cons (ps_if (pt_not (pt_val (po_call (ok__law_right T) (hr.mono (by decide)) T.mg__law_right (pa_cons (pv 8) pa_nil)))) (pss_one (ps_ret pe_bl)) pss_nil)
      (pss_mid (ps_for PassesOwn.never rfl (pi_list (pv 8)) (pg_name (i := 9) sc_law.nd rfl (Or.inl rfl))
      (pss_one (ps_if (pt_cmpR (op_eqX hr) (po_call (ok__law_next T) (hr.mono (by decide)) T.mg__law_next (pa_cons (pv 2) (pa_cons pe_int pa_nil))) pe_int (nomark _)) (pss_one (ps_expr (po_methD (ok_Record_move_to T) (hr.mono (by decide)) (pv 9) (pa_cons (pe_ix ix_seq (pe_lst (pa_cons pe_int (pa_cons (po_call (ok__law_next T) (hr.mono (by decide)) T.mg__law_next (pa_cons (pv 2) (pa_cons pe_int pa_nil))) (pa_cons pe_int pa_nil)))) (po_call (ok__law_next T) (hr.mono (by decide)) T.mg__law_next (pa_cons (pv 2) (pa_cons pe_int pa_nil))) (fun _ _ => rfl)) pa_nil)))) pss_nil)))
      (pss_one (ps_if (pt_not (pt_val (po_call (ok__law_right T) (hr.mono (by decide)) T.mg__law_right (pa_cons (pv 8) pa_nil)))) (pss_one (ps_ret pe_bl)) pss_nil)))))))))))
      (pss_one (ps_ret (pe_and (pe_cmpR (OwnSet.op_eqNil hr.units) (px_call (ok_usable T) (fun _ => atL) (hr.mono (by decide)) T.mg_usable (pa_cons (pe_lst pa_nil) pa_nil)) (pe_lst pa_nil) (nomark _)) (pe_one (pe_cmpR (op_eqX hr) (px_call (ok_usable T) (fun _ => atL) (hr.mono (by decide)) T.mg_usable (pa_cons (pe_lst (pa_cons (po_make T.mk_Inserted (ok_Record___init__ T) (hr.mono (by decide)) T.mg_Inserted (pa_cons pe_str (pa_cons pe_int pa_nil))) (pa_cons (po_make T.mk_Inserted (ok_Record___init__ T) (hr.mono (by decide)) T.mg_Inserted (pa_cons pe_str (pa_cons pe_int pa_nil))) pa_nil))) pa_nil)) (pe_lst pa_nil) (nomark _))))))), ?_⟩
    refine ⟨_, rfl, _, _, rfl, .inl ⟨_, hS, rfl⟩, _, _, rfl, _, _, rfl, ?_⟩
    have hJ : ∀ L : Int, 0 ≤ (if (if L < 4 then L else 4) > 1 then (if L < 4 then L else 4) else 1) ∧ (if (if L < 4 then L else 4) > 1 then (if L < 4 then L else 4) else 1) ≤ 4 := fun L => by
      constructor <;> (repeat' split) <;> omega
    obtain ⟨j0, j1⟩ := hJ ((List.map V.int ns).length : Int)
    refine ⟨_, rfl, by omega, by omega, for_range (lo := 0) (n := Int.toNat _) (fun i σ H => (∃ v1 v2 v3 v4 v5 v6 v7 v8 v9 : Option V, σ = [some (.ref a0), v1, v2, v3, v4, v5, v6, v7, v8, v9, none]) ∧ Same H0 H)
      ⟨⟨_, _, _, _, _, _, _, _, _, rfl⟩, Same.refl _⟩ ?_ ?_⟩
    · rintro i σ H hi ⟨⟨v1, v2, v3, v4, v5, v6, v7, v8, v9, rfl⟩, sm⟩
      have hi6 : i < 64 := by omega
      refine ⟨_, rfl, _, rfl, a0, ns, i, by rw [Int.zero_add]; rfl, sm.seq hS, hi6, fun p H1 s1 np src0 => ?_⟩
      have f0 : H0 p = none := sm.free np
      refine ⟨_, rfl, by decide, by decide, for_range (lo := 0) (n := 4) (fun t σ H => (∃ v3 v4 v5 v6 v7 v8 v9 : Option V, σ = [some (.ref a0), some (.int (0 + i)), some (.ref p), v3, v4, v5, v6, v7, v8, v9, none]) ∧ Sd H0 p (100 * t) H)
        ⟨⟨_, _, _, _, _, _, _, rfl⟩, sm.trans s1, (by rw [show (100 : Int) * ((0 : Nat) : Int) = 0 from rfl]; exact src0), f0⟩ ?_ ?_⟩
      · rintro t σ H2 ht ⟨⟨v3, v4, v5, v6, v7, v8, v9, rfl⟩, d⟩
        generalize hN : 100 * (t : Int) = N at d
        have hN2 : N < 2 ^ 40 := by omega
        refine ⟨_, rfl, p, 8, N, rfl, by decide, by decide, d.src, by omega, fun r1 H3 r10 r11 s3 b3 => ?_⟩
        have d1 := d.pick b3 s3
        refine ⟨_, rfl, p, 2, N + 1, rfl, by decide, by decide, d1.src, by omega, fun kind H4 k0 k1 s4 b4 => ⟨Nat.le_of_ble_eq_true rfl, fun tt ntt => ⟨tt, _, rfl, SqT.of upd_same, rfl, _, _, rfl, _, _, rfl, rfl, ?_⟩⟩⟩
        obtain ⟨many, rfl⟩ : ∃ o : Nat, r1 = o := ⟨r1.toNat, by omega⟩
        have d2 := (d1.pick b4 s4).more (Same.new (o := .tup [.int (many : Nat), .int kind]) ntt)
        clear b3 s3 b4 s4 ntt d1
        generalize L2.upd H4 tt (.tup [.int (many : Nat), .int kind]) = H5 at d2 ⊢
        refine ⟨_, rfl, _, rfl, p, N + 1 + 1, many, rfl, d2.src, by omega, by omega, fun It is H10 ii ip li b10 s10 nI hI => ?_⟩
        have Ip := d2.ne nI
        have d10 : Sd H0 p (N + 10) H10 := ⟨d2.same.but d2.fr b10, s10.le (by omega), d2.fr⟩
        clear d d2 b10 s10 nI
        refine ⟨Nat.le_of_ble_eq_true rfl, fun q1 nq1 => ?_⟩
        have q1p := d10.ne nq1
        have d11 := d10.more (Same.new (o := .lst [.int 2, .int 4, .int 9]) nq1)
        have hI11 := Same.new (o := .lst [.int 2, .int 4, .int 9]) nq1 _ _ hI
        refine ⟨_, rfl, p, 3, N + 10, rfl, by decide, by decide, d11.src, by omega, fun r3 H12 r30 r31 s12 b12 => ?_⟩
        obtain ⟨wide, hw, w0, w6⟩ := pickI (zs := [2, 4, 9]) (fun z => 2 ≤ z ∧ z ≤ 9)
          (by
            intro z hz
            simp only [List.mem_cons, List.not_mem_nil, or_false] at hz
            rcases hz with rfl | rfl | rfl <;> omega) r30 r31
        have d12 := d11.pick b12 s12
        have hI12 := b12 _ _ hI11 Ip
        refine ixL (b12 _ _ upd_same q1p) hw ⟨Nat.le_of_ble_eq_true rfl, fun t2 nt2 => ⟨t2, _, rfl, SqT.of upd_same, rfl, _, _, rfl, _, _, rfl, rfl, ?_⟩⟩
        have d13 := (d12.more (Same.new (o := .tup [.ref It, .int wide]) nt2)).le (show _ ≤ N + 20 by omega)
        have hI13 := Same.new (o := .tup [.ref It, .int wide]) nt2 _ _ hI12
        generalize L2.upd H12 t2 (.tup [.ref It, .int wide]) = H13 at d13 hI13 ⊢
        clear d10 d11 d12 s12 b12 nt2 nq1 q1p hw hI11 hI12 hI
        refine ⟨_, rfl, _, rfl, by omega, by omega, fun B nB => ?_⟩
        have B0 := d13.same.free nB
        have Bp := d13.ne nB
        have BI : It ≠ B := ne_of_none hI13 nB
        refine lc_range (fun j H' => Sd H0 p (N + 20 + j) H' ∧ H' It = some (.lst (is.map V.str)) ∧ ∃ rs qs, H' B = some (.lst rs) ∧ Rows A H' rs qs ∧ names qs = is.take j ∧ (∀ q ∈ qs, q.1 = kind ∧ q.2.2 ≤ 60) ∧ ∀ v ∈ rs, ∃ a, v = .ref a ∧ H0 a = none) ⟨(d13.more (Same.new nB)).le (by omega), Same.new nB _ _ hI13, [], [], upd_same, .nil, rfl, (fun q hq => by cases hq), fun v hv => by cases hv⟩ ?_ ?_
        · rintro j H14 hj ⟨d14, hI14, rs, qs, hB, r14, n14, q14, f14⟩
          have hj : j < many := by omega
          have lti : j < is.length := by omega
          have gi : isItem (is.getD j Str.empty) = true := by
            rw [List.getD_eq_getElem?_getD, List.getElem?_eq_getElem lti]
            exact ii.it _ (List.getElem_mem lti)
          rw [Int.zero_add]
          refine ⟨rfl, _, rfl, _, rfl, _, rfl, ixL hI14 (v := .str (is.getD j Str.empty)) ?_ ?_⟩
          · refine atI_nat ?_
            rw [List.getElem?_map, List.getElem?_eq_getElem lti, List.getD_eq_getElem?_getD, List.getElem?_eq_getElem lti]
            rfl
          refine ⟨_, rfl, _, rfl, p, wide, N + 20 + j, rfl, by omega, by omega, d14.src, by omega, fun r H15 r0 r1 s15 b15 => ?_⟩
          have hB15 := b15 _ _ hB Bp
          have hI15 := b15 _ _ hI14 Ip
          have rows15 := r14.but d14.src b15
          have d15 := d14.pick b15 s15
          obtain ⟨r, rfl⟩ : ∃ o : Nat, r = o := ⟨r.toNat, by omega⟩
          refine ⟨kind, _, _, rfl, k0, by omega, gi, by omega, by omega, fun q dx H16 s16 nq eq => ?_⟩
          have l14 := r14.len
          have ln : qs.length = j := by
            have := congrArg List.length n14
            unfold names at this
            rw [List.length_map, List.length_take] at this
            omega
          have d16 := (d15.more s16).upd (o := .lst (rs ++ [.ref q])) B0 Bp
          refine ⟨rs, s16 _ _ hB15, Nat.lt_of_lt_of_le (show rs.length < 1000 by omega) (by decide), d16.le (by omega), ?_, _, qs ++ [(kind, is.getD j Str.empty, r)], upd_same, ((rows15.same s16).snoc eq k0 (by omega) gi).updL (s16 _ _ hB15), ?_, ?_, ?_⟩
          · rw [upd_ne BI]
            exact s16 _ _ hI15
          · unfold names at n14 ⊢
            rw [List.map_append, n14, List.take_add_one, List.getElem?_eq_getElem lti, List.getD_eq_getElem?_getD, List.getElem?_eq_getElem lti]
            rfl
          · intro z hz
            rcases List.mem_append.mp hz with hz | hz
            · exact q14 z hz
            · rw [List.mem_singleton.mp hz]
              exact ⟨rfl, show r ≤ 60 by omega⟩
          · intro v hv
            rcases List.mem_append.mp hv with hv | hv
            · exact f14 v hv
            · rw [List.mem_singleton.mp hv]
              exact ⟨q, rfl, d15.same.free nq⟩
        rintro H14 ⟨d14, _, rs, qs, hB, r14, n14, q14, f14⟩
        have d14 : Sd H0 p (N + 40) H14 := d14.le (by omega)
        rw [List.take_of_length_le (by omega)] at n14
        have lq : qs.length = many := by
          have := congrArg List.length n14
          unfold names at this
          rw [List.length_map] at this
          omega
        have LQ : LogQ kind qs := ⟨fun q hq => (q14 q hq).2, fun q hq => (q14 q hq).1, k0, by omega, by rw [n14]; exact ii.nd, by omega⟩
        have l14 := r14.len
        clear q14 n14 BI hI13 d13 Ip
        refine ⟨_, rfl, B, rs, kind, qs, rfl, hB, r14, LQ, by omega, by omega, fun H15 s15 => ⟨_, rfl, iteF ?_⟩⟩
        have d15 := d14.more s15
        have hB15 := s15 _ _ hB
        have r15 := r14.same s15
        clear d14 s15 hB r14
        refine ⟨fun σ H' => ∃ (v9 : Option V) (us : List (Int × Str × Nat)), σ = [some (.ref a0), some (.int (0 + i)), some (.ref p), some (.int (0 + t)), some (.int (many : Nat)), some (.int kind), some (.ref It), some (.int wide), some (.ref B), v9, none] ∧ Sd H0 p (N + 100) H' ∧ H' B = some (.lst rs) ∧ Rows A H' rs us ∧ LogQ kind us ∧ us.length = many, ?_, ?_⟩
        · refine ⟨_, rfl, B, rfl, ⟨_, SqL.of hB15⟩, for_list (K := K) (a := B) (xs := rs) (fun j σ H' => ∃ (v9 : Option V) (us : List (Int × Str × Nat)), σ = [some (.ref a0), some (.int (0 + i)), some (.ref p), some (.int (0 + t)), some (.int (many : Nat)), some (.int kind), some (.ref It), some (.int wide), some (.ref B), v9, none] ∧ Sd H0 p (N + 40 + 3 * j) H' ∧ H' B = some (.lst rs) ∧ Rows A H' rs us ∧ LogQ kind us ∧ us.length = many)
            ⟨_, qs, rfl, d15.le (by omega), hB15, r15, LQ, lq⟩ ?_ ?_ ?_⟩
          · rintro j σ H16 _ ⟨_, _, _, _, h16, _⟩
            exact SqL.of h16
          · rintro j y σ H16 hy ⟨v9, us, rfl, d16, h16, r16, L16, l16⟩
            have hj := (List.getElem?_eq_some_iff.mp hy).1
            obtain ⟨q, dx, way, x, n, rfl, hq, he, w0, w3, hx⟩ := r16.get hy
            obtain ⟨q', eq', fq⟩ := f14 _ (List.mem_of_getElem? hy)
            cases eq'
            have ew : way = kind := L16.wy _ (List.mem_of_getElem? hq)
            subst ew
            have qp : q ≠ p := fun z => by
              obtain ⟨g, m', c, z2, _⟩ := d16.src
              rw [z, z2] at he
              cases he
            refine ⟨_, rfl, p, 3, N + 40 + 3 * j, rfl, by decide, by decide, d16.src, by omega, fun r H17 r0 r1 s17 b17 => eqS rfl ⟨_, rfl, ite2 (fun _ => ?_) (fun _ => ?_)⟩⟩
            · have d17 := d16.pick b17 s17
              have h17 := b17 _ _ h16 Bp
              have he17 := b17 _ _ he qp
              have r17 := r16.but d16.src b17
              refine ⟨_, rfl, q, _, dx, _, rfl, he17, rfs_no _ _ (by decide +kernel) (by decide +kernel), (kd_of T w0 (by omega : way ≤ 3)).rc.cl, meth_move T w0 (by omega), ?_⟩
              refine ⟨_, rfl, p, 9, N + 40 + 3 * j + 1, rfl, by decide, by decide, d17.src, by omega, fun z H18 z0 z1 s18 b18 => ?_⟩
              have d18 := d17.pick b18 s18
              have h18 := b18 _ _ h17 Bp
              have he18 := b18 _ _ he17 qp
              have r18 := r17.but d17.src b18
              refine ⟨Nat.le_of_ble_eq_true rfl, fun q1 nq1 => ?_⟩
              have u1 := Same.new (o := .lst [.int 0, .int z, .int 60]) nq1
              have q1p := d18.ne nq1
              have d19 := d18.more u1
              have h19 := u1 _ _ h18
              have he19 := u1 _ _ he18
              have r19 := r18.same u1
              refine ⟨_, rfl, p, 3, N + 40 + 3 * j + 1 + 1, rfl, by decide, by decide, d19.src, by omega, fun y H20 y0 y1 s20 b20 => ?_⟩
              obtain ⟨n', hn', n0, n60⟩ := pickI (zs := [0, z, 60]) (fun z => 0 ≤ z ∧ z ≤ 60)
                (by
                  intro y hy
                  simp only [List.mem_cons, List.not_mem_nil, or_false] at hy
                  rcases hy with rfl | rfl | rfl <;> omega) y0 y1
              have d20 := d19.pick b20 s20
              have h20 := b20 _ _ h19 Bp
              have he20 := b20 _ _ he19 qp
              have r20 := r19.but d19.src b20
              obtain ⟨n', rfl⟩ : ∃ o : Nat, n' = o := ⟨n'.toNat, by omega⟩
              refine ixL (b20 _ _ upd_same q1p) hn' ?_
              refine ⟨q, _, dx, x, n, n', rfl, he20, (kd_of T w0 (by omega : way ≤ 3)).rc, by omega, by omega, ?_⟩
              refine ⟨_, us.set j (way, x, n'), rfl, (d20.upd fq qp).le (by omega), ?_, r20.moveAt L16.nd he20 hy hq, L16.set hq (by omega), by rw [List.length_set]; exact l16⟩
              rw [upd_ne (fun z => by rw [← z, h20] at he20; cases he20)]
              exact h20
            · exact ⟨_, us, rfl, (d16.pick b17 s17).le (by omega), b17 _ _ h16 Bp, r16.but d16.src b17, L16, l16⟩
          · rintro σ H16 ⟨v9, us, rfl, d16, h16, r16, L16, l16⟩
            exact ⟨v9, us, rfl, d16.le (by omega), h16, r16, L16, l16⟩
        · rintro σ H16 ⟨v9, us, rfl, d16, h16, r16, L16, l16⟩
          refine ⟨_, rfl, B, rs, kind, us, rfl, h16, r16, L16, by omega, by omega, fun H17 s17 => ⟨_, rfl, iteF ?_⟩⟩
          exact ⟨⟨_, _, _, _, _, _, _, rfl⟩, (d16.more s17).le (by omega)⟩
      · rintro σ H ⟨⟨v3, v4, v5, v6, v7, v8, v9, rfl⟩, d⟩
        exact ⟨⟨_, _, _, _, _, _, _, _, _, rfl⟩, d.same⟩
    · rintro σ H ⟨⟨v1, v2, v3, v4, v5, v6, v7, v8, v9, rfl⟩, sm⟩
      refine ⟨Nat.zero_le _, fun l0 n0 => ⟨l0, [], 0, [], rfl, upd_same, .nil, ⟨(fun q hq => by cases hq), (fun q hq => by cases hq), by decide, by decide, List.nodup_nil, Nat.zero_le _⟩, by decide, fun m N us H1 s1 _ nN hN rN fN => ?_⟩⟩
      cases rN
      refine ⟨Nat.zero_le _, fun b nb => ⟨N, b, [], rfl, rfl, SqL.of ((Same.new nb) _ _ hN), SqL.of upd_same, ?_⟩⟩
      refine ⟨true, rfl, iteT ?_⟩
      have ub := Same.new (o := .lst []) nb
      generalize L2.upd H1 b (.lst []) = H2
      refine fun q dx nq nd ne => ⟨q, _, dx, "a", 1, rfl, upd_same, rc_Inserted T, a_item, by decide, by decide, fun H3 e3 b3 => ⟨rfl, ?_⟩⟩
      refine fun q2 dx2 nq2 nd2 ne2 => ⟨q2, _, dx2, "b", 1, rfl, upd_same, rc_Inserted T, b_item, by decide, by decide, fun H4 e4 b4 => ⟨rfl, Nat.le_of_ble_eq_true rfl, fun l1 n1 => ?_⟩⟩
      have e3 := made_same nq2 nd2 b4 _ _ e3
      have u1 := Same.new (o := .lst [.ref q, .ref q2]) n1
      refine ⟨l1, [.ref q, .ref q2], 0, [(0, "a", 1), (0, "b", 1)], rfl, upd_same, .cons (n := 1) (u1 _ _ e3) (by decide) (by decide) a_item (.cons (n := 1) (u1 _ _ e4) (by decide) (by decide) b_item .nil), ?_, by decide, fun m N us H5 s5 ic nN hN rN fN => ?_⟩
      · refine ⟨fun q hq => ?_, fun q hq => ?_, by decide, by decide, by decide +kernel, by decide⟩
        · simp only [List.mem_cons, List.not_mem_nil, or_false] at hq
          rcases hq with rfl | rfl <;> decide
        · simp only [List.mem_cons, List.not_mem_nil, or_false] at hq
          rcases hq with rfl | rfl <;> rfl
      have ic0 : IsCut (slotsN [((0 : Int), ("a" : Str), (1 : Nat)), (0, "b", 1)]) 0 := ⟨(fun i hi => by cases hi), by decide +kernel⟩
      obtain rfl := ic.unique ic0
      have e0 : ([((0 : Int), ("a" : Str), (1 : Nat)), (0, "b", 1)].filter fun q => decide (q.2.2 < 0)) = [] := by decide +kernel
      rw [e0] at rN
      cases rN
      refine ⟨Nat.zero_le _, fun b nb => .inr ⟨numsD [], numsD [], .lst (SqL.of ((Same.new nb) _ _ hN)) (nums_dp []), .lst (SqL.of upd_same) (nums_dp []), numsD_shaped _, numsD_shaped _, ?_⟩⟩
      rw [nums_eqv]
      exact h _
theorem done {fa : Addr} (T : Txt K mg A) (hm : mg "law" = some (.ref fa)) : ∀ base : Heap, K.In base → base.Ns mainGlobals mg → OkG P w K mg base 10 fa ["script"] (spLaw K) := by
  have e := T.mg_law.symm.trans hm
  obtain rfl : A.f_law = fa := by
    injection e with e
    injection e
  exact fun base _ _ => ok_law T

end
end Own

set_option Elab.async false
set_option linter.all false
set_option maxRecDepth 100000
set_option maxHeartbeats 4000000
namespace Own
open PySem L2 ClX
local macro_rules | `(tactic| walk_at "v") => `(tactic| refine ⟨_, rfl, ?_⟩)
local macro_rules | `(tactic| walk_at "ii") => `(tactic| refine ⟨_, _, rfl, rfl, ?_⟩)
local macro_rules | `(tactic| walk_at "go") => `(tactic| repeat (first | refine ⟨_, rfl, ?_⟩ | refine ⟨_, _, rfl, rfl, ?_⟩ | refine addI ?_ | refine L2.iteT ?_ | refine L2.iteF ?_))

theorem txt_mk {K : PySem.W.Frag} {h : Heap} {mg : Str → Option Value} {f_is_integer f_is_item f_check_index f_record_of f_has_kind f_are_records f_is_log f_check_log f_sign_of f_is_fronted f_check_grown f_usable f__law_tape f__law_next f__law_items f__law_made f__law_facts f__law_is_closed f__law_sets f__law_right f_law c_Record c_Inserted c_Removed c_Fronted c_LogError m_Record___init__ m_Record_move_to m_Record_item p_Record_item m_Record_slot p_Record_slot : Addr} (X : K.In h) (G : h.Ns mainGlobals mg)
    (a_is_integer : PySem.W.nsIn K mainGlobals "is_integer" = some (some (.ref f_is_integer)))
    (g_is_integer : FnT K "is_integer" "is_integer" s_is_integer f_is_integer)
    (a_is_item : PySem.W.nsIn K mainGlobals "is_item" = some (some (.ref f_is_item)))
    (g_is_item : FnT K "is_item" "is_item" s_is_item f_is_item)
    (a_check_index : PySem.W.nsIn K mainGlobals "check_index" = some (some (.ref f_check_index)))
    (g_check_index : FnT K "check_index" "check_index" s_check_index f_check_index)
    (a_record_of : PySem.W.nsIn K mainGlobals "record_of" = some (some (.ref f_record_of)))
    (g_record_of : FnT K "record_of" "record_of" s_record_of f_record_of)
    (a_has_kind : PySem.W.nsIn K mainGlobals "has_kind" = some (some (.ref f_has_kind)))
    (g_has_kind : FnT K "has_kind" "has_kind" s_has_kind f_has_kind)
    (a_are_records : PySem.W.nsIn K mainGlobals "are_records" = some (some (.ref f_are_records)))
    (g_are_records : FnT K "are_records" "are_records" s_are_records f_are_records)
    (a_is_log : PySem.W.nsIn K mainGlobals "is_log" = some (some (.ref f_is_log)))
    (g_is_log : FnT K "is_log" "is_log" s_is_log f_is_log)
    (a_check_log : PySem.W.nsIn K mainGlobals "check_log" = some (some (.ref f_check_log)))
    (g_check_log : FnT K "check_log" "check_log" s_check_log f_check_log)
    (a_sign_of : PySem.W.nsIn K mainGlobals "sign_of" = some (some (.ref f_sign_of)))
    (g_sign_of : FnT K "sign_of" "sign_of" s_sign_of f_sign_of)
    (a_is_fronted : PySem.W.nsIn K mainGlobals "is_fronted" = some (some (.ref f_is_fronted)))
    (g_is_fronted : FnT K "is_fronted" "is_fronted" s_is_fronted f_is_fronted)
    (a_check_grown : PySem.W.nsIn K mainGlobals "check_grown" = some (some (.ref f_check_grown)))
    (g_check_grown : FnT K "check_grown" "check_grown" s_check_grown f_check_grown)
    (a_usable : PySem.W.nsIn K mainGlobals "usable" = some (some (.ref f_usable)))
    (g_usable : FnT K "usable" "usable" s_usable f_usable)
    (a__law_tape : PySem.W.nsIn K mainGlobals "_law_tape" = some (some (.ref f__law_tape)))
    (g__law_tape : FnT K "_law_tape" "_law_tape" s__law_tape f__law_tape)
    (a__law_next : PySem.W.nsIn K mainGlobals "_law_next" = some (some (.ref f__law_next)))
    (g__law_next : FnT K "_law_next" "_law_next" s__law_next f__law_next)
    (a__law_items : PySem.W.nsIn K mainGlobals "_law_items" = some (some (.ref f__law_items)))
    (g__law_items : FnT K "_law_items" "_law_items" s__law_items f__law_items)
    (a__law_made : PySem.W.nsIn K mainGlobals "_law_made" = some (some (.ref f__law_made)))
    (g__law_made : FnT K "_law_made" "_law_made" s__law_made f__law_made)
    (a__law_facts : PySem.W.nsIn K mainGlobals "_law_facts" = some (some (.ref f__law_facts)))
    (g__law_facts : FnT K "_law_facts" "_law_facts" s__law_facts f__law_facts)
    (a__law_is_closed : PySem.W.nsIn K mainGlobals "_law_is_closed" = some (some (.ref f__law_is_closed)))
    (g__law_is_closed : FnT K "_law_is_closed" "_law_is_closed" s__law_is_closed f__law_is_closed)
    (a__law_sets : PySem.W.nsIn K mainGlobals "_law_sets" = some (some (.ref f__law_sets)))
    (g__law_sets : FnT K "_law_sets" "_law_sets" s__law_sets f__law_sets)
    (a__law_right : PySem.W.nsIn K mainGlobals "_law_right" = some (some (.ref f__law_right)))
    (g__law_right : FnT K "_law_right" "_law_right" s__law_right f__law_right)
    (a_law : PySem.W.nsIn K mainGlobals "law" = some (some (.ref f_law)))
    (g_law : FnT K "law" "law" s_law f_law)
    (a_Record : PySem.W.nsIn K mainGlobals "Record" = some (some (.ref c_Record)))
    (a_Inserted : PySem.W.nsIn K mainGlobals "Inserted" = some (some (.ref c_Inserted)))
    (a_Removed : PySem.W.nsIn K mainGlobals "Removed" = some (some (.ref c_Removed)))
    (a_Fronted : PySem.W.nsIn K mainGlobals "Fronted" = some (some (.ref c_Fronted)))
    (a_LogError : PySem.W.nsIn K mainGlobals "LogError" = some (some (.ref c_LogError)))
    (mk_Record : PySem.W.makesIn K c_Record = true)
    (in_Record : PySem.W.findIn K (.ref c_Record) "__init__" = some (some (.ref m_Record___init__)))
    (fi_Record : PySem.W.isFn K (.ref m_Record___init__) = true)
    (kc_Record : PySem.W.keepIn K (.ref c_Record) = true)
    (g_Record___init__ : FnT K "__init__" "Record.__init__" s_Record___init__ m_Record___init__)
    (pg_Record : PySem.W.plainGet K c_Record Str.empty = true)
    (hd_Record : PySem.W.hasDictIn K c_Record = true)
    (po_Record : PySem.W.plainOver K c_Record = true)
    (sa_Record : PySem.W.findIn K (.ref c_Record) "__setattr__" = some (some (.builtin "object.__setattr__")))
    (na_Record_item : PySem.W.findIn K (.ref c_Record) "_item" = some none)
    (na_Record_slot : PySem.W.findIn K (.ref c_Record) "_slot" = some none)
    (mk_Inserted : PySem.W.makesIn K c_Inserted = true)
    (in_Inserted : PySem.W.findIn K (.ref c_Inserted) "__init__" = some (some (.ref m_Record___init__)))
    (fi_Inserted : PySem.W.isFn K (.ref m_Record___init__) = true)
    (kc_Inserted : PySem.W.keepIn K (.ref c_Inserted) = true)
    (pg_Inserted : PySem.W.plainGet K c_Inserted Str.empty = true)
    (hd_Inserted : PySem.W.hasDictIn K c_Inserted = true)
    (po_Inserted : PySem.W.plainOver K c_Inserted = true)
    (sa_Inserted : PySem.W.findIn K (.ref c_Inserted) "__setattr__" = some (some (.builtin "object.__setattr__")))
    (na_Inserted_item : PySem.W.findIn K (.ref c_Inserted) "_item" = some none)
    (na_Inserted_slot : PySem.W.findIn K (.ref c_Inserted) "_slot" = some none)
    (mk_Removed : PySem.W.makesIn K c_Removed = true)
    (in_Removed : PySem.W.findIn K (.ref c_Removed) "__init__" = some (some (.ref m_Record___init__)))
    (fi_Removed : PySem.W.isFn K (.ref m_Record___init__) = true)
    (kc_Removed : PySem.W.keepIn K (.ref c_Removed) = true)
    (pg_Removed : PySem.W.plainGet K c_Removed Str.empty = true)
    (hd_Removed : PySem.W.hasDictIn K c_Removed = true)
    (po_Removed : PySem.W.plainOver K c_Removed = true)
    (sa_Removed : PySem.W.findIn K (.ref c_Removed) "__setattr__" = some (some (.builtin "object.__setattr__")))
    (na_Removed_item : PySem.W.findIn K (.ref c_Removed) "_item" = some none)
    (na_Removed_slot : PySem.W.findIn K (.ref c_Removed) "_slot" = some none)
    (mk_Fronted : PySem.W.makesIn K c_Fronted = true)
    (in_Fronted : PySem.W.findIn K (.ref c_Fronted) "__init__" = some (some (.ref m_Record___init__)))
    (fi_Fronted : PySem.W.isFn K (.ref m_Record___init__) = true)
    (kc_Fronted : PySem.W.keepIn K (.ref c_Fronted) = true)
    (pg_Fronted : PySem.W.plainGet K c_Fronted Str.empty = true)
    (hd_Fronted : PySem.W.hasDictIn K c_Fronted = true)
    (po_Fronted : PySem.W.plainOver K c_Fronted = true)
    (sa_Fronted : PySem.W.findIn K (.ref c_Fronted) "__setattr__" = some (some (.builtin "object.__setattr__")))
    (na_Fronted_item : PySem.W.findIn K (.ref c_Fronted) "_item" = some none)
    (na_Fronted_slot : PySem.W.findIn K (.ref c_Fronted) "_slot" = some none)
    (me_Record_move_to : PySem.W.findIn K (.ref c_Record) "move_to" = some (some (.ref m_Record_move_to)))
    (mf_Record_move_to : PySem.W.isFn K (.ref m_Record_move_to) = true)
    (mq_Record_move_to : PySem.W.keepIn K (.ref m_Record_move_to) = true)
    (g_Record_move_to : FnT K "move_to" "Record.move_to" s_Record_move_to m_Record_move_to)
    (me_Inserted_move_to : PySem.W.findIn K (.ref c_Inserted) "move_to" = some (some (.ref m_Record_move_to)))
    (mf_Inserted_move_to : PySem.W.isFn K (.ref m_Record_move_to) = true)
    (mq_Inserted_move_to : PySem.W.keepIn K (.ref m_Record_move_to) = true)
    (me_Removed_move_to : PySem.W.findIn K (.ref c_Removed) "move_to" = some (some (.ref m_Record_move_to)))
    (mf_Removed_move_to : PySem.W.isFn K (.ref m_Record_move_to) = true)
    (mq_Removed_move_to : PySem.W.keepIn K (.ref m_Record_move_to) = true)
    (me_Fronted_move_to : PySem.W.findIn K (.ref c_Fronted) "move_to" = some (some (.ref m_Record_move_to)))
    (mf_Fronted_move_to : PySem.W.isFn K (.ref m_Record_move_to) = true)
    (mq_Fronted_move_to : PySem.W.keepIn K (.ref m_Record_move_to) = true)
    (rd_Fronted : ∃ mc, ClX.CRead K c_Fronted mc)
    (rd_Removed : ∃ mc, ClX.CRead K c_Removed mc)
    (rd_Inserted : ∃ mc, ClX.CRead K c_Inserted mc)
    (rd_Record : ∃ mc, ClX.CRead K c_Record mc)
    (cv_Record_MOST : ∃ mc u, ClX.CRead K c_Record mc ∧ ClX.CVal K c_Record mc "MOST" (.int 60) u)
    (cv_Record_SIGN : ∃ mc u, ClX.CRead K c_Record mc ∧ ClX.CVal K c_Record mc "SIGN" (.str "") u)
    (cv_Inserted_SIGN : ∃ mc u, ClX.CRead K c_Inserted mc ∧ ClX.CVal K c_Inserted mc "SIGN" (.str "+") u)
    (cv_Removed_SIGN : ∃ mc u, ClX.CRead K c_Removed mc ∧ ClX.CVal K c_Removed mc "SIGN" (.str "-") u)
    (cv_Fronted_SIGN : ∃ mc u, ClX.CRead K c_Fronted mc ∧ ClX.CVal K c_Fronted mc "SIGN" (.str "^") u)
    (iv_Record_SIGN : ∃ u, Con K c_Record "SIGN" (.str "") u)
    (iv_Inserted_SIGN : ∃ u, Con K c_Inserted "SIGN" (.str "+") u)
    (iv_Removed_SIGN : ∃ u, Con K c_Removed "SIGN" (.str "-") u)
    (iv_Fronted_SIGN : ∃ u, Con K c_Fronted "SIGN" (.str "^") u)
    (mc_MOST_LETTERS : ∃ t, PySem.W.nsIn K mainGlobals "MOST_LETTERS" = some (some (.int 8 t)))
    (mc_MOST_IN_LOG : ∃ t, PySem.W.nsIn K mainGlobals "MOST_IN_LOG" = some (some (.int 40 t)))
    (kit_Record_Record : PySem.W.kitOne K (.ref c_Record) (.ref c_Record) = some true)
    (kit_Inserted_Record : PySem.W.kitOne K (.ref c_Inserted) (.ref c_Record) = some true)
    (kit_Removed_Record : PySem.W.kitOne K (.ref c_Removed) (.ref c_Record) = some true)
    (kit_Fronted_Record : PySem.W.kitOne K (.ref c_Fronted) (.ref c_Record) = some true)
    (kit_Inserted_Inserted : PySem.W.kitOne K (.ref c_Inserted) (.ref c_Inserted) = some true)
    (kit_Inserted_Removed : PySem.W.kitOne K (.ref c_Inserted) (.ref c_Removed) = some false)
    (kit_Inserted_Fronted : PySem.W.kitOne K (.ref c_Inserted) (.ref c_Fronted) = some false)
    (kit_Removed_Inserted : PySem.W.kitOne K (.ref c_Removed) (.ref c_Inserted) = some false)
    (kit_Removed_Removed : PySem.W.kitOne K (.ref c_Removed) (.ref c_Removed) = some true)
    (kit_Removed_Fronted : PySem.W.kitOne K (.ref c_Removed) (.ref c_Fronted) = some false)
    (kit_Fronted_Inserted : PySem.W.kitOne K (.ref c_Fronted) (.ref c_Inserted) = some false)
    (kit_Fronted_Removed : PySem.W.kitOne K (.ref c_Fronted) (.ref c_Removed) = some false)
    (kit_Fronted_Fronted : PySem.W.kitOne K (.ref c_Fronted) (.ref c_Fronted) = some true)
    (pr_Record_item : PropOf K c_Record "item" p_Record_item m_Record_item)
    (g_Record_item : FnT K "item" "Record.item" s_Record_item m_Record_item)
    (pr_Record_slot : PropOf K c_Record "slot" p_Record_slot m_Record_slot)
    (g_Record_slot : FnT K "slot" "Record.slot" s_Record_slot m_Record_slot)
    (pr_Inserted_item : PropOf K c_Inserted "item" p_Record_item m_Record_item)
    (pr_Inserted_slot : PropOf K c_Inserted "slot" p_Record_slot m_Record_slot)
    (pr_Removed_item : PropOf K c_Removed "item" p_Record_item m_Record_item)
    (pr_Removed_slot : PropOf K c_Removed "slot" p_Record_slot m_Record_slot)
    (pr_Fronted_item : PropOf K c_Fronted "item" p_Record_item m_Record_item)
    (pr_Fronted_slot : PropOf K c_Fronted "slot" p_Record_slot m_Record_slot)
    (ty_Record : InsT K c_Record)
    (ty_Inserted : InsT K c_Inserted)
    (ty_Removed : InsT K c_Removed)
    (ty_Fronted : InsT K c_Fronted)
    (no_abs : PySem.W.nsIn K mainGlobals "abs" = some none)
    (no_all : PySem.W.nsIn K mainGlobals "all" = some none)
    (no_bool : PySem.W.nsIn K mainGlobals "bool" = some none)
    (no_int : PySem.W.nsIn K mainGlobals "int" = some none)
    (no_isinstance : PySem.W.nsIn K mainGlobals "isinstance" = some none)
    (no_len : PySem.W.nsIn K mainGlobals "len" = some none)
    (no_list : PySem.W.nsIn K mainGlobals "list" = some none)
    (no_max : PySem.W.nsIn K mainGlobals "max" = some none)
    (no_min : PySem.W.nsIn K mainGlobals "min" = some none)
    (no_property : PySem.W.nsIn K mainGlobals "property" = some none)
    (no_range : PySem.W.nsIn K mainGlobals "range" = some none)
    (no_sorted : PySem.W.nsIn K mainGlobals "sorted" = some none)
    (no_str : PySem.W.nsIn K mainGlobals "str" = some none)
    : Txt K mg ⟨f_is_integer, f_is_item, f_check_index, f_record_of, f_has_kind, f_are_records, f_is_log, f_check_log, f_sign_of, f_is_fronted, f_check_grown, f_usable, f__law_tape, f__law_next, f__law_items, f__law_made, f__law_facts, f__law_is_closed, f__law_sets, f__law_right, f_law, c_Record, c_Inserted, c_Removed, c_Fronted, c_LogError, m_Record___init__, m_Record_move_to, m_Record_item, p_Record_item, m_Record_slot, p_Record_slot⟩ :=
  {
    mg_is_integer := PySem.W.mg_of X G a_is_integer
    fn_is_integer := g_is_integer
    mg_is_item := PySem.W.mg_of X G a_is_item
    fn_is_item := g_is_item
    mg_check_index := PySem.W.mg_of X G a_check_index
    fn_check_index := g_check_index
    mg_record_of := PySem.W.mg_of X G a_record_of
    fn_record_of := g_record_of
    mg_has_kind := PySem.W.mg_of X G a_has_kind
    fn_has_kind := g_has_kind
    mg_are_records := PySem.W.mg_of X G a_are_records
    fn_are_records := g_are_records
    mg_is_log := PySem.W.mg_of X G a_is_log
    fn_is_log := g_is_log
    mg_check_log := PySem.W.mg_of X G a_check_log
    fn_check_log := g_check_log
    mg_sign_of := PySem.W.mg_of X G a_sign_of
    fn_sign_of := g_sign_of
    mg_is_fronted := PySem.W.mg_of X G a_is_fronted
    fn_is_fronted := g_is_fronted
    mg_check_grown := PySem.W.mg_of X G a_check_grown
    fn_check_grown := g_check_grown
    mg_usable := PySem.W.mg_of X G a_usable
    fn_usable := g_usable
    mg__law_tape := PySem.W.mg_of X G a__law_tape
    fn__law_tape := g__law_tape
    mg__law_next := PySem.W.mg_of X G a__law_next
    fn__law_next := g__law_next
    mg__law_items := PySem.W.mg_of X G a__law_items
    fn__law_items := g__law_items
    mg__law_made := PySem.W.mg_of X G a__law_made
    fn__law_made := g__law_made
    mg__law_facts := PySem.W.mg_of X G a__law_facts
    fn__law_facts := g__law_facts
    mg__law_is_closed := PySem.W.mg_of X G a__law_is_closed
    fn__law_is_closed := g__law_is_closed
    mg__law_sets := PySem.W.mg_of X G a__law_sets
    fn__law_sets := g__law_sets
    mg__law_right := PySem.W.mg_of X G a__law_right
    fn__law_right := g__law_right
    mg_law := PySem.W.mg_of X G a_law
    fn_law := g_law
    mg_Record := PySem.W.mg_of X G a_Record
    mg_Inserted := PySem.W.mg_of X G a_Inserted
    mg_Removed := PySem.W.mg_of X G a_Removed
    mg_Fronted := PySem.W.mg_of X G a_Fronted
    mg_LogError := PySem.W.mg_of X G a_LogError
    mk_Record := ⟨mk_Record, in_Record, fi_Record, kc_Record⟩
    fn_Record___init__ := g_Record___init__
    cl_Record := ⟨pg_Record, hd_Record, po_Record, sa_Record⟩
    na_Record_item := na_Record_item
    na_Record_slot := na_Record_slot
    mk_Inserted := ⟨mk_Inserted, in_Inserted, fi_Inserted, kc_Inserted⟩
    cl_Inserted := ⟨pg_Inserted, hd_Inserted, po_Inserted, sa_Inserted⟩
    na_Inserted_item := na_Inserted_item
    na_Inserted_slot := na_Inserted_slot
    mk_Removed := ⟨mk_Removed, in_Removed, fi_Removed, kc_Removed⟩
    cl_Removed := ⟨pg_Removed, hd_Removed, po_Removed, sa_Removed⟩
    na_Removed_item := na_Removed_item
    na_Removed_slot := na_Removed_slot
    mk_Fronted := ⟨mk_Fronted, in_Fronted, fi_Fronted, kc_Fronted⟩
    cl_Fronted := ⟨pg_Fronted, hd_Fronted, po_Fronted, sa_Fronted⟩
    na_Fronted_item := na_Fronted_item
    na_Fronted_slot := na_Fronted_slot
    me_Record_move_to := ⟨me_Record_move_to, mf_Record_move_to, mq_Record_move_to⟩
    fn_Record_move_to := g_Record_move_to
    me_Inserted_move_to := ⟨me_Inserted_move_to, mf_Inserted_move_to, mq_Inserted_move_to⟩
    me_Removed_move_to := ⟨me_Removed_move_to, mf_Removed_move_to, mq_Removed_move_to⟩
    me_Fronted_move_to := ⟨me_Fronted_move_to, mf_Fronted_move_to, mq_Fronted_move_to⟩
    cv_Record_MOST := cv_Record_MOST
    cv_Record_SIGN := cv_Record_SIGN
    cv_Inserted_SIGN := cv_Inserted_SIGN
    cv_Removed_SIGN := cv_Removed_SIGN
    cv_Fronted_SIGN := cv_Fronted_SIGN
    iv_Record_SIGN := iv_Record_SIGN
    iv_Inserted_SIGN := iv_Inserted_SIGN
    iv_Removed_SIGN := iv_Removed_SIGN
    iv_Fronted_SIGN := iv_Fronted_SIGN
    mg_MOST_LETTERS := let ⟨t, h⟩ := mc_MOST_LETTERS; ⟨t, PySem.W.mg_of X G h⟩
    mg_MOST_IN_LOG := let ⟨t, h⟩ := mc_MOST_IN_LOG; ⟨t, PySem.W.mg_of X G h⟩
    kit_Record_Record := kit_Record_Record
    kit_Inserted_Record := kit_Inserted_Record
    kit_Removed_Record := kit_Removed_Record
    kit_Fronted_Record := kit_Fronted_Record
    kit_Inserted_Inserted := kit_Inserted_Inserted
    kit_Inserted_Removed := kit_Inserted_Removed
    kit_Inserted_Fronted := kit_Inserted_Fronted
    kit_Removed_Inserted := kit_Removed_Inserted
    kit_Removed_Removed := kit_Removed_Removed
    kit_Removed_Fronted := kit_Removed_Fronted
    kit_Fronted_Inserted := kit_Fronted_Inserted
    kit_Fronted_Removed := kit_Fronted_Removed
    kit_Fronted_Fronted := kit_Fronted_Fronted
    pr_Record_item := pr_Record_item
    fn_Record_item := g_Record_item
    pr_Record_slot := pr_Record_slot
    fn_Record_slot := g_Record_slot
    pr_Inserted_item := pr_Inserted_item
    pr_Inserted_slot := pr_Inserted_slot
    pr_Removed_item := pr_Removed_item
    pr_Removed_slot := pr_Removed_slot
    pr_Fronted_item := pr_Fronted_item
    pr_Fronted_slot := pr_Fronted_slot
    ty_Record := ty_Record
    ty_Inserted := ty_Inserted
    ty_Removed := ty_Removed
    ty_Fronted := ty_Fronted
    no_abs := PySem.W.mg_none_of X G no_abs
    no_all := PySem.W.mg_none_of X G no_all
    no_bool := PySem.W.mg_none_of X G no_bool
    no_int := PySem.W.mg_none_of X G no_int
    no_isinstance := PySem.W.mg_none_of X G no_isinstance
    no_len := PySem.W.mg_none_of X G no_len
    no_list := PySem.W.mg_none_of X G no_list
    no_max := PySem.W.mg_none_of X G no_max
    no_min := PySem.W.mg_none_of X G no_min
    no_property := PySem.W.mg_none_of X G no_property
    no_range := PySem.W.mg_none_of X G no_range
    no_sorted := PySem.W.mg_none_of X G no_sorted
    no_str := PySem.W.mg_none_of X G no_str }

end Own

open PySem PySem.W PyProof.Rows in
set_option maxRecDepth 100000 in
set_option maxHeartbeats 0 in
theorem PySem.Challenge.cw_indexlogs_k47_usable_records_by_all_sets_holds : PySem.Challenge.rw_indexlogs_k47_usable_records_by_all_sets.Holds := by
  w_on; o_law; k_head; (case hw => w_witness2)
  k_fill
  refine L2.walkG (l := PySem.Challenge.rw_indexlogs_k47_usable_records_by_all_sets) (n := 63) (k := 10) (sp := Own.spLaw) rfl (by decide) rfl ⟨rfl, by decide, by decide⟩ (fun w h Y => PySem.W.kIn_of Y) ?F fun K H a ns hl hS => ⟨a, ns, rfl, hS, hl, fun _ => rfl⟩
  case F =>
    intro w mg fa h KX G hmg
    refine' Own.done (Own.txt_mk KX G ?a_is_integer ?g_is_integer ?a_is_item ?g_is_item ?a_check_index ?g_check_index ?a_record_of ?g_record_of ?a_has_kind ?g_has_kind ?a_are_records ?g_are_records ?a_is_log ?g_is_log ?a_check_log ?g_check_log ?a_sign_of ?g_sign_of ?a_is_fronted ?g_is_fronted ?a_check_grown ?g_check_grown ?a_usable ?g_usable ?a__law_tape ?g__law_tape ?a__law_next ?g__law_next ?a__law_items ?g__law_items ?a__law_made ?g__law_made ?a__law_facts ?g__law_facts ?a__law_is_closed ?g__law_is_closed ?a__law_sets ?g__law_sets ?a__law_right ?g__law_right ?a_law ?g_law ?a_Record ?a_Inserted ?a_Removed ?a_Fronted ?a_LogError ?mk_Record ?in_Record ?fi_Record ?kc_Record ?g_Record___init__ ?pg_Record ?hd_Record ?po_Record ?sa_Record ?na_Record_item ?na_Record_slot ?mk_Inserted ?in_Inserted ?fi_Inserted ?kc_Inserted ?pg_Inserted ?hd_Inserted ?po_Inserted ?sa_Inserted ?na_Inserted_item ?na_Inserted_slot ?mk_Removed ?in_Removed ?fi_Removed ?kc_Removed ?pg_Removed ?hd_Removed ?po_Removed ?sa_Removed ?na_Removed_item ?na_Removed_slot ?mk_Fronted ?in_Fronted ?fi_Fronted ?kc_Fronted ?pg_Fronted ?hd_Fronted ?po_Fronted ?sa_Fronted ?na_Fronted_item ?na_Fronted_slot ?me_Record_move_to ?mf_Record_move_to ?mq_Record_move_to ?g_Record_move_to ?me_Inserted_move_to ?mf_Inserted_move_to ?mq_Inserted_move_to ?me_Removed_move_to ?mf_Removed_move_to ?mq_Removed_move_to ?me_Fronted_move_to ?mf_Fronted_move_to ?mq_Fronted_move_to ?rd_Fronted ?rd_Removed ?rd_Inserted ?rd_Record ?cv_Record_MOST ?cv_Record_SIGN ?cv_Inserted_SIGN ?cv_Removed_SIGN ?cv_Fronted_SIGN ?iv_Record_SIGN ?iv_Inserted_SIGN ?iv_Removed_SIGN ?iv_Fronted_SIGN ?mc_MOST_LETTERS ?mc_MOST_IN_LOG ?kit_Record_Record ?kit_Inserted_Record ?kit_Removed_Record ?kit_Fronted_Record ?kit_Inserted_Inserted ?kit_Inserted_Removed ?kit_Inserted_Fronted ?kit_Removed_Inserted ?kit_Removed_Removed ?kit_Removed_Fronted ?kit_Fronted_Inserted ?kit_Fronted_Removed ?kit_Fronted_Fronted ?pr_Record_item ?g_Record_item ?pr_Record_slot ?g_Record_slot ?pr_Inserted_item ?pr_Inserted_slot ?pr_Removed_item ?pr_Removed_slot ?pr_Fronted_item ?pr_Fronted_slot ?ty_Record ?ty_Inserted ?ty_Removed ?ty_Fronted ?no_abs ?no_all ?no_bool ?no_int ?no_isinstance ?no_len ?no_list ?no_max ?no_min ?no_property ?no_range ?no_sorted ?no_str) hmg
    (case a_is_integer => k_is)
    (case g_is_integer => (refine' L2.fnT_mk ?l ?c ?k; (case l => k_is); (case c => k_is); (case k => k_is)))
    (case a_is_item => k_is)
    (case g_is_item => (refine' L2.fnT_mk ?l ?c ?k; (case l => k_is); (case c => k_is); (case k => k_is)))
    (case a_check_index => k_is)
    (case g_check_index => (refine' L2.fnT_mk ?l ?c ?k; (case l => k_is); (case c => k_is); (case k => k_is)))
    (case a_record_of => k_is)
    (case g_record_of => (refine' L2.fnT_mk ?l ?c ?k; (case l => k_is); (case c => k_is); (case k => k_is)))
    (case a_has_kind => k_is)
    (case g_has_kind => (refine' L2.fnT_mk ?l ?c ?k; (case l => k_is); (case c => k_is); (case k => k_is)))
    (case a_are_records => k_is)
    (case g_are_records => (refine' L2.fnT_mk ?l ?c ?k; (case l => k_is); (case c => k_is); (case k => k_is)))
    (case a_is_log => k_is)
    (case g_is_log => (refine' L2.fnT_mk ?l ?c ?k; (case l => k_is); (case c => k_is); (case k => k_is)))
    (case a_check_log => k_is)
    (case g_check_log => (refine' L2.fnT_mk ?l ?c ?k; (case l => k_is); (case c => k_is); (case k => k_is)))
    (case a_sign_of => k_is)
    (case g_sign_of => (refine' L2.fnT_mk ?l ?c ?k; (case l => k_is); (case c => k_is); (case k => k_is)))
    (case a_is_fronted => k_is)
    (case g_is_fronted => (refine' L2.fnT_mk ?l ?c ?k; (case l => k_is); (case c => k_is); (case k => k_is)))
    (case a_check_grown => k_is)
    (case g_check_grown => (refine' L2.fnT_mk ?l ?c ?k; (case l => k_is); (case c => k_is); (case k => k_is)))
    (case a_usable => k_is)
    (case g_usable => (refine' L2.fnT_mk ?l ?c ?k; (case l => k_is); (case c => k_is); (case k => k_is)))
    (case a__law_tape => k_is)
    (case g__law_tape => (refine' L2.fnT_mk ?l ?c ?k; (case l => k_is); (case c => k_is); (case k => k_is)))
    (case a__law_next => k_is)
    (case g__law_next => (refine' L2.fnT_mk ?l ?c ?k; (case l => k_is); (case c => k_is); (case k => k_is)))
    (case a__law_items => k_is)
    (case g__law_items => (refine' L2.fnT_mk ?l ?c ?k; (case l => k_is); (case c => k_is); (case k => k_is)))
    (case a__law_made => k_is)
    (case g__law_made => (refine' L2.fnT_mk ?l ?c ?k; (case l => k_is); (case c => k_is); (case k => k_is)))
    (case a__law_facts => k_is)
    (case g__law_facts => (refine' L2.fnT_mk ?l ?c ?k; (case l => k_is); (case c => k_is); (case k => k_is)))
    (case a__law_is_closed => k_is)
    (case g__law_is_closed => (refine' L2.fnT_mk ?l ?c ?k; (case l => k_is); (case c => k_is); (case k => k_is)))
    (case a__law_sets => k_is)
    (case g__law_sets => (refine' L2.fnT_mk ?l ?c ?k; (case l => k_is); (case c => k_is); (case k => k_is)))
    (case a__law_right => k_is)
    (case g__law_right => (refine' L2.fnT_mk ?l ?c ?k; (case l => k_is); (case c => k_is); (case k => k_is)))
    (case a_law => k_is)
    (case g_law => (refine' L2.fnT_mk ?l ?c ?k; (case l => k_is); (case c => k_is); (case k => k_is)))
    (case a_Record => k_is)
    (case a_Inserted => k_is)
    (case a_Removed => k_is)
    (case a_Fronted => k_is)
    (case a_LogError => k_is)
    (case mk_Record => k_is)
    (case in_Record => k_is)
    (case fi_Record => k_is)
    (case kc_Record => k_is)
    (case g_Record___init__ => (refine' L2.fnT_mk ?l ?c ?k; (case l => k_is); (case c => k_is); (case k => k_is)))
    (case pg_Record => k_is)
    (case hd_Record => k_is)
    (case po_Record => k_is)
    (case sa_Record => k_is)
    (case na_Record_item => k_is)
    (case na_Record_slot => k_is)
    (case mk_Inserted => k_is)
    (case in_Inserted => k_is)
    (case fi_Inserted => k_is)
    (case kc_Inserted => k_is)
    (case pg_Inserted => k_is)
    (case hd_Inserted => k_is)
    (case po_Inserted => k_is)
    (case sa_Inserted => k_is)
    (case na_Inserted_item => k_is)
    (case na_Inserted_slot => k_is)
    (case mk_Removed => k_is)
    (case in_Removed => k_is)
    (case fi_Removed => k_is)
    (case kc_Removed => k_is)
    (case pg_Removed => k_is)
    (case hd_Removed => k_is)
    (case po_Removed => k_is)
    (case sa_Removed => k_is)
    (case na_Removed_item => k_is)
    (case na_Removed_slot => k_is)
    (case mk_Fronted => k_is)
    (case in_Fronted => k_is)
    (case fi_Fronted => k_is)
    (case kc_Fronted => k_is)
    (case pg_Fronted => k_is)
    (case hd_Fronted => k_is)
    (case po_Fronted => k_is)
    (case sa_Fronted => k_is)
    (case na_Fronted_item => k_is)
    (case na_Fronted_slot => k_is)
    (case me_Record_move_to => k_is)
    (case mf_Record_move_to => k_is)
    (case mq_Record_move_to => k_is)
    (case g_Record_move_to => (refine' L2.fnT_mk ?l ?c ?k; (case l => k_is); (case c => k_is); (case k => k_is)))
    (case me_Inserted_move_to => k_is)
    (case mf_Inserted_move_to => k_is)
    (case mq_Inserted_move_to => k_is)
    (case me_Removed_move_to => k_is)
    (case mf_Removed_move_to => k_is)
    (case mq_Removed_move_to => k_is)
    (case me_Fronted_move_to => k_is)
    (case mf_Fronted_move_to => k_is)
    (case mq_Fronted_move_to => k_is)
    (case rd_Fronted => (refine' ⟨.type "type", ⟨?r, ?s⟩⟩; (case r => k_is); (case s => k_is)))
    (case rd_Removed => (refine' ⟨.type "type", ⟨?r, ?s⟩⟩; (case r => k_is); (case s => k_is)))
    (case rd_Inserted => (refine' ⟨.type "type", ⟨?r, ?s⟩⟩; (case r => k_is); (case s => k_is)))
    (case rd_Record => (refine' ⟨.type "type", ⟨?r, ?s⟩⟩; (case r => k_is); (case s => k_is)))
    (case cv_Record_MOST => (refine' ⟨.type "type", _, ⟨?r, ?s⟩, ⟨?t, ?v⟩⟩; (case r => k_is); (case s => k_is); (case t => k_is); (case v => first | rfl | exact ⟨_, rfl⟩)))
    (case cv_Record_SIGN => (refine' ⟨.type "type", _, ⟨?r, ?s⟩, ⟨?t, ?v⟩⟩; (case r => k_is); (case s => k_is); (case t => k_is); (case v => first | rfl | exact ⟨_, rfl⟩)))
    (case cv_Inserted_SIGN => (refine' ⟨.type "type", _, ⟨?r, ?s⟩, ⟨?t, ?v⟩⟩; (case r => k_is); (case s => k_is); (case t => k_is); (case v => first | rfl | exact ⟨_, rfl⟩)))
    (case cv_Removed_SIGN => (refine' ⟨.type "type", _, ⟨?r, ?s⟩, ⟨?t, ?v⟩⟩; (case r => k_is); (case s => k_is); (case t => k_is); (case v => first | rfl | exact ⟨_, rfl⟩)))
    (case cv_Fronted_SIGN => (refine' ⟨.type "type", _, ⟨?r, ?s⟩, ⟨?t, ?v⟩⟩; (case r => k_is); (case s => k_is); (case t => k_is); (case v => first | rfl | exact ⟨_, rfl⟩)))
    (case iv_Record_SIGN => (refine' ⟨_, ⟨?t, ?v, ?g, ?w⟩⟩; (case t => k_is); (case v => first | rfl | exact ⟨_, rfl⟩); (case g => first | k_is | rfl | decide +kernel); (case w => first | rfl | decide +kernel)))
    (case iv_Inserted_SIGN => (refine' ⟨_, ⟨?t, ?v, ?g, ?w⟩⟩; (case t => k_is); (case v => first | rfl | exact ⟨_, rfl⟩); (case g => first | k_is | rfl | decide +kernel); (case w => first | rfl | decide +kernel)))
    (case iv_Removed_SIGN => (refine' ⟨_, ⟨?t, ?v, ?g, ?w⟩⟩; (case t => k_is); (case v => first | rfl | exact ⟨_, rfl⟩); (case g => first | k_is | rfl | decide +kernel); (case w => first | rfl | decide +kernel)))
    (case iv_Fronted_SIGN => (refine' ⟨_, ⟨?t, ?v, ?g, ?w⟩⟩; (case t => k_is); (case v => first | rfl | exact ⟨_, rfl⟩); (case g => first | k_is | rfl | decide +kernel); (case w => first | rfl | decide +kernel)))
    (case mc_MOST_LETTERS => (refine' L2.gconst_mk ?t ?r; (case t => k_is); (case r => exact ⟨_, rfl⟩)))
    (case mc_MOST_IN_LOG => (refine' L2.gconst_mk ?t ?r; (case t => k_is); (case r => exact ⟨_, rfl⟩)))
    (case kit_Record_Record => (refine' L2.kit_ref ?a ?b ?c ?d; (case a => k_is); (case b => k_is); (case c => k_is); (case d => first | exact fun _ => rfl | exact fun z => absurd (Value.ref.inj z) (by decide) | exact fun z => by cases z)))
    (case kit_Inserted_Record => (refine' L2.kit_ref ?a ?b ?c ?d; (case a => k_is); (case b => k_is); (case c => k_is); (case d => first | exact fun _ => rfl | exact fun z => absurd (Value.ref.inj z) (by decide) | exact fun z => by cases z)))
    (case kit_Removed_Record => (refine' L2.kit_ref ?a ?b ?c ?d; (case a => k_is); (case b => k_is); (case c => k_is); (case d => first | exact fun _ => rfl | exact fun z => absurd (Value.ref.inj z) (by decide) | exact fun z => by cases z)))
    (case kit_Fronted_Record => (refine' L2.kit_ref ?a ?b ?c ?d; (case a => k_is); (case b => k_is); (case c => k_is); (case d => first | exact fun _ => rfl | exact fun z => absurd (Value.ref.inj z) (by decide) | exact fun z => by cases z)))
    (case kit_Inserted_Inserted => (refine' L2.kit_ref ?a ?b ?c ?d; (case a => k_is); (case b => k_is); (case c => k_is); (case d => first | exact fun _ => rfl | exact fun z => absurd (Value.ref.inj z) (by decide) | exact fun z => by cases z)))
    (case kit_Inserted_Removed => (refine' L2.kit_ref ?a ?b ?c ?d; (case a => k_is); (case b => k_is); (case c => k_is); (case d => first | exact fun _ => rfl | exact fun z => absurd (Value.ref.inj z) (by decide) | exact fun z => by cases z)))
    (case kit_Inserted_Fronted => (refine' L2.kit_ref ?a ?b ?c ?d; (case a => k_is); (case b => k_is); (case c => k_is); (case d => first | exact fun _ => rfl | exact fun z => absurd (Value.ref.inj z) (by decide) | exact fun z => by cases z)))
    (case kit_Removed_Inserted => (refine' L2.kit_ref ?a ?b ?c ?d; (case a => k_is); (case b => k_is); (case c => k_is); (case d => first | exact fun _ => rfl | exact fun z => absurd (Value.ref.inj z) (by decide) | exact fun z => by cases z)))
    (case kit_Removed_Removed => (refine' L2.kit_ref ?a ?b ?c ?d; (case a => k_is); (case b => k_is); (case c => k_is); (case d => first | exact fun _ => rfl | exact fun z => absurd (Value.ref.inj z) (by decide) | exact fun z => by cases z)))
    (case kit_Removed_Fronted => (refine' L2.kit_ref ?a ?b ?c ?d; (case a => k_is); (case b => k_is); (case c => k_is); (case d => first | exact fun _ => rfl | exact fun z => absurd (Value.ref.inj z) (by decide) | exact fun z => by cases z)))
    (case kit_Fronted_Inserted => (refine' L2.kit_ref ?a ?b ?c ?d; (case a => k_is); (case b => k_is); (case c => k_is); (case d => first | exact fun _ => rfl | exact fun z => absurd (Value.ref.inj z) (by decide) | exact fun z => by cases z)))
    (case kit_Fronted_Removed => (refine' L2.kit_ref ?a ?b ?c ?d; (case a => k_is); (case b => k_is); (case c => k_is); (case d => first | exact fun _ => rfl | exact fun z => absurd (Value.ref.inj z) (by decide) | exact fun z => by cases z)))
    (case kit_Fronted_Fronted => (refine' L2.kit_ref ?a ?b ?c ?d; (case a => k_is); (case b => k_is); (case c => k_is); (case d => first | exact fun _ => rfl | exact fun z => absurd (Value.ref.inj z) (by decide) | exact fun z => by cases z)))
    (case pr_Record_item => (refine' L2.propOf_mk ?pa ?pb ?pc ?pd; (case pa => k_is); (case pb => k_is); (case pc => k_is); (case pd => k_is)))
    (case g_Record_item => (refine' L2.fnT_mk ?l ?c ?k; (case l => k_is); (case c => k_is); (case k => k_is)))
    (case pr_Record_slot => (refine' L2.propOf_mk ?pa ?pb ?pc ?pd; (case pa => k_is); (case pb => k_is); (case pc => k_is); (case pd => k_is)))
    (case g_Record_slot => (refine' L2.fnT_mk ?l ?c ?k; (case l => k_is); (case c => k_is); (case k => k_is)))
    (case pr_Inserted_item => (refine' L2.propOf_mk ?pa ?pb ?pc ?pd; (case pa => k_is); (case pb => k_is); (case pc => k_is); (case pd => k_is)))
    (case pr_Inserted_slot => (refine' L2.propOf_mk ?pa ?pb ?pc ?pd; (case pa => k_is); (case pb => k_is); (case pc => k_is); (case pd => k_is)))
    (case pr_Removed_item => (refine' L2.propOf_mk ?pa ?pb ?pc ?pd; (case pa => k_is); (case pb => k_is); (case pc => k_is); (case pd => k_is)))
    (case pr_Removed_slot => (refine' L2.propOf_mk ?pa ?pb ?pc ?pd; (case pa => k_is); (case pb => k_is); (case pc => k_is); (case pd => k_is)))
    (case pr_Fronted_item => (refine' L2.propOf_mk ?pa ?pb ?pc ?pd; (case pa => k_is); (case pb => k_is); (case pc => k_is); (case pd => k_is)))
    (case pr_Fronted_slot => (refine' L2.propOf_mk ?pa ?pb ?pc ?pd; (case pa => k_is); (case pb => k_is); (case pc => k_is); (case pd => k_is)))
    (case ty_Record => (refine' ⟨?a, ?b, ?c, ?d⟩; (case a => k_is); (case b => k_is); (case c => k_is); (case d => k_is)))
    (case ty_Inserted => (refine' ⟨?a, ?b, ?c, ?d⟩; (case a => k_is); (case b => k_is); (case c => k_is); (case d => k_is)))
    (case ty_Removed => (refine' ⟨?a, ?b, ?c, ?d⟩; (case a => k_is); (case b => k_is); (case c => k_is); (case d => k_is)))
    (case ty_Fronted => (refine' ⟨?a, ?b, ?c, ?d⟩; (case a => k_is); (case b => k_is); (case c => k_is); (case d => k_is)))
    (case no_abs => k_is)
    (case no_all => k_is)
    (case no_bool => k_is)
    (case no_int => k_is)
    (case no_isinstance => k_is)
    (case no_len => k_is)
    (case no_list => k_is)
    (case no_max => k_is)
    (case no_min => k_is)
    (case no_property => k_is)
    (case no_range => k_is)
    (case no_sorted => k_is)
    (case no_str => k_is)
